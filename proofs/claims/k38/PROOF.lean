import PyProof.Rows.All
import Wide.All
import OpenK.AllK
import Wide.FinOn
import Lean
import PyProof.EqAt
import PyProof.EqKinds
import PyProof.TupleCall
import PyProof.ZipIter
import PyProof.LongRange
import PyProof.StrBlockL
import PyProof.StrCalls6
import PyProof.SliceStr
import PyProof.StrWalks
import PyProof.StrLawsIn
import PyProof.StrOps2
import PyProof.DelItemList
import PyProof.ListOps
import PyProof.FitsReplace
import PyProof.DictTable
import PyProof.DictKinds
import PyProof.DictStraight
import PySem.Challenge.RW_ullage_k38_trees_changed_between
set_option Elab.async false
set_option linter.all false
set_option bootstrap.genMatcherCode false
set_option compiler.extract_closed false
set_option maxRecDepth 100000
open List renaming mem_cons_of_mem->aaa,length_map->aab,mem_cons_self->aac,mem_of_getElem?->aae,getElem?_eq_getElem->aah,mem_append->aai,replicate->aaj,mem_append_right->aak,mem_cons->aal,getElem?_map->aam,getElem?_set_ne->aan,getElem?_eq_some_iff->aap,size_toArray->aaq,map_append->aat,range->aav,mem_append_left->aaw,map_cons->aay,all_eq_true->aaA,length_set->aaB,length_append->aaC,mem_map->aaD,map_map->aaE,getElem?_append_right->aaG,getD_eq_getElem?_getD->aaK,append_nil->aaL,nodup_cons->aaM,mem_singleton->aaN,all_cons->aaO,length_cons->aaP,mem_filterMap->aaQ,map_congr_left->aaT,getElem?_cons_succ->aaV,getElem?_append_left->aaW,nil_append->aaX,length_range->aaY,getElem?_replicate->aaZ,eq_nil_iff_forall_not_mem->aa1,append_assoc->aa2,cons_append->aa7,getElem?_set_self->aa9,mem_or_eq_of_mem_set->aba,length_replicate->abd,getElem?_cons_zero->abh,map_nil->abi,find?_cons_of_pos->abj,find?_cons_of_neg->abk,mem_reverse->abm,map_replicate->abn,mem_replicate->abo,mem_of_find?_eq_some->abp,length->abq,getElem?_of_mem->abt,getElem?_set_self'->abv,filterMap_cons->abw,replicate_succ->abx,mem_filter->abB,length_singleton->abC,getElem?_eq_none->abD,drop_eq_getElem_cons->abE,length_take->abF,map->abH,getElem_of_mem->abJ,range_succ_eq_map->abM,eq_nil_of_length_eq_zero->abN,flatten_cons->abO,max?_eq_some_iff->abQ,map_set->abR,not_mem_nil->abU,length_reverse->abW,range_succ->abY,find?_eq_none->ab1,reverse_cons->ab4,ext_getElem?->ab5,filter_cons->aca,foldl_cons->ace,getElem?_range->acn,exists_cons_of_ne_nil->act,length_drop->acx,map_reverse->acy,getElem_mem->acz,set->acA,isEmpty_nil->acC,of_mem_zip->acD,getElem?_reverse->acK,getElem_toArray->acN,mem_of_mem_drop->acO,mem_of_mem_take->acP,reverse_reverse->acQ,any_cons->acU,map_take->acV,map_drop->acW,getElem?_take->ac3,getElem?_drop->ac4,nodup_append->ac5,filter_congr->ac6,range'->ac8,foldl->ada
open Nat renaming le_refl->aag,le_trans->aao,zero_le->aar,lt_of_lt_of_le->aas,le_of_lt->aax,ne_of_lt->aaF,le_of_lt_succ->aaH,lt_of_le_of_lt->aaI,zero_add->aaJ,sub_eq_zero_of_le->aaS,lt_irrefl->aaU,lt_or_ge->aa4,succ_le_succ->abg,le_of_not_lt->abl,le_of_eq->abr,min_le_left->abu,pow_pos->aby,ne_of_gt->abz,min_le_right->abG,pow_succ->abI,mul_comm->abP,min_eq_right->abV,pow_zero->ab0,not_lt->ab3,le_succ->ab7,le_of_succ_le_succ->ab8,lt_succ_self->ab9,le_add_right->acd,succ_mul->acf,le_antisymm->acg,pow_le_pow_right->aci,div_add_mod->acj,add_le_add_right->ack,eq_zero_or_pos->aco,lt_of_le_of_ne->acp,lt_or_eq_of_le->acq,lt_succ_of_lt->acu,le_succ_of_le->acv,add_zero->acB,not_lt_zero->acF,min_eq_left->acG,log2_lt->acH,div_div_eq_div_mul->acI,le_div_iff_mul_le->acM,not_le->acR,sub_le_sub_right->acS,div_eq_of_lt_le->acX,pow_le_pow_left->acY,div_mul_le_self->acZ,add_sub_cancel'->ac0,add_comm->ac1,mul_one->ac7
open Option renaming map_eq_some_iff->aau,isSome_iff_exists->aaz,map_some->aa5,bind_some->abe,isNone_iff_eq_none->abX,getD_none->ac9
open Bool renaming and_eq_true->aaf,false_ne_true->aa0,false_eq_true->aa6,true_eq_false->abA,not_true->abK,not_false->abS,eq_iff_iff->abZ,not_eq_true'->ab6,or_eq_true_iff->acm,true_and->acr,or_false->acs,false_and->acJ,and_false->acL,and_self->acT
open Int renaming natCast_nonneg->aaR,toNat_natCast->aa3,not_le->aa8,emod_nonneg->abb,natCast_mul->abc,ofNat_le->abf,emod_lt_of_pos->abL,zero_add->abT,add_nonneg->ab2,natCast_ediv->acb,sub_zero->ach,toNat_of_nonneg->acl,not_lt->acw,ediv_nonneg->acE,cast_ofNat_Int->ac2
theorem nF {P:Prop} (h:false=true):P:=Bool.noConfusion h
theorem nE {P:Prop} (h:False):P:=h.elim
theorem bS {α β:Type _} {o:Option α} {f:α->Option β} {b:β} (h:o.bind f=some b):∃ a,o=some a/\f a=some b:=Option.bind_eq_some_iff.mp h
section
namespace L2
open PySem PySem.Spec PyProof.Rows
noncomputable abbrev Key:=Sum Int Str
noncomputable def QO:Key->Value->Bool
 | .inl k,v=>Value.isInt k v
 | .inr x,v=>Value.isStrOf x v
noncomputable def V0 (w:World):Key->Int
 | .inl k=>hashInt k
 | .inr x=>hashStr w x
theorem Bd:∀ {k:Key} {v:Value},QO k v=true->(∃ i t,k=Sum.inl i/\v=Value.int i t)\/(∃ x t,k=Sum.inr x/\v=Value.str x t)
 | .inl i,v,h=>by
  obtain ⟨t,e⟩:=Value.isInt_shape (k:=i) (v:=v) h
  exact .inl ⟨i,t,rfl,e⟩
 | .inr x,v,h=>by
  obtain ⟨t,e⟩:=Value.isStrOf_shape (x:=x) (v:=v) h
  exact .inr ⟨x,t,rfl,e⟩
theorem Tl (a b:Int):decide ((Sum.inl a:Key)=Sum.inl b)=(a==b):=by
 by_cases e:a=b
 ·subst e; simp
 ·have h:¬ (Sum.inl a:Key)=Sum.inl b:=fun q=>e (Sum.inl.inj q)
  rw [decide_eq_false h]
  exact (beq_eq_false_iff_ne.mpr e).symm
theorem Tm (a b:Str):decide ((Sum.inr a:Key)=Sum.inr b)=decide (a=b):=by
 by_cases e:a=b
 ·subst e; simp
 ·have h:¬ (Sum.inr a:Key)=Sum.inr b:=fun q=>e (Sum.inr.inj q)
  rw [decide_eq_false h,decide_eq_false e]
theorem Tn (a:Int) (b:Str):decide ((Sum.inl a:Key)=Sum.inr b)=false:=decide_eq_false (fun q=>nomatch q)
theorem To (a:Str) (b:Int):decide ((Sum.inr a:Key)=Sum.inl b)=false:=decide_eq_false (fun q=>nomatch q)
noncomputable def IG (prog:Program) (w:World):PySem.KeyKind prog w Key where
 is:=QO
 hash:=V0 w
 inj:=fun v a b ha hb=>by
  rcases Bd ha with ⟨i,t,rfl,rfl⟩ | ⟨x,t,rfl,rfl⟩
  ·rcases Bd hb with ⟨j,u,rfl,e⟩ | ⟨y,u,rfl,e⟩
   ·injection e with e1 _; rw [e1]
   ·exact nomatch e
  ·rcases Bd hb with ⟨j,u,rfl,e⟩ | ⟨y,u,rfl,e⟩
   ·exact nomatch e
   ·injection e with e1 _; rw [e1]
 byValue:=fun k v h=>by
  rcases Bd h with ⟨i,t,rfl,rfl⟩ | ⟨x,t,rfl,rfl⟩ <;> rfl
 pyHash:=fun hv h=>by
  rcases Bd hv with ⟨i,t,rfl,rfl⟩ | ⟨x,t,rfl,rfl⟩
  ·exact wpAny_pyHash_int h
  ·exact wpAny_pyHash_str h
 eqBool:=fun hu hv h=>by
  rcases Bd hu with ⟨i,t,rfl,rfl⟩ | ⟨x,t,rfl,rfl⟩
  ·rcases Bd hv with ⟨j,u,rfl,rfl⟩ | ⟨y,u,rfl,rfl⟩
   ·rw [Tl] at h; exact wpAny_eqBool_int h
   ·rw [Tn] at h; exact SeqAt.EqAt.int_str i t y u _ _ _ _ h
  ·rcases Bd hv with ⟨j,u,rfl,rfl⟩ | ⟨y,u,rfl,rfl⟩
   ·rw [To] at h; exact SeqAt.EqAt.str_int x t j u _ _ _ _ h
   ·rw [Tm] at h; exact wpAny_eqBool_str h
 «strs»:=fun k x t v h=>by
  rcases Bd h with ⟨i,u,rfl,e⟩ | ⟨y,u,rfl,e⟩
  ·exact nomatch e
  ·injection e with e1 _
   subst e1
   cases v <;> rfl
end L2
namespace L2
open PySem PySem.Spec PyProof.Rows
inductive V where
 | non | bl (b:Bool) | int (i:Int) | str (x:Str) | byt (b:Array UInt8) | flt (b:UInt64) | ref (a:Addr) | ty (n:String)
 deriving DecidableEq
noncomputable def RelV:V->Value->Prop
 | .non,u=>u=Value.none
 | .bl b,u=>u=Value.bool b
 | .int i,u=>∃ t,u=Value.int i t
 | .str x,u=>∃ t,u=Value.str x t
 | .byt b,u=>∃ t,u=Value.bytes b t
 | .flt b,u=>∃ t,u=Value.float b t
 | .ref a,u=>u=Value.ref a
 | .ty n,u=>u=Value.type n
noncomputable abbrev Vals:List V->List Value->Prop:=Paired RelV
theorem Vals.length {xs:List V} {us:List Value} (r:Vals xs us):xs.length=us.length:=Paired.length r
theorem Vals.get:∀ {xs:List V} {us:List Value} {i:Nat} {x:V},Vals xs us->xs[i]?=some x->∃ u,us[i]?=some u/\RelV x u
 | _,_,_,_,.nil,e=>by simp at e
 | _,_,0,_,.cons r _,e=>by simp at e; subst e; exact ⟨_,rfl,r⟩
 | _,_,i + 1,x,.cons _ t,e=>by
  obtain ⟨u,h1,h2⟩:=Vals.get (i:=i) (x:=x) t (by simpa using e)
  exact ⟨u,by simpa using h1,h2⟩
theorem Vals.set {x:V} {u:Value} (r:RelV x u):∀ {xs:List V} {us:List Value} (i:Nat),Vals xs us->Vals (xs.set i x) (us.set i u)
 | _,_,_,.nil=>.nil
 | _,_,0,.cons _ t=>.cons r t
 | _,_,i + 1,.cons q t=>.cons q (Vals.set r i t)
theorem Vals.append:∀ {xs ys:List V} {us ws:List Value},Vals xs us->Vals ys ws->Vals (xs ++ ys) (us ++ ws)
 | _,_,_,_,.nil,s=>s
 | _,_,_,_,.cons r t,s=>.cons r (Vals.append t s)
theorem Vals.take:∀ {xs:List V} {us:List Value} (n:Nat),Vals xs us->Vals (xs.take n) (us.take n)
 | _,_,0,_=>.nil
 | _,_,_ + 1,.nil=>.nil
 | _,_,n + 1,.cons r t=>.cons r (Vals.take n t)
theorem Vals.drop:∀ {xs:List V} {us:List Value} (n:Nat),Vals xs us->Vals (xs.drop n) (us.drop n)
 | _,_,0,r=>r
 | _,_,_ + 1,.nil=>.nil
 | _,_,n + 1,.cons _ t=>Vals.drop n t
noncomputable def O9:Option V->Option Value->Prop
 | some v,some u=>RelV v u
 | none,none=>True
 | _,_=>False
noncomputable def KV {κ:Type}:List (κ × V)->List (κ × Value)->Prop:=Paired fun (p:κ × V) (q:κ × Value)=>p.1=q.1/\RelV p.2 q.2
noncomputable def kV:Key->V
 | .inl i=>.int i
 | .inr x=>.str x
inductive HO where
  | lst (xs:List V)
  | tup (xs:List V)
  | dK (kvs:List (Key × V)) | dT (kvs:List (List Key × V))
  | set (S:Int->Bool) (n:Nat)
  | ins (C dx:Addr) (fs:List (Str × V))
  | own (x:Addr)
  | xd (fs:List (Str × V))
  | met (f x:Addr)
  | rng (lo hi:Int)
  | frz (o:Obj) (u:HO)
  | tbl (ps:Array Value)
  | ext (φ:Heap->Prop)
noncomputable abbrev Hp:=Addr->Option HO
noncomputable def upd (H:Hp) (a:Addr) (o:HO):Hp:=fun b=>if b=a then some o else H b
theorem A9 {H:Hp} {a:Addr} {o:HO}:upd H a o a=some o:=by unfold upd; rw [if_pos rfl]
theorem Ar {H:Hp} {a b:Addr} {o:HO} (h:b ≠ a):upd H a o b=H b:=by unfold upd; rw [if_neg h]
theorem AV {H:Hp} {a b:Addr} {o:HO} (h:H a=some o) (h':H b=none):a ≠ b:=by
 intro e; subst e; rw [h] at h'; cases h'
section
variable (P:Program) (w:World)
noncomputable def ObjOk (H:Hp) (h:Heap) (a:Addr):HO->Prop
 | .lst xs=>xs.length<=sizeLine/\∃ (its:List Value) (n:Nat),Vals xs its/\h.get? a=some { cls:=.type "list",data:=.seq its.toArray n }
 | .tup xs=>xs.length<=sizeLine/\∃ its:List Value,Vals xs its/\IsTup h a its.toArray
 | .dK kvs=>kvs.length<=sizeLine/\(a==sysModules)=false/\∃ vs,KV kvs vs/\h.DictOf (IG P w) a vs
 | .dT kvs=>kvs.length<=sizeLine/\(a==sysModules)=false/\∃ xs:List (List Key × Addr × Value),
   Paired (fun (p:List Key × V) (q:List Key × Addr × Value)=>p.1=q.1/\H q.2.1=some (.tup (p.1.map kV))/\RelV p.2 q.2.2) kvs xs /\
   ∃ o es ep,h.get? a=some o/\o.ExactDict/\o.data=.dict es ep/\es.toList=xs.map (entryOfKey (tupleKind (IG P w)))/\(xs.map (·.1)).Nodup
 | .set S n=>h.SetOf (intKind P w) a S n
 | .ins C dx fs=>H dx=some (.own a)/\fs.length<=1000/\dx ≠ a/\h.get? a=some (PySem.W.instObj C dx) /\
   ∃ mA,h.Ns1 dx mA/\(∀ f,O9 (fs.lookup f) (mA f))/\PySem.Within mA (fs.map (·.1))
 | .own _=>∃ o,h.get? a=some o
 | .xd fs=>∃ mA,h.Ns1 a mA/\∀ f,O9 (fs.lookup f) (mA f)
 | .rng lo hi=>∃ t u v,h.get? a=some { cls:=.type "range",data:=.fields #[.int lo t,.int hi u,.int 1 v] }
 | .frz o u=>h.get? a=some o/\ObjOk H h a u
 | .tbl ps=>h.get? a=some { cls:=.none,data:=.fields ps }
 | .met f x=>h.get? a=some (PySem.W.methodObj (.ref f) (.ref x))
 | .ext φ=>φ h/\(∃ o,h.get? a=some o)/\∀ h1 h2:Heap,φ h1->(∀ o,h1.get? a=some o->h2.get? a=some o)->φ h2
noncomputable def HOk (H:Hp) (h:Heap):Prop:=∀ a o,H a=some o->ObjOk P w H h a o
end
section
variable {P:Program} {w:World} {H H':Hp} {h h':Heap} {a:Addr} {o:HO}
theorem ObjOk.lt (x:ObjOk P w H h a o):a < h.objs.size:=by
 cases o with
 | lst xs=>obtain ⟨_,_,_,_,e⟩:=x; exact Heap.lt_size e
 | tup xs=>obtain ⟨_,_,_,p⟩:=x; exact p.lt
 | dK kvs=>obtain ⟨_,_,_,_,o,_,_,e,_⟩:=x; exact Heap.lt_size e
 | dT kvs=>obtain ⟨_,_,_,_,o,_,_,e,_⟩:=x; exact Heap.lt_size e
 | set S n=>obtain ⟨o,_,_,_,e,_⟩:=x; exact Heap.lt_size e
 | ins C dx fs=>obtain ⟨_,_,_,e,_⟩:=x; exact Heap.lt_size e
 | own y=>obtain ⟨_,e⟩:=x; exact Heap.lt_size e
 | xd fs=>obtain ⟨_,⟨_,_,_,e,_⟩,_⟩:=x; exact Heap.lt_size e
 | rng lo hi=>obtain ⟨_,_,_,e⟩:=x; exact Heap.lt_size e
 | frz ob u=>obtain ⟨e,_⟩:=x; exact Heap.lt_size e
 | tbl ps=>exact Heap.lt_size (show h.get? a=some _ from x)
 | met f y=>exact Heap.lt_size (show h.get? a=some _ from x)
 | ext φ=>obtain ⟨_,⟨_,e⟩,_⟩:=x; exact Heap.lt_size e
theorem Paired.mapP {α β:Type} {F G:α->β->Prop}:∀ {l₁:List α} {l₂:List β},Paired F l₁ l₂->(∀ a b,F a b->G a b)->Paired G l₁ l₂
 | _,_,.nil,_=>.nil
 | _,_,.cons r t,f=>.cons (f _ _ r) (Paired.mapP t f)
theorem ObjOk.stay (x:ObjOk P w H h a o) (k:∀ b u,(b=a\/H b=some (.own a))->h.get? b=some u->h'.get? b=some u)
  (ho:∀ b,H b=some (.own a)->H' b=some (.own a)) (ht:∀ b xs,H b=some (.tup xs)->H' b=some (.tup xs)):ObjOk P w H' h' a o:=by
 induction o with
 | lst xs=>obtain ⟨z,its,n,r,e⟩:=x; exact ⟨z,its,n,r,k _ _ (.inl rfl) e⟩
 | tup xs=>obtain ⟨z,its,r,ob,e,c⟩:=x; exact ⟨z,its,r,ob,k _ _ (.inl rfl) e,c⟩
 | dK kvs=>obtain ⟨z,y,vs,r,ob,es,ep,e,c⟩:=x; exact ⟨z,y,vs,r,ob,es,ep,k _ _ (.inl rfl) e,c⟩
 | dT kvs =>
  obtain ⟨z,y,xs,r,ob,es,ep,e,c⟩:=x
  exact ⟨z,y,xs,Paired.mapP r fun p q z=>⟨z.1,ht _ _ z.2.1,z.2.2⟩,ob,es,ep,k _ _ (.inl rfl) e,c⟩
 | set S n=>obtain ⟨ob,es,ep,t,e,c⟩:=x; exact ⟨ob,es,ep,t,k _ _ (.inl rfl) e,c⟩
 | ins C dx fs =>
  obtain ⟨d,z,ne,e,mA,⟨od,es,ep,e2,c⟩,r⟩:=x
  exact ⟨ho _ d,z,ne,k _ _ (.inl rfl) e,mA,⟨od,es,ep,k _ _ (.inr d) e2,c⟩,r⟩
 | own y=>obtain ⟨ob,e⟩:=x; exact ⟨ob,k _ _ (.inl rfl) e⟩
 | xd fs=>obtain ⟨mA,⟨od,es,ep,e,c⟩,r⟩:=x; exact ⟨mA,⟨od,es,ep,k _ _ (.inl rfl) e,c⟩,r⟩
 | rng lo hi=>obtain ⟨t,u,v,e⟩:=x; exact ⟨t,u,v,k _ _ (.inl rfl) e⟩
 | frz ob u ih=>obtain ⟨e,q⟩:=x; exact ⟨k _ _ (.inl rfl) e,ih q⟩
 | tbl ps =>
  have e:h.get? a=some { cls:=.none,data:=.fields ps }:=x
  show h'.get? a=some { cls:=.none,data:=.fields ps }
  exact k a _ (.inl rfl) e
 | met f y =>
  have e:h.get? a=some (PySem.W.methodObj (.ref f) (.ref y)):=x
  show h'.get? a=some (PySem.W.methodObj (.ref f) (.ref y))
  exact k a _ (.inl rfl) e
 | ext φ=>obtain ⟨p,⟨o,e⟩,st⟩:=x; exact ⟨st _ _ p fun o q=>k _ _ (.inl rfl) q,⟨o,k _ _ (.inl rfl) e⟩,st⟩
theorem HOk.lt (x:HOk P w H h) (e:H a=some o):a < h.objs.size:=(x a o e).lt
theorem HOk.fresh (x:HOk P w H h) (e:h.objs.size<=a):H a=none:=by
 cases q:H a with
 | none=>rfl
 | some u=>exact absurd (aas (x.lt q) e) (aaU _)
theorem HOk.kept (x:HOk P w H h) (k:∀ b u,h.get? b=some u->h'.get? b=some u):HOk P w H h':=fun a o e =>
 (x a o e).stay (fun b u _ q=>k b u q) (fun _ q=>q) fun _ _ q=>q
theorem HOk.laid (x:HOk P w H h) (k:∀ b u,h.get? b=some u->h'.get? b=some u) (hp:h.objs.size<=a) (new:ObjOk P w (upd H a o) h' a o):HOk P w (upd H a o) h':=fun b u e=>by
 have hn:=x.fresh hp
 by_cases hb:b=a
 ·subst hb; rw [A9] at e; cases e; exact new
 ·rw [Ar hb] at e
  exact (x b u e).stay (fun c v _ q=>k c v q) (fun c q=>by rw [Ar (AV q hn)]; exact q) fun c xs q=>by rw [Ar (AV q hn)]; exact q
end
noncomputable def Rd (H:Hp) (a:Addr) (u:HO):Prop:=H a=some u\/∃ o,H a=some (.frz o u)
theorem Rd.ok {P:Program} {w:World} {H:Hp} {h:Heap} {a:Addr} {u:HO} (r:Rd H a u) (x:HOk P w H h):ObjOk P w H h a u:=by
 rcases r with r | ⟨o,r⟩
 ·exact x a u r
 ·obtain ⟨_,q⟩:=x a _ r
  exact q
noncomputable def Mut:Option HO->Prop
 | some (.lst _)=>True
 | some (.dK _)=>True
 | some (.dT _)=>True
 | some (.set _ _)=>True
 | some (.ins _ _ _)=>True
 | some (.ext _)=>True
 | _=>False
section
variable {P:Program} {w:World} {H:Hp} {h h':Heap} {x e:Addr} {o':HO}
theorem HOk.write (ok:HOk P w H h) (mu:Mut (H x)) (he:e=x\/H e=some (.own x)) (k:∀ b u,b ≠ e->h.get? b=some u->h'.get? b=some u) (heo:∃ u,h'.get? e=some u)
  (new:ObjOk P w (upd H x o') h' x o'):HOk P w (upd H x o') h':=fun b u q=>by
 have nown:∀ c y,H c=some (.own y)->c ≠ x:=fun c y r z=>by subst z; rw [r] at mu; exact mu
 have ntup:∀ c xs,H c=some (.tup xs)->c ≠ x:=fun c xs r z=>by subst z; rw [r] at mu; exact mu
 by_cases hb:b=x
 ·subst hb; rw [A9] at q; cases q; exact new
 ·rw [Ar hb] at q
  by_cases hbe:b=e
  ·have q':H b=some (.own x):=by
    rcases he with z | z
    ·exact absurd (hbe.trans z) hb
    ·rw [hbe]; exact z
   rw [q] at q'; cases q'
   obtain ⟨v,hv⟩:=heo
   exact ⟨v,by rw [hbe]; exact hv⟩
  ·refine (ok b u q).stay (fun c v hc r=>k c v ?_ r) (fun c r=>by rw [Ar (nown c b r)]; exact r) fun c xs r=>by rw [Ar (ntup c xs r)]; exact r
   rcases hc with rfl | hc
   ·exact hbe
   ·rintro rfl
    rcases he with z | z
    ·exact nown c b hc z
    ·rw [hc] at z; cases z; exact hb rfl
end
structure Un (fs ex:List Addr) (H H':Hp) (h h':Heap):Prop where
 keep:∀ b o,h.get? b=some o->H b=none->b ∉ fs->b ∉ ex->h'.get? b=some o
 slot:∀ b o,h.get? b=some o->H b=none->b ∈ fs->b ∉ ex->∃ sl,h'.get? b=some { o with slots:=sl }
 free:∀ b o,h.get? b=some o->H b=none->b ∉ ex->H' b=none
 there:∀ b o,h.get? b=some o->b ∉ ex->∃ o',h'.get? b=some o'
 tups:∀ b xs,H b=some (.tup xs)->H' b=some (.tup xs)
 frzs:∀ b o u,H b=some (.frz o u)->H' b=some (.frz o u)
 tbls:∀ b ps,H b=some (.tbl ps)->∃ more,H' b=some (.tbl (ps ++ more))
section
variable {fs fs' ex ex':List Addr} {H H1 H2:Hp} {h h1 h2 h':Heap} {a x e:Addr} {o:HO}
theorem Un.any (u:Un fs ex H H1 h h1) {b:Addr} {ob:Obj} (q:h.get? b=some ob) (n:H b=none) (hx:b ∉ ex):∃ sl,h1.get? b=some { ob with slots:=sl }:=by
 by_cases hb:b ∈ fs
 ·exact u.slot b ob q n hb hx
 ·exact ⟨ob.slots,u.keep b ob q n hb hx⟩
theorem Un.kept (k:∀ b u,h.get? b=some u->h'.get? b=some u):Un fs ex H H h h' :=
 ⟨fun b ob q _ _ _=>k b ob q,fun b ob q _ _ _=>⟨ob.slots,k b ob q⟩,fun _ _ _ n _=>n,fun b ob q _=>⟨ob,k b ob q⟩,fun _ _ q=>q,fun _ _ _ q=>q,fun _ ps q=>⟨#[],by rw [q]; simp⟩⟩
theorem Un.refl:Un fs ex H H h h:=Un.kept fun _ _ q=>q
theorem Un.laid (k:∀ b u,h.get? b=some u->h'.get? b=some u) (hp:h.objs.size<=a) (hn:H a=none):Un fs ex H (upd H a o) h h' where
 keep:=fun b u q _ _ _=>k b u q
 slot:=fun b u q _ _ _=>⟨u.slots,k b u q⟩
 free:=fun b u q n _=>by rw [Ar (aaF (aas (Heap.lt_size q) hp))]; exact n
 there:=fun b u q _=>⟨u,k b u q⟩
 tups:=fun b xs q=>by rw [Ar (AV q hn)]; exact q
 frzs:=fun b u xs q=>by rw [Ar (AV q hn)]; exact q
 tbls:=fun b ps q=>⟨#[],by rw [Ar (AV q hn),q]; simp⟩
theorem Un.write (mu:Mut (H x)) (he:e=x\/H e=some (.own x)) (k:∀ b u,b ≠ e->h.get? b=some u->h'.get? b=some u) (heo:∃ u,h'.get? e=some u):Un fs ex H (upd H x o) h h':=by
 have hx:∀ b,H b=none->b ≠ x:=fun b n z=>by subst z; rw [n] at mu; exact mu
 have hb:∀ b,H b=none->b ≠ e:=fun b n z=>by
  subst z
  rcases he with r | r
  ·exact hx b n r
  ·rw [n] at r; cases r
 have hm:∀ b u,H b=some u->¬ Mut (some u)->b ≠ x:=fun b u q nm z=>by subst z; rw [q] at mu; exact nm mu
 refine ⟨fun b u q n _ _=>k b u (hb b n) q,fun b u q n _ _=>⟨u.slots,k b u (hb b n) q⟩,fun b u q n _=>by rw [Ar (hx b n)]; exact n,fun b u q _=>?_,
  fun b xs q=>by rw [Ar (hm b _ q fun z=>z)]; exact q,fun b u xs q=>by rw [Ar (hm b _ q fun z=>z)]; exact q,fun b ps q=>⟨#[],by rw [Ar (hm b _ q fun z=>z),q]; simp⟩⟩
 by_cases hbe:b=e
 ·subst hbe; exact heo
 ·exact ⟨u,k b u hbe q⟩
end
noncomputable def trk (h:Heap) (H:Hp):List Addr:=(aav h.objs.size).filter fun a=>(H a).isSome
noncomputable def FK (h:Heap) (H:Hp):Heap:=PySem.W.hideAll h (trk h H)
theorem ND (h:Heap) (H:Hp):(FK h H).objs.size=h.objs.size:=PySem.W.hideAll_size _ _
theorem Pa {h:Heap} {H:Hp} {b:Addr} {o:Obj} (e:h.get? b=some o) (n:H b=none):(FK h H).get? b=some o :=
 PySem.W.hideAll_get _ e fun hm=>by
  have q:(H b).isSome=true:=(abB.mp hm).2
  rw [n] at q; simp at q
theorem Q9 {h:Heap} {H:Hp} {b:Addr} {o:Obj} (e:(FK h H).get? b=some o):h.get? b=some o/\H b=none:=by
 have e':h.get? b=some o:=PySem.W.of_hideAll (trk h H) e
 refine ⟨e',?_⟩
 cases q:H b with
 | none=>rfl
 | some x =>
  have hm:b ∈ trk h H:=abB.mpr ⟨List.mem_range.mpr (Heap.lt_size e'),by simp [q]⟩
  have z:(FK h H).get? b=none:=PySem.W.hideAll_none (trk h H) hm
  rw [z] at e; cases e
structure Mod (K:PySem.W.Frag) (mg:Str->Option Value) (base:Heap):Prop where
 kin:K.In base
 glob:base.Ns mainGlobals mg
 blt:∃ mb,base.Ns builtinsNs mb/\∀ x:Str,x ≠ "__name__" -> mb x=bootBuiltins x
 nolimit:base.NoLimit
structure Cx where
 prog:Program
 w:World
 K:PySem.W.Frag
 mg:Str->Option Value
 base:Heap
 A:Around
 N:List Str
 s₀:Shared
 H₀:Hp
 env:Env
 outer:List Env
 stack:List Env
 ex:List Addr
 fn:Str->Bool
 calm:Bool
 pn:List (Addr × Obj)
 xe:Value->Shared->Prop
noncomputable def frs (l:List Env):List Addr:=l.filterMap (·.frame)
noncomputable abbrev Cx.fs (X:Cx):List Addr:=frs X.outer
noncomputable def Vis (sc:Scope) (x:Str):Prop:=sc.names.lookup x=some .local\/sc.names.lookup x=some .cell\/sc.names.lookup x=some .free
noncomputable def Loc (sc:Scope) (x:Str):Prop:=sc.names.lookup x=some .local\/sc.names.lookup x=some .cell
noncomputable def V1 (env:Env) (h:Heap) (m:Str->Option Value) (x:Str) (u:Value):Prop :=
 (env.kindOf x=some .local/\m x=some u)\/((env.kindOf x=some .cell\/env.kindOf x=some .free)/\∃ c,env.cells.lookup x=some c/\h.IsCell c (some u))
structure Cx.Ok (X:Cx):Prop where
 mod:Mod X.K X.mg X.base
 kind:X.env.scope.kind=.function
 glob:X.env.globals=mainGlobals
 blt:X.env.builtins=builtinsNs
 above:X.s₀.heap.objs.size<=X.env.locals
 inj:∀ x y c,X.env.cells.lookup x=some c->X.env.cells.lookup y=some c->x=y
 has:∀ x,(X.env.kindOf x=some .cell\/X.env.kindOf x=some .free)->∃ c,X.env.cells.lookup x=some c
 cab:∀ x c,X.fn x=true->X.env.cells.lookup x=some c->X.s₀.heap.objs.size<=c
 hd:X.calm=true->X.A.handled=none
 frames:X.A.frames=some X.stack
 stk:X.stack=X.outer\/(X.stack=X.env :: X.outer/\X.env.frame=some X.env.locals)
 exf:∀ b ∈ X.ex,b ≠ X.env.locals/\∀ x c,X.env.cells.lookup x=some c->c ≠ b
 bs:∀ b o,X.base.get? b=some o->X.s₀.heap.get? b=some o/\X.H₀ b=none
 bsz:X.base.objs.size<=X.s₀.heap.objs.size
 noex:∀ b o,X.base.get? b=some o->b ∉ X.ex
 exfs:∀ b ∈ X.ex,b ∉ X.fs
 funs:X.s₀.heap.FunFrames X.base X.outer
 frf:∀ b ∈ X.fs,X.H₀ b=none
structure Inv (X:Cx) (pins:List (Addr × Obj)) (σ:List (Option V)) (H:Hp) (s:Shared):Prop where
 ok:X.Ok
 os:s.os=X.s₀.os
 bare:AllBare s.gens
 base:Un X.fs X.ex X.H₀ H X.s₀.heap s.heap
 loc:∃ m,s.heap.Ns X.env.locals m/\∀ (i:Nat) (x:Str) (v:V),X.N[i]?=some x->σ[i]?=some (some v)->Vis X.env.scope x->∃ u,RelV v u/\V1 X.env s.heap m x u
 cell:∀ x c,X.env.cells.lookup x=some c->∃ v,s.heap.IsCell c v
 free:H X.env.locals=none
 freeC:∀ x c,X.env.cells.lookup x=some c->H c=none
 pin:∀ p ∈ X.pn ++ pins,s.heap.get? p.1=some p.2/\H p.1=none/\p.1 ≠ X.env.locals/\p.1 ∉ X.fs/\∀ v,p.2.data ≠ .cell v
 hok:HOk X.prog X.w H s.heap
 len:σ.length=X.N.length
section
variable {X:Cx} {pins:List (Addr × Obj)} {σ:List (Option V)} {H H':Hp} {s:Shared} {h':Heap}
theorem Cx.Ok.nofr (ok:X.Ok) {b:Addr} {o:Obj} (e:X.base.get? b=some o):b ∉ X.fs:=fun hb=>by
 have:=(ok.funs.mem hb).1
 rw [e] at this; cases this
theorem Inv.bs (I:Inv X pins σ H s):∀ b o,X.base.get? b=some o->s.heap.get? b=some o/\H b=none:=fun b o e =>
 ⟨I.base.keep b o (I.ok.bs b o e).1 (I.ok.bs b o e).2 (I.ok.nofr e) (I.ok.noex b o e),I.base.free b o (I.ok.bs b o e).1 (I.ok.bs b o e).2 (I.ok.noex b o e)⟩
theorem Inv.bk (I:Inv X pins σ H s):∀ b o,X.base.get? b=some o->s.heap.get? b=some o:=fun b o e=>(I.bs b o e).1
theorem Inv.mod (I:Inv X pins σ H s):Mod X.K X.mg X.base:=I.ok.mod
theorem Inv.kIn (I:Inv X pins σ H s):X.K.In s.heap:=I.ok.mod.kin.keeps I.bk
theorem Inv.fr (I:Inv X pins σ H s):∃ m,Fr X.base X.env.locals s.heap m :=
 let ⟨m,hn,_⟩:=I.loc
 ⟨m,hn,I.bk,aao I.ok.bsz I.ok.above⟩
theorem Inv.lt (I:Inv X pins σ H s):X.env.locals < s.heap.objs.size:=let ⟨_,hn,_⟩:=I.loc; hn.lt
theorem Inv.sz (I:Inv X pins σ H s):X.s₀.heap.objs.size<=s.heap.objs.size:=aao I.ok.above (aax I.lt)
theorem Inv.nofs (I:Inv X pins σ H s) {a:Addr} (h:s.heap.objs.size<=a):a ∉ X.fs:=fun hb=>by
 obtain ⟨_,o,ho,_⟩:=I.ok.funs.mem hb
 exact absurd (aas (Heap.lt_size ho) (aao I.sz h)) (aaU _)
theorem Inv.cne (I:Inv X pins σ H s):∀ x c,X.env.cells.lookup x=some c->c ≠ X.env.locals:=fun x c e z=>by
 obtain ⟨v,o,ho,hd⟩:=I.cell x c e
 obtain ⟨m,⟨o',es,ep,ho',hd',_⟩,_⟩:=I.loc
 rw [z,ho'] at ho; cases ho; rw [hd'] at hd; cases hd
theorem Inv.funs (I:Inv X pins σ H s):s.heap.FunFrames X.base X.outer:=by
 have all:∀ (l:List Env),(∀ b ∈ frs l,b ∈ X.fs)->X.s₀.heap.FunFrames X.base l->s.heap.FunFrames X.base l:=by
  intro l
  induction l with
  | nil=>intro _ _; trivial
  | cons env r ih =>
   intro hs hl
   obtain ⟨hk,⟨L,o,hf,hn,ho,hd⟩,hr⟩:=hl
   have hL:L ∈ X.fs:=hs L (by unfold frs; rw [abw,hf]; exact aac)
   obtain ⟨sl,e⟩:=I.base.slot L o ho (I.ok.frf L hL) hL fun z=>I.ok.exfs L z hL
   exact ⟨hk,⟨L,_,hf,hn,e,hd⟩,ih (fun b hb=>hs b (by unfold frs; rw [abw,hf]; exact aaa _ hb)) hr⟩
 exact all X.outer (fun _ hb=>hb) I.ok.funs
theorem Inv.stack (I:Inv X pins σ H s):s.heap.FunFrames X.base X.stack:=by
 rcases I.ok.stk with e | ⟨e,hf⟩
 ·rw [e]; exact I.funs
 ·rw [e]
  obtain ⟨m,hn,_⟩:=I.loc
  refine .cons (by rw [I.ok.kind]; decide) hf hn ?_ I.funs
  exact Heap.get?_none_of_le (aao I.ok.bsz I.ok.above)
theorem Inv.stkSub (I:Inv X pins σ H s):∀ b ∈ frs X.stack,b ∈ X.env.locals :: X.fs:=fun b hb=>by
 rcases I.ok.stk with e | ⟨e,hf⟩
 ·rw [e] at hb; exact aaa _ hb
 ·rw [e] at hb
  unfold frs at hb
  rw [abw,hf] at hb
  exact hb
theorem Inv.stkFree (I:Inv X pins σ H s):∀ b ∈ frs X.stack,H b=none:=fun b hb=>by
 rcases aal.mp (I.stkSub b hb) with e | hb
 ·rw [e]; exact I.free
 ·obtain ⟨_,o,ho,_⟩:=I.ok.funs.mem hb
  exact I.base.free b o ho (I.ok.frf b hb) fun z=>I.ok.exfs b z hb
theorem Inv.step {g':Array GenState} {t':Nat} {d':Drawn} {ch:List Addr} (I:Inv X pins σ H s)
  (hch:∀ b ∈ ch,(b ∈ X.ex\/X.s₀.heap.objs.size<=b)/\b ≠ X.env.locals/\(∀ x c,X.env.cells.lookup x=some c->c ≠ b)/\∀ p ∈ X.pn ++ pins,p.1 ≠ b)
  (keep:∀ b o,b ≠ X.env.locals->b ∉ X.fs->b ∉ ch->s.heap.get? b=some o->H b=none->h'.get? b=some o)
  (slot:∀ b o,b ≠ X.env.locals->b ∈ X.fs->b ∉ ch->s.heap.get? b=some o->H b=none->∃ sl,h'.get? b=some { o with slots:=sl }) (free:∀ b o,b ∉ ch->s.heap.get? b=some o->H b=none->H' b=none)
  (there:∀ b o,b ∉ ch->s.heap.get? b=some o->∃ o',h'.get? b=some o')
  (tups:∀ b xs,H b=some (.tup xs)->H' b=some (.tup xs)) (frzs:∀ b o u,H b=some (.frz o u)->H' b=some (.frz o u)) (tbls:∀ b ps,H b=some (.tbl ps)->∃ more,H' b=some (.tbl (ps ++ more)))
  (ns:∀ m,s.heap.Ns X.env.locals m->h'.Ns X.env.locals m) (hok:HOk X.prog X.w H' h') (hg:AllBare g') :
  Inv X pins σ H' { s with heap:=h',gens:=g',drawn:=d',toks:=t' }:=by
 have neL:∀ b o,X.s₀.heap.get? b=some o->b ≠ X.env.locals:=fun b o e=>aaF (aas (Heap.lt_size e) I.ok.above)
 have neC:∀ b o,X.s₀.heap.get? b=some o->b ∉ X.ex->b ∉ ch:=fun b o e hx hb=>by
  rcases (hch b hb).1 with z | z
  ·exact hx z
  ·exact absurd (aas (Heap.lt_size e) z) (aaU _)
 have cellK:∀ x c,X.env.cells.lookup x=some c->∀ v,s.heap.IsCell c v->h'.IsCell c v:=fun x c e v ⟨o,ho,hd⟩=>by
  have nch:c ∉ ch:=fun z=>(hch c z).2.2.1 x c e rfl
  by_cases hc:c ∈ X.fs
  ·obtain ⟨sl,q⟩:=slot c o (I.cne x c e) hc nch ho (I.freeC x c e)
   exact ⟨_,q,hd⟩
  ·exact ⟨o,keep c o (I.cne x c e) hc nch ho (I.freeC x c e),hd⟩
 refine ⟨I.ok,I.os,hg,⟨fun b o e n hb hx=>?_,fun b o e n hb hx=>?_,fun b o e n hx=>?_,fun b o e hx=>?_,fun b xs e=>tups b xs (I.base.tups b xs e),fun b o xs e=>frzs b o xs (I.base.frzs b o xs e),fun b ps e=>?_⟩,?_,fun x c e=>?_,?_,fun x c e=>?_,fun p hp=>?_,hok,I.len⟩
 ·exact keep b o (neL b o e) hb (neC b o e hx) (I.base.keep b o e n hb hx) (I.base.free b o e n hx)
 ·obtain ⟨sl,e1⟩:=I.base.slot b o e n hb hx
  obtain ⟨sl',e2⟩:=slot b _ (neL b o e) hb (neC b o e hx) e1 (I.base.free b o e n hx)
  exact ⟨sl',e2⟩
 ·obtain ⟨o',e1⟩:=I.base.there b o e hx
  exact free b o' (neC b o e hx) e1 (I.base.free b o e n hx)
 ·obtain ⟨o',e1⟩:=I.base.there b o e hx
  exact there b o' (neC b o e hx) e1
 ·obtain ⟨m1,e1⟩:=I.base.tbls b ps e
  obtain ⟨m2,e2⟩:=tbls b _ e1
  exact ⟨m1 ++ m2,by rw [e2,Array.append_assoc]⟩
 ·obtain ⟨m,hn,hl⟩:=I.loc
  refine ⟨m,ns m hn,fun i x v e1 e2 e3=>?_⟩
  obtain ⟨u,r,l⟩:=hl i x v e1 e2 e3
  refine ⟨u,r,?_⟩
  rcases l with l | ⟨k,c,e,z⟩
  ·exact .inl l
  ·exact .inr ⟨k,c,e,cellK x c e _ z⟩
 ·obtain ⟨v,z⟩:=I.cell x c e
  exact ⟨v,cellK x c e v z⟩
 ·obtain ⟨m,⟨o,_,_,ho,_⟩,_⟩:=I.loc
  exact free _ o (fun z=>(hch _ z).2.1 rfl) ho I.free
 ·obtain ⟨v,o,ho,hd⟩:=I.cell x c e
  exact free c o (fun z=>(hch c z).2.2.1 x c e rfl) ho (I.freeC x c e)
 ·obtain ⟨e,n,ne,nf,d⟩:=I.pin p hp
  have nch:p.1 ∉ ch:=fun z=>(hch p.1 z).2.2.2 p hp rfl
  exact ⟨keep p.1 p.2 ne nf nch e n,free p.1 p.2 nch e n,ne,nf,d⟩
theorem Inv.un {t':Nat} (I:Inv X pins σ H s) (u:Un X.fs [] H H' s.heap h') (hok:HOk X.prog X.w H' h'):Inv X pins σ H' { s with heap:=h',toks:=t' }:=by
 obtain ⟨m,⟨o,es,ep,ho,r⟩,_⟩:=id I.loc
 obtain ⟨sl,hL⟩:=u.any ho I.free (by simp)
 exact I.step (g':=s.gens) (d':=s.drawn) (ch:=[]) (fun _ z=>nomatch z) (fun b o _ hb _ e n=>u.keep b o e n hb (by simp)) (fun b o _ hb _ e n=>u.slot b o e n hb (by simp)) (fun b o _ e n=>u.free b o e n (by simp)) (fun b o _ e=>u.there b o e (by simp)) u.tups u.frzs u.tbls (fun m' hm=>by
  obtain ⟨o',es',ep',ho',r'⟩:=hm
  rw [ho] at ho'; cases ho'
  exact ⟨_,es',ep',hL,r'⟩) hok I.bare
theorem Inv.call {g':Array GenState} {t':Nat} {d':Drawn} {ch:List Addr} (I:Inv X pins σ H s) (u:Un (frs X.stack) ch H H' s.heap h') (hok:HOk X.prog X.w H' h') (hg:AllBare g')
  (hch:∀ b ∈ ch,(b ∈ X.ex\/X.s₀.heap.objs.size<=b)/\b ≠ X.env.locals/\(∀ x c,X.env.cells.lookup x=some c->c ≠ b)/\∀ p ∈ X.pn ++ pins,p.1 ≠ b) :
  Inv X pins σ H' { s with heap:=h',gens:=g',drawn:=d',toks:=t' }:=by
 obtain ⟨m,⟨o,es,ep,ho,r⟩,_⟩:=id I.loc
 obtain ⟨sl,hL⟩:=u.any ho I.free fun z=>(hch _ z).2.1 rfl
 exact I.step (ch:=ch) hch (fun b o hL hb hc e n=>u.keep b o e n (fun z=>(aal.mp (I.stkSub b z)).elim hL hb) hc) (fun b o _ _ hc e n=>u.any e n hc) (fun b o hc e n=>u.free b o e n hc) (fun b o hc e=>u.there b o e hc) u.tups u.frzs u.tbls (fun m' hm=>by
  obtain ⟨o',es',ep',ho',r'⟩:=hm
  rw [ho] at ho'; cases ho'
  exact ⟨_,es',ep',hL,r'⟩) hok hg
theorem Inv.turned {t':Nat} {it:Addr} (I:Inv X pins σ H s) (k:∀ b o,b ≠ it->s.heap.get? b=some o->h'.get? b=some o) (hn:H it=none) (hL:it ≠ X.env.locals)
  (h1:it ∈ X.ex\/X.s₀.heap.objs.size<=it) (h2:∀ x c,X.env.cells.lookup x=some c->c ≠ it) (h3:∀ p ∈ X.pn ++ pins,p.1 ≠ it):Inv X pins σ H { s with heap:=h',toks:=t' }:=by
 have nit:∀ b u,H b=some u->b ≠ it:=fun b u e z=>by rw [z,hn] at e; cases e
 refine I.step (g':=s.gens) (d':=s.drawn) (ch:=[it]) (fun b hb=>?_) (fun b o _ _ hc e _=>k b o (fun z=>hc (by simp [z])) e) (fun b o _ _ hc e _=>⟨o.slots,k b o (fun z=>hc (by simp [z])) e⟩) (fun _ _ _ _ n=>n)
  (fun b o hc e=>⟨o,k b o (fun z=>hc (by simp [z])) e⟩) (fun _ _ e=>e) (fun _ _ _ e=>e) (fun b ps e=>⟨#[],by rw [e]; simp⟩) (fun m hm=>?_) (fun b u e=>?_) I.bare
 ·have e:b=it:=by simpa using hb
  subst e
  exact ⟨h1,hL,h2,h3⟩
 ·obtain ⟨o,es,ep,ho,r⟩:=hm
  exact ⟨o,es,ep,k _ o (Ne.symm hL) ho,r⟩
 ·refine (I.hok b u e).stay (fun c v hc q=>k c v ?_ q) (fun _ q=>q) fun _ _ q=>q
  rcases hc with z | z
  ·rw [z]; exact nit b u e
  ·exact nit c _ z
theorem Inv.tok (I:Inv X pins σ H s) (t:Nat):Inv X pins σ H { s with toks:=t }:=I.un (h':=s.heap) (t':=t) Un.refl I.hok
theorem Inv.kept {t':Nat} (I:Inv X pins σ H s) (k:∀ b u,s.heap.get? b=some u->h'.get? b=some u):Inv X pins σ H { s with heap:=h',toks:=t' }:=I.un (Un.kept k) (I.hok.kept k)
theorem Inv.laid {a:Addr} {o:HO} {t':Nat} (I:Inv X pins σ H s) (k:∀ b u,s.heap.get? b=some u->h'.get? b=some u) (hp:s.heap.objs.size<=a) (new:ObjOk X.prog X.w (upd H a o) h' a o) :
  Inv X pins σ (upd H a o) { s with heap:=h',toks:=t' }:=I.un (Un.laid k hp (I.hok.fresh hp)) (I.hok.laid k hp new)
theorem Inv.write {x e:Addr} {o:HO} {t':Nat} (I:Inv X pins σ H s) (mu:Mut (H x)) (he:e=x\/H e=some (.own x)) (k:∀ b u,b ≠ e->s.heap.get? b=some u->h'.get? b=some u) (heo:∃ u,h'.get? e=some u)
  (new:ObjOk X.prog X.w (upd H x o) h' x o):Inv X pins σ (upd H x o) { s with heap:=h',toks:=t' }:=I.un (Un.write mu he k heo) (I.hok.write mu he k heo new)
theorem Inv.weak {σ':List (Option V)} (I:Inv X pins σ H s) (hl:σ'.length=σ.length) (w:∀ (i:Nat) v,σ'[i]?=some (some v)->σ[i]?=some (some v)):Inv X pins σ' H s :=
 ⟨I.ok,I.os,I.bare,I.base,let ⟨m,hn,hl'⟩:=I.loc; ⟨m,hn,fun i x v e1 e2 e3=>hl' i x v e1 (w i v e2) e3⟩,I.cell,I.free,I.freeC,I.pin,I.hok,hl.trans I.len⟩
theorem Inv.pins_of {pins':List (Addr × Obj)} (I:Inv X pins σ H s) (h:∀ p ∈ pins',s.heap.get? p.1=some p.2/\H p.1=none/\p.1 ≠ X.env.locals/\p.1 ∉ X.fs/\∀ v,p.2.data ≠ .cell v):Inv X pins' σ H s :=
 ⟨I.ok,I.os,I.bare,I.base,I.loc,I.cell,I.free,I.freeC,fun p hp=>(aai.mp hp).elim (fun z=>I.pin p (aaw _ z)) (h p),I.hok,I.len⟩
theorem JX {N:List Str} (hN:N.Nodup) {i j:Nat} {x:Str} (a:N[i]?=some x) (b:N[j]?=some x):i=j:=by
 obtain ⟨h1,e1⟩:=aap.mp a
 obtain ⟨h2,e2⟩:=aap.mp b
 exact (List.getElem_inj hN).mp (e1.trans e2.symm)
theorem Jj {M:Model} {A:Around} {E:Value->Shared->Prop} {i:Nat} {x:Str} {v:V} {u:Value} {Q:Unit->Shared->Prop} (I:Inv X pins σ H s) (hN:X.N.Nodup) (hi:X.N[i]?=some x) (hx:Loc X.env.scope x) (r:RelV v u)
  (h:∀ s',Inv X pins (σ.set i (some v)) H s'->(∃ a,Heap.SameBut a s.heap s'.heap/\(a=X.env.locals\/X.env.cells.lookup x=some a))->Q () s') (hf:X.fn x=true\/X.env.scope.names.lookup x=some .local:=by first | exact .inl rfl | exact .inr rfl | assumption):wpAny M A (storeName X.env x u) Q E s:=by
 obtain ⟨m,hn,hl⟩:=id I.loc
 have hcls:(X.env.scope.kind==.class || (X.env.scope.kind==.module && X.env.locals != X.env.globals))=false:=by rw [I.ok.kind]; rfl
 have hiσ:i < σ.length:=by rw [I.len]; exact (aap.mp hi).1
 have cne:=I.cne
 have tracked:∀ {a:Addr} {h':Heap},(∃ o,s.heap.get? a=some o/\H a=none)->Heap.SameBut a s.heap h'->HOk X.prog X.w H h':=fun {a h'} ha hs b ob e=>by
  obtain ⟨_,_,hfree⟩:=ha
  refine (I.hok b ob e).stay (fun c w' hc q=>(hs.2 c ?_).trans q) (fun _ q=>q) fun _ _ q=>q
  rintro rfl
  rcases hc with rfl | hc
  ·rw [hfree] at e; cases e
  ·rw [hfree] at hc; cases hc
 rcases hx with hk | hk
 ·refine wpAny_storeName_local hk hn (fun h' hn' hs=>?_) hcls
  obtain ⟨oL,_,_,hoL,_⟩:=id hn
  refine h _ ⟨I.ok,I.os,I.bare,⟨fun b o e n hb hx=>?_,fun b o e n hb hx=>?_,I.base.free,fun b o e hx=>?_,I.base.tups,I.base.frzs,I.base.tbls⟩,⟨_,hn',fun j y v' e1 e2 e3=>?_⟩,fun y c e=>?_,I.free,I.freeC,fun p hp=>?_,tracked ⟨oL,hoL,I.free⟩ hs,by simpa using I.len⟩ ⟨_,hs,.inl rfl⟩
  ·exact (hs.2 b (aaF (aas (Heap.lt_size e) I.ok.above))).trans (I.base.keep b o e n hb hx)
  ·obtain ⟨sl,e1⟩:=I.base.slot b o e n hb hx
   exact ⟨sl,(hs.2 b (aaF (aas (Heap.lt_size e) I.ok.above))).trans e1⟩
  ·obtain ⟨o',e1⟩:=I.base.there b o e hx
   exact ⟨o',(hs.2 b (aaF (aas (Heap.lt_size e) I.ok.above))).trans e1⟩
  ·by_cases hj:j=i
   ·subst hj
    rw [hi] at e1; cases e1
    rw [aa9 hiσ] at e2
    cases e2
    exact ⟨u,r,.inl ⟨hk,by simp⟩⟩
   ·rw [aan (Ne.symm hj)] at e2
    obtain ⟨u',r',q⟩:=hl j y v' e1 e2 e3
    refine ⟨u',r',?_⟩
    rcases q with ⟨k,e⟩ | ⟨k,c,e,z⟩
    ·refine .inl ⟨k,?_⟩
     have:y ≠ x:=fun e=>hj (JX hN e1 (e ▸ hi))
     simp [this,e]
    ·exact .inr ⟨k,c,e,z.sameBut hs (cne y c e)⟩
  ·obtain ⟨w',z⟩:=I.cell y c e
   exact ⟨w',z.sameBut hs (cne y c e)⟩
  ·obtain ⟨e,n,ne,nf,d⟩:=I.pin p hp
   exact ⟨(hs.2 p.1 ne).trans e,n,ne,nf,d⟩
 ·have hfn:X.fn x=true:=by
   rcases hf with z | z
   ·exact z
   ·rw [z] at hk; cases hk
  obtain ⟨c,hc⟩:=I.ok.has x (.inl hk)
  obtain ⟨w',z⟩:=I.cell x c hc
  refine wpAny_storeName_cell I.ok.kind hk hc z (fun h' hc' hs=>?_)
  obtain ⟨oc,hoc,hocd⟩:=id z
  refine h { s with heap:=h' } ⟨I.ok,I.os,I.bare,⟨fun b o e n hb hx=>?_,fun b o e n hb hx=>?_,I.base.free,fun b o e hx=>?_,I.base.tups,I.base.frzs,I.base.tbls⟩,⟨m,hn.sameBut hs (Ne.symm (cne x c hc)),fun j y v' e1 e2 e3=>?_⟩,fun y c' e=>?_,I.free,I.freeC,fun p hp=>?_,tracked ⟨oc,hoc,I.freeC x c hc⟩ hs,by simpa using I.len⟩ ⟨c,hs,.inr hc⟩
  ·exact (hs.2 b (aaF (aas (Heap.lt_size e) (I.ok.cab x c hfn hc)))).trans (I.base.keep b o e n hb hx)
  ·obtain ⟨sl,e1⟩:=I.base.slot b o e n hb hx
   exact ⟨sl,(hs.2 b (aaF (aas (Heap.lt_size e) (I.ok.cab x c hfn hc)))).trans e1⟩
  ·obtain ⟨o',e1⟩:=I.base.there b o e hx
   exact ⟨o',(hs.2 b (aaF (aas (Heap.lt_size e) (I.ok.cab x c hfn hc)))).trans e1⟩
  ·by_cases hj:j=i
   ·subst hj
    rw [hi] at e1; cases e1
    rw [aa9 hiσ] at e2
    cases e2
    exact ⟨u,r,.inr ⟨.inl hk,c,hc,hc'⟩⟩
   ·rw [aan (Ne.symm hj)] at e2
    obtain ⟨u',r',q⟩:=hl j y v' e1 e2 e3
    refine ⟨u',r',?_⟩
    rcases q with q | ⟨k,c',e,z'⟩
    ·exact .inl q
    ·refine .inr ⟨k,c',e,z'.sameBut hs ?_⟩
     rintro rfl
     exact hj (JX hN e1 (I.ok.inj _ _ _ e hc ▸ hi))
  ·by_cases hcc:c'=c
   ·subst hcc; exact ⟨_,hc'⟩
   ·obtain ⟨w2,z2⟩:=I.cell y c' e
    exact ⟨w2,z2.sameBut hs hcc⟩
  ·obtain ⟨e,n,ne,nf,d⟩:=I.pin p hp
   refine ⟨(hs.2 p.1 ?_).trans e,n,ne,nf,d⟩
   intro q
   rw [q,hoc] at e
   have q':oc=p.2:=Option.some.inj e
   exact d w' (by rw [<- q']; exact hocd)
theorem JY {M:Model} {A:Around} {E:Value->Shared->Prop} {i:Nat} {x:Str} {v:V} {u:Value} {Q:Unit->Shared->Prop} (I:Inv X pins σ H s) (hN:X.N.Nodup) (hi:X.N[i]?=some x) (hx:Loc X.env.scope x) (r:RelV v u)
  (h:∀ s',Inv X pins (σ.set i (some v)) H s'->Q () s') (hf:X.fn x=true\/X.env.scope.names.lookup x=some .local:=by first | exact .inl rfl | exact .inr rfl | assumption):wpAny M A (storeName X.env x u) Q E s :=
 Jj I hN hi hx r (fun s' I' _=>h s' I') hf
theorem Inv.call' {s':Shared} {ch:List Addr} (I:Inv X pins σ H s) (ho:s'.os=s.os) (u:Un (frs X.stack) ch H H' s.heap s'.heap) (hok:HOk X.prog X.w H' s'.heap) (hg:AllBare s'.gens)
  (hch:∀ b ∈ ch,(b ∈ X.ex\/X.s₀.heap.objs.size<=b)/\b ≠ X.env.locals/\(∀ x c,X.env.cells.lookup x=some c->c ≠ b)/\∀ p ∈ X.pn ++ pins,p.1 ≠ b):Inv X pins σ H' s':=by
 obtain ⟨h',g',d',t',o'⟩:=s'
 have e:o'=s.os:=ho
 subst e
 exact I.call (g':=g') (t':=t') (d':=d') u hok hg hch
end
noncomputable abbrev XK:=Value->Option Addr->Hp->Prop
noncomputable abbrev St:=List (Option V)
noncomputable abbrev VK:=V->Hp->Prop
noncomputable abbrev TE:=St->Hp->VK->Prop
noncomputable abbrev TT:=St->Hp->(Bool->Hp->Prop)->Prop
noncomputable abbrev TA:=St->Hp->(List V->Hp->Prop)->Prop
structure Ends where
 nx:St->Hp->Prop
 rt:VK
 bk:St->Hp->Prop:=fun _ _=>False
 ct:St->Hp->Prop:=fun _ _=>False
noncomputable abbrev TS:=Ends->St->Hp->Prop
noncomputable def EP (X:Cx) (pins:List (Addr × Obj)) (σ:St) (Q:VK) (u:Value) (s':Shared):Prop:=∃ v H',Inv X pins σ H' s'/\RelV v u/\Q v H'
noncomputable def TP (X:Cx) (pins:List (Addr × Obj)) (σ:St) (Q:Bool->Hp->Prop) (b:Bool) (s':Shared):Prop:=∃ H',Inv X pins σ H' s'/\Q b H'
noncomputable def AP (X:Cx) (pins:List (Addr × Obj)) (σ:St) (Q:List V->Hp->Prop) (us:List Value) (s':Shared):Prop:=∃ vs H',Inv X pins σ H' s'/\Vals vs us/\Q vs H'
noncomputable def SP (X:Cx) (pins:List (Addr × Obj)) (D:Ends) (f:Flow) (s':Shared):Prop :=
 match f with
 | .next=>∃ σ' H',Inv X pins σ' H' s'/\D.nx σ' H'
 | .brk=>∃ σ' H',Inv X pins σ' H' s'/\D.bk σ' H'
 | .cont=>∃ σ' H',Inv X pins σ' H' s'/\D.ct σ' H'
 | .ret u=>∃ v σ' H',Inv X pins σ' H' s'/\RelV v u/\D.rt v H'
noncomputable def PE (X:Cx) (e:Expr) (t:TE):Prop :=
 ∀ (pins:List (Addr × Obj)) (s:Shared) (σ:St) (H:Hp) (Q:VK),Inv X pins σ H s->t σ H Q->wpAny (model X.prog X.w) X.A (eval e X.env) (EP X pins σ Q) X.xe s
noncomputable def PT (X:Cx) (e:Expr) (t:TT):Prop :=
 ∀ (pins:List (Addr × Obj)) (s:Shared) (σ:St) (H:Hp) (Q:Bool->Hp->Prop),Inv X pins σ H s->t σ H Q->wpAny (model X.prog X.w) X.A (isTrue e X.env (eval e X.env)) (TP X pins σ Q) X.xe s
noncomputable def PW (X:Cx) (e:Expr) (t:TT):Prop :=
 ∀ (whole:Sem Value) (pins:List (Addr × Obj)) (s:Shared) (σ:St) (H:Hp) (Q:Bool->Hp->Prop),Inv X pins σ H s->t σ H Q->wpAny (model X.prog X.w) X.A (isTrue e X.env whole) (TP X pins σ Q) X.xe s
theorem PW.pt {X:Cx} {e:Expr} {t:TT} (h:PW X e t):PT X e t:=h _
noncomputable def PA (X:Cx) (es:List Expr) (t:TA):Prop :=
 ∀ (pos:Pos) (pins:List (Addr × Obj)) (s:Shared) (σ:St) (H:Hp) (Q:List V->Hp->Prop),Inv X pins σ H s->t σ H Q->wpAny (model X.prog X.w) X.A (spliced (backTo pos (starEach es X.env))) (AP X pins σ Q) X.xe s
noncomputable def PS (X:Cx) (st:Stmt) (t:TS):Prop :=
 ∀ (pins:List (Addr × Obj)) (s:Shared) (σ:St) (H:Hp) (D:Ends),Inv X pins σ H s->t D σ H->wpAny (model X.prog X.w) X.A (exec st X.env) (SP X pins D) X.xe s
noncomputable def PSs (X:Cx) (st:List Stmt) (t:TS):Prop :=
 ∀ (pins:List (Addr × Obj)) (s:Shared) (σ:St) (H:Hp) (D:Ends),Inv X pins σ H s->t D σ H->wpAny (model X.prog X.w) X.A (execs st X.env) (SP X pins D) X.xe s
theorem thn {α:Type} {t:Sem α} {Q Q':α->Shared->Prop} {M:Model} {A:Around} {E:Value->Shared->Prop} {s:Shared} (h:wpAny M A t Q E s) (hQ:∀ a s,Q a s->Q' a s):wpAny M A t Q' E s:=wpAny_mono h hQ fun _ _ x=>x
section
variable {X:Cx}
theorem bin {a b:Expr} {ta tb:TE} (ha:PE X a ta) (hb:PE X b tb) {pins:List (Addr × Obj)} {s:Shared} {σ:St} {H:Hp} {R:V->V->Hp->Prop} (I:Inv X pins σ H s) (h:ta σ H fun x H1=>tb σ H1 fun y H2=>R x y H2)
  {α:Type} {Q:α->Shared->Prop} {f:Value->Value->Sem α}
  (hf:∀ v u s2 x y H2,Inv X pins σ H2 s2->RelV x v->RelV y u->R x y H2->wpAny (model X.prog X.w) X.A (f v u) Q X.xe s2) :
  wpAny (model X.prog X.w) X.A (eval a X.env) (fun v s₁=>wpAny (model X.prog X.w) X.A (eval b X.env) (fun u s₂=>wpAny (model X.prog X.w) X.A (f v u) Q X.xe s₂) X.xe s₁) X.xe s:=by
 refine thn (ha pins s σ H _ I h) fun v s1 ⟨x,H1,I1,r1,q1⟩=>?_
 refine thn (hb pins s1 σ H1 _ I1 q1) fun u s2 ⟨y,H2,I2,r2,q2⟩=>?_
 exact hf v u s2 x y H2 I2 r1 r2 q2
noncomputable def Mz (i:Nat):TE:=fun σ H Q=>∃ v,σ[i]?=some (some v)/\Q v H
noncomputable def tC (v:V):TE:=fun _ H Q=>Q v H
theorem Dr {i:Nat} {x:Str} {pos:Pos} (hN:X.N[i]?=some x) (hv:Vis X.env.scope x) (hd:(x==("__debug__" : Str))=false:=by decide) (hcd:(x==("__classdict__" : Str))=false:=by decide):PE X (.Name x pos) (Mz i):=by
 intro pins s σ H Q I h
 obtain ⟨v,e,h⟩:=h
 obtain ⟨m,hn,hl⟩:=I.loc
 obtain ⟨u,r,l⟩:=hl i x v hN e hv
 have fin:EP X pins σ Q u s:=⟨v,H,I,r,h⟩
 rcases l with ⟨hk,hm⟩ | ⟨hk,c,hc,hcell⟩
 ·exact wpAny_Name (wpAny_loadName_local I.ok.kind hk hn hm fin) hd
 ·rcases hk with hk | hk
  ·exact wpAny_Name (wpAny_loadName_cell I.ok.kind hk hc hcell fin) hd
  ·exact wpAny_Name (wpAny_loadName_free I.ok.kind hk hc hcell fin hcd) hd
theorem Tp {i j pos}:PE X (.Constant (.int i) j pos) (tC (.int i)):=fun _ _ _ H _ I h=>wpAny_Constant_int ⟨.int i,H,I.tok _,⟨_,rfl⟩,h⟩
theorem Vk {b j pos}:PE X (.Constant (.bool b) j pos) (tC (.bl b)):=fun _ _ _ H _ I h=>Constant_bool ⟨.bl b,H,I,rfl,h⟩
theorem Tq {j pos}:PE X (.Constant .none j pos) (tC .non):=fun _ _ _ H _ I h=>Constant_none ⟨.non,H,I,rfl,h⟩
theorem Tr {x j pos}:PE X (.Constant (.str x) j pos) (tC (.str x)):=fun _ _ _ H _ I h=>Calls.Constant_str ⟨.str x,H,I.tok _,⟨_,rfl⟩,h⟩
noncomputable def Gl (X:Cx) (x:Str):Prop:=X.env.kindOf x=some .globalImplicit
theorem IH {E:Value->Shared->Prop} {pins:List (Addr × Obj)} {s:Shared} {σ:St} {H:Hp} {x:Str} {u:Value} {pos:Pos} {Q:Value->Shared->Prop} (I:Inv X pins σ H s) (hg:Gl X x) (hm:X.mg x=some u) (h:Q u s)
  (hd:(x==("__debug__" : Str))=false:=by decide):wpAny (model X.prog X.w) X.A (eval (.Name x pos) X.env) Q E s :=
 Calls.Name_function_global I.ok.kind hg (Calls.loadGlobal_global (by rw [I.ok.glob]; exact I.mod.glob.keeps I.bk) hm h) hd
theorem Bq {E:Value->Shared->Prop} {pins:List (Addr × Obj)} {s:Shared} {σ:St} {H:Hp} {x:Str} {u:Value} {pos:Pos} {Q:Value->Shared->Prop} (I:Inv X pins σ H s) (hg:Gl X x) (hm:X.mg x=none) (hv:bootBuiltins x=some u) (h:Q u s)
  (hn:x ≠ "__name__" := by decide) (hd:(x==("__debug__" : Str))=false:=by decide):wpAny (model X.prog X.w) X.A (eval (.Name x pos) X.env) Q E s:=by
 obtain ⟨mb,h1,h2⟩:=I.mod.blt
 exact Calls.Name_function_global I.ok.kind hg (Calls.loadGlobal_builtin (by rw [I.ok.glob]; exact I.mod.glob.keeps I.bk) hm (by rw [I.ok.blt]; exact h1.keeps I.bk) ((h2 x hn).trans hv) h) hd
theorem LB {x:Str} {v:V} {u:Value} {pos:Pos} (hg:Gl X x) (hm:X.mg x=some u) (r:RelV v u) (hd:(x==("__debug__" : Str))=false:=by decide):PE X (.Name x pos) (tC v) :=
 fun _ _ _ H _ I h=>IH I hg hm ⟨v,H,I,r,h⟩ hd
theorem Ra {x:Str} {v:V} {u:Value} {pos:Pos} (hg:Gl X x) (hm:X.mg x=none) (hv:bootBuiltins x=some u) (r:RelV v u) (hn:x ≠ "__name__" := by decide) (hd:(x==("__debug__" : Str))=false:=by decide):PE X (.Name x pos) (tC v) :=
 fun _ _ _ H _ I h=>Bq I hg hm hv ⟨v,H,I,r,h⟩ hn hd
variable {a b:Expr} {ta tb:TE} {pos:Pos}
noncomputable def PC (X:Cx) (op:CmpOp) (a b:Expr) (t:TE):Prop :=
 ∀ (pins:List (Addr × Obj)) (s:Shared) (σ:St) (H:Hp) (Q:VK),Inv X pins σ H s->t σ H Q ->
  wpAny (model X.prog X.w) X.A (eval a X.env) (fun v s₁=>wpAny (model X.prog X.w) X.A (eval b X.env) (fun u s₂=>wpAny (model X.prog X.w) X.A (compareOp op v u) (EP X pins σ Q) X.xe s₂) X.xe s₁) X.xe s
theorem JZ (b:Expr) {op:CmpOp} (h:op ≠ .In) (h2:op ≠ .NotIn):behindInMarks op b=false:=by
 have e1:(op==CmpOp.In)=false:=by cases op <;> first | rfl | exact absurd rfl h
 have e2:(op==CmpOp.NotIn)=false:=by cases op <;> first | rfl | exact absurd rfl h2
 cases b <;> simp [behindInMarks,e1,e2]
noncomputable def V2 (ta:TE):TE:=fun σ H Q=>ta σ H fun x H1=>Q (.bl (decide (x=.non))) H1
noncomputable def Vl (ta:TE):TE:=fun σ H Q=>ta σ H fun x H1=>Q (.bl (!decide (x=.non))) H1
theorem RelV.none_iff {x:V} {v:Value} (r:RelV x v):(v==Value.none)=decide (x=.non):=by
 cases x with
 | non=>cases r; rfl
 | bl _=>cases r; rfl
 | int _=>obtain ⟨t,rfl⟩:=r; rfl
 | str _=>obtain ⟨t,rfl⟩:=r; rfl
 | byt _=>obtain ⟨t,rfl⟩:=r; rfl
 | flt _=>obtain ⟨t,rfl⟩:=r; rfl
 | ref _=>cases r; rfl
 | ty _=>cases r; rfl
theorem NE {j pos'} (ha:PE X a ta):PC X .Is a (.Constant .none j pos') (V2 ta):=by
 intro pins s σ H Q I h
 refine thn (ha pins s σ H _ I h) fun v s1 ⟨x,H1,I1,r1,q1⟩=>?_
 exact Constant_none (is_none_gen ⟨.bl _,H1,I1,by rw [r1.none_iff]; rfl,q1⟩)
theorem LD {j pos'} (ha:PE X a ta):PC X .IsNot a (.Constant .none j pos') (Vl ta):=by
 intro pins s σ H Q I h
 refine thn (ha pins s σ H _ I h) fun v s1 ⟨x,H1,I1,r1,q1⟩=>?_
 exact Constant_none (isnot_none_gen ⟨.bl _,H1,I1,by rw [r1.none_iff]; rfl,q1⟩)
noncomputable def tB (t:TE):TT:=fun σ H Q=>t σ H fun x H1=>∃ c,x=.bl c/\Q c H1
theorem NF {op:CmpOp} {t:TE} (h:PC X op a b t) (h1:behindInMarks op b=false:=by first | exact JZ _ (by decide) (by decide) | rfl):PE X (.Compare a [op] [b] pos) t:=fun pins s σ H Q I hw=>wpAny_Compare1 (h pins s σ H Q I hw) h1
theorem NG {op:CmpOp} {t:TE} (h:PC X op a b t) (h1:behindInMarks op b=false:=by first | exact JZ _ (by decide) (by decide) | rfl):PT X (.Compare a [op] [b] pos) (tB t):=by
 intro pins s σ H Q I hw
 refine wpAny_isTrue_Compare1 (thn (h pins s σ H _ I hw) fun v s1 h1=>thn h1 fun u s2 h2=>thn h2 fun c s3 ⟨x,H1,I1,r1,q1⟩=>?_) h1
 obtain ⟨d,rfl,q⟩:=q1
 cases r1
 exact wpAny_truthy_bool ⟨H1,I1,q⟩
variable {tA tB':TT} {rest:List Expr}
noncomputable def V3 (t u:TT):TT:=fun σ H Q=>t σ H fun c H1=>if c=true then u σ H1 Q else Q false H1
noncomputable def tOr (t u:TT):TT:=fun σ H Q=>t σ H fun c H1=>if c=true then Q true H1 else u σ H1 Q
noncomputable def V4 (t:TT):TT:=fun σ H Q=>t σ H fun c H1=>Q (!c) H1
theorem Rb (ha:PT X a tA):PW X (.BoolOp .And [a] pos) tA:=by
 intro wh pins s σ H Q I h
 refine isTrue_and (thn (ha pins s σ H Q I h) fun c s1 e=>?_)
 cases c with
 | true=>exact isTrue_and_nil e
 | false=>exact e
theorem Ts (ha:PT X a tA):PW X (.BoolOp .Or [a] pos) tA:=by
 intro wh pins s σ H Q I h
 refine isTrue_or (thn (ha pins s σ H Q I h) fun c s1 e=>?_)
 cases c with
 | false=>exact isTrue_or_nil e
 | true=>exact e
theorem Tt (ha:PT X a tA) (hb:PW X (.BoolOp .And (b :: rest) pos) tB'):PW X (.BoolOp .And (a :: b :: rest) pos) (V3 tA tB'):=by
 intro wh pins s σ H Q I h
 refine isTrue_and (thn (ha pins s σ H _ I h) fun c s1 ⟨H1,I1,q1⟩=>?_)
 cases c with
 | true=>exact hb wh pins s1 σ H1 Q I1 q1
 | false=>exact ⟨H1,I1,q1⟩
theorem Vm (ha:PT X a tA) (hb:PW X (.BoolOp .Or (b :: rest) pos) tB'):PW X (.BoolOp .Or (a :: b :: rest) pos) (tOr tA tB'):=by
 intro wh pins s σ H Q I h
 refine isTrue_or (thn (ha pins s σ H _ I h) fun c s1 ⟨H1,I1,q1⟩=>?_)
 cases c with
 | true=>exact ⟨H1,I1,q1⟩
 | false=>exact hb wh pins s1 σ H1 Q I1 q1
theorem Tu (ha:PT X a tA):PT X (.UnaryOp .Not a pos) (V4 tA):=by
 intro pins s σ H Q I h
 exact isTrue_not (ha pins s σ H (fun c H1=>Q (!c) H1) I h)
noncomputable def Vn (ta tb:TE):TE:=fun σ H Q=>ta σ H fun x H1=>∃ c,x=.bl c/\if c=true then tb σ H1 Q else Q (.bl false) H1
noncomputable def V5 (ta tb:TE):TE:=fun σ H Q=>ta σ H fun x H1=>∃ c,x=.bl c/\if c=true then Q (.bl true) H1 else tb σ H1 Q
noncomputable def Vo (ta:TE):TE:=fun σ H Q=>ta σ H fun x H1=>∃ c,x=.bl c/\Q (.bl (!c)) H1
theorem Tv {op} {t:TE} (h:PE X a t):PE X (.BoolOp op [a] pos) t:=fun pins s σ H Q I hw=>BoolOp_one (h pins s σ H Q I hw)
theorem Tw (ha:PE X a ta) (hb:PE X (.BoolOp .And (b :: rest) pos) tb):PE X (.BoolOp .And (a :: b :: rest) pos) (Vn ta tb):=by
 intro pins s σ H Q I h
 refine BoolOp_and (thn (ha pins s σ H _ I h) fun v s1 ⟨x,H1,I1,r1,q1⟩=>?_)
 obtain ⟨c,rfl,q1⟩:=q1
 cases r1
 refine wpAny_truthy_bool ?_
 cases c with
 | true=>exact hb pins s1 σ H1 Q I1 q1
 | false=>exact ⟨.bl false,H1,I1,rfl,q1⟩
theorem Vp (ha:PE X a ta) (hb:PE X (.BoolOp .Or (b :: rest) pos) tb):PE X (.BoolOp .Or (a :: b :: rest) pos) (V5 ta tb):=by
 intro pins s σ H Q I h
 refine BoolOp_or (thn (ha pins s σ H _ I h) fun v s1 ⟨x,H1,I1,r1,q1⟩=>?_)
 obtain ⟨c,rfl,q1⟩:=q1
 cases r1
 refine wpAny_truthy_bool ?_
 cases c with
 | false=>exact hb pins s1 σ H1 Q I1 q1
 | true=>exact ⟨.bl true,H1,I1,rfl,q1⟩
theorem Tx (ha:PE X a ta):PE X (.UnaryOp .Not a pos) (Vo ta):=by
 intro pins s σ H Q I h
 refine UnaryOp_ (thn (ha pins s σ H _ I h) fun v s1 ⟨x,H1,I1,r1,q1⟩=>?_)
 obtain ⟨c,rfl,q1⟩:=q1
 cases r1
 exact not_of (wpAny_truthy_bool ⟨.bl (!c),H1,I1,rfl,q1⟩)
noncomputable def tIf (t:TT) (ta tb:TE):TE:=fun σ H Q=>t σ H fun c H1=>if c=true then ta σ H1 Q else tb σ H1 Q
theorem Pb {c:Expr} (hc:PT X c tA) (ha:PE X a ta) (hb:PE X b tb):PE X (.IfExp c a b pos) (tIf tA ta tb):=by
 intro pins s σ H Q I h
 refine wpAny_IfExp (thn (hc pins s σ H _ I h) fun d s1 ⟨H1,I1,q1⟩=>?_)
 cases d with
 | true=>exact ha pins s1 σ H1 Q I1 q1
 | false=>exact hb pins s1 σ H1 Q I1 q1
end
noncomputable def SqL (K:PySem.W.Frag) (H:Hp) (a:Addr) (xs:List V):Prop :=
 Rd H a (.lst xs) \/
  ∃ (o:Obj) (its:Array Value) (n:Nat),K.lookup a=some o/\o.cls=.type "list" /\ o.dict=none/\o.data=.seq its n/\its.size<=sizeLine/\Vals xs its.toList
noncomputable def SqT (K:PySem.W.Frag) (H:Hp) (a:Addr) (xs:List V):Prop :=
 Rd H a (.tup xs) \/
  ∃ (o:Obj) (its:Array Value) (n:Nat),K.lookup a=some o/\o.cls=.type "tuple" /\ o.data=.seq its n/\its.size<=sizeLine/\Vals xs its.toList
noncomputable def V6:Value->Option V
 | .none=>some .non
 | .bool b=>some (.bl b)
 | .int i _=>some (.int i)
 | .str x _=>some (.str x)
 | .bytes b _=>some (.byt b)
 | .float b _=>some (.flt b)
 | .ref a=>some (.ref a)
 | .type n=>some (.ty n)
 | _=>none
theorem RelV.abs {x:V} {u:Value} (r:RelV x u):V6 u=some x:=by
 cases x with
 | non=>cases r; rfl
 | bl _=>cases r; rfl
 | int _=>obtain ⟨t,rfl⟩:=r; rfl
 | str _=>obtain ⟨t,rfl⟩:=r; rfl
 | byt _=>obtain ⟨t,rfl⟩:=r; rfl
 | flt _=>obtain ⟨t,rfl⟩:=r; rfl
 | ref _=>cases r; rfl
 | ty _=>cases r; rfl
theorem RelV.inj {x y:V} {u:Value} (r:RelV x u) (q:RelV y u):x=y:=Option.some.inj (r.abs.symm.trans q.abs)
theorem Vals.inj:∀ {xs ys:List V} {us:List Value},Vals xs us->Vals ys us->xs=ys
 | _,_,_,.nil,.nil=>rfl
 | _,_,_,.cons r t,.cons r' t'=>by rw [r.inj r',Vals.inj t t']
section
variable {X:Cx} {pins:List (Addr × Obj)} {σ:St} {H:Hp} {s:Shared} {a:Addr} {xs ys:List V}
theorem SqL.of {K:PySem.W.Frag} (h:H a=some (.lst xs)):SqL K H a xs:=.inl (.inl h)
theorem SqT.of {K:PySem.W.Frag} (h:H a=some (.tup xs)):SqT K H a xs:=.inl (.inl h)
theorem Inv.list (I:Inv X pins σ H s) (h:SqL X.K H a xs):∃ its:List Value,Vals xs its/\PlainL s.heap a its.toArray/\xs.length<=sizeLine:=by
 rcases h with h | ⟨o,its,n,hk,hc,hd,hs,hz,r⟩
 ·obtain ⟨z,its,n,r,e⟩:=h.ok I.hok
  exact ⟨its,r,⟨_,n,e,rfl,rfl,rfl⟩,z⟩
 ·refine ⟨its.toList,r,⟨o,n,I.kIn a o hk,hc,hd,by simpa using hs⟩,?_⟩
  have e:=r.length
  simp only [Array.length_toList] at e
  omega
theorem Inv.tuple (I:Inv X pins σ H s) (h:SqT X.K H a xs):∃ its:List Value,Vals xs its/\IsTup s.heap a its.toArray/\xs.length<=sizeLine:=by
 rcases h with h | ⟨o,its,n,hk,hc,hs,hz,r⟩
 ·obtain ⟨z,its,r,p⟩:=h.ok I.hok
  exact ⟨its,r,p,z⟩
 ·refine ⟨its.toList,r,⟨o,I.kIn a o hk,hc,n,by simpa using hs⟩,?_⟩
  have e:=r.length
  simp only [Array.length_toList] at e
  omega
theorem Inv.list_inj (I:Inv X pins σ H s) (h:SqL X.K H a xs) (h':SqL X.K H a ys):xs=ys:=by
 obtain ⟨its,r,⟨o,n,e,_,_,d⟩,_⟩:=I.list h
 obtain ⟨its',r',⟨o',n',e',_,_,d'⟩,_⟩:=I.list h'
 rw [e] at e'; cases e'
 rw [d] at d'
 injection d' with d1 _
 have:its=its':=by simpa using congrArg Array.toList d1
 subst this
 exact r.inj r'
theorem Inv.tuple_inj (I:Inv X pins σ H s) (h:SqT X.K H a xs) (h':SqT X.K H a ys):xs=ys:=by
 obtain ⟨its,r,⟨o,e,_,n,d⟩,_⟩:=I.tuple h
 obtain ⟨its',r',⟨o',e',_,n',d'⟩,_⟩:=I.tuple h'
 rw [e] at e'; cases e'
 rw [d] at d'
 injection d' with d1 _
 have:its=its':=by simpa using congrArg Array.toList d1
 subst this
 exact r.inj r'
end
section
variable {X:Cx} {st:Stmt} {rest:List Stmt} {t u:TS} {e:Expr} {te:TE} {pos:Pos}
noncomputable def Vq:TS:=fun D σ H=>D.nx σ H
noncomputable def V7 (t u:TS):TS:=fun D σ H=>t { D with nx:=u D } σ H
theorem Rc:PSs X [] Vq:=fun _ _ σ H _ I h=>wpAny_execs_nil ⟨σ,H,I,h⟩
theorem Pc (h1:PS X st t) (h2:PSs X rest u):PSs X (st :: rest) (V7 t u):=by
 intro pins s σ H D I h
 refine wpAny_execs_cons (thn (h1 pins s σ H { D with nx:=u D } I h) fun f s1 q=>?_)
 cases f with
 | next =>
  obtain ⟨σ',H',I',q⟩:=q
  exact h2 pins s1 σ' H' D I' q
 | ret v=>exact q
 | brk=>exact q
 | cont=>exact q
theorem LE (h1:PS X st t):PSs X [st] t:=by
 intro pins s σ H D I h
 refine wpAny_execs_cons (thn (h1 pins s σ H D I h) fun f s1 q=>?_)
 cases f with
 | next=>exact wpAny_execs_nil q
 | ret v=>exact q
 | brk=>exact q
 | cont=>exact q
theorem Inv.quiet {pins:List (Addr × Obj)} {σ:St} {H:Hp} {s:Shared} (I:Inv X pins σ H s):interactive X.env=false:=by simp [interactive,I.ok.kind]
noncomputable def QP (te:TE):TS:=fun D σ H=>te σ H fun _ H1=>D.nx σ H1
theorem Eu (he:PE X e te) (hs:swapsWith e none pos.line X.env=pure false:=by rfl):PS X (.Expr e pos) (QP te):=by
 intro pins s σ H D I h
 exact wpAny_Expr_any (thn (he pins s σ H _ I h) fun v s1 ⟨x,H1,I1,r1,q1⟩=>⟨σ,H1,I1,q1⟩) I.quiet hs
noncomputable def V8 (te:TE):TS:=fun D σ H=>te σ H D.rt
theorem NH (he:PE X e te):PS X (.Return (some e) pos) (V8 te):=by
 intro pins s σ H D I h
 exact wpAny_Return_some (thn (he pins s σ H _ I h) fun v s1 ⟨x,H1,I1,r1,q1⟩=>⟨x,σ,H1,I1,r1,q1⟩)
noncomputable def Ty (c:TT) (t u:TS):TS:=fun D σ H=>c σ H fun b H1=>if b=true then t D σ H1 else u D σ H1
theorem Vr {c:Expr} {a b:List Stmt} {tc:TT} (hc:PT X c tc) (ha:PSs X a t) (hb:PSs X b u):PS X (.If c a b pos) (Ty tc t u):=by
 intro pins s σ H D I h
 refine wpAny_If (thn (hc pins s σ H _ I h) fun d s1 ⟨H1,I1,q1⟩=>?_)
 cases d with
 | true=>exact ha pins s1 σ H1 D I1 q1
 | false=>exact hb pins s1 σ H1 D I1 q1
end
noncomputable abbrev TG:=V->St->Hp->(St->Hp->Prop)->Prop
noncomputable abbrev TGs:=List V->St->Hp->(St->Hp->Prop)->Prop
noncomputable def PG (X:Cx) (target:Expr) (t:TG):Prop :=
 ∀ (pins:List (Addr × Obj)) (s:Shared) (σ:St) (H:Hp) (v:V) (u:Value) (Q:St->Hp->Prop),Inv X pins σ H s->RelV v u->t v σ H Q ->
  wpAny (model X.prog X.w) X.A (assign target X.env u) (fun _ s'=>∃ σ' H',Inv X pins σ' H' s'/\Q σ' H') X.xe s
noncomputable def PGs (X:Cx) (ts:List Expr) (t:TGs):Prop :=
 ∀ (pins:List (Addr × Obj)) (s:Shared) (σ:St) (H:Hp) (vs:List V) (us:List Value) (Q:St->Hp->Prop),Inv X pins σ H s->Vals vs us->t vs σ H Q ->
  wpAny (model X.prog X.w) X.A (assignInOrder ((assignEach ts X.env).map (·.2)) us) (fun _ s'=>∃ σ' H',Inv X pins σ' H' s'/\Q σ' H') X.xe s
noncomputable abbrev Pd:=V->V->V->Hp->(Hp->Prop)->Prop
noncomputable def Tz (X:Cx) (t:Pd):Prop :=
 ∀ (pins:List (Addr × Obj)) (s:Shared) (σ:St) (H:Hp) (o i v:V) (ov iv u:Value) (Q:Hp->Prop),Inv X pins σ H s->RelV o ov->RelV i iv->RelV v u->t o i v H Q ->
  wpAny (model X.prog X.w) X.A (setItem ov iv u) (fun _ s'=>∃ H',Inv X pins σ H' s'/\Q H') X.xe s
section
variable {X:Cx} {pos:Pos}
noncomputable def ET (i:Nat):TG:=fun v σ H Q=>Q (σ.set i (some v)) H
theorem LF {i:Nat} {x:Str} (hN:X.N.Nodup) (hi:X.N[i]?=some x) (hx:Loc X.env.scope x) (hf:X.fn x=true\/X.env.scope.names.lookup x=some .local:=by first | exact .inl rfl | exact .inr rfl | assumption):PG X (.Name x pos) (ET i):=by
 intro pins s σ H v u Q I r h
 exact wpAny_assign_Name (JY I hN hi hx r (fun s' I'=>⟨_,H,I',h⟩) hf)
noncomputable def TB:TGs:=fun vs σ H Q=>vs=[]/\Q σ H
noncomputable def QQ (t:TG) (u:TGs):TGs:=fun vs σ H Q=>∃ v r,vs=v :: r/\t v σ H fun σ' H'=>u r σ' H' Q
theorem Re:PGs X [] TB:=by
 intro pins s σ H vs us Q I r h
 obtain ⟨e,h⟩:=h
 subst e
 cases r
 exact assignInOrder_nil ⟨σ,H,I,h⟩
theorem Pe {e:Expr} {es:List Expr} {t:TG} {u:TGs} (h1:PG X e t) (h2:PGs X es u)
  (hs:(assignEach (e :: es) X.env).map (·.2)=assign e X.env :: (assignEach es X.env).map (·.2):=by rfl):PGs X (e :: es) (QQ t u):=by
 intro pins s σ H vs us Q I r h
 obtain ⟨v,vr,e1,h⟩:=h
 subst e1
 cases r with
 | cons r rr =>
  rw [hs]
  refine assignInOrder_cons (thn (h1 pins s σ H _ _ _ I r h) fun _ s1 ⟨σ1,H1,I1,q1⟩=>?_)
  exact h2 pins s1 σ1 H1 _ _ Q I1 rr q1
noncomputable def TC (K:PySem.W.Frag) (n:Nat) (t:TGs):TG:=fun v σ H Q=>∃ a xs,v=.ref a/\SqT K H a xs/\xs.length=n/\t xs σ H Q
theorem TD {es:List Expr} {k:Nat} {t:TGs} {n:Nat} (hc:X.calm=true) (h:PGs X es t)
  (hn:(assignEach es X.env).length=n:=by rfl) (hst:(assignEach es X.env).findIdx? (·.1)=none:=by rfl):PG X (.Tuple es k pos) (TC X.K n t):=by
 intro pins s σ H v u Q I r hw
 obtain ⟨a,xs,e1,hq,hl,hw⟩:=hw
 subst e1
 cases r
 obtain ⟨its,rv,ht,hz⟩:=I.tuple hq
 refine assign_Tuple_tuple (I.ok.hd hc) ht (by simp [hn,<- hl,rv.length]) hst fun h' hx=>?_
 have I1:Inv X pins σ H { s with heap:=h' }:=I.kept (t':=s.toks) fun b o e=>hx b o (aaF (Heap.lt_size e)) e
 exact h pins _ σ H xs _ Q I1 (by simpa using rv) hw
noncomputable def TF (to ti:TE) (t:Pd):TG:=fun v σ H Q=>to σ H fun o H1=>ti σ H1 fun i H2=>t o i v H2 fun H3=>Q σ H3
theorem TH {o i:Expr} {to ti:TE} {t:Pd} (ho:PE X o to) (hi:PE X i ti) (hs:Tz X t)
  (ha:∀ v,assign (.Subscript o i pos) X.env v=(do
   let ov <- holding [v] (eval o X.env)
   let iv <- holding [v,ov] (eval i X.env)
   standAt pos
   holding [v,ov,iv] (setItem ov iv v)
   release [v,ov,iv] []):=by intro _; rfl):PG X (.Subscript o i pos) (TF to ti t):=by
 intro pins s σ H v u Q I r h
 rw [ha]
 refine wpAny_bind (wpAny_holding (thn (ho pins s σ H _ I h) fun ov s1 ⟨x,H1,I1,r1,q1⟩=>?_))
 refine wpAny_bind (wpAny_holding (thn (hi pins s1 σ H1 _ I1 q1) fun iv s2 ⟨y,H2,I2,r2,q2⟩=>?_))
 refine wpAny_bind (wpAny_standAt (wpAny_bind (wpAny_holding (thn (hs pins s2 σ H2 x y v ov iv u _ I2 r1 r2 r q2) fun _ s3 ⟨H3,I3,q3⟩=>?_))))
 exact wpAny_release ⟨σ,H3,I3,q3⟩
noncomputable def F9 (te:TE) (g:TG):TS:=fun D σ H=>te σ H fun x H1=>g x σ H1 D.nx
theorem J0 {tg e:Expr} {te:TE} {g:TG} (he:PE X e te) (hg:PG X tg g) (hs:swapsWithSole [tg] e pos.line X.env=pure false:=by rfl) (hw:swappedStores [tg] e X.env=pure none:=by rfl)
  (h1:(assignEach [tg] X.env).map (·.2)=[assign tg X.env]:=by rfl):PS X (.Assign [tg] e pos) (F9 te g):=by
 intro pins s σ H D I h
 refine wpAny_Assign_stores (thn (he pins s σ H _ I h) fun v s1 ⟨x,H1,I1,r1,q1⟩=>?_) hs hw
 rw [h1]
 exact thn (hg pins s1 σ H1 x v _ I1 r1 q1) fun _ s2 q=>q
theorem NI {i:Nat} {x:Str} {e:Expr} {te:TE} {pos':Pos} (hN:X.N.Nodup) (hi:X.N[i]?=some x) (hx:Loc X.env.scope x) (he:PE X e te) (hs:swapsWith e (some (.Name x pos')) pos.line X.env=pure false:=by rfl) (hf:X.fn x=true\/X.env.scope.names.lookup x=some .local:=by first | exact .inl rfl | exact .inr rfl | assumption) :
  PS X (.Assign [.Name x pos'] e pos) (F9 te (ET i)):=by
 intro pins s σ H D I h
 refine wpAny_Assign_Name (thn (he pins s σ H _ I h) fun v s1 ⟨y,H1,I1,r1,q1⟩=>?_) hs
 exact JY I1 hN hi hx r1 (fun s2 I2=>⟨_,H1,I2,q1⟩) hf
end
section
variable {X:Cx} {pos:Pos}
noncomputable def NJ (c:TT) (tb:TS):TS:=fun D σ H=>∃ W:Nat->St->Hp->Prop,(∃ m,W m σ H)/\∀ m σ H,W m σ H ->
 c σ H fun b H1=>if b=true then ∃ N:St->Hp->Prop,(∀ σ' H',N σ' H'->∃ m',m' < m/\W m' σ' H')/\tb { D with nx:=N,ct:=N,bk:=D.nx } σ H1 else D.nx σ H1
theorem Pf {c:Expr} {body:List Stmt} {tc:TT} {tb:TS} (hp:PassesOwn (model X.prog X.w) X.A X.env X.xe) (hc:PT X c tc) (hb:PSs X body tb):PS X (.While c body [] pos) (NJ tc tb):=by
 intro pins s σ H D I h
 obtain ⟨W,⟨m0,w0⟩,turn⟩:=h
 refine wpAny_While (codeAny_whileLoop (fun n s'=>∃ σ' H',Inv X pins σ' H' s'/\W n σ' H') ?_ m0 ⟨σ,H,I,w0⟩)
 rintro n s1 ⟨σ1,H1,I1,w1⟩
 refine wpAny_passesOwn hp (thn (hc pins s1 σ1 H1 _ I1 (turn n σ1 H1 w1)) fun b s2 ⟨H2,I2,q2⟩=>?_)
 cases b with
 | true =>
  obtain ⟨N,hN,q2⟩:=q2
  rw [if_pos rfl]
  refine wpAny_passesOwn hp (thn (hb pins s2 σ1 H2 _ I2 q2) fun f s3 q3=>?_)
  cases f with
  | next =>
   obtain ⟨σ3,H3,I3,n3⟩:=q3
   obtain ⟨m',hm,w3⟩:=hN σ3 H3 n3
   exact ⟨m',hm,σ3,H3,I3,w3⟩
  | cont =>
   obtain ⟨σ3,H3,I3,n3⟩:=q3
   obtain ⟨m',hm,w3⟩:=hN σ3 H3 n3
   exact ⟨m',hm,σ3,H3,I3,w3⟩
  | brk=>exact q3
  | ret v=>exact q3
 | false =>
  rw [if_neg aa0]
  exact wpAny_execs_nil ⟨σ1,H2,I2,q2⟩
end
structure It where
 go:Nat->Hp->Prop
 yld:Nat->Hp->V->Hp->Prop
 stop:Nat->Hp->Prop
noncomputable def FpOk (X:Cx) (pins:List (Addr × Obj)) (H:Hp) (b:Addr):Prop :=
 H b=none/\b ≠ X.env.locals/\b ∉ X.fs/\(b ∈ X.ex\/X.s₀.heap.objs.size<=b)/\(∀ x c,X.env.cells.lookup x=some c->c ≠ b)/\∀ p ∈ X.pn ++ pins,p.1 ≠ b
theorem Inv.fpOk {X:Cx} {pins:List (Addr × Obj)} {σ:St} {H H':Hp} {s:Shared} {b:Addr} (I:Inv X pins σ H s) (hb:s.heap.objs.size<=b) (hn:H' b=none):FpOk X pins H' b:=by
 refine ⟨hn,abz (aas I.lt hb),I.nofs hb,.inr (aao I.sz hb),fun x c e z=>?_,fun p hp z=>?_⟩
 ·obtain ⟨v,q⟩:=I.cell x c e
  exact absurd (aas q.lt (by rw [z]; exact hb)) (aaU _)
 ·exact absurd (aas (Heap.lt_size (I.pin p hp).1) (by rw [z]; exact hb)) (aaU _)
structure Turn (P:Program) (w:World) (K:PySem.W.Frag) (tg:Expr) (J:It) (fp:List Addr) (it:Addr) (tn:Nat->Heap->Prop):Prop where
 mem:it ∈ fp
 obj:∀ i h,tn i h->∀ b ∈ fp,∃ o,h.get? b=some o/\∀ v,o.data ≠ .cell v
 keep:∀ i h h',tn i h->(∀ b ∈ fp,∀ o,h.get? b=some o->h'.get? b=some o)->tn i h'
 item:∀ (X:Cx),X.prog=P->X.w=w->X.K=K->X.calm=true->∀ (i:Nat) (pins:List (Addr × Obj)) (s:Shared) (σ:St) (H:Hp) (E:Value->Shared->Prop),Inv X pins σ H s->(∀ b ∈ fp,FpOk X pins H b)->tn i s.heap->J.go i H ->
  wpAny (model P w) X.A (pyNext (.ref it)) (fun r s1=>∃ u,r=some u /\
   wpAny (model P w) X.A (letOwnedTupleGo tg (.ref it) u) (fun _ s2=>∃ x H',Inv X pins σ H' s2/\RelV x u/\J.yld i H x H'/\tn (i + 1) s2.heap/\∀ b ∈ fp,H' b=none) E s1) E s
 done:∀ (X:Cx),X.prog=P->X.w=w->X.K=K->X.calm=true->∀ (i:Nat) (pins:List (Addr × Obj)) (s:Shared) (σ:St) (H:Hp) (E:Value->Shared->Prop),Inv X pins σ H s->(∀ b ∈ fp,FpOk X pins H b)->tn i s.heap->J.stop i H ->
  wpAny (model P w) X.A (pyNext (.ref it)) (fun r s1=>r=none/\Inv X pins σ H s1) E s
 self:∀ (A:Around) (i:Nat) (s:Shared) (Q:Value->Shared->Prop) (E:Value->Shared->Prop),tn i s.heap->Q (.ref it) s->wpAny (model P w) A (pyIter (.ref it)) Q E s
noncomputable abbrev TI:=St->Hp->(It->Hp->Prop)->Prop
noncomputable def PIE (X:Cx) (pins:List (Addr × Obj)) (σ:St) (tg:Expr) (R:It->Hp->Prop) (itv:Value) (s2:Shared):Prop :=
 ∃ (it:Addr) (fp:List Addr) (tn:Nat->Heap->Prop) (J:It) (H':Hp),itv=.ref it/\Inv X pins σ H' s2/\Turn X.prog X.w X.K tg J fp it tn/\tn 0 s2.heap/\(∀ b ∈ fp,FpOk X pins H' b)/\R J H'
noncomputable def PI (X:Cx) (tg iter:Expr) (wi:TI):Prop :=
 ∀ (pins:List (Addr × Obj)) (s:Shared) (σ:St) (H:Hp) (R:It->Hp->Prop),Inv X pins σ H s->wi σ H R ->
  wpAny (model X.prog X.w) X.A (eval iter X.env) (fun v s1=>wpAny (model X.prog X.w) X.A (pyIter v) (PIE X pins σ tg R) X.xe s1) X.xe s
theorem HM {M:Model} {A:Around} {E:Value->Shared->Prop} {s:Shared} {tg:Expr} {it:Addr} {u:Value} {o:Obj} {n:String} {vs:Array Value} {Q:Unit->Shared->Prop} (ho:s.heap.get? it=some o) (hc:o.cls=.type n) (hd:o.data=.fields vs)
  (hn:["enumerate", "zip", "dict_itemiterator", "dict_reverseitemiterator", "odict_iterator", "itertools.zip_longest", "itertools.pairwise"].contains n=false) (hQ:Q () s):wpAny M A (letOwnedTupleGo tg (.ref it) u) Q E s:=by
 unfold letOwnedTupleGo
 cases tg <;> first
  | exact wpAny_pure hQ
  | (cases u <;> first
    | exact wpAny_pure hQ
    | (refine wpAny_bind (wpAny_load ho ?_)
       rw [hc,hd]
       show wpAny M A (if (["enumerate", "zip", "dict_itemiterator", "dict_reverseitemiterator", "odict_iterator", "itertools.zip_longest", "itertools.pairwise"].contains n && vs[0]?==some (rawInt _))=true then _ else _) Q E s
       rw [if_neg (by intro h; rw [hn,acJ] at h; cases h)]
       exact wpAny_pure hQ))
noncomputable def Itl (K:PySem.W.Frag) (a:Addr):It :=
 ⟨fun i H=>∃ xs x,SqL K H a xs/\xs[i]?=some x,fun i H x H'=>H'=H/\∀ xs,SqL K H a xs->xs[i]?=some x,fun i H=>∃ xs,SqL K H a xs/\xs.length<=i⟩
noncomputable def Itt (K:PySem.W.Frag) (a:Addr):It :=
 ⟨fun i H=>∃ xs x,SqT K H a xs/\xs[i]?=some x,fun i H x H'=>H'=H/\∀ xs,SqT K H a xs->xs[i]?=some x,fun i H=>∃ xs,SqT K H a xs/\xs.length<=i⟩
noncomputable def Itr (lo:Int) (n:Nat):It:=⟨fun i _=>i < n,fun i H x H'=>H'=H/\x=.int (lo + i),fun i _=>n<=i⟩
theorem NK {P:Program} {w:World} {K:PySem.W.Frag} {tg:Expr} (a it:Addr):Turn P w K tg (Itl K a) [it] it (fun i h=>h.IsListIter it a i) where
 mem:=by simp
 obj:=fun i h st b hb=>by
  have e:b=it:=by simpa using hb
  subst e
  obtain ⟨o,e,c,d⟩:=st
  exact ⟨o,e,fun v z=>by rw [d] at z; cases z⟩
 keep:=fun i h h' st k=>st.at fun o e=>k it (by simp) o e
 item:=by
  intro X hP hw hK hc i pins s σ H E I hf st hg
  subst hP hw hK
  obtain ⟨xs,x,hq,hx⟩:=hg
  obtain ⟨its,rv,p,hz⟩:=I.list hq
  obtain ⟨u,hu,ru⟩:=rv.get hx
  obtain ⟨f0,f1,f2,f3,f4,f5⟩:=hf it (by simp)
  refine wpAny_pyNext_list_item st p.isList (x:=u) (by simpa using hu) fun h' st' sb=>?_
  have I1:Inv X pins σ H { s with heap:=h' }:=I.turned (t':=s.toks) (fun b o hb e=>(sb.2 b hb).trans e) f0 f1 f3 f4 f5
  obtain ⟨o,e,c,d⟩:=id st'
  exact ⟨u,rfl,HM (s:={ s with heap:=h' }) e c d (by decide) ⟨x,H,I1,ru,⟨rfl,fun ys hy=>by rw [I.list_inj hy hq]; exact hx⟩,st',fun b hb=>(hf b hb).1⟩⟩
 done:=by
  intro X hP hw hK hc i pins s σ H E I hf st hg
  subst hP hw hK
  obtain ⟨xs,hq,hx⟩:=hg
  obtain ⟨its,rv,p,hz⟩:=I.list hq
  obtain ⟨f0,f1,f2,f3,f4,f5⟩:=hf it (by simp)
  have hl:=rv.length
  exact wpAny_pyNext_list_end (I.ok.hd hc) st p.isList (by simp; omega) fun h' eb=>⟨rfl,I.turned (t':=s.toks) (fun b o hb e=>eb b o hb e) f0 f1 f3 f4 f5⟩
 self:=fun _ _ _ _ _ st h=>wpAny_pyIter_listiter st h
theorem MA {P:Program} {w:World} {K:PySem.W.Frag} {tg:Expr} (a it:Addr):Turn P w K tg (Itt K a) [it] it (fun i h=>h.IsTupleIter it a i) where
 mem:=by simp
 obj:=fun i h st b hb=>by
  have e:b=it:=by simpa using hb
  subst e
  obtain ⟨o,e,c,d⟩:=st
  exact ⟨o,e,fun v z=>by rw [d] at z; cases z⟩
 keep:=fun i h h' st k=>st.at fun o e=>k it (by simp) o e
 item:=by
  intro X hP hw hK hc i pins s σ H E I hf st hg
  subst hP hw hK
  obtain ⟨xs,x,hq,hx⟩:=hg
  obtain ⟨its,rv,p,hz⟩:=I.tuple hq
  obtain ⟨u,hu,ru⟩:=rv.get hx
  obtain ⟨f0,f1,f2,f3,f4,f5⟩:=hf it (by simp)
  refine wpAny_pyNext_tuple_item st (show s.heap.IsTuple a its.toArray from p) (x:=u) (by simpa using hu) fun h' st' sb=>?_
  have I1:Inv X pins σ H { s with heap:=h' }:=I.turned (t':=s.toks) (fun b o hb e=>(sb.2 b hb).trans e) f0 f1 f3 f4 f5
  obtain ⟨o,e,c,d⟩:=id st'
  exact ⟨u,rfl,HM (s:={ s with heap:=h' }) e c d (by decide) ⟨x,H,I1,ru,⟨rfl,fun ys hy=>by rw [I.tuple_inj hy hq]; exact hx⟩,st',fun b hb=>(hf b hb).1⟩⟩
 done:=by
  intro X hP hw hK hc i pins s σ H E I hf st hg
  subst hP hw hK
  obtain ⟨xs,hq,hx⟩:=hg
  obtain ⟨its,rv,p,hz⟩:=I.tuple hq
  obtain ⟨f0,f1,f2,f3,f4,f5⟩:=hf it (by simp)
  have hl:=rv.length
  exact wpAny_pyNext_tuple_end (I.ok.hd hc) st (show s.heap.IsTuple a its.toArray from p) (by simp; omega) fun h' eb=>⟨rfl,I.turned (t':=s.toks) (fun b o hb e=>eb b o hb e) f0 f1 f3 f4 f5⟩
 self:=fun _ _ _ _ _ st h=>wpAny_pyIter_tupleiter st h
theorem MB {P:Program} {w:World} {K:PySem.W.Frag} {tg:Expr} (it:Addr) (lo:Int) (n:Nat):Turn P w K tg (Itr lo n) [it] it (fun i h=>IsRangeIter h it (lo + (i:Nat) * 1) ((n:Int) - (i:Nat)) 1) where
 mem:=by simp
 obj:=fun i h st b hb=>by
  have e:b=it:=by simpa using hb
  subst e
  exact ⟨_,st,fun v z=>by
   have z':Data.fields _=Data.cell v:=z
   cases z'⟩
 keep:=fun i h h' st k=>k it (by simp) _ st
 item:=by
  intro X hP hw hK hc i pins s σ H E I hf st hg
  subst hP hw hK
  obtain ⟨f0,f1,f2,f3,f4,f5⟩:=hf it (by simp)
  have W:=Walks.range (prog:=X.prog) (w:=X.w) (I.ok.hd hc) it lo 1 n
  refine W.item i s _ _ hg st fun v h' tk hv st' kk=>?_
  obtain ⟨t,rfl⟩:=hv
  have I1:Inv X pins σ H { s with heap:=h',toks:=tk }:=I.turned (fun b o hb e=>kk b o (by simpa using hb) e) f0 f1 f3 f4 f5
  refine ⟨_,rfl,HM (s:={ s with heap:=h',toks:=tk }) (n := "range_iterator") st' rfl rfl (by decide) ⟨.int (lo + i),H,I1,⟨t,?_⟩,⟨rfl,rfl⟩,st',fun b hb=>(hf b hb).1⟩⟩
  rw [Int.mul_one]
 done:=by
  intro X hP hw hK hc i pins s σ H E I hf st hg
  subst hP hw hK
  obtain ⟨f0,f1,f2,f3,f4,f5⟩:=hf it (by simp)
  exact wpAny_pyNext_range_end (I.ok.hd hc) st (by have:n<=i:=hg; omega) fun h' eb=>⟨rfl,I.turned (t':=s.toks) (fun b o hb e=>eb b o hb e) f0 f1 f3 f4 f5⟩
 self:=fun _ _ _ _ _ st h=>wpAny_pyIter_rangeiter st h
section
variable {X:Cx} {tg:Expr}
theorem J1 {pins:List (Addr × Obj)} {σ:St} {H:Hp} {s:Shared} {R:It->Hp->Prop} {E:Value->Shared->Prop} {lo hi:Int} {t u v:Tok} {tk:Nat} (I:Inv X pins σ H s) (h1:-(2 ^ 62)<=lo) (h2:lo < 2 ^ 62) (h3:-(2 ^ 62)<=hi) (h4:hi < 2 ^ 62)
  (q:R (Itr lo (hi - lo).toNat) H):wpAny (model X.prog X.w) X.A (pyIter (.ref s.heap.objs.size)) (PIE X pins σ tg R) E { s with heap:=s.heap.push { cls:=.type "range",data:=.fields #[.int lo t,.int hi u,.int 1 v] },toks:=tk }:=by
 refine wpAny_pyIter_range (IsRange.new ..) (small_one h1 h2 h3 h4) ?_
 have I1:Inv X pins σ H { s with heap:=s.heap.push { cls:=.type "range",data:=.fields #[.int lo t,.int hi u,.int 1 v] },toks:=tk }:=I.kept fun b o e=>Heap.get?_push_of_some _ e
 refine ⟨(s.heap.push { cls:=.type "range",data:=.fields #[.int lo t,.int hi u,.int 1 v] }).objs.size,[(s.heap.push { cls:=.type "range",data:=.fields #[.int lo t,.int hi u,.int 1 v] }).objs.size],_,_,H,rfl,
  I1.kept (t':=tk) fun b o e=>Heap.get?_push_of_some _ e,MB _ lo (hi - lo).toNat,?_,fun b hb=>?_,q⟩
 ·have e1:lo + ((0:Nat):Int) * 1=lo:=by simp
  have e2:(((hi - lo).toNat:Nat):Int) - ((0:Nat):Int)=Builtin.Range.rangeSize lo hi 1:=by rw [rangeSize_one]; split <;> omega
  show IsRangeIter _ _ (lo + ((0:Nat):Int) * 1) ((((hi - lo).toNat:Nat):Int) - ((0:Nat):Int)) 1
  rw [e1,e2]
  exact Heap.get?_push_size _ rfl
 ·have e:b=(s.heap.push { cls:=.type "range",data:=.fields #[.int lo t,.int hi u,.int 1 v] }).objs.size:=by simpa using hb
  subst e
  exact I1.fpOk (aag _) (I1.hok.fresh (aag _))
noncomputable def Vs (ta:TA):TI:=fun σ H R=>ta σ H fun vs H1=>∃ j:Int,vs=[.int j]/\-(2 ^ 62)<=j/\j < 2 ^ 62/\R (Itr 0 j.toNat) H1
noncomputable def Vt (ta:TA):TI:=fun σ H R=>ta σ H fun vs H1=>∃ i j:Int,vs=[.int i,.int j]/\(-(2 ^ 62)<=i/\i < 2 ^ 62/\-(2 ^ 62)<=j/\j < 2 ^ 62)/\R (Itr i (j - i).toNat) H1
theorem NL {a:Expr} {ta:TA} {p pos:Pos} (hg:Gl X "range") (hm:X.mg "range" = none) (ha:PA X [a] ta) (hs:starEach [a] X.env=[(false,eval a X.env)]:=by rfl):PI X tg (.Call (.Name "range" p) [a] [] pos) (Vs ta):=by
 intro pins s σ H R I h
 refine Call_ (Bq I hg hm boot_range (PyProof.Rows.callWith_type1 (thn (ha pos pins s σ H _ I h) fun us s1 ⟨vs,H1,I1,r1,q1⟩=>?_) hs rfl))
 obtain ⟨j,e,q1,q2,q⟩:=q1
 subst e
 cases r1 with
 | cons r rr =>
  cases rr
  obtain ⟨t,rfl⟩:=r
  exact call_range_1 (J1 I1 (by omega) (by omega) q1 q2 (by simpa using q))
theorem NM {a b:Expr} {ta:TA} {p pos:Pos} (hg:Gl X "range") (hm:X.mg "range" = none) (ha:PA X [a,b] ta) (hs:starEach [a,b] X.env=[(false,eval a X.env),(false,eval b X.env)]:=by rfl) (hs2:starEach [b] X.env=[(false,eval b X.env)]:=by rfl) :
  PI X tg (.Call (.Name "range" p) [a,b] [] pos) (Vt ta):=by
 intro pins s σ H R I h
 refine Call_ (Bq I hg hm boot_range (PyProof.Rows.callWith_type1 (thn (ha pos pins s σ H _ I h) fun us s1 ⟨vs,H1,I1,r1,q1⟩=>?_) (by rw [hs,hs2]) (by rw [hs2]; rfl)))
 obtain ⟨i,j,e,⟨q1,q2,q3,q4⟩,q⟩:=q1
 subst e
 cases r1 with
 | cons r rr =>
  cases rr with
  | cons r' rr =>
   cases rr
   obtain ⟨t,rfl⟩:=r
   obtain ⟨t',rfl⟩:=r'
   exact call_range_2 (J1 I1 q1 q2 q3 q4 q)
noncomputable def TJ (wi:TI) (g:TG) (tb:TS):TS:=fun D σ H=>wi σ H fun J H1=>∃ W:Nat->Nat->St->Hp->Prop,(∃ m,W 0 m σ H1)/\∀ i m σ H,W i m σ H ->
 (J.stop i H/\D.nx σ H)\/(J.go i H/\∃ N:St->Hp->Prop,(∀ σ' H',N σ' H'->∃ m',m' < m/\W (i + 1) m' σ' H')/\∀ x H',J.yld i H x H'->g x σ H' fun σ2 H2=>tb { D with nx:=N,ct:=N,bk:=D.nx } σ2 H2)
noncomputable def Fo (fp:List Addr) (h:Heap):List (Addr × Obj):=fp.filterMap fun b=>(h.get? b).map fun o=>(b,o)
theorem CD {fp:List Addr} {h:Heap} {b:Addr} {o:Obj} (hb:b ∈ fp) (e:h.get? b=some o):(b,o) ∈ Fo fp h:=aaQ.mpr ⟨b,hb,by rw [e]; rfl⟩
theorem NN {fp:List Addr} {h:Heap} {p:Addr × Obj} (hp:p ∈ Fo fp h):p.1 ∈ fp/\h.get? p.1=some p.2:=by
 obtain ⟨b,hb,e⟩:=aaQ.mp hp
 cases q:h.get? b with
 | none=>rw [q] at e; cases e
 | some o =>
  rw [q] at e
  have e':(b,o)=p:=Option.some.inj e
  subst e'
  exact ⟨hb,q⟩
theorem Inv.pinned {pins:List (Addr × Obj)} {σ:St} {H:Hp} {s:Shared} {fp:List Addr} (I:Inv X pins σ H s) (hf:∀ b ∈ fp,FpOk X pins H b) (ho:∀ b ∈ fp,∃ o,s.heap.get? b=some o/\∀ v,o.data ≠ .cell v):Inv X (pins ++ Fo fp s.heap) σ H s :=
 I.pins_of fun p hp=>(aai.mp hp).elim (fun z=>I.pin p (aak _ z)) fun z=>by
  obtain ⟨hb,e⟩:=NN z
  obtain ⟨f0,f1,f2,_⟩:=hf p.1 hb
  obtain ⟨o,e',d⟩:=ho p.1 hb
  rw [e] at e'; cases e'
  exact ⟨e,f0,f1,f2,d⟩
theorem Inv.unpinned {pins pl:List (Addr × Obj)} {σ:St} {H:Hp} {s:Shared} (I:Inv X (pins ++ pl) σ H s):Inv X pins σ H s:=I.pins_of fun p hp=>I.pin p (aak _ (aaw _ hp))
theorem J2 {iter:Expr} {body:List Stmt} {wi:TI} {g:TG} {tb:TS} {pos:Pos} (hp:PassesOwn (model X.prog X.w) X.A X.env X.xe) (hc:X.calm=true) (hi:PI X tg iter wi) (hg:PG X tg g) (hb:PSs X body tb)
  (hs:∀ x,foldedSetIterable iter X.env x=pure x:=by intro _; rfl):PS X (.For tg iter body [] pos) (TJ wi g tb):=by
 intro pins s σ H D I h
 refine wpAny_For (thn (hi pins s σ H _ I h) fun v s1 h1=>thn h1 fun itv s2 h2=>?_) hs
 obtain ⟨it,fp,tn,J,H2,e,I2,T,st2,f2,W,⟨m0,w0⟩,turn⟩:=h2
 subst e
 have stat:∀ {H':Hp},(∀ b ∈ fp,H' b=none)->∀ b ∈ fp,FpOk X pins H' b:=fun hn b hb=>⟨hn b hb,(f2 b hb).2⟩
 refine codeAny_forLoop_any (fun n s'=>∃ i σ' H',Inv X pins σ' H' s'/\tn i s'.heap/\(∀ b ∈ fp,H' b=none)/\W i n σ' H') ?_ m0 ⟨0,σ,H2,I2,st2,fun b hb=>(f2 b hb).1,w0⟩
 rintro n s3 ⟨i,σ3,H3,I3,st3,fr3,w3⟩
 rcases turn i n σ3 H3 w3 with ⟨stop,qn⟩ | ⟨go,N,hN,step⟩
 ·refine wpAny_passesOwn hp (thn (T.done X rfl rfl rfl hc i pins s3 σ3 H3 X.xe I3 (stat fr3) st3 stop) fun r s4 ⟨hr,I4⟩=>?_)
  subst hr
  exact wpAny_execs_nil ⟨σ3,H3,I4,qn⟩
 ·refine wpAny_passesOwn hp (thn (T.item X rfl rfl rfl hc i pins s3 σ3 H3 X.xe I3 (stat fr3) st3 go) fun r s4 ⟨u,hr,h4⟩=>?_)
  subst hr
  refine wpAny_passesOwn hp (thn h4 fun _ s5 ⟨x,H5,I5,r5,y5,st5,fr5⟩=>?_)
  have I5':=I5.pinned (stat fr5) (T.obj _ _ st5)
  refine wpAny_passesOwn hp (thn (hg _ s5 σ3 H5 x u _ I5' r5 (step x H5 y5)) fun _ s6 ⟨σ6,H6,I6,q6⟩=>?_)
  refine wpAny_passesOwn hp (thn (hb _ s6 σ6 H6 _ I6 q6) fun f s7 q7=>?_)
  have again:∀ {σ7:St} {H7:Hp},Inv X (pins ++ Fo fp s5.heap) σ7 H7 s7->N σ7 H7->∃ m,m < n/\∃ i σ' H',Inv X pins σ' H' s7/\tn i s7.heap/\(∀ b ∈ fp,H' b=none)/\W i m σ' H':=fun {σ7 H7} I7 n7=>by
   obtain ⟨m',hm,w7⟩:=hN σ7 H7 n7
   refine ⟨m',hm,i + 1,σ7,H7,I7.unpinned,T.keep _ _ _ st5 fun b hb o e=>(I7.pin (b,o) (aak _ (aak _ (CD hb e)))).1,fun b hb=>?_,w7⟩
   obtain ⟨o,e,d⟩:=T.obj _ _ st5 b hb
   exact (I7.pin (b,o) (aak _ (aak _ (CD hb e)))).2.1
  cases f with
  | next=>obtain ⟨σ7,H7,I7,n7⟩:=q7; exact again I7 n7
  | cont=>obtain ⟨σ7,H7,I7,n7⟩:=q7; exact again I7 n7
  | brk=>obtain ⟨σ7,H7,I7,q7⟩:=q7; exact ⟨σ7,H7,I7.unpinned,q7⟩
  | ret v=>obtain ⟨x7,σ7,H7,I7,r7,q7⟩:=q7; exact ⟨x7,σ7,H7,I7.unpinned,r7,q7⟩
end
noncomputable abbrev R2:=V->V->Hp->VK->Prop
noncomputable def OpR (X:Cx) (f:Value->Value->Sem Value) (r:R2):Prop :=
 ∀ (pins:List (Addr × Obj)) (s:Shared) (σ:St) (H:Hp) (x y:V) (v u:Value) (Q:VK),Inv X pins σ H s->RelV x v->RelV y u->r x y H Q ->
  wpAny (model X.prog X.w) X.A (f v u) (EP X pins σ Q) X.xe s
noncomputable def UnR (X:Cx) (f:Value->Sem Value) (r:V->Hp->VK->Prop):Prop :=
 ∀ (pins:List (Addr × Obj)) (s:Shared) (σ:St) (H:Hp) (x:V) (v:Value) (Q:VK),Inv X pins σ H s->RelV x v->r x H Q ->
  wpAny (model X.prog X.w) X.A (f v) (EP X pins σ Q) X.xe s
noncomputable def DV (X:Cx) (f:Value) (r:List V->Hp->VK->Prop):Prop :=
 ∀ (pins:List (Addr × Obj)) (s:Shared) (σ:St) (H:Hp) (xs:List V) (us:List Value) (Q:VK),Inv X pins σ H s->Vals xs us->r xs H Q ->
  wpAny (model X.prog X.w) X.A (call f us) (EP X pins σ Q) X.xe s
noncomputable def V9 (X:Cx) (r:V->Hp->(Bool->Hp->Prop)->Prop):Prop :=
 ∀ (pins:List (Addr × Obj)) (s:Shared) (σ:St) (H:Hp) (x:V) (v:Value) (Q:Bool->Hp->Prop),Inv X pins σ H s->RelV x v->r x H Q ->
  wpAny (model X.prog X.w) X.A (truthy v) (TP X pins σ Q) X.xe s
noncomputable def tOp (r:R2) (ta tb:TE):TE:=fun σ H Q=>ta σ H fun x H1=>tb σ H1 fun y H2=>r x y H2 Q
noncomputable def tUn (r:V->Hp->VK->Prop) (ta:TE):TE:=fun σ H Q=>ta σ H fun x H1=>r x H1 Q
noncomputable def rI (C:Int->Int->Prop) (g:Int->Int->V):R2:=fun x y H Q=>∃ i j,x=.int i/\y=.int j/\C i j/\Q (g i j) H
noncomputable def rI0 (g:Int->Int->V):R2:=fun x y H Q=>∃ i j,x=.int i/\y=.int j/\Q (g i j) H
noncomputable def rU (g:Int->V):V->Hp->VK->Prop:=fun x H Q=>∃ i,x=.int i/\Q (g i) H
section
variable {X:Cx} {a b c:Expr} {ta tb tc:TE} {pos:Pos}
theorem Pg (ha:PE X a ta) (hb:PE X b tb) {pins:List (Addr × Obj)} {s:Shared} {σ:St} {H:Hp} {R:V->V->Hp->Prop} (I:Inv X pins σ H s)
  (h:ta σ H fun x H1=>tb σ H1 fun y H2=>R x y H2) {Q:Value->Shared->Prop} {f:Value->Value->Sem Value}
  (hf:∀ v u s2 x y H2,Inv X pins σ H2 s2->RelV x v->RelV y u->R x y H2->wpAny (model X.prog X.w) X.A (f v u) Q X.xe s2) :
  wpAny (model X.prog X.w) X.A (eval a X.env) (fun v s₁=>wpAny (model X.prog X.w) X.A (eval b X.env) (fun u s₂=>wpAny (model X.prog X.w) X.A (f v u) Q X.xe s₂) X.xe s₁) X.xe s:=by
 refine thn (ha pins s σ H _ I h) fun v s1 ⟨x,H1,I1,r1,q1⟩=>?_
 refine thn (hb pins s1 σ H1 _ I1 q1) fun u s2 ⟨y,H2,I2,r2,q2⟩=>?_
 exact hf v u s2 x y H2 I2 r1 r2 q2
theorem Vu {op:Operator} {r:R2} (ho:OpR X (binaryOp op) r) (ha:PE X a ta) (hb:PE X b tb):PE X (.BinOp a op b pos) (tOp r ta tb):=by
 intro pins s σ H Q I h
 exact wpAny_BinOp (Pg ha hb I h fun v u s2 x y H2 I2 rx ry q=>ho pins s2 σ H2 x y v u Q I2 rx ry q)
theorem Vv {op:UnaryOp} {r:V->Hp->VK->Prop} (ho:UnR X (unaryOp op) r) (ha:PE X a ta):PE X (.UnaryOp op a pos) (tUn r ta):=by
 intro pins s σ H Q I h
 exact UnaryOp_ (thn (ha pins s σ H _ I h) fun v s1 ⟨x,H1,I1,r1,q1⟩=>ho pins s1 σ H1 x v Q I1 r1 q1)
theorem opI {f:Value->Value->Sem Value} {C:Int->Int->Prop} {g:Int->Int->Int}
  (rule:∀ (i j:Int) (t u:Tok) (s:Shared) (Q:Value->Shared->Prop) (E:Value->Shared->Prop),C i j->Q (.int (g i j) s.toks) { s with toks:=s.toks + 1 }->wpAny (model X.prog X.w) X.A (f (.int i t) (.int j u)) Q E s) :
  OpR X f (rI C fun i j=>.int (g i j)):=by
 intro pins s σ H x y v u Q I rx ry h
 obtain ⟨i,j,rfl,rfl,hc,q⟩:=h
 obtain ⟨t,rfl⟩:=rx
 obtain ⟨t',rfl⟩:=ry
 exact rule i j t t' s _ _ hc ⟨.int (g i j),H,I.tok _,⟨_,rfl⟩,q⟩
theorem TK {f:Value->Value->Sem Value} {g:Int->Int->Int}
  (rule:∀ (i j:Int) (t u:Tok) (s:Shared) (Q:Value->Shared->Prop) (E:Value->Shared->Prop),Q (.int (g i j) s.toks) { s with toks:=s.toks + 1 }->wpAny (model X.prog X.w) X.A (f (.int i t) (.int j u)) Q E s) :
  OpR X f (rI0 fun i j=>.int (g i j)):=by
 intro pins s σ H x y v u Q I rx ry h
 obtain ⟨i,j,rfl,rfl,q⟩:=h
 obtain ⟨t,rfl⟩:=rx
 obtain ⟨t',rfl⟩:=ry
 exact rule i j t t' s _ _ ⟨.int (g i j),H,I.tok _,⟨_,rfl⟩,q⟩
theorem MC {f:Value->Value->Sem Value} {g:Int->Int->Bool}
  (rule:∀ (i j:Int) (t u:Tok) (s:Shared) (Q:Value->Shared->Prop) (E:Value->Shared->Prop),Q (.bool (g i j)) s->wpAny (model X.prog X.w) X.A (f (.int i t) (.int j u)) Q E s) :
  OpR X f (rI0 fun i j=>.bl (g i j)):=by
 intro pins s σ H x y v u Q I rx ry h
 obtain ⟨i,j,rfl,rfl,q⟩:=h
 obtain ⟨t,rfl⟩:=rx
 obtain ⟨t',rfl⟩:=ry
 exact rule i j t t' s _ _ ⟨.bl (g i j),H,I,rfl,q⟩
noncomputable def TL (i j:Int):Prop:=0<=j/\j<=1000000/\i.natAbs < 2 ^ 64
noncomputable def CMul (i j:Int):Prop:=(-(2 ^ 64) < i/\i < 2 ^ 64)\/(-(2 ^ 64) < j/\j < 2 ^ 64)
theorem CMul.ok {i j:Int} (h:CMul i j):IntMulOk i j:=by
 rcases h with ⟨h1,h2⟩ | ⟨h1,h2⟩
 ·exact .of_left (intBits_le_64 h1 h2)
 ·exact .of_right (intBits_le_64 h1 h2)
theorem TM:OpR X (binaryOp .Add) (rI0 fun i j=>.int (i + j)):=TK fun _ _ _ _ _ _ _ q=>add_int q
theorem TN:OpR X (binaryOp .Sub) (rI0 fun i j=>.int (i - j)):=TK fun _ _ _ _ _ _ _ q=>sub_int q
theorem TQ:OpR X (binaryOp .Mod) (rI (fun _ j=>0 < j) fun i j=>.int (i % j)):=opI fun i j _ _ _ _ _ hc q=>by
 have h1:(0:Int) < j:=hc
 exact mod_int' (by omega) (by rw [Int.fmod_eq_emod_of_nonneg i (by omega)]; exact q)
theorem TR:OpR X (binaryOp .Pow) (rI TL fun i j=>.int (i ^ j.toNat)):=opI fun _ _ _ _ _ _ _ hc q=>pow_int_small hc.1 hc.2.1 hc.2.2 q
theorem unI {f:Value->Sem Value} {g:Int->Int}
  (rule:∀ (i:Int) (t:Tok) (s:Shared) (Q:Value->Shared->Prop) (E:Value->Shared->Prop),Q (.int (g i) s.toks) { s with toks:=s.toks + 1 }->wpAny (model X.prog X.w) X.A (f (.int i t)) Q E s) :
  UnR X f (rU fun i=>.int (g i)):=by
 intro pins s σ H x v Q I rx h
 obtain ⟨i,rfl,q⟩:=h
 obtain ⟨t,rfl⟩:=rx
 exact rule i t s _ _ ⟨.int (g i),H,I.tok _,⟨_,rfl⟩,q⟩
theorem TU:UnR X (unaryOp .USub) (rU fun i=>.int (-i)):=unI fun _ _ _ _ _ q=>neg_int q
end
section
variable {X:Cx} {a b c:Expr} {ta tb tc:TE} {pos:Pos}
theorem Vw:OpR X (compareOp .Lt) (rI0 fun i j=>.bl (decide (i < j))):=MC fun _ _ _ _ _ _ _ q=>lt_int q
theorem Vx:OpR X (compareOp .LtE) (rI0 fun i j=>.bl (decide (i<=j))):=MC fun _ _ _ _ _ _ _ q=>le_int q
theorem Vy:OpR X (compareOp .Gt) (rI0 fun i j=>.bl (decide (j < i))):=MC fun _ _ _ _ _ _ _ q=>gt_int q
theorem Vz:OpR X (compareOp .GtE) (rI0 fun i j=>.bl (decide (j<=i))):=MC fun _ _ _ _ _ _ _ q=>ge_int q
theorem OpR.or {f:Value->Value->Sem Value} {r r':R2} (h:OpR X f r) (h':OpR X f r'):OpR X f (fun x y H Q=>r x y H Q\/r' x y H Q):=by
 intro pins s σ H x y v u Q I rx ry q
 rcases q with q | q
 ·exact h pins s σ H x y v u Q I rx ry q
 ·exact h' pins s σ H x y v u Q I rx ry q
theorem Rf {op:CmpOp} {r:R2} (ho:OpR X (compareOp op) r) (ha:PE X a ta) (hb:PE X b tb) (hm:behindInMarks op b=false):PE X (.Compare a [op] [b] pos) (tOp r ta tb):=by
 intro pins s σ H Q I h
 exact wpAny_Compare1 (Pg ha hb I h fun v u s2 x y H2 I2 rx ry q=>ho pins s2 σ H2 x y v u Q I2 rx ry q) hm
noncomputable def QR (t:TE):TT:=fun σ H Q=>t σ H fun x H'=>∃ k,x=.bl k/\Q k H'
theorem Rg {op:CmpOp} {r:R2} (ho:OpR X (compareOp op) r) (ha:PE X a ta) (hb:PE X b tb) (hm:behindInMarks op b=false):PT X (.Compare a [op] [b] pos) (QR (tOp r ta tb)):=by
 intro pins s σ H Q I h
 refine wpAny_isTrue_Compare1 (thn (ha pins s σ H _ I h) fun v s1 ⟨x,H1,I1,r1,q1⟩=>thn (hb pins s1 σ H1 _ I1 q1) fun u s2 ⟨y,H2,I2,r2,q2⟩ =>
  thn (ho pins s2 σ H2 x y v u _ I2 r1 r2 q2) fun c s3 ⟨z,H3,I3,r3,k,e,q3⟩=>?_) hm
 subst e
 cases r3
 exact wpAny_truthy_bool ⟨H3,I3,q3⟩
noncomputable def J3 (r r':R2) (ta tb tc:TE):TE:=fun σ H Q=>ta σ H fun x H1=>tb σ H1 fun y H2=>r x y H2 fun z H3=>∃ k,z=.bl k /\
 (if k=true then tc σ H3 fun w' H4=>r' y w' H4 Q else Q (.bl false) H3)
theorem Ph {op op':CmpOp} {r r':R2} (ho:OpR X (compareOp op) r) (ho':OpR X (compareOp op') r') (ha:PE X a ta) (hb:PE X b tb) (hc:PE X c tc)
  (hm:lastMarks [op,op'] [b,c]=false:=by with_unfolding_all rfl):PE X (.Compare a [op,op'] [b,c] pos) (J3 r r' ta tb tc):=by
 intro pins s σ H Q I h
 refine Compare_chain (thn (ha pins s σ H _ I h) fun v s1 ⟨x,H1,I1,r1,q1⟩=>chain_link (thn (hb pins s1 σ H1 _ I1 q1) fun u s2 ⟨y,H2,I2,r2,q2⟩ =>
  thn (ho pins s2 σ H2 x y v u _ I2 r1 r2 q2) fun d s3 ⟨z,H3,I3,r3,k,e,q3⟩=>?_)) hm
 subst e
 cases r3
 refine wpAny_truthy_bool ?_
 cases k with
 | false=>exact ite_ff ⟨.bl false,H3,I3,rfl,q3⟩
 | true=>exact ite_tt (chain_last (thn (hc pins s3 σ H3 _ I3 q3) fun w' s4 ⟨z',H4,I4,r4,q4⟩=>ho' pins s4 σ H4 y z' u w' Q I4 r2 r4 q4))
theorem Pi {op op':CmpOp} {r r':R2} (ho:OpR X (compareOp op) r) (ho':OpR X (compareOp op') r') (ha:PE X a ta) (hb:PE X b tb) (hc:PE X c tc)
  (hm:lastMarks [op,op'] [b,c]=false:=by with_unfolding_all rfl):PT X (.Compare a [op,op'] [b,c] pos) (QR (J3 r r' ta tb tc)):=by
 intro pins s σ H Q I h
 refine isTrue_chain (thn (ha pins s σ H _ I h) fun v s1 ⟨x,H1,I1,r1,q1⟩=>test_link (thn (hb pins s1 σ H1 _ I1 q1) fun u s2 ⟨y,H2,I2,r2,q2⟩ =>
  thn (ho pins s2 σ H2 x y v u _ I2 r1 r2 q2) fun d s3 ⟨z,H3,I3,r3,k,e,q3⟩=>?_)) hm
 subst e
 cases r3
 refine wpAny_truthy_bool ?_
 cases k with
 | false =>
  obtain ⟨k',e',q'⟩:=q3
  cases e'
  exact ite_ff ⟨H3,I3,q'⟩
 | true =>
  refine ite_tt (test_last (thn (hc pins s3 σ H3 _ I3 q3) fun w' s4 ⟨z',H4,I4,r4,q4⟩=>thn (ho' pins s4 σ H4 y z' u w' _ I4 r2 r4 q4) fun d' s5 ⟨z2,H5,I5,r5,k2,e2,q5⟩=>?_))
  subst e2
  cases r5
  exact wpAny_truthy_bool ⟨H5,I5,q5⟩
noncomputable def Pj (K:PySem.W.Frag) (x:V) (H:Hp) (k:Bool):Prop :=
 match x with
 | .non=>k=false
 | .bl b=>k=b
 | .int i=>k=(i != 0)
 | .str y=>y.length<=sizeLine/\k=((y.length:Int) != 0)
 | .byt y=>y.size<=sizeLine/\k=((y.size:Int) != 0)
 | .ref p=>(∃ xs,SqL K H p xs/\k=!xs.isEmpty)\/(∃ xs,SqT K H p xs/\k=!xs.isEmpty)\/∃ kvs,H p=some (.dK kvs)/\k=!kvs.isEmpty
 | _=>False
theorem MD {κ:Type} {kvs:List (κ × V)} {vs:List (κ × Value)} (r:KV kvs vs):(!vs.isEmpty)=!kvs.isEmpty:=by
 cases r <;> rfl
theorem HN {xs:List V} {its:List Value} (r:Vals xs its):(!its.toArray.isEmpty)=!xs.isEmpty:=by
 cases r <;> simp
theorem Ga:(sizeLine:Nat) < 2 ^ 63:=by rw [sizeLine_eq]; decide
theorem TV:V9 X (fun x H Q=>∃ k,Pj X.K x H k/\Q k H):=by
 intro pins s σ H x v Q I rx h
 obtain ⟨k,e,q⟩:=h
 have hl:=Ga
 have hs:sizeLine=16777216:=sizeLine_eq
 cases x with
 | non =>
  cases rx
  have e':k=false:=e
  subst e'
  exact truthy_none ⟨H,I,q⟩
 | bl b =>
  cases rx
  have e':k=b:=e
  subst e'
  exact wpAny_truthy_bool ⟨H,I,q⟩
 | int i =>
  obtain ⟨t,rfl⟩:=rx
  have e':k=(i != 0):=e
  subst e'
  exact PySem.P.truthy_int ⟨H,I,q⟩
 | str y =>
  obtain ⟨t,rfl⟩:=rx
  obtain ⟨hy,e'⟩:y.length<=sizeLine/\k=((y.length:Int) != 0):=e
  subst e'
  exact PySem.P.truthy_str (by omega) ⟨H,I.tok _,q⟩
 | byt y =>
  obtain ⟨t,rfl⟩:=rx
  obtain ⟨hy,e'⟩:y.size<=sizeLine/\k=((y.size:Int) != 0):=e
  subst e'
  exact PySem.W.truthy_bytes (by omega) ⟨H,I.tok _,q⟩
 | ref p =>
  cases rx
  have e':(∃ xs,SqL X.K H p xs/\k=!xs.isEmpty)\/(∃ xs,SqT X.K H p xs/\k=!xs.isEmpty)\/∃ kvs,H p=some (.dK kvs)/\k=!kvs.isEmpty:=e
  rcases e' with ⟨xs,hx,e'⟩ | ⟨xs,hx,e'⟩ | ⟨kvs,hx,e'⟩
  ·subst e'
   obtain ⟨its,r,pl,hz⟩:=I.list hx
   have hlen:=r.length
   exact wpAny_truthy_list pl.isList (by simp only [aaq]; omega) ⟨H,I.tok _,by rw [HN r]; exact q⟩
  ·subst e'
   obtain ⟨its,r,pl,hz⟩:=I.tuple hx
   have hlen:=r.length
   exact truthy_tuple pl (by simp only [aaq]; omega) ⟨H,I.tok _,by rw [HN r]; exact q⟩
  ·subst e'
   obtain ⟨hz,hS,vs,r,m⟩:kvs.length<=sizeLine/\(p==sysModules)=false/\∃ vs,KV kvs vs/\s.heap.DictOf (IG X.prog X.w) p vs:=I.hok p _ hx
   have hlen:kvs.length=vs.length:=Paired.length r
   exact wpAny_truthy_dict hS m (by omega) ⟨H,I.tok _,by rw [MD r]; exact q⟩
 | _=>exact nE e
theorem Pk (ha:PE X a ta) (he:∀ whole,isTrue a X.env whole=(do let v <- whole; standAt a.pos; holding [v] (truthy v))) :
  PT X a (fun σ H Q=>ta σ H fun x H'=>∃ k,Pj X.K x H' k/\Q k H'):=by
 intro pins s σ H Q I h
 exact isTrue_plain (thn (ha pins s σ H _ I h) fun v s1 ⟨x,H1,I1,r1,q1⟩=>TV pins s1 σ H1 x v Q I1 r1 q1) (he _)
theorem ME:OpR X (binaryOp .Add) (fun x y H Q=>∃ i j,x=.str i/\y=.str j/\i.length + j.length<=sizeLine/\Q (.str (i ++ j)) H):=by
 intro pins s σ H x y v u Q I rx ry h
 obtain ⟨i,j,rfl,rfl,hz,q⟩:=h
 obtain ⟨t,rfl⟩:=rx
 obtain ⟨t',rfl⟩:=ry
 exact add_str (fun t' tk=>⟨.str (i ++ j),H,I.tok _,⟨_,rfl⟩,q⟩) hz
theorem GO {x:V} {us:List Value} (r:Vals [x] us):∃ u,us=[u]/\RelV x u:=by
 cases r with
 | cons r1 r2=>cases r2; exact ⟨_,rfl,r1⟩
theorem MF {x y:V} {us:List Value} (r:Vals [x,y] us):∃ u w',us=[u,w']/\RelV x u/\RelV y w':=by
 cases r with
 | cons r1 r2 =>
  cases r2 with
  | cons r3 r4=>cases r4; exact ⟨_,_,rfl,r1,r3⟩
theorem NO (hc:X.calm=true):DV X (.builtin "max") (fun xs H Q=>∃ i j,xs=[.int i,.int j]/\Q (.int (if j > i then j else i)) H):=by
 intro pins s σ H xs us Q I r h
 obtain ⟨i,j,rfl,q⟩:=h
 obtain ⟨u,w',rfl,⟨t,rfl⟩,⟨t',rfl⟩⟩:=MF r
 refine max_two_ints (I.ok.hd hc) fun h' tk k=>⟨_,H,I.kept k,?_,q⟩
 by_cases hj:j > i
 ·rw [if_pos hj,if_pos hj]; exact ⟨_,rfl⟩
 ·rw [if_neg hj,if_neg hj]; exact ⟨_,rfl⟩
theorem NP (hc:X.calm=true):DV X (.builtin "min") (fun xs H Q=>∃ i j,xs=[.int i,.int j]/\Q (.int (if j < i then j else i)) H):=by
 intro pins s σ H xs us Q I r h
 obtain ⟨i,j,rfl,q⟩:=h
 obtain ⟨u,w',rfl,⟨t,rfl⟩,⟨t',rfl⟩⟩:=MF r
 refine min_two_ints (I.ok.hd hc) fun h' tk k=>⟨_,H,I.kept k,?_,q⟩
 by_cases hj:j < i
 ·rw [if_pos hj,if_pos hj]; exact ⟨_,rfl⟩
 ·rw [if_neg hj,if_neg hj]; exact ⟨_,rfl⟩
theorem NQ:DV X (.type "int") (fun xs H Q=>(∃ i,xs=[.int i]/\Q (.int i) H)\/∃ k,xs=[.bl k]/\Q (.int (if k then 1 else 0)) H):=by
 intro pins s σ H xs us Q I r h
 rcases h with ⟨i,rfl,q⟩ | ⟨k,rfl,q⟩
 ·obtain ⟨u,rfl,t,rfl⟩:=GO r
  exact call_int_int ⟨.int i,H,I,⟨_,rfl⟩,q⟩
 ·obtain ⟨u,rfl,r1⟩:=GO r
  cases r1
  exact call_int_bool ⟨.int (if k then 1 else 0),H,I.tok _,⟨_,rfl⟩,q⟩
end
structure ObjM (h:Heap) (x dx C:Addr) (mA:Str->Option Value):Prop where
 obj:h.get? x=some (PySem.W.instObj C dx)
 ns:h.Ns1 dx mA
 ne:dx ≠ x
theorem NR {h:Heap} {dx:Addr} {mA:Str->Option Value} (n:h.Ns1 dx mA):∃ od,h.get? dx=some od/\∀ name,PySem.W.lookIn name od=some (mA name):=by
 obtain ⟨o,es,ep,ho,hd,hk,_,hm⟩:=n
 refine ⟨o,ho,fun name=>?_⟩
 have e:=hm name
 unfold nsFind findBy at e
 rw [<- Array.find?_toList] at e
 unfold PySem.W.lookIn
 rw [hd]
 dsimp only
 split
 ·rename_i y q
  rw [q] at e
  exact congrArg some e
 ·rename_i q
  rw [q] at e
  have a:es.toList.any (·.refKey)=false:=by
   rw [List.any_eq_false]
   intro y hy
   obtain ⟨z,t,hkey⟩:=hk y (Array.mem_toList_iff.mp hy)
   simp [DictEntry.refKey,hkey]
  have a':¬ es.toList.any (·.refKey)=true:=by rw [a]; exact aa0
  rw [if_neg a']
  exact congrArg some e
theorem ObjM.look {h:Heap} {x dx C:Addr} {mA:Str->Option Value} (I:ObjM h x dx C mA):∃ od,PySem.W.InstAt h x (PySem.W.instObj C dx) C (some od)/\∀ name,PySem.W.lookIn name od=some (mA name) :=
 let ⟨od,ho,hl⟩:=NR I.ns
 ⟨od,⟨I.obj,rfl,rfl,ho⟩,hl⟩
section
variable {P:Program} {w:World} {H H':Hp} {h h':Heap} {a C dx:Addr} {fs fs':List (Str × V)}
theorem Rh (hok:HOk P w H h) (e:H a=some (.ins C dx fs)):∃ mA,ObjM h a dx C mA/\(∀ f,O9 (fs.lookup f) (mA f))/\PySem.Within mA (fs.map (·.1))/\fs.length<=1000/\H dx=some (.own a):=by
 obtain ⟨d,z,ne,ob,mA,n,r,q⟩:=(show ObjOk P w H h a (.ins C dx fs) from hok a _ e)
 exact ⟨mA,⟨ob,n,ne⟩,r,q,z,d⟩
end
structure Cls (K:PySem.W.Frag) (C:Addr):Prop where
 pg:PySem.W.plainGet K C Str.empty=true
 hd:PySem.W.hasDictIn K C=true
 po:PySem.W.plainOver K C=true
 sa:PySem.W.findIn K (.ref C) "__setattr__" = some (some (.builtin "object.__setattr__"))
theorem Cls.get {K:PySem.W.Frag} {C:Addr} (c:Cls K C) (f:Str):PySem.W.plainGet K C f=true:=c.pg
section
variable {X:Cx} {pins:List (Addr × Obj)} {σ:St} {H:Hp} {s:Shared} {a C dx:Addr} {fs:List (Str × V)} {f:Str} {v:V} {A:Around} {E:Value->Shared->Prop}
theorem Inv.made (I:Inv X pins σ H s):Inv X pins σ (upd (upd H s.heap.objs.size (.own (s.heap.objs.size + 1))) (s.heap.objs.size + 1) (.ins C s.heap.objs.size []))
  { s with heap:=(s.heap.push PySem.W.emptyDict).push (PySem.W.instObj C s.heap.objs.size) }:=by
 have e1:(s.heap.push PySem.W.emptyDict).get? s.heap.objs.size=some PySem.W.emptyDict:=Heap.get?_push_size s.heap rfl
 have e2:((s.heap.push PySem.W.emptyDict).push (PySem.W.instObj C s.heap.objs.size)).get? (s.heap.objs.size + 1)=some (PySem.W.instObj C s.heap.objs.size):=by
  have:=Heap.get?_push_size (s.heap.push PySem.W.emptyDict) (o:=PySem.W.instObj C s.heap.objs.size) rfl
  rwa [Heap.size_push] at this
 have e3:(s.heap.push PySem.W.emptyDict).Ns s.heap.objs.size (fun _=>none):=⟨PySem.W.emptyDict,#[],_,e1,rfl,(fun e he=>absurd he (by simp)),fun _=>rfl⟩
 have I1:=I.laid (a:=s.heap.objs.size) (o:=.own (s.heap.objs.size + 1)) (h':=s.heap.push PySem.W.emptyDict) (t':=s.toks) (fun b u q=>Heap.get?_push_of_some _ q) (aag _) ⟨_,e1⟩
 refine I1.laid (a:=s.heap.objs.size + 1) (o:=.ins C s.heap.objs.size []) (t':=s.toks) (fun b u q=>Heap.get?_push_of_some _ q) (abr (Heap.size_push _ _)) ?_
 have ne:s.heap.objs.size ≠ s.heap.objs.size + 1:=aaF (ab9 _)
 refine ⟨by rw [Ar ne,A9],aar _,ne,e2,fun _=>none,(Heap.Ns1.of_empty e3).at fun o q=>Heap.get?_push_of_some _ q,fun _=>True.intro,fun y hy=>absurd rfl hy⟩
end
section
variable {X:Cx} {pins:List (Addr × Obj)} {σ:St} {H:Hp} {s:Shared} {A:Around} {E:Value->Shared->Prop} {Q:Value->Shared->Prop} {c:Value} {b:Bool}
inductive TyOf (K:PySem.W.Frag) (H:Hp):V->Value->Prop where
 | non:TyOf K H .non (.type "NoneType")
 | bl (x:Bool):TyOf K H (.bl x) (.type "bool")
 | int (i:Int):TyOf K H (.int i) (.type "int")
 | str (x:Str):TyOf K H (.str x) (.type "str")
 | flt (x:UInt64):TyOf K H (.flt x) (.type "float")
 | lst {a:Addr} {xs:List V} (e:H a=some (.lst xs)):TyOf K H (.ref a) (.type "list")
 | frz {a:Addr} {o:Obj} {xs:List V} (e:H a=some (.frz o (.lst xs))):TyOf K H (.ref a) (.type "list")
 | tup {a:Addr} {xs:List V} (e:H a=some (.tup xs)):TyOf K H (.ref a) (.type "tuple")
 | dK {a:Addr} {kvs:List (Key × V)} (e:H a=some (.dK kvs)):TyOf K H (.ref a) (.type "dict")
 | dT {a:Addr} {kvs:List (List Key × V)} (e:H a=some (.dT kvs)):TyOf K H (.ref a) (.type "dict")
 | ins {a C dx:Addr} {fs:List (Str × V)} (e:H a=some (.ins C dx fs)) (cl:Cls K C) (ha:PySem.W.findIn K (.ref C) "__class__" = some (some (.builtin "object.__class__")))
   (hn:PySem.W.specialIn K (.builtin "object.__class__") "__get__" = some (some (.builtin "getset_descriptor.__get__"))) (htk:PySem.W.takesIn K (.builtin "object.__class__")=some true)
   (hm:PySem.W.mroIn K C (.type "object")=some true):TyOf K H (.ref a) (.ref C)
theorem NS {x:V} {u t:Value} (I:Inv X pins σ H s) (rx:RelV x u) (ty:TyOf X.K H x t) (e:PySem.W.kitOne X.K t c=some b) (h:∀ tk,Q (.bool b) { s with toks:=tk }) :
  wpAny (model X.prog X.w) A (call (.builtin "isinstance") [u,c]) Q E s:=by
 cases ty with
 | non=>cases (show u=Value.none from rx); exact PySem.W.kia_one PySem.W.kitx_none I.kIn True.intro e (fun z=>nomatch z) h
 | bl y=>cases (show u=Value.bool y from rx); exact PySem.W.kia_one PySem.W.kitx_bool I.kIn True.intro e (fun z=>nomatch z) h
 | int i=>obtain ⟨t,q⟩:=(show ∃ t,u=Value.int i t from rx); cases q; exact PySem.W.kia_one PySem.W.kitx_int I.kIn True.intro e (fun z=>nomatch z) h
 | str y=>obtain ⟨t,q⟩:=(show ∃ t,u=Value.str y t from rx); cases q; exact PySem.W.kia_one PySem.W.kitx_str I.kIn True.intro e (fun z=>nomatch z) h
 | flt y=>obtain ⟨t,q⟩:=(show ∃ t,u=Value.float y t from rx); cases q; exact PySem.W.kia_one PySem.W.kitx_float I.kIn True.intro e (fun z=>nomatch z) h
 | @lst a xs ea =>
  cases (show u=Value.ref a from rx)
  obtain ⟨_,_,n,_,h1⟩:=(show ObjOk X.prog X.w H s.heap a (.lst xs) from I.hok a _ ea)
  exact PySem.W.kia_one PySem.W.kitx_list I.kIn ⟨_,h1,rfl⟩ e (fun z=>nomatch z) h
 | @frz a ob xs ea =>
  cases (show u=Value.ref a from rx)
  obtain ⟨_,_,_,n,_,h1⟩:=(show ObjOk X.prog X.w H s.heap a (.frz ob (.lst xs)) from I.hok a _ ea)
  exact PySem.W.kia_one PySem.W.kitx_list I.kIn ⟨_,h1,rfl⟩ e (fun z=>nomatch z) h
 | @tup a xs ea =>
  cases (show u=Value.ref a from rx)
  obtain ⟨_,_,_,p⟩:=(show ObjOk X.prog X.w H s.heap a (.tup xs) from I.hok a _ ea)
  obtain ⟨o,h1,h2,_⟩:=p
  exact PySem.W.kia_one PySem.W.kitx_tuple I.kIn ⟨o,h1,h2⟩ e (fun z=>nomatch z) h
 | @dK a kvs ea =>
  cases (show u=Value.ref a from rx)
  obtain ⟨_,_,vs,_,p⟩:=(show ObjOk X.prog X.w H s.heap a (.dK kvs) from I.hok a _ ea)
  obtain ⟨o,es,ep,h1,h2,_⟩:=p
  exact PySem.W.kia_one PySem.W.kitx_dict I.kIn ⟨o,h1,h2.1⟩ e (fun z=>nomatch z) h
 | @dT a kvs ea =>
  cases (show u=Value.ref a from rx)
  obtain ⟨_,_,xs,_,o,es,ep,h1,h2,_⟩:=(show ObjOk X.prog X.w H s.heap a (.dT kvs) from I.hok a _ ea)
  exact PySem.W.kia_one PySem.W.kitx_dict I.kIn ⟨o,h1,h2.1⟩ e (fun z=>nomatch z) h
 | @ins a C dx fs ea cl ha hn htk hm =>
  cases (show u=Value.ref a from rx)
  obtain ⟨mA,O,_⟩:=Rh I.hok ea
  obtain ⟨od,J,_⟩:=O.look
  exact PySem.W.kia_one (PySem.W.kitx_own (cl.get _) cl.hd ha hn htk hm) I.kIn J e (fun z=>nomatch z) h
end
structure Room (k:Nat) (A:Around):Prop where
 hd:A.handled=none
 dp:A.depth + 3 * k + 5 < recursionLimit
 un:A.units + 16 * k + 200 < cLine
theorem Room.mono {j k:Nat} {A:Around} (r:Room k A) (h:j<=k):Room j A:=⟨r.hd,by have:=r.dp; omega,by have:=r.un; omega⟩
theorem Room.deeper {k:Nat} {A:Around} (r:Room (k + 1) A) (env:Env):Room k (A.deeper env) :=
 ⟨r.hd,by have:=r.dp; show A.depth + 1 + 3 * k + 5 < _; omega,by have:=r.un; show A.units + 3 + 16 * k + 200 < _; omega⟩
theorem Room.depth {k:Nat} {A:Around} (r:Room k A):A.depth < recursionLimit:=by have:=r.dp; omega
theorem Room.units {k:Nat} {A:Around} (r:Room k A):A.units + 64 < cLine:=by have:=r.un; omega
noncomputable def TW:TA:=fun _ H Q=>Q [] H
noncomputable def QS (ta:TE) (tr:TA):TA:=fun σ H Q=>ta σ H fun x H1=>tr σ H1 fun xs H2=>Q (x :: xs) H2
section
variable {X:Cx} {e:Expr} {es:List Expr} {te:TE} {t:TA} {pos:Pos}
theorem By:PA X [] TW:=fun _ _ _ _ H Q I h=>Calls.spliced_nil ⟨[],H,I,.nil,h⟩
theorem AC (ha:PE X e te) (hr:PA X es t) (hs:starEach (e :: es) X.env=(false,eval e X.env) :: starEach es X.env:=by rfl):PA X (e :: es) (QS te t):=by
 intro pos pins s σ H Q I h
 rw [hs]
 show wpAny _ _ (spliced ((false,eval e X.env) :: backTo pos (starEach es X.env))) _ _ s
 refine Calls.spliced_cons (thn (ha pins s σ H _ I h) fun u s1 ⟨x,H1,I1,r1,q1⟩=>?_)
 exact thn (hr pos pins s1 σ H1 _ I1 q1) fun us s2 ⟨xs,H2,I2,r2,q2⟩=>⟨x :: xs,H2,I2,.cons r1 r2,q2⟩
noncomputable def Wa (t:TA):TE:=fun σ H Q=>t σ H fun xs H1=>xs.length<=sizeLine/\∀ p,H1 p=none->Q (.ref p) (upd H1 p (.tup xs))
noncomputable def Wb (t:TA):TE:=fun σ H Q=>t σ H fun xs H1=>xs.length<=sizeLine/\∀ p,H1 p=none->Q (.ref p) (upd H1 p (.lst xs))
theorem TX {x1} (h:PA X es t):PE X (.Tuple es x1 pos) (Wa t):=by
 intro pins s σ H Q I hq
 refine wpAny_Tuple_spliced (thn (h pos pins s σ H _ I hq) fun us s1 ⟨xs,H1,I1,r,z,q⟩=>⟨by rw [<- r.length]; exact z,?_⟩)
 have hf:H1 s1.heap.objs.size=none:=I1.hok.fresh (aag _)
 refine ⟨.ref s1.heap.objs.size,upd H1 s1.heap.objs.size (.tup xs),I1.laid (t':=s1.toks) (fun b u e=>Heap.get?_push_of_some _ e) (aag _) ?_,rfl,q _ hf⟩
 exact ⟨z,us,r,⟨_,Heap.get?_push_size _ rfl,rfl,_,rfl⟩⟩
theorem TY (h:PA X es t):PE X (.List es pos) (Wb t):=by
 intro pins s σ H Q I hq
 refine wpAny_List_spliced (thn (h pos pins s σ H _ I hq) fun us s1 ⟨xs,H1,I1,r,z,q⟩=>⟨by rw [<- r.length]; exact z,?_⟩)
 have hf:H1 s1.heap.objs.size=none:=I1.hok.fresh (aag _)
 refine ⟨.ref s1.heap.objs.size,upd H1 s1.heap.objs.size (.lst xs),I1.laid (t':=s1.toks) (fun b u e=>Heap.get?_push_of_some _ e) (aag _) ?_,rfl,q _ hf⟩
 exact ⟨z,us,0,r,Heap.get?_push_size _ rfl⟩
end
noncomputable abbrev Sp:=List V->Hp->VK->XK->Prop
noncomputable abbrev CXT:=List Env->Hp->Shared->XK->Value->Shared->Prop
structure Env0 (P:Program) (w:World) (K:PySem.W.Frag) (mg:Str->Option Value) (base:Heap) (A:Around) (outer:List Env) (s:Shared) (H:Hp):Prop where
 frames:A.frames=some outer
 mod:Mod K mg base
 bs:∀ b o,base.get? b=some o->s.heap.get? b=some o/\H b=none
 bsz:base.objs.size<=s.heap.objs.size
 funs:s.heap.FunFrames base outer
 frf:∀ b ∈ frs outer,H b=none
 hok:HOk P w H s.heap
 bare:AllBare s.gens
noncomputable def CE (outer:List Env) (P:Program) (w:World) (H:Hp) (s:Shared) (Q:VK) (u:Value) (s':Shared):Prop :=
 ∃ v H',s'.os=s.os/\AllBare s'.gens/\Un (frs outer) [] H H' s.heap s'.heap/\HOk P w H' s'.heap/\RelV v u/\Q v H'
noncomputable def CR (CX:CXT) (outer:List Env) (P:Program) (w:World) (H:Hp) (s:Shared) (Q:VK) (E:XK) (r:Result) (s':Shared):Prop :=
 match r with
 | .ok (.ret u)=>CE outer P w H s Q u s'
 | .ok _=>False
 | .error e=>CX outer H s E e s'
structure FnOk (P:Program) (w:World) (K:PySem.W.Frag) (mg:Str->Option Value) (base:Heap) (CX:CXT) (k:Nat) (f:Addr) (fd:FuncData) (ps:List Str) (sp:Sp):Prop where
 len:∀ vs H Q E,sp vs H Q E->vs.length=ps.length
 run:∀ (A:Around) (outer:List Env) (s:Shared) (H:Hp) (args:Args) (us:List Value) (vs:List V) (Q:VK) (E:XK),Room k A->Env0 P w K mg base A outer s H->BindsTo s fd args (ps.zip us)->Vals vs us->sp vs H Q E ->
  codeAny (model P w) A (.call (.ref f) args) (CR CX outer P w H s Q E) s
theorem FnOk.imp {P:Program} {w:World} {K:PySem.W.Frag} {mg:Str->Option Value} {base:Heap} {CX:CXT} {k:Nat} {f:Addr} {fd:FuncData} {ps:List Str} {sp sp':Sp} (F:FnOk P w K mg base CX k f fd ps sp)
  (h:∀ vs H Q E,sp' vs H Q E->sp vs H Q E):FnOk P w K mg base CX k f fd ps sp' :=
 ⟨fun vs H Q E q=>F.len vs H Q E (h _ _ _ _ q),fun A outer s H args us vs Q E hr he hb hv hs=>F.run A outer s H args us vs Q E hr he hb hv (h _ _ _ _ hs)⟩
section
variable {X:Cx} {pins:List (Addr × Obj)} {σ:St} {H:Hp} {s s':Shared}
theorem Inv.env0 (I:Inv X pins σ H s):Env0 X.prog X.w X.K X.mg X.base X.A X.stack s H :=
 ⟨I.ok.frames,I.ok.mod,I.bs,aao I.ok.bsz I.sz,I.stack,I.stkFree,I.hok,I.bare⟩
theorem Inv.after {Q:VK} {u:Value} (I:Inv X pins σ H s) (h:CE X.stack X.prog X.w H s Q u s'):EP X pins σ Q u s':=by
 obtain ⟨v,H',os,bare,un,hok,r,q⟩:=h
 obtain ⟨hh,g,d,t,os'⟩:=s'
 obtain rfl:os'=s.os:=os
 exact ⟨v,H',I.call (h':=hh) (g':=g) (d':=d) (t':=t) (ch:=[]) un hok bare (fun b z=>absurd z (by simp)),r,q⟩
end
noncomputable def Binds (K:PySem.W.Frag) (fd:FuncData) (ps:List Str) (ds:List Value):Prop :=
 ∀ (s:Shared) (us:List Value),K.In s.heap->(us ++ ds).length=ps.length->BindsTo s fd ⟨us,[]⟩ (ps.zip (us ++ ds))
theorem Binds.all {K:PySem.W.Frag} {fd:FuncData} {ps:List Str} (h:∀ us:List Value,us.length=ps.length->bindArgs fd ⟨us,[]⟩=pure (ps.zip us)):Binds K fd ps []:=fun s us _ hl=>by
 rw [aaL] at hl ⊢
 exact .of_eq (h us hl)
noncomputable def TZ (CX:CXT) (X:Cx) (E:XK):Prop:=∀ (pins:List (Addr × Obj)) (σ:St) (H:Hp) (s:Shared) (e:Value) (s':Shared),Inv X pins σ H s->CX X.stack H s E e s'->X.xe e s'
structure FnScope (N P:List Str) (sc:Scope):Prop where
 kind:sc.kind=.function
 co:sc.isCoroutine=false
 gen:sc.isGenerator=false
 nd:N.Nodup
 pre:N.take P.length=P
 par:∀ x ∈ P,sc.names.lookup x=some .local\/sc.names.lookup x=some .cell
 nofree:∀ y ∈ sc.names,y.2 ≠ .free
theorem Jk {kindOf:Str->Option NameKind} {x:Str}:∀ {binds:List (Str × Value)} {m:Str->Option Value},(∀ v,(x,v) ∉ binds)->bindL kindOf binds m x=m x
 | [],_,_=>rfl
 | (n,v) :: r,m,h=>by
  unfold bindL
  rw [Jk fun w hw=>h w (aaa _ hw)]
  split
  ·have:x ≠ n:=by rintro rfl; exact h v aac
   simp [this]
  ·rfl
theorem Jl {kindOf:Str->Option NameKind} {x:Str}:∀ {binds:List (Str × Value)} {m:Str->Option Value},(∀ v,(x,v) ∉ binds)->bindC kindOf binds m x=m x
 | [],_,_=>rfl
 | (n,v) :: r,m,h=>by
  unfold bindC
  rw [Jl fun w hw=>h w (aaa _ hw)]
  split
  ·rfl
  ·have:x ≠ n:=by rintro rfl; exact h v aac
   simp [this]
theorem Jm {kindOf:Str->Option NameKind} {x:Str} {v:Value}:∀ {P:List Str} {vs:List Value} {i:Nat} {m:Str->Option Value},P.Nodup->P[i]?=some x->vs[i]?=some v->kindOf x=some .local ->
  bindL kindOf (P.zip vs) m x=some v
 | [],_,_,_,_,h,_,_=>by simp at h
 | _ :: _,[],_,_,_,_,h,_=>by simp at h
 | p :: P,w :: vs,0,m,nd,h1,h2,hk=>by
  simp at h1 h2; subst h1; subst h2
  show bindL kindOf ((p,w) :: P.zip vs) m p=_
  unfold bindL
  rw [Jk fun v hv=>(aaM.mp nd).1 (acD hv).1,if_pos hk]
  simp
 | p :: P,w :: vs,i + 1,m,nd,h1,h2,hk=>by
  show bindL kindOf ((p,w) :: P.zip vs) m x=_
  unfold bindL
  exact Jm (i:=i) (aaM.mp nd).2 (by simpa using h1) (by simpa using h2) hk
theorem Jn {kindOf:Str->Option NameKind} {x:Str} {v:Value}:∀ {P:List Str} {vs:List Value} {i:Nat} {m:Str->Option Value},P.Nodup->P[i]?=some x->vs[i]?=some v->kindOf x ≠ some .local ->
  bindC kindOf (P.zip vs) m x=some v
 | [],_,_,_,_,h,_,_=>by simp at h
 | _ :: _,[],_,_,_,_,h,_=>by simp at h
 | p :: P,w :: vs,0,m,nd,h1,h2,hk=>by
  simp at h1 h2; subst h1; subst h2
  show bindC kindOf ((p,w) :: P.zip vs) m p=_
  unfold bindC
  rw [Jl fun v hv=>(aaM.mp nd).1 (acD hv).1,if_neg hk]
  simp
 | p :: P,w :: vs,i + 1,m,nd,h1,h2,hk=>by
  show bindC kindOf ((p,w) :: P.zip vs) m x=_
  unfold bindC
  exact Jn (i:=i) (aaM.mp nd).2 (by simpa using h1) (by simpa using h2) hk
noncomputable def AK (N:List Str) (vs:List V):St:=vs.map some ++ aaj (N.length - vs.length) none
noncomputable def BD (CX:CXT) (P:Program) (w:World) (K:PySem.W.Frag) (mg:Str->Option Value) (base:Heap) (N:List Str) (qual:Str) (scope:Scope) (f:Addr) (cd:Value) (A:Around) (outer:List Env) (s:Shared) (H:Hp) (E:XK):Cx where
 prog:=P
 w:=w
 K:=K
 mg:=mg
 base:=base
 A:=A.deeper (envOfC qual scope s.heap.objs.size f cd)
 N:=N
 s₀:=s
 H₀:=H
 env:=envOfC qual scope s.heap.objs.size f cd
 outer:=outer
 stack:=envOfC qual scope s.heap.objs.size f cd :: outer
 ex:=[]
 calm:=true
 fn:=fun _=>true
 pn:=[]
 xe:=fun e s'=>wpAny (model P w) (A.deeper (envOfC qual scope s.heap.objs.size f cd)) (leaving (envOfC qual scope s.heap.objs.size f cd) e) (fun _ s''=>CX outer H s E e s'') (fun e' s''=>CX outer H s E e' s'') s'
theorem J4 {sc:Scope} {n:Nat} {x:Str} (h:sc.names.lookup x=some .cell):∃ c,(cellsFrom n sc.names []).lookup x=some c:=by
 have q:=PySem.W.cellsFrom_some sc.names n [] (.inl h)
 exact aaz.mp q
theorem NT {CX:CXT} {P:Program} {w:World} {K:PySem.W.Frag} {mg:Str->Option Value} {base:Heap} {N ps:List Str} {qual:Str} {scope:Scope} {f:Addr} {cd:Value} {A:Around} {outer:List Env} {s s1:Shared} {H:Hp} {E:XK} {us:List Value} {vs:List V}
  (S:FnScope N ps scope) (hd:A.handled=none) (e0:Env0 P w K mg base A outer s H) (hl:vs.length=ps.length) (r:Vals vs us)
  (x:InCallC s s.heap.objs.size (bindL (envOfC qual scope s.heap.objs.size f cd).kindOf (ps.zip us) fun _=>none) (cellsFrom (s.heap.objs.size + 1) scope.names []) (bindC (envOfC qual scope s.heap.objs.size f cd).kindOf (ps.zip us) fun _=>none) s1) :
  Inv (BD CX P w K mg base N qual scope f cd A outer s H E) [] (AK N vs) H s1:=by
 have hpl:ps.length<=N.length:=by have:=congrArg abq S.pre; rw [abF] at this; omega
 obtain ⟨h1,tk,rfl,hk⟩:=x.done
 have noA:∀ b:Addr,b ∉ (BD CX P w K mg base N qual scope f cd A outer s H E).ex:=fun b z=>absurd (show b ∈ ([]:List Addr) from z) (by simp)
 refine ⟨⟨e0.mod,S.kind,rfl,rfl,aag _,fun y z c h1 h2=>?_,fun y hy=>?_,fun y c _ h=>?_,fun _=>hd,Around.frames_deeper e0.frames,.inr ⟨rfl,rfl⟩,fun b z=>absurd z (noA b),e0.bs,e0.bsz,fun b _ _=>noA b,fun b z=>absurd z (noA b),e0.funs,e0.frf⟩,
  rfl,e0.bare,Un.kept hk,⟨_,x.toInCall.ns,fun i y v h1 h2 h3=>?_⟩,fun y c h=>⟨_,x.cell y c h⟩,e0.hok.fresh (aag _),fun y c h=>?_,fun p hp=>absurd (show p ∈ ([]:List (Addr × Obj)) from hp) (by simp),e0.hok.kept hk,?_⟩
 ·exact name_of_addr x.apart (PySem.mem_of_lookup h1) (PySem.mem_of_lookup h2)
 ·have hy:scope.names.lookup y=some .cell\/scope.names.lookup y=some .free:=hy
  rcases hy with hy | hy
  ·exact J4 hy
  ·exact absurd rfl (S.nofree _ (PySem.mem_of_lookup hy))
 ·exact aax (x.above y c (PySem.mem_of_lookup h))
 ·have hi:i < vs.length:=by
   unfold AK at h2
   by_cases hi:i < vs.length
   ·exact hi
   ·rw [aaG (by simpa using hi)] at h2
    rw [aaZ] at h2
    split at h2 <;> cases h2
  have ha:vs[i]?=some v:=by
   unfold AK at h2
   rw [aaW (by simpa using hi),aam] at h2
   cases e:vs[i]? with
   | none=>rw [e] at h2; cases h2
   | some a=>rw [e] at h2; cases h2; rfl
  obtain ⟨u,hu,rv⟩:=r.get ha
  have hp:ps[i]?=some y:=by
   rw [<- S.pre,List.getElem?_take_of_lt (by omega)]; exact h1
  have ndP:ps.Nodup:=by rw [<- S.pre]; exact S.nd.sublist (List.take_sublist _ _)
  refine ⟨u,rv,?_⟩
  rcases S.par y (aae hp) with k | k
  ·exact .inl ⟨k,Jm ndP hp hu k⟩
  ·obtain ⟨c,e⟩:=J4 (n:=s.heap.objs.size + 1) k
   refine .inr ⟨.inl k,c,e,?_⟩
   have q:=x.cell y c e
   rw [Jn ndP hp hu (by show scope.names.lookup y ≠ _; rw [k]; decide)] at q
   exact q
 ·exact e0.hok.fresh (aax (x.above y c (PySem.mem_of_lookup h)))
 ·unfold AK
  show _=N.length
  rw [aaC,aab,abd]
  omega
theorem VA {CX:CXT} {P:Program} {w:World} {K:PySem.W.Frag} {mg:Str->Option Value} {base:Heap} {k:Nat} {f:Addr} {name qual:Str} {params:Arguments} {body:List Stmt} {scope:Scope} {dV kV doc pm cdv ct oc:Value} {an od:Option Addr}
  {osl:Array (Option Value)} {N ps:List Str} {sp:Sp} (lk:K.lookup f=some ⟨oc,od,.func (PySem.W.fnOf name qual params body scope dV kV doc pm an cdv ct),osl⟩) (hcd:PySem.W.codeIn K cdv qual=true) (S:FnScope N ps scope)
  (len:∀ vs H Q E,sp vs H Q E->vs.length=ps.length)
  (hbody:∀ (A:Around) (outer:List Env) (s:Shared) (H:Hp) (vs:List V) (Q:VK) (E:XK),Room k (A.deeper (envOfC qual scope s.heap.objs.size f cdv))->sp vs H Q E ->
   ∃ t,PSs (BD CX P w K mg base N qual scope f cdv A outer s H E) body t/\t { nx:=fun _ H'=>Q .non H',rt:=Q } (AK N vs) H) :
  FnOk P w K mg base CX (k + 1) f (PySem.W.fnOf name qual params body scope dV kV doc pm an cdv ct) ps sp:=by
 refine ⟨len,fun A outer s H args us vs Q E hr e0 hb r hsp=>?_⟩
 have hl:=len _ _ _ _ hsp
 have KX:K.In s.heap:=e0.mod.kin.keeps fun b o e=>(e0.bs b o e).1
 have lim:s.heap.NoLimit:=e0.mod.nolimit.keeps fun b o e=>(e0.bs b o e).1
 have hkind:∀ y ∈ ps.zip us,scope.names.lookup y.1=some .local\/(scope.names.lookup y.1=some .cell/\((cellsFrom (s.heap.objs.size + 1) scope.names []).lookup y.1).isSome=true):=fun ⟨n,v⟩ hy=>by
  rcases S.par n (acD hy).1 with q | q
  ·exact .inl q
  ·exact .inr ⟨q,PySem.W.cellsFrom_some _ _ _ (.inl q)⟩
 refine codeAny_call_function hr.depth (KX _ _ lk) rfl S.co S.gen rfl (PySem.W.codeRec_of KX hcd) (hb _ _ _ _ ?_)
 refine wpAny_newFunctionEnv_cells S.kind hkind fun env he s1 x=>?_
 subst he
 refine ⟨lim.keeps x.toInCall.keep,codeAny_func ?_⟩
 obtain ⟨t,ht,hq⟩:=hbody A outer s H vs Q E (hr.deeper _) hsp
 have I:Inv (BD CX P w K mg base N qual scope f cdv A outer s H E) [] (AK N vs) H s1:=NT S hr.hd e0 hl r x
 refine wpAny_mono (ht [] s1 (AK N vs) H _ I hq) (fun fl s' hs=>?_) fun e s' hs=>hs
 have fin:∀ {σ':St} {H':Hp} {v:V} {u:Value},Inv (BD CX P w K mg base N qual scope f cdv A outer s H E) [] σ' H' s'->RelV v u->Q v H'->CE outer P w H s Q u s' :=
  fun {σ' H' v u} J rv q=>⟨v,H',J.os,J.bare,J.base,J.hok,rv,q⟩
 cases fl with
 | ret u =>
  obtain ⟨v,σ',H',J,rv,q⟩:=hs
  exact fin J rv q
 | next =>
  obtain ⟨σ',H',J,q⟩:=hs
  exact fin (v:=V.non) (u:=Value.none) J rfl q
 | brk =>
  obtain ⟨_,_,_,q⟩:=hs
  exact False.elim q
 | cont =>
  obtain ⟨_,_,_,q⟩:=hs
  exact False.elim q
section
variable {X:Cx} {x:Str} {p pos:Pos} {e:Expr} {es:List Expr} {t:TA} {id T:String} {r:List V->Hp->VK->Prop}
noncomputable def tCB (r:List V->Hp->VK->Prop) (t:TA):TE:=fun σ H Q=>t σ H fun vs H1=>r vs H1 Q
theorem DI (hc:DV X (.builtin id) r) (hg:Gl X x) (hm:X.mg x=none) (hv:bootBuiltins x=some (.builtin id)) (ha:PA X (e :: es) t) (hn:x ≠ "__name__" := by decide) (hdb:(x==("__debug__" : Str))=false:=by decide)
  (he:starEach (e :: es) X.env=(false,eval e X.env) :: starEach es X.env:=by rfl) (hpl:(backTo pos (starEach es X.env)).any (·.1)=false:=by rfl):PE X (.Call (.Name x p) (e :: es) [] pos) (tCB r t):=by
 intro pins s σ H Q I h
 refine wpAny_Call_Name_kw (Bq I hg hm hv ?_ hn hdb)
 exact PyProof.Rows.callWith_builtin1 (thn (ha pos pins s σ H _ I h) fun us s1 ⟨vs,H1,I1,r1,q1⟩=>hc pins s1 σ H1 vs us Q I1 r1 q1) he hpl
theorem Gb (hc:DV X (.type T) r) (hg:Gl X x) (hm:X.mg x=none) (hv:bootBuiltins x=some (.type T)) (ha:PA X (e :: es) t) (hn:x ≠ "__name__" := by decide) (hdb:(x==("__debug__" : Str))=false:=by decide)
  (he:starEach (e :: es) X.env=(false,eval e X.env) :: starEach es X.env:=by rfl) (hpl:(backTo pos (starEach es X.env)).any (·.1)=false:=by rfl):PE X (.Call (.Name x p) (e :: es) [] pos) (tCB r t):=by
 intro pins s σ H Q I h
 refine wpAny_Call_Name_kw (Bq I hg hm hv ?_ hn hdb)
 exact PyProof.Rows.callWith_type1 (thn (ha pos pins s σ H _ I h) fun us s1 ⟨vs,H1,I1,r1,q1⟩=>hc pins s1 σ H1 vs us Q I1 r1 q1) he hpl
end
end L2
namespace HT
open PySem PyProof.Rows
section
variable {prog:Program} {w:World} {A:Around} {E:Value->Shared->Prop} {s:Shared}
noncomputable def sIx (n d:Nat):Option Int->Nat
 | none=>d
 | some v=>if v < 0 then (v + (n:Int)).toNat else min v.toNat n
theorem T0 (n d:Nat) (hd:d<=n) (o:Option Int):sIx n d o<=n:=by
 cases o with
 | none=>exact hd
 | some v =>
  show (if v < 0 then (v + (n:Int)).toNat else min v.toNat n)<=n
  by_cases hv:v < 0
  ·rw [if_pos hv]; omega
  ·rw [if_neg hv]; exact abG _ _
theorem clip_eq (v:Int) (n d:Nat):(if v < 0 then max (v + (n:Int)) 0 else min v (n:Int))=((sIx n d (some v):Nat):Int):=by
 show (if v < 0 then max (v + (n:Int)) 0 else min v (n:Int))=(((if v < 0 then (v + (n:Int)).toNat else min v.toNat n):Nat):Int)
 by_cases hv:v < 0
 ·simp only [if_pos hv]; omega
 ·simp only [if_neg hv]; omega
theorem MG (lo hi:Option Int) (n:Nat):Builtin.Slice.sliceAdjust lo hi 1 (n:Int)=(((sIx n 0 lo:Nat):Int),((sIx n n hi:Nat):Int)):=by
 have h1:¬ ((1:Int) < 0):=by omega
 unfold Builtin.Slice.sliceAdjust
 simp only [h1,if_false]
 refine Prod.ext ?_ ?_
 ·cases lo with
  | none=>rfl
  | some v=>exact clip_eq v n 0
 ·cases hi with
  | none=>rfl
  | some v=>exact clip_eq v n n
theorem MH (i j:Nat):Builtin.Slice.slicePlaces (i:Int) (j:Int) 1=j - i:=by
 unfold Builtin.Slice.slicePlaces
 have h1:(1:Int) > 0:=by omega
 simp only [h1,if_true,Int.ediv_one]
 split <;> omega
theorem HP {v:Value} {o:Option Int} {Q:Option Int->Shared->Prop} (p:IsPart v o) (h:Q o s):wpAny (model prog w) A (Builtin.Slice.slicePartIndex v) Q E s:=by
 cases p with
 | none=>exact slicePart_none h
 | int i t=>exact slicePart_int h
theorem Hq {sl:Addr} {vl vu:Value} {lo hi:Option Int} {n:Nat} {Q:Int × Int × Nat->Shared->Prop} (hs:s.heap.IsSliceOf sl vl vu .none) (pl:IsPart vl lo) (pu:IsPart vu hi)
  (h:Q (((sIx n 0 lo:Nat):Int),1,sIx n n hi - sIx n 0 lo) s):wpAny (model prog w) A (Builtin.Slice.sliceApplied (.ref sl) (pure (n:Int))) Q E s:=by
 obtain ⟨os,hos,hcs,hds⟩:=id hs
 unfold Builtin.Slice.sliceApplied Builtin.Slice.sliceFields
 refine wpAny_bind (wpAny_bind (wpAny_field hos hds (x:=vl) rfl (wpAny_bind (wpAny_field hos hds (x:=vu) rfl (wpAny_bind (wpAny_field hos hds (x:=.none) rfl (wpAny_pure ?_)))))))
 refine wpAny_bind (slicePart_none ?_)
 show wpAny _ _ (if ((1:Int)==0)=true then _ else _) _ _ s
 rw [if_neg (by decide)]
 refine wpAny_bind (HP pl (wpAny_bind (HP pu (wpAny_bind (wpAny_pure ?_)))))
 show wpAny _ _ (match Builtin.Slice.sliceAdjust lo hi 1 (n:Int) with | (lo,hi)=>pure (lo,(1:Int),Builtin.Slice.slicePlaces lo hi 1)) _ _ s
 rw [MG lo hi n]
 show wpAny _ _ (pure (((sIx n 0 lo:Nat):Int),(1:Int),Builtin.Slice.slicePlaces ((sIx n 0 lo:Nat):Int) ((sIx n n hi:Nat):Int) 1)) _ _ s
 rw [MH]
 exact wpAny_pure h
theorem Pl (xs:Array Value) (i k:Nat):((aav k).filterMap fun (m:Nat)=>xs[((i:Int) + (m:Int) * 1).toNat]?).toArray=((xs.toList.drop i).take k).toArray:=by
 have e:(fun (m:Nat)=>xs[((i:Int) + (m:Int) * 1).toNat]?)=fun m=>xs[i + m]?:=by
  funext m
  have:((i:Int) + (m:Int) * 1).toNat=i + m:=by omega
  rw [this]
 rw [e]
 have:=pick_run xs i k
 rw [List.filterMap_map] at this
 have e2:((fun x=>xs[x]?) ∘ fun x=>i + x)=fun m=>xs[i + m]?:=rfl
 rw [e2] at this
 rw [this]
theorem getItem_tuple_cut {t sl:Addr} {items:Array Value} {vl vu:Value} {lo hi:Option Int} {Q:Value->Shared->Prop} (ht:IsTup s.heap t items) (hs:s.heap.IsSliceOf sl vl vu .none) (pl:IsPart vl lo) (pu:IsPart vu hi)
  (hw:¬ (sIx items.size 0 lo=0/\sIx items.size items.size hi=items.size))
  (h:Q (.ref s.heap.objs.size) { s with heap:=s.heap.push { cls:=.type "tuple",data:=.seq ((items.toList.drop (sIx items.size 0 lo)).take (sIx items.size items.size hi - sIx items.size 0 lo)).toArray } })
  (hsz:items.size<=sizeLine):wpAny (model prog w) A (getItem (.ref t) (.ref sl)) Q E s:=by
 have htake:sizeOk (.seq ((items.toList.drop (sIx items.size 0 lo)).take (sIx items.size items.size hi - sIx items.size 0 lo)).toArray):=by
  show ((items.toList.drop (sIx items.size 0 lo)).take (sIx items.size items.size hi - sIx items.size 0 lo)).toArray.size<=sizeLine
  rw [aaq,abF,acx,Array.length_toList]
  omega
 have hj:sIx items.size items.size hi<=items.size:=T0 _ _ (aag _) hi
 obtain ⟨os,hos,hcs,hds⟩:=id hs
 have hTs:s.TypeIs (.ref sl) "slice" := ⟨os,hos,hcs⟩
 unfold getItem
 try with_reducible refine wpAny_holding ?_
 first | refine wpAny_bind (wpAny_pure ?_) | skip
 refine wpAny_bind (wpAny_sequenceKey ht.typeIs (by decide) ?_)
 refine wpAny_bind (wpAny_callSpecial?_slot (name:=Str.ofString "__getitem__") ht.typeIs PyProof.Rows.slot_tuple_getitem
  (wpAny_call_entry PyProof.Rows.slot_tuple_getitem ht.typeIs entry_tuple_getitem ?_ (args_tuple_getitem _ _)))
 show wpAny _ _ (Builtin.Tuple.tupleItemsOf (.ref t) >>= _) _ _ s
 refine wpAny_bind (tupleItemsOf_ ht ?_)
 refine wpAny_bind (wpAny_typeOf hTs ?_)
 rw [if_pos (by decide)]
 refine wpAny_bind (Hq hs pl pu ?_)
 have hno:¬ ((((sIx items.size 0 lo:Nat):Int)==0 && (1:Int)==1 && (sIx items.size items.size hi - sIx items.size 0 lo)==items.size)=true):=by
  intro q
  rw [aaf,aaf] at q
  have q1:((sIx items.size 0 lo:Nat):Int)=0:=eq_of_beq q.1.1
  have q2:sIx items.size items.size hi - sIx items.size 0 lo=items.size:=eq_of_beq q.2
  exact hw ⟨by omega,by omega⟩
 show wpAny _ _ (if (((sIx items.size 0 lo:Nat):Int)==0 && (1:Int)==1 && (sIx items.size items.size hi - sIx items.size 0 lo)==items.size)=true then _ else _) _ _ s
 rw [if_neg hno,Pl]
 first
  | exact wpAny_bind (m:=Builtin.Tuple.tupleExact _) (wpAny_newObj_type (wpAny_pure ⟨_,rfl,wpAny_pure h⟩) htake)
  | exact wpAny_bind (m:=Builtin.Tuple.tupleExact _) (wpAny_newObj_type (wpAny_bind (wpAny_pure (wpAny_pure ⟨_,rfl,wpAny_pure h⟩))) htake)
  | exact wpAny_bind (wpAny_bind (m:=Builtin.Tuple.tupleExact _) (wpAny_newObj_type (wpAny_pure (wpAny_pure ⟨_,rfl,wpAny_pure h⟩)) htake))
  | exact wpAny_bind (wpAny_bind (m:=Builtin.Tuple.tupleExact _) (wpAny_newObj_type (wpAny_pure ⟨_,rfl,wpAny_pure h⟩) htake))
end
end HT
namespace L2
open PySem PySem.Spec PyProof.Rows
noncomputable abbrev TO:=St->Hp->(Option Int->Hp->Prop)->Prop
noncomputable def PO (X:Cx) (e:Option Expr) (t:TO):Prop :=
 ∀ (pins:List (Addr × Obj)) (s:Shared) (σ:St) (H:Hp) (Q:Option Int->Hp->Prop),Inv X pins σ H s->t σ H Q ->
  wpAny (model X.prog X.w) X.A (evalPart e X.env) (fun u s'=>∃ o H',Inv X pins σ H' s'/\IsPart u o/\Q o H') X.xe s
noncomputable def Ri:TO:=fun _ H Q=>Q none H
noncomputable def VB (t:TE):TO:=fun σ H Q=>t σ H fun x H1=>∃ i,x=.int i/\Q (some i) H1
theorem MI {ns:List Int}:∀ {us:List Value},Vals (ns.map V.int) us->IntsAre us ns:=by
 induction ns with
 | nil=>intro us r; rw [abi] at r; cases r; exact .nil
 | cons n ns ih =>
  intro us r
  rw [aay] at r
  cases r with
  | cons r1 r2 =>
   obtain ⟨t,e⟩:=r1
   subst e
   exact .cons n t (ih r2)
section
variable {X:Cx} {e:Expr} {te:TE} {lo hi:Option Expr} {tl th:TO} {pos p2:Pos}
theorem Rj:PO X none Ri:=by
 intro pins s σ H Q I h
 rw [evalPart_none]
 exact wpAny_pure ⟨none,H,I,.none,h⟩
theorem Rk (h:PE X e te):PO X (some e) (VB te):=by
 intro pins s σ H Q I hw
 rw [evalPart_some]
 refine thn (h pins s σ H _ I hw) fun u s1 ⟨x,H1,I1,r1,q1⟩=>?_
 obtain ⟨i,rfl,q⟩:=q1
 obtain ⟨t,rfl⟩:=r1
 exact ⟨some i,H1,I1,.int i t,q⟩
noncomputable def SlR (X:Cx) (r:V->Option Int->Option Int->Hp->VK->Prop):Prop :=
 ∀ (pins:List (Addr × Obj)) (s:Shared) (σ:St) (H:Hp) (x:V) (v vl vu:Value) (lo hi:Option Int) (sl:Addr) (Q:VK),Inv X pins σ H s->RelV x v->s.heap.IsSliceOf sl vl vu .none->IsPart vl lo->IsPart vu hi->r x lo hi H Q ->
  ∃ T id,typeLookup (.type T) "__getitem__" = pure (some (.builtin id))/\s.TypeIs v T/\wpAny (model X.prog X.w) X.A (getItem v (.ref sl)) (EP X pins σ Q) X.xe s
theorem SlR.or {r r':V->Option Int->Option Int->Hp->VK->Prop} (h:SlR X r) (h':SlR X r'):SlR X (fun x lo hi H Q=>r x lo hi H Q\/r' x lo hi H Q):=by
 intro pins s σ H x v vl vu lo hi sl Q I rx hs pl pu q
 rcases q with q | q
 ·exact h pins s σ H x v vl vu lo hi sl Q I rx hs pl pu q
 ·exact h' pins s σ H x v vl vu lo hi sl Q I rx hs pl pu q
noncomputable def tSl (r:V->Option Int->Option Int->Hp->VK->Prop) (te:TE) (tl th:TO):TE:=fun σ H Q=>te σ H fun x H1=>tl σ H1 fun l H2=>th σ H2 fun u H3=>r x l u H3 Q
theorem Pm {r:V->Option Int->Option Int->Hp->VK->Prop} (hr:SlR X r) (he:PE X e te) (hl:PO X lo tl) (hu:PO X hi th):PE X (.Subscript e (.Slice lo hi none p2) pos) (tSl r te tl th):=by
 intro pins s σ H Q I h
 refine Subscript_ (thn (he pins s σ H _ I h) fun v s1 ⟨x,H1,I1,r1,q1⟩=>?_)
 refine wpAny_Slice (thn (hl pins s1 σ H1 _ I1 q1) fun vl s2 ⟨l,H2,I2,pl,q2⟩=>thn (hu pins s2 σ H2 _ I2 q2) fun vu s3 ⟨u,H3,I3,pu,q3⟩=>?_)
 rw [evalPart_none]
 refine wpAny_pure ?_
 have I4:Inv X pins σ H3 { s3 with heap:=s3.heap.push { cls:=.type "slice",data:=.fields #[vl,vu,.none] } }:=I3.kept (t':=s3.toks) fun b ob q=>Heap.get?_push_of_some _ q
 obtain ⟨T,id,hT,ht,hg⟩:=hr pins { s3 with heap:=s3.heap.push { cls:=.type "slice",data:=.fields #[vl,vu,.none] } } σ H3 x v vl vu l u s3.heap.objs.size Q I4 r1 (Heap.IsSliceOf.new ..) pl pu q3
 show wpAny (model X.prog X.w) X.A (subscriptTail e (.Slice lo hi none p2) v (.ref s3.heap.objs.size)) (EP X pins σ Q) X.xe { s3 with heap:=s3.heap.push { cls:=.type "slice",data:=.fields #[vl,vu,.none] } }
 exact tail_any (ops:=[.ref s3.heap.objs.size,v]) ht hT hg (by with_unfolding_all rfl)
noncomputable def Gc (xs:List V) (lo hi:Option Int):List V:=(xs.drop (HT.sIx xs.length 0 lo)).take (HT.sIx xs.length xs.length hi - HT.sIx xs.length 0 lo)
theorem Hj (xs:List V) (lo hi:Option Int):(Gc xs lo hi).length<=xs.length:=by
 unfold Gc
 rw [abF,acx]
 omega
noncomputable def Wc (K:PySem.W.Frag):V->Option Int->Option Int->Hp->VK->Prop:=fun x lo hi H Q=>∃ a xs,x=.ref a/\SqT K H a xs /\
 ¬ (HT.sIx xs.length 0 lo=0/\HT.sIx xs.length xs.length hi=xs.length)/\∀ p,H p=none->Q (.ref p) (upd H p (.tup (Gc xs lo hi)))
theorem T3:SlR X (Wc X.K):=by
 intro pins s σ H x v vl vu lo hi sl Q I rx hs pl pu h
 obtain ⟨a,xs,rfl,hx,hw,q⟩:=h
 cases rx
 obtain ⟨its,r,ht,hz⟩:=I.tuple hx
 have hlen:its.toArray.size=xs.length:=by rw [aaq]; exact r.length.symm
 refine ⟨"tuple",_,PyProof.Rows.slot_tuple_getitem.lookup,ht.typeIs,?_⟩
 refine HT.getItem_tuple_cut ht hs pl pu (by rw [hlen]; exact hw) ?_ (by rw [hlen]; exact hz)
 rw [hlen]
 refine ⟨.ref s.heap.objs.size,_,I.laid (t':=s.toks) (o:=.tup (Gc xs lo hi)) (fun b ob q=>Heap.get?_push_of_some _ q) (aag _) ?_,rfl,q _ (I.hok.fresh (aag _))⟩
 exact ⟨aao (Hj xs lo hi) hz,_,(r.drop (HT.sIx xs.length 0 lo)).take (HT.sIx xs.length xs.length hi - HT.sIx xs.length 0 lo),IsTup.new _ _⟩
end
noncomputable def ixN (n:Nat) (i:Int):Option Nat:=if 0<=i then (if i < n then some i.toNat else none) else if -(n:Int)<=i then some (i + n).toNat else none
noncomputable def atI {α:Type} (xs:List α) (i:Int):Option α:=(ixN xs.length i).bind fun j=>xs[j]?
theorem LH {n:Nat} {i:Int} {j:Nat} (h:ixN n i=some j):seqIndex? i n=some j/\j < n/\-(n:Int)<=i/\i < n:=by
 unfold ixN at h
 by_cases h0:0<=i
 ·rw [if_pos h0] at h
  by_cases h1:i < n
  ·rw [if_pos h1] at h
   have e:i.toNat=j:=Option.some.inj h
   exact ⟨by rw [seqIndex_of h0 h1,e],by omega,by omega,h1⟩
  ·rw [if_neg h1] at h; cases h
 ·rw [if_neg h0] at h
  by_cases h1:-(n:Int)<=i
  ·rw [if_pos h1] at h
   have e:(i + n).toNat=j:=Option.some.inj h
   exact ⟨by rw [seqIndex_neg (by omega) h1,e],by omega,h1,by omega⟩
  ·rw [if_neg h1] at h; cases h
theorem LJ {α:Type} {xs:List α} {i:Int} {v:α} (h:atI xs i=some v):∃ j,seqIndex? i xs.length=some j/\xs[j]?=some v/\j < xs.length/\-(xs.length:Int)<=i/\i < xs.length:=by
 unfold atI at h
 cases e:ixN xs.length i with
 | none=>rw [e] at h; cases h
 | some j =>
  rw [e] at h
  obtain ⟨h1,h2,h3,h4⟩:=LH e
  exact ⟨j,h1,h,h2,h3,h4⟩
noncomputable def LK (b:Expr):Prop:=∀ o i,subscripted b false o i=operate [o,i] (getItem o i)
noncomputable def IxR (X:Cx) (r:R2):Prop :=
 ∀ (value slice:Expr) (pins:List (Addr × Obj)) (s:Shared) (σ:St) (H:Hp) (x y:V) (v u:Value) (Q:VK),Inv X pins σ H s->RelV x v->RelV y u->r x y H Q ->
  subscripted slice false v u=operate [v,u] (getItem v u)->wpAny (model X.prog X.w) X.A (subscriptTail value slice v u) (EP X pins σ Q) X.xe s
noncomputable def MtR (X:Cx) (id:String) (r:V->List V->Hp->VK->Prop):Prop :=
 ∀ (pins:List (Addr × Obj)) (s:Shared) (σ:St) (H:Hp) (x:V) (xs:List V) (v:Value) (us:List Value) (Q:VK),Inv X pins σ H s->RelV x v->Vals xs us->r x xs H Q ->
  wpAny (model X.prog X.w) X.A (call (.builtin id) (v :: us)) (EP X pins σ Q) X.xe s
section
variable {X:Cx} {a b:Expr} {ta tb:TE} {pos:Pos}
theorem IxR.or {r r':R2} (h:IxR X r) (h':IxR X r'):IxR X (fun x y H Q=>r x y H Q\/r' x y H Q):=by
 intro value slice pins s σ H x y v u Q I rx ry q hs
 rcases q with q | q
 ·exact h value slice pins s σ H x y v u Q I rx ry q hs
 ·exact h' value slice pins s σ H x y v u Q I rx ry q hs
theorem MJ {r:R2} (hr:IxR X r) (ha:PE X a ta) (hb:PE X b tb) (hs:LK b):PE X (.Subscript a b pos) (tOp r ta tb):=by
 intro pins s σ H Q I h
 exact Subscript_ (Pg ha hb I h fun v u s2 x y H2 I2 rx ry q=>hr a b pins s2 σ H2 x y v u Q I2 rx ry q (hs _ _))
noncomputable def T4 (K:PySem.W.Frag):R2:=fun x y H Q=>∃ p xs i v,x=.ref p/\y=.int i/\SqL K H p xs/\atI xs i=some v/\Q v H
noncomputable def T5 (K:PySem.W.Frag):R2:=fun x y H Q=>∃ p xs i v,x=.ref p/\y=.int i/\SqT K H p xs/\atI xs i=some v/\Q v H
theorem II:IxR X (T4 X.K):=by
 intro value slice pins s σ H x y v u Q I rx ry h hs
 obtain ⟨p,xs,i,z,rfl,rfl,hq,he,q⟩:=h
 cases rx
 obtain ⟨t,rfl⟩:=ry
 obtain ⟨its,r,pl,hz⟩:=I.list hq
 obtain ⟨j,h1,h2,h3,h4,h5⟩:=LJ he
 obtain ⟨w,ew,rw'⟩:=r.get h2
 have hl:=r.length
 have hn:=Ga
 have fin:EP X pins σ Q w s:=⟨z,H,I,rw',q⟩
 by_cases h0:0<=i
 ·have hj:i.toNat=j:=by
   rw [seqIndex_of h0 h5] at h1
   exact Option.some.inj h1
  exact item_listR pl.isList h0 (by omega) (by rw [hj]; simpa using ew) fin hs
 ·have hj:(i + (its.toArray.size:Int)).toNat=j:=by
   rw [seqIndex_neg (by omega) h4] at h1
   rw [aaq,<- hl]
   exact Option.some.inj h1
  exact subscriptTail_builtinR (x:=w) pl.isList.typeIs slot_list_getitem.lookup
   (wpAny_getItem_list_neg (Q:=fun r s'=>r=w/\EP X pins σ Q r s') pl.isList (by omega) (by rw [aaq] <;> omega) (by omega) (by rw [hj]; simpa using ew) ⟨rfl,fin⟩) hs
theorem NU:IxR X (T5 X.K):=by
 intro value slice pins s σ H x y v u Q I rx ry h hs
 obtain ⟨p,xs,i,z,rfl,rfl,hq,he,q⟩:=h
 cases rx
 obtain ⟨t,rfl⟩:=ry
 obtain ⟨its,r,pl,hz⟩:=I.tuple hq
 obtain ⟨j,h1,h2,h3,h4,h5⟩:=LJ he
 obtain ⟨w,ew,rw'⟩:=r.get h2
 have hl:=r.length
 have hn:=Ga
 have fin:EP X pins σ Q w s:=⟨z,H,I,rw',q⟩
 exact subscriptTail_builtinR (x:=w) pl.typeIs slot_tuple_getitem.lookup
  (getItem_tuple (j:=j) (Q:=fun r s'=>r=w/\EP X pins σ Q r s') pl (by omega) (by omega) (by rw [aaq,<- hl]; exact h1) (by simpa using ew) ⟨rfl,fin⟩) hs
theorem MK (its:List Value) (n j:Nat) (u:Value):Obj.mapSeq (·.setIfInBounds j u) { cls:=.type "list",data:=.seq its.toArray n }={ cls:=.type "list",data:=.seq (its.set j u).toArray n }:=by
 simp [Obj.mapSeq]
theorem Inv.lst {pins:List (Addr × Obj)} {σ:St} {H:Hp} {s:Shared} {p:Addr} {xs:List V} (I:Inv X pins σ H s) (h:H p=some (.lst xs)) :
  ∃ (its:List Value) (n:Nat),Vals xs its/\s.heap.get? p=some { cls:=.type "list",data:=.seq its.toArray n }/\xs.length<=sizeLine:=by
 obtain ⟨z,its,n,r,e⟩:=I.hok p _ h
 exact ⟨its,n,r,e,z⟩
theorem Inv.lstUpd {pins:List (Addr × Obj)} {σ:St} {H:Hp} {s:Shared} {p:Addr} {xs ys:List V} {its its':List Value} {n n':Nat} {f:Obj->Obj} (I:Inv X pins σ H s) (h:H p=some (.lst xs))
  (ho:s.heap.get? p=some { cls:=.type "list",data:=.seq its.toArray n }) (hf:f { cls:=.type "list",data:=.seq its.toArray n }={ cls:=.type "list",data:=.seq its'.toArray n' }) (r:Vals ys its') (hz:ys.length<=sizeLine) (t:Nat) :
  Inv X pins σ (upd H p (.lst ys)) { s with heap:=s.heap.update p f,toks:=t }:=by
 have e:(s.heap.update p f).get? p=some { cls:=.type "list",data:=.seq its'.toArray n' }:=by
  rw [Heap.get?_update_self f ho (by rw [hf] <;> rfl),hf]
 refine I.write (x:=p) (e:=p) (by rw [h]; trivial) (.inl rfl) (fun b u hb q=>(Heap.get?_update_other _ _ (Ne.symm hb)).trans q) ⟨_,e⟩ ?_
 exact ⟨hz,its',n',r,e⟩
noncomputable def QT:V->V->V->Hp->(Hp->Prop)->Prop:=fun o i v H Q=>∃ p xs k j,o=.ref p/\i=.int k/\H p=some (.lst xs)/\ixN xs.length k=some j/\Q (upd H p (.lst (xs.set j v)))
theorem Pn:Tz X QT:=by
 intro pins s σ H o i v ov iv u Q I ro ri rv h
 obtain ⟨p,xs,k,j,rfl,rfl,hp,hj,q⟩:=h
 cases ro
 obtain ⟨t,rfl⟩:=ri
 obtain ⟨its,n,r,ho,hz⟩:=I.lst hp
 obtain ⟨h1,h2,h3,h4⟩:=LH hj
 have hl:=r.length
 have hn:=Ga
 have I':Inv X pins σ (upd H p (.lst (xs.set j v))) { s with heap:=s.heap.update p (Obj.mapSeq (·.setIfInBounds j u)) } :=
  I.lstUpd hp ho (MK its n j u) (r.set rv j) (by rw [aaB]; exact hz) s.toks
 by_cases h0:0<=k
 ·have hk:k.toNat=j:=by
   rw [seqIndex_of h0 h4] at h1
   exact Option.some.inj h1
  exact PySem.W.ki_setAt ho h0 (by omega) (by rw [aaq,<- hl]; exact h4) (by rw [hk]; exact ⟨_,I',q⟩)
 ·have hk:(k + (its.toArray.size:Int)).toNat=j:=by
   rw [seqIndex_neg (by omega) h3] at h1
   rw [aaq,<- hl]
   exact Option.some.inj h1
  exact PySem.W.ki_setBack ho (by omega) (by rw [aaq,<- hl]; exact h3) (by omega) (by rw [hk]; exact ⟨_,I',q⟩)
theorem J5 (lo hi:Option Int) (n:Nat):(sliceBounds lo hi none n).1=((HT.sIx n 0 lo:Nat):Int)/\(sliceBounds lo hi none n).2.1=((HT.sIx n n hi:Nat):Int)/\(sliceBounds lo hi none n).2.2=1:=by
 refine ⟨?_,?_,rfl⟩
 ·cases lo with
  | none=>simp [sliceBounds,HT.sIx]
  | some i =>
   simp only [sliceBounds,HT.sIx,ac9,show (1:Int) > 0 by decide,if_true]
   by_cases h:i < 0
   ·simp only [h,if_true] <;> omega
   ·simp only [h,if_false] <;> omega
 ·cases hi with
  | none=>simp [sliceBounds,HT.sIx]
  | some i =>
   simp only [sliceBounds,HT.sIx,ac9,show (1:Int) > 0 by decide,if_true]
   by_cases h:i < 0
   ·simp only [h,if_true] <;> omega
   ·simp only [h,if_false] <;> omega
theorem JA (its:List Value) (lo hi:Option Int):slicePick its.toArray lo hi none=((its.drop (HT.sIx its.length 0 lo)).take (HT.sIx its.length its.length hi - HT.sIx its.length 0 lo)).toArray:=by
 obtain ⟨h1,h2,h3⟩:=J5 lo hi its.toArray.size
 unfold slicePick
 rw [h1,h2,h3]
 simp only [sliceRange_one,pick_run,aaq] <;> rfl
noncomputable def Wd (K:PySem.W.Frag):V->Option Int->Option Int->Hp->VK->Prop:=fun x lo hi H Q=>∃ a xs,x=.ref a/\SqL K H a xs/\∀ p,H p=none->Q (.ref p) (upd H p (.lst (Gc xs lo hi)))
theorem Rl:SlR X (Wd X.K):=by
 intro pins s σ H x v vl vu lo hi sl Q I rx hs pl pu h
 obtain ⟨a,xs,rfl,hx,q⟩:=h
 cases rx
 obtain ⟨its,r,ht,hz⟩:=I.list hx
 have hlen:=r.length
 refine ⟨"list",_,slot_list_getitem.lookup,ht.isList.typeIs,?_⟩
 refine wpAny_getItem_list_slice ht.isList hs pl pu .none (by simp) ?_ (by rw [aaq] <;> omega)
 rw [JA,<- hlen]
 refine ⟨.ref s.heap.objs.size,_,I.laid (t':=s.toks) (o:=.lst (Gc xs lo hi)) (fun b ob q=>Heap.get?_push_of_some _ q) (aag _) ?_,rfl,q _ (I.hok.fresh (aag _))⟩
 exact ⟨aao (Hj xs lo hi) hz,_,0,(r.drop (HT.sIx xs.length 0 lo)).take (HT.sIx xs.length xs.length hi - HT.sIx xs.length 0 lo),Heap.get?_push_size _ rfl⟩
theorem J6:DV X (.builtin "len") (fun xs H Q=>∃ p ys,xs=[.ref p]/\(SqL X.K H p ys\/SqT X.K H p ys)/\Q (.int ys.length) H):=by
 intro pins s σ H xs us Q I r h
 obtain ⟨p,ys,rfl,hq,q⟩:=h
 obtain ⟨u,rfl,rx⟩:=GO r
 cases rx
 have hn:=Ga
 rcases hq with hq | hq
 ·obtain ⟨its,r',pl,hz⟩:=I.list hq
  have hlen:=r'.length
  exact Calls.call_len_list pl.isList (by simp only [aaq] <;> omega) ⟨.int ys.length,H,I.tok _,⟨s.toks + 1,by rw [aaq,hlen]⟩,q⟩
 ·obtain ⟨its,r',pl,hz⟩:=I.tuple hq
  have hlen:=r'.length
  exact len_tuple pl (by simp only [aaq] <;> omega) ⟨.int ys.length,H,I.tok _,⟨s.toks + 1,by rw [aaq,hlen]⟩,q⟩
theorem Gd:DV X (.type "list") (fun xs H Q=>∃ p ys,xs=[.ref p]/\(SqL X.K H p ys\/SqT X.K H p ys)/\∀ l,H l=none->Q (.ref l) (upd H l (.lst ys))):=by
 intro pins s σ H xs us Q I r h
 obtain ⟨p,ys,rfl,hq,q⟩:=h
 obtain ⟨u,rfl,rx⟩:=GO r
 cases rx
 have fin:∀ (its:List Value),Vals ys its->ys.length<=sizeLine->∀ (h':Heap) (c':Nat),(∀ b o',s.heap.get? b=some o'->h'.get? b=some o') ->
   h'.get? s.heap.objs.size=some { cls:=.type "list",dict:=none,data:=.seq its.toArray c',slots:=#[] }->EP X pins σ Q (.ref s.heap.objs.size) { s with heap:=h' }:=fun its r' hz h' c' kp e =>
  ⟨.ref s.heap.objs.size,_,I.laid (t':=s.toks) kp (aag _) (show ObjOk X.prog X.w _ h' _ (.lst ys) from ⟨hz,its,c',r',e⟩),rfl,q _ (I.hok.fresh (aag _))⟩
 rcases hq with hq | hq
 ·obtain ⟨its,r',pl,hz⟩:=I.list hq
  have hlen:=r'.length
  obtain ⟨o,ho,hc,n,hd⟩:=pl.isList
  exact call_list_seq p (.inl rfl) ho hc hd (fun h' c' kp e=>fin its r' hz h' c' kp e) (by simp only [aaq] <;> omega)
 ·obtain ⟨its,r',pl,hz⟩:=I.tuple hq
  have hlen:=r'.length
  obtain ⟨o,ho,hc,n,hd⟩:=pl
  exact call_list_seq p (.inr rfl) ho hc hd (fun h' c' kp e=>fin its r' hz h' c' kp e) (by simp only [aaq] <;> omega)
noncomputable def tyV (K:PySem.W.Frag) (T:String) (x:V) (H:Hp):Prop:=match x with
 | .str _=>T = "str"
 | .int _=>T = "int"
 | .ref p=>(T = "list" /\ ∃ xs,SqL K H p xs)\/(T = "tuple" /\ ∃ o,K.lookup p=some o/\o.cls=.type "tuple" /\ o.dict=none) \/
   (T = "dict" /\ ((∃ kvs,H p=some (.dK kvs))\/∃ kvs,H p=some (.dT kvs)))\/(T = "set" /\ ∃ S n,H p=some (.set S n))
 | _=>False
theorem NV {pins:List (Addr × Obj)} {σ:St} {H:Hp} {s:Shared} {T:String} {x:V} {v:Value} (I:Inv X pins σ H s) (r:RelV x v) (ty:tyV X.K T x H) :
  s.TypeIs v T/\∀ a,v=.ref a->∃ ob,s.heap.get? a=some ob/\ob.dict=none:=by
 cases x with
 | str z =>
  obtain ⟨t,rfl⟩:=r
  cases (show T = "str" from ty)
  exact ⟨typeIs_str s z t,fun _ e=>nomatch e⟩
 | int i =>
  obtain ⟨t,rfl⟩:=r
  cases (show T = "int" from ty)
  exact ⟨typeIs_int s i t,fun _ e=>nomatch e⟩
 | ref p =>
  cases r
  rcases ty with ⟨rfl,xs,hq⟩ | ⟨rfl,o,hk,hc,hd⟩ | ⟨rfl,hk⟩ | ⟨rfl,S,n,hk⟩
  ·obtain ⟨its,_,pl,_⟩:=I.list hq
   refine ⟨pl.isList.typeIs,fun a e=>?_⟩
   cases e
   obtain ⟨o,n,e,c,hd,_⟩:=pl
   exact ⟨o,e,hd⟩
  ·refine ⟨⟨o,I.kIn p o hk,hc⟩,fun a e=>?_⟩
   cases e
   exact ⟨o,I.kIn _ o hk,hd⟩
  ·have z:∃ o,s.heap.get? p=some o/\o.ExactDict:=by
    rcases hk with ⟨kvs,hk⟩ | ⟨kvs,hk⟩
    ·obtain ⟨_,_,_,_,o,_,_,e,ex,_⟩:=I.hok p _ hk
     exact ⟨o,e,ex⟩
    ·obtain ⟨_,_,_,_,o,_,_,e,ex,_⟩:=I.hok p _ hk
     exact ⟨o,e,ex⟩
   obtain ⟨o,e,ex⟩:=z
   refine ⟨⟨o,e,ex.1⟩,fun a e2=>?_⟩
   cases e2
   exact ⟨o,e,ex.2.1⟩
  ·obtain ⟨o,_,_,_,e,ex,_⟩:=I.hok p _ hk
   refine ⟨⟨o,e,ex.1⟩,fun a e2=>?_⟩
   cases e2
   exact ⟨o,e,ex.2.1⟩
 | _=>exact False.elim ty
noncomputable def We (K:PySem.W.Frag) (T:String) (r:V->List V->Hp->VK->Prop) (to:TE):TE:=fun σ H Q=>to σ H fun x H1=>tyV K T x H1/\r x [] H1 Q
noncomputable def tBM (K:PySem.W.Frag) (T:String) (r:V->List V->Hp->VK->Prop) (to:TE) (t:TA):TE:=fun σ H Q=>to σ H fun x H1=>tyV K T x H1/\t σ H1 fun xs H2=>r x xs H2 Q
variable {o e:Expr} {es:List Expr} {to:TE} {t:TA} {name:Str} {apos cpos:Pos} {T id:String} {r:V->List V->Hp->VK->Prop}
theorem T6 (pa:PlainAttrs T) (slot:Slot T name id) (hty:typeOf (.builtin id)=pure (.type "method_descriptor")) (hm:MtR X id r) (ho:PE X o to)
  (hbase:attributeBase o name X.env (eval o X.env)=eval o X.env:=by rfl) (hline:(apos.endLine==cpos.line)=true:=by rfl):PE X (.Call (.Attribute o name apos) [] [] cpos) (We X.K T r to):=by
 intro pins s σ H Q I h
 refine wpAny_Call_method0_late hbase hline (thn (ho pins s σ H _ I h) fun v s1 ⟨x,H1,I1,r1,ty,q1⟩=>?_)
 obtain ⟨h1,h2⟩:=NV I1 r1 ty
 exact ⟨T,id,pa,slot,hty,h1,h2,Calls.callWith_builtin rfl (PySem.evalArgs_none (hm pins s1 σ H1 x [] v [] Q I1 r1 .nil q1))⟩
theorem HQ (pa:PlainAttrs T) (slot:Slot T name id) (hty:typeOf (.builtin id)=pure (.type "method_descriptor")) (hm:MtR X id r) (ho:PE X o to) (ha:PA X (e :: es) t)
  (hbase:attributeBase o name X.env (eval o X.env)=eval o X.env:=by rfl)
  (hfew:((backTo cpos (starEach (e :: es) X.env)).all (fun x=>!x.1) && (backToKw cpos (keywordEach [] X.env)).all (fun x=>x.1.isSome)
   && decide ((e :: es).length + ([]:List Keyword).length + (if ([]:List Keyword).isEmpty then 0 else 1) < 30))=true:=by rfl)
  (hline:(apos.endLine==cpos.line)=true:=by rfl) (hs:starEach (e :: es) X.env=(false,eval e X.env) :: starEach es X.env:=by rfl) (hplain:(backTo cpos (starEach es X.env)).any (·.1)=false:=by rfl) :
  PE X (.Call (.Attribute o name apos) (e :: es) [] cpos) (tBM X.K T r to t):=by
 intro pins s σ H Q I h
 refine wpAny_Call_method_late hbase hfew hline rfl (thn (ho pins s σ H _ I h) fun v s1 ⟨x,H1,I1,r1,ty,q1⟩=>?_)
 obtain ⟨h1,h2⟩:=NV I1 r1 ty
 refine ⟨T,id,pa,slot,hty,h1,h2,?_⟩
 have hA:=ha cpos pins s1 σ H1 _ I1 q1
 rw [hs] at hA ⊢
 refine Calls.callWith_builtin (by show (false || (backTo cpos (starEach es X.env)).any (·.1))=false; rw [hplain] <;> rfl) (Calls.evalArgs_plain ?_)
 exact thn hA fun us s2 ⟨vs,H2,I2,r2,q2⟩=>hm pins s2 σ H2 x vs v us Q I2 r1 r2 q2
/- xs.append(e),list.index on a module's tuple .. are MtR facts of 06m -/
end
noncomputable def MtM (X:Cx) (id:String) (r:V->List V->Hp->VK->Prop):Prop :=
 ∀ (pins:List (Addr × Obj)) (s:Shared) (σ:St) (H:Hp) (x:V) (xs:List V) (v:Value) (us:List Value) (Q:VK),Inv X pins σ H s->RelV x v->Vals xs us->r x xs H Q ->
  wpAny (model X.prog X.w) X.A (call (.builtin id) (v :: us)) (EP X pins σ Q) X.xe s
theorem Vals.one:∀ {x:V} {us:List Value},Vals [x] us->∃ u,us=[u]/\RelV x u
 | _,_,.cons r .nil=>⟨_,rfl,r⟩
theorem Vals.zero:∀ {us:List Value},Vals [] us->us=[]
 | _,.nil=>rfl
theorem Vals.reverse {xs:List V} {us:List Value} (h:Vals xs us):Vals xs.reverse us.reverse:=by
 induction h with
 | nil=>exact .nil
 | cons r t ih=>rw [ab4,ab4]; exact Vals.append ih (.cons r .nil)
theorem Vals.rep {xs:List V} {us:List Value} (h:Vals xs us):∀ k:Nat,Vals (aaj k xs).flatten (aaj k us).flatten
 | 0=>.nil
 | k + 1=>by
  rw [abx,abx,abO,abO]
  exact Vals.append h (Vals.rep h k)
theorem Jo (its:List Value):∀ (k:Nat) (acc:List Value),
  ada (fun x1 x2=>x1 ++ x2) acc.toArray (aaj k its.toArray)=(acc ++ (aaj k its).flatten).toArray
 | 0,acc=>by simp
 | k + 1,acc=>by
  have e:acc.toArray ++ its.toArray=(acc ++ its).toArray:=by simp
  have e2:(acc ++ its) ++ (aaj k its).flatten=acc ++ (aaj (k + 1) its).flatten:=by
   rw [abx,abO,aa2]
  rw [<- e2,<- Jo its k (acc ++ its),<- e,abx,ace]
section
variable {X:Cx} {pins:List (Addr × Obj)} {σ:St} {H:Hp} {s:Shared} {l b:Addr} {xs ys zs:List V}
theorem Inv.lset {its its':List Value} {n:Nat} {f:Array Value->Array Value} {t':Nat} (I:Inv X pins σ H s) (hH:H l=some (.lst xs))
  (e:s.heap.get? l=some { cls:=.type "list",data:=.seq its.toArray n }) (hf:f its.toArray=its'.toArray) (hv:Vals ys its') (hz:ys.length<=sizeLine) :
  Inv X pins σ (upd H l (.lst ys)) { s with heap:=s.heap.update l (Obj.mapSeq f),toks:=t' }:=by
 have q:=PySem.IsL.update e f
 rw [hf] at q
 refine I.write (x:=l) (e:=l) (by rw [hH]; exact trivial) (.inl rfl) (fun b' u hb hu=>(Heap.get?_update_other s.heap (Obj.mapSeq f) (Ne.symm hb)).trans hu) ⟨_,q⟩ ?_
 exact ⟨hz,its',_,hv,q⟩
theorem Inv.lnew {its:List Value} {t':Nat} (I:Inv X pins σ H s) (hv:Vals ys its) (hz:ys.length<=sizeLine) :
  Inv X pins σ (upd H s.heap.objs.size (.lst ys)) { s with heap:=s.heap.push { cls:=.type "list",data:=.seq its.toArray },toks:=t' } :=
 I.laid (fun _ _ q=>Heap.get?_push_of_some _ q) (aag _) ⟨hz,its,0,hv,Heap.get?_push_size _ rfl⟩
theorem Inv.fresh (I:Inv X pins σ H s):H s.heap.objs.size=none:=I.hok.fresh (aag _)
theorem Inv.lstM (I:Inv X pins σ H s) (hH:H l=some (.lst xs)):xs.length<=sizeLine/\∃ (its:List Value) (n:Nat),Vals xs its/\xs.length=its.length/\s.heap.get? l=some { cls:=.type "list",data:=.seq its.toArray n }:=by
 obtain ⟨z,its,n,r,e⟩:=I.hok l _ hH
 exact ⟨z,its,n,r,r.length,e⟩
theorem J7 {n:Nat} (h:n<=sizeLine):Builtin.List.listTooLong n=false:=by
 unfold Builtin.List.listTooLong
 exact decide_eq_false (by omega)
end
section
variable {X:Cx}
noncomputable def GP:V->List V->Hp->VK->Prop:=fun x vs H Q=>∃ l xs y,x=.ref l/\vs=[y]/\H l=some (.lst xs)/\xs.length < sizeLine/\Q .non (upd H l (.lst (xs ++ [y])))
theorem EU:MtM X "list.append" GP:=by
 intro pins s σ H x vs v us Q I rx rv h
 obtain ⟨l,xs,y,rfl,rfl,hH,hz,q⟩:=h
 cases rx
 obtain ⟨u,rfl,ru⟩:=rv.one
 obtain ⟨z,its,n,r,hl,e⟩:=I.lstM hH
 refine call_meets F.slot_list_append ⟨_,e,rfl⟩ F.entry_list_append (F.args_list_append_2 _ _) (PySem.list_append l its.toArray n u (by rw [aaq]; omega)) ⟨e,?_⟩
 refine ⟨.non,_,I.lset (its':=its ++ [u]) hH e (by simp) (r.append (.cons ru .nil)) ?_,rfl,q⟩
 rw [aaC,abC]
 omega
noncomputable def NW:V->List V->Hp->VK->Prop:=fun x vs H Q=>∃ l xs,x=.ref l/\vs=[]/\H l=some (.lst xs)/\Q .non (upd H l (.lst []))
theorem Po:MtM X "list.clear" NW:=by
 intro pins s σ H x vs v us Q I rx rv h
 obtain ⟨l,xs,rfl,rfl,hH,q⟩:=h
 cases rx
 have hus:=rv.zero
 subst hus
 obtain ⟨z,its,n,r,hl,e⟩:=I.lstM hH
 refine call_meets F.slot_list_clear ⟨_,e,rfl⟩ F.entry_list_clear (F.args_list_clear_1 _) (AutoSeq1.list_clear_list_0 l its.toArray n (by rw [aaq]; omega)) ⟨e,?_⟩
 exact ⟨.non,_,I.lset (its':=[]) (ys:=[]) hH e rfl .nil (aar _),rfl,q⟩
theorem Rm {α:Type} (xs:List α) (k:Nat):(aaj k xs).flatten.length=k * xs.length:=by
 induction k with
 | zero=>simp
 | succ k ih=>rw [abx,abO,aaC,ih,acf,ac1]
end
end L2
namespace Att
open PySem PySem.W PySem.Calls PyProof.Rows
theorem HR {P:Params} {h:Heap}:∀ (ns:List Int) (vs:List Value),WellAll P h vs (ns.map WData.int)->IntsAre vs ns:=by
 intro ns
 induction ns with
 | nil =>
  intro vs w
  rw [abi] at w
  cases w
  exact .nil
 | cons n ns ih =>
  intro vs w
  rw [aay] at w
  cases w with
  | cons a b =>
   cases a
   exact .cons _ _ (ih _ b)
theorem NX {l:OpenLaw} {n:Nat} (hn:l.most=some n) {P:Params} {h:Heap} {args:List WData} {vals:List Value}
  (hpre:l.row.toRowW.claim.pre args=true) (hwl:WellAll P h vals args) :
  ∃ a vs ns,vals=[Value.ref a]/\args=[WData.list (ns.map WData.int)]/\h.get? a=some { cls:=.type "list",data:=.seq vs.toArray }/\IntsAre vs ns/\ns.length<=n:=by
 have hsh:WShape.hasAll [] args [.list .int]=true:=(pre_splitW hpre).1
 have hc:l.pre.holds [] { args:=args }=true:=(pre_splitW hpre).2
 obtain ⟨d,r,rfl,h1,h2⟩:=hasAllW_cons hsh
 obtain rfl:=hasAllW_nil h2
 obtain ⟨xs,rfl,h3⟩:=hasW_list h1
 obtain ⟨ns,rfl⟩:=items_int h3
 have hlen:ns.length<=n:=by
  unfold OpenLaw.pre at hc
  have h4:(WTm.not (.lt (.lit (.int (n:Int))) (.len (.arg 0)))).holds [] { args:=[.list (ns.map .int)] }=true:=by
   have h4:=(holds_andW hc).1
   rw [hn] at h4
   exact h4
  have h5:=condW_of h4 (w_not (w_lt w_lit (w_len_list (w_arg rfl))))
  rw [aab] at h5
  refine abl fun q=>?_
  have q':(n:Int) < ((ns.length:Nat):Int):=by omega
  first
   | (rw [decide_eq_true q'] at h5; exact absurd h5 (by decide))
   | (simp at h5; omega)
 cases hwl with
 | cons w1 w2 =>
  cases w2
  cases w1 with
  | list ho hall=>exact ⟨_,_,ns,rfl,rfl,ho,HR ns _ hall,hlen⟩
theorem NY (l:OpenLaw) (args:List WData):l.row.toRowW.claim.post args (.bool true) args=true :=
 postW_of (r:=l.row.toRowW) (X:=(true==true))
  (show WShape.has [] (.bool true) .bool=true by first | rfl | decide | simp [WShape.has,WShape.arms,WShape.armsAll])
  (show (WTm.eq .res (.lit (.bool true))).value [] { args:=args,res:=some (.bool true),after:=args }=some (.bool (true==true)) from w_eq_bool (w_res rfl) w_lit) rfl
theorem attach_call {l:OpenLaw} {n:Nat} {q:Program} {loose:List Str} {XP:(Str->Option Value)->Heap->Prop} {YP:World->Heap->Prop} {d:DefRec}
  (hn:l.most=some n) (hdf:d.params.defaults=[])
  (call:∀ (w:World) (s₀ s₁:Shared) (mg mb:Str->Option Value) (fa:Addr) (o:Obj) (pm cd doc:Value) (a:Addr) (vs:List Value) (ns:List Int),
   Ground q loose [] XP w s₀ mg mb s₁.heap->YP w s₁.heap ->
   s₁.heap.get? fa=some o->o.data=.func (docDef d.name d.params d.body d.scope pm cd doc)->s₁.heap.CodeRec cd d.name->mg d.name=some (.ref fa) ->
   s₁.heap.get? a=some { cls:=.type "list",data:=.seq vs.toArray }->IntsAre vs ns->ns.length<=n->s₁.gens=#[] ->
   codeAny (model l.prog w) callerA (.call (.ref fa) ⟨[.ref a],[]⟩) (fun r s'=>r=.ok (.ret (.bool true))/\OldK s₁.heap s'.heap/\s'.os=s₁.os/\AllBare s'.gens) s₁) :
  WalkO q loose XP YP l.row.toRowW d [] (fun f vs=>PySem.call f vs):=by
 intro w s₀ s₁ mg mb G Y fa o pm cd doc dV kV ho hd hcd hD hmg hg args vals as hpre hlay hrd hwl hlo
 obtain rfl:dV=.none:=Dflts.none hD hdf
 obtain rfl:kV=.none:=Dflts.noKw hD
 obtain ⟨a,vs,ns,rfl,rfl,hobj,hints,hlen⟩:=NX hn hpre hwl
 refine enter_call (codeAny_mono (call w s₀ s₁ mg mb fa o pm cd doc a vs ns G Y ho (fd_plain hd) hcd hmg hobj hints hlen hg) fun r s' hq=>?_)
 obtain ⟨rfl,h2,h3,h4⟩:=hq
 exact ⟨.inl ⟨.bool true,.bool true,[],rfl,fun _=>rfl,.bool true,NY l _,fun _=>⟨List.Pairwise.nil,fun _ hm=>(nomatch hm)⟩⟩,h2,h3,h4⟩
end Att
namespace L2
open PySem PySem.Spec PyProof.Rows
theorem Jp:∀ {vs:List Value} {ns:List Int},IntsAre vs ns->Vals (ns.map V.int) vs
 | _,_,.nil=>.nil
 | _,_,.cons n t h=>.cons ⟨t,rfl⟩ (Jp h)
noncomputable def Pp (H:Hp):Prop:=∀ b,H b=none\/∃ o xs,H b=some (.frz o (.lst xs))
theorem Pq {P:Program} {w:World} {K:PySem.W.Frag} {mg mb:Str->Option Value} {CX:CXT} {k:Nat} {fa a:Addr} {fd:FuncData} {x:Str} {sp:Sp} {s₁:Shared} {vs:List Value} {ns:List Int}
  (KX:K.In s₁.heap) (hns:s₁.heap.Ns mainGlobals mg) (hb:s₁.heap.Ns builtinsNs mb) (hbb:∀ x:Str,x ≠ "__name__" -> mb x=bootBuiltins x) (hlim:s₁.heap.NoLimit) (hg:s₁.gens=#[])
  (ha:s₁.heap.get? a=some { cls:=.type "list",data:=.seq vs.toArray }) (hi:IntsAre vs ns) (hl:ns.length<=sizeLine) (hr:Room k callerA)
  (F:∀ base:Heap,K.In base->base.Ns mainGlobals mg->FnOk P w K mg base CX k fa fd [x] sp) (hbind:∀ (s:Shared) (u:Value),BindsTo s fd ⟨[u],[]⟩ [(x,u)])
  (hsp:∀ H:Hp,Pp H->SqL K H a (ns.map V.int)->sp [.ref a] H (fun v _=>v=.bl true) fun _ _ _=>False)
  (hCX:∀ H e s',CX [] H s₁ (fun _ _ _=>False) e s'->False) :
  codeAny (model P w) callerA (.call (.ref fa) ⟨[.ref a],[]⟩) (fun r s'=>r=.ok (.ret (.bool true))/\OldK s₁.heap s'.heap/\s'.os=s₁.os/\AllBare s'.gens) s₁:=by
 have rv:=Jp hi
 have lenV:=hi.length
 have core:∀ H:Hp,Pp H->SqL K H a (ns.map V.int)->HOk P w H s₁.heap->(∀ b,H b ≠ none->b=a)->(H a ≠ none->K.lookup a=none) ->
   codeAny (model P w) callerA (.call (.ref fa) ⟨[.ref a],[]⟩) (fun r s'=>r=.ok (.ret (.bool true))/\OldK s₁.heap s'.heap/\s'.os=s₁.os/\AllBare s'.gens) s₁:=by
  intro H hO hS hok hA hK
  have base_of:∀ {b:Addr} {o:Obj},s₁.heap.get? b=some o->H b=none->(FK s₁.heap H).get? b=some o:=fun e n=>Pa e n
  have noA:∀ {b:Addr} {o:Obj} {es:Array DictEntry} {ep:Nat},s₁.heap.get? b=some o->o.data=.dict es ep->H b=none:=fun {b o es ep} e d=>by
   cases q:H b with
   | none=>rfl
   | some u =>
    have e':b=a:=hA b (by rw [q]; simp)
    subst e'
    rw [ha] at e; cases e
    have d':Data.seq vs.toArray _=Data.dict es ep:=d
    cases d'
  have nsK:∀ {b:Addr} {m:Str->Option Value},s₁.heap.Ns b m->(FK s₁.heap H).Ns b m:=fun {b m} ⟨o,es,ep,e,d,r⟩=>⟨o,es,ep,base_of e (noA e d),d,r⟩
  have hKb:K.In (FK s₁.heap H):=fun b o e=>base_of (KX b o e) (by
   cases q:H b with
   | none=>rfl
   | some u =>
    have e':b=a:=hA b (by rw [q]; simp)
    subst e'
    rw [hK (by rw [q]; simp)] at e; cases e)
  have hM:Mod K mg (FK s₁.heap H):=⟨hKb,nsK hns,⟨mb,nsK hb,hbb⟩,let ⟨mc,h1,h2⟩:=hlim; ⟨mc,nsK h1,h2⟩⟩
  have e0:Env0 P w K mg (FK s₁.heap H) callerA [] s₁ H:=⟨rfl,hM,fun b o e=>Q9 e,abr (ND _ _),trivial,fun b hb=>absurd (show b ∈ ([]:List Addr) from hb) (by simp),hok,.of_eq hg⟩
  refine codeAny_mono ((F _ hKb (nsK hns)).run callerA [] s₁ H ⟨[.ref a],[]⟩ [.ref a] [.ref a] _ _ hr e0 (hbind s₁ (.ref a)) (.cons rfl .nil) (hsp H hO hS)) fun r s' h=>?_
  cases r with
  | error e=>exact (hCX H e s' h).elim
  | ok fl =>
   cases fl with
   | next=>exact False.elim h
   | brk=>exact False.elim h
   | cont=>exact False.elim h
   | ret u =>
    obtain ⟨v,H',os,bare,un,hok',r',q⟩:=h
    have q':v=.bl true:=q
    subst q'
    obtain rfl:u=Value.bool true:=r'
    refine ⟨rfl,OldK.of_keep fun b o e=>?_,os,bare⟩
    cases q:H b with
    | none=>exact un.keep b o e q (by intro z; exact absurd (show b ∈ ([]:List Addr) from z) (by simp)) (by simp)
    | some u =>
     rcases hO b with z | ⟨ob,xs,z⟩
     ·rw [q] at z; cases z
     ·have z2:=un.frzs b ob _ z
      obtain ⟨e1,_⟩:=hok b _ z
      obtain ⟨e2,_⟩:=hok' b _ z2
      rw [e] at e1; cases e1
      exact e2
 cases hk:K.lookup a with
 | some o =>
  have e:=KX a o hk
  rw [ha] at e
  cases e
  refine core (fun _=>none) (fun _=>.inl rfl) (.inr ⟨_,vs.toArray,_,hk,rfl,rfl,rfl,by rw [aaq,lenV]; exact hl,by simpa using rv⟩) (fun b u z=>by have z':(none:Option HO)=some u:=z; cases z') (fun b z=>absurd rfl z) fun z=>absurd rfl z
 | none =>
  refine core (fun b=>if b=a then some (.frz { cls:=.type "list",data:=.seq vs.toArray } (.lst (ns.map V.int))) else none) (fun b=>?_) (.inl (.inr ⟨{ cls:=.type "list",data:=.seq vs.toArray },if_pos rfl⟩)) (fun b u z=>?_) (fun b z=>?_) fun _=>hk
  ·by_cases hb:b=a
   ·exact .inr ⟨_,_,if_pos hb⟩
   ·exact .inl (if_neg hb)
  ·by_cases hb:b=a
   ·have z':=(if_pos hb).symm.trans z
    cases z'
    subst hb
    exact ⟨ha,by rw [aab]; exact hl,vs,_,rv,ha⟩
   ·have z':=(if_neg hb).symm.trans z
    cases z'
  ·by_cases hb:b=a
   ·exact hb
   ·exact absurd (if_neg hb) z
theorem Rn {l:PySem.W.OpenLaw} {n k:Nat} {q:Program} {loose:List Str} {XP:(Str->Option Value)->Heap->Prop} {YP:World->Heap->Prop} {d:DefRec} {K:Params->PySem.W.Frag} {CX:World->CXT} {sp:World->Sp} {x:Str}
  (hn:l.most=some n) (hn2:n<=sizeLine) (hdf:d.params.defaults=[]) (hr:Room k callerA)
  (hY:∀ (w:World) (h:Heap),YP w h->(K w.params).In h)
  (F:∀ (w:World) (mg:Str->Option Value) (fa:Addr) (h:Heap),(K w.params).In h->h.Ns mainGlobals mg->mg d.name=some (.ref fa) ->
   ∃ fd:FuncData,(∀ (s:Shared) (u:Value),BindsTo s fd ⟨[u],[]⟩ [(x,u)]) /\
    ∀ base:Heap,(K w.params).In base->base.Ns mainGlobals mg->FnOk l.prog w (K w.params) mg base (CX w) k fa fd [x] (sp w))
  (hsp:∀ (w:World) (H:Hp) (a:Addr) (ns:List Int),ns.length<=n->Pp H->SqL (K w.params) H a (ns.map V.int)->sp w [.ref a] H (fun v _=>v=.bl true) fun _ _ _=>False)
  (hCX:∀ (w:World) (H:Hp) (s:Shared) (e:Value) (s':Shared),CX w [] H s (fun _ _ _=>False) e s'->False) :
  PySem.W.WalkO q loose XP YP l.row.toRowW d [] (fun f vs=>PySem.call f vs):=by
 refine Att.attach_call hn hdf fun w s₀ s₁ mg mb fa o pm cd doc a vs ns G Y ho hd hcd hmg hobj hints hlen hg=>?_
 have KX:=hY w _ Y
 obtain ⟨fd,hb,hF⟩:=F w mg fa _ KX G.T.g hmg
 exact Pq KX G.T.g G.T.b G.T.builtins G.T.nolimit hg hobj hints (aao hlen hn2) hr hF hb (fun H hO hS=>hsp w H a ns hlen hO hS) fun H e s'=>hCX w H s₁ e s'
noncomputable def B9 (s:Stmt):Arguments:=match s with
 | .FunctionDef _ a _ _ _ _ _ _ _ _=>a
 | _=>{ posonlyargs:=[],args:=[],vararg:=none,kwonlyargs:=[],kw_defaults:=[],kwarg:=none,defaults:=[] }
noncomputable def AH (s:Stmt):List Stmt:=match s with
 | .FunctionDef _ _ b _ _ _ _ _ _ _=>b
 | _=>[]
noncomputable def Ai (s:Stmt):Scope:=match s with
 | .FunctionDef _ _ _ _ _ _ sc _ _ _=>sc
 | _=>{ kind:=.function,names:=[],isGenerator:=false,isCoroutine:=false }
structure Fun (K:PySem.W.Frag) (x qual:Str) (st:Stmt) (f:Addr) (fd:FuncData):Prop where
 ex:∃ (oc:Value) (od:Option Addr) (kV doc pm:Value) (an:Option Addr) (cdv ct:Value) (osl:Array (Option Value)),
  fd=PySem.W.fnOf x qual (B9 st) (AH st) (Ai st) .none kV doc pm an cdv ct/\K.lookup f=some ⟨oc,od,.func fd,osl⟩/\PySem.W.codeIn K cdv qual=true
 kp:PySem.W.keepIn K (.ref f)=true
section
variable {P:Program} {w:World} {K:PySem.W.Frag} {mg:Str->Option Value} {base:Heap}
theorem Fun.binds {x qual:Str} {st:Stmt} {f:Addr} {fd:FuncData} {ps:List Str} (F:Fun K x qual st f fd)
  (h:∀ (kV doc pm:Value) (an:Option Addr) (cdv ct:Value) (us:List Value),us.length=ps.length->bindArgs (PySem.W.fnOf x qual (B9 st) (AH st) (Ai st) .none kV doc pm an cdv ct) ⟨us,[]⟩=pure (ps.zip us)):Binds K fd ps []:=by
 obtain ⟨oc,od,kV,doc,pm,an,cdv,ct,osl,rfl,lk,hcd⟩:=F.ex
 exact .all (h kV doc pm an cdv ct)
theorem NZ {x qual:Str} {st:Stmt} {f:Addr} {oc:Value} {od an:Option Addr} {osl:Array (Option Value)} {kV doc pm cdv ct:Value} (l:K.lookup f=some ⟨oc,od,.func (PySem.W.fnOf x qual (B9 st) (AH st) (Ai st) .none kV doc pm an cdv ct),osl⟩)
  (c:PySem.W.codeIn K cdv qual=true) (k:PySem.W.keepIn K (.ref f)=true):Fun K x qual st f (PySem.W.fnOf x qual (B9 st) (AH st) (Ai st) .none kV doc pm an cdv ct):=⟨⟨oc,od,kV,doc,pm,an,cdv,ct,osl,rfl,l,c⟩,k⟩
end
noncomputable def Same (H H':Hp):Prop:=∀ b o,H b=some o->H' b=some o
theorem Same.refl (H:Hp):Same H H:=fun _ _ h=>h
theorem Same.trans {H H1 H2:Hp} (a:Same H H1) (b:Same H1 H2):Same H H2:=fun c o h=>b c o (a c o h)
theorem Same.free {H H':Hp} (e:Same H H') {l:Addr} (h:H' l=Option.none):H l=Option.none:=by
 cases q:H l with
 | none=>rfl
 | some o =>
  rw [e l o q] at h
  cases h
theorem Same.seq {K:PySem.W.Frag} {H H':Hp} {a:Addr} {xs:List V} (e:Same H H') (h:SqL K H a xs):SqL K H' a xs:=by
 rcases h with (h | ⟨o,h⟩) | h
 ·exact .inl (.inl (e _ _ h))
 ·exact .inl (.inr ⟨o,e _ _ h⟩)
 ·exact .inr h
end L2
end
section
set_option maxHeartbeats 1000000
namespace L2
open PySem PySem.Spec PyProof.Rows PySem.W
section
variable {prog:Program} {w:World} {A:Around} {E:Value->Shared->Prop} {s:Shared} {K:Frag} {e C:Addr} {ox:Obj}
structure XCls (K:Frag) (C:Addr):Prop where
 ga:findIn K (.ref C) "__getattribute__" = some (some (.builtin "BaseException.__getattribute__"))
 gn:findIn K (.ref C) "__getattr__" = some none
 sb:subIn K (.ref C) (.type "BaseException")=some true
 cl:findIn K (.ref C) "__class__" = some (some (.builtin "object.__class__"))
 mo:mroIn K C (.type "object")=some true
 ty:typeIn K (.ref C)=some (.type "type")
 cc:(clsIn K C).isSome=true
noncomputable def XAt (e C:Addr) (h:Heap):Prop:=∃ oe,h.get? e=some oe/\oe.cls=.ref C
theorem XAt.type {M:Model} {h:Heap} (I:XAt e C h):Looks M h (typeOf (.ref e)) (.ref C):=by
 obtain ⟨oe,h1,h2⟩:=I
 exact h2 ▸ (Looks.ld h1).andThen .now
theorem T7 {R:Result->Shared->Prop} (X:K.In s.heap) (I:XAt e C s.heap) (c:XCls K C) (h:R (.ok (.ret (.ref C))) s) :
  codeAny (model prog w) A (.call (.builtin "getset_descriptor.__get__") ⟨[.builtin "object.__class__",.ref e,.ref C],[]⟩) R s:=by
 obtain ⟨hh,g,d,t,os⟩:=s
 have hT5:(⟨hh,g,d,t,os⟩:Shared).TypeIs (.builtin "object.__class__") "getset_descriptor" := F.typeOf_object_class
 have L0:=I.type (M:=model prog w)
 have L1:=looks_mroIn (M:=model prog w) X c.mo
 refine codeAny_call_builtin F.slot_gs_get.plain F.entry_gs_get (F.slot_gs_get.check _ _ _ _ _ _ _ _ hT5 (F.args_gs_get _ _ _) ?_)
 repeat (any_goals (first | assumption | refine L0.at ?_ | refine L1.at ?_ | refine wpAny_bind (L0.at ?_) | refine wpAny_bind (L1.at ?_) | wp_step))
 refine ⟨Code.quiet_builtin _ (by decide +kernel),codeAny_builtin KF.entry_class ?_⟩
 unfold Builtin.«object.__class__» shownTypeOf
 repeat (any_goals (first | assumption | refine L0.at ?_ | refine wpAny_bind (L0.at ?_) | wp_step))
theorem Ro {tk:Tok} {R:Result->Shared->Prop} (X:K.In s.heap) (I:XAt e C s.heap) (c:XCls K C) (h:R (.ok (.ret (.ref C))) s) :
  codeAny (model prog w) A (.call (.builtin "BaseException.__getattribute__") ⟨[.ref e,.str "__class__" tk],[]⟩) R s:=by
 obtain ⟨hh,g,d,t,os⟩:=s
 have L0:=I.type (M:=model prog w)
 have LS:=looks_subIn (M:=model prog w) X c.sb
 have LI:Looks (model prog w) hh (isInstance (.ref e) (.type "BaseException")) true:=L0.andThen LS
 have LC:=looks_findIn (M:=model prog w) X c.cl
 refine codeAny_call_builtin (by decide +kernel) F.entry_bexc_ga ?_
 have hk:builtinKind "BaseException.__getattribute__" = some .slot:=by decide +kernel
 have hsplit:splitId "BaseException.__getattribute__" = some ("BaseException", "__getattribute__"):=by decide +kernel
 have ha:=F.args_bexc_ga (.ref e) (.str "__class__" tk)
 simp only [checkBuiltinCall,hk,hsplit]
 refine wpAny_bind (LI.at ?_)
 unfold argsOk at ha
 simp only [abK,aa6,if_false]
 refine wpAny_of_eq ha ?_
 have hT5:(⟨hh,g,d,t,os⟩:Shared).TypeIs (.builtin "object.__class__") "getset_descriptor" := F.typeOf_object_class
 have f5:=F.typeOf_object_class
 have f6:=F.slot_gs_get.lookup
 have f7:=F.slot_gs_set.lookup
 repeat (any_goals (first | assumption | refine L0.at ?_ | refine wpAny_bind (L0.at ?_) | refine LC.at ?_ | refine wpAny_bind (LC.at ?_) | wp_step))
 exact T7 X I c (wpAny_pure h)
theorem Rp {Q:Option Value->Shared->Prop} (X:K.In s.heap) (I:XAt e C s.heap) (c:XCls K C) (h:Q (some (.ref C)) { s with toks:=s.toks + 1 }) :
  wpAny (model prog w) A (getAttr? (.ref e) "__class__") Q E s:=by
 obtain ⟨hh,g,d,t,os⟩:=s
 have L0:=I.type (M:=model prog w)
 have LG:=looks_findIn (M:=model prog w) X c.ga
 have LN:=looks_findIn (M:=model prog w) X c.gn
 have fb1:=F.excAttr_ValueError.ga.bind (.ref e)
 unfold getAttr? getAttrBy? getAttrBy
 repeat (first | refine wpAny_bind (L0.at ?_) | refine wpAny_bind (LG.at ?_) | refine wpAny_bind (LN.at ?_) | refine LN.at ?_ | wp_step)
 exact Ro (s:=⟨hh,g,d,t + 1,os⟩) X I c (handed_on rfl (wpAny_pure h))
theorem Pr (c:XCls K C):KitX K (.ref e) (.ref C) (XAt e C) where
 ty:=fun _ _ _ I=>I.type
 it:=fun M h X _=>by
  have hc:=c.cc
  unfold clsIn at hc
  split at hc
  ·rename_i ho
   intro A' Q' E' s' k q
   unfold isType loadHead
   exact wpAny_bind (wpAny_loadPart (k _ _ (X _ _ ho)) (wpAny_pure q))
  ·cases hc
 ne:=fun h tp dd its n sl X htp=>by
  refine Bool.eq_false_iff.mpr fun q=>?_
  have e:C=tp:=Value.ref.inj (beq_iff_eq.mp q)
  subst e
  have hc:=c.cc
  unfold clsIn at hc
  split at hc
  ·rename_i ho
   have z:=(X _ _ ho).symm.trans htp
   cases z
  ·cases hc
 ca:=fun X I k=>Rp X I c k
end
noncomputable def xO (a C:Addr):HO:=.ext (XAt a C)
noncomputable def dO (a:Addr):HO:=.ext (KitAt a "dict")
inductive TyX (K:Frag) (H:Hp):V->Value->Prop where
 | dct {a:Addr} (y:H a=some (dO a)):TyX K H (.ref a) (.type "dict")
 | of {x:V} {t:Value} (y:TyOf K H x t):TyX K H x t
 | exc {a C:Addr} (y:H a=some (xO a C)) (c:XCls K C):TyX K H (.ref a) (.ref C)
noncomputable def clV:V->Option Value
 | .ty n=>some (.type n)
 | .ref C=>some (.ref C)
 | _=>none
noncomputable def Wf (K:Frag):List V->Hp->VK->Prop:=fun xs H Q=>∃ x c cv t b,xs=[x,c]/\clV c=some cv/\TyX K H x t/\kitOne K t cv=some b/\Q (.bl b) H
theorem Ps {X:Cx}:DV X (.builtin "isinstance") (Wf X.K):=by
 intro pins s σ H xs us Q I r h
 obtain ⟨x,c,cv,t,b,rfl,hc,ty,e,q⟩:=h
 obtain ⟨u,w',rfl,ru,rw'⟩:=MF r
 have ec:w'=cv:=by
  cases c with
  | ty n=>cases hc; exact rw'
  | ref C=>cases hc; exact rw'
  | _=>cases hc
 subst ec
 have fin:∀ tk,EP X pins σ Q (.bool b) { s with toks:=tk }:=fun tk=>⟨.bl b,H,I.tok tk,rfl,q⟩
 cases ty with
 | @dct a y =>
  cases (show u=Value.ref a from ru)
  exact kia_one kitx_dict I.kIn (I.hok a _ y).1 e (fun z=>nomatch z) fin
 | of y=>exact NS I ru y e fin
 | @exc a C y c =>
  cases (show u=Value.ref a from ru)
  exact kia_one (Pr c) I.kIn (I.hok a _ y).1 e (fun z=>nomatch z) fin
noncomputable def T8:V->List V->Hp->VK->Prop:=fun x xs H Q=>∃ (a:Addr) (bs:List Bool) (k:Bool),x=.ref a/\xs=[.bl k]/\Rd H a (.lst (bs.map V.bl))/\Q (.int ((bs.filter (·==k)).length:Nat)) H
theorem HS:∀ {bs:List Bool} {its:List Value},Vals (bs.map V.bl) its->its=bs.map Value.bool
 | [],its,h=>by cases h; rfl
 | C :: r,its,h=>by
  cases h with
  | cons h1 h2 =>
   rw [HS (bs:=r) h2]
   cases (show _=Value.bool C from h1)
   rfl
theorem Ge (k:Bool):∀ bs:List Bool,(bs.map Value.bool).countP (isBoolOf k)=(bs.filter (·==k)).length
 | []=>rfl
 | b :: r=>by
  rw [aay,List.countP_cons,Ge k r,aca]
  show _ + (if (b==k)=true then 1 else 0)=_
  cases b==k <;> simp
theorem Pt {X:Cx}:MtR X "list.count" T8:=by
 intro pins s σ H x xs v us Q I rx rv h
 obtain ⟨a,bs,k,rfl,rfl,hR,q⟩:=h
 cases rx
 obtain ⟨u,rfl,ru⟩:=rv.one
 cases (show u=Value.bool k from ru)
 obtain ⟨its,n,rel,dd,sl,ho⟩:∃ (its:List Value) (n:Nat),Vals (bs.map V.bl) its/\∃ dd sl,s.heap.get? a=some { cls:=.type "list",dict:=dd,data:=.seq its.toArray n,slots:=sl }:=by
  rcases hR with e | ⟨o,e⟩
  ·obtain ⟨_,its,n,r,e⟩:=I.hok a _ e
   exact ⟨its,n,r,_,_,e⟩
  ·obtain ⟨_,_,its,n,r,e⟩:=I.hok a _ e
   exact ⟨its,n,r,_,_,e⟩
 cases HS rel
 refine call_meets PySem.F.slot_list_count ⟨_,ho,rfl⟩ PySem.F.entry_list_count (PySem.F.args_list_count_2 _ _) (PySem.SeqAt.list_countAt a _ n dd sl (.bool k) (isBoolOf k)) ⟨ho,fun y hy=>?_,?_⟩
 ·have:y ∈ bs.map Value.bool:=by simpa using hy
  obtain ⟨b,_,rfl⟩:=aaD.mp this
  exact PySem.SeqAt.EqAt.bool_bool b k
 ·show EP X pins σ Q (.int (((bs.map Value.bool).countP (isBoolOf k):Nat):Int) s.toks) _
  rw [Ge]
  exact ⟨.int _,H,I.tok _,⟨_,rfl⟩,q⟩
theorem ObjOk.there {P:Program} {w:World} {H:Hp} {h:Heap} {a:Addr} {o:HO} (x:ObjOk P w H h a o):∃ ob,h.get? a=some ob:=by
 induction o with
 | lst xs=>obtain ⟨_,_,_,_,e⟩:=x; exact ⟨_,e⟩
 | tup xs=>obtain ⟨_,_,_,ob,e,_⟩:=x; exact ⟨_,e⟩
 | dK kvs=>obtain ⟨_,_,_,_,ob,_,_,e,_⟩:=x; exact ⟨_,e⟩
 | dT kvs=>obtain ⟨_,_,_,_,ob,_,_,e,_⟩:=x; exact ⟨_,e⟩
 | set S n=>obtain ⟨ob,_,_,_,e,_⟩:=x; exact ⟨_,e⟩
 | ins C dx fs=>obtain ⟨_,_,_,e,_⟩:=x; exact ⟨_,e⟩
 | own y=>exact x
 | xd fs=>obtain ⟨_,⟨od,_,_,e,_⟩,_⟩:=x; exact ⟨_,e⟩
 | rng lo hi=>obtain ⟨_,_,_,e⟩:=x; exact ⟨_,e⟩
 | frz ob u _=>exact ⟨_,x.1⟩
 | tbl ps=>exact ⟨_,x⟩
 | met f y=>exact ⟨_,x⟩
 | ext φ=>exact x.2.1
theorem HOk.hide {P:Program} {w:World} {H:Hp} {h:Heap} (x:HOk P w H h) {fs:List Addr} (hf:∀ b ∈ fs,H b=none):HOk P w H (hideAll h fs):=fun a o e =>
 (x a o e).stay (fun b u hb q=>hideAll_get _ q fun z=>by
  have n:=hf b z
  rcases hb with rfl | hb
  ·rw [n] at e; cases e
  ·rw [n] at hb; cases hb) (fun _ q=>q) fun _ _ q=>q
noncomputable def CXe (P:Program) (w:World):CXT:=fun outer H s E ev s'=>∃ (e:Addr) (cls a0:Value) (H':Hp) (B:Heap),ev=.ref e/\s'.os=s.os/\AllBare s'.gens/\Heap.FlyingW B outer e cls a0 s'.heap/\HOk P w H' B/\H' e=none /\
 (∀ b o,s.heap.get? b=some o->H b=none->b ∉ frs outer->B.get? b=some o)/\(∀ b o,s.heap.get? b=some o->H b=none->b ∈ frs outer->∃ sl,s'.heap.get? b=some { o with slots:=sl }) /\
 (∀ b o,s.heap.get? b=some o->H b=none->H' b=none)/\(∀ b o,s.heap.get? b=some o->b ∉ frs outer->∃ o',B.get? b=some o') /\
 (∀ b xs,H b=some (.tup xs)->H' b=some (.tup xs))/\(∀ b o u,H b=some (.frz o u)->H' b=some (.frz o u))/\(∀ b ps,H b=some (.tbl ps)->∃ more,H' b=some (.tbl (ps ++ more)))/\E cls none H'
noncomputable def ML (X:Cx) (E:XK):Prop:=∀ (pins:List (Addr × Obj)) (σ:St) (H:Hp) (s:Shared) (h':Heap) (e C:Addr) (vs:List Value),Inv X pins σ H s->Heap.MadeExcOf s.heap h' e (.ref C) vs->E (.ref C) none H->X.xe (.ref e) { s with heap:=h' }
section
variable {P:Program} {w:World} {K:Frag} {mg:Str->Option Value} {base:Heap} {N:List Str} {qual:Str} {scope:Scope} {f:Addr} {cd:Value} {A:Around} {outer:List Env} {s₀:Shared} {H₀:Hp} {E E':XK}
theorem J8 (hE:∀ c d H,E c d H->E' c d H):ML (BD (CXe P w) P w K mg base N qual scope f cd A outer s₀ H₀ E') E:=by
 intro pins σ H s h' e C vs I hx he
 show wpAny _ _ (leaving _ (.ref e)) _ _ _
 have hfr:∀ env ∈ (BD (CXe P w) P w K mg base N qual scope f cd A outer s₀ H₀ E').stack,∀ b,env.frame=some b->b ∈ frs (BD (CXe P w) P w K mg base N qual scope f cd A outer s₀ H₀ E').stack:=fun env h b hb=>aaQ.mpr ⟨env,h,hb⟩
 have hB:=I.hok.hide I.stkFree
 have hff:=funFrames_hide I.stack hfr
 have en:H e=none:=by
  cases q:H e with
  | none=>rfl
  | some o=>obtain ⟨ob,z⟩:=(I.hok e o q).there; rw [hx.new] at z; cases z
 refine wpAny_leaves_madeW (base:=hideAll s.heap (frs (BD (CXe P w) P w K mg base N qual scope f cd A outer s₀ H₀ E').stack)) I.ok.frames rfl (fun b o q=>of_hideAll _ q) hff hx fun h2 t fl _ _ up=>?_
 have sub:∀ b ∈ frs outer,b ∈ frs (BD (CXe P w) P w K mg base N qual scope f cd A outer s₀ H₀ E').stack:=fun b hb=>by
  obtain ⟨env,h1,h2⟩:=aaQ.mp hb
  exact aaQ.mpr ⟨env,aaa _ h1,h2⟩
 have nloc:∀ b o,s₀.heap.get? b=some o->b ≠ s₀.heap.objs.size:=fun b o q z=>by
  have:=Heap.lt_size q
  exact aaU _ (z ▸ this)
 have nfr:∀ b o,s₀.heap.get? b=some o->b ∉ frs outer->b ∉ frs (BD (CXe P w) P w K mg base N qual scope f cd A outer s₀ H₀ E').stack:=fun b o q hb z=>by
  obtain ⟨env,h1,h2⟩:=aaQ.mp z
  rcases aal.mp h1 with rfl | h1
  ·exact nloc b o q (Option.some.inj h2).symm
  ·exact hb (aaQ.mpr ⟨env,h1,h2⟩)
 have nx:∀ b:Addr,b ∉ (BD (CXe P w) P w K mg base N qual scope f cd A outer s₀ H₀ E').ex:=fun b z=>absurd (show b ∈ ([]:List Addr) from z) (by simp)
 refine ⟨e,.ref C,.ref t,H,_,rfl,I.os,I.bare,fl,hB,en,fun b o q n hb=>hideAll_get _ (I.base.keep b o q n hb (nx b)) (nfr b o q hb),fun b o q n hb=>?_,fun b o q n=>I.base.free b o q n (nx b),fun b o q hb=>?_,I.base.tups,I.base.frzs,I.base.tbls,hE _ _ _ he⟩
 ·obtain ⟨sl,e1⟩:=I.base.slot b o q n hb (nx b)
  obtain ⟨⟨hn,o2,ho2,hnf⟩⟩:=And.intro (I.stack.mem (sub b hb)) trivial
  rw [e1] at ho2
  cases ho2
  obtain ⟨sl2,e2⟩:=up b _ (hx.keeps b _ e1) hnf
  exact ⟨sl2,e2⟩
 ·obtain ⟨o',e1⟩:=I.base.there b o q (nx b)
  exact ⟨o',hideAll_get _ e1 (nfr b o q hb)⟩
theorem QU (hE:∀ c d H,E c d H->E' c d H):TZ (CXe P w) (BD (CXe P w) P w K mg base N qual scope f cd A outer s₀ H₀ E') E:=by
 intro pins σ H s ev s' I h
 obtain ⟨e,cls,a0,H',B,rfl,ho,hg,fl,hok,en,keep,slot,free,there,tups,frzs,tbls,he⟩:=h
 show wpAny _ _ (leaving _ (.ref e)) _ _ _
 refine wpAny_leaves_onW (base:=B) I.ok.frames rfl fl fun h2 fl2 up=>?_
 have sub:∀ b ∈ frs outer,b ∈ frs (BD (CXe P w) P w K mg base N qual scope f cd A outer s₀ H₀ E').stack:=fun b hb=>by
  obtain ⟨env,h1,h2⟩:=aaQ.mp hb
  exact aaQ.mpr ⟨env,aaa _ h1,h2⟩
 have nfr:∀ b o,s₀.heap.get? b=some o->b ∉ frs outer->b ∉ frs (BD (CXe P w) P w K mg base N qual scope f cd A outer s₀ H₀ E').stack:=fun b o q hb z=>by
  obtain ⟨env,h1,h2⟩:=aaQ.mp z
  rcases aal.mp h1 with rfl | h1
  ·exact aaU _ ((Option.some.inj h2).symm ▸ Heap.lt_size q)
  ·exact hb (aaQ.mpr ⟨env,h1,h2⟩)
 have nx:∀ b:Addr,b ∉ (BD (CXe P w) P w K mg base N qual scope f cd A outer s₀ H₀ E').ex:=fun b z=>absurd (show b ∈ ([]:List Addr) from z) (by simp)
 have frNF:∀ b o,s'.heap.get? b=some o->b ∈ frs (BD (CXe P w) P w K mg base N qual scope f cd A outer s₀ H₀ E').stack->∃ sl,h2.get? b=some { o with slots:=sl }:=fun b o q hb=>by
  obtain ⟨hn,o2,ho2,hnf⟩:=fl.2.2.1.mem hb
  rw [q] at ho2
  cases ho2
  exact up b _ q hnf
 refine ⟨e,cls,a0,H',B,rfl,ho.trans I.os,hg,fl2,hok,en,fun b o q n hb=>keep b o (I.base.keep b o q n hb (nx b)) (I.base.free b o q n (nx b)) (nfr b o q hb),fun b o q n hb=>?_,
  fun b o q n=>?_,fun b o q hb=>?_,fun b xs q=>tups b xs (I.base.tups b xs q),fun b o u q=>frzs b o u (I.base.frzs b o u q),fun b ps q=>?_,hE _ _ _ he⟩
 ·obtain ⟨sl,e1⟩:=I.base.slot b o q n hb (nx b)
  obtain ⟨sl1,e2⟩:=slot b _ e1 (I.base.free b o q n (nx b)) (sub b hb)
  obtain ⟨sl2,e3⟩:=frNF b _ e2 (sub b hb)
  exact ⟨sl2,e3⟩
 ·obtain ⟨o',e1⟩:=I.base.there b o q (nx b)
  exact free b o' e1 (I.base.free b o q n (nx b))
 ·obtain ⟨o',e1⟩:=I.base.there b o q (nx b)
  exact there b o' e1 (nfr b o q hb)
 ·obtain ⟨m1,e1⟩:=I.base.tbls b ps q
  obtain ⟨m2,e2⟩:=tbls b _ e1
  exact ⟨m1 ++ m2,by rw [e2,Array.append_assoc]⟩
end
section
variable {X:Cx} {C:Addr} {x:Str} {e:Expr} {es:List Expr} {t:TA} {E:XK} {np cpos pos:Pos}
abbrev Hr:List Value:=[.type "ValueError",.type "Exception",.type "BaseException",.type "object"]
theorem T9 {h:Heap} (KX:X.K.In h) (G:h.Ns mainGlobals X.mg) (B:∃ mb,h.Ns builtinsNs mb/\∀ x:Str,x ≠ "__name__" -> mb x=bootBuiltins x) (L:h.NoLimit) (hm:nsIn X.K mainGlobals x=some (some (.ref C))) (hC:excIn X.K C Hr "ValueError.__new__" = true) :
  OwnCls x C Hr "ValueError.__new__" X.mg h:=by
 obtain ⟨mb,Bn,hb⟩:=B
 obtain ⟨o,es,ep,ho,hd,hs,hf⟩:=id G
 have T:TopRead default (es.toList.filterMap fun d=>match d.key with | .str n _=>some n | _=>none) X.mg mb h:=⟨G,Bn,L,hb,fun y _ hy _ _ _=>by
  rw [<- hf y]
  unfold nsFind findBy
  rw [Option.map_eq_none_iff,Array.find?_eq_none]
  intro d hm hy2
  obtain ⟨n,tk,ek⟩:=hs d hm
  rw [ek] at hy2
  have en:n=y:=by simpa [Value.isStr] using hy2
  exact hy (aaQ.mpr ⟨d,by simpa using hm,by rw [ek,en]⟩)⟩
 exact own_of_in KX T hm hC
theorem Pv (hw:ML X E) (hc:X.calm=true) (hg:Gl X x) (hn:nsIn X.K mainGlobals x=some (some (.ref C))) (hC:excIn X.K C Hr "ValueError.__new__" = true) (ha:PA X (e :: es) t) (hd:(x==("__debug__" : Str))=false:=by decide)
  (he:starEach (e :: es) X.env=(false,eval e X.env) :: starEach es X.env:=by rfl) (hpl:(backTo cpos (starEach es X.env)).any (·.1)=false:=by rfl) :
  PS X (.Raise (some (.Call (.Name x np) (e :: es) [] cpos)) none pos) (fun D σ H=>t σ H fun vs H1=>vs.length<=sizeLine/\E (.ref C) none H1):=by
 intro pins s σ H D I h
 have O:=T9 (X:=X) I.mod.kin I.mod.glob I.mod.blt I.mod.nolimit hn hC
 obtain ⟨bm,N',nm,q,bs,hdct,sn,sub,ab,col,dd,k0,k1,k2,k3,k5,mN,hCo,hN,hni,T⟩:=O.obj
 refine wpAny_Raise_call_subT (nm:=nm) (q:=q) (N:=N') (bs:=bs) (bm:=bm) (hdct:=hdct) (sn:=sn) (sub:=sub) (ab:=ab) (col:=col) (dd:=dd) (k0:=k0) (k1:=k1) (k2:=k2) (k3:=k3) (k5:=k5) PySem.F.excBase_ValueError (mN:=mN) (T.hasType rfl) (I.ok.hd hc) (by rw [he]; exact hpl) hni (IH I hg O.bound ⟨rfl,?_⟩ hd)
 have h2:=ha cpos pins s σ H _ I h
 rw [he] at h2 ⊢
 exact Calls.evalArgs_plain (thn h2 fun us s1 ⟨vs,H1,I1,r,q⟩=>⟨rfl,r.length ▸ q.1,I1.bk _ _ hCo,hN.keeps I1.bk,T.keeps I1.bk,fun h' ex hx=>hw pins σ H1 s1 h' ex C us I1 hx q.2⟩)
end
noncomputable abbrev EXT:=St->XK
noncomputable def Gf (CX:CXT) (X:Cx) (E:EXT):Prop:=∀ (pins:List (Addr × Obj)) (σ:St) (H:Hp) (s:Shared) (e:Value) (s':Shared),Inv X pins σ H s->CX X.stack H s (E σ) e s'->X.xe e s'
noncomputable def N0 (sp:Sp) (dvs:List V) (E:EXT) (t:TA):TE:=fun σ H Q=>t σ H fun vs H1=>sp (vs ++ dvs) H1 Q (E σ)
section
variable {X:Cx} {CX:CXT} {k:Nat} {f:Addr} {fd:FuncData} {ps:List Str} {sp:Sp} {dvs:List V} {ds:List Value} {E:EXT} {x:Str} {p pos:Pos} {e:Expr} {es:List Expr} {t:TA}
theorem Pw (F:FnOk X.prog X.w X.K X.mg X.base CX k f fd ps sp) (hr:Room k X.A) (hg:Gl X x) (hm:X.mg x=some (.ref f)) (hk:PySem.W.keepIn X.K (.ref f)=true) (hb:Binds X.K fd ps ds) (hd:Vals dvs ds) (hx:Gf CX X E)
  (ha:PA X (e :: es) t) (hdb:(x==("__debug__" : Str))=false:=by decide) (he:starEach (e :: es) X.env=(false,eval e X.env) :: starEach es X.env:=by rfl) (hpl:(backTo pos (starEach es X.env)).any (·.1)=false:=by rfl) :
  PE X (.Call (.Name x p) (e :: es) [] pos) (N0 sp dvs E t):=by
 intro pins s σ H Q I h
 refine wpAny_Call_Name_kw (IH I hg hm ?_ hdb)
 refine PySem.W.callWith_K (h₀:=X.base) I.ok.mod.kin hk (thn (ha pos pins s σ H _ I h) fun us s1 ⟨vs,H1,I1,r,q⟩=>⟨I1.kIn,?_⟩) he hpl
 have r2:Vals (vs ++ dvs) (us ++ ds):=r.append hd
 have hl:(us ++ ds).length=ps.length:=r2.length ▸ F.len _ _ _ _ q
 refine wpAny_call (codeAny_mono (F.run X.A X.stack s1 H1 ⟨us,[]⟩ (us ++ ds) (vs ++ dvs) Q (E σ) hr I1.env0 (hb s1 us I1.kIn hl) r2 q) fun rr s' hq=>?_)
 rcases rr with ev | fl
 ·exact hx pins σ H1 s1 ev s' I1 hq
 ·cases fl with
  | ret u=>exact I1.after hq
  | next=>exact False.elim hq
  | brk=>exact False.elim hq
  | cont=>exact False.elim hq
end
noncomputable abbrev LL (ifs:List Expr) (env:Env):Sem Bool:=forIn ifs true fun c r=>if r=true then do let ok <- isTrue c env (eval c env); pure (ForInStep.yield ok) else pure (ForInStep.yield r)
section
variable {prog:Program} {w:World} {A:Around} {R:Result->Shared->Prop} {s:Shared} {elt tg iter:Expr} {ifs:List Expr} {scope:Scope} {pos:Pos} {it acc:Value} {env:Env}
theorem Gg (I:Nat->Shared->Prop)
  (turn:∀ n s,I n s->wpAny (model prog w) A (pyNext it) (fun r s1=>match r with
   | none=>R (.ok .next) s1
   | some v=>wpAny (model prog w) A (letOwnedTupleGo tg it v) (fun _ s2=>wpAny (model prog w) A (assign tg env v) (fun _ s3=>wpAny (model prog w) A (LL ifs env) (fun ok s4 =>
     if ok=true then wpAny (model prog w) A (eval elt env) (fun x s5=>wpAny (model prog w) A (call (.builtin "list.append") [acc,x]) (fun _ s6=>∃ m,m < n/\I m s6) (fun _ _=>False) s5) (fun _ _=>False) s4
     else ∃ m,m < n/\I m s4) (fun _ _=>False) s3) (fun _ _=>False) s2) (fun _ _=>False) s1) (fun _ _=>False) s) (n:Nat) (h:I n s) :
  codeAny (model prog w) A (.compLoop (.ListComp elt [⟨tg,iter,ifs,0⟩] scope pos) 0 it acc env) R s:=by
 refine codeAny_loop rfl I (fun k s' hk=>?_) n h
 show wpAny _ A ((compTurn (.ListComp elt [⟨tg,iter,ifs,0⟩] scope pos) 0 it acc env).onRaise (fun z=>do noteFrame z env; theTreesLotGoes z)) _ _ s'
 refine wpAny_noted ?_
 rw [compTurn_list]
 have no:∀ {Z:Value->Shared->Prop} (x:Value) (t:Shared),False->Z x t:=fun _ _ z=>z.elim
 refine wpAny_bind (wpAny_standAt ?_)
 refine wpAny_bind (wpAny_mono (turn k s' hk) (fun r s1 h1=>?_) no)
 rcases r with _ | v
 ·exact wpAny_pure h1
 ·refine wpAny_bind (wpAny_mono h1 (fun _ s2 h2=>?_) no)
  refine wpAny_bind (wpAny_mono h2 (fun _ s3 h3=>?_) no)
  refine wpAny_bind (wpAny_mono h3 (fun ok s4 h4=>?_) no)
  cases ok with
  | false=>exact wpAny_pure ⟨rfl,h4⟩
  | true =>
   refine wpAny_bind ?_
   refine wpAny_bind (wpAny_mono h4 (fun x s5 h5=>?_) no)
   exact wpAny_bind (wpAny_mono h5 (fun _ s6 h6=>wpAny_pure (wpAny_pure ⟨rfl,h6⟩)) no)
noncomputable def B3 (env:Env) (names:List (Str × NameKind)) (cs:List (Str × Addr)):List (Str × Addr):=names.foldl (fun cs x=>if (x.2==NameKind.free)=true then (x.1,(env.cells.lookup x.1).getD 0) :: cs else cs) cs
theorem HU {α β:Type} (f:α->β->Sem (ForInStep β)) (g:β->α->β):∀ (l:List α) (b:β),(∀ x ∈ l,∀ b,f x b=pure (ForInStep.yield (g b x)))->forIn l b f=pure (l.foldl g b)
 | [],b,_=>rfl
 | x :: l,b,h=>by
  rw [List.forIn_cons,h x (aac ..) b,ace]
  exact HU f g l (g b x) fun y hy=>h y (aaa _ hy)
theorem HV (h:∀ x ∈ scope.names,x.2=.free->(env.cells.lookup x.1).isSome=true):closureFor scope env=pure (B3 env scope.names []):=by
 unfold closureFor B3
 dsimp only
 rw [HU _ (fun cs x=>if (x.2==NameKind.free)=true then (x.1,(env.cells.lookup x.1).getD 0) :: cs else cs)]
 ·rfl
 ·rintro ⟨n,k⟩ hx cs
  by_cases hk:(k==NameKind.free)=true
  ·obtain ⟨c,hc⟩:=aaz.mp (h (n,k) hx (beq_iff_eq.mp hk))
   have hc':List.lookup n env.cells=some c:=hc
   dsimp only
   rw [if_pos hk,if_pos hk]
   unfold cellOf
   rw [hc']
   rfl
  ·dsimp only
   rw [if_neg hk,if_neg hk]
theorem Be (h:∀ x ∈ scope.names,x.2=.free->(env.cells.lookup x.1).isSome=true) {x:Str} {c:Addr} (e:(B3 env scope.names []).lookup x=some c):env.cells.lookup x=some c:=by
 have gen:∀ (l:List (Str × NameKind)) (cs:List (Str × Addr)),(∀ y ∈ l,y.2=.free->(env.cells.lookup y.1).isSome=true)->(∀ p ∈ cs,env.cells.lookup p.1=some p.2)->∀ p ∈ B3 env l cs,env.cells.lookup p.1=some p.2:=by
  intro l
  induction l with
  | nil=>intro cs _ hc; exact hc
  | cons y l ih =>
   intro cs hl hc
   unfold B3
   rw [ace]
   refine ih _ (fun z hz=>hl z (aaa _ hz)) fun p hp=>?_
   split at hp
   ·rename_i hk
    rcases aal.mp hp with rfl | hp
    ·obtain ⟨c',hc'⟩:=aaz.mp (hl y (aac ..) (beq_iff_eq.mp hk))
     show env.cells.lookup y.1=some ((env.cells.lookup y.1).getD 0)
     rw [hc']; rfl
    ·exact hc p hp
   ·exact hc p hp
 exact gen scope.names [] h (fun p hp=>nomatch hp) (x,c) (PySem.mem_of_lookup e)
theorem Eb {x:Str} {c:Addr} (hm:(x,NameKind.free) ∈ scope.names) (h:∀ x ∈ scope.names,x.2=.free->(env.cells.lookup x.1).isSome=true) (e:env.cells.lookup x=some c):(B3 env scope.names []).lookup x=some c:=by
 have gen:∀ (l:List (Str × NameKind)) (cs:List (Str × Addr)),((x,NameKind.free) ∈ l\/∃ d,(x,d) ∈ cs)->∃ d,(x,d) ∈ B3 env l cs:=by
  intro l
  induction l with
  | nil=>intro cs hc; rcases hc with z | z; cases z; exact z
  | cons y l ih =>
   intro cs hc
   unfold B3
   rw [ace]
   refine ih _ ?_
   rcases hc with hc | ⟨d,hc⟩
   ·rcases aal.mp hc with rfl | hc
    ·exact .inr ⟨_,by rw [if_pos (by rfl)]; exact aac ..⟩
    ·exact .inl hc
   ·refine .inr ⟨d,?_⟩
    split
    ·exact aaa _ hc
    ·exact hc
 obtain ⟨d,hd⟩:=gen scope.names [] (.inl hm)
 cases q:(B3 env scope.names []).lookup x with
 | none =>
  rw [List.lookup_eq_none_iff] at q
  have:=q _ hd
  simp at this
 | some c'=>exact (Be h q).symm.trans e ▸ rfl
end
structure Bk where
 (C:Addr)
 (fp:List Addr)
 (s:Shared)
 (H:Hp)
noncomputable abbrev Cx.blk (X:Cx) (scope:Scope) (C:Addr) (fp:List Addr) (N:List Str) (s:Shared) (H:Hp):Cx :=
 { X with N:=N,s₀:=s,H₀:=H,env:=compEnvC scope (B3 X.env scope.names []) C X.env,outer:=X.stack,ex:=fp,fn:=fun _=>false,pn:=[],xe:=fun _ _=>False }
noncomputable def PTs (X:Cx) (ifs:List Expr) (t:TT):Prop :=
 ∀ (pins:List (Addr × Obj)) (s:Shared) (σ:St) (H:Hp) (Q:Bool->Hp->Prop),Inv X pins σ H s->t σ H Q->wpAny (model X.prog X.w) X.A (LL ifs X.env) (TP X pins σ Q) X.xe s
noncomputable def QV:TT:=fun _ H Q=>Q true H
theorem LM {X:Cx}:PTs X [] QV:=fun _ _ _ H _ I h=>wpAny_tests_nil ⟨H,I,h⟩
theorem LO {X:Cx} {c:Expr} {t:TT} (h:PT X c t):PTs X [c] t:=fun pins s σ H Q I q=>wpAny_tests_one (h pins s σ H Q I q)
noncomputable def Bt (nl:Nat) (fr:List Nat) (σ:St):St:=aaj nl none ++ fr.map fun j=>(σ[j]?).join
noncomputable def GQ (nl:Nat) (fr:List Nat) (wi:TI) (gz:Bk->TG) (tcz:Bk->TT) (tez:Bk->TE):TE:=fun σ H Q=>wi σ H fun J H1=>∀ (z:Bk) (D:Addr),H1 D=none->∃ W:Nat->Nat->List V->Hp->Prop,(∃ m,W 0 m [] (upd H1 D (.lst [])))/\∀ i m acc H2,W i m acc H2 ->
 H2 D=some (.lst acc)/\((J.stop i H2/\Q (.ref D) H2)\/(J.go i H2/\∀ x H3,J.yld i H2 x H3->gz z x (Bt nl fr σ) H3 fun σ4 H4=>tcz z σ4 H4 fun b H5 =>
  if b=true then tez z σ4 H5 fun v H6=>H6 D=some (.lst acc)/\acc.length < sizeLine/\∃ m',m' < m/\W (i + 1) m' (acc ++ [v]) (upd H6 D (.lst (acc ++ [v]))) else ∃ m',m' < m/\W (i + 1) m' acc H5))
theorem LP {X:Cx} {elt tg iter:Expr} {ifs:List Expr} {scope:Scope} {pos:Pos} {wi:TI} {gz:Bk->TG} {tcz:Bk->TT} {tez:Bk->TE} (loc:List Str) (fr:List Nat) (frn:List Str) (hc:X.calm=true) (hi:PI X tg iter wi)
  (hfr:∀ (j:Nat) (k:Nat) (x:Str),fr[j]?=some k->frn[j]?=some x->X.N[k]?=some x/\X.env.kindOf x=some .cell/\(x,NameKind.free) ∈ scope.names) (hln:frn.length=fr.length)
  (hcell:∀ y ∈ scope.names,y.2 ≠ .cell) (hkind:scope.kind=.function) (hnames:∀ y ∈ scope.names,y.2=.local->scope.names.lookup y.1=some .local) (hfree:∀ y ∈ scope.names,y.2=.free->X.env.kindOf y.1=some .cell)
  (hkin:∀ (x:Str),x ∈ frn->(relabel scope X.env).names.lookup x=some .cell) (hsc:X.env.scope.kind=.function)
  (hgk:∀ (z:Bk) (v:V) (σ:St) (H:Hp) (Q:St->Hp->Prop),gz z v σ H Q->gz z v σ H fun σ' H'=>Q σ' H'/\σ'.length=σ.length/\∀ i,loc.length<=i->σ'[i]?=σ[i]?)
  (hblk:∀ (z:Bk),PG (X.blk scope z.C z.fp (loc ++ frn) z.s z.H) tg (gz z)/\PTs (X.blk scope z.C z.fp (loc ++ frn) z.s z.H) ifs (tcz z)/\PE (X.blk scope z.C z.fp (loc ++ frn) z.s z.H) elt (tez z))
  (hs:∀ x,foldedSetIterable iter X.env x=pure x:=by intro _; rfl):PE X (.ListComp elt [⟨tg,iter,ifs,0⟩] scope pos) (GQ loc.length fr wi gz tcz tez):=by
 intro pins s σ H Q I h
 have hcs:∀ x ∈ scope.names,x.2=.free->(X.env.cells.lookup x.1).isSome=true:=fun x hx hf=>by
  obtain ⟨c,e⟩:=I.ok.has x.1 (.inl (hfree x hx hf))
  rw [e]; rfl
 rw [eval_ListComp]
 refine wpAny_comprehension_free (use:=none) rfl hs (HV hcs) hkind hnames (thn (hi pins s σ H _ I h) fun v s1 h1=>thn h1 fun itv s2 h2=>?_)
 obtain ⟨it,fp,tn,J,H2,rfl,I2,T,st2,f2,q2⟩:=h2
 refine wpAny_newList (items:=[]) ?_ (by simp)
 have eD:H2 s2.heap.objs.size=none:=I2.hok.fresh (aag _)
 have pk:∀ (o:Obj) b u,s2.heap.get? b=some u->(s2.heap.push o).get? b=some u:=fun o b u e=>Heap.get?_push_of_some _ e
 have I3:=I2.laid (a:=s2.heap.objs.size) (o:=.lst []) (t':=s2.toks) (h':=s2.heap.push { cls:=.type "list",data:=.seq ([]:List Value).toArray }) (pk _) (aag _)
  ⟨aar _,[],0,.nil,Heap.get?_push_size _ rfl⟩
 generalize hs3:(⟨s2.heap.push { cls:=.type "list",data:=.seq ([]:List Value).toArray },s2.gens,s2.drawn,s2.toks,s2.os⟩:Shared)=s3 at I3 ⊢
 have k3:∀ b u,s2.heap.get? b=some u->s3.heap.get? b=some u:=fun b u e=>by rw [<- hs3]; exact pk _ b u e
 have tk3:s3.os=s2.os/\s3.gens=s2.gens:=by rw [<- hs3]; exact ⟨rfl,rfl⟩
 have z3:s3.heap.objs.size=s2.heap.objs.size + 1:=by rw [<- hs3]; exact Heap.size_push ..
 refine wpAny_newFunctionEnv hcell (by intro y hy; simp at hy) (fun h4 hns hsb=>?_) hkind
 have k4:∀ b u,s3.heap.get? b=some u->h4.get? b=some u:=fun b u e=>hsb.extBut b u (aaF (Heap.lt_size e)) (Heap.get?_push_of_some _ e)
 have fpl:∀ b ∈ fp,b < s2.heap.objs.size:=fun b hb=>by
  obtain ⟨o,e,_⟩:=T.obj 0 _ st2 b hb
  exact Heap.lt_size e
 obtain ⟨W,⟨m0,w0⟩,turn⟩:=q2 ⟨s3.heap.objs.size,fp,s3,upd H2 s2.heap.objs.size (.lst [])⟩ _ eD
 have ok4:(X.blk scope s3.heap.objs.size fp (loc ++ frn) s3 (upd H2 s2.heap.objs.size (.lst []))).Ok:=by
  refine ⟨I.ok.mod,hkind,I.ok.glob,I.ok.blt,aag _,fun x y c e1 e2=>I.ok.inj x y c (Be hcs e1) (Be hcs e2),fun x hx=>?_,fun x c z=>(nomatch z),I.ok.hd,I.ok.frames,.inl rfl,fun b hb=>⟨?_,fun x c e=>(f2 b hb).2.2.2.2.1 x c (Be hcs e)⟩,I3.bs,aao I.ok.bsz I3.sz,
   fun b o e hb=>?_,fun b hb z=>?_,I3.stack,I3.stkFree⟩
  ·have hm:(x,NameKind.free) ∈ scope.names:=by
    have:∃ k',(k'=NameKind.cell\/k'=NameKind.free)/\(relabel scope X.env).names.lookup x=some k':=by
     rcases hx with z | z
     ·exact ⟨_,.inl rfl,z⟩
     ·exact ⟨_,.inr rfl,z⟩
    obtain ⟨k',hk',z⟩:=this
    have zm:=PySem.mem_of_lookup z
    unfold relabel at zm
    obtain ⟨⟨n,k⟩,hn,e⟩:=aaD.mp zm
    dsimp only at e
    split at e
    ·rename_i hk
     cases e
     have:k=NameKind.free:=by
      cases k <;> first | rfl | (simp at hk)
     rw [<- this]; exact hn
    ·cases e
     rcases hk' with rfl | rfl
     ·exact absurd rfl (hcell _ hn)
     ·exact hn
   obtain ⟨c,e⟩:=I.ok.has x (.inl (hfree _ hm rfl))
   exact ⟨c,Eb hm hcs e⟩
  ·have:=fpl b hb
   exact aaF (by rw [z3]; exact acu this)
  ·rcases (f2 b hb).2.2.2.1 with z | z
   ·exact I.ok.noex b o e z
   ·exact absurd (aas (Heap.lt_size (I.ok.bs b o e).1) z) (aaU _)
  ·have:=I2.stkSub b z
   rcases aal.mp this with rfl | y
   ·exact (f2 _ hb).2.1 rfl
   ·exact (f2 b hb).2.2.1 y
 have I4:Inv (X.blk scope s3.heap.objs.size fp (loc ++ frn) s3 (upd H2 s2.heap.objs.size (.lst []))) [] (Bt loc.length fr σ) (upd H2 s2.heap.objs.size (.lst [])) { s3 with heap:=h4,toks:=s3.toks + ([]:List (Str × Value)).length }:=by
  refine ⟨ok4,rfl,I3.bare,Un.kept k4,⟨_,hns,fun i x v e1 e2 e3=>?_⟩,fun x c e=>?_,I3.hok.fresh (aag _),fun x c e=>I3.freeC x c (Be hcs e),fun p hp=>(nomatch hp),I3.hok.kept k4,?_⟩
  ·unfold Bt at e2
   by_cases hi:i < loc.length
   ·rw [aaW (by simpa using hi),aaZ] at e2
    split at e2 <;> cases e2
   ·rw [aaG (by simpa using hi),abd,aam] at e2
    have e1':frn[i - loc.length]?=some x:=by
     have:(loc ++ frn)[i]?=some x:=e1
     rw [aaG (abl hi)] at this
     exact this
    cases ek:fr[i - loc.length]? with
    | none=>rw [ek] at e2; cases e2
    | some k =>
     rw [ek] at e2
     have e2':(σ[k]?).join=some v:=Option.some.inj e2
     have e2'':σ[k]?=some (some v):=by
      cases q:σ[k]? with
      | none=>rw [q] at e2'; cases e2'
      | some y=>rw [q] at e2'; exact congrArg some e2'
     obtain ⟨n1,n2,n3⟩:=hfr _ k x ek e1'
     obtain ⟨m,_,hl⟩:=I3.loc
     obtain ⟨u,ru,lk⟩:=hl k x v n1 e2'' (.inr (.inl n2))
     refine ⟨u,ru,.inr ⟨.inl (hkin x (aae e1')),?_⟩⟩
     rcases lk with ⟨z,_⟩ | ⟨_,c,ec,ic⟩
     ·rw [n2] at z; cases z
     ·obtain ⟨o,ho,hd⟩:=ic
      exact ⟨c,Eb n3 hcs ec,o,k4 _ _ ho,hd⟩
  ·obtain ⟨v,o,ho,hd⟩:=I3.cell x c (Be hcs e)
   exact ⟨v,o,k4 _ _ ho,hd⟩
  ·unfold Bt
   show _=(loc ++ frn).length
   rw [aaC,aaC,abd,aab,hln]
 have stat:∀ {H':Hp},(∀ b ∈ fp,H' b=none)->∀ b ∈ fp,FpOk (X.blk scope s3.heap.objs.size fp (loc ++ frn) s3 (upd H2 s2.heap.objs.size (.lst []))) [] H' b:=fun hn b hb =>
  ⟨hn b hb,(ok4.exf b hb).1,ok4.exfs b hb,.inl hb,(ok4.exf b hb).2,fun p hp=>(nomatch hp)⟩
 have fp3:∀ b ∈ fp,(upd H2 s2.heap.objs.size (.lst [])) b=none:=fun b hb=>by
  rw [Ar (aaF (fpl b hb))]; exact (f2 b hb).1
 obtain ⟨pg,pt,pe⟩:=hblk ⟨s3.heap.objs.size,fp,s3,upd H2 s2.heap.objs.size (.lst [])⟩
 have st4:tn 0 h4:=T.keep 0 _ _ st2 fun b _ o e=>k4 b o (k3 b o e)
 have after:∀ {i:Nat} {H':Hp} {s':Shared} {acc:List V} {σ':St},Inv (X.blk scope s3.heap.objs.size fp (loc ++ frn) s3 (upd H2 s2.heap.objs.size (.lst []))) [] σ' H' s'->Q (.ref s2.heap.objs.size) H' ->
   compPost (model X.prog X.w) X.A X.xe none (EP X pins σ Q) (.ref s2.heap.objs.size) s3.heap.objs.size (.ok .next) s':=by
  intro i H' s' acc σ' I5 q
  obtain ⟨m,hn,_⟩:=I5.loc
  refine ⟨m,hn,fun h' hb=>?_⟩
  have same:∀ b o,s3.heap.get? b=some o->h'.get? b=s'.heap.get? b:=fun b o e=>hb.2 b (aaF (Heap.lt_size e))
  have u:=I5.base
  have un:Un (frs X.stack) fp (upd H2 s2.heap.objs.size (.lst [])) H' s3.heap h':=⟨fun b o e n h1 h2=>(same b o e).trans (u.keep b o e n h1 h2),fun b o e n h1 h2=>by
    obtain ⟨sl,z⟩:=u.slot b o e n h1 h2
    exact ⟨sl,(same b o e).trans z⟩,u.free,fun b o e h1=>by
    obtain ⟨o',z⟩:=u.there b o e h1
    exact ⟨o',(same b o e).trans z⟩,u.tups,u.frzs,u.tbls⟩
  have hok:HOk X.prog X.w H' h':=fun b o e=>by
   have fC:H' s3.heap.objs.size=none:=I5.free
   refine (I5.hok b o e).stay (fun c w' hc z=>(hb.2 c ?_).trans z) (fun _ z=>z) fun _ _ z=>z
   rintro rfl
   rcases hc with rfl | hc
   ·rw [fC] at e; cases e
   ·rw [fC] at hc; cases hc
  exact ⟨.ref s2.heap.objs.size,H',I3.call' (s':={ s' with heap:=h' }) (ch:=fp) I5.os un hok I5.bare (fun b hb=>⟨(f2 b hb).2.2.2.1,(f2 b hb).2.1,(f2 b hb).2.2.2.2.1,(f2 b hb).2.2.2.2.2⟩),rfl,q⟩
 have loop:∀ s5:Shared,s5={ s3 with heap:=h4,toks:=s3.toks + ([]:List (Str × Value)).length } ->
   codeAny (model X.prog X.w) X.A (.compLoop (.ListComp elt [⟨tg,iter,ifs,0⟩] scope pos) 0 (.ref it) (.ref s2.heap.objs.size) (compEnvC scope (B3 X.env scope.names []) s3.heap.objs.size X.env))
    (compPost (model X.prog X.w) X.A X.xe none (EP X pins σ Q) (.ref s2.heap.objs.size) s3.heap.objs.size) s5:=by
  rintro s5 rfl
  refine Gg (fun n s'=>∃ i acc H',Inv (X.blk scope s3.heap.objs.size fp (loc ++ frn) s3 (upd H2 s2.heap.objs.size (.lst []))) [] (Bt loc.length fr σ) H' s'/\tn i s'.heap/\(∀ b ∈ fp,H' b=none)/\W i n acc H') ?_ m0
   ⟨0,[],_,I4,st4,fp3,w0⟩
  rintro n s6 ⟨i,acc,H6,I6,st6,fr6,w6⟩
  obtain ⟨hD,alt⟩:=turn i n acc H6 w6
  rcases alt with ⟨stop,q⟩ | ⟨go,step⟩
  ·refine thn (T.done (X.blk scope s3.heap.objs.size fp (loc ++ frn) s3 (upd H2 s2.heap.objs.size (.lst []))) rfl rfl rfl hc i [] s6 _ H6 (fun _ _=>False) I6 (stat fr6) st6 stop) fun r s7 ⟨hr,I7⟩=>?_
   subst hr
   exact after (i:=i) (acc:=acc) I7 q
  ·refine thn (T.item (X.blk scope s3.heap.objs.size fp (loc ++ frn) s3 (upd H2 s2.heap.objs.size (.lst []))) rfl rfl rfl hc i [] s6 _ H6 (fun _ _=>False) I6 (stat fr6) st6 go) fun r s7 ⟨u,hr,h7⟩=>?_
   subst hr
   refine thn h7 fun _ s8 ⟨x,H8,I8,r8,y8,st8,fr8⟩=>?_
   have I8':=I8.pinned (stat fr8) (T.obj _ _ st8)
   have back:∀ {σ9:St} {H9:Hp} {s9:Shared},Inv (X.blk scope s3.heap.objs.size fp (loc ++ frn) s3 (upd H2 s2.heap.objs.size (.lst []))) ([] ++ Fo fp s8.heap) σ9 H9 s9->σ9.length=(Bt loc.length fr σ).length->(∀ i,loc.length<=i->σ9[i]?=(Bt loc.length fr σ)[i]?) ->
     Inv (X.blk scope s3.heap.objs.size fp (loc ++ frn) s3 (upd H2 s2.heap.objs.size (.lst []))) [] (Bt loc.length fr σ) H9 s9/\tn (i + 1) s9.heap/\(∀ b ∈ fp,H9 b=none):=by
    intro σ9 H9 s9 I9 hl hk
    refine ⟨(I9.unpinned).weak hl.symm fun j v ej=>?_,T.keep _ _ _ st8 fun b hb o e=>(I9.pin (b,o) (aak _ (aak _ (CD hb e)))).1,fun b hb=>?_⟩
    ·by_cases hj:j < loc.length
     ·unfold Bt at ej
      rw [aaW (by simpa using hj),aaZ] at ej
      split at ej <;> cases ej
     ·rw [hk j (abl hj)]; exact ej
    ·obtain ⟨o,e,d⟩:=T.obj _ _ st8 b hb
     exact (I9.pin (b,o) (aak _ (aak _ (CD hb e)))).2.1
   refine thn (pg _ s8 _ H8 x u _ I8' r8 (hgk _ _ _ _ _ (step x H8 y8))) fun _ s9 ⟨σ9,H9,I9,q9,l9,k9⟩=>?_
   refine thn (pt _ s9 σ9 H9 _ I9 q9) fun ok s10 ⟨H10,I10,q10⟩=>?_
   cases ok with
   | false =>
    rw [if_neg (by decide)] at q10 ⊢
    obtain ⟨m',hm,w'⟩:=q10
    obtain ⟨b1,b2,b3⟩:=back I10 l9 k9
    exact ⟨m',hm,i + 1,acc,H10,b1,b2,b3,w'⟩
   | true =>
    rw [if_pos rfl] at q10 ⊢
    refine thn (pe _ s10 σ9 H10 _ I10 q10) fun y s11 ⟨v,H11,I11,r11,hD11,hz,m',hm,w'⟩=>?_
    refine thn (EU _ s11 σ9 H11 (.ref s2.heap.objs.size) [v] (.ref s2.heap.objs.size) [y] (fun _ H12=>W (i + 1) m' (acc ++ [v]) H12) I11 rfl (.cons r11 .nil) ⟨_,acc,v,rfl,rfl,hD11,hz,w'⟩) fun _ s12 ⟨_,H12,I12,_,w12⟩=>?_
    obtain ⟨b1,b2,b3⟩:=back I12 l9 k9
    exact ⟨m',hm,i + 1,_,H12,b1,b2,b3,w12⟩
 exact codeAny_compStart_list (loop _ rfl) (T.self X.A 0 _ _ _ st4 (loop _ rfl))
mutual
inductive RD (K:Frag) (H:Hp):V->PyData->Prop where
 | non:RD K H .non .none
 | bl (b:Bool):RD K H (.bl b) (.bool b)
 | int (i:Int):RD K H (.int i) (.int i)
 | str (x:Str):RD K H (.str x) (.str x)
 | lst {a:Addr} {xs:List V} {ds:List PyData} (h:SqL K H a xs) (r:RDs K H xs ds):RD K H (.ref a) (.list ds)
 | tup {a:Addr} {xs:List V} {ds:List PyData} (h:SqT K H a xs) (r:RDs K H xs ds):RD K H (.ref a) (.tuple ds)
inductive RDs (K:Frag) (H:Hp):List V->List PyData->Prop where
 | nil:RDs K H [] []
 | cons {x:V} {xs:List V} {d:PyData} {ds:List PyData} (h:RD K H x d) (r:RDs K H xs ds):RDs K H (x :: xs) (d :: ds)
end
section
variable {X:Cx} {pins:List (Addr × Obj)} {σ:St} {H:Hp} {s:Shared}
mutual
theorem RD.reads (I:Inv X pins σ H s):∀ {v:V} {d:PyData} {u:Value},RD X.K H v d->RelV v u->∃ as,Reads s.heap u d as
 | _,_,_,.non,r=>by cases (show _=Value.none from r); exact ⟨_,.none⟩
 | _,_,_,.bl b,r=>by cases (show _=Value.bool b from r); exact ⟨_,.bool b⟩
 | _,_,_,.int i,r=>by obtain ⟨t,q⟩:=(show ∃ t,_=Value.int i t from r); cases q; exact ⟨_,.int i t⟩
 | _,_,_,.str x,r=>by obtain ⟨t,q⟩:=(show ∃ t,_=Value.str x t from r); cases q; exact ⟨_,.str x t⟩
 | _,_,_,.lst (a:=a) h rs,r=>by
  cases (show _=Value.ref a from r)
  obtain ⟨its,rv,⟨o,n,hp,hc,_,hd⟩,_⟩:=I.list h
  obtain ⟨as,ra⟩:=RDs.reads I rs rv
  exact ⟨_,reads_list_at hp hc hd (by simpa using ra)⟩
 | _,_,_,.tup (a:=a) h rs,r=>by
  cases (show _=Value.ref a from r)
  obtain ⟨its,rv,⟨o,h1,h2,n,h3⟩,_⟩:=I.tuple h
  obtain ⟨as,ra⟩:=RDs.reads I rs rv
  exact ⟨_,reads_tuple_at h1 h2 h3 (by simpa using ra)⟩
theorem RDs.reads (I:Inv X pins σ H s):∀ {xs:List V} {ds:List PyData} {us:List Value},RDs X.K H xs ds->Vals xs us->∃ as,ReadsAll s.heap us ds as
 | _,_,_,.nil,.nil=>⟨_,.nil⟩
 | _,_,_,.cons h r,.cons q t=>by
  obtain ⟨as,e1⟩:=RD.reads I h q
  obtain ⟨bs,e2⟩:=RDs.reads I r t
  exact ⟨_,.cons e1 e2⟩
end
noncomputable def Ua (K:Frag) (neg:Bool):R2:=fun x y H Q=>∃ d e,RD K H x d/\RD K H y e/\SeqAt.shaped d=true/\SeqAt.shaped e=true/\Q (.bl (if neg then !d.eqv e else d.eqv e)) H
theorem Ub (hu:X.A.units + 64 < cLine):OpR X (compareOp .Eq) (Ua X.K false):=by
 intro pins s σ H x y u w' Q I rx ry h
 obtain ⟨d,e,h1,h2,s1,s2,q⟩:=h
 obtain ⟨_,r1⟩:=h1.reads I rx
 obtain ⟨_,r2⟩:=h2.reads I ry
 exact eq_dataH r1 r2 s1 s2 hu ⟨.bl (d.eqv e),H,I,rfl,q⟩
theorem Uc (hu:X.A.units + 64 < cLine):OpR X (compareOp .NotEq) (Ua X.K true):=by
 intro pins s σ H x y u w' Q I rx ry h
 obtain ⟨d,e,h1,h2,s1,s2,q⟩:=h
 obtain ⟨_,r1⟩:=h1.reads I rx
 obtain ⟨_,r2⟩:=h2.reads I ry
 exact ne_dataH r1 r2 s1 s2 hu ⟨.bl (!d.eqv e),H,I,rfl,q⟩
end
section
variable {P:Program} {w:World} {K:Frag} {mg:Str->Option Value} {base:Heap}
theorem Fun.okX {x qual:Str} {st:Stmt} {f:Addr} {fd:FuncData} {N ps:List Str} {k:Nat} {sp:Sp} (F:Fun K x qual st f fd) (S:FnScope N ps (Ai st)) (len:∀ vs H Q E,sp vs H Q E->vs.length=ps.length)
  (hbody:∀ (f:Addr) (cdv:Value) (A:Around) (outer:List Env) (s:Shared) (H:Hp) (vs:List V) (Q:VK) (E:XK),Room k (A.deeper (envOfC qual (Ai st) s.heap.objs.size f cdv))->sp vs H Q E ->
   ∃ t,PSs (BD (CXe P w) P w K mg base N qual (Ai st) f cdv A outer s H E) (AH st) t/\t { nx:=fun _ H'=>Q .non H',rt:=Q } (AK N vs) H):FnOk P w K mg base (CXe P w) (k + 1) f fd ps sp:=by
 obtain ⟨oc,od,kV,doc,pm,an,cdv,ct,osl,rfl,lk,hcd⟩:=F.ex
 exact VA lk hcd S len fun A outer s H vs Q E hr hsp=>hbody f cdv A outer s H vs Q E hr hsp
noncomputable def Df (K:Frag) (mg:Str->Option Value) (x:Str) (st:Stmt) (ps:List Str):Prop:=∃ f fd,Fun K x x st f fd/\mg x=some (.ref f)/\Binds K fd ps []
noncomputable def Has (P:Program) (w:World) (K:Frag) (mg:Str->Option Value) (base:Heap) (x:Str) (k:Nat) (ps:List Str) (sp:Sp):Prop :=
 ∃ f fd,FnOk P w K mg base (CXe P w) k f fd ps sp/\mg x=some (.ref f)/\PySem.W.keepIn K (.ref f)=true/\Binds K fd ps []
theorem Df.has {x:Str} {st:Stmt} {N ps:List Str} {k:Nat} {sp:Sp} (D:Df K mg x st ps) (S:FnScope N ps (Ai st)) (len:∀ vs H Q E,sp vs H Q E->vs.length=ps.length)
  (hbody:∀ (f:Addr) (cdv:Value) (A:Around) (outer:List Env) (s:Shared) (H:Hp) (vs:List V) (Q:VK) (E:XK),Room k (A.deeper (envOfC x (Ai st) s.heap.objs.size f cdv))->sp vs H Q E ->
   ∃ t,PSs (BD (CXe P w) P w K mg base N x (Ai st) f cdv A outer s H E) (AH st) t/\t { nx:=fun _ H'=>Q .non H',rt:=Q } (AK N vs) H):Has P w K mg base x (k + 1) ps sp:=by
 obtain ⟨f,fd,F,m,b⟩:=D
 exact ⟨f,fd,F.okX S len hbody,m,F.kp,b⟩
theorem VC {h:Heap} {x:Str} {st:Stmt} {ps:List Str} {f:Addr} {oc:Value} {od an:Option Addr} {osl:Array (Option Value)} {kV doc pm cdv ct:Value} (X:K.In h) (G:h.Ns mainGlobals mg) (a:nsIn K mainGlobals x=some (some (.ref f)))
  (l:K.lookup f=some ⟨oc,od,.func (PySem.W.fnOf x x (B9 st) (AH st) (Ai st) .none kV doc pm an cdv ct),osl⟩) (c:PySem.W.codeIn K cdv x=true) (k:PySem.W.keepIn K (.ref f)=true)
  (hb:∀ (kV doc pm:Value) (an:Option Addr) (cdv ct:Value) (us:List Value),us.length=ps.length->bindArgs (PySem.W.fnOf x x (B9 st) (AH st) (Ai st) .none kV doc pm an cdv ct) ⟨us,[]⟩=pure (ps.zip us)):Df K mg x st ps:=by
 have F:=NZ (st:=st) l c k
 exact ⟨f,_,F,mg_of X G a,F.binds hb⟩
end
section
variable {X:Cx} {k:Nat} {ps:List Str} {sp:Sp} {E:XK} {EX:EXT} {x:Str} {p pos:Pos} {e:Expr} {es:List Expr} {t:TA}
theorem MM (F:Has X.prog X.w X.K X.mg X.base x k ps sp) (hr:Room k X.A) (hg:Gl X x) (hx:Gf (CXe X.prog X.w) X EX) (ha:PA X (e :: es) t) (hdb:(x==("__debug__" : Str))=false:=by decide)
  (he:starEach (e :: es) X.env=(false,eval e X.env) :: starEach es X.env:=by rfl) (hpl:(backTo pos (starEach es X.env)).any (·.1)=false:=by rfl):PE X (.Call (.Name x p) (e :: es) [] pos) (N0 sp [] EX t):=by
 obtain ⟨f,fd,F,m,kp,b⟩:=F
 exact Pw F hr hg m kp b .nil hx ha hdb he hpl
end
theorem Same.new {H:Hp} {p:Addr} {o:HO} (h:H p=none):Same H (upd H p o):=fun b u e=>by rw [Ar (AV e h)]; exact e
theorem Same.put {H H1:Hp} {p:Addr} {o:HO} (s:Same H H1) (h:H p=none):Same H (upd H1 p o):=fun b u e=>by rw [Ar (AV e h)]; exact s b u e
theorem Same.tup {K:Frag} {H H':Hp} {a:Addr} {xs:List V} (e:Same H H') (h:SqT K H a xs):SqT K H' a xs:=by
 rcases h with (h | ⟨o,h⟩) | h
 ·exact .inl (.inl (e _ _ h))
 ·exact .inl (.inr ⟨o,e _ _ h⟩)
 ·exact .inr h
mutual
theorem Same.rd {K:Frag} {H H':Hp} (e:Same H H'):∀ {x:V} {d:PyData},RD K H x d->RD K H' x d
 | _,_,.non=>.non
 | _,_,.bl b=>.bl b
 | _,_,.int i=>.int i
 | _,_,.str x=>.str x
 | _,_,.lst h r=>.lst (e.seq h) (Same.rds e r)
 | _,_,.tup h r=>.tup (e.tup h) (Same.rds e r)
theorem Same.rds {K:Frag} {H H':Hp} (e:Same H H'):∀ {xs:List V} {ds:List PyData},RDs K H xs ds->RDs K H' xs ds
 | _,_,.nil=>.nil
 | _,_,.cons h r=>.cons (Same.rd e h) (Same.rds e r)
end
theorem Py {X:Cx} {use:Option (Value->Sem Unit)} {R:Value->Shared->Prop} {ipos:Pos} {pins:List (Addr × Obj)} {s:Shared} {σ:St} {H:Hp} {Q:VK} {elt tg iter:Expr} {ifs:List Expr} {scope:Scope} {pos:Pos} {wi:TI} {gz:Bk->TG} {tcz:Bk->TT} {tez:Bk->TE} (loc:List Str) (fr:List Nat) (frn:List Str) (hc:X.calm=true) (hi:PI X tg iter wi)
  (hfr:∀ (j:Nat) (k:Nat) (x:Str),fr[j]?=some k->frn[j]?=some x->X.N[k]?=some x/\X.env.kindOf x=some .cell/\(x,NameKind.free) ∈ scope.names) (hln:frn.length=fr.length)
  (hcell:∀ y ∈ scope.names,y.2 ≠ .cell) (hkind:scope.kind=.function) (hnames:∀ y ∈ scope.names,y.2=.local->scope.names.lookup y.1=some .local) (hfree:∀ y ∈ scope.names,y.2=.free->X.env.kindOf y.1=some .cell)
  (hkin:∀ (x:Str),x ∈ frn->(relabel scope X.env).names.lookup x=some .cell) (hsc:X.env.scope.kind=.function)
  (hgk:∀ (z:Bk) (v:V) (σ:St) (H:Hp) (Q:St->Hp->Prop),gz z v σ H Q->gz z v σ H fun σ' H'=>Q σ' H'/\σ'.length=σ.length/\∀ i,loc.length<=i->σ'[i]?=σ[i]?)
  (hblk:∀ (z:Bk),PG (X.blk scope z.C z.fp (loc ++ frn) z.s z.H) tg (gz z)/\PTs (X.blk scope z.C z.fp (loc ++ frn) z.s z.H) ifs (tcz z)/\PE (X.blk scope z.C z.fp (loc ++ frn) z.s z.H) elt (tez z))
  (I:Inv X pins σ H s) (h:GQ loc.length fr wi gz tcz tez σ H Q)
  (haf:∀ (D C:Addr) (H':Hp) (s':Shared) (m:Str->Option Value),s'.heap.Ns C m->(∀ h',Heap.SameBut C s'.heap h'->Inv X pins σ H' { s' with heap:=h' }) ->
   (X.s₀.heap.objs.size<=C/\C ≠ X.env.locals/\(∀ x c,X.env.cells.lookup x=some c->c ≠ C)/\(∀ p ∈ X.pn ++ pins,p.1 ≠ C)/\H' C=none/\C ∉ frs X.stack)->Q (.ref D) H'->compPost (model X.prog X.w) X.A X.xe use R (.ref D) C (.ok .next) s')
  (hs:∀ x,foldedSetIterable iter X.env x=pure x):wpAny (model X.prog X.w) X.A (comprehension (.ListComp elt [⟨tg,iter,ifs,0⟩] scope pos) scope X.env ipos (newList []) false (eval iter X.env) use) R X.xe s:=by
 have hcs:∀ x ∈ scope.names,x.2=.free->(X.env.cells.lookup x.1).isSome=true:=fun x hx hf=>by
  obtain ⟨c,e⟩:=I.ok.has x.1 (.inl (hfree x hx hf))
  rw [e]; rfl
 refine wpAny_comprehension_free rfl hs (HV hcs) hkind hnames (thn (hi pins s σ H _ I h) fun v s1 h1=>thn h1 fun itv s2 h2=>?_)
 obtain ⟨it,fp,tn,J,H2,rfl,I2,T,st2,f2,q2⟩:=h2
 refine wpAny_newList (items:=[]) ?_ (by simp)
 have eD:H2 s2.heap.objs.size=none:=I2.hok.fresh (aag _)
 have pk:∀ (o:Obj) b u,s2.heap.get? b=some u->(s2.heap.push o).get? b=some u:=fun o b u e=>Heap.get?_push_of_some _ e
 have I3:=I2.laid (a:=s2.heap.objs.size) (o:=.lst []) (t':=s2.toks) (h':=s2.heap.push { cls:=.type "list",data:=.seq ([]:List Value).toArray }) (pk _) (aag _)
  ⟨aar _,[],0,.nil,Heap.get?_push_size _ rfl⟩
 generalize hs3:(⟨s2.heap.push { cls:=.type "list",data:=.seq ([]:List Value).toArray },s2.gens,s2.drawn,s2.toks,s2.os⟩:Shared)=s3 at I3 ⊢
 have k3:∀ b u,s2.heap.get? b=some u->s3.heap.get? b=some u:=fun b u e=>by rw [<- hs3]; exact pk _ b u e
 have tk3:s3.os=s2.os/\s3.gens=s2.gens:=by rw [<- hs3]; exact ⟨rfl,rfl⟩
 have z3:s3.heap.objs.size=s2.heap.objs.size + 1:=by rw [<- hs3]; exact Heap.size_push ..
 refine wpAny_newFunctionEnv hcell (by intro y hy; simp at hy) (fun h4 hns hsb=>?_) hkind
 have k4:∀ b u,s3.heap.get? b=some u->h4.get? b=some u:=fun b u e=>hsb.extBut b u (aaF (Heap.lt_size e)) (Heap.get?_push_of_some _ e)
 have fpl:∀ b ∈ fp,b < s2.heap.objs.size:=fun b hb=>by
  obtain ⟨o,e,_⟩:=T.obj 0 _ st2 b hb
  exact Heap.lt_size e
 obtain ⟨W,⟨m0,w0⟩,turn⟩:=q2 ⟨s3.heap.objs.size,fp,s3,upd H2 s2.heap.objs.size (.lst [])⟩ _ eD
 have ok4:(X.blk scope s3.heap.objs.size fp (loc ++ frn) s3 (upd H2 s2.heap.objs.size (.lst []))).Ok:=by
  refine ⟨I.ok.mod,hkind,I.ok.glob,I.ok.blt,aag _,fun x y c e1 e2=>I.ok.inj x y c (Be hcs e1) (Be hcs e2),fun x hx=>?_,fun x c z=>(nomatch z),I.ok.hd,I.ok.frames,.inl rfl,fun b hb=>⟨?_,fun x c e=>(f2 b hb).2.2.2.2.1 x c (Be hcs e)⟩,I3.bs,aao I.ok.bsz I3.sz,
   fun b o e hb=>?_,fun b hb z=>?_,I3.stack,I3.stkFree⟩
  ·have hm:(x,NameKind.free) ∈ scope.names:=by
    have:∃ k',(k'=NameKind.cell\/k'=NameKind.free)/\(relabel scope X.env).names.lookup x=some k':=by
     rcases hx with z | z
     ·exact ⟨_,.inl rfl,z⟩
     ·exact ⟨_,.inr rfl,z⟩
    obtain ⟨k',hk',z⟩:=this
    have zm:=PySem.mem_of_lookup z
    unfold relabel at zm
    obtain ⟨⟨n,k⟩,hn,e⟩:=aaD.mp zm
    dsimp only at e
    split at e
    ·rename_i hk
     cases e
     have:k=NameKind.free:=by
      cases k <;> first | rfl | (simp at hk)
     rw [<- this]; exact hn
    ·cases e
     rcases hk' with rfl | rfl
     ·exact absurd rfl (hcell _ hn)
     ·exact hn
   obtain ⟨c,e⟩:=I.ok.has x (.inl (hfree _ hm rfl))
   exact ⟨c,Eb hm hcs e⟩
  ·have:=fpl b hb
   exact aaF (by rw [z3]; exact acu this)
  ·rcases (f2 b hb).2.2.2.1 with z | z
   ·exact I.ok.noex b o e z
   ·exact absurd (aas (Heap.lt_size (I.ok.bs b o e).1) z) (aaU _)
  ·have:=I2.stkSub b z
   rcases aal.mp this with rfl | y
   ·exact (f2 _ hb).2.1 rfl
   ·exact (f2 b hb).2.2.1 y
 have I4:Inv (X.blk scope s3.heap.objs.size fp (loc ++ frn) s3 (upd H2 s2.heap.objs.size (.lst []))) [] (Bt loc.length fr σ) (upd H2 s2.heap.objs.size (.lst [])) { s3 with heap:=h4,toks:=s3.toks + ([]:List (Str × Value)).length }:=by
  refine ⟨ok4,rfl,I3.bare,Un.kept k4,⟨_,hns,fun i x v e1 e2 e3=>?_⟩,fun x c e=>?_,I3.hok.fresh (aag _),fun x c e=>I3.freeC x c (Be hcs e),fun p hp=>(nomatch hp),I3.hok.kept k4,?_⟩
  ·unfold Bt at e2
   by_cases hi:i < loc.length
   ·rw [aaW (by simpa using hi),aaZ] at e2
    split at e2 <;> cases e2
   ·rw [aaG (by simpa using hi),abd,aam] at e2
    have e1':frn[i - loc.length]?=some x:=by
     have:(loc ++ frn)[i]?=some x:=e1
     rw [aaG (abl hi)] at this
     exact this
    cases ek:fr[i - loc.length]? with
    | none=>rw [ek] at e2; cases e2
    | some k =>
     rw [ek] at e2
     have e2':(σ[k]?).join=some v:=Option.some.inj e2
     have e2'':σ[k]?=some (some v):=by
      cases q:σ[k]? with
      | none=>rw [q] at e2'; cases e2'
      | some y=>rw [q] at e2'; exact congrArg some e2'
     obtain ⟨n1,n2,n3⟩:=hfr _ k x ek e1'
     obtain ⟨m,_,hl⟩:=I3.loc
     obtain ⟨u,ru,lk⟩:=hl k x v n1 e2'' (.inr (.inl n2))
     refine ⟨u,ru,.inr ⟨.inl (hkin x (aae e1')),?_⟩⟩
     rcases lk with ⟨z,_⟩ | ⟨_,c,ec,ic⟩
     ·rw [n2] at z; cases z
     ·obtain ⟨o,ho,hd⟩:=ic
      exact ⟨c,Eb n3 hcs ec,o,k4 _ _ ho,hd⟩
  ·obtain ⟨v,o,ho,hd⟩:=I3.cell x c (Be hcs e)
   exact ⟨v,o,k4 _ _ ho,hd⟩
  ·unfold Bt
   show _=(loc ++ frn).length
   rw [aaC,aaC,abd,aab,hln]
 have stat:∀ {H':Hp},(∀ b ∈ fp,H' b=none)->∀ b ∈ fp,FpOk (X.blk scope s3.heap.objs.size fp (loc ++ frn) s3 (upd H2 s2.heap.objs.size (.lst []))) [] H' b:=fun hn b hb =>
  ⟨hn b hb,(ok4.exf b hb).1,ok4.exfs b hb,.inl hb,(ok4.exf b hb).2,fun p hp=>(nomatch hp)⟩
 have fp3:∀ b ∈ fp,(upd H2 s2.heap.objs.size (.lst [])) b=none:=fun b hb=>by
  rw [Ar (aaF (fpl b hb))]; exact (f2 b hb).1
 obtain ⟨pg,pt,pe⟩:=hblk ⟨s3.heap.objs.size,fp,s3,upd H2 s2.heap.objs.size (.lst [])⟩
 have st4:tn 0 h4:=T.keep 0 _ _ st2 fun b _ o e=>k4 b o (k3 b o e)
 have after:∀ {i:Nat} {H':Hp} {s':Shared} {acc:List V} {σ':St},Inv (X.blk scope s3.heap.objs.size fp (loc ++ frn) s3 (upd H2 s2.heap.objs.size (.lst []))) [] σ' H' s'->Q (.ref s2.heap.objs.size) H' ->
   compPost (model X.prog X.w) X.A X.xe use R (.ref s2.heap.objs.size) s3.heap.objs.size (.ok .next) s':=by
  intro i H' s' acc σ' I5 q
  obtain ⟨m,hn,_⟩:=I5.loc
  refine haf s2.heap.objs.size s3.heap.objs.size H' s' m hn (fun h' hb=>?_) ⟨I3.sz,abz I3.lt,fun x c e z=>?_,fun p hp z=>?_,I5.free,fun z=>?_⟩ q
  ·have same:∀ b o,s3.heap.get? b=some o->h'.get? b=s'.heap.get? b:=fun b o e=>hb.2 b (aaF (Heap.lt_size e))
   have u:=I5.base
   have un:Un (frs X.stack) fp (upd H2 s2.heap.objs.size (.lst [])) H' s3.heap h':=⟨fun b o e n h1 h2=>(same b o e).trans (u.keep b o e n h1 h2),fun b o e n h1 h2=>by
     obtain ⟨sl,z⟩:=u.slot b o e n h1 h2
     exact ⟨sl,(same b o e).trans z⟩,u.free,fun b o e h1=>by
     obtain ⟨o',z⟩:=u.there b o e h1
     exact ⟨o',(same b o e).trans z⟩,u.tups,u.frzs,u.tbls⟩
   have hok:HOk X.prog X.w H' h':=fun b o e=>by
    have fC:H' s3.heap.objs.size=none:=I5.free
    refine (I5.hok b o e).stay (fun c w' hc z=>(hb.2 c ?_).trans z) (fun _ z=>z) fun _ _ z=>z
    rintro rfl
    rcases hc with rfl | hc
    ·rw [fC] at e; cases e
    ·rw [fC] at hc; cases hc
   exact I3.call' (s':={ s' with heap:=h' }) (ch:=fp) I5.os un hok I5.bare (fun b hb=>⟨(f2 b hb).2.2.2.1,(f2 b hb).2.1,(f2 b hb).2.2.2.2.1,(f2 b hb).2.2.2.2.2⟩)
  ·obtain ⟨v,hcell⟩:=I3.cell x c e
   exact absurd (z ▸ hcell.lt) (aaU _)
  ·exact absurd (z ▸ Heap.lt_size (I3.pin p hp).1) (aaU _)
  ·rcases aal.mp (I3.stkSub _ z) with y | y
   ·exact absurd (y ▸ I3.lt) (aaU _)
   ·exact I3.nofs (aag _) y
 have loop:∀ s5:Shared,s5={ s3 with heap:=h4,toks:=s3.toks + ([]:List (Str × Value)).length } ->
   codeAny (model X.prog X.w) X.A (.compLoop (.ListComp elt [⟨tg,iter,ifs,0⟩] scope pos) 0 (.ref it) (.ref s2.heap.objs.size) (compEnvC scope (B3 X.env scope.names []) s3.heap.objs.size X.env))
    (compPost (model X.prog X.w) X.A X.xe use R (.ref s2.heap.objs.size) s3.heap.objs.size) s5:=by
  rintro s5 rfl
  refine Gg (fun n s'=>∃ i acc H',Inv (X.blk scope s3.heap.objs.size fp (loc ++ frn) s3 (upd H2 s2.heap.objs.size (.lst []))) [] (Bt loc.length fr σ) H' s'/\tn i s'.heap/\(∀ b ∈ fp,H' b=none)/\W i n acc H') ?_ m0
   ⟨0,[],_,I4,st4,fp3,w0⟩
  rintro n s6 ⟨i,acc,H6,I6,st6,fr6,w6⟩
  obtain ⟨hD,alt⟩:=turn i n acc H6 w6
  rcases alt with ⟨stop,q⟩ | ⟨go,step⟩
  ·refine thn (T.done (X.blk scope s3.heap.objs.size fp (loc ++ frn) s3 (upd H2 s2.heap.objs.size (.lst []))) rfl rfl rfl hc i [] s6 _ H6 (fun _ _=>False) I6 (stat fr6) st6 stop) fun r s7 ⟨hr,I7⟩=>?_
   subst hr
   exact after (i:=i) (acc:=acc) I7 q
  ·refine thn (T.item (X.blk scope s3.heap.objs.size fp (loc ++ frn) s3 (upd H2 s2.heap.objs.size (.lst []))) rfl rfl rfl hc i [] s6 _ H6 (fun _ _=>False) I6 (stat fr6) st6 go) fun r s7 ⟨u,hr,h7⟩=>?_
   subst hr
   refine thn h7 fun _ s8 ⟨x,H8,I8,r8,y8,st8,fr8⟩=>?_
   have I8':=I8.pinned (stat fr8) (T.obj _ _ st8)
   have back:∀ {σ9:St} {H9:Hp} {s9:Shared},Inv (X.blk scope s3.heap.objs.size fp (loc ++ frn) s3 (upd H2 s2.heap.objs.size (.lst []))) ([] ++ Fo fp s8.heap) σ9 H9 s9->σ9.length=(Bt loc.length fr σ).length->(∀ i,loc.length<=i->σ9[i]?=(Bt loc.length fr σ)[i]?) ->
     Inv (X.blk scope s3.heap.objs.size fp (loc ++ frn) s3 (upd H2 s2.heap.objs.size (.lst []))) [] (Bt loc.length fr σ) H9 s9/\tn (i + 1) s9.heap/\(∀ b ∈ fp,H9 b=none):=by
    intro σ9 H9 s9 I9 hl hk
    refine ⟨(I9.unpinned).weak hl.symm fun j v ej=>?_,T.keep _ _ _ st8 fun b hb o e=>(I9.pin (b,o) (aak _ (aak _ (CD hb e)))).1,fun b hb=>?_⟩
    ·by_cases hj:j < loc.length
     ·unfold Bt at ej
      rw [aaW (by simpa using hj),aaZ] at ej
      split at ej <;> cases ej
     ·rw [hk j (abl hj)]; exact ej
    ·obtain ⟨o,e,d⟩:=T.obj _ _ st8 b hb
     exact (I9.pin (b,o) (aak _ (aak _ (CD hb e)))).2.1
   refine thn (pg _ s8 _ H8 x u _ I8' r8 (hgk _ _ _ _ _ (step x H8 y8))) fun _ s9 ⟨σ9,H9,I9,q9,l9,k9⟩=>?_
   refine thn (pt _ s9 σ9 H9 _ I9 q9) fun ok s10 ⟨H10,I10,q10⟩=>?_
   cases ok with
   | false =>
    rw [if_neg (by decide)] at q10 ⊢
    obtain ⟨m',hm,w'⟩:=q10
    obtain ⟨b1,b2,b3⟩:=back I10 l9 k9
    exact ⟨m',hm,i + 1,acc,H10,b1,b2,b3,w'⟩
   | true =>
    rw [if_pos rfl] at q10 ⊢
    refine thn (pe _ s10 σ9 H10 _ I10 q10) fun y s11 ⟨v,H11,I11,r11,hD11,hz,m',hm,w'⟩=>?_
    refine thn (EU _ s11 σ9 H11 (.ref s2.heap.objs.size) [v] (.ref s2.heap.objs.size) [y] (fun _ H12=>W (i + 1) m' (acc ++ [v]) H12) I11 rfl (.cons r11 .nil) ⟨_,acc,v,rfl,rfl,hD11,hz,w'⟩) fun _ s12 ⟨_,H12,I12,_,w12⟩=>?_
    obtain ⟨b1,b2,b3⟩:=back I12 l9 k9
    exact ⟨m',hm,i + 1,_,H12,b1,b2,b3,w12⟩
 exact codeAny_compStart_list (loop _ rfl) (T.self X.A 0 _ _ _ st4 (loop _ rfl))
theorem Inv.but {X:Cx} {pins:List (Addr × Obj)} {s:Shared} {σ:St} {H:Hp} {C:Addr} {h':Heap} (I:Inv X pins σ H s) (hC:X.s₀.heap.objs.size<=C/\C ≠ X.env.locals/\(∀ x c,X.env.cells.lookup x=some c->c ≠ C)/\(∀ p ∈ X.pn ++ pins,p.1 ≠ C)/\H C=none/\C ∉ frs X.stack)
  (hb:Heap.SameBut C s.heap h'):Inv X pins σ H { s with heap:=h' }:=by
 obtain ⟨h1,h2,h3,h4,h5,h6⟩:=hC
 have same:∀ b,b ∉ [C]->h'.get? b=s.heap.get? b:=fun b z=>hb.2 b (fun e=>z (by simp [e]))
 refine I.call' (s':={ s with heap:=h' }) (ch:=[C]) rfl ⟨fun b o e _ _ z=>(same b z).trans e,fun b o e _ _ z=>⟨o.slots,(same b z).trans e⟩,fun b o e n z=>n,fun b o e z=>⟨o,(same b z).trans e⟩,fun _ _ e=>e,fun _ _ _ e=>e,fun _ ps e=>⟨#[],by simpa using e⟩⟩ ?_ I.bare
  (fun b z=>by
   have:b=C:=by simpa using z
   subst this
   exact ⟨.inr h1,h2,h3,h4⟩)
 intro b o e
 refine (I.hok b o e).stay (fun c w' hc z=>(hb.2 c ?_).trans z) (fun _ z=>z) fun _ _ z=>z
 rintro rfl
 rcases hc with rfl | hc
 ·rw [h5] at e; cases e
 ·rw [h5] at hc; cases hc
theorem HW {X:Cx} {elt tg iter:Expr} {ifs:List Expr} {scope:Scope} {pos spos py:Pos} {y:Str} {k:Nat} {wi:TI} {gz:Bk->TG} {tcz:Bk->TT} {tez:Bk->TE} (loc:List Str) (fr:List Nat) (frn:List Str) (hc:X.calm=true) (hi:PI X tg iter wi)
  (hfr:∀ (j:Nat) (k:Nat) (x:Str),fr[j]?=some k->frn[j]?=some x->X.N[k]?=some x/\X.env.kindOf x=some .cell/\(x,NameKind.free) ∈ scope.names) (hln:frn.length=fr.length)
  (hcell:∀ y ∈ scope.names,y.2 ≠ .cell) (hkind:scope.kind=.function) (hnames:∀ y ∈ scope.names,y.2=.local->scope.names.lookup y.1=some .local) (hfree:∀ y ∈ scope.names,y.2=.free->X.env.kindOf y.1=some .cell)
  (hkin:∀ (x:Str),x ∈ frn->(relabel scope X.env).names.lookup x=some .cell) (hsc:X.env.scope.kind=.function)
  (hgk:∀ (z:Bk) (v:V) (σ:St) (H:Hp) (Q:St->Hp->Prop),gz z v σ H Q->gz z v σ H fun σ' H'=>Q σ' H'/\σ'.length=σ.length/\∀ i,loc.length<=i->σ'[i]?=σ[i]?)
  (hblk:∀ (z:Bk),PG (X.blk scope z.C z.fp (loc ++ frn) z.s z.H) tg (gz z)/\PTs (X.blk scope z.C z.fp (loc ++ frn) z.s z.H) ifs (tcz z)/\PE (X.blk scope z.C z.fp (loc ++ frn) z.s z.H) elt (tez z))
  (hs:∀ x,foldedSetIterable iter X.env x=pure x) (hN:X.N.Nodup) (hk:X.N[k]?=some y) (hx:Loc X.env.scope y) (hf:X.fn y=true\/X.env.scope.names.lookup y=some .local)
  (hsw:swapsWith (.ListComp elt [⟨tg,iter,ifs,0⟩] scope pos) (some (.Name y py)) spos.line X.env=pure true) :
  PS X (.Assign [.Name y py] (.ListComp elt [⟨tg,iter,ifs,0⟩] scope pos) spos) (F9 (GQ loc.length fr wi gz tcz tez) (ET k)):=by
 intro pins s σ H D I h
 rw [exec_Assign_Name_used _ _ _ _ hsw]
 refine wpAny_bind (wpAny_standAt (wpAny_bind ?_))
 show wpAny _ X.A (do let _ <- comprehension (.ListComp elt [⟨tg,iter,ifs,0⟩] scope pos) scope X.env _ (newList []) false (eval iter X.env) (some (assign (.Name y py) X.env))) _ _ s
 refine wpAny_bind (wpAny_mono (Py (R:=fun _ s'=>SP X pins D .next s') loc fr frn hc hi hfr hln hcell hkind hnames hfree hkin hsc hgk hblk I h (fun D' C H' s' m hn hI hC q=>?_) hs) (fun _ s' hq=>wpAny_pure (wpAny_pure hq)) fun _ _ e=>e)
 have I7:Inv X pins σ H' s':=hI s'.heap ⟨rfl,fun _ _=>rfl⟩
 refine wpAny_assign_Name (Jj (v:=.ref D') I7 hN hk hx rfl (fun s8 I8 ⟨a,sb,ha⟩=>?_) hf)
 refine ⟨m,hn.sameBut sb ?_,fun h9 sb9=>⟨_,H',I8.but hC sb9,q⟩⟩
 rcases ha with rfl | ha
 ·exact hC.2.1
 ·exact fun z=>hC.2.2.1 _ _ ha z.symm
end L2
end
section
namespace L2
open PySem PySem.Spec PyProof.Rows PySem.W
section
variable {X:Cx} {pins:List (Addr × Obj)} {σ:St} {H:Hp} {s:Shared} {h':Heap}
theorem Inv.turnLaid {t':Nat} {ch:List Addr} {a:Addr} {o:HO} (I:Inv X pins σ H s) (k:∀ b u,b ∉ ch->s.heap.get? b=some u->h'.get? b=some u) (hf:∀ c ∈ ch,FpOk X pins H c) (ha:s.heap.objs.size<=a) (new:ObjOk X.prog X.w (upd H a o) h' a o) :
  Inv X pins σ (upd H a o) { s with heap:=h',toks:=t' }:=by
 have hn:=I.hok.fresh ha
 have nch:∀ b u,H b=some u->b ∉ ch:=fun b u e z=>by rw [(hf b z).1] at e; cases e
 have na:∀ b u,s.heap.get? b=some u->b ≠ a:=fun b u e z=>absurd (aas (Heap.lt_size e) (z ▸ ha)) (aaU _)
 refine I.step (g':=s.gens) (d':=s.drawn) (ch:=ch) (fun b hb=>?_) (fun b o _ _ hc e _=>k b o hc e) (fun b o _ _ hc e _=>⟨o.slots,k b o hc e⟩) (fun b u _ e n=>by rw [Ar (na b u e)]; exact n)
  (fun b o hc e=>⟨o,k b o hc e⟩) (fun b xs e=>by rw [Ar (AV e hn)]; exact e) (fun b u v e=>by rw [Ar (AV e hn)]; exact e) (fun b ps e=>⟨#[],by rw [Ar (AV e hn),e]; simp⟩) (fun m hm=>?_) (fun b u e=>?_) I.bare
 ·obtain ⟨f0,f1,f2,f3,f4,f5⟩:=hf b hb
  exact ⟨f3,f1,f4,f5⟩
 ·obtain ⟨o,es,ep,ho,r⟩:=hm
  exact ⟨o,es,ep,k _ o (fun z=>(hf _ z).2.1 rfl) ho,r⟩
 ·by_cases hb:b=a
  ·subst hb; rw [A9] at e; cases e; exact new
  ·rw [Ar hb] at e
   refine (I.hok b u e).stay (fun c v hc q=>k c v ?_ q) (fun c q=>by rw [Ar (AV q hn)]; exact q) fun c xs q=>by rw [Ar (AV q hn)]; exact q
   rcases hc with z | z
   ·rw [z]; exact nch b u e
   ·exact nch c _ z
theorem Inv.turnedL {t':Nat} {ch:List Addr} (I:Inv X pins σ H s) (k:∀ b u,b ∉ ch->s.heap.get? b=some u->h'.get? b=some u) (hf:∀ c ∈ ch,FpOk X pins H c):Inv X pins σ H { s with heap:=h',toks:=t' }:=by
 have nch:∀ b u,H b=some u->b ∉ ch:=fun b u e z=>by rw [(hf b z).1] at e; cases e
 refine I.step (g':=s.gens) (d':=s.drawn) (ch:=ch) (fun b hb=>?_) (fun b o _ _ hc e _=>k b o hc e) (fun b o _ _ hc e _=>⟨o.slots,k b o hc e⟩) (fun b u _ e n=>n)
  (fun b o hc e=>⟨o,k b o hc e⟩) (fun b xs e=>e) (fun b u v e=>e) (fun b ps e=>⟨#[],by rw [e]; simp⟩) (fun m hm=>?_) (fun b u e=>?_) I.bare
 ·obtain ⟨f0,f1,f2,f3,f4,f5⟩:=hf b hb
  exact ⟨f3,f1,f4,f5⟩
 ·obtain ⟨o,es,ep,ho,r⟩:=hm
  exact ⟨o,es,ep,k _ o (fun z=>(hf _ z).2.1 rfl) ho,r⟩
 ·refine (I.hok b u e).stay (fun c v hc q=>k c v ?_ q) (fun c q=>q) fun c xs q=>q
  rcases hc with z | z
  ·rw [z]; exact nch b u e
  ·exact nch c _ z
end
theorem FM (a:Int):∀ {acc:List Value} {k n:Nat},acc.length=n->(∀ j v,acc[j]?=some v->∃ t,v=Value.int (a + ((k + j:Nat):Int)) t)->Vals ((aav n).map fun i=>V.int (a + ((k + i:Nat):Int))) acc
 | [],k,n,hl,_=>by subst hl; exact .nil
 | u :: r,k,n,hl,h=>by
  subst hl
  obtain ⟨t,rfl⟩:=h 0 u rfl
  rw [aaP,abM,aay,aaE]
  refine .cons ⟨t,rfl⟩ ?_
  have:=FM a (acc:=r) (k:=k + 1) rfl fun j v e=>by
   obtain ⟨t,e⟩:=h (j + 1) v (by simpa using e)
   exact ⟨t,by rw [e]; congr 2; omega⟩
  rw [aaT (g:=fun i=>V.int (a + ((k + 1 + i:Nat):Int))) (fun i _=>by show V.int _=V.int _; congr 2; omega)]
  exact this
section
variable {X:Cx}
noncomputable def tLR (ta:TA):TE:=fun σ H Q=>ta σ H fun vs H1=>∃ i j:Int,vs=[.int i,.int j]/\(-(2 ^ 62)<=i/\i < 2 ^ 62/\-(2 ^ 62)<=j/\j < 2 ^ 62)/\(j - i).toNat<=2 ^ 24/\∀ l,H1 l=none->Q (.ref l) (upd H1 l (.lst ((aav (j - i).toNat).map fun k=>.int (i + (k:Nat)))))
theorem Pz {a b:Expr} {ta:TA} {p1 p2 pos pos2:Pos} (hc:X.calm=true) (hgl:Gl X "list") (hml:X.mg "list" = none) (hg:Gl X "range") (hm:X.mg "range" = none) (ha:PA X [a,b] ta) (hs:starEach [a,b] X.env=[(false,eval a X.env),(false,eval b X.env)]) (hs2:starEach [b] X.env=[(false,eval b X.env)]) :
  PE X (.Call (.Name "list" p1) [.Call (.Name "range" p2) [a,b] [] pos2] [] pos) (tLR ta):=by
 intro pins s σ H Q I h
 refine wpAny_Call_Name_kw (Bq I hgl hml (show bootBuiltins "list" = some (.type "list") by decide +kernel) ?_)
 refine PyProof.Rows.callWith_type1 (rest:=[]) ?_ rfl rfl
 show wpAny _ _ (spliced ((false,eval (.Call (.Name "range" p2) [a,b] [] pos2) X.env) :: backTo pos (starEach [] X.env))) _ _ s
 refine Calls.spliced_cons ?_
 refine Call_ (Bq I hg hm boot_range (PyProof.Rows.callWith_type1 (thn (ha pos2 pins s σ H _ I h) fun us s1 ⟨vs,H1,I1,r1,q1⟩=>?_) (by rw [hs,hs2]) (by rw [hs2]; rfl)))
 obtain ⟨i,j,e,⟨q1,q2,q3,q4⟩,hz,q⟩:=q1
 subst e
 cases r1 with
 | cons r rr =>
  cases rr with
  | cons r' rr =>
   cases rr
   obtain ⟨t,rfl⟩:=r
   obtain ⟨t',rfl⟩:=r'
   refine call_range_2 ?_
   refine Calls.spliced_nil ?_
   have hn:Builtin.Range.rangeSize i j 1=(((j - i).toNat:Nat):Int):=by rw [rangeSize_one]; split <;> omega
   refine call_list_range (I1.ok.hd hc) (IsRange.new ..) (small_one q1 q2 q3 q4) hn hz fun h' tk acc c' hk hS hacc=>?_
   obtain ⟨z1,z2⟩:=hacc
   have I2:Inv X pins σ H1 { s1 with heap:=s1.heap.push { cls:=.type "range",data:=.fields #[.int i t,.int j t',.int 1 s1.toks] },toks:=s1.toks + 1 }:=I1.kept (t':=s1.toks + 1) fun b o e=>Heap.get?_push_of_some _ e
   have hf:=I2.hok.fresh (aag _)
   refine ⟨.ref _,upd H1 _ (.lst ((aav (j - i).toNat).map fun k=>.int (i + (k:Nat)))),I2.laid (t':=tk) hk (aag _) ?_,rfl,q _ hf⟩
   refine ⟨by rw [aab,aaY]; exact hz,acc.toList,c',?_,hS⟩
   have:=FM i (acc:=acc.toList) (k:=0) (n:=(j - i).toNat) (by simpa using z1) fun k v e=>by
    obtain ⟨t,e⟩:=z2 k v (by simpa using e)
    exact ⟨t,by rw [e]; congr 2 <;> omega⟩
   simpa using this
noncomputable def Wg (ta:TA):TE:=fun σ H Q=>ta σ H fun vs H1=>∃ j:Int,vs=[.int j]/\(-(2 ^ 62)<=j/\j < 2 ^ 62)/\(j - 0).toNat<=2 ^ 24/\∀ l,H1 l=none->Q (.ref l) (upd H1 l (.lst ((aav (j - 0).toNat).map fun k=>.int (0 + (k:Nat)))))
theorem N1 {b:Expr} {ta:TA} {p1 p2 pos pos2:Pos} (hc:X.calm=true) (hgl:Gl X "list") (hml:X.mg "list" = none) (hg:Gl X "range") (hm:X.mg "range" = none) (ha:PA X [b] ta) (hs:starEach [b] X.env=[(false,eval b X.env)]) :
  PE X (.Call (.Name "list" p1) [.Call (.Name "range" p2) [b] [] pos2] [] pos) (Wg ta):=by
 intro pins s σ H Q I h
 refine wpAny_Call_Name_kw (Bq I hgl hml (show bootBuiltins "list" = some (.type "list") by decide +kernel) ?_)
 refine PyProof.Rows.callWith_type1 (rest:=[]) ?_ rfl rfl
 show wpAny _ _ (spliced ((false,eval (.Call (.Name "range" p2) [b] [] pos2) X.env) :: backTo pos (starEach [] X.env))) _ _ s
 refine Calls.spliced_cons ?_
 refine Call_ (Bq I hg hm boot_range (PyProof.Rows.callWith_type1 (thn (ha pos2 pins s σ H _ I h) fun us s1 ⟨vs,H1,I1,r1,q1⟩=>?_) hs rfl))
 obtain ⟨j,e,⟨q3,q4⟩,hz,q⟩:=q1
 subst e
 cases r1 with
 | cons r' rr =>
   cases rr
   obtain ⟨t',rfl⟩:=r'
   refine call_range_1 ?_
   refine Calls.spliced_nil ?_
   have hn:Builtin.Range.rangeSize 0 j 1=(((j - 0).toNat:Nat):Int):=by rw [rangeSize_one]; split <;> omega
   refine call_list_range (I1.ok.hd hc) (IsRange.new ..) (small_one (by decide) (by decide) q3 q4) hn hz fun h' tk acc c' hk hS hacc=>?_
   obtain ⟨z1,z2⟩:=hacc
   have I2:Inv X pins σ H1 { s1 with heap:=s1.heap.push { cls:=.type "range",data:=.fields #[.int 0 s1.toks,.int j t',.int 1 (s1.toks + 1)] },toks:=s1.toks + 1 + 1 }:=I1.kept (t':=s1.toks + 1 + 1) fun b o e=>Heap.get?_push_of_some _ e
   have hf:=I2.hok.fresh (aag _)
   refine ⟨.ref _,upd H1 _ (.lst ((aav (j - 0).toNat).map fun k=>.int (0 + (k:Nat)))),I2.laid (t':=tk) hk (aag _) ?_,rfl,q _ hf⟩
   refine ⟨by rw [aab,aaY]; exact hz,acc.toList,c',?_,hS⟩
   have:=FM 0 (acc:=acc.toList) (k:=0) (n:=(j - 0).toNat) (by simpa using z1) fun k v e=>by
    obtain ⟨t,e⟩:=z2 k v (by simpa using e)
    exact ⟨t,by rw [e]; congr 2 <;> omega⟩
   simpa using this
noncomputable def Ud:V->List V->Hp->VK->Prop:=fun x xs H Q=>∃ (a:Addr) (ns:List Int) (v:Int) (j:Nat),x=.ref a/\xs=[.int v]/\Rd H a (.lst (ns.map V.int))/\(ns[j]?=some v/\∀ m,m < j->ns[m]? ≠ some v)/\Q (.int (j:Nat)) H
theorem EW:∀ {ns:List Int} {its:List Value},Vals (ns.map V.int) its->∀ (i:Nat) (y:Value),its[i]?=some y->∃ (x:Int) (t:Tok),ns[i]?=some x/\y=.int x t
 | [],its,h,i,y,e=>by cases h; simp at e
 | x :: r,its,h,i,y,e=>by
  cases h with
  | cons h1 h2 =>
   obtain ⟨t,rfl⟩:=h1
   cases i with
   | zero=>exact ⟨x,t,rfl,by simpa using e.symm⟩
   | succ i=>exact EW (ns:=r) h2 i y (by simpa using e)
theorem J9:∀ {ns:List Int} {its:List Value},Vals (ns.map V.int) its->its.length=ns.length
 | [],its,h=>by cases h; rfl
 | x :: r,its,h=>by
  cases h with
  | cons h1 h2=>rw [aaP,aaP,J9 (ns:=r) h2]
noncomputable def Rq (k:Int):Value->Bool
 | .int a _=>a==k
 | _=>false
theorem PB:MtR X "list.index" Ud:=by
 intro pins s σ H x xs v us Q I rx rv h
 obtain ⟨a,ns,k,j,rfl,rfl,hR,⟨hj,hno⟩,q⟩:=h
 cases rx
 obtain ⟨u,rfl,ru⟩:=rv.one
 obtain ⟨tu,rfl⟩:=ru
 obtain ⟨its,n,hz,rel,dd,sl,ho⟩:∃ (its:List Value) (n:Nat),(ns.map V.int).length<=sizeLine/\Vals (ns.map V.int) its/\∃ dd sl,s.heap.get? a=some { cls:=.type "list",dict:=dd,data:=.seq its.toArray n,slots:=sl }:=by
  rcases hR with e | ⟨o,e⟩
  ·obtain ⟨hz,its,n,r,e⟩:=I.hok a _ e
   exact ⟨its,n,hz,r,_,_,e⟩
  ·obtain ⟨_,hz,its,n,r,e⟩:=I.hok a _ e
   exact ⟨its,n,hz,r,_,_,e⟩
 have hl:=J9 rel
 have hjl:j < its.length:=by rw [hl]; exact (aap.mp hj).1
 have hz:ns.length<=sizeLine:=by rwa [aab] at hz
 have hs:sizeLine=16777216:=rfl
 refine call_meets PySem.F.slot_list_index ⟨_,ho,rfl⟩ PySem.F.entry_list_index (PySem.F.args_list_index_2 _ _) (PySem.SeqAt.list_indexAt a _ n dd sl (.int k tu) (Rq k) j (by simpa using hjl) (by omega) ?_ ?_) ⟨ho,fun y hy=>?_,?_⟩
 ·obtain ⟨x,t,h1,h2⟩:=EW rel j its[j] (aah hjl)
  rw [hj] at h1
  cases h1
  rw [acN,h2]
  exact beq_self_eq_true k
 ·intro m hm hmj
  have hm:m < its.length:=by simpa using hm
  obtain ⟨x,t,h1,h2⟩:=EW rel m its[m] (aah hm)
  rw [acN,h2]
  show (x==k)=false
  rw [beq_eq_false_iff_ne]
  rintro rfl
  exact hno m hmj h1
 ·have:y ∈ its:=by simpa using hy
  obtain ⟨i,hi⟩:=abt this
  obtain ⟨x,t,_,rfl⟩:=EW rel i y hi
  exact PySem.SeqAt.EqAt.int_int x t k tu
 ·exact ⟨.int _,H,I.tok _,⟨_,rfl⟩,q⟩
theorem Vals.tk {xs:List V} {us:List Value} (h:Vals xs us):∀ n,Vals (xs.take n) (us.take n)/\Vals (xs.drop n) (us.drop n):=by
 induction h with
 | nil=>intro n; cases n <;> exact ⟨.nil,.nil⟩
 | cons h1 h2 ih =>
  intro n
  cases n with
  | zero=>exact ⟨.nil,.cons h1 h2⟩
  | succ n=>exact ⟨.cons h1 (ih n).1,(ih n).2⟩
end
noncomputable def Itz (K:PySem.W.Frag) (a b:Addr):It :=
 ⟨fun i H=>∃ xs x ys y,SqL K H a xs/\xs[i]?=some x/\SqL K H b ys/\ys[i]?=some y,fun i H v H'=>∃ t,H t=none/\v=.ref t/\∀ xs x ys y,SqL K H a xs->xs[i]?=some x->SqL K H b ys->ys[i]?=some y->H'=upd H t (.tup [x,y]),fun i H=>∃ xs ys,SqL K H a xs/\SqL K H b ys/\(xs.length<=i\/ys.length<=i)⟩
structure Zst (z TI TO i1 i2 a b:Addr) (i:Nat) (h:Heap):Prop where
 hz:IsZip h z TI TO .none
 hi:IsPair h TI (.ref i1) (.ref i2)
 ho:∃ u v,IsPair h TO u v
 h1:h.IsListIter i1 a i
 h2:h.IsListIter i2 b i
structure Zap (z TI TO i1 i2:Addr):Prop where
 TIz:TI ≠ z
 TOz:TO ≠ z
 i1z:i1 ≠ z
 i2z:i2 ≠ z
 TITO:TI ≠ TO
 TIi1:TI ≠ i1
 TIi2:TI ≠ i2
 TOi1:TO ≠ i1
 TOi2:TO ≠ i2
 i12:i1 ≠ i2
theorem N2 {z TI TO i1 i2 a b:Addr} {i:Nat} {h:Heap} {xs ys:Array Value} (Z:Zap z TI TO i1 i2) (S:Zst z TI TO i1 i2 a b i h) (p:h.IsList a xs) (q:h.IsList b ys):ZipApart z TI TO i1 i2 a b:=by
 obtain ⟨oa,ea,ca,_⟩:=p
 obtain ⟨ob,eb,cb,_⟩:=q
 obtain ⟨u,v,ho⟩:=S.ho
 obtain ⟨o1,e1,c1,_⟩:=S.h1
 obtain ⟨o2,e2,c2,_⟩:=S.h2
 have key:∀ {x y:Addr} {ox oy:Obj},h.get? x=some ox->h.get? y=some oy->ox.cls ≠ oy.cls->x ≠ y:=fun ex ey n z=>by
  subst z; rw [ex] at ey; cases ey; exact n rfl
 exact ⟨Z.TIz,Z.TOz,Z.i1z,Z.i2z,Z.TITO,Z.TIi1,Z.TIi2,Z.TOi1,Z.TOi2,Z.i12,key ea S.hz (by rw [ca]; simp),key ea ho (by rw [ca]; simp),key ea e1 (by rw [ca,c1]; simp),key ea e2 (by rw [ca,c2]; simp),key eb S.hz (by rw [cb]; simp),key eb ho (by rw [cb]; simp),key eb e1 (by rw [cb,c1]; simp),key eb e2 (by rw [cb,c2]; simp)⟩
theorem PD {P:Program} {w:World} {K:PySem.W.Frag} {elts:List Expr} {k1:Nat} {pos:Pos} (a b z TI TO i1 i2:Addr) (Z:Zap z TI TO i1 i2):Turn P w K (.Tuple elts k1 pos) (Itz K a b) [z,TI,TO,i1,i2] z (fun i h=>Zst z TI TO i1 i2 a b i h) where
 mem:=by simp
 obj:=fun i h st c hc=>by
  obtain ⟨u,v,ho⟩:=st.ho
  obtain ⟨o1,e1,c1,d1⟩:=st.h1
  obtain ⟨o2,e2,c2,d2⟩:=st.h2
  simp only [aal,abU,or_false] at hc
  rcases hc with rfl | rfl | rfl | rfl | rfl
  ·exact ⟨_,st.hz,fun v y=>by have y':Data.fields _=Data.cell v:=y; cases y'⟩
  ·exact ⟨_,st.hi,fun v y=>by have y':Data.seq _ _=Data.cell v:=y; cases y'⟩
  ·exact ⟨_,ho,fun v y=>by have y':Data.seq _ _=Data.cell v:=y; cases y'⟩
  ·exact ⟨o1,e1,fun v y=>by rw [d1] at y; cases y⟩
  ·exact ⟨o2,e2,fun v y=>by rw [d2] at y; cases y⟩
 keep:=fun i h h' st k=>by
  obtain ⟨u,v,ho⟩:=st.ho
  exact ⟨k z (by simp) _ st.hz,k TI (by simp) _ st.hi,⟨u,v,k TO (by simp) _ ho⟩,st.h1.at fun o q=>k i1 (by simp) o q,st.h2.at fun o q=>k i2 (by simp) o q⟩
 item:=by
  intro X hP hw hK hc i pins s σ H E I hf st hg
  subst hP hw hK
  obtain ⟨xs,x,ys,y,hq,hx,hq2,hy⟩:=hg
  obtain ⟨its,rv,p,hz⟩:=I.list hq
  obtain ⟨its2,rv2,p2,hz2⟩:=I.list hq2
  obtain ⟨u,hu,ru⟩:=rv.get hx
  obtain ⟨u2,hu2,ru2⟩:=rv2.get hy
  obtain ⟨v1,v2,ho⟩:=st.ho
  refine wpAny_pyNext_zip_item (N2 Z st p.isList p2.isList) st.hz st.hi ho st.h1 st.h2 p.isList p2.isList (x:=u) (y:=u2) (by simpa using hu) (by simpa using hu2) fun h' hz' hTO' hi1' hi2' hT hsz hk=>?_
  refine ⟨_,rfl,wpAny_letOwnedTupleGo_zip hz' fun h2 he2 hs2=>?_⟩
  have ltz:z < s.heap.objs.size:=Heap.lt_size st.hz
  have hT2:IsPair h2 s.heap.objs.size u u2:=(hs2.2 _ (abz ltz)).trans hT
  have I1:Inv X pins σ (upd H s.heap.objs.size (.tup [x,y])) { s with heap:=h2 }:=I.turnLaid (t':=s.toks) (ch:=[z,TI,TO,i1,i2]) (fun c o hc q=>by
    have n1:c ≠ z:=fun e=>hc (by simp [e])
    have n2:c ≠ TO:=fun e=>hc (by simp [e])
    have n3:c ≠ i1:=fun e=>hc (by simp [e])
    have n4:c ≠ i2:=fun e=>hc (by simp [e])
    exact (hs2.2 c n1).trans (hk c o n1 n2 n3 n4 q)) hf (aag _)
   ⟨by simp [sizeLine],[u,u2],.cons ru (.cons ru2 .nil),⟨_,hT2,rfl,_,rfl⟩⟩
  refine ⟨.ref s.heap.objs.size,_,I1,rfl,⟨_,I.hok.fresh (aag _),rfl,fun xs' x' ys' y' a1 a2 a3 a4=>?_⟩,⟨he2,(hs2.2 TI Z.TIz).trans (hk TI _ Z.TIz Z.TITO Z.TIi1 Z.TIi2 st.hi),⟨u,u2,(hs2.2 TO Z.TOz).trans hTO'⟩,hi1'.at fun o q=>(hs2.2 i1 Z.i1z).trans q,hi2'.at fun o q=>(hs2.2 i2 Z.i2z).trans q⟩,fun c hc=>?_⟩
  ·have e1:=I.list_inj a1 hq
   have e2:=I.list_inj a3 hq2
   subst e1 e2
   rw [hx] at a2
   rw [hy] at a4
   cases a2; cases a4
   rfl
  ·obtain ⟨o,eo,_⟩:∃ o,s.heap.get? c=some o/\True:=by
    obtain ⟨o1,e1,_⟩:=st.h1
    obtain ⟨o2,e2,_⟩:=st.h2
    simp only [aal,abU,or_false] at hc
    rcases hc with rfl | rfl | rfl | rfl | rfl
    ·exact ⟨_,st.hz,trivial⟩
    ·exact ⟨_,st.hi,trivial⟩
    ·exact ⟨_,ho,trivial⟩
    ·exact ⟨_,e1,trivial⟩
    ·exact ⟨_,e2,trivial⟩
   rw [Ar (aaF (Heap.lt_size eo))]
   exact (hf c hc).1
 done:=by
  intro X hP hw hK hc i pins s σ H E I hf st hg
  subst hP hw hK
  obtain ⟨xs,ys,hq,hq2,hx⟩:=hg
  obtain ⟨its,rv,p,hz⟩:=I.list hq
  obtain ⟨its2,rv2,p2,hz2⟩:=I.list hq2
  obtain ⟨v1,v2,ho⟩:=st.ho
  have l1:=rv.length
  have l2:=rv2.length
  refine wpAny_pyNext_zip_end (I.ok.hd hc) (N2 Z st p.isList p2.isList) st.hz st.hi ho st.h1 st.h2 p.isList p2.isList (by simp; omega) fun h' eb=>⟨rfl,I.turnedL (t':=s.toks) (ch:=[z,TI,TO,i1,i2]) (fun c o hc q=>eb c o (fun e=>hc (by simp [e])) (fun e=>hc (by simp [e])) (fun e=>hc (by simp [e])) (fun e=>hc (by simp [e])) q) hf⟩
 self:=fun _ _ _ _ _ st h=>wpAny_pyIter_zip st.hz h
noncomputable def PF (lo c:Int) (n:Nat):It:=⟨fun i _=>i < n,fun i H x H'=>H'=H/\x=.int (lo + i * c),fun i _=>n<=i⟩
theorem Le {P:Program} {w:World} {K:PySem.W.Frag} {tg:Expr} (it:Addr) (lo c:Int) (n:Nat):Turn P w K tg (PF lo c n) [it] it (fun i h=>IsRangeIter h it (lo + (i:Nat) * c) ((n:Int) - (i:Nat)) c) where
 mem:=by simp
 obj:=fun i h st b hb=>by
  have e:b=it:=by simpa using hb
  subst e
  exact ⟨_,st,fun v z=>by
   have z':Data.fields _=Data.cell v:=z
   cases z'⟩
 keep:=fun i h h' st k=>k it (by simp) _ st
 item:=by
  intro X hP hw hK hc i pins s σ H E I hf st hg
  subst hP hw hK
  obtain ⟨f0,f1,f2,f3,f4,f5⟩:=hf it (by simp)
  have W:=Walks.range (prog:=X.prog) (w:=X.w) (I.ok.hd hc) it lo c n
  refine W.item i s _ _ hg st fun v h' tk hv st' kk=>?_
  obtain ⟨t,rfl⟩:=hv
  have I1:Inv X pins σ H { s with heap:=h',toks:=tk }:=I.turned (fun b o hb e=>kk b o (by simpa using hb) e) f0 f1 f3 f4 f5
  exact ⟨_,rfl,HM (s:={ s with heap:=h',toks:=tk }) (n := "range_iterator") st' rfl rfl (by decide) ⟨.int (lo + i * c),H,I1,⟨t,rfl⟩,⟨rfl,rfl⟩,st',fun b hb=>(hf b hb).1⟩⟩
 done:=by
  intro X hP hw hK hc i pins s σ H E I hf st hg
  subst hP hw hK
  obtain ⟨f0,f1,f2,f3,f4,f5⟩:=hf it (by simp)
  exact wpAny_pyNext_range_end (I.ok.hd hc) st (by have:n<=i:=hg; omega) fun h' eb=>⟨rfl,I.turned (t':=s.toks) (fun b o hb e=>eb b o hb e) f0 f1 f3 f4 f5⟩
 self:=fun _ _ _ _ _ st h=>wpAny_pyIter_rangeiter st h
theorem Ka {a b c:Int} (hc:c ≠ 0):0<=Builtin.Range.rangeSize a b c:=by
 unfold Builtin.Range.rangeSize
 split
 ·split
  ·have:=acE (a:=b - a - 1) (b:=c) (by omega) (by omega); exact ab2 this (by decide)
  ·exact by decide
 ·split
  ·have:=acE (a:=a - b - 1) (b:=-c) (by omega) (by omega); exact ab2 this (by decide)
  ·exact by decide
theorem Hk {a b c:Int} (ha:-(2 ^ 62)<=a) (ha':a < 2 ^ 62) (hb:-(2 ^ 62)<=b) (hb':b < 2 ^ 62) (hc:-(2 ^ 62)<=c) (hc':c < 2 ^ 62) (h0:c ≠ 0) (hn:(Builtin.Range.rangeSize a b c).toNat<=2 ^ 24):Builtin.Range.small a b c=true:=by
 have:=Ka (a:=a) (b:=b) h0
 unfold Builtin.Range.small
 generalize Builtin.Range.rangeSize a b c=n at *
 simp only [Builtin.Range.rangeFitsLong,aaf,Bool.or_eq_true,decide_eq_true_eq,beq_iff_eq]
 refine ⟨⟨⟨⟨⟨by omega,by omega⟩,⟨by omega,by omega⟩⟩,⟨by omega,by omega⟩⟩,⟨by exact Int.le_trans (by decide) this,by omega⟩⟩,.inr ?_⟩
 split
 ·simp only [aaf,decide_eq_true_eq]; omega
 ·simp only [aaf,decide_eq_true_eq]; omega
section
variable {X:Cx} {tg:Expr}
noncomputable def VD (ta:TA):TI:=fun σ H R=>ta σ H fun vs H1=>∃ i j c:Int,vs=[.int i,.int j,.int c]/\(-(2 ^ 62)<=i/\i < 2 ^ 62/\-(2 ^ 62)<=j/\j < 2 ^ 62/\-(2 ^ 62)<=c/\c < 2 ^ 62)/\c ≠ 0/\(Builtin.Range.rangeSize i j c).toNat<=2 ^ 24/\R (PF i c (Builtin.Range.rangeSize i j c).toNat) H1
theorem N3 {a b d:Expr} {ta:TA} {p pos:Pos} (hg:Gl X "range") (hm:X.mg "range" = none) (ha:PA X [a,b,d] ta) (hs:starEach [a,b,d] X.env=[(false,eval a X.env),(false,eval b X.env),(false,eval d X.env)]) (hs2:starEach [b,d] X.env=[(false,eval b X.env),(false,eval d X.env)]) :
  PI X tg (.Call (.Name "range" p) [a,b,d] [] pos) (VD ta):=by
 intro pins s σ H R I h
 refine Call_ (Bq I hg hm boot_range (PyProof.Rows.callWith_type1 (thn (ha pos pins s σ H _ I h) fun us s1 ⟨vs,H1,I1,r1,q1⟩=>?_) (by rw [hs,hs2]) (by rw [hs2]; rfl)))
 obtain ⟨i,j,c,e,⟨q1,q2,q3,q4,q5,q6⟩,q0,qn,q⟩:=q1
 subst e
 cases r1 with
 | cons r rr =>
  cases rr with
  | cons r' rr =>
   cases rr with
   | cons r2 rr =>
    cases rr
    obtain ⟨t,rfl⟩:=r
    obtain ⟨t',rfl⟩:=r'
    obtain ⟨t2,rfl⟩:=r2
    refine call_range_3 q0 ?_ (.inl (PyProof.noPylong_of_log2 ?_))
    ·refine wpAny_pyIter_range (IsRange.new ..) (Hk q1 q2 q3 q4 q5 q6 q0 qn) ?_
     have I2:Inv X pins σ H1 { s1 with heap:=s1.heap.push { cls:=.type "range",data:=.fields #[.int i t,.int j t',.int c t2] },toks:=s1.toks }:=I1.kept fun b o e=>Heap.get?_push_of_some _ e
     refine ⟨(s1.heap.push { cls:=.type "range",data:=.fields #[.int i t,.int j t',.int c t2] }).objs.size,[(s1.heap.push { cls:=.type "range",data:=.fields #[.int i t,.int j t',.int c t2] }).objs.size],_,_,H1,rfl,I2.kept (t':=s1.toks) fun b o e=>Heap.get?_push_of_some _ e,Le _ i c (Builtin.Range.rangeSize i j c).toNat,?_,fun b hb=>?_,q⟩
     ·have e1:i + ((0:Nat):Int) * c=i:=by simp
      have e2:(((Builtin.Range.rangeSize i j c).toNat:Nat):Int) - ((0:Nat):Int)=Builtin.Range.rangeSize i j c:=by have:=Ka (a:=i) (b:=j) q0; exact acl this
      show IsRangeIter _ _ (i + ((0:Nat):Int) * c) ((((Builtin.Range.rangeSize i j c).toNat:Nat):Int) - ((0:Nat):Int)) c
      rw [e1,e2]
      exact Heap.get?_push_size _ rfl
     ·have e:b=(s1.heap.push { cls:=.type "range",data:=.fields #[.int i t,.int j t',.int c t2] }).objs.size:=by simpa using hb
      subst e
      exact I2.fpOk (aag _) (I2.hok.fresh (aag _))
    ·have:c.natAbs.log2 < 63:=(acH (by omega)).mpr (by omega)
     exact aao this (by decide)
end
theorem Kb:Manifest.owners.lookup (String.ofList ['r','o','t','a','r','e','t','i','e','s','r','e','v','e','r','_','t','s','i','l'].reverse)=some Manifest.sig_list_reverseiterator:=by kernel_rfl
theorem Fp:Slot "list_reverseiterator" "__next__" "list_reverseiterator.__next__" := Slot.of (owner := "list_reverseiterator") (n := "__next__") (by rw [typeLookup_type,builtinLookup_eq_fast]; kernel_rfl) (by decide +kernel) (by decide +kernel) (by decide +kernel) (by first | exact .inl (by decide +kernel) | exact .inr (by decide +kernel)) (by rw [isSubtype_type]; kernel_rfl)
theorem Ke:entryFor table "list_reverseiterator.__next__" = some Builtin.«list_reverseiterator.__next__»:=entryFor_of_tree (by kernel_rfl)
theorem LQ:Slot "list_reverseiterator" "__iter__" "list_reverseiterator.__iter__" := Slot.of (owner := "list_reverseiterator") (n := "__iter__") (by rw [typeLookup_type,builtinLookup_eq_fast]; kernel_rfl) (by decide +kernel) (by decide +kernel) (by decide +kernel) (by first | exact .inl (by decide +kernel) | exact .inr (by decide +kernel)) (by rw [isSubtype_type]; kernel_rfl)
theorem PH:entryFor table "list_reverseiterator.__iter__" = some Builtin.«dict_keyiterator.__iter__»:=entryFor_alias (id' := "dict_keyiterator.__iter__") (by kernel_rfl) (by first | rfl | decide +kernel | (unfold String.splitOn; simp +decide [String.splitOnAux])) (by decide +kernel) (by kernel_rfl)
theorem Kf:mroOf (.type "reversed")=pure [.type "reversed",.type "object"]:=by rw [mroOf_type]; kernel_rfl
theorem Ue:typeLookup (.type "reversed") "__new__" = pure (some (.builtin "reversed.__new__")):=by rw [typeLookup_type,builtinLookup_eq_fast]; kernel_rfl
theorem Rr:Slot "reversed" "__init__" "object.__init__" := Slot.of (owner := "object") (n := "__init__") (by rw [typeLookup_type,builtinLookup_eq_fast]; kernel_rfl) (by decide +kernel) (by decide +kernel) (by decide +kernel) (by first | exact .inl (by decide +kernel) | exact .inr (by decide +kernel)) (by rw [isSubtype_type]; kernel_rfl)
theorem D2:TypeCalled "reversed" "reversed.__new__" "object.__init__" := ⟨by decide +kernel,by decide +kernel,⟨_,_,Kf⟩,madeBy_type Kf Ue (by decide +kernel),by decide +kernel,by rw [isSubtype_type]; kernel_rfl,Rr⟩
theorem VE (a:Value):checkTypeCall "reversed" ⟨[a],[]⟩=pure ():=by kernel_rfl
theorem VF (a:Value):checkBuiltinCall "reversed.__new__" ⟨[.type "reversed",a],[]⟩=pure ():=by kernel_rfl
theorem Rt:entryFor table "reversed.__new__" = some Builtin.«reversed.__new__»:=entryFor_of_tree (by kernel_rfl)
theorem Uf:isSubtype (.type "reversed") (.type "reversed")=pure true:=by rw [isSubtype_type]; kernel_rfl
theorem Kg (a:Value):argsOk "list_reverseiterator.__next__" ⟨[a],[]⟩:=by unfold argsOk; rw [signature?_of (id := "list_reverseiterator.__next__") (n:=['_','_','t','x','e','n','_','_']) (o:=['r','o','t','a','r','e','t','i','e','s','r','e','v','e','r','_','t','s','i','l']) (by kernel_rfl) Kb]; kernel_rfl
theorem PJ (a:Value):argsOk "list_reverseiterator.__iter__" ⟨[a],[]⟩:=by unfold argsOk; rw [signature?_of (id := "list_reverseiterator.__iter__") (n:=['_','_','r','e','t','i','_','_']) (o:=['r','o','t','a','r','e','t','i','e','s','r','e','v','e','r','_','t','s','i','l']) (by kernel_rfl) Kb]; kernel_rfl
noncomputable def C9 (h:Heap) (it l:Addr) (k:Int):Prop:=∃ o,h.get? it=some o/\o.cls=.type "list_reverseiterator" /\ o.data=.fields #[.ref l,rawInt k]
section
variable {prog:Program} {w:World} {A:Around} {E:Value->Shared->Prop} {s:Shared}
theorem Kh {it l:Addr} {i:Nat} {items:Array Value} {x:Value} {Q:Option Value->Shared->Prop} (hit:C9 s.heap it l i) (hl:s.heap.IsList l items) (hx:items[i]?=some x)
  (hQ:∀ h',C9 h' it l ((i:Int) - 1)->Heap.SameBut it s.heap h'->Q (some x) { s with heap:=h' }):wpAny (model prog w) A (pyNext (.ref it)) Q E s:=by
 obtain ⟨o,ho,hc,hd⟩:=id hit; obtain ⟨ol,hol,_,nl,hdl⟩:=hl; have hT:s.TypeIs (.ref it) "list_reverseiterator" := ⟨o,ho,hc⟩
 unfold pyNext; refine wpAny_bind (wpAny_attempt (wpAny_callSpecial?_slot (name:=Str.ofString "__next__") hT Fp (wpAny_call_entry Fp hT Ke ?_ (Kg _)))); show wpAny _ _ (field (.ref it) 1 >>= _) _ _ s
 refine wpAny_bind (wpAny_field ho hd (x:=rawInt i) rfl ?_); show wpAny _ _ (if (i:Int) < 0 then _ else _) _ _ s; rw [if_neg (by omega)]
 show wpAny _ _ (field (.ref it) 0 >>= _) _ _ s; refine wpAny_bind (wpAny_field ho hd (x:=.ref l) rfl ?_); show wpAny _ _ (seqItems? (.ref l) >>= _) _ _ s
 refine wpAny_bind (wpAny_seqItems hol hdl ?_); simp only [aa3,hx]; refine wpAny_bind (wpAny_setField ho hd (by simp) (wpAny_pure ⟨x,rfl,wpAny_pure (hQ _ ?_ (Heap.SameBut.update ..))⟩))
 exact ⟨_,Heap.get?_update_self _ ho (Obj.isFreed_of_fields (Obj.data_mapFields hd _)),(Obj.cls_mapFields ..).trans hc,by rw [Obj.data_mapFields hd]; simp [rawInt]⟩
theorem LR {it l:Addr} {k:Int} {Q:Option Value->Shared->Prop} (hh:A.handled=none) (hk:k < 0) (hit:C9 s.heap it l k) (hQ:∀ h',Heap.ExtBut it s.heap h'->Q none { s with heap:=h' }):wpAny (model prog w) A (pyNext (.ref it)) Q E s:=by
 obtain ⟨o,ho,hc,hd⟩:=id hit; have hT:s.TypeIs (.ref it) "list_reverseiterator" := ⟨o,ho,hc⟩; unfold pyNext
 refine wpAny_bind (wpAny_attempt (wpAny_callSpecial?_slot (name:=Str.ofString "__next__") hT Fp (wpAny_call_entry Fp hT Ke ?_ (Kg _)))); show wpAny _ _ (field (.ref it) 1 >>= _) _ _ s; refine wpAny_bind (wpAny_field ho hd (x:=rawInt k) rfl ?_)
 show wpAny _ _ (if k < 0 then _ else _) _ _ s; rw [if_pos hk]; refine wpAny_bind (wpAny_rule ?_)
 refine wpAny_bind ?_; unfold Builtin.SmallTypes.stopIteration; show wpAny _ _ (newExc (.type "StopIteration") [] >>= _) _ _ _
 refine wpAny_bind ?_; simp only [newExc,newTuple]; refine wpAny_bind (wpAny_newObj_type ?_ (by size_fits))
 refine wpAny_bind (m:=firstArgMember _ _) (wpAny_of_eq (a:=Value.none) (by first | rfl | (simp only [firstArgMember]; rfl)) ?_); refine wpAny_newObj_type ?_ (by size_fits); simp only [raiseNew]
 refine wpAny_bind (wpAny_handled ?_); rw [show A.in1.handled=none from hh]; refine wpAny_bind (wpAny_pure (wpAny_throw ?_))
 refine wpAny_bind (wpAny_isInstance (T := "StopIteration") (b:=true) ⟨_,Heap.get?_push_size _ rfl,rfl⟩ isSubtype_stop ?_); exact wpAny_pure (hQ _ fun c o' hc' e=>Heap.get?_push_of_some _ (Heap.get?_push_of_some _ e))
theorem Ht {it l:Addr} {k:Int} {Q:Value->Shared->Prop} (hit:C9 s.heap it l k) (h:Q (.ref it) s):wpAny (model prog w) A (pyIter (.ref it)) Q E s:=by
 obtain ⟨o,ho,hc,hd⟩:=hit
 have hT:s.TypeIs (.ref it) "list_reverseiterator" := ⟨o,ho,hc⟩
 refine wpAny_pyIter_slot hT LQ (wpAny_call_entry LQ hT PH ?_ (PJ _))
 show wpAny _ _ (ret (.ref it)) _ _ s
 exact wpAny_pure ⟨_,rfl, "list_reverseiterator",_,hT,Fp.lookup,h⟩
end
theorem MN (l:Addr) (items:Array Value) (n:Nat) (dd:Option Addr) (sl:Array (Option Value)):Meets (Builtin.«list.__reversed__» ⟨[.ref l],[]⟩) (fun _ R s=>s.heap.get? l=some { cls:=.type "list",dict:=dd,data:=.seq items n,slots:=sl }/\R (.ok (.ret (.ref s.heap.objs.size))) { s with heap:=s.heap.push { cls:=.type "list_reverseiterator",data:=.fields #[.ref l,rawInt (((items.size:Nat):Int) - 1)] } }) :=
 .of_wp fun prog w A R s h=>by
  obtain ⟨hp,g,d,tk,os⟩:=s; obtain ⟨hl,h⟩:=h; wp_walk; exact ⟨_,rfl,h⟩
theorem N4 (l:Addr) (items:Array Value) (n:Nat) (dd:Option Addr) (sl:Array (Option Value)):Meets (Builtin.«reversed.__new__» ⟨[.type "reversed",.ref l],[]⟩) (fun _ R s=>s.heap.get? l=some { cls:=.type "list",dict:=dd,data:=.seq items n,slots:=sl }/\R (.ok (.ret (.ref s.heap.objs.size))) { s with heap:=s.heap.push { cls:=.type "list_reverseiterator",data:=.fields #[.ref l,rawInt (((items.size:Nat):Int) - 1)] } }) :=
 .of_wp fun prog w A R s h=>by
  obtain ⟨hp,g,d,tk,os⟩:=s; obtain ⟨hl,h⟩:=h; have hsub:=Uf
  wp_walk
  have hlk:typeLookup (.type "list") (Str.ofString "__reversed__")=pure (some (.builtin "list.__reversed__")):=PySem.F.slot_list_reversed.lookup
  show wpAny (model prog w) A.in1 (typeLookup (.type "list") (Str.ofString "__reversed__")) _ _ _
  rw [hlk]
  refine wpAny_pure ?_
  wp_walk
  rw [PySem.F.slot_list_reversed.bind]
  refine wpAny_pure ?_
  show wpAny (model prog w) A.in1 (do rule "reversed.__new__.own-method"; let v <- runValue (Code.call (.builtin "list.__reversed__") { pos:=[.ref l] }); ret v) _ _ _
  refine wpAny_bind (wpAny_rule ?_)
  refine wpAny_bind ?_
  show wpAny (model prog w) A.in1 (call (.builtin "list.__reversed__") [.ref l]) _ _ _
  refine call_meets PySem.F.slot_list_reversed ⟨_,hl,rfl⟩ PySem.F.entry_list_reversed (PySem.F.args_list_reversed_1 _) (MN l items n dd sl) ⟨hl,?_⟩
  exact wpAny_pure ⟨_,rfl,h⟩
theorem Ru:isSubtype (.type "list_reverseiterator") (.type "reversed")=pure false:=by rw [isSubtype_type]; kernel_rfl
section
variable {prog:Program} {w:World} {A:Around} {E:Value->Shared->Prop} {s:Shared}
theorem Ki {l:Addr} {items:Array Value} {n:Nat} {dd:Option Addr} {sl:Array (Option Value)} {Q:Value->Shared->Prop} (hl:s.heap.get? l=some { cls:=.type "list",dict:=dd,data:=.seq items n,slots:=sl })
  (h:Q (.ref s.heap.objs.size) { s with heap:=s.heap.push { cls:=.type "list_reverseiterator",data:=.fields #[.ref l,rawInt (((items.size:Nat):Int) - 1)] } }) :
  wpAny (model prog w) A (call (.type "reversed") [.ref l]) Q E s:=by
 have hmro:=Kf
 have hmade:=D2.made; have hsub:=D2.sub; have h1:=D2.notType; have h2:=D2.canCreate; have hct:=VE (.ref l)
 refine wpAny_call (codeAny_of_tree ?_); show wpAny _ _ (callAny (.type "reversed") _) _ _ _
 refine wpAny_pure ⟨Code.quiet_builtin _ (by decide +kernel),codeAny_builtin PySem.F.entry_type_call ?_⟩; rw [Around.under_plain (weight_type_call_type "reversed" [.ref l] []) (units_type_call_type "reversed" [.ref l] [])]
 (repeat (any_goals (first | assumption | wp_step)))
 refine codeAny_mono (codeAny_call_builtin D2.plain Rt (wpAny_of_eq (VF _) (N4 l items n dd sl prog w A.in1 (wants (fun obj s₁=>s₁.TypeIs obj "list_reverseiterator" /\ Q obj s₁) E) s ⟨hl,⟨⟨_,Heap.get?_push_size _ rfl,rfl⟩,h⟩⟩))) fun r s₁ hr=>?_
 cases r with
 | error e=>exact hr
 | ok fl =>
  cases fl with
  | ret obj =>
   obtain ⟨hT,hq⟩:s₁.TypeIs obj "list_reverseiterator" /\ Q obj s₁:=hr
   have hns:=Ru; (repeat (any_goals (first | assumption | wp_step)))
  | _=>exact hr.elim
end
end L2
namespace L2
open PySem PySem.Spec PyProof.Rows PySem.W
noncomputable def Itb (K:PySem.W.Frag) (a:Addr) (n:Nat):It :=
 ⟨fun i H=>∃ xs x,SqL K H a xs/\i < n/\xs[n - 1 - i]?=some x,fun i H x H'=>H'=H/\∀ xs,SqL K H a xs->xs[n - 1 - i]?=some x,fun i _=>n<=i⟩
theorem PK {P:Program} {w:World} {K:PySem.W.Frag} {tg:Expr} (a it:Addr) (n:Nat):Turn P w K tg (Itb K a n) [it] it (fun i h=>C9 h it a ((n:Int) - 1 - i)) where
 mem:=by simp
 obj:=fun i h st b hb=>by
  have e:b=it:=by simpa using hb
  subst e; obtain ⟨o,e,c,d⟩:=st; exact ⟨o,e,fun v z=>by rw [d] at z; cases z⟩
 keep:=fun i h h' st k=>by obtain ⟨o,e,c,d⟩:=st; exact ⟨o,k it (by simp) o e,c,d⟩
 item:=by
  intro X hP hw hK hc i pins s σ H E I hf st hg; subst hP hw hK
  obtain ⟨xs,x,hq,hi,hx⟩:=hg
  obtain ⟨its,rv,p,hz⟩:=I.list hq; obtain ⟨u,hu,ru⟩:=rv.get hx; obtain ⟨f0,f1,f2,f3,f4,f5⟩:=hf it (by simp)
  have st1:C9 s.heap it a ((n - 1 - i:Nat):Int):=by rw [show ((n - 1 - i:Nat):Int)=(n:Int) - 1 - i by omega]; exact st
  refine Kh st1 p.isList (x:=u) (by simpa using hu) fun h' st' sb=>?_
  have I1:Inv X pins σ H { s with heap:=h' }:=I.turned (t':=s.toks) (fun b o hb e=>(sb.2 b hb).trans e) f0 f1 f3 f4 f5
  obtain ⟨o,e,c,d⟩:=id st'
  refine ⟨u,rfl,HM (s:={ s with heap:=h' }) e c d (by decide) ⟨x,H,I1,ru,⟨rfl,fun ys hy=>by rw [I.list_inj hy hq]; exact hx⟩,?_,fun b hb=>(hf b hb).1⟩⟩
  show C9 h' it a ((n:Int) - 1 - ((i + 1:Nat):Int))
  rw [show (n:Int) - 1 - ((i + 1:Nat):Int)=((n - 1 - i:Nat):Int) - 1 by omega]; exact st'
 done:=by
  intro X hP hw hK hc i pins s σ H E I hf st hg; subst hP hw hK
  have hg:n<=i:=hg
  obtain ⟨f0,f1,f2,f3,f4,f5⟩:=hf it (by simp)
  exact LR (I.ok.hd hc) (show (n:Int) - 1 - i < 0 by omega) st fun h' eb=>⟨rfl,I.turned (t':=s.toks) (fun b o hb e=>eb b o hb e) f0 f1 f3 f4 f5⟩
 self:=fun _ _ _ _ _ st h=>Ht st h
section
variable {X:Cx} {tg:Expr}
noncomputable def Wh (K:PySem.W.Frag) (ta:TA):TI:=fun σ H R=>ta σ H fun vs H1=>∃ a xs,vs=[.ref a]/\SqL K H1 a xs/\(xs.length<=sizeLine->R (Itb K a xs.length) H1)
theorem Ug {e:Expr} {ta:TA} {p pos:Pos} (hg:Gl X "reversed") (hm:X.mg "reversed" = none) (ha:PA X [e] ta) (hs:starEach [e] X.env=[(false,eval e X.env)]):PI X tg (.Call (.Name "reversed" p) [e] [] pos) (Wh X.K ta):=by
 intro pins s σ H R I h
 refine Call_ (Bq I hg hm (show bootBuiltins "reversed" = some (.type "reversed") by decide +kernel) (PyProof.Rows.callWith_type1 (thn (ha pos pins s σ H _ I h) fun us s1 ⟨vs,H1,I1,r1,q1⟩=>?_) hs rfl))
 obtain ⟨a,xs,e,hq,q⟩:=q1
 subst e
 cases r1 with
 | cons r rr =>
  cases rr
  cases r
  obtain ⟨its,rv,pp,hz⟩:=I1.list hq
  have hl:=rv.length
  obtain ⟨⟨c,dd,da,sl⟩,ho,hc,n,hd⟩:=pp.isList
  subst hc hd
  refine Ki ho ?_
  have st:C9 (s1.heap.push { cls:=.type "list_reverseiterator",data:=.fields #[.ref a,rawInt (((its.toArray.size:Nat):Int) - 1)] }) s1.heap.objs.size a ((xs.length:Int) - 1 - (0:Nat)):=⟨_,Heap.get?_push_size _ rfl,rfl,by rw [aaq]; simp [hl]⟩
  refine Ht st ?_
  refine ⟨s1.heap.objs.size,[s1.heap.objs.size],_,_,H1,rfl,I1.kept (t':=s1.toks) fun b o e=>Heap.get?_push_of_some _ e,PK a _ xs.length,st,fun b hb=>?_,q hz⟩
  have e:b=s1.heap.objs.size:=by simpa using hb
  subst e; exact I1.fpOk (aag _) (I1.hok.fresh (aag _))
end
end L2
end
section
namespace L2
open PySem PySem.Spec PyProof.Rows PySem.W
theorem LT (a c:Int):∀ {acc:List Value} {k n:Nat},acc.length=n->(∀ j v,acc[j]?=some v->∃ t,v=Value.int (a + ((k + j:Nat):Int) * c) t)->Vals ((aav n).map fun i=>V.int (a + ((k + i:Nat):Int) * c)) acc
 | [],k,n,hl,_=>by subst hl; exact .nil
 | u :: r,k,n,hl,h=>by
  subst hl
  obtain ⟨t,rfl⟩:=h 0 u rfl
  rw [aaP,abM,aay,aaE]
  refine .cons ⟨t,rfl⟩ ?_
  have e0:∀ i:Nat,k + 1 + i=k + (i + 1):=fun i=>by omega
  have:=LT a c (acc:=r) (k:=k + 1) rfl fun j v e=>by
   obtain ⟨t,e⟩:=h (j + 1) v (by simpa using e)
   exact ⟨t,by rw [e,e0]⟩
  rw [aaT (g:=fun i=>V.int (a + ((k + 1 + i:Nat):Int) * c)) (fun i _=>by show V.int (a + ((k + (i + 1):Nat):Int) * c)=V.int (a + ((k + 1 + i:Nat):Int) * c); rw [e0])]
  exact this
section
variable {X:Cx}
noncomputable def Wi (ta:TA):TE:=fun σ H Q=>ta σ H fun vs H1=>∃ i j c:Int,vs=[.int i,.int j,.int c]/\(-(2 ^ 62)<=i/\i < 2 ^ 62/\-(2 ^ 62)<=j/\j < 2 ^ 62/\-(2 ^ 62)<=c/\c < 2 ^ 62)/\c ≠ 0/\(Builtin.Range.rangeSize i j c).toNat<=2 ^ 24/\∀ l,H1 l=none->Q (.ref l) (upd H1 l (.lst ((aav (Builtin.Range.rangeSize i j c).toNat).map fun k=>.int (i + (k:Nat) * c))))
theorem N5 {a b d:Expr} {ta:TA} {p1 p2 pos pos2:Pos} (hc:X.calm=true) (hgl:Gl X "list") (hml:X.mg "list" = none) (hg:Gl X "range") (hm:X.mg "range" = none) (ha:PA X [a,b,d] ta) (hs:starEach [a,b,d] X.env=[(false,eval a X.env),(false,eval b X.env),(false,eval d X.env)]) (hs2:starEach [b,d] X.env=[(false,eval b X.env),(false,eval d X.env)]):PE X (.Call (.Name "list" p1) [.Call (.Name "range" p2) [a,b,d] [] pos2] [] pos) (Wi ta):=by
 intro pins s σ H Q I h
 refine wpAny_Call_Name_kw (Bq I hgl hml (show bootBuiltins "list" = some (.type "list") by decide +kernel) ?_)
 refine PyProof.Rows.callWith_type1 (rest:=[]) ?_ rfl rfl
 show wpAny _ _ (spliced ((false,eval (.Call (.Name "range" p2) [a,b,d] [] pos2) X.env) :: backTo pos (starEach [] X.env))) _ _ s
 refine Calls.spliced_cons ?_
 refine Call_ (Bq I hg hm boot_range (PyProof.Rows.callWith_type1 (thn (ha pos2 pins s σ H _ I h) fun us s1 ⟨vs,H1,I1,r1,q1⟩=>?_) (by rw [hs,hs2]) (by rw [hs2]; rfl)))
 obtain ⟨i,j,c,e,⟨q1,q2,q3,q4,q5,q6⟩,q0,qn,q⟩:=q1
 subst e
 cases r1 with
 | cons r rr =>
  cases rr with
  | cons r' rr =>
   cases rr with
   | cons r2 rr =>
    cases rr
    obtain ⟨t,rfl⟩:=r
    obtain ⟨t',rfl⟩:=r'
    obtain ⟨t2,rfl⟩:=r2
    refine call_range_3 q0 ?_ (.inl (PyProof.noPylong_of_log2 ?_))
    ·refine Calls.spliced_nil ?_
     have hn:Builtin.Range.rangeSize i j c=(((Builtin.Range.rangeSize i j c).toNat:Nat):Int):=by have:=Ka (a:=i) (b:=j) q0; omega
     refine call_list_range (I1.ok.hd hc) (IsRange.new ..) (Hk q1 q2 q3 q4 q5 q6 q0 qn) hn qn fun h' tk acc c' hk hS hacc=>?_
     obtain ⟨z1,z2⟩:=hacc
     have I2:Inv X pins σ H1 { s1 with heap:=s1.heap.push { cls:=.type "range",data:=.fields #[.int i t,.int j t',.int c t2] },toks:=s1.toks }:=I1.kept fun b o e=>Heap.get?_push_of_some _ e
     have hf:=I2.hok.fresh (aag _)
     refine ⟨.ref _,upd H1 _ (.lst ((aav (Builtin.Range.rangeSize i j c).toNat).map fun k=>.int (i + (k:Nat) * c))),I2.laid (t':=tk) hk (aag _) ?_,rfl,q _ hf⟩
     refine ⟨by rw [aab,aaY]; exact qn,acc.toList,c',?_,hS⟩
     have:=LT i c (acc:=acc.toList) (k:=0) (n:=(Builtin.Range.rangeSize i j c).toNat) (by simpa using z1) fun k v e=>by
      obtain ⟨t,e⟩:=z2 k v (by simpa using e)
      exact ⟨t,by rw [e,aaJ]⟩
     simpa using this
    ·have:c.natAbs.log2 < 63:=(acH (by omega)).mpr (by omega)
     omega
end
end L2
end
section
namespace L2
open PySem PySem.Spec PyProof PyProof.Rows PySem.W
section
variable {prog:Program} {w:World} {A:Around} {E:Value->Shared->Prop}
theorem N6 {it l:Addr} {items:Array Value} (hne:l ≠ it):∀ (n i:Nat) (s:Shared) (Q:List Value->Shared->Prop),s.heap.IsListIter it l i->s.heap.IsList l items->i + n<=items.size->(∀ h',h'.IsListIter it l (i + n)->Heap.SameBut it s.heap h'->Q ((items.toList.drop i).take n) { s with heap:=h' })->wpAny (model prog w) A (draw (.ref it) n) Q E s
 | 0,i,s,Q,hit,_,_,hQ=>wpAny_pure (by simpa using hQ s.heap hit (Heap.SameBut.refl ..))
 | n + 1,i,s,Q,hit,hl,hle,hQ=>by
  have hz:i < items.size:=by omega
  show wpAny _ _ (pyNext (.ref it) >>= _) Q E s; refine wpAny_bind (wpAny_pyNext_list_item hit hl (x:=items[i]) (by simp [hz]) fun h1 hit1 hs1=>?_)
  have hl1:h1.IsList l items:=by
   obtain ⟨o,e,c⟩:=hl
   exact ⟨o,(hs1.2 l hne).trans e,c⟩
  refine wpAny_bind (wpAny_holding (N6 hne n (i + 1) _ _ hit1 hl1 (by omega) fun h2 hit2 hs2=>wpAny_pure ?_))
  have hd:items.toList.drop i=items[i] :: items.toList.drop (i + 1):=by simp [abE,hz]
  have:=hQ h2 (by rw [show i + (n + 1)=i + 1 + n by omega]; exact hit2) ⟨hs2.1.trans hs1.1,fun b hb=>(hs2.2 b hb).trans (hs1.2 b hb)⟩
  rw [hd,List.take_succ_cons] at this; exact this
theorem Rv {s:Shared} {l:Addr} {items:Array Value} {Q:List Value->Shared->Prop} (hh:A.handled=none) (hl:s.heap.IsList l items) (hQ:∀ h',Heap.ExtBut s.heap.objs.size s.heap h'->Q items.toList { s with heap:=h' }):wpAny (model prog w) A (unpackItems (.ref l) items.size none) Q E s:=by
 have hlt:l ≠ s.heap.objs.size:=by obtain ⟨o,ho,_⟩:=hl; exact aaF (Heap.lt_size ho)
 unfold unpackItems notIterableAtAll
 refine wpAny_bind (wpAny_bind (wpAny_specialOf hl.typeIs slot_list_iter.lookup (wpAny_pure ?_)))
 simp only [aa6,if_false]; refine wpAny_bind (wpAny_holding (wpAny_pyIter_list hl ?_))
 have hl0:(s.heap.push { cls:=.type "list_iterator",data:=.fields #[.ref l,.int 0 0] }).IsList l items:=by
  obtain ⟨o,e,c⟩:=hl
  exact ⟨o,Heap.get?_push_of_some _ e,c⟩
 refine wpAny_bind (wpAny_holding (N6 hlt items.size 0 _ _ ⟨_,Heap.get?_push_size _ rfl,rfl,rfl⟩ hl0 (by omega) fun h1 hit1 hs1=>?_))
 have hall:List.take items.size (List.drop 0 items.toList)=items.toList:=by
  rw [List.drop_zero]; exact List.take_of_length_le (by simp)
 rw [hall,if_neg (by simp)]
 have hl1:h1.IsList l items:=by
  obtain ⟨o,e,c⟩:=hl0
  exact ⟨o,(hs1.2 l hlt).trans e,c⟩
 refine wpAny_bind (wpAny_holding (wpAny_pyNext_list_end hh hit1 hl1 (by simp) fun h2 he2=>?_))
 simp only [Option.isSome_none,aa6,if_false]
 exact wpAny_pure (hQ h2 fun b o hb e=>he2 b o hb ((hs1.2 b hb).trans (Heap.get?_push_of_some _ e)))
end
section
variable {X:Cx} {pos:Pos}
noncomputable def Uh (K:PySem.W.Frag) (n:Nat) (t:TGs):TG:=fun v σ H Q=>∃ a xs,v=.ref a/\SqL K H a xs/\xs.length=n/\t xs σ H Q
theorem Ui {es:List Expr} {k:Nat} {t:TGs} {n:Nat} (hc:X.calm=true) (h:PGs X es t) (hn:(assignEach es X.env).length=n) (hst:(assignEach es X.env).findIdx? (·.1)=none):PG X (.Tuple es k pos) (Uh X.K n t):=by
 intro pins s σ H v u Q I r hw
 obtain ⟨a,xs,rfl,hq,hl,hw⟩:=hw
 cases r
 obtain ⟨its,rv,pl,hz⟩:=I.list hq
 rw [assign_Tuple]
 refine wpAny_bind (wpAny_standAt ?_)
 unfold unpack
 rw [hst,hn,<- hl,rv.length,show its.length=its.toArray.size by simp]
 refine wpAny_bind (wpAny_holding (Rv (I.ok.hd hc) pl.isList fun h' hx=>?_))
 have I1:Inv X pins σ H { s with heap:=h' }:=I.kept (t':=s.toks) fun b o e=>hx b o (aaF (Heap.lt_size e)) e
 exact h pins _ σ H xs _ Q I1 (by simpa using rv) hw
end
end L2
end
section
namespace L2
open PySem PySem.Spec PyProof.Rows PySem.W
theorem PL:typeLookup (.type "list_reverseiterator") "__len__" = pure none:=by rw [typeLookup_type,builtinLookup_eq_fast]; kernel_rfl
theorem Rw:typeLookup (.type "list_reverseiterator") "__length_hint__" = pure (some (.builtin "list_reverseiterator.__length_hint__")):=by rw [typeLookup_type,builtinLookup_eq_fast]; kernel_rfl
section
variable {prog:Program} {w:World} {A:Around} {E:Value->Shared->Prop} {s:Shared}
theorem N7 (hh:A.handled=none) (it l:Addr) (its:Array Value) (n:Nat) (hn:its.size=n):Walks prog w A it [it,l] [it] n (fun i v=>its[n - 1 - i]?=some v) (fun i h=>C9 h it l ((n:Int) - 1 - (i:Nat))/\h.IsList l its/\it ≠ l) where
 sub:=fun b hb=>by rw [aaN.mp hb]; exact aac
 frame:=fun i h h' st k=>by
  obtain ⟨⟨o,e,c,d⟩,⟨ol,f,g⟩,ne⟩:=st
  exact ⟨⟨o,k it (by simp) o e,c,d⟩,⟨ol,k l (by simp) ol f,g⟩,ne⟩
 item:=fun i s Q E hi st hQ=>by
  obtain ⟨st,hl,ne⟩:=st
  have hx:its[n - 1 - i]?=some (its[n - 1 - i]'(by omega)):=Array.getElem?_eq_getElem (by omega)
  have st1:C9 s.heap it l ((n - 1 - i:Nat):Int):=by rw [show ((n - 1 - i:Nat):Int)=(n:Int) - 1 - i by omega]; exact st
  refine Kh st1 hl hx fun h' st' sb=>?_
  refine hQ _ h' s.toks hx ⟨?_,?_,ne⟩ fun b o hb e=>(sb.2 b (fun h=>hb (aaN.mpr h))).trans e
  ·rw [show (n:Int) - 1 - ((i + 1:Nat):Int)=((n - 1 - i:Nat):Int) - 1 by omega]; exact st'
  ·obtain ⟨ol,f,g⟩:=hl; exact ⟨ol,(sb.2 l (Ne.symm ne)).trans f,g⟩
 done:=fun s Q E st hQ=>LR hh (show (n:Int) - 1 - (n:Nat) < 0 by omega) st.1 fun h' eb=>hQ h' s.toks fun b o hb e=>eb b o (fun h=>hb (aaN.mpr h)) e
 self:=fun _ _ _ _ st h=>Ht st.1 h
theorem MO {R:Result->Shared->Prop} {it l S:Addr} {its:Array Value} {n c₀:Nat} (hh:A.handled=none) (hn:its.size=n) (hlen:n<=sizeLine) (res:Value)
  (st:C9 s.heap it l ((n:Int) - 1 - (0:Nat))/\s.heap.IsList l its/\it ≠ l) (hSi:S ≠ it) (hSl:S ≠ l) (hS:s.heap.get? S=some { cls:=.type "list",data:=.seq #[] c₀ })
  (hR:∀ h' tk acc' c',(∀ b o,b ≠ S->b ≠ it->s.heap.get? b=some o->h'.get? b=some o)->h'.get? S=some { cls:=.type "list",dict:=none,data:=.seq acc' c',slots:=#[] }->ItemsOf (fun i v=>its[n - 1 - i]?=some v) acc' n->R (.ok (.ret res)) { s with heap:=h',toks:=tk }) :
  wpAny (model prog w) A.in1 (Builtin.List.listExtendWith (.ref S) (.ref it) res)
   (fun fin s'=>match fin with | .done f=>R (.ok f) s' | .again c'=>c'.quiet=true/\codeAny (model prog w) A c' R s') (fun e s'=>R (.error e) s') s:=by
 have W:=(N7 (prog:=prog) (w:=w) (A:=A.in1) hh it l its n hn).toS
 have hT:s.TypeIs (.ref it) "list_reverseiterator" := let ⟨o,e,c,_⟩:=st.1; ⟨o,e,c⟩
 have hSf:S ∉ [it,l]:=fun hm=>by
  rcases aal.mp hm with h | h
  ·exact hSi h
  ·exact hSl (aaN.mp h)
 have h1:Builtin.List.listSameRef (.ref S) (.ref it)=false:=by simp [Builtin.List.listSameRef,hSi]
 unfold Builtin.List.listExtendWith
 refine wpAny_bind (wpAny_typeOf hT ?_)
 rw [if_neg (by rw [h1]; decide)]
 refine wpAny_bind (W.self 0 _ _ _ st ?_)
 refine wpAny_bind (wpAny_holding ?_)
 unfold Builtin.List.listLengthHint
 refine wpAny_bind (wpAny_specialOf hT PL ?_)
 show wpAny _ A.in1 (specialOf (Value.ref it) (Str.ofString "__length_hint__") >>= _) _ _ _
 refine wpAny_bind (wpAny_specialOf hT Rw ?_)
 (generalize hid:("list_reverseiterator.__length_hint__" : String)=id0; wp_delta; rw [show splitId id0=some ("list_reverseiterator", "__length_hint__") from by subst hid; decide +kernel]; subst hid)
 refine wpAny_bind (wpAny_isInstance (b:=true) hT (by rw [isSubtype_type]; kernel_rfl) ?_)
 refine wpAny_pure ?_
 rw [if_neg (by decide)]
 refine wpAny_pure ⟨plainId_quiet F.plain_extend_loop _,codeAny_extend_loopS W hlen _ hSf _ n 0 _ _ _ rfl (aar _) st hS (ItemsOf.nil _) fun s' acc' c' hm hS' hacc=>?_⟩
 rw [Moved.eq_with hm]
 refine hR s'.heap s'.toks acc' c' (fun b o hb hb' e=>hm.heap b o (fun hmem=>?_) e) hS' hacc
 rcases aal.mp hmem with e' | hmem
 ·exact hb e'
 ·exact hb' (aaN.mp hmem)
theorem JB {Q:Value->Shared->Prop} {it l:Addr} {its:Array Value} {n:Nat} (hh:A.handled=none) (hn:its.size=n) (hlen:n<=sizeLine)
  (st:C9 s.heap it l ((n:Int) - 1 - (0:Nat))/\s.heap.IsList l its/\it ≠ l)
  (hQ:∀ h' tk acc' c',(∀ b o,b ≠ it->s.heap.get? b=some o->h'.get? b=some o) ->
   h'.get? s.heap.objs.size=some { cls:=.type "list",dict:=none,data:=.seq acc' c',slots:=#[] }->ItemsOf (fun i v=>its[n - 1 - i]?=some v) acc' n->Q (.ref s.heap.objs.size) { s with heap:=h',toks:=tk }) :
  wpAny (model prog w) A (call (.type "list") [.ref it]) Q E s:=by
 have li:it < s.heap.objs.size:=let ⟨o,e,_⟩:=st.1; Heap.lt_size e
 have ll:l < s.heap.objs.size:=let ⟨o,e,_⟩:=st.2.1; Heap.lt_size e
 refine callType_codes (Q₁:=fun obj s₁=>obj=.ref s.heap.objs.size/\s₁={ s with heap:=s.heap.push { cls:=.type "list",data:=.seq #[] } }) F.called_list (F.typeCall_list_1 _) F.entry_list_init
  (code_list_new _ ⟨rfl,rfl⟩) fun obj s₁ h₁=>?_
 obtain ⟨rfl,rfl⟩:=h₁
 have hS:(s.heap.push { cls:=.type "list",data:=.seq #[] }).get? s.heap.objs.size=some { cls:=.type "list",data:=.seq #[] }:=Heap.get?_push_size _ rfl
 refine ⟨⟨_,hS,rfl⟩,F.args_list_init_2 _ _,?_⟩
 show wpAny _ _ (do let old <- Builtin.List.listItems (.ref s.heap.objs.size); Builtin.List.listUpdate (.ref s.heap.objs.size) (fun _=>#[]); letGo old.toList.reverse; Builtin.List.listExtendWith (.ref s.heap.objs.size) (.ref it) .none) _ _ _
 refine wpAny_bind ?_
 unfold Builtin.List.listItems
 refine wpAny_bind (wpAny_seqItems hS rfl (wpAny_pure ?_))
 show wpAny _ _ (updateSeq s.heap.objs.size (fun _=>#[]) >>= fun _=>letGo (#[]:Array Value).toList.reverse >>= fun _=>Builtin.List.listExtendWith (.ref s.heap.objs.size) (.ref it) .none) _ _ _
 refine wpAny_bind (wpAny_updateSeq hS rfl ?_)
 have hS₂:=Heap.get?_update_self (Obj.mapSeq (fun _=>(#[]:Array Value))) hS rfl
 have oth:∀ b o,s.heap.get? b=some o->((s.heap.push { cls:=.type "list",data:=.seq #[] }).update s.heap.objs.size (Obj.mapSeq (fun _=>(#[]:Array Value)))).get? b=some o :=
  fun b o e=>(Heap.get?_update_other _ _ (abz (Heap.lt_size e))).trans (Heap.get?_push_of_some _ e)
 refine wpAny_bind (wpAny_letGo ?_)
 refine MO (A:=A.in1) hh hn hlen .none ?_ (abz li) (abz ll) hS₂ fun h' tk acc' c' hk hS' hacc=>?_
 ·obtain ⟨⟨o,e,c,d⟩,⟨ol,f,g⟩,ne⟩:=st
  exact ⟨⟨o,oth _ _ e,c,d⟩,⟨ol,oth _ _ f,g⟩,ne⟩
 ·exact ⟨rfl,hQ h' tk acc' c' (fun b o hb e=>hk b o (aaF (Heap.lt_size e)) hb (oth b o e)) hS' hacc⟩
end
section
variable {X:Cx}
noncomputable def Wj (K:PySem.W.Frag) (ta:TA):TE:=fun σ H Q=>ta σ H fun vs H1=>∃ a xs,vs=[.ref a]/\SqL K H1 a xs/\∀ l,H1 l=none->Q (.ref l) (upd H1 l (.lst xs.reverse))
theorem N8 {a:Expr} {ta:TA} {p1 p2 pos pos2:Pos} (hc:X.calm=true) (hgl:Gl X "list") (hml:X.mg "list" = none) (hg:Gl X "reversed") (hm:X.mg "reversed" = none) (ha:PA X [a] ta) (hs:starEach [a] X.env=[(false,eval a X.env)]):PE X (.Call (.Name "list" p1) [.Call (.Name "reversed" p2) [a] [] pos2] [] pos) (Wj X.K ta):=by
 intro pins s σ H Q I h
 refine wpAny_Call_Name_kw (Bq I hgl hml (show bootBuiltins "list" = some (.type "list") by decide +kernel) ?_)
 refine PyProof.Rows.callWith_type1 (rest:=[]) ?_ rfl rfl
 show wpAny _ _ (spliced ((false,eval (.Call (.Name "reversed" p2) [a] [] pos2) X.env) :: backTo pos (starEach [] X.env))) _ _ s
 refine Calls.spliced_cons ?_
 refine Call_ (Bq I hg hm (show bootBuiltins "reversed" = some (.type "reversed") by decide +kernel) (PyProof.Rows.callWith_type1 (thn (ha pos2 pins s σ H _ I h) fun us s1 ⟨vs,H1,I1,r1,q1⟩=>?_) hs rfl))
 obtain ⟨a,xs,e,hq,q⟩:=q1
 subst e
 cases r1 with
 | cons r rr =>
  cases rr
  cases r
  obtain ⟨its,rv,pp,hz⟩:=I1.list hq
  have hl:=rv.length
  obtain ⟨⟨c,dd,da,sl⟩,ho,hc1,n,hd⟩:=pp.isList
  subst hc1 hd
  refine Ki ho ?_
  refine Calls.spliced_nil ?_
  have la:=Heap.lt_size ho
  have I2:Inv X pins σ H1 { s1 with heap:=s1.heap.push { cls:=.type "list_reverseiterator",data:=.fields #[.ref a,rawInt (((its.toArray.size:Nat):Int) - 1)] } }:=I1.kept (t':=s1.toks) fun b o e=>Heap.get?_push_of_some _ e
  refine JB (it:=s1.heap.objs.size) (l:=a) (its:=its.toArray) (n:=xs.length) (I1.ok.hd hc) (by rw [aaq,hl]) hz ⟨⟨_,Heap.get?_push_size _ rfl,rfl,by rw [aaq]; simp [hl]⟩,⟨_,Heap.get?_push_of_some _ ho,rfl,_,rfl⟩,abz la⟩ fun h' tk acc c' hk hS hacc=>?_
  obtain ⟨z1,z2⟩:=hacc
  have hp:s1.heap.objs.size<=(s1.heap.push { cls:=.type "list_reverseiterator",data:=.fields #[.ref a,rawInt (((its.toArray.size:Nat):Int) - 1)] }).objs.size:=by rw [Heap.size_push]; exact ab7 _
  have e:acc.toList=its.reverse:=by
   refine ab5 fun k=>?_
   by_cases hk:k < xs.length
   ·have h1:k < acc.size:=by rw [z1]; exact hk
    have h2:=z2 k (acc[k]) (by simp [h1])
    rw [acK (by omega)]
    simp only [List.getElem?_toArray] at h2
    rw [show its.length - 1 - k=xs.length - 1 - k by omega,h2]
    simp [h1]
   ·rw [abD (by simp; omega),abD (by simp; omega)]
  refine ⟨.ref _,upd H1 _ (.lst xs.reverse),I1.laid (t':=tk) (fun b o e=>hk b o (aaF (Heap.lt_size e)) (Heap.get?_push_of_some _ e)) hp ?_,rfl,q _ (I1.hok.fresh hp)⟩
  exact ⟨by rw [abW]; exact hz,acc.toList,c',by rw [e]; exact rv.reverse,hS⟩
end
end L2
end
section
namespace L2
open PySem PySem.Spec PyProof PyProof.Rows PySem.W
section
variable {prog:Program} {w:World} {A:Around} {E:Value->Shared->Prop} {s:Shared} {n:Nat}
theorem Rx {l sl b:Addr} {items ys:Array Value} {Q:Unit->Shared->Prop} (ho:s.heap.get? l=some { cls:=.type "list",data:=.seq items n }) (hs:s.heap.IsSliceOf sl .none .none .none) (hb:s.heap.IsList b ys) (hne:l ≠ b)
  (hz:items.size + ys.size<=sizeLine) (hQ:Q () { s with heap:=s.heap.update l (Obj.mapSeq fun xs=>xs.extract 0 0 ++ ys ++ xs.extract items.size xs.size) }):wpAny (model prog w) A (setItem (.ref l) (.ref sl) (.ref b)) Q E s:=by
 have hl:s.heap.IsList l items:=⟨_,ho,rfl,n,rfl⟩
 obtain ⟨os,hos,hcs,hds⟩:=id hs
 have hTs:s.TypeIs (.ref sl) "slice" := ⟨os,hos,hcs⟩
 obtain ⟨ob,hob,hcb,nb,hdb⟩:=id hb
 unfold setItem
 try with_reducible refine wpAny_holding ?_
 first | refine wpAny_bind (wpAny_pure ?_) | skip
 refine wpAny_bind (wpAny_sequenceKey hl.typeIs (by decide) ?_)
 refine wpAny_bind (wpAny_callSpecial?_slot (name:=Str.ofString "__setitem__") hl.typeIs slot_list_setitem
  (wpAny_call_entry slot_list_setitem hl.typeIs entry_list_setitem ?_ (args_list_setitem _ _ _)))
 show wpAny _ _ (Builtin.List.listSubscript? (.ref sl) >>= _) _ _ s
 refine wpAny_bind ?_
 unfold Builtin.List.listSubscript?
 refine wpAny_bind (wpAny_specialOf hTs slice_no_index ?_)
 simp only [Option.isNone_none,if_true]
 refine wpAny_pure ?_
 show wpAny _ _ (typeOf (.ref sl) >>= _) _ _ s
 refine wpAny_bind (wpAny_typeOf hTs ?_)
 rw [if_neg (by decide)]
 rw [listSliceParts_eq]
 refine wpAny_bind (wpAny_bind (wpAny_field hos hds (x:=.none) rfl (wpAny_bind (wpAny_listPart .none ?_))))
 rw [if_neg (show ¬ ((rawPart none==rawInt 0)=true) from aa0)]
 refine wpAny_bind (wpAny_field hos hds (x:=.none) rfl (wpAny_bind (wpAny_listPart .none ?_)))
 refine wpAny_bind (wpAny_field hos hds (x:=.none) rfl (wpAny_bind (wpAny_listPart .none (wpAny_pure ?_))))
 have hsr:Builtin.List.listSameRef (.ref l) (.ref b)=false:=by
  show (l==b)=false
  exact beq_eq_false_iff_ne.mpr hne
 rw [hsr,if_neg (by decide)]
 refine wpAny_bind ?_
 unfold Builtin.List.listAllItems
 refine wpAny_bind (wpAny_typeOf hb.typeIs ?_)
 rw [if_pos (by decide)]
 unfold Builtin.List.listItems
 refine wpAny_bind (wpAny_seqItems hob hdb (wpAny_pure ?_))
 refine wpAny_bind (m:=Builtin.List.listItems (.ref l)) ?_
 unfold Builtin.List.listItems
 refine wpAny_bind (wpAny_seqItems ho rfl (wpAny_pure ?_))
 refine wpAny_bind (wpAny_of_eq (sliceIndices_raw none none none items.size (by simp)) ?_)
 have e1:(sliceBounds none none none items.size).1=0:=rfl
 have e2:(sliceBounds none none none items.size).2.1=(items.size:Int):=rfl
 have e3:(sliceBounds none none none items.size).2.2=1:=rfl
 rw [e1,e2,e3]
 rw [if_pos (by decide)]
 refine wpAny_bind (wpAny_rule ?_)
 have hlong:Builtin.List.listTooLong (items.size + ys.size)=false:=decide_eq_false (by omega)
 rw [hlong,if_neg (by decide)]
 have em:(max (0:Int) (items.size:Int)).toNat=items.size:=by omega
 rw [em]
 show wpAny _ _ (updateSeq l _ >>= _) _ _ s
 refine wpAny_bind (wpAny_updateSeq ho rfl ?_ (by omega) (by simp; omega))
 refine wpAny_bind (wpAny_letGo ?_)
 exact wpAny_pure ⟨.none,rfl,wpAny_pure hQ⟩
end
section
variable {X:Cx} {pos p2:Pos}
noncomputable def Uj (K:PySem.W.Frag) (to:TE):TG:=fun v σ H Q=>to σ H fun x H1=>∃ (l b:Addr) (xs ys:List V),x=.ref l/\v=.ref b/\H1 l=some (.lst xs)/\SqL K H1 b ys/\l ≠ b/\xs.length + ys.length<=sizeLine/\Q σ (upd H1 l (.lst ys))
theorem Uk {o:Expr} {to:TE} (ho:PE X o to)
  (ha:∀ v,assign (.Subscript o (.Slice none none none p2) pos) X.env v=(do
   let ov <- holding [v] (eval o X.env)
   let iv <- holding [v,ov] (eval (.Slice none none none p2) X.env)
   standAt pos
   holding [v,ov,iv] (setItem ov iv v)
   release [iv,v,ov] []):=by intro _; rfl):PG X (.Subscript o (.Slice none none none p2) pos) (Uj X.K to):=by
 intro pins s σ H v u Q I r h
 rw [ha]
 refine wpAny_bind (wpAny_holding (thn (ho pins s σ H _ I h) fun ov s1 ⟨x,H1,I1,r1,q1⟩=>?_))
 obtain ⟨l,b,xs,ys,rfl,rfl,hl,hb,hne,hz,q⟩:=q1
 cases r1
 cases r
 refine wpAny_bind (wpAny_holding (wpAny_Slice ?_))
 rw [evalPart_none]
 refine wpAny_pure (wpAny_pure (wpAny_pure ?_))
 have I2:Inv X pins σ H1 { s1 with heap:=s1.heap.push { cls:=.type "slice",data:=.fields #[.none,.none,.none] } }:=I1.kept (t':=s1.toks) fun b ob q=>Heap.get?_push_of_some _ q
 obtain ⟨its,n,rv,e,hzl⟩:=I2.lst hl
 obtain ⟨its2,rv2,p2',hz2⟩:=I2.list hb
 have hl1:=rv.length
 have hl2:=rv2.length
 refine wpAny_bind (wpAny_standAt (wpAny_bind (wpAny_holding ?_)))
 refine Rx (n:=n) (ys:=its2.toArray) e (Heap.IsSliceOf.new ..) p2'.isList hne (by rw [aaq,aaq]; omega) ?_
 have hf:∃ n',Obj.mapSeq (fun xs=>xs.extract 0 0 ++ its2.toArray ++ xs.extract its.toArray.size xs.size) { cls:=.type "list",data:=.seq its.toArray n }={ cls:=.type "list",data:=.seq its2.toArray n' } :=
  ⟨if its2.toArray.size==its.toArray.size then n else n + 1,by simp [Obj.mapSeq]⟩
 obtain ⟨n',hf⟩:=hf
 exact wpAny_release ⟨σ,upd H1 l (.lst ys),I2.lstUpd hl e hf rv2 (by omega) s1.toks,q⟩
end
end L2
end
section
namespace L2
open PySem PySem.Spec PyProof.Rows PySem.W
open AutoSeq1 (wpAny_loadPart')
theorem FpOk.upd {X:Cx} {pins:List (Addr × Obj)} {H:Hp} {c t:Addr} {o:HO} (h:FpOk X pins H c) (n:c ≠ t):FpOk X pins (upd H t o) c:=by
 obtain ⟨f0,f1,f2,f3,f4,f5⟩:=h
 exact ⟨by rw [Ar n]; exact f0,f1,f2,f3,f4,f5⟩
end L2
end
section
namespace L2
open PySem PySem.Spec PyProof.Rows
noncomputable def PEk (X:Cx) (e:Expr) (t:TE):Prop :=
 ∀ (pins:List (Addr × Obj)) (s:Shared) (σ:St) (H:Hp) (Q:VK),Inv X pins σ H s->0 < s.toks->t σ H Q->wpAny (model X.prog X.w) X.A (eval e X.env) (EP X pins σ Q) X.xe s
section
variable {X:Cx} {a b e o:Expr} {es:List Expr} {ta tb te to:TE} {t:TA} {pos:Pos}
theorem PE.k (h:PE X e te):PEk X e te:=fun pins s σ H Q I _ q=>h pins s σ H Q I q
end
end L2
end
section
namespace Pu
open PySem (Str)
inductive D where
 | non
 | bl (b:Bool)
 | int (i:Int)
 | str (x:Str)
 | tup (ds:List D)
 | lst (ds:List D)
 | exn (c:Nat)
inductive Res (α:Type) where
 | ok (a:α)
 | exc (c:Nat)
 | bad
namespace Res
noncomputable def bind {α β:Type}:Res α->(α->Res β)->Res β
 | .ok a,f=>f a
 | .exc c,_=>.exc c
 | .bad,_=>.bad
@[simp] theorem bind_ok {α β:Type} (a:α) (f:α->Res β):(Res.ok a).bind f=f a:=rfl
@[simp] theorem bind_exc {α β:Type} (c:Nat) (f:α->Res β):(Res.exc c:Res α).bind f=.exc c:=rfl
@[simp] theorem bind_bad {α β:Type} (f:α->Res β):(Res.bad:Res α).bind f=.bad:=rfl
theorem bind_eq_ok {α β:Type} {r:Res α} {f:α->Res β} {b:β} (h:r.bind f=.ok b):∃ a,r=.ok a/\f a=.ok b:=by
 cases r <;> simp_all
end Res
mutual
noncomputable def D.eqv:D->D->Bool
 | .non,.non=>true
 | .bl a,.bl b=>a==b
 | .bl a,.int j=>(if a then 1 else 0)==j
 | .int i,.bl b=>i==(if b then 1 else 0)
 | .int i,.int j=>i==j
 | .str x,.str y=>x==y
 | .lst xs,.lst ys=>D.eqvs xs ys
 | .tup xs,.tup ys=>D.eqvs xs ys
 | _,_=>false
noncomputable def D.eqvs:List D->List D->Bool
 | [],[]=>true
 | x :: xs,y :: ys=>D.eqv x y && D.eqvs xs ys
 | _,_=>false
end
noncomputable def D.shp:Nat->D->Bool
 | _,.non=>true
 | _,.bl _=>true
 | _,.int _=>true
 | _,.str x=>x.cps.all (· < 0x110000)
 | 0,.tup _=>false
 | 0,.lst _=>false
 | n + 1,.tup ds=>ds.all (D.shp n)
 | n + 1,.lst ds=>ds.all (D.shp n)
 | _,.exn _=>false
noncomputable def D.flat:Nat->Nat->D->Bool
 | 0,_,_=>false
 | _ + 1,_,.non=>true
 | _ + 1,_,.bl _=>true
 | _ + 1,_,.int _=>true
 | _ + 1,_,.str _=>true
 | _ + 1,_,.exn _=>true
 | m + 1,k,.tup ds=>ds.all (D.flat m k)
 | _ + 1,0,.lst _=>false
 | m + 1,k + 1,.lst ds=>ds.all (D.flat m k)
noncomputable abbrev LIM:Nat:=16777216
noncomputable abbrev Fr:=List (Option D)
structure Fn where
 name:Str
 ar:Nat
 lv:Nat
 dep:Nat
 den:List D->Res D
set_option genSizeOf false
set_option genSizeOfSpec false
set_option genInjectivity false
inductive B2 where
 | add | sub | mul | fdiv | mod | pow
 deriving DecidableEq
inductive C2 where
 | lt | le | gt | ge | eq | ne | inn | nin
 deriving DecidableEq
inductive Kd where
 | int | bool | str | list | tuple | dict | verr | cls (n:Nat)
 deriving DecidableEq
inductive Bi where
 | len | min | max | maxL | minL | int | list | listL
 deriving DecidableEq
inductive Mt where
 | count | index
 deriving DecidableEq
inductive Tg where
 | nm (i:Nat)
 | tp (is:List Nat)
 deriving DecidableEq
mutual
inductive E where
 | nm (i:Nat)
 | cN
 | cB (b:Bool)
 | cI (i:Int)
 | cS (x:Str)
 | gl (x:Str) (d:D)
 | tup (es:Es)
 | lst (es:Es)
 | bin (o:B2) (a b:E)
 | neg (a:E)
 | not (a:E)
 | cmp (o:C2) (a b:E)
 | chain (o o':C2) (a b c:E)
 | isN (n:Bool) (a:E)
 | bo (and:Bool) (es:Es)
 | ifx (c a b:E)
 | ix (a i:E)
 | ixL (a i:E)
 | slc (a lo hi:E)
 | call (f:Fn) (es:Es)
 | callB (f:Fn) (es:Es)
 | bi (b:Bi) (es:Es)
 | listI (it:It)
 | isi (a:E) (k:Kd)
 | mt (m:Mt) (a:E) (es:Es)
 | comp0 (nl:Nat) (fr:List Nat) (tg:Tg) (it:It) (elt:E)
 | comp1 (nl:Nat) (fr:List Nat) (tg:Tg) (it:It) (cond elt:E)
inductive Es where
 | nil
 | cons (e:E) (r:Es)
inductive It where
 | seq (e:E)
 | seqL (e:E)
 | r1 (a:E)
 | r2 (a b:E)
 | r3 (a b c:E)
 | rv (e:E)
end
noncomputable def get (δ:Fr) (i:Nat):Res D:=match δ[i]? with
 | some (some d)=>.ok d
 | _=>.bad
noncomputable def on1:List D->(D->Res D)->Res D
 | [a],f=>f a
 | _,_=>.bad
noncomputable def on2:List D->(D->D->Res D)->Res D
 | [a,b],f=>f a b
 | _,_=>.bad
noncomputable def on3:List D->(D->D->D->Res D)->Res D
 | [a,b,c],f=>f a b c
 | _,_=>.bad
noncomputable def D7:D->(Int->Res D)->Res D
 | .int i,f=>f i
 | _,_=>.bad
noncomputable def BR (a b:D) (f:Int->Int->Res D):Res D:=D7 a fun i=>D7 b fun j=>f i j
noncomputable def DJ:D->(List D->Res D)->Res D
 | .lst ds,f=>f ds
 | .tup ds,f=>f ds
 | _,_=>.bad
noncomputable def MP:D->D->Res D
 | .int i,.int j=>.ok (.int (i + j))
 | .lst a,.lst b=>if a.length + b.length<=LIM then .ok (.lst (a ++ b)) else .bad
 | .str a,.str b=>if a.length + b.length<=LIM then .ok (.str (a ++ b)) else .bad
 | _,_=>.bad
noncomputable def Kj:D->D->Res D
 | .int i,.int j=>if (-(2 ^ 64) < i/\i < 2 ^ 64)\/(-(2 ^ 64) < j/\j < 2 ^ 64) then .ok (.int (i * j)) else if i.natAbs < 2 ^ 400/\j.natAbs < 2 ^ 400 then .ok (.int (i * j)) else .bad
 | .lst a,.int k=>if -(2 ^ 63)<=k/\k < 2 ^ 63/\a.length * k.toNat<=LIM then .ok (.lst (aaj k.toNat a).flatten) else .bad
 | _,_=>.bad
noncomputable def b2:B2->D->D->Res D
 | .add,a,b=>MP a b
 | .sub,a,b=>BR a b fun i j=>.ok (.int (i - j))
 | .mul,a,b=>Kj a b
 | .fdiv,a,b=>BR a b fun i j=>if 0 < j/\j < 2 ^ 200 then .ok (.int (i / j)) else .bad
 | .mod,a,b=>BR a b fun i j=>if 0 < j then .ok (.int (i % j)) else .bad
 | .pow,a,b=>BR a b fun i j=>if 0<=j/\j<=1000000/\i.natAbs < 2 ^ 64 then .ok (.int (i ^ j.toNat)) else .bad
noncomputable def D.scal:D->Bool
 | .non | .bl _ | .int _ | .str _=>true
 | _=>false
noncomputable def inD (x:D) (ys:List D):Res Bool:=if D.shp 8 x && ys.all (D.shp 8) then .ok (ys.any fun y=>D.eqv y x) else .bad
noncomputable def c2:C2->D->D->Res D
 | .lt,a,b=>BR a b fun i j=>.ok (.bl (decide (i < j)))
 | .le,a,b=>BR a b fun i j=>.ok (.bl (decide (i<=j)))
 | .gt,a,b=>BR a b fun i j=>.ok (.bl (decide (j < i)))
 | .ge,a,b=>BR a b fun i j=>.ok (.bl (decide (j<=i)))
 | .eq,x,y=>if D.shp 8 x && D.shp 8 y then .ok (.bl (D.eqv x y)) else .bad
 | .ne,x,y=>if D.shp 8 x && D.shp 8 y then .ok (.bl (!D.eqv x y)) else .bad
 | .inn,x,y=>DJ y fun ys=>(inD x ys).bind fun b=>.ok (.bl b)
 | .nin,x,y=>DJ y fun ys=>(inD x ys).bind fun b=>.ok (.bl !b)
noncomputable def ixN (n:Nat) (i:Int):Option Nat:=if 0<=i then (if i < n then some i.toNat else none) else if -(n:Int)<=i then some (i + n).toNat else none
noncomputable def atD (ds:List D) (i:Int):Res D:=match (ixN ds.length i).bind (fun j=>ds[j]?) with
 | some d=>.ok d
 | none=>.bad
noncomputable def ixD:D->D->Res D
 | .lst ds,.int i=>atD ds i
 | .tup ds,.int i=>atD ds i
 | _,_=>.bad
noncomputable def EA:D->D->Res D
 | .lst ds,.int i=>atD ds i
 | _,_=>.bad
noncomputable def FN:D->D->Res D
 | .tup ds,.int i=>atD ds i
 | _,_=>.bad
noncomputable def sIx (n d:Nat):Option Int->Nat
 | none=>d
 | some v=>(if v < 0 then max (v + (n:Int)) 0 else min v (n:Int)).toNat
noncomputable def cut {α:Type} (xs:List α) (lo hi:Option Int):List α:=(xs.drop (sIx xs.length 0 lo)).take (sIx xs.length xs.length hi - sIx xs.length 0 lo)
noncomputable def Ds:D->Res (Option Int)
 | .int i=>.ok (some i)
 | _=>.bad
noncomputable def CF (n:Bool) (r:Res D):Res (Option Int):=if n then .ok none else r.bind Ds
noncomputable def E.isCN:E->Bool
 | .cN=>true
 | _=>false
noncomputable def Dt:D->Option Int->Option Int->Res D
 | .lst ds,lo,hi=>.ok (.lst (cut ds lo hi))
 | .tup ds,lo,hi=>if ds.all D.scal=true/\¬ (sIx ds.length 0 lo=0/\sIx ds.length ds.length hi=ds.length) then .ok (.tup (cut ds lo hi)) else .bad
 | _,_,_=>.bad
noncomputable def BN:D->Res Bool
 | .non=>.ok false
 | .bl b=>.ok b
 | .int i=>.ok (i != 0)
 | .lst ds=>.ok (!ds.isEmpty)
 | .tup ds=>.ok (!ds.isEmpty)
 | _=>.bad
noncomputable def isa (c d:Nat):Bool:=c==d || d==0
noncomputable def dI:D->Bool
 | .int _=>true
 | .bl _=>true
 | _=>false
noncomputable def dB:D->Bool
 | .bl _=>true
 | _=>false
noncomputable def dS:D->Bool
 | .str _=>true
 | _=>false
noncomputable def dL:D->Bool
 | .lst _=>true
 | _=>false
noncomputable def dT':D->Bool
 | .tup _=>true
 | _=>false
noncomputable def dD:D->Bool
 | .exn c=>c==999
 | _=>false
noncomputable def dX:D->(Nat->Bool)->Res Bool
 | .exn c,f=>if c==999 then .bad else .ok (f c)
 | _,_=>.bad
noncomputable def De (d:D):Kd->Res Bool
 | .int=>.ok (dI d)
 | .bool=>.ok (dB d)
 | .str=>.ok (dS d)
 | .list=>.ok (dL d)
 | .tuple=>.ok (dT' d)
 | .dict=>.ok (dD d)
 | .verr=>dX d fun _=>true
 | .cls n=>dX d fun c=>isa c n
noncomputable def Bf:List D->Option (List Int)
 | []=>some []
 | .int i :: r=>(Bf r).map (i :: ·)
 | _=>none
noncomputable def DK:List D->Option (List Bool)
 | []=>some []
 | .bl i :: r=>(DK r).map (i :: ·)
 | _=>none
noncomputable def Bu {α:Type}:Option α->Res α
 | some a=>.ok a
 | none=>.bad
noncomputable def Du:D->(List Int->Res D)->Res D
 | .lst ds,f=>(Bu (Bf ds)).bind f
 | _,_=>.bad
noncomputable def Dv:D->(List Bool->Res D)->Res D
 | .lst ds,f=>(Bu (DK ds)).bind f
 | _,_=>.bad
noncomputable def Fc:D->(List D->Res D)->Res D
 | .lst ds,f=>f ds
 | _,_=>.bad
noncomputable def Fd:D->Res D
 | .int i=>.ok (.int i)
 | .bl b=>.ok (.int (if b then 1 else 0))
 | _=>.bad
noncomputable def biD:Bi->List D->Res D
 | .len,ds=>on1 ds fun d=>DJ d fun ds=>.ok (.int ds.length)
 | .min,ds=>on2 ds fun a b=>BR a b fun i j=>.ok (.int (min i j))
 | .max,ds=>on2 ds fun a b=>BR a b fun i j=>.ok (.int (max i j))
 | .maxL,ds=>on1 ds fun d=>Du d fun ns=>(Bu ns.max?).bind fun n=>.ok (.int n)
 | .minL,ds=>on1 ds fun d=>Du d fun ns=>(Bu ns.min?).bind fun n=>.ok (.int n)
 | .int,ds=>on1 ds Fd
 | .list,ds=>on1 ds fun d=>DJ d fun ds=>.ok (.lst ds)
 | .listL,ds=>on1 ds fun d=>Fc d fun ds=>.ok (.lst ds)
noncomputable def Cj (v:Int):List Int->Option Nat
 | []=>none
 | x :: r=>if x=v then some 0 else (Cj v r).map (· + 1)
noncomputable def mtD:Mt->D->List D->Res D
 | .count,.lst ds,[.bl k]=>(Bu (DK ds)).bind fun bs=>.ok (.int ((bs.filter (·==k)).length:Int))
 | .index,.lst ds,[.int v]=>(Bu (Bf ds)).bind fun ns=>(Bu (Cj v ns)).bind fun j=>.ok (.int (j:Nat))
 | _,_,_=>.bad
noncomputable def Fq:List Nat->List D->Fr->Option Fr
 | [],[],δ=>some δ
 | i :: is,d :: ds,δ=>Fq is ds (δ.set i (some d))
 | _,_,_=>none
noncomputable def Dw:Tg->D->Fr->Option Fr
 | .nm i,d,δ=>some (δ.set i (some d))
 | .tp is,.tup ds,δ=>Fq is ds δ
 | .tp is,.lst ds,δ=>Fq is ds δ
 | _,_,_=>none
noncomputable def Br (f:D->Res (Option D)):List D->Res (List D)
 | []=>.ok []
 | d :: ds=>match f d with
  | .ok o=>(Br f ds).bind fun r=>.ok (match o with | some x=>x :: r | none=>r)
  | _=>.bad
noncomputable def blk (nl:Nat) (fr:List Nat) (δ:Fr):Fr:=aaj nl none ++ fr.map fun j=>(δ[j]?).join
noncomputable def Am (a b:Int):List D:=(aav (b - a).toNat).map fun (i:Nat)=>D.int (a + i)
noncomputable def DW:D->Res (List D)
 | .lst ds=>.ok ds
 | .tup ds=>.ok ds
 | _=>.bad
noncomputable def CY:D->Res (List D)
 | .lst ds=>.ok ds
 | _=>.bad
noncomputable def AD (i:Int):Bool:=decide (-(2 ^ 62)<=i) && decide (i < 2 ^ 62)
noncomputable def PM:D->D->Res (List D)
 | .int a,.int b=>if AD a && AD b && decide ((b - a).toNat<=LIM) then .ok (Am a b) else .bad
 | _,_=>.bad
noncomputable def BE (a:Int) (c:Int) (n:Nat):List D:=(aav n).map fun (i:Nat)=>D.int (a + i * c)
noncomputable def r3N (a b c:Int):Nat:=if 0 < c then ((b - a + c - 1) / c).toNat else ((a - b + (-c) - 1) / (-c)).toNat
noncomputable def Ul:D->D->D->Res (List D)
 | .int a,.int b,.int c=>if AD a && AD b && AD c && decide (c ≠ 0) && decide (r3N a b c<=LIM) then .ok (BE a c (r3N a b c)) else .bad
 | _,_,_=>.bad
noncomputable def Uo:D->Res (List D)
 | .lst ds=>.ok ds.reverse
 | _=>.bad
mutual
noncomputable def ev:E->Fr->Res D
 | .nm i,δ=>get δ i
 | .cN,_=>.ok .non
 | .cB b,_=>.ok (.bl b)
 | .cI i,_=>.ok (.int i)
 | .cS x,_=>.ok (.str x)
 | .gl _ d,_=>.ok d
 | .tup es,δ=>(evs es δ).bind fun ds=>.ok (.tup ds)
 | .lst es,δ=>(evs es δ).bind fun ds=>.ok (.lst ds)
 | .bin o a b,δ=>(ev a δ).bind fun x=>(ev b δ).bind fun y=>b2 o x y
 | .neg a,δ=>(ev a δ).bind fun x=>match x with | .int i=>.ok (.int (-i)) | _=>.bad
 | .not a,δ=>(ev a δ).bind fun x=>match x with | .bl b=>.ok (.bl !b) | _=>.bad
 | .cmp o a b,δ=>(ev a δ).bind fun x=>(ev b δ).bind fun y=>c2 o x y
 | .chain o o' a b c,δ=>(ev a δ).bind fun x=>(ev b δ).bind fun y=>(c2 o x y).bind fun r=>match r with
  | .bl true=>(ev c δ).bind fun z=>c2 o' y z
  | .bl false=>.ok (.bl false)
  | _=>.bad
 | .isN n a,δ=>(ev a δ).bind fun x=>.ok (.bl (match x with | .non=>!n | _=>n))
 | .bo k es,δ=>evBo k es δ
 | .ifx c a b,δ=>((ev c δ).bind BN).bind fun t=>if t then ev a δ else ev b δ
 | .ix a i,δ=>(ev a δ).bind fun x=>(ev i δ).bind fun y=>ixD x y
 | .ixL a i,δ=>(ev a δ).bind fun x=>(ev i δ).bind fun y=>EA x y
 | .slc a lo hi,δ=>(ev a δ).bind fun x=>(CF lo.isCN (ev lo δ)).bind fun l=>(CF hi.isCN (ev hi δ)).bind fun h=>Dt x l h
 | .call f es,δ=>(evs es δ).bind fun ds=>f.den ds
 | .callB f es,δ=>(evs es δ).bind fun ds=>(f.den ds).bind fun d=>if D.flat 9 f.dep d then .ok d else .bad
 | .bi b es,δ=>(evs es δ).bind fun ds=>biD b ds
 | .listI it,δ=>(evI it δ).bind fun ds=>.ok (.lst ds)
 | .isi a k,δ=>(ev a δ).bind fun x=>(De x k).bind fun b=>.ok (.bl b)
 | .mt m a es,δ=>(ev a δ).bind fun x=>if dL x=true then (evs es δ).bind fun ds=>mtD m x ds else .bad
 | .comp0 nl fr tg it elt,δ=>(evI it δ).bind fun ds=>(Br (fun d=>match Dw tg d (blk nl fr δ) with
   | some δ'=>(ev elt δ').bind fun x=>.ok (some x)
   | none=>.bad) ds).bind fun r=>.ok (.lst r)
 | .comp1 nl fr tg it cond elt,δ=>(evI it δ).bind fun ds=>(Br (fun d=>match Dw tg d (blk nl fr δ) with
   | some δ'=>((ev cond δ').bind BN).bind fun t=>if t then (ev elt δ').bind fun x=>.ok (some x) else .ok none
   | none=>.bad) ds).bind fun r=>.ok (.lst r)
noncomputable def evs:Es->Fr->Res (List D)
 | .nil,_=>.ok []
 | .cons e r,δ=>(ev e δ).bind fun x=>(evs r δ).bind fun xs=>.ok (x :: xs)
noncomputable def evBo (k:Bool):Es->Fr->Res D
 | .nil,_=>.bad
 | .cons e .nil,δ=>ev e δ
 | .cons e (.cons e' r),δ=>(ev e δ).bind fun x=>match x with
  | .bl c=>if c=k then evBo k (.cons e' r) δ else .ok (.bl c)
  | _=>.bad
noncomputable def evI:It->Fr->Res (List D)
 | .seq e,δ=>(ev e δ).bind DW
 | .seqL e,δ=>(ev e δ).bind CY
 | .r1 a,δ=>(ev a δ).bind fun x=>PM (.int 0) x
 | .r2 a b,δ=>(ev a δ).bind fun x=>(ev b δ).bind fun y=>PM x y
 | .r3 a b c,δ=>(ev a δ).bind fun x=>(ev b δ).bind fun y=>(ev c δ).bind fun z=>Ul x y z
 | .rv e,δ=>(ev e δ).bind Uo
end
noncomputable def tv (e:E) (δ:Fr):Res Bool:=(ev e δ).bind BN
inductive Um where
 | append | extend | clear
 deriving DecidableEq
mutual
inductive S where
 | asg (x:Nat) (k:Nat) (e:E)
 | dem (x:Nat) (k:Nat)
 | dead (x:Nat)
 | asgT (xs:List Nat) (e:E)
 | set (x:Nat) (path:List (Bool × E)) (i e:E)
 | mut (x:Nat) (path:List (Bool × E)) (m:Um) (es:Es)
 | expr (e:E)
 | iff (c:E) (a b:Ss)
 | wh (c:E) (b:Ss)
 | for_ (tg:Tg) (it:It) (b:Ss)
 | ret (e:E)
 | raise (c:Nat) (es:Es)
 | eachZ (x z y:Nat) (e:E)
 | put (F:Fn) (y:Nat) (zs:List Nat)
inductive Ss where
 | nil
 | cons (s:S) (r:Ss)
end
inductive Out where
 | nxt (δ:Fr)
 | ret (d:D)
 | exc (c:Nat) (δ:Fr)
 | bad
noncomputable def evP:List (Bool × E)->Fr->Res (List (Bool × Int))
 | [],_=>.ok []
 | (t,e) :: r,δ=>match ev e δ with
  | .ok (.int i)=>(evP r δ).bind fun is=>.ok ((t,i) :: is)
  | _=>.bad
noncomputable def Cr (f:List D->Option (List D)):List (Bool × Int)->D->Option D
 | [],.lst ds=>(f ds).map D.lst
 | (false,i) :: r,.lst ds=>(ixN ds.length i).bind fun j=>(ds[j]?).bind fun d=>(Cr f r d).map fun d'=>.lst (ds.set j d')
 | (true,i) :: r,.tup ds=>(ixN ds.length i).bind fun j=>(ds[j]?).bind fun d=>(Cr f r d).map fun d'=>.tup (ds.set j d')
 | _,_=>none
noncomputable def un1 {α:Type}:List D->(D->Option α)->Option α
 | [d],f=>f d
 | _,_=>none
noncomputable def un0 {α:Type}:List D->Option α->Option α
 | [],r=>r
 | _,_=>none
noncomputable def VG (ds:List D):D->Option (List D)
 | .lst es=>if ds.length + es.length<=LIM then some (ds ++ es) else none
 | _=>none
noncomputable def umD:Um->List D->List D->Option (List D)
 | .append,es,ds=>un1 es fun d=>if ds.length < LIM then some (ds ++ [d]) else none
 | .extend,es,ds=>un1 es (VG ds)
 | .clear,es,_=>un0 es (some [])
noncomputable def JP (i:Int) (d:D) (ds:List D):Option (List D):=(ixN ds.length i).map fun j=>ds.set j d
noncomputable def upd (δ:Fr) (x:Nat) (f:D->Option D):Out:=match δ[x]? with
 | some (some d)=>match f d with
  | some d'=>.nxt (δ.set x (some d'))
  | none=>.bad
 | _=>.bad
noncomputable def Res.out {α:Type} (r:Res α) (δ:Fr) (f:α->Out):Out:=match r with
 | .ok a=>f a
 | .exc c=>.exc c δ
 | .bad=>.bad
@[simp] theorem Res.out_ok {α:Type} (a:α) (δ:Fr) (f:α->Out):(Res.ok a).out δ f=f a:=rfl
@[simp] theorem Res.out_exc {α:Type} (c:Nat) (δ:Fr) (f:α->Out):(Res.exc c:Res α).out δ f=.exc c δ:=rfl
@[simp] theorem Res.out_bad {α:Type} (δ:Fr) (f:α->Out):(Res.bad:Res α).out δ f=.bad:=rfl
noncomputable def Out.then (o:Out) (f:Fr->Out):Out:=match o with
 | .nxt δ=>f δ
 | .ret d=>.ret d
 | .exc c δ=>.exc c δ
 | .bad=>.bad
@[simp] theorem Out.then_nxt (δ:Fr) (f:Fr->Out):(Out.nxt δ).then f=f δ:=rfl
@[simp] theorem Out.then_ret (d:D) (f:Fr->Out):(Out.ret d).then f=.ret d:=rfl
@[simp] theorem Out.then_exc (c:Nat) (δ:Fr) (f:Fr->Out):(Out.exc c δ).then f=.exc c δ:=rfl
@[simp] theorem Out.then_bad (f:Fr->Out):Out.bad.then f=.bad:=rfl
noncomputable def AY (c:Fr->Res Bool) (b:Fr->Out):Nat->Fr->Out
 | 0,_=>.bad
 | n + 1,δ=>(c δ).out δ fun t=>if t then (b δ).then (AY c b n) else .nxt δ
noncomputable def AL (tg:Tg) (b:Fr->Out):List D->Fr->Out
 | [],δ=>.nxt δ
 | d :: ds,δ=>match Dw tg d δ with
  | some δ'=>(b δ').then (AL tg b ds)
  | none=>.bad
noncomputable def FU:Nat:=1073741824
noncomputable def FO:D->(List D->Out)->Out
 | .lst ds,f=>f ds
 | _,_=>.bad
noncomputable def BH (x z y:Nat):List D->Nat->Fr->Out
 | [],_,δ=>.nxt δ
 | d :: es,i,δ=>match δ[y]? with
  | some (some (.lst ds))=>match ds[i]? with
   | none=>.nxt δ
   | some r=>FO r fun rs=>FO d fun us=>if rs.length + us.length<=LIM then BH x z y es (i + 1) (((δ.set x (some r)).set z (some d)).set y (some (.lst (ds.set i (.lst us))))) else .bad
  | _=>.bad
noncomputable def Gh (δ:Fr):List Nat->Option (List D)
 | []=>some []
 | i :: r=>match δ[i]? with
  | some (some d)=>(Gh δ r).map (d :: ·)
  | _=>none
noncomputable def MQ (o:Option (List D)) (f:List D->Res D) (δ:Fr) (y:Nat):Out:=match o with
 | some ds=>match f ds with
  | .ok d=>if D.flat 9 2 d=true then .nxt (δ.set y (some d)) else .bad
  | _=>.bad
 | none=>.bad
mutual
noncomputable def ex:S->Fr->Out
 | .dem _ _,δ=>.nxt δ
 | .dead _,δ=>.nxt δ
 | .asg x _ e,δ=>(ev e δ).out δ fun d=>.nxt (δ.set x (some d))
 | .asgT xs e,δ=>(ev e δ).out δ fun d=>match Dw (.tp xs) d δ with
  | some δ'=>.nxt δ'
  | none=>.bad
 | .set x p i e,δ=>(ev e δ).out δ fun d=>match evP p δ,ev i δ with
  | .ok q,.ok (.int n)=>upd δ x (Cr (JP n d) q)
  | _,_=>.bad
 | .mut x p m es,δ=>match evP p δ,evs es δ with
  | .ok q,.ok ds=>upd δ x (Cr (umD m ds) q)
  | _,_=>.bad
 | .expr e,δ=>(ev e δ).out δ fun _=>.nxt δ
 | .iff c a b,δ=>(tv c δ).out δ fun t=>if t then exs a δ else exs b δ
 | .wh c b,δ=>AY (tv c) (exs b) FU δ
 | .for_ tg it b,δ=>(evI it δ).out δ fun ds=>AL tg (exs b) ds δ
 | .ret e,δ=>(ev e δ).out δ fun d=>.ret d
 | .raise c es,δ=>(evs es δ).out δ fun _=>.exc c δ
 | .eachZ x z y e,δ=>(get δ y).out δ fun d0=>FO d0 fun _=>(ev e δ).out δ fun d=>FO d fun es=>BH x z y es 0 δ
 | .put F y zs,δ=>MQ (Gh δ (y :: zs)) F.den δ y
noncomputable def exs:Ss->Fr->Out
 | .nil,δ=>.nxt δ
 | .cons s r,δ=>(ex s δ).then (exs r)
end
noncomputable def AK (n:Nat) (ds:List D):Fr:=ds.map some ++ aaj (n - ds.length) none
noncomputable def run (n:Nat) (b:Ss) (ds:List D):Res D:=match exs b (AK n ds) with
 | .nxt _=>.ok .non
 | .ret d=>.ok d
 | .exc c _=>.exc c
 | .bad=>.bad
end Pu
end
section
namespace Pu
open PySem PySem.W L2
inductive T where
 | non
 | bl (b:Bool)
 | int (i:Int)
 | str (x:Str)
 | tup (a:Addr) (ts:List T)
 | lst (a:Addr) (ts:List T)
 | exn (a:Addr) (c:Nat)
noncomputable def T.val:T->V
 | .non=>.non
 | .bl b=>.bl b
 | .int i=>.int i
 | .str x=>.str x
 | .tup a _=>.ref a
 | .lst a _=>.ref a
 | .exn a _=>.ref a
mutual
noncomputable def T.dat:T->D
 | .non=>.non
 | .bl b=>.bl b
 | .int i=>.int i
 | .str x=>.str x
 | .tup _ ts=>.tup (T.dats ts)
 | .lst _ ts=>.lst (T.dats ts)
 | .exn _ c=>.exn c
noncomputable def T.dats:List T->List D
 | []=>[]
 | t :: r=>t.dat :: T.dats r
end
theorem T.dats_map:∀ ts:List T,T.dats ts=ts.map T.dat
 | []=>rfl
 | t :: r=>by simp [T.dats,T.dats_map r]
structure Px where
 K:Frag
 cl:Nat->Addr
 has:Nat->Bool
noncomputable def exO (p:Px) (a:Addr) (c:Nat):HO:=if c=999 then dO a else xO a (p.cl c)
theorem Up {p:Px} {a:Addr} {c:Nat} (vs:List V):exO p a c ≠ .lst vs:=by
 unfold exO
 split
 ·intro e; cases e
 ·intro e; cases e
mutual
noncomputable def T.Ok (p:Px) (H:Hp):T->Prop
 | .tup a ts=>H a=some (.tup (ts.map T.val))/\T.Oks p H ts
 | .lst a ts=>Rd H a (.lst (ts.map T.val))/\T.Oks p H ts
 | .exn a c=>H a=some (exO p a c)/\(c=999\/p.has c=true)
 | .non=>True
 | .bl _=>True
 | .int _=>True
 | .str _=>True
noncomputable def T.Oks (p:Px) (H:Hp):List T->Prop
 | []=>True
 | t :: r=>t.Ok p H/\T.Oks p H r
noncomputable def T.adr:T->Nat->List Addr
 | .tup _ ts,k=>T.adrs ts k
 | .lst _ _,0=>[]
 | .lst a ts,k + 1=>a :: T.adrs ts k
 | .non,_=>[]
 | .bl _,_=>[]
 | .int _,_=>[]
 | .str _,_=>[]
 | .exn _ _,_=>[]
noncomputable def T.adrs:List T->Nat->List Addr
 | [],_=>[]
 | t :: r,k=>t.adr k ++ T.adrs r k
noncomputable def T.rest:T->Nat->List Addr
 | .tup _ ts,k=>T.rests ts k
 | .lst a ts,0=>a :: T.rests ts 0
 | .lst _ ts,k + 1=>T.rests ts k
 | .non,_=>[]
 | .bl _,_=>[]
 | .int _,_=>[]
 | .str _,_=>[]
 | .exn _ _,_=>[]
noncomputable def T.rests:List T->Nat->List Addr
 | [],_=>[]
 | t :: r,k=>t.rest k ++ T.rests r k
end
theorem T.ind {P:T->Prop} (h0:P .non) (h1:∀ b,P (.bl b)) (h2:∀ i,P (.int i)) (h3:∀ x,P (.str x)) (h4:∀ a ts,(∀ t ∈ ts,P t)->P (.tup a ts)) (h5:∀ a ts,(∀ t ∈ ts,P t)->P (.lst a ts)) (h6:∀ a c,P (.exn a c)):∀ t,P t
 | .non=>h0
 | .bl b=>h1 b
 | .int i=>h2 i
 | .str x=>h3 x
 | .tup a ts=>h4 a ts fun t h=>T.ind h0 h1 h2 h3 h4 h5 h6 t
 | .lst a ts=>h5 a ts fun t h=>T.ind h0 h1 h2 h3 h4 h5 h6 t
 | .exn a c=>h6 a c
termination_by t=>t
theorem T.oks_iff {p:Px} {H:Hp}:∀ {ts:List T},T.Oks p H ts ↔ ∀ t ∈ ts,t.Ok p H
 | []=>by simp [T.Oks]
 | t :: r=>by simp [T.Oks,T.oks_iff (ts:=r)]
theorem T.mem_adrs {a:Addr} {k:Nat}:∀ {ts:List T},a ∈ T.adrs ts k ↔ ∃ t ∈ ts,a ∈ t.adr k
 | []=>by simp [T.adrs]
 | t :: r=>by simp [T.adrs,T.mem_adrs (ts:=r)]
theorem T.mem_rests {a:Addr} {k:Nat}:∀ {ts:List T},a ∈ T.rests ts k ↔ ∃ t ∈ ts,a ∈ t.rest k
 | []=>by simp [T.rests]
 | t :: r=>by simp [T.rests,T.mem_rests (ts:=r)]
theorem T.adrs_append {k:Nat}:∀ {ts us:List T},T.adrs (ts ++ us) k=T.adrs ts k ++ T.adrs us k
 | [],us=>by simp [T.adrs]
 | t :: r,us=>by simp [T.adrs,T.adrs_append (ts:=r)]
theorem T.rests_append {k:Nat}:∀ {ts us:List T},T.rests (ts ++ us) k=T.rests ts k ++ T.rests us k
 | [],us=>by simp [T.rests]
 | t :: r,us=>by simp [T.rests,T.rests_append (ts:=r)]
theorem T.adr_zero:∀ t:T,t.adr 0=[]:=by
 refine T.ind rfl (fun _=>rfl) (fun _=>rfl) (fun _=>rfl) (fun a ts ih=>?_) (fun _ _ _=>by simp [T.adr]) (fun _ _=>rfl)
 simp only [T.adr]
 refine aa1.mpr fun b hb=>?_
 obtain ⟨t,ht,h⟩:=T.mem_adrs.mp hb
 rw [ih t ht] at h; cases h
theorem T.adrs_zero (ts:List T):T.adrs ts 0=[]:=by
 refine aa1.mpr fun b hb=>?_
 obtain ⟨t,ht,h⟩:=T.mem_adrs.mp hb
 rw [T.adr_zero] at h; cases h
theorem T.all_iff {a:Addr}:∀ (t:T) (k:Nat),a ∈ t.rest 0 ↔ a ∈ t.adr k\/a ∈ t.rest k:=by
 refine T.ind (by simp [T.rest,T.adr]) (by simp [T.rest,T.adr]) (by simp [T.rest,T.adr]) (by simp [T.rest,T.adr]) (fun b ts ih k=>?_) (fun b ts ih k=>?_) (by simp [T.rest,T.adr])
 ·simp only [T.rest,T.adr,T.mem_rests,T.mem_adrs]
  constructor
  ·rintro ⟨t,ht,h⟩
   rcases (ih t ht k).mp h with h | h
   ·exact .inl ⟨t,ht,h⟩
   ·exact .inr ⟨t,ht,h⟩
  ·rintro (⟨t,ht,h⟩ | ⟨t,ht,h⟩)
   ·exact ⟨t,ht,(ih t ht k).mpr (.inl h)⟩
   ·exact ⟨t,ht,(ih t ht k).mpr (.inr h)⟩
 ·cases k with
  | zero=>simp [T.adr]
  | succ k =>
   simp only [T.rest,T.adr,T.mem_rests,T.mem_adrs,aal]
   constructor
   ·rintro (h | ⟨t,ht,h⟩)
    ·exact .inl (.inl h)
    rcases (ih t ht k).mp h with h | h
    ·exact .inl (.inr ⟨t,ht,h⟩)
    ·exact .inr ⟨t,ht,h⟩
   ·rintro ((h | ⟨t,ht,h⟩) | ⟨t,ht,h⟩)
    ·exact .inl h
    ·exact .inr ⟨t,ht,(ih t ht k).mpr (.inl h)⟩
    ·exact .inr ⟨t,ht,(ih t ht k).mpr (.inr h)⟩
theorem T.alls_iff {a:Addr} (ts:List T) (k:Nat):a ∈ T.rests ts 0 ↔ a ∈ T.adrs ts k\/a ∈ T.rests ts k:=by
 simp only [T.mem_rests,T.mem_adrs]
 constructor
 ·rintro ⟨t,ht,h⟩
  rcases (T.all_iff t k).mp h with h | h
  ·exact .inl ⟨t,ht,h⟩
  ·exact .inr ⟨t,ht,h⟩
 ·rintro (⟨t,ht,h⟩ | ⟨t,ht,h⟩)
  ·exact ⟨t,ht,(T.all_iff t k).mpr (.inl h)⟩
  ·exact ⟨t,ht,(T.all_iff t k).mpr (.inr h)⟩
theorem T.rest_le {a:Addr}:∀ (t:T) {j j':Nat},j<=j'->a ∈ t.rest j'->a ∈ t.rest j:=by
 refine T.ind (by simp [T.rest]) (by simp [T.rest]) (by simp [T.rest]) (by simp [T.rest]) (fun b ts ih j j' hj h=>?_) (fun b ts ih j j' hj h=>?_) (by simp [T.rest])
 ·simp only [T.rest,T.mem_rests] at h ⊢
  obtain ⟨t,ht,h⟩:=h
  exact ⟨t,ht,ih t ht hj h⟩
 ·cases j' with
  | zero=>cases Nat.le_zero.mp hj; exact h
  | succ j' =>
   simp only [T.rest,T.mem_rests] at h
   obtain ⟨t,ht,h⟩:=h
   cases j with
   | zero=>exact aaa _ (T.mem_rests.mpr ⟨t,ht,ih t ht (aar _) h⟩)
   | succ j=>exact T.mem_rests.mpr ⟨t,ht,ih t ht (ab8 hj) h⟩
theorem T.adr_le {a:Addr}:∀ (t:T) {j j':Nat},j<=j'->a ∈ t.adr j->a ∈ t.adr j':=by
 refine T.ind (by simp [T.adr]) (by simp [T.adr]) (by simp [T.adr]) (by simp [T.adr]) (fun b ts ih j j' hj h=>?_) (fun b ts ih j j' hj h=>?_) (by simp [T.adr])
 ·simp only [T.adr,T.mem_adrs] at h ⊢
  obtain ⟨t,ht,h⟩:=h
  exact ⟨t,ht,ih t ht hj h⟩
 ·cases j with
  | zero=>simp [T.adr] at h
  | succ j =>
   cases j' with
   | zero=>omega
   | succ j' =>
    simp only [T.adr,aal,T.mem_adrs] at h ⊢
    rcases h with h | ⟨t,ht,h⟩
    ·exact .inl h
    ·exact .inr ⟨t,ht,ih t ht (ab8 hj) h⟩
noncomputable def T.Nd (t:T) (k:Nat):Prop:=(t.adr k).Nodup/\∀ a ∈ t.rest k,a ∉ t.adr k
noncomputable def T.Nds (ts:List T) (k:Nat):Prop:=(T.adrs ts k).Nodup/\∀ a ∈ T.rests ts k,a ∉ T.adrs ts k
theorem T.nd_zero (t:T):t.Nd 0:=by unfold T.Nd; rw [T.adr_zero]; exact ⟨List.nodup_nil,fun _ _ h=>nomatch h⟩
theorem T.nds_zero (ts:List T):T.Nds ts 0:=by unfold T.Nds; rw [T.adrs_zero]; exact ⟨List.nodup_nil,fun _ _ h=>nomatch h⟩
theorem T.nds_cons {t:T} {r:List T} {k:Nat}:T.Nds (t :: r) k ↔ t.Nd k/\T.Nds r k/\(∀ a ∈ t.adr k,a ∉ T.rests r 0)/\(∀ a ∈ T.adrs r k,a ∉ t.rest 0):=by
 unfold T.Nds T.Nd
 simp only [T.adrs,T.rests,ac5,aai]
 constructor
 ·rintro ⟨⟨n1,n2,n3⟩,h⟩
  refine ⟨⟨n1,fun a ha hb=>h a (.inl ha) (.inl hb)⟩,⟨n2,fun a ha hb=>h a (.inr ha) (.inr hb)⟩,fun a ha hb=>?_,fun a ha hb=>?_⟩
  ·rcases (T.alls_iff r k).mp hb with q | q
   ·exact n3 a ha a q rfl
   ·exact h a (.inr q) (.inl ha)
  ·rcases (T.all_iff t k).mp hb with q | q
   ·exact n3 a q a ha rfl
   ·exact h a (.inl q) (.inr ha)
 ·rintro ⟨⟨n1,h1⟩,⟨n2,h2⟩,c1,c2⟩
  refine ⟨⟨n1,n2,fun a ha b hb e=>?_⟩,fun a ha hb=>?_⟩
  ·subst e
   exact c1 a ha ((T.alls_iff r k).mpr (.inl hb))
  ·rcases ha with ha | ha <;> rcases hb with hb | hb
   ·exact h1 a ha hb
   ·exact c2 a hb ((T.all_iff t k).mpr (.inr ha))
   ·exact c1 a hb ((T.alls_iff r k).mpr (.inr ha))
   ·exact h2 a ha hb
theorem T.nd_down:∀ (t:T) {k:Nat},t.Nd (k + 1)->t.Nd k:=by
 have lists:∀ (ts:List T),(∀ t ∈ ts,∀ {k:Nat},t.Nd (k + 1)->t.Nd k)->∀ {k:Nat},T.Nds ts (k + 1)->T.Nds ts k:=by
  intro ts
  induction ts with
  | nil=>intro _ k _; exact ⟨by simp [T.adrs],by simp [T.rests]⟩
  | cons t r ih =>
   intro h k n
   obtain ⟨n1,n2,c1,c2⟩:=T.nds_cons.mp n
   exact T.nds_cons.mpr ⟨h t (aac ..) n1,ih (fun u hu=>h u (aaa _ hu)) n2,fun a ha=>c1 a (T.adr_le t (ab7 k) ha),fun a ha=>c2 a (by
    obtain ⟨u,hu,hq⟩:=T.mem_adrs.mp ha
    exact T.mem_adrs.mpr ⟨u,hu,T.adr_le u (ab7 k) hq⟩)⟩
 refine T.ind (fun _=>by simp [T.Nd,T.adr]) (fun _ _=>by simp [T.Nd,T.adr]) (fun _ _=>by simp [T.Nd,T.adr]) (fun _ _=>by simp [T.Nd,T.adr]) (fun a ts ih k n=>?_) (fun a ts ih k n=>?_) (fun _ _ _=>by simp [T.Nd,T.adr])
 ·exact lists ts ih n
 ·cases k with
  | zero=>exact T.nd_zero _
  | succ k =>
   obtain ⟨n1,n2⟩:=n
   simp only [T.adr,T.rest,aaM] at n1 n2
   have:=lists ts ih (k:=k) ⟨n1.2,fun b hb hc=>n2 b hb (aaa _ hc)⟩
   refine ⟨?_,?_⟩
   ·simp only [T.adr,aaM]
    refine ⟨fun h=>n1.1 ?_,this.1⟩
    obtain ⟨u,hu,hq⟩:=T.mem_adrs.mp h
    exact T.mem_adrs.mpr ⟨u,hu,T.adr_le u (ab7 k) hq⟩
   ·intro b hb hc
    simp only [T.adr,T.rest,aal] at hb hc
    rcases hc with rfl | hc
    ·have h0:=(T.alls_iff ts (k + 1)).mp ((T.alls_iff ts k).mpr (.inr hb))
     rcases h0 with h0 | h0
     ·exact n1.1 h0
     ·exact n2 b h0 (aac ..)
    ·exact this.2 b hb hc
theorem T.nd_le (t:T) {k k':Nat} (h:k<=k') (n:t.Nd k'):t.Nd k:=by
 induction k' with
 | zero=>cases Nat.le_zero.mp h; exact n
 | succ k' ih =>
  rcases aa4 k (k' + 1) with q | q
  ·exact ih (aaH q) (T.nd_down t n)
  ·cases acg h q; exact n
theorem T.nds_le {ts:List T} {k k':Nat} (h:k<=k') (n:T.Nds ts k'):T.Nds ts k:=by
 have:=T.nd_le (.tup 0 ts) h (k':=k') n
 exact this
theorem T.Ok.keep' {p:Px} {H H':Hp}:∀ (t:T),(∀ a u,H a=some u->(a ∈ t.rest 0\/∀ vs,u ≠ .lst vs)->H' a=some u)->t.Ok p H->t.Ok p H':=by
 refine T.ind (P:=fun t=>(∀ a u,H a=some u->(a ∈ t.rest 0\/∀ vs,u ≠ .lst vs)->H' a=some u)->t.Ok p H->t.Ok p H') (fun _ h=>h) (fun _ _ h=>h) (fun _ _ h=>h) (fun _ _ h=>h) (fun a ts ih k h=>?_) (fun a ts ih k h=>?_) (fun a c k h=>?_)
 ·obtain ⟨h1,h2⟩:=h
  refine ⟨k _ _ h1 (.inr fun vs e=>nomatch e),T.oks_iff.mpr fun t ht=>ih t ht (fun b u e q=>k b u e ?_) (T.oks_iff.mp h2 t ht)⟩
  rcases q with q | q
  ·exact .inl (T.mem_rests.mpr ⟨t,ht,q⟩)
  ·exact .inr q
 ·obtain ⟨h1,h2⟩:=h
  refine ⟨?_,T.oks_iff.mpr fun t ht=>ih t ht (fun b u e q=>k b u e ?_) (T.oks_iff.mp h2 t ht)⟩
  ·rcases h1 with h1 | ⟨o,h1⟩
   ·exact .inl (k _ _ h1 (.inl (aac ..)))
   ·exact .inr ⟨o,k _ _ h1 (.inl (aac ..))⟩
  ·rcases q with q | q
   ·exact .inl (aaa _ (T.mem_rests.mpr ⟨t,ht,q⟩))
   ·exact .inr q
 ·exact ⟨k _ _ h.1 (.inr Up),h.2⟩
theorem T.Ok.keep {p:Px} {H H':Hp} {t:T} (k:∀ a u,H a=some u->(a ∈ t.rest 0\/∀ vs,u ≠ .lst vs)->H' a=some u) (h:t.Ok p H):t.Ok p H':=T.Ok.keep' t k h
theorem T.Ok.same {p:Px} {H H':Hp} {t:T} (s:Same H H') (h:t.Ok p H):t.Ok p H':=h.keep fun a u e _=>s a u e
theorem T.Oks.same {p:Px} {H H':Hp} {ts:List T} (s:Same H H') (h:T.Oks p H ts):T.Oks p H' ts:=T.oks_iff.mpr fun t ht=>(T.oks_iff.mp h t ht).same s
theorem T.Ok.at' {p:Px} {H:Hp} {a:Addr}:∀ (t:T),t.Ok p H->a ∈ t.rest 0->∃ vs,Rd H a (.lst vs):=by
 refine T.ind (P:=fun t=>t.Ok p H->a ∈ t.rest 0->∃ vs,Rd H a (.lst vs)) (fun _ h=>nomatch h) (fun _ _ h=>nomatch h) (fun _ _ h=>nomatch h) (fun _ _ h=>nomatch h) (fun b ts ih k h=>?_) (fun b ts ih k h=>?_) (fun _ _ _ h=>nomatch h)
 ·obtain ⟨t,ht,q⟩:=T.mem_rests.mp h
  exact ih t ht (T.oks_iff.mp k.2 t ht) q
 ·rcases aal.mp h with rfl | h
  ·exact ⟨_,k.1⟩
  ·obtain ⟨t,ht,q⟩:=T.mem_rests.mp h
   exact ih t ht (T.oks_iff.mp k.2 t ht) q
theorem T.Ok.at {p:Px} {H:Hp} {a:Addr} {t:T} (h:t.Ok p H) (m:a ∈ t.rest 0):∃ vs,Rd H a (.lst vs):=T.Ok.at' t h m
theorem Ry {H:Hp} {a:Addr} {u:HO} (h:Rd H a u):H a ≠ none:=by
 rcases h with h | ⟨o,h⟩ <;> rw [h] <;> simp
theorem T.Ok.dom {p:Px} {H:Hp} {a:Addr} {t:T} (h:t.Ok p H) (m:a ∈ t.rest 0):H a ≠ none:=by
 obtain ⟨vs,r⟩:=h.at m
 exact Ry r
theorem T.Ok.domk {p:Px} {H:Hp} {a:Addr} {t:T} {k:Nat} (h:t.Ok p H) (m:a ∈ t.adr k):H a ≠ none:=h.dom ((T.all_iff t k).mpr (.inl m))
end Pu
end
section
namespace Pu
open PySem PySem.Spec PyProof.Rows PySem.W L2
noncomputable def gj (c:Bool) (x:Nat × Nat):Option (Nat × Nat):=if c then some x else none
mutual
noncomputable def jk (tn:List Nat):E->Option (Nat × Nat)
 | .nm i=>match tn[i]? with
  | some j=>gj (decide (j < 90)) (j,0)
  | none=>none
 | .cN=>some (0,9)
 | .cB _=>some (0,9)
 | .cI _=>some (0,9)
 | .cS _=>some (0,9)
 | .gl _ d=>gj (D.scal d) (0,9)
 | .tup es=>jks tn es
 | .lst es=>(jks tn es).bind fun x=>some (if x.1=0 then (0,x.2 + 1) else (x.1 + 1,0))
 | .bin _ a b=>(jk tn a).bind fun x=>(jk tn b).bind fun y=>gj (decide (x.1<=1) && decide (y.1<=1)) (0,1)
 | .neg a=>(jk tn a).bind fun _=>some (0,9)
 | .not a=>(jk tn a).bind fun _=>some (0,9)
 | .cmp _ a b=>(jk tn a).bind fun _=>(jk tn b).bind fun _=>some (0,9)
 | .chain _ _ a b c=>(jk tn a).bind fun _=>(jk tn b).bind fun _=>(jk tn c).bind fun _=>some (0,9)
 | .isN _ a=>(jk tn a).bind fun _=>some (0,9)
 | .bo _ es=>jks tn es
 | .ifx c a b=>(jk tn c).bind fun _=>(jk tn a).bind fun x=>(jk tn b).bind fun y=>some (max x.1 y.1,if max x.1 y.1=0 then min x.2 y.2 else 0)
 | .ix a i=>(jk tn a).bind fun x=>(jk tn i).bind fun _=>gj (decide (x.1=0)) (0,0)
 | .ixL a i=>(jk tn a).bind fun x=>(jk tn i).bind fun _=>some (x.1 - 1,0)
 | .slc a lo hi=>(jk tn a).bind fun x=>(jk tn lo).bind fun _=>(jk tn hi).bind fun _=>gj (decide (x.1<=1)) (0,1)
 | .call f es=>(jks tn es).bind fun x=>gj (decide (x.1=0)) (0,f.dep)
 | .callB f es=>(jks tn es).bind fun _=>some (0,9)
 | .bi b es=>(jks tn es).bind fun x=>match b with
  | .list=>gj (decide (x.1=0)) (0,1)
  | .listL=>gj (decide (x.1<=1)) (0,1)
  | _=>some (0,9)
 | .listI it=>(jkI tn it).bind fun x=>some (0,1)
 | .isi a _=>(jk tn a).bind fun _=>some (0,9)
 | .mt _ a es=>(jk tn a).bind fun _=>(jks tn es).bind fun _=>some (0,9)
 | .comp0 nl fr _ it elt=>(jkI tn it).bind fun _=>(jk (aaj nl 0 ++ fr.map fun j=>tn.getD j 99) elt).bind fun x=>gj (decide (x.1=0)) (0,x.2 + 1)
 | .comp1 nl fr _ it cond elt=>(jkI tn it).bind fun _=>(jk (aaj nl 0 ++ fr.map fun j=>tn.getD j 99) cond).bind fun _ =>
   (jk (aaj nl 0 ++ fr.map fun j=>tn.getD j 99) elt).bind fun x=>gj (decide (x.1=0)) (0,x.2 + 1)
noncomputable def jks (tn:List Nat):Es->Option (Nat × Nat)
 | .nil=>some (0,9)
 | .cons e r=>(jk tn e).bind fun x=>(jks tn r).bind fun y=>some (max x.1 y.1,if max x.1 y.1=0 then min x.2 y.2 else 0)
noncomputable def jkI (tn:List Nat):It->Option Nat
 | .seq e=>(jk tn e).bind fun x=>if x.1=0 then some 0 else none
 | .seqL e=>(jk tn e).bind fun x=>if x.1<=1 then some x.1 else none
 | .r1 a=>(jk tn a).bind fun _=>some 0
 | .r2 a b=>(jk tn a).bind fun _=>(jk tn b).bind fun _=>some 0
 | .r3 a b c=>(jk tn a).bind fun _=>(jk tn b).bind fun _=>(jk tn c).bind fun _=>some 0
 | .rv e=>(jk tn e).bind fun x=>if x.1<=1 then some x.1 else none
end
noncomputable abbrev St:=L2.St
noncomputable abbrev Ft:=List (Option T)
noncomputable def vτ (τ:Ft):St:=τ.map (Option.map T.val)
noncomputable def dτ (τ:Ft):Fr:=τ.map (Option.map T.dat)
noncomputable def Fok (p:Px) (tn:List Nat) (τ:Ft) (H:Hp):Prop:=∀ (i:Nat) (t:T) (j:Nat),τ[i]?=some (some t)->tn[i]?=some j->j < 90->t.Ok p H
noncomputable def Sh (tn:List Nat) (τ:Ft) (a:Addr):Prop:=∃ (i:Nat) (t:T) (j:Nat),τ[i]?=some (some t)/\tn[i]?=some j/\j < 90/\a ∈ t.rest j
theorem Fok.same {p:Px} {tn:List Nat} {τ:Ft} {H H':Hp} (h:Fok p tn τ H) (s:Same H H'):Fok p tn τ H':=fun i t j e e' l=>(h i t j e e' l).same s
theorem Fok.dom {p:Px} {tn:List Nat} {τ:Ft} {H:Hp} (h:Fok p tn τ H) {a:Addr} (s:Sh tn τ a):H a ≠ none:=by
 obtain ⟨i,t,j,e,e',l,m⟩:=s
 exact (h i t j e e' l).dom (T.rest_le t (aar j) m)
theorem BS {τ:Ft} {i:Nat} {t:T} (h:τ[i]?=some (some t)):(vτ τ)[i]?=some (some t.val):=by simp [vτ,h]
theorem Dl {τ:Ft} {i:Nat} {d:D} (h:get (dτ τ) i=.ok d):∃ t,τ[i]?=some (some t)/\t.dat=d:=by
 unfold get dτ at h
 rw [aam] at h
 cases q:τ[i]? with
 | none=>rw [q] at h; cases h
 | some o =>
  rw [q] at h
  cases o with
  | none=>cases h
  | some t=>exact ⟨t,rfl,by simpa using h⟩
structure Rs (p:Px) (B:Addr->Prop) (H H':Hp) (j k:Nat) (t:T):Prop where
 same:Same H H'
 ok:t.Ok p H'
 src:∀ a ∈ t.rest j,H a=none\/B a
 new:∀ a ∈ t.adr k,H a=none/\∃ vs,H' a=some (.lst vs)
 nd:t.Nd k
structure RsL (p:Px) (B:Addr->Prop) (H H':Hp) (j k:Nat) (ts:List T):Prop where
 same:Same H H'
 ok:T.Oks p H' ts
 src:∀ a ∈ T.rests ts j,H a=none\/B a
 new:∀ a ∈ T.adrs ts k,H a=none/\∃ vs,H' a=some (.lst vs)
 nd:T.Nds ts k
theorem Rs.back {p:Px} {B:Addr->Prop} {H H1 H2:Hp} {j k:Nat} {t:T} (r:Rs p B H1 H2 j k t) (s:Same H H1):Rs p B H H2 j k t :=
 ⟨s.trans r.same,r.ok,fun a m=>(r.src a m).imp s.free id,fun a m=>⟨s.free (r.new a m).1,(r.new a m).2⟩,r.nd⟩
theorem Rs.fwd {p:Px} {B:Addr->Prop} {H H1 H2:Hp} {j k:Nat} {t:T} (r:Rs p B H H1 j k t) (s:Same H1 H2):Rs p B H H2 j k t :=
 ⟨r.same.trans s,r.ok.same s,r.src,fun a m=>⟨(r.new a m).1,let ⟨vs,e⟩:=(r.new a m).2; ⟨vs,s _ _ e⟩⟩,r.nd⟩
theorem Rs.le {p:Px} {B:Addr->Prop} {H H1:Hp} {j k j' k':Nat} {t:T} (r:Rs p B H H1 j k t) (hj:j<=j') (hk:k'<=k):Rs p B H H1 j' k' t :=
 ⟨r.same,r.ok,fun a m=>r.src a (T.rest_le t hj m),fun a m=>r.new a (T.adr_le t hk m),T.nd_le t hk r.nd⟩
theorem RsL.back {p:Px} {B:Addr->Prop} {H H1 H2:Hp} {j k:Nat} {t:List T} (r:RsL p B H1 H2 j k t) (s:Same H H1):RsL p B H H2 j k t :=
 ⟨s.trans r.same,r.ok,fun a m=>(r.src a m).imp s.free id,fun a m=>⟨s.free (r.new a m).1,(r.new a m).2⟩,r.nd⟩
noncomputable def T.sc:T->Bool
 | .non=>true
 | .bl _=>true
 | .int _=>true
 | .str _=>true
 | _=>false
theorem Rs.scal {p:Px} {B:Addr->Prop} {H H':Hp} {j k:Nat} {t:T} (s:Same H H') (h:t.sc=true):Rs p B H H' j k t:=by
 cases t <;> first | exact ⟨s,trivial,by simp [T.rest],by simp [T.adr],by simp [T.Nd,T.adr]⟩ | cases h
noncomputable def Lg {α:Type} (p:Px) (EX:EXT) (σ:St) (r:Res α) (H:Hp) (Kc:α->Prop):Prop:=match r with
 | .ok a=>Kc a
 | .exc c=>p.has c=true->∀ H',Same H H'->EX σ (.ref (p.cl c)) none H'
 | .bad=>False
theorem Lg.bind {α β:Type} {p:Px} {EX:EXT} {σ:St} {r:Res α} {f:α->Res β} {H:Hp} {Kc:β->Prop} (h:Lg p EX σ (r.bind f) H Kc):Lg p EX σ r H fun a=>Lg p EX σ (f a) H Kc:=by
 cases r <;> exact h
theorem Lg.mono {α:Type} {p:Px} {EX:EXT} {σ:St} {r:Res α} {H H1:Hp} {Kc Kc':α->Prop} (h:Lg p EX σ r H Kc) (s:Same H H1) (m:∀ a,r=.ok a->Kc a->Kc' a):Lg p EX σ r H1 Kc':=by
 cases r with
 | ok a=>exact m a rfl h
 | exc c=>exact fun hc H' s'=>h hc H' (s.trans s')
 | bad=>exact h
theorem Lg.guard {α:Type} {p:Px} {EX:EXT} {σ:St} {c:Prop} [Decidable c] {r:Res α} {H:Hp} {Kc:α->Prop} (h:Lg p EX σ (if c then r else .bad) H Kc):c/\Lg p EX σ r H Kc:=by
 split at h
 ·exact ⟨‹_›,h⟩
 ·exact nE h
noncomputable abbrev KE (p:Px) (B:Addr->Prop) (H:Hp) (j k:Nat) (Q:VK):D->Prop:=fun d=>∀ t H',t.dat=d->Rs p B H H' j k t->Q t.val H'
noncomputable abbrev KL (p:Px) (B:Addr->Prop) (H:Hp) (j k:Nat) (Q:List V->Hp->Prop):List D->Prop:=fun ds=>∀ ts H',T.dats ts=ds->RsL p B H H' j k ts->Q (ts.map T.val) H'
noncomputable def lE (p:Px) (EX:EXT) (tn:List Nat) (e:E):TE:=fun σ H Q=>∃ τ,σ=vτ τ/\Fok p tn τ H/\∃ j k,jk tn e=some (j,k)/\Lg p EX σ (ev e (dτ τ)) H (KE p (Sh tn τ) H j k Q)
noncomputable def lEs (p:Px) (EX:EXT) (tn:List Nat) (es:Es):TA:=fun σ H Q=>∃ τ,σ=vτ τ/\Fok p tn τ H/\∃ j k,jks tn es=some (j,k)/\Lg p EX σ (evs es (dτ τ)) H (KL p (Sh tn τ) H j k Q)
noncomputable def lT (p:Px) (EX:EXT) (tn:List Nat) (e:E):TT:=fun σ H Q=>∃ τ,σ=vτ τ/\Fok p tn τ H/\(jk tn e).isSome=true/\Lg p EX σ (tv e (dτ τ)) H fun b=>∀ H',Same H H'->Q b H'
theorem PE.mono {X:Cx} {e:Expr} {t t':TE} (h:PE X e t) (m:∀ σ H Q,t' σ H Q->t σ H Q):PE X e t':=fun pins s σ H Q I q=>h pins s σ H Q I (m _ _ _ q)
theorem PT.mono {X:Cx} {e:Expr} {t t':TT} (h:PT X e t) (m:∀ σ H Q,t' σ H Q->t σ H Q):PT X e t':=fun pins s σ H Q I q=>h pins s σ H Q I (m _ _ _ q)
theorem PA.mono {X:Cx} {e:List Expr} {t t':TA} (h:PA X e t) (m:∀ σ H Q,t' σ H Q->t σ H Q):PA X e t':=fun pos pins s σ H Q I q=>h pos pins s σ H Q I (m _ _ _ q)
section
variable {p:Px} {EX:EXT} {tn:List Nat} {X:Cx} {pos:Pos}
theorem DX {c:Bool} {x:Nat × Nat} {j k:Nat} (h:gj c x=some (j,k)):c=true/\x=(j,k):=by
 unfold gj at h
 split at h
 ·exact ⟨‹_›,Option.some.inj h⟩
 ·cases h
theorem l1 {x:E} {β:Type} {f:D->Res β} {τ:Ft} {H:Hp} {Kc:β->Prop} {Q:VK} {ja ka:Nat} (hF:Fok p tn τ H) (hj:jk tn x=some (ja,ka)) (h:Lg p EX (vτ τ) ((ev x (dτ τ)).bind f) H Kc)
  (m:∀ d t H1,t.dat=d->Rs p (Sh tn τ) H H1 ja ka t->Lg p EX (vτ τ) (f d) H Kc->Q t.val H1):lE p EX tn x (vτ τ) H Q :=
 ⟨τ,rfl,hF,ja,ka,hj,h.bind.mono (Same.refl _) fun d _ hd t H1 ht R=>m d t H1 ht R hd⟩
theorem l2 {x:E} {β:Type} {f:D->Res β} {τ:Ft} {H H1:Hp} {Kc:β->Prop} {Q:VK} {ja ka:Nat} (hF:Fok p tn τ H) (s:Same H H1) (hj:jk tn x=some (ja,ka)) (h:Lg p EX (vτ τ) ((ev x (dτ τ)).bind f) H Kc)
  (m:∀ d t H2,t.dat=d->Rs p (Sh tn τ) H1 H2 ja ka t->Lg p EX (vτ τ) (f d) H Kc->Q t.val H2):lE p EX tn x (vτ τ) H1 Q :=
 ⟨τ,rfl,hF.same s,ja,ka,hj,h.bind.mono s fun d _ hd t H2 ht R=>m d t H2 ht R hd⟩
theorem Uq {i:Nat} {x:Str} (hN:X.N[i]?=some x) (hv:Vis X.env.scope x) (hd:(x==("__debug__" : Str))=false) (hcd:(x==("__classdict__" : Str))=false):PE X (.Name x pos) (lE p EX tn (.nm i)):=by
 refine PE.mono (Dr hN hv hd hcd) fun σ H Q h=>?_
 obtain ⟨τ,rfl,hF,j,k,hj,h⟩:=h
 simp only [jk] at hj
 split at hj
 ·rename_i j' hj'
  obtain ⟨hlt,e⟩:=DX hj
  cases e
  simp only [ev] at h
  cases q:get (dτ τ) i with
  | ok d =>
   rw [q] at h
   obtain ⟨t,ht,e⟩:=Dl q
   exact ⟨t.val,BS ht,h t H e ⟨Same.refl _,hF i t j ht hj' (of_decide_eq_true hlt),fun a m=>.inr ⟨i,t,j,ht,hj',of_decide_eq_true hlt,m⟩,by rw [T.adr_zero]; simp,T.nd_zero t⟩⟩
  | exc c=>rw [q] at h; unfold get at q; split at q <;> cases q
  | bad=>rw [q] at h; exact h.elim
 ·cases hj
theorem HX {e:Expr} {x:E} {t:T} (hp:PE X e (tC t.val)) (hs:t.sc=true) (he:∀ δ,ev x δ=.ok t.dat):PE X e (lE p EX tn x):=by
 refine PE.mono hp fun σ H Q h=>?_
 obtain ⟨τ,rfl,hF,j,k,hj,h⟩:=h
 rw [he] at h
 exact h t H rfl (Rs.scal (Same.refl _) hs)
theorem Rz {B:Addr->Prop} {H H1 H2:Hp} {j1 k1 j2 k2:Nat} {t:T} {ts:List T} (hB:∀ a,B a->H a ≠ none) (r:Rs p B H H1 j1 k1 t) (q:RsL p B H1 H2 j2 k2 ts):RsL p B H H2 (max j1 j2) (if max j1 j2=0 then min k1 k2 else 0) (t :: ts):=by
 have r2:=r.fwd q.same
 refine ⟨r2.same,⟨r2.ok,q.ok⟩,fun a m=>?_,fun a m=>?_,?_⟩
 ·simp only [T.rests,aai] at m
  rcases m with m | m
  ·exact r.src a (T.rest_le t (Nat.le_max_left ..) m)
  ·obtain ⟨u,hu,m⟩:=T.mem_rests.mp m
   exact (q.src a (T.mem_rests.mpr ⟨u,hu,T.rest_le u (Nat.le_max_right ..) m⟩)).imp r.same.free id
 ·split at m
  ·simp only [T.adrs,aai] at m
   rcases m with m | m
   ·exact r2.new a (T.adr_le t (abu ..) m)
   ·obtain ⟨u,hu,m⟩:=T.mem_adrs.mp m
    have z:=q.new a (T.mem_adrs.mpr ⟨u,hu,T.adr_le u (abG ..) m⟩)
    exact ⟨r.same.free z.1,z.2⟩
  ·rw [T.adrs_zero] at m; cases m
 ·split
  ·rename_i hz
   have h1:j1=0:=by omega
   have h2:j2=0:=by omega
   subst h1 h2
   refine T.nds_cons.mpr ⟨T.nd_le t (abu ..) r.nd,T.nds_le (abG ..) q.nd,fun a m m'=>?_,fun a m m'=>?_⟩
   ·have m1:=T.adr_le t (abu k1 k2) m
    rcases q.src a m' with z | z
    ·exact r.ok.domk m1 z
    ·exact hB a z (r.new a m1).1
   ·obtain ⟨u,hu,m⟩:=T.mem_adrs.mp m
    exact r.ok.dom m' (q.new a (T.mem_adrs.mpr ⟨u,hu,T.adr_le u (abG ..) m⟩)).1
  ·exact T.nds_zero _
theorem PN:PA X [] (lEs p EX tn .nil):=by
 refine PA.mono By fun σ H Q h=>?_
 obtain ⟨τ,rfl,hF,j,k,hj,h⟩:=h
 exact h [] H rfl ⟨Same.refl _,trivial,by simp [T.rests],by simp [T.adrs],by simp [T.Nds,T.adrs]⟩
theorem N9 {e:Expr} {es:List Expr} {x:E} {xs:Es} (he:PE X e (lE p EX tn x)) (hes:PA X es (lEs p EX tn xs)) (hs:starEach (e :: es) X.env=(false,eval e X.env) :: starEach es X.env):PA X (e :: es) (lEs p EX tn (.cons x xs)):=by
 refine PA.mono (AC he hes hs) fun σ H Q h=>?_
 obtain ⟨τ,rfl,hF,j,k,hj,h⟩:=h
 simp only [jks] at hj
 obtain ⟨⟨j1,k1⟩,h1,hj⟩:=bS hj
 obtain ⟨⟨j2,k2⟩,h2,hj⟩:=bS hj
 cases hj
 simp only [evs] at h
 refine l1 hF h1 h fun d t H1 ht R h=>?_
 refine ⟨τ,rfl,hF.same R.same,j2,k2,h2,h.bind.mono R.same fun ds _ hd ts H2 hts R2=>?_⟩
 exact hd (t :: ts) H2 (by simp [T.dats,ht,hts]) (Rz (fun a=>hF.dom) R R2)
end
section
variable {p:Px} {EX:EXT} {tn:List Nat} {X:Cx} {pos:Pos}
theorem Ur {B:Addr->Prop} {H H1:Hp} {j k:Nat} {a:Addr} {ts:List T} (r:RsL p B H H1 j k ts) (hn:H1 a=none):Rs p B H (L2.upd H1 a (.tup (ts.map T.val))) j k (.tup a ts):=by
 have s:=Same.new (o:=.tup (ts.map T.val)) hn
 exact ⟨r.same.trans s,⟨A9,r.ok.same s⟩,r.src,fun b m=>⟨(r.new b m).1,let ⟨vs,e⟩:=(r.new b m).2; ⟨vs,s _ _ e⟩⟩,r.nd⟩
theorem Oa {B:Addr->Prop} {H H1:Hp} {j k:Nat} {a:Addr} {ts:List T} (r:RsL p B H H1 j k ts) (hn:H1 a=none) :
  Rs p B H (L2.upd H1 a (.lst (ts.map T.val))) (if j=0 then 0 else j + 1) (if j=0 then k + 1 else 0) (.lst a ts):=by
 have s:=Same.new (o:=.lst (ts.map T.val)) hn
 have ha:H a=none:=r.same.free hn
 refine ⟨r.same.trans s,⟨.inl A9,r.ok.same s⟩,fun b m=>?_,fun b m=>?_,?_⟩
 ·split at m
  ·rename_i e
   subst e
   simp only [T.rest,aal] at m
   rcases m with rfl | m
   ·exact .inl ha
   ·exact r.src b m
  ·exact r.src b m
 ·split at m
  ·simp only [T.adr,aal] at m
   rcases m with rfl | m
   ·exact ⟨ha,_,A9⟩
   ·exact ⟨(r.new b m).1,let ⟨vs,e⟩:=(r.new b m).2; ⟨vs,s _ _ e⟩⟩
  ·rw [T.adr_zero] at m; cases m
 ·split
  ·rename_i e
   subst e
   have out:a ∉ T.rests ts 0:=fun m=>by
    obtain ⟨t,ht,m⟩:=T.mem_rests.mp m
    exact (T.oks_iff.mp r.ok t ht).dom m hn
   refine ⟨?_,fun b m m'=>?_⟩
   ·simp only [T.adr,aaM]
    exact ⟨fun m=>out ((T.alls_iff ts k).mpr (.inl m)),r.nd.1⟩
   ·simp only [T.adr,T.rest,aal] at m m'
    rcases m' with rfl | m'
    ·exact out ((T.alls_iff ts k).mpr (.inr m))
    ·exact r.nd.2 b m m'
  ·exact T.nd_zero _
theorem Ak:∀ ts:List T,(T.dats ts).length=ts.length:=fun ts=>by rw [T.dats_map,aab]
noncomputable def Es.len:Es->Nat
 | .nil=>0
 | .cons _ r=>r.len + 1
theorem CG:∀ (es:Es) (δ:Fr) (ds:List D),evs es δ=.ok ds->ds.length=es.len
 | .nil,δ,ds,h=>by simp only [evs] at h; cases h; rfl
 | .cons e r,δ,ds,h=>by
  simp only [evs] at h
  obtain ⟨x,_,h⟩:=Res.bind_eq_ok h
  obtain ⟨xs,h2,h⟩:=Res.bind_eq_ok h
  cases h
  rw [aaP,CG r δ xs h2,Es.len]
theorem RA {es:List Expr} {xs:Es} {k1:Nat} (h:PA X es (lEs p EX tn xs)) (hl:xs.len<=1000):PE X (.Tuple es k1 pos) (lE p EX tn (.tup xs)):=by
 refine PE.mono (TX h) fun σ H Q h=>?_
 obtain ⟨τ,rfl,hF,j,k,hj,h⟩:=h
 simp only [ev] at h
 refine ⟨τ,rfl,hF,j,k,hj,h.bind.mono (Same.refl _) fun ds e hd ts H1 hts R=>⟨?_,fun a ha=>hd (.tup a ts) _ (by simp [T.dat,hts]) (Ur R ha)⟩⟩
 have:=CG _ _ _ e
 rw [aab,<- Ak,hts,this]
 exact aao hl (by decide)
theorem RB {es:List Expr} {xs:Es} (h:PA X es (lEs p EX tn xs)) (hl:xs.len<=1000):PE X (.List es pos) (lE p EX tn (.lst xs)):=by
 refine PE.mono (TY h) fun σ H Q h=>?_
 obtain ⟨τ,rfl,hF,j,k,hj,h⟩:=h
 simp only [jk] at hj
 obtain ⟨⟨j1,k1⟩,h1,hj⟩:=bS hj
 simp only [ev] at h
 refine ⟨τ,rfl,hF,j1,k1,h1,h.bind.mono (Same.refl _) fun ds e hd ts H1 hts R=>⟨?_,fun a ha=>hd (.lst a ts) _ (by simp [T.dat,hts]) ?_⟩⟩
 ·have:=CG _ _ _ e
  rw [aab,<- Ak,hts,this]
  exact aao hl (by decide)
 ·have q:=Oa R ha
  have hj:=Option.some.inj hj
  by_cases z:j1=0
  ·subst z; simp only [if_true] at q; simp at hj; obtain ⟨rfl,rfl⟩:=hj; exact q
  ·simp only [if_neg z] at q; simp [z] at hj; obtain ⟨rfl,rfl⟩:=hj; exact q
noncomputable def MR:B2->Operator
 | .add=>.Add
 | .sub=>.Sub
 | .mul=>.Mult
 | .fdiv=>.FloorDiv
 | .mod=>.Mod
 | .pow=>.Pow
theorem Inv.lstR {pins:List (Addr × Obj)} {σ:St} {H:Hp} {s:Shared} {l:Addr} {xs:List V} (I:Inv X pins σ H s) (hH:Rd H l (.lst xs)):xs.length<=sizeLine/\∃ (its:List Value) (n:Nat),Vals xs its/\xs.length=its.length/\s.heap.get? l=some { cls:=.type "list",data:=.seq its.toArray n }:=by
 obtain ⟨z,its,n,r,e⟩:=hH.ok I.hok
 exact ⟨z,its,n,r,r.length,e⟩
noncomputable def QW:R2:=fun x y H Q=>∃ l b xs zs,x=.ref l/\y=.ref b/\Rd H l (.lst xs)/\Rd H b (.lst zs)/\xs.length + zs.length<=sizeLine/\∀ q,H q=none->Q (.ref q) (L2.upd H q (.lst (xs ++ zs)))
theorem RC:OpR X (binaryOp .Add) QW:=by
 intro pins s σ H x y v u Q I rx ry h
 obtain ⟨l,b,xs,zs,rfl,rfl,hH,hB,hz,q⟩:=h
 cases rx
 cases ry
 obtain ⟨z,its,n,r,hl,e⟩:=Inv.lstR I hH
 obtain ⟨z2,its2,n2,r2,hl2,e2⟩:=Inv.lstR I hB
 refine PySem.P.add_list e e2 ?_ (by rw [aaq,aaq]; omega)
 have ea:its.toArray ++ its2.toArray=(its ++ its2).toArray:=by simp
 rw [ea]
 exact ⟨.ref _,_,I.lnew (t':=s.toks) (r.append r2) (by rw [aaC]; omega),rfl,q _ I.fresh⟩
noncomputable def QX:R2:=fun x y H Q=>∃ l k xs,x=.ref l/\y=.int k/\Rd H l (.lst xs)/\-(2 ^ 63)<=k/\k < 2 ^ 63/\xs.length * k.toNat<=sizeLine /\
 ∀ q,H q=none->Q (.ref q) (L2.upd H q (.lst (aaj k.toNat xs).flatten))
noncomputable def QY (_ j:Int):Prop:=0 < j/\j < 2 ^ 200
theorem PP:OpR X (binaryOp .FloorDiv) (rI QY fun i j=>.int (i / j)):=opI fun i j _ _ _ _ _ hc q=>by
 have e:i / j=i.fdiv j:=(Int.fdiv_eq_ediv_of_nonneg _ (Int.le_of_lt hc.1)).symm
 rw [e] at q
 refine floordiv_int (by have:=hc.1; omega) q (.inl (PyProof.noPylong_of_log2 ?_))
 have h1:j.natAbs < 2 ^ 200:=by
  have e1:(j.natAbs:Int)=j:=Int.natAbs_of_nonneg (Int.le_of_lt hc.1)
  have e2:(j.natAbs:Int) < ((2 ^ 200:Nat):Int):=by rw [e1]; exact hc.2
  exact Int.ofNat_lt.mp e2
 have:j.natAbs.log2 < 200:=by
  refine (acH (by have:=hc.1; omega)).mpr h1
 omega
theorem RE:OpR X (binaryOp .Mult) QX:=by
 intro pins s σ H x y v u Q I rx ry h
 obtain ⟨l,k,xs,rfl,rfl,hH,h1,h2,hz,q⟩:=h
 cases rx
 obtain ⟨t,rfl⟩:=ry
 obtain ⟨z,its,n,r,hl,e⟩:=Inv.lstR I hH
 have hlen:its.toArray.size * k.toNat<=sizeLine:=by rw [aaq,<- hl]; exact hz
 have hcap:¬ its.toArray.size * k.toNat > (2 ^ 63 - 1) / 8:=by
  have:(sizeLine:Nat)<=(2 ^ 63 - 1) / 8:=by decide
  omega
 have hfit:¬ (!Builtin.List.listFitsIndex k)=true:=by
  rw [fitsIndex_both h1 h2]
  exact aa0
 have hlong:¬ Builtin.List.listTooLong (its.toArray.size * k.toNat)=true:=by
  rw [J7 hlen]
  exact aa0
 have hnew:ada (fun x1 x2=>x1 ++ x2) #[] (aaj (if its.toArray.isEmpty=true then 0 else k.toNat) its.toArray)=(aaj k.toNat its).flatten.toArray:=by
  have f0:∀ m:Nat,ada (fun x1 x2=>x1 ++ x2) #[] (aaj m its.toArray)=(aaj m its).flatten.toArray:=fun m=>by
   have:=Jo its m []
   rw [aaX] at this
   exact this
  rw [f0]
  cases its with
  | nil=>simp
  | cons a r'=>rw [if_neg (by simp)]
 refine wpAny_binaryOp_repeat_ref (T := "list") (U := "int") (by decide) ⟨_,e,rfl⟩ (fun s'=>typeIs_int s' k t) noFill_list_mul F.fills_int_mul F.slot_int_rmul repeat_list F.slot_int_index.lookup
  (call_meets F.slot_int_rmul (typeIs_int s k t) F.entry_int_rmul (F.args_int_rmul_2 _ _) (int___rmul___int_list k t l its.toArray n)
   ⟨e,rfl,⟨_,e,rfl⟩,call_meets F.slot_list_mul ⟨_,e,rfl⟩ F.entry_list_mul (F.args_list_mul_2 _ _) (AutoListH.list___mul___list_int_3 l its.toArray n k t hfit hcap hlong) ⟨e,?_⟩⟩)
 rw [hnew]
 exact ⟨.ref _,_,I.lnew (t':=s.toks) (r.rep k.toNat) (by rw [Rm,abP]; exact hz),rfl,q _ I.fresh⟩
noncomputable def CMulB (i j:Int):Prop:=CMul i j\/(i.natAbs < 2 ^ 400/\j.natAbs < 2 ^ 400)
theorem LU {k:Int} (h:k.natAbs < 2 ^ 400):Builtin.Int.intBits k<=400:=by
 unfold Builtin.Int.intBits
 split
 ·exact aar _
 ·have:k.natAbs.log2 < 400:=by
   rcases aco k.natAbs with h0 | hp
   ·rw [h0]; decide
   ·exact (acH (abz hp)).mpr h
  omega
theorem CMulB.ok {i j:Int} (h:CMulB i j):IntMulOk i j:=by
 rcases h with h | ⟨h1,h2⟩
 ·exact h.ok
 ·have b1:=LU h1
  have b2:=LU h2
  have:Builtin.Int.intTooBig (Builtin.Int.intBits i + Builtin.Int.intBits j)=false:=by
   unfold Builtin.Int.intTooBig bitsLine
   exact decide_eq_false (by omega)
  unfold IntMulOk
  rw [this]
  simp
theorem RF:OpR X (binaryOp .Mult) (rI CMulB fun i j=>.int (i * j)):=opI fun _ _ _ _ _ _ _ hc q=>mul_int q hc.ok
noncomputable def Us:B2->R2
 | .add=>fun x y H Q=>rI0 (fun i j=>.int (i + j)) x y H Q\/(QW x y H Q\/∃ i j,x=.str i/\y=.str j/\i.length + j.length<=sizeLine/\Q (.str (i ++ j)) H)
 | .sub=>rI0 fun i j=>.int (i - j)
 | .mul=>fun x y H Q=>rI CMulB (fun i j=>.int (i * j)) x y H Q\/QX x y H Q
 | .fdiv=>rI QY fun i j=>.int (i / j)
 | .mod=>rI (fun _ j=>0 < j) fun i j=>.int (i % j)
 | .pow=>rI TL fun i j=>.int (i ^ j.toNat)
theorem RG:∀ o:B2,OpR X (binaryOp (MR o)) (Us o)
 | .add=>TM.or (RC.or ME)
 | .sub=>TN
 | .mul=>RF.or RE
 | .fdiv=>PP
 | .mod=>TQ
 | .pow=>TR
theorem Rs.elems {B:Addr->Prop} {H H1:Hp} {j k:Nat} {a:Addr} {ts:List T} (r:Rs p B H H1 j k (.lst a ts)) (hj:j<=1):∀ b ∈ T.rests ts 0,H b=none\/B b:=fun b m=>by
 refine r.src b (T.rest_le _ hj (j':=1) ?_)
 exact m
theorem CZ {B:Addr->Prop} {H H1:Hp} {a:Addr} {ts:List T} (s:Same H H1) (ok:T.Oks p H1 ts) (src:∀ b ∈ T.rests ts 0,H b=none\/B b) (hn:H1 a=none):Rs p B H (L2.upd H1 a (.lst (ts.map T.val))) 0 1 (.lst a ts):=by
 have:=Oa (j:=0) (k:=0) (p:=p) (B:=B) (H:=H) (a:=a) (ts:=ts) ⟨s,ok,src,by rw [T.adrs_zero]; simp,T.nds_zero ts⟩ hn
 exact this
theorem LV {t:T} {f:Int->Res D} {Q:Res D->Prop} (hb:¬ Q .bad) (h:Q (D7 t.dat f)):∃ i,t=.int i/\Q (f i):=by
 cases t with
 | int i=>exact ⟨i,rfl,h⟩
 | _=>exact absurd h hb
theorem Ca {t u:T} {f:Int->Int->Res D} {Q:Res D->Prop} (hb:¬ Q .bad) (h:Q (BR t.dat u.dat f)):∃ i j,t=.int i/\u=.int j/\Q (f i j):=by
 obtain ⟨i,rfl,h⟩:=LV (t:=t) hb h
 obtain ⟨j,rfl,h⟩:=LV (t:=u) hb h
 exact ⟨i,j,rfl,rfl,h⟩
theorem RH {t u:T} {Q:Res D->Prop} (hb:¬ Q .bad) (h:Q (MP t.dat u.dat)):(∃ i j,t=.int i/\u=.int j/\Q (.ok (.int (i + j))))\/(∃ x y,t=.str x/\u=.str y/\Q (MP (.str x) (.str y)))\/∃ a ts b us,t=.lst a ts/\u=.lst b us/\Q (MP (.lst (T.dats ts)) (.lst (T.dats us))):=by
 cases t with
 | int i =>
  cases u with
  | int j=>exact .inl ⟨i,j,rfl,rfl,h⟩
  | _=>exact absurd h hb
 | str x =>
  cases u with
  | str y=>exact .inr (.inl ⟨x,y,rfl,rfl,h⟩)
  | _=>exact absurd h hb
 | lst a ts =>
  cases u with
  | lst b us=>exact .inr (.inr ⟨a,ts,b,us,rfl,rfl,h⟩)
  | _=>exact absurd h hb
 | _=>exact absurd h hb
theorem RI {t u:T} {Q:Res D->Prop} (hb:¬ Q .bad) (h:Q (Kj t.dat u.dat)):(∃ i j,t=.int i/\u=.int j/\Q (Kj (.int i) (.int j)))\/∃ a ts k,t=.lst a ts/\u=.int k/\Q (Kj (.lst (T.dats ts)) (.int k)):=by
 cases t with
 | int i =>
  cases u with
  | int j=>exact .inl ⟨i,j,rfl,rfl,h⟩
  | _=>exact absurd h hb
 | lst a ts =>
  cases u with
  | int k=>exact .inr ⟨a,ts,k,rfl,rfl,h⟩
  | _=>exact absurd h hb
 | _=>exact absurd h hb
theorem VH {B:Addr->Prop} {H H2:Hp} {ja jb ka kb:Nat} {t u:T} {o:B2} {σ:St} {Q:VK} (r:Rs p B H H2 ja ka t) (r':Rs p B H H2 jb kb u) (ha:ja<=1) (hb:jb<=1) (h:Lg p EX σ (b2 o t.dat u.dat) H (KE p B H 0 1 Q)):Us o t.val u.val H2 Q:=by
 have sc:∀ w:T,w.sc=true->Rs p B H H2 0 1 w:=fun w hw=>Rs.scal r.same hw
 cases o with
 | add =>
  rcases RH (Q:=fun r=>Lg p EX σ r H _) id h with ⟨i,j,rfl,rfl,h⟩ | ⟨x,y,rfl,rfl,h⟩ | ⟨a,ts,b,us,rfl,rfl,h⟩
  ·exact .inl ⟨_,_,rfl,rfl,h (.int _) H2 rfl (sc _ rfl)⟩
  ·obtain ⟨hl,h⟩:=h.guard
   exact .inr (.inr ⟨_,_,rfl,rfl,hl,h (.str _) H2 rfl (sc _ rfl)⟩)
  ·skip
   obtain ⟨hl,h⟩:=h.guard
   ·refine .inr (.inl ⟨a,b,_,_,rfl,rfl,r.ok.1,r'.ok.1,?_,fun q hq=>?_⟩)
    ·rw [aab,aab,<- Ak,<- Ak]; exact hl
    ·rw [<- aat]
     refine h (.lst q (ts ++ us)) _ (by simp [T.dat,T.dats_map]) (CZ r.same (T.oks_iff.mpr fun w hw=>?_) (fun c m=>?_) hq)
     ·rcases aai.mp hw with hw | hw
      ·exact T.oks_iff.mp r.ok.2 w hw
      ·exact T.oks_iff.mp r'.ok.2 w hw
     ·rw [T.rests_append,aai] at m
      rcases m with m | m
      ·exact r.elems ha c m
      ·exact r'.elems hb c m
 | sub =>
  obtain ⟨i,j,rfl,rfl,h⟩:=Ca (Q:=fun r=>Lg p EX σ r H _) id h
  exact ⟨_,_,rfl,rfl,h (.int _) H2 rfl (sc _ rfl)⟩
 | mul =>
  rcases RI (Q:=fun r=>Lg p EX σ r H _) id h with ⟨i,j,rfl,rfl,h⟩ | ⟨a,ts,k,rfl,rfl,h⟩
  ·by_cases c:(-(2 ^ 64) < i/\i < 2 ^ 64)\/(-(2 ^ 64) < j/\j < 2 ^ 64)
   ·have h:Lg p EX σ (if (-(2 ^ 64) < i/\i < 2 ^ 64)\/(-(2 ^ 64) < j/\j < 2 ^ 64) then Res.ok (D.int (i * j)) else if i.natAbs < 2 ^ 400/\j.natAbs < 2 ^ 400 then .ok (.int (i * j)) else .bad) H _:=h
    rw [if_pos c] at h
    exact .inl ⟨_,_,rfl,rfl,.inl c,h (.int _) H2 rfl (sc _ rfl)⟩
   ·have h:Lg p EX σ (if (-(2 ^ 64) < i/\i < 2 ^ 64)\/(-(2 ^ 64) < j/\j < 2 ^ 64) then Res.ok (D.int (i * j)) else if i.natAbs < 2 ^ 400/\j.natAbs < 2 ^ 400 then .ok (.int (i * j)) else .bad) H _:=h
    rw [if_neg c] at h
    obtain ⟨hl,h⟩:=h.guard
    exact .inl ⟨_,_,rfl,rfl,.inr hl,h (.int _) H2 rfl (sc _ rfl)⟩
  ·skip
   obtain ⟨⟨h1,h2,h3⟩,h⟩:=h.guard
   ·refine .inr ⟨a,k,_,rfl,rfl,r.ok.1,h1,h2,?_,fun q hq=>?_⟩
    ·rw [aab,<- Ak]; exact h3
    ·have e:(aaj k.toNat (ts.map T.val)).flatten=(aaj k.toNat ts).flatten.map T.val:=by
      rw [List.map_flatten,abn]
     rw [e]
     refine h (.lst q (aaj k.toNat ts).flatten) _ ?_ (CZ r.same (T.oks_iff.mpr fun w hw=>?_) (fun c m=>?_) hq)
     ·rw [T.dat,T.dats_map,T.dats_map,List.map_flatten,abn]
     ·obtain ⟨l,hl,hw⟩:=List.mem_flatten.mp hw
      rw [(abo.mp hl).2] at hw
      exact T.oks_iff.mp r.ok.2 w hw
     ·obtain ⟨w,hw,m⟩:=T.mem_rests.mp m
      obtain ⟨l,hl,hw⟩:=List.mem_flatten.mp hw
      rw [(abo.mp hl).2] at hw
      exact r.elems ha c (T.mem_rests.mpr ⟨w,hw,m⟩)
 | fdiv =>
  obtain ⟨i,j,rfl,rfl,h⟩:=Ca (Q:=fun r=>Lg p EX σ r H _) id h
  obtain ⟨hl,h⟩:=h.guard
  exact ⟨_,_,rfl,rfl,hl,h (.int _) H2 rfl (sc _ rfl)⟩
 | mod =>
  obtain ⟨i,j,rfl,rfl,h⟩:=Ca (Q:=fun r=>Lg p EX σ r H _) id h
  obtain ⟨hl,h⟩:=h.guard
  exact ⟨_,_,rfl,rfl,hl,h (.int _) H2 rfl (sc _ rfl)⟩
 | pow =>
  obtain ⟨i,j,rfl,rfl,h⟩:=Ca (Q:=fun r=>Lg p EX σ r H _) id h
  obtain ⟨hl,h⟩:=h.guard
  exact ⟨_,_,rfl,rfl,hl,h (.int _) H2 rfl (sc _ rfl)⟩
theorem RJ {a b:Expr} {x y:E} {o:B2} (ha:PE X a (lE p EX tn x)) (hb:PE X b (lE p EX tn y)):PE X (.BinOp a (MR o) b pos) (lE p EX tn (.bin o x y)):=by
 refine PE.mono (Vu (RG o) ha hb) fun σ H Q h=>?_
 obtain ⟨τ,rfl,hF,j,k,hj,h⟩:=h
 simp only [jk] at hj
 obtain ⟨⟨j1,k1⟩,h1,hj⟩:=bS hj
 obtain ⟨⟨j2,k2⟩,h2,hj⟩:=bS hj
 obtain ⟨hc,e⟩:=DX hj
 cases e
 simp only [aaf,decide_eq_true_eq] at hc
 simp only [ev] at h
 refine l1 hF h1 h fun d t H1 ht R h=>l2 hF R.same h2 h fun d' t' H2 ht' R' h=>?_
 subst ht ht'
 exact VH (R.fwd R'.same) (R'.back R.same) hc.1 hc.2 h
end
mutual
noncomputable def D.py:D->PyData
 | .non=>.none
 | .bl b=>.bool b
 | .int i=>.int i
 | .str x=>.str x
 | .tup ds=>.tuple (D.pys ds)
 | .lst ds=>.list (D.pys ds)
 | .exn _=>.none
noncomputable def D.pys:List D->List PyData
 | []=>[]
 | d :: r=>d.py :: D.pys r
end
theorem D.ind {P:D->Prop} (h0:P .non) (h1:∀ b,P (.bl b)) (h2:∀ i,P (.int i)) (h3:∀ x,P (.str x)) (h4:∀ ts,(∀ t ∈ ts,P t)->P (.tup ts)) (h5:∀ ts,(∀ t ∈ ts,P t)->P (.lst ts)) (h6:∀ c,P (.exn c)):∀ t,P t
 | .non=>h0
 | .bl b=>h1 b
 | .int i=>h2 i
 | .str x=>h3 x
 | .tup ts=>h4 ts fun t h=>D.ind h0 h1 h2 h3 h4 h5 h6 t
 | .lst ts=>h5 ts fun t h=>D.ind h0 h1 h2 h3 h4 h5 h6 t
 | .exn c=>h6 c
termination_by t=>t
theorem BF {n c:Nat}:D.shp n (.exn c)=false:=by cases n <;> rfl
theorem Ev {n:Nat} {ds:List D} (h:D.shp n (.tup ds)=true):∃ m,n=m + 1/\∀ d ∈ ds,D.shp m d=true:=by
 cases n with
 | zero=>cases h
 | succ m=>exact ⟨m,rfl,by simpa [D.shp] using h⟩
theorem Ew {n:Nat} {ds:List D} (h:D.shp n (.lst ds)=true):∃ m,n=m + 1/\∀ d ∈ ds,D.shp m d=true:=by
 cases n with
 | zero=>cases h
 | succ m=>exact ⟨m,rfl,by simpa [D.shp] using h⟩
theorem Kk:∀ (d e:D) (n m:Nat),d.shp n=true->e.shp m=true->d.eqv e=d.py.eqv e.py:=by
 have lists:∀ (ds:List D),(∀ d ∈ ds,∀ (e:D) (n m:Nat),d.shp n=true->e.shp m=true->d.eqv e=d.py.eqv e.py)->∀ (es:List D) (n m:Nat),(∀ d ∈ ds,d.shp n=true)->(∀ e ∈ es,e.shp m=true)->D.eqvs ds es=PyData.eqvAll (D.pys ds) (D.pys es):=by
  intro ds
  induction ds with
  | nil=>intro _ es n m _ _; cases es <;> simp [D.eqvs,D.pys,PyData.eqvAll]
  | cons d r ih =>
   intro h es n m h1 h2
   cases es with
   | nil=>simp [D.eqvs,D.pys,PyData.eqvAll]
   | cons e s =>
    simp only [D.eqvs,D.pys,PyData.eqvAll]
    rw [h d (aac ..) e n m (h1 d (aac ..)) (h2 e (aac ..)),ih (fun x hx=>h x (aaa _ hx)) s n m (fun x hx=>h1 x (aaa _ hx)) (fun x hx=>h2 x (aaa _ hx))]
 refine D.ind ?_ ?_ ?_ ?_ ?_ ?_ ?_
 ·intro e n m _ h; cases e <;> simp [D.eqv,D.py,PyData.eqv,BF] at h ⊢
 ·intro b e n m _ h; cases e <;> simp [D.eqv,D.py,PyData.eqv,BF] at h ⊢
 ·intro b e n m _ h; cases e <;> simp [D.eqv,D.py,PyData.eqv,BF] at h ⊢
 ·intro b e n m _ h; cases e <;> simp [D.eqv,D.py,PyData.eqv,BF] at h ⊢
 ·intro ds ih e n m h1 h2
  cases e with
  | tup es =>
   obtain ⟨n',_,h1⟩:=Ev h1
   obtain ⟨m',_,h2⟩:=Ev h2
   simp only [D.eqv,D.py,PyData.eqv]
   exact lists ds ih es n' m' h1 h2
  | exn c=>rw [BF] at h2; cases h2
  | _=>simp [D.eqv,D.py,PyData.eqv]
 ·intro ds ih e n m h1 h2
  cases e with
  | lst es =>
   obtain ⟨n',_,h1⟩:=Ew h1
   obtain ⟨m',_,h2⟩:=Ew h2
   simp only [D.eqv,D.py,PyData.eqv]
   exact lists ds ih es n' m' h1 h2
  | exn c=>rw [BF] at h2; cases h2
  | _=>simp [D.eqv,D.py,PyData.eqv]
 ·intro c e n m h; rw [BF] at h; cases h
theorem IJ:∀ (d:D) (n:Nat),d.shp n=true->d.py.canLay0=true/\d.py.depth<=n:=by
 have lists:∀ (ds:List D),(∀ d ∈ ds,∀ (n:Nat),d.shp n=true->d.py.canLay0=true/\d.py.depth<=n)->∀ n,(∀ d ∈ ds,d.shp n=true)->PyData.canLayAll0 (D.pys ds)=true/\PyData.depthAll (D.pys ds)<=n:=by
  intro ds
  induction ds with
  | nil=>intro _ n _; simp [D.pys,PyData.canLayAll0,PyData.depthAll]
  | cons d r ih =>
   intro h n h1
   obtain ⟨a1,a2⟩:=h d (aac ..) n (h1 d (aac ..))
   obtain ⟨b1,b2⟩:=ih (fun x hx=>h x (aaa _ hx)) n (fun x hx=>h1 x (aaa _ hx))
   simp only [D.pys,PyData.canLayAll0,PyData.depthAll,a1,b1,acT,true_and]
   omega
 refine D.ind ?_ ?_ ?_ ?_ ?_ ?_ ?_
 ·intro n h; simp [D.py,PyData.canLay0,PyData.depth]
 ·intro b n h; simp [D.py,PyData.canLay0,PyData.depth]
 ·intro b n h; simp [D.py,PyData.canLay0,PyData.depth]
 ·intro x n h
  simp only [D.py,PyData.canLay0,PyData.depth,aar,and_true]
  cases n <;> exact h
 ·intro ds ih n h
  obtain ⟨m,rfl,h'⟩:=Ev h
  have:=lists ds ih m h'
  simp only [D.py,PyData.canLay0,PyData.depth]
  exact ⟨this.1,by omega⟩
 ·intro ds ih n h
  obtain ⟨m,rfl,h'⟩:=Ew h
  have:=lists ds ih m h'
  simp only [D.py,PyData.canLay0,PyData.depth]
  exact ⟨this.1,by omega⟩
 ·intro c n h; rw [BF] at h; cases h
theorem EY {d:D} (h:d.shp 8=true):SeqAt.shaped d.py=true:=by
 obtain ⟨h1,h2⟩:=IJ d 8 h
 unfold SeqAt.shaped
 rw [h1,acr]
 exact decide_eq_true (by omega)
theorem GR {p:Px} {H:Hp}:∀ (t:T) (n:Nat),t.Ok p H->t.dat.shp n=true->RD p.K H t.val t.dat.py:=by
 have lists:∀ (ts:List T),(∀ t ∈ ts,∀ n,t.Ok p H->t.dat.shp n=true->RD p.K H t.val t.dat.py)->∀ n,T.Oks p H ts->(∀ d ∈ T.dats ts,d.shp n=true)->RDs p.K H (ts.map T.val) (D.pys (T.dats ts)):=by
  intro ts
  induction ts with
  | nil=>intro _ _ _ _; exact .nil
  | cons t r ih =>
   intro h n ok hs
   exact .cons (h t (aac ..) n ok.1 (hs _ (by simp [T.dats]))) (ih (fun u hu=>h u (aaa _ hu)) n ok.2 (fun d hd=>hs d (by simp [T.dats,hd])))
 refine T.ind (fun _ _ _=>.non) (fun b _ _ _=>.bl b) (fun i _ _ _=>.int i) (fun x _ _ _=>.str x) (fun a ts ih n ok h=>?_) (fun a ts ih n ok h=>?_) (fun a c n ok h=>?_)
 ·obtain ⟨m,rfl,h'⟩:=Ev h
  exact .tup (SqT.of ok.1) (lists ts ih m ok.2 h')
 ·obtain ⟨m,rfl,h'⟩:=Ew h
  exact .lst (.inl ok.1) (lists ts ih m ok.2 h')
 ·rw [T.dat,BF] at h; cases h
theorem HY {H:Hp} {a:Addr} {xs ys:List V} (h:Rd H a (.lst xs)) (h':Rd H a (.lst ys)):xs=ys:=by
 rcases h with h | ⟨o,h⟩ <;> rcases h' with h' | ⟨o',h'⟩ <;> rw [h] at h' <;> cases h' <;> rfl
theorem T.det {p:Px} {H:Hp}:∀ (t u:T) (n m:Nat),t.Ok p H->u.Ok p H->t.dat.shp n=true->u.dat.shp m=true->t.val=u.val->t.dat=u.dat:=by
 have lists:∀ (ts:List T),(∀ t ∈ ts,∀ (u:T) (n m:Nat),t.Ok p H->u.Ok p H->t.dat.shp n=true->u.dat.shp m=true->t.val=u.val->t.dat=u.dat)->∀ (us:List T) (n m:Nat),T.Oks p H ts->T.Oks p H us ->
   (∀ d ∈ T.dats ts,d.shp n=true)->(∀ d ∈ T.dats us,d.shp m=true)->ts.map T.val=us.map T.val->T.dats ts=T.dats us:=by
  intro ts
  induction ts with
  | nil=>intro _ us n m _ _ _ _ e; cases us with | nil=>rfl | cons u r=>simp at e
  | cons t r ih =>
   intro h us n m o1 o2 s1 s2 e
   cases us with
   | nil=>simp at e
   | cons u q =>
    simp only [aay,List.cons.injEq] at e
    simp only [T.dats,List.cons.injEq]
    exact ⟨h t (aac ..) u n m o1.1 o2.1 (s1 _ (by simp [T.dats])) (s2 _ (by simp [T.dats])) e.1,ih (fun x hx=>h x (aaa _ hx)) q n m o1.2 o2.2 (fun d hd=>s1 d (by simp [T.dats,hd])) (fun d hd=>s2 d (by simp [T.dats,hd])) e.2⟩
 refine T.ind ?_ ?_ ?_ ?_ ?_ ?_ ?_
 ·intro u n m _ _ _ _ e; cases u <;> first | rfl | cases e
 ·intro b u n m _ _ _ _ e; cases u <;> first | (cases e; rfl) | cases e
 ·intro b u n m _ _ _ _ e; cases u <;> first | (cases e; rfl) | cases e
 ·intro b u n m _ _ _ _ e; cases u <;> first | (cases e; rfl) | cases e
 ·intro a ts ih u n m o1 o2 s1 s2 e
  cases u with
  | tup b us =>
   cases e
   obtain ⟨n',_,s1⟩:=Ev s1
   obtain ⟨m',_,s2⟩:=Ev s2
   have q:=o1.1.symm.trans o2.1
   simp only [Option.some.injEq,HO.tup.injEq] at q
   simp only [T.dat,lists ts ih us n' m' o1.2 o2.2 s1 s2 q]
  | lst b us =>
   cases e
   have h1:=o1.1
   rcases o2.1 with h | ⟨_,h⟩ <;> rw [h] at h1 <;> cases h1
  | exn b c=>rw [T.dat,BF] at s2; cases s2
  | _=>cases e
 ·intro a ts ih u n m o1 o2 s1 s2 e
  cases u with
  | tup b us =>
   cases e
   have h1:=o2.1
   rcases o1.1 with h | ⟨_,h⟩ <;> rw [h] at h1 <;> cases h1
  | lst b us =>
   cases e
   obtain ⟨n',_,s1⟩:=Ew s1
   obtain ⟨m',_,s2⟩:=Ew s2
   have q:=HY o1.1 o2.1
   simp only [T.dat,lists ts ih us n' m' o1.2 o2.2 s1 s2 q]
  | exn b c=>rw [T.dat,BF] at s2; cases s2
  | _=>cases e
 ·intro a c u n m _ _ h; rw [T.dat,BF] at h; cases h
section
variable {p:Px} {EX:EXT} {tn:List Nat} {X:Cx} {pos:Pos}
theorem GS (hK:X.K=p.K) {pins:List (Addr × Obj)} {σ:St} {H:Hp} {s:Shared} {A:Around} (I:Inv X pins σ H s) {t u:T} {x y:Value} (hu:A.units + 60 < cLine) (o1:t.Ok p H) (o2:u.Ok p H) (s1:t.dat.shp 8=true) (s2:u.dat.shp 8=true) (r1:RelV t.val x) (r2:RelV u.val y) :
  SeqAt.EqAt A s x y (t.dat.eqv u.dat):=by
 intro prog w E Q hQ
 obtain ⟨as,q1⟩:=RD.reads (X:=X) I (hK ▸ GR t 8 o1 s1) r1
 obtain ⟨bs,q2⟩:=RD.reads (X:=X) I (hK ▸ GR u 8 o2 s2) r2
 obtain ⟨c1,d1⟩:=IJ _ 8 s1
 obtain ⟨c2,d2⟩:=IJ _ 8 s2
 refine PySem.SeqAt.eqBoolOverData prog w A E s x y _ _ as bs Q q1 q2 c1 c2 (by omega) ?_
 rw [<- Kk _ _ 8 8 s1 s2]
 exact hQ
noncomputable def eqS (us:List T) (t:T) (y:Value):Bool:=@decide (∃ u ∈ us,RelV u.val y/\u.dat.eqv t.dat=true) (Classical.propDecidable _)
theorem Gi {H:Hp} {us:List T} {t u:T} {y:Value} (ok:T.Oks p H us) (sh:∀ w ∈ us,w.dat.shp 8=true) (hu:u ∈ us) (r:RelV u.val y):eqS us t y=u.dat.eqv t.dat:=by
 unfold eqS
 cases e:u.dat.eqv t.dat with
 | true=>exact @decide_eq_true _ (Classical.propDecidable _) ⟨u,hu,r,e⟩
 | false =>
  refine @decide_eq_false _ (Classical.propDecidable _) ?_
  rintro ⟨w,hw,r',e'⟩
  rw [T.det w u 8 8 (T.oks_iff.mp ok w hw) (T.oks_iff.mp ok u hu) (sh w hw) (sh u hu) (RelV.inj r' r)] at e'
  rw [e] at e'; cases e'
theorem Fs {H:Hp} {us:List T} {t:T} (ok:T.Oks p H us) (sh:∀ w ∈ us,w.dat.shp 8=true):∀ (ws:List T) (ys:List Value),(∀ w ∈ ws,w ∈ us)->Vals (ws.map T.val) ys->ys.any (eqS us t)=ws.any fun w=>w.dat.eqv t.dat
 | [],_,_,.nil=>rfl
 | w :: ws,_,h,.cons r q=>by
  rw [acU,acU,Gi ok sh (h w (aac ..)) r,Fs ok sh ws _ (fun x hx=>h x (aaa _ hx)) q]
theorem EB:∀ {ws:List T} {ys:List Value} {y:Value},Vals (ws.map T.val) ys->y ∈ ys->∃ w ∈ ws,RelV w.val y
 | [],_,y,.nil,h=>nomatch h
 | w :: ws,_,y,.cons r q,h=>by
  rcases aal.mp h with rfl | h
  ·exact ⟨w,aac ..,r⟩
  ·obtain ⟨w',hw,r'⟩:=EB q h
   exact ⟨w',aaa _ hw,r'⟩
noncomputable def MS (p:Px) (neg:Bool):R2:=fun x y H Q=>∃ (t:T) (a:Addr) (us:List T),x=t.val/\y=.ref a/\(Rd H a (.lst (us.map T.val))\/H a=some (.tup (us.map T.val)))/\T.Oks p H us/\t.Ok p H/\t.dat.shp 8=true/\(∀ w ∈ us,w.dat.shp 8=true) /\
 Q (.bl (if neg then !(us.any fun w=>w.dat.eqv t.dat) else us.any fun w=>w.dat.eqv t.dat)) H
theorem Ut (hK:X.K=p.K) (hu:X.A.units + 64 < cLine):OpR X (compareOp .In) (MS p false):=by
 intro pins s σ H x y v u Q I rx ry h
 obtain ⟨t,a,us,rfl,rfl,hq,ok,o1,s1,s2,q⟩:=h
 cases ry
 rcases hq with hq | hq
 ·obtain ⟨its,r,pl,hz⟩:=I.list (.inl hq)
  refine SeqAt.in_listAt (eqS us t) pl.isList (fun w hw=>?_) ⟨.bl _,H,I,rfl,?_⟩
  ·obtain ⟨w',hw',r'⟩:=EB r (by simpa using hw)
   rw [Gi ok s2 hw' r']
   exact GS hK I (by show X.A.units + 1 + 60 < cLine; omega) (T.oks_iff.mp ok w' hw') o1 (s2 w' hw') s1 r' rx
  ·rw [show its.toArray.any (eqS us t)=its.any (eqS us t) by simp,Fs ok s2 us its (fun _ h=>h) r]
   exact q
 ·obtain ⟨its,r,pl,hz⟩:=I.tuple (SqT.of hq)
  refine SeqAt.in_tupleAt (eqS us t) pl (fun w hw=>?_) ⟨.bl _,H,I,rfl,?_⟩
  ·obtain ⟨w',hw',r'⟩:=EB r (by simpa using hw)
   rw [Gi ok s2 hw' r']
   exact GS hK I (by show X.A.units + 1 + 60 < cLine; omega) (T.oks_iff.mp ok w' hw') o1 (s2 w' hw') s1 r' rx
  ·rw [show its.toArray.any (eqS us t)=its.any (eqS us t) by simp,Fs ok s2 us its (fun _ h=>h) r]
   exact q
theorem Ob (hK:X.K=p.K) (hu:X.A.units + 64 < cLine):OpR X (compareOp .NotIn) (MS p true):=by
 intro pins s σ H x y v u Q I rx ry h
 obtain ⟨t,a,us,rfl,rfl,hq,ok,o1,s1,s2,q⟩:=h
 cases ry
 rcases hq with hq | hq
 ·obtain ⟨its,r,pl,hz⟩:=I.list (.inl hq)
  refine SeqAt.notIn_listAt (eqS us t) pl.isList (fun w hw=>?_) ⟨.bl _,H,I,rfl,?_⟩
  ·obtain ⟨w',hw',r'⟩:=EB r (by simpa using hw)
   rw [Gi ok s2 hw' r']
   exact GS hK I (by show X.A.units + 1 + 60 < cLine; omega) (T.oks_iff.mp ok w' hw') o1 (s2 w' hw') s1 r' rx
  ·rw [show its.toArray.any (eqS us t)=its.any (eqS us t) by simp,Fs ok s2 us its (fun _ h=>h) r]
   exact q
 ·obtain ⟨its,r,pl,hz⟩:=I.tuple (SqT.of hq)
  refine SeqAt.notIn_tupleAt (eqS us t) pl (fun w hw=>?_) ⟨.bl _,H,I,rfl,?_⟩
  ·obtain ⟨w',hw',r'⟩:=EB r (by simpa using hw)
   rw [Gi ok s2 hw' r']
   exact GS hK I (by show X.A.units + 1 + 60 < cLine; omega) (T.oks_iff.mp ok w' hw') o1 (s2 w' hw') s1 r' rx
  ·rw [show its.toArray.any (eqS us t)=its.any (eqS us t) by simp,Fs ok s2 us its (fun _ h=>h) r]
   exact q
end
section
variable {p:Px} {EX:EXT} {tn:List Nat} {X:Cx} {pos:Pos}
noncomputable def Bv:C2->CmpOp
 | .lt=>.Lt
 | .le=>.LtE
 | .gt=>.Gt
 | .ge=>.GtE
 | .eq=>.Eq
 | .ne=>.NotEq
 | .inn=>.In
 | .nin=>.NotIn
noncomputable def Uu (p:Px) (neg:Bool):R2:=fun x y H Q=>∃ t u:T,x=t.val/\y=u.val/\t.Ok p H/\u.Ok p H/\t.dat.shp 8=true/\u.dat.shp 8=true/\Q (.bl (if neg then !t.dat.eqv u.dat else t.dat.eqv u.dat)) H
noncomputable def Kl (p:Px):C2->R2
 | .lt=>rI0 fun i j=>.bl (decide (i < j))
 | .le=>rI0 fun i j=>.bl (decide (i<=j))
 | .gt=>rI0 fun i j=>.bl (decide (j < i))
 | .ge=>rI0 fun i j=>.bl (decide (j<=i))
 | .eq=>Uu p false
 | .ne=>Uu p true
 | .inn=>MS p false
 | .nin=>MS p true
theorem Ex (hK:X.K=p.K) (hu:X.A.units + 64 < cLine):∀ o:C2,OpR X (compareOp (Bv o)) (Kl p o)
 | .lt=>Vw
 | .le=>Vx
 | .gt=>Vy
 | .ge=>Vz
 | .eq=>by
  intro pins s σ H x y v u Q I rx ry h
  obtain ⟨t,w,rfl,rfl,o1,o2,s1,s2,q⟩:=h
  refine Ub hu pins s σ H _ _ v u Q I rx ry ⟨_,_,hK ▸ GR t 8 o1 s1,hK ▸ GR w 8 o2 s2,EY s1,EY s2,?_⟩
  rw [<- Kk _ _ 8 8 s1 s2]; exact q
 | .ne=>by
  intro pins s σ H x y v u Q I rx ry h
  obtain ⟨t,w,rfl,rfl,o1,o2,s1,s2,q⟩:=h
  refine Uc hu pins s σ H _ _ v u Q I rx ry ⟨_,_,hK ▸ GR t 8 o1 s1,hK ▸ GR w 8 o2 s2,EY s1,EY s2,?_⟩
  rw [<- Kk _ _ 8 8 s1 s2]; exact q
 | .inn=>Ut hK hu
 | .nin=>Ob hK hu
theorem Km {t:T}:∀ us:List T,((T.dats us).any fun y=>D.eqv y t.dat)=us.any fun w=>w.dat.eqv t.dat
 | []=>rfl
 | u :: r=>by simp [T.dats,Km r]
theorem FP {f:D->Bool}:∀ {us:List T},(T.dats us).all f=true->∀ w ∈ us,f w.dat=true
 | [],_,w,h=>nomatch h
 | u :: r,h,w,hw=>by
  simp only [T.dats,aaO,aaf] at h
  rcases aal.mp hw with rfl | hw
  ·exact h.1
  ·exact FP h.2 w hw
theorem JQ {β:Type} {t:T} {us:List T} {σ:St} {H:Hp} {f:Bool->Res β} {Kc:β->Prop} (h:Lg p EX σ ((inD t.dat (T.dats us)).bind f) H Kc):t.dat.shp 8=true/\(∀ w ∈ us,w.dat.shp 8=true)/\Lg p EX σ (f (us.any fun w=>w.dat.eqv t.dat)) H Kc:=by
 have h:=h.bind
 unfold inD at h
 obtain ⟨hc,h⟩:=h.guard
 rw [aaf] at hc
 rw [Km] at h
 exact ⟨hc.1,fun w hw=>FP hc.2 w hw,h⟩
theorem MT {B:Addr->Prop} {H H2:Hp} {ja jb ka kb:Nat} {t u:T} {o:C2} {σ:St} {Kc:D->Prop} {Q:VK} (r:Rs p B H H2 ja ka t) (r':Rs p B H H2 jb kb u) (h:Lg p EX σ (c2 o t.dat u.dat) H Kc) (hQ:∀ b,Kc (.bl b)->Q (.bl b) H2):Kl p o t.val u.val H2 Q:=by
 cases o with
 | lt =>
  obtain ⟨i,j,rfl,rfl,h⟩:=Ca (Q:=fun r=>Lg p EX σ r H Kc) id h
  exact ⟨_,_,rfl,rfl,hQ _ h⟩
 | le =>
  obtain ⟨i,j,rfl,rfl,h⟩:=Ca (Q:=fun r=>Lg p EX σ r H Kc) id h
  exact ⟨_,_,rfl,rfl,hQ _ h⟩
 | gt =>
  obtain ⟨i,j,rfl,rfl,h⟩:=Ca (Q:=fun r=>Lg p EX σ r H Kc) id h
  exact ⟨_,_,rfl,rfl,hQ _ h⟩
 | ge =>
  obtain ⟨i,j,rfl,rfl,h⟩:=Ca (Q:=fun r=>Lg p EX σ r H Kc) id h
  exact ⟨_,_,rfl,rfl,hQ _ h⟩
 | eq =>
  simp only [c2] at h
  obtain ⟨hc,h⟩:=h.guard
  rw [aaf] at hc
  exact ⟨t,u,rfl,rfl,r.ok,r'.ok,hc.1,hc.2,hQ _ h⟩
 | ne =>
  simp only [c2] at h
  obtain ⟨hc,h⟩:=h.guard
  rw [aaf] at hc
  exact ⟨t,u,rfl,rfl,r.ok,r'.ok,hc.1,hc.2,hQ _ h⟩
 | inn =>
  cases u <;> first | exact nE h | skip
  ·obtain ⟨s1,s2,h⟩:=JQ h
   exact ⟨t,_,_,rfl,rfl,.inr r'.ok.1,r'.ok.2,r.ok,s1,s2,hQ _ h⟩
  ·obtain ⟨s1,s2,h⟩:=JQ h
   exact ⟨t,_,_,rfl,rfl,.inl r'.ok.1,r'.ok.2,r.ok,s1,s2,hQ _ h⟩
 | nin =>
  cases u <;> first | exact nE h | skip
  ·obtain ⟨s1,s2,h⟩:=JQ h
   exact ⟨t,_,_,rfl,rfl,.inr r'.ok.1,r'.ok.2,r.ok,s1,s2,hQ _ h⟩
  ·obtain ⟨s1,s2,h⟩:=JQ h
   exact ⟨t,_,_,rfl,rfl,.inl r'.ok.1,r'.ok.2,r.ok,s1,s2,hQ _ h⟩
theorem KE.bl {B:Addr->Prop} {H H2:Hp} {j k:Nat} {Q:VK} {b:Bool} (s:Same H H2) (h:KE p B H j k Q (.bl b)):Q (.bl b) H2:=h (.bl b) H2 rfl (Rs.scal s rfl)
theorem Uv {x y:E} {o:C2} {τ:Ft} {H:Hp} {Kc:D->Prop} {Q:VK} {j1 k1 j2 k2:Nat} (hF:Fok p tn τ H) (h1:jk tn x=some (j1,k1)) (h2:jk tn y=some (j2,k2))
  (h:Lg p EX (vτ τ) ((ev x (dτ τ)).bind fun a=>(ev y (dτ τ)).bind fun b=>c2 o a b) H Kc) (hQ:∀ b H2,Same H H2->Kc (.bl b)->Q (.bl b) H2):tOp (Kl p o) (lE p EX tn x) (lE p EX tn y) (vτ τ) H Q:=by
 refine l1 hF h1 h fun d t H1 ht R h=>l2 hF R.same h2 h fun d' t' H2 ht' R' h=>?_
 subst ht ht'
 exact MT (R.fwd R'.same) (R'.back R.same) h fun b hb=>hQ b H2 (R.same.trans R'.same) hb
theorem RK (hK:X.K=p.K) (hu:X.A.units + 64 < cLine) {a b:Expr} {x y:E} {o:C2} (ha:PE X a (lE p EX tn x)) (hb:PE X b (lE p EX tn y)) (hm:behindInMarks (Bv o) b=false):PE X (.Compare a [Bv o] [b] pos) (lE p EX tn (.cmp o x y)):=by
 refine PE.mono (Rf (Ex hK hu o) ha hb hm) fun σ H Q h=>?_
 obtain ⟨τ,rfl,hF,j,k,hj,h⟩:=h
 simp only [jk] at hj
 obtain ⟨⟨j1,k1⟩,h1,hj⟩:=bS hj
 obtain ⟨⟨j2,k2⟩,h2,hj⟩:=bS hj
 simp only [ev] at h
 exact Uv hF h1 h2 h fun b H2 s hb=>KE.bl s hb
theorem PQ (hK:X.K=p.K) (hu:X.A.units + 64 < cLine) {a b:Expr} {x y:E} {o:C2} (ha:PE X a (lE p EX tn x)) (hb:PE X b (lE p EX tn y)) (hm:behindInMarks (Bv o) b=false):PT X (.Compare a [Bv o] [b] pos) (lT p EX tn (.cmp o x y)):=by
 refine PT.mono (Rg (Ex hK hu o) ha hb hm) fun σ H Q h=>?_
 obtain ⟨τ,rfl,hF,hj,h⟩:=h
 obtain ⟨q,hj⟩:=aaz.mp hj
 simp only [jk] at hj
 obtain ⟨⟨j1,k1⟩,h1,hj⟩:=bS hj
 obtain ⟨⟨j2,k2⟩,h2,hj⟩:=bS hj
 simp only [tv,ev] at h
 exact Uv hF h1 h2 h.bind fun b H2 s hb=>⟨b,rfl,hb H2 s⟩
theorem Oc {x y z:E} {o o':C2} {τ:Ft} {H:Hp} {Kc:D->Prop} {Q:VK} {j1 k1 j2 k2 j3 k3:Nat} (hF:Fok p tn τ H) (h1:jk tn x=some (j1,k1)) (h2:jk tn y=some (j2,k2)) (h3:jk tn z=some (j3,k3))
  (h:Lg p EX (vτ τ) (ev (.chain o o' x y z) (dτ τ)) H Kc) (hQ:∀ b H2,Same H H2->Kc (.bl b)->Q (.bl b) H2):J3 (Kl p o) (Kl p o') (lE p EX tn x) (lE p EX tn y) (lE p EX tn z) (vτ τ) H Q:=by
 simp only [ev] at h
 refine l1 hF h1 h fun d t H1 ht R h=>l2 hF R.same h2 h fun d' t' H2 ht' R' h=>?_
 subst ht ht'
 refine MT (R.fwd R'.same) (R'.back R.same) h.bind fun b h=>⟨b,rfl,?_⟩
 have s2:=R.same.trans R'.same
 cases b with
 | false=>exact hQ false H2 s2 h
 | true =>
  refine l2 hF s2 h3 h fun d'' t'' H3 ht'' R'' h=>?_
  subst ht''
  exact MT ((R'.back R.same).fwd R''.same) (R''.back s2) h fun b hb=>hQ b H3 (s2.trans R''.same) hb
theorem Od (hK:X.K=p.K) (hu:X.A.units + 64 < cLine) {a b c:Expr} {x y z:E} {o o':C2} (ha:PE X a (lE p EX tn x)) (hb:PE X b (lE p EX tn y)) (hc:PE X c (lE p EX tn z)) (hm:lastMarks [Bv o,Bv o'] [b,c]=false):PE X (.Compare a [Bv o,Bv o'] [b,c] pos) (lE p EX tn (.chain o o' x y z)):=by
 refine PE.mono (Ph (Ex hK hu o) (Ex hK hu o') ha hb hc hm) fun σ H Q h=>?_
 obtain ⟨τ,rfl,hF,j,k,hj,h⟩:=h
 simp only [jk] at hj
 obtain ⟨⟨j1,k1⟩,h1,hj⟩:=bS hj
 obtain ⟨⟨j2,k2⟩,h2,hj⟩:=bS hj
 obtain ⟨⟨j3,k3⟩,h3,hj⟩:=bS hj
 exact Oc hF h1 h2 h3 h fun b H2 s hb=>KE.bl s hb
theorem MU (hK:X.K=p.K) (hu:X.A.units + 64 < cLine) {a b c:Expr} {x y z:E} {o o':C2} (ha:PE X a (lE p EX tn x)) (hb:PE X b (lE p EX tn y)) (hc:PE X c (lE p EX tn z)) (hm:lastMarks [Bv o,Bv o'] [b,c]=false):PT X (.Compare a [Bv o,Bv o'] [b,c] pos) (lT p EX tn (.chain o o' x y z)):=by
 refine PT.mono (Pi (Ex hK hu o) (Ex hK hu o') ha hb hc hm) fun σ H Q h=>?_
 obtain ⟨τ,rfl,hF,hj,h⟩:=h
 obtain ⟨q,hj⟩:=aaz.mp hj
 simp only [jk] at hj
 obtain ⟨⟨j1,k1⟩,h1,hj⟩:=bS hj
 obtain ⟨⟨j2,k2⟩,h2,hj⟩:=bS hj
 obtain ⟨⟨j3,k3⟩,h3,hj⟩:=bS hj
 unfold tv at h
 exact Oc hF h1 h2 h3 h.bind fun b H2 s hb=>⟨b,rfl,hb H2 s⟩
theorem RL {t:T}:decide (t.val=V.non)=(match t.dat with | .non=>true | _=>false):=by
 cases t <;> rfl
theorem Uw {x:E} {n:Bool} {τ:Ft} {H:Hp} {Kc:D->Prop} {Q:VK} {j1 k1:Nat} (hF:Fok p tn τ H) (h1:jk tn x=some (j1,k1)) (h:Lg p EX (vτ τ) (ev (.isN n x) (dτ τ)) H Kc) (hQ:∀ b H2,Same H H2->Kc (.bl b)->Q (.bl b) H2) :
  lE p EX tn x (vτ τ) H fun v H1=>Q (.bl (if n then !decide (v=.non) else decide (v=.non))) H1:=by
 simp only [ev] at h
 refine l1 hF h1 h fun d t H1 ht R h=>?_
 subst ht
 refine hQ _ H1 R.same ?_
 have h:Kc (.bl (match t.dat with | .non=>!n | _=>n)):=h
 rw [RL]
 cases n <;> cases t <;> exact h
theorem RM {a:Expr} {x:E} {n:Bool} {j pos'} (ha:PE X a (lE p EX tn x)):PE X (.Compare a [if n then .IsNot else .Is] [.Constant .none j pos'] pos) (lE p EX tn (.isN n x)):=by
 have key:∀ σ H Q,lE p EX tn (.isN n x) σ H Q->lE p EX tn x σ H fun v H1=>Q (.bl (if n then !decide (v=.non) else decide (v=.non))) H1:=by
  intro σ H Q h
  obtain ⟨τ,rfl,hF,j,k,hj,h⟩:=h
  simp only [jk] at hj
  obtain ⟨⟨j1,k1⟩,h1,hj⟩:=bS hj
  exact Uw hF h1 h fun b H2 s hb=>KE.bl s hb
 cases n with
 | true=>exact PE.mono (NF (LD ha)) fun σ H Q h=>key σ H Q h
 | false=>exact PE.mono (NF (NE ha)) fun σ H Q h=>key σ H Q h
theorem PR {a:Expr} {x:E} {n:Bool} {j pos'} (ha:PE X a (lE p EX tn x)):PT X (.Compare a [if n then .IsNot else .Is] [.Constant .none j pos'] pos) (lT p EX tn (.isN n x)):=by
 have key:∀ σ H Q,lT p EX tn (.isN n x) σ H Q->lE p EX tn x σ H fun v H1=>∃ c,V.bl (if n then !decide (v=.non) else decide (v=.non))=V.bl c/\Q c H1:=by
  intro σ H Q h
  obtain ⟨τ,rfl,hF,hj,h⟩:=h
  obtain ⟨q,hj⟩:=aaz.mp hj
  simp only [jk] at hj
  obtain ⟨⟨j1,k1⟩,h1,hj⟩:=bS hj
  unfold tv at h
  exact Uw (Q:=fun v H1=>∃ c,v=V.bl c/\Q c H1) hF h1 h.bind fun b H2 s hb=>⟨b,rfl,hb H2 s⟩
 cases n with
 | true=>exact PT.mono (NG (LD ha)) fun σ H Q h=>key σ H Q h
 | false=>exact PT.mono (NG (NE ha)) fun σ H Q h=>key σ H Q h
end
section
variable {p:Px} {EX:EXT} {tn:List Nat} {X:Cx} {pos:Pos}
theorem RN {a:Expr} {x:E} (ha:PE X a (lE p EX tn x)):PE X (.UnaryOp .USub a pos) (lE p EX tn (.neg x)):=by
 refine PE.mono (Vv TU ha) fun σ H Q h=>?_
 obtain ⟨τ,rfl,hF,j,k,hj,h⟩:=h
 simp only [jk] at hj
 obtain ⟨⟨j1,k1⟩,h1,hj⟩:=bS hj
 simp only [ev] at h
 refine l1 hF h1 h fun d t H1 ht R h=>?_
 subst ht
 cases t <;> simp only [T.dat] at h
 all_goals first | exact nE h | exact ⟨_,rfl,h (.int _) H1 rfl (Rs.scal R.same rfl)⟩
theorem RO {a:Expr} {x:E} (ha:PE X a (lE p EX tn x)):PE X (.UnaryOp .Not a pos) (lE p EX tn (.not x)):=by
 refine PE.mono (Tx ha) fun σ H Q h=>?_
 obtain ⟨τ,rfl,hF,j,k,hj,h⟩:=h
 simp only [jk] at hj
 obtain ⟨⟨j1,k1⟩,h1,hj⟩:=bS hj
 simp only [ev] at h
 refine l1 hF h1 h fun d t H1 ht R h=>?_
 subst ht
 cases t <;> simp only [T.dat] at h
 all_goals first | exact nE h | exact ⟨_,rfl,h (.bl _) H1 rfl (Rs.scal R.same rfl)⟩
theorem PU {H:Hp} {t:T} {σ:St} {H0:Hp} {Kc:Bool->Prop} (hK:X.K=p.K) (ok:t.Ok p H) (h:Lg p EX σ (BN t.dat) H0 Kc):∃ b,Pj X.K t.val H b/\Kc b:=by
 cases t <;> simp only [T.dat,BN] at h
 ·exact ⟨false,rfl,h⟩
 ·exact ⟨_,rfl,h⟩
 ·exact ⟨_,rfl,h⟩
 ·exact nE h
 ·rename_i a ts
  refine ⟨_,.inr (.inl ⟨_,SqT.of ok.1,rfl⟩),?_⟩
  have h:Kc (!(T.dats ts).isEmpty):=h
  cases ts <;> exact h
 ·rename_i a ts
  refine ⟨_,.inl ⟨_,.inl ok.1,rfl⟩,?_⟩
  have h:Kc (!(T.dats ts).isEmpty):=h
  cases ts <;> exact h
 ·exact nE h
noncomputable def Kn:Expr->Bool
 | .UnaryOp .Not _ _=>false
 | .BoolOp _ _ _=>false
 | .IfExp _ _ _ _=>false
 | .Compare _ _ _ _=>false
 | _=>true
theorem Oe {a:Expr} {env:Env} (h:Kn a=true):∀ whole,isTrue a env whole=(do let v <- whole; standAt a.pos; holding [v] (truthy v)):=by
 intro whole
 cases a with
 | UnaryOp o x q=>cases o <;> first | rfl | cases h
 | BoolOp _ _ _=>cases h
 | IfExp _ _ _ _=>cases h
 | Compare _ _ _ _=>cases h
 | _=>rfl
theorem MV (hK:X.K=p.K) {a:Expr} {x:E} (ha:PE X a (lE p EX tn x)) (hp:Kn a=true):PT X a (lT p EX tn x):=by
 refine PT.mono (Pk ha (Oe hp)) fun σ H Q h=>?_
 obtain ⟨τ,rfl,hF,hj,h⟩:=h
 obtain ⟨⟨j,k⟩,hj⟩:=aaz.mp hj
 refine l1 hF hj h fun d t H1 ht R h=>?_
 subst ht
 obtain ⟨b,tb,hb⟩:=PU (X:=X) hK R.ok h
 exact ⟨b,tb,hb H1 R.same⟩
theorem PV {a:Expr} {x:E} (ha:PT X a (lT p EX tn x)):PT X (.UnaryOp .Not a pos) (lT p EX tn (.not x)):=by
 refine PT.mono (Tu ha) fun σ H Q h=>?_
 obtain ⟨τ,rfl,hF,hj,h⟩:=h
 obtain ⟨q,hj⟩:=aaz.mp hj
 simp only [jk] at hj
 obtain ⟨⟨j1,k1⟩,h1,hj⟩:=bS hj
 refine ⟨τ,rfl,hF,by rw [h1]; rfl,?_⟩
 unfold tv at h ⊢
 simp only [ev] at h
 cases q:ev x (dτ τ) with
 | ok d =>
  rw [q] at h
  simp only [Res.bind_ok] at h ⊢
  cases d <;> simp only [Res.bind_bad] at h
  all_goals first | exact nE h | exact h
 | exc c=>rw [q] at h; exact h
 | bad=>rw [q] at h; exact h
theorem Ux {a:Expr} {x:E} {k0:Bool} (ha:PE X a (lE p EX tn x)):PE X (.BoolOp (if k0 then .And else .Or) [a] pos) (lE p EX tn (.bo k0 (.cons x .nil))):=by
 refine PE.mono (Tv ha) fun σ H Q h=>?_
 obtain ⟨τ,rfl,hF,j,k,hj,h⟩:=h
 simp only [jk,jks] at hj
 obtain ⟨⟨j1,k1⟩,h1,hj⟩:=bS hj
 simp only [ev,evBo] at h
 have hj:=Option.some.inj hj
 refine ⟨τ,rfl,hF,j1,k1,h1,h.mono (Same.refl _) fun d _ hd t H' ht R=>hd t H' ht (R.le ?_ ?_)⟩
 ·simp at hj; omega
 ·simp at hj
  obtain ⟨h1,h2⟩:=hj
  rw [<- h2]
  split
  ·exact abu ..
  ·exact aar _
theorem RP {a b:Expr} {rest:List Expr} {x y:E} {r:Es} {k0:Bool} (ha:PE X a (lE p EX tn x)) (hb:PE X (.BoolOp (if k0 then .And else .Or) (b :: rest) pos) (lE p EX tn (.bo k0 (.cons y r)))) :
  PE X (.BoolOp (if k0 then .And else .Or) (a :: b :: rest) pos) (lE p EX tn (.bo k0 (.cons x (.cons y r)))):=by
 have key:∀ σ H Q,lE p EX tn (.bo k0 (.cons x (.cons y r))) σ H Q->lE p EX tn x σ H fun v H1=>∃ c,v=.bl c/\if c=k0 then lE p EX tn (.bo k0 (.cons y r)) σ H1 Q else Q (.bl c) H1:=by
  intro σ H Q h
  obtain ⟨τ,rfl,hF,j,k,hj,h⟩:=h
  simp only [jk,jks] at hj
  obtain ⟨⟨j1,k1⟩,h1,hj⟩:=bS hj
  obtain ⟨⟨j2,k2⟩,h2,hj⟩:=bS hj
  have hj:=Option.some.inj hj
  simp only [Prod.mk.injEq] at hj
  simp only [ev,evBo] at h
  refine l1 hF h1 h fun d t H1 ht R h=>?_
  subst ht
  cases t <;> simp only [T.dat] at h
  all_goals first | exact nE h | skip
  rename_i c
  refine ⟨c,rfl,?_⟩
  by_cases z:c=k0
  ·rw [if_pos z] at h ⊢
   refine ⟨τ,rfl,hF.same R.same,j2,k2,by simp only [jk,jks]; exact h2,?_⟩
   simp only [ev]
   refine h.mono R.same fun d _ hd t H' ht R'=>hd t H' ht ((R'.back R.same).le (by omega) ?_)
   rw [<- hj.2]
   split
   ·exact abG ..
   ·exact aar _
  ·rw [if_neg z] at h ⊢
   exact h (.bl c) H1 rfl (Rs.scal R.same rfl)
 cases k0 with
 | true =>
  refine PE.mono (Tw ha hb) fun σ H Q h=>?_
  refine (show ∀ (A B:VK),(∀ v H,A v H->B v H)->lE p EX tn x σ H A->lE p EX tn x σ H B from ?_) _ _ ?_ (key σ H Q h)
  ·rintro A B m ⟨τ,e,hF,j,k,hj,h⟩
   exact ⟨τ,e,hF,j,k,hj,h.mono (Same.refl _) fun d _ hd t H' ht R=>m _ _ (hd t H' ht R)⟩
  ·rintro v H1 ⟨c,rfl,h⟩
   exact ⟨c,rfl,by cases c <;> simpa using h⟩
 | false =>
  refine PE.mono (Vp ha hb) fun σ H Q h=>?_
  refine (show ∀ (A B:VK),(∀ v H,A v H->B v H)->lE p EX tn x σ H A->lE p EX tn x σ H B from ?_) _ _ ?_ (key σ H Q h)
  ·rintro A B m ⟨τ,e,hF,j,k,hj,h⟩
   exact ⟨τ,e,hF,j,k,hj,h.mono (Same.refl _) fun d _ hd t H' ht R=>m _ _ (hd t H' ht R)⟩
  ·rintro v H1 ⟨c,rfl,h⟩
   exact ⟨c,rfl,by cases c <;> simpa using h⟩
theorem RQ {a:Expr} {x:E} {k0:Bool} (ha:PT X a (lT p EX tn x)):PW X (.BoolOp (if k0 then .And else .Or) [a] pos) (lT p EX tn (.bo k0 (.cons x .nil))):=by
 have key:∀ σ H Q,lT p EX tn (.bo k0 (.cons x .nil)) σ H Q->lT p EX tn x σ H Q:=by
  rintro σ H Q ⟨τ,rfl,hF,hj,h⟩
  refine ⟨τ,rfl,hF,?_,by simpa only [tv,ev,evBo] using h⟩
  obtain ⟨q,hj⟩:=aaz.mp hj
  simp only [jk,jks] at hj
  obtain ⟨⟨j1,k1⟩,h1,hj⟩:=bS hj
  rw [h1]; rfl
 cases k0 with
 | true=>exact fun wh pins s σ H Q I h=>Rb ha wh pins s σ H Q I (key σ H Q h)
 | false=>exact fun wh pins s σ H Q I h=>Ts ha wh pins s σ H Q I (key σ H Q h)
theorem PX {a b:Expr} {rest:List Expr} {x y:E} {r:Es} {k0:Bool} (ha:PT X a (lT p EX tn x)) (hb:PW X (.BoolOp (if k0 then .And else .Or) (b :: rest) pos) (lT p EX tn (.bo k0 (.cons y r)))) :
  PW X (.BoolOp (if k0 then .And else .Or) (a :: b :: rest) pos) (lT p EX tn (.bo k0 (.cons x (.cons y r)))):=by
 have key:∀ σ H Q,lT p EX tn (.bo k0 (.cons x (.cons y r))) σ H Q->lT p EX tn x σ H fun c H1=>if c=k0 then lT p EX tn (.bo k0 (.cons y r)) σ H1 Q else Q c H1:=by
  rintro σ H Q ⟨τ,rfl,hF,hj,h⟩
  obtain ⟨q,hj⟩:=aaz.mp hj
  simp only [jk,jks] at hj
  obtain ⟨⟨j1,k1⟩,h1,hj⟩:=bS hj
  obtain ⟨⟨j2,k2⟩,h2,hj⟩:=bS hj
  refine ⟨τ,rfl,hF,by rw [h1]; rfl,?_⟩
  simp only [tv,ev,evBo] at h ⊢
  cases q:ev x (dτ τ) with
  | ok d =>
   rw [q] at h
   simp only [Res.bind_ok] at h ⊢
   cases d <;> simp only [Res.bind_bad] at h
   all_goals first | exact nE h | skip
   rename_i c
   show ∀ H',Same H H'->if c=k0 then _ else _
   intro H' s
   by_cases z:c=k0
   ·rw [if_pos z] at h ⊢
    refine ⟨τ,rfl,hF.same s,by simp only [jk,jks]; rw [h2]; rfl,?_⟩
    simp only [tv,ev]
    exact h.mono s fun b _ hb H2 s2=>hb H2 (s.trans s2)
   ·rw [if_neg z] at h ⊢
    exact h H' s
  | exc c=>rw [q] at h; exact h
  | bad=>rw [q] at h; exact h
 have mon:∀ (σ:St) (H:Hp) (A B:Bool->Hp->Prop),(∀ v H,A v H->B v H)->lT p EX tn x σ H A->lT p EX tn x σ H B:=by
  rintro σ H A B m ⟨τ,e,hF,hj,h⟩
  exact ⟨τ,e,hF,hj,h.mono (Same.refl _) fun b _ hb H' s=>m _ _ (hb H' s)⟩
 cases k0 with
 | true=>exact fun wh pins s σ H Q I h=>Tt ha hb wh pins s σ H Q I (mon _ _ _ _ (fun c H1 h=>by cases c <;> simpa using h) (key σ H Q h))
 | false=>exact fun wh pins s σ H Q I h=>Vm ha hb wh pins s σ H Q I (mon _ _ _ _ (fun c H1 h=>by cases c <;> simpa using h) (key σ H Q h))
theorem RR {c a b:Expr} {x y z:E} (hc:PT X c (lT p EX tn x)) (ha:PE X a (lE p EX tn y)) (hb:PE X b (lE p EX tn z)):PE X (.IfExp c a b pos) (lE p EX tn (.ifx x y z)):=by
 refine PE.mono (Pb hc ha hb) fun σ H Q h=>?_
 obtain ⟨τ,rfl,hF,j,k,hj,h⟩:=h
 simp only [jk] at hj
 obtain ⟨⟨j1,k1⟩,h1,hj⟩:=bS hj
 obtain ⟨⟨j2,k2⟩,h2,hj⟩:=bS hj
 obtain ⟨⟨j3,k3⟩,h3,hj⟩:=bS hj
 have hj:=Option.some.inj hj
 simp only [Prod.mk.injEq] at hj
 simp only [ev] at h
 have hk2:k<=k2:=by rw [<- hj.2]; split; exact abu ..; exact aar _
 have hk3:k<=k3:=by rw [<- hj.2]; split; exact abG ..; exact aar _
 refine ⟨τ,rfl,hF,by rw [h1]; rfl,h.bind.mono (Same.refl _) fun t _ ht H' s=>?_⟩
 cases t with
 | true =>
  rw [if_pos rfl] at ht ⊢
  exact ⟨τ,rfl,hF.same s,j2,k2,h2,ht.mono s fun d _ hd t H2 ht R=>hd t H2 ht ((R.back s).le (by omega) hk2)⟩
 | false =>
  rw [if_neg (by decide)] at ht ⊢
  exact ⟨τ,rfl,hF.same s,j3,k3,h3,ht.mono s fun d _ hd t H2 ht R=>hd t H2 ht ((R.back s).le (by omega) hk3)⟩
end
section
variable {p:Px} {EX:EXT} {tn:List Nat} {X:Cx} {pos:Pos}
theorem Ko (n:Nat) (i:Int):L2.ixN n i=ixN n i:=rfl
theorem MW {ts:List T} {i:Int} {σ:St} {H:Hp} {Kc:D->Prop} (h:Lg p EX σ (atD (T.dats ts) i) H Kc):∃ t ∈ ts,atI (ts.map T.val) i=some t.val/\Kc t.dat:=by
 unfold atD at h
 rw [Ak] at h
 cases q:ixN ts.length i with
 | none=>rw [q] at h; exact nE h
 | some j =>
  rw [q] at h
  simp only [abe] at h
  rw [T.dats_map,aam] at h
  cases e:ts[j]? with
  | none=>rw [e] at h; exact nE h
  | some t =>
   rw [e] at h
   refine ⟨t,aae e,?_,h⟩
   unfold atI
   rw [aab,Ko,q]
   show (ts.map T.val)[j]?=_
   rw [aam,e]; rfl
theorem Rs.sub {B:Addr->Prop} {H H1:Hp} {j k j':Nat} {t u:T} (r:Rs p B H H1 j k t) (ok:u.Ok p H1) (h:∀ a ∈ u.rest j',a ∈ t.rest j):Rs p B H H1 j' 0 u :=
 ⟨r.same,ok,fun a m=>r.src a (h a m),by rw [T.adr_zero]; simp,T.nd_zero u⟩
noncomputable def B4:Expr->Bool
 | .Slice _ _ _ _=>false
 | _=>true
theorem Gj {b:Expr} (h:B4 b=true):LK b:=by
 intro o i
 cases b <;> first | rfl | cases h
theorem Uy (hK:X.K=p.K):IxR X (fun x y H Q=>T4 X.K x y H Q\/T5 X.K x y H Q):=II.or NU
theorem Uz (hK:X.K=p.K) {a b:Expr} {x y:E} (ha:PE X a (lE p EX tn x)) (hb:PE X b (lE p EX tn y)) (hp:B4 b=true):PE X (.Subscript a b pos) (lE p EX tn (.ix x y)):=by
 refine PE.mono (MJ (Uy hK) ha hb (Gj hp)) fun σ H Q h=>?_
 obtain ⟨τ,rfl,hF,j,k,hj,h⟩:=h
 simp only [jk] at hj
 obtain ⟨⟨j1,k1⟩,h1,hj⟩:=bS hj
 obtain ⟨⟨j2,k2⟩,h2,hj⟩:=bS hj
 obtain ⟨hc,e⟩:=DX hj
 cases e
 have hc:=of_decide_eq_true hc
 subst hc
 simp only [ev] at h
 refine l1 hF h1 h fun d t H1 ht R h=>l2 hF R.same h2 h fun d' t' H2 ht' R' h=>?_
 subst ht ht'
 have R:=R.fwd R'.same
 cases t <;> cases t' <;> simp only [T.dat,ixD] at h
 all_goals first | exact nE h | skip
 ·obtain ⟨u,hu,e,h⟩:=MW h
  exact .inr ⟨_,_,_,_,rfl,rfl,SqT.of R.ok.1,e,h u H2 rfl (R.sub (T.oks_iff.mp R.ok.2 u hu) fun b m=>T.mem_rests.mpr ⟨u,hu,m⟩)⟩
 ·obtain ⟨u,hu,e,h⟩:=MW h
  exact .inl ⟨_,_,_,_,rfl,rfl,.inl R.ok.1,e,h u H2 rfl (R.sub (T.oks_iff.mp R.ok.2 u hu) fun b m=>aaa _ (T.mem_rests.mpr ⟨u,hu,m⟩))⟩
theorem RS {a b:Expr} {x y:E} (ha:PE X a (lE p EX tn x)) (hb:PE X b (lE p EX tn y)) (hp:B4 b=true):PE X (.Subscript a b pos) (lE p EX tn (.ixL x y)):=by
 refine PE.mono (MJ II ha hb (Gj hp)) fun σ H Q h=>?_
 obtain ⟨τ,rfl,hF,j,k,hj,h⟩:=h
 simp only [jk] at hj
 obtain ⟨⟨j1,k1⟩,h1,hj⟩:=bS hj
 obtain ⟨⟨j2,k2⟩,h2,hj⟩:=bS hj
 have hj:=Option.some.inj hj
 simp only [Prod.mk.injEq] at hj
 obtain ⟨rfl,rfl⟩:=hj
 simp only [ev] at h
 refine l1 hF h1 h fun d t H1 ht R h=>l2 hF R.same h2 h fun d' t' H2 ht' R' h=>?_
 subst ht ht'
 have R:=R.fwd R'.same
 cases t <;> cases t' <;> simp only [T.dat,EA] at h
 all_goals first | exact nE h | skip
 obtain ⟨u,hu,e,h⟩:=MW h
 refine ⟨_,_,_,_,rfl,rfl,.inl R.ok.1,e,h u H2 rfl (R.sub (T.oks_iff.mp R.ok.2 u hu) fun b m=>?_)⟩
 cases j1 with
 | zero=>exact aaa _ (T.mem_rests.mpr ⟨u,hu,m⟩)
 | succ j1=>exact T.mem_rests.mpr ⟨u,hu,m⟩
theorem HZ (n d:Nat) (o:Option Int):HT.sIx n d o=sIx n d o:=by
 cases o with
 | none=>rfl
 | some v=>exact Int.ofNat_inj.mp (by rw [<- HT.clip_eq v n d]; unfold sIx; simp only; split <;> omega)
theorem LW {α β:Type} (f:α->β) (xs:List α) (lo hi:Option Int):(cut xs lo hi).map f=cut (xs.map f) lo hi:=by
 unfold cut; rw [acV,acW,aab]
theorem LX (ts:List T) (lo hi:Option Int):Gc (ts.map T.val) lo hi=(cut ts lo hi).map T.val:=by
 unfold Gc cut
 rw [acV,acW,aab,HZ,HZ]
theorem GT {α:Type} {xs:List α} {lo hi:Option Int} {x:α} (h:x ∈ cut xs lo hi):x ∈ xs:=acO (acP h)
noncomputable def lO (p:Px) (EX:EXT) (tn:List Nat) (e:E):TO:=fun σ H Q=>∃ τ,σ=vτ τ/\Fok p tn τ H/\(jk tn e).isSome=true/\Lg p EX σ (CF e.isCN (ev e (dτ τ))) H fun o=>∀ H',Same H H'->Q o H'
theorem Jq:PO X none (lO p EX tn .cN):=by
 intro pins s σ H Q I h
 obtain ⟨τ,rfl,hF,hj,h⟩:=h
 exact Rj pins s _ H Q I (h H (Same.refl _))
theorem Jr {e:Expr} {x:E} (he:PE X e (lE p EX tn x)) (hx:x.isCN=false):PO X (some e) (lO p EX tn x):=by
 intro pins s σ H Q I h
 obtain ⟨τ,rfl,hF,hj,h⟩:=h
 obtain ⟨⟨j,k⟩,hj⟩:=aaz.mp hj
 unfold CF at h
 rw [hx,if_neg (by decide)] at h
 refine Rk he pins s _ H Q I (l1 hF hj h fun d t H1 ht R h=>?_)
 subst ht
 cases t <;> simp only [T.dat,Ds] at h
 all_goals first | exact nE h | exact ⟨_,rfl,h H1 R.same⟩
theorem LY:∀ {ts:List T},(T.dats ts).all D.scal=true->∀ t ∈ ts,t.sc=true
 | [],_,t,h=>nomatch h
 | u :: r,h,t,ht=>by
  simp only [T.dats,aaO,aaf] at h
  rcases aal.mp ht with rfl | ht
  ·cases t <;> first | rfl | cases h.1
  ·exact LY h.2 t ht
theorem RT {t:T} {j:Nat} (h:t.sc=true):t.rest j=[]:=by cases t <;> first | rfl | cases h
theorem UA {t:T} {j:Nat} (h:t.sc=true):t.adr j=[]:=by cases t <;> first | rfl | cases h
theorem Kp {ts:List T} {j:Nat} (h:∀ t ∈ ts,t.sc=true):T.rests ts j=[]:=by
 refine aa1.mpr fun b hb=>?_
 obtain ⟨t,ht,q⟩:=T.mem_rests.mp hb
 rw [RT (h t ht)] at q; cases q
theorem LZ {ts:List T} {j:Nat} (h:∀ t ∈ ts,t.sc=true):T.adrs ts j=[]:=by
 refine aa1.mpr fun b hb=>?_
 obtain ⟨t,ht,q⟩:=T.mem_adrs.mp hb
 rw [UA (h t ht)] at q; cases q
theorem PY {B:Addr->Prop} {H H1:Hp} {j k:Nat} {a:Addr} {ts:List T} (s:Same H H1) (ok:(T.tup a ts).Ok p H1) (h:∀ t ∈ ts,t.sc=true):Rs p B H H1 j k (.tup a ts) :=
 ⟨s,ok,by simp only [T.rest]; rw [Kp h]; simp,by simp only [T.adr]; rw [LZ h]; simp,by unfold T.Nd; simp only [T.adr,T.rest]; rw [Kp h,LZ h]; simp⟩
theorem RU {a:Expr} {lo hi:Option Expr} {p2:Pos} {x y z:E} (ha:PE X a (lE p EX tn x)) (hl:PO X lo (lO p EX tn y)) (hh:PO X hi (lO p EX tn z)):PE X (.Subscript a (.Slice lo hi none p2) pos) (lE p EX tn (.slc x y z)):=by
 refine PE.mono (Pm (Rl.or T3) ha hl hh) fun σ H Q h=>?_
 obtain ⟨τ,rfl,hF,j,k,hj,h⟩:=h
 simp only [jk] at hj
 obtain ⟨⟨j1,k1⟩,h1,hj⟩:=bS hj
 obtain ⟨q2,h2,hj⟩:=bS hj
 obtain ⟨q3,h3,hj⟩:=bS hj
 obtain ⟨hc,e⟩:=DX hj
 cases e
 have hc:=of_decide_eq_true hc
 simp only [ev] at h
 refine l1 hF h1 h fun d t H1 ht R h=>?_
 subst ht
 refine ⟨τ,rfl,hF.same R.same,by rw [h2]; rfl,h.bind.mono R.same fun l _ h H2 s2=>?_⟩
 refine ⟨τ,rfl,hF.same (R.same.trans s2),by rw [h3]; rfl,h.bind.mono (R.same.trans s2) fun u _ h H3 s3=>?_⟩
 have R:=R.fwd (s2.trans s3)
 cases t with
 | tup b ts =>
  simp only [T.dat,Dt] at h
  obtain ⟨⟨g1,g2⟩,h⟩:=h.guard
  refine .inr ⟨b,_,rfl,SqT.of R.ok.1,?_,fun q hq=>?_⟩
  ·rw [aab,HZ,HZ,<- Ak]; exact g2
  ·rw [LX]
   have sn:=Same.new (o:=.tup ((cut ts l u).map T.val)) hq
   refine h (.tup q (cut ts l u)) _ (by simp only [T.dat,T.dats_map,LW]) (PY (R.same.trans sn) ⟨A9,T.oks_iff.mpr fun w hw=>((T.oks_iff.mp R.ok.2 w (GT hw))).same sn⟩ fun w hw=>LY g1 w (GT hw))
 | lst b ts =>
  simp only [T.dat,Dt] at h
  refine .inl ⟨b,_,rfl,.inl R.ok.1,fun q hq=>?_⟩
  rw [LX]
  refine h (.lst q (cut ts l u)) _ (by simp only [T.dat,T.dats_map,LW]) (CZ R.same (T.oks_iff.mpr fun w hw=>T.oks_iff.mp R.ok.2 w (GT hw)) (fun c m=>?_) hq)
  obtain ⟨w,hw,m⟩:=T.mem_rests.mp m
  exact R.elems hc c (T.mem_rests.mpr ⟨w,GT hw,m⟩)
 | _=>exact nE h
end
noncomputable def spF (p:Px) (F:Fn):Sp:=fun vs H Q E=>∃ ts:List T,vs=ts.map T.val/\T.Oks p H ts/\ts.length=F.ar/\match F.den (T.dats ts) with
 | .ok d=>∀ t H',t.dat=d->Rs p (fun a=>a ∈ T.rests ts 0) H H' 0 F.dep t->Q t.val H'
 | .exc c=>p.has c=true->∀ H',Same H H'->E (.ref (p.cl c)) none H'
 | .bad=>False
noncomputable def MX (p:Px) (X:Cx) (F:Fn):Prop:=∃ ps:List Str,ps.length=F.ar/\Has X.prog X.w X.K X.mg X.base F.name F.lv ps (spF p F)
noncomputable def spM (p:Px) (F:Fn):Sp:=fun vs H Q _=>∃ (t:T) (ts:List T),vs=t.val :: ts.map T.val/\t.Ok p H/\T.Oks p H ts/\ts.length + 1=F.ar/\t.Nd 2/\(∀ b ∈ t.adr 2,(∃ ws,H b=some (.lst ws))/\b ∉ T.rests ts 0)/\∃ d,F.den (t.dat :: T.dats ts)=.ok d /\
 ∀ (t':T) (H':Hp),t'.dat=d->t'.val=t.val->t'.Ok p H'->t'.Nd 2->(∀ b u,H b=some u->b ∉ t.adr 2->H' b=some u)->(∀ b ∈ t'.adr 2,(b ∈ t.adr 2\/H b=none)/\∃ ws,H' b=some (.lst ws))->Q .non H'
noncomputable def UB (p:Px) (X:Cx) (F:Fn):Prop:=∃ ps:List Str,ps.length=F.ar/\Has X.prog X.w X.K X.mg X.base F.name F.lv ps (spM p F)
theorem EZ:∀ (m:Nat) (t:T) (k:Nat),t.dat.flat m k=true->t.rest k=[]
 | 0,t,k,h=>by simp [D.flat] at h
 | m + 1,t,k,h=>by
  cases t with
  | tup a ts =>
   simp only [T.dat,D.flat] at h
   simp only [T.rest]
   refine aa1.mpr fun b hb=>?_
   obtain ⟨t,ht,q⟩:=T.mem_rests.mp hb
   rw [EZ m t k (FP h t ht)] at q; cases q
  | lst a ts =>
   cases k with
   | zero=>simp [T.dat,D.flat] at h
   | succ k =>
    simp only [T.dat,D.flat] at h
    simp only [T.rest]
    refine aa1.mpr fun b hb=>?_
    obtain ⟨t,ht,q⟩:=T.mem_rests.mp hb
    rw [EZ m t k (FP h t ht)] at q; cases q
  | _=>rfl
noncomputable def Af:Expr->Bool
 | .Starred _ _=>false
 | _=>true
theorem Ag {e:Expr} {es:List Expr} {env:Env} (h:Af e=true):starEach (e :: es) env=(false,eval e env) :: starEach es env:=by
 cases e <;> first | rfl | cases h
theorem AS {pos:Pos} {env:Env}:∀ {es:List Expr},es.all Af=true->(backTo pos (starEach es env)).any (·.1)=false
 | [],_=>rfl
 | e :: es,h=>by
  rw [aaO,aaf] at h
  rw [Ag h.1]
  have ih:=AS (pos:=pos) (env:=env) h.2
  unfold backTo at ih ⊢
  rw [aay,acU,ih]; rfl
section
variable {p:Px} {EX:EXT} {tn:List Nat} {X:Cx} {pos np:Pos}
theorem PZ {F:Fn} {e:Expr} {es:List Expr} {x:E} {xs:Es} (hx:Gf (CXe X.prog X.w) X EX) (hF:MX p X F) (hr:Room F.lv X.A) (hg:Gl X F.name) (hdb:(F.name==("__debug__" : Str))=false) (ha:PA X (e :: es) (lEs p EX tn (.cons x xs))) (hst:(e :: es).all Af=true) (hl:(Es.cons x xs).len=F.ar) :
  PE X (.Call (.Name F.name np) (e :: es) [] pos) (lE p EX tn (.call F (.cons x xs))):=by
 obtain ⟨ps,hps,hF⟩:=hF
 rw [aaO,aaf] at hst
 refine PE.mono (MM hF hr hg hx ha hdb (Ag hst.1) (AS hst.2)) fun σ H Q h=>?_
 obtain ⟨τ,rfl,hFr,j,k,hj,h⟩:=h
 simp only [jk] at hj
 obtain ⟨⟨j1,k1⟩,h1,hj⟩:=bS hj
 obtain ⟨hc,e⟩:=DX hj
 cases e
 have hc:j1=0:=of_decide_eq_true hc
 subst hc
 simp only [ev] at h
 refine ⟨τ,rfl,hFr,0,k1,h1,h.bind.mono (Same.refl _) fun ds e hd ts H1 hts R=>?_⟩
 show spF p F (ts.map T.val ++ []) H1 Q (EX (vτ τ))
 rw [aaL]
 refine ⟨ts,rfl,R.ok,?_,?_⟩
 ·rw [<- Ak,hts,CG _ _ _ e,hl]
 ·rw [hts]
  cases q:F.den ds with
  | ok d =>
   rw [q] at hd
   intro t H' ht R'
   refine hd t H' ht ⟨R.same.trans R'.same,R'.ok,fun a m=>?_,fun a m=>⟨R.same.free (R'.new a m).1,(R'.new a m).2⟩,R'.nd⟩
   rcases R'.src a m with z | z
   ·exact .inl (R.same.free z)
   ·exact R.src a z
  | exc c =>
   rw [q] at hd
   exact fun hc H' s=>hd hc H' (R.same.trans s)
  | bad=>rw [q] at hd; exact hd
theorem T.adr_rest:∀ (t:T) {d K:Nat},t.rest d=[]->d<=K->t.adr K=t.adr d:=by
 have lists:∀ (ts:List T),(∀ t ∈ ts,∀ {d K:Nat},t.rest d=[]->d<=K->t.adr K=t.adr d)->∀ {d K:Nat},T.rests ts d=[]->d<=K->T.adrs ts K=T.adrs ts d:=by
  intro ts
  induction ts with
  | nil=>intro _ d K _ _; rfl
  | cons t r ih =>
   intro h d K hr hk
   simp only [T.rests,List.append_eq_nil_iff] at hr
   show t.adr K ++ T.adrs r K=t.adr d ++ T.adrs r d
   rw [h t (aac ..) hr.1 hk,ih (fun u hu=>h u (aaa _ hu)) hr.2 hk]
 refine T.ind (by intros; rfl) (by intros; rfl) (by intros; rfl) (by intros; rfl) (fun a ts ih d K h hk=>?_) (fun a ts ih d K h hk=>?_) (by intros; rfl)
 ·exact lists ts ih h hk
 ·cases d with
  | zero=>cases h
  | succ d =>
   cases K with
   | zero=>omega
   | succ K=>exact congrArg (a :: ·) (lists ts ih h (ab8 hk))
theorem Of {F:Fn} {e:Expr} {es:List Expr} {x:E} {xs:Es} (hx:Gf (CXe X.prog X.w) X EX) (hF:MX p X F) (hr:Room F.lv X.A) (hg:Gl X F.name) (hdb:(F.name==("__debug__" : Str))=false) (ha:PA X (e :: es) (lEs p EX tn (.cons x xs))) (hst:(e :: es).all Af=true) (hl:(Es.cons x xs).len=F.ar) :
  PE X (.Call (.Name F.name np) (e :: es) [] pos) (lE p EX tn (.callB F (.cons x xs))):=by
 obtain ⟨ps,hps,hF⟩:=hF
 rw [aaO,aaf] at hst
 refine PE.mono (MM hF hr hg hx ha hdb (Ag hst.1) (AS hst.2)) fun σ H Q h=>?_
 obtain ⟨τ,rfl,hFr,j,k,hj,h⟩:=h
 simp only [jk] at hj
 obtain ⟨⟨j1,k1⟩,h1,hj⟩:=bS hj
 have hj:=Option.some.inj hj
 simp only [Prod.mk.injEq] at hj
 obtain ⟨rfl,rfl⟩:=hj
 simp only [ev] at h
 refine ⟨τ,rfl,hFr,j1,k1,h1,h.bind.mono (Same.refl _) fun ds e hd ts H1 hts R=>?_⟩
 show spF p F (ts.map T.val ++ []) H1 Q (EX (vτ τ))
 rw [aaL]
 refine ⟨ts,rfl,R.ok,?_,?_⟩
 ·rw [<- Ak,hts,CG _ _ _ e,hl]
 ·rw [hts]
  cases q:F.den ds with
  | ok d =>
   rw [q] at hd
   obtain ⟨hf,hd⟩:=Lg.guard hd
   intro t H' ht R'
   subst ht
   have r0:=EZ 9 t F.dep hf
   have up:∀ a,a ∈ t.rest 0->a ∈ t.adr F.dep:=fun a m=>by
    rcases (T.all_iff t F.dep).mp m with z | z
    ·exact z
    ·rw [r0] at z; cases z
   refine hd t H' rfl ⟨R.same.trans R'.same,R'.ok,fun a m=>.inl (R.same.free (R'.new a (up a m)).1),fun a m=>?_,?_⟩
   ·have:=R'.new a (up a ((T.all_iff t 9).mpr (.inl m)))
    exact ⟨R.same.free this.1,this.2⟩
   ·by_cases c9:9<=F.dep
    ·exact T.nd_le t c9 R'.nd
    ·have e9:=T.adr_rest t r0 (show F.dep<=9 by omega)
     refine ⟨by rw [e9]; exact R'.nd.1,fun a m _=>?_⟩
     have:=T.rest_le t (show F.dep<=9 by omega) m
     rw [r0] at this; cases this
  | exc c =>
   rw [q] at hd
   exact fun hc H' s=>hd hc H' (R.same.trans s)
  | bad=>rw [q] at hd; exact hd
theorem Dm {b:Bi} {e:Expr} {es:List Expr} {x:E} {xs:Es} {ex:Expr} {r:List V->Hp->VK->Prop} (hp:PE X ex (tCB r (lEs p EX tn (.cons x xs))))
  (hr:∀ (B:Addr->Prop) (H H1:Hp) (j1 k1 j k:Nat) (ts:List T) (σ:St) (Q:VK),RsL p B H H1 j1 k1 ts->(match b with | .list=>gj (decide (j1=0)) (0,1) | .listL=>gj (decide (j1<=1)) (0,1) | _=>some (0,9))=some (j,k) ->
   Lg p EX σ (biD b (T.dats ts)) H (KE p B H j k Q)->r (ts.map T.val) H1 Q):PE X ex (lE p EX tn (.bi b (.cons x xs))):=by
 refine PE.mono hp fun σ H Q h=>?_
 obtain ⟨τ,rfl,hFr,j,k,hj,h⟩:=h
 simp only [jk] at hj
 obtain ⟨⟨j1,k1⟩,h1,hj⟩:=bS hj
 simp only [ev] at h
 refine ⟨τ,rfl,hFr,j1,k1,h1,h.bind.mono (Same.refl _) fun ds e hd ts H1 hts R=>?_⟩
 subst hts
 exact hr (Sh tn τ) H H1 j1 k1 j k ts _ Q R hj hd
theorem Fe:∀ {ts:List T} {bs:List Int},Bf (T.dats ts)=some bs->ts.map T.val=bs.map V.int
 | [],bs,h=>by simp [T.dats,Bf] at h; subst h; rfl
 | t :: r,bs,h=>by
  cases t <;> simp only [T.dats,T.dat,Bf] at h
  all_goals first | cases h | skip
  obtain ⟨bs',h1,rfl⟩:=aau.mp h
  simp [T.val,Fe h1]
section
variable {e:Expr} {es:List Expr} {x:E} {xs:Es} (hg:∀ y:Str,y ∈ (["len", "min", "max", "abs", "int", "list", "tuple", "all", "any", "sum", "sorted", "isinstance", "str", "range", "enumerate", "zip", "reversed"]:List Str)->X.mg y=none)
 (ha:PA X (e :: es) (lEs p EX tn (.cons x xs))) (hst:(e :: es).all Af=true)
include hg ha hst
theorem RV (hgl:Gl X "len"):PE X (.Call (.Name "len" np) (e :: es) [] pos) (lE p EX tn (.bi .len (.cons x xs))):=by
 rw [aaO,aaf] at hst
 refine Dm (es:=es) (e:=e) (DI J6 hgl (hg _ (by simp)) PySem.boot_len ha (by decide) (by decide) (Ag hst.1) (AS hst.2)) fun B H H1 j1 k1 j k ts σ Q R hj h=>?_
 rcases ts with _ | ⟨t,_ | ⟨u,r⟩⟩
 ·exact nE h
 ·cases t with
  | lst a us=>exact ⟨a,_,rfl,.inl (.inl R.ok.1.1),by have:=h (.int _) H1 rfl (Rs.scal R.same rfl); rw [Ak,<- aab (f:=T.val)] at this; exact this⟩
  | tup a us=>exact ⟨a,_,rfl,.inr (SqT.of R.ok.1.1),by have:=h (.int _) H1 rfl (Rs.scal R.same rfl); rw [Ak,<- aab (f:=T.val)] at this; exact this⟩
  | _=>exact nE h
 ·exact nE h
theorem RW (hgl:Gl X "int"):PE X (.Call (.Name "int" np) (e :: es) [] pos) (lE p EX tn (.bi .int (.cons x xs))):=by
 rw [aaO,aaf] at hst
 refine Dm (es:=es) (e:=e) (Gb NQ hgl (hg _ (by simp)) (by decide +kernel) ha (by decide) (by decide) (Ag hst.1) (AS hst.2)) fun B H H1 j1 k1 j k ts σ Q R hj h=>?_
 rcases ts with _ | ⟨t,_ | ⟨u,r⟩⟩
 ·exact nE h
 ·cases t with
  | int i=>exact .inl ⟨i,rfl,h (.int _) H1 rfl (Rs.scal R.same rfl)⟩
  | bl b=>exact .inr ⟨b,rfl,h (.int _) H1 rfl (Rs.scal R.same rfl)⟩
  | _=>exact nE h
 ·exact nE h
theorem P0 (hgl:Gl X "list"):PE X (.Call (.Name "list" np) (e :: es) [] pos) (lE p EX tn (.bi .list (.cons x xs))):=by
 rw [aaO,aaf] at hst
 refine Dm (es:=es) (e:=e) (Gb Gd hgl (hg _ (by simp)) (by decide +kernel) ha (by decide) (by decide) (Ag hst.1) (AS hst.2)) fun B H H1 j1 k1 j k ts σ Q R hj h=>?_
 obtain ⟨hc,ej⟩:=DX hj
 cases ej
 have hc:j1=0:=of_decide_eq_true hc
 subst hc
 rcases ts with _ | ⟨t,_ | ⟨u,r⟩⟩
 ·exact nE h
 ·cases t with
  | lst a us=>exact ⟨a,_,rfl,.inl (.inl R.ok.1.1),fun l hl=>h (.lst l us) _ rfl (CZ R.same R.ok.1.2 (fun c m=>R.src c (by simp [T.rests,T.rest,m])) hl)⟩
  | tup a us=>exact ⟨a,_,rfl,.inr (SqT.of R.ok.1.1),fun l hl=>h (.lst l us) _ rfl (CZ R.same R.ok.1.2 (fun c m=>R.src c (by simp [T.rests,T.rest,m])) hl)⟩
  | _=>exact nE h
 ·exact nE h
theorem Og (hgl:Gl X "list"):PE X (.Call (.Name "list" np) (e :: es) [] pos) (lE p EX tn (.bi .listL (.cons x xs))):=by
 rw [aaO,aaf] at hst
 refine Dm (es:=es) (e:=e) (Gb Gd hgl (hg _ (by simp)) (by decide +kernel) ha (by decide) (by decide) (Ag hst.1) (AS hst.2)) fun B H H1 j1 k1 j k ts σ Q R hj h=>?_
 obtain ⟨hc,ej⟩:=DX hj
 cases ej
 have hc:j1<=1:=of_decide_eq_true hc
 rcases ts with _ | ⟨t,_ | ⟨u,r⟩⟩
 ·exact nE h
 ·cases t with
  | lst a us=>exact ⟨a,_,rfl,.inl (.inl R.ok.1.1),fun l hl=>h (.lst l us) _ rfl (CZ R.same R.ok.1.2 (fun c m=>R.src c (by
    simp only [T.rests,aaL]
    exact T.rest_le (.lst a us) hc (j':=1) m)) hl)⟩
  | _=>exact nE h
 ·exact nE h
end
end
section
variable {p:Px} {EX:EXT} {tn:List Nat} {X:Cx} {pos np:Pos}
theorem Ia {ns:List Int} {its:List Value} (h:Vals (ns.map V.int) its):∃ xs:Array (Int × Tok),its.toArray=intItems xs/\ns=xs.toList.map (·.1):=by
 have hi:=MI h
 obtain ⟨xs,hx⟩:=hi.allInts.items
 refine ⟨xs,hx,?_⟩
 rw [<- nums_intItems,<- hx,<- hi.numsOf]
noncomputable def VI:List V->Hp->VK->Prop:=fun xs H Q=>∃ (l:Addr) (ns:List Int) (M:Int),xs=[.ref l]/\Rd H l (.lst (ns.map V.int))/\ns.max?=some M/\Q (.int M) H
noncomputable def VJ:List V->Hp->VK->Prop:=fun xs H Q=>∃ (l:Addr) (ns:List Int) (M:Int),xs=[.ref l]/\Rd H l (.lst (ns.map V.int))/\ns.min?=some M/\Q (.int M) H
theorem Oh (hc:X.calm=true):DV X (.builtin "max") VI:=by
 intro pins s σ H xs us Q I r h
 obtain ⟨l,ns,M,rfl,hS,hM,q⟩:=h
 obtain ⟨u,rfl,ru⟩:=GO r
 cases (show u=Value.ref l from ru)
 obtain ⟨its,rr,pl,_⟩:=I.list (.inl hS)
 obtain ⟨xs,hx,rfl⟩:=Ia rr
 have hl:=pl.isList
 rw [hx] at hl
 have hne:0 < xs.size:=by
  rcases aco xs.size with z | z
  ·have:xs.toList=[]:=abN (by simpa using z)
   rw [this] at hM; cases hM
  ·exact z
 refine max_intList (I.ok.hd hc) hl hne fun v h' tk hv hk=>?_
 obtain ⟨t,rfl⟩:=intItems_at hv
 obtain ⟨h1,h2⟩:=argBest_gt (numAt xs) (xs.size - 1)
 have e:M=numAt xs (argBest (fun i j=>decide (numAt xs i > numAt xs j)) (xs.size - 1)):=by
  have:(xs.toList.map (·.1)).max?=some (numAt xs (argBest (fun i j=>decide (numAt xs i > numAt xs j)) (xs.size - 1))):=by
   refine abQ.mpr ⟨?_,fun a ha=>?_⟩
   ·rw [numAt_eq]; exact getD_mem (by rw [aab,Array.length_toList]; omega)
   ·obtain ⟨j,hj,rfl⟩:=mem_getD ha
    rw [aab,Array.length_toList] at hj
    rw [<- numAt_eq]; exact h2 j (by omega)
  exact Option.some.inj (hM.symm.trans this)
 exact ⟨.int M,H,I.kept (t':=tk) hk,⟨t,by rw [e]⟩,q⟩
theorem Oi (hc:X.calm=true):DV X (.builtin "min") VJ:=by
 intro pins s σ H xs us Q I r h
 obtain ⟨l,ns,M,rfl,hS,hM,q⟩:=h
 obtain ⟨u,rfl,ru⟩:=GO r
 cases (show u=Value.ref l from ru)
 obtain ⟨its,rr,pl,_⟩:=I.list (.inl hS)
 obtain ⟨xs,hx,rfl⟩:=Ia rr
 have hl:=pl.isList
 rw [hx] at hl
 have hne:0 < xs.size:=by
  rcases aco xs.size with z | z
  ·have:xs.toList=[]:=abN (by simpa using z)
   rw [this] at hM; cases hM
  ·exact z
 refine min_intList (I.ok.hd hc) hl hne fun v h' tk hv hk=>?_
 obtain ⟨t,rfl⟩:=intItems_at hv
 obtain ⟨h1,h2⟩:=argBest_lt (numAt xs) (xs.size - 1)
 have e:M=numAt xs (argBest (fun i j=>decide (numAt xs i < numAt xs j)) (xs.size - 1)):=by
  have:(xs.toList.map (·.1)).min?=some (numAt xs (argBest (fun i j=>decide (numAt xs i < numAt xs j)) (xs.size - 1))):=by
   refine List.min?_eq_some_iff.mpr ⟨?_,fun a ha=>?_⟩
   ·rw [numAt_eq]; exact getD_mem (by rw [aab,Array.length_toList]; omega)
   ·obtain ⟨j,hj,rfl⟩:=mem_getD ha
    rw [aab,Array.length_toList] at hj
    rw [<- numAt_eq]; exact h2 j (by omega)
  exact Option.some.inj (hM.symm.trans this)
 exact ⟨.int M,H,I.kept (t':=tk) hk,⟨t,by rw [e]⟩,q⟩
section
variable {e:Expr} {es:List Expr} {x:E} {xs:Es} (hg:∀ y:Str,y ∈ (["len", "min", "max", "abs", "int", "list", "tuple", "all", "any", "sum", "sorted", "isinstance", "str", "range", "enumerate", "zip", "reversed"]:List Str)->X.mg y=none)
 (ha:PA X (e :: es) (lEs p EX tn (.cons x xs))) (hst:(e :: es).all Af=true)
include hg ha hst
theorem RX (hcm:X.calm=true) (hgl:Gl X "max"):PE X (.Call (.Name "max" np) (e :: es) [] pos) (lE p EX tn (.bi .max (.cons x xs))):=by
 rw [aaO,aaf] at hst
 refine Dm (es:=es) (e:=e) (DI (NO hcm) hgl (hg _ (by simp)) (by decide +kernel) ha (by decide) (by decide) (Ag hst.1) (AS hst.2)) fun B H H1 j1 k1 j k ts σ Q R hj h=>?_
 rcases ts with _ | ⟨t,_ | ⟨u,_ | ⟨v,r⟩⟩⟩
 ·exact nE h
 ·exact nE h
 ·obtain ⟨i,m,rfl,rfl,h⟩:=Ca (t:=t) (u:=u) (Q:=fun r=>Lg p EX σ r H (KE p B H j k Q)) id h
  refine ⟨i,m,rfl,?_⟩
  have:=h (.int _) H1 rfl (Rs.scal R.same rfl)
  have e:(if m > i then m else i)=max i m:=by split <;> omega
  rw [e]; exact this
 ·exact nE h
theorem P5 (hcm:X.calm=true) (hgl:Gl X "max"):PE X (.Call (.Name "max" np) (e :: es) [] pos) (lE p EX tn (.bi .maxL (.cons x xs))):=by
 rw [aaO,aaf] at hst
 refine Dm (es:=es) (e:=e) (DI (Oh hcm) hgl (hg _ (by simp)) (by decide +kernel) ha (by decide) (by decide) (Ag hst.1) (AS hst.2)) fun B H H1 j1 k1 j k ts σ Q R hj h=>?_
 rcases ts with _ | ⟨t,_ | ⟨u,r⟩⟩
 ·exact nE h
 ·cases t with
  | lst a us =>
   have h:Lg p EX σ ((Bu (Bf (T.dats us))).bind fun ns=>(Bu ns.max?).bind fun n=>.ok (.int n)) H (KE p B H j k Q):=h
   cases q:Bf (T.dats us) with
   | none=>rw [q] at h; exact nE h
   | some ns =>
    rw [q] at h
    have h:Lg p EX σ ((Bu ns.max?).bind fun n=>.ok (.int n)) H (KE p B H j k Q):=h
    cases q2:ns.max? with
    | none=>rw [q2] at h; exact nE h
    | some M =>
     rw [q2] at h
     exact ⟨a,ns,M,rfl,Fe q ▸ R.ok.1.1,q2,h (.int _) H1 rfl (Rs.scal R.same rfl)⟩
  | _=>exact nE h
 ·exact nE h
theorem RY (hcm:X.calm=true) (hgl:Gl X "min"):PE X (.Call (.Name "min" np) (e :: es) [] pos) (lE p EX tn (.bi .min (.cons x xs))):=by
 rw [aaO,aaf] at hst
 refine Dm (es:=es) (e:=e) (DI (NP hcm) hgl (hg _ (by simp)) (by decide +kernel) ha (by decide) (by decide) (Ag hst.1) (AS hst.2)) fun B H H1 j1 k1 j k ts σ Q R hj h=>?_
 rcases ts with _ | ⟨t,_ | ⟨u,_ | ⟨v,r⟩⟩⟩
 ·exact nE h
 ·exact nE h
 ·obtain ⟨i,m,rfl,rfl,h⟩:=Ca (t:=t) (u:=u) (Q:=fun r=>Lg p EX σ r H (KE p B H j k Q)) id h
  refine ⟨i,m,rfl,?_⟩
  have:=h (.int _) H1 rfl (Rs.scal R.same rfl)
  have e:(if m < i then m else i)=min i m:=by split <;> omega
  rw [e]; exact this
 ·exact nE h
theorem P6 (hcm:X.calm=true) (hgl:Gl X "min"):PE X (.Call (.Name "min" np) (e :: es) [] pos) (lE p EX tn (.bi .minL (.cons x xs))):=by
 rw [aaO,aaf] at hst
 refine Dm (es:=es) (e:=e) (DI (Oi hcm) hgl (hg _ (by simp)) (by decide +kernel) ha (by decide) (by decide) (Ag hst.1) (AS hst.2)) fun B H H1 j1 k1 j k ts σ Q R hj h=>?_
 rcases ts with _ | ⟨t,_ | ⟨u,r⟩⟩
 ·exact nE h
 ·cases t with
  | lst a us =>
   have h:Lg p EX σ ((Bu (Bf (T.dats us))).bind fun ns=>(Bu ns.min?).bind fun n=>.ok (.int n)) H (KE p B H j k Q):=h
   cases q:Bf (T.dats us) with
   | none=>rw [q] at h; exact nE h
   | some ns =>
    rw [q] at h
    have h:Lg p EX σ ((Bu ns.min?).bind fun n=>.ok (.int n)) H (KE p B H j k Q):=h
    cases q2:ns.min? with
    | none=>rw [q2] at h; exact nE h
    | some M =>
     rw [q2] at h
     exact ⟨a,ns,M,rfl,Fe q ▸ R.ok.1.1,q2,h (.int _) H1 rfl (Rs.scal R.same rfl)⟩
  | _=>exact nE h
 ·exact nE h
end
end
structure ItOk (p:Px) (B:Addr->Prop) (H H1:Hp) (J:L2.It) (us:List T) (j:Nat) (ds:List D):Prop where
 same:Same H H1
 ok:T.Oks p H1 us
 src:∀ a ∈ T.rests us j,H a=none\/B a
 len:ds.length<=sizeLine
 go:∀ (i:Nat) (H':Hp),T.Oks p H' us->i < ds.length->J.go i H'
 stop:∀ (i:Nat) (H':Hp),T.Oks p H' us->ds.length<=i->J.stop i H'
 yld:∀ (i:Nat) (H':Hp) (v:V) (H'':Hp) (d:D),T.Oks p H' us->ds[i]?=some d->J.yld i H' v H''->Same H' H''/\∃ t:T,t.val=v/\t.dat=d/\t.Ok p H''/\(∀ a ∈ t.rest 0,a ∈ T.rests us 0)/\∀ a ∈ t.rest 0,H a=none\/B a
noncomputable def lI (p:Px) (EX:EXT) (tn:List Nat) (it:It):TI:=fun σ H R=>∃ τ,σ=vτ τ/\Fok p tn τ H/\∃ j,jkI tn it=some j/\Lg p EX σ (evI it (dτ τ)) H fun ds=>∀ J us H1,ItOk p (Sh tn τ) H H1 J us j ds->R J H1
theorem PI.mono {X:Cx} {tg e:Expr} {t t':TI} (h:PI X tg e t) (m:∀ σ H Q,t' σ H Q->t σ H Q):PI X tg e t':=fun pins s σ H Q I q=>h pins s σ H Q I (m _ _ _ q)
section
variable {p:Px} {EX:EXT} {tn:List Nat} {X:Cx} {pos np:Pos} {tg:Expr}
theorem ED {ts:List T} {i:Nat} {d:D} (h:(T.dats ts)[i]?=some d):∃ t,ts[i]?=some t/\t.dat=d:=by
 rw [T.dats_map,aam] at h
 obtain ⟨t,h1,h2⟩:=aau.mp h
 exact ⟨t,h1,h2⟩
theorem Gk (hK:X.K=p.K) {B:Addr->Prop} {H H1:Hp} {j k:Nat} {a:Addr} {ts:List T} (r:Rs p B H H1 j k (.lst a ts)) (hj:j<=1) (hl:ts.length<=sizeLine):ItOk p B H H1 (Itl X.K a) [.lst a ts] j (T.dats ts) where
 same:=r.same
 ok:=⟨r.ok,trivial⟩
 src:=fun b m=>r.src b (by simpa [T.rests] using m)
 len:=by rw [Ak]; exact hl
 go:=fun i H' ok h=>by
  rw [Ak] at h
  exact ⟨_,(ts.map T.val)[i]'(by simpa using h),.inl ok.1.1,by simp [h]⟩
 stop:=fun i H' ok h=>⟨_,.inl ok.1.1,by simpa [Ak] using h⟩
 yld:=fun i H' v H'' d ok h y=>by
  obtain ⟨rfl,y⟩:=y
  obtain ⟨t,ht,e⟩:=ED h
  have:=y _ (.inl ok.1.1)
  rw [aam,ht] at this
  refine ⟨Same.refl _,t,Option.some.inj this,e,T.oks_iff.mp ok.1.2 t (aae ht),fun b m=>by simp only [T.rests,T.rest,aaL]; exact aaa _ (T.mem_rests.mpr ⟨t,aae ht,m⟩),fun b m=>r.elems hj b (T.mem_rests.mpr ⟨t,aae ht,m⟩)⟩
theorem P7 {B:Addr->Prop} {H H1:Hp} {k:Nat} {a:Addr} {ts:List T} (r:Rs p B H H1 0 k (.tup a ts)) (hl:ts.length<=sizeLine):ItOk p B H H1 (Itt X.K a) [.tup a ts] 0 (T.dats ts) where
 same:=r.same
 ok:=⟨r.ok,trivial⟩
 src:=fun b m=>r.src b (by simpa [T.rests] using m)
 len:=by rw [Ak]; exact hl
 go:=fun i H' ok h=>by
  rw [Ak] at h
  exact ⟨_,(ts.map T.val)[i]'(by simpa using h),SqT.of ok.1.1,by simp [h]⟩
 stop:=fun i H' ok h=>⟨_,SqT.of ok.1.1,by simpa [Ak] using h⟩
 yld:=fun i H' v H'' d ok h y=>by
  obtain ⟨rfl,y⟩:=y
  obtain ⟨t,ht,e⟩:=ED h
  have:=y _ (SqT.of ok.1.1)
  rw [aam,ht] at this
  refine ⟨Same.refl _,t,Option.some.inj this,e,T.oks_iff.mp ok.1.2 t (aae ht),fun b m=>by simp only [T.rests,T.rest,aaL]; exact T.mem_rests.mpr ⟨t,aae ht,m⟩,fun b m=>r.src b (T.mem_rests.mpr ⟨t,aae ht,m⟩)⟩
noncomputable def Wk (K:Frag) (tl:TE):TI:=fun σ H R=>tl σ H fun x H1=>∃ a,x=.ref a/\((∃ xs,SqL K H1 a xs/\(xs.length<=sizeLine->R (Itl K a) H1))\/(∃ xs,SqT K H1 a xs/\(xs.length<=sizeLine->R (Itt K a) H1)))
theorem Kq {l:Expr} {tl:TE} (hl:PE X l tl):PI X tg l (Wk X.K tl):=by
 intro pins s σ H R I h
 refine thn (hl pins s σ H _ I h) fun v s1 ⟨x,H1,I1,r1,q1⟩=>?_
 obtain ⟨a,e,q1⟩:=q1
 subst e
 cases r1
 rcases q1 with ⟨xs,hq,q⟩ | ⟨xs,hq,q⟩
 ·obtain ⟨its,rv,pl,hz⟩:=I1.list hq
  refine wpAny_pyIter_list pl.isList ?_
  refine ⟨s1.heap.objs.size,[s1.heap.objs.size],_,_,H1,rfl,I1.kept (t':=s1.toks) fun b o e=>Heap.get?_push_of_some _ e,NK a _,⟨_,Heap.get?_push_size _ rfl,rfl,rfl⟩,fun b hb=>?_,q hz⟩
  have e:b=s1.heap.objs.size:=by simpa using hb
  subst e
  exact I1.fpOk (aag _) (I1.hok.fresh (aag _))
 ·obtain ⟨its,rv,pl,hz⟩:=I1.tuple hq
  refine wpAny_pyIter_tuple (show s1.heap.IsTuple a its.toArray from pl) ?_
  refine ⟨s1.heap.objs.size,[s1.heap.objs.size],_,_,H1,rfl,I1.kept (t':=s1.toks) fun b o e=>Heap.get?_push_of_some _ e,MA a _,⟨_,Heap.get?_push_size _ rfl,rfl,rfl⟩,fun b hb=>?_,q hz⟩
  have e:b=s1.heap.objs.size:=by simpa using hb
  subst e
  exact I1.fpOk (aag _) (I1.hok.fresh (aag _))
theorem P8 (hK:X.K=p.K) {e:Expr} {x:E} (he:PE X e (lE p EX tn x)):PI X tg e (lI p EX tn (.seq x)):=by
 refine PI.mono (Kq he) fun σ H R h=>?_
 obtain ⟨τ,rfl,hF,j,hj,h⟩:=h
 simp only [jkI] at hj
 obtain ⟨⟨j1,k1⟩,h1,hj⟩:=bS hj
 split at hj
 ·rename_i z
  cases hj
  have z:j1=0:=z
  subst z
  simp only [evI] at h
  refine l1 hF h1 h fun d t H1 ht r h=>?_
  subst ht
  cases t with
  | lst a ts=>exact ⟨a,rfl,.inl ⟨_,.inl r.ok.1,fun hz=>h _ _ _ (Gk hK r (by omega) (by simpa using hz))⟩⟩
  | tup a ts=>exact ⟨a,rfl,.inr ⟨_,SqT.of r.ok.1,fun hz=>h _ _ _ (P7 r (by simpa using hz))⟩⟩
  | _=>exact nE h
 ·cases hj
theorem Oj (hK:X.K=p.K) {e:Expr} {x:E} (he:PE X e (lE p EX tn x)):PI X tg e (lI p EX tn (.seqL x)):=by
 refine PI.mono (Kq he) fun σ H R h=>?_
 obtain ⟨τ,rfl,hF,j,hj,h⟩:=h
 simp only [jkI] at hj
 obtain ⟨⟨j1,k1⟩,h1,hj⟩:=bS hj
 split at hj
 ·rename_i z
  cases hj
  simp only [evI] at h
  refine l1 hF h1 h fun d t H1 ht r h=>?_
  subst ht
  cases t with
  | lst a ts=>exact ⟨a,rfl,.inl ⟨_,.inl r.ok.1,fun hz=>h _ _ _ (Gk hK r z (by simpa using hz))⟩⟩
  | _=>exact nE h
 ·cases hj
theorem P9 (hK:X.K=p.K) {B:Addr->Prop} {H H1:Hp} {j k:Nat} {a:Addr} {ts:List T} (r:Rs p B H H1 j k (.lst a ts)) (hj:j<=1) (hl:ts.length<=sizeLine):ItOk p B H H1 (Itb X.K a ts.length) [.lst a ts] j (T.dats ts).reverse where
 same:=r.same
 ok:=⟨r.ok,trivial⟩
 src:=fun b m=>r.src b (by simpa [T.rests] using m)
 len:=by rw [abW,Ak]; exact hl
 go:=fun i H' ok h=>by
  rw [abW,Ak] at h
  exact ⟨_,(ts.map T.val)[ts.length - 1 - i]'(by simp; omega),.inl ok.1.1,h,aah (by simp; omega)⟩
 stop:=fun i H' ok h=>by
  rw [abW,Ak] at h
  exact h
 yld:=fun i H' v H'' d ok h y=>by
  obtain ⟨rfl,y⟩:=y
  have hi:=(aap.mp h).1
  rw [acK (by simpa using hi),Ak] at h
  obtain ⟨t,ht,e⟩:=ED h
  have:=y _ (.inl ok.1.1)
  rw [aam,ht] at this
  exact ⟨Same.refl _,t,Option.some.inj this,e,T.oks_iff.mp ok.1.2 t (aae ht),fun b m=>by simp only [T.rests,T.rest,aaL]; exact aaa _ (T.mem_rests.mpr ⟨t,aae ht,m⟩),fun b m=>r.elems hj b (T.mem_rests.mpr ⟨t,aae ht,m⟩)⟩
theorem RZ (hK:X.K=p.K) {e:Expr} {x:E} {np pos:Pos} (he:PE X e (lE p EX tn x)) (hst:Af e=true) (hg:Gl X "reversed") (hm:X.mg "reversed" = none):PI X tg (.Call (.Name "reversed" np) [e] [] pos) (lI p EX tn (.rv x)):=by
 refine PI.mono (Ug hg hm (AC he By (Ag hst)) (Ag hst)) fun σ H R h=>?_
 obtain ⟨τ,rfl,hF,j,hj,h⟩:=h
 simp only [jkI] at hj
 obtain ⟨⟨j1,k1⟩,h1,hj⟩:=bS hj
 split at hj
 ·rename_i z
  cases hj
  simp only [evI] at h
  refine l1 hF h1 h fun d t H1 ht r h=>?_
  subst ht
  cases t with
  | lst a ts =>
   refine ⟨a,_,rfl,.inl r.ok.1,fun hz=>?_⟩
   have hl:(ts.map T.val).length=ts.length:=aab ..
   rw [hl] at hz ⊢
   exact h _ _ _ (P9 hK r z hz)
  | _=>exact nE h
 ·cases hj
theorem Ib {B:Addr->Prop} {H H1:Hp} {a b:Int} (s:Same H H1) (hl:(b - a).toNat<=LIM):ItOk p B H H1 (Itr a (b - a).toNat) [] 0 (Am a b) where
 same:=s
 ok:=trivial
 src:=fun c m=>nomatch m
 len:=by unfold Am; rw [aab,aaY]; exact hl
 go:=fun i H' _ h=>by unfold Am at h; rw [aab,aaY] at h; exact h
 stop:=fun i H' _ h=>by unfold Am at h; rw [aab,aaY] at h; exact h
 yld:=fun i H' v H'' d _ h y=>by
  obtain ⟨rfl,rfl⟩:=y
  unfold Am at h
  rw [aam] at h
  obtain ⟨n,h1,h2⟩:=aau.mp h
  have:n=i:=by
   obtain ⟨_,e⟩:=aap.mp h1
   simpa using e.symm
  subst this
  exact ⟨Same.refl _,.int (a + n),rfl,h2,trivial,by simp [T.rest],by simp [T.rest]⟩
theorem AB {i:Int} (h:AD i=true):-(2 ^ 62)<=i/\i < 2 ^ 62:=by
 unfold AD at h
 rw [aaf] at h
 exact ⟨of_decide_eq_true h.1,of_decide_eq_true h.2⟩
theorem R0 {e:Expr} {x:E} (he:PE X e (lE p EX tn x)) (hst:Af e=true) (hg:Gl X "range") (hm:X.mg "range" = none):PI X tg (.Call (.Name "range" np) [e] [] pos) (lI p EX tn (.r1 x)):=by
 refine PI.mono (NL hg hm (AC he By (Ag hst)) (Ag hst)) fun σ H R h=>?_
 obtain ⟨τ,rfl,hF,j,hj,h⟩:=h
 simp only [jkI] at hj
 obtain ⟨⟨j1,k1⟩,h1,hj⟩:=bS hj
 cases hj
 simp only [evI] at h
 refine l1 hF h1 h fun d t H1 ht r h=>?_
 subst ht
 cases t with
 | int b =>
  obtain ⟨hc,h⟩:=Lg.guard (r:=.ok (Am 0 b)) h
  rw [aaf,aaf] at hc
  obtain ⟨h3,h4⟩:=AB hc.1.2
  have hl:=of_decide_eq_true hc.2
  have:=h _ _ _ (Ib (p:=p) r.same hl)
  rw [ach] at this
  exact ⟨b,rfl,h3,h4,this⟩
 | _=>exact nE h
theorem R4 {e e':Expr} {x y:E} (he:PE X e (lE p EX tn x)) (he':PE X e' (lE p EX tn y)) (hst:Af e=true) (hst':Af e'=true) (hg:Gl X "range") (hm:X.mg "range" = none):PI X tg (.Call (.Name "range" np) [e,e'] [] pos) (lI p EX tn (.r2 x y)):=by
 refine PI.mono (NM hg hm (AC he (AC he' By (Ag hst')) (Ag hst)) (by rw [Ag hst,Ag hst']; rfl) (Ag hst')) fun σ H R h=>?_
 obtain ⟨τ,rfl,hF,j,hj,h⟩:=h
 simp only [jkI] at hj
 obtain ⟨⟨j1,k1⟩,h1,hj⟩:=bS hj
 obtain ⟨⟨j2,k2⟩,h2,hj⟩:=bS hj
 cases hj
 simp only [evI] at h
 refine l1 hF h1 h fun d t H1 ht r h=>l2 hF r.same h2 h fun d' t' H2 ht' r' h=>?_
 subst ht ht'
 cases t with
 | int a =>
  cases t' with
  | int b =>
   obtain ⟨hc,h⟩:=Lg.guard (r:=.ok (Am a b)) h
   rw [aaf,aaf] at hc
   exact ⟨a,b,rfl,⟨(AB hc.1.1).1,(AB hc.1.1).2,(AB hc.1.2).1,(AB hc.1.2).2⟩,h _ _ _ (Ib (p:=p) (r.same.trans r'.same) (of_decide_eq_true hc.2))⟩
  | _=>exact nE h
 | _=>exact nE h
theorem Ol {a b c:Int} (hc:c ≠ 0):r3N a b c=(Builtin.Range.rangeSize a b c).toNat:=by
 have key:∀ x c:Int,0 < c->((x + c - 1) / c).toNat=(if 0 < x then (x - 1) / c + 1 else 0).toNat:=fun x c hc=>by
  split
  ·rw [show x + c - 1=x - 1 + 1 * c by omega,Int.add_mul_ediv_right _ _ (by omega)]
  ·have:(x + c - 1) / c < 1:=Int.ediv_lt_of_lt_mul hc (by omega)
   show _=0
   omega
 unfold r3N Builtin.Range.rangeSize
 by_cases h:0 < c
 ·rw [if_pos h,if_pos h,key (b - a) c h]
  by_cases z:a < b
  ·rw [if_pos z,if_pos (by omega)]
  ·rw [if_neg z,if_neg (by omega)]
 ·rw [if_neg h,if_neg h,key (a - b) (-c) (by omega)]
  by_cases z:a > b
  ·rw [if_pos z,if_pos (by omega)]
  ·rw [if_neg z,if_neg (by omega)]
theorem R5 {B:Addr->Prop} {H H1:Hp} {a c:Int} {n:Nat} (s:Same H H1) (hl:n<=LIM):ItOk p B H H1 (PF a c n) [] 0 (BE a c n) where
 same:=s
 ok:=trivial
 src:=fun c m=>nomatch m
 len:=by unfold BE; rw [aab,aaY]; exact hl
 go:=fun i H' _ h=>by unfold BE at h; rw [aab,aaY] at h; exact h
 stop:=fun i H' _ h=>by unfold BE at h; rw [aab,aaY] at h; exact h
 yld:=fun i H' v H'' d _ h y=>by
  obtain ⟨rfl,rfl⟩:=y
  unfold BE at h
  rw [aam] at h
  obtain ⟨n,h1,h2⟩:=aau.mp h
  have:n=i:=by
   obtain ⟨_,e⟩:=aap.mp h1
   simpa using e.symm
  subst this
  exact ⟨Same.refl _,.int (a + n * c),rfl,h2,trivial,by simp [T.rest],by simp [T.rest]⟩
theorem R6 {e e' e2:Expr} {x y z:E} (he:PE X e (lE p EX tn x)) (he':PE X e' (lE p EX tn y)) (he2:PE X e2 (lE p EX tn z)) (hst:Af e=true) (hst':Af e'=true) (hst2:Af e2=true) (hg:Gl X "range") (hm:X.mg "range" = none):PI X tg (.Call (.Name "range" np) [e,e',e2] [] pos) (lI p EX tn (.r3 x y z)):=by
 refine PI.mono (N3 hg hm (AC he (AC he' (AC he2 By (Ag hst2)) (Ag hst')) (Ag hst)) (by rw [Ag hst,Ag hst',Ag hst2]; rfl) (by rw [Ag hst',Ag hst2]; rfl)) fun σ H R h=>?_
 obtain ⟨τ,rfl,hF,j,hj,h⟩:=h
 simp only [jkI] at hj
 obtain ⟨⟨j1,k1⟩,h1,hj⟩:=bS hj
 obtain ⟨⟨j2,k2⟩,h2,hj⟩:=bS hj
 obtain ⟨⟨j3,k3⟩,h3,hj⟩:=bS hj
 cases hj
 simp only [evI] at h
 refine l1 hF h1 h fun d t H1 ht r h=>l2 hF r.same h2 h fun d' t' H2 ht' r' h=>l2 hF (r.same.trans r'.same) h3 h fun d2 t2 H3 ht2 r2 h=>?_
 subst ht ht' ht2
 cases t with
 | int a =>
  cases t' with
  | int b =>
   cases t2 with
   | int c =>
    obtain ⟨hc,h⟩:=Lg.guard (r:=.ok (BE a c (r3N a b c))) h
    rw [aaf,aaf,aaf,aaf] at hc
    have h0:=of_decide_eq_true hc.1.2
    have hl:=of_decide_eq_true hc.2
    rw [Ol h0] at hl h
    exact ⟨a,b,c,rfl,⟨(AB hc.1.1.1.1).1,(AB hc.1.1.1.1).2,(AB hc.1.1.1.2).1,(AB hc.1.1.1.2).2,(AB hc.1.1.2).1,(AB hc.1.1.2).2⟩,h0,hl,h _ _ _ (R5 (p:=p) ((r.same.trans r'.same).trans r2.same) hl)⟩
   | _=>exact nE h
  | _=>exact nE h
 | _=>exact nE h
noncomputable def iZp (K:Frag) (ta:TA):TI:=fun σ H R=>ta σ H fun vs H1=>∃ a b,vs=[.ref a,.ref b]/\∃ xs ys,SqL K H1 a xs/\SqL K H1 b ys/\(xs.length<=sizeLine->R (Itz K a b) H1)
theorem R7 (n:Nat):Zap (n + 4) (n + 2) (n + 3) n (n + 1):=by
 constructor <;> (intro h; have h:(_:Nat)=_:=h; omega)
theorem UC {e e':Expr} {ta:TA} {elts:List Expr} {k1:Nat} {q:Pos} (hg:Gl X "zip") (hm:X.mg "zip" = none) (ha:PA X [e,e'] ta) (hs:starEach [e,e'] X.env=[(false,eval e X.env),(false,eval e' X.env)]) (hs2:starEach [e'] X.env=[(false,eval e' X.env)]):PI X (.Tuple elts k1 q) (.Call (.Name "zip" np) [e,e'] [] pos) (iZp X.K ta):=by
 intro pins s σ H R I h
 refine Call_ (Bq I hg hm (show bootBuiltins "zip" = some (.type "zip") by decide +kernel) (PyProof.Rows.callWith_type1 (thn (ha pos pins s σ H _ I h) fun us s1 ⟨vs,H1,I1,r1,q1⟩=>?_) (by rw [hs,hs2]) (by rw [hs2]; rfl)))
 obtain ⟨a,b,e,xs,ys,hq,hq2,q⟩:=q1
 subst e
 cases r1 with
 | cons r rr =>
  cases rr with
  | cons r' rr =>
   cases rr
   cases r
   cases r'
   obtain ⟨its,rv,pl,hz⟩:=I1.list hq
   obtain ⟨its2,rv2,pl2,hz2⟩:=I1.list hq2
   refine call_zip_2 pl.isList pl2.isList fun h' hZ hTI hTO h1 h2 hsz hk=>wpAny_pyIter_zip hZ ?_
   refine ⟨s1.heap.objs.size + 4,[s1.heap.objs.size + 4,s1.heap.objs.size + 2,s1.heap.objs.size + 3,s1.heap.objs.size,s1.heap.objs.size + 1],_,_,H1,rfl,I1.kept (t':=s1.toks) hk,PD a b _ _ _ _ _ (R7 _),⟨hZ,hTI,⟨_,_,hTO⟩,h1,h2⟩,fun b hb=>?_,q hz⟩
   have hb:s1.heap.objs.size<=b:=by
    simp only [aal,abU,or_false] at hb
    rcases hb with rfl | rfl | rfl | rfl | rfl <;> omega
   exact I1.fpOk hb (I1.hok.fresh hb)
theorem Res.bind_assoc {α β γ:Type} (r:Res α) (f:α->Res β) (g:β->Res γ):(r.bind f).bind g=r.bind fun a=>(f a).bind g:=by cases r <;> rfl
theorem Om (hcm:X.calm=true) {e e':Expr} {x y:E} {np2 pos2:Pos} (he:PE X e (lE p EX tn x)) (he':PE X e' (lE p EX tn y)) (hst:Af e=true) (hst':Af e'=true) (hgl:Gl X "list") (hml:X.mg "list" = none) (hg:Gl X "range") (hm:X.mg "range" = none):PE X (.Call (.Name "list" np) [.Call (.Name "range" np2) [e,e'] [] pos2] [] pos) (lE p EX tn (.listI (.r2 x y))):=by
 refine PE.mono (Pz hcm hgl hml hg hm (AC he (AC he' By (Ag hst')) (Ag hst)) (by rw [Ag hst,Ag hst']; rfl) (Ag hst')) fun σ H Q h=>?_
 obtain ⟨τ,rfl,hF,j,k,hj,h⟩:=h
 simp only [jk,jkI] at hj
 obtain ⟨j0,hj0,hj⟩:=bS hj
 obtain ⟨⟨j1,k1⟩,h1,hj0⟩:=bS hj0
 obtain ⟨⟨j2,k2⟩,h2,hj0⟩:=bS hj0
 cases hj
 simp only [ev,evI,Res.bind_assoc] at h
 refine l1 hF h1 h fun d t H1 ht r h=>l2 hF r.same h2 h fun d' t' H2 ht' r' h=>?_
 subst ht ht'
 cases t with
 | int a =>
  cases t' with
  | int b =>
   have h:Lg p EX (vτ τ) ((if (AD a && AD b && decide ((b - a).toNat<=LIM))=true then Res.ok (Am a b) else .bad).bind fun ds=>.ok (.lst ds)) H (KE p (Sh tn τ) H 0 1 Q):=h
   by_cases hc:(AD a && AD b && decide ((b - a).toNat<=LIM))=true
   ·rw [if_pos hc,Res.bind_ok] at h
    rw [aaf,aaf] at hc
    refine ⟨a,b,rfl,⟨(AB hc.1.1).1,(AB hc.1.1).2,(AB hc.1.2).1,(AB hc.1.2).2⟩,of_decide_eq_true hc.2,fun l hl=>?_⟩
    have e:(aav (b - a).toNat).map (fun k=>V.int (a + (k:Nat)))=((aav (b - a).toNat).map fun k=>T.int (a + (k:Nat))).map T.val:=by rw [aaE]; rfl
    rw [e]
    refine h (.lst l ((aav (b - a).toNat).map fun k=>T.int (a + (k:Nat)))) _ ?_ (CZ (r.same.trans r'.same) (T.oks_iff.mpr fun w hw=>?_) (fun c m=>?_) hl)
    ·rw [T.dat,T.dats_map,aaE]; rfl
    ·obtain ⟨_,_,rfl⟩:=aaD.mp hw; trivial
    ·obtain ⟨w,hw,m⟩:=T.mem_rests.mp m
     obtain ⟨_,_,rfl⟩:=aaD.mp hw
     simp [T.rest] at m
   ·rw [if_neg hc] at h; exact nE h
  | _=>exact nE h
 | _=>exact nE h
theorem MY (hcm:X.calm=true) {e':Expr} {y:E} {np2 pos2:Pos} (he':PE X e' (lE p EX tn y)) (hst':Af e'=true) (hgl:Gl X "list") (hml:X.mg "list" = none) (hg:Gl X "range") (hm:X.mg "range" = none):PE X (.Call (.Name "list" np) [.Call (.Name "range" np2) [e'] [] pos2] [] pos) (lE p EX tn (.listI (.r1 y))):=by
 refine PE.mono (N1 hcm hgl hml hg hm (AC he' By (Ag hst')) (Ag hst')) fun σ H Q h=>?_
 obtain ⟨τ,rfl,hF,j,k,hj,h⟩:=h
 simp only [jk,jkI] at hj
 obtain ⟨j0,hj0,hj⟩:=bS hj
 obtain ⟨⟨j2,k2⟩,h2,hj0⟩:=bS hj0
 cases hj
 simp only [ev,evI,Res.bind_assoc] at h
 refine l1 hF h2 h fun d' t' H2 ht' r' h=>?_
 subst ht'
 cases t' with
  | int b =>
   have h:Lg p EX (vτ τ) ((if (AD 0 && AD b && decide ((b - 0).toNat<=LIM))=true then Res.ok (Am 0 b) else .bad).bind fun ds=>.ok (.lst ds)) H (KE p (Sh tn τ) H 0 1 Q):=h
   by_cases hc:(AD 0 && AD b && decide ((b - 0).toNat<=LIM))=true
   ·rw [if_pos hc,Res.bind_ok] at h
    rw [aaf,aaf] at hc
    refine ⟨b,rfl,⟨(AB hc.1.2).1,(AB hc.1.2).2⟩,of_decide_eq_true hc.2,fun l hl=>?_⟩
    have e:(aav (b - 0).toNat).map (fun k=>V.int (0 + (k:Nat)))=((aav (b - 0).toNat).map fun k=>T.int (0 + (k:Nat))).map T.val:=by rw [aaE]; rfl
    rw [e]
    refine h (.lst l ((aav (b - 0).toNat).map fun k=>T.int (0 + (k:Nat)))) _ ?_ (CZ r'.same (T.oks_iff.mpr fun w hw=>?_) (fun c m=>?_) hl)
    ·rw [T.dat,T.dats_map,aaE]; rfl
    ·obtain ⟨_,_,rfl⟩:=aaD.mp hw; trivial
    ·obtain ⟨w,hw,m⟩:=T.mem_rests.mp m
     obtain ⟨_,_,rfl⟩:=aaD.mp hw
     simp [T.rest] at m
   ·rw [if_neg hc] at h; exact nE h
  | _=>exact nE h
theorem MZ (hcm:X.calm=true) {e e' e2:Expr} {x y z:E} {np2 pos2:Pos} (he:PE X e (lE p EX tn x)) (he':PE X e' (lE p EX tn y)) (he2:PE X e2 (lE p EX tn z)) (hst:Af e=true) (hst':Af e'=true) (hst2:Af e2=true) (hgl:Gl X "list") (hml:X.mg "list" = none) (hg:Gl X "range") (hm:X.mg "range" = none):PE X (.Call (.Name "list" np) [.Call (.Name "range" np2) [e,e',e2] [] pos2] [] pos) (lE p EX tn (.listI (.r3 x y z))):=by
 refine PE.mono (N5 hcm hgl hml hg hm (AC he (AC he' (AC he2 By (Ag hst2)) (Ag hst')) (Ag hst)) (by rw [Ag hst,Ag hst',Ag hst2]; rfl) (by rw [Ag hst',Ag hst2]; rfl)) fun σ H Q h=>?_
 obtain ⟨τ,rfl,hF,j,k,hj,h⟩:=h
 simp only [jk,jkI] at hj
 obtain ⟨j0,hj0,hj⟩:=bS hj
 obtain ⟨⟨j1,k1⟩,h1,hj0⟩:=bS hj0
 obtain ⟨⟨j2,k2⟩,h2,hj0⟩:=bS hj0
 obtain ⟨⟨j3,k3⟩,h3,hj0⟩:=bS hj0
 cases hj
 simp only [ev,evI,Res.bind_assoc] at h
 refine l1 hF h1 h fun d t H1 ht r h=>l2 hF r.same h2 h fun d' t' H2 ht' r' h=>l2 hF (r.same.trans r'.same) h3 h fun d2 t2 H3 ht2 r2 h=>?_
 subst ht ht' ht2
 cases t with
 | int a =>
  cases t' with
  | int b =>
   cases t2 with
   | int c =>
    have h:Lg p EX (vτ τ) ((if (AD a && AD b && AD c && decide (c ≠ 0) && decide (r3N a b c<=LIM))=true then Res.ok (BE a c (r3N a b c)) else .bad).bind fun ds=>.ok (.lst ds)) H (KE p (Sh tn τ) H 0 1 Q):=h
    by_cases hc:(AD a && AD b && AD c && decide (c ≠ 0) && decide (r3N a b c<=LIM))=true
    ·rw [if_pos hc,Res.bind_ok] at h
     simp only [aaf] at hc
     have h0:c ≠ 0:=of_decide_eq_true hc.1.2
     have hl:=of_decide_eq_true hc.2
     rw [Ol h0] at hl h
     refine ⟨a,b,c,rfl,⟨(AB hc.1.1.1.1).1,(AB hc.1.1.1.1).2,(AB hc.1.1.1.2).1,(AB hc.1.1.1.2).2,(AB hc.1.1.2).1,(AB hc.1.1.2).2⟩,h0,hl,fun l hl2=>?_⟩
     have e:(aav (Builtin.Range.rangeSize a b c).toNat).map (fun k=>V.int (a + (k:Nat) * c))=((aav (Builtin.Range.rangeSize a b c).toNat).map fun k=>T.int (a + (k:Nat) * c)).map T.val:=by rw [aaE]; rfl
     rw [e]
     refine h (.lst l ((aav (Builtin.Range.rangeSize a b c).toNat).map fun k=>T.int (a + (k:Nat) * c))) _ ?_ (CZ ((r.same.trans r'.same).trans r2.same) (T.oks_iff.mpr fun w hw=>?_) (fun c m=>?_) hl2)
     ·rw [T.dat,T.dats_map,aaE]; rfl
     ·obtain ⟨_,_,rfl⟩:=aaD.mp hw; trivial
     ·obtain ⟨w,hw,m⟩:=T.mem_rests.mp m
      obtain ⟨_,_,rfl⟩:=aaD.mp hw
      simp [T.rest] at m
    ·rw [if_neg hc] at h; exact nE h
   | _=>exact nE h
  | _=>exact nE h
 | _=>exact nE h
theorem M0 (hcm:X.calm=true) (hK:X.K=p.K) {e':Expr} {y:E} {np2 pos2:Pos} (he':PE X e' (lE p EX tn y)) (hst':Af e'=true) (hgl:Gl X "list") (hml:X.mg "list" = none) (hg:Gl X "reversed") (hm:X.mg "reversed" = none):PE X (.Call (.Name "list" np) [.Call (.Name "reversed" np2) [e'] [] pos2] [] pos) (lE p EX tn (.listI (.rv y))):=by
 refine PE.mono (N8 hcm hgl hml hg hm (AC he' By (Ag hst')) (Ag hst')) fun σ H Q h=>?_
 obtain ⟨τ,rfl,hF,j,k,hj,h⟩:=h
 simp only [jk,jkI] at hj
 obtain ⟨j0,hj0,hj⟩:=bS hj
 obtain ⟨⟨j2,k2⟩,h2,hj0⟩:=bS hj0
 cases hj
 by_cases hc:j2<=1
 ·simp only [ev,evI,Res.bind_assoc] at h
  refine l1 hF h2 h fun d' t' H2 ht' R h=>?_
  subst ht'
  cases t' with
  | lst b ts =>
   refine ⟨b,_,rfl,.inl R.ok.1,fun q hq=>?_⟩
   rw [<- acy]
   refine h (.lst q ts.reverse) _ (by simp only [T.dat,T.dats_map,acy]) (CZ R.same (T.oks_iff.mpr fun w hw=>T.oks_iff.mp R.ok.2 w (abm.mp hw)) (fun c m=>?_) hq)
   obtain ⟨w,hw,m⟩:=T.mem_rests.mp m
   exact R.elems hc c (T.mem_rests.mpr ⟨w,abm.mp hw,m⟩)
  | _=>exact nE h
 ·rw [if_neg hc] at hj0; cases hj0
end
noncomputable def Cb:List Nat->List T->Ft->Option Ft
 | [],[],τ=>some τ
 | i :: is,t :: ts,τ=>Cb is ts (τ.set i (some t))
 | _,_,_=>none
noncomputable def C0:Tg->T->Ft->Option Ft
 | .nm i,t,τ=>some (τ.set i (some t))
 | .tp is,.tup _ ts,τ=>Cb is ts τ
 | .tp is,.lst _ ts,τ=>Cb is ts τ
 | _,_,_=>none
theorem CH (τ:Ft) (i:Nat) (t:T):dτ (τ.set i (some t))=(dτ τ).set i (some t.dat):=by unfold dτ; rw [abR]; rfl
theorem GU (τ:Ft) (i:Nat) (t:T):vτ (τ.set i (some t))=(vτ τ).set i (some t.val):=by unfold vτ; rw [abR]; rfl
theorem Ic:∀ (is:List Nat) (ts:List T) (τ:Ft),Fq is (T.dats ts) (dτ τ)=(Cb is ts τ).map dτ
 | [],[],τ=>rfl
 | [],t :: ts,τ=>rfl
 | i :: is,[],τ=>rfl
 | i :: is,t :: ts,τ=>by simp only [T.dats,Fq,Cb]; rw [<- CH,Ic is ts]
theorem Gm (g:Tg) (t:T) (τ:Ft):Dw g t.dat (dτ τ)=(C0 g t τ).map dτ:=by
 cases g with
 | nm i=>simp only [Dw,C0,aa5,CH]
 | tp is=>cases t <;> first | rfl | exact Ic is _ τ
noncomputable def C4:List Nat->TGs
 | []=>TB
 | i :: r=>QQ (ET i) (C4 r)
noncomputable def lG (K:Frag):Tg->TG
 | .nm i=>ET i
 | .tp is=>fun v σ H Q=>TC K is.length (C4 is) v σ H Q\/Uh K is.length (C4 is) v σ H Q
theorem Gn {H:Hp} {Q:L2.St->Hp->Prop}:∀ {is:List Nat} {ts:List T} {τ τ':Ft},Cb is ts τ=some τ'->Q (vτ τ') H->C4 is (ts.map T.val) (vτ τ) H Q
 | [],[],τ,τ',h,q=>by cases h; exact ⟨rfl,q⟩
 | [],t :: ts,τ,τ',h,q=>by cases h
 | i :: is,[],τ,τ',h,q=>by cases h
 | i :: is,t :: ts,τ,τ',h,q=>by
  refine ⟨t.val,ts.map T.val,rfl,?_⟩
  show C4 is (ts.map T.val) ((vτ τ).set i (some t.val)) H Q
  rw [<- GU]
  exact Gn (τ:=τ.set i (some t)) h q
theorem Ff:∀ {is:List Nat} {ts:List T} {τ τ':Ft},Cb is ts τ=some τ'->ts.length=is.length
 | [],[],τ,τ',h=>rfl
 | [],t :: ts,τ,τ',h=>by cases h
 | i :: is,[],τ,τ',h=>by cases h
 | i :: is,t :: ts,τ,τ',h=>by simp [Ff (is:=is) (ts:=ts) (τ:=τ.set i (some t)) h]
theorem JR {K:Frag} {p:Px} {H:Hp} {g:Tg} {t:T} {τ τ':Ft} {Q:L2.St->Hp->Prop} (ok:t.Ok p H) (h:C0 g t τ=some τ') (q:Q (vτ τ') H):lG K g t.val (vτ τ) H Q:=by
 cases g with
 | nm i =>
  cases h
  show Q ((vτ τ).set i (some t.val)) H
  rw [<- GU]; exact q
 | tp is =>
  cases t with
  | tup a ts=>exact .inl ⟨a,ts.map T.val,rfl,SqT.of ok.1,by rw [aab]; exact Ff h,Gn h q⟩
  | lst a ts=>exact .inr ⟨a,ts.map T.val,rfl,.inl ok.1,by rw [aab]; exact Ff h,Gn h q⟩
  | _=>cases h
noncomputable def Tg.sl:Tg->List Nat
 | .nm i=>[i]
 | .tp is=>is
theorem Fg {n:Nat} {H:Hp} {Q:L2.St->Hp->Prop}:∀ {is:List Nat} {vs:List V} {σ:L2.St},(∀ i ∈ is,i < n)->C4 is vs σ H Q->C4 is vs σ H fun σ' H'=>Q σ' H'/\σ'.length=σ.length/\∀ i,n<=i->σ'[i]?=σ[i]?
 | [],vs,σ,_,h=>by obtain ⟨e,q⟩:=h; exact ⟨e,q,rfl,fun _ _=>rfl⟩
 | i :: is,vs,σ,hi,h=>by
  obtain ⟨v,r,e,h⟩:=h
  refine ⟨v,r,e,?_⟩
  have h2:=Fg (n:=n) (is:=is) (σ:=σ.set i (some v)) (fun j hj=>hi j (aaa _ hj)) h
  have mono:∀ {is:List Nat} {vs:List V} {σ:L2.St} {H:Hp} {A B:L2.St->Hp->Prop},(∀ s h,A s h->B s h)->C4 is vs σ H A->C4 is vs σ H B:=by
   intro is
   induction is with
   | nil=>intro vs σ H A B m h; exact ⟨h.1,m _ _ h.2⟩
   | cons i is ih =>
    intro vs σ H A B m h
    obtain ⟨v,r,e,h⟩:=h
    exact ⟨v,r,e,ih m h⟩
  refine mono (fun s h q=>⟨q.1,by rw [q.2.1,aaB],fun k hk=>?_⟩) h2
  rw [q.2.2 k hk,aan (by have:=hi i (aac ..); omega)]
theorem GV {K:Frag} {n:Nat} {g:Tg} (hg:∀ i ∈ g.sl,i < n) {v:V} {σ:L2.St} {H:Hp} {Q:L2.St->Hp->Prop} (h:lG K g v σ H Q):lG K g v σ H fun σ' H'=>Q σ' H'/\σ'.length=σ.length/\∀ i,n<=i->σ'[i]?=σ[i]?:=by
 cases g with
 | nm i=>exact ⟨h,by rw [aaB],fun k hk=>by rw [aan (by have:=hg i (aaN.mpr rfl); omega)]⟩
 | tp is =>
  rcases h with ⟨a,xs,e,s,l,h⟩ | ⟨a,xs,e,s,l,h⟩
  ·exact .inl ⟨a,xs,e,s,l,Fg hg h⟩
  ·exact .inr ⟨a,xs,e,s,l,Fg hg h⟩
theorem Fh {P:Option T->Prop}:∀ {is:List Nat} {ts:List T} {τ τ':Ft},Cb is ts τ=some τ'->(∀ t ∈ ts,P (some t))->∀ i o,τ'[i]?=some o->P o\/(i ∉ is/\τ[i]?=some o)
 | [],[],τ,τ',h,_,i,o,e=>by cases h; exact .inr ⟨by simp,e⟩
 | [],t :: ts,τ,τ',h,_,_,_,_=>by cases h
 | i :: is,[],τ,τ',h,_,_,_,_=>by cases h
 | i :: is,t :: ts,τ,τ',h,hp,j,o,e=>by
  rcases Fh (P:=P) (is:=is) (ts:=ts) (τ:=τ.set i (some t)) h (fun u hu=>hp u (aaa _ hu)) j o e with q | ⟨q1,q2⟩
  ·exact .inl q
  ·by_cases z:i=j
   ·subst z
    rw [abv ] at q2
    cases w:τ[i]? with
    | none=>rw [w] at q2; cases q2
    | some x =>
     rw [w] at q2
     have:o=some t:=by simpa using q2.symm
     subst this
     exact .inl (hp t (aac ..))
   ·rw [aan z] at q2
    refine .inr ⟨?_,q2⟩
    intro m
    rcases aal.mp m with rfl | m
    ·exact z rfl
    ·exact q1 m
theorem Id {P:Option T->Prop} {g:Tg} {t:T} {τ τ':Ft} (h:C0 g t τ=some τ') (hp:P (some t)) (hp':∀ a ts,(t=.tup a ts\/t=.lst a ts)->∀ u ∈ ts,P (some u)) (i:Nat) (o:Option T) (e:τ'[i]?=some o):P o\/(i ∉ g.sl/\τ[i]?=some o):=by
 cases g with
 | nm k =>
  cases h
  by_cases z:k=i
  ·subst z
   rw [abv] at e
   cases w:τ[k]? with
   | none=>rw [w] at e; cases e
   | some x =>
    rw [w] at e
    have:o=some t:=by simpa using e.symm
    subst this; exact .inl hp
  ·rw [aan z] at e
   exact .inr ⟨by simpa [Tg.sl] using fun q=>z q.symm,e⟩
 | tp is =>
  cases t with
  | tup a ts=>exact Fh (P:=P) h (fun u hu=>hp' a ts (.inl rfl) u hu) i o e
  | lst a ts=>exact Fh (P:=P) h (fun u hu=>hp' a ts (.inr rfl) u hu) i o e
  | _=>cases h
theorem Fu:∀ {is:List Nat} {ts:List T} {τ τ':Ft},Cb is ts τ=some τ'->τ'.length=τ.length
 | [],[],τ,τ',h=>by cases h; rfl
 | [],t :: ts,τ,τ',h=>by cases h
 | i :: is,[],τ,τ',h=>by cases h
 | i :: is,t :: ts,τ,τ',h=>by rw [Fu (is:=is) (ts:=ts) (τ:=τ.set i (some t)) h,aaB]
theorem JC {g:Tg} {t:T} {τ τ':Ft} (h:C0 g t τ=some τ'):τ'.length=τ.length:=by
 cases g with
 | nm k=>cases h; rw [aaB]
 | tp is=>cases t <;> first | cases h | exact Fu h
noncomputable def Hu (nl:Nat) (fr:List Nat) (τ:Ft):Ft:=aaj nl none ++ fr.map fun j=>(τ[j]?).join
theorem R8 (nl:Nat) (fr:List Nat) (τ:Ft):dτ (Hu nl fr τ)=blk nl fr (dτ τ):=by
 unfold dτ Hu blk
 rw [aat,abn,aaE]
 congr 1
 refine aaT fun j _=>?_
 simp only [Function.comp,aam]
 cases τ[j]? with
 | none=>rfl
 | some o=>rfl
theorem R9 (nl:Nat) (fr:List Nat) (τ:Ft):vτ (Hu nl fr τ)=Bt nl fr (vτ τ):=by
 unfold vτ Hu Bt
 rw [aat,abn,aaE]
 congr 1
 refine aaT fun j _=>?_
 simp only [Function.comp,aam]
 cases τ[j]? with
 | none=>rfl
 | some o=>rfl
noncomputable abbrev tnB (nl:Nat) (fr:List Nat) (tn:List Nat):List Nat:=aaj nl 0 ++ fr.map fun j=>tn.getD j 99
theorem L3 {nl:Nat} {fr:List Nat} {tn:List Nat} {τ:Ft} {i:Nat} {t:T} {j:Nat} (h:(Hu nl fr τ)[i]?=some (some t)) (hj:(tnB nl fr tn)[i]?=some j) (hlt:j < 90):∃ k:Nat,τ[k]?=some (some t)/\tn[k]?=some j:=by
 unfold Hu at h
 unfold tnB at hj
 by_cases hi:i < nl
 ·rw [aaW (by simpa using hi),aaZ] at h
  split at h <;> cases h
 ·rw [aaG (by simpa using hi),abd,aam] at h hj
  obtain ⟨k,e1,e2⟩:=aau.mp h
  rw [e1] at hj
  have e3:tn.getD k 99=j:=by simpa using hj
  refine ⟨k,?_,?_⟩
  ·cases w:τ[k]? with
   | none=>rw [w] at e2; cases e2
   | some o=>rw [w] at e2; exact congrArg some e2
  ·rw [aaK] at e3
   cases w:tn[k]? with
   | none=>rw [w] at e3; simp at e3; omega
   | some x=>rw [w] at e3; exact congrArg some e3
theorem T.nds_append {ts us:List T} {k:Nat} (h1:T.Nds ts k) (h2:T.Nds us k) (c1:∀ a ∈ T.adrs ts k,a ∉ T.rests us 0) (c2:∀ a ∈ T.adrs us k,a ∉ T.rests ts 0):T.Nds (ts ++ us) k:=by
 unfold T.Nds
 rw [T.adrs_append,T.rests_append]
 refine ⟨ac5.mpr ⟨h1.1,h2.1,fun a ha b hb e=>?_⟩,fun a ha hb=>?_⟩
 ·subst e; exact c1 a ha ((T.alls_iff us k).mpr (.inl hb))
 ·rcases aai.mp ha with ha | ha <;> rcases aai.mp hb with hb | hb
  ·exact h1.2 a ha hb
  ·exact c2 a hb ((T.alls_iff ts k).mpr (.inr ha))
  ·exact c1 a hb ((T.alls_iff us k).mpr (.inr ha))
  ·exact h2.2 a ha hb
theorem Go {f:D->Res (Option D)}:∀ (ds:List D) (c:Nat),Br f ds ≠ .exc c
 | [],c=>by simp [Br]
 | d :: ds,c=>by
  simp only [Br]
  cases f d with
  | ok o =>
   simp only
   cases q:Br f ds with
   | ok r=>simp
   | exc c'=>exact absurd q (Go ds c')
   | bad=>simp
  | exc c'=>simp
  | bad=>simp
theorem Lf {f:D->Res (Option D)} {d:D} {ds r:List D} (h:Br f (d :: ds)=.ok r):∃ o r',f d=.ok o/\Br f ds=.ok r'/\r=o.toList ++ r':=by
 simp only [Br] at h
 cases q:f d with
 | ok o =>
  rw [q] at h
  obtain ⟨r',h1,h2⟩:=Res.bind_eq_ok h
  cases h2
  refine ⟨o,r',rfl,h1,?_⟩
  cases o <;> rfl
 | exc c=>rw [q] at h; cases h
 | bad=>rw [q] at h; cases h
noncomputable abbrev EX0:EXT:=fun _ _ _ _=>False
section
variable {p:Px} {EX:EXT} {tn:List Nat} {X:Cx} {pos np:Pos}
theorem L4 {K:Frag} {nl:Nat} {fr:List Nat} {g:Tg} {it:It} {k:Nat} {f:D->Res (Option D)} {tc:TT} {elt:E} {τ:Ft} {H:Hp} {Q:VK} {ji:Nat} (hF:Fok p tn τ H) (hji:jkI tn it=some ji) (hg:∀ i ∈ g.sl,i < nl) (hk:jk (tnB nl fr tn) elt=some (0,k))
  (hf:∀ (d:D) (o:Option D),f d=.ok o->∃ δ',Dw g d (blk nl fr (dτ τ))=some δ'/\∀ (τ4:Ft) (H3:Hp) (N:Bool->Hp->Prop),dτ τ4=δ'->Fok p (tnB nl fr tn) τ4 H3 ->
   (∀ b H5,Same H3 H5->(match o with | none=>b=false | some x=>b=true/\ev elt δ'=.ok x)->N b H5)->tc (vτ τ4) H3 N)
  (h:Lg p EX (vτ τ) ((evI it (dτ τ)).bind fun ds=>(Br f ds).bind fun r=>.ok (.lst r)) H (KE p (Sh tn τ) H 0 (k + 1) Q)) :
  GQ nl fr (lI p EX tn it) (fun _=>lG K g) (fun _=>tc) (fun _=>lE p EX0 (tnB nl fr tn) elt) (vτ τ) H Q:=by
 refine ⟨τ,rfl,hF,ji,hji,h.bind.mono (Same.refl _) fun ds _ hd J us H1 IT=>?_⟩
 cases q:Br f ds with
 | exc c=>exact absurd q (Go ds c)
 | bad=>rw [q] at hd; exact nE hd
 | ok r =>
 rw [q] at hd
 have hd:KE p (Sh tn τ) H 0 (k + 1) Q (.lst r):=hd
 intro z D hD
 have hDH:H D=none:=IT.same.free hD
 refine ⟨fun i m acc H2=>m=ds.length - i/\i<=ds.length/\∃ (ts:List T) (r':List Pu.D),acc=ts.map T.val/\Br f (ds.drop i)=.ok r'/\T.dats ts ++ r'=r/\ts.length<=i/\H2 D=some (.lst acc)/\(∀ a u,a ≠ D->H1 a=some u->H2 a=some u) /\
  T.Oks p H2 ts/\(∀ a ∈ T.rests ts 0,(H a=none\/Sh tn τ a)/\a ≠ D)/\(∀ a ∈ T.adrs ts k,H1 a=none/\∃ vs,H2 a=some (.lst vs))/\T.Nds ts k,⟨ds.length,by simp,aar _,[],r,rfl,by simpa using q,rfl,aag _,A9,fun a u n e=>by rw [Ar n]; exact e,trivial,by simp [T.rests],by simp [T.adrs],by simp [T.Nds,T.adrs]⟩,?_⟩
 rintro i m acc H2 ⟨rfl,hi,ts,r',rfl,hr,hc,hts,hD2,kp,ok,src,new,nd⟩
 refine ⟨hD2,?_⟩
 have s2:Same H H2:=fun a u e=>kp a u (fun z=>by rw [z,hDH] at e; cases e) (IT.same a u e)
 have usok:T.Oks p H2 us:=T.oks_iff.mpr fun u hu=>(T.oks_iff.mp IT.ok u hu).keep fun a w e _=>kp a w (fun z=>by rw [z,hD] at e; cases e) e
 have out:D ∉ T.rests ts 0:=fun m=>(src D m).2 rfl
 rcases aa4 i ds.length with hlt | hge
 ·refine .inr ⟨IT.go i H2 usok hlt,fun x H3 y=>?_⟩
  have hdi:ds[i]?=some ds[i]:=aah hlt
  obtain ⟨s3,t,rfl,ht,tok,tus,tsrc⟩:=IT.yld i H2 x H3 ds[i] usok hdi y
  have hdrop:ds.drop i=ds[i] :: ds.drop (i + 1):=abE hlt
  rw [hdrop] at hr
  obtain ⟨o,r'',hfo,hr'',rfl⟩:=Lf hr
  obtain ⟨δ',hasg,hev⟩:=hf _ o hfo
  rw [<- ht,<- R8,Gm] at hasg
  obtain ⟨τ4,h4,hδ⟩:=aau.mp hasg
  have sH3:Same H H3:=s2.trans s3
  have tusD:∀ a ∈ t.rest 0,a ≠ D:=fun a m z=>by
   obtain ⟨w,hw,m⟩:=T.mem_rests.mp (tus a m)
   exact (T.oks_iff.mp IT.ok w hw).dom m (z ▸ hD)
  have slot:∀ (n:Nat) (w:T),τ4[n]?=some (some w)->(w.Ok p H3/\∀ a ∈ w.rest 0,(H a=none\/Sh tn τ a)/\a ≠ D/\H1 a ≠ none)\/(n ∉ g.sl/\(Hu nl fr τ)[n]?=some (some w)):=by
   intro n w e
   refine (Id (P:=fun o=>∀ w,o=some w->(w.Ok p H3/\∀ a ∈ w.rest 0,(H a=none\/Sh tn τ a)/\a ≠ D/\H1 a ≠ none)) h4 (fun w e=>?_) (fun a ts' e u hu w e'=>?_) n (some w) e).imp (fun q=>q w rfl) id
   ·cases e
    refine ⟨tok,fun a m=>⟨tsrc a m,tusD a m,fun z=>?_⟩⟩
    obtain ⟨w',hw',m'⟩:=T.mem_rests.mp (tus a m)
    exact (T.oks_iff.mp IT.ok w' hw').dom m' z
   ·cases e'
    have sub:∀ b ∈ u.rest 0,b ∈ t.rest 0:=fun b m=>by
     rcases e with rfl | rfl
     ·exact T.mem_rests.mpr ⟨u,hu,m⟩
     ·exact aaa _ (T.mem_rests.mpr ⟨u,hu,m⟩)
    have uok:u.Ok p H3:=by
     rcases e with rfl | rfl
     ·exact T.oks_iff.mp tok.2 u hu
     ·exact T.oks_iff.mp tok.2 u hu
    refine ⟨uok,fun b m=>?_⟩
    have m:=sub b m
    refine ⟨tsrc b m,tusD b m,fun z=>?_⟩
    obtain ⟨w',hw',m'⟩:=T.mem_rests.mp (tus b m)
    exact (T.oks_iff.mp IT.ok w' hw').dom m' z
  have F4:Fok p (tnB nl fr tn) τ4 H3:=fun n w j e ej hj=>by
   rcases slot n w e with q | ⟨_,q⟩
   ·exact q.1
   ·obtain ⟨k',e1,e2⟩:=L3 q ej hj
    exact (hF k' w j e1 e2 hj).same sH3
  have S4:∀ a,Sh (tnB nl fr tn) τ4 a->(H a=none\/Sh tn τ a)/\a ≠ D/\H1 a ≠ none:=by
   rintro a ⟨n,w,j,e,ej,hj,m⟩
   rcases slot n w e with q | ⟨_,q⟩
   ·exact q.2 a (T.rest_le w (aar j) m)
   ·obtain ⟨k',e1,e2⟩:=L3 q ej hj
    have sh:Sh tn τ a:=⟨k',w,j,e1,e2,hj,m⟩
    have hd:=hF.dom sh
    exact ⟨.inr sh,fun z=>hd (z ▸ hDH),fun z=>hd (IT.same.free z)⟩
  rw [<- R9]
  refine JR tok h4 (hev τ4 H3 _ hδ F4 fun b H5 s5 hb=>?_)
  have s25:Same H2 H5:=s3.trans s5
  cases o with
  | none =>
   subst hb
   rw [if_neg (by decide)]
   refine ⟨ds.length - (i + 1),by omega,rfl,hlt,ts,r'',rfl,hr'',?_,by omega,s25 _ _ hD2,fun a u n e=>s25 _ _ (kp a u n e),ok.same s25,src,fun a m=>⟨(new a m).1,let ⟨vs,e⟩:=(new a m).2; ⟨vs,s25 _ _ e⟩⟩,nd⟩
   simpa using hc
  | some xo =>
   obtain ⟨rfl,he⟩:=hb
   rw [if_pos rfl]
   refine ⟨τ4,rfl,F4.same s5,0,k,hk,?_⟩
   rw [hδ,he]
   intro t' H6 ht' R
   have s26:Same H2 H6:=s25.trans R.same
   have hD6:H6 D=some (.lst (ts.map T.val)):=s26 _ _ hD2
   refine ⟨hD6,by rw [aab]; exact aaI hts (aas hlt IT.len),ds.length - (i + 1),by omega,rfl,hlt,ts ++ [t'],r'',by simp,hr'',?_,by simp; omega,A9,fun a u n e=>by rw [Ar n]; exact s26 _ _ (kp a u n e),?_,?_,?_,?_⟩
   ·rw [T.dats_map,aat,<- T.dats_map]
    simpa [ht'] using hc
   ·-- all of them stand
    have tD:∀ a ∈ t'.rest 0,a ≠ D:=fun a m z=>by
     rcases R.src a m with q | q
     ·rw [z,s25 _ _ hD2] at q; cases q
     ·exact (S4 a q).2.1 z
    refine T.oks_iff.mpr fun w hw=>?_
    have kk:(∀ a ∈ w.rest 0,a ≠ D)->w.Ok p H6->w.Ok p (L2.upd H6 D (.lst (ts.map T.val ++ [t'.val]))):=fun hne hok=>hok.keep fun a u e hq=>by
     rw [Ar ?_]; exact e
     rintro rfl
     rcases hq with hq | hq
     ·exact hne a hq rfl
     ·rw [hD6] at e
      exact hq _ (Option.some.inj e).symm
    rcases aai.mp hw with hw | hw
    ·exact kk (fun a m=>(src a (T.mem_rests.mpr ⟨w,hw,m⟩)).2) ((T.oks_iff.mp ok w hw).same s26)
    ·cases aaN.mp hw
     exact kk tD R.ok
   ·intro a m
    rw [T.rests_append,aai] at m
    rcases m with m | m
    ·exact src a m
    ·have m:a ∈ t'.rest 0:=by simpa [T.rests] using m
     rcases R.src a m with q | q
     ·exact ⟨.inl (sH3.trans s5 |>.free q),fun z=>by rw [z,s25 _ _ hD2] at q; cases q⟩
     ·exact ⟨(S4 a q).1,(S4 a q).2.1⟩
   ·intro a m
    rw [T.adrs_append,aai] at m
    rcases m with m | m
    ·obtain ⟨n1,vs,e⟩:=new a m
     have aD:a ≠ D:=fun z=>out (by rw [<- z]; exact (T.alls_iff ts k).mpr (.inl m))
     refine ⟨n1,vs,?_⟩
     rw [Ar aD]
     exact s26 _ _ e
    ·have m:a ∈ t'.adr k:=by simpa [T.adrs] using m
     obtain ⟨n1,vs,e⟩:=R.new a m
     have aD:a ≠ D:=fun z=>by rw [z,s25 _ _ hD2] at n1; cases n1
     refine ⟨?_,vs,by rw [Ar aD]; exact e⟩
     cases w:H1 a with
     | none=>rfl
     | some u=>rw [s25 _ _ (kp a u aD w)] at n1; cases n1
   ·refine T.nds_append nd (T.nds_cons.mpr ⟨R.nd,by simp [T.Nds,T.adrs],by simp [T.rests],by simp [T.adrs]⟩) (fun a m m'=>?_) (fun a m m'=>?_)
    ·have m':a ∈ t'.rest 0:=by simpa [T.rests] using m'
     rcases R.src a m' with q | q
     ·obtain ⟨_,vs,e⟩:=new a m
      rw [s25 _ _ e] at q; cases q
     ·exact (S4 a q).2.2 (new a m).1
    ·have m:a ∈ t'.adr k:=by simpa [T.adrs] using m
     obtain ⟨w,hw,m'⟩:=T.mem_rests.mp m'
     exact ((T.oks_iff.mp ok w hw).same s25).dom m' (R.new a m).1
 ·have hil:i=ds.length:=acg hi hge
  refine .inl ⟨IT.stop i H2 usok hge,hd (.lst D ts) H2 ?_ ⟨s2,⟨.inl hD2,ok⟩,fun a m=>?_,fun a m=>?_,?_,fun a m m'=>?_⟩⟩
  ·subst hil
   rw [List.drop_length] at hr
   simp only [Br] at hr
   cases hr
   simp only [T.dat,aaL] at hc ⊢
   rw [hc]
  ·simp only [T.rest,aal] at m
   rcases m with rfl | m
   ·exact .inl hDH
   ·exact (src a m).1
  ·simp only [T.adr,aal] at m
   rcases m with rfl | m
   ·exact ⟨hDH,_,hD2⟩
   ·exact ⟨IT.same.free (new a m).1,(new a m).2⟩
  ·simp only [T.adr,aaM]
   exact ⟨fun m=>out ((T.alls_iff ts k).mpr (.inl m)),nd.1⟩
  ·simp only [T.adr,T.rest,aal] at m m'
   rcases m' with rfl | m'
   ·exact out ((T.alls_iff ts k).mpr (.inr m))
   ·exact nd.2 a m m'
structure ScOk (X:Cx) (scope:Scope) (loc:List Str) (fr:List Nat) (frn:List Str):Prop where
 hfr:∀ (j:Nat) (k:Nat) (x:Str),fr[j]?=some k->frn[j]?=some x->X.N[k]?=some x/\X.env.kindOf x=some .cell/\(x,NameKind.free) ∈ scope.names
 hln:frn.length=fr.length
 hcell:∀ y ∈ scope.names,y.2 ≠ .cell
 hkind:scope.kind=.function
 hnames:∀ y ∈ scope.names,y.2=.local->scope.names.lookup y.1=some .local
 hfree:∀ y ∈ scope.names,y.2=.free->X.env.kindOf y.1=some .cell
 hkin:∀ (x:Str),x ∈ frn->(relabel scope X.env).names.lookup x=some .cell
 hsc:X.env.scope.kind=.function
theorem Kr {K:Frag} {nl:Nat} {fr:List Nat} {g:Tg} {it:It} {elt:E} {σ:L2.St} {H:Hp} {Q:VK} (hg:∀ i ∈ g.sl,i < nl) (h:lE p EX tn (.comp0 nl fr g it elt) σ H Q):GQ nl fr (lI p EX tn it) (fun _=>lG K g) (fun _=>QV) (fun _=>lE p EX0 (tnB nl fr tn) elt) σ H Q:=by
 obtain ⟨τ,rfl,hF,j,k,hj,h⟩:=h
 simp only [jk] at hj
 obtain ⟨ji,h1,hj⟩:=bS hj
 obtain ⟨⟨j2,k2⟩,h2,hj⟩:=bS hj
 obtain ⟨hc,e⟩:=DX hj
 cases e
 have hc:j2=0:=of_decide_eq_true hc
 subst hc
 simp only [ev] at h
 refine L4 hF h1 hg h2 (fun d o e=>?_) h
 split at e
 ·rename_i δ' hd
  obtain ⟨x,e1,e2⟩:=Res.bind_eq_ok e
  cases e2
  exact ⟨δ',hd,fun τ4 H3 N _ _ hN=>hN true H3 (Same.refl _) ⟨rfl,e1⟩⟩
 ·cases e
theorem Ks {K:Frag} {nl:Nat} {fr:List Nat} {g:Tg} {it:It} {cond elt:E} {σ:L2.St} {H:Hp} {Q:VK} (hg:∀ i ∈ g.sl,i < nl) (h:lE p EX tn (.comp1 nl fr g it cond elt) σ H Q):GQ nl fr (lI p EX tn it) (fun _=>lG K g) (fun _=>lT p EX0 (tnB nl fr tn) cond) (fun _=>lE p EX0 (tnB nl fr tn) elt) σ H Q:=by
 obtain ⟨τ,rfl,hF,j,k,hj,h⟩:=h
 simp only [jk] at hj
 obtain ⟨ji,h1,hj⟩:=bS hj
 obtain ⟨q3,h3,hj⟩:=bS hj
 obtain ⟨⟨j2,k2⟩,h2,hj⟩:=bS hj
 obtain ⟨hc,e⟩:=DX hj
 cases e
 have hc:j2=0:=of_decide_eq_true hc
 subst hc
 simp only [ev] at h
 refine L4 hF h1 hg h2 (fun d o e=>?_) h
 split at e
 ·rename_i δ' hd
  obtain ⟨b,e1,e2⟩:=Res.bind_eq_ok e
  refine ⟨δ',hd,fun τ4 H3 N e4 F4 hN=>⟨τ4,rfl,F4,by rw [h3]; rfl,?_⟩⟩
  unfold tv
  rw [e4,e1]
  intro H5 s5
  refine hN b H5 s5 ?_
  cases b with
  | true =>
   rw [if_pos rfl] at e2
   obtain ⟨x,e5,e6⟩:=Res.bind_eq_ok e2
   cases e6
   exact ⟨rfl,e5⟩
  | false =>
   rw [if_neg (by decide)] at e2
   cases e2; rfl
 ·cases e
theorem On {elt tg iter:Expr} {scope:Scope} {loc:List Str} {fr:List Nat} {frn:List Str} {g:Tg} {it:It} {x:E} (hc:X.calm=true) (S:ScOk X scope loc fr frn) (hi:PI X tg iter (lI p EX tn it)) (hg:∀ i ∈ g.sl,i < loc.length)
  (hb:∀ z:Bk,PG (X.blk scope z.C z.fp (loc ++ frn) z.s z.H) tg (lG X.K g)/\PE (X.blk scope z.C z.fp (loc ++ frn) z.s z.H) elt (lE p EX0 (tnB loc.length fr tn) x)) (hs:∀ y,foldedSetIterable iter X.env y=pure y) :
  PE X (.ListComp elt [⟨tg,iter,[],0⟩] scope pos) (lE p EX tn (.comp0 loc.length fr g it x)) :=
 PE.mono (LP loc fr frn hc hi S.hfr S.hln S.hcell S.hkind S.hnames S.hfree S.hkin S.hsc (fun _ _ _ _ _ h=>GV hg h) (fun z=>⟨(hb z).1,LM,(hb z).2⟩) hs) fun σ H Q h=>Kr hg h
theorem Oo {elt tg iter cnd:Expr} {scope:Scope} {loc:List Str} {fr:List Nat} {frn:List Str} {g:Tg} {it:It} {c x:E} (hc:X.calm=true) (S:ScOk X scope loc fr frn) (hi:PI X tg iter (lI p EX tn it)) (hg:∀ i ∈ g.sl,i < loc.length)
  (hb:∀ z:Bk,PG (X.blk scope z.C z.fp (loc ++ frn) z.s z.H) tg (lG X.K g)/\PT (X.blk scope z.C z.fp (loc ++ frn) z.s z.H) cnd (lT p EX0 (tnB loc.length fr tn) c)/\PE (X.blk scope z.C z.fp (loc ++ frn) z.s z.H) elt (lE p EX0 (tnB loc.length fr tn) x)) (hs:∀ y,foldedSetIterable iter X.env y=pure y) :
  PE X (.ListComp elt [⟨tg,iter,[cnd],0⟩] scope pos) (lE p EX tn (.comp1 loc.length fr g it c x)) :=
 PE.mono (LP loc fr frn hc hi S.hfr S.hln S.hcell S.hkind S.hnames S.hfree S.hkin S.hsc (fun _ _ _ _ _ h=>GV hg h) (fun z=>⟨(hb z).1,LO (hb z).2.1,(hb z).2.2⟩) hs) fun σ H Q h=>Ks hg h
theorem PS.mono {X:Cx} {st:Stmt} {t t':TS} (h:PS X st t) (m:∀ D σ H,t' D σ H->t D σ H):PS X st t':=fun pins s σ H D I q=>h pins s σ H D I (m _ _ _ q)
theorem M1 {elt tg iter:Expr} {scope:Scope} {loc:List Str} {fr:List Nat} {frn:List Str} {g:Tg} {it:It} {x:E} {y:Str} {k:Nat} {py spos:Pos} (hc:X.calm=true) (S:ScOk X scope loc fr frn) (hi:PI X tg iter (lI p EX tn it)) (hg:∀ i ∈ g.sl,i < loc.length)
  (hb:∀ z:Bk,PG (X.blk scope z.C z.fp (loc ++ frn) z.s z.H) tg (lG X.K g)/\PE (X.blk scope z.C z.fp (loc ++ frn) z.s z.H) elt (lE p EX0 (tnB loc.length fr tn) x)) (hs:∀ y,foldedSetIterable iter X.env y=pure y)
  (hN:X.N.Nodup) (hk:X.N[k]?=some y) (hx:Loc X.env.scope y) (hf:X.fn y=true\/X.env.scope.names.lookup y=some .local) (hsw:swapsWith (.ListComp elt [⟨tg,iter,[],0⟩] scope pos) (some (.Name y py)) spos.line X.env=pure true) :
  PS X (.Assign [.Name y py] (.ListComp elt [⟨tg,iter,[],0⟩] scope pos) spos) (F9 (lE p EX tn (.comp0 loc.length fr g it x)) (ET k)) :=
 PS.mono (HW loc fr frn hc hi S.hfr S.hln S.hcell S.hkind S.hnames S.hfree S.hkin S.hsc (fun _ _ _ _ _ h=>GV hg h) (fun z=>⟨(hb z).1,LM,(hb z).2⟩) hs hN hk hx hf hsw) fun D σ H h=>Kr hg h
theorem M2 {elt tg iter cnd:Expr} {scope:Scope} {loc:List Str} {fr:List Nat} {frn:List Str} {g:Tg} {it:It} {c x:E} {y:Str} {k:Nat} {py spos:Pos} (hc:X.calm=true) (S:ScOk X scope loc fr frn) (hi:PI X tg iter (lI p EX tn it)) (hg:∀ i ∈ g.sl,i < loc.length)
  (hb:∀ z:Bk,PG (X.blk scope z.C z.fp (loc ++ frn) z.s z.H) tg (lG X.K g)/\PT (X.blk scope z.C z.fp (loc ++ frn) z.s z.H) cnd (lT p EX0 (tnB loc.length fr tn) c)/\PE (X.blk scope z.C z.fp (loc ++ frn) z.s z.H) elt (lE p EX0 (tnB loc.length fr tn) x)) (hs:∀ y,foldedSetIterable iter X.env y=pure y)
  (hN:X.N.Nodup) (hk:X.N[k]?=some y) (hx:Loc X.env.scope y) (hf:X.fn y=true\/X.env.scope.names.lookup y=some .local) (hsw:swapsWith (.ListComp elt [⟨tg,iter,[cnd],0⟩] scope pos) (some (.Name y py)) spos.line X.env=pure true) :
  PS X (.Assign [.Name y py] (.ListComp elt [⟨tg,iter,[cnd],0⟩] scope pos) spos) (F9 (lE p EX tn (.comp1 loc.length fr g it c x)) (ET k)) :=
 PS.mono (HW loc fr frn hc hi S.hfr S.hln S.hcell S.hkind S.hnames S.hfree S.hkin S.hsc (fun _ _ _ _ _ h=>GV hg h) (fun z=>⟨(hb z).1,LO (hb z).2.1,(hb z).2.2⟩) hs hN hk hx hf hsw) fun D σ H h=>Ks hg h
end
structure CkC where
 N:List Str
 sc:Scope
 fn:Bool
 rz:Bool
 cm:Bool
noncomputable def BT (sc:Scope) (x:Str):Bool:=match sc.names.lookup x with
 | some .local=>true
 | some .cell=>true
 | some .free=>true
 | _=>false
noncomputable def FQ (c:CkC) (x:Str):Bool:=match c.sc.names.lookup x with
 | some .local=>true
 | some .cell=>c.fn
 | _=>false
noncomputable def glB (sc:Scope) (x:Str):Bool:=match sc.names.lookup x with
 | some .globalImplicit=>true
 | _=>false
noncomputable def AO (x:Str):Bool:=!(x==("__debug__" : Str)) && !(x==("__classdict__" : Str))
noncomputable def E0 (scope outer:Scope):Scope :=
 { scope with names:=scope.names.map fun (n,k)=>if (k==.free && outer.kind==.function && outer.names.lookup n==some .cell) then (n,.cell) else (n,k) }
theorem Kt (scope:Scope) (env:Env):relabel scope env=E0 scope env.scope:=rfl
noncomputable def Bg:List Str:=["len", "min", "max", "abs", "int", "list", "tuple", "all", "any", "sum", "sorted", "isinstance", "str", "range", "enumerate", "zip", "reversed"]
noncomputable def ckG (c:CkC):Tg->Expr->Bool
 | .nm i,.Name x _=>(c.N[i]?==some x) && FQ c x
 | .tp is,.Tuple es _ _=>ckGs c is es && c.cm
 | _,_=>false
where ckGs (c:CkC):List Nat->List Expr->Bool
 | [],[]=>true
 | i :: is,.Name x _ :: es=>(c.N[i]?==some x) && FQ c x && ckGs c is es
 | _,_=>false
noncomputable def scB (c:CkC) (scope:Scope) (loc:List Str) (fr:List Nat) (frn:List Str):Bool :=
 decide (frn.length=fr.length) && ((fr.zip frn).all fun q=>(c.N[q.1]?==some q.2) && (c.sc.names.lookup q.2==some .cell) && scope.names.contains (q.2,NameKind.free)) &&
 (scope.names.all fun y=>(y.2 != .cell) && (y.2 != .local || scope.names.lookup y.1==some .local) && (y.2 != .free || c.sc.names.lookup y.1==some .cell)) && (scope.kind==.function) && (c.sc.kind==.function) &&
 (frn.all fun x=>(E0 scope c.sc).names.lookup x==some .cell) && decide (loc ++ frn).Nodup
noncomputable def FR (c:CkC) (fr:List Nat):List Str:=fr.map fun j=>c.N.getD j ""
noncomputable def Ec:Expr->List Str
 | .Name x _=>[x]
 | .Tuple es _ _=>es.filterMap fun | .Name x _=>some x | _=>none
 | _=>[]
noncomputable def FS:Expr->Option (Str × Pos)
 | .Name x p=>some (x,p)
 | _=>none
theorem DL {e:Expr} {x:Str} {p:Pos} (h:FS e=some (x,p)):e=.Name x p:=by cases e <;> cases h <;> rfl
noncomputable def UD:Expr->Option (List Expr × Nat × Pos)
 | .Tuple es k p=>some (es,k,p)
 | _=>none
theorem Sa {e:Expr} {es:List Expr} {k:Nat} {p:Pos} (h:UD e=some (es,k,p)):e=.Tuple es k p:=by cases e <;> cases h <;> rfl
noncomputable def UE:Expr->Option (Expr × Expr × Pos)
 | .Subscript o i p=>some (o,i,p)
 | _=>none
theorem Sb {e o i:Expr} {p:Pos} (h:UE e=some (o,i,p)):e=.Subscript o i p:=by cases e <;> cases h <;> rfl
noncomputable def UF:Expr->Option (Expr × List Expr × List Keyword × Pos)
 | .Call f xs ks p=>some (f,xs,ks,p)
 | _=>none
theorem Sd {e f:Expr} {xs:List Expr} {ks:List Keyword} {p:Pos} (h:UF e=some (f,xs,ks,p)):e=.Call f xs ks p:=by cases e <;> cases h <;> rfl
noncomputable def UG:Expr->Option (Option Expr × Option Expr × Option Expr × Pos)
 | .Slice a b c p=>some (a,b,c,p)
 | _=>none
theorem Se {e:Expr} {a b c:Option Expr} {p:Pos} (h:UG e=some (a,b,c,p)):e=.Slice a b c p:=by cases e <;> cases h <;> rfl
noncomputable def UH:Stmt->Option (List Expr × Expr × Pos)
 | .Assign ts e p=>some (ts,e,p)
 | _=>none
theorem Sg {st:Stmt} {ts:List Expr} {e:Expr} {p:Pos} (h:UH st=some (ts,e,p)):st=.Assign ts e p:=by cases st <;> cases h <;> rfl
noncomputable def UI:Stmt->Option (Expr × Expr × List Stmt × List Stmt × Pos)
 | .For t i b o p=>some (t,i,b,o,p)
 | _=>none
theorem Si {st:Stmt} {t i:Expr} {b o:List Stmt} {p:Pos} (h:UI st=some (t,i,b,o,p)):st=.For t i b o p:=by cases st <;> cases h <;> rfl
noncomputable def Hv {α:Type}:List α->Option α
 | [a]=>some a
 | _=>none
theorem Ey {α:Type} {l:List α} {a:α} (h:Hv l=some a):l=[a]:=by
 cases l with
 | nil=>cases h
 | cons x r=>cases r <;> cases h <;> rfl
noncomputable def M3 {α:Type}:List α->Option (α × α)
 | [a,b]=>some (a,b)
 | _=>none
theorem IK {α:Type} {l:List α} {a b:α} (h:M3 l=some (a,b)):l=[a,b]:=by
 cases l with
 | nil=>cases h
 | cons x r=>cases r with
  | nil=>cases h
  | cons y r=>cases r <;> cases h <;> rfl
noncomputable def Op {α:Type}:List α->Option (α × α × α)
 | [a,b,c]=>some (a,b,c)
 | _=>none
theorem Oq {α:Type} {l:List α} {a b c:α} (h:Op l=some (a,b,c)):l=[a,b,c]:=by
 cases l with
 | nil=>cases h
 | cons x r=>cases r with
  | nil=>cases h
  | cons y r=>cases r with
   | nil=>cases h
   | cons z r=>cases r <;> cases h <;> rfl
noncomputable def DY (e:Expr):Option (Str × List Expr):=(UF e).bind fun c=>(FS c.1).bind fun n=>if c.2.2.1.isEmpty=true then some (n.1,c.2.1) else none
theorem Cu {e:Expr} {x:Str} {xs:List Expr} (h:DY e=some (x,xs)):∃ p1 p2,e=.Call (.Name x p1) xs [] p2:=by
 unfold DY at h
 obtain ⟨c,g1,h⟩:=bS h
 obtain ⟨n,g2,h⟩:=bS h
 have E:=Sd g1
 rw [DL g2] at E
 clear g1 g2
 split at h
 ·rename_i hc
  rw [List.isEmpty_iff.mp hc] at E
  cases h
  exact ⟨_,_,E⟩
 ·cases h
noncomputable def IL (e:Expr):Option (Str × Str × Expr × Expr):=(DY e).bind fun c=>(Hv c.2).bind fun i=>(DY i).bind fun d=>(M3 d.2).bind fun q=>some (c.1,d.1,q.1,q.2)
theorem Sj {e:Expr} {x y:Str} {l r:Expr} (h:IL e=some (x,y,l,r)):∃ p1 p2 p3 p4,e=.Call (.Name x p1) [.Call (.Name y p2) [l,r] [] p3] [] p4:=by
 unfold IL at h
 obtain ⟨c,g1,h⟩:=bS h
 obtain ⟨i,g2,h⟩:=bS h
 obtain ⟨d,g3,h⟩:=bS h
 obtain ⟨q,g4,h⟩:=bS h
 obtain ⟨p1,p4,e1⟩:=Cu g1
 obtain ⟨p2,p3,e3⟩:=Cu g3
 rw [Ey g2,e3,IK g4] at e1
 cases h
 exact ⟨_,_,_,_,e1⟩
noncomputable def DZ (e:Expr):Option (Str × Str × Expr):=(DY e).bind fun c=>(Hv c.2).bind fun i=>(DY i).bind fun d=>(Hv d.2).bind fun q=>some (c.1,d.1,q)
theorem Ku {e:Expr} {x y:Str} {r:Expr} (h:DZ e=some (x,y,r)):∃ p1 p2 p3 p4,e=.Call (.Name x p1) [.Call (.Name y p2) [r] [] p3] [] p4:=by
 unfold DZ at h
 obtain ⟨c,g1,h⟩:=bS h
 obtain ⟨i,g2,h⟩:=bS h
 obtain ⟨d,g3,h⟩:=bS h
 obtain ⟨q,g4,h⟩:=bS h
 obtain ⟨p1,p4,e1⟩:=Cu g1
 obtain ⟨p2,p3,e3⟩:=Cu g3
 rw [Ey g2,e3,Ey g4] at e1
 cases h
 exact ⟨_,_,_,_,e1⟩
noncomputable def GW (e:Expr):Option (Str × Str × Expr × Expr × Expr):=(DY e).bind fun c=>(Hv c.2).bind fun i=>(DY i).bind fun d=>(Op d.2).bind fun q=>some (c.1,d.1,q.1,q.2.1,q.2.2)
theorem Qa {e:Expr} {x y:Str} {l r s:Expr} (h:GW e=some (x,y,l,r,s)):∃ p1 p2 p3 p4,e=.Call (.Name x p1) [.Call (.Name y p2) [l,r,s] [] p3] [] p4:=by
 unfold GW at h
 obtain ⟨c,g1,h⟩:=bS h
 obtain ⟨i,g2,h⟩:=bS h
 obtain ⟨d,g3,h⟩:=bS h
 obtain ⟨q,g4,h⟩:=bS h
 obtain ⟨p1,p4,e1⟩:=Cu g1
 obtain ⟨p2,p3,e3⟩:=Cu g3
 rw [Ey g2,e3,Oq g4] at e1
 cases h
 exact ⟨_,_,_,_,e1⟩
noncomputable def D0:Expr->Bool
 | .Set _ _ _=>false
 | _=>true
noncomputable def Hw:List Str:=["RoomError", "BadShape", "NoNode", "NoPage", "NotRooms", "NotATree", "BadRoom", "Unlike", "BadScale", "BadStore", "BadName", "BadLength", "Twice", "Full", "NoThing", "NoDeed", "NoLine"]
noncomputable def Bj (n:Nat):Str:=Hw.getD n "RoomError"
theorem M4 (n:Nat):(Bj n==("__debug__" : Str))=false:=by
 have h:∀ x ∈ Hw,(x==("__debug__" : Str))=false:=by decide
 unfold Bj
 rw [aaK]
 cases q:Hw[n]? with
 | none=>decide
 | some x=>exact h x (aae q)
noncomputable def IM:Kd->String
 | .int => "int"
 | .bool => "bool"
 | .str => "str"
 | .list => "list"
 | .tuple => "tuple"
 | .dict => "dict"
 | .verr => "ValueError"
 | .cls _ => ""
noncomputable def Fv:Kd->Str
 | .cls n=>Bj n
 | k=>Str.ofString (IM k)
noncomputable def Qb (c:CkC) (k:Kd):Expr->Bool
 | .Name x _=>(x==Fv k) && glB c.sc x
 | _=>false
noncomputable def nmB:Expr->Bool
 | .Name _ _=>true
 | _=>false
noncomputable def UJ:Expr->Bool
 | .Name _ _=>true
 | .Subscript _ _ _=>true
 | _=>false
noncomputable def Os:Bi->Str
 | .len => "len"
 | .min => "min"
 | .max => "max"
 | .maxL => "max"
 | .minL => "min"
 | .int => "int"
 | .list => "list"
 | .listL => "list"
noncomputable def UK:Bi->Bool
 | _=>true
noncomputable def Fw:Bi->Bool
 | .len=>true
 | .int=>true
 | .list=>true
 | .listL=>true
 | _=>false
mutual
noncomputable def E.tst:E->Bool
 | .ifx _ _ _=>false
 | .not a=>a.tst
 | .bo _ es=>es.tsts
 | _=>true
noncomputable def Es.tsts:Es->Bool
 | .nil=>true
 | .cons e r=>e.tst && r.tsts
end
noncomputable def GX (gens:List Comprehension) (f:Expr->Expr->List Expr->Bool):Bool:=match gens with
 | [⟨tg,iter,ifs,n⟩]=>decide (n=0) && f tg iter ifs
 | _=>false
noncomputable def M5 (es:List Expr) (f:Expr->Bool):Bool:=match es with
 | [e]=>f e
 | _=>false
theorem Ed {gens:List Comprehension} {f:Expr->Expr->List Expr->Bool} (h:GX gens f=true):∃ tg iter ifs,gens=[⟨tg,iter,ifs,0⟩]/\f tg iter ifs=true:=by
 unfold GX at h
 split at h
 ·rw [aaf] at h
  cases of_decide_eq_true h.1
  exact ⟨_,_,_,rfl,h.2⟩
 ·cases h
theorem Kv {es:List Expr} {f:Expr->Bool} (h:M5 es f=true):∃ e,es=[e]/\f e=true:=by
 unfold M5 at h
 split at h
 ·exact ⟨_,rfl,h⟩
 ·cases h
noncomputable def isNone:Expr->Bool
 | .Constant .none _ _=>true
 | _=>false
noncomputable def Ie (b:Bool) (f:Expr->Bool):Option Expr->Bool
 | none=>b
 | some l=>!b && f l
mutual
noncomputable def ckE (c:CkC):E->Expr->Bool
 | .nm i,.Name x _=>(c.N[i]?==some x) && BT c.sc x && AO x
 | .cN,.Constant .none _ _=>true
 | .cB b,.Constant (.bool b') _ _=>b==b'
 | .cI i,.Constant (.int i') _ _=>i==i'
 | .cS x,.Constant (.str x') _ _=>x==x'
 | .gl x d,.Name y _=>(x==y) && glB c.sc y && AO y && D.scal d
 | .tup es,.Tuple xs _ _=>ckEs c es xs && decide (es.len<=1000)
 | .lst es,.List xs _=>ckEs c es xs && decide (es.len<=1000)
 | .bin o a b,.BinOp l op r _=>(op==MR o) && ckE c a l && ckE c b r
 | .neg a,.UnaryOp .USub l _=>ckE c a l
 | .not a,.UnaryOp .Not l _=>ckE c a l
 | .cmp o a b,.Compare l [op] [r] _=>(op==Bv o) && ckE c a l && ckE c b r && D0 r
 | .chain o o' a b d,.Compare l [op,op'] [r,r'] _=>(op==Bv o) && (op'==Bv o') && ckE c a l && ckE c b r && ckE c d r' && D0 r'
 | .isN n a,.Compare l [op] [r] _=>(op==if n then .IsNot else .Is) && isNone r && ckE c a l
 | .bo k es,.BoolOp op xs _=>(op==if k then .And else .Or) && ckEs c es xs
 | .ifx t a b,.IfExp t' a' b' _=>ckE c t t' && t.tst && ckE c a a' && ckE c b b'
 | .ix a i,.Subscript a' i' _=>ckE c a a' && ckE c i i' && B4 i'
 | .ixL a i,.Subscript a' i' _=>ckE c a a' && ckE c i i' && B4 i'
 | .slc a lo hi,.Subscript a' (.Slice lo' hi' none _) _=>ckE c a a' && Ie lo.isCN (ckE c lo) lo' && Ie hi.isCN (ckE c hi) hi'
 | .call f es,.Call (.Name x _) xs [] _=>(x==f.name) && glB c.sc x && AO x && ckEs c es xs && decide (es.len=f.ar) && decide (0 < es.len) && c.cm
 | .callB f es,.Call (.Name x _) xs [] _=>(x==f.name) && glB c.sc x && AO x && ckEs c es xs && decide (es.len=f.ar) && decide (0 < es.len) && c.cm
 | .bi b es,.Call (.Name x _) xs [] _=>(x==Os b) && glB c.sc x && UK b && ckEs c es xs && decide (0 < es.len) && (c.cm || Fw b)
 | .mt .count a es,.Call (.Attribute o name ap) xs [] cp=>(name==("count" : Str)) && ckE c a o && UJ o && ckEs c es xs && decide (es.len=1) && (ap.endLine==cp.line)
 | .mt .index a es,.Call (.Attribute o name ap) xs [] cp=>(name==("index" : Str)) && ckE c a o && nmB o && ckEs c es xs && decide (es.len=1) && (ap.endLine==cp.line)
 | .isi a k,.Call (.Name x _) [l,r] [] _=>(x==("isinstance" : Str)) && glB c.sc x && ckE c a l && Qb c k r && Af l
 | .listI (.r2 a b),e=>match IL e with
  | some (x,y,l,r)=>(x==("list" : Str)) && glB c.sc x && (y==("range" : Str)) && glB c.sc y && ckE c a l && Af l && ckE c b r && Af r && c.cm
  | none=>false
 | .listI (.r1 b),e=>match DZ e with
  | some (x,y,r)=>(x==("list" : Str)) && glB c.sc x && (y==("range" : Str)) && glB c.sc y && ckE c b r && Af r && c.cm
  | none=>false
 | .listI (.rv b),e=>match DZ e with
  | some (x,y,r)=>(x==("list" : Str)) && glB c.sc x && (y==("reversed" : Str)) && glB c.sc y && ckE c b r && Af r && c.cm
  | none=>false
 | .listI (.r3 a b d),e=>match GW e with
  | some (x,y,l,r,s)=>(x==("list" : Str)) && glB c.sc x && (y==("range" : Str)) && glB c.sc y && ckE c a l && Af l && ckE c b r && Af r && ckE c d s && Af s && c.cm
  | none=>false
 | .comp0 nl fr g it elt,.ListComp elt' gens scope _=>GX gens fun tg iter ifs=>c.cm && ifs.isEmpty && scB c scope (Ec tg) fr (FR c fr) && decide (nl=(Ec tg).length) && (g.sl.all fun i=>decide (i < nl)) && ckI c tg it iter && D0 iter &&
   ckG ⟨Ec tg ++ FR c fr,E0 scope c.sc,false,false,c.cm⟩ g tg && ckE ⟨Ec tg ++ FR c fr,E0 scope c.sc,false,false,c.cm⟩ elt elt'
 | .comp1 nl fr g it cond elt,.ListComp elt' gens scope _=>GX gens fun tg iter ifs=>M5 ifs fun cnd=>c.cm && scB c scope (Ec tg) fr (FR c fr) && decide (nl=(Ec tg).length) && (g.sl.all fun i=>decide (i < nl)) && ckI c tg it iter && D0 iter &&
   ckG ⟨Ec tg ++ FR c fr,E0 scope c.sc,false,false,c.cm⟩ g tg && ckE ⟨Ec tg ++ FR c fr,E0 scope c.sc,false,false,c.cm⟩ cond cnd && cond.tst && ckE ⟨Ec tg ++ FR c fr,E0 scope c.sc,false,false,c.cm⟩ elt elt'
 | _,_=>false
noncomputable def ckEs (c:CkC):Es->List Expr->Bool
 | .nil,[]=>true
 | .cons e r,x :: xs=>ckE c e x && Af x && ckEs c r xs
 | _,_=>false
noncomputable def ckI (c:CkC) (tg:Expr):It->Expr->Bool
 | .seq e,x=>ckE c e x
 | .seqL e,x=>ckE c e x
 | .r1 a,.Call (.Name x _) [l] [] _=>(x==("range" : Str)) && glB c.sc x && ckE c a l && Af l
 | .r2 a b,.Call (.Name x _) [l,r] [] _=>(x==("range" : Str)) && glB c.sc x && ckE c a l && Af l && ckE c b r && Af r
 | .r3 a b d,.Call (.Name x _) [l,r,o] [] _=>(x==("range" : Str)) && glB c.sc x && ckE c a l && Af l && ckE c b r && Af r && ckE c d o && Af o
 | .rv a,.Call (.Name x _) [l] [] _=>(x==("reversed" : Str)) && glB c.sc x && ckE c a l && Af l
 | _,_=>false
end
inductive Nd1 where
 | fn (F:Fn)
 | fm (F:Fn)
 | cl (n:Nat)
 | rs (n:Nat)
 | gl (x:Str) (d:D)
mutual
noncomputable def E.need:E->List Nd1
 | .nm _=>[]
 | .cN=>[]
 | .cB _=>[]
 | .cI _=>[]
 | .cS _=>[]
 | .gl x d=>[.gl x d]
 | .tup es=>es.need
 | .lst es=>es.need
 | .bin _ a b=>a.need ++ b.need
 | .neg a=>a.need
 | .not a=>a.need
 | .cmp _ a b=>a.need ++ b.need
 | .chain _ _ a b c=>a.need ++ (b.need ++ c.need)
 | .isN _ a=>a.need
 | .bo _ es=>es.need
 | .ifx c a b=>c.need ++ (a.need ++ b.need)
 | .ix a i=>a.need ++ i.need
 | .ixL a i=>a.need ++ i.need
 | .slc a lo hi=>a.need ++ (lo.need ++ hi.need)
 | .call f es=>.fn f :: es.need
 | .callB f es=>.fn f :: es.need
 | .bi _ es=>es.need
 | .listI it=>it.need
 | .isi a k=>(match k with | .cls n=>[.cl n] | _=>[]) ++ a.need
 | .mt _ a es=>a.need ++ es.need
 | .comp0 _ _ _ it elt=>it.need ++ elt.need
 | .comp1 _ _ _ it cond elt=>it.need ++ (cond.need ++ elt.need)
noncomputable def Es.need:Es->List Nd1
 | .nil=>[]
 | .cons e r=>e.need ++ r.need
noncomputable def It.need:It->List Nd1
 | .seq e=>e.need
 | .seqL e=>e.need
 | .r1 a=>a.need
 | .r2 a b=>a.need ++ b.need
 | .r3 a b c=>a.need ++ (b.need ++ c.need)
 | .rv e=>e.need
end
noncomputable def dT:D->T
 | .bl b=>.bl b
 | .int i=>.int i
 | .str x=>.str x
 | _=>.non
theorem UL {d:D} (h:D.scal d=true):(dT d).dat=d/\(dT d).sc=true:=by cases d <;> first | exact ⟨rfl,rfl⟩ | cases h
noncomputable def NeedOk (p:Px) (lv:Nat) (X:Cx):Nd1->Prop
 | .fn F=>F.lv<=lv/\MX p X F
 | .fm F=>F.lv<=lv/\UB p X F
 | .cl n=>p.has n=true/\X.mg (Bj n)=some (.ref (p.cl n))
 | .rs n=>p.has n=true/\nsIn X.K mainGlobals (Bj n)=some (some (.ref (p.cl n)))/\excIn X.K (p.cl n) Hr "ValueError.__new__" = true
 | .gl x d=>∃ u,X.mg x=some u/\RelV (dT d).val u
structure Kx (p:Px):Prop where
 no:p.has 999=false
 x:∀ c,p.has c=true->XCls p.K (p.cl c)
 kb:∀ c,p.has c=true->∀ T ∈ (["int", "bool", "str", "list", "tuple", "dict"]:List String),kitOne p.K (.ref (p.cl c)) (.type T)=some false
 kv:∀ c,p.has c=true->kitOne p.K (.ref (p.cl c)) (.type "ValueError")=some true
 kc:∀ c d,p.has c=true->p.has d=true->kitOne p.K (.ref (p.cl c)) (.ref (p.cl d))=some (isa c d)
structure Ct (p:Px) (c:CkC) (lv:Nat) (X:Cx) (EX:EXT):Prop where
 K:X.K=p.K
 N:X.N=c.N
 sc:X.env.scope=c.sc
 nd:X.N.Nodup
 calm:c.cm=true->X.calm=true
 room:c.cm=true->Room lv X.A
 un:X.A.units + 64 < cLine
 blt:∀ y ∈ Bg,X.mg y=none
 bt:∀ y ∈ (["bool", "dict", "ValueError"]:List Str),X.mg y=none
 pass:Gf (CXe X.prog X.w) X EX
 fn:c.fn=true->∀ x,X.fn x=true
 kx:Kx p
 ph:c.rz=true->True
section
variable {p:Px} {c:CkC} {lv:Nat} {X:Cx} {EX:EXT} {tn:List Nat} {pos np:Pos}
theorem Ct.gl (C:Ct p c lv X EX) {x:Str} (h:glB c.sc x=true):Gl X x:=by
 unfold glB at h
 show X.env.scope.names.lookup x=_
 rw [C.sc]
 split at h
 ·assumption
 ·cases h
theorem Ct.vis (C:Ct p c lv X EX) {x:Str} (h:BT c.sc x=true):Vis X.env.scope x:=by
 unfold BT at h
 unfold Vis
 rw [C.sc]
 split at h
 ·exact .inl ‹_›
 ·exact .inr (.inl ‹_›)
 ·exact .inr (.inr ‹_›)
 ·cases h
theorem Ct.loc (C:Ct p c lv X EX) {x:Str} (h:FQ c x=true):L2.Loc X.env.scope x/\(X.fn x=true\/X.env.scope.names.lookup x=some .local):=by
 unfold FQ at h
 unfold L2.Loc
 rw [C.sc]
 split at h
 ·rename_i e; exact ⟨.inl e,.inr e⟩
 ·rename_i e; exact ⟨.inr e,.inl (C.fn h x)⟩
 ·cases h
theorem Bl {x:Str} (h:AO x=true):(x==("__debug__" : Str))=false/\(x==("__classdict__" : Str))=false:=by
 unfold AO at h
 rw [aaf,ab6,ab6] at h
 exact h
theorem Ct.hu (C:Ct p c lv X EX):X.A.units + 64 < cLine:=C.un
theorem QZ (C:Ct p c lv X EX):∀ {is:List Nat} {es:List Expr},ckG.ckGs c is es=true->PGs X es (C4 is)/\(assignEach es X.env).length=is.length/\(assignEach es X.env).findIdx? (·.1)=none
 | [],[],_=>⟨Re,rfl,rfl⟩
 | [],e :: es,h=>nF h
 | i :: is,[],h=>nF h
 | i :: is,e :: es,h=>by
  cases e with
  | Name x q =>
   have h:((c.N[i]?==some x) && FQ c x && ckG.ckGs c is es)=true:=h
   rw [aaf,aaf] at h
   obtain ⟨⟨h1,h2⟩,h3⟩:=h
   obtain ⟨a1,a2,a3⟩:=QZ C h3
   obtain ⟨l1,l2⟩:=C.loc h2
   refine ⟨Pe (LF C.nd (by rw [C.N]; exact beq_iff_eq.mp h1) l1 l2) a1 rfl,?_,?_⟩
   ·show (assignEach es X.env).length + 1=_; rw [a2]; rfl
   ·show List.findIdx? (·.1) ((false,_) :: assignEach es X.env)=none
    rw [List.findIdx?_cons,a3]; rfl
  | _=>exact nF h
theorem Gp (C:Ct p c lv X EX) {g:Tg} {e:Expr} (h:ckG c g e=true):PG X e (lG X.K g):=by
 cases g with
 | nm i =>
  cases e with
  | Name x q =>
   have h:((c.N[i]?==some x) && FQ c x)=true:=h
   rw [aaf] at h
   obtain ⟨l1,l2⟩:=C.loc h.2
   exact LF C.nd (by rw [C.N]; exact beq_iff_eq.mp h.1) l1 l2
  | _=>exact nF h
 | tp is =>
  cases e with
  | Tuple es k q =>
   rw [show ckG c (.tp is) (.Tuple es k q)=(ckG.ckGs c is es && c.cm) from rfl,aaf] at h
   obtain ⟨a1,a2,a3⟩:=QZ C h.1
   intro pins s σ H v u Q I r hw
   rcases hw with hw | hw
   ·exact TD (C.calm h.2) a1 a2 a3 pins s σ H v u Q I r hw
   ·exact Ui (C.calm h.2) a1 a2 a3 pins s σ H v u Q I r hw
  | _=>exact nF h
theorem L5 {α β:Type} {xs:List α} {ys:List β} {j:Nat} {a:α} {b:β} (h1:xs[j]?=some a) (h2:ys[j]?=some b):(a,b) ∈ xs.zip ys:=by
 have:(xs.zip ys)[j]?=some (a,b):=by rw [List.getElem?_zip_eq_some]; exact ⟨h1,h2⟩
 exact aae this
theorem JS (C:Ct p c lv X EX) {scope:Scope} {loc:List Str} {fr:List Nat} {frn:List Str} (h:scB c scope loc fr frn=true):ScOk X scope loc fr frn/\(loc ++ frn).Nodup:=by
 unfold scB at h
 simp only [aaf,decide_eq_true_eq,aaA,beq_iff_eq,bne_iff_ne,Bool.or_eq_true] at h
 obtain ⟨⟨⟨⟨⟨⟨h1,h2⟩,h3⟩,h4⟩,h5⟩,h6⟩,h7⟩:=h
 refine ⟨⟨fun j k x e1 e2=>?_,h1,fun y hy=>(h3 y hy).1.1,h4,fun y hy e=>?_,fun y hy e=>?_,fun x hx=>?_,by rw [C.sc]; exact h5⟩,h7⟩
 ·obtain ⟨⟨q1,q2⟩,q3⟩:=h2 (k,x) (L5 e1 e2)
  refine ⟨by rw [C.N]; exact q1,?_,by simpa using q3⟩
  show X.env.scope.names.lookup x=_
  rw [C.sc]; exact q2
 ·rcases (h3 y hy).1.2 with q | q
  ·exact absurd e q
  ·exact q
 ·rcases (h3 y hy).2 with q | q
  ·exact absurd e q
  ·show X.env.scope.names.lookup y.1=_
   rw [C.sc]; exact q
 ·rw [Kt,C.sc]; exact h6 x hx
theorem Ct.blk (C:Ct p c lv X EX) {scope:Scope} {N:List Str} (hN:N.Nodup) (z:Bk):Ct p ⟨N,E0 scope c.sc,false,false,c.cm⟩ lv (X.blk scope z.C z.fp N z.s z.H) EX0 where
 K:=C.K
 N:=rfl
 sc:=by show relabel scope X.env=_; rw [Kt,C.sc]
 nd:=hN
 calm:=C.calm
 room:=C.room
 un:=C.un
 blt:=C.blt
 bt:=C.bt
 pass:=fun _ _ _ _ _ _ _ h=>by
  obtain ⟨_,_,_,_,_,_,_,_,_,_,_,_,_,_,_,_,_,_,z⟩:=h
  exact z.elim
 fn:=fun z=>nomatch z
 kx:=C.kx
 ph:=fun z=>nomatch z
theorem NeedOk.blk {scope:Scope} {N:List Str} {z:Bk} {n:Nd1} (h:NeedOk p lv X n):NeedOk p lv (X.blk scope z.C z.fp N z.s z.H) n:=by
 cases n <;> exact h
theorem DM {e:Expr} {env:Env} (h:D0 e=true):∀ y,foldedSetIterable e env y=pure y:=by
 intro y
 cases e <;> first | rfl | cases h
theorem Ee {op:CmpOp} {e:Expr} (h:D0 e=true):behindInMarks op e=false:=by
 cases e <;> first | rfl | cases h
end
section
variable {p:Px} {c:CkC} {lv:Nat} {X:Cx} {EX:EXT} {tn:List Nat} {pos np:Pos}
theorem AJ (C:Ct p c lv X EX) {e:Expr} {x:E} (h:PE X e (lE p EX tn x)) (hp:Kn e=true):PE X e (lE p EX tn x)/\(x.tst=true->PT X e (lT p EX tn x)):=⟨h,fun _=>MV C.K h hp⟩
noncomputable def kdV (p:Px):Kd->Value
 | .cls n=>.ref (p.cl n)
 | k=>.type (IM k)
noncomputable def M6 (p:Px):Kd->Prop
 | .cls n=>p.has n=true
 | _=>True
theorem UM (C:Ct p c lv X EX) {H:Hp} {t:T} (ok:t.Ok p H):∃ ty,TyX X.K H t.val ty/\∀ k b,De t.dat k=.ok b->M6 p k->kitOne X.K ty (kdV p k)=some b:=by
 cases t with
 | non=>exact ⟨_,.of .non,fun k b h _=>by cases k <;> cases h <;> rfl⟩
 | bl x=>exact ⟨_,.of (.bl x),fun k b h _=>by cases k <;> cases h <;> rfl⟩
 | int x=>exact ⟨_,.of (.int x),fun k b h _=>by cases k <;> cases h <;> rfl⟩
 | str x=>exact ⟨_,.of (.str x),fun k b h _=>by cases k <;> cases h <;> rfl⟩
 | tup a ts=>exact ⟨_,.of (.tup ok.1),fun k b h _=>by cases k <;> cases h <;> rfl⟩
 | lst a ts =>
  rcases ok.1 with e | ⟨o,e⟩
  ·exact ⟨_,.of (.lst e),fun k b h _=>by cases k <;> cases h <;> rfl⟩
  ·exact ⟨_,.of (.frz e),fun k b h _=>by cases k <;> cases h <;> rfl⟩
 | exn a n =>
  by_cases hn:n=999
  ·subst hn
   refine ⟨_,.dct (by rw [ok.1]; rfl),fun k b h _=>?_⟩
   cases k <;> cases h <;> rfl
  ·have hs:=ok.2.resolve_left hn
   have hn':(n==999)=false:=beq_eq_false_iff_ne.mpr hn
   refine ⟨_,.exc (by rw [ok.1]; unfold exO; rw [if_neg hn]) (C.K ▸ C.kx.x n hs),fun k b h hh=>?_⟩
   rw [C.K]
   have kb:=C.kx.kb n hs
   cases k with
   | verr =>
    have h:(if (n==999)=true then Res.bad else Res.ok true)=Res.ok b:=h
    rw [hn',if_neg (by decide)] at h
    cases h; exact C.kx.kv n hs
   | cls m =>
    have h:(if (n==999)=true then Res.bad else Res.ok (isa n m))=Res.ok b:=h
    rw [hn',if_neg (by decide)] at h
    cases h; exact C.kx.kc n m hs hh
   | dict =>
    have h:Res.ok (n==999)=Res.ok b:=h
    rw [hn'] at h
    cases h; exact kb _ (by decide)
   | _=>cases h; exact kb _ (by decide)
theorem Sl (C:Ct p c lv X EX) {l r:Expr} {x:E} {k:Kd} {v:V} {cv:Value} (hl:PE X l (lE p EX tn x)) (hr:PE X r (tC v)) (hst:Af l=true) (hst':Af r=true) (hgl:Gl X "isinstance") (hcv:clV v=some cv)
  (hk:∀ (H:Hp) (t:T) (b:Bool),t.Ok p H->De t.dat k=.ok b->∃ ty,TyX X.K H t.val ty/\kitOne X.K ty cv=some b):PE X (.Call (.Name "isinstance" np) [l,r] [] pos) (lE p EX tn (.isi x k)):=by
 refine PE.mono (DI Ps hgl (C.blt _ (by simp [Bg])) (by decide +kernel) (AC hl (AC hr By (Ag hst')) (Ag hst)) (by decide) (by decide) (Ag hst) (AS (by simp [hst']))) fun σ H Q h=>?_
 obtain ⟨τ,rfl,hF,j,k',hj,h⟩:=h
 simp only [jk] at hj
 obtain ⟨⟨j1,k1⟩,h1,hj⟩:=bS hj
 simp only [ev] at h
 refine l1 hF h1 h fun d t H1 ht R h=>?_
 subst ht
 cases q:De t.dat k with
 | ok b =>
  rw [q] at h
  obtain ⟨ty,h2,h3⟩:=hk H1 t b R.ok q
  exact ⟨t.val,v,cv,ty,b,rfl,hcv,h2,h3,h (.bl b) H1 rfl (Rs.scal R.same rfl)⟩
 | exc n =>
  rw [q] at h
  cases t with
  | exn a c =>
   have hx:∀ f,dX (T.exn a c).dat f ≠ .exc n:=fun f e=>by
    unfold T.dat dX at e
    split at e <;> simp_all
    split at e <;> cases e
   cases k with
   | verr=>exact absurd (show dX (T.exn a c).dat (fun _=>true)=.exc n from q) (hx _)
   | cls m=>exact absurd (show dX (T.exn a c).dat (fun c=>isa c m)=.exc n from q) (hx _)
   | _=>cases q
  | _=>cases k <;> cases q
 | bad=>rw [q] at h; exact nE h
theorem UN (C:Ct p c lv X EX) {k:Kd} {r:Expr} (h:Qb c k r=true) (hn:∀ n,k=.cls n->NeedOk p lv X (.cl n)):∃ v cv,PE X r (tC v)/\clV v=some cv/\Af r=true/\∀ (H:Hp) (t:T) (b:Bool),t.Ok p H->De t.dat k=.ok b->∃ ty,TyX X.K H t.val ty/\kitOne X.K ty cv=some b:=by
 cases r with
 | Name x q =>
  have h:((x==Fv k) && glB c.sc x)=true:=h
  rw [aaf,beq_iff_eq] at h
  obtain ⟨rfl,h⟩:=h
  have fin:M6 p k->∀ (H:Hp) (t:T) (b:Bool),t.Ok p H->De t.dat k=.ok b->∃ ty,TyX X.K H t.val ty/\kitOne X.K ty (kdV p k)=some b:=fun hk H t b ok e=>let ⟨ty,a,f⟩:=UM C ok; ⟨ty,a,f _ _ e hk⟩
  have key:(∃ n,k=.cls n)\/(M6 p k/\kdV p k=.type (IM k)/\X.mg (Fv k)=none/\bootBuiltins (Fv k)=some (.type (IM k))/\Fv k ≠ "__name__" /\ (Fv k==("__debug__" : Str))=false):=by
   cases k with
   | cls n=>exact .inl ⟨n,rfl⟩
   | bool=>exact .inr ⟨trivial,rfl,C.bt _ (by decide),by decide +kernel,by decide,by decide⟩
   | dict=>exact .inr ⟨trivial,rfl,C.bt _ (by decide),by decide +kernel,by decide,by decide⟩
   | verr=>exact .inr ⟨trivial,rfl,C.bt _ (by decide),by decide +kernel,by decide,by decide⟩
   | _=>exact .inr ⟨trivial,rfl,C.blt _ (by decide),by decide +kernel,by decide,by decide⟩
  rcases key with ⟨n,rfl⟩ | ⟨k1,k2,k3,k4,k5,k6⟩
  ·obtain ⟨h1,h2⟩:=hn n rfl
   exact ⟨.ref (p.cl n),.ref (p.cl n),LB (C.gl h) h2 rfl (M4 n),rfl,rfl,fin h1⟩
  ·exact ⟨.ty (IM k),.type (IM k),Ra (C.gl h) k3 k4 rfl k5 k6,rfl,rfl,k2 ▸ fin k1⟩
 | _=>exact nF h
theorem Kw:∀ {ts:List T} {bs:List Bool},DK (T.dats ts)=some bs->ts.map T.val=bs.map V.bl
 | [],bs,h=>by cases h; rfl
 | t :: r,bs,h=>by
  cases t with
  | bl b =>
   have h:(DK (T.dats r)).map (b :: ·)=some bs:=h
   obtain ⟨cs,h1,rfl⟩:=aau.mp h
   rw [aay,aay,Kw h1]; rfl
  | _=>cases h
theorem Js {e o:Expr} {x y:E} {ap cp:Pos} (hl:PE X o (lE p EX tn x)) (hb:attributeBase o "count" X.env (eval o X.env)=eval o X.env) (he:PE X e (lE p EX tn y)) (hst:Af e=true) (h3:(ap.endLine==cp.line)=true):PE X (.Call (.Attribute o "count" ap) [e] [] cp) (lE p EX tn (.mt .count x (.cons y .nil))):=by
 refine PE.mono (HQ PySem.F.plainAttrs_list PySem.F.slot_list_count PySem.F.type_list_count Pt hl (AC he By (Ag hst)) hb (by rw [Ag hst]; rfl) h3 (Ag hst) rfl) fun σ H Q h=>?_
 obtain ⟨τ,rfl,hF,j,k',hj,h⟩:=h
 simp only [jk,jks] at hj
 obtain ⟨⟨j1,k1⟩,h1,hj⟩:=bS hj
 obtain ⟨⟨j2,k2⟩,h2,hj⟩:=bS hj
 obtain ⟨⟨j3,k3⟩,h3',_⟩:=bS h2
 simp only [ev,evs] at h
 refine l1 hF h1 h fun d t H1 ht R h=>?_
 subst ht
 cases t with
 | lst a ts =>
  refine ⟨.inl ⟨rfl,_,.inl R.ok.1⟩,?_⟩
  rw [show dL (T.lst a ts).dat=true from rfl,if_pos rfl] at h
  rw [show (((ev y (dτ τ)).bind fun x=>(Res.ok []).bind fun xs=>Res.ok (x :: xs)).bind fun ds=>mtD .count (T.lst a ts).dat ds)=(ev y (dτ τ)).bind fun d2=>mtD .count (T.lst a ts).dat [d2] from by cases ev y (dτ τ) <;> rfl] at h
  refine l2 hF R.same h3' h fun d2 t2 H2 ht2 R2 h=>?_
  subst ht2
  cases t2 with
  | bl k =>
   have h:Lg p EX (vτ τ) ((Bu (DK (T.dats ts))).bind fun bs=>Res.ok (D.int ((bs.filter (·==k)).length:Int))) H (KE p (Sh tn τ) H j k' Q):=h
   cases q:DK (T.dats ts) with
   | none=>rw [q] at h; exact nE h
   | some bs =>
    rw [q] at h
    have okl:=(R.ok.same R2.same).1
    rw [Kw q] at okl
    exact ⟨a,bs,k,rfl,rfl,okl,h (.int _) H2 rfl (Rs.scal (R.same.trans R2.same) rfl)⟩
  | _=>exact nE h
 | _=>exact nE h
theorem Ky:∀ {ts:List T} {ns:List Int},Bf (T.dats ts)=some ns->ts.map T.val=ns.map V.int
 | [],ns,h=>by cases h; rfl
 | t :: r,ns,h=>by
  cases t with
  | int b =>
   have h:(Bf (T.dats r)).map (b :: ·)=some ns:=h
   obtain ⟨cs,h1,rfl⟩:=aau.mp h
   rw [aay,aay,Ky h1]; rfl
  | _=>cases h
theorem L6 {v:Int}:∀ {ns:List Int} {j:Nat},Cj v ns=some j->ns[j]?=some v/\∀ m,m < j->ns[m]? ≠ some v
 | [],j,h=>nomatch h
 | x :: r,j,h=>by
  rw [Cj] at h
  split at h
  ·rename_i c
   cases h
   exact ⟨by rw [c]; rfl,fun m hm=>absurd hm (by omega)⟩
  ·rename_i c
   obtain ⟨i,h1,rfl⟩:=aau.mp h
   obtain ⟨h2,h3⟩:=L6 h1
   refine ⟨by simpa using h2,fun m hm=>?_⟩
   cases m with
   | zero=>intro z; cases z; exact c rfl
   | succ m =>
    have:=h3 m (by omega)
    simpa using this
theorem Ot {e:Expr} {x y:E} {ap cp pz:Pos} {z:Str} (hl:PE X (.Name z pz) (lE p EX tn x)) (he:PE X e (lE p EX tn y)) (hst:Af e=true) (h3:(ap.endLine==cp.line)=true):PE X (.Call (.Attribute (.Name z pz) "index" ap) [e] [] cp) (lE p EX tn (.mt .index x (.cons y .nil))):=by
 refine PE.mono (HQ PySem.F.plainAttrs_list PySem.F.slot_list_index PySem.F.type_list_index PB hl (AC he By (Ag hst)) rfl (by rw [Ag hst]; rfl) h3 (Ag hst) rfl) fun σ H Q h=>?_
 obtain ⟨τ,rfl,hF,j,k',hj,h⟩:=h
 simp only [jk,jks] at hj
 obtain ⟨⟨j1,k1⟩,h1,hj⟩:=bS hj
 obtain ⟨⟨j2,k2⟩,h2,hj⟩:=bS hj
 obtain ⟨⟨j3,k3⟩,h3',_⟩:=bS h2
 simp only [ev,evs] at h
 refine l1 hF h1 h fun d t H1 ht R h=>?_
 subst ht
 cases t with
 | lst a ts =>
  refine ⟨.inl ⟨rfl,_,.inl R.ok.1⟩,?_⟩
  rw [show dL (T.lst a ts).dat=true from rfl,if_pos rfl] at h
  rw [show (((ev y (dτ τ)).bind fun x=>(Res.ok []).bind fun xs=>Res.ok (x :: xs)).bind fun ds=>mtD .index (T.lst a ts).dat ds)=(ev y (dτ τ)).bind fun d2=>mtD .index (T.lst a ts).dat [d2] from by cases ev y (dτ τ) <;> rfl] at h
  refine l2 hF R.same h3' h fun d2 t2 H2 ht2 R2 h=>?_
  subst ht2
  cases t2 with
  | int v =>
   have h:Lg p EX (vτ τ) ((Bu (Bf (T.dats ts))).bind fun ns=>(Bu (Cj v ns)).bind fun j=>Res.ok (D.int (j:Nat))) H (KE p (Sh tn τ) H j k' Q):=h
   cases q:Bf (T.dats ts) with
   | none=>rw [q] at h; exact nE h
   | some ns =>
    rw [q] at h
    have h:Lg p EX (vτ τ) ((Bu (Cj v ns)).bind fun j=>Res.ok (D.int (j:Nat))) H (KE p (Sh tn τ) H j k' Q):=h
    cases q2:Cj v ns with
    | none=>rw [q2] at h; exact nE h
    | some i =>
     rw [q2] at h
     have okl:=(R.ok.same R2.same).1
     rw [Ky q] at okl
     exact ⟨a,ns,v,i,rfl,rfl,okl,L6 q2,h (.int _) H2 rfl (Rs.scal (R.same.trans R2.same) rfl)⟩
  | _=>exact nE h
 | _=>exact nE h
end
end Pu
end
section
set_option maxHeartbeats 1000000
namespace Pu
open PySem PySem.Spec PyProof.Rows PySem.W L2
theorem Aa {a b:Bool} (h:(a && b)=true):a=true/\b=true:=aaf _ _ |>.mp h
theorem Ax {p:Px} {lv:Nat} {X:Cx} {a b:List Nd1} (h:∀ n ∈ a ++ b,NeedOk p lv X n):(∀ n ∈ a,NeedOk p lv X n)/\∀ n ∈ b,NeedOk p lv X n:=⟨fun n m=>h n (aaw _ m),fun n m=>h n (aak _ m)⟩
theorem CI {c:CkC}:∀ {es:Es} {xs:List Expr},ckEs c es xs=true->xs.all Af=true/\xs.length=es.len
 | .nil,[],_=>⟨rfl,rfl⟩
 | .nil,x :: xs,h=>nF h
 | .cons e r,[],h=>nF h
 | .cons e r,x :: xs,h=>by
  have h:(ckE c e x && Af x && ckEs c r xs)=true:=h
  obtain ⟨h,h3⟩:=Aa h
  obtain ⟨h1,h2⟩:=Aa h
  obtain ⟨a,b⟩:=CI h3
  exact ⟨by rw [aaO,h2,a]; rfl,by rw [aaP,b,Es.len]⟩
mutual
theorem snd {p:Px} {lv:Nat}:∀ (x:E) {c:CkC} {X:Cx} {EX:EXT} {tn:List Nat} (C:Ct p c lv X EX) (e:Expr),(∀ n ∈ x.need,NeedOk p lv X n)->ckE c x e=true->PE X e (lE p EX tn x)/\(x.tst=true->PT X e (lT p EX tn x))
 | .nm i,c,X,EX,tn,C,e,hn,h=>by
  cases e with
  | Name y q =>
   have h:((c.N[i]?==some y) && BT c.sc y && AO y)=true:=h
   obtain ⟨h,h3⟩:=Aa h
   obtain ⟨h1,h2⟩:=Aa h
   obtain ⟨d1,d2⟩:=Bl h3
   exact AJ C (Uq (by rw [C.N]; exact beq_iff_eq.mp h1) (C.vis h2) d1 d2) rfl
  | _=>exact nF h
 | .cN,c,X,EX,tn,C,e,hn,h=>by
  cases e with
  | Constant k j q =>
   cases k with
   | none=>exact AJ C (HX (t:=.non) Tq rfl (fun _=>rfl)) rfl
   | _=>exact nF h
  | _=>exact nF h
 | .cB b,c,X,EX,tn,C,e,hn,h=>by
  cases e with
  | Constant k j q =>
   cases k with
   | bool b' =>
    cases beq_iff_eq.mp (show (b==b')=true from h)
    exact AJ C (HX (t:=.bl b) Vk rfl (fun _=>rfl)) rfl
   | _=>exact nF h
  | _=>exact nF h
 | .cI b,c,X,EX,tn,C,e,hn,h=>by
  cases e with
  | Constant k j q =>
   cases k with
   | int b' =>
    cases beq_iff_eq.mp (show (b==b')=true from h)
    exact AJ C (HX (t:=.int b) Tp rfl (fun _=>rfl)) rfl
   | _=>exact nF h
  | _=>exact nF h
 | .cS b,c,X,EX,tn,C,e,hn,h=>by
  cases e with
  | Constant k j q =>
   cases k with
   | str b' =>
    cases beq_iff_eq.mp (show (b==b')=true from h)
    exact AJ C (HX (t:=.str b) Tr rfl (fun _=>rfl)) rfl
   | _=>exact nF h
  | _=>exact nF h
 | .gl y d,c,X,EX,tn,C,e,hn,h=>by
  cases e with
  | Name y' q =>
   have h:((y==y') && glB c.sc y' && AO y' && D.scal d)=true:=h
   obtain ⟨h,h4⟩:=Aa h
   obtain ⟨h,h3⟩:=Aa h
   obtain ⟨h1,h2⟩:=Aa h
   cases beq_iff_eq.mp h1
   obtain ⟨u,m,r⟩:=hn (.gl y d) (aaN.mpr rfl)
   obtain ⟨e1,e2⟩:=UL h4
   exact AJ C (HX (t:=dT d) (LB (C.gl h2) m r (Bl h3).1) e2 (fun _=>by rw [e1]; rfl)) rfl
  | _=>exact nF h
 | .tup es,c,X,EX,tn,C,e,hn,h=>by
  cases e with
  | Tuple xs k q =>
   obtain ⟨h1,h2⟩:=Aa (show (ckEs c es xs && decide (es.len<=1000))=true from h)
   exact AJ C (RA (sndA es C xs hn h1).1 (of_decide_eq_true h2)) rfl
  | _=>exact nF h
 | .lst es,c,X,EX,tn,C,e,hn,h=>by
  cases e with
  | List xs q =>
   obtain ⟨h1,h2⟩:=Aa (show (ckEs c es xs && decide (es.len<=1000))=true from h)
   exact AJ C (RB (sndA es C xs hn h1).1 (of_decide_eq_true h2)) rfl
  | _=>exact nF h
 | .bin o a b,c,X,EX,tn,C,e,hn,h=>by
  cases e with
  | BinOp l op r q =>
   obtain ⟨h,h3⟩:=Aa (show ((op==MR o) && ckE c a l && ckE c b r)=true from h)
   obtain ⟨h1,h2⟩:=Aa h
   cases beq_iff_eq.mp h1
   obtain ⟨n1,n2⟩:=Ax hn
   exact AJ C (RJ (snd a C l n1 h2).1 (snd b C r n2 h3).1) rfl
  | _=>exact nF h
 | .neg a,c,X,EX,tn,C,e,hn,h=>by
  cases e with
  | UnaryOp o l q =>
   cases o with
   | USub=>exact AJ C (RN (snd a C l hn h).1) rfl
   | _=>exact nF h
  | _=>exact nF h
 | .not a,c,X,EX,tn,C,e,hn,h=>by
  cases e with
  | UnaryOp o l q =>
   cases o with
   | Not =>
    obtain ⟨h1,h2⟩:=snd a C (tn:=tn) l hn h
    exact ⟨RO h1,fun ht=>PV (h2 ht)⟩
   | _=>exact nF h
  | _=>exact nF h
 | .cmp o a b,c,X,EX,tn,C,e,hn,h=>by
  cases e with
  | Compare l ops rs q =>
   match ops,rs,h with
   | [op],[r],h =>
    obtain ⟨h,h4⟩:=Aa (show ((op==Bv o) && ckE c a l && ckE c b r && D0 r)=true from h)
    obtain ⟨h,h3⟩:=Aa h
    obtain ⟨h1,h2⟩:=Aa h
    cases beq_iff_eq.mp h1
    obtain ⟨n1,n2⟩:=Ax hn
    have A:=(snd a C (tn:=tn) l n1 h2).1
    have B:=(snd b C (tn:=tn) r n2 h3).1
    exact ⟨RK C.K C.hu A B (Ee h4),fun _=>PQ C.K C.hu A B (Ee h4)⟩
   | [],_,h=>exact nF h
   | [_],[],h=>exact nF h
   | [_],_ :: _ :: _,h=>exact nF h
   | _ :: _ :: _,_,h=>exact nF h
  | _=>exact nF h
 | .chain o o' a b d,c,X,EX,tn,C,e,hn,h=>by
  cases e with
  | Compare l ops rs q =>
   match ops,rs,h with
   | [op,op'],[r,r'],h =>
    obtain ⟨h,h6⟩:=Aa (show ((op==Bv o) && (op'==Bv o') && ckE c a l && ckE c b r && ckE c d r' && D0 r')=true from h)
    obtain ⟨h,h5⟩:=Aa h
    obtain ⟨h,h4⟩:=Aa h
    obtain ⟨h,h3⟩:=Aa h
    obtain ⟨h1,h2⟩:=Aa h
    cases beq_iff_eq.mp h1
    cases beq_iff_eq.mp h2
    obtain ⟨n1,n2⟩:=Ax hn
    obtain ⟨n2,n3⟩:=Ax n2
    have A:=(snd a C (tn:=tn) l n1 h3).1
    have B:=(snd b C (tn:=tn) r n2 h4).1
    have D:=(snd d C (tn:=tn) r' n3 h5).1
    exact ⟨Od C.K C.hu A B D (Ee h6),fun _=>MU C.K C.hu A B D (Ee h6)⟩
   | [],_,h=>exact nF h
   | [_],_,h=>exact nF h
   | [_,_],[],h=>exact nF h
   | [_,_],[_],h=>exact nF h
   | [_,_],_ :: _ :: _ :: _,h=>exact nF h
   | _ :: _ :: _ :: _,_,h=>exact nF h
  | _=>exact nF h
 | .isN n a,c,X,EX,tn,C,e,hn,h=>by
  cases e with
  | Compare l ops rs q =>
   match ops,rs,h with
   | [op],[r],h =>
    obtain ⟨h,h3⟩:=Aa (show ((op==if n then .IsNot else .Is) && isNone r && ckE c a l)=true from h)
    obtain ⟨h1,h2⟩:=Aa h
    cases beq_iff_eq.mp h1
    have A:=(snd a C (tn:=tn) l hn h3).1
    cases r with
    | Constant k j q' =>
     cases k with
     | none=>exact ⟨RM A,fun _=>PR A⟩
     | _=>cases h2
    | _=>cases h2
   | [],_,h=>exact nF h
   | [_],[],h=>exact nF h
   | [_],_ :: _ :: _,h=>exact nF h
   | _ :: _ :: _,_,h=>exact nF h
  | _=>exact nF h
 | .bo k es,c,X,EX,tn,C,e,hn,h=>by
  cases e with
  | BoolOp op xs q =>
   obtain ⟨h1,h2⟩:=Aa (show ((op==if k then .And else .Or) && ckEs c es xs)=true from h)
   cases beq_iff_eq.mp h1
   obtain ⟨a1,a2⟩:=(sndA es C (tn:=tn) xs hn h2).2 k q
   exact ⟨a1,fun ht=>(a2 ht).pt⟩
  | _=>exact nF h
 | .ifx t a b,c,X,EX,tn,C,e,hn,h=>by
  cases e with
  | IfExp t' a' b' q =>
   obtain ⟨h,h4⟩:=Aa (show (ckE c t t' && t.tst && ckE c a a' && ckE c b b')=true from h)
   obtain ⟨h,h3⟩:=Aa h
   obtain ⟨h1,h2⟩:=Aa h
   obtain ⟨n1,n2⟩:=Ax hn
   obtain ⟨n2,n3⟩:=Ax n2
   exact ⟨RR ((snd t C t' n1 h1).2 h2) (snd a C a' n2 h3).1 (snd b C b' n3 h4).1,fun z=>nomatch z⟩
  | _=>exact nF h
 | .ix a i,c,X,EX,tn,C,e,hn,h=>by
  cases e with
  | Subscript l r q =>
   obtain ⟨h,h3⟩:=Aa (show (ckE c a l && ckE c i r && B4 r)=true from h)
   obtain ⟨h1,h2⟩:=Aa h
   obtain ⟨n1,n2⟩:=Ax hn
   exact AJ C (Uz C.K (snd a C l n1 h1).1 (snd i C r n2 h2).1 h3) rfl
  | _=>exact nF h
 | .ixL a i,c,X,EX,tn,C,e,hn,h=>by
  cases e with
  | Subscript l r q =>
   obtain ⟨h,h3⟩:=Aa (show (ckE c a l && ckE c i r && B4 r)=true from h)
   obtain ⟨h1,h2⟩:=Aa h
   obtain ⟨n1,n2⟩:=Ax hn
   exact AJ C (RS (snd a C l n1 h1).1 (snd i C r n2 h2).1 h3) rfl
  | _=>exact nF h
 | .slc a lo hi,c,X,EX,tn,C,e,hn,h=>by
  cases e with
  | Subscript l r q =>
   cases r with
   | Slice lo' hi' st q2 =>
    cases st with
    | none =>
     obtain ⟨h,h3⟩:=Aa (show (ckE c a l && Ie lo.isCN (ckE c lo) lo' && Ie hi.isCN (ckE c hi) hi')=true from h)
     obtain ⟨h1,h2⟩:=Aa h
     obtain ⟨n1,n2⟩:=Ax hn
     obtain ⟨n2,n3⟩:=Ax n2
     have cn:∀ {y:E},y.isCN=true->y=.cN:=fun {y} z=>by cases y <;> first | rfl | cases z
     have P1:PO X lo' (lO p EX tn lo):=by
      cases lo' with
      | none=>cases cn h2; exact Jq
      | some l' =>
       obtain ⟨g1,g2⟩:=Aa h2
       exact Jr (snd lo C l' n2 g2).1 (by simpa using g1)
     have P2:PO X hi' (lO p EX tn hi):=by
      cases hi' with
      | none=>cases cn h3; exact Jq
      | some l' =>
       obtain ⟨g1,g2⟩:=Aa h3
       exact Jr (snd hi C l' n3 g2).1 (by simpa using g1)
     exact AJ C (RU (snd a C l n1 h1).1 P1 P2) rfl
    | some _=>exact nF h
   | _=>exact nF h
  | _=>exact nF h
 | .call f es,c,X,EX,tn,C,e,hn,h=>by
  cases e with
  | Call fn xs ks q =>
   cases fn with
   | Name y q' =>
    cases ks with
    | nil =>
     obtain ⟨h,h7⟩:=Aa (show ((y==f.name) && glB c.sc y && AO y && ckEs c es xs && decide (es.len=f.ar) && decide (0 < es.len) && c.cm)=true from h)
     obtain ⟨h,h6⟩:=Aa h
     obtain ⟨h,h5⟩:=Aa h
     obtain ⟨h,h4⟩:=Aa h
     obtain ⟨h,h3⟩:=Aa h
     obtain ⟨h1,h2⟩:=Aa h
     cases beq_iff_eq.mp h1
     obtain ⟨s1,s2⟩:=CI h4
     obtain ⟨f1,f2⟩:=hn (.fn f) (aac ..)
     have A:=(sndA es C (tn:=tn) xs (fun n m=>hn n (aaa _ m)) h4).1
     cases es with
     | nil=>cases of_decide_eq_true h6
     | cons e1 r1 =>
      cases xs with
      | nil=>cases s2
      | cons x1 xr=>exact AJ C (PZ C.pass f2 ((C.room h7).mono f1) (C.gl h2) (Bl h3).1 A s1 (of_decide_eq_true h5)) rfl
    | cons _ _=>exact nF h
   | _=>exact nF h
  | _=>exact nF h
 | .callB f es,c,X,EX,tn,C,e,hn,h=>by
  cases e with
  | Call fn xs ks q =>
   cases fn with
   | Name y q' =>
    cases ks with
    | nil =>
     obtain ⟨h,h7⟩:=Aa (show ((y==f.name) && glB c.sc y && AO y && ckEs c es xs && decide (es.len=f.ar) && decide (0 < es.len) && c.cm)=true from h)
     obtain ⟨h,h6⟩:=Aa h
     obtain ⟨h,h5⟩:=Aa h
     obtain ⟨h,h4⟩:=Aa h
     obtain ⟨h,h3⟩:=Aa h
     obtain ⟨h1,h2⟩:=Aa h
     cases beq_iff_eq.mp h1
     obtain ⟨s1,s2⟩:=CI h4
     obtain ⟨f1,f2⟩:=hn (.fn f) (aac ..)
     have A:=(sndA es C (tn:=tn) xs (fun n m=>hn n (aaa _ m)) h4).1
     cases es with
     | nil=>cases of_decide_eq_true h6
     | cons e1 r1 =>
      cases xs with
      | nil=>cases s2
      | cons x1 xr=>exact AJ C (Of C.pass f2 ((C.room h7).mono f1) (C.gl h2) (Bl h3).1 A s1 (of_decide_eq_true h5)) rfl
    | cons _ _=>exact nF h
   | _=>exact nF h
  | _=>exact nF h
 | .bi b es,c,X,EX,tn,C,e,hn,h=>by
  cases e with
  | Call fn xs ks q =>
   cases fn with
   | Name y q' =>
    cases ks with
    | nil =>
     obtain ⟨h,h6⟩:=Aa (show ((y==Os b) && glB c.sc y && UK b && ckEs c es xs && decide (0 < es.len) && (c.cm || Fw b))=true from h)
     obtain ⟨h,h5⟩:=Aa h
     obtain ⟨h,h4⟩:=Aa h
     obtain ⟨h,h3⟩:=Aa h
     obtain ⟨h1,h2⟩:=Aa h
     cases beq_iff_eq.mp h1
     obtain ⟨s1,s2⟩:=CI h4
     have A:=(sndA es C (tn:=tn) xs hn h4).1
     cases es with
     | nil=>cases of_decide_eq_true h5
     | cons e1 r1 =>
      cases xs with
      | nil=>cases s2
      | cons x1 xr =>
       refine AJ C ?_ rfl
       cases b with
       | len=>exact RV C.blt A s1 (C.gl h2)
       | min=>exact RY C.blt A s1 (C.calm (by rw [show Fw .min=false from rfl,acs] at h6; exact h6)) (C.gl h2)
       | max=>exact RX C.blt A s1 (C.calm (by rw [show Fw .max=false from rfl,acs] at h6; exact h6)) (C.gl h2)
       | maxL=>exact P5 C.blt A s1 (C.calm (by rw [show Fw .maxL=false from rfl,acs] at h6; exact h6)) (C.gl h2)
       | minL=>exact P6 C.blt A s1 (C.calm (by rw [show Fw .minL=false from rfl,acs] at h6; exact h6)) (C.gl h2)
       | int=>exact RW C.blt A s1 (C.gl h2)
       | list=>exact P0 C.blt A s1 (C.gl h2)
       | listL=>exact Og C.blt A s1 (C.gl h2)
    | cons _ _=>exact nF h
   | _=>exact nF h
  | _=>exact nF h
 | .listI it,c,X,EX,tn,C,e,hn,h=>by
  cases it with
  | r2 a b =>
   cases q:IL e with
   | none =>
    have h:(match IL e with | some (x,y,l,r)=>(x==("list" : Str)) && glB c.sc x && (y==("range" : Str)) && glB c.sc y && ckE c a l && Af l && ckE c b r && Af r && c.cm | none=>false)=true:=h
    rw [q] at h; cases h
   | some w =>
    obtain ⟨x,y,l,r⟩:=w
    have h:(match IL e with | some (x,y,l,r)=>(x==("list" : Str)) && glB c.sc x && (y==("range" : Str)) && glB c.sc y && ckE c a l && Af l && ckE c b r && Af r && c.cm | none=>false)=true:=h
    rw [q] at h
    obtain ⟨p1,p2,p3,p4,rfl⟩:=Sj q
    obtain ⟨h,h9⟩:=Aa (show ((x==("list" : Str)) && glB c.sc x && (y==("range" : Str)) && glB c.sc y && ckE c a l && Af l && ckE c b r && Af r && c.cm)=true from h)
    obtain ⟨h,h8⟩:=Aa h
    obtain ⟨h,h7⟩:=Aa h
    obtain ⟨h,h6⟩:=Aa h
    obtain ⟨h,h5⟩:=Aa h
    obtain ⟨h,h4⟩:=Aa h
    obtain ⟨h,h3⟩:=Aa h
    obtain ⟨h1,h2⟩:=Aa h
    cases beq_iff_eq.mp h1
    cases beq_iff_eq.mp h3
    obtain ⟨n1,n2⟩:=Ax hn
    exact AJ C (Om (C.calm h9) (snd a C l n1 h5).1 (snd b C r n2 h7).1 h6 h8 (C.gl h2) (C.blt _ (by simp [Bg])) (C.gl h4) (C.blt _ (by simp [Bg]))) rfl
  | r1 b =>
   cases q:DZ e with
   | none =>
    have h:(match DZ e with | some (x,y,r)=>(x==("list" : Str)) && glB c.sc x && (y==("range" : Str)) && glB c.sc y && ckE c b r && Af r && c.cm | none=>false)=true:=h
    rw [q] at h; cases h
   | some w =>
    obtain ⟨x,y,r⟩:=w
    have h:(match DZ e with | some (x,y,r)=>(x==("list" : Str)) && glB c.sc x && (y==("range" : Str)) && glB c.sc y && ckE c b r && Af r && c.cm | none=>false)=true:=h
    rw [q] at h
    obtain ⟨p1,p2,p3,p4,rfl⟩:=Ku q
    obtain ⟨h,h9⟩:=Aa (show ((x==("list" : Str)) && glB c.sc x && (y==("range" : Str)) && glB c.sc y && ckE c b r && Af r && c.cm)=true from h)
    obtain ⟨h,h8⟩:=Aa h
    obtain ⟨h,h7⟩:=Aa h
    obtain ⟨h,h4⟩:=Aa h
    obtain ⟨h,h3⟩:=Aa h
    obtain ⟨h1,h2⟩:=Aa h
    cases beq_iff_eq.mp h1
    cases beq_iff_eq.mp h3
    exact AJ C (MY (C.calm h9) (snd b C r hn h7).1 h8 (C.gl h2) (C.blt _ (by simp [Bg])) (C.gl h4) (C.blt _ (by simp [Bg]))) rfl
  | rv b =>
   cases q:DZ e with
   | none =>
    have h:(match DZ e with | some (x,y,r)=>(x==("list" : Str)) && glB c.sc x && (y==("reversed" : Str)) && glB c.sc y && ckE c b r && Af r && c.cm | none=>false)=true:=h
    rw [q] at h; cases h
   | some w =>
    obtain ⟨x,y,r⟩:=w
    have h:(match DZ e with | some (x,y,r)=>(x==("list" : Str)) && glB c.sc x && (y==("reversed" : Str)) && glB c.sc y && ckE c b r && Af r && c.cm | none=>false)=true:=h
    rw [q] at h
    obtain ⟨p1,p2,p3,p4,rfl⟩:=Ku q
    obtain ⟨h,h9⟩:=Aa (show ((x==("list" : Str)) && glB c.sc x && (y==("reversed" : Str)) && glB c.sc y && ckE c b r && Af r && c.cm)=true from h)
    obtain ⟨h,h8⟩:=Aa h
    obtain ⟨h,h7⟩:=Aa h
    obtain ⟨h,h4⟩:=Aa h
    obtain ⟨h,h3⟩:=Aa h
    obtain ⟨h1,h2⟩:=Aa h
    cases beq_iff_eq.mp h1
    cases beq_iff_eq.mp h3
    exact AJ C (M0 (C.calm h9) C.K (snd b C r hn h7).1 h8 (C.gl h2) (C.blt _ (by simp [Bg])) (C.gl h4) (C.blt _ (by simp [Bg]))) rfl
  | r3 a b d =>
   cases q:GW e with
   | none =>
    have h:(match GW e with | some (x,y,l,r,s)=>(x==("list" : Str)) && glB c.sc x && (y==("range" : Str)) && glB c.sc y && ckE c a l && Af l && ckE c b r && Af r && ckE c d s && Af s && c.cm | none=>false)=true:=h
    rw [q] at h; cases h
   | some w =>
    obtain ⟨x,y,l,r,s⟩:=w
    have h:(match GW e with | some (x,y,l,r,s)=>(x==("list" : Str)) && glB c.sc x && (y==("range" : Str)) && glB c.sc y && ckE c a l && Af l && ckE c b r && Af r && ckE c d s && Af s && c.cm | none=>false)=true:=h
    rw [q] at h
    obtain ⟨p1,p2,p3,p4,rfl⟩:=Qa q
    obtain ⟨h,h11⟩:=Aa (show ((x==("list" : Str)) && glB c.sc x && (y==("range" : Str)) && glB c.sc y && ckE c a l && Af l && ckE c b r && Af r && ckE c d s && Af s && c.cm)=true from h)
    obtain ⟨h,h10⟩:=Aa h
    obtain ⟨h,h9⟩:=Aa h
    obtain ⟨h,h8⟩:=Aa h
    obtain ⟨h,h7⟩:=Aa h
    obtain ⟨h,h6⟩:=Aa h
    obtain ⟨h,h5⟩:=Aa h
    obtain ⟨h,h4⟩:=Aa h
    obtain ⟨h,h3⟩:=Aa h
    obtain ⟨h1,h2⟩:=Aa h
    cases beq_iff_eq.mp h1
    cases beq_iff_eq.mp h3
    obtain ⟨n1,n23⟩:=Ax hn
    obtain ⟨n2,n3⟩:=Ax n23
    exact AJ C (MZ (C.calm h11) (snd a C l n1 h5).1 (snd b C r n2 h7).1 (snd d C s n3 h9).1 h6 h8 h10 (C.gl h2) (C.blt _ (by simp [Bg])) (C.gl h4) (C.blt _ (by simp [Bg]))) rfl
  | _=>cases e <;> exact nF h
 | .isi a k,c,X,EX,tn,C,e,hn,h=>by
  cases e with
  | Call fn xs ks q =>
   cases fn with
   | Name y q' =>
    match xs,ks,h with
    | [l,r],[],h =>
     obtain ⟨h,h5⟩:=Aa (show ((y==("isinstance" : Str)) && glB c.sc y && ckE c a l && Qb c k r && Af l)=true from h)
     obtain ⟨h,h4⟩:=Aa h
     obtain ⟨h,h3⟩:=Aa h
     obtain ⟨h1,h2⟩:=Aa h
     cases beq_iff_eq.mp h1
     obtain ⟨n1,n2⟩:=Ax hn
     obtain ⟨v,cv,e1,e2,e3,e4⟩:=UN C h4 (fun n e=>n1 _ (by subst e; exact aaN.mpr rfl))
     exact AJ C (Sl C (snd a C l n2 h3).1 e1 h5 e3 (C.gl h2) e2 e4) rfl
    | [],_,h=>exact nF h
    | [_],_,h=>exact nF h
    | _ :: _ :: _ :: _,_,h=>exact nF h
    | [_,_],_ :: _,h=>exact nF h
   | _=>exact nF h
  | _=>exact nF h
 | .mt m a es,c,X,EX,tn,C,e,hn,h=>by
  cases m with
  | index =>
   cases e with
   | Call f xs ks cp =>
    cases f with
    | Attribute o name ap =>
     cases ks with
     | nil =>
      obtain ⟨h,h6⟩:=Aa (show ((name==("index" : Str)) && ckE c a o && nmB o && ckEs c es xs && decide (es.len=1) && (ap.endLine==cp.line))=true from h)
      obtain ⟨h,h5⟩:=Aa h
      obtain ⟨h,h4⟩:=Aa h
      obtain ⟨h,h3⟩:=Aa h
      obtain ⟨h1,h2⟩:=Aa h
      cases beq_iff_eq.mp h1
      obtain ⟨n1,n2⟩:=Ax hn
      have A:=(snd a C (tn:=tn) o n1 h2).1
      cases o with
      | Name z pz =>
       match es,xs,h4,h5,n2 with
       | .cons y .nil,[e],h4,_,n2 =>
        obtain ⟨g,_⟩:=Aa (show (ckE c y e && Af e && ckEs c .nil [])=true from h4)
        obtain ⟨g1,g2⟩:=Aa g
        exact AJ C (Ot A (snd y C (tn:=tn) e (fun n m=>n2 n (aaw _ m)) g1).1 g2 h6) rfl
       | .cons y .nil,[],h4,_,_=>exact nF h4
       | .cons y .nil,_ :: _ :: _,h4,_,_ =>
        obtain ⟨_,g⟩:=Aa h4
        exact nF g
       | .nil,_,_,h5,_=>cases of_decide_eq_true h5
       | .cons _ (.cons _ _),_,_,h5,_=>exact absurd (of_decide_eq_true h5) (by simp [Es.len])
      | _=>exact nF h3
     | cons _ _=>exact nF h
    | _=>exact nF h
   | _=>exact nF h
  | count =>
   cases e with
   | Call f xs ks cp =>
    cases f with
    | Attribute o name ap =>
     cases ks with
     | nil =>
      obtain ⟨h,h6⟩:=Aa (show ((name==("count" : Str)) && ckE c a o && UJ o && ckEs c es xs && decide (es.len=1) && (ap.endLine==cp.line))=true from h)
      obtain ⟨h,h5⟩:=Aa h
      obtain ⟨h,h4⟩:=Aa h
      obtain ⟨h,h3⟩:=Aa h
      obtain ⟨h1,h2⟩:=Aa h
      cases beq_iff_eq.mp h1
      obtain ⟨n1,n2⟩:=Ax hn
      have A:=(snd a C (tn:=tn) o n1 h2).1
      cases o with
      | Name z pz =>
       match es,xs,h4,h5,n2 with
       | .cons y .nil,[e],h4,_,n2 =>
        obtain ⟨g,_⟩:=Aa (show (ckE c y e && Af e && ckEs c .nil [])=true from h4)
        obtain ⟨g1,g2⟩:=Aa g
        exact AJ C (Js A rfl (snd y C (tn:=tn) e (fun n m=>n2 n (aaw _ m)) g1).1 g2 h6) rfl
       | .cons y .nil,[],h4,_,_=>exact nF h4
       | .cons y .nil,_ :: _ :: _,h4,_,_ =>
        obtain ⟨_,g⟩:=Aa h4
        exact nF g
       | .nil,_,_,h5,_=>cases of_decide_eq_true h5
       | .cons _ (.cons _ _),_,_,h5,_=>exact absurd (of_decide_eq_true h5) (by simp [Es.len])
      | Subscript z1 z2 z3 =>
       match es,xs,h4,h5,n2 with
       | .cons y .nil,[e],h4,_,n2 =>
        obtain ⟨g,_⟩:=Aa (show (ckE c y e && Af e && ckEs c .nil [])=true from h4)
        obtain ⟨g1,g2⟩:=Aa g
        exact AJ C (Js A rfl (snd y C (tn:=tn) e (fun n m=>n2 n (aaw _ m)) g1).1 g2 h6) rfl
       | .cons y .nil,[],h4,_,_=>exact nF h4
       | .cons y .nil,_ :: _ :: _,h4,_,_ =>
        obtain ⟨_,g⟩:=Aa h4
        exact nF g
       | .nil,_,_,h5,_=>cases of_decide_eq_true h5
       | .cons _ (.cons _ _),_,_,h5,_=>exact absurd (of_decide_eq_true h5) (by simp [Es.len])
      | _=>exact nF h3
     | cons _ _=>exact nF h
    | _=>exact nF h
   | _=>exact nF h
 | .comp0 nl fr g it elt,c,X,EX,tn,C,e,hn,h=>by
  cases e with
  | ListComp elt' gens scope q =>
   obtain ⟨tg,iter,ifs,rfl,h⟩:=Ed h
   obtain ⟨h,h7⟩:=Aa h
   obtain ⟨h,h6⟩:=Aa h
   obtain ⟨h,h5⟩:=Aa h
   obtain ⟨h,h4⟩:=Aa h
   obtain ⟨h,h3⟩:=Aa h
   obtain ⟨h,h2⟩:=Aa h
   obtain ⟨h,h1⟩:=Aa h
   obtain ⟨hcm,h0⟩:=Aa h
   cases ifs with
   | cons _ _=>cases h0
   | nil =>
   have h2:=of_decide_eq_true h2
   subst h2
   obtain ⟨S,nd⟩:=JS C h1
   obtain ⟨n1,n2⟩:=Ax hn
   refine AJ C (On (C.calm hcm) S (sndI it C iter n1 h4) (fun i hi=>of_decide_eq_true (aaA.mp h3 i hi)) (fun z=>⟨?_,?_⟩) (DM h5)) rfl
   ·exact Gp (C.blk nd z) h6
   ·exact (snd elt (C.blk nd z) elt' (fun n m=>(n2 n m).blk) h7).1
  | _=>exact nF h
 | .comp1 nl fr g it cond elt,c,X,EX,tn,C,e,hn,h=>by
  cases e with
  | ListComp elt' gens scope q =>
   obtain ⟨tg,iter,ifs,rfl,h⟩:=Ed h
   obtain ⟨cnd,rfl,h⟩:=Kv h
   obtain ⟨h,h9⟩:=Aa h
   obtain ⟨h,h8⟩:=Aa h
   obtain ⟨h,h7⟩:=Aa h
   obtain ⟨h,h6⟩:=Aa h
   obtain ⟨h,h5⟩:=Aa h
   obtain ⟨h,h4⟩:=Aa h
   obtain ⟨h,h3⟩:=Aa h
   obtain ⟨h,h2⟩:=Aa h
   obtain ⟨hcm,h1⟩:=Aa h
   have h2:=of_decide_eq_true h2
   subst h2
   obtain ⟨S,nd⟩:=JS C h1
   obtain ⟨n1,n2⟩:=Ax hn
   obtain ⟨n2,n3⟩:=Ax n2
   refine AJ C (Oo (C.calm hcm) S (sndI it C iter n1 h4) (fun i hi=>of_decide_eq_true (aaA.mp h3 i hi)) (fun z=>⟨?_,?_,?_⟩) (DM h5)) rfl
   ·exact Gp (C.blk nd z) h6
   ·exact (snd cond (C.blk nd z) cnd (fun n m=>(n2 n m).blk) h7).2 h8
   ·exact (snd elt (C.blk nd z) elt' (fun n m=>(n3 n m).blk) h9).1
  | _=>exact nF h
theorem sndA {p:Px} {lv:Nat}:∀ (es:Es) {c:CkC} {X:Cx} {EX:EXT} {tn:List Nat} (C:Ct p c lv X EX) (xs:List Expr),(∀ n ∈ es.need,NeedOk p lv X n)->ckEs c es xs=true ->
  PA X xs (lEs p EX tn es)/\∀ (k:Bool) (q:Pos),PE X (.BoolOp (if k then .And else .Or) xs q) (lE p EX tn (.bo k es))/\(es.tsts=true->PW X (.BoolOp (if k then .And else .Or) xs q) (lT p EX tn (.bo k es)))
 | .nil,c,X,EX,tn,C,xs,hn,h=>by
  cases xs with
  | nil =>
   refine ⟨PN,fun k q=>⟨fun pins s σ H Q I h=>?_,fun _ wh pins s σ H Q I h=>?_⟩⟩
   ·obtain ⟨τ,rfl,hF,j,k',hj,h⟩:=h
    simp only [ev,evBo] at h
    exact nE h
   ·obtain ⟨τ,rfl,hF,hj,h⟩:=h
    simp only [tv,ev,evBo] at h
    exact nE h
  | cons _ _=>exact nF h
 | .cons e r,c,X,EX,tn,C,xs,hn,h=>by
  cases xs with
  | nil=>exact nF h
  | cons x xs =>
   obtain ⟨h,h3⟩:=Aa (show (ckE c e x && Af x && ckEs c r xs)=true from h)
   obtain ⟨h1,h2⟩:=Aa h
   obtain ⟨n1,n2⟩:=Ax hn
   obtain ⟨A1,A2⟩:=snd e C (tn:=tn) x n1 h1
   obtain ⟨B1,B2⟩:=sndA r C (tn:=tn) xs n2 h3
   refine ⟨N9 A1 B1 (Ag h2),fun k q=>?_⟩
   cases r with
   | nil =>
    cases xs with
    | nil=>exact ⟨Ux A1,fun z=>RQ (A2 (Aa (show (e.tst && true)=true from z)).1)⟩
    | cons _ _=>exact nF h3
   | cons e' r' =>
    cases xs with
    | nil=>exact nF h3
    | cons x' xs' =>
     obtain ⟨C1,C2⟩:=B2 k q
     exact ⟨RP A1 C1,fun z=>let ⟨z1,z2⟩:=Aa (show (e.tst && (Es.cons e' r').tsts)=true from z); PX (A2 z1) (C2 z2)⟩
theorem sndI {p:Px} {lv:Nat}:∀ (it:It) {c:CkC} {X:Cx} {EX:EXT} {tn:List Nat} {tg:Expr} (C:Ct p c lv X EX) (e:Expr),(∀ n ∈ it.need,NeedOk p lv X n)->ckI c tg it e=true->PI X tg e (lI p EX tn it)
 | .seq a,c,X,EX,tn,tg,C,e,hn,h=>P8 C.K (snd a C e hn h).1
 | .seqL a,c,X,EX,tn,tg,C,e,hn,h=>Oj C.K (snd a C e hn h).1
 | .r1 a,c,X,EX,tn,tg,C,e,hn,h=>by
  cases e with
  | Call fn xs ks q =>
   cases fn with
   | Name y q' =>
    match xs,ks,h with
    | [l],[],h =>
     obtain ⟨h,h4⟩:=Aa (show ((y==("range" : Str)) && glB c.sc y && ckE c a l && Af l)=true from h)
     obtain ⟨h,h3⟩:=Aa h
     obtain ⟨h1,h2⟩:=Aa h
     cases beq_iff_eq.mp h1
     exact R0 (snd a C l hn h3).1 h4 (C.gl h2) (C.blt _ (by simp [Bg]))
    | [],_,h=>exact nF h
    | _ :: _ :: _,_,h=>exact nF h
    | [_],_ :: _,h=>exact nF h
   | _=>exact nF h
  | _=>exact nF h
 | .r2 a b,c,X,EX,tn,tg,C,e,hn,h=>by
  cases e with
  | Call fn xs ks q =>
   cases fn with
   | Name y q' =>
    match xs,ks,h with
    | [l,r],[],h =>
     obtain ⟨h,h6⟩:=Aa (show ((y==("range" : Str)) && glB c.sc y && ckE c a l && Af l && ckE c b r && Af r)=true from h)
     obtain ⟨h,h5⟩:=Aa h
     obtain ⟨h,h4⟩:=Aa h
     obtain ⟨h,h3⟩:=Aa h
     obtain ⟨h1,h2⟩:=Aa h
     cases beq_iff_eq.mp h1
     obtain ⟨n1,n2⟩:=Ax hn
     exact R4 (snd a C l n1 h3).1 (snd b C r n2 h5).1 h4 h6 (C.gl h2) (C.blt _ (by simp [Bg]))
    | [],_,h=>exact nF h
    | [_],_,h=>exact nF h
    | _ :: _ :: _ :: _,_,h=>exact nF h
    | [_,_],_ :: _,h=>exact nF h
   | _=>exact nF h
  | _=>exact nF h
 | .r3 a b d,c,X,EX,tn,tg,C,e,hn,h=>by
  cases e with
  | Call fn xs ks q =>
   cases fn with
   | Name y q' =>
    match xs,ks,h with
    | [l,r,o],[],h =>
     obtain ⟨h,h8⟩:=Aa (show ((y==("range" : Str)) && glB c.sc y && ckE c a l && Af l && ckE c b r && Af r && ckE c d o && Af o)=true from h)
     obtain ⟨h,h7⟩:=Aa h
     obtain ⟨h,h6⟩:=Aa h
     obtain ⟨h,h5⟩:=Aa h
     obtain ⟨h,h4⟩:=Aa h
     obtain ⟨h,h3⟩:=Aa h
     obtain ⟨h1,h2⟩:=Aa h
     cases beq_iff_eq.mp h1
     obtain ⟨n1,n23⟩:=Ax hn
     obtain ⟨n2,n3⟩:=Ax n23
     exact R6 (snd a C l n1 h3).1 (snd b C r n2 h5).1 (snd d C o n3 h7).1 h4 h6 h8 (C.gl h2) (C.blt _ (by simp [Bg]))
    | [],_,h=>exact nF h
    | [_],_,h=>exact nF h
    | [_,_],_,h=>exact nF h
    | _ :: _ :: _ :: _ :: _,_,h=>exact nF h
    | [_,_,_],_ :: _,h=>exact nF h
   | _=>exact nF h
  | _=>exact nF h
 | .rv a,c,X,EX,tn,tg,C,e,hn,h=>by
  cases e with
  | Call fn xs ks q =>
   cases fn with
   | Name y q' =>
    match xs,ks,h with
    | [l],[],h =>
     obtain ⟨h,h4⟩:=Aa (show ((y==("reversed" : Str)) && glB c.sc y && ckE c a l && Af l)=true from h)
     obtain ⟨h,h3⟩:=Aa h
     obtain ⟨h1,h2⟩:=Aa h
     cases beq_iff_eq.mp h1
     exact RZ C.K (snd a C l hn h3).1 h4 (C.gl h2) (C.blt _ (by simp [Bg]))
    | [],_,h=>exact nF h
    | _ :: _ :: _,_,h=>exact nF h
    | [_],_ :: _,h=>exact nF h
   | _=>exact nF h
  | _=>exact nF h
end
end Pu
end
section
namespace Pu
open PySem PySem.Spec PyProof.Rows PySem.W L2
inductive Md where
 | sh
 | ow (k:Nat)
 | br (k:Nat)
 | dead
 deriving DecidableEq
noncomputable abbrev Ms:=List Md
noncomputable def Md.tn:Md->Nat
 | .sh=>0
 | .ow k=>k
 | .br k=>k
 | .dead=>99
noncomputable def Md.le:Md->Md->Bool
 | _,.dead=>true
 | .sh,.sh=>true
 | .ow _,.sh=>true
 | .ow k,.ow k'=>decide (0 < k'/\k'<=k)
 | .br k,.br k'=>decide (k=k')
 | _,_=>false
noncomputable def Md.small:Md->Bool
 | .ow k=>decide (0 < k/\k < 90)
 | .br k=>decide (k < 90)
 | _=>true
noncomputable def Md.meet (a b:Md):Md:=if a=b then a else match a,b with
 | .ow k,.ow k'=>if 0 < min k k' then .ow (min k k') else .sh
 | .ow _,.sh=>.sh
 | .sh,.ow _=>.sh
 | _,_=>.dead
noncomputable def tnM (m:Ms):List Nat:=m.map Md.tn
theorem A6 {m:Ms} {i j:Nat} (h:(tnM m)[i]?=some j):∃ d,m[i]?=some d/\d.tn=j:=by
 unfold tnM at h
 rw [aam] at h
 exact aau.mp h
theorem AW {m:Ms} {i:Nat} {d:Md} (h:m[i]?=some d):(tnM m)[i]?=some d.tn:=by
 unfold tnM; rw [aam,h]; rfl
noncomputable def Own (m:Ms) (τ:Ft) (a:Addr):Prop:=∃ (i:Nat) (t:T) (k:Nat),τ[i]?=some (some t)/\m[i]?=some (.ow k)/\a ∈ t.adr k
noncomputable def Md.low:Md->Nat
 | .sh=>0
 | .ow _=>0
 | .br k=>k
 | .dead=>99
structure Sf (p:Px) (H0:Hp) (A0:Addr->Prop) (m:Ms) (τ:Ft) (H:Hp):Prop where
 len:τ.length=m.length
 small:∀ d ∈ m,d.small=true
 same:Same H0 H
 ok:Fok p (tnM m) τ H
 own:∀ (i:Nat) (t:T) (k:Nat) (a:Addr),τ[i]?=some (some t)->m[i]?=some (.ow k)->a ∈ t.adr k->H0 a=none/\∃ vs,H a=some (.lst vs)
 src:∀ a,Sh (tnM m) τ a->H0 a=none\/A0 a
 nd:∀ (i:Nat) (t:T) (k:Nat),τ[i]?=some (some t)->m[i]?=some (.ow k)->t.Nd k
 sep:∀ (i j:Nat) (t u:T) (k:Nat) (d:Md),i ≠ j->τ[i]?=some (some t)->m[i]?=some (.ow k)->τ[j]?=some (some u)->m[j]?=some d->d ≠ .dead->∀ a ∈ t.adr k,a ∉ u.rest d.low
 top:∀ (i j:Nat) (t u:T) (k k2:Nat),τ[i]?=some (some t)->m[i]?=some (.ow k)->τ[j]?=some (some u)->m[j]?=some (.br k2)->∀ a ts,t=.lst a ts->a ∉ u.rest 0
section
variable {p:Px} {H0:Hp} {A0:Addr->Prop} {m m':Ms} {τ:Ft} {H H':Hp}
theorem Sf.at (S:Sf p H0 A0 m τ H) {i:Nat} {t:T} {d:Md} (e:τ[i]?=some (some t)) (h:m[i]?=some d) (hd:d ≠ .dead):t.Ok p H:=by
 refine S.ok i t d.tn e (AW h) ?_
 have:=S.small d (aae h)
 cases d with
 | sh=>exact (by decide:(0:Nat) < 90)
 | ow k=>exact (of_decide_eq_true this).2
 | br k=>exact of_decide_eq_true this
 | dead=>exact absurd rfl hd
theorem Sf.ownOk (S:Sf p H0 A0 m τ H) {a:Addr} (o:Own m τ a):H0 a=none/\∃ vs,H a=some (.lst vs):=by
 obtain ⟨i,t,k,e,h,q⟩:=o
 exact S.own i t k a e h q
theorem Sf.disj (S:Sf p H0 A0 m τ H) {a:Addr} (o:Own m τ a):¬ Sh (tnM m) τ a:=by
 rintro ⟨j,u,jj,e',h',l,q'⟩
 obtain ⟨i,t,k,e,h,q⟩:=o
 obtain ⟨d,hd,rfl⟩:=A6 h'
 have hdd:d ≠ .dead:=fun z=>by subst z; exact absurd l (by decide)
 by_cases z:i=j
 ·subst z
  rw [h] at hd; cases hd
  rw [e] at e'
  cases e'
  exact (S.nd i _ k e h).2 a q' q
 ·refine S.sep i j t u k d z e h e' hd hdd a q (T.rest_le u ?_ q')
  cases d <;> simp [Md.low,Md.tn]
theorem Sf.grow (S:Sf p H0 A0 m τ H) (s:Same H H'):Sf p H0 A0 m τ H' :=
 ⟨S.len,S.small,S.same.trans s,S.ok.same s,fun i t k a e h q=>⟨(S.own i t k a e h q).1,let ⟨vs,z⟩:=(S.own i t k a e h q).2; ⟨vs,s _ _ z⟩⟩,S.src,S.nd,S.sep,S.top⟩
noncomputable def leM (m m':Ms):Bool:=decide (m.length=m'.length) && (m.zip m').all fun q=>q.1.le q.2
theorem DN (h:leM m m'=true) {i:Nat} {d':Md} (e:m'[i]?=some d'):∃ d,m[i]?=some d/\d.le d'=true:=by
 unfold leM at h
 obtain ⟨h1,h2⟩:=Aa h
 have h1:=of_decide_eq_true h1
 have hi:i < m.length:=by
  rw [h1]; exact (aap.mp e).1
 refine ⟨m[i],aah hi,aaA.mp h2 (m[i],d') (L5 (aah hi) e)⟩
theorem Hx {m:Ms} (h:∀ d ∈ m,d.small=true):leM m m=true:=by
 unfold leM
 simp only [decide_true,acr]
 refine aaA.mpr fun q hq=>?_
 obtain ⟨i,hi,e⟩:=abJ hq
 have hi':i < m.length:=by simpa using hi
 have hs:=h m[i] (acz hi')
 have:q=(m[i],m[i]):=by rw [<- e]; simp
 rw [this]
 generalize m[i]=d at hs
 cases d <;> simp_all [Md.le,Md.small]
theorem Sf.weak (S:Sf p H0 A0 m τ H) (h:leM m m'=true):Sf p H0 A0 m' τ H:=by
 have hl:m.length=m'.length:=of_decide_eq_true (Aa (show (decide (m.length=m'.length) && _)=true from h)).1
 have shd:∀ a,Sh (tnM m') τ a->Sh (tnM m) τ a\/Own m τ a:=by
  rintro a ⟨i,t,j,e,ej,l,q⟩
  obtain ⟨d',hd',rfl⟩:=A6 ej
  obtain ⟨d,hd,le⟩:=DN h hd'
  have sm:=S.small d (aae hd)
  cases d' with
  | dead=>exact absurd l (by decide)
  | sh =>
   cases d with
   | sh=>exact .inl ⟨i,t,0,e,AW hd,by decide,q⟩
   | ow k =>
    rcases (T.all_iff t k).mp q with z | z
    ·exact .inr ⟨i,t,k,e,hd,z⟩
    ·exact .inl ⟨i,t,k,e,AW hd,(of_decide_eq_true sm).2,z⟩
   | _=>cases le
  | ow k' =>
   cases d with
   | ow k =>
    rcases (T.all_iff t k).mp (T.rest_le t (aar _) q) with z | z
    ·exact .inr ⟨i,t,k,e,hd,z⟩
    ·exact .inl ⟨i,t,k,e,AW hd,(of_decide_eq_true sm).2,z⟩
   | _=>cases le
  | br k' =>
   cases d with
   | br k =>
    have:k=k':=of_decide_eq_true le
    subst this
    exact .inl ⟨i,t,k,e,AW hd,of_decide_eq_true sm,q⟩
   | _=>cases le
 have ownd:∀ {i:Nat} {k':Nat},m'[i]?=some (.ow k')->∃ k,m[i]?=some (.ow k)/\k'<=k:=by
  intro i k' hd'
  obtain ⟨d,hd,le⟩:=DN h hd'
  cases d with
  | ow k=>exact ⟨k,hd,(of_decide_eq_true le).2⟩
  | _=>cases le
 refine ⟨S.len.trans hl,fun d' hd'=>?_,S.same,fun i t j e ej l=>?_,fun i t k' a e hk q=>?_,fun a sh=>?_,fun i t k' e hk=>?_,fun i j t u k' d' ne e hk e' hd' nd a q=>?_,fun i j t u k' k2 e hk e' hd' a ts z=>?_⟩
 ·obtain ⟨i,hi,rfl⟩:=abJ hd'
  obtain ⟨d,hd,le⟩:=DN h (aah hi)
  have sm:=S.small d (aae hd)
  generalize m'[i]=d' at le
  cases d' <;> cases d <;> simp_all [Md.le,Md.small] <;> omega
 ·obtain ⟨d',hd',rfl⟩:=A6 ej
  obtain ⟨d,hd,le⟩:=DN h hd'
  refine S.at e hd fun z=>?_
  subst z
  cases d' <;> first | exact absurd l (by decide) | cases le
 ·obtain ⟨k,hd,le⟩:=ownd hk
  exact S.own i t k a e hd (T.adr_le t le q)
 ·rcases shd a sh with z | z
  ·exact S.src a z
  ·exact .inl (S.ownOk z).1
 ·obtain ⟨k,hd,le⟩:=ownd hk
  exact T.nd_le t le (S.nd i t k e hd)
 ·obtain ⟨k,hd,le⟩:=ownd hk
  obtain ⟨d,hdj,lj⟩:=DN h hd'
  have hdd:d ≠ .dead:=fun z=>by subst z; cases d' <;> first | exact nd rfl | cases lj
  refine fun q'=>S.sep i j t u k d ne e hd e' hdj hdd a (T.adr_le t le q) (T.rest_le u ?_ q')
  cases d' <;> cases d <;> first | exact aar _ | (cases lj; done) | exact absurd rfl nd | skip
  exact abr (of_decide_eq_true lj)
 ·obtain ⟨k,hd,le⟩:=ownd hk
  obtain ⟨d,hdj,lj⟩:=DN h hd'
  cases d with
  | br k3=>exact S.top i j t u k k3 e hd e' hdj a ts z
  | _=>cases lj
noncomputable def up (l:List Nat):List Nat:=l ++ l.map (· + 1000)
theorem Ou {τ:Ft} {x i:Nat} {s:Option T} (h:i ≠ x):(vτ (τ.set x s))[i]?=(vτ τ)[i]?:=by
 unfold vτ
 rw [aam,aam,aan (Ne.symm h)]
theorem UO {τ τ':Ft} {i:Nat} (h:τ'[i]?=τ[i]?):(vτ τ')[i]?=(vτ τ)[i]?:=by
 unfold vτ
 rw [aam,aam,h]
theorem Kz {x i:Nat} {l:List Nat} (h:i + 1000 ∉ x :: (x + 1000) :: l):i ≠ x:=fun z=>h (by rw [z]; exact aaa _ (aac ..))
theorem nup {i:Nat} {l:List Nat} (h:i + 1000 ∉ up l):i ∉ l:=fun z=>h (aak _ (aaD.mpr ⟨i,z,rfl⟩))
theorem Sm (τ:Ft) (x:Nat) (t:T):vτ (τ.set x (some t))=(vτ τ).set x (some t.val):=by
 unfold vτ
 rw [abR]; rfl
theorem Ov {τ:Ft} {x:Nat} {t t':T} (h:τ[x]?=some (some t)) (e:t'.val=t.val):vτ (τ.set x (some t'))=vτ τ:=by
 rw [Sm,e]
 refine ab5 fun i=>?_
 by_cases z:x=i
 ·subst z
  rw [abv,BS h]; rfl
 ·rw [aan z]
structure Stp (m m':Ms) (w0:List Nat) (τ τ':Ft) (H H':Hp):Prop where
 keep:∀ a u,H a=some u->¬ Own m τ a->H' a=some u
 grow:∀ a,Own m' τ' a->Own m τ a\/H a=none
 wr:∀ i,i ∉ w0->τ'[i]?=τ[i]?
 ad:∀ i,i + 1000 ∉ w0->(vτ τ')[i]?=(vτ τ)[i]?
theorem Own.weak (h:leM m m'=true) {a:Addr} (o:Own m' τ a):Own m τ a:=by
 obtain ⟨i,t,k,e,hk,q⟩:=o
 obtain ⟨d,hd,le⟩:=DN h hk
 cases d with
 | ow k2=>exact ⟨i,t,k2,e,hd,T.adr_le t (of_decide_eq_true le).2 q⟩
 | _=>cases le
theorem Stp.refl (wr:List Nat) (h:leM m m'=true) (s:Same H H'):Stp m m' wr τ τ H H':=⟨fun a u e _=>s a u e,fun a o=>.inl (o.weak h),fun _ _=>rfl,fun _ _=>rfl⟩
theorem Stp.trans {m1 m2 m3:Ms} {w1 w2:List Nat} {τ1 τ2 τ3:Ft} {H1 H2 H3:Hp} (a:Stp m1 m2 w1 τ1 τ2 H1 H2) (b:Stp m2 m3 w2 τ2 τ3 H2 H3):Stp m1 m3 (w1 ++ w2) τ1 τ3 H1 H3:=by
 refine ⟨fun x u e n=>b.keep x u (a.keep x u e n) fun o=>?_,fun x o=>?_,fun i hi=>?_,fun i hi=>(b.ad i fun h=>hi (aak _ h)).trans (a.ad i fun h=>hi (aaw _ h))⟩
 ·rcases a.grow x o with z | z
  ·exact n z
  ·rw [e] at z; cases z
 ·rcases b.grow x o with z | z
  ·exact a.grow x z
  ·cases q:H1 x with
   | none=>exact .inr rfl
   | some u =>
    refine .inl (Classical.byContradiction fun n=>?_)
    rw [a.keep x u q n] at z; cases z
 ·rw [b.wr i (fun h=>hi (aak _ h)),a.wr i (fun h=>hi (aaw _ h))]
theorem Stp.mono {w1 w2:List Nat} {τ':Ft} (a:Stp m m' w1 τ τ' H H') (h:∀ i ∈ w1,i ∈ w2):Stp m m' w2 τ τ' H H':=⟨a.keep,a.grow,fun i hi=>a.wr i fun q=>hi (h i q),fun i hi=>a.ad i fun q=>hi (h _ q)⟩
end
noncomputable def mdK (k:Nat):Md:=if k=0 then .sh else .ow k
theorem Gq {k k':Nat} (h:mdK k=.ow k'):k'=k/\k ≠ 0:=by unfold mdK at h; split at h <;> simp_all
theorem UP {k k':Nat} (h:mdK k=.br k'):False:=by unfold mdK at h; split at h <;> simp_all
section
variable {p:Px} {H0:Hp} {A0:Addr->Prop} {m m':Ms} {τ:Ft} {H H1:Hp}
theorem Al {α:Type} {l:List α} {x i:Nat} {v w:α} (h:(l.set x v)[i]?=some w):(i=x/\w=v)\/(i ≠ x/\l[i]?=some w):=by
 by_cases z:x=i
 ·subst z
  rw [abv] at h
  cases q:l[x]? with
  | none=>rw [q] at h; cases h
  | some y =>
   rw [q] at h
   exact .inl ⟨rfl,by simpa using h.symm⟩
 ·rw [aan z] at h
  exact .inr ⟨fun e=>z e.symm,h⟩
theorem UQ {x k ke:Nat} {t:T} (S:Sf p H0 A0 m τ H) (R:Rs p (Sh (tnM m) τ) H H1 0 ke t) (hk:k<=ke) (hx:x < m.length) (h90:k < 90):Sf p H0 A0 (m.set x (mdK k)) (τ.set x (some t)) H1/\Stp m (m.set x (mdK k)) [x,x + 1000] τ (τ.set x (some t)) H H1:=by
 have S1:=S.grow R.same
 have dom:∀ {i:Nat} {u:T} {d:Md},τ[i]?=some (some u)->m[i]?=some d->d ≠ .dead->∀ a ∈ u.rest 0,H a ≠ none:=fun e hd nd a q=>(S.at e hd nd).dom q
 have tnew:∀ a ∈ t.adr k,H a=none:=fun a q=>(R.new a (T.adr_le t hk q)).1
 have town:∀ a,Own m τ a->a ∉ t.rest 0:=fun a o q=>by
  rcases R.src a q with z | z
  ·obtain ⟨_,vs,e⟩:=S.ownOk o
   rw [e] at z; cases z
  ·exact S.disj o z
 have owns:∀ a,Own (m.set x (mdK k)) (τ.set x (some t)) a->a ∈ t.adr k\/Own m τ a:=by
  rintro a ⟨i,u,k',e,hk',q⟩
  rcases Al e with ⟨rfl,e2⟩ | ⟨ne,e⟩
  ·cases e2
   rcases Al hk' with ⟨_,z⟩ | ⟨z,_⟩
   ·obtain ⟨rfl,_⟩:=Gq z.symm
    exact .inl q
   ·exact absurd rfl z
  ·rcases Al hk' with ⟨z,_⟩ | ⟨_,z⟩
   ·exact absurd z ne
   ·exact .inr ⟨i,u,k',e,z,q⟩
 refine ⟨⟨by rw [aaB,aaB]; exact S.len,fun d hd=>?_,S1.same,fun i u j e ej l=>?_,fun i u k' a e hk' q=>?_,fun a sh=>?_,fun i u k' e hk'=>?_,fun i j u w k' d ne e hk' e' hd nd a q=>?_,fun i j u w k' k2 e hk' e' hd a ts z=>?_⟩,
  fun a u e _=>R.same a u e,fun a o=>?_,fun i hi=>?_,fun i hi=>Ou (Kz hi)⟩
 ·rcases aba hd with z | z
  ·exact S.small d z
  ·subst z
   unfold mdK
   split
   ·rfl
   ·exact decide_eq_true ⟨by omega,h90⟩
 ·obtain ⟨d,hd,rfl⟩:=A6 ej
  rcases Al e with ⟨rfl,e2⟩ | ⟨ne,e⟩
  ·cases e2; exact R.ok
  ·rcases Al hd with ⟨z,_⟩ | ⟨_,z⟩
   ·exact absurd z ne
   ·exact S1.ok i u _ e (AW z) l
 ·rcases Al e with ⟨rfl,e2⟩ | ⟨ne,e⟩
  ·cases e2
   rcases Al hk' with ⟨_,z⟩ | ⟨z,_⟩
   ·obtain ⟨rfl,_⟩:=Gq z.symm
    have:=R.new a (T.adr_le _ hk q)
    exact ⟨S.same.free this.1,this.2⟩
   ·exact absurd rfl z
  ·rcases Al hk' with ⟨z,_⟩ | ⟨_,z⟩
   ·exact absurd z ne
   ·exact S1.own i u k' a e z q
 ·obtain ⟨i,u,j,e,ej,l,q⟩:=sh
  obtain ⟨d,hd,rfl⟩:=A6 ej
  rcases Al e with ⟨rfl,e2⟩ | ⟨ne,e⟩
  ·cases e2
   rcases R.src a (T.rest_le _ (aar _) q) with z | z
   ·exact .inl (S.same.free z)
   ·exact S.src a z
  ·rcases Al hd with ⟨z,_⟩ | ⟨_,z⟩
   ·exact absurd z ne
   ·exact S.src a ⟨i,u,_,e,AW z,l,q⟩
 ·rcases Al e with ⟨rfl,e2⟩ | ⟨ne,e⟩
  ·cases e2
   rcases Al hk' with ⟨_,z⟩ | ⟨z,_⟩
   ·obtain ⟨rfl,_⟩:=Gq z.symm
    exact T.nd_le _ hk R.nd
   ·exact absurd rfl z
  ·rcases Al hk' with ⟨z,_⟩ | ⟨_,z⟩
   ·exact absurd z ne
   ·exact S.nd i u k' e z
 ·rcases Al e with ⟨rfl,e2⟩ | ⟨n1,e1⟩
  ·cases e2
   rcases Al hk' with ⟨_,z⟩ | ⟨z,_⟩
   ·obtain ⟨rfl,_⟩:=Gq z.symm
    rcases Al e' with ⟨z',_⟩ | ⟨n2,e3⟩
    ·exact absurd z'.symm ne
    ·rcases Al hd with ⟨z',_⟩ | ⟨_,hd3⟩
     ·exact absurd z' n2
     ·exact fun q'=>dom e3 hd3 nd a (T.rest_le w (aar _) q') (tnew a q)
   ·exact absurd rfl z
  ·rcases Al hk' with ⟨z,_⟩ | ⟨_,hk3⟩
   ·exact absurd z n1
   ·rcases Al e' with ⟨z4,e2⟩ | ⟨n2,e3⟩
    ·cases e2
     exact fun q'=>town a ⟨i,u,k',e1,hk3,q⟩ (T.rest_le _ (aar _) q')
    ·rcases Al hd with ⟨z,_⟩ | ⟨_,hd3⟩
     ·exact absurd z n2
     ·exact S.sep i j u w k' d ne e1 hk3 e3 hd3 nd a q
 ·rcases Al hd with ⟨_,z'⟩ | ⟨n2,hd3⟩
  ·exact (UP z'.symm).elim
  ·rcases Al e' with ⟨z',_⟩ | ⟨_,e3⟩
   ·exact absurd z' n2
   ·rcases Al e with ⟨z4,e2⟩ | ⟨n1,e1⟩
    ·cases e2
     rcases Al hk' with ⟨_,z'⟩ | ⟨z',_⟩
     ·obtain ⟨z5,hk0⟩:=Gq z'.symm
      subst z
      have mem:a ∈ (T.lst a ts).adr k:=by
       cases k with
       | zero=>exact absurd rfl hk0
       | succ n=>exact aac ..
      exact fun q'=>dom e3 hd3 (by intro c; cases c) a q' (tnew a mem)
     ·exact absurd z4 z'
    ·rcases Al hk' with ⟨z',_⟩ | ⟨_,hk3⟩
     ·exact absurd z' n1
     ·exact S.top i j u w k' k2 e1 hk3 e3 hd3 a ts z
 ·rcases owns a o with z | z
  ·exact .inr (tnew a z)
  ·exact .inl z
 ·rw [aan (fun z=>hi (by simp [z]))]
noncomputable def At (m:Ms) (is:List Nat) (d:Md):Ms:=is.foldl (fun m i=>m.set i d) m
theorem D8 (d:Md):∀ (is:List Nat) (m:Ms),(At m is d).length=m.length
 | [],m=>rfl
 | i :: is,m=>by show (At (m.set i d) is d).length=_; rw [D8 d is,aaB]
theorem Ef {d d':Md}:∀ {is:List Nat} {m:Ms} {i:Nat},(At m is d)[i]?=some d'->(i ∈ is/\d'=d)\/(i ∉ is/\m[i]?=some d')
 | [],m,i,h=>.inr ⟨by simp,h⟩
 | j :: is,m,i,h=>by
  rcases Ef (is:=is) (m:=m.set j d) h with ⟨z1,z2⟩ | ⟨z1,z2⟩
  ·exact .inl ⟨aaa _ z1,z2⟩
  ·rcases Al z2 with ⟨rfl,e⟩ | ⟨ne,e⟩
   ·exact .inl ⟨aac ..,e⟩
   ·exact .inr ⟨fun q=>by rcases aal.mp q with q | q; exact ne q; exact z1 q,e⟩
theorem Gr:∀ {is:List Nat} {ts:List T} {τ τ':Ft} {i:Nat},Cb is ts τ=some τ'->i ∉ is->τ'[i]?=τ[i]?
 | [],[],τ,τ',i,h,_=>by cases h; rfl
 | [],t :: ts,τ,τ',i,h,_=>by cases h
 | j :: is,[],τ,τ',i,h,_=>by cases h
 | j :: is,t :: ts,τ,τ',i,h,hi=>by
  rw [Gr (is:=is) (ts:=ts) (τ:=τ.set j (some t)) h (fun q=>hi (aaa _ q)),aan (fun z=>hi (by simp [z]))]
theorem Lh {g:Tg} {t:T} {τ τ':Ft} {i:Nat} (h:C0 g t τ=some τ') (hi:i ∉ g.sl):τ'[i]?=τ[i]?:=by
 cases g with
 | nm k=>cases h; rw [aan (fun z=>hi (by simp [Tg.sl,z]))]
 | tp is=>cases t <;> first | cases h | exact Gr h hi
theorem Sn {is:List Nat} {τ':Ft} (S:Sf p H0 A0 m τ H) (s:Same H H1) (hlen:τ'.length=τ.length) (hin:∀ (i:Nat) (u:T),i ∈ is->τ'[i]?=some (some u)->u.Ok p H1/\∀ a ∈ u.rest 0,(H0 a=none\/A0 a)/\¬ Own m τ a) (hout:∀ i,i ∉ is->τ'[i]?=τ[i]?) :
  Sf p H0 A0 (At m is .sh) τ' H1/\Stp m (At m is .sh) (up is) τ τ' H H1:=by
 have S1:=S.grow s
 have AJ:∀ {i:Nat} {u:T} {d:Md},τ'[i]?=some (some u)->(At m is .sh)[i]?=some d->(d=.sh/\u.Ok p H1/\∀ a ∈ u.rest 0,(H0 a=none\/A0 a)/\¬ Own m τ a)\/(τ[i]?=some (some u)/\m[i]?=some d):=by
  intro i u d e hd
  rcases Ef hd with ⟨z1,z2⟩ | ⟨z1,z2⟩
  ·exact .inl ⟨z2,hin i u z1 e⟩
  ·exact .inr ⟨(hout i z1) ▸ e,z2⟩
 have town:∀ {u:T},(∀ a ∈ u.rest 0,(H0 a=none\/A0 a)/\¬ Own m τ a)->∀ a,Own m τ a->a ∉ u.rest 0:=fun src a o q=>(src a q).2 o
 refine ⟨⟨by rw [hlen,D8]; exact S.len,fun d hd=>?_,S1.same,fun i u j e ej l=>?_,fun i u k' a e hk' q=>?_,fun a sh=>?_,fun i u k' e hk'=>?_,fun i j u w k' d ne e hk' e' hd nd a q=>?_,fun i j u w k' k2 e hk' e' hd a ts z=>?_⟩,
  fun a u e _=>s a u e,fun a o=>?_,fun i hi=>hout i fun z=>hi (aaw _ z),fun i hi=>UO (hout i (nup hi))⟩
 ·obtain ⟨i,hi,rfl⟩:=abJ hd
  rcases Ef (aah hi) with ⟨_,z⟩ | ⟨_,z⟩
  ·rw [z]; rfl
  ·exact S.small _ (aae z)
 ·obtain ⟨d,hd,rfl⟩:=A6 ej
  rcases AJ e hd with ⟨_,q,_⟩ | ⟨q1,q2⟩
  ·exact q
  ·exact S1.ok i u _ q1 (AW q2) l
 ·rcases AJ e hk' with ⟨z,_⟩ | ⟨q1,q2⟩
  ·cases z
  ·exact S1.own i u k' a q1 q2 q
 ·obtain ⟨i,u,j,e,ej,l,q⟩:=sh
  obtain ⟨d,hd,rfl⟩:=A6 ej
  rcases AJ e hd with ⟨_,_,q'⟩ | ⟨q1,q2⟩
  ·exact (q' a (T.rest_le u (aar _) q)).1
  ·exact S.src a ⟨i,u,_,q1,AW q2,l,q⟩
 ·rcases AJ e hk' with ⟨z,_⟩ | ⟨q1,q2⟩
  ·cases z
  ·exact S.nd i u k' q1 q2
 ·rcases AJ e hk' with ⟨z,_⟩ | ⟨q1,q2⟩
  ·cases z
  ·rcases AJ e' hd with ⟨_,_,q'⟩ | ⟨q3,q4⟩
   ·exact fun q5=>town q' a ⟨i,u,k',q1,q2,q⟩ (T.rest_le w (aar _) q5)
   ·exact S.sep i j u w k' d ne q1 q2 q3 q4 nd a q
 ·rcases AJ e hk' with ⟨z,_⟩ | ⟨q1,q2⟩
  ·cases z
  ·rcases AJ e' hd with ⟨z',_⟩ | ⟨q3,q4⟩
   ·cases z'
   ·exact S.top i j u w k' k2 q1 q2 q3 q4 a ts z
 ·obtain ⟨i,u,k',e,hk',q⟩:=o
  rcases AJ e hk' with ⟨z,_⟩ | ⟨q1,q2⟩
  ·cases z
  ·exact .inl ⟨i,u,k',q1,q2,q⟩
theorem Sf.fine (S:Sf p H0 A0 m τ H) {a:Addr} (h:H a=none\/Sh (tnM m) τ a):(H0 a=none\/A0 a)/\¬ Own m τ a:=by
 rcases h with z | z
 ·refine ⟨.inl (S.same.free z),fun o=>?_⟩
  obtain ⟨_,vs,e⟩:=S.ownOk o
  rw [e] at z; cases z
 ·exact ⟨S.src a z,fun o=>S.disj o z⟩
theorem Ow {g:Tg} {t:T} {τ':Ft} (S:Sf p H0 A0 m τ H) (s:Same H H1) (ok:t.Ok p H1) (src:∀ a ∈ t.rest 0,(H0 a=none\/A0 a)/\¬ Own m τ a) (h:C0 g t τ=some τ'):Sf p H0 A0 (At m g.sl .sh) τ' H1/\Stp m (At m g.sl .sh) (up g.sl) τ τ' H H1:=by
 refine Sn S s (JC h) (fun i u hi e=>?_) (fun i hi=>Lh h hi)
 rcases Id (P:=fun o=>∀ w,o=some w->w.Ok p H1/\∀ a ∈ w.rest 0,(H0 a=none\/A0 a)/\¬ Own m τ a) h (fun w e=>by cases e; exact ⟨ok,src⟩)
   (fun a ts e u hu w e'=>by
    cases e'
    rcases e with e | e
    ·subst e
     exact ⟨T.oks_iff.mp ok.2 u hu,fun b q=>src b (T.mem_rests.mpr ⟨u,hu,q⟩)⟩
    ·subst e
     exact ⟨T.oks_iff.mp ok.2 u hu,fun b q=>src b (aaa _ (T.mem_rests.mpr ⟨u,hu,q⟩))⟩) i (some u) e with q | ⟨q,_⟩
 ·exact q u rfl
 ·exact absurd hi q
theorem VL {g:Tg} {t:T} {τ':Ft} (S:Sf p H0 A0 m τ H) (s:Same H H1) (ok:t.Ok p H1) (src:∀ a ∈ t.rest 0,H a=none\/Sh (tnM m) τ a) (h:C0 g t τ=some τ'):Sf p H0 A0 (At m g.sl .sh) τ' H1/\Stp m (At m g.sl .sh) (up g.sl) τ τ' H H1 :=
 Ow S s ok (fun a q=>S.fine (src a q)) h
end
noncomputable def AU:List (Bool × Int)->T->Option T
 | [],t=>some t
 | (false,i) :: r,.lst _ ts=>(ixN ts.length i).bind fun j=>(ts[j]?).bind fun t=>AU r t
 | (true,i) :: r,.tup _ ts=>(ixN ts.length i).bind fun j=>(ts[j]?).bind fun t=>AU r t
 | _,_=>none
noncomputable def Dx (s:T):List (Bool × Int)->T->Option T
 | [],_=>some s
 | (false,i) :: r,.lst a ts=>(ixN ts.length i).bind fun j=>(ts[j]?).bind fun t=>(Dx s r t).map fun t'=>.lst a (ts.set j t')
 | (true,i) :: r,.tup a ts=>(ixN ts.length i).bind fun j=>(ts[j]?).bind fun t=>(Dx s r t).map fun t'=>.tup a (ts.set j t')
 | _,_=>none
noncomputable def lnP:List (Bool × Int)->Nat
 | []=>0
 | (false,_) :: r=>lnP r + 1
 | (true,_) :: r=>lnP r
theorem D3 {α:Type} {l:List α} {j:Nat} {x:α} (h:l[j]?=some x):∃ l1 l2,l=l1 ++ x :: l2/\∀ y,l.set j y=l1 ++ y :: l2:=by
 obtain ⟨hj,e⟩:=aap.mp h
 refine ⟨l.take j,l.drop (j + 1),?_,fun y=>?_⟩
 ·rw [<- e,List.getElem_cons_drop,List.take_append_drop]
 ·rw [List.set_eq_take_append_cons_drop,if_pos hj]
theorem Dn {l1 l2:List T} {c:T} {k:Nat}:T.Nds (l1 ++ c :: l2) k ↔ T.Nds (l1 ++ l2) k/\c.Nd k/\(∀ a ∈ c.adr k,a ∉ T.rests (l1 ++ l2) 0)/\(∀ a ∈ T.adrs (l1 ++ l2) k,a ∉ c.rest 0):=by
 induction l1 with
 | nil =>
  rw [aaX,aaX,T.nds_cons]
  exact ⟨fun ⟨a,b,c,d⟩=>⟨b,a,c,d⟩,fun ⟨b,a,c,d⟩=>⟨a,b,c,d⟩⟩
 | cons x l1 ih =>
  rw [aa7,aa7,T.nds_cons,T.nds_cons,ih]
  simp only [T.rests_append,T.adrs_append,T.rests,T.adrs,aai,not_or]
  constructor
  ·rintro ⟨h1,⟨h2,h3,h4,h5⟩,h6,h7⟩
   refine ⟨⟨h1,h2,fun a q=>⟨(h6 a q).1,(h6 a q).2.2⟩,fun a q=>h7 a ?_⟩,h3,fun a q=>⟨fun z=>h7 a (.inr (.inl q)) z,h4 a q⟩,fun a q=>?_⟩
   ·rcases q with q | q
    ·exact .inl q
    ·exact .inr (.inr q)
   ·rcases q with q | q
    ·exact (h6 a q).2.1
    ·exact h5 a q
  ·rintro ⟨⟨h1,h2,h6,h7⟩,h3,h4,h5⟩
   refine ⟨h1,⟨h2,h3,fun a q=>(h4 a q).2,fun a q=>h5 a (.inr q)⟩,fun a q=>⟨(h6 a q).1,h5 a (.inl q),(h6 a q).2⟩,fun a q=>?_⟩
   rcases q with q | q | q
   ·exact h7 a (.inl q)
   ·exact (h4 a q).1
   ·exact h7 a (.inr q)
section
variable {p:Px}
theorem D4:∀ (q:List (Bool × Int)) {t s:T} {k:Nat},AU q t=some s->lnP q<=k->(∀ b ∈ s.rest 0,b ∈ t.rest 0)/\(∀ b ∈ s.adr (k - lnP q),b ∈ t.adr k)
 | [],t,s,k,h,_=>by cases h; exact ⟨fun b q=>q,fun b q=>q⟩
 | (false,i) :: r,.lst a ts,s,k,h,hl=>by
  simp only [AU] at h
  obtain ⟨j,_,h⟩:=bS h
  obtain ⟨c,hc,h⟩:=bS h
  cases k with
  | zero=>simp [lnP] at hl
  | succ k =>
   obtain ⟨h1,h2⟩:=D4 r (k:=k) h (by simp [lnP] at hl; exact hl)
   refine ⟨fun b q=>aaa _ (T.mem_rests.mpr ⟨c,aae hc,h1 b q⟩),fun b q=>aaa _ (T.mem_adrs.mpr ⟨c,aae hc,h2 b ?_⟩)⟩
   have:k + 1 - lnP ((false,i) :: r)=k - lnP r:=by simp only [lnP]; omega
   rw [this] at q; exact q
 | (true,i) :: r,.tup a ts,s,k,h,hl=>by
  simp only [AU] at h
  obtain ⟨j,_,h⟩:=bS h
  obtain ⟨c,hc,h⟩:=bS h
  obtain ⟨h1,h2⟩:=D4 r (k:=k) h hl
  exact ⟨fun b q=>T.mem_rests.mpr ⟨c,aae hc,h1 b q⟩,fun b q=>T.mem_adrs.mpr ⟨c,aae hc,h2 b q⟩⟩
 | (false,i) :: r,.tup a ts,s,k,h,_=>by cases h
 | (true,i) :: r,.lst a ts,s,k,h,_=>by cases h
 | (b,i) :: r,.non,s,k,h,_=>by cases b <;> cases h
 | (b,i) :: r,.bl _,s,k,h,_=>by cases b <;> cases h
 | (b,i) :: r,.int _,s,k,h,_=>by cases b <;> cases h
 | (b,i) :: r,.str _,s,k,h,_=>by cases b <;> cases h
 | (b,i) :: r,.exn _ _,s,k,h,_=>by cases b <;> cases h
theorem Ox {l1 l2:List T} {c c':T} {k:Nat} {F N:Addr->Prop} (hFN:∀ b,F b->N b) (nds:T.Nds (l1 ++ c :: l2) k) (nd':c'.Nd k) (hA:∀ b ∈ c'.adr k,b ∈ c.adr k\/F b) (hB:∀ b ∈ c'.rest k,b ∈ c.rest k\/N b) (hF:∀ b,F b->b ∉ T.rests (l1 ++ c :: l2) 0) (hN:∀ b,N b->b ∉ T.adrs (l1 ++ c :: l2) k) :
  T.Nds (l1 ++ c' :: l2) k/\(∀ b ∈ T.adrs (l1 ++ c' :: l2) k,b ∈ T.adrs (l1 ++ c :: l2) k\/F b)/\(∀ b ∈ T.rests (l1 ++ c' :: l2) k,b ∈ T.rests (l1 ++ c :: l2) k\/N b):=by
 obtain ⟨m1,m2,m3,m4⟩:=Dn.mp nds
 have inm:∀ b,b ∈ T.rests (l1 ++ l2) 0->b ∈ T.rests (l1 ++ c :: l2) 0:=fun b q=>by
  simp only [T.rests_append,T.rests,aai] at q ⊢
  rcases q with q | q
  ·exact .inl q
  ·exact .inr (.inr q)
 have ina:∀ b,b ∈ T.adrs (l1 ++ l2) k->b ∈ T.adrs (l1 ++ c :: l2) k:=fun b q=>by
  simp only [T.adrs_append,T.adrs,aai] at q ⊢
  rcases q with q | q
  ·exact .inl q
  ·exact .inr (.inr q)
 have cm:∀ b,b ∈ c.adr k->b ∈ T.adrs (l1 ++ c :: l2) k:=fun b q=>by
  simp only [T.adrs_append,T.adrs,aai]
  exact .inr (.inl q)
 refine ⟨Dn.mpr ⟨m1,nd',fun b q q'=>?_,fun b q q'=>?_⟩,fun b q=>?_,fun b q=>?_⟩
 ·rcases hA b q with z | z
  ·exact m3 b z q'
  ·exact hF b z (inm b q')
 ·rcases (T.all_iff c' k).mp q' with z | z
  ·rcases hA b z with y | y
   ·exact m4 b q ((T.all_iff c k).mpr (.inl y))
   ·exact hN b (hFN b y) (ina b q)
  ·rcases hB b z with y | y
   ·exact m4 b q ((T.all_iff c k).mpr (.inr y))
   ·exact hN b y (ina b q)
 ·simp only [T.adrs_append,T.adrs,aai] at q ⊢
  rcases q with q | q | q
  ·exact .inl (.inl q)
  ·exact (hA b q).imp (fun z=>.inr (.inl z)) id
  ·exact .inl (.inr (.inr q))
 ·simp only [T.rests_append,T.rests,aai] at q ⊢
  rcases q with q | q | q
  ·exact .inl (.inl q)
  ·exact (hB b q).imp (fun z=>.inr (.inl z)) id
  ·exact .inl (.inr (.inr q))
theorem DO {H H':Hp} {a:Addr} {t:T} (hkeep:∀ b w,H b=some w->b ≠ a->H' b=some w) (hpl:∃ vs,H a=some (.lst vs)) (ok:t.Ok p H) (hn:a ∉ t.rest 0):t.Ok p H':=by
 refine ok.keep fun b w e q=>hkeep b w e fun z=>?_
 subst z
 rcases q with q | q
 ·exact hn q
 ·obtain ⟨vs,z⟩:=hpl
  rw [z] at e
  exact q vs (Option.some.inj e).symm
theorem KA {H H':Hp} {a:Addr} {ts us:List T} {F N:Addr->Prop} (hkeep:∀ b w,H b=some w->b ≠ a->H' b=some w) (hpl:∃ vs,H a=some (.lst vs)) (hs:(T.lst a us).Ok p H') (hFN:∀ b,F b->N b) :
  ∀ (q:List (Bool × Int)) {t:T} {k:Nat},AU q t=some (.lst a ts)->lnP q < k->t.Nd k->t.Ok p H->(∀ b,F b->b ∉ t.rest 0)->(∀ b,N b->b ∉ t.adr k)->(∀ b ∈ T.adrs us (k - 1 - lnP q),b ∈ T.adrs ts (k - 1 - lnP q)\/F b) ->
   (∀ b ∈ T.rests us (k - 1 - lnP q),b ∈ T.rests ts (k - 1 - lnP q)\/N b)->T.Nds us (k - 1 - lnP q) ->
   ∃ t',Dx (.lst a us) q t=some t'/\t'.val=t.val/\t'.Ok p H'/\t'.Nd k/\(∀ b ∈ t'.adr k,b ∈ t.adr k\/F b)/\(∀ b ∈ t'.rest k,b ∈ t.rest k\/N b)
 | [],t,k,h,hl,nd,ok,hF,hN,hA,hB,hnd=>by
  cases h
  cases k with
  | zero=>cases hl
  | succ k =>
   have e:k + 1 - 1 - lnP []=k:=by simp [lnP]
   rw [e] at hA hB hnd
   obtain ⟨n1,n2⟩:=nd
   simp only [T.adr,aaM] at n1
   refine ⟨_,rfl,rfl,hs,⟨?_,fun b m m'=>?_⟩,fun b m=>?_,fun b m=>hB b m⟩
   ·simp only [T.adr,aaM]
    refine ⟨fun m=>?_,hnd.1⟩
    rcases hA a m with z | z
    ·exact n1.1 z
    ·exact hF a z (aac ..)
   ·simp only [T.adr,T.rest,aal] at m m'
    rcases m' with rfl | m'
    ·rcases hB b m with z | z
     ·exact n2 b z (aac ..)
     ·exact hN b z (aac ..)
    ·exact hnd.2 b m m'
   ·simp only [T.adr,aal] at m ⊢
    rcases m with m | m
    ·exact .inl (.inl m)
    ·exact (hA b m).imp .inr id
 | (false,i) :: r,.lst b0 cs,k,h,hl,nd,ok,hF,hN,hA,hB,hnd=>by
  simp only [AU] at h
  obtain ⟨j,hj,h⟩:=bS h
  obtain ⟨c,hc,h⟩:=bS h
  cases k with
  | zero=>cases hl
  | succ k =>
   have hl':lnP r < k:=by simp only [lnP] at hl; omega
   have e:k + 1 - 1 - lnP ((false,i) :: r)=k - 1 - lnP r:=by simp only [lnP]; omega
   rw [e] at hA hB hnd
   obtain ⟨n1,n2⟩:=nd
   simp only [T.adr,T.rest,aaM] at n1 n2
   have nds:T.Nds cs k:=⟨n1.2,fun x hx hy=>n2 x hx (aaa _ hy)⟩
   have hcm:=aae hc
   obtain ⟨l1,l2,e1,e2⟩:=D3 hc
   rw [e1] at nds
   obtain ⟨m1,m2,m3,m4⟩:=Dn.mp nds
   obtain ⟨ain,aad⟩:=D4 r (k:=k) h (by omega)
   have aadr:a ∈ c.adr k:=aad a (by
    have:k - lnP r=(k - lnP r - 1) + 1:=by omega
    rw [this]; exact aac ..)
   obtain ⟨c',p1,p2,p3,p4,p5,p6⟩:=KA hkeep hpl hs hFN r h hl' m2 (T.oks_iff.mp ok.2 c hcm) (fun b f q=>hF b f (aaa _ (T.mem_rests.mpr ⟨c,hcm,q⟩))) (fun b n q=>hN b n (aaa _ (T.mem_adrs.mpr ⟨c,hcm,q⟩))) hA hB hnd
   obtain ⟨q1,q2,q3⟩:=Ox hFN nds p4 p5 p6 (fun b f q=>hF b f (aaa _ (by rw [e1]; exact q))) (fun b n q=>hN b n (aaa _ (by rw [e1]; exact q)))
   have ab:b0 ≠ a:=fun z=>n1.1 (by rw [z,T.mem_adrs]; exact ⟨c,hcm,aadr⟩)
   have hv:(l1 ++ c' :: l2).map T.val=cs.map T.val:=by rw [e1]; simp [p2]
   refine ⟨.lst b0 (l1 ++ c' :: l2),by simp only [Dx,hj,abe,hc,p1,aa5,e2],rfl,⟨?_,T.oks_iff.mpr fun w hw=>?_⟩,⟨?_,fun b m m'=>?_⟩,fun b m=>?_,fun b m=>?_⟩
   ·rw [hv]
    rcases ok.1 with z | ⟨o,z⟩
    ·exact .inl (hkeep _ _ z ab)
    ·exact .inr ⟨o,hkeep _ _ z ab⟩
   ·rcases aai.mp hw with hw | hw
    ·refine DO hkeep hpl (T.oks_iff.mp ok.2 w (by rw [e1]; exact aaw _ hw)) fun q=>m3 a aadr ?_
     rw [T.rests_append]; exact aaw _ (T.mem_rests.mpr ⟨w,hw,q⟩)
    ·rcases aal.mp hw with rfl | hw
     ·exact p3
     ·refine DO hkeep hpl (T.oks_iff.mp ok.2 w (by rw [e1]; exact aak _ (aaa _ hw))) fun q=>m3 a aadr ?_
      rw [T.rests_append]; exact aak _ (T.mem_rests.mpr ⟨w,hw,q⟩)
   ·simp only [T.adr,aaM]
    refine ⟨fun m=>?_,q1.1⟩
    rcases q2 b0 m with z | z
    ·exact n1.1 (by rw [e1]; exact z)
    ·exact hF b0 z (aac ..)
   ·simp only [T.adr,T.rest,aal] at m m'
    rcases m' with rfl | m'
    ·rcases q3 b m with z | z
     ·exact n2 b (by rw [e1]; exact z) (aac ..)
     ·exact hN b z (aac ..)
    ·exact q1.2 b m m'
   ·simp only [T.adr,aal] at m ⊢
    rcases m with m | m
    ·exact .inl (.inl m)
    ·rw [e1]; exact (q2 b m).imp .inr id
   ·simp only [T.rest] at m ⊢
    rw [e1]; exact q3 b m
 | (true,i) :: r,.tup b0 cs,k,h,hl,nd,ok,hF,hN,hA,hB,hnd=>by
  simp only [AU] at h
  obtain ⟨j,hj,h⟩:=bS h
  obtain ⟨c,hc,h⟩:=bS h
  have hl':lnP r < k:=hl
  have nds:T.Nds cs k:=nd
  have hcm:=aae hc
  obtain ⟨l1,l2,e1,e2⟩:=D3 hc
  rw [e1] at nds
  obtain ⟨m1,m2,m3,m4⟩:=Dn.mp nds
  obtain ⟨ain,aad⟩:=D4 r (k:=k) h (by omega)
  have aadr:a ∈ c.adr k:=aad a (by
   have:k - lnP r=(k - lnP r - 1) + 1:=by omega
   rw [this]; exact aac ..)
  obtain ⟨c',p1,p2,p3,p4,p5,p6⟩:=KA hkeep hpl hs hFN r h hl' m2 (T.oks_iff.mp ok.2 c hcm) (fun b f q=>hF b f (T.mem_rests.mpr ⟨c,hcm,q⟩)) (fun b n q=>hN b n (T.mem_adrs.mpr ⟨c,hcm,q⟩)) hA hB hnd
  obtain ⟨q1,q2,q3⟩:=Ox hFN nds p4 p5 p6 (fun b f q=>hF b f (by rw [T.rest,e1]; exact q)) (fun b n q=>hN b n (by rw [T.adr,e1]; exact q))
  have ab:b0 ≠ a:=fun z=>by
   obtain ⟨vs,y⟩:=hpl
   have:=ok.1
   rw [z,y] at this; cases this
  have hv:(l1 ++ c' :: l2).map T.val=cs.map T.val:=by rw [e1]; simp [p2]
  refine ⟨.tup b0 (l1 ++ c' :: l2),by simp only [Dx,hj,abe,hc,p1,aa5,e2],rfl,⟨?_,T.oks_iff.mpr fun w hw=>?_⟩,q1,fun b m=>?_,fun b m=>?_⟩
  ·rw [hv]; exact hkeep _ _ ok.1 ab
  ·rcases aai.mp hw with hw | hw
   ·refine DO hkeep hpl (T.oks_iff.mp ok.2 w (by rw [e1]; exact aaw _ hw)) fun q=>m3 a aadr ?_
    rw [T.rests_append]; exact aaw _ (T.mem_rests.mpr ⟨w,hw,q⟩)
   ·rcases aal.mp hw with rfl | hw
    ·exact p3
    ·refine DO hkeep hpl (T.oks_iff.mp ok.2 w (by rw [e1]; exact aak _ (aaa _ hw))) fun q=>m3 a aadr ?_
     rw [T.rests_append]; exact aak _ (T.mem_rests.mpr ⟨w,hw,q⟩)
  ·simp only [T.adr] at m ⊢
   rw [e1]; exact q2 b m
  ·simp only [T.rest] at m ⊢
   rw [e1]; exact q3 b m
 | (false,i) :: r,.tup a ts,k,h,_,_,_,_,_,_,_,_=>by cases h
 | (true,i) :: r,.lst a ts,k,h,_,_,_,_,_,_,_,_=>by cases h
 | (b,i) :: r,.non,k,h,_,_,_,_,_,_,_,_=>by cases b <;> cases h
 | (b,i) :: r,.bl _,k,h,_,_,_,_,_,_,_,_=>by cases b <;> cases h
 | (b,i) :: r,.int _,k,h,_,_,_,_,_,_,_,_=>by cases b <;> cases h
 | (b,i) :: r,.str _,k,h,_,_,_,_,_,_,_,_=>by cases b <;> cases h
 | (b,i) :: r,.exn _ _,k,h,_,_,_,_,_,_,_,_=>by cases b <;> cases h
end
theorem Ig:∀ (q:List (Bool × Int)) {t s:T} {k:Nat},AU q t=some s->lnP q<=k->t.Nd k->s.Nd (k - lnP q)
 | [],t,s,k,h,_,n=>by cases h; exact n
 | (false,i) :: r,.lst a ts,s,k,h,hl,n=>by
  simp only [AU] at h
  obtain ⟨j,_,h⟩:=bS h
  obtain ⟨c,hc,h⟩:=bS h
  cases k with
  | zero=>simp [lnP] at hl
  | succ k =>
   obtain ⟨n1,n2⟩:=n
   simp only [T.adr,T.rest,aaM] at n1 n2
   have nds:T.Nds ts k:=⟨n1.2,fun x hx hy=>n2 x hx (aaa _ hy)⟩
   obtain ⟨l1,l2,e1,_⟩:=D3 hc
   rw [e1] at nds
   have:=Ig r (k:=k) h (by simp [lnP] at hl; exact hl) (Dn.mp nds).2.1
   have e:k + 1 - lnP ((false,i) :: r)=k - lnP r:=by simp only [lnP]; omega
   rw [e]; exact this
 | (true,i) :: r,.tup a ts,s,k,h,hl,n=>by
  simp only [AU] at h
  obtain ⟨j,_,h⟩:=bS h
  obtain ⟨c,hc,h⟩:=bS h
  have nds:T.Nds ts k:=n
  obtain ⟨l1,l2,e1,_⟩:=D3 hc
  rw [e1] at nds
  exact Ig r (k:=k) h hl (Dn.mp nds).2.1
 | (false,i) :: r,.tup a ts,s,k,h,_,_=>by cases h
 | (true,i) :: r,.lst a ts,s,k,h,_,_=>by cases h
 | (b,i) :: r,.non,s,k,h,_,_=>by cases b <;> cases h
 | (b,i) :: r,.bl _,s,k,h,_,_=>by cases b <;> cases h
 | (b,i) :: r,.int _,s,k,h,_,_=>by cases b <;> cases h
 | (b,i) :: r,.str _,s,k,h,_,_=>by cases b <;> cases h
 | (b,i) :: r,.exn _ _,s,k,h,_,_=>by cases b <;> cases h
theorem Li {ts:List T} {j:Nat} {t:T} (h:ts[j]?=some t):(T.dats ts)[j]?=some t.dat:=by rw [T.dats_map,aam,h]; rfl
theorem FT (ts:List T) (j:Nat) (t:T):T.dats (ts.set j t)=(T.dats ts).set j t.dat:=by rw [T.dats_map,T.dats_map,abR]
theorem GY {f:List D->Option (List D)}:∀ (q:List (Bool × Int)) {t:T} {d':D},Cr f q t.dat=some d'->∃ a ts ds',AU q t=some (.lst a ts)/\f (T.dats ts)=some ds'/\∀ us t',T.dats us=ds'->Dx (.lst a us) q t=some t'->t'.dat=d'
 | [],t,d',h=>by
  cases t with
  | lst a ts =>
   simp only [T.dat,Cr] at h
   obtain ⟨ds',h1,rfl⟩:=aau.mp h
   exact ⟨a,ts,ds',rfl,h1,fun us t' e1 e2=>by cases e2; simp [T.dat,e1]⟩
  | _=>cases h
 | (b,i) :: r,t,d',h=>by
  cases b with
  | false =>
   cases t with
   | lst a ts =>
    simp only [T.dat,Cr,Ak] at h
    obtain ⟨j,hj,h⟩:=bS h
    obtain ⟨d,hd,h⟩:=bS h
    obtain ⟨d2,h1,rfl⟩:=aau.mp h
    obtain ⟨c,hc,rfl⟩:=ED hd
    obtain ⟨a',ts',ds',s1,s2,s3⟩:=GY r h1
    refine ⟨a',ts',ds',by simp only [AU,hj,abe,hc,s1],s2,fun us t' e1 e2=>?_⟩
    simp only [Dx,hj,abe,hc] at e2
    obtain ⟨c',e3,rfl⟩:=aau.mp e2
    simp only [T.dat,FT,s3 us c' e1 e3]
   | _=>cases h
  | true =>
   cases t with
   | tup a ts =>
    simp only [T.dat,Cr,Ak] at h
    obtain ⟨j,hj,h⟩:=bS h
    obtain ⟨d,hd,h⟩:=bS h
    obtain ⟨d2,h1,rfl⟩:=aau.mp h
    obtain ⟨c,hc,rfl⟩:=ED hd
    obtain ⟨a',ts',ds',s1,s2,s3⟩:=GY r h1
    refine ⟨a',ts',ds',by simp only [AU,hj,abe,hc,s1],s2,fun us t' e1 e2=>?_⟩
    simp only [Dx,hj,abe,hc] at e2
    obtain ⟨c',e3,rfl⟩:=aau.mp e2
    simp only [T.dat,FT,s3 us c' e1 e3]
   | _=>cases h
section
variable {p:Px} {H0:Hp} {A0:Addr->Prop} {m m1:Ms} {τ:Ft} {H H1:Hp}
theorem KB {x k:Nat} {t:T} {q:List (Bool × Int)} {a:Addr} {ts us:List T} {F N:Addr->Prop} (S:Sf p H0 A0 m τ H) (s:Same H H1) (hx:τ[x]?=some (some t)) (hm:m[x]?=some (.ow k)) (hq:AU q t=some (.lst a ts)) (hl:lnP q < k) (hus:T.Oks p H1 us) (hFN:∀ b,F b->N b)
  (hA:∀ b ∈ T.adrs us (k - 1 - lnP q),b ∈ T.adrs ts (k - 1 - lnP q)\/F b) (hB:∀ b ∈ T.rests us (k - 1 - lnP q),b ∈ T.rests ts (k - 1 - lnP q)\/N b) (hnd:T.Nds us (k - 1 - lnP q))
  (f0:∀ b,F b->b ∉ t.rest 0) (f1:∀ b,F b->H0 b=none/\∃ vs,H1 b=some (.lst vs)) (f4:∀ b,F b->Own m τ b\/H b=none) (n0:∀ b,N b->b ∉ t.adr k) (n1:∀ b,N b->H0 b=none\/A0 b)
  (hlen:m1.length=m.length) (hmx:m1[x]?=some (.ow k)) (hmo:∀ (j:Nat) (d:Md),j ≠ x->m1[j]?=some d->d ≠ .dead->m[j]?=some d/\(q ≠ []->∀ k2,d ≠ .br k2))
  (f2:∀ (j:Nat) (u:T) (d:Md),j ≠ x->τ[j]?=some (some u)->m1[j]?=some d->d ≠ .dead->∀ b,F b->b ∉ u.rest d.low) (n2:∀ (i:Nat) (u:T) (k':Nat),i ≠ x->τ[i]?=some (some u)->m1[i]?=some (.ow k')->∀ b,N b->b ∉ u.adr k') :
  ∃ t',Dx (.lst a us) q t=some t'/\t'.val=t.val/\Sf p H0 A0 m1 (τ.set x (some t')) (L2.upd H1 a (.lst (us.map T.val)))/\Stp m m1 [x] τ (τ.set x (some t')) H (L2.upd H1 a (.lst (us.map T.val))):=by
 have S1:=S.grow s
 obtain ⟨ain,aad⟩:=D4 q (k:=k) hq (by omega)
 have ek:k - lnP q=(k - 1 - lnP q) + 1:=by omega
 have aadr:a ∈ t.adr k:=aad a (by rw [ek]; exact aac ..)
 have arest:a ∈ t.rest 0:=(T.all_iff t k).mpr (.inl aadr)
 have nds:=Ig q hq (by omega:lnP q<=k) (S.nd x t k hx hm)
 rw [ek] at nds
 obtain ⟨nd1,nd2⟩:=nds
 simp only [T.adr,T.rest,aaM] at nd1 nd2
 have hpl:∃ vs,H1 a=some (.lst vs):=(S1.own x t k a hx hm aadr).2
 have hkeep:∀ b w,H1 b=some w->b ≠ a->L2.upd H1 a (.lst (us.map T.val)) b=some w:=fun b w e n=>by rw [Ar n]; exact e
 have aus:a ∉ T.rests us 0:=fun z=>by
  rcases (T.alls_iff us (k - 1 - lnP q)).mp z with z | z
  ·rcases hA a z with y | y
   ·exact nd1.1 y
   ·exact f0 a y arest
  ·rcases hB a z with y | y
   ·exact nd2 a y (aac ..)
   ·exact n0 a y aadr
 have hs:(T.lst a us).Ok p (L2.upd H1 a (.lst (us.map T.val))):=⟨.inl A9,T.oks_iff.mpr fun u hu=>DO hkeep hpl (T.oks_iff.mp hus u hu) fun z=>aus (T.mem_rests.mpr ⟨u,hu,z⟩)⟩
 obtain ⟨t',p1,p2,p3,p4,p5,p6⟩:=KA hkeep hpl hs hFN q hq hl (S.nd x t k hx hm) (S1.at hx hm (by intro c; cases c)) f0 n0 hA hB hnd
 have all':∀ b ∈ t'.rest 0,b ∈ t.rest 0\/N b:=fun b z=>by
  rcases (T.all_iff t' k).mp z with z | z
  ·exact (p5 b z).imp (fun y=>(T.all_iff t k).mpr (.inl y)) (hFN b)
  ·exact (p6 b z).imp (fun y=>(T.all_iff t k).mpr (.inr y)) id
 have sm0:0 < k/\k < 90:=of_decide_eq_true (S.small _ (aae hm))
 have sm:=sm0.2
 have other:∀ {j:Nat} {u:T} {d:Md},j ≠ x->τ[j]?=some (some u)->m1[j]?=some d->d ≠ .dead->u.Ok p (L2.upd H1 a (.lst (us.map T.val))):=by
  intro j u d ne e hd nd
  obtain ⟨h1,h2⟩:=hmo j d ne hd nd
  refine DO hkeep hpl (S1.at e h1 nd) ?_
  cases d with
  | sh=>exact S.sep x j t u k _ (Ne.symm ne) hx hm e h1 nd a aadr
  | ow k2=>exact S.sep x j t u k _ (Ne.symm ne) hx hm e h1 nd a aadr
  | br k2 =>
   cases q with
   | nil =>
    cases hq
    exact S.top x j _ u k k2 hx hm e h1 a ts rfl
   | cons _ _=>exact absurd rfl (h2 (by simp) k2)
  | dead=>exact absurd rfl nd
 refine ⟨t',p1,p2,⟨by rw [aaB,hlen]; exact S.len,fun d hd=>?_,fun b u e=>?_,fun i u j e ej l=>?_,fun i u k' b e hk' z=>?_,fun b sh=>?_,fun i u k' e hk'=>?_,fun i j u w k' d ne e hk' e' hd nd b z=>?_,fun i j u w k' k2 e hk' e' hd b cs z=>?_⟩,
  fun b u e n=>?_,fun b o=>?_,fun i hi=>?_,fun i _=>by rw [Ov hx p2]⟩
 ·obtain ⟨i,hi,rfl⟩:=abJ hd
  by_cases z:i=x
  ·subst z
   rw [aah hi] at hmx
   rw [Option.some.inj hmx]
   exact decide_eq_true sm0
  ·by_cases y:m1[i]=.dead
   ·rw [y]; rfl
   ·exact S.small _ (aae (hmo i _ z (aah hi) y).1)
 ·rw [Ar (fun z=>by
   have:=(S.own x t k a hx hm aadr).1
   rw [z] at e
   rw [this] at e; cases e)]
  exact S1.same b u e
 ·obtain ⟨d,hd,rfl⟩:=A6 ej
  rcases Al e with ⟨rfl,e2⟩ | ⟨ne,e1⟩
  ·cases e2; exact p3
  ·exact other ne e1 hd (fun z=>by subst z; exact absurd l (by decide))
 ·rcases Al e with ⟨rfl,e2⟩ | ⟨ne,e1⟩
  ·cases e2
   rw [hmx] at hk'
   cases hk'
   rcases p5 b z with y | y
   ·obtain ⟨y1,vs,y2⟩:=S1.own i t k b hx hm y
    by_cases w:b=a
    ·subst w; exact ⟨y1,_,A9⟩
    ·exact ⟨y1,vs,hkeep _ _ y2 w⟩
   ·obtain ⟨y1,vs,y2⟩:=f1 b y
    exact ⟨y1,vs,hkeep _ _ y2 fun w=>f0 b y (w ▸ arest)⟩
  ·obtain ⟨h1,_⟩:=hmo i _ ne hk' (by intro c; cases c)
   obtain ⟨y1,vs,y2⟩:=S1.own i u k' b e1 h1 z
   exact ⟨y1,vs,hkeep _ _ y2 fun w=>S.sep x i t u k _ (Ne.symm ne) hx hm e1 h1 (by intro c; cases c) a aadr (w ▸ (T.all_iff u k').mpr (.inl z))⟩
 ·obtain ⟨i,u,j,e,ej,l,z⟩:=sh
  obtain ⟨d,hd,rfl⟩:=A6 ej
  rcases Al e with ⟨rfl,e2⟩ | ⟨ne,e1⟩
  ·cases e2
   rw [hmx] at hd
   cases hd
   rcases p6 b z with y | y
   ·exact S.src b ⟨i,t,k,hx,AW hm,sm,y⟩
   ·exact n1 b y
  ·obtain ⟨h1,_⟩:=hmo i _ ne hd (fun z=>by subst z; exact absurd l (by decide))
   exact S.src b ⟨i,u,_,e1,AW h1,l,z⟩
 ·rcases Al e with ⟨rfl,e2⟩ | ⟨ne,e1⟩
  ·cases e2
   rw [hmx] at hk'
   cases hk'
   exact p4
  ·exact S.nd i u k' e1 (hmo i _ ne hk' (by intro c; cases c)).1
 ·rcases Al e with ⟨rfl,e2⟩ | ⟨ne1,e1⟩
  ·cases e2
   rw [hmx] at hk'
   cases hk'
   rcases Al e' with ⟨z',_⟩ | ⟨ne2,e3⟩
   ·exact absurd z'.symm ne
   ·rcases p5 b z with y | y
    ·exact S.sep i j t w k d ne hx hm e3 (hmo j d ne2 hd nd).1 nd b y
    ·exact f2 j w d ne2 e3 hd nd b y
  ·obtain ⟨h1,_⟩:=hmo i _ ne1 hk' (by intro c; cases c)
   rcases Al e' with ⟨z',e2⟩ | ⟨ne2,e3⟩
   ·cases e2
    subst z'
    rw [hmx] at hd
    cases hd
    intro y
    rcases all' b y with y | y
    ·exact S.sep i j u t k' _ ne e1 h1 hx hm (by intro c; cases c) b z y
    ·exact n2 i u k' ne1 e1 hk' b y z
   ·exact S.sep i j u w k' d ne e1 h1 e3 (hmo j d ne2 hd nd).1 nd b z
 ·have ne2:j ≠ x:=fun y=>by subst y; rw [hmx] at hd; cases hd
  rcases Al e' with ⟨y,_⟩ | ⟨_,e3⟩
  ·exact absurd y ne2
  obtain ⟨h3,h4⟩:=hmo j _ ne2 hd (by intro c; cases c)
  rcases Al e with ⟨rfl,e2⟩ | ⟨ne1,e1⟩
  ·cases e2
   rw [hmx] at hk'
   cases hk'
   cases q with
   | nil =>
    cases hq
    cases p1
    cases z
    exact S.top i j _ w k k2 hx hm e3 h3 _ ts rfl
   | cons _ _=>exact absurd rfl (h4 (by simp) k2)
  ·exact S.top i j u w k' k2 e1 (hmo i _ ne1 hk' (by intro c; cases c)).1 e3 h3 b cs z
 ·rw [Ar (show b ≠ a from fun z=>n ⟨x,t,k,hx,hm,by rw [z]; exact aadr⟩)]
  exact s b u e
 ·obtain ⟨i,u,k',e,hk',z⟩:=o
  rcases Al e with ⟨rfl,e2⟩ | ⟨ne,e1⟩
  ·cases e2
   rw [hmx] at hk'
   cases hk'
   rcases p5 b z with y | y
   ·exact .inl ⟨i,t,k,hx,hm,y⟩
   ·exact f4 b y
  ·exact .inl ⟨i,u,k',e1,(hmo i _ ne hk' (by intro c; cases c)).1,z⟩
 ·rw [aan (fun z=>hi (by simp [z]))]
end
structure Zx where
 p:Px
 H0:Hp
 A0:Addr->Prop
 EX:EXT
 mx:Ms
 dep:Nat
noncomputable def Um.kind:Um->Nat
 | .append=>1
 | .extend=>2
 | _=>0
mutual
noncomputable def wrS:S->List Nat
 | .asg x _ _=>[x,x + 1000]
 | .dem _ _=>[]
 | .dead _=>[]
 | .asgT xs _=>up xs
 | .set x _ _ _=>[x]
 | .mut x _ _ _=>[x]
 | .expr _=>[]
 | .iff _ a b=>wrSs a ++ wrSs b
 | .wh _ b=>wrSs b
 | .for_ g _ b=>up g.sl ++ wrSs b
 | .ret _=>[]
 | .raise _ _=>[]
 | .eachZ x z y _=>[x,z,y,x + 1000,z + 1000]
 | .put _ y _=>[y]
noncomputable def wrSs:Ss->List Nat
 | .nil=>[]
 | .cons s r=>wrS s ++ wrSs r
end
noncomputable def VM (a b:Ms):Ms:=List.zipWith Md.meet a b
noncomputable def M7:Option Ms->Option Ms->Option Ms
 | none,b=>b
 | a,none=>a
 | some a,some b=>some (VM a b)
noncomputable def okJ:Option Ms->Option Ms->Bool
 | some a,some r=>leM a r
 | none,_=>true
 | some _,none=>false
noncomputable def It.nmOf:It->Option Nat
 | .seqL (.nm x)=>some x
 | _=>none
noncomputable def rk (m:Ms) (e:E):Option Nat:=match e with
 | .nm i=>match m[i]? with
  | some (.ow k)=>some k
  | some .sh=>some 0
  | _=>none
 | e=>(jk (tnM m) e).bind fun x=>if x.1=0 then some x.2 else none
noncomputable def Au (m:Ms):Ms:=m.map fun d=>match d with
 | .br _=>.dead
 | d=>d
noncomputable def EE (m:Ms):List (Bool × E)->Bool
 | []=>true
 | (_,e) :: r=>(jk (tnM m) e).isSome && EE m r
noncomputable def lnE:List (Bool × E)->Nat
 | []=>0
 | (false,_) :: r=>lnE r + 1
 | (true,_) :: r=>lnE r
noncomputable def Es.mvOf (m:Ms):Es->Option (Nat × Nat)
 | .cons (.nm y) .nil=>match m[y]? with
  | some (.ow k)=>some (y,k)
  | _=>none
 | _=>none
noncomputable def KC (m:Ms) (y z:Nat):Bool:=!(z==y) && match m[z]? with
 | some .sh=>true
 | some (.ow _)=>true
 | _=>false
mutual
noncomputable def msS (mx:Ms) (dep:Nat):S->Ms->Option (Option Ms)
 | .asg x k e,m=>(jk (tnM m) e).bind fun c=>if c.1=0/\k<=c.2/\x < m.length/\k < 90/\leM m mx=true then some (some (m.set x (mdK k))) else none
 | .dem x k,m=>if leM m (m.set x (mdK k))=true then some (some (m.set x (mdK k))) else none
 | .dead x,m=>if leM m (m.set x .dead)=true then some (some (m.set x .dead)) else none
 | .asgT xs e,m=>(jk (tnM m) e).bind fun c=>if c.1=0/\leM m mx=true then some (some (At m xs .sh)) else none
 | .set x p i e,m=>(jk (tnM m) e).bind fun c=>(jk (tnM m) i).bind fun _=>match m[x]? with
  | some (.ow k)=>if c.1=0/\lnE p < k/\k - 1 - lnE p<=c.2/\EE m p=true/\leM m mx=true then some (some (if p.isEmpty then m else Au m)) else none
  | _=>none
 | .mut x p u es,m=>match m[x]? with
  | some (.ow k)=>if lnE p < k/\EE m p=true/\leM m mx=true then (match es.mvOf m with
    | some (y,ky)=>if u=.append/\y ≠ x/\k - 1 - lnE p<=ky/\p.isEmpty=true then some (some (m.set y (.br ky))) else none
    | none=>(jks (tnM m) es).bind fun c=>if (c.1=0\/(u=.extend/\c.1<=1))/\(k - 1 - lnE p=0\/(u.kind=1/\k - 1 - lnE p<=c.2)\/(u.kind=2/\k - lnE p<=c.2)\/u.kind=0) then some (some (if p.isEmpty then m else Au m)) else none) else none
  | _=>none
 | .expr e,m=>(jk (tnM m) e).bind fun _=>if leM m mx=true then some (some m) else none
 | .iff c a b,m=>(jk (tnM m) c).bind fun _=>if leM m mx=true then (msSs mx dep a m).bind fun ra=>(msSs mx dep b m).bind fun rb=>if okJ ra (M7 ra rb)=true/\okJ rb (M7 ra rb)=true then some (M7 ra rb) else none
  else none
 | .wh c b,m=>(jk (tnM m) c).bind fun _=>if leM m mx=true then (msSs mx dep b m).bind fun r=>match r with
   | none=>some (some m)
   | some mb=>if leM mb m=true then some (some m) else none
  else none
 | .for_ g it b,m=>(jkI (tnM m) it).bind fun j=>if leM m mx=true/\leM m (At m g.sl .dead)=true/\(j=0\/∃ x,it.nmOf=some x/\x ∉ wrSs b/\x ∉ up g.sl) then (msSs mx dep b (At (At m g.sl .dead) g.sl .sh)).bind fun r=>match r with
   | none=>some (some (At m g.sl .dead))
   | some mb=>if leM mb (At m g.sl .dead)=true then some (some (At m g.sl .dead)) else none
  else none
 | .ret e,m=>(rk m e).bind fun k=>if dep<=k/\leM m mx=true then some none else none
 | .raise _ es,m=>(jks (tnM m) es).bind fun _=>if leM m mx=true then some none else none
 | .eachZ x z y e,m=>match m[y]? with
  | some (.ow k)=>(jk (tnM m) e).bind fun c=>if k=2/\x ≠ y/\z ≠ y/\x ≠ z/\x < m.length/\z < m.length/\c.1=0/\leM m mx=true/\leM m (((Au m).set x .dead).set z .dead)=true then some (some (((Au m).set x .dead).set z .dead)) else none
  | _=>none
 | .put _ y zs,m=>match m[y]? with
  | some (.ow k)=>if k=2/\leM m mx=true/\leM m (Au m)=true/\zs.all (KC m y)=true then some (some (Au m)) else none
  | _=>none
noncomputable def msSs (mx:Ms) (dep:Nat):Ss->Ms->Option (Option Ms)
 | .nil,m=>some (some m)
 | .cons s r,m=>(msS mx dep s m).bind fun o=>match o with
  | none=>some none
  | some m1=>msSs mx dep r m1
end
noncomputable def lOut (Z:Zx) (m:Ms) (r:Option Ms) (w:List Nat) (o:Out) (τ:Ft) (H:Hp) (D:Ends):Prop:=match o with
 | .nxt δ'=>∀ (m':Ms) (τ':Ft) (H':Hp),r=some m'->dτ τ'=δ'->Sf Z.p Z.H0 Z.A0 m' τ' H'->Stp m m' w τ τ' H H'->D.nx (vτ τ') H'
 | .ret d=>∀ (t:T) (H':Hp),t.dat=d->Rs Z.p Z.A0 Z.H0 H' 0 Z.dep t->D.rt t.val H'
 | .exc c δ'=>Z.p.has c=true->∀ (τ':Ft) (H':Hp),dτ τ'=δ'->Sf Z.p Z.H0 Z.A0 Z.mx τ' H'->Stp m Z.mx w τ τ' H H'->Z.EX (vτ τ') (.ref (Z.p.cl c)) none H'
 | .bad=>False
noncomputable def lS (Z:Zx) (s:S):TS:=fun D σ H=>∃ τ m r,σ=vτ τ/\Sf Z.p Z.H0 Z.A0 m τ H/\msS Z.mx Z.dep s m=some r/\lOut Z m r (wrS s) (ex s (dτ τ)) τ H D
noncomputable def lSs (Z:Zx) (s:Ss):TS:=fun D σ H=>∃ τ m r,σ=vτ τ/\Sf Z.p Z.H0 Z.A0 m τ H/\msSs Z.mx Z.dep s m=some r/\lOut Z m r (wrSs s) (exs s (dτ τ)) τ H D
theorem PSs.mono {X:Cx} {st:List Stmt} {t t':TS} (h:PSs X st t) (m:∀ D σ H,t' D σ H->t D σ H):PSs X st t':=fun pins s σ H D I q=>h pins s σ H D I (m _ _ _ q)
section
variable {Z:Zx} {m:Ms} {r:Option Ms} {w:List Nat} {τ:Ft} {H:Hp} {D:Ends} {X:Cx} {pos:Pos}
theorem lOut.lg {α:Type} {q:Res α} {f:α->Out} (S:Sf Z.p Z.H0 Z.A0 m τ H) (hm:leM m Z.mx=true) (h:lOut Z m r w (q.out (dτ τ) f) τ H D):Lg Z.p Z.EX (vτ τ) q H fun a=>lOut Z m r w (f a) τ H D:=by
 cases q with
 | ok a=>exact h
 | exc c=>exact fun hc H' s=>h hc τ H' rfl ((S.weak hm).grow s) (Stp.refl w hm s)
 | bad=>exact h
theorem AE {c:Prop} [Decidable c] {α:Type} {x y:α} (h:(if c then some x else none)=some y):c/\x=y:=by
 split at h
 ·exact ⟨‹_›,Option.some.inj h⟩
 ·cases h
theorem UR {x k:Nat} {e:E} {σ:L2.St} (h:lS Z (.asg x k e) D σ H):∃ τ m,σ=vτ τ/\Sf Z.p Z.H0 Z.A0 m τ H/\F9 (lE Z.p Z.EX (tnM m) e) (ET x) D σ H:=by
 obtain ⟨τ,m,r,rfl,S,hr,h⟩:=h
 simp only [msS] at hr
 obtain ⟨⟨j1,k1⟩,h1,hr⟩:=bS hr
 obtain ⟨⟨c1,c2,c3,c4,c5⟩,rfl⟩:=AE hr
 have c1:j1=0:=c1
 subst c1
 refine ⟨τ,m,rfl,S,τ,rfl,S.ok,0,k1,h1,?_⟩
 simp only [ex] at h
 refine (h.lg S c5).mono (Same.refl _) fun d _ h t H1 ht R=>?_
 subst ht
 obtain ⟨S2,P2⟩:=UQ S R c2 c3 c4
 show D.nx ((vτ τ).set x (some t.val)) H1
 rw [<- GU]
 exact h _ _ H1 rfl (CH τ x t) S2 P2
end
theorem Eg {m:Ms} {i:Nat} {d:Md} (h:(Au m)[i]?=some d):(d=.dead)\/(m[i]?=some d/\∀ k2,d ≠ .br k2):=by
 unfold Au at h
 rw [aam] at h
 obtain ⟨d',h1,h2⟩:=aau.mp h
 cases d' with
 | br k=>exact .inl h2.symm
 | sh=>cases h2; exact .inr ⟨h1,by simp⟩
 | ow k=>cases h2; exact .inr ⟨h1,by simp⟩
 | dead=>exact .inl h2.symm
theorem E2 {m:Ms} {i k:Nat} (h:m[i]?=some (.ow k)):(Au m)[i]?=some (.ow k):=by
 unfold Au; rw [aam,h]; rfl
section
variable {p:Px} {H0:Hp} {A0:Addr->Prop} {m:Ms} {τ:Ft} {H H1:Hp}
theorem Oy {x k:Nat} {t:T} {q:List (Bool × Int)} {a:Addr} {ts us es:List T} (S:Sf p H0 A0 m τ H) (s:Same H H1) (hx:τ[x]?=some (some t)) (hm:m[x]?=some (.ow k)) (hq:AU q t=some (.lst a ts)) (hl:lnP q < k) (hus:T.Oks p H1 us)
  (hA:∀ b ∈ T.adrs us (k - 1 - lnP q),b ∈ T.adrs ts (k - 1 - lnP q)\/b ∈ T.adrs es (k - 1 - lnP q)) (hB:∀ b ∈ T.rests us (k - 1 - lnP q),b ∈ T.rests ts (k - 1 - lnP q)\/b ∈ T.rests es 0)
  (hnd:T.Nds ts (k - 1 - lnP q)->(∀ b ∈ T.adrs es (k - 1 - lnP q),b ∉ T.rests ts 0)->(∀ b ∈ T.adrs ts (k - 1 - lnP q),b ∉ T.rests es 0)->T.Nds us (k - 1 - lnP q))
  (src:∀ b ∈ T.rests es 0,H b=none\/Sh (tnM m) τ b) (new:∀ b ∈ T.adrs es (k - 1 - lnP q),H b=none/\∃ vs,H1 b=some (.lst vs)) :
  ∃ t',Dx (.lst a us) q t=some t'/\t'.val=t.val/\Sf p H0 A0 (if q.isEmpty then m else Au m) (τ.set x (some t')) (L2.upd H1 a (.lst (us.map T.val)))/\Stp m (if q.isEmpty then m else Au m) [x] τ (τ.set x (some t')) H (L2.upd H1 a (.lst (us.map T.val))):=by
 have dom:∀ {j:Nat} {u:T} {d:Md},τ[j]?=some (some u)->m[j]?=some d->d ≠ .dead->∀ b ∈ u.rest 0,H b ≠ none:=fun e hd nd b z=>(S.at e hd nd).dom z
 obtain ⟨ain,aad⟩:=D4 q (k:=k) hq (by omega)
 have ek:k - lnP q=(k - 1 - lnP q) + 1:=by omega
 have nds:=Ig q hq (by omega:lnP q<=k) (S.nd x t k hx hm)
 rw [ek] at nds aad
 have ndt:T.Nds ts (k - 1 - lnP q):=by
  obtain ⟨n1,n2⟩:=nds
  simp only [T.adr,T.rest,aaM] at n1 n2
  exact ⟨n1.2,fun b z y=>n2 b z (aaa _ y)⟩
 have hxd:∀ b ∈ t.rest 0,H b ≠ none:=dom hx hm (by intro c; cases c)
 have notOwn:∀ b ∈ T.rests es 0,¬ Own m τ b:=fun b z o=>by
  rcases src b z with y | y
  ·obtain ⟨_,vs,e⟩:=S.ownOk o
   rw [e] at y; cases y
  ·exact S.disj o y
 have hm1:∀ (j:Nat) (d:Md),(if q.isEmpty then m else Au m)[j]?=some d->d ≠ .dead->m[j]?=some d/\(q ≠ []->∀ k2,d ≠ .br k2):=by
  intro j d hd nd
  cases q with
  | nil=>exact ⟨hd,fun z=>absurd rfl z⟩
  | cons z r =>
   rcases Eg hd with y | ⟨y1,y2⟩
   ·exact absurd y nd
   ·exact ⟨y1,fun _=>y2⟩
 refine KB (F:=fun b=>b ∈ T.adrs es (k - 1 - lnP q)) (N:=fun b=>b ∈ T.rests es 0) S s hx hm hq hl hus (fun b z=>(T.alls_iff es _).mpr (.inl z)) hA hB ?_ (fun b z y=>hxd b y (new b z).1) (fun b z=>⟨S.same.free (new b z).1,(new b z).2⟩) (fun b z=>.inr (new b z).1)
  (fun b z y=>notOwn b z ⟨x,t,k,hx,hm,y⟩) (fun b z=>?_) ?_ ?_ (fun j d _ hd nd=>hm1 j d hd nd) (fun j u d ne e hd nd b z y=>?_) (fun i u k' ne e hk b z y=>?_)
 ·refine hnd ndt (fun b z y=>?_) (fun b z y=>?_)
  ·exact hxd b (ain b (aaa _ y)) (new b z).1
  ·exact notOwn b y ⟨x,t,k,hx,hm,aad b (aaa _ z)⟩
 ·rcases src b z with y | y
  ·exact .inl (S.same.free y)
  ·exact S.src b y
 ·split
  ·rfl
  ·unfold Au; rw [aab]
 ·split
  ·exact hm
  ·exact E2 hm
 ·exact dom e (hm1 j d hd nd).1 nd b (T.rest_le u (aar _) y) (new b z).1
 ·exact notOwn b z ⟨i,u,k',e,(hm1 i _ hk (by intro c; cases c)).1,y⟩
theorem KD {ts:List T} {e:T} {k:Nat} (ne:e.Nd k) (h1:T.Nds ts k) (h2:∀ b ∈ T.adrs [e] k,b ∉ T.rests ts 0) (h3:∀ b ∈ T.adrs ts k,b ∉ T.rests [e] 0):T.Nds (ts ++ [e]) k :=
 T.nds_append h1 (T.nds_cons.mpr ⟨ne,by simp [T.Nds,T.adrs],by simp [T.rests],by simp [T.adrs]⟩) h3 h2
theorem So {ts:List T} {j:Nat} {c e:T} {k:Nat} (hc:ts[j]?=some c) (ne:e.Nd k) (h1:T.Nds ts k) (h2:∀ b ∈ T.adrs [e] k,b ∉ T.rests ts 0) (h3:∀ b ∈ T.adrs ts k,b ∉ T.rests [e] 0) :
  T.Nds (ts.set j e) k/\(∀ b ∈ T.adrs (ts.set j e) k,b ∈ T.adrs ts k\/b ∈ T.adrs [e] k)/\(∀ b ∈ T.rests (ts.set j e) k,b ∈ T.rests ts k\/b ∈ T.rests [e] 0):=by
 obtain ⟨l1,l2,e1,e2⟩:=D3 hc
 rw [e1] at h1 h2 h3
 rw [e2,e1]
 refine ⟨Dn.mpr ⟨(Dn.mp h1).1,ne,fun b z y=>h2 b (by simpa [T.adrs] using z) ?_,fun b z y=>h3 b ?_ (by simpa [T.rests] using y)⟩,fun b z=>?_,fun b z=>?_⟩
 ·simp only [T.rests_append,T.rests,aai] at y ⊢
  rcases y with y | y
  ·exact .inl y
  ·exact .inr (.inr y)
 ·simp only [T.adrs_append,T.adrs,aai] at z ⊢
  rcases z with z | z
  ·exact .inl z
  ·exact .inr (.inr z)
 ·simp only [T.adrs_append,T.adrs,aai,aaL] at z ⊢
  rcases z with z | z | z
  ·exact .inl (.inl z)
  ·exact .inr z
  ·exact .inl (.inr (.inr z))
 ·simp only [T.rests_append,T.rests,aai,aaL] at z ⊢
  rcases z with z | z | z
  ·exact .inl (.inl z)
  ·exact .inr (T.rest_le e (aar _) z)
  ·exact .inl (.inr (.inr z))
end
theorem Gs:∀ (q:List (Bool × E)) (δ:Fr) (c:Nat),evP q δ ≠ .exc c
 | [],δ,c=>by simp [evP]
 | (t,e) :: r,δ,c=>by
  simp only [evP]
  split
  ·cases h:evP r δ with
   | ok is=>simp
   | exc c'=>exact absurd h (Gs r δ c')
   | bad=>simp
  ·simp
theorem KG:∀ (q:List (Bool × E)) {δ:Fr} {b:Bool} {e:E} {is:List (Bool × Int)},evP (q ++ [(b,e)]) δ=.ok is->∃ js i,evP q δ=.ok js/\ev e δ=.ok (.int i)/\is=js ++ [(b,i)]
 | [],δ,b,e,is,h=>by
  simp only [aaX,evP] at h
  split at h
  ·rename_i i he
   simp only [Res.bind_ok] at h
   cases h
   exact ⟨[],i,rfl,he,rfl⟩
  ·cases h
 | (t,e') :: r,δ,b,e,is,h=>by
  simp only [aa7,evP] at h
  split at h
  ·rename_i i' he'
   obtain ⟨js',h1,h2⟩:=Res.bind_eq_ok h
   cases h2
   obtain ⟨js,i,h3,h4,rfl⟩:=KG r h1
   exact ⟨(t,i') :: js,i,by simp only [evP,he',h3,Res.bind_ok],h4,rfl⟩
  ·cases h
theorem Gu:∀ (q:List (Bool × Int)) {t s':T} {b:Bool} {i:Int},AU (q ++ [(b,i)]) t=some s'->∃ s,AU q t=some s/\AU [(b,i)] s=some s'
 | [],t,s',b,i,h=>⟨t,rfl,h⟩
 | (c,j) :: r,t,s',b,i,h=>by
  cases c with
  | false =>
   cases t with
   | lst a ts =>
    simp only [aa7,AU] at h ⊢
    obtain ⟨n,h1,h⟩:=bS h
    obtain ⟨u,h2,h⟩:=bS h
    obtain ⟨s,h3,h4⟩:=Gu r h
    exact ⟨s,by rw [h1]; simp only [abe]; rw [h2]; exact h3,h4⟩
   | _=>cases h
  | true =>
   cases t with
   | tup a ts =>
    simp only [aa7,AU] at h ⊢
    obtain ⟨n,h1,h⟩:=bS h
    obtain ⟨u,h2,h⟩:=bS h
    obtain ⟨s,h3,h4⟩:=Gu r h
    exact ⟨s,by rw [h1]; simp only [abe]; rw [h2]; exact h3,h4⟩
   | _=>cases h
theorem Fx {p:Px} {H:Hp}:∀ (q:List (Bool × Int)) {t s:T},t.Ok p H->AU q t=some s->s.Ok p H
 | [],t,s,ok,h=>by cases h; exact ok
 | (c,j) :: r,t,s,ok,h=>by
  cases c with
  | false =>
   cases t with
   | lst a ts =>
    simp only [AU] at h
    obtain ⟨n,h1,h⟩:=bS h
    obtain ⟨u,h2,h⟩:=bS h
    exact Fx r (T.oks_iff.mp ok.2 u (aae h2)) h
   | _=>cases h
  | true =>
   cases t with
   | tup a ts =>
    simp only [AU] at h
    obtain ⟨n,h1,h⟩:=bS h
    obtain ⟨u,h2,h⟩:=bS h
    exact Fx r (T.oks_iff.mp ok.2 u (aae h2)) h
   | _=>cases h
theorem Sq {b:Bool} {i:Int} {s s':T} (h:AU [(b,i)] s=some s'):(∃ a ts,s=.lst a ts/\atI (ts.map T.val) i=some s'.val)\/(∃ a ts,s=.tup a ts/\atI (ts.map T.val) i=some s'.val):=by
 cases b with
 | false =>
  cases s with
  | lst a ts =>
   simp only [AU] at h
   obtain ⟨n,h1,h⟩:=bS h
   obtain ⟨u,h2,h⟩:=bS h
   cases h
   refine .inl ⟨a,ts,rfl,?_⟩
   unfold atI
   rw [aab,Ko,h1]
   show (ts.map T.val)[n]?=_
   rw [aam,h2]; rfl
  | _=>cases h
 | true =>
  cases s with
  | tup a ts =>
   simp only [AU] at h
   obtain ⟨n,h1,h⟩:=bS h
   obtain ⟨u,h2,h⟩:=bS h
   cases h
   refine .inr ⟨a,ts,rfl,?_⟩
   unfold atI
   rw [aab,Ko,h1]
   show (ts.map T.val)[n]?=_
   rw [aam,h2]; rfl
  | _=>cases h
noncomputable def Q0 (tn:List Nat) (q:List (Bool × E)):Prop:=∀ e ∈ q,(jk tn e.2).isSome=true
noncomputable def lPl (p:Px) (EX:EXT) (tn:List Nat) (x:Nat) (q:List (Bool × E)):TE:=fun σ H Q=>∃ τ t is s,σ=vτ τ/\Fok p tn τ H/\Q0 tn q/\τ[x]?=some (some t)/\t.Ok p H/\evP q (dτ τ)=.ok is/\AU is t=some s/\∀ H',Same H H'->Q s.val H'
noncomputable def Fi (c:CkC) (x:Nat):List (Bool × E)->Expr->Bool
 | [],.Name y _=>(c.N[x]?==some y) && BT c.sc y && AO y
 | (_,e) :: r,.Subscript o i _=>Fi c x r o && ckE c e i && B4 i
 | _,_=>false
section
variable {p:Px} {c:CkC} {lv:Nat} {X:Cx} {EX:EXT} {tn:List Nat} {pos np:Pos}
theorem M8 (C:Ct p c lv X EX) {x:Nat}:∀ {rp:List (Bool × E)} {o:Expr},(∀ e ∈ rp,∀ n ∈ e.2.need,NeedOk p lv X n)->Fi c x rp o=true->PE X o (lPl p EX tn x rp.reverse)
 | [],o,hn,h=>by
  cases o with
  | Name y q =>
   obtain ⟨h,h3⟩:=Aa (show ((c.N[x]?==some y) && BT c.sc y && AO y)=true from h)
   obtain ⟨h1,h2⟩:=Aa h
   obtain ⟨d1,d2⟩:=Bl h3
   refine PE.mono (Dr (by rw [C.N]; exact beq_iff_eq.mp h1) (C.vis h2) d1 d2) fun σ H Q h=>?_
   obtain ⟨τ,t,is,s,rfl,hF,_,ht,ok,e,hs,hq⟩:=h
   simp only [List.reverse_nil,evP] at e
   cases e
   cases hs
   exact ⟨_,BS ht,hq H (Same.refl _)⟩
  | _=>exact nF h
 | (b,e) :: rp,o,hn,h=>by
  cases o with
  | Subscript o' i q =>
   obtain ⟨h,h3⟩:=Aa (show (Fi c x rp o' && ckE c e i && B4 i)=true from h)
   obtain ⟨h1,h2⟩:=Aa h
   have A:=M8 C (rp:=rp) (o:=o') (fun e he=>hn e (aaa _ he)) h1
   have B:=(snd e C (tn:=tn) i (hn (b,e) (aac ..)) h2).1
   refine PE.mono (MJ (II.or NU) A B (Gj h3)) fun σ H Q h=>?_
   rw [ab4] at h
   obtain ⟨τ,t,is,s,rfl,hF,hj,ht,ok,ev1,hs,hq⟩:=h
   obtain ⟨js,n,e1,e2,rfl⟩:=KG _ ev1
   obtain ⟨s1,hs1,hs2⟩:=Gu _ hs
   refine ⟨τ,t,js,s1,rfl,hF,fun e he=>hj e (aaw _ he),ht,ok,e1,hs1,fun H1 sm=>?_⟩
   obtain ⟨⟨j,k⟩,hj'⟩:=aaz.mp (hj (b,e) (aak _ (aaN.mpr rfl)))
   refine ⟨τ,rfl,hF.same sm,j,k,hj',?_⟩
   rw [e2]
   intro t2 H2 ht2 R
   have hv:t2.val=.int n:=by cases t2 <;> simp [T.dat] at ht2 <;> simp [T.val,ht2]
   rw [hv]
   have ok1:=(Fx _ ok hs1).same (sm.trans R.same)
   rcases Sq hs2 with ⟨a,ts,rfl,at1⟩ | ⟨a,ts,rfl,at1⟩
   ·exact .inl ⟨a,_,n,_,rfl,rfl,.inl ok1.1,at1,hq H2 (sm.trans R.same)⟩
   ·exact .inr ⟨a,_,n,_,rfl,rfl,SqT.of ok1.1,at1,hq H2 (sm.trans R.same)⟩
  | _=>exact nF h
theorem E3 {m:Ms}:∀ {q:List (Bool × E)},EE m q=true->Q0 (tnM m) q
 | [],_=>fun e he=>nomatch he
 | (b,e) :: r,h=>by
  obtain ⟨h1,h2⟩:=Aa (show ((jk (tnM m) e).isSome && EE m r)=true from h)
  intro e' he
  rcases aal.mp he with rfl | he
  ·exact h1
  ·exact E3 h2 e' he
theorem KH:∀ {q:List (Bool × E)} {δ:Fr} {is:List (Bool × Int)},evP q δ=.ok is->lnP is=lnE q/\is.isEmpty=q.isEmpty
 | [],δ,is,h=>by simp only [evP] at h; cases h; exact ⟨rfl,rfl⟩
 | (b,e) :: r,δ,is,h=>by
  simp only [evP] at h
  split at h
  ·obtain ⟨js,h1,h2⟩:=Res.bind_eq_ok h
   cases h2
   have:=(KH h1).1
   cases b <;> simp [lnP,lnE,this]
  ·cases h
theorem L7 {δ:Fr} {x:Nat} {f:D->Option D} {Z:Zx} {m:Ms} {r:Option Ms} {w:List Nat} {τ:Ft} {H:Hp} {En:Ends} (h:lOut Z m r w (upd (dτ τ) x f) τ H En):∃ t d',τ[x]?=some (some t)/\f t.dat=some d'/\lOut Z m r w (.nxt ((dτ τ).set x (some d'))) τ H En:=by
 unfold upd at h
 cases q:(dτ τ)[x]? with
 | none=>rw [q] at h; exact nE h
 | some o =>
  rw [q] at h
  cases o with
  | none=>exact nE h
  | some d =>
   have:get (dτ τ) x=.ok d:=by unfold get; rw [q]
   obtain ⟨t,ht,rfl⟩:=Dl this
   simp only at h
   cases q2:f t.dat with
   | none=>rw [q2] at h; exact nE h
   | some d'=>rw [q2] at h; exact ⟨t,d',ht,q2,h⟩
end
theorem FV {τ:Ft} {x:Nat} {t t':T} (h:τ[x]?=some (some t)) (e:t'.val=t.val):vτ (τ.set x (some t'))=vτ τ:=by
 rw [GU,e]
 refine ab5 fun i=>?_
 by_cases z:x=i
 ·subst z
  rw [abv,BS h]; rfl
 ·rw [aan z]
theorem Hy {H:Hp} {a:Addr} {vs:List V} (h:Rd H a (.lst vs)) (hp:∃ ws,H a=some (.lst ws)):H a=some (.lst vs):=by
 obtain ⟨ws,e⟩:=hp
 rw [e,HY h (.inl e)]
section
variable {Z:Zx} {m:Ms} {r:Option Ms} {w:List Nat} {τ:Ft} {H:Hp} {D:Ends} {X:Cx} {pos:Pos} {σ:L2.St}
theorem US {x:Nat} {q:List (Bool × E)} {i e:E} (h:lS Z (.set x q i e) D σ H):∃ m,F9 (lE Z.p Z.EX (tnM m) e) (TF (lPl Z.p Z.EX (tnM m) x q) (lE Z.p Z.EX (tnM m) i) QT) D σ H:=by
 obtain ⟨τ,m,r,rfl,S,hr,h⟩:=h
 refine ⟨m,?_⟩
 simp only [msS] at hr
 obtain ⟨⟨j1,k1⟩,h1,hr⟩:=bS hr
 obtain ⟨⟨j2,k2⟩,h2,hr⟩:=bS hr
 split at hr
 ·rename_i k hmx
  obtain ⟨⟨c1,c2,c3,c4,c5⟩,rfl⟩:=AE hr
  have c1:j1=0:=c1
  subst c1
  simp only [ex] at h
  refine ⟨τ,rfl,S.ok,0,k1,h1,(h.lg S c5).mono (Same.refl _) fun d _ h te H1 hte R=>?_⟩
  subst hte
  cases ep:evP q (dτ τ) with
  | exc c=>exact absurd ep (Gs _ _ _)
  | bad=>rw [ep] at h; exact nE h
  | ok is =>
  rw [ep] at h
  cases ei:ev i (dτ τ) with
  | exc c=>rw [ei] at h; exact nE h
  | bad=>rw [ei] at h; exact nE h
  | ok di =>
  rw [ei] at h
  cases di with
  | int n =>
   simp only at h
   obtain ⟨t,d',ht,hu,h⟩:=L7 (δ:=dτ τ) h
   obtain ⟨a,ts,ds',hs,hf,hd'⟩:=GY is hu
   unfold JP at hf
   obtain ⟨j,hj,rfl⟩:=aau.mp hf
   rw [Ak] at hj
   obtain ⟨l1,l2⟩:=KH ep
   refine ⟨τ,t,is,.lst a ts,rfl,S.ok.same R.same,E3 c4,ht,(S.at ht hmx (by intro c; cases c)).same R.same,ep,hs,fun H2 s2=>?_⟩
   refine ⟨τ,rfl,S.ok.same (R.same.trans s2),j2,k2,h2,?_⟩
   rw [ei]
   intro t2 H3 ht2 R3
   have hv:t2.val=.int n:=by cases t2 <;> simp [T.dat] at ht2 <;> simp [T.val,ht2]
   rw [hv]
   have s3:Same H1 H3:=s2.trans R3.same
   have sH3:Same H H3:=R.same.trans s3
   have S3:=S.grow sH3
   have hl:lnP is < k:=by rw [l1]; exact c2
   have aadr:a ∈ t.adr k:=(D4 is (k:=k) hs (by omega)).2 a (by
    have:k - lnP is=(k - lnP is - 1) + 1:=by omega
    rw [this]; exact aac ..)
   have okt:=Fx _ (S3.at ht hmx (by intro c; cases c)) hs
   have hpl:=Hy okt.1 (S3.own x t k a ht hmx aadr).2
   have hjl:j < ts.length:=by
    unfold ixN at hj
    split at hj
    ·split at hj
     ·cases hj; omega
     ·cases hj
    ·split at hj
     ·cases hj; omega
     ·cases hj
   have hc:ts[j]?=some ts[j]:=aah hjl
   refine ⟨a,_,n,j,rfl,rfl,hpl,by rw [aab]; exact hj,?_⟩
   rw [<- abR]
   have R':Rs Z.p (Sh (tnM m) τ) H H3 0 (k - 1 - lnP is) te:=(R.fwd s3).le (aag _) (by rw [l1]; exact c3)
   obtain ⟨t',p1,p2,S4,P4⟩:=Oy (us:=ts.set j te) (es:=[te]) S sH3 ht hmx hs hl (T.oks_iff.mpr fun w hw=>by
     rcases aba hw with z | rfl
     ·exact T.oks_iff.mp okt.2 w z
     ·exact R'.ok)
    (fun b z=>(show b ∈ T.adrs ts _\/b ∈ T.adrs [te] _ from by
     obtain ⟨w,hw,z2⟩:=T.mem_adrs.mp z
     rcases aba hw with y | rfl
     ·exact .inl (T.mem_adrs.mpr ⟨w,y,z2⟩)
     ·exact .inr (by simpa [T.adrs] using z2)))
    (fun b z=>(by
     obtain ⟨w,hw,z2⟩:=T.mem_rests.mp z
     rcases aba hw with y | rfl
     ·exact .inl (T.mem_rests.mpr ⟨w,y,z2⟩)
     ·exact .inr (by simpa [T.rests] using T.rest_le w (aar _) z2)))
    (fun n1 n2 n3=>(So hc R'.nd n1 n2 n3).1)
    (fun b z=>R'.src b (by simpa [T.rests] using z)) (fun b z=>R'.new b (by simpa [T.adrs] using z))
   have:=h _ _ _ (by rw [l2]) (by rw [CH,hd' _ _ (FT ..) p1]) S4 P4
   rw [FV ht p2] at this
   exact this
  | _=>exact nE h
 ·cases hr
theorem L8 {K:Frag} {H:Hp} {a:Addr} {vs:List V} (h:H a=some (.lst vs)):tyV K "list" (.ref a) H:=.inl ⟨rfl,_,SqL.of h⟩
theorem KI {x:Nat} {q:List (Bool × E)} {u:Um} {es:Es} {k:Nat} (S:Sf Z.p Z.H0 Z.A0 m τ H) (hmx:m[x]?=some (.ow k)) (c2:lnE q < k) (c4:EE m q=true) (h:lOut Z m r [x] (ex (.mut x q u es) (dτ τ)) τ H D) :
  ∃ t is ds a ts ds',τ[x]?=some (some t)/\evP q (dτ τ)=.ok is/\evs es (dτ τ)=.ok ds/\AU is t=some (.lst a ts)/\lnP is=lnE q/\is.isEmpty=q.isEmpty/\umD u ds (T.dats ts)=some ds' /\
   (∀ H3,Same H H3->H3 a=some (.lst (ts.map T.val))/\T.Oks Z.p H3 ts/\a ∈ t.adr k) /\
   (∀ us m' H3 t',T.dats us=ds'->r=some m'->Dx (.lst a us) is t=some t'->t'.val=t.val->Sf Z.p Z.H0 Z.A0 m' (τ.set x (some t')) (L2.upd H3 a (.lst (us.map T.val)))->Stp m m' [x] τ (τ.set x (some t')) H (L2.upd H3 a (.lst (us.map T.val)))->D.nx (vτ τ) (L2.upd H3 a (.lst (us.map T.val)))):=by
 simp only [ex] at h
 cases ep:evP q (dτ τ) with
 | exc c=>exact absurd ep (Gs _ _ _)
 | bad=>rw [ep] at h; exact nE h
 | ok is =>
 rw [ep] at h
 cases ee:evs es (dτ τ) with
 | exc c=>rw [ee] at h; exact nE h
 | bad=>rw [ee] at h; exact nE h
 | ok ds =>
 rw [ee] at h
 simp only at h
 obtain ⟨t,d',ht,hu,h⟩:=L7 (δ:=dτ τ) h
 obtain ⟨a,ts,ds',hs,hf,hd'⟩:=GY is hu
 obtain ⟨l1,l2⟩:=KH ep
 refine ⟨t,is,ds,a,ts,ds',ht,rfl,rfl,hs,l1,l2,hf,fun H3 sH3=>?_,fun us m' H3 t' e1 e2 p1 p2 S4 P4=>?_⟩
 ·have S3:=S.grow sH3
  have hl:lnP is < k:=by rw [l1]; exact c2
  have aadr:a ∈ t.adr k:=(D4 is (k:=k) hs (by omega)).2 a (by
   have:k - lnP is=(k - lnP is - 1) + 1:=by omega
   rw [this]; exact aac ..)
  have okt:=Fx _ (S3.at ht hmx (by intro c; cases c)) hs
  exact ⟨Hy okt.1 (S3.own x t k a ht hmx aadr).2,okt.2,aadr⟩
 ·have:=h m' _ _ e2 (by rw [CH,hd' us t' e1 p1]) S4 P4
  rw [FV ht p2] at this
  exact this
noncomputable def rUm:Um->V->List V->Hp->VK->Prop
 | .append=>GP
 | .extend=>fun x vs H Q=>∃ l b xs zs,x=.ref l/\vs=[.ref b]/\H l=some (.lst xs)/\Rd H b (.lst zs)/\xs.length + zs.length<=sizeLine/\Q .non (L2.upd H l (.lst (xs ++ zs)))
 | .clear=>NW
noncomputable def Qc:V->List V->Hp->VK->Prop:=fun x vs H Q=>∃ l b xs zs,x=.ref l/\vs=[.ref b]/\H l=some (.lst xs)/\Rd H b (.lst zs)/\xs.length + zs.length<=sizeLine/\Q .non (L2.upd H l (.lst (xs ++ zs)))
end
section
variable {X:Cx}
theorem M9:MtM X "list.extend" Qc:=by
 intro pins s σ H x vs v us Q I rx rv h
 obtain ⟨l,b,xs,zs,rfl,rfl,hH,hB,hz,q⟩:=h
 cases rx
 obtain ⟨u,rfl,ru⟩:=rv.one
 cases ru
 obtain ⟨z,its,n,r,hl,e⟩:=I.lstM hH
 obtain ⟨z2,its2,n2,r2,hl2,e2⟩:=Inv.lstR I hB
 have hsz:its.toArray.size + its2.toArray.size<=sizeLine:=by rw [aaq,aaq]; omega
 have hlong:¬ (!its.toArray.isEmpty && Builtin.List.listTooLong (its.toArray.size + its2.toArray.size))=true:=by
  rw [J7 hsz,acL]
  exact aa0
 refine call_meets F.slot_list_extend ⟨_,e,rfl⟩ F.entry_list_extend (F.args_list_extend_2 _ _)
  (AutoSeq1.list_extend_list_list_0 l its.toArray n b its2.toArray n2 hlong (by rw [aaq]; omega) (by omega)) ⟨e,e2,?_⟩
 refine ⟨.non,_,I.lset (its':=its ++ its2) hH e (by simp) (r.append r2) ?_,rfl,q⟩
 rw [aaC]
 omega
end
section
variable {Z:Zx} {m:Ms} {r:Option Ms} {w:List Nat} {τ:Ft} {H:Hp} {D:Ends} {X:Cx} {pos:Pos} {σ:L2.St}
theorem Sr {x:Nat} {q:List (Bool × E)} {u:Um} {es:Es} {k:Nat} (hK:X.K=Z.p.K) (S:Sf Z.p Z.H0 Z.A0 m τ H) (hmx:m[x]?=some (.ow k)) (c2:lnE q < k) (c4:EE m q=true) {j1 k1:Nat} (h1:jks (tnM m) es=some (j1,k1))
  (hc:(j1=0\/(u=.extend/\j1<=1))/\(k - 1 - lnE q=0\/(u.kind=1/\k - 1 - lnE q<=k1)\/(u.kind=2/\k - lnE q<=k1)\/u.kind=0)) (hr:r=some (if q.isEmpty then m else Au m)) (h:lOut Z m r [x] (ex (.mut x q u es) (dτ τ)) τ H D) :
  lPl Z.p Z.EX (tnM m) x q (vτ τ) H fun v H1=>tyV X.K "list" v H1/\lEs Z.p Z.EX (tnM m) es (vτ τ) H1 fun vs H2=>rUm u v vs H2 fun _ H3=>D.nx (vτ τ) H3:=by
 obtain ⟨t,is,ds,a,ts,ds',ht,ep,ee,hs,l1,l2,hf,hpl,hnx⟩:=KI S hmx c2 c4 h
 subst hr
 refine ⟨τ,t,is,.lst a ts,rfl,S.ok,E3 c4,ht,S.at ht hmx (by intro c; cases c),ep,hs,fun H1 s1=>⟨L8 (hpl H1 s1).1,?_⟩⟩
 refine ⟨τ,rfl,S.ok.same s1,j1,k1,h1,?_⟩
 rw [ee]
 intro tes H2 hte R
 subst hte
 have s2:Same H H2:=s1.trans R.same
 obtain ⟨p0,okt,aadr⟩:=hpl H2 s2
 have hl:lnP is < k:=by rw [l1]; exact c2
 have fin:∀ us es',T.dats us=ds'->T.Oks Z.p H2 us->(∀ b ∈ T.adrs us (k - 1 - lnP is),b ∈ T.adrs ts (k - 1 - lnP is)\/b ∈ T.adrs es' (k - 1 - lnP is))->(∀ b ∈ T.rests us (k - 1 - lnP is),b ∈ T.rests ts (k - 1 - lnP is)\/b ∈ T.rests es' 0) ->
   (T.Nds ts (k - 1 - lnP is)->(∀ b ∈ T.adrs es' (k - 1 - lnP is),b ∉ T.rests ts 0)->(∀ b ∈ T.adrs ts (k - 1 - lnP is),b ∉ T.rests es' 0)->T.Nds us (k - 1 - lnP is))->(∀ b ∈ T.rests es' 0,H b=none\/Sh (tnM m) τ b)->(∀ b ∈ T.adrs es' (k - 1 - lnP is),H b=none/\∃ vs,H2 b=some (.lst vs)) ->
   D.nx (vτ τ) (L2.upd H2 a (.lst (us.map T.val))):=by
  intro us es' e1 e2 e3 e4 e5 e6 e7
  obtain ⟨t',p1,p2,S4,P4⟩:=Oy (us:=us) (es:=es') S s2 ht hmx hs hl e2 e3 e4 e5 e6 e7
  rw [l2] at S4 P4
  exact hnx us _ H2 t' e1 rfl p1 p2 S4 P4
 have hz:ts.length<=sizeLine\/True:=.inr trivial
 cases u with
 | append =>
  rcases tes with _ | ⟨te,_ | ⟨te2,ter⟩⟩
  ·cases hf
  ·simp only [T.dats,umD] at hf
   obtain ⟨hlt,rfl⟩:=AE hf
   have hj:j1=0:=by
    rcases hc.1 with z | ⟨z,_⟩
    ·exact z
    ·cases z
   subst hj
   have hk1:k - 1 - lnP is<=k1\/k - 1 - lnP is=0:=by
    rw [l1]
    rcases hc.2 with z | ⟨_,z⟩ | ⟨z,_⟩ | z
    ·exact .inr z
    ·exact .inl z
    ·cases z
    ·cases z
   refine ⟨a,_,te.val,rfl,rfl,p0,by rw [aab,<- Ak]; exact hlt,?_⟩
   have:=fin (ts ++ [te]) [te] (by rw [T.dats_map,aat,<- T.dats_map]; rfl) (T.oks_iff.mpr fun w hw=>by
     rcases aai.mp hw with z | z
     ·exact T.oks_iff.mp okt w z
     ·exact T.oks_iff.mp R.ok w z)
    (fun b z=>by rw [T.adrs_append,aai] at z; exact z) (fun b z=>by
     rw [T.rests_append,aai] at z
     refine z.imp id fun z=>?_
     simp only [T.rests,aaL] at z ⊢
     exact T.rest_le te (aar _) z)
    (fun n1 n2 n3=>KD (by
     rcases hk1 with z | z
     ·exact (T.nds_le z R.nd:T.Nds [te] _) |> fun w=>(T.nds_cons.mp w).1
     ·rw [z]; exact T.nd_zero te) n1 n2 n3)
    (fun b z=>(R.src b z).imp s1.free id) (fun b z=>by
     rcases hk1 with y | y
     ·obtain ⟨w,hw,z⟩:=T.mem_adrs.mp z
      have:=R.new b (T.mem_adrs.mpr ⟨w,hw,T.adr_le w y z⟩)
      exact ⟨s1.free this.1,this.2⟩
     ·rw [y,T.adrs_zero] at z; cases z)
   rw [aat] at this
   exact this
  ·have:umD .append (T.dats (te :: te2 :: ter)) (T.dats ts)=none:=rfl
   rw [this] at hf; cases hf
 | extend =>
  rcases tes with _ | ⟨te,_ | ⟨te2,ter⟩⟩
  ·cases hf
  ·cases te with
   | lst b0 es' =>
    simp only [T.dats,T.dat,umD] at hf
    obtain ⟨hlt,rfl⟩:=AE hf
    have hj:j1<=1:=by
     rcases hc.1 with z | ⟨_,z⟩
     ·omega
     ·exact z
    have hk1:k - 1 - lnP is + 1<=k1\/k - 1 - lnP is=0:=by
     rw [l1]
     rcases hc.2 with z | ⟨z,_⟩ | ⟨_,z⟩ | z
     ·exact .inr z
     ·cases z
     ·exact .inl (by omega)
     ·cases z
    refine ⟨a,b0,_,_,rfl,rfl,p0,R.ok.1.1,by rw [aab,aab,<- Ak,<- Ak]; exact hlt,?_⟩
    have nde:T.Nds es' (k - 1 - lnP is):=by
     rcases hk1 with z | z
     ·obtain ⟨n1,n2⟩:=(T.nds_cons.mp (T.nds_le z R.nd)).1
      simp only [T.adr,T.rest,aaM] at n1 n2
      exact ⟨n1.2,fun b y w=>n2 b y (aaa _ w)⟩
     ·rw [z]; exact T.nds_zero _
    have:=fin (ts ++ es') es' (by rw [T.dats_map,aat,<- T.dats_map,<- T.dats_map]) (T.oks_iff.mpr fun w hw=>by
      rcases aai.mp hw with z | z
      ·exact T.oks_iff.mp okt w z
      ·exact T.oks_iff.mp R.ok.1.2 w z)
     (fun b z=>by rw [T.adrs_append,aai] at z; exact z) (fun b z=>by
      rw [T.rests_append,aai] at z
      refine z.imp id fun z=>?_
      obtain ⟨w,hw,z2⟩:=T.mem_rests.mp z
      exact T.mem_rests.mpr ⟨w,hw,T.rest_le w (aar _) z2⟩)
     (fun n1 n2 n3=>T.nds_append n1 nde n3 n2)
     (fun b z=>(R.src b (by
      simp only [T.rests,aaL]
      exact T.rest_le (.lst b0 es') hj (j':=1) z)).imp s1.free id) (fun b z=>by
      rcases hk1 with y | y
      ·have:=R.new b (T.mem_adrs.mpr ⟨.lst b0 es',aaN.mpr rfl,T.adr_le (.lst b0 es') y (aaa _ z)⟩)
       exact ⟨s1.free this.1,this.2⟩
      ·rw [y,T.adrs_zero] at z; cases z)
    rw [aat] at this
    exact this
   | _=>cases hf
  ·have:umD .extend (T.dats (te :: te2 :: ter)) (T.dats ts)=none:=rfl
   rw [this] at hf; cases hf
 | clear =>
  rcases tes with _ | ⟨te,ter⟩
  ·cases hf
   refine ⟨a,_,rfl,rfl,p0,?_⟩
   exact fin [] [] rfl trivial (fun b z=>nomatch z) (fun b z=>nomatch z) (fun n1 _ _=>by simp [T.Nds,T.adrs]) (fun b z=>nomatch z) (fun b z=>nomatch z)
  ·have:umD .clear (T.dats (te :: ter)) (T.dats ts)=none:=rfl
   rw [this] at hf; cases hf
end
section
variable {p:Px} {H0:Hp} {A0:Addr->Prop} {m:Ms} {τ:Ft} {H H1:Hp}
theorem VN {y ky:Nat} {ty:T} (S:Sf p H0 A0 (m.set y .dead) τ H) (hy:τ[y]?=some (some ty)) (hm:y < m.length) (h90:ky < 90) (ok:ty.Ok p H) (src:∀ a ∈ ty.rest ky,H0 a=none\/A0 a)
  (sep:∀ (i:Nat) (t:T) (k:Nat),τ[i]?=some (some t)->(m.set y .dead)[i]?=some (.ow k)->∀ a ∈ t.adr k,a ∉ ty.rest ky) (top:∀ (i:Nat) (t:T) (k:Nat),τ[i]?=some (some t)->(m.set y .dead)[i]?=some (.ow k)->∀ a ts,t=.lst a ts->a ∉ ty.rest 0):Sf p H0 A0 (m.set y (.br ky)) τ H:=by
 have back:∀ {i:Nat} {d:Md},(m.set y (.br ky))[i]?=some d->(i=y/\d=.br ky)\/(i ≠ y/\(m.set y .dead)[i]?=some d):=by
  intro i d h
  rcases Al h with z | ⟨z1,z2⟩
  ·exact .inl z
  ·exact .inr ⟨z1,by rw [aan (Ne.symm z1)]; exact z2⟩
 have ow':∀ {i k:Nat},(m.set y (.br ky))[i]?=some (.ow k)->(m.set y .dead)[i]?=some (.ow k):=by
  intro i k h
  rcases back h with ⟨_,z⟩ | ⟨_,z⟩
  ·cases z
  ·exact z
 refine ⟨by have:=S.len; rw [aaB] at this ⊢; exact this,fun d hd=>?_,S.same,fun i t j e ej l=>?_,fun i t k a e hk q=>S.own i t k a e (ow' hk) q,fun a sh=>?_,fun i t k e hk=>S.nd i t k e (ow' hk),fun i j t u k d ne e hk e' hd nd a q=>?_,fun i j t u k k2 e hk e' hd a ts z=>?_⟩
 ·obtain ⟨i,hi,rfl⟩:=abJ hd
  rcases back (aah hi) with ⟨_,z⟩ | ⟨_,z⟩
  ·rw [z]; exact decide_eq_true h90
  ·exact S.small _ (aae z)
 ·obtain ⟨d,hd,rfl⟩:=A6 ej
  rcases back hd with ⟨rfl,z⟩ | ⟨_,z⟩
  ·rw [hy] at e; cases e; exact ok
  ·exact S.ok i t _ e (AW z) l
 ·obtain ⟨i,t,j,e,ej,l,q⟩:=sh
  obtain ⟨d,hd,rfl⟩:=A6 ej
  rcases back hd with ⟨rfl,z⟩ | ⟨_,z⟩
  ·rw [hy] at e; cases e; subst z; exact src a q
  ·exact S.src a ⟨i,t,_,e,AW z,l,q⟩
 ·rcases back hd with ⟨rfl,z⟩ | ⟨_,z⟩
  ·rw [hy] at e'; cases e'; subst z; exact sep i t k e (ow' hk) a q
  ·exact S.sep i j t u k d ne e (ow' hk) e' z nd a q
 ·rcases back hd with ⟨rfl,z'⟩ | ⟨_,z'⟩
  ·rw [hy] at e'; cases e'; exact top i t k e (ow' hk) a ts z
  ·exact S.top i j t u k k2 e (ow' hk) e' z' a ts z
theorem Su {x y k ky:Nat} {ty:T} {a:Addr} {ts:List T} (S:Sf p H0 A0 m τ H) (s:Same H H1) (hx:τ[x]?=some (some (.lst a ts))) (hm:m[x]?=some (.ow k)) (hy:τ[y]?=some (some ty)) (hmy:m[y]?=some (.ow ky)) (hne:y ≠ x) (hk:k - 1<=ky) :
  Sf p H0 A0 (m.set y (.br ky)) (τ.set x (some (.lst a (ts ++ [ty])))) (L2.upd H1 a (.lst ((ts ++ [ty]).map T.val)))/\Stp m (m.set y (.br ky)) [x] τ (τ.set x (some (.lst a (ts ++ [ty])))) H (L2.upd H1 a (.lst ((ts ++ [ty]).map T.val))):=by
 have S1:=S.grow s
 have sm:0 < k/\k < 90:=of_decide_eq_true (S.small _ (aae hm))
 have smy:0 < ky/\ky < 90:=of_decide_eq_true (S.small _ (aae hmy))
 have no:∀ {k0:Nat},Md.ow k0 ≠ .dead:=by intro k0 c; cases c
 have hyl:y < m.length:=(aap.mp hmy).1
 have sxy:∀ b ∈ (T.lst a ts).adr k,b ∉ ty.rest 0:=S.sep x y _ ty k _ (Ne.symm hne) hx hm hy hmy no
 have syx:∀ b ∈ ty.adr ky,b ∉ (T.lst a ts).rest 0:=S.sep y x ty _ ky _ hne hy hmy hx hm no
 obtain ⟨k',rfl⟩:∃ k',k=k' + 1:=⟨k - 1,by omega⟩
 have aadr:a ∈ (T.lst a ts).adr (k' + 1):=aac ..
 have ndx:=S.nd x _ _ hx hm
 have ndt:T.Nds ts k':=by
  obtain ⟨n1,n2⟩:=ndx
  simp only [T.adr,T.rest,aaM] at n1 n2
  exact ⟨n1.2,fun b z y=>n2 b z (aaa _ y)⟩
 have hk':k'<=ky:=by omega
 have okx:=S1.at hx hm no
 have oky:=S1.at hy hmy no
 have e0:k' + 1 - 1 - lnP []=k':=by simp [lnP]
 obtain ⟨t',p1,p2,S2,P2⟩:=KB (F:=fun b=>b ∈ ty.adr k') (N:=fun b=>b ∈ ty.rest 0) (m1:=m.set y .dead) (us:=ts ++ [ty]) (q:=[]) S s hx hm rfl (by simp [lnP])
  (T.oks_iff.mpr fun w hw=>by
   rcases aai.mp hw with z | z
   ·exact T.oks_iff.mp okx.2 w z
   ·cases aaN.mp z; exact oky)
  (fun b z=>(T.all_iff ty k').mpr (.inl z))
  (by
   rw [e0]
   intro b z
   rw [T.adrs_append,aai] at z
   exact z.imp id fun z=>by simpa [T.adrs] using z)
  (by
   rw [e0]
   intro b z
   rw [T.rests_append,aai] at z
   exact z.imp id fun z=>T.rest_le ty (aar k') (by simpa [T.rests] using z))
  (by
   rw [e0]
   exact KD (T.nd_le ty hk' (S.nd y ty ky hy hmy)) ndt (fun b z w=>syx b (T.adr_le ty hk' (by simpa [T.adrs] using z)) (aaa _ w)) (fun b z w=>sxy b (aaa _ z) (by simpa [T.rests] using w)))
  (fun b z=>syx b (T.adr_le ty hk' z)) (fun b z=>S1.own y ty ky b hy hmy (T.adr_le ty hk' z)) (fun b z=>.inl ⟨y,ty,ky,hy,hmy,T.adr_le ty hk' z⟩) (fun b z w=>sxy b w z)
  (fun b z=>by
   rcases (T.all_iff ty ky).mp z with w | w
   ·exact .inl (S.own y ty ky b hy hmy w).1
   ·exact S.src b ⟨y,ty,ky,hy,AW hmy,smy.2,w⟩)
  (by rw [aaB]) (by rw [aan hne]; exact hm)
  (fun j d ne hd nd=>by
   rcases Al hd with ⟨_,z⟩ | ⟨_,z⟩
   ·exact absurd z nd
   ·exact ⟨z,fun w=>absurd rfl w⟩)
  (fun j u d ne e hd nd b z=>by
   rcases Al hd with ⟨_,w⟩ | ⟨w,hd⟩
   ·exact absurd w nd
   ·exact S.sep y j ty u ky d (Ne.symm w) hy hmy e hd nd b (T.adr_le ty hk' z))
  (fun i u k2 ne e hk2 b z w=>by
   rcases Al hk2 with ⟨_,w'⟩ | ⟨w',hk2⟩
   ·cases w'
   ·exact S.sep i y u ty k2 _ w' e hk2 hy hmy no b w z)
 cases p1
 have hy':(τ.set x (some (.lst a (ts ++ [ty]))))[y]?=some (some ty):=by rw [aan (Ne.symm hne)]; exact hy
 have atop:a ∉ ty.rest 0:=sxy a aadr
 refine ⟨VN S2 hy' hyl smy.2 ?_ (fun b z=>S.src b ⟨y,ty,ky,hy,AW hmy,smy.2,z⟩) (fun i t k2 e hk2 b z w=>?_) (fun i t k2 e hk2 b cs z=>?_),P2.keep,fun b o=>P2.grow b ?_,P2.wr,P2.ad⟩
 ·refine DO (H:=H1) (fun b w e n=>by rw [Ar n]; exact e) (S1.own x _ _ a hx hm aadr).2 oky atop
 ·rcases Al e with ⟨rfl,e2⟩ | ⟨n1,e1⟩
  ·cases e2
   rcases Al hk2 with ⟨w',_⟩ | ⟨_,hk2⟩
   ·exact hne w'.symm
   ·rw [hm] at hk2
    cases hk2
    simp only [T.adr,T.adrs_append,T.adrs,aal,aai,aaL] at z
    rcases z with rfl | z | z
    ·exact atop (T.rest_le ty (aar _) w)
    ·exact sxy b (aaa _ z) (T.rest_le ty (aar _) w)
    ·exact (S.nd y ty ky hy hmy).2 b w (T.adr_le ty hk' z)
  ·rcases Al hk2 with ⟨_,w'⟩ | ⟨w',hk2⟩
   ·cases w'
   ·exact S.sep i y t ty k2 _ w' e1 hk2 hy hmy no b z (T.rest_le ty (aar _) w)
 ·rcases Al e with ⟨rfl,e2⟩ | ⟨n1,e1⟩
  ·cases e2
   cases z
   exact atop
  ·rcases Al hk2 with ⟨_,w'⟩ | ⟨w',hk2⟩
   ·cases w'
   ·subst z
    have:=of_decide_eq_true (S.small _ (aae hk2))
    refine S.sep i y _ ty k2 _ w' e1 hk2 hy hmy no b ?_
    obtain ⟨k3,rfl⟩:∃ k3,k2=k3 + 1:=⟨k2 - 1,by omega⟩
    exact aac ..
 ·obtain ⟨i,t,k2,e,hk2,z⟩:=o
  refine ⟨i,t,k2,e,?_,z⟩
  rcases Al hk2 with ⟨_,w'⟩ | ⟨w',hk2⟩
  ·cases w'
  ·rw [aan (Ne.symm w')]; exact hk2
end
section
variable {Z:Zx} {m:Ms} {r:Option Ms} {τ:Ft} {H:Hp} {D:Ends} {X:Cx}
theorem UT {x y k ky:Nat} (S:Sf Z.p Z.H0 Z.A0 m τ H) (hmx:m[x]?=some (.ow k)) (hmy:m[y]?=some (.ow ky)) (hne:y ≠ x) (hk:k - 1<=ky) (hr:r=some (m.set y (.br ky))) (h:lOut Z m r [x] (ex (.mut x [] .append (.cons (.nm y) .nil)) (dτ τ)) τ H D) :
  lPl Z.p Z.EX (tnM m) x [] (vτ τ) H fun v H1=>tyV X.K "list" v H1/\(QS (Mz y) TW) (vτ τ) H1 fun vs H2=>GP v vs H2 fun _ H3=>D.nx (vτ τ) H3:=by
 have sm:0 < k/\k < 90:=of_decide_eq_true (S.small _ (aae hmx))
 obtain ⟨t,is,ds,a,ts,ds',ht,ep,ee,hs,l1,l2,hf,hpl,hnx⟩:=KI S hmx (by simp [lnE]; omega) rfl h
 cases ep
 cases hs
 subst hr
 simp only [evs,ev] at ee
 obtain ⟨d,e1,ee⟩:=Res.bind_eq_ok ee
 cases ee
 obtain ⟨ty,hy,rfl⟩:=Dl e1
 simp only [umD] at hf
 obtain ⟨hlt,rfl⟩:=AE hf
 refine ⟨τ,_,[],.lst a ts,rfl,S.ok,E3 rfl,ht,S.at ht hmx (by intro c; cases c),rfl,rfl,fun H1 s1=>⟨L8 (hpl H1 s1).1,?_⟩⟩
 refine ⟨ty.val,BS hy,?_⟩
 show GP (.ref a) [ty.val] H1 (fun _ H3=>D.nx (vτ τ) H3)
 refine ⟨a,_,ty.val,rfl,rfl,(hpl H1 s1).1,by rw [aab,<- Ak]; exact hlt,?_⟩
 obtain ⟨S2,P2⟩:=Su S s1 ht hmx hy hmy hne hk
 have:=hnx (ts ++ [ty]) _ H1 _ (by rw [T.dats_map,aat,<- T.dats_map]; rfl) rfl rfl rfl S2 P2
 rw [aat] at this
 exact this
end
section
variable {Z:Zx} {m:Ms} {r:Option Ms} {w:List Nat} {τ:Ft} {H:Hp} {D:Ends} {X:Cx} {pos:Pos} {σ:L2.St}
theorem Sv {K:Frag} {xs:List Nat} {e:E} (h:lS Z (.asgT xs e) D σ H):∃ m,F9 (lE Z.p Z.EX (tnM m) e) (lG K (.tp xs)) D σ H:=by
 obtain ⟨τ,m,r,rfl,S,hr,h⟩:=h
 refine ⟨m,?_⟩
 simp only [msS] at hr
 obtain ⟨⟨j1,k1⟩,h1,hr⟩:=bS hr
 obtain ⟨⟨c1,c2⟩,rfl⟩:=AE hr
 have c1:j1=0:=c1
 subst c1
 simp only [ex] at h
 refine ⟨τ,rfl,S.ok,0,k1,h1,(h.lg S c2).mono (Same.refl _) fun d _ h t H1 ht R=>?_⟩
 subst ht
 rw [Gm] at h
 cases q:C0 (.tp xs) t τ with
 | none=>rw [q] at h; exact nE h
 | some τ' =>
  rw [q] at h
  obtain ⟨S2,P2⟩:=VL S R.same R.ok R.src q
  exact JR R.ok q (h _ τ' H1 rfl rfl S2 P2)
theorem Sw {e:E} (h:lS Z (.expr e) D σ H):∃ m,QP (lE Z.p Z.EX (tnM m) e) D σ H:=by
 obtain ⟨τ,m,r,rfl,S,hr,h⟩:=h
 refine ⟨m,?_⟩
 simp only [msS] at hr
 obtain ⟨⟨j1,k1⟩,h1,hr⟩:=bS hr
 obtain ⟨c2,rfl⟩:=AE hr
 simp only [ex] at h
 exact ⟨τ,rfl,S.ok,j1,k1,h1,(h.lg S c2).mono (Same.refl _) fun d _ h t H1 ht R=>h m τ H1 rfl rfl (S.grow R.same) (Stp.refl _ (Hx S.small) R.same)⟩
theorem Qd {c:Nat} {es:Es} (h:lS Z (.raise c es) D σ H):∃ m,lEs Z.p Z.EX (tnM m) es σ H fun vs H1=>vs.length=es.len/\(Z.p.has c=true->Z.EX σ (.ref (Z.p.cl c)) none H1):=by
 obtain ⟨τ,m,r,rfl,S,hr,h⟩:=h
 refine ⟨m,?_⟩
 simp only [msS] at hr
 obtain ⟨⟨j1,k1⟩,h1,hr⟩:=bS hr
 obtain ⟨c2,rfl⟩:=AE hr
 simp only [ex] at h
 refine ⟨τ,rfl,S.ok,j1,k1,h1,(h.lg S c2).mono (Same.refl _) fun ds e h ts H1 hts R=>⟨?_,fun hc=>h hc τ H1 rfl ((S.weak c2).grow R.same) (Stp.refl _ c2 R.same)⟩⟩
 rw [aab,<- Ak,hts,CG _ _ _ e]
theorem UU {e:E} (h:lS Z (.ret e) D σ H):(∃ (i:Nat) (t:T),e=.nm i/\σ[i]?=some (some t.val)/\D.rt t.val H)\/∃ m,lE Z.p Z.EX (tnM m) e σ H D.rt:=by
 obtain ⟨τ,m,r,rfl,S,hr,h⟩:=h
 simp only [msS] at hr
 obtain ⟨k,hk,hr⟩:=bS hr
 obtain ⟨⟨c1,c2⟩,rfl⟩:=AE hr
 simp only [ex] at h
 have gen:∀ j,(jk (tnM m) e=some (j,k))->j=0->∃ m,lE Z.p Z.EX (tnM m) e (vτ τ) H D.rt:=by
  intro j hj hz
  subst hz
  refine ⟨m,τ,rfl,S.ok,0,k,hj,(h.lg S c2).mono (Same.refl _) fun d _ h t H1 ht R=>h t H1 ht ⟨S.same.trans R.same,R.ok,fun a q=>?_,fun a q=>?_,T.nd_le t c1 R.nd⟩⟩
  ·rcases R.src a q with z | z
   ·exact .inl (S.same.free z)
   ·exact S.src a z
  ·have:=R.new a (T.adr_le t c1 q)
   exact ⟨S.same.free this.1,this.2⟩
 by_cases hnm:∃ i,e=.nm i
 ·obtain ⟨i,rfl⟩:=hnm
  simp only [rk] at hk
  cases q:get (dτ τ) i with
  | exc c=>unfold get at q; split at q <;> cases q
  | bad=>simp only [ev,q] at h; exact nE h
  | ok d =>
   obtain ⟨t,ht,rfl⟩:=Dl q
   simp only [ev,q] at h
   refine .inl ⟨i,t,rfl,BS ht,h t H rfl ?_⟩
   split at hk
   ·rename_i k0 hm
    cases hk
    have sm:0 < k/\k < 90:=of_decide_eq_true (S.small _ (aae hm))
    refine ⟨S.same,S.at ht hm (by intro c; cases c),fun a z=>?_,fun a z=>S.own i t k a ht hm (T.adr_le t c1 z),T.nd_le t c1 (S.nd i t k ht hm)⟩
    rcases (T.all_iff t k).mp z with y | y
    ·exact .inl (S.own i t k a ht hm y).1
    ·exact S.src a ⟨i,t,k,ht,AW hm,sm.2,y⟩
   ·rename_i hm
    cases hk
    have c1:Z.dep=0:=by omega
    rw [c1]
    exact ⟨S.same,S.at ht hm (by intro c; cases c),fun a z=>S.src a ⟨i,t,0,ht,AW hm,by decide,z⟩,by rw [T.adr_zero]; simp,T.nd_zero t⟩
   ·cases hk
 ·refine .inr ?_
  have:rk m e=(jk (tnM m) e).bind fun x=>if x.1=0 then some x.2 else none:=by
   cases e <;> first | rfl | exact absurd ⟨_,rfl⟩ hnm
  rw [this] at hk
  obtain ⟨⟨j1,k1⟩,h1,hk⟩:=bS hk
  obtain ⟨z,rfl⟩:=AE hk
  exact gen j1 h1 z
theorem lOut.weak {r1 r2:Option Ms} {w1 w2:List Nat} {o:Out} (h:lOut Z m r2 w2 o τ H D) (hj:okJ r1 r2=true) (hw:∀ i ∈ w1,i ∈ w2):lOut Z m r1 w1 o τ H D:=by
 cases o with
 | nxt δ' =>
  intro m' τ' H' e1 e2 S P
  subst e1
  cases r2 with
  | none=>cases hj
  | some m2=>exact h m2 τ' H' rfl e2 (S.weak hj) ⟨P.keep,fun a o=>P.grow a (o.weak hj),fun i hi=>P.wr i fun q=>hi (hw i q),fun i hi=>P.ad i fun q=>hi (hw _ q)⟩
 | ret d=>exact h
 | exc c δ'=>exact fun hc τ' H' e S P=>h hc τ' H' e S (P.mono hw)
 | bad=>exact h
theorem UV {c:E} {a b:Ss} (h:lS Z (.iff c a b) D σ H):∃ m,Ty (lT Z.p Z.EX (tnM m) c) (lSs Z a) (lSs Z b) D σ H:=by
 obtain ⟨τ,m,r,rfl,S,hr,h⟩:=h
 refine ⟨m,?_⟩
 simp only [msS] at hr
 obtain ⟨⟨j1,k1⟩,h1,hr⟩:=bS hr
 split at hr
 ·rename_i c2
  obtain ⟨ra,h2,hr⟩:=bS hr
  obtain ⟨rb,h3,hr⟩:=bS hr
  obtain ⟨⟨c3,c4⟩,rfl⟩:=AE hr
  simp only [ex] at h
  refine ⟨τ,rfl,S.ok,by rw [h1]; rfl,(h.lg S c2).mono (Same.refl _) fun t _ h H1 s1=>?_⟩
  have S1:=S.grow s1
  have shift:∀ {o:Out} {r0:Option Ms} {w0:List Nat},lOut Z m r0 w0 o τ H D->lOut Z m r0 w0 o τ H1 D:=by
   intro o r0 w0 h
   cases o with
   | nxt δ'=>exact fun m' τ' H' e1 e2 S P=>h m' τ' H' e1 e2 S ⟨fun a u e n=>P.keep a u (s1 a u e) n,fun a o=>(P.grow a o).imp id s1.free,P.wr,P.ad⟩
   | ret d=>exact h
   | exc c δ'=>exact fun hc τ' H' e S P=>h hc τ' H' e S ⟨fun a u e n=>P.keep a u (s1 a u e) n,fun a o=>(P.grow a o).imp id s1.free,P.wr,P.ad⟩
   | bad=>exact h
  cases t with
  | true =>
   rw [if_pos rfl] at h
   show (if true=true then lSs Z a D (vτ τ) H1 else lSs Z b D (vτ τ) H1)
   rw [if_pos rfl]
   exact ⟨τ,m,ra,rfl,S1,h2,shift (h.weak c3 fun i hi=>aaw _ hi)⟩
  | false =>
   rw [if_neg (by decide)] at h
   show (if false=true then lSs Z a D (vτ τ) H1 else lSs Z b D (vτ τ) H1)
   rw [if_neg (by decide)]
   exact ⟨τ,m,rb,rfl,S1,h3,shift (h.weak c4 fun i hi=>aak _ hi)⟩
 ·cases hr
theorem lOut.shift {H1:Hp} {o:Out} (s1:Same H H1) (h:lOut Z m r w o τ H D):lOut Z m r w o τ H1 D:=by
 cases o with
 | nxt δ'=>exact fun m' τ' H' e1 e2 S P=>h m' τ' H' e1 e2 S ⟨fun a u e n=>P.keep a u (s1 a u e) n,fun a o=>(P.grow a o).imp id s1.free,P.wr,P.ad⟩
 | ret d=>exact h
 | exc c δ'=>exact fun hc τ' H' e S P=>h hc τ' H' e S ⟨fun a u e n=>P.keep a u (s1 a u e) n,fun a o=>(P.grow a o).imp id s1.free,P.wr,P.ad⟩
 | bad=>exact h
theorem lOut.after {m1:Ms} {τ1:Ft} {H1:Hp} {w1 w2:List Nat} {o:Out} (P:Stp m m1 w1 τ τ1 H H1) (hw1:∀ i ∈ w1,i ∈ w) (hw2:∀ i ∈ w2,i ∈ w) (h:lOut Z m r w o τ H D):lOut Z m1 r w2 o τ1 H1 D:=by
 cases o with
 | nxt δ'=>exact fun m' τ' H' e1 e2 S Q=>h m' τ' H' e1 e2 S ((P.trans Q).mono fun i hi=>by
   rcases aai.mp hi with z | z
   ·exact hw1 i z
   ·exact hw2 i z)
 | ret d=>exact h
 | exc c δ'=>exact fun hc τ' H' e S Q=>h hc τ' H' e S ((P.trans Q).mono fun i hi=>by
   rcases aai.mp hi with z | z
   ·exact hw1 i z
   ·exact hw2 i z)
 | bad=>exact h
theorem UW {s:S} {rest:Ss} (h:lSs Z (.cons s rest) D σ H):lS Z s { D with nx:=lSs Z rest D } σ H:=by
 obtain ⟨τ,m,r,rfl,S,hr,h⟩:=h
 simp only [msSs] at hr
 obtain ⟨r1,h1,hr⟩:=bS hr
 refine ⟨τ,m,r1,rfl,S,h1,?_⟩
 simp only [exs] at h
 cases q:ex s (dτ τ) with
 | nxt δ' =>
  rw [q] at h
  intro m' τ' H' e1 e2 S' P
  subst e1
  simp only at hr
  refine ⟨τ',m',r,rfl,S',hr,?_⟩
  rw [e2]
  exact h.after P (fun i hi=>aaw _ hi) (fun i hi=>aak _ hi)
 | ret d=>rw [q] at h; exact h
 | exc c δ' =>
  rw [q] at h
  exact fun hc τ' H' e S' P=>h hc τ' H' e S' (P.mono fun i hi=>aaw _ hi)
 | bad=>rw [q] at h; exact h
theorem UX (h:lSs Z .nil D σ H):D.nx σ H:=by
 obtain ⟨τ,m,r,rfl,S,hr,h⟩:=h
 cases hr
 exact h m τ H rfl rfl S (Stp.refl _ (Hx S.small) (Same.refl _))
theorem Sx {s:S} {rest:Ss} (hs:(∃ x k,s=.dem x k)\/(∃ x,s=.dead x)) (h:lSs Z (.cons s rest) D σ H):lSs Z rest D σ H:=by
 obtain ⟨τ,m,r,rfl,S,hr,h⟩:=h
 simp only [msSs] at hr
 obtain ⟨r1,h1,hr⟩:=bS hr
 rcases hs with ⟨x,k,rfl⟩ | ⟨x,rfl⟩
 ·simp only [msS] at h1
  obtain ⟨c,rfl⟩:=AE h1
  refine ⟨τ,_,r,rfl,S.weak c,hr,?_⟩
  simp only [exs,ex,Out.then_nxt] at h
  exact h.after (w1:=[]) (Stp.refl _ c (Same.refl _)) (fun i hi=>nomatch hi) (fun i hi=>aak _ hi)
 ·simp only [msS] at h1
  obtain ⟨c,rfl⟩:=AE h1
  refine ⟨τ,_,r,rfl,S.weak c,hr,?_⟩
  simp only [exs,ex,Out.then_nxt] at h
  exact h.after (w1:=[]) (Stp.refl _ c (Same.refl _)) (fun i hi=>nomatch hi) (fun i hi=>aak _ hi)
end
section
variable {Z:Zx} {m:Ms} {r:Option Ms} {w:List Nat} {τ:Ft} {H:Hp} {D:Ends} {X:Cx} {pos:Pos} {σ:L2.St}
theorem VO {c:E} {b:Ss} (h:lS Z (.wh c b) D σ H):∃ m,NJ (lT Z.p Z.EX (tnM m) c) (lSs Z b) D σ H:=by
 obtain ⟨τ,m,r,rfl,S,hr,h⟩:=h
 refine ⟨m,?_⟩
 simp only [msS] at hr
 obtain ⟨⟨j1,k1⟩,h1,hr⟩:=bS hr
 split at hr
 ·rename_i c2
  obtain ⟨rb,h2,hr⟩:=bS hr
  have hrb:r=some m/\okJ rb (some m)=true:=by
   cases rb with
   | none=>exact ⟨(Option.some.inj hr).symm,rfl⟩
   | some mb =>
    obtain ⟨z,e⟩:=AE hr
    exact ⟨e.symm,z⟩
  obtain ⟨rfl,hj⟩:=hrb
  simp only [ex] at h
  refine ⟨fun n σ H'=>∃ τ',σ=vτ τ'/\Sf Z.p Z.H0 Z.A0 m τ' H'/\Stp m m (wrSs b) τ τ' H H'/\lOut Z m (some m) (wrSs b) (AY (tv c) (exs b) n (dτ τ')) τ H D,⟨FU,τ,rfl,S,Stp.refl _ (Hx S.small) (Same.refl _),h⟩,?_⟩
  rintro n σ' H' ⟨τ',rfl,S',P',h'⟩
  cases n with
  | zero=>exact nE h'
  | succ n =>
   simp only [AY] at h'
   have hb:=h'.after (w:=wrSs b) (w1:=wrSs b) (w2:=wrSs b) P' (fun _ z=>z) (fun _ z=>z)
   refine ⟨τ',rfl,S'.ok,by rw [h1]; rfl,(hb.lg S' c2).mono (Same.refl _) fun t et hb2 H1 s1=>?_⟩
   rw [et] at h'
   simp only [Res.out_ok] at h'
   cases t with
   | false =>
    show (if false=true then _ else D.nx (vτ τ') H1)
    rw [if_neg (by decide)]
    rw [if_neg (by decide)] at h'
    exact h' m τ' H1 rfl rfl (S'.grow s1) ⟨fun a u e n=>s1 _ _ (P'.keep a u e n),P'.grow,P'.wr,P'.ad⟩
   | true =>
    rw [if_pos rfl] at h' hb2
    show (if true=true then _ else _)
    rw [if_pos rfl]
    refine ⟨fun σ2 H2=>∃ τ2,σ2=vτ τ2/\Sf Z.p Z.H0 Z.A0 m τ2 H2/\Stp m m (wrSs b) τ τ2 H H2/\lOut Z m (some m) (wrSs b) (AY (tv c) (exs b) n (dτ τ2)) τ H D,fun σ2 H2 q=>⟨n,ab9 n,q⟩,?_⟩
    refine ⟨τ',m,rb,rfl,S'.grow s1,h2,?_⟩
    have hb3:=hb2.shift s1
    have P1:Stp m m (wrSs b) τ τ' H H1:=⟨fun a u e n=>s1 _ _ (P'.keep a u e n),P'.grow,P'.wr,P'.ad⟩
    cases q:exs b (dτ τ') with
    | nxt δ2 =>
     rw [q] at h'
     intro m' τ2 H2 e1 e2 S2 P2
     subst e1
     have hle:leM m' m=true:=hj
     refine ⟨τ2,rfl,S2.weak hle,((P1.trans P2).mono (w2:=wrSs b) (fun i hi=>by simpa using hi)) |> fun P3=>⟨P3.keep,fun a o=>P3.grow a (Own.weak hle o),P3.wr,P3.ad⟩,?_⟩
     rw [e2]; exact h'
    | ret d=>rw [q] at hb3; exact hb3
    | exc c' δ'=>rw [q] at hb3; exact hb3
    | bad=>rw [q] at hb3; exact hb3
 ·cases hr
theorem Stp.lesser {m1 m2:Ms} {τ':Ft} {H':Hp} (h:leM m1 m2=true) (P:Stp m m1 w τ τ' H H'):Stp m m2 w τ τ' H H':=⟨P.keep,fun a o=>P.grow a (Own.weak h o),P.wr,P.ad⟩
theorem KJ {K:Frag} {g:Tg} {b:Ss} {J:L2.It} {us:List T} {ds:List Pu.D} {j:Nat} {H1:Hp} {rb:Option Ms} (S:Sf Z.p Z.H0 Z.A0 m τ H) (IT:ItOk Z.p (Sh (tnM m) τ) H H1 J us j ds) (hd:leM m (At m g.sl .dead)=true)
  (h2:msSs Z.mx Z.dep b (At (At m g.sl .dead) g.sl .sh)=some rb) (hj:okJ rb (some (At m g.sl .dead))=true)
  (per:∀ (τ':Ft) (H':Hp),Sf Z.p Z.H0 Z.A0 (At m g.sl .dead) τ' H'->Stp m (At m g.sl .dead) (up g.sl ++ wrSs b) τ τ' H1 H'->T.Oks Z.p H' us)
  (h:lOut Z m (some (At m g.sl .dead)) (up g.sl ++ wrSs b) (AL g (exs b) ds (dτ τ)) τ H1 D) :
  ∃ W:Nat->Nat->L2.St->Hp->Prop,(∃ n,W 0 n (vτ τ) H1)/\∀ i n σ H,W i n σ H->(J.stop i H/\D.nx σ H)\/(J.go i H/\∃ N:L2.St->Hp->Prop,(∀ σ' H',N σ' H'->∃ n',n' < n/\W (i + 1) n' σ' H')/\∀ x H',J.yld i H x H'->lG K g x σ H' fun σ2 H2=>lSs Z b { D with nx:=N,ct:=N,bk:=D.nx } σ2 H2):=by
 have S1:=S.grow IT.same
 have fineU:∀ a,(H a=none\/Sh (tnM m) τ a)->(Z.H0 a=none\/Z.A0 a)/\¬ Own m τ a:=fun a q=>S.fine q
 refine ⟨fun i n σ H'=>n=ds.length - i/\i<=ds.length/\∃ τ',σ=vτ τ'/\Sf Z.p Z.H0 Z.A0 (At m g.sl .dead) τ' H'/\Stp m (At m g.sl .dead) (up g.sl ++ wrSs b) τ τ' H1 H'/\lOut Z m (some (At m g.sl .dead)) (up g.sl ++ wrSs b) (AL g (exs b) (ds.drop i) (dτ τ')) τ H1 D,
  ⟨ds.length,by simp,aar _,τ,rfl,S1.weak hd,Stp.refl _ hd (Same.refl _),by simpa using h⟩,?_⟩
 rintro i n σ' H' ⟨rfl,hi,τ',rfl,S',P',h'⟩
 have usok:=per τ' H' S' P'
 rcases aa4 i ds.length with hlt | hge
 ·have hdi:ds[i]?=some ds[i]:=aah hlt
  rw [abE hlt] at h'
  simp only [AL] at h'
  refine .inr ⟨IT.go i H' usok hlt,fun σ2 H2=>∃ τ2,σ2=vτ τ2/\Sf Z.p Z.H0 Z.A0 (At m g.sl .dead) τ2 H2/\Stp m (At m g.sl .dead) (up g.sl ++ wrSs b) τ τ2 H1 H2/\lOut Z m (some (At m g.sl .dead)) (up g.sl ++ wrSs b) (AL g (exs b) (ds.drop (i + 1)) (dτ τ2)) τ H1 D,
   fun σ2 H2 q=>⟨ds.length - (i + 1),by omega,rfl,hlt,q⟩,fun x H'' y=>?_⟩
  obtain ⟨s2,t,rfl,ht,tok,tus,tsrc⟩:=IT.yld i H' x H'' ds[i] usok hdi y
  rw [<- ht,Gm] at h'
  cases q:C0 g t τ' with
  | none=>rw [q] at h'; exact nE h'
  | some τ2 =>
   rw [q] at h'
   simp only [aa5] at h'
   have src:∀ a ∈ t.rest 0,(Z.H0 a=none\/Z.A0 a)/\¬ Own (At m g.sl .dead) τ' a:=fun a z=>by
    refine ⟨(fineU a (tsrc a z)).1,fun o=>?_⟩
    rcases P'.grow a o with w | w
    ·exact (fineU a (tsrc a z)).2 w
    ·obtain ⟨v,hv,z2⟩:=T.mem_rests.mp (tus a z)
     exact (T.oks_iff.mp IT.ok v hv).dom z2 w
   obtain ⟨S2,P2⟩:=Ow S' s2 tok src q
   refine JR tok q ⟨τ2,_,rb,rfl,S2,h2,?_⟩
   have P3:=P'.trans P2
   have h3:=h'.after (w:=up g.sl ++ wrSs b) (w2:=wrSs b) P3 (fun i hi=>by
    simp only [aai] at hi ⊢
    rcases hi with (hi | hi) | hi
    ·exact .inl hi
    ·exact .inr hi
    ·exact .inl hi) (fun i hi=>aak _ hi)
   cases e:exs b (dτ τ2) with
   | nxt δ3 =>
    rw [e] at h'
    intro m' τ3 H3 e1 e2 S3 P4
    subst e1
    have hle:leM m' (At m g.sl .dead)=true:=hj
    refine ⟨τ3,rfl,S3.weak hle,Stp.lesser hle ((P3.trans P4).mono fun i hi=>?_),?_⟩
    ·simp only [aai] at hi ⊢
     rcases hi with ((hi | hi) | hi) | hi
     ·exact .inl hi
     ·exact .inr hi
     ·exact .inl hi
     ·exact .inr hi
    ·rw [e2]; exact h'
   | ret d=>rw [e] at h3; exact h3
   | exc c' δ'=>rw [e] at h3; exact h3
   | bad=>rw [e] at h3; exact h3
 ·refine .inl ⟨IT.stop i H' usok hge,?_⟩
  have hil:i=ds.length:=acg hi hge
  subst hil
  rw [List.drop_length] at h'
  exact h' _ τ' H' rfl rfl S' P'
theorem UY {K:Frag} {g:Tg} {it:It} {b:Ss} (h:lS Z (.for_ g it b) D σ H):(∃ m,TJ (lI Z.p Z.EX (tnM m) it) (lG K g) (lSs Z b) D σ H) \/
  (∃ x,it=.seqL (.nm x)/\∃ v a xs,σ[x]?=some (some v)/\v=.ref a/\SqL X.K H a xs/\(X.K=Z.p.K->xs.length<=sizeLine->∃ W:Nat->Nat->L2.St->Hp->Prop,(∃ n,W 0 n σ H)/\∀ i n σ H,W i n σ H->((Itl X.K a).stop i H/\D.nx σ H)\/((Itl X.K a).go i H/\∃ N:L2.St->Hp->Prop,(∀ σ' H',N σ' H'->∃ n',n' < n/\W (i + 1) n' σ' H') /\
   ∀ x H',(Itl X.K a).yld i H x H'->lG K g x σ H' fun σ2 H2=>lSs Z b { D with nx:=N,ct:=N,bk:=D.nx } σ2 H2))):=by
 obtain ⟨τ,m,r,rfl,S,hr,h⟩:=h
 simp only [msS] at hr
 obtain ⟨j,h1,hr⟩:=bS hr
 split at hr
 ·rename_i c
  obtain ⟨c1,c2,c3⟩:=c
  obtain ⟨rb,h2,hr⟩:=bS hr
  have hrb:r=some (At m g.sl .dead)/\okJ rb (some (At m g.sl .dead))=true:=by
   cases rb with
   | none=>exact ⟨(Option.some.inj hr).symm,rfl⟩
   | some mb =>
    obtain ⟨z,e⟩:=AE hr
    exact ⟨e.symm,z⟩
  obtain ⟨rfl,hj⟩:=hrb
  simp only [ex] at h
  by_cases z:j=0
  ·subst z
   refine .inl ⟨m,τ,rfl,S.ok,0,h1,(h.lg S c1).mono (Same.refl _) fun ds _ h J us H1 IT=>?_⟩
   refine KJ S IT c2 h2 hj (fun τ' H' S' P'=>?_) (h.shift IT.same)
   have S1:=S.grow IT.same
   refine T.oks_iff.mpr fun u hu=>(T.oks_iff.mp IT.ok u hu).keep fun a w e q=>P'.keep a w e fun o=>?_
   rcases q with q | q
   ·exact (S.fine (IT.src a (T.mem_rests.mpr ⟨u,hu,q⟩))).2 o
   ·obtain ⟨_,vs,e2⟩:=S1.ownOk o
    rw [e2] at e
    exact q vs (Option.some.inj e).symm
  ·rcases c3 with c3 | ⟨x,c3,c4,c5⟩
   ·exact absurd c3 z
   ·have hit:it=.seqL (.nm x):=by
     unfold It.nmOf at c3
     split at c3
     ·cases c3; rfl
     ·cases c3
    subst hit
    refine .inr ⟨x,rfl,?_⟩
    have hlg:=h.lg S c1
    cases q:get (dτ τ) x with
    | exc c=>unfold get at q; split at q <;> cases q
    | bad=>simp only [evI,ev,q,Res.bind_bad] at hlg; exact nE hlg
    | ok d =>
     obtain ⟨t,ht,rfl⟩:=Dl q
     simp only [evI,ev,q,Res.bind_ok] at hlg
     cases t with
     | lst a ts =>
      simp only [jkI] at h1
      obtain ⟨⟨j1,k1⟩,h3,h1⟩:=bS h1
      obtain ⟨hj1,e1⟩:=AE h1
      have e1:j1=j:=e1
      subst e1
      simp only [jk] at h3
      split at h3
      ·rename_i j' hj'
       obtain ⟨hlt,e⟩:=DX h3
       cases e
       have okt:=S.ok x _ j1 ht hj' (of_decide_eq_true hlt)
       refine ⟨_,a,ts.map T.val,BS ht,rfl,.inl okt.1,fun hK hz=>?_⟩
       have R:Rs Z.p (Sh (tnM m) τ) H H j1 0 (.lst a ts):=⟨Same.refl _,okt,fun b m'=>.inr ⟨x,_,j1,ht,hj',of_decide_eq_true hlt,m'⟩,by rw [T.adr_zero]; simp,T.nd_zero _⟩
       refine KJ S (Gk hK R hj1 (by simpa using hz)) c2 h2 hj (fun τ' H' S' P'=>?_) hlg
       obtain ⟨d,hd,ed⟩:=A6 hj'
       have hdd:d ≠ .dead:=fun w=>by subst w; subst ed; exact absurd (of_decide_eq_true hlt) (by decide)
       have hx':(At m g.sl .dead)[x]?=some d:=by
        have hlen:x < (At m g.sl .dead).length:=by rw [D8]; exact (aap.mp hd).1
        rcases Ef (aah hlen) with ⟨w,_⟩ | ⟨_,w⟩
        ·exact absurd (aaw _ w) c5
        ·rw [aah hlen]
         rw [hd] at w
         exact w.symm
       refine ⟨S'.at (i:=x) (by rw [P'.wr x (fun w=>by rcases aai.mp w with w | w; exact c5 w; exact c4 w)]; exact ht) hx' hdd,trivial⟩
      ·cases h3
     | _=>exact nE hlg
 ·cases hr
end
section
variable {p:Px} {H0:Hp} {A0:Addr->Prop} {m:Ms} {τ:Ft} {H H1:Hp}
theorem L9 {x:Nat} {s:Option T} (S:Sf p H0 A0 m τ H):Sf p H0 A0 (m.set x .dead) (τ.set x s) H:=by
 have back:∀ {i:Nat} {u:T} {d:Md},d ≠ .dead->(τ.set x s)[i]?=some (some u)->(m.set x .dead)[i]?=some d->τ[i]?=some (some u)/\m[i]?=some d:=by
  intro i u d nd e h
  rcases Al h with ⟨_,z⟩ | ⟨z1,z2⟩
  ·exact absurd z nd
  ·rcases Al e with ⟨z,_⟩ | ⟨_,e⟩
   ·exact absurd z z1
   ·exact ⟨e,z2⟩
 have no:∀ {k:Nat},Md.ow k ≠ .dead:=by intro k c; cases c
 have nb:∀ {k:Nat},Md.br k ≠ .dead:=by intro k c; cases c
 have lt:∀ {d:Md},d.tn < 90->d ≠ .dead:=fun l z=>by subst z; exact absurd l (by decide)
 refine ⟨by rw [aaB,aaB]; exact S.len,fun d hd=>?_,S.same,fun i t j e ej l=>?_,fun i t k a e hk q=>?_,fun a sh=>?_,fun i t k e hk=>?_,fun i j t u k d ne e hk e' hd nd a q=>?_,fun i j t u k k2 e hk e' hd a ts z=>?_⟩
 ·rcases aba hd with z | z
  ·exact S.small d z
  ·subst z; rfl
 ·obtain ⟨d,hd,rfl⟩:=A6 ej
  obtain ⟨q1,q2⟩:=back (lt l) e hd
  exact S.ok i t _ q1 (AW q2) l
 ·obtain ⟨q1,q2⟩:=back no e hk
  exact S.own i t k a q1 q2 q
 ·obtain ⟨i,t,j,e,ej,l,q⟩:=sh
  obtain ⟨d,hd,rfl⟩:=A6 ej
  obtain ⟨q1,q2⟩:=back (lt l) e hd
  exact S.src a ⟨i,t,_,q1,AW q2,l,q⟩
 ·obtain ⟨q1,q2⟩:=back no e hk
  exact S.nd i t k q1 q2
 ·obtain ⟨q1,q2⟩:=back no e hk
  obtain ⟨q3,q4⟩:=back nd e' hd
  exact S.sep i j t u k d ne q1 q2 q3 q4 nd a q
 ·obtain ⟨q1,q2⟩:=back no e hk
  obtain ⟨q3,q4⟩:=back nb e' hd
  exact S.top i j t u k k2 q1 q2 q3 q4 a ts z
end
noncomputable def OwnN (m:Ms) (τ:Ft) (I:List Nat) (a:Addr):Prop:=∃ (i:Nat) (t:T) (k:Nat),i ∉ I/\τ[i]?=some (some t)/\m[i]?=some (.ow k)/\a ∈ t.adr k
section
variable {p:Px} {H0:Hp} {A0:Addr->Prop} {m:Ms} {τ:Ft} {H H1 H2:Hp}
theorem OwnN.own {I:List Nat} {a:Addr} (h:OwnN m τ I a):Own m τ a:=let ⟨i,t,k,_,e,q,z⟩:=h; ⟨i,t,k,e,q,z⟩
end
section
variable {Z:Zx} {D:Ends} {X:Cx} {σ:L2.St} {H:Hp}
theorem Ih (m:Ms) (x:Nat):Au (m.set x .dead)=(Au m).set x .dead:=by
 unfold Au
 rw [abR]
theorem Lj (m:Ms):Au (Au m)=Au m:=by
 unfold Au
 rw [aaE]
 apply aaT
 intro d _
 cases d <;> rfl
theorem Jt {m:Ms} {τ:Ft} {x:Nat} {s:Option T} (hx:m.set x .dead=m):Stp m m [x,x + 1000] τ (τ.set x s) H H:=by
 refine ⟨fun b w e _=>e,fun b o=>?_,fun j hj=>?_,fun j hj=>Ou (Kz hj)⟩
 ·obtain ⟨j,w,kj,e1,e2,e3⟩:=o
  by_cases z:j=x
  ·subst z
   have hl:=(aap.mp e2).1
   rw [<- hx,aa9 hl] at e2
   cases e2
  ·rw [aan (fun w=>z w.symm)] at e1
   exact .inl ⟨j,w,kj,e1,e2,e3⟩
 ·have:x ≠ j:=fun z=>hj (by simp [z])
  rw [aan this]
theorem UZ {p:Px} {H0:Hp} {A0:Addr->Prop} {m:Ms} {τ:Ft} {H H1:Hp} {y:Nat} {t:T} {q:List (Bool × Int)} {a:Addr} {ts us:List T} (S:Sf p H0 A0 m τ H) (s:Same H H1) (hx:τ[y]?=some (some t)) (hm:m[y]?=some (.ow 2)) (hq:AU q t=some (.lst a ts)) (hl:lnP q=1) (hkb:Au m=m) (hus:T.Oks p H1 us)
  (src:∀ b ∈ T.rests us 0,(H0 b=none\/A0 b)/\¬ Own m τ b) :
  ∃ t',Dx (.lst a us) q t=some t'/\t'.val=t.val/\Sf p H0 A0 m (τ.set y (some t')) (L2.upd H1 a (.lst (us.map T.val)))/\Stp m m [y] τ (τ.set y (some t')) H (L2.upd H1 a (.lst (us.map T.val))):=by
 have hm1:∀ (j:Nat) (d:Md),m[j]?=some d->d ≠ .dead->m[j]?=some d/\(q ≠ []->∀ k2,d ≠ .br k2):=by
  intro j d hd nd
  refine ⟨hd,fun _=>?_⟩
  rw [<- hkb] at hd
  rcases Eg hd with y | ⟨y1,y2⟩
  ·exact absurd y nd
  ·exact y2
 have e0:2 - 1 - lnP q=0:=by omega
 refine KB (F:=fun _=>False) (N:=fun b=>b ∈ T.rests us 0) S s hx hm hq (by omega) hus (fun _ z=>z.elim) (fun b z=>?_) (fun b z=>?_) ?_ (fun _ z=>z.elim) (fun _ z=>z.elim) (fun _ z=>z.elim)
  (fun b z y=>(src b z).2 ⟨_,_,_,hx,hm,y⟩) (fun b z=>(src b z).1) rfl hm (fun j d _ hd nd=>hm1 j d hd nd) (fun j u d _ _ _ _ b z=>z.elim) (fun i u k' ne e hk b z y=>(src b z).2 ⟨i,u,k',e,hk,y⟩)
 ·rw [e0,T.adrs_zero] at z; cases z
 ·rw [e0] at z; exact .inr z
 ·rw [e0]; exact T.nds_zero _
theorem Oz {n i:Nat} (h:i < n):ixN n (i:Int)=some i:=by
 unfold ixN
 rw [if_pos (by omega),if_pos (by omega)]
 rfl
theorem Sy {p:Px} {EX:EXT} {tn:List Nat} {e:E} {Q Q':VK} (h:lE p EX tn e σ H Q) (m:∀ v H1,Q v H1->Q' v H1):lE p EX tn e σ H Q':=by
 obtain ⟨τ,e1,F,j,k,hj,h⟩:=h
 exact ⟨τ,e1,F,j,k,hj,h.mono (Same.refl _) fun d _ q t H' ht R=>m _ _ (q t H' ht R)⟩
noncomputable def lOA (Z:Zx) (m m1:Ms) (w:List Nat) (y:Nat) (o:Out) (τ:Ft) (H:Hp) (D:Ends):Prop:=match o with
 | .nxt δ'=>∀ (τ':Ft) (H':Hp) (a:Addr) (ts ts':List T),dτ τ'=δ'->τ[y]?=some (some (.lst a ts))->τ'[y]?=some (some (.lst a ts'))->Sf Z.p Z.H0 Z.A0 m1 τ' H'->Stp m m1 w τ τ' H H'->D.nx (vτ τ') H'
 | o=>lOut Z m (some m1) w o τ H D
theorem lOut.oa {m m1:Ms} {w:List Nat} {τ:Ft} {y:Nat} {o:Out} (h:lOut Z m (some m1) w o τ H D):lOA Z m m1 w y o τ H D:=by
 cases o with
 | nxt δ'=>exact fun τ' H' _ _ _ e _ _ S P=>h m1 τ' H' rfl e S P
 | _=>exact h
theorem lOA.lg {α:Type} {m m1:Ms} {w:List Nat} {τ:Ft} {y:Nat} {q:Res α} {f:α->Out} (S:Sf Z.p Z.H0 Z.A0 m τ H) (hm:leM m Z.mx=true) (h:lOA Z m m1 w y (q.out (dτ τ) f) τ H D):Lg Z.p Z.EX (vτ τ) q H fun a=>lOA Z m m1 w y (f a) τ H D:=by
 cases q with
 | ok a=>exact h
 | exc c=>exact fun hc H' s=>h hc τ H' rfl ((S.weak hm).grow s) (Stp.refl w hm s)
 | bad=>exact h
theorem lOA.shift {H1:Hp} {m m1:Ms} {w:List Nat} {τ:Ft} {y:Nat} {o:Out} (s1:Same H H1) (h:lOA Z m m1 w y o τ H D):lOA Z m m1 w y o τ H1 D:=by
 cases o with
 | nxt δ'=>exact fun τ' H' a ts ts' e1 e2 e3 S P=>h τ' H' a ts ts' e1 e2 e3 S ⟨fun a u e n=>P.keep a u (s1 a u e) n,fun a o=>(P.grow a o).imp id s1.free,P.wr,P.ad⟩
 | ret d=>exact h
 | exc c δ'=>exact fun hc τ' H' e S P=>h hc τ' H' e S ⟨fun a u e n=>P.keep a u (s1 a u e) n,fun a o=>(P.grow a o).imp id s1.free,P.wr,P.ad⟩
 | bad=>exact h
noncomputable def JT (X:Cx) (p:Px) (EX:EXT) (x z y:Nat) (e:E):TS:=fun D σ H=>∃ (m:Ms) (a:Addr),σ[y]?=some (some (.ref a))/\lE p EX (tnM m) e σ H fun v H1=>∃ b xs ys,v=.ref b/\SqL X.K H1 a xs/\SqL X.K H1 b ys/\∃ W:Nat->Nat->L2.St->Hp->Prop,(∃ n,W 0 n σ H1)/\∀ i n σ H,W i n σ H->((Itz X.K a b).stop i H/\D.nx σ H)\/((Itz X.K a b).go i H/\∃ N:L2.St->Hp->Prop,(∀ σ' H',N σ' H'->∃ n',n' < n/\W (i + 1) n' σ' H') /\
   ∀ v H',(Itz X.K a b).yld i H v H'->lG X.K (.tp [x,z]) v σ H' fun σ2 H2=>∃ w,σ2[z]?=some (some w)/\Uj X.K (Mz x) w σ2 H2 fun σ3 H3=>N σ3 H3)
theorem KK {m:Ms} {r:Option Ms} {τ:Ft} {x z y:Nat} {e:E} (S:Sf Z.p Z.H0 Z.A0 m τ H) (hr:msS Z.mx Z.dep (.eachZ x z y e) m=some r) (h:∀ m1,r=some m1->lOA Z m m1 [x,z,y,x + 1000,z + 1000] y (ex (.eachZ x z y e) (dτ τ)) τ H D):JT X Z.p Z.EX x z y e D (vτ τ) H:=by
 unfold JT
 simp only [msS] at hr
 split at hr
 ·rename_i k hmy
  obtain ⟨⟨j1,k1⟩,hjk,hr⟩:=bS hr
  obtain ⟨⟨hk2,hxy,hzy,hxz,hxl,hzl,c1,c2,hle⟩,hr⟩:=AE hr
  cases hr
  have h:=h _ rfl
  subst hk2
  have c1:j1=0:=c1
  subst c1
  obtain ⟨m1,hm1⟩:∃ m1,m1=((Au m).set x .dead).set z .dead:=⟨_,rfl⟩
  rw [<- hm1] at hle h
  have hmy1:m1[y]?=some (.ow 2):=by rw [hm1,aan hzy,aan hxy]; exact E2 hmy
  have hmz1:m1.set z .dead=m1:=by rw [hm1,List.set_set]
  have hmx1:m1.set x .dead=m1:=by rw [hm1,List.set_comm _ _ (fun w=>hxz w.symm),List.set_set]
  have hkb:Au m1=m1:=by rw [hm1,Ih,Ih,Lj]
  simp only [ex] at h
  cases q:get (dτ τ) y with
  | exc c=>unfold get at q; split at q <;> cases q
  | bad=>rw [q] at h; exact nE h
  | ok d0 =>
   obtain ⟨t0,ht0,hd0⟩:=Dl q
   rw [q] at h
   simp only [Res.out_ok] at h
   cases t0 with
   | lst a ts =>
    subst hd0
    have h:lOA Z m m1 [x,z,y,x + 1000,z + 1000] y ((ev e (dτ τ)).out (dτ τ) fun d=>FO d fun es=>BH x z y es 0 (dτ τ)) τ H D:=h
    refine ⟨m,a,by rw [BS ht0]; rfl,τ,rfl,S.ok,0,k1,hjk,(h.lg S c2).mono (Same.refl _) fun d _ h t H1 ht R=>?_⟩
    subst ht
    cases t with
    | lst b us =>
     have h:lOA Z m m1 [x,z,y,x + 1000,z + 1000] y (BH x z y (T.dats us) 0 (dτ τ)) τ H D:=h
     have h:=h.shift R.same
     have S1:Sf Z.p Z.H0 Z.A0 m τ H1:=S.grow R.same
     have okt0:=S1.at ht0 hmy (by intro c; cases c)
     refine ⟨b,_,_,rfl,.inl okt0.1,.inl R.ok.1,fun i n σ' H'=>n=us.length - i/\i<=us.length/\∃ τ' ts',σ'=vτ τ'/\Sf Z.p Z.H0 Z.A0 m1 τ' H'/\Stp m m1 [x,z,y,x + 1000,z + 1000] τ τ' H1 H'/\τ'[y]?=some (some (.lst a ts'))/\ts'.length=ts.length/\lOA Z m m1 [x,z,y,x + 1000,z + 1000] y (BH x z y (T.dats (us.drop i)) i (dτ τ')) τ H1 D,
      ⟨us.length,by simp,aar _,τ,ts,rfl,S1.weak hle,Stp.refl _ hle (Same.refl _),ht0,rfl,by simpa using h⟩,?_⟩
     rintro i n σ' H' ⟨rfl,hi,τ',ts',rfl,S',P',hy',hl',h'⟩
     have srcE:∀ c ∈ (T.lst b us).rest 0,(Z.H0 c=none\/Z.A0 c)/\¬ Own m1 τ' c:=fun c hc=>by
      have f:=S.fine (R.src c hc)
      refine ⟨f.1,fun o=>?_⟩
      rcases P'.grow c o with q | q
      ·exact f.2 q
      ·exact R.ok.dom hc q
     have okE:(T.lst b us).Ok Z.p H':=R.ok.keep fun c w e q=>P'.keep c w e fun o=>by
      rcases q with q | q
      ·exact (S.fine (R.src c q)).2 o
      ·obtain ⟨_,vs,e2⟩:=S1.ownOk o
       rw [e2] at e
       exact q vs (Option.some.inj e).symm
     have okY:=S'.at hy' hmy1 (by intro c; cases c)
     have ey:(dτ τ')[y]?=some (some (.lst (T.dats ts'))):=by unfold dτ; rw [aam,hy']; rfl
     rcases aa4 i us.length with hlt | hge
     ·obtain ⟨ui,hui⟩:∃ ui,us[i]?=some ui:=⟨_,aah hlt⟩
      have hdrop:us.drop i=ui :: us.drop (i + 1):=by
       rw [abE hlt]; congr 1; exact (aap.mp hui).2
      rw [hdrop] at h'
      simp only [T.dats,BH] at h'
      rw [ey] at h'
      simp only at h'
      rcases aa4 i ts'.length with hlt2 | hge2
      ·obtain ⟨ti,hti⟩:∃ ti,ts'[i]?=some ti:=⟨_,aah hlt2⟩
       have hvi:(ts'.map T.val)[i]?=some ti.val:=by rw [aam,hti]; rfl
       have hwi:(us.map T.val)[i]?=some ui.val:=by rw [aam,hui]; rfl
       rw [Li hti] at h'
       simp only at h'
       refine .inr ⟨⟨_,_,_,_,.inl okY.1,hvi,.inl okE.1,hwi⟩,fun σ2 H2=>∃ τ2 ts2,σ2=vτ τ2/\Sf Z.p Z.H0 Z.A0 m1 τ2 H2/\Stp m m1 [x,z,y,x + 1000,z + 1000] τ τ2 H1 H2/\τ2[y]?=some (some (.lst a ts2))/\ts2.length=ts.length/\lOA Z m m1 [x,z,y,x + 1000,z + 1000] y (BH x z y (T.dats (us.drop (i + 1))) (i + 1) (dτ τ2)) τ H1 D,
        fun σ2 H2 q=>⟨us.length - (i + 1),by omega,rfl,hlt,q⟩,fun v H'' yl=>?_⟩
       obtain ⟨t,hn,rfl,yl⟩:=yl
       have yl:=yl _ _ _ _ (.inl okY.1) hvi (.inl okE.1) hwi
       cases ti with
       | lst l rts =>
        cases ui with
        | lst b' uts =>
         have h':lOA Z m m1 [x,z,y,x + 1000,z + 1000] y (if (T.dats rts).length + (T.dats uts).length<=LIM then BH x z y (T.dats (us.drop (i + 1))) (i + 1) ((((dτ τ').set x (some (.lst (T.dats rts)))).set z (some (.lst (T.dats uts)))).set y (some (.lst ((T.dats ts').set i (.lst (T.dats uts)))))) else .bad) τ H1 D:=h'
         split at h'
         ·rename_i hLIM
          have s2:Same H' H'':=by subst yl; exact Same.new hn
          have okr:=T.oks_iff.mp okY.2 _ (aae hti)
          have oku:=T.oks_iff.mp okE.2 _ (aae hui)
          have hH:H'' t=some (.tup [(T.lst l rts).val,(T.lst b' uts).val]):=by subst yl; exact L2.A9
          refine JR (p:=Z.p) (t:=.tup t [.lst l rts,.lst b' uts]) (τ':=(τ'.set x (some (.lst l rts))).set z (some (.lst b' uts))) ⟨hH,okr.same s2,oku.same s2,trivial⟩ rfl ?_
          obtain ⟨τ2,hτ2⟩:∃ τ2,τ2=(τ'.set x (some (.lst l rts))).set z (some (.lst b' uts)):=⟨_,rfl⟩
          rw [<- hτ2]
          have lx:x < τ'.length:=by rw [S'.len,hm1,aaB,aaB]; unfold Au; rw [aab]; exact hxl
          have lz:z < τ'.length:=by rw [S'.len,hm1,aaB,aaB]; unfold Au; rw [aab]; exact hzl
          have S2:Sf Z.p Z.H0 Z.A0 m1 τ2 H':=by
           have:=L9 (x:=z) (s:=some (.lst b' uts)) (L9 (x:=x) (s:=some (.lst l rts)) S')
           rw [hmx1,hmz1,<- hτ2] at this
           exact this
          have P2:Stp m1 m1 ([x,x + 1000] ++ [z,z + 1000]) τ' τ2 H' H':=by rw [hτ2]; exact (Jt hmx1).trans (Jt hmz1)
          have hy2:τ2[y]?=some (some (.lst a ts')):=by rw [hτ2,aan hzy,aan hxy]; exact hy'
          have hx2:τ2[x]?=some (some (.lst l rts)):=by rw [hτ2,aan (fun w=>hxz w.symm),aa9 lx]
          have hz2:τ2[z]?=some (some (.lst b' uts)):=by rw [hτ2,aa9 (by rw [aaB]; exact lz)]
          have hmem:l ∈ (T.lst a ts').adr 2:=aaa _ (T.mem_adrs.mpr ⟨_,aae hti,aac ..⟩)
          have hbm:b' ∈ (T.lst b us).rest 0:=aaa _ (T.mem_rests.mpr ⟨_,aae hui,aac ..⟩)
          have hne:l ≠ b':=fun w=>(srcE b' hbm).2 (w ▸ ⟨y,_,2,hy',hmy1,hmem⟩)
          have hpl:H'' l=some (.lst (rts.map T.val)):=s2 _ _ (Hy okr.1 (S'.own y _ 2 l hy' hmy1 hmem).2)
          obtain ⟨t',p1,p2,S3,P3⟩:=UZ (q:=[(false,(i:Int))]) (us:=uts) S2 s2 hy2 hmy1 (by show (ixN ts'.length (i:Int)).bind (fun j=>(ts'[j]?).bind fun t=>AU [] t)=_; rw [Oz hlt2]; show (ts'[i]?).bind (fun t=>AU [] t)=_; rw [hti]; rfl) rfl hkb (T.oks_iff.mpr fun w hw=>(T.oks_iff.mp (oku.same s2).2 w hw)) (fun c hc=>by
           have hcm:c ∈ (T.lst b us).rest 0:=aaa _ (T.mem_rests.mpr ⟨_,aae hui,aaa _ hc⟩)
           have f:=srcE c hcm
           refine ⟨f.1,fun o=>?_⟩
           rcases P2.grow c o with q | q
           ·exact f.2 q
           ·exact okE.dom hcm q)
          refine ⟨.ref b',BS hz2,.ref l,BS hx2,l,b',rts.map T.val,uts.map T.val,rfl,rfl,hpl,.inl (oku.same s2).1,hne,?_,?_⟩
          ·rw [aab,aab]
           rw [Ak,Ak] at hLIM
           exact aao hLIM (by decide)
          ·have et:t'=.lst a (ts'.set i (.lst l uts)):=by
            have p1:(ixN ts'.length (i:Int)).bind (fun j=>(ts'[j]?).bind fun t=>(Dx (.lst l uts) [] t).map fun t'=>T.lst a (ts'.set j t'))=some t':=p1
            rw [Oz hlt2] at p1
            have p1:(ts'[i]?).bind (fun t=>(Dx (.lst l uts) [] t).map fun t'=>T.lst a (ts'.set i t'))=some t':=p1
            rw [hti] at p1
            exact (Option.some.inj p1).symm
           subst et
           refine ⟨_,ts'.set i (.lst l uts),(FV hy2 p2).symm,S3,((P'.trans P2).trans P3).mono (fun j hj=>by simpa [aai,aal,or_assoc,or_comm,or_left_comm] using hj),?_,by rw [aaB]; exact hl',?_⟩
           ·exact aa9 (aap.mp hy2).1
           ·rw [CH,hτ2,CH,CH]
            simp only [T.dat,FT]
            exact h'
         ·exact nE h'
        | _=>exact nE h'
       | _=>exact nE h'
      ·refine .inl ⟨⟨_,_,.inl okY.1,.inl okE.1,.inl (by rw [aab]; exact hge2)⟩,?_⟩
       have en:(T.dats ts')[i]?=none:=abD (by rw [Ak]; exact hge2)
       rw [en] at h'
       exact h' τ' H' a ts ts' rfl ht0 hy' S' P'
     ·refine .inl ⟨⟨_,_,.inl okY.1,.inl okE.1,.inr (by rw [aab]; exact hge)⟩,?_⟩
      rw [List.drop_eq_nil_of_le hge] at h'
      exact h' τ' H' a ts ts' rfl ht0 hy' S' P'
    | _=>exact nE h
   | _=>subst hd0; exact nE h
 ·cases hr
theorem Sz {x z y:Nat} {e:E} (h:lS Z (.eachZ x z y e) D σ H):JT X Z.p Z.EX x z y e D σ H:=by
 obtain ⟨τ,m,r,rfl,S,hr,h⟩:=h
 exact KK S hr fun m1 e=>by subst e; exact lOut.oa h
theorem Ma {τ:Ft}:∀ {zs:List Nat} {ds:List Pu.D},Gh (dτ τ) zs=some ds->∃ ts:List T,T.dats ts=ds/\ts.length=zs.length/\∀ (i:Nat) (z:Nat) (u:T),zs[i]?=some z->ts[i]?=some u->τ[z]?=some (some u)
 | [],ds,h=>by cases h; exact ⟨[],rfl,rfl,fun i z u e=>by simp at e⟩
 | z :: zs,ds,h=>by
  have h:(match (dτ τ)[z]? with
   | some (some d)=>(Gh (dτ τ) zs).map (d :: ·)
   | _=>none)=some ds:=h
  split at h
  ·rename_i d hd
   obtain ⟨r,hr,rfl⟩:=aau.mp h
   obtain ⟨ts,e1,e2,e3⟩:=Ma hr
   obtain ⟨t,ht,hdt⟩:=Dl (show get (dτ τ) z=.ok d by unfold get; rw [hd])
   refine ⟨t :: ts,by rw [<- hdt,<- e1]; rfl,by simp [e2],fun i w u h1 h2=>?_⟩
   cases i with
   | zero=>simp at h1 h2; subst h1; subst h2; exact ht
   | succ i=>exact e3 i w u (by simpa using h1) (by simpa using h2)
  ·cases h
theorem SA {p:Px} {H0:Hp} {A0:Addr->Prop} {m:Ms} {τ:Ft} {H H':Hp} {y:Nat} {t t':T} (S:Sf p H0 A0 m τ H) (hmy:m[y]?=some (.ow 2)) (hkb:leM m (Au m)=true) (ht:τ[y]?=some (some t)) (hv:t'.val=t.val) (ok:t'.Ok p H') (nd:t'.Nd 2) (fl:t'.rest 2=[])
  (kp:∀ b u,H b=some u->b ∉ t.adr 2->H' b=some u) (gr:∀ b ∈ t'.adr 2,(b ∈ t.adr 2\/H b=none)/\∃ ws,H' b=some (.lst ws)):Sf p H0 A0 (Au m) (τ.set y (some t')) H'/\Stp m (Au m) [y] τ (τ.set y (some t')) H H':=by
 have Sk:=S.weak hkb
 have hm1:=E2 hmy
 have hyl:y < τ.length:=(aap.mp ht).1
 have gy:(τ.set y (some t'))[y]?=some (some t'):=aa9 hyl
 have gn:∀ {i:Nat},i ≠ y->(τ.set y (some t'))[i]?=τ[i]?:=fun {i} h=>aan (Ne.symm h)
 have lowz:∀ {j:Nat} {d:Md},(Au m)[j]?=some d->d ≠ .dead->d.low=0:=fun {j d} h hd=>by
  rcases Eg h with z | ⟨_,z⟩
  ·exact absurd z hd
  ·cases d with
   | br k=>exact absurd rfl (z k)
   | dead=>exact absurd rfl hd
   | _=>rfl
 have all2:∀ b,b ∈ t'.rest 0->b ∈ t'.adr 2:=fun b h=>by
  rcases (T.all_iff t' 2).mp h with z | z
  ·exact z
  ·rw [fl] at z; cases z
 have out:∀ {i:Nat} {u:T} {d:Md},i ≠ y->τ[i]?=some (some u)->(Au m)[i]?=some d->d ≠ .dead->∀ b ∈ u.rest 0,b ∉ t.adr 2:=fun {i u d} hi e hd nd b hb hq=>by
  have:=Sk.sep y i t u 2 d (Ne.symm hi) ht hm1 e hd nd b hq
  rw [lowz hd nd] at this
  exact this hb
 refine ⟨⟨by rw [aaB]; exact Sk.len,Sk.small,fun b u e=>?_,fun i u j e ej l=>?_,fun i u k b e hk hb=>?_,fun b sh=>?_,fun i u k e hk=>?_,fun i j u v k d ne e hk e' hd hdd b hb=>?_,fun i j u v k k2 e hk e' hd=>?_⟩,⟨fun b u e no=>?_,fun b o=>?_,fun i hi=>?_,fun i _=>by rw [Ov ht hv]⟩⟩
 ·exact kp b u (Sk.same b u e) fun hq=>by
   have:=(Sk.own y t 2 b ht hm1 hq).1
   rw [e] at this; cases this
 ·by_cases hi:i=y
  ·subst hi; rw [gy] at e; cases e; exact ok
  ·rw [gn hi] at e
   obtain ⟨d,hd,rfl⟩:=A6 ej
   have hdd:d ≠ .dead:=fun z=>by subst z; exact absurd l (by decide)
   refine (Sk.at e hd hdd).keep fun b w eb q=>kp b w eb fun hq=>?_
   rcases q with q | q
   ·exact out hi e hd hdd b q hq
   ·obtain ⟨_,vs,e2⟩:=Sk.own y t 2 b ht hm1 hq
    rw [e2] at eb
    exact q vs (Option.some.inj eb).symm
 ·by_cases hi:i=y
  ·subst hi; rw [gy] at e; cases e
   rw [hm1] at hk; cases hk
   obtain ⟨g1,g2⟩:=gr b hb
   refine ⟨?_,g2⟩
   rcases g1 with z | z
   ·exact (Sk.own i t 2 b ht hm1 z).1
   ·exact Sk.same.free z
  ·rw [gn hi] at e
   obtain ⟨o1,vs,o2⟩:=Sk.own i u k b e hk hb
   exact ⟨o1,vs,kp b _ o2 (out hi e hk (fun z=>nomatch z) b ((T.all_iff u k).mpr (.inl hb)))⟩
 ·obtain ⟨i,u,j,e,ej,l,q⟩:=sh
  by_cases hi:i=y
  ·subst hi; rw [gy] at e; cases e
   rw [AW hm1] at ej; cases ej
   have q:b ∈ t'.rest 2:=q
   rw [fl] at q; cases q
  ·rw [gn hi] at e
   exact Sk.src b ⟨i,u,j,e,ej,l,q⟩
 ·by_cases hi:i=y
  ·subst hi; rw [gy] at e; cases e
   rw [hm1] at hk; cases hk
   exact nd
  ·rw [gn hi] at e; exact Sk.nd i u k e hk
 ·by_cases hi:i=y
  ·subst hi; rw [gy] at e; cases e
   rw [hm1] at hk; cases hk
   rw [gn (Ne.symm ne)] at e'
   rw [lowz hd hdd]
   intro hv
   rcases (gr b hb).1 with z | z
   ·exact out (Ne.symm ne) e' hd hdd b hv z
   ·exact (Sk.at e' hd hdd).dom hv z
  ·rw [gn hi] at e
   by_cases hj:j=y
   ·subst hj; rw [gy] at e'; cases e'
    rw [lowz hd hdd]
    intro hv
    rcases (gr b (all2 b hv)).1 with z | z
    ·exact out hi e hk (fun z=>nomatch z) b ((T.all_iff u k).mpr (.inl hb)) z
    ·obtain ⟨_,vs,o2⟩:=Sk.own i u k b e hk hb
     rw [z] at o2; cases o2
   ·rw [gn hj] at e'
    exact Sk.sep i j u v k d ne e hk e' hd hdd b hb
 ·rcases Eg hd with z | ⟨_,z⟩
  ·cases z
  ·exact absurd rfl (z k2)
 ·exact kp b u e fun hq=>no ⟨y,t,2,ht,hmy,hq⟩
 ·obtain ⟨i,u,k,e,hk,hb⟩:=o
  by_cases hi:i=y
  ·subst hi; rw [gy] at e; cases e
   rw [hm1] at hk; cases hk
   rcases (gr b hb).1 with z | z
   ·exact .inl ⟨i,t,2,ht,hmy,z⟩
   ·exact .inr z
  ·rw [gn hi] at e
   exact .inl (Own.weak hkb ⟨i,u,k,e,hk,hb⟩)
 ·exact gn fun z=>hi (by rw [z]; exact aac ..)
noncomputable def vals (σ:L2.St):List Nat->Option (List V)
 | []=>some []
 | i :: r=>match σ[i]? with
  | some (some v)=>(vals σ r).map (v :: ·)
  | _=>none
theorem Mb {τ:Ft}:∀ {zs:List Nat} {ts:List T},ts.length=zs.length->(∀ (i:Nat) (z:Nat) (u:T),zs[i]?=some z->ts[i]?=some u->τ[z]?=some (some u))->vals (vτ τ) zs=some (ts.map T.val)
 | [],ts,h,_=>by
  have:ts=[]:=List.length_eq_zero_iff.mp h
  subst this; rfl
 | z :: zs,[],h,_=>by simp at h
 | z :: zs,t :: ts,h,g=>by
  have h0:=g 0 z t rfl rfl
  have ih:=Mb (zs:=zs) (ts:=ts) (by simpa using h) fun i w u h1 h2=>g (i + 1) w u (by simpa using h1) (by simpa using h2)
  show (match (vτ τ)[z]? with
   | some (some v)=>(vals (vτ τ) zs).map (v :: ·)
   | _=>none)=_
  rw [BS h0,ih]; rfl
theorem U0 {F:Fn} {y:Nat} {zs:List Nat} (har:zs.length + 1=F.ar) (h:lS Z (.put F y zs) D σ H):∃ vs,vals σ (y :: zs)=some vs/\∀ E,spM Z.p F vs H (fun _ H'=>D.nx σ H') E:=by
 obtain ⟨τ,m,r,rfl,S,hr,h⟩:=h
 simp only [msS] at hr
 split at hr
 ·rename_i k hmy
  obtain ⟨⟨hk,c1,c2,c3⟩,hr⟩:=AE hr
  cases hr
  subst hk
  have h:lOut Z m (some (Au m)) [y] (MQ (Gh (dτ τ) (y :: zs)) F.den (dτ τ) y) τ H D:=h
  cases q:Gh (dτ τ) (y :: zs) with
  | none=>rw [q] at h; exact nE h
  | some ds =>
   rw [q] at h
   obtain ⟨ts0,e1,e2,e3⟩:=Ma q
   cases ts0 with
   | nil=>simp at e2
   | cons t ts =>
    have ht:=e3 0 y t rfl rfl
    have e3':∀ (i:Nat) (z:Nat) (u:T),zs[i]?=some z->ts[i]?=some u->τ[z]?=some (some u):=fun i z u h1 h2=>e3 (i + 1) z u (by simpa using h1) (by simpa using h2)
    have hl:ts.length=zs.length:=by simpa using e2
    subst e1
    have arg:∀ u ∈ ts,∃ z d,z ≠ y/\τ[z]?=some (some u)/\m[z]?=some d/\d ≠ .dead/\d.low=0:=fun u hu=>by
     obtain ⟨i,hi⟩:=abt hu
     have li:i < zs.length:=by rw [<- hl]; exact (aap.mp hi).1
     have hz:=aah li
     have hp:KC m y zs[i]=true:=aaA.mp c3 _ (acz li)
     unfold KC at hp
     rw [aaf] at hp
     obtain ⟨p1,p2⟩:=hp
     have ne:zs[i] ≠ y:=by
      intro z; rw [z] at p1; simp at p1
     split at p2
     ·exact ⟨_,.sh,ne,e3' i _ u hz hi,‹_›,(fun z=>nomatch z),rfl⟩
     ·rename_i kk hh
      exact ⟨_,.ow kk,ne,e3' i _ u hz hi,hh,(fun z=>nomatch z),rfl⟩
     ·cases p2
    refine ⟨t.val :: ts.map T.val,Mb (ts:=t :: ts) e2 e3,fun E=>⟨t,ts,rfl,S.at ht hmy (fun z=>nomatch z),T.oks_iff.mpr fun u hu=>?_,by rw [hl]; exact har,S.nd y t 2 ht hmy,fun b hb=>⟨(S.own y t 2 b ht hmy hb).2,fun hr=>?_⟩,?_⟩⟩
    ·obtain ⟨z,d,g1,g2,g3,g4,g5⟩:=arg u hu
     exact S.at g2 g3 g4
    ·obtain ⟨u,hu,hb2⟩:=T.mem_rests.mp hr
     obtain ⟨z,d,g1,g2,g3,g4,g5⟩:=arg u hu
     have:=S.sep y z t u 2 d (Ne.symm g1) ht hmy g2 g3 g4 b hb
     rw [g5] at this
     exact this hb2
    ·have h:lOut Z m (some (Au m)) [y] (match F.den (t.dat :: T.dats ts) with
      | .ok d=>if Pu.D.flat 9 2 d=true then .nxt ((dτ τ).set y (some d)) else .bad
      | _=>.bad) τ H D:=h
     cases qd:F.den (t.dat :: T.dats ts) with
     | exc c=>rw [qd] at h; exact nE h
     | bad=>rw [qd] at h; exact nE h
     | ok d =>
      rw [qd] at h
      have h:lOut Z m (some (Au m)) [y] (if Pu.D.flat 9 2 d=true then .nxt ((dτ τ).set y (some d)) else .bad) τ H D:=h
      split at h
      ·rename_i hfl
       refine ⟨d,rfl,fun t' H' g1 g2 g3 g4 g5 g6=>?_⟩
       subst g1
       obtain ⟨S2,P2⟩:=SA S hmy c2 ht g2 g3 g4 (EZ 9 t' 2 hfl) g5 g6
       have:=h (Au m) _ H' rfl (CH τ y t') S2 P2
       rw [FV ht g2] at this
       exact this
      ·exact nE h
 ·cases hr
end
noncomputable def DP:List (Bool × E)->List Nd1
 | []=>[]
 | (_,e) :: r=>e.need ++ DP r
mutual
noncomputable def S.need:S->List Nd1
 | .asg _ _ e=>e.need
 | .dem _ _=>[]
 | .dead _=>[]
 | .asgT _ e=>e.need
 | .set _ q i e=>DP q ++ (i.need ++ e.need)
 | .mut _ q _ es=>DP q ++ es.need
 | .expr e=>e.need
 | .iff c a b=>c.need ++ (a.need ++ b.need)
 | .wh c b=>c.need ++ b.need
 | .for_ _ it b=>it.need ++ b.need
 | .ret e=>e.need
 | .eachZ _ _ _ e=>e.need
 | .put F _ _=>[.fm F]
 | .raise c es=>.rs c :: es.need
noncomputable def Ss.need:Ss->List Nd1
 | .nil=>[]
 | .cons s r=>s.need ++ r.need
end
noncomputable def KM:Um->Str
 | .append => "append"
 | .extend => "extend"
 | .clear => "clear"
noncomputable def Qe:Um->Nat->Bool
 | .append,n=>decide (n=1)
 | .extend,n=>decide (n=1)
 | _,n=>decide (n=0)
noncomputable def CJ:Expr->Bool
 | .ListComp _ _ _ _=>false
 | .SetComp _ _ _ _=>false
 | .DictComp _ _ _ _ _=>false
 | _=>true
noncomputable def Gx:Expr->Bool
 | .Tuple _ _ _=>false
 | _=>true
noncomputable def KN (c:CkC):List Expr->Bool
 | [.Name x _,.Name y _]=>(c.sc.names.lookup x==some .cell) || (c.sc.names.lookup y==some .cell)
 | _=>false
noncomputable def KO:Expr->Bool
 | .Call _ _ _ _=>false
 | _=>true
noncomputable def nmOf:Expr->Option (Str × Pos)
 | .Name x p=>some (x,p)
 | _=>none
noncomputable def Qf (e:Expr):Option (Str × Str × Expr):=(DY e).bind fun c=>(M3 c.2).bind fun q=>(FS q.1).bind fun y=>some (c.1,y.1,q.2)
theorem SB {e x:Expr} {f y:Str} (h:Qf e=some (f,y,x)):∃ p3 p4 p5,e=.Call (.Name f p4) [.Name y p3,x] [] p5:=by
 unfold Qf at h
 obtain ⟨c,g1,h⟩:=bS h
 obtain ⟨q,g2,h⟩:=bS h
 obtain ⟨y',g3,h⟩:=bS h
 obtain ⟨p1,p2,E⟩:=Cu g1
 rw [IK g2,DL g3] at E
 cases h
 exact ⟨_,_,_,E⟩
noncomputable def Qg (e:Expr):Option (Str × Str × List Expr × Nat × Pos):=(UD e).bind fun t=>(M3 t.1).bind fun u=>(FS u.1).bind fun a=>(FS u.2).bind fun b=>some (a.1,b.1,t.1,t.2.1,t.2.2)
theorem SC {e:Expr} {a b:Str} {es:List Expr} {k:Nat} {q:Pos} (h:Qg e=some (a,b,es,k,q)):∃ p1 p2,es=[.Name a p1,.Name b p2]/\e=.Tuple [.Name a p1,.Name b p2] k q:=by
 unfold Qg at h
 obtain ⟨t,g1,h⟩:=bS h
 obtain ⟨u,g2,h⟩:=bS h
 obtain ⟨a',g3,h⟩:=bS h
 obtain ⟨b',g4,h⟩:=bS h
 have E:=IK g2
 rw [DL g3,DL g4] at E
 have F:=Sa g1
 rw [E] at F
 cases h
 exact ⟨_,_,E,F⟩
noncomputable def Qh (st:Stmt):Option (Str × Str):=(UH st).bind fun g=>(Hv g.1).bind fun t=>(UE t).bind fun o=>(FS o.1).bind fun a=>(UG o.2.1).bind fun l=>(FS g.2.1).bind fun b=>if (l.1.isNone && l.2.1.isNone && l.2.2.1.isNone)=true then some (a.1,b.1) else none
theorem SD {st:Stmt} {a b:Str} (h:Qh st=some (a,b)):∃ p6 p7 p8 p9 p10,st=.Assign [.Subscript (.Name a p6) (.Slice none none none p7) p8] (.Name b p9) p10:=by
 unfold Qh at h
 obtain ⟨g,g1,h⟩:=bS h
 obtain ⟨t,g2,h⟩:=bS h
 obtain ⟨o,g3,h⟩:=bS h
 obtain ⟨a',g4,h⟩:=bS h
 obtain ⟨l,g5,h⟩:=bS h
 obtain ⟨b',g6,h⟩:=bS h
 obtain ⟨hc,h⟩:=AE h
 obtain ⟨hc,k3⟩:=Aa hc
 obtain ⟨k1,k2⟩:=Aa hc
 have E:=Sg g1
 rw [Ey g2,Sb g3,DL g4,Se g5,DL g6,abX.mp k1,abX.mp k2,abX.mp k3] at E
 cases h
 exact ⟨_,_,_,_,_,E⟩
noncomputable def Fy (st:Stmt):Option (Str × Str × List Expr × Nat × Pos × Str × Expr × Str × Str × Str) :=
 (UI st).bind fun w=>(Qg w.1).bind fun t=>(Qf w.2.1).bind fun z=>(Hv w.2.2.1).bind fun s=>(Qh s).bind fun a=>if w.2.2.2.1.isEmpty=true then some (t.1,t.2.1,t.2.2.1,t.2.2.2.1,t.2.2.2.2,z.2.1,z.2.2,z.1,a.1,a.2) else none
noncomputable def Rows (st:Stmt) (a b y f a2 b2:Str) (es:List Expr) (k:Nat) (q:Pos) (e:Expr):Prop:=∃ p1 p2 p3 p4 p5 p6 p7 p8 p9 p10 p11,es=[.Name a p1,.Name b p2]/\st=.For (.Tuple [.Name a p1,.Name b p2] k q) (.Call (.Name f p4) [.Name y p3,e] [] p5) [.Assign [.Subscript (.Name a2 p6) (.Slice none none none p7) p8] (.Name b2 p9) p10] [] p11
theorem OA {st:Stmt} {a b y f a2 b2:Str} {es:List Expr} {k:Nat} {q:Pos} {e:Expr} (h:Fy st=some (a,b,es,k,q,y,e,f,a2,b2)):Rows st a b y f a2 b2 es k q e:=by
 unfold Fy at h
 obtain ⟨w,g1,h⟩:=bS h
 obtain ⟨⟨t1,t2,t3,t4,t5⟩,g2,h⟩:=bS h
 obtain ⟨⟨z1,z2,z3⟩,g3,h⟩:=bS h
 obtain ⟨s,g4,h⟩:=bS h
 obtain ⟨⟨a1,a3⟩,g5,h⟩:=bS h
 obtain ⟨hc,h⟩:=AE h
 obtain ⟨p1,p2,e1,e2⟩:=SC g2
 obtain ⟨p3,p4,p5,e3⟩:=SB g3
 obtain ⟨p6,p7,p8,p9,p10,e5⟩:=SD g5
 have E:=Si g1
 rw [e2,e3,Ey g4,e5,List.isEmpty_iff.mp hc] at E
 cases h
 exact ⟨_,_,_,_,_,_,_,_,_,_,_,e1,E⟩
noncomputable def U1:Stmt->Option (Expr × Pos)
 | .Expr e p=>some (e,p)
 | _=>none
theorem SE {st:Stmt} {e:Expr} {p:Pos} (h:U1 st=some (e,p)):st=.Expr e p:=by cases st <;> cases h <;> rfl
noncomputable def GZ (st:Stmt):Option (Str × List Expr):=(U1 st).bind fun e=>DY e.1
theorem Qi {st:Stmt} {f:Str} {xs:List Expr} (h:GZ st=some (f,xs)):∃ p1 p2 p3,st=.Expr (.Call (.Name f p1) xs [] p2) p3:=by
 unfold GZ at h
 obtain ⟨e,g1,h⟩:=bS h
 obtain ⟨p1,p2,E⟩:=Cu h
 have F:=SE g1
 rw [E] at F
 exact ⟨_,_,_,F⟩
noncomputable def Gy (c:CkC):List Nat->List Expr->Bool
 | [],[]=>true
 | i :: is,.Name y _ :: r=>(c.N[i]?==some y) && BT c.sc y && AO y && Gy c is r
 | _,_=>false
mutual
noncomputable def ckS (c:CkC):S->Stmt->Bool
 | .asg x _ e,.Assign [.Name y _] e' _=>(c.N[x]?==some y) && FQ c y && ckE c e e'
 | .asgT xs e,.Assign [.Tuple ts k q] e' _=>ckG c (.tp xs) (.Tuple ts k q) && ckE c e e' && (Gx e' || KN c ts)
 | .set x q i e,.Assign [.Subscript o i' _] e' _=>Fi c x q.reverse o && ckE c i i' && B4 i' && ckE c e e' && CJ e'
 | .mut x q u es,.Expr (.Call (.Attribute o name ap) xs [] cp) _=>Fi c x q.reverse o && (name==KM u) && ckEs c es xs && (ap.endLine==cp.line) && KO o && decide (es.len < 20) && Qe u es.len
 | .expr e,.Expr e' _=>ckE c e e' && CJ e'
 | .iff t a b,.If t' a' b' _=>ckE c t t' && t.tst && ckSs c a a' && ckSs c b b'
 | .wh t b,.While t' b' [] _=>ckE c t t' && t.tst && ckSs c b b' && c.rz
 | .for_ g it b,.For tg it' b' [] _=>ckG c g tg && ckI c tg it it' && D0 it' && ckSs c b b' && c.rz && c.cm
 | .ret e,.Return (some e') _=>ckE c e e'
 | .raise n es,.Raise (some (.Call (.Name x _) xs [] _)) none _=>(x==Bj n) && glB c.sc x && AO x && ckEs c es xs && decide (0 < es.len) && decide (es.len<=1000) && c.rz && c.cm
 | .eachZ x z y e,st=>match Fy st with
  | some (a,b,es,k,q,yn,e',f,a2,b2)=>(f==("zip" : Str)) && glB c.sc f && ckG c (.tp [x,z]) (.Tuple es k q) && ckE c (.nm y) (.Name yn q) && ckE c e e' && Af e' && (a2==a) && (b2==b) && BT c.sc a && AO a && BT c.sc b && AO b && (c.N[x]?==some a) && (c.N[z]?==some b) && c.rz && c.cm
  | none=>false
 | .put F y zs,st=>match GZ st with
  | some (x,ns)=>(x==F.name) && glB c.sc x && AO x && Gy c (y :: zs) ns && decide (zs.length + 1=F.ar) && c.cm
  | none=>false
 | _,_=>false
noncomputable def ckSs (c:CkC):Ss->List Stmt->Bool
 | .nil,[]=>true
 | .cons (.dem _ _) r,st=>ckSs c r st
 | .cons (.dead _) r,st=>ckSs c r st
 | .cons s r,x :: xs=>ckS c s x && ckSs c r xs
 | _,_=>false
end
structure Cs (Z:Zx) (c:CkC) (lv:Nat) (X:Cx) (E:XK):Prop where
 ct:Ct Z.p c lv X Z.EX
 ex:c.rz=true->Z.EX=fun _=>E
 xw:c.rz=true->ML X E
 po:c.rz=true->PassesOwn (model X.prog X.w) X.A X.env X.xe
 kind:c.sc.kind=.function
 stk:X.stack=X.env :: X.outer
 frm:X.env.frame=some X.env.locals
section
variable {Z:Zx} {c:CkC} {lv:Nat} {X:Cx} {E:XK} {pos:Pos}
theorem FW {e:Expr} {t:Option Expr} {n:Nat} {env:Env} (h:CJ e=true):swapsWith e t n env=pure false:=by
 cases e <;> first | rfl | cases h
theorem Hl {q:List (Bool × Pu.E)}:∀ e ∈ q,∀ n ∈ e.2.need,n ∈ DP q:=by
 induction q with
 | nil=>intro e he; cases he
 | cons a q ih =>
  intro e he n hn
  obtain ⟨b,e0⟩:=a
  rcases aal.mp he with rfl | he
  ·exact aaw _ hn
  ·exact aak _ (ih e he n hn)
theorem Qj (C:Cs Z c lv X E) {x k:Nat} {e:Pu.E} {y:Str} {py:Pos} {e':Expr} (hn:∀ n ∈ e.need,NeedOk Z.p lv X n) (h1:(c.N[x]?==some y)=true) (h2:FQ c y=true) (h3:ckE c e e'=true):PS X (.Assign [.Name y py] e' pos) (lS Z (.asg x k e)):=by
 have hN:X.N[x]?=some y:=by rw [C.ct.N]; exact beq_iff_eq.mp h1
 obtain ⟨l1,l2⟩:=C.ct.loc h2
 intro pins s σ H D I h
 obtain ⟨τ,m,rfl,S,h⟩:=UR h
 by_cases hc:CJ e'=true
 ·exact NI C.ct.nd hN l1 (snd e C.ct (tn:=tnM m) e' hn h3).1 (FW hc) l2 pins s _ H D I h
 ·cases e' with
  | ListComp elt' gens scope q =>
   have hsw:∃ b:Bool,swapsWith (.ListComp elt' gens scope q) (some (.Name y py)) pos.line X.env=pure b:=⟨_,rfl⟩
   obtain ⟨b,hsw⟩:=hsw
   cases b with
   | false=>exact NI C.ct.nd hN l1 (snd e C.ct (tn:=tnM m) _ hn h3).1 hsw l2 pins s _ H D I h
   | true =>
    cases e with
    | comp0 nl fr g it elt =>
     obtain ⟨tg,iter,ifs,rfl,h3⟩:=Ed h3
     obtain ⟨h3,g7⟩:=Aa h3
     obtain ⟨h3,g6⟩:=Aa h3
     obtain ⟨h3,g5⟩:=Aa h3
     obtain ⟨h3,g4⟩:=Aa h3
     obtain ⟨h3,g3⟩:=Aa h3
     obtain ⟨h3,g2⟩:=Aa h3
     obtain ⟨h3,g1⟩:=Aa h3
     obtain ⟨gc,g0⟩:=Aa h3
     cases ifs with
     | cons _ _=>cases g0
     | nil =>
     have g2:=of_decide_eq_true g2
     subst g2
     obtain ⟨Sc,nd⟩:=JS C.ct g1
     obtain ⟨n1,n2⟩:=Ax hn
     refine M1 (C.ct.calm gc) Sc (sndI it C.ct (tn:=tnM m) iter n1 g4) (fun i hi=>of_decide_eq_true (aaA.mp g3 i hi)) (fun z=>⟨?_,?_⟩) (DM g5) C.ct.nd hN l1 l2 hsw pins s _ H D I h
     ·exact Gp (C.ct.blk nd z) g6
     ·exact (snd elt (C.ct.blk nd z) elt' (fun n m=>(n2 n m).blk) g7).1
    | comp1 nl fr g it cond elt =>
     obtain ⟨tg,iter,ifs,rfl,h3⟩:=Ed h3
     obtain ⟨cnd,rfl,h3⟩:=Kv h3
     obtain ⟨h3,g9⟩:=Aa h3
     obtain ⟨h3,g8⟩:=Aa h3
     obtain ⟨h3,g7⟩:=Aa h3
     obtain ⟨h3,g6⟩:=Aa h3
     obtain ⟨h3,g5⟩:=Aa h3
     obtain ⟨h3,g4⟩:=Aa h3
     obtain ⟨h3,g3⟩:=Aa h3
     obtain ⟨h3,g2⟩:=Aa h3
     obtain ⟨gc,g1⟩:=Aa h3
     have g2:=of_decide_eq_true g2
     subst g2
     obtain ⟨Sc,nd⟩:=JS C.ct g1
     obtain ⟨n1,n2⟩:=Ax hn
     obtain ⟨n2,n3⟩:=Ax n2
     refine M2 (C.ct.calm gc) Sc (sndI it C.ct (tn:=tnM m) iter n1 g4) (fun i hi=>of_decide_eq_true (aaA.mp g3 i hi)) (fun z=>⟨?_,?_,?_⟩) (DM g5) C.ct.nd hN l1 l2 hsw pins s _ H D I h
     ·exact Gp (C.ct.blk nd z) g6
     ·exact (snd cond (C.ct.blk nd z) cnd (fun n m=>(n2 n m).blk) g7).2 g8
     ·exact (snd elt (C.ct.blk nd z) elt' (fun n m=>(n3 n m).blk) g9).1
    | listI it=>cases it <;> exact nF h3
    | mt m _ _=>cases m <;> exact nF h3
    | _=>exact nF h3
  | SetComp _ _ _ _ =>
   cases e with
   | listI it=>cases it <;> exact nF h3
   | mt m _ _=>cases m <;> exact nF h3
   | _=>exact nF h3
  | DictComp _ _ _ _ _ =>
   cases e with
   | listI it=>cases it <;> exact nF h3
   | mt m _ _=>cases m <;> exact nF h3
   | _=>exact nF h3
  | _=>exact absurd rfl hc
theorem OB {ts:List Expr} {k:Nat} {q:Pos} {e':Expr} {env:Env} (h:Gx e'=true):swappedStores [.Tuple ts k q] e' env=pure none:=by
 cases e' <;> first | rfl | cases h
theorem Qk (x:Str) (p:Pos):(Expr.Name x p).pos=p:=rfl
theorem OC {x y:Str} {px py q:Pos} {k:Nat} {e':Expr} {env:Env} (h:env.kindOf x=some .cell\/env.kindOf y=some .cell):swappedStores [.Tuple [.Name x px,.Name y py] k q] e' env=pure none:=by
 cases e' with
 | Tuple vs k2 q2 =>
  have key:([Expr.Name x px,.Name y py].filterMap fun | .Name id pos=>(if env.kindOf id==some .local && pos.line==px.line then some id else none) | _=>none).length ≠ 2:=by
   rcases h with h | h <;> simp only [abw,List.filterMap_nil,h] <;> simp <;> split <;> simp
  have key2:(([Expr.Name x px,.Name y py].filterMap fun | .Name id pos=>(if env.kindOf id==some .local && pos.line==px.line then some id else none) | _=>none).length != 2)=true:=by simpa using key
  unfold swappedStores
  simp only [aaP,List.length_nil,List.head?_cons,aa5,Option.getD_some,Qk,aaJ,Nat.reduceAdd,key2,Bool.true_or,if_true,pure_bind]
  split
  ·rfl
  ·split
   ·rfl
   ·exact if_pos (acm.mpr (.inl key2))
 | _=>rfl
theorem Ql {c:CkC} {ts:List Expr} {k:Nat} {q:Pos} {e':Expr} {env:Env} (hs:env.scope=c.sc) (h:(Gx e' || KN c ts)=true):swappedStores [.Tuple ts k q] e' env=pure none:=by
 rcases acm.mp h with h | h
 ·exact OB h
 ·unfold KN at h
  split at h
  ·refine OC ?_
   rw [acm,beq_iff_eq,beq_iff_eq,<- hs] at h
   exact h
  ·cases h
theorem Qm {ts:List Expr} {k:Nat} {q:Pos} {e':Expr} {env:Env} {n:Nat}:swapsWithSole [.Tuple ts k q] e' n env=pure false:=by
 cases e' <;> rfl
theorem Qn {o i:Expr} {q:Pos} {e':Expr} {env:Env} {n:Nat} (h:CJ e'=true):swapsWithSole [.Subscript o i q] e' n env=pure false:=by
 cases e' <;> first | rfl | cases h
theorem OD (C:Cs Z c lv X E) {xs:List Nat} {e:Pu.E} {ts:List Expr} {k:Nat} {q:Pos} {e':Expr} (hn:∀ n ∈ e.need,NeedOk Z.p lv X n) (h1:ckG c (.tp xs) (.Tuple ts k q)=true) (h2:ckE c e e'=true) (h3:(Gx e' || KN c ts)=true):PS X (.Assign [.Tuple ts k q] e' pos) (lS Z (.asgT xs e)):=by
 intro pins s σ H D I h
 obtain ⟨m,h⟩:=Sv (K:=X.K) h
 exact J0 (snd e C.ct (tn:=tnM m) e' hn h2).1 (Gp C.ct h1) Qm (Ql C.ct.sc h3) rfl pins s σ H D I h
theorem OE (C:Cs Z c lv X E) {e:Pu.E} {e':Expr} (hn:∀ n ∈ e.need,NeedOk Z.p lv X n) (h1:ckE c e e'=true) (h2:CJ e'=true):PS X (.Expr e' pos) (lS Z (.expr e)):=by
 intro pins s σ H D I h
 obtain ⟨m,h⟩:=Sw h
 exact Eu (snd e C.ct (tn:=tnM m) e' hn h1).1 (FW h2) pins s σ H D I h
theorem Qo (C:Cs Z c lv X E) {x:Nat} {q:List (Bool × Pu.E)} {i e:Pu.E} {o i' e':Expr} {p2:Pos} (n1:∀ n ∈ DP q,NeedOk Z.p lv X n) (n2:∀ n ∈ i.need,NeedOk Z.p lv X n) (n3:∀ n ∈ e.need,NeedOk Z.p lv X n)
  (h1:Fi c x q.reverse o=true) (h2:ckE c i i'=true) (h3:B4 i'=true) (h4:ckE c e e'=true) (h5:CJ e'=true):PS X (.Assign [.Subscript o i' p2] e' pos) (lS Z (.set x q i e)):=by
 intro pins s σ H D I h
 obtain ⟨m,h⟩:=US h
 have A:=M8 C.ct (tn:=tnM m) (x:=x) (rp:=q.reverse) (o:=o) (fun e he n hn=>n1 n (Hl e (abm.mp he) n hn)) h1
 rw [acQ] at A
 have hw:swappedStores [.Subscript o i' p2] e' X.env=pure none:=by cases e' <;> rfl
 refine J0 (snd e C.ct (tn:=tnM m) e' n3 h4).1 (TH A (snd i C.ct (tn:=tnM m) i' n2 h2).1 Pn (fun v=>?_)) (Qn h5) hw rfl pins s σ H D I h
 cases i' <;> first | rfl | cases h3
theorem Qp {p:Px} {EX:EXT} {tn:List Nat} {K:Frag} {u:V->List V->Hp->VK->Prop} {x:Nat} {q:List (Bool × Pu.E)} {σ:L2.St} {H:Hp} {Q:Hp->Prop} (h:lPl p EX tn x q σ H fun v H1=>tyV K "list" v H1/\lEs p EX tn .nil σ H1 fun vs H2=>u v vs H2 fun _ H3=>Q H3) :
  lPl p EX tn x q σ H fun v H1=>tyV K "list" v H1/\u v [] H1 fun _ H3=>Q H3:=by
 obtain ⟨τ,t,is,s,e1,e2,e3,e4,e5,e6,e7,h⟩:=h
 refine ⟨τ,t,is,s,e1,e2,e3,e4,e5,e6,e7,fun H' s'=>?_⟩
 obtain ⟨h1,τ2,rfl,hF,j,k,hj,h2⟩:=h H' s'
 exact ⟨h1,h2 [] H' rfl ⟨Same.refl _,trivial,by simp [T.rests],by simp [T.adrs],by simp [T.Nds,T.adrs]⟩⟩
theorem OF {x:Nat} {rp:List (Bool × Pu.E)} {o:Expr} {name:Str} {env:Env} (h:Fi c x rp o=true):attributeBase o name env (eval o env)=eval o env:=by
 cases rp with
 | nil=>cases o <;> first | rfl | exact nF h
 | cons a r=>obtain ⟨b,e⟩:=a; cases o <;> first | rfl | exact nF h
theorem Qq (C:Cs Z c lv X E) {x:Nat} {q:List (Bool × Pu.E)} {u:Um} {es:Es} {o:Expr} {xs:List Expr} {ap cp:Pos} (n1:∀ n ∈ DP q,NeedOk Z.p lv X n) (n2:∀ n ∈ es.need,NeedOk Z.p lv X n)
  (h1:Fi c x q.reverse o=true) (h2:ckEs c es xs=true) (h3:(ap.endLine==cp.line)=true) (h5:Qe u es.len=true):PS X (.Expr (.Call (.Attribute o (KM u) ap) xs [] cp) pos) (lS Z (.mut x q u es)):=by
 intro pins s σ H D I h
 obtain ⟨τ,m,r,rfl,S,hr,h⟩:=h
 have A:PE X o (lPl Z.p Z.EX (tnM m) x q):=by
  have A:=M8 C.ct (tn:=tnM m) (x:=x) (rp:=q.reverse) (o:=o) (fun e he n hn=>n1 n (Hl e (abm.mp he) n hn)) h1
  rwa [acQ] at A
 have hb:∀ name:Str,attributeBase o name X.env (eval o X.env)=eval o X.env:=fun name=>OF h1
 obtain ⟨st,sl⟩:=CI h2
 simp only [msS] at hr
 split at hr
 ·rename_i k hmx
  split at hr
  ·rename_i hc
   obtain ⟨c1,c2,c3⟩:=hc
   cases hmv:es.mvOf m with
   | some yk =>
    obtain ⟨y,ky⟩:=yk
    rw [hmv] at hr
    obtain ⟨⟨d1,d2,d3,d4⟩,rfl⟩:=AE hr
    subst d1
    have hq:q=[]:=by cases q with | nil=>rfl | cons _ _=>cases d4
    subst hq
    have hes:es=.cons (.nm y) .nil/\m[y]?=some (.ow ky):=by
     unfold Es.mvOf at hmv
     split at hmv
     ·split at hmv
      ·cases hmv; exact ⟨rfl,‹_›⟩
      ·cases hmv
     ·cases hmv
    obtain ⟨rfl,hmy⟩:=hes
    cases xs with
    | nil=>cases sl
    | cons a xr =>
     cases xr with
     | cons _ _=>cases sl
     | nil =>
      obtain ⟨g,_⟩:=Aa (show (ckE c (.nm y) a && Af a && ckEs c .nil [])=true from h2)
      obtain ⟨g1,g2⟩:=Aa g
      cases a with
      | Name z pz =>
       obtain ⟨g,g5⟩:=Aa (show ((c.N[y]?==some z) && BT c.sc z && AO z)=true from g1)
       obtain ⟨g3,g4⟩:=Aa g
       obtain ⟨e1,e2⟩:=Bl g5
       have hv:PE X (.Name z pz) (Mz y):=Dr (by rw [C.ct.N]; exact beq_iff_eq.mp g3) (C.ct.vis g4) e1 e2
       refine Eu (HQ PySem.F.plainAttrs_list PySem.F.slot_list_append PySem.F.type_list_append EU A (AC hv By rfl) (hb _) rfl h3 rfl rfl) rfl pins s _ H D I ?_
       exact UT (X:=X) S hmx hmy d2 (by simpa [lnE] using d3) rfl h
      | _=>exact nF g1
   | none =>
    rw [hmv] at hr
    obtain ⟨⟨j1,k1⟩,g1,hr⟩:=bS hr
    obtain ⟨hcc,rfl⟩:=AE hr
    have B:=(sndA es C.ct (tn:=tnM m) xs n2 h2).1
    have M:=Sr (X:=X) C.ct.K S hmx c1 c2 g1 hcc rfl h
    have one:∀ {y:Expr},Af y=true->((backTo cp (starEach [y] X.env)).all (fun x=>!x.1) && (backToKw cp (keywordEach [] X.env)).all (fun x=>x.1.isSome) && decide ([y].length + ([]:List Keyword).length + (if ([]:List Keyword).isEmpty then 0 else 1) < 30))=true:=by
     intro y hy
     rw [Ag hy]; rfl
    cases u with
    | append =>
     have h5:es.len=1:=of_decide_eq_true h5
     match xs,sl,st with
     | [y],_,st =>
      have hy:Af y=true:=by simpa using st
      exact Eu (HQ PySem.F.plainAttrs_list PySem.F.slot_list_append PySem.F.type_list_append EU A B (hb _) (one hy) h3 (Ag hy) rfl) rfl pins s _ H D I M
     | [],sl,_=>rw [h5] at sl; cases sl
     | _ :: _ :: _,sl,_=>rw [h5] at sl; cases sl
    | extend =>
     have h5:es.len=1:=of_decide_eq_true h5
     match xs,sl,st with
     | [y],_,st =>
      have hy:Af y=true:=by simpa using st
      exact Eu (HQ PySem.F.plainAttrs_list PySem.F.slot_list_extend PySem.F.type_list_extend M9 A B (hb _) (one hy) h3 (Ag hy) rfl) rfl pins s _ H D I M
     | [],sl,_=>rw [h5] at sl; cases sl
     | _ :: _ :: _,sl,_=>rw [h5] at sl; cases sl
    | clear =>
     have h5:es.len=0:=of_decide_eq_true h5
     rw [h5] at sl
     cases xs with
     | cons _ _=>cases sl
     | nil =>
      cases es with
      | cons _ _=>cases h5
      | nil =>
       refine Eu (T6 PySem.F.plainAttrs_list PySem.F.slot_list_clear PySem.F.type_list_clear Po A (hb _) h3) rfl pins s _ H D I ?_
       exact Qp M
  ·cases hr
 ·cases hr
end
section
variable {Z:Zx} {c:CkC} {lv:Nat} {X:Cx} {E:XK} {pos:Pos}
theorem Qr (C:Cs Z c lv X E) {e:Pu.E} {e':Expr} (hn:∀ n ∈ e.need,NeedOk Z.p lv X n) (h1:ckE c e e'=true):PS X (.Return (some e') pos) (lS Z (.ret e)):=by
 intro pins s σ H D I h
 rcases UU h with ⟨i,t,rfl,hs,hq⟩ | ⟨m,h⟩
 ·cases e' with
  | Name y q =>
   obtain ⟨g,h3⟩:=Aa (show ((c.N[i]?==some y) && BT c.sc y && AO y)=true from h1)
   obtain ⟨h1,h2⟩:=Aa g
   obtain ⟨d1,d2⟩:=Bl h3
   exact NH (Dr (by rw [C.ct.N]; exact beq_iff_eq.mp h1) (C.ct.vis h2) d1 d2) pins s σ H D I ⟨_,hs,hq⟩
  | _=>exact nF h1
 ·exact NH (snd e C.ct (tn:=tnM m) e' hn h1).1 pins s σ H D I h
theorem Na (C:Cs Z c lv X E) {n:Nat} {es:Es} {xs:List Expr} {np cp:Pos} (hn:∀ n ∈ es.need,NeedOk Z.p lv X n) (hr:NeedOk Z.p lv X (.rs n)) (h1:glB c.sc (Bj n)=true) (h2:AO (Bj n)=true) (h3:ckEs c es xs=true) (h4:0 < es.len) (h5:es.len<=1000) (hrz:c.rz=true) (hcm:c.cm=true) :
  PS X (.Raise (some (.Call (.Name (Bj n) np) xs [] cp)) none pos) (lS Z (.raise n es)):=by
 intro pins s σ H D I h
 obtain ⟨m,h⟩:=Qd h
 obtain ⟨r1,r2,r3⟩:=hr
 obtain ⟨s1,s2⟩:=CI h3
 have A:=(sndA es C.ct (tn:=tnM m) xs hn h3).1
 cases xs with
 | nil=>rw [<- s2] at h4; cases h4
 | cons x xr =>
  rw [aaO,aaf] at s1
  refine Pv (C.xw hrz) (C.ct.calm hcm) (C.ct.gl h1) r2 r3 A (Bl h2).1 (Ag s1.1) (AS s1.2) pins s σ H D I ?_
  obtain ⟨τ,e,hF,j,k,hj,h⟩:=h
  refine ⟨τ,e,hF,j,k,hj,h.mono (Same.refl _) fun ds _ hd ts H1 ht R=>?_⟩
  obtain ⟨q1,q2⟩:=hd ts H1 ht R
  refine ⟨by rw [q1]; exact aao h5 (by decide),?_⟩
  have:=q2 r1
  rw [C.ex hrz] at this
  exact this
end
section
variable {Z:Zx} {c:CkC} {lv:Nat} {X:Cx} {E:XK} {pos:Pos}
theorem KP (C:Cs Z c lv X E) {x z y:Nat} {e:Pu.E} {st:Stmt} (hn:∀ n ∈ e.need,NeedOk Z.p lv X n) (h:ckS c (.eachZ x z y e) st=true):PS X st (JT X Z.p Z.EX x z y e):=by
 cases w0:Fy st with
 | none =>
  have h:(match Fy st with | some (a,b,es,k,q,yn,e',f,a2,b2)=>(f==("zip" : Str)) && glB c.sc f && ckG c (.tp [x,z]) (.Tuple es k q) && ckE c (.nm y) (.Name yn q) && ckE c e e' && Af e' && (a2==a) && (b2==b) && BT c.sc a && AO a && BT c.sc b && AO b && (c.N[x]?==some a) && (c.N[z]?==some b) && c.rz && c.cm | none=>false)=true:=h
  rw [w0] at h; cases h
 | some w =>
  obtain ⟨a,b,es,k,q,yn,e',f,a2,b2⟩:=w
  have h:(match Fy st with | some (a,b,es,k,q,yn,e',f,a2,b2)=>(f==("zip" : Str)) && glB c.sc f && ckG c (.tp [x,z]) (.Tuple es k q) && ckE c (.nm y) (.Name yn q) && ckE c e e' && Af e' && (a2==a) && (b2==b) && BT c.sc a && AO a && BT c.sc b && AO b && (c.N[x]?==some a) && (c.N[z]?==some b) && c.rz && c.cm | none=>false)=true:=h
  rw [w0] at h
  obtain ⟨p1,p2,p3,p4,p5,p6,p7,p8,p9,p10,p11,rfl,rfl⟩:=OA w0
  obtain ⟨h,hcm⟩:=Aa (show ((f==("zip" : Str)) && glB c.sc f && ckG c (.tp [x,z]) (.Tuple [.Name a p1,.Name b p2] k q) && ckE c (.nm y) (.Name yn q) && ckE c e e' && Af e' && (a2==a) && (b2==b) && BT c.sc a && AO a && BT c.sc b && AO b && (c.N[x]?==some a) && (c.N[z]?==some b) && c.rz && c.cm)=true from h)
  obtain ⟨h,hrz⟩:=Aa h
  obtain ⟨h,h14⟩:=Aa h
  obtain ⟨h,h13⟩:=Aa h
  obtain ⟨h,h12⟩:=Aa h
  obtain ⟨h,h11⟩:=Aa h
  obtain ⟨h,h10⟩:=Aa h
  obtain ⟨h,h9⟩:=Aa h
  obtain ⟨h,h8⟩:=Aa h
  obtain ⟨h,h7⟩:=Aa h
  obtain ⟨h,h6⟩:=Aa h
  obtain ⟨h,h5⟩:=Aa h
  obtain ⟨h,h4⟩:=Aa h
  obtain ⟨h,h3⟩:=Aa h
  obtain ⟨h1,h2⟩:=Aa h
  cases beq_iff_eq.mp h1
  cases beq_iff_eq.mp h7
  cases beq_iff_eq.mp h8
  intro pins s σ H D I hT
  obtain ⟨g,g3⟩:=Aa (show ((c.N[y]?==some yn) && BT c.sc yn && AO yn)=true from h4)
  obtain ⟨g1,g2⟩:=Aa g
  obtain ⟨d1,d2⟩:=Bl g3
  obtain ⟨d3,d4⟩:=Bl h10
  obtain ⟨d5,d6⟩:=Bl h12
  obtain ⟨m,a0,e1,hE⟩:=hT
  refine J2 (C.po hrz) (C.ct.calm hcm) (UC (C.ct.gl h2) (C.ct.blt _ (by simp [Bg])) (AC (Dr (by rw [C.ct.N]; exact beq_iff_eq.mp g1) (C.ct.vis g2) d1 d2) (AC (snd e C.ct (tn:=tnM m) e' hn h5).1 By (Ag h6)) rfl) (by show _ :: _=_; rw [Ag h6]; rfl) (Ag h6)) (Gp C.ct h3)
   (LE (J0 (Dr (by rw [C.ct.N]; exact beq_iff_eq.mp h14) (C.ct.vis h11) d5 d6) (Uk (Dr (by rw [C.ct.N]; exact beq_iff_eq.mp h13) (C.ct.vis h9) d3 d4)))) (by intro _; rfl) pins s σ H D I ?_
  refine ⟨_,e1,?_⟩
  exact Sy hE fun v H1 ⟨b,xs,ys,ev,sq1,sq2,W⟩=>⟨a0,b,by rw [ev],xs,ys,sq1,sq2,fun _=>W⟩
theorem KQ (C:Cs Z c lv X E):∀ {zs:List Nat} {xs:List Expr},Gy c zs xs=true->PA X xs (fun σ H Q=>∃ vs,vals σ zs=some vs/\Q vs H)/\xs.all Af=true/\xs.length=zs.length
 | [],[],_=>⟨fun po pins s σ H Q I q=>By po pins s σ H Q I (by obtain ⟨vs,e,q⟩:=q; cases e; exact q),rfl,rfl⟩
 | [],_ :: _,h=>by cases h
 | _ :: _,[],h=>by cases h
 | i :: is,e :: r,h=>by
  cases e with
  | Name y q =>
   obtain ⟨h,h4⟩:=Aa (show ((c.N[i]?==some y) && BT c.sc y && AO y && Gy c is r)=true from h)
   obtain ⟨h,h3⟩:=Aa h
   obtain ⟨h1,h2⟩:=Aa h
   obtain ⟨A,a2,a3⟩:=KQ C h4
   obtain ⟨d1,d2⟩:=Bl h3
   refine ⟨fun po pins s σ H Q I q=>AC (Dr (i:=i) (by rw [C.ct.N]; exact beq_iff_eq.mp h1) (C.ct.vis h2) d1 d2) A rfl po pins s σ H Q I ?_,by rw [aaO,a2]; rfl,by simp [a3]⟩
   obtain ⟨vs,e,q⟩:=q
   have e:(match σ[i]? with
    | some (some v)=>(vals σ is).map (v :: ·)
    | _=>none)=some vs:=e
   split at e
   ·rename_i v hv
    obtain ⟨ws,hw,rfl⟩:=aau.mp e
    exact ⟨v,hv,ws,hw,q⟩
   ·cases e
  | _=>exact nF h
theorem Qs (C:Cs Z c lv X E) {F:Fn} {y:Nat} {zs:List Nat} {xs:List Expr} {p1 p2:Pos} (hn:NeedOk Z.p lv X (.fm F)) (h2:glB c.sc F.name=true) (h3:AO F.name=true) (h4:Gy c (y :: zs) xs=true) (h5:zs.length + 1=F.ar) (h6:c.cm=true) :
  PS X (.Expr (.Call (.Name F.name p1) xs [] p2) pos) (lS Z (.put F y zs)):=by
 intro pins s σ H D I h
 obtain ⟨f1,ps,hps,hF⟩:=hn
 obtain ⟨A,a2,a3⟩:=KQ C h4
 cases xs with
 | nil=>simp at a3
 | cons x1 xr =>
  rw [aaO,aaf] at a2
  refine Eu (MM hF ((C.ct.room h6).mono f1) (C.ct.gl h2) C.ct.pass A (Bl h3).1 (Ag a2.1) (AS a2.2)) (FW rfl) pins s σ H D I ?_
  obtain ⟨vs,e,q⟩:=U0 h5 h
  refine ⟨vs,e,?_⟩
  show spM Z.p F (vs ++ []) H _ _
  rw [aaL]
  exact q _
end
mutual
theorem Wl {Z:Zx} {c:CkC} {lv:Nat} {X:Cx} {E:XK} (C:Cs Z c lv X E):∀ (s:S) (st:Stmt),(∀ n ∈ s.need,NeedOk Z.p lv X n)->ckS c s st=true->PS X st (lS Z s)
 | .asg x k e,st,hn,h=>by
  cases st with
  | Assign ts e' q =>
   match ts,h with
   | [t],h =>
    cases t with
    | Name y py =>
     obtain ⟨h,h3⟩:=Aa (show ((c.N[x]?==some y) && FQ c y && ckE c e e')=true from h)
     obtain ⟨h1,h2⟩:=Aa h
     exact Qj C hn h1 h2 h3
    | _=>exact nF h
   | [],h=>exact nF h
   | t :: _ :: _,h=>cases t <;> exact nF h
  | _=>exact nF h
 | .dem _ _,st,hn,h=>by cases st <;> exact nF h
 | .dead _,st,hn,h=>by cases st <;> exact nF h
 | .asgT xs e,st,hn,h=>by
  cases st with
  | Assign ts e' q =>
   match ts,h with
   | [t],h =>
    cases t with
    | Tuple es k py =>
     obtain ⟨h,h3⟩:=Aa (show (ckG c (.tp xs) (.Tuple es k py) && ckE c e e' && (Gx e' || KN c es))=true from h)
     obtain ⟨h1,h2⟩:=Aa h
     exact OD C hn h1 h2 h3
    | _=>exact nF h
   | [],h=>exact nF h
   | t :: _ :: _,h=>cases t <;> exact nF h
  | _=>exact nF h
 | .set x q i e,st,hn,h=>by
  cases st with
  | Assign ts e' q2 =>
   match ts,h with
   | [t],h =>
    cases t with
    | Subscript o i' py =>
     obtain ⟨h,h5⟩:=Aa (show (Fi c x q.reverse o && ckE c i i' && B4 i' && ckE c e e' && CJ e')=true from h)
     obtain ⟨h,h4⟩:=Aa h
     obtain ⟨h,h3⟩:=Aa h
     obtain ⟨h1,h2⟩:=Aa h
     obtain ⟨n1,n2⟩:=Ax hn
     obtain ⟨n2,n3⟩:=Ax n2
     exact Qo C n1 n2 n3 h1 h2 h3 h4 h5
    | _=>exact nF h
   | [],h=>exact nF h
   | t :: _ :: _,h=>cases t <;> exact nF h
  | _=>exact nF h
 | .mut x q u es,st,hn,h=>by
  cases st with
  | Expr v q2 =>
   cases v with
   | Call f xs ks cp =>
    cases f with
    | Attribute o name ap =>
     cases ks with
     | nil =>
      obtain ⟨h,h8⟩:=Aa (show (Fi c x q.reverse o && (name==KM u) && ckEs c es xs && (ap.endLine==cp.line) && KO o && decide (es.len < 20) && Qe u es.len)=true from h)
      obtain ⟨h,h7⟩:=Aa h
      obtain ⟨h,h5⟩:=Aa h
      obtain ⟨h,h4⟩:=Aa h
      obtain ⟨h,h3⟩:=Aa h
      obtain ⟨h1,h2⟩:=Aa h
      cases beq_iff_eq.mp h2
      obtain ⟨n1,n2⟩:=Ax hn
      exact Qq C n1 n2 h1 h3 h4 h8
     | cons _ _=>exact nF h
    | _=>exact nF h
   | _=>exact nF h
  | _=>exact nF h
 | .expr e,st,hn,h=>by
  cases st with
  | Expr v q2 =>
   obtain ⟨h1,h2⟩:=Aa (show (ckE c e v && CJ v)=true from h)
   exact OE C hn h1 h2
  | _=>exact nF h
 | .iff t a b,st,hn,h=>by
  cases st with
  | If t' a' b' q =>
   obtain ⟨h,h4⟩:=Aa (show (ckE c t t' && t.tst && ckSs c a a' && ckSs c b b')=true from h)
   obtain ⟨h,h3⟩:=Aa h
   obtain ⟨h1,h2⟩:=Aa h
   obtain ⟨n1,n2⟩:=Ax hn
   obtain ⟨n2,n3⟩:=Ax n2
   intro pins s σ H D I h
   obtain ⟨m,h⟩:=UV h
   exact Vr ((snd t C.ct (tn:=tnM m) t' n1 h1).2 h2) (sndSs C a a' n2 h3) (sndSs C b b' n3 h4) pins s σ H D I h
  | _=>exact nF h
 | .wh t b,st,hn,h=>by
  cases st with
  | While t' b' el q =>
   cases el with
   | nil =>
    obtain ⟨h,hrz⟩:=Aa (show (ckE c t t' && t.tst && ckSs c b b' && c.rz)=true from h)
    obtain ⟨h,h3⟩:=Aa h
    obtain ⟨h1,h2⟩:=Aa h
    obtain ⟨n1,n2⟩:=Ax hn
    intro pins s σ H D I h
    obtain ⟨m,h⟩:=VO h
    exact Pf (C.po hrz) ((snd t C.ct (tn:=tnM m) t' n1 h1).2 h2) (sndSs C b b' n2 h3) pins s σ H D I h
   | cons _ _=>exact nF h
  | _=>exact nF h
 | .for_ g it b,st,hn,h=>by
  cases st with
  | For tg it' b' el q =>
   cases el with
   | nil =>
    obtain ⟨h,hcm⟩:=Aa (show (ckG c g tg && ckI c tg it it' && D0 it' && ckSs c b b' && c.rz && c.cm)=true from h)
    obtain ⟨h,hrz⟩:=Aa h
    obtain ⟨h,h4⟩:=Aa h
    obtain ⟨h,h3⟩:=Aa h
    obtain ⟨h1,h2⟩:=Aa h
    obtain ⟨n1,n2⟩:=Ax hn
    have B:=sndSs C b b' n2 h4
    intro pins s σ H D I h
    rcases UY (K:=X.K) (X:=X) h with ⟨m,h⟩ | ⟨x,rfl,v,a,xs,e1,rfl,sq,hW⟩
    ·exact J2 (C.po hrz) (C.ct.calm hcm) (sndI it C.ct (tn:=tnM m) it' n1 h2) (Gp C.ct h1) B (DM h3) pins s σ H D I h
    ·cases it' with
     | Name y q' =>
      obtain ⟨g,g3⟩:=Aa (show ((c.N[x]?==some y) && BT c.sc y && AO y)=true from h2)
      obtain ⟨g1,g2⟩:=Aa g
      obtain ⟨d1,d2⟩:=Bl g3
      refine J2 (C.po hrz) (C.ct.calm hcm) (Kq (Dr (by rw [C.ct.N]; exact beq_iff_eq.mp g1) (C.ct.vis g2) d1 d2)) (Gp C.ct h1) B (DM h3) pins s σ H D I ?_
      exact ⟨_,e1,a,rfl,.inl ⟨xs,sq,hW C.ct.K⟩⟩
     | _=>exact nF h2
   | cons _ _=>exact nF h
  | _=>exact nF h
 | .ret e,st,hn,h=>by
  cases st with
  | Return v q =>
   cases v with
   | some e'=>exact Qr C hn h
   | none=>exact nF h
  | _=>exact nF h
 | .eachZ x z y e,st,hn,h=>fun pins s σ H D I q=>KP C hn h pins s σ H D I (Sz q)
 | .put F y zs,st,hn,h=>by
  cases w0:GZ st with
  | none =>
   have h:(match GZ st with | some (x,ns)=>(x==F.name) && glB c.sc x && AO x && Gy c (y :: zs) ns && decide (zs.length + 1=F.ar) && c.cm | none=>false)=true:=h
   rw [w0] at h; cases h
  | some w =>
   obtain ⟨x,ns⟩:=w
   have h:(match GZ st with | some (x,ns)=>(x==F.name) && glB c.sc x && AO x && Gy c (y :: zs) ns && decide (zs.length + 1=F.ar) && c.cm | none=>false)=true:=h
   rw [w0] at h
   obtain ⟨p1,p2,p3,rfl⟩:=Qi w0
   obtain ⟨h,h6⟩:=Aa (show ((x==F.name) && glB c.sc x && AO x && Gy c (y :: zs) ns && decide (zs.length + 1=F.ar) && c.cm)=true from h)
   obtain ⟨h,h5⟩:=Aa h
   obtain ⟨h,h4⟩:=Aa h
   obtain ⟨h,h3⟩:=Aa h
   obtain ⟨h1,h2⟩:=Aa h
   cases beq_iff_eq.mp h1
   exact Qs C (hn _ (aac ..)) h2 h3 h4 (of_decide_eq_true h5) h6
 | .raise n es,st,hn,h=>by
  cases st with
  | Raise v w q =>
   cases v with
   | none=>exact nF h
   | some v =>
    cases v with
    | Call f xs ks cp =>
     cases f with
     | Name x np =>
      cases ks with
      | nil =>
       cases w with
       | none =>
        obtain ⟨h,hcm⟩:=Aa (show ((x==Bj n) && glB c.sc x && AO x && ckEs c es xs && decide (0 < es.len) && decide (es.len<=1000) && c.rz && c.cm)=true from h)
        obtain ⟨h,hrz⟩:=Aa h
        obtain ⟨h,h6⟩:=Aa h
        obtain ⟨h,h5⟩:=Aa h
        obtain ⟨h,h4⟩:=Aa h
        obtain ⟨h,h3⟩:=Aa h
        obtain ⟨h1,h2⟩:=Aa h
        cases beq_iff_eq.mp h1
        exact Na C (fun n m=>hn n (aaa _ m)) (hn _ (aac ..)) h2 h3 h4 (of_decide_eq_true h5) (of_decide_eq_true h6) hrz hcm
       | some _=>exact nF h
      | cons _ _=>exact nF h
     | _=>exact nF h
    | _=>exact nF h
  | _=>exact nF h
theorem sndSs {Z:Zx} {c:CkC} {lv:Nat} {X:Cx} {E:XK} (C:Cs Z c lv X E):∀ (s:Ss) (st:List Stmt),(∀ n ∈ s.need,NeedOk Z.p lv X n)->ckSs c s st=true->PSs X st (lSs Z s)
 | .nil,st,hn,h=>by
  cases st with
  | nil=>exact fun pins s σ H D I h=>Rc pins s σ H D I (UX h)
  | cons _ _=>exact nF h
 | .cons s r,st,hn,h=>by
  obtain ⟨n1,n2⟩:=Ax hn
  have skip:(∃ x k,s=.dem x k)\/(∃ x,s=.dead x)->ckSs c r st=true->PSs X st (lSs Z (.cons s r)):=fun hs h=>PSs.mono (sndSs C r st n2 h) fun D σ H q=>Sx hs q
  by_cases hd:(∃ x k,s=.dem x k)\/(∃ x,s=.dead x)
  ·refine skip hd ?_
   rcases hd with ⟨x,k,rfl⟩ | ⟨x,rfl⟩
   ·exact h
   ·exact h
  ·cases st with
   | nil=>cases s <;> first | exact nF h | exact absurd (.inl ⟨_,_,rfl⟩) hd | exact absurd (.inr ⟨_,rfl⟩) hd
   | cons x xs =>
    have h:(ckS c s x && ckSs c r xs)=true:=by
     cases s <;> first | exact h | exact absurd (.inl ⟨_,_,rfl⟩) hd | exact absurd (.inr ⟨_,rfl⟩) hd
    obtain ⟨h1,h2⟩:=Aa h
    exact PSs.mono (Pc (Wl C s x n1 h1) (sndSs C r xs n2 h2)) fun D σ H q=>UW q
end
structure Lw where
 p:Px
 P:Program
 w:World
 mg:Str->Option Value
 base:Heap
structure Lw.Ok (L:Lw):Prop where
 blt:∀ y ∈ Bg,L.mg y=none
 bt:∀ y ∈ (["bool", "dict", "ValueError"]:List Str),L.mg y=none
 kx:Kx L.p
noncomputable def Qt (L:Lw) (F:Fn):Prop:=∃ ps:List Str,ps.length=F.ar/\Has L.P L.w L.p.K L.mg L.base F.name F.lv ps (spF L.p F)
noncomputable def Nb (L:Lw) (F:Fn):Prop:=∃ ps:List Str,ps.length=F.ar/\Has L.P L.w L.p.K L.mg L.base F.name F.lv ps (spM L.p F)
noncomputable def NeedG (L:Lw) (lv:Nat):Nd1->Prop
 | .fn F=>F.lv<=lv/\Qt L F
 | .fm F=>F.lv<=lv/\Nb L F
 | .cl n=>L.p.has n=true/\L.mg (Bj n)=some (.ref (L.p.cl n))
 | .rs n=>L.p.has n=true/\nsIn L.p.K mainGlobals (Bj n)=some (some (.ref (L.p.cl n)))/\excIn L.p.K (L.p.cl n) Hr "ValueError.__new__" = true
 | .gl x d=>∃ u,L.mg x=some u/\RelV (dT d).val u
noncomputable def AllN (f:Nd1->Prop):List Nd1->Prop
 | []=>True
 | n :: r=>f n/\AllN f r
theorem AllN.mem {f:Nd1->Prop}:∀ {l:List Nd1},AllN f l->∀ n ∈ l,f n
 | [],_,n,h=>by cases h
 | m :: r,h,n,hn=>by
  rcases aal.mp hn with rfl | hn
  ·exact h.1
  ·exact AllN.mem h.2 n hn
noncomputable def Av (name:Str) (ar lv dep n:Nat) (body:Ss):Fn:=⟨name,ar,lv,dep,fun ds=>if ds.length=ar then run n body ds else .bad⟩
theorem Ao {x:Str} {ar lv dep n:Nat} {b:Ss} {ds:List D} (h:ds.length=ar):(Av x ar lv dep n b).den ds=run n b ds:=if_pos h
noncomputable def m0 (ar n:Nat):Ms:=aaj ar .sh ++ aaj (n - ar) .dead
noncomputable def τ0 (n:Nat) (ts:List T):Ft:=ts.map some ++ aaj (n - ts.length) none
theorem vτ0 (N:List Str) (ts:List T):vτ (τ0 N.length ts)=L2.AK N (ts.map T.val):=by
 unfold vτ τ0 L2.AK
 rw [aat,aaE,aaE,abn,aab]
 rfl
theorem dτ0 (n:Nat) (ts:List T):dτ (τ0 n ts)=Pu.AK n (T.dats ts):=by
 unfold dτ τ0 Pu.AK
 rw [aat,aaE,T.dats_map,aaE,abn,aab]
 rfl
theorem KR {ar n i:Nat} {d:Md} (h:(m0 ar n)[i]?=some d):(i < ar/\d=.sh)\/(ar<=i/\d=.dead):=by
 unfold m0 at h
 by_cases hi:i < ar
 ·rw [aaW (by simpa using hi),aaZ,if_pos hi] at h
  exact .inl ⟨hi,(Option.some.inj h).symm⟩
 ·rw [aaG (by simpa using hi),aaZ] at h
  split at h
  ·exact .inr ⟨abl hi,(Option.some.inj h).symm⟩
  ·cases h
theorem G1 {n i:Nat} {ts:List T} {t:T} (h:(τ0 n ts)[i]?=some (some t)):t ∈ ts:=by
 unfold τ0 at h
 have:=aae h
 rw [aai] at this
 rcases this with z | z
 ·obtain ⟨u,hu,e⟩:=aaD.mp z
  cases e; exact hu
 ·have:=(abo.mp z).2; cases this
theorem IN {p:Px} {H:Hp}:∀ {ts:List T},T.Oks p H ts->∀ t ∈ ts,t.Ok p H
 | [],_,t,h=>by cases h
 | u :: r,h,t,ht=>by
  rcases aal.mp ht with rfl | ht
  ·exact h.1
  ·exact IN h.2 t ht
theorem sf0 {p:Px} {H:Hp} {ts:List T} {n ar:Nat} (ok:T.Oks p H ts) (hl:ts.length=ar) (hn:ar<=n):Sf p H (fun a=>a ∈ T.rests ts 0) (m0 ar n) (τ0 n ts) H:=by
 have noOw:∀ {i k:Nat},(m0 ar n)[i]? ≠ some (.ow k):=fun {i k} h=>by
  rcases KR h with ⟨_,z⟩ | ⟨_,z⟩ <;> cases z
 refine ⟨?_,fun d hd=>?_,Same.refl _,fun i t j h1 h2 h3=>IN ok t (G1 h1),fun i t k a h1 h2=>absurd h2 noOw,?_,fun i t k h1 h2=>absurd h2 noOw,fun i j t u k d h0 h1 h2=>absurd h2 noOw,fun i j t u k k2 h1 h2=>absurd h2 noOw⟩
 ·unfold τ0 m0
  simp [hl]
 ·obtain ⟨i,hi⟩:=abt hd
  rcases KR hi with ⟨_,rfl⟩ | ⟨_,rfl⟩ <;> rfl
 ·rintro a ⟨i,t,j,h1,h2,h3,h4⟩
  obtain ⟨d,h5,rfl⟩:=A6 h2
  right
  refine T.mem_rests.mpr ⟨t,G1 h1,?_⟩
  rcases KR h5 with ⟨_,rfl⟩ | ⟨_,rfl⟩
  ·exact h4
  ·exact absurd h3 (by decide)
theorem NeedG.to {L:Lw} {lv:Nat} {n:Nd1} (h:NeedG L lv n) {X:Cx} (e1:X.prog=L.P) (e2:X.w=L.w) (e3:X.K=L.p.K) (e4:X.mg=L.mg) (e5:X.base=L.base):NeedOk L.p lv X n:=by
 cases n with
 | fn F =>
  refine ⟨h.1,?_⟩
  unfold MX
  rw [e1,e2,e3,e4,e5]
  exact h.2
 | fm F =>
  refine ⟨h.1,?_⟩
  unfold UB
  rw [e1,e2,e3,e4,e5]
  exact h.2
 | cl n=>show _/\_; rw [e4]; exact h
 | rs n=>show _/\_/\_; rw [e3]; exact h
 | gl x d=>show ∃ u,_; rw [e4]; exact h
theorem OG {L:Lw} (O:L.Ok) {x:Str} {st:Stmt} {N ps:List Str} {ar lv dep:Nat} {body:Ss} {f:Addr} {fd:FuncData} (D:Fun L.p.K x x st f fd) (S:FnScope N ps (Ai st)) (har:ps.length=ar)
  (hck:ckSs ⟨N,Ai st,true,true,true⟩ body (AH st)=true) (hms:(msSs (aaj N.length .dead) dep body (m0 ar N.length)).isSome=true) (hn:AllN (NeedG L lv) body.need):FnOk L.P L.w L.p.K L.mg L.base (CXe L.P L.w) (lv + 1) f fd ps (spF L.p (Av x ar (lv + 1) dep N.length body)):=by
 have hpl:ps.length<=N.length:=by have:=congrArg abq S.pre; rw [abF] at this; omega
 refine Fun.okX D S (fun vs H Q E h=>?_) fun f cdv A outer s H vs Q E hr hsp=>?_
 ·obtain ⟨ts,rfl,_,h,_⟩:=h
  rw [aab,h]; exact har.symm
 ·obtain ⟨ts,rfl,ok,hl,h⟩:=hsp
  have hl:ts.length=ar:=hl
  obtain ⟨r,hr'⟩:=aaz.mp hms
  let Z:Zx:=⟨L.p,H,fun a=>a ∈ T.rests ts 0,fun _=>E,aaj N.length .dead,dep⟩
  have C:Cs Z ⟨N,Ai st,true,true,true⟩ lv (BD (CXe L.P L.w) L.P L.w L.p.K L.mg L.base N x (Ai st) f cdv A outer s H E) E:=by
   refine ⟨⟨rfl,rfl,rfl,S.nd,fun _=>rfl,fun _=>hr,hr.units,O.blt,O.bt,?_,fun _ _=>rfl,O.kx,fun _=>trivial⟩,fun _=>rfl,fun _=>J8 fun _ _ _ h=>h,fun _=>PassesOwn.leaving,S.kind,rfl,rfl⟩
   intro pins σ H' s' e s'' I h
   exact QU (fun _ _ _ h=>h) pins σ H' s' e s'' I h
  refine ⟨_,sndSs C body (AH st) (fun n hnm=>(hn.mem n hnm).to rfl rfl rfl rfl rfl) hck,τ0 N.length ts,m0 ar N.length,r,(vτ0 N ts).symm,sf0 ok hl (by omega),hr',?_⟩
  have h:match (if (T.dats ts).length=ar then run N.length body (T.dats ts) else .bad) with
   | .ok d=>∀ t H',t.dat=d->Rs L.p (fun a=>a ∈ T.rests ts 0) H H' 0 dep t->Q t.val H'
   | .exc c=>L.p.has c=true->∀ H',Same H H'->E (.ref (L.p.cl c)) none H'
   | .bad=>False:=h
  rw [if_pos (by rw [T.dats_map,aab]; exact hl)] at h
  unfold run at h
  rw [dτ0]
  cases q:exs body (Pu.AK N.length (T.dats ts)) with
  | nxt δ =>
   rw [q] at h
   intro m' τ' H' e1 e2 S' P'
   exact h .non H' rfl (Rs.scal S'.same rfl)
  | ret d =>
   rw [q] at h
   exact h
  | exc c δ =>
   rw [q] at h
   intro hc τ' H' e S' P'
   exact h hc H' S'.same
  | bad=>rw [q] at h; exact h.elim
theorem SF {L:Lw} (O:L.Ok) {x:Str} {st:Stmt} {N ps:List Str} {ar lv dep:Nat} {body:Ss} (D:Df L.p.K L.mg x st ps) (S:FnScope N ps (Ai st)) (har:ps.length=ar)
  (hck:ckSs ⟨N,Ai st,true,true,true⟩ body (AH st)=true) (hms:(msSs (aaj N.length .dead) dep body (m0 ar N.length)).isSome=true) (hn:AllN (NeedG L lv) body.need):Qt L (Av x ar (lv + 1) dep N.length body):=by
 obtain ⟨f,fd,F,m,b⟩:=D
 exact ⟨ps,har,f,fd,OG O F S har hck hms hn,m,F.kp,b⟩
noncomputable def Nc (name:Str) (ar lv n x z:Nat) (e:E):Fn:=⟨name,ar,lv,0,fun ds=>if ds.length=ar then (match ex (.eachZ x z 0 e) (Pu.AK n ds) with
 | .nxt δ=>get δ 0
 | _=>.bad) else .bad⟩
noncomputable def m0p (ar n:Nat):Ms:=.ow 2 :: (aaj (ar - 1) .sh ++ aaj (n - ar) .dead)
theorem IO {ar n i:Nat} {d:Md} (h:(m0p ar n)[i]?=some d):(i=0/\d=.ow 2)\/(i ≠ 0/\(d=.sh\/d=.dead)):=by
 unfold m0p at h
 cases i with
 | zero=>left; simp at h; exact ⟨rfl,h.symm⟩
 | succ i =>
  right
  refine ⟨Nat.succ_ne_zero _,?_⟩
  rw [aaV] at h
  have:=aae h
  rcases aai.mp this with z | z
  ·exact .inl (abo.mp z).2
  ·exact .inr (abo.mp z).2
theorem EF {n:Nat} {t:T} {ts:List T}:(τ0 n (t :: ts))[0]?=some (some t):=rfl
theorem Qu {n i:Nat} {t u:T} {ts:List T} (h:(τ0 n (t :: ts))[i]?=some (some u)) (hi:i ≠ 0):u ∈ ts:=by
 cases i with
 | zero=>exact absurd rfl hi
 | succ i =>
  unfold τ0 at h
  rw [aay,aa7,aaV] at h
  have:=aae h
  rcases aai.mp this with z | z
  ·obtain ⟨v,hv,e⟩:=aaD.mp z
   cases e; exact hv
  ·have:=(abo.mp z).2; cases this
theorem ow0 {ar n i k:Nat} (h:(m0p ar n)[i]?=some (.ow k)):i=0/\k=2:=by
 rcases IO h with ⟨z,e⟩ | ⟨_,e | e⟩
 ·cases e; exact ⟨z,rfl⟩
 ·cases e
 ·cases e
theorem Wm {p:Px} {H:Hp} {t:T} {ts:List T} {n ar:Nat} (ok:t.Ok p H) (oks:T.Oks p H ts) (hl:ts.length + 1=ar) (hn:ar<=n) (nd:t.Nd 2) (hb:∀ b ∈ t.adr 2,(∃ ws,H b=some (.lst ws))/\b ∉ T.rests ts 0) :
  Sf p (fun b=>if b ∈ t.adr 2 then none else H b) (fun a=>a ∈ T.rests (t :: ts) 0) (m0p ar n) (τ0 n (t :: ts)) H:=by
 refine ⟨?_,fun d hd=>?_,fun b u e=>?_,fun i u j h1 h2 h3=>?_,fun i u k a h1 h2 h3=>?_,?_,fun i u k h1 h2=>?_,fun i j u v k d h0 h1 h2 h3 h4 h5 a h6 h7=>?_,fun i j u v k k2 h1 h2 h3 h4=>?_⟩
 ·unfold τ0 m0p
  simp; omega
 ·obtain ⟨i,hi⟩:=abt hd
  rcases IO hi with ⟨_,rfl⟩ | ⟨_,rfl | rfl⟩ <;> rfl
 ·have e:(if b ∈ t.adr 2 then none else H b)=some u:=e
  split at e
  ·cases e
  ·exact e
 ·exact IN (ts:=t :: ts) ⟨ok,oks⟩ u (G1 h1)
 ·obtain ⟨rfl,rfl⟩:=ow0 h2
  rw [EF] at h1; cases h1
  exact ⟨if_pos h3,(hb a h3).1⟩
 ·rintro a ⟨i,u,j,h1,h2,h3,h4⟩
  right
  exact T.mem_rests.mpr ⟨u,G1 h1,T.rest_le u (aar _) h4⟩
 ·obtain ⟨rfl,rfl⟩:=ow0 h2
  rw [EF] at h1; cases h1
  exact nd
 ·obtain ⟨rfl,rfl⟩:=ow0 h2
  rw [EF] at h1; cases h1
  exact (hb a h6).2 (T.mem_rests.mpr ⟨v,Qu h3 (Ne.symm h0),T.rest_le v (aar _) h7⟩)
 ·rcases IO h4 with ⟨_,z⟩ | ⟨_,z | z⟩ <;> cases z
theorem SG {L:Lw} (O:L.Ok) {x:Str} {st:Stmt} {N ps:List Str} {ar lv xx zz:Nat} {e:E} (D:Df L.p.K L.mg x st ps) (S:FnScope N ps (Ai st)) (har:ps.length=ar)
  (hck:ckSs ⟨N,Ai st,true,true,true⟩ (.cons (.eachZ xx zz 0 e) .nil) (AH st)=true) (hms:(msS (aaj N.length .dead) 0 (.eachZ xx zz 0 e) (m0p ar N.length)).isSome=true) (hn:AllN (NeedG L lv) e.need):Nb L (Nc x ar (lv + 1) N.length xx zz e):=by
 have hpl:ps.length<=N.length:=by have:=congrArg abq S.pre; rw [abF] at this; omega
 refine ⟨ps,har,Df.has D S (fun vs H Q E h=>?_) fun f cdv A outer s H vs Q E hr hsp=>?_⟩
 ·obtain ⟨t,ts,rfl,_,_,h,_⟩:=h
  rw [aaP,aab,h]; exact har.symm
 ·obtain ⟨t,ts,rfl,ok,oks,hl,nd,hb,d,hd,hq⟩:=hsp
  have hl:ts.length + 1=ar:=hl
  obtain ⟨r,hr'⟩:=aaz.mp hms
  let Z:Zx:=⟨L.p,fun b=>if b ∈ t.adr 2 then none else H b,fun a=>a ∈ T.rests (t :: ts) 0,fun _=>E,aaj N.length .dead,0⟩
  have C:Cs Z ⟨N,Ai st,true,true,true⟩ lv (BD (CXe L.P L.w) L.P L.w L.p.K L.mg L.base N x (Ai st) f cdv A outer s H E) E:=by
   refine ⟨⟨rfl,rfl,rfl,S.nd,fun _=>rfl,fun _=>hr,hr.units,O.blt,O.bt,?_,fun _ _=>rfl,O.kx,fun _=>trivial⟩,fun _=>rfl,fun _=>J8 fun _ _ _ h=>h,fun _=>PassesOwn.leaving,S.kind,rfl,rfl⟩
   intro pins σ H' s' e s'' I h
   exact QU (fun _ _ _ h=>h) pins σ H' s' e s'' I h
  have hbd:∃ st1,AH st=[st1]/\ckS ⟨N,Ai st,true,true,true⟩ (.eachZ xx zz 0 e) st1=true:=by
   revert hck
   cases AH st with
   | nil=>intro h; exact nF h
   | cons s1 r1 =>
    intro h
    obtain ⟨h1,h2⟩:=Aa (show (ckS ⟨N,Ai st,true,true,true⟩ (.eachZ xx zz 0 e) s1 && ckSs ⟨N,Ai st,true,true,true⟩ .nil r1)=true from h)
    cases r1 with
    | nil=>exact ⟨s1,rfl,h1⟩
    | cons _ _=>exact nF h2
  obtain ⟨st1,hb1,hck1⟩:=hbd
  rw [hb1]
  refine ⟨_,LE (KP C (fun n hnm=>(hn.mem n hnm).to rfl rfl rfl rfl rfl) hck1),?_⟩
  have hd2:(if (T.dats (t :: ts)).length=ar then (match ex (.eachZ xx zz 0 e) (Pu.AK N.length (T.dats (t :: ts))) with
   | .nxt δ=>get δ 0
   | _=>.bad) else .bad)=Res.ok d:=hd
  rw [if_pos (by rw [T.dats_map,aab,aaP]; exact hl)] at hd2
  have sf:=Wm (p:=L.p) (n:=N.length) ok oks hl (by omega) nd hb
  have key:=KK (X:=BD (CXe L.P L.w) L.P L.w L.p.K L.mg L.base N x (Ai st) f cdv A outer s H E) (Z:=Z) (D:={ nx:=fun _ H'=>Q .non H',rt:=Q }) (τ:=τ0 N.length (t :: ts)) (r:=r) sf hr' fun m1 em=>?_
  ·rw [vτ0] at key
   exact key
  ·subst em
   rw [dτ0]
   have hm1:m1[0]?=some (.ow 2):=by
    simp only [msS] at hr'
    split at hr'
    ·obtain ⟨⟨j1,k1⟩,_,hr'⟩:=bS hr'
     obtain ⟨⟨_,g1,g2,_⟩,hr'⟩:=AE hr'
     cases hr'
     rw [aan g2,aan g1]
     exact E2 rfl
    ·cases hr'
   cases q:ex (.eachZ xx zz 0 e) (Pu.AK N.length (T.dats (t :: ts))) with
   | nxt δ =>
    rw [q] at hd2
    intro τ' H' a us us' e1 e2 e3 S' P'
    rw [EF] at e2
    cases e2
    have hd3:get δ 0=.ok d:=hd2
    rw [<- e1] at hd3
    obtain ⟨t2,ht2,ed⟩:=Dl hd3
    rw [e3] at ht2
    cases ht2
    have ownI:∀ b,Own (m0p ar N.length) (τ0 N.length (T.lst a us :: ts)) b->b ∈ (T.lst a us).adr 2:=by
     rintro b ⟨i,u,k,h1,h2,h3⟩
     obtain ⟨rfl,rfl⟩:=ow0 h2
     rw [EF] at h1; cases h1
     exact h3
    refine hq (.lst a us') H' ed rfl (S'.at e3 hm1 (fun z=>nomatch z)) (S'.nd 0 _ 2 e3 hm1) (fun b u hb' hn'=>P'.keep b u hb' fun o=>hn' (ownI b o)) fun b hb'=>⟨?_,(S'.own 0 _ 2 b e3 hm1 hb').2⟩
    exact (P'.grow b ⟨0,_,2,e3,hm1,hb'⟩).imp (ownI b) id
   | ret d'=>rw [q] at hd2; cases hd2
   | exc c δ=>rw [q] at hd2; cases hd2
   | bad=>rw [q] at hd2; cases hd2
noncomputable def Wn:Value->Bool
 | .type x=>x == "list"
 | _=>false
noncomputable def noL (K:Frag):Bool:=K.all fun e=>!Wn e.2.cls
theorem OH {a:Addr} {o:Obj}:∀ {K:Frag},K.lookup a=some o->(a,o) ∈ K
 | [],h=>by cases h
 | (b,u) :: r,h=>by
  by_cases e:a=b
  ·subst e
   rw [List.lookup_cons_self] at h
   cases h
   exact aac
  ·have:(a==b)=false:=by simpa using e
   rw [List.lookup_cons,this] at h
   exact aaa _ (OH h)
theorem U2 {K:Frag} (h:noL K=true) {a:Addr} {o:Obj} (e:K.lookup a=some o):o.cls ≠ .type "list" := fun z=>by
 have:=aaA.mp h (a,o) (OH e)
 rw [z] at this
 cases this
noncomputable def spL (K:Frag):Sp:=fun vs H Q E=>∃ (a:Addr) (ns:List Int),vs=[.ref a]/\ns.length<=63/\SqL K H a (ns.map V.int)/\∀ H',Q (.bl true) H'
theorem KS:∀ ns:List Int,(ns.map T.int).map T.val=ns.map V.int
 | []=>rfl
 | n :: r=>by rw [aay,aay,aay,KS r]; rfl
theorem KT:∀ ns:List Int,T.dats (ns.map T.int)=ns.map D.int
 | []=>rfl
 | n :: r=>by rw [aay,aay,T.dats,KT r]; rfl
theorem Mc {p:Px} {H:Hp}:∀ ns:List Int,T.Oks p H (ns.map T.int)
 | []=>trivial
 | n :: r=>⟨trivial,Mc r⟩
theorem U3 {P:Program} {w:World} {K:Frag} {mg:Str->Option Value} {base:Heap} {p:Px} {F:Fn} {f:Addr} {fd:FuncData} {ps:List Str} (hF:FnOk P w K mg base (CXe P w) F.lv f fd ps (spF p F)) (hp:p.K=K) (ha:F.ar=1) (hK:noL K=true)
  (hd:∀ ns:List Int,ns.length<=63->F.den [.lst (ns.map .int)]=.ok (.bl true)):FnOk P w K mg base (CXe P w) F.lv f fd ps (spL K):=by
 refine hF.imp fun vs H Q E h=>?_
 obtain ⟨a,ns,rfl,hl,hS,q⟩:=h
 have hR:Rd H a (.lst (ns.map V.int)):=by
  rcases hS with h | ⟨o,its,n,e,c,_⟩
  ·exact h
  ·exact absurd c (U2 hK e)
 refine ⟨[.lst a (ns.map T.int)],rfl,⟨⟨by rw [KS]; exact hR,Mc ns⟩,trivial⟩,ha.symm,?_⟩
 have e:T.dats [T.lst a (ns.map T.int)]=[.lst (ns.map .int)]:=by
  show [D.lst (T.dats (ns.map T.int))]=_
  rw [KT]
 rw [e,hd ns hl]
 intro t H' ht R
 cases t <;> first | cases ht | skip
 exact q H'
theorem VP {l:PySem.W.OpenLaw} {k:Nat} {q:Program} {loose:List Str} {XP:(Str->Option Value)->Heap->Prop} {YP:World->Heap->Prop} {d:DefRec} {K:Params->PySem.W.Frag} {x:Str} (hn:l.most=some 63) (hdf:d.params.defaults=[]) (hr:Room k callerA)
  (hY:∀ (w:World) (h:Heap),YP w h->(K w.params).In h)
  (F:∀ (w:World) (mg:Str->Option Value) (fa:Addr) (h:Heap),(K w.params).In h->h.Ns mainGlobals mg->mg d.name=some (.ref fa) ->
   ∃ fd:FuncData,(∀ (s:Shared) (u:Value),BindsTo s fd ⟨[u],[]⟩ [(x,u)])/\∀ base:Heap,(K w.params).In base->base.Ns mainGlobals mg->FnOk l.prog w (K w.params) mg base (CXe l.prog w) k fa fd [x] (spL (K w.params))) :
  PySem.W.WalkO q loose XP YP l.row.toRowW d [] (fun f vs=>PySem.call f vs) :=
 L2.Rn (n:=63) (k:=k) (x:=x) (CX:=fun w=>CXe l.prog w) (sp:=fun w=>spL (K w.params)) hn (by decide) hdf hr hY F (fun _ _ a ns hl _ hS=>⟨a,ns,rfl,hl,hS,fun _=>rfl⟩) fun w H s e s' h=>by
  obtain ⟨_,_,_,_,_,_,_,_,_,_,_,_,_,_,_,_,_,_,z⟩:=h
  exact z
noncomputable def Ay (K:Frag) (x:Str) (st:Stmt):Prop:=∃ (f:Addr) (oc:Value) (od an:Option Addr) (sl:Array (Option Value)) (kV dc pm cd ct:Value),nsIn K mainGlobals x=some (some (.ref f))/\K.lookup f=some ⟨oc,od,.func (fnOf x x (B9 st) (AH st) (Ai st) .none kV dc pm an cd ct),sl⟩/\codeIn K cd x=true/\keepIn K (.ref f)=true
theorem AA {K:Frag} {x:Str} {st:Stmt} {f:Addr} {oc:Value} {od an:Option Addr} {sl:Array (Option Value)} {kV dc pm cd ct:Value} (a:nsIn K mainGlobals x=some (some (.ref f))) (l:K.lookup f=some ⟨oc,od,.func (fnOf x x (B9 st) (AH st) (Ai st) .none kV dc pm an cd ct),sl⟩) (c:codeIn K cd x=true) (k:keepIn K (.ref f)=true):Ay K x st:=⟨f,oc,od,an,sl,kV,dc,pm,cd,ct,a,l,c,k⟩
theorem An {K:Frag} {h:Heap} {mg:Str->Option Value} {x:Str} {st:Stmt} {ps:List Str} (X:K.In h) (G:h.Ns mainGlobals mg) (t:Ay K x st) (hb:∀ (kV doc pm:Value) (an:Option Addr) (cdv ct:Value) (us:List Value),us.length=ps.length->bindArgs (fnOf x x (B9 st) (AH st) (Ai st) .none kV doc pm an cdv ct) ⟨us,[]⟩=pure (ps.zip us)):Df K mg x st ps:=by
 obtain ⟨f,oc,od,an,sl,kV,dc,pm,cd,ct,a,l,c,k⟩:=t
 exact VC X G a l c k hb
theorem ba1 {fd:FuncData} {a0:Str} (h:∀ u0:Value,bindArgs fd ⟨[u0],[]⟩=pure [(a0,u0)]):∀ us:List Value,us.length=([a0]:List Str).length->bindArgs fd ⟨us,[]⟩=pure (([a0]:List Str).zip us)
 | [u0],_=>h u0
theorem ba2 {fd:FuncData} {a0 a1:Str} (h:∀ u0 u1:Value,bindArgs fd ⟨[u0,u1],[]⟩=pure [(a0,u0),(a1,u1)]):∀ us:List Value,us.length=([a0,a1]:List Str).length->bindArgs fd ⟨us,[]⟩=pure (([a0,a1]:List Str).zip us)
 | [u0,u1],_=>h u0 u1
theorem ba3 {fd:FuncData} {a0 a1 a2:Str} (h:∀ u0 u1 u2:Value,bindArgs fd ⟨[u0,u1,u2],[]⟩=pure [(a0,u0),(a1,u1),(a2,u2)]):∀ us:List Value,us.length=([a0,a1,a2]:List Str).length->bindArgs fd ⟨us,[]⟩=pure (([a0,a1,a2]:List Str).zip us)
 | [u0,u1,u2],_=>h u0 u1 u2
theorem ba4 {fd:FuncData} {a0 a1 a2 a3:Str} (h:∀ u0 u1 u2 u3:Value,bindArgs fd ⟨[u0,u1,u2,u3],[]⟩=pure [(a0,u0),(a1,u1),(a2,u2),(a3,u3)]):∀ us:List Value,us.length=([a0,a1,a2,a3]:List Str).length->bindArgs fd ⟨us,[]⟩=pure (([a0,a1,a2,a3]:List Str).zip us)
 | [u0,u1,u2,u3],_=>h u0 u1 u2 u3
theorem ba5 {fd:FuncData} {a0 a1 a2 a3 a4:Str} (h:∀ u0 u1 u2 u3 u4:Value,bindArgs fd ⟨[u0,u1,u2,u3,u4],[]⟩=pure [(a0,u0),(a1,u1),(a2,u2),(a3,u3),(a4,u4)]):∀ us:List Value,us.length=([a0,a1,a2,a3,a4]:List Str).length->bindArgs fd ⟨us,[]⟩=pure (([a0,a1,a2,a3,a4]:List Str).zip us)
 | [u0,u1,u2,u3,u4],_=>h u0 u1 u2 u3 u4
structure ClsF (K:Frag) (x:Str) (C:Addr):Prop where
 q:nsIn K mainGlobals x=some (some (.ref C))
 x:XCls K C
 t:∀ T ∈ (["int", "bool", "str", "list", "tuple", "dict"]:List String),kitOne K (.ref C) (.type T)=some false
 v:kitOne K (.ref C) (.type "ValueError")=some true
theorem U4 {K:Frag} {x:Str} {C:Addr} {cd:ClassData} (q:nsIn K mainGlobals x=some (some (.ref C)))
  (ga:findIn K (.ref C) "__getattribute__" = some (some (.builtin "BaseException.__getattribute__"))) (gn:findIn K (.ref C) "__getattr__" = some none) (sb:subIn K (.ref C) (.type "BaseException")=some true)
  (cl:findIn K (.ref C) "__class__" = some (some (.builtin "object.__class__"))) (mo:mroIn K C (.type "object")=some true) (ty:typeIn K (.ref C)=some (.type "type")) (cc:clsIn K C=some cd)
  (t1:kitOne K (.ref C) (.type "int")=some false) (t2:kitOne K (.ref C) (.type "bool")=some false) (t3:kitOne K (.ref C) (.type "str")=some false) (t4:kitOne K (.ref C) (.type "list")=some false) (t5:kitOne K (.ref C) (.type "tuple")=some false) (t6:kitOne K (.ref C) (.type "dict")=some false)
  (v:kitOne K (.ref C) (.type "ValueError")=some true):ClsF K x C:=by
 refine ⟨q,⟨ga,gn,sb,cl,mo,ty,by rw [cc]; rfl⟩,fun T hT=>?_,v⟩
 simp only [aal,abU,or_false] at hT
 rcases hT with rfl | rfl | rfl | rfl | rfl | rfl <;> assumption
noncomputable abbrev Cs':=List (Nat × Addr)
noncomputable def clA:Cs'->Nat->Addr
 | [],_=>0
 | (c,a) :: r,n=>if n=c then a else clA r n
noncomputable def Dg:Cs'->Nat->Bool
 | [],_=>false
 | (c,_) :: r,n=>n==c || Dg r n
noncomputable def AllC {α:Type} (f:α->Prop):List α->Prop
 | []=>True
 | q :: r=>f q/\AllC f r
theorem AllC.mem {α:Type} {f:α->Prop}:∀ {l:List α},AllC f l->∀ n ∈ l,f n
 | [],_,n,h=>by cases h
 | m :: r,h,n,hn=>by
  rcases aal.mp hn with rfl | hn
  ·exact h.1
  ·exact AllC.mem h.2 n hn
theorem DQ:∀ {cs:Cs'} {n:Nat},Dg cs n=true->(n,clA cs n) ∈ cs
 | [],n,h=>by cases h
 | (c,a) :: r,n,h=>by
  unfold Dg at h
  unfold clA
  by_cases e:n=c
  ·subst e; rw [if_pos rfl]; exact aac
  ·rw [if_neg e]
   have:(n==c)=false:=by simpa using e
   rw [this,Bool.false_or] at h
   exact aaa _ (DQ h)
theorem VQ {K:Frag} {cs:Cs'} (h9:Dg cs 999=false) (h:AllC (fun q=>ClsF K (Bj q.1) q.2) cs) (y:AllC (fun q=>AllC (fun r=>kitOne K (.ref q.2) (.ref r.2)=some (isa q.1 r.1)) cs) cs):Kx ⟨K,clA cs,Dg cs⟩ :=
 ⟨h9,fun c hc=>(h.mem _ (DQ hc)).x,fun c hc=>(h.mem _ (DQ hc)).t,fun c hc=>(h.mem _ (DQ hc)).v,fun c d hc hd=>(y.mem _ (DQ hc)).mem _ (DQ hd)⟩
theorem VR {K:Frag} {P:Program} {w:World} {mg:Str->Option Value} {base h:Heap} {cs:Cs'} (h9:Dg cs 999=false) (X:K.In h) (G:h.Ns mainGlobals mg) (nb:AllC (fun y=>nsIn K mainGlobals y=some none) (Bg ++ (["bool", "dict", "ValueError"]:List Str))) (hc:AllC (fun q=>ClsF K (Bj q.1) q.2) cs) (y:AllC (fun q=>AllC (fun r=>kitOne K (.ref q.2) (.ref r.2)=some (isa q.1 r.1)) cs) cs):Lw.Ok ⟨⟨K,clA cs,Dg cs⟩,P,w,mg,base⟩ :=
 ⟨fun z hz=>mg_none_of X G (nb.mem z (aaw _ hz)),fun z hz=>mg_none_of X G (nb.mem z (aak _ hz)),VQ h9 hc y⟩
noncomputable def dfB (N:List Str) (ps:List Str) (st:Stmt) (b:Ss) (dep:Nat):Bool :=
 decide ((Ai st).kind=.function) && !(Ai st).isCoroutine && !(Ai st).isGenerator && decide N.Nodup && decide (N.take ps.length=ps) && ps.all (fun x=>decide ((Ai st).names.lookup x=some .local\/(Ai st).names.lookup x=some .cell)) && (Ai st).names.all (fun y=>decide (y.2 ≠ .free)) && ckSs ⟨N,Ai st,true,true,true⟩ b (AH st) && (msSs (aaj N.length .dead) dep b (m0 ps.length N.length)).isSome
theorem Fz {N ps:List Str} {st:Stmt} {b:Ss} {dep:Nat} (h:dfB N ps st b dep=true):FnScope N ps (Ai st)/\ckSs ⟨N,Ai st,true,true,true⟩ b (AH st)=true/\(msSs (aaj N.length .dead) dep b (m0 ps.length N.length)).isSome=true:=by
 unfold dfB at h
 simp only [aaf,decide_eq_true_eq,aaA,ab6] at h
 obtain ⟨⟨⟨⟨⟨⟨⟨⟨h1,h2⟩,h3⟩,h4⟩,h5⟩,h6⟩,h7⟩,h8⟩,h9⟩:=h
 exact ⟨⟨h1,h2,h3,h4,h5,h6,h7⟩,h8,h9⟩
theorem Ap {L:Lw} (O:L.Ok) {x:Str} {st:Stmt} {N ps:List Str} {lv dep:Nat} {b:Ss} (D:Df L.p.K L.mg x st ps) (h:dfB N ps st b dep=true) (hn:AllN (NeedG L lv) b.need):Qt L (Av x ps.length (lv + 1) dep N.length b) :=
 SF O D (Fz h).1 rfl (Fz h).2.1 (Fz h).2.2 hn
noncomputable def dfP (N:List Str) (ps:List Str) (st:Stmt) (x z:Nat) (e:E):Bool :=
 decide ((Ai st).kind=.function) && !(Ai st).isCoroutine && !(Ai st).isGenerator && decide N.Nodup && decide (N.take ps.length=ps) && ps.all (fun x=>decide ((Ai st).names.lookup x=some .local\/(Ai st).names.lookup x=some .cell)) && (Ai st).names.all (fun y=>decide (y.2 ≠ .free)) && ckSs ⟨N,Ai st,true,true,true⟩ (.cons (.eachZ x z 0 e) .nil) (AH st) && (msS (aaj N.length .dead) 0 (.eachZ x z 0 e) (m0p ps.length N.length)).isSome
theorem SH {L:Lw} (O:L.Ok) {x:Str} {st:Stmt} {N ps:List Str} {lv xx zz:Nat} {e:E} (D:Df L.p.K L.mg x st ps) (h:dfP N ps st xx zz e=true) (hn:AllN (NeedG L lv) e.need):Nb L (Nc x ps.length (lv + 1) N.length xx zz e):=by
 unfold dfP at h
 simp only [aaf,decide_eq_true_eq,aaA,ab6] at h
 obtain ⟨⟨⟨⟨⟨⟨⟨⟨h1,h2⟩,h3⟩,h4⟩,h5⟩,h6⟩,h7⟩,h8⟩,h9⟩:=h
 exact SG O D ⟨h1,h2,h3,h4,h5,h6,h7⟩ rfl h8 h9 hn
theorem SJ {l:PySem.W.OpenLaw} {w:World} {K:Frag} {h:Heap} {mg:Str->Option Value} {fa:Addr} {cs:Cs'} {x:Str} {st:Stmt} {N:List Str} {lv dep:Nat} {b:Ss} (X:K.In h) (G:h.Ns mainGlobals mg) (hfa:mg "law" = some (.ref fa)) (t:Ay K "law" st) (hck:dfB N [x] st b dep=true)
  (hb:∀ (kV dc pm:Value) (an:Option Addr) (cd ct:Value) (s:Shared) (v:Value),BindsTo s (fnOf "law" "law" (B9 st) (AH st) (Ai st) .none kV dc pm an cd ct) ⟨[v],[]⟩ [(x,v)])
  (O:∀ base:Heap,Lw.Ok ⟨⟨K,clA cs,Dg cs⟩,l.prog,w,mg,base⟩) (hn:∀ base:Heap,AllN (NeedG ⟨⟨K,clA cs,Dg cs⟩,l.prog,w,mg,base⟩ lv) b.need) (nl:noL K=true)
  (hden:∀ ns:List Int,ns.length<=63->(Av "law" 1 (lv + 1) dep N.length b).den [.lst (ns.map .int)]=.ok (.bl true)) :
  ∃ fd:FuncData,(∀ (s:Shared) (v:Value),BindsTo s fd ⟨[v],[]⟩ [(x,v)])/\∀ base:Heap,K.In base->base.Ns mainGlobals mg->FnOk l.prog w K mg base (CXe l.prog w) (lv + 1) fa fd [x] (spL K):=by
 obtain ⟨f,oc,od,an,sl,kV,dc,pm,cd,ct,a,l',c,k⟩:=t
 have e:=hfa.symm.trans (mg_of X G a)
 cases e
 refine ⟨_,hb kV dc pm an cd ct,fun base _ _=>?_⟩
 exact U3 (F:=Av "law" 1 (lv + 1) dep N.length b) (OG (L:=⟨⟨K,clA cs,Dg cs⟩,l.prog,w,mg,base⟩) (O base) (NZ (st:=st) l' c k) (Fz hck).1 rfl (Fz hck).2.1 (Fz hck).2.2 (hn base)) rfl rfl nl hden
end Pu
end
namespace Pu
open PySem PySem.Spec PyProof.Rows PySem.W L2
noncomputable def Ii:Ss :=
 (.cons (.ret (.bo true (.cons (.isi (.nm 0) .int) (.cons (.not (.isi (.nm 0) .bool)) .nil))))
 .nil)
noncomputable def Hm:Fn:=Av "is_whole" 1 1 9 1 Ii
noncomputable def Dy:Ss :=
 (.cons (.ret (.bo true (.cons (.call Hm (.cons (.nm 0) .nil)) (.cons (.chain .le .le (.nm 1) (.nm 0) (.nm 2)) .nil))))
 .nil)
noncomputable def B5:Fn:=Av "is_between" 3 2 9 3 Dy
theorem JD (ds:List D) (h:ds.length=3):B5.den ds=run 3 Dy ds:=Ao h
noncomputable def C5:Ss :=
 (.cons (.mut 2 [] .append (.cons (.nm 3) .nil))
 (.cons (.asg 3 0 (.bin .fdiv (.bin .sub (.bin .add (.nm 3) (.nm 1)) (.cI 1)) (.nm 1)))
 .nil))
noncomputable def FX:Ss :=
 (.cons (.asg 1 0 (.ix (.nm 0) (.cI 1)))
 (.cons (.asg 2 2 (.lst .nil))
 (.cons (.asg 3 0 (.ix (.nm 0) (.cI 0)))
 (.cons (.dem 2 1)
 (.cons (.wh (.cmp .gt (.nm 3) (.cI 1))
 C5)
 (.cons (.iff (.cmp .eq (.nm 3) (.cI 1))
 (.cons (.mut 2 [] .append (.cons (.nm 3) .nil))
 .nil)
 .nil)
 (.cons (.ret (.nm 2))
 .nil)))))))
noncomputable def D5:Fn:=Av "levels" 1 1 1 4 FX
theorem OI (ds:List D) (h:ds.length=1):D5.den ds=run 4 FX ds:=Ao h
noncomputable def BO:Ss :=
 (.cons (.iff (.bo false (.cons (.not (.isi (.nm 1) .tuple)) (.cons (.cmp .ne (.bi .len (.cons (.nm 1) .nil)) (.cI 2)) .nil)))
 (.cons (.ret (.cB false))
 .nil)
 .nil)
 (.cons (.iff (.not (.call B5 (.cons (.ix (.nm 1) (.cI 0)) (.cons (.cI 0) (.cons (.bin .sub (.bi .len (.cons (.nm 0) .nil)) (.cI 1)) .nil)))))
 (.cons (.ret (.cB false))
 .nil)
 .nil)
 (.cons (.ret (.call B5 (.cons (.ix (.nm 1) (.cI 1)) (.cons (.cI 0) (.cons (.bin .sub (.ix (.nm 0) (.ix (.nm 1) (.cI 0))) (.cI 1)) .nil)))))
 .nil)))
noncomputable def BI:Fn:=Av "is_counted_node" 2 3 9 2 BO
theorem Gz (ds:List D) (h:ds.length=2):BI.den ds=run 2 BO ds:=Ao h
noncomputable def E4:Ss :=
 (.cons (.ret (.call BI (.cons (.call D5 (.cons (.nm 0) .nil)) (.cons (.nm 1) .nil))))
 .nil)
noncomputable def FY:Fn:=Av "is_node" 2 4 9 2 E4
theorem Nf (ds:List D) (h:ds.length=2):FY.den ds=run 2 E4 ds:=Ao h
noncomputable def Dz:Ss :=
 (.cons (.iff (.not (.call FY (.cons (.nm 0) (.cons (.nm 1) .nil))))
 (.cons (.raise 2 (.cons (.cS "this is no node of the shape") .nil))
 .nil)
 .nil)
 .nil)
noncomputable def B6:Fn:=Av "check_node" 2 5 9 2 Dz
theorem JE (ds:List D) (h:ds.length=2):B6.den ds=run 2 Dz ds:=Ao h
noncomputable def E5:Ss :=
 (.cons (.asg 2 0 (.bin .mul (.nm 2) (.ix (.nm 0) (.cI 1))))
 .nil)
noncomputable def Ij:Ss :=
 (.cons (.expr (.call B6 (.cons (.nm 0) (.cons (.nm 1) .nil))))
 (.cons (.asg 2 0 (.cI 1))
 (.cons (.for_ (.nm 3) (.r1 (.ix (.nm 1) (.cI 0)))
 E5)
 (.cons (.asg 4 0 (.bin .mul (.ix (.nm 1) (.cI 1)) (.nm 2)))
 (.cons (.ret (.tup (.cons (.nm 4) (.cons (.bi .min (.cons (.bin .add (.nm 4) (.nm 2)) (.cons (.ix (.nm 0) (.cI 0)) .nil))) .nil))))
 .nil)))))
noncomputable def CK:Fn:=Av "span" 2 6 0 5 Ij
theorem SK (ds:List D) (h:ds.length=2):CK.den ds=run 5 Ij ds:=Ao h
noncomputable def JU:Ss :=
 (.cons (.asg 1 1 (.call D5 (.cons (.nm 0) .nil)))
 (.cons (.iff (.cmp .eq (.nm 1) (.lst .nil))
 (.cons (.ret .cN)
 .nil)
 .nil)
 (.cons (.ret (.tup (.cons (.bin .sub (.bi .len (.cons (.nm 1) .nil)) (.cI 1)) (.cons (.cI 0) .nil))))
 .nil)))
noncomputable def KU:Fn:=Av "top" 1 2 1 2 JU
theorem U5 (ds:List D) (h:ds.length=1):KU.den ds=run 2 JU ds:=Ao h
noncomputable def EG:Ss :=
 (.cons (.expr (.call B6 (.cons (.nm 0) (.cons (.nm 1) .nil))))
 (.cons (.iff (.cmp .eq (.nm 1) (.call KU (.cons (.nm 0) .nil)))
 (.cons (.ret .cN)
 .nil)
 .nil)
 (.cons (.ret (.tup (.cons (.bin .add (.ix (.nm 1) (.cI 0)) (.cI 1)) (.cons (.bin .fdiv (.ix (.nm 1) (.cI 1)) (.ix (.nm 0) (.cI 1))) .nil))))
 .nil)))
noncomputable def Cv:Fn:=Av "parent" 2 6 1 2 EG
theorem Ju (ds:List D) (h:ds.length=2):Cv.den ds=run 2 EG ds:=Ao h
noncomputable def DA:Ss :=
 (.cons (.expr (.call B6 (.cons (.nm 0) (.cons (.nm 1) .nil))))
 (.cons (.iff (.cmp .eq (.ix (.nm 1) (.cI 0)) (.cI 0))
 (.cons (.ret (.lst .nil))
 .nil)
 .nil)
 (.cons (.asg 2 0 (.bin .sub (.ix (.nm 1) (.cI 0)) (.cI 1)))
 (.cons (.asg 3 0 (.bin .mul (.ix (.nm 1) (.cI 1)) (.ix (.nm 0) (.cI 1))))
 (.cons (.asg 4 0 (.bi .min (.cons (.bin .add (.nm 3) (.ix (.nm 0) (.cI 1))) (.cons (.ix (.call D5 (.cons (.nm 0) .nil)) (.nm 2)) .nil))))
 (.cons (.ret (.comp0 1 [2] (.nm 0) (.r2 (.nm 3) (.nm 4)) (.tup (.cons (.nm 1) (.cons (.nm 0) .nil)))))
 .nil))))))
noncomputable def Cc:Fn:=Av "children" 2 6 1 5 DA
theorem Hn (ds:List D) (h:ds.length=2):Cc.den ds=run 5 DA ds:=Ao h
noncomputable def Da:Ss :=
 (.cons (.ret (.bo true (.cons (.cmp .le (.nm 1) (.ix (.nm 0) (.cI 0))) (.cons (.cmp .le (.ix (.nm 0) (.cI 1)) (.nm 2)) .nil))))
 .nil)
noncomputable def Bx:Fn:=Av "lies_within" 3 1 9 3 Da
theorem IP (ds:List D) (h:ds.length=3):Bx.den ds=run 3 Da ds:=Ao h
noncomputable def BC:Ss :=
 (.cons (.dem 4 0)
 (.cons (.asg 3 0 (.nm 4))
 (.cons (.asg 4 1 (.call Cv (.cons (.nm 0) (.cons (.nm 3) .nil))))
 .nil)))
noncomputable def BW:Ss :=
 (.cons (.asg 3 0 (.tup (.cons (.cI 0) (.cons (.nm 1) .nil))))
 (.cons (.asg 4 1 (.call Cv (.cons (.nm 0) (.cons (.nm 3) .nil))))
 (.cons (.wh (.bo true (.cons (.isN true (.nm 4)) (.cons (.call Bx (.cons (.callB CK (.cons (.nm 0) (.cons (.nm 4) .nil))) (.cons (.nm 1) (.cons (.nm 2) .nil)))) .nil)))
 BC)
 (.cons (.ret (.nm 3))
 .nil))))
noncomputable def CV:Fn:=Av "highest_within" 3 7 0 5 BW
theorem Hd (ds:List D) (h:ds.length=3):CV.den ds=run 5 BW ds:=Ao h
noncomputable def Eh:Ss :=
 (.cons (.asg 5 0 (.call CV (.cons (.nm 0) (.cons (.nm 4) (.cons (.nm 2) .nil)))))
 (.cons (.mut 3 [] .append (.cons (.nm 5) .nil))
 (.cons (.asg 4 0 (.ix (.call CK (.cons (.nm 0) (.cons (.nm 5) .nil))) (.cI 1)))
 .nil)))
noncomputable def G2:Ss :=
 (.cons (.iff (.bo false (.cons (.cmp .lt (.nm 1) (.cI 0)) (.cons (.cmp .gt (.nm 2) (.ix (.nm 0) (.cI 0))) (.cons (.cmp .gt (.nm 1) (.nm 2)) .nil))))
 (.cons (.raise 3 (.cons (.cS "these are no pages of the shape") .nil))
 .nil)
 .nil)
 (.cons (.asg 3 2 (.lst .nil))
 (.cons (.asg 4 0 (.nm 1))
 (.cons (.dem 3 1)
 (.cons (.wh (.cmp .lt (.nm 4) (.nm 2))
 Eh)
 (.cons (.ret (.nm 3))
 .nil))))))
noncomputable def EH:Fn:=Av "cover" 3 8 1 6 G2
theorem Qv (ds:List D) (h:ds.length=3):EH.den ds=run 6 G2 ds:=Ao h
noncomputable def DB:Ss :=
 (.cons (.iff (.not (.call B5 (.cons (.nm 1) (.cons (.cI 0) (.cons (.bin .sub (.ix (.nm 0) (.cI 0)) (.cI 1)) .nil)))))
 (.cons (.raise 3 (.cons (.cS "this is no page of the shape") .nil))
 .nil)
 .nil)
 .nil)
noncomputable def D9:Fn:=Av "check_page" 2 3 9 2 DB
theorem JF (ds:List D) (h:ds.length=2):D9.den ds=run 2 DB ds:=Ao h
noncomputable def D1:Ss :=
 (.cons (.ret (.comp0 1 [] (.nm 0) (.seq (.nm 0)) (.bi .len (.cons (.nm 0) .nil))))
 .nil)
noncomputable def EJ:Fn:=Av "counts_of" 1 1 9 1 D1
theorem KW (ds:List D) (h:ds.length=1):EJ.den ds=run 1 D1 ds:=Ao h
noncomputable def Ei:Ss :=
 (.cons (.iff (.cmp .eq (.nm 0) (.lst .nil))
 (.cons (.ret (.lst .nil))
 .nil)
 .nil)
 (.cons (.ret (.bi .list (.cons (.ix (.nm 0) (.cI 0)) .nil)))
 .nil))
noncomputable def Cd:Fn:=Av "rooms_of" 1 1 1 1 Ei
theorem Lk (ds:List D) (h:ds.length=1):Cd.den ds=run 1 Ei ds:=Ao h
noncomputable def Ej:Ss :=
 (.cons (.ret (.tup (.cons (.bi .len (.cons (.call Cd (.cons (.nm 0) .nil)) .nil)) (.cons (.nm 1) .nil))))
 .nil)
noncomputable def Ce:Fn:=Av "shape_of" 2 2 0 2 Ej
theorem Ll (ds:List D) (h:ds.length=2):Ce.den ds=run 2 Ej ds:=Ao h
noncomputable def Ek:Ss :=
 (.cons (.ret (.call BI (.cons (.call EJ (.cons (.nm 0) .nil)) (.cons (.nm 1) .nil))))
 .nil)
noncomputable def Fj:Fn:=Av "has_node" 2 4 9 2 Ek
theorem Lm (ds:List D) (h:ds.length=2):Fj.den ds=run 2 Ek ds:=Ao h
noncomputable def BX:Ss :=
 (.cons (.iff (.not (.call Fj (.cons (.nm 0) (.cons (.nm 1) .nil))))
 (.cons (.raise 2 (.cons (.cS "this is no node of the tree") .nil))
 .nil)
 .nil)
 .nil)
noncomputable def CW:Fn:=Av "check_has_node" 2 5 9 2 BX
theorem He (ds:List D) (h:ds.length=2):CW.den ds=run 2 BX ds:=Ao h
noncomputable def G3:Ss :=
 (.cons (.expr (.call CW (.cons (.nm 0) (.cons (.nm 1) .nil))))
 (.cons (.ret (.ix (.ix (.nm 0) (.ix (.nm 1) (.cI 0))) (.ix (.nm 1) (.cI 1))))
 .nil))
noncomputable def Dh:Fn:=Av "tells" 2 6 0 2 G3
theorem Qw (ds:List D) (h:ds.length=2):Dh.den ds=run 2 G3 ds:=Ao h
noncomputable def El:Ss :=
 (.cons (.iff (.cmp .eq (.nm 0) (.lst .nil))
 (.cons (.ret (.cI 0))
 .nil)
 .nil)
 (.cons (.ret (.ix (.ix (.nm 0) (.neg (.cI 1))) (.cI 0)))
 .nil))
noncomputable def Fk:Fn:=Av "greatest" 1 1 0 1 El
theorem Ln (ds:List D) (h:ds.length=1):Fk.den ds=run 1 El ds:=Ao h
noncomputable def AR:Ss :=
 (.cons (.mut 3 [] .append (.cons (.nm 4) .nil))
 (.cons (.iff (.cmp .ge (.call Dh (.cons (.nm 0) (.cons (.nm 4) .nil))) (.nm 1))
 (.cons (.ret (.nm 3))
 .nil)
 .nil)
 .nil))
noncomputable def BU:Ss :=
 (.cons (.asg 3 2 (.lst .nil))
 (.cons (.dem 3 1)
 (.cons (.for_ (.nm 4) (.seq (.nm 2))
 AR)
 (.cons (.ret (.nm 3))
 .nil))))
noncomputable def Ck:Fn:=Av "up_to_enough" 3 7 1 5 BU
theorem Ik (ds:List D) (h:ds.length=3):Ck.den ds=run 5 BU ds:=Ao h
theorem Il:Ck.dep=1:=rfl
noncomputable def Cf:Ss :=
 (.cons (.asg 7 1 (.callB Ck (.cons (.nm 0) (.cons (.nm 2) (.cons (.nm 6) .nil)))))
 (.cons (.dem 7 0)
 (.cons (.dem 5 1)
 (.cons (.mut 5 [] .extend (.cons (.nm 7) .nil))
 (.cons (.iff (.cmp .lt (.call Dh (.cons (.nm 0) (.cons (.ix (.nm 7) (.neg (.cI 1))) .nil))) (.nm 2))
 (.cons (.ret (.nm 5))
 .nil)
 .nil)
 (.cons (.asg 6 1 (.call Cc (.cons (.nm 4) (.cons (.ix (.nm 7) (.neg (.cI 1))) .nil))))
 .nil))))))
noncomputable def EK:Ss :=
 (.cons (.asg 4 0 (.call Ce (.cons (.nm 0) (.cons (.nm 1) .nil))))
 (.cons (.asg 5 2 (.lst .nil))
 (.cons (.asg 6 1 (.call EH (.cons (.nm 4) (.cons (.nm 3) (.cons (.ix (.nm 4) (.cI 0)) .nil)))))
 (.cons (.dem 5 1)
 (.cons (.wh (.cmp .ne (.nm 6) (.lst .nil))
 Cf)
 (.cons (.ret (.nm 5))
 .nil))))))
noncomputable def Do:Fn:=Av "walked" 4 9 1 8 EK
theorem OJ (ds:List D) (h:ds.length=4):Do.den ds=run 8 EK ds:=Ao h
noncomputable def Cw:Ss :=
 (.cons (.asg 4 1 (.call Do (.cons (.nm 0) (.cons (.nm 1) (.cons (.nm 2) (.cons (.nm 3) .nil))))))
 (.cons (.iff (.bo false (.cons (.cmp .eq (.nm 4) (.lst .nil)) (.cons (.cmp .lt (.call Dh (.cons (.nm 0) (.cons (.ixL (.nm 4) (.neg (.cI 1))) .nil))) (.nm 2)) .nil)))
 (.cons (.ret .cN)
 .nil)
 .nil)
 (.cons (.ret (.ix (.ixL (.nm 4) (.neg (.cI 1))) (.cI 1)))
 .nil)))
noncomputable def Bm:Fn:=Av "first_from" 4 10 0 5 Cw
theorem JG (ds:List D) (h:ds.length=4):Bm.den ds=run 5 Cw ds:=Ao h
noncomputable def Ez:Ss :=
 (.cons (.ret (.call Bm (.cons (.nm 0) (.cons (.nm 1) (.cons (.nm 2) (.cons (.cI 0) .nil))))))
 .nil)
noncomputable def Cy:Fn:=Av "first" 3 11 0 3 Ez
theorem Hz (ds:List D) (h:ds.length=3):Cy.den ds=run 3 Ez ds:=Ao h
noncomputable def AG:Ss :=
 (.cons (.iff (.cmp .ge (.call Dh (.cons (.nm 0) (.cons (.nm 3) .nil))) (.nm 1))
 (.cons (.ret (.nm 3))
 .nil)
 .nil)
 .nil)
noncomputable def B7:Ss :=
 (.cons (.for_ (.nm 3) (.rv (.nm 2))
 AG)
 (.cons (.ret .cN)
 .nil))
noncomputable def Ba:Fn:=Av "last_enough" 3 7 0 4 B7
theorem IQ (ds:List D) (h:ds.length=3):Ba.den ds=run 4 B7 ds:=Ao h
noncomputable def Cl:Ss :=
 (.cons (.asg 5 0 (.call Ba (.cons (.nm 0) (.cons (.nm 2) (.cons (.call Cc (.cons (.nm 4) (.cons (.nm 5) .nil))) .nil)))))
 .nil)
noncomputable def Cz:Ss :=
 (.cons (.asg 4 0 (.call Ce (.cons (.nm 0) (.cons (.nm 1) .nil))))
 (.cons (.asg 5 0 (.call Ba (.cons (.nm 0) (.cons (.nm 2) (.cons (.call EH (.cons (.nm 4) (.cons (.cI 0) (.cons (.nm 3) .nil)))) .nil)))))
 (.cons (.wh (.bo true (.cons (.isN true (.nm 5)) (.cons (.cmp .gt (.ix (.nm 5) (.cI 0)) (.cI 0)) .nil)))
 Cl)
 (.cons (.iff (.isN false (.nm 5))
 (.cons (.ret .cN)
 .nil)
 .nil)
 (.cons (.ret (.ix (.nm 5) (.cI 1)))
 .nil)))))
noncomputable def Bo:Fn:=Av "last_ahead" 4 9 0 6 Cz
theorem F8 (ds:List D) (h:ds.length=4):Bo.den ds=run 6 Cz ds:=Ao h
noncomputable def Im:Ss :=
 (.cons (.ret (.call Bo (.cons (.nm 0) (.cons (.nm 1) (.cons (.nm 2) (.cons (.ix (.call Ce (.cons (.nm 0) (.cons (.nm 1) .nil))) (.cI 0)) .nil))))))
 .nil)
noncomputable def G4:Fn:=Av "last" 3 10 0 3 Im
theorem SL (ds:List D) (h:ds.length=3):G4.den ds=run 3 Im ds:=Ao h
noncomputable def E6:Ss :=
 (.cons (.expr (.call D9 (.cons (.call Ce (.cons (.nm 0) (.cons (.nm 1) .nil))) (.cons (.nm 3) .nil))))
 (.cons (.ret (.call Bm (.cons (.nm 0) (.cons (.nm 1) (.cons (.nm 2) (.cons (.nm 3) .nil))))))
 .nil))
noncomputable def AZ:Fn:=Av "further" 4 11 0 4 E6
theorem Ng (ds:List D) (h:ds.length=4):AZ.den ds=run 4 E6 ds:=Ao h
noncomputable def CA:Ss :=
 (.cons (.asg 4 0 (.call AZ (.cons (.nm 0) (.cons (.nm 1) (.cons (.nm 2) (.cons (.nm 3) .nil))))))
 (.cons (.iff (.isN false (.nm 4))
 (.cons (.ret (.call Cy (.cons (.nm 0) (.cons (.nm 1) (.cons (.nm 2) .nil)))))
 .nil)
 .nil)
 (.cons (.ret (.nm 4))
 .nil)))
noncomputable def B8:Fn:=Av "round_from" 4 12 0 5 CA
theorem JH (ds:List D) (h:ds.length=4):B8.den ds=run 5 CA ds:=Ao h
noncomputable def EL:Ss :=
 (.cons (.asg 4 0 (.call AZ (.cons (.nm 0) (.cons (.nm 1) (.cons (.nm 2) (.cons (.nm 3) .nil))))))
 (.cons (.asg 5 0 (.call Bo (.cons (.nm 0) (.cons (.nm 1) (.cons (.nm 2) (.cons (.nm 3) .nil))))))
 (.cons (.iff (.isN false (.nm 5))
 (.cons (.ret (.nm 4))
 .nil)
 .nil)
 (.cons (.iff (.bo false (.cons (.isN false (.nm 4)) (.cons (.cmp .le (.bin .sub (.nm 3) (.nm 5)) (.bin .sub (.nm 4) (.nm 3))) .nil)))
 (.cons (.ret (.nm 5))
 .nil)
 .nil)
 (.cons (.ret (.nm 4))
 .nil)))))
noncomputable def G5:Fn:=Av "near" 4 12 0 6 EL
theorem SM (ds:List D) (h:ds.length=4):G5.den ds=run 6 EL ds:=Ao h
noncomputable def GA:Ss :=
 (.cons (.asg 3 1 (.call Cd (.cons (.nm 0) .nil)))
 (.cons (.asg 4 1 (.comp1 1 [2] (.nm 0) (.seqL (.nm 3)) (.cmp .ge (.nm 0) (.nm 1)) (.nm 0)))
 (.cons (.iff (.cmp .eq (.nm 4) (.lst .nil))
 (.cons (.ret .cN)
 .nil)
 .nil)
 (.cons (.ret (.mt .index (.nm 3) (.cons (.bi .minL (.cons (.nm 4) .nil)) .nil)))
 .nil))))
noncomputable def G6:Fn:=Av "best" 3 2 9 5 GA
theorem Me (ds:List D) (h:ds.length=3):G6.den ds=run 5 GA ds:=Ao h
noncomputable def FC:Ss :=
 (.cons (.asg 3 0 (.call Fk (.cons (.nm 0) .nil)))
 (.cons (.iff (.cmp .lt (.nm 3) (.nm 2))
 (.cons (.ret .cN)
 .nil)
 .nil)
 (.cons (.ret (.call Cy (.cons (.nm 0) (.cons (.nm 1) (.cons (.nm 3) .nil)))))
 .nil)))
noncomputable def FZ:Fn:=Av "worst" 3 12 0 4 FC
theorem Qx (ds:List D) (h:ds.length=3):FZ.den ds=run 4 FC ds:=Ao h
noncomputable def Ea:Ss :=
 (.cons (.asg 2 0 (.bin .mod (.bin .add (.bin .add (.bin .mul (.nm 2) (.cI 48271)) (.bin .mod (.nm 3) (.cI 1000003))) (.cI 1)) (.cI 2147483647)))
 .nil)
noncomputable def DC:Ss :=
 (.cons (.iff (.cmp .lt (.nm 1) (.bi .len (.cons (.nm 0) .nil)))
 (.cons (.ret (.ix (.nm 0) (.nm 1)))
 .nil)
 .nil)
 (.cons (.asg 2 0 (.cI 5))
 (.cons (.for_ (.nm 3) (.seq (.slc (.nm 0) .cN (.cI 63)))
 Ea)
 (.cons (.ret (.bin .mod (.bin .add (.nm 2) (.bin .mul (.cI 7919) (.nm 1))) (.cI 1000003)))
 .nil))))
noncomputable def C6:Fn:=Av "_law_cell" 2 1 0 4 DC
theorem Lo (ds:List D) (h:ds.length=2):C6.den ds=run 4 DC ds:=Ao h
noncomputable def Db:Ss :=
 (.cons (.asg 2 0 (.bin .mod (.bin .pow (.bin .add (.bin .add (.bin .mod (.nm 0) (.cI 2147483629)) (.bin .mul (.cI 1013) (.nm 1))) (.cI 7919)) (.cI 3)) (.cI 2147483647)))
 (.cons (.asg 3 0 (.bin .mod (.bin .add (.bin .add (.bin .mul (.nm 2) (.cI 40699)) (.bin .mul (.bin .mul (.cI 3793) (.nm 1)) (.nm 1))) (.cI 11)) (.cI 2147483399)))
 (.cons (.ret (.bin .fdiv (.nm 3) (.cI 101)))
 .nil)))
noncomputable def CL:Fn:=Av "_law_mix" 2 1 1 4 Db
theorem IR (ds:List D) (h:ds.length=2):CL.den ds=run 4 Db ds:=Ao h
noncomputable def AM:Ss :=
 (.cons (.iff (.cmp .lt (.nm 3) (.bin .pow (.cI 10) (.cI 18)))
 (.cons (.mut 5 [] .append (.cons (.bin .mod (.call CL (.cons (.nm 3) (.cons (.nm 6) .nil))) (.ix (.nm 2) (.nm 6))) .nil))
 .nil)
 (.cons (.iff (.cmp .gt (.nm 4) (.cI 0))
 (.cons (.mut 5 [] .append (.cons (.bin .mod (.nm 4) (.ix (.nm 2) (.nm 6))) .nil))
 (.cons (.asg 4 0 (.bin .fdiv (.nm 4) (.ix (.nm 2) (.nm 6))))
 .nil))
 (.cons (.asg 7 0 (.call C6 (.cons (.nm 0) (.cons (.bin .mod (.bin .add (.bin .add (.nm 1) (.cI 1)) (.nm 6)) (.cI 63)) .nil))))
 (.cons (.mut 5 [] .append (.cons (.bin .mod (.call CL (.cons (.nm 7) (.cons (.nm 6) .nil))) (.ix (.nm 2) (.nm 6))) .nil))
 .nil)))
 .nil))
 .nil)
noncomputable def Dc:Ss :=
 (.cons (.asg 3 0 (.call C6 (.cons (.nm 0) (.cons (.nm 1) .nil))))
 (.cons (.asg 4 0 (.nm 3))
 (.cons (.asg 5 2 (.lst .nil))
 (.cons (.for_ (.nm 6) (.r1 (.bi .len (.cons (.nm 2) .nil)))
 AM)
 (.cons (.ret (.nm 5))
 .nil)))))
noncomputable def AX:Fn:=Av "_law_row" 3 2 2 8 Dc
theorem IS (ds:List D) (h:ds.length=3):AX.den ds=run 8 Dc ds:=Ao h
noncomputable def AF:Ss :=
 (.cons (.asg 7 0 (.ixL (.nm 3) (.bin .add (.cI 4) (.nm 6))))
 (.cons (.iff (.cmp .eq (.ixL (.nm 3) (.cI 2)) (.cI 1))
 (.cons (.asg 7 0 (.bin .mod (.nm 7) (.cI 3)))
 .nil)
 .nil)
 (.cons (.iff (.cmp .eq (.ixL (.nm 3) (.cI 2)) (.cI 2))
 (.cons (.asg 7 0 (.bin .mul (.ix (.lst (.cons (.cI 0) (.cons (.cI 0) (.cons (.cI 0) (.cons (.cI 1) .nil))))) (.bin .mod (.nm 7) (.cI 4))) (.bin .add (.cI 1) (.bin .fdiv (.nm 7) (.cI 4)))))
 .nil)
 .nil)
 (.cons (.iff (.cmp .eq (.ixL (.nm 3) (.cI 2)) (.cI 3))
 (.cons (.asg 7 0 (.bin .mod (.bin .add (.ixL (.nm 3) (.cI 3)) (.nm 6)) (.cI 13)))
 .nil)
 .nil)
 (.cons (.iff (.cmp .eq (.ixL (.nm 3) (.cI 2)) (.cI 4))
 (.cons (.asg 7 0 (.ixL (.nm 3) (.cI 3)))
 .nil)
 .nil)
 (.cons (.mut 5 [] .append (.cons (.bi .min (.cons (.bin .pow (.cI 10) (.cI 18)) (.cons (.bin .add (.bin .mul (.nm 7) (.nm 4)) (.bin .mul (.bi .int (.cons (.cmp .eq (.nm 7) (.cI 12)) .nil)) (.cI 4))) .nil))) .nil))
 .nil))))))
noncomputable def Cm:Ss :=
 (.cons (.asg 3 2 (.call AX (.cons (.nm 0) (.cons (.nm 1) (.cons (.bin .add (.lst (.cons (.bin .add (.nm 2) (.cI 1)) (.cons (.cI 5) (.cons (.cI 6) (.cons (.cI 13) .nil))))) (.bin .mul (.lst (.cons (.cI 13) .nil)) (.nm 2))) .nil)))))
 (.cons (.asg 4 0 (.ix (.lst (.cons (.cI 1) (.cons (.cI 1) (.cons (.cI 7) (.cons (.bin .pow (.cI 10) (.cI 6)) (.cons (.cI 83333333333333333) .nil)))))) (.ixL (.nm 3) (.cI 1))))
 (.cons (.asg 5 2 (.lst .nil))
 (.cons (.dem 3 1)
 (.cons (.for_ (.nm 6) (.r1 (.ixL (.nm 3) (.cI 0)))
 AF)
 (.cons (.ret (.nm 5))
 .nil))))))
noncomputable def Bz:Fn:=Av "_law_rooms" 3 3 2 8 Cm
theorem HA (ds:List D) (h:ds.length=3):Bz.den ds=run 8 Cm ds:=Ao h
noncomputable def Dd:Ss :=
 (.cons (.ret (.bin .add (.cI 2) (.ix (.call AX (.cons (.nm 0) (.cons (.nm 1) (.cons (.lst (.cons (.cI 7) .nil)) .nil)))) (.cI 0))))
 .nil)
noncomputable def CM:Fn:=Av "_law_fan" 2 3 1 2 Dd
theorem IU (ds:List D) (h:ds.length=2):CM.den ds=run 2 Dd ds:=Ao h
noncomputable def Bb:Ss :=
 (.cons (.asg 3 2 (.call AX (.cons (.nm 0) (.cons (.nm 1) (.cons (.lst (.cons (.cI 7) (.cons (.cI 200) (.cons (.cI 40) .nil)))) .nil)))))
 (.cons (.iff (.bo false (.cons (.cmp .eq (.ixL (.nm 3) (.cI 0)) (.cI 0)) (.cons (.cmp .eq (.bi .len (.cons (.nm 2) .nil)) (.cI 0)) .nil)))
 (.cons (.ret (.ix (.lst (.cons (.cI 0) (.cons (.cI 1) (.cons (.cI 2) (.cons (.bin .pow (.cI 10) (.cI 59)) .nil))))) (.bin .mod (.ixL (.nm 3) (.cI 1)) (.cI 4))))
 .nil)
 .nil)
 (.cons (.asg 4 0 (.ix (.nm 2) (.bin .mod (.ixL (.nm 3) (.cI 1)) (.bi .len (.cons (.nm 2) .nil)))))
 (.cons (.iff (.cmp .eq (.ixL (.nm 3) (.cI 0)) (.cI 1))
 (.cons (.ret (.bin .add (.bi .maxL (.cons (.nm 2) .nil)) (.bin .mod (.ixL (.nm 3) (.cI 2)) (.cI 2))))
 .nil)
 .nil)
 (.cons (.ret (.bi .max (.cons (.cI 0) (.cons (.bin .add (.nm 4) (.ixL (.lst (.cons (.cI 0) (.cons (.cI 0) (.cons (.cI 1) (.cons (.neg (.cI 1)) (.cons (.ixL (.nm 3) (.cI 2)) .nil)))))) (.bin .sub (.ixL (.nm 3) (.cI 0)) (.cI 2)))) .nil))))
 .nil)))))
noncomputable def AT:Fn:=Av "_law_need" 3 3 0 5 Bb
theorem Cn (ds:List D) (h:ds.length=3):AT.den ds=run 5 Bb ds:=Ao h
theorem E7:AT.dep=0:=rfl
noncomputable def A8:Ss :=
 (.cons (.mut 2 [] .append (.cons (.bin .fdiv (.bin .sub (.bin .add (.ixL (.nm 2) (.neg (.cI 1))) (.nm 1)) (.cI 1)) (.nm 1)) .nil))
 .nil)
noncomputable def BY:Ss :=
 (.cons (.iff (.cmp .eq (.nm 0) (.cI 0))
 (.cons (.ret (.lst .nil))
 .nil)
 .nil)
 (.cons (.asg 2 1 (.lst (.cons (.nm 0) .nil)))
 (.cons (.wh (.cmp .gt (.ixL (.nm 2) (.neg (.cI 1))) (.cI 1))
 A8)
 (.cons (.ret (.nm 2))
 .nil))))
noncomputable def BP:Fn:=Av "_law_counts" 2 1 1 3 BY
theorem Hf (ds:List D) (h:ds.length=2):BP.den ds=run 3 BY ds:=Ao h
noncomputable def BJ:Ss :=
 (.cons (.asg 4 0 (.bin .mul (.nm 4) (.nm 1)))
 .nil)
noncomputable def Co:Ss :=
 (.cons (.asg 4 0 (.cI 1))
 (.cons (.for_ (.nm 5) (.r1 (.nm 2))
 BJ)
 (.cons (.ret (.tup (.cons (.bin .mul (.nm 3) (.nm 4)) (.cons (.bi .min (.cons (.nm 0) (.cons (.bin .add (.bin .mul (.nm 3) (.nm 4)) (.nm 4)) .nil))) .nil))))
 .nil)))
noncomputable def Di:Fn:=Av "_law_reach" 4 1 1 6 Co
theorem HB (ds:List D) (h:ds.length=4):Di.den ds=run 6 Co ds:=Ao h
noncomputable def Bs:Ss :=
 (.cons (.asgT [7,8] (.call Di (.cons (.bi .len (.cons (.nm 0) .nil)) (.cons (.nm 1) (.cons (.nm 4) (.cons (.nm 6) .nil))))))
 (.cons (.mut 5 [] .append (.cons (.bi .maxL (.cons (.slc (.nm 0) (.nm 7) (.nm 8)) .nil)) .nil))
 .nil))
noncomputable def BQ:Ss :=
 (.cons (.asg 5 2 (.lst .nil))
 (.cons (.for_ (.nm 6) (.r1 (.ixL (.nm 3) (.nm 4)))
 Bs)
 (.cons (.mut 2 [] .append (.cons (.nm 5) .nil))
 .nil)))
noncomputable def CN:Ss :=
 (.cons (.asg 2 2 (.lst .nil))
 (.cons (.asg 3 1 (.call BP (.cons (.bi .len (.cons (.nm 0) .nil)) (.cons (.nm 1) .nil))))
 (.cons (.for_ (.nm 4) (.r1 (.bi .len (.cons (.nm 3) .nil)))
 BQ)
 (.cons (.ret (.nm 2))
 .nil))))
noncomputable def Aq:Fn:=Av "_law_tree" 2 2 2 9 CN
theorem Io (ds:List D) (h:ds.length=2):Aq.den ds=run 9 CN ds:=Ao h
theorem Ip:Aq.dep=2:=rfl
noncomputable def AN:Ss :=
 (.cons (.asg 9 0 (.bi .min (.cons (.nm 0) (.cons (.bin .add (.nm 5) (.nm 6)) .nil))))
 (.cons (.iff (.bo true (.cons (.cmp .eq (.bin .mod (.nm 5) (.nm 6)) (.cI 0)) (.cons (.cmp .le (.nm 9) (.nm 3)) .nil)))
 (.cons (.asg 7 0 (.tup (.cons (.nm 8) (.cons (.bin .fdiv (.nm 5) (.nm 6)) (.cons (.nm 9) .nil)))))
 .nil)
 .nil)
 (.cons (.asg 6 0 (.bin .mul (.nm 6) (.nm 1)))
 .nil)))
noncomputable def BK:Ss :=
 (.cons (.asg 6 0 (.cI 1))
 (.cons (.asg 7 0 (.tup (.cons (.cI 0) (.cons (.nm 5) (.cons (.bin .add (.nm 5) (.cI 1)) .nil)))))
 (.cons (.for_ (.nm 8) (.r1 (.bi .len (.cons (.call BP (.cons (.nm 0) (.cons (.nm 1) .nil))) .nil)))
 AN)
 (.cons (.mut 4 [] .append (.cons (.slc (.nm 7) .cN (.cI 2)) .nil))
 (.cons (.asg 5 0 (.ix (.nm 7) (.cI 2)))
 .nil)))))
noncomputable def Cp:Ss :=
 (.cons (.asg 4 2 (.lst .nil))
 (.cons (.asg 5 0 (.nm 2))
 (.cons (.wh (.cmp .lt (.nm 5) (.nm 3))
 BK)
 (.cons (.ret (.nm 4))
 .nil))))
noncomputable def Dj:Fn:=Av "_law_cover" 4 2 2 10 Cp
theorem HC (ds:List D) (h:ds.length=4):Dj.den ds=run 10 Cp ds:=Ao h
noncomputable def Aw:Ss :=
 (.cons (.iff (.cmp .ge (.ix (.nm 0) (.nm 3)) (.nm 1))
 (.cons (.ret (.nm 3))
 .nil)
 .nil)
 .nil)
noncomputable def AI:Ss :=
 (.cons (.for_ (.nm 3) (.seq (.nm 2))
 Aw)
 (.cons (.ret .cN)
 .nil))
noncomputable def As:Fn:=Av "_law_plain" 3 1 0 4 AI
theorem Dk (ds:List D) (h:ds.length=3):As.den ds=run 4 AI ds:=Ao h
noncomputable def Az:Ss :=
 (.cons (.iff (.isN false (.nm 7))
 (.cons (.mut 5 [] .append (.cons (.tup (.cons (.nm 8) (.cons (.nm 9) .nil))) .nil))
 (.cons (.iff (.cmp .ge (.ix (.ix (.nm 0) (.nm 8)) (.nm 9)) (.nm 2))
 (.cons (.asg 7 0 (.tup (.cons (.nm 8) (.cons (.nm 9) .nil))))
 .nil)
 .nil)
 .nil))
 .nil)
 .nil)
noncomputable def A7:Ss :=
 (.cons (.asg 7 0 .cN)
 (.cons (.for_ (.tp [8,9]) (.seqL (.nm 6))
 Az)
 (.cons (.asg 6 2 (.lst .nil))
 (.cons (.iff (.bo true (.cons (.isN true (.nm 7)) (.cons (.cmp .gt (.ix (.nm 7) (.cI 0)) (.cI 0)) .nil)))
 (.cons (.asg 10 0 (.bi .len (.cons (.ix (.nm 0) (.bin .sub (.ix (.nm 7) (.cI 0)) (.cI 1))) .nil)))
 (.cons (.asg 6 1 (.comp1 1 [7,1] (.nm 0) (.r1 (.nm 10)) (.cmp .eq (.bin .fdiv (.nm 0) (.nm 2)) (.ix (.nm 1) (.cI 1))) (.tup (.cons (.bin .sub (.ix (.nm 1) (.cI 0)) (.cI 1)) (.cons (.nm 0) .nil)))))
 .nil))
 .nil)
 .nil))))
noncomputable def CO:Ss :=
 (.cons (.asg 4 0 (.cI 0))
 (.cons (.iff (.cmp .ne (.nm 0) (.lst .nil))
 (.cons (.asg 4 0 (.bi .len (.cons (.ix (.nm 0) (.cI 0)) .nil)))
 .nil)
 .nil)
 (.cons (.asg 5 2 (.lst .nil))
 (.cons (.asg 6 2 (.call Dj (.cons (.nm 4) (.cons (.nm 1) (.cons (.nm 3) (.cons (.nm 4) .nil))))))
 (.cons (.dem 5 1)
 (.cons (.dem 6 1)
 (.cons (.wh (.cmp .ne (.nm 6) (.lst .nil))
 A7)
 (.cons (.ret (.nm 5))
 .nil))))))))
noncomputable def Cq:Fn:=Av "_law_walk" 4 3 1 11 CO
theorem Iq (ds:List D) (h:ds.length=4):Cq.den ds=run 11 CO ds:=Ao h
noncomputable def Dp:Ss :=
 (.cons (.asg 5 1 (.comp1 1 [3] (.nm 0) (.seq (.nm 0)) (.cmp .ge (.nm 0) (.nm 1)) (.nm 0)))
 (.cons (.asg 6 0 (.call As (.cons (.nm 0) (.cons (.nm 3) (.cons (.listI (.r1 (.bi .len (.cons (.nm 0) .nil)))) .nil)))))
 (.cons (.asg 7 0 (.call As (.cons (.nm 0) (.cons (.nm 3) (.cons (.listI (.r2 (.nm 4) (.bi .len (.cons (.nm 0) .nil)))) .nil)))))
 (.cons (.asg 8 0 (.call As (.cons (.nm 0) (.cons (.nm 3) (.cons (.listI (.r3 (.nm 4) (.neg (.cI 1)) (.neg (.cI 1)))) .nil)))))
 (.cons (.asg 9 1 (.lst (.cons (.nm 6) (.cons (.call As (.cons (.nm 0) (.cons (.nm 3) (.cons (.listI (.r3 (.bin .sub (.bi .len (.cons (.nm 0) .nil)) (.cI 1)) (.neg (.cI 1)) (.neg (.cI 1)))) .nil)))) (.cons (.nm 7) .nil)))))
 (.cons (.mut 9 [] .append (.cons (.ifx (.isN true (.nm 7)) (.nm 7) (.nm 6)) .nil))
 (.cons (.iff (.bo false (.cons (.isN false (.nm 8)) (.cons (.bo true (.cons (.isN true (.nm 7)) (.cons (.cmp .lt (.bin .sub (.nm 7) (.nm 4)) (.bin .sub (.nm 4) (.nm 8))) .nil))) .nil)))
 (.cons (.asg 8 0 (.nm 7))
 .nil)
 .nil)
 (.cons (.mut 9 [] .append (.cons (.nm 8) .nil))
 (.cons (.iff (.cmp .eq (.nm 5) (.lst .nil))
 (.cons (.asg 9 1 (.bin .add (.nm 9) (.lst (.cons .cN (.cons .cN .nil)))))
 .nil)
 (.cons (.asg 9 1 (.bin .add (.nm 9) (.lst (.cons (.mt .index (.nm 0) (.cons (.bi .minL (.cons (.nm 5) .nil)) .nil)) (.cons (.mt .index (.nm 0) (.cons (.bi .maxL (.cons (.nm 5) .nil)) .nil)) .nil)))))
 .nil))
 (.cons (.asg 10 1 (.lst (.cons (.call Cy (.cons (.nm 2) (.cons (.nm 1) (.cons (.nm 3) .nil)))) (.cons (.call G4 (.cons (.nm 2) (.cons (.nm 1) (.cons (.nm 3) .nil)))) (.cons (.call AZ (.cons (.nm 2) (.cons (.nm 1) (.cons (.nm 3) (.cons (.nm 4) .nil))))) .nil)))))
 (.cons (.asg 10 0 (.bin .add (.nm 10) (.lst (.cons (.call B8 (.cons (.nm 2) (.cons (.nm 1) (.cons (.nm 3) (.cons (.nm 4) .nil))))) (.cons (.call G5 (.cons (.nm 2) (.cons (.nm 1) (.cons (.nm 3) (.cons (.nm 4) .nil))))) .nil)))))
 (.cons (.iff (.cmp .ne (.bin .add (.nm 10) (.lst (.cons (.call G6 (.cons (.nm 2) (.cons (.nm 1) (.cons (.nm 3) .nil)))) (.cons (.call FZ (.cons (.nm 2) (.cons (.nm 1) (.cons (.nm 3) .nil)))) .nil)))) (.nm 9))
 (.cons (.ret (.cB false))
 .nil)
 .nil)
 (.cons (.asg 11 1 (.call Do (.cons (.nm 2) (.cons (.nm 1) (.cons (.nm 3) (.cons (.nm 4) .nil))))))
 (.cons (.asg 12 0 (.cmp .eq (.nm 11) (.call Cq (.cons (.call Aq (.cons (.nm 0) (.cons (.nm 1) .nil))) (.cons (.nm 1) (.cons (.nm 3) (.cons (.nm 4) .nil)))))))
 (.cons (.mut 11 [] .clear .nil)
 (.cons (.ret (.nm 12))
 .nil))))))))))))))))
noncomputable def A5:Fn:=Av "_law_all" 5 13 0 13 Dp
theorem Nh (ds:List D) (h:ds.length=5):A5.den ds=run 13 Dp ds:=Ao h
theorem Ir:A5.dep=0:=rfl
noncomputable def Bp:E :=
 (.call Aq (.cons (.nm 1) (.cons (.nm 2) .nil)))
noncomputable def CP:Fn:=Nc "_law_put" 3 3 5 3 4 Bp
noncomputable def CB:Ss :=
 (.cons (.asg 8 0 (.callB AT (.cons (.nm 0) (.cons (.bin .add (.cI 10) (.nm 7)) (.cons (.nm 6) .nil)))))
 (.cons (.asg 9 2 (.call AX (.cons (.nm 0) (.cons (.bin .add (.cI 20) (.nm 7)) (.cons (.lst (.cons (.cI 60) (.cons (.cI 60) (.cons (.cI 13) .nil)))) .nil)))))
 (.cons (.asg 10 0 (.bin .mod (.ixL (.nm 9) (.cI 0)) (.bi .len (.cons (.nm 1) .nil))))
 (.cons (.iff (.bo false (.cons (.not (.callB A5 (.cons (.nm 6) (.cons (.nm 2) (.cons (.nm 4) (.cons (.nm 8) (.cons (.nm 10) .nil))))))) (.cons (.not (.callB A5 (.cons (.nm 1) (.cons (.nm 3) (.cons (.nm 5) (.cons (.nm 8) (.cons (.nm 10) .nil))))))) .nil)))
 (.cons (.ret (.cB false))
 .nil)
 .nil)
 (.cons (.iff (.not (.callB A5 (.cons (.nm 6) (.cons (.nm 2) (.cons (.nm 4) (.cons (.nm 8) (.cons (.nm 10) .nil)))))))
 (.cons (.ret (.cB false))
 .nil)
 .nil)
 (.cons (.asg 11 0 (.bin .mod (.ixL (.nm 9) (.cI 1)) (.bi .len (.cons (.nm 1) .nil))))
 (.cons (.set 6 [] (.nm 11) (.bin .mod (.ixL (.lst (.cons (.bin .add (.ixL (.nm 6) (.nm 11)) (.cI 1)) (.cons (.cI 0) (.cons (.ixL (.nm 9) (.cI 2)) (.cons (.bi .maxL (.cons (.nm 6) .nil)) .nil))))) (.bin .mod (.nm 7) (.cI 4))) (.bin .add (.bin .pow (.cI 10) (.cI 18)) (.cI 1))))
 (.cons (.put CP 4 [6,2])
 .nil))))))))
noncomputable def D6:Ss :=
 (.cons (.asg 1 2 (.call Bz (.cons (.nm 0) (.cons (.cI 0) (.cons (.cI 60) .nil)))))
 (.cons (.iff (.cmp .eq (.nm 1) (.lst .nil))
 (.cons (.asg 1 2 (.lst (.cons (.cI 7) .nil)))
 .nil)
 .nil)
 (.cons (.asg 2 1 (.call CM (.cons (.nm 0) (.cons (.cI 1) .nil))))
 (.cons (.asg 3 0 (.bin .add (.cI 2) (.bin .mod (.bin .add (.nm 2) (.ix (.call AX (.cons (.nm 0) (.cons (.cI 2) (.cons (.lst (.cons (.cI 5) .nil)) .nil)))) (.cI 0))) (.cI 7))))
 (.cons (.asg 4 2 (.callB Aq (.cons (.nm 1) (.cons (.nm 2) .nil))))
 (.cons (.asg 5 2 (.callB Aq (.cons (.nm 1) (.cons (.nm 3) .nil))))
 (.cons (.dem 1 1)
 (.cons (.asg 6 1 (.bi .listL (.cons (.nm 1) .nil)))
 (.cons (.for_ (.nm 7) (.r1 (.cI 8))
 CB)
 (.cons (.put CP 4 [1,2])
 (.cons (.asg 8 0 (.callB AT (.cons (.nm 0) (.cons (.cI 10) (.cons (.nm 1) .nil)))))
 (.cons (.ret (.bo true (.cons (.callB A5 (.cons (.nm 1) (.cons (.nm 2) (.cons (.nm 4) (.cons (.nm 8) (.cons (.cI 0) .nil)))))) (.cons (.cmp .eq (.nm 4) (.callB Aq (.cons (.nm 1) (.cons (.nm 2) .nil)))) (.cons (.cmp .eq (.nm 5) (.callB Aq (.cons (.nm 1) (.cons (.nm 3) .nil)))) .nil)))))
 .nil))))))))))))
noncomputable def F1:Fn:=Av "law" 1 14 0 12 D6
theorem Ni (ds:List D) (h:ds.length=1):F1.den ds=run 12 D6 ds:=Ao h
end Pu
section
namespace Pu
open PySem
theorem q9B {f n:Nat} {k:Int} (h:f<=n) (e:(n:Int)<=k):(f:Int)<=k:=Int.le_trans (abf.mpr h) e
theorem Bw {tg:Tg} {b:Fr->Out} (P:Nat->Fr->Prop):∀ {ds:List D} {δ:Fr} (n:Nat),P n δ->(∀ i d δ,ds[i]?=some d->P (n + i) δ->∃ δ' δ'',Dw tg d δ=some δ'/\b δ'=.nxt δ''/\P (n + i + 1) δ'')->∃ δ',AL tg b ds δ=.nxt δ'/\P (n + ds.length) δ'
 | [],δ,n,h0,_=>⟨δ,rfl,h0⟩
 | d :: ds,δ,n,h0,hs=>by
  obtain ⟨δ',δ'',e1,e2,h1⟩:=hs 0 d δ rfl h0
  obtain ⟨δ3,e3,h3⟩:=Bw P (ds:=ds) (δ:=δ'') (n + 1) h1 fun i d δ hd hP=>by
   have:=hs (i + 1) d δ (by simpa using hd) (by rw [show n + (i + 1)=n + 1 + i by omega]; exact hP)
   rw [show n + (i + 1) + 1=n + 1 + i + 1 by exact Nat.add_right_comm ..] at this
   exact this
  refine ⟨δ3,?_,by rw [aaP,show n + (ds.length + 1)=n + 1 + ds.length by omega]; exact h3⟩
  unfold AL
  rw [e1]
  show (b δ').then _=_
  rw [e2]
  exact e3
theorem C7 (i j:Int):b2 .add (.int i) (.int j)=.ok (.int (i + j)):=rfl
theorem DD (i j:Int):b2 .sub (.int i) (.int j)=.ok (.int (i - j)):=rfl
theorem Cg (i j:Int) (h1:-(18446744073709551616) < i) (h2:i < 18446744073709551616):b2 .mul (.int i) (.int j)=.ok (.int (i * j)):=by
 show (if _ then _ else _)=_; rw [if_pos (.inl ⟨h1,h2⟩)]
theorem Ch (i j:Int) (h1:-(18446744073709551616) < j) (h2:j < 18446744073709551616):b2 .mul (.int i) (.int j)=.ok (.int (i * j)):=by
 show (if _ then _ else _)=_; rw [if_pos (.inr ⟨h1,h2⟩)]
theorem C8 (i j:Int) (h1:0 < j):b2 .mod (.int i) (.int j)=.ok (.int (i % j)):=by
 show (if _ then _ else _)=_; rw [if_pos h1]
theorem Ci (i j:Int) (h1:0 < j) (h2:j < 1606938044258990275541962092341162602522202993782792835301376):b2 .fdiv (.int i) (.int j)=.ok (.int (i / j)):=by
 show (if _ then _ else _)=_; rw [if_pos ⟨h1,h2⟩]
theorem EM (i j:Int) (h1:0<=j) (h2:j<=1000000) (h3:i.natAbs < 18446744073709551616):b2 .pow (.int i) (.int j)=.ok (.int (i ^ j.toNat)):=by
 show (if _ then _ else _)=_; rw [if_pos ⟨h1,h2,h3⟩]
theorem Em (i j:Int):c2 .lt (.int i) (.int j)=.ok (.bl (decide (i < j))):=rfl
theorem Eo (i j:Int):c2 .le (.int i) (.int j)=.ok (.bl (decide (i<=j))):=rfl
theorem Ep (i j:Int):c2 .gt (.int i) (.int j)=.ok (.bl (decide (j < i))):=rfl
theorem Er (i j:Int):c2 .ge (.int i) (.int j)=.ok (.bl (decide (j<=i))):=rfl
theorem DE (i j:Int):c2 .eq (.int i) (.int j)=.ok (.bl (i==j)):=rfl
theorem DF (i j:Int):c2 .ne (.int i) (.int j)=.ok (.bl (!(i==j))):=rfl
theorem DR (d:D) (r:Fr):get (some d :: r) 0=.ok d:=rfl
theorem DS (o:Option D) (r:Fr) (i:Nat):get (o :: r) (i + 1)=get r i:=by
 unfold get; rw [aaV]
theorem Aj {n:Nat} {b:Ss} {ds:List D} {d:D} (h:exs b (Pu.AK n ds)=.ret d):run n b ds=.ok d:=by
 unfold run; rw [h]
noncomputable def GB (c k:Int):Int:=((((c % 2147483629 + 1013 * k + 7919) ^ 3 % 2147483647) * 40699 + 3793 * k * k + 11) % 2147483399) / 101
theorem Mf (c k:Int) (hk0:0<=k) (hk:k<=100000):CL.den [.int c,.int k]=.ok (.int (GB c k)):=by
 have h1:0<=c % 2147483629:=abb _ (by decide)
 have h2:c % 2147483629 < 2147483629:=abL _ (by decide)
 have h3:(c % 2147483629 + 1013 * k + 7919).natAbs < 18446744073709551616:=by omega
 have h4:-(18446744073709551616) < k:=by omega
 have h5:k < 18446744073709551616:=by omega
 rw [IR _ rfl]
 simp [run,Db,exs,ex,ev,evs,get,C7,Cg,Ch,C8,Ci,EM,Pu.AK,h3,h4,h5,GB]
theorem CQ {ns:List Int} {d:D} (h:d ∈ ns.map D.int):∃ x,d=.int x:=by
 obtain ⟨x,_,e⟩:=aaD.mp h
 exact ⟨x,e.symm⟩
theorem Nj {ns:List Int} {d:D} {lo hi:Option Int} {i:Nat} (h:(cut (ns.map D.int) lo hi)[i]?=some d):∃ x,d=.int x:=by
 have:=aae h
 unfold cut at this
 exact CQ (acO (acP this))
theorem HD {ns:List Int} {i:Int} (h0:0<=i) (h1:i < ns.length):∃ x,ns[i.toNat]?=some x/\atD (ns.map D.int) i=.ok (.int x):=by
 have hl:i.toNat < ns.length:=by omega
 refine ⟨ns[i.toNat],aah hl,?_⟩
 unfold atD ixN
 rw [aab,if_pos h0,if_pos h1]
 simp [hl]
theorem KY (ns:List Int) (p:Int) (hp:0<=p):∃ i,C6.den [.lst (ns.map .int),.int p]=.ok (.int i):=by
 rw [Lo _ rfl]
 by_cases h:p < ns.length
 ·obtain ⟨x,_,e⟩:=HD hp h
  refine ⟨x,?_⟩
  simp -implicitDefEqProofs [run,exs,ex,ev,evs,evI,evBo,tv,get,BN,C7,DD,Cg,Ch,C8,Ci,EM,Em,Eo,Ep,Er,DE,DF,Pu.AK,biD,ixD,EA,FN,evP,upd,Cr,umD,DW,CY,De,CF,Ds,E.isCN,Dt,on1,on2,on3,D7,BR,Du,Dv,Fc,DJ,Fd,dI,dB,dS,dL,dT',un1,un0,DC,h,e]
 ·obtain ⟨δ',e,s,o,rfl⟩:=Bw (tg:=.nm 3) (b:=exs Ea) (fun _ δ=>∃ (s:Int) (o:Option D),δ=[some (.lst (ns.map .int)),some (.int p),some (.int s),o]) (ds:=cut (ns.map D.int) none (some 63)) (δ:=[some (.lst (ns.map .int)),some (.int p),some (.int 5),none]) 0 ⟨5,none,rfl⟩ (by
   rintro i d δ hd ⟨s,o,rfl⟩
   obtain ⟨x,rfl⟩:=Nj hd
   refine ⟨_,_,rfl,?_,(s * 48271 + x % 1000003 + 1) % 2147483647,some (.int x),rfl⟩
   simp -implicitDefEqProofs [run,exs,ex,ev,evs,evI,evBo,tv,get,BN,C7,DD,Cg,Ch,C8,Ci,EM,Em,Eo,Ep,Er,DE,DF,Pu.AK,biD,ixD,EA,FN,evP,upd,Cr,umD,DW,CY,De,CF,Ds,E.isCN,Dt,on1,on2,on3,D7,BR,Du,Dv,Fc,DJ,Fd,dI,dB,dS,dL,dT',un1,un0,Ea])
  refine ⟨(s + 7919 * p) % 1000003,?_⟩
  simp -implicitDefEqProofs [run,exs,ex,ev,evs,evI,evBo,tv,get,BN,C7,DD,Cg,Ch,C8,Ci,EM,Em,Eo,Ep,Er,DE,DF,Pu.AK,biD,ixD,EA,FN,evP,upd,Cr,umD,DW,CY,De,CF,Ds,E.isCN,Dt,on1,on2,on3,D7,BR,Du,Dv,Fc,DJ,Fd,dI,dB,dS,dL,dT',un1,un0,DC,h,e]
theorem CS {a b:Int} {i:Nat} {d:D} (h:(Am a b)[i]?=some d):d=.int (a + i)/\(i:Int) < b - a:=by
 unfold Am at h
 rw [aam] at h
 obtain ⟨j,hj,e⟩:=aau.mp h
 obtain ⟨h1,h2⟩:=aap.mp hj
 rw [List.getElem_range] at h2
 subst h2
 rw [aaY] at h1
 exact ⟨e.symm,by omega⟩
theorem BZ (a b:Int):(Am a b).length=(b - a).toNat:=by unfold Am; simp
theorem BG {a b:Int} (h1:-1000000<=a) (h2:a<=1000000) (h3:-1000000<=b) (h4:b<=1000000):PM (.int a) (.int b)=.ok (Am a b):=by
 show (if _ then _ else _)=_
 rw [if_pos]
 unfold AD LIM
 simp -implicitDefEqProofs only [aaf,decide_eq_true_eq]
 omega
theorem Dq {ns:List Int} {i:Nat} {x:Int} (h:ns[i]?=some x):atD (ns.map D.int) (i:Int)=.ok (.int x):=by
 have hl:=(aap.mp h).1
 obtain ⟨y,e1,e2⟩:=HD (ns:=ns) (i:=(i:Int)) (by exact aaR _) (by exact abf.mpr hl)
 rw [aa3,h] at e1
 cases e1
 exact e2
theorem IV:b2 .pow (.int 10) (.int 18)=.ok (.int 1000000000000000000):=by
 rw [EM _ _ (by decide) (by decide) (by decide)]; rfl
theorem IW:b2 .pow (.int 10) (.int 59)=.ok (.int 100000000000000000000000000000000000000000000000000000000000):=by
 rw [EM _ _ (by decide) (by decide) (by decide)]; rfl
theorem BA (ds:List D) (d:D) (h:ds.length < 16777216):umD .append [d] ds=some (ds ++ [d]):=by
 show (if _ then _ else _)=_
 exact if_pos h
section
variable {ns S xs:List Int} {p c left:Int} {i:Nat} {s:Int} {o2:Option D} (hs:0 < s) (hat:atD (S.map D.int) (i:Int)=.ok (.int s)) (hi:i<=1000) (hx:xs.length<=1000)
include hs hat hi hx
theorem VS (h1:c < 1000000000000000000) :
  exs AM [some (.lst (ns.map .int)),some (.int p),some (.lst (S.map .int)),some (.int c),some (.int left),some (.lst (xs.map .int)),some (.int i),o2]=.nxt [some (.lst (ns.map .int)),some (.int p),some (.lst (S.map .int)),some (.int c),some (.int left),some (.lst ((xs ++ [GB c i % s]).map .int)),some (.int i),o2]:=by
 have hmx:=Mf c i (by exact aaR _) (by exact q9B hi (by decide))
 have hap:=BA (xs.map D.int) (.int (GB c i % s)) (by rw [aab]; exact aaI hx (by decide))
 simp -implicitDefEqProofs only [AM,exs,ex,tv,ev,evs,evI,evBo,DR,DS,Res.bind_ok,Res.out_ok,Out.then_nxt,Out.then_ret,abh,aaV,IV,IW,C7,DD,Cg,Ch,C8,Ci,Em,Eo,Ep,Er,DE,DF,BN,decide_true,decide_false,if_true,if_false,aa6,abA,abK,abS,evP,ixD,EA,FN,upd,Cr,aa5,acA,aat,abH,biD,DW,CY,De,on1,on2,on3,D7,BR,Du,Dv,Fc,DJ,Fd,dI,dB,dS,dL,dT',un1,un0,CF,Ds,E.isCN,Dt,reduceCtorEq,Int.reduceLT,Int.reduceLE,Int.reduceNeg,Int.reduceBEq,h1,hmx,hat,hs,hap]
theorem VT (h1:¬ c < 1000000000000000000) (h2:0 < left) (h3:s < 1606938044258990275541962092341162602522202993782792835301376) :
  exs AM [some (.lst (ns.map .int)),some (.int p),some (.lst (S.map .int)),some (.int c),some (.int left),some (.lst (xs.map .int)),some (.int i),o2]=.nxt [some (.lst (ns.map .int)),some (.int p),some (.lst (S.map .int)),some (.int c),some (.int (left / s)),some (.lst ((xs ++ [left % s]).map .int)),some (.int i),o2]:=by
 have hap:=BA (xs.map D.int) (.int (left % s)) (by rw [aab]; exact aaI hx (by decide))
 simp -implicitDefEqProofs only [AM,exs,ex,tv,ev,evs,evI,evBo,DR,DS,Res.bind_ok,Res.out_ok,Out.then_nxt,Out.then_ret,abh,aaV,IV,IW,C7,DD,Cg,Ch,C8,Ci,Em,Eo,Ep,Er,DE,DF,BN,decide_true,decide_false,if_true,if_false,aa6,abA,abK,abS,evP,ixD,EA,FN,upd,Cr,aa5,acA,aat,abH,biD,DW,CY,De,on1,on2,on3,D7,BR,Du,Dv,Fc,DJ,Fd,dI,dB,dS,dL,dT',un1,un0,CF,Ds,E.isCN,Dt,reduceCtorEq,Int.reduceLT,Int.reduceLE,Int.reduceNeg,Int.reduceBEq,h1,h2,h3,hat,hs,hap]
theorem VU (h1:¬ c < 1000000000000000000) (h2:¬ 0 < left) {q:Int} (hq:C6.den [.lst (ns.map .int),.int ((p + 1 + i) % 63)]=.ok (.int q)) :
  exs AM [some (.lst (ns.map .int)),some (.int p),some (.lst (S.map .int)),some (.int c),some (.int left),some (.lst (xs.map .int)),some (.int i),o2]=.nxt [some (.lst (ns.map .int)),some (.int p),some (.lst (S.map .int)),some (.int c),some (.int left),some (.lst ((xs ++ [GB q i % s]).map .int)),some (.int i),some (.int q)]:=by
 have hmx:=Mf q i (by exact aaR _) (by exact q9B hi (by decide))
 have hap:=BA (xs.map D.int) (.int (GB q i % s)) (by rw [aab]; exact aaI hx (by decide))
 simp -implicitDefEqProofs only [AM,exs,ex,tv,ev,evs,evI,evBo,DR,DS,Res.bind_ok,Res.out_ok,Out.then_nxt,Out.then_ret,abh,aaV,IV,IW,C7,DD,Cg,Ch,C8,Ci,Em,Eo,Ep,Er,DE,DF,BN,decide_true,decide_false,if_true,if_false,aa6,abA,abK,abS,evP,ixD,EA,FN,upd,Cr,aa5,acA,aat,abH,biD,DW,CY,De,on1,on2,on3,D7,BR,Du,Dv,Fc,DJ,Fd,dI,dB,dS,dL,dT',un1,un0,CF,Ds,E.isCN,Dt,reduceCtorEq,Int.reduceLT,Int.reduceLE,Int.reduceNeg,Int.reduceBEq,h1,h2,hq,hmx,hat,hs,hap,Int.reduceLT]
end
theorem FD (ns:List Int) (p:Int) (hp:0<=p) (S:List Int) (hl:S.length<=1000) (hS:∀ s ∈ S,0 < s/\s < 1606938044258990275541962092341162602522202993782792835301376) :
  ∃ xs:List Int,AX.den [.lst (ns.map .int),.int p,.lst (S.map .int)]=.ok (.lst (xs.map .int))/\xs.length=S.length/\∀ (j:Nat) (x s:Int),xs[j]?=some x->S[j]?=some s->0<=x/\x < s:=by
 obtain ⟨c,hc⟩:=KY ns p hp
 obtain ⟨δ',e,left,xs,o1,o2,rfl,hx,hb⟩:=Bw (tg:=.nm 6) (b:=exs AM) (fun i δ=>∃ (left:Int) (xs:List Int) (o1 o2:Option D),δ=[some (.lst (ns.map .int)),some (.int p),some (.lst (S.map .int)),some (.int c),some (.int left),some (.lst (xs.map .int)),o1,o2]/\xs.length=i/\∀ (j:Nat) (x s:Int),xs[j]?=some x->S[j]?=some s->0<=x/\x < s)
  (ds:=Am 0 (S.length:Int)) (δ:=[some (.lst (ns.map .int)),some (.int p),some (.lst (S.map .int)),some (.int c),some (.int c),some (.lst []),none,none]) 0 ⟨c,[],none,none,rfl,rfl,by simp⟩ (by
   rintro i d δ hd ⟨left,xs,o1,o2,rfl,hx,hb⟩
   obtain ⟨rfl,hi⟩:=CS hd
   have hx:xs.length=i:=by omega
   have hi':i < S.length:=by exact abf.mp hi
   have hs:S[i]?=some S[i]:=aah hi'
   have hsp:=hS S[i] (acz hi')
   have hat:=Dq hs
   generalize S[i]=s at hs hsp hat
   have fin:∀ z:Int,0<=z->z < s->∀ (j:Nat) (x s:Int),(xs ++ [z])[j]?=some x->S[j]?=some s->0<=x/\x < s:=by
    intro z h0 h1 j x s e1 e2
    by_cases hj:j < xs.length
    ·rw [aaW hj] at e1
     exact hb j x s e1 e2
    ·rw [aaG (by exact ab3.mp hj)] at e1
     have:j=i:=by
      have:=(aap.mp e1).1
      simp at this; omega
     subst this
     rw [hx,Nat.sub_self] at e1
     rw [hs] at e2
     cases e2; cases e1
     exact ⟨h0,h1⟩
   have md:∀ y:Int,0<=y % s/\y % s < s:=fun y=>⟨abb _ (by omega),abL _ hsp.1⟩
   have hz:(0:Int) + (i:Int)=(i:Int):=by omega
   rw [hz]
   have len:∀ z:Int,(xs ++ [z]).length=0 + i + 1:=fun z=>by rw [aaC,hx]; simp
   by_cases h1:c < 1000000000000000000
   ·exact ⟨_,_,rfl,VS hsp.1 hat (by omega) (by omega) h1,left,xs ++ [GB c i % s],some (.int i),o2,rfl,len _,fin _ (md _).1 (md _).2⟩
   ·by_cases h2:0 < left
    ·exact ⟨_,_,rfl,VT hsp.1 hat (by omega) (by omega) h1 h2 hsp.2,left / s,xs ++ [left % s],some (.int i),o2,rfl,len _,fin _ (md _).1 (md _).2⟩
    ·obtain ⟨q,hq⟩:=KY ns ((p + 1 + i) % 63) (abb _ (by decide))
     exact ⟨_,_,rfl,VU hsp.1 hat (by omega) (by omega) h1 h2 hq,left,xs ++ [GB q i % s],some (.int i),some (.int q),rfl,len _,fin _ (md _).1 (md _).2⟩)
 refine ⟨xs,?_,by rw [hx,BZ]; exact ac1 ..,hb⟩
 have hr:=BG (a:=0) (b:=(S.length:Int)) (by exact by decide) (by exact by decide) (by exact aaR _) (by exact q9B hl (by decide))
 refine (IS _ rfl).trans (Aj ?_)
 simp -implicitDefEqProofs only [Pu.AK,abq,aaj,aa7,aaX,Dc,exs,ex,tv,ev,evs,evI,evBo,DR,DS,Res.bind_ok,Res.out_ok,Out.then_nxt,Out.then_ret,abh,aaV,IV,IW,C7,DD,Cg,Ch,C8,Ci,Em,Eo,Ep,Er,DE,DF,BN,decide_true,decide_false,if_true,if_false,aa6,abA,abK,abS,evP,ixD,EA,FN,upd,Cr,aa5,acA,aat,abH,biD,DW,CY,De,on1,on2,on3,D7,BR,Du,Dv,Fc,DJ,Fd,dI,dB,dS,dL,dT',un1,un0,CF,Ds,E.isCN,Dt,reduceCtorEq,Int.reduceLT,Int.reduceLE,Int.reduceNeg,Int.reduceBEq,hc,aab,hr,e]
theorem KZ (i:Int):Hm.den [.int i]=.ok (.bl true):=rfl
theorem DT (i a b:Int):B5.den [.int i,.int a,.int b]=.ok (.bl (decide (a<=i/\i<=b))):=by
 refine (JD _ rfl).trans (Aj ?_)
 by_cases h1:a<=i <;> by_cases h2:i<=b <;> simp -implicitDefEqProofs only [Pu.AK,abq,aaj,aa7,aaX,Dy,exs,ex,tv,ev,evs,evI,evBo,DR,DS,Res.bind_ok,Res.out_ok,Out.then_nxt,Out.then_ret,abh,aaV,IV,IW,C7,DD,Cg,Ch,C8,Ci,Em,Eo,Ep,Er,DE,DF,BN,decide_true,decide_false,if_true,if_false,aa6,abA,abK,abS,evP,ixD,EA,FN,upd,Cr,aa5,acA,aat,abH,biD,DW,CY,De,on1,on2,on3,D7,BR,Du,Dv,Fc,DJ,Fd,dI,dB,dS,dL,dT',un1,un0,CF,Ds,E.isCN,Dt,reduceCtorEq,Int.reduceLT,Int.reduceLE,Int.reduceNeg,Int.reduceBEq,KZ,h1,h2,and_self,and_true,and_false]
theorem at0 (a b:D):atD [a,b] 0=.ok a:=rfl
theorem at1 (a b:D):atD [a,b] 1=.ok b:=rfl
theorem Wo {xs:List Int} (h:xs.length=1):∃ a,xs=[a]:=by
 match xs,h with
 | [a],_=>exact ⟨a,rfl⟩
section
variable (a b c d e f:D)
theorem Wp:atD [a] 0=.ok a:=rfl
end
theorem GC {f:D->Res (Option D)} {g:D->Option D}:∀ {ds:List D},(∀ d ∈ ds,f d=.ok (g d))->Br f ds=.ok (ds.filterMap g)
 | [],_=>rfl
 | d :: ds,h=>by
  unfold Br
  rw [h d aac,GC (ds:=ds) fun x hx=>h x (aaa _ hx)]
  show Res.ok _=_
  rw [abw]
  cases g d <;> rfl
theorem K0 {nl:Nat} {fr:List Nat} {tg:Tg} {it:It} {elt:E} {δ:Fr} {ds:List D} {g:D->D} (hi:evI it δ=.ok ds) (h:∀ d ∈ ds,∃ δ',Dw tg d (blk nl fr δ)=some δ'/\ev elt δ'=.ok (g d)):ev (.comp0 nl fr tg it elt) δ=.ok (.lst (ds.map g)):=by
 rw [ev,hi,Res.bind_ok,GC (g:=fun d=>some (g d)) (fun d hd=>by
  obtain ⟨δ',e1,e2⟩:=h d hd
  rw [e1]
  show (ev elt δ').bind _=_
  rw [e2]; rfl),Res.bind_ok,List.filterMap_eq_map']
theorem HE {nl:Nat} {fr:List Nat} {tg:Tg} {it:It} {cond elt:E} {δ:Fr} {ds:List D} {b:D->Bool} {g:D->D} (hi:evI it δ=.ok ds) (h:∀ d ∈ ds,∃ δ',Dw tg d (blk nl fr δ)=some δ'/\(ev cond δ').bind BN=.ok (b d)/\(b d=true->ev elt δ'=.ok (g d))):ev (.comp1 nl fr tg it cond elt) δ=.ok (.lst ((ds.filter b).map g)):=by
 rw [ev,hi,Res.bind_ok,GC (g:=fun d=>if b d then some (g d) else none) (fun d hd=>by
  obtain ⟨δ',e1,e2,e3⟩:=h d hd
  rw [e1]
  show ((ev cond δ').bind BN).bind _=_
  rw [e2,Res.bind_ok]
  cases q:b d with
  | true=>rw [if_pos rfl,e3 q]; rfl
  | false=>rfl),Res.bind_ok]
 congr 2
 clear h hi
 induction ds with
 | nil=>rfl
 | cons d ds ih =>
  rw [abw,aca]
  cases q:b d with
  | true=>simp [ih]
  | false=>simp [ih]
theorem E8 {c:Fr->Res Bool} {b:Fr->Out} (P:Nat->Fr->Prop):∀ (k n m:Nat) {δ:Fr},P m δ->(∀ i δ,m<=i->i < m + k->P i δ->c δ=.ok true/\∃ δ',b δ=.nxt δ'/\P (i + 1) δ')->(∀ δ,P (m + k) δ->c δ=.ok false)->k < n->∃ δ',AY c b n δ=.nxt δ'/\P (m + k) δ'
 | 0,n + 1,m,δ,h0,_,h2,_=>by
  refine ⟨δ,?_,h0⟩
  unfold AY
  rw [h2 δ h0]; rfl
 | k + 1,n + 1,m,δ,h0,h1,h2,hn=>by
  obtain ⟨e1,δ',e2,h3⟩:=h1 m δ (aag _) (by omega) h0
  obtain ⟨δ2,e4,h4⟩:=E8 P k n (m + 1) h3 (fun i δ hi hl=>h1 i δ (by exact aax hi) (by omega)) (fun δ hd=>h2 δ (by rw [show m + (k + 1)=m + 1 + k by omega]; exact hd)) (by exact aaH hn)
  refine ⟨δ2,?_,by rw [show m + (k + 1)=m + 1 + k by omega]; exact h4⟩
  unfold AY
  rw [e1,Res.out_ok,if_pos rfl,e2]
  exact e4
theorem GD (xs:List D) (h:xs.all (D.shp 7)=true):c2 .ne (.lst xs) (.lst [])=.ok (.bl (!xs.isEmpty)):=by
 show (if (D.shp 8 (.lst xs) && D.shp 8 (.lst [])) then _ else _)=_
 rw [show D.shp 8 (.lst xs)=true from h,show D.shp 8 (.lst [])=true from rfl]
 cases xs <;> rfl
theorem Iu {b:Int} {d:D} (h:d ∈ Am 0 b):∃ i:Nat,d=.int i/\(i:Int) < b:=by
 obtain ⟨i,hi⟩:=abt h
 obtain ⟨rfl,h⟩:=CS hi
 exact ⟨i,by rw [abT],by omega⟩
theorem G7 (a b:List D) (h:a.length + b.length<=16777216):b2 .add (.lst a) (.lst b)=.ok (.lst (a ++ b)):=by
 show (if _ then _ else _)=_
 exact if_pos h
noncomputable def cnt (p f i:Nat):Nat:=(p + f ^ i - 1) / f ^ i
theorem EN (p f:Nat):cnt p f 0=p:=by unfold cnt; simp
theorem K1 {p f:Nat} (hf:1<=f) (i:Nat):cnt p f (i + 1)=(cnt p f i + f - 1) / f:=by
 unfold cnt
 have hw:0 < f ^ i:=aby (by exact hf)
 have h1:(p + f ^ i - 1) / f ^ i + f - 1=(p + f ^ (i + 1) - 1) / f ^ i:=by
  have e:p + f ^ (i + 1) - 1=(p + f ^ i - 1) + f ^ i * (f - 1):=by
   have:f ^ (i + 1)=f ^ i * (f - 1) + f ^ i:=by
    rw [abI,<- Nat.mul_succ]; congr 1; omega
   omega
  rw [e,Nat.add_mul_div_left _ _ hw]
  generalize (p + f ^ i - 1) / f ^ i=q
  omega
 rw [h1,acI,abI]
structure Hs (p f h:Nat):Prop where
 one:cnt p f h=1
 more:∀ i,i < h->1 < cnt p f i
theorem Mg {p f h:Nat} (hf:1<=f) (hh:p<=f ^ h) (hp:1<=p):cnt p f h=1:=by
 unfold cnt
 have hw:0 < f ^ h:=aby (by exact hf)
 apply acX <;> omega
theorem Q1 {p f:Nat} (hf:2<=f) (hp:1<=p):∀ n:Nat,p<=f ^ n->∃ h,h<=n/\Hs p f h
 | 0,h=>⟨0,aag _,Mg (by exact aax hf) h hp,fun i hi=>absurd hi (by exact absurd hi (acF _))⟩
 | n + 1,h=>by
  by_cases hn:p<=f ^ n
  ·obtain ⟨k,h1,h2⟩:=Q1 hf hp n hn
   exact ⟨k,by exact acv h1,h2⟩
  ·refine ⟨n + 1,aag _,Mg (by exact aax hf) h hp,fun i hi=>?_⟩
   unfold cnt
   have hw:0 < f ^ i:=aby (by exact aax hf)
   have hm:f ^ i<=f ^ n:=aci (by exact aax hf) (by exact aaH hi)
   have:2<=(p + f ^ i - 1) / f ^ i:=by
    rw [acM hw]; omega
   exact this
theorem hs8 {p f:Nat} (hf:2<=f) (hp:1<=p) (hp2:p<=200):∃ h,h<=8/\Hs p f h:=by
 refine Q1 hf hp 8 (aao (show p<=2 ^ 8 by exact aao hp2 (by decide)) (acY hf 8))
theorem Qy {f l:Nat} (hf:f<=8) (hl:l<=9):f ^ l<=134217728 :=
 aao (acY hf l) (aao (aci (by decide) hl) (by decide))
theorem BL {p f l j:Nat} (hf:1<=f):j < cnt p f l ↔ j * f ^ l < p:=by
 unfold cnt
 have hw:0 < f ^ l:=aby (by exact hf)
 rw [<- Nat.succ_le_iff,acM hw,acf]
 omega
theorem EO {p f l:Nat} (hf:1<=f):cnt p f l<=p:=by
 apply abl
 intro h
 have:=(BL hf).mp h
 have hw:0 < f ^ l:=aby (by exact hf)
 have:=Nat.le_mul_of_pos_right p hw
 omega
noncomputable def mx (b:Nat->Bool):Nat->Nat
 | 0=>0
 | l + 1=>if b (l + 1) then l + 1 else mx b l
theorem Iv (b:Nat->Bool):∀ n,mx b n<=n
 | 0=>aag _
 | l + 1=>by unfold mx; split; exact aag _; exact acv (Iv b l)
theorem JV {b:Nat->Bool} (h0:b 0=true):∀ n,b (mx b n)=true
 | 0=>h0
 | l + 1=>by unfold mx; split; assumption; exact JV h0 l
theorem Nk {b:Nat->Bool}:∀ n l,mx b n < l->l<=n->b l=false
 | 0,l,h,h2=>by unfold mx at h; exact absurd h2 (acR.mpr h)
 | n + 1,l,h,h2=>by
  unfold mx at h
  split at h
  ·exact absurd h2 (acR.mpr h)
  ·rename_i hb
   by_cases e:l=n + 1
   ·subst e; simpa using hb
   ·exact Nk n l h (by omega)
noncomputable def okL (p f a e l:Nat):Bool:=a % f ^ l==0 && decide (min p (a + f ^ l)<=e)
theorem FE {p f a e l:Nat}:okL p f a e l=true ↔ a % f ^ l=0/\min p (a + f ^ l)<=e:=by unfold okL; simp
theorem K2 {p f a e l k:Nat} (hf:1<=f) (h:okL p f a e l=true) (hk:k<=l):okL p f a e k=true:=by
 rw [FE] at h ⊢
 refine ⟨Nat.mod_eq_zero_of_dvd (Nat.dvd_trans (Nat.pow_dvd_pow f hk) (Nat.dvd_of_mod_eq_zero h.1)),?_⟩
 have:f ^ k<=f ^ l:=aci hf hk
 omega
noncomputable def lvA (p f h e a:Nat):Nat:=mx (okL p f a e) h
noncomputable def nxA (p f h e a:Nat):Nat:=min p (a + f ^ lvA p f h e a)
noncomputable def cov (p f h e:Nat):Nat->Nat->List (Nat × Nat)
 | 0,_=>[]
 | n + 1,a=>if a < e then (lvA p f h e a,a / f ^ lvA p f h e a) :: cov p f h e n (nxA p f h e a) else []
theorem Qz {p f a e:Nat} (h:a < e):okL p f a e 0=true:=by
 rw [FE,ab0,Nat.mod_one]; omega
theorem GE {p f h a e:Nat} (hae:a < e):a % f ^ lvA p f h e a=0/\nxA p f h e a<=e:=FE.mp (JV (Qz hae) h)
theorem K3 {p f h a e:Nat} (hf:1<=f) (hae:a < e) (hep:e<=p):a < nxA p f h e a:=by
 unfold nxA
 have:0 < f ^ lvA p f h e a:=aby (by exact hf)
 omega
end Pu
end
section
open Pu
local macro_rules | `(tactic| simp_arith [$xs,*] $[at $h:ident]?)=>`(tactic| simp -implicitDefEqProofs only [Pu.AK,abq,aaj,aa7,aaX,↓reduceIte,aaJ,Nat.reduceAdd,Nat.reduceSub,ac2,Int.reduceAdd,Int.reduceSub,Int.reduceMul,at0,at1,beq_self_eq_true,acT,Bool.and_true,acr,acJ,acL,exs,ex,tv,ev,evs,evI,evBo,DR,DS,Res.bind_ok,Res.out_ok,Out.then_nxt,Out.then_ret,abh,aaV,IV,IW,C7,DD,Cg,Ch,C8,Ci,Em,Eo,Ep,Er,DE,DF,BN,decide_true,decide_false,if_true,if_false,aa6,abA,abK,abS,evP,ixD,EA,FN,upd,Cr,aa5,acA,aat,abH,biD,DW,CY,De,on1,on2,on3,D7,BR,Du,Dv,Fc,DJ,Fd,dI,dB,dS,dL,dT',un1,un0,CF,Ds,E.isCN,Dt,reduceCtorEq,Int.reduceLT,Int.reduceLE,Int.reduceNeg,Int.reduceBEq,$xs,*] $[at $h:ident]?)
namespace Pu
open PySem
theorem DG {c:Fr->Res Bool} {b:Fr->Out} {n:Nat} {δ δ':Fr} (h1:c δ=.ok true) (h2:b δ=.nxt δ'):AY c b (n + 1) δ=AY c b n δ':=by
 rw [AY,h1,Res.out_ok,if_pos rfl,h2,Out.then_nxt]
theorem CT {c:Fr->Res Bool} {b:Fr->Out} {n:Nat} {δ:Fr} (h1:c δ=.ok false):AY c b (n + 1) δ=.nxt δ:=by
 rw [AY,h1,Res.out_ok]; rfl
noncomputable def iN (n:Nat):D:=.int n
noncomputable def BB (xs:List Nat):D:=.lst (xs.map iN)
noncomputable def lvD (p f h:Nat):List Nat:=(aav (h + 1)).map (cnt p f)
noncomputable def shD (p f:Nat):D:=.tup [.int p,.int f]
noncomputable def Ah (l j:Nat):D:=.tup [.int l,.int j]
theorem OK {m f:Nat} (hf:1<=f):((m:Int) + (f:Int) - 1) / (f:Int)=(((m + f - 1) / f:Nat):Int):=by
 rw [acb]; congr 1; omega
theorem K4 {xs:List Nat} {i:Nat} (h:i < xs.length):atD (xs.map iN) (i:Int)=.ok (.int (xs[i]:Nat)):=by
 unfold atD ixN
 rw [aab,if_pos (by exact aaR _),if_pos (by exact abf.mpr h)]
 simp [h,iN]
theorem G8 (p f i:Nat):((aav (i + 1)).map (cnt p f)).map iN=((aav i).map (cnt p f)).map iN ++ [.int (cnt p f i)]:=by
 rw [abY,aat,aat]; rfl
section
variable {p f h:Nat} (hf:2<=f) (hf8:f<=8) (H:Hs p f h) (hh:h<=8)
include hf hf8 H hh
theorem SN (xs:List D) (hl:xs.length<=1000) (i:Nat):exs C5 [some (shD p f),some (.int f),some (.lst xs),some (.int (cnt p f i))]=.nxt [some (shD p f),some (.int f),some (.lst (xs ++ [.int (cnt p f i)])),some (.int (cnt p f (i + 1)))]:=by
 have hap:=BA xs (.int (cnt p f i)) (by exact aaI hl (by decide))
 have h1:0 < (f:Int):=by omega
 have h2:(f:Int) < 1606938044258990275541962092341162602522202993782792835301376:=by omega
 rw [K1 (by omega),<- OK (by omega)]
 simp_arith [C5,hap,h1,h2]
theorem SO:AY (tv (.cmp .gt (.nm 3) (.cI 1))) (exs C5) FU [some (shD p f),some (.int f),some (.lst []),some (.int p)]=.nxt [some (shD p f),some (.int f),some (.lst (((aav h).map (cnt p f)).map iN)),some (.int (1:Nat))]:=by
 obtain ⟨δ',e,rfl⟩:=E8 (c:=tv (.cmp .gt (.nm 3) (.cI 1))) (b:=exs C5) (fun i δ=>δ=[some (shD p f),some (.int f),some (.lst (((aav i).map (cnt p f)).map iN)),some (.int (cnt p f i))]) h FU 0 (δ:=[some (shD p f),some (.int f),some (.lst []),some (.int p)]) (by rw [EN]; rfl) (by
   rintro i δ _ hi rfl
   have:=H.more i (by omega)
   have h1:(1:Int) < (cnt p f i:Int):=by exact abf.mpr this
   refine ⟨?_,_,SN hf hf8 H hh _ (by simp; omega) i,by rw [G8]⟩
   simp_arith [h1]) (by
   rintro δ rfl
   rw [aaJ,H.one]
   rfl) (by unfold FU; exact aaI hh (by decide))
 rw [e,aaJ,H.one]
theorem F2:D5.den [shD p f]=.ok (BB (lvD p f h)):=by
 have hl:=SO hf hf8 H hh
 have hap:=BA (((aav h).map (cnt p f)).map iN) (.int (1:Nat)) (by simp; exact aaI hh (by decide))
 have e:=G8 p f h
 rw [H.one] at e
 refine (OI _ rfl).trans (Aj ?_)
 unfold BB lvD
 rw [e]
 unfold shD at hl ⊢
 have h1:((1:Nat):Int)=1:=rfl
 rw [h1] at hap hl ⊢
 simp_arith [FX,hl,hap]
end
theorem BV (p f h:Nat):(lvD p f h).length=h + 1:=by unfold lvD; simp
theorem G9 {p f h i:Nat} (hi:i<=h):(lvD p f h)[i]'(by rw [BV]; exact abg hi)=cnt p f i:=by unfold lvD; simp
section
variable {p f h:Nat} (hf:2<=f) (hf8:f<=8) (H:Hs p f h) (hh:h<=8) {l j:Nat} (hl:l<=h) (hj:j < cnt p f l)
include hl hj
theorem Mh:BI.den [BB (lvD p f h),Ah l j]=.ok (.bl true):=by
 have h1:=DT (l:Int) 0 (((lvD p f h).length:Int) - 1)
 rw [BV,decide_eq_true (by omega)] at h1
 have h2:=DT (j:Int) 0 ((cnt p f l:Int) - 1)
 rw [decide_eq_true (by omega)] at h2
 have h3:=K4 (xs:=lvD p f h) (i:=l) (by rw [BV]; exact abg hl)
 rw [G9 hl] at h3
 have h4:(h:Int) + 1 - 1=h:=by omega
 refine (Gz _ rfl).trans (Aj ?_)
 unfold BB Ah
 have h5:=BV p f h
 simp_arith [BO,h1,h2,h3,h5,aab,aaJ,Nat.reduceAdd,ac2]
end
theorem Mi {n:Nat} {b:Ss} {ds:List D} {δ:Fr} (h:exs b (Pu.AK n ds)=.nxt δ):run n b ds=.ok .non:=by
 unfold run; rw [h]
theorem OL (a b c d:Int):c2 .eq (.tup [.int a,.int b]) (.tup [.int c,.int d])=.ok (.bl (a==c && (b==d && true))):=rfl
theorem QA (xs:List Nat) (k:Nat):(xs.map iN).all (D.shp k)=true:=by
 rw [aaA]
 intro d hd
 obtain ⟨n,_,rfl⟩:=aaD.mp hd
 cases k <;> rfl
theorem CC (xs:List D) (h:xs.all (D.shp 7)=true):c2 .eq (.lst xs) (.lst [])=.ok (.bl xs.isEmpty):=by
 show (if (D.shp 8 (.lst xs) && D.shp 8 (.lst [])) then _ else _)=_
 rw [show D.shp 8 (.lst xs)=true from h,show D.shp 8 (.lst [])=true from rfl]
 cases xs <;> rfl
section
variable {p f h:Nat} (hf:2<=f) (hf8:f<=8) (H:Hs p f h) (hh:h<=8)
include hf hf8 H hh
section
variable {l j:Nat} (hl:l<=h) (hj:j < cnt p f l)
include hl hj
theorem Lp:FY.den [shD p f,Ah l j]=.ok (.bl true):=by
 have h1:=F2 hf hf8 H hh
 have h2:=Mh hl hj
 refine (Nf _ rfl).trans (Aj ?_)
 simp_arith [E4,h1,h2]
theorem CU:B6.den [shD p f,Ah l j]=.ok .non:=by
 have h1:=Lp hf hf8 H hh hl hj
 refine (JE _ rfl).trans (Mi (δ:=[some (shD p f),some (Ah l j)]) ?_)
 simp_arith [Dz,h1]
end
theorem OM (l j:Nat):∃ o,AL (.nm 3) (exs E5) (Am 0 (l:Int)) [some (shD p f),some (Ah l j),some (.int 1),none,none]=.nxt [some (shD p f),some (Ah l j),some (.int ((f ^ l:Nat):Int)),o,none]:=by
 obtain ⟨δ',e,o,rfl⟩:=Bw (tg:=.nm 3) (b:=exs E5) (fun i δ=>∃ o,δ=[some (shD p f),some (Ah l j),some (.int ((f ^ i:Nat):Int)),o,none]) (ds:=Am 0 (l:Int)) (δ:=[some (shD p f),some (Ah l j),some (.int 1),none,none]) 0 ⟨none,rfl⟩ (by
  rintro i d δ hd ⟨o,rfl⟩
  refine ⟨_,_,rfl,?_,some d,rfl⟩
  have h1:-(18446744073709551616) < (f:Int):=by omega
  have h2:(f:Int) < 18446744073709551616:=by omega
  rw [abI,aaJ,abc]
  unfold shD
  simp_arith [E5,h1,h2])
 rw [BZ,ach,aa3,aaJ] at e
 exact ⟨o,e⟩
theorem K5 {l j:Nat} (hl:l<=h) (hj:j < cnt p f l):CK.den [shD p f,Ah l j]=.ok (Ah (j * f ^ l) (min p (j * f ^ l + f ^ l))):=by
 have hc:=CU hf hf8 H hh hl hj
 obtain ⟨o,e⟩:=OM hf hf8 H hh l j
 have hr:=BG (a:=0) (b:=(l:Int)) (by exact by decide) (by exact by decide) (by exact aaR _) (by omega)
 have hw:=Qy (f:=f) (l:=l) hf8 (by omega)
 have h1:-(18446744073709551616) < ((f ^ l:Nat):Int):=by omega
 have h2:((f ^ l:Nat):Int) < 18446744073709551616:=by omega
 refine (SK _ rfl).trans (Aj ?_)
 generalize f ^ l=w at *
 have h3:(((min p (j * w + w):Nat)):Int)=min ((j:Int) * w + w) p:=by rw [<- abc]; omega
 unfold Ah at e hc ⊢
 unfold shD at e hc ⊢
 rw [h3,abc]
 simp_arith [Ij,hc,hr,e,h1,h2]
theorem K6:KU.den [shD p f]=.ok (Ah h 0):=by
 have h1:=F2 hf hf8 H hh
 have h2:=CC ((lvD p f h).map iN) (QA _ _)
 have h3:((lvD p f h).map iN).isEmpty=false:=by
  rw [List.isEmpty_eq_false_iff_exists_mem]
  refine ⟨iN (cnt p f 0),aaD.mpr ⟨cnt p f 0,?_,rfl⟩⟩
  exact aaD.mpr ⟨0,by simp,rfl⟩
 rw [h3] at h2
 have h5:=BV p f h
 refine (U5 _ rfl).trans (Aj ?_)
 unfold BB at h1
 unfold Ah
 have h6:(((h + 1:Nat):Int) - 1)=h:=by omega
 simp_arith [JU,h1,h2,h5,h6,aab]
theorem IX:Cv.den [shD p f,Ah h 0]=.ok .non:=by
 have hc:=CU hf hf8 H hh (l:=h) (j:=0) (aag _) (by rw [H.one]; decide)
 have ht:=K6 hf hf8 H hh
 have h1:(((h:Int)==(h:Int)) && (((0:Int)==(0:Int)) && true))=true:=by simp
 refine (Ju _ rfl).trans (Aj ?_)
 unfold Ah at hc ht ⊢
 rw [show ((0:Nat):Int)=0 from rfl] at *
 simp_arith [EG,hc,ht,OL,h1]
theorem Nl {l j:Nat} (hl:l < h) (hj:j < cnt p f l):Cv.den [shD p f,Ah l j]=.ok (Ah (l + 1) (j / f)):=by
 have hc:=CU hf hf8 H hh (l:=l) (j:=j) (by exact aax hl) hj
 have ht:=K6 hf hf8 H hh
 have h1:(((l:Int)==(h:Int)) && ((j:Int)==(0:Int)))=false:=by
  have:((l:Int)==(h:Int))=false:=by simp; omega
  rw [this]; rfl
 have h2:0 < (f:Int):=by omega
 have h3:(f:Int) < 1606938044258990275541962092341162602522202993782792835301376:=by omega
 refine (Ju _ rfl).trans (Aj ?_)
 unfold Ah shD at *
 rw [acb,Int.natCast_add]
 rw [show ((0:Nat):Int)=0 from rfl] at ht
 simp_arith [EG,hc,ht,OL,h1,h2,h3,Int.natCast_one]
end
theorem QB (a b c d:Int):Bx.den [.tup [.int a,.int b],.int c,.int d]=.ok (.bl (decide (c<=a/\b<=d))):=by
 refine (IP _ rfl).trans (Aj ?_)
 by_cases h1:c<=a <;> by_cases h2:b<=d <;> simp_arith [Da,h1,h2,and_self,and_true,and_false]
theorem SQ (a b k:Nat):D.flat 9 k (Ah a b)=true:=rfl
noncomputable def Ac (q:Nat × Nat):D:=Ah q.1 q.2
noncomputable def Fl (p f h e n a:Nat):List D:=(cov p f h e n a).map Ac
section
variable {p f h:Nat} (hf:2<=f) (hf8:f<=8) (H:Hs p f h) (hh:h<=8)
include hf hf8 H hh
section
variable {a e:Nat} (hae:a < e) (hep:e<=p)
include hae hep
theorem Iw (l:Nat):a / f ^ l < cnt p f l:=by
 rw [BL (by omega)]
 have:=acZ a (f ^ l)
 omega
theorem U6 (l:Nat) (hl:l < h):Cv.den [shD p f,Ah l (a / f ^ l)]=.ok (Ah (l + 1) (a / f ^ (l + 1))):=by
 have:=Nl hf hf8 H hh hl (Iw hf hf8 H hh hae hep l)
 rw [acI,<- abI] at this
 exact this
theorem ON (l:Nat) (hl:l<=h) (h0:a % f ^ l=0\/True):∃ b c:Nat,CK.den [shD p f,Ah l (a / f ^ l)]=.ok (Ah b c)/\Bx.den [Ah b c,.int a,.int e]=.ok (.bl (okL p f a e l)):=by
 refine ⟨_,_,K5 hf hf8 H hh hl (Iw hf hf8 H hh hae hep l),?_⟩
 unfold Ah
 rw [QB]
 congr 2
 have hw:0 < f ^ l:=aby (by omega)
 have hm:=acj a (f ^ l)
 rw [abP] at hm
 rw [abZ,decide_eq_true_eq,FE]
 generalize f ^ l=w at *
 generalize a / w=q at *
 generalize a % w=r at *
 generalize q * w=x at *
 constructor
 ·rintro ⟨h1,h2⟩
  have:r=0:=by omega
  omega
 ·rintro ⟨h1,h2⟩
  omega
noncomputable def upD (p f h a l:Nat):D:=if l=h then .non else Ah (l + 1) (a / f ^ (l + 1))
theorem Q2 (l:Nat) (hl:l<=h):Cv.den [shD p f,Ah l (a / f ^ l)]=.ok (upD p f h a l):=by
 unfold upD
 by_cases e':l=h
 ·rw [if_pos e']
  have h0:a / f ^ l=0:=by
   have:=Iw hf hf8 H hh hae hep l
   rw [e',H.one,<- e'] at this
   exact Nat.lt_one_iff.mp this
  rw [h0,e']
  exact IX hf hf8 H hh
 ·rw [if_neg e']
  exact U6 hf hf8 H hh hae hep l (by exact acp hl e')
theorem Mj (l:Nat) (hl:l<=h):tv (.bo true (.cons (.isN true (.nm 4)) (.cons (.call Bx (.cons (.callB CK (.cons (.nm 0) (.cons (.nm 4) .nil))) (.cons (.nm 1) (.cons (.nm 2) .nil)))) .nil))) [some (shD p f),some (.int a),some (.int e),some (Ah l (a / f ^ l)),some (upD p f h a l)]=.ok (decide (l < h) && okL p f a e (l + 1)):=by
 unfold upD
 by_cases e':l=h
 ·have h1:decide (l < h)=false:=by simp; exact abr e'.symm
  rw [if_pos e',h1]
  simp_arith []
 ·have h1:decide (l < h)=true:=by simp; exact acp hl e'
  rw [if_neg e',h1]
  obtain ⟨b,c,h2,h3⟩:=ON hf hf8 H hh hae hep (l + 1) (by exact acp hl e') (.inr trivial)
  have h4:=SQ b c CK.dep
  simp_arith [show (Ah (l + 1) (a / f ^ (l + 1)))=.tup [.int ((l + 1:Nat):Int),.int ((a / f ^ (l + 1):Nat):Int)] from rfl]
  rw [show D.tup [.int ((l + 1:Nat):Int),.int ((a / f ^ (l + 1):Nat):Int)]=(Ah (l + 1) (a / f ^ (l + 1))) from rfl,h2]
  simp_arith [h4,h3]
theorem SR (l:Nat) (hl:l < h):exs BC [some (shD p f),some (.int a),some (.int e),some (Ah l (a / f ^ l)),some (upD p f h a l)]=.nxt [some (shD p f),some (.int a),some (.int e),some (Ah (l + 1) (a / f ^ (l + 1))),some (upD p f h a (l + 1))]:=by
 have h1:upD p f h a l=Ah (l + 1) (a / f ^ (l + 1)):=by unfold upD; rw [if_neg (by exact aaF hl)]
 have h2:=Q2 hf hf8 H hh hae hep (l + 1) (by exact hl)
 rw [h1]
 simp_arith [BC,h2]
theorem U7:CV.den [shD p f,.int a,.int e]=.ok (Ah (lvA p f h e a) (a / f ^ lvA p f h e a)):=by
 have hm:lvA p f h e a<=h:=Iv _ _
 obtain ⟨δ',e',rfl⟩:=E8 (c:=tv (.bo true (.cons (.isN true (.nm 4)) (.cons (.call Bx (.cons (.callB CK (.cons (.nm 0) (.cons (.nm 4) .nil))) (.cons (.nm 1) (.cons (.nm 2) .nil)))) .nil)))) (b:=exs BC) (fun l δ=>δ=[some (shD p f),some (.int a),some (.int e),some (Ah l (a / f ^ l)),some (upD p f h a l)]) (lvA p f h e a) FU 0 (δ:=[some (shD p f),some (.int a),some (.int e),some (Ah 0 (a / f ^ 0)),some (upD p f h a 0)]) rfl (by
   rintro l δ _ hl rfl
   refine ⟨?_,_,SR hf hf8 H hh hae hep l (by omega),rfl⟩
   rw [Mj hf hf8 H hh hae hep l (by omega),decide_eq_true (by omega),acr]
   congr 1
   exact K2 (by omega) (JV (Qz hae) h) (show l + 1<=lvA p f h e a by omega)) (by
   rintro δ rfl
   rw [aaJ,Mj hf hf8 H hh hae hep _ hm]
   by_cases h1:lvA p f h e a < h
   ·rw [Nk (b:=okL p f a e) h (lvA p f h e a + 1) (ab9 _) h1,acL]
   ·rw [decide_eq_false h1,acJ]) (by unfold FU; omega)
 rw [aaJ] at e'
 have h1:=Q2 hf hf8 H hh hae hep 0 (by omega)
 rw [ab0,Nat.div_one] at h1 e'
 refine (Hd _ rfl).trans (Aj ?_)
 unfold Ah at h1 e' ⊢
 rw [show ((0:Nat):Int)=0 from rfl] at h1 e'
 simp_arith [BW,h1,e']
theorem SS:CK.den [shD p f,Ah (lvA p f h e a) (a / f ^ lvA p f h e a)]=.ok (Ah a (nxA p f h e a)):=by
 have h1:=K5 hf hf8 H hh (show lvA p f h e a<=h from Iv (okL p f a e) h) (Iw hf hf8 H hh hae hep (lvA p f h e a))
 rw [show a / f ^ lvA p f h e a * f ^ lvA p f h e a=a by
  have:=acj a (f ^ lvA p f h e a)
  rw [(GE hae).1,abP] at this
  exact this] at h1
 exact h1
theorem ST (b:Nat) (xs:List D) (hx:xs.length<=1000) (o:Option D):exs Eh [some (shD p f),some (.int b),some (.int e),some (.lst xs),some (.int a),o]=.nxt [some (shD p f),some (.int b),some (.int e),some (.lst (xs ++ [Ah (lvA p f h e a) (a / f ^ lvA p f h e a)])),some (.int (nxA p f h e a)),some (Ah (lvA p f h e a) (a / f ^ lvA p f h e a))]:=by
 have h1:=U7 hf hf8 H hh hae hep
 have h2:=SS hf hf8 H hh hae hep
 generalize Ah (lvA p f h e a) (a / f ^ lvA p f h e a)=nd at *
 have h3:=BA xs nd (by exact aaI hx (by decide))
 unfold Ah at h2
 simp_arith [Eh,h1,h2,h3]
end
theorem Mk {e:Nat} (hep:e<=p) (b:Nat):∀ (n m a:Nat) (xs:List D) (o:Option D),e - a<=n->n < m->a<=e->xs.length + n<=1000->∃ o',AY (tv (.cmp .lt (.nm 4) (.nm 2))) (exs Eh) m [some (shD p f),some (.int b),some (.int e),some (.lst xs),some (.int a),o]=.nxt [some (shD p f),some (.int b),some (.int e),some (.lst (xs ++ Fl p f h e n a)),some (.int e),o']
 | n,m + 1,a,xs,o,h1,h2,h3,h4=>by
  by_cases hae:a < e
  ·obtain ⟨n,rfl⟩:∃ k,n=k + 1:=⟨n - 1,by omega⟩
   have c1:(a:Int) < e:=by exact abf.mpr hae
   have hn:=K3 (p:=p) (f:=f) (h:=h) (by omega) hae hep
   have hn2:=(GE (p:=p) (f:=f) (h:=h) hae).2
   rw [DG (by simp_arith [c1]) (ST hf hf8 H hh hae hep b xs (by exact aao (acd ..) h4) o)]
   obtain ⟨o',e'⟩:=Mk hep b n m (nxA p f h e a) (xs ++ [Ah (lvA p f h e a) (a / f ^ lvA p f h e a)]) (some (Ah (lvA p f h e a) (a / f ^ lvA p f h e a))) (by omega) (by exact aaH h2) hn2 (by simp; omega)
   refine ⟨o',?_⟩
   rw [e',aa2]
   unfold Fl
   rw [cov,if_pos hae]
   rfl
  ·have ha:a=e:=by omega
   subst ha
   have c1:¬ (a:Int) < a:=by omega
   refine ⟨o,?_⟩
   rw [CT (by simp_arith [c1])]
   unfold Fl
   cases n with
   | zero=>simp [cov]
   | succ n=>rw [cov,if_neg hae]; simp
theorem Jv {a e:Nat} (hae:a<=e) (hep:e<=p) (hp:p<=200):EH.den [shD p f,.int a,.int e]=.ok (.lst (Fl p f h e 200 a)):=by
 obtain ⟨o,e'⟩:=Mk hf hf8 H hh hep a 200 FU a [] none (by omega) (by unfold FU; exact Nat.le_add_left ..) hae (by simp)
 have c1:¬ (a:Int) < 0:=by omega
 have c2:¬ (p:Int) < e:=by omega
 have c3:¬ (e:Int) < a:=by omega
 rw [aaX] at e'
 refine (Qv _ rfl).trans (Aj ?_)
 unfold shD at e' ⊢
 simp_arith [G2,c1,c2,c3,e']
end
theorem IY (xs:List D) (d:D):atD (xs ++ [d]) (-1)=.ok d:=by
 unfold atD ixN
 rw [if_neg (by decide),if_pos (by rw [aaC,abC]; omega),aaC,abC]
 show (match (xs ++ [d])[((-1:Int) + ((xs.length + 1:Nat):Int)).toNat]? with | some d=>Res.ok d | none=>Res.bad)=_
 rw [show ((-1:Int) + ((xs.length + 1:Nat):Int)).toNat=xs.length by omega,aaG (aag _),Nat.sub_self]
 rfl
section
variable {p f h:Nat} (hf:2<=f) (hf8:f<=8) (H:Hs p f h) (hh:h<=8)
include hf hf8 H hh
noncomputable def cL (p f i:Nat):D:=.lst (((aav i).map (cnt p f)).map iN ++ [.int (cnt p f i)])
theorem SU (i:Nat) (hi:i<=8):exs A8 [some (.int p),some (.int f),some (cL p f i)]=.nxt [some (.int p),some (.int f),some (cL p f (i + 1))]:=by
 have h0:=IY (((aav i).map (cnt p f)).map iN) (.int (cnt p f i))
 have hap:=BA (((aav i).map (cnt p f)).map iN ++ [.int (cnt p f i)]) (.int (cnt p f (i + 1))) (by simp; exact aaI (ack hi _) (by decide))
 have h1:0 < (f:Int):=by omega
 have h2:(f:Int) < 1606938044258990275541962092341162602522202993782792835301376:=by omega
 have e1:cL p f (i + 1)=.lst ((((aav i).map (cnt p f)).map iN ++ [.int (cnt p f i)]) ++ [.int (cnt p f (i + 1))]):=by
  unfold cL; rw [G8]
 rw [e1]
 rw [K1 (by omega),<- OK (by omega)] at hap ⊢
 unfold cL
 generalize ((aav i).map (cnt p f)).map iN=xs at *
 simp_arith [A8,h0,h1,h2,hap]
theorem SV:AY (tv (.cmp .gt (.ixL (.nm 2) (.neg (.cI 1))) (.cI 1))) (exs A8) FU [some (.int p),some (.int f),some (cL p f 0)]=.nxt [some (.int p),some (.int f),some (cL p f h)]:=by
 have cd:∀ i,tv (.cmp .gt (.ixL (.nm 2) (.neg (.cI 1))) (.cI 1)) [some (.int p),some (.int f),some (cL p f i)]=.ok (decide (1 < (cnt p f i:Int))):=fun i=>by
  have h0:=IY (((aav i).map (cnt p f)).map iN) (.int (cnt p f i))
  unfold cL
  simp_arith [h0]
 obtain ⟨δ',e,rfl⟩:=E8 (c:=tv (.cmp .gt (.ixL (.nm 2) (.neg (.cI 1))) (.cI 1))) (b:=exs A8) (fun i δ=>δ=[some (.int p),some (.int f),some (cL p f i)]) h FU 0 (δ:=[some (.int p),some (.int f),some (cL p f 0)]) rfl (by
   rintro i δ _ hi rfl
   have:=H.more i (by omega)
   refine ⟨?_,_,SU hf hf8 H hh i (by omega),rfl⟩
   rw [cd,decide_eq_true (by exact abf.mpr this)]) (by
   rintro δ rfl
   rw [aaJ,cd,H.one]
   rfl) (by unfold FU; exact aaI hh (by decide))
 rw [e,aaJ]
theorem Ix (hp:1<=p):BP.den [.int p,.int f]=.ok (BB (lvD p f h)):=by
 have hl:=SV hf hf8 H hh
 have e:BB (lvD p f h)=cL p f h:=by unfold BB lvD cL; rw [G8]
 have c1:((p:Int)==0)=false:=by simp; exact abz hp
 have e0:cL p f 0=.lst [.int p]:=by unfold cL; rw [EN]; rfl
 rw [e0] at hl
 rw [e]
 refine (Hf _ rfl).trans (Aj ?_)
 simp_arith [BY,c1,hl]
end
theorem Nm (p f l j:Nat) (hf8:f<=8):∃ o,AL (.nm 5) (exs BJ) (Am 0 (l:Int)) [some (.int p),some (.int f),some (.int l),some (.int j),some (.int 1),none]=.nxt [some (.int p),some (.int f),some (.int l),some (.int j),some (.int ((f ^ l:Nat):Int)),o]:=by
 obtain ⟨δ',e,o,rfl⟩:=Bw (tg:=.nm 5) (b:=exs BJ) (fun i δ=>∃ o,δ=[some (.int p),some (.int f),some (.int l),some (.int j),some (.int ((f ^ i:Nat):Int)),o]) (ds:=Am 0 (l:Int)) (δ:=[some (.int p),some (.int f),some (.int l),some (.int j),some (.int 1),none]) 0 ⟨none,rfl⟩ (by
  rintro i d δ hd ⟨o,rfl⟩
  refine ⟨_,_,rfl,?_,some d,rfl⟩
  have h1:-(18446744073709551616) < (f:Int):=by omega
  have h2:(f:Int) < 18446744073709551616:=by omega
  rw [abI,aaJ,abc]
  simp_arith [BJ,h1,h2])
 rw [BZ,ach,aa3,aaJ] at e
 exact ⟨o,e⟩
theorem OO (p f l j:Nat) (hf8:f<=8) (hl:l<=8):Di.den [.int p,.int f,.int l,.int j]=.ok (Ah (j * f ^ l) (min p (j * f ^ l + f ^ l))):=by
 obtain ⟨o,e⟩:=Nm p f l j hf8
 have hr:=BG (a:=0) (b:=(l:Int)) (by exact by decide) (by exact by decide) (by omega) (by omega)
 have hw:=Qy (f:=f) (l:=l) hf8 (by exact aao hl (by decide))
 have h1:-(18446744073709551616) < ((f ^ l:Nat):Int):=by omega
 have h2:((f ^ l:Nat):Int) < 18446744073709551616:=by omega
 refine (HB _ rfl).trans (Aj ?_)
 generalize f ^ l=w at *
 have h3:(((min p (j * w + w):Nat)):Int)=min (p:Int) ((j:Int) * w + w):=by rw [<- abc]; omega
 unfold Ah
 rw [h3,abc]
 simp_arith [Co,hr,e,h1,h2]
mutual
theorem HF:∀ {n:Nat} {d:D},D.shp n d=true->D.eqv d d=true
 | _,.non,_=>by simp [D.eqv]
 | _,.bl b,_=>by simp [D.eqv]
 | _,.int i,_=>by simp [D.eqv]
 | _,.str x,_=>by simp [D.eqv]
 | n + 1,.tup ds,h=>by rw [D.eqv]; exact eqvs_refl (n:=n) h
 | n + 1,.lst ds,h=>by rw [D.eqv]; exact eqvs_refl (n:=n) h
 | 0,.tup ds,h=>by cases h
 | 0,.lst ds,h=>by cases h
 | _,.exn _,h=>by simp [D.shp] at h
theorem eqvs_refl:∀ {n:Nat} {ds:List D},ds.all (D.shp n)=true->D.eqvs ds ds=true
 | _,[],_=>by simp [D.eqvs]
 | n,d :: ds,h=>by
  rw [aaO,aaf] at h
  rw [D.eqvs,HF h.1,eqvs_refl h.2]; rfl
end
theorem F3 (d:D) (h:D.shp 8 d=true):c2 .eq d d=.ok (.bl true):=by
 show (if _ then _ else _)=_
 rw [h,HF h]; rfl
theorem Nn (d:D) (h:D.shp 8 d=true):c2 .ne d d=.ok (.bl false):=by
 show (if _ then _ else _)=_
 rw [h,HF h]; rfl
theorem GF (qs:List (Nat × Nat)) (k:Nat):(qs.map Ac).all (D.shp (k + 1))=true:=by
 rw [aaA]
 intro d hd
 obtain ⟨n,_,rfl⟩:=aaD.mp hd
 cases k <;> rfl
theorem U8 (ds es:List D) (h:ds.length + es.length<=16777216):umD .extend [.lst es] ds=some (ds ++ es):=by
 show (if _ then _ else _)=_
 exact if_pos h
theorem Wq {xs:List Int} (h:xs.length=3):∃ a b c,xs=[a,b,c]:=by
 match xs,h with
 | [a,b,c],_=>exact ⟨a,b,c,rfl⟩
section
variable (a b c d e f g h:D)
theorem No:atD [a,b,c] 0=.ok a:=rfl
theorem Np:atD [a,b,c] 1=.ok b:=rfl
theorem Nq:atD [a,b,c] 2=.ok c:=rfl
end
structure Sp (p f h:Nat):Prop where
 hf:2<=f
 hf8:f<=8
 hp:p<=200
 hh:h<=8
 hs:p=0\/Hs p f h
theorem pw6:b2 .pow (.int 10) (.int 6)=.ok (.int 1000000):=by
 rw [EM _ _ (by decide) (by decide) (by decide)]; rfl
theorem K7 (d:D):∀ n,(aaj n [d]).flatten=aaj n d
 | 0=>rfl
 | n + 1=>by rw [abx,abO,K7 d n]; rfl
theorem U9 (d:D) (n:Nat) (h:n<=1000):b2 .mul (.lst [d]) (.int n)=.ok (.lst (aaj n d)):=by
 rw [b2,Kj,if_pos]
 ·rw [aa3,K7]
 ·rw [aa3,abC]
  unfold LIM
  omega
theorem m4c (x:Int):x % 4=0\/x % 4=1\/x % 4=2\/x % 4=3:=by omega
section
variable {xs rs:List Int} {k:Nat} {s p m:D} {sc x c e:Int} {o7:Option D} (h0:0<=sc) (h1:sc<=100000000000000000) (x0:0<=x) (x1:x < 13) (e0:0<=e) (e1:e < 13) (a2:atD (xs.map D.int) 2=.ok (.int c)) (a3:atD (xs.map D.int) 3=.ok (.int e)) (ak:atD (xs.map D.int) (4 + (k:Int))=.ok (.int x)) (hr:rs.length<=1000)
include h0 h1 x0 x1 e0 e1 a2 a3 ak hr
theorem SW:∃ (r:Int) (o7':Option D),0<=r/\r<=1000000000000000000/\exs AF [some s,some p,some m,some (.lst (xs.map .int)),some (.int sc),some (.lst (rs.map .int)),some (.int k),o7]=.nxt [some s,some p,some m,some (.lst (xs.map .int)),some (.int sc),some (.lst ((rs ++ [r]).map .int)),some (.int k),o7']:=by
 have hap:=fun r=>BA (rs.map D.int) (.int r) (by rw [aab]; exact aaI hr (by decide))
 have fin:∀ w:Int,0<=w->0<=min 1000000000000000000 (w * sc + (if (w==12)=true then 1 else 0) * 4):=fun w hw=>Int.le_min.mpr ⟨by decide,ab2 (Int.mul_nonneg hw h0) (by split <;> decide)⟩
 have big:∀ w:Int,min 1000000000000000000 (w * sc + (if (w==12)=true then 1 else 0) * 4)<=1000000000000000000:=fun w=>Int.min_le_left ..
 have l3:(0:Int) < 3:=by decide
 have l4:(0:Int) < 4:=by decide
 have l5:(0:Int) < 13:=by decide
 have l6:(4:Int) < 1606938044258990275541962092341162602522202993782792835301376:=by decide
 have s1:-18446744073709551616 < sc:=by omega
 have s2:sc < 18446744073709551616:=by omega
 have m3:=abb x (show (3:Int) ≠ 0 by decide)
 have m4:=abb x (show (4:Int) ≠ 0 by decide)
 have m4':=abL x l4
 have m13:=abb (e + (k:Int)) (show (13:Int) ≠ 0 by decide)
 by_cases c1:c=1
 ·subst c1
  refine ⟨_,some (.int (x % 3)),fin (x % 3) m3,big _,?_⟩
  simp_arith [AF,a2,ak,l3,hap,s1,s2]
 by_cases c2:c=2
 ·subst c2
  obtain ⟨v,hv,v0,v1⟩:∃ v:Int,atD [.int 0,.int 0,.int 0,.int 1] (x % 4)=.ok (.int v)/\0<=v/\v<=1:=by
   rcases m4c x with h | h | h | h <;> rw [h] <;> refine ⟨_,rfl,?_,?_⟩ <;> decide
  have v2:-18446744073709551616 < v:=by omega
  have v3:v < 18446744073709551616:=by omega
  refine ⟨_,some (.int (v * (1 + x / 4))),fin (v * (1 + x / 4)) (Int.mul_nonneg v0 (ab2 (by decide) (acE x0 (by decide)))),big _,?_⟩
  simp_arith [AF,a2,ak,l4,l6,hv,v2,v3,hap,s1,s2]
 by_cases c3:c=3
 ·subst c3
  refine ⟨_,some (.int ((e + (k:Int)) % 13)),fin ((e + (k:Int)) % 13) m13,big _,?_⟩
  simp_arith [AF,a2,a3,ak,l5,hap,s1,s2]
 by_cases c4:c=4
 ·subst c4
  refine ⟨_,some (.int e),fin e e0,big _,?_⟩
  simp_arith [AF,a2,a3,ak,hap,s1,s2]
 ·have d1:(c==1)=false:=beq_eq_false_iff_ne.mpr c1
  have d2:(c==2)=false:=beq_eq_false_iff_ne.mpr c2
  have d3:(c==3)=false:=beq_eq_false_iff_ne.mpr c3
  have d4:(c==4)=false:=beq_eq_false_iff_ne.mpr c4
  refine ⟨_,some (.int x),fin x x0,big _,?_⟩
  simp_arith [AF,a2,ak,d1,d2,d3,d4,hap,s1,s2]
end
theorem OP (ns:List Int) (p:Int) (hp:0<=p) (m:Nat) (hm:m<=200):∃ rs:List Int,rs.length<=m/\(∀ r ∈ rs,0<=r/\r<=1000000000000000000)/\Bz.den [.lst (ns.map .int),.int p,.int m]=.ok (.lst (rs.map .int)):=by
 obtain ⟨xs,hrow,hl,hb⟩:=FD ns p hp ([(m:Int) + 1,5,6,13] ++ aaj m 13) (by simp; exact aao hm (by decide)) (by
  intro s hs
  rcases aai.mp hs with h | h
  ·simp only [aal,abU,or_false] at h
   rcases h with rfl | rfl | rfl | rfl <;> omega
  ·rw [(abo.mp h).2]; decide)
 have hl:xs.length=m + 4:=by rw [hl,aaC,abd]; simp; exact ac1 ..
 have g:∀ i,i < m + 4->∃ x,xs[i]?=some x:=fun i hi=>⟨_,aah (by omega)⟩
 obtain ⟨c0,g0⟩:=g 0 (by omega)
 obtain ⟨c1,g1⟩:=g 1 (by omega)
 obtain ⟨c2,g2⟩:=g 2 (by omega)
 obtain ⟨c3,g3⟩:=g 3 (by omega)
 have b0:=hb 0 c0 ((m:Int) + 1) g0 (by simp)
 have b1:=hb 1 c1 5 g1 (by simp)
 have b3:=hb 3 c3 13 g3 (by simp)
 have bk:∀ i:Nat,i < m->∃ x,xs[4 + i]?=some x/\0<=x/\x < 13:=fun i hi=>by
  obtain ⟨x,gx⟩:=g (4 + i) (by omega)
  refine ⟨x,gx,hb (4 + i) x 13 gx ?_⟩
  rw [aaG (by simp)]
  simp [hi]
 have a0:=Dq g0
 have a1:=Dq g1
 have a2:=Dq g2
 have a3:=Dq g3
 obtain ⟨sc,hsc,s0,s1⟩:∃ v:Int,atD [.int 1,.int 1,.int 7,.int 1000000,.int 83333333333333333] c1=.ok (.int v)/\0<=v/\v<=100000000000000000:=by
  have:c1=0\/c1=1\/c1=2\/c1=3\/c1=4:=by omega
  rcases this with rfl | rfl | rfl | rfl | rfl <;> refine ⟨_,rfl,?_,?_⟩ <;> decide
 obtain ⟨n,rfl⟩:∃ n:Nat,c0=n:=⟨c0.toNat,by omega⟩
 obtain ⟨δ',e,rs,o6,o7,rfl,hrl,hrb⟩:=Bw (tg:=.nm 6) (b:=exs AF) (fun i δ=>∃ (rs:List Int) (o6 o7:Option D),δ=[some (.lst (ns.map .int)),some (.int p),some (.int m),some (.lst (xs.map .int)),some (.int sc),some (.lst (rs.map .int)),o6,o7]/\rs.length=i/\∀ r ∈ rs,0<=r/\r<=1000000000000000000) (ds:=Am 0 (n:Int)) (δ:=[some (.lst (ns.map .int)),some (.int p),some (.int m),some (.lst (xs.map .int)),some (.int sc),some (.lst []),none,none]) 0 ⟨[],none,none,rfl,rfl,fun _ h=>nomatch h⟩ (by
  rintro i d δ hd ⟨rs,o6,o7,rfl,hrl,hrb⟩
  obtain ⟨rfl,hi⟩:=CS hd
  rw [abT]
  obtain ⟨x,gx,x0,x1⟩:=bk i (by omega)
  have ak:=Dq gx
  rw [show ((4 + i:Nat):Int)=4 + (i:Int) by exact rfl] at ak
  obtain ⟨r,o7',r0,r1,e⟩:=SW (s:=.lst (ns.map .int)) (p:=.int p) (m:=.int m) (o7:=o7) s0 s1 x0 x1 b3.1 b3.2 a2 a3 ak (rs:=rs) (by omega)
  refine ⟨_,_,rfl,e,rs ++ [r],some (.int i),o7',rfl,by simp; omega,fun y hy=>?_⟩
  rcases aai.mp hy with h | h
  ·exact hrb y h
  ·rw [aaN.mp h]; exact ⟨r0,r1⟩)
 rw [BZ] at hrl
 refine ⟨rs,by omega,hrb,?_⟩
 have hr:=BG (a:=0) (b:=(n:Int)) (by exact by decide) (by exact by decide) (by omega) (by omega)
 have hrep:=U9 (.int 13) m (by omega)
 have hadd:=G7 [.int ((m:Int) + 1),.int 5,.int 6,.int 13] (aaj m (.int 13)) (by simp; omega)
 rw [aat,abn] at hrow
 refine (HA _ rfl).trans (Aj ?_)
 have a0':atD (xs.map D.int) 0=.ok (.int n):=a0
 have a1':atD (xs.map D.int) 1=.ok (.int c1):=a1
 generalize aaj m (D.int 13)=zs at *
 simp only [abH,aa7,aaX] at hrow hadd
 simp_arith [Cm,hrep,hadd,hrow,pw6,hsc,a0',a1',hr,e]
theorem SX (ns:List Int) (p:Int) (hp:0<=p):∃ f:Nat,2<=f/\f<=8/\CM.den [.lst (ns.map .int),.int p]=.ok (.int f):=by
 obtain ⟨xs,hrow,hl,hb⟩:=FD ns p hp [7] (by decide) (by decide)
 obtain ⟨a,rfl⟩:=Wo hl
 have ha:=hb 0 a 7 rfl rfl
 simp only [abH] at hrow
 refine ⟨(2 + a).toNat,by omega,by omega,?_⟩
 rw [acl (by omega)]
 refine (IU _ rfl).trans (Aj ?_)
 simp_arith [Dd,hrow,Wp]
theorem SY {rs:List Int} {a b:Nat} (ha:a<=rs.length) (hb:b<=rs.length):cut (rs.map D.int) (some (a:Int)) (some (b:Int))=((rs.drop a).take (b - a)).map D.int:=by
 have e1:sIx rs.length 0 (some (a:Int))=a:=by
  show (if (a:Int) < 0 then _ else _:Int).toNat=a
  rw [if_neg (by omega)]; omega
 have e2:sIx rs.length rs.length (some (b:Int))=b:=by
  show (if (b:Int) < 0 then _ else _:Int).toNat=b
  rw [if_neg (by omega)]; omega
 unfold cut
 rw [aab,e1,e2,<- acW,<- acV]
theorem B0:∀ ys:List Int,Bf (ys.map .int)=some ys
 | []=>rfl
 | y :: r=>by rw [aay,Bf,B0 r]; rfl
noncomputable def mxR (rs:List Int) (a b:Nat):Int:=((rs.drop a).take (b - a)).max?.getD 0
theorem F5 {ys:List Int} (h:ys ≠ []):ys.max?=some (ys.max?.getD 0):=by
 cases q:ys.max? with
 | none=>exact absurd (List.max?_eq_none_iff.mp q) h
 | some m=>rfl
theorem OQ {rs:List Int} {a b:Nat} (hab:a < b) (hb:b<=rs.length):((rs.drop a).take (b - a)).max?=some (mxR rs a b):=by
 apply F5
 intro h
 have:=congrArg abq h
 rw [abF,acx] at this
 simp at this
 omega
noncomputable def Bh (rs:List Int) (f l n:Nat):List Int:=(aav n).map fun j=>mxR rs (j * f ^ l) (min rs.length (j * f ^ l + f ^ l))
noncomputable def Ae (rs:List Int) (f n:Nat):List (List Int):=(aav n).map fun l=>Bh rs f l (cnt rs.length f l)
noncomputable def Ad (xs:List Int):D:=.lst (xs.map .int)
noncomputable def Ab (tr:List (List Int)):D:=.lst (tr.map Ad)
theorem QC (rs:List Int) (f l n:Nat):Bh rs f l (n + 1)=Bh rs f l n ++ [mxR rs (n * f ^ l) (min rs.length (n * f ^ l + f ^ l))]:=by
 unfold Bh; rw [abY,aat]; rfl
theorem Jw (rs:List Int) (f n:Nat):Ae rs f (n + 1)=Ae rs f n ++ [Bh rs f n (cnt rs.length f n)]:=by
 unfold Ae; rw [abY,aat]; rfl
section
variable {rs:List Int} {f h:Nat} (hf:2<=f) (hf8:f<=8) (H:Hs rs.length f h) (hh:h<=8) (hn:rs.length<=200)
include hf hf8 H hh hn
theorem SZ (tr co:D) (l j:Nat) (hl:l<=h) (hj:j < cnt rs.length f l) (o7 o8:Option D):∃ o7' o8',exs Bs [some (Ad rs),some (.int f),some tr,some co,some (.int l),some (Ad (Bh rs f l j)),some (.int j),o7,o8]=.nxt [some (Ad rs),some (.int f),some tr,some co,some (.int l),some (Ad (Bh rs f l (j + 1))),some (.int j),o7',o8']:=by
 have hr:=OO rs.length f l j hf8 (by exact aao hl hh)
 have hlt:=(BL (show 1<=f by omega)).mp hj
 have hw:0 < f ^ l:=aby (by omega)
 have hc:=SY (rs:=rs) (a:=j * f ^ l) (b:=min rs.length (j * f ^ l + f ^ l)) (by exact aax hlt) (by exact abu ..)
 have hm:=OQ (rs:=rs) (a:=j * f ^ l) (b:=min rs.length (j * f ^ l + f ^ l)) (by omega) (by exact abu ..)
 have hcl:=EO (p:=rs.length) (f:=f) (l:=l) (by omega)
 have hap:=BA ((Bh rs f l j).map .int) (.int (mxR rs (j * f ^ l) (min rs.length (j * f ^ l + f ^ l)))) (by unfold Bh; simp; omega)
 have hi:=B0 ((rs.drop (j * f ^ l)).take (min rs.length (j * f ^ l + f ^ l) - j * f ^ l))
 refine ⟨some (.int ((j * f ^ l:Nat):Int)),some (.int ((min rs.length (j * f ^ l + f ^ l):Nat):Int)),?_⟩
 rw [QC]
 unfold Ad
 rw [aat]
 generalize mxR rs (j * f ^ l) (min rs.length (j * f ^ l + f ^ l))=M at *
 generalize (rs.drop (j * f ^ l)).take (min rs.length (j * f ^ l + f ^ l) - j * f ^ l)=ys at *
 generalize min rs.length (j * f ^ l + f ^ l)=e at *
 generalize j * f ^ l=a at *
 unfold Ah at hr
 generalize (Bh rs f l j).map D.int=zs at *
 simp_arith [Bs,aab,hr,Dw,Fq,hc,hi,Bu,hm,hap]
theorem Va (tr:D) (l:Nat) (hl:l<=h) (o6 o7 o8:Option D):∃ o6' o7' o8',AL (.nm 6) (exs Bs) (Am 0 (cnt rs.length f l)) [some (Ad rs),some (.int f),some tr,some (BB (lvD rs.length f h)),some (.int l),some (Ad []),o6,o7,o8]=.nxt [some (Ad rs),some (.int f),some tr,some (BB (lvD rs.length f h)),some (.int l),some (Ad (Bh rs f l (cnt rs.length f l))),o6',o7',o8']:=by
 obtain ⟨δ',e,o6',o7',o8',rfl⟩:=Bw (tg:=.nm 6) (b:=exs Bs) (fun j δ=>∃ o6 o7 o8,δ=[some (Ad rs),some (.int f),some tr,some (BB (lvD rs.length f h)),some (.int l),some (Ad (Bh rs f l j)),o6,o7,o8]) (ds:=Am 0 (cnt rs.length f l)) (δ:=[some (Ad rs),some (.int f),some tr,some (BB (lvD rs.length f h)),some (.int l),some (Ad []),o6,o7,o8]) 0 ⟨o6,o7,o8,rfl⟩ (by
  rintro j d δ hd ⟨o6,o7,o8,rfl⟩
  obtain ⟨rfl,hj⟩:=CS hd
  rw [abT,aaJ]
  obtain ⟨q7,q8,e⟩:=SZ hf hf8 H hh hn tr (BB (lvD rs.length f h)) l j hl (by exact abf.mp hj) o7 o8
  exact ⟨_,_,rfl,e,some (.int j),q7,q8,rfl⟩)
 rw [BZ,ach,aa3,aaJ] at e
 exact ⟨o6',o7',o8',e⟩
theorem QD (l:Nat) (hl:l<=h) (o5 o6 o7 o8:Option D):∃ o5' o6' o7' o8',exs BQ [some (Ad rs),some (.int f),some (Ab (Ae rs f l)),some (BB (lvD rs.length f h)),some (.int l),o5,o6,o7,o8]=.nxt [some (Ad rs),some (.int f),some (Ab (Ae rs f (l + 1))),some (BB (lvD rs.length f h)),some (.int l),o5',o6',o7',o8']:=by
 obtain ⟨o6',o7',o8',e⟩:=Va hf hf8 H hh hn (Ab (Ae rs f l)) l hl o6 o7 o8
 have h5:=K4 (xs:=lvD rs.length f h) (i:=l) (by rw [BV]; exact abg hl)
 rw [G9 hl] at h5
 have hcl:=EO (p:=rs.length) (f:=f) (l:=l) (by omega)
 have hr:=BG (a:=0) (b:=(cnt rs.length f l:Int)) (by exact by decide) (by exact by decide) (by exact aaR _) (by omega)
 have hap:=BA ((Ae rs f l).map Ad) (Ad (Bh rs f l (cnt rs.length f l))) (by unfold Ae; simp; omega)
 refine ⟨some (Ad (Bh rs f l (cnt rs.length f l))),o6',o7',o8',?_⟩
 rw [Jw]
 unfold Ab BB at *
 rw [aat]
 generalize Bh rs f l (cnt rs.length f l)=zs at *
 unfold Ad at e hap ⊢
 rw [abi] at e
 simp_arith [BQ,h5,hr,e,hap]
theorem F6 (hn1:1<=rs.length):Aq.den [Ad rs,.int f]=.ok (Ab (Ae rs f (h + 1))):=by
 have hc:=Ix hf hf8 H hh hn1
 have hr:=BG (a:=0) (b:=((h + 1:Nat):Int)) (by exact by decide) (by exact by decide) (by omega) (by omega)
 obtain ⟨δ',e,o4,o5,o6,o7,o8,rfl⟩:=Bw (tg:=.nm 4) (b:=exs BQ) (fun l δ=>∃ o4 o5 o6 o7 o8,δ=[some (Ad rs),some (.int f),some (Ab (Ae rs f l)),some (BB (lvD rs.length f h)),o4,o5,o6,o7,o8]) (ds:=Am 0 ((h + 1:Nat):Int)) (δ:=[some (Ad rs),some (.int f),some (Ab []),some (BB (lvD rs.length f h)),none,none,none,none,none]) 0 ⟨none,none,none,none,none,rfl⟩ (by
  rintro l d δ hd ⟨o4,o5,o6,o7,o8,rfl⟩
  obtain ⟨rfl,hl⟩:=CS hd
  rw [abT,aaJ]
  obtain ⟨q5,q6,q7,q8,e⟩:=QD hf hf8 H hh hn l (by omega) o5 o6 o7 o8
  exact ⟨_,_,rfl,e,some (.int l),q5,q6,q7,q8,rfl⟩)
 rw [BZ,show 0 + (((h + 1:Nat):Int) - 0).toNat=h + 1 by omega] at e
 have hll:=BV rs.length f h
 refine (Io _ rfl).trans (Aj ?_)
 unfold BB at hc e
 unfold Ab at e ⊢
 rw [abi] at e
 unfold Ad at e ⊢
 simp_arith [CN,aab,hc,hll,hr,e]
end
theorem OR (xs:List Int) (m k:Nat):D.flat (m + 2) (k + 1) (Ad xs)=true:=by
 unfold Ad
 show (xs.map D.int).all (D.flat (m + 1) k)=true
 rw [aaA]
 intro d hd
 obtain ⟨x,rfl⟩:=CQ hd
 rfl
theorem GG (tr:List (List Int)):D.flat 9 2 (Ab tr)=true:=by
 show (tr.map Ad).all (D.flat 8 1)=true
 rw [aaA]
 intro d hd
 obtain ⟨x,_,rfl⟩:=aaD.mp hd
 exact OR x 6 0
theorem QE (xs:List Int) (k:Nat):D.shp (k + 1) (Ad xs)=true:=by
 show (xs.map D.int).all (D.shp k)=true
 rw [aaA]
 intro d hd
 obtain ⟨x,rfl⟩:=CQ hd
 cases k <;> rfl
theorem EQ (tr:List (List Int)):D.shp 8 (Ab tr)=true:=by
 show (tr.map Ad).all (D.shp 7)=true
 rw [aaA]
 intro d hd
 obtain ⟨x,_,rfl⟩:=aaD.mp hd
 exact QE x 6
theorem S0 {rs:List Int} {i:Int} (h0:0<=i) (h1:i < rs.length):∃ x,x ∈ rs/\atD (rs.map D.int) i=.ok (.int x):=by
 obtain ⟨x,e1,e2⟩:=HD h0 h1
 exact ⟨x,aae e1,e2⟩
theorem K8 (ns:List Int) (p:Int) (hp:0<=p) (rs:List Int) (hr:∀ r ∈ rs,0<=r) (hl:rs.length<=200):∃ q:Int,0<=q/\AT.den [.lst (ns.map .int),.int p,Ad rs]=.ok (.int q):=by
 obtain ⟨xs,hrow,hl,hb⟩:=FD ns p hp [7,200,40] (by decide) (by decide)
 obtain ⟨a,b,c,rfl⟩:=Wq hl
 have ha:=hb 0 a 7 rfl rfl
 have hb':=hb 1 b 200 rfl rfl
 have hc:=hb 2 c 40 rfl rfl
 clear hb hl
 simp only [abH] at hrow
 have l4:(0:Int) < 4:=by decide
 obtain ⟨v,hv,hv0⟩:∃ v:Int,atD [.int 0,.int 1,.int 2,.int 100000000000000000000000000000000000000000000000000000000000] (b % 4)=.ok (.int v)/\0<=v:=by
  rcases m4c b with h | h | h | h <;> rw [h] <;> refine ⟨_,rfl,?_⟩ <;> decide
 by_cases a0:a=0
 ·subst a0
  refine ⟨v,hv0,(Cn _ rfl).trans (Aj ?_)⟩
  unfold Ad
  simp_arith [Bb,hrow,No,Np,Nq,hv,l4]
 have d0:(a==0)=false:=beq_eq_false_iff_ne.mpr a0
 by_cases n0:rs.length=0
 ·have z:rs=[]:=abN n0
  subst z
  refine ⟨v,hv0,(Cn _ rfl).trans (Aj ?_)⟩
  unfold Ad
  simp_arith [Bb,hrow,No,Np,Nq,d0,hv,l4,Int.natCast_zero]
 have n1:((rs.length:Int)==0)=false:=by rw [beq_eq_false_iff_ne]; omega
 have n2:0 < (rs.length:Int):=by omega
 obtain ⟨x,hx,hat⟩:=S0 (rs:=rs) (i:=b % (rs.length:Int)) (abb _ (by omega)) (abL _ n2)
 have hx0:=hr x hx
 by_cases a1:a=1
 ·subst a1
  have hne:rs ≠ []:=fun z=>n0 (by rw [z]; rfl)
  have hm:=F5 hne
  have hm0:0<=rs.max?.getD 0:=by
   have:=List.max?_mem (xs:=rs) hm
   exact hr _ this
  have hi:=B0 rs
  have l2:(0:Int) < 2:=by decide
  have m0:=abb c (show (2:Int) ≠ 0 by decide)
  refine ⟨rs.max?.getD 0 + c % 2,ab2 hm0 m0,(Cn _ rfl).trans (Aj ?_)⟩
  generalize rs.max?.getD 0=M at *
  unfold Ad
  simp_arith [Bb,hrow,No,Np,Nq,n1,n2,aab,hat,hi,Bu,hm,l2]
 ·have d1:(a==1)=false:=beq_eq_false_iff_ne.mpr a1
  obtain ⟨w,hw⟩:∃ w:Int,atD [.int 0,.int 0,.int 1,.int (-1),.int c] (a - 2)=.ok (.int w):=by
   have:a - 2=0\/a - 2=1\/a - 2=2\/a - 2=3\/a - 2=4:=by omega
   rcases this with h | h | h | h | h <;> rw [h] <;> exact ⟨_,rfl⟩
  refine ⟨max 0 (x + w),Int.le_max_left ..,(Cn _ rfl).trans (Aj ?_)⟩
  unfold Ad
  simp_arith [Bb,hrow,No,Np,Nq,d0,d1,n1,n2,aab,hat,hw]
noncomputable def tl (tr:List (List Int)) (l j:Nat):Int:=(tr.getD l []).getD j 0
noncomputable def Dim (tr:List (List Int)) (p f h:Nat):Prop:=tr.map abq=lvD p f h
theorem BM (rs:List Int) (f h:Nat):Dim (Ae rs f (h + 1)) rs.length f h:=by
 unfold Dim Ae lvD
 rw [aaE]
 apply aaT
 intro l _
 show (Bh rs f l (cnt rs.length f l)).length=_
 unfold Bh; simp
section
variable {tr:List (List Int)} {p f h:Nat} (hd:Dim tr p f h)
include hd
theorem IZ:tr.length=h + 1:=by
 have:=congrArg abq hd
 rwa [aab,BV] at this
theorem FG {l:Nat} (hl:l<=h):(tr.getD l []).length=cnt p f l/\tr[l]?=some (tr.getD l []):=by
 have h1:=IZ hd
 have h2:tr[l]?=some tr[l]:=aah (by exact aaI hl (abr h1.symm))
 have h3:tr.getD l []=tr[l]:=by rw [aaK,h2]; rfl
 rw [h3]
 refine ⟨?_,h2⟩
 have h4:(tr.map abq)[l]?=some tr[l].length:=by rw [aam,h2]; rfl
 rw [hd] at h4
 have h5:(lvD p f h)[l]?=some (cnt p f l):=by rw [aah (by rw [BV]; omega),G9 hl]
 rw [h5] at h4
 exact (Option.some.inj h4).symm
theorem FH {l:Nat} (hl:l<=h):atD (tr.map Ad) (l:Int)=.ok (Ad (tr.getD l [])):=by
 have h1:=IZ hd
 unfold atD ixN
 rw [aab,if_pos (by exact aaR _),if_pos (by omega)]
 show (match (tr.map Ad)[(l:Int).toNat]? with | some d=>Res.ok d | none=>Res.bad)=_
 rw [aa3,aam,(FG hd hl).2]
 rfl
theorem OS {l j:Nat} (hl:l<=h) (hj:j < cnt p f l):atD ((tr.getD l []).map D.int) (j:Int)=.ok (.int (tl tr l j)):=by
 apply Dq
 unfold tl
 rw [aaK (l:=tr.getD l []),aah (by rw [(FG hd hl).1]; exact hj)]
 rfl
theorem JI:EJ.den [Ab tr]=.ok (BB (lvD p f h)):=by
 have h2:=K0 (nl:=1) (fr:=[]) (tg:=.nm 0) (it:=.seq (.nm 0)) (elt:=.bi .len (.cons (.nm 0) .nil)) (δ:=[some (Ab tr)]) (ds:=tr.map Ad) (g:=fun d=>match d with | .lst ds=>.int ds.length | d=>d) (by unfold Ab; simp_arith []) (fun d hd=>by
  obtain ⟨x,_,rfl⟩:=aaD.mp hd
  refine ⟨[some (Ad x)],rfl,?_⟩
  unfold Ad
  simp_arith [])
 have e:(tr.map Ad).map (fun d=>match d with | .lst ds=>D.int ds.length | d=>d)=(lvD p f h).map iN:=by
  rw [<- hd,aaE,aaE]
  apply aaT
  intro x _
  show D.int ((x.map D.int).length:Int)=iN x.length
  rw [aab]; rfl
 rw [e] at h2
 refine (KW _ rfl).trans (Aj ?_)
 unfold Ab BB at *
 simp_arith [] at h2
 simp_arith [D1,h2]
theorem E9 {l j:Nat} (hl:l<=h) (hj:j < cnt p f l):Dh.den [Ab tr,Ah l j]=.ok (.int (tl tr l j)):=by
 have h1:=JI hd
 have h2:=Mh hl hj
 have h3:Fj.den [Ab tr,Ah l j]=.ok (.bl true):=by
  refine (Lm _ rfl).trans (Aj ?_)
  simp_arith [Ek,h1,h2]
 have h4:CW.den [Ab tr,Ah l j]=.ok .non:=by
  refine (He _ rfl).trans (Mi (δ:=[some (Ab tr),some (Ah l j)]) ?_)
  simp_arith [BX,h3]
 have h5:=FH hd hl
 have h6:=OS hd hl hj
 refine (Qw _ rfl).trans (Aj ?_)
 unfold Ab Ad Ah at *
 simp_arith [G3,h4,h5,h6]
theorem I0:(tr.map Ad).isEmpty=false:=by
 have h1:=IZ hd
 cases tr with
 | nil=>cases h1
 | cons a r=>rfl
theorem GH:Cd.den [Ab tr]=.ok (Ad (tr.getD 0 [])):=by
 have h1:=CC (tr.map Ad) (EQ tr)
 rw [I0 hd] at h1
 have h2:=FH hd (aar h)
 rw [show ((0:Nat):Int)=0 from rfl] at h2
 refine (Lk _ rfl).trans (Aj ?_)
 unfold Ab Ad at *
 simp_arith [Ei,h1,h2]
theorem DH:Ce.den [Ab tr,.int f]=.ok (shD p f):=by
 have h1:=GH hd
 have h2:=(FG hd (aar h)).1
 rw [EN] at h2
 refine (Ll _ rfl).trans (Aj ?_)
 unfold Ad at h1
 unfold shD
 simp_arith [Ej,h1,aab,h2]
end
theorem Ml (a b:Nat):∀ c,(aav c).filter (fun k=>decide (a<=k) && decide (k < b))=(aav (min b c - a)).map (a + ·)
 | 0=>by simp
 | c + 1=>by
  rw [abY,List.filter_append,Ml a b c]
  by_cases h:a<=c/\c < b
  ·rw [abV h.2,abV (aax h.2),Nat.succ_sub h.1,abY,aat]
   congr 1
   simp only [aca,List.filter_nil,decide_eq_true h.1,decide_eq_true h.2,acT,if_true,aay,abi]
   congr 1; exact (ac0 h.1).symm
  ·have h':(decide (a<=c) && decide (c < b))=false:=by
    rw [<- Bool.not_eq_true,aaf,decide_eq_true_eq,decide_eq_true_eq]; exact h
   simp only [aca,List.filter_nil,h']
   have e:min b (c + 1) - a=min b c - a:=by
    rcases aa4 c b with z | z
    ·have z2:c < a:=Nat.lt_of_not_le fun y=>h ⟨y,z⟩
     rw [abV z,abV (aax z),aaS z2,aaS (aax z2)]
    ·rw [acG z,acG (acv z)]
   rw [e]
   simp
noncomputable def chN (p f l j:Nat):List (Nat × Nat):=match l with
 | 0=>[]
 | l + 1=>((aav (cnt p f l)).filter fun k=>k / f==j).map fun k=>(l,k)
theorem Jx {f:Nat} (hf:1<=f) (c j:Nat):(aav c).filter (fun k=>k / f==j)=(aav (min (j * f + f) c - j * f)).map (j * f + ·):=by
 rw [<- Ml]
 apply ac6
 intro k _
 rw [abZ,beq_iff_eq,aaf,decide_eq_true_eq,decide_eq_true_eq]
 constructor
 ·rintro rfl
  have:=acj k f
  have h2:=Nat.mod_lt k (show 0 < f by exact hf)
  rw [abP] at this
  generalize k % f=r at *
  omega
 ·rintro ⟨h1,h2⟩
  exact acX h1 (by rw [acf]; omega)
theorem GI {p f h:Nat} (hf:2<=f) (hf8:f<=8) (H:Hs p f h) (hh:h<=8) (hp:p<=200) {l j:Nat} (hl:l<=h) (hj:j < cnt p f l):Cc.den [shD p f,Ah l j]=.ok (.lst ((chN p f l j).map Ac)):=by
 have hc:=CU hf hf8 H hh hl hj
 cases l with
 | zero =>
  refine (Hn _ rfl).trans (Aj ?_)
  show _=Out.ret (.lst [])
  unfold Ah shD at *
  rw [show ((0:Nat):Int)=0 from rfl] at *
  simp_arith [DA,hc]
 | succ l =>
  have hlv:=F2 hf hf8 H hh
  have h5:=K4 (xs:=lvD p f h) (i:=l) (by rw [BV]; exact acu hl)
  rw [G9 (by exact aax hl)] at h5
  have hcl:=EO (p:=p) (f:=f) (l:=l) (by omega)
  have hjl:=EO (p:=p) (f:=f) (l:=l + 1) (by omega)
  have hjf:j * f<=200 * 8:=Nat.mul_le_mul (by omega) hf8
  have f1:-(18446744073709551616) < (f:Int):=by omega
  have f2:(f:Int) < 18446744073709551616:=by omega
  have e1:((l + 1:Nat):Int) - 1=(l:Int):=by omega
  have c1:(((l + 1:Nat):Int)==0)=false:=by rw [beq_eq_false_iff_ne]; omega
  have e2:min ((j:Int) * f + f) (cnt p f l:Int)=((min (j * f + f) (cnt p f l):Nat):Int):=by rw [<- abc]; omega
  have hr:=BG (a:=((j * f:Nat):Int)) (b:=((min (j * f + f) (cnt p f l):Nat):Int)) (by omega) (by omega) (by omega) (by omega)
  rw [abc] at hr
  have h2:=K0 (nl:=1) (fr:=[2]) (tg:=.nm 0) (it:=.r2 (.nm 3) (.nm 4)) (elt:=.tup (.cons (.nm 1) (.cons (.nm 0) .nil))) (δ:=[some (shD p f),some (Ah (l + 1) j),some (.int l),some (.int ((j:Int) * f)),some (.int ((min (j * f + f) (cnt p f l):Nat):Int))]) (ds:=Am ((j:Int) * f) ((min (j * f + f) (cnt p f l):Nat):Int)) (g:=fun d=>.tup [.int l,d]) (by simp_arith [hr]) (fun d hd=>by
   refine ⟨[some d,some (.int l)],rfl,?_⟩
   simp_arith [])
  have e3:(Am ((j:Int) * f) ((min (j * f + f) (cnt p f l):Nat):Int)).map (fun d=>D.tup [.int l,d])=(chN p f (l + 1) j).map Ac:=by
   show _=(((aav (cnt p f l)).filter fun k=>k / f==j).map fun k=>(l,k)).map Ac
   rw [Jx (by omega)]
   unfold Am
   rw [aaE,aaE,aaE,<- abc,show (((min (j * f + f) (cnt p f l):Nat):Int) - ((j * f:Nat):Int)).toNat=min (j * f + f) (cnt p f l) - j * f by omega]
   apply aaT
   intro i _
   show D.tup [.int l,.int (((j * f:Nat):Int) + (i:Int))]=Ah l (j * f + i)
   rw [<- Int.natCast_add]; rfl
  rw [e3] at h2
  refine (Hn _ rfl).trans (Aj ?_)
  unfold Ah shD BB at *
  simp_arith [hr] at h2
  simp_arith [DA,hc,c1,e1,f1,f2,hlv,h5,e2,hr,h2]
theorem Nr {rs:List Int} {i:Nat} (h:i < rs.length):atD (rs.map D.int) (i:Int)=.ok (.int (rs.getD i 0)):=by
 apply Dq
 rw [aaK,aah h]; rfl
theorem Mm {y:Int} {n:Nat} (hn:0 < n):∃ k:Nat,k < n/\y % (n:Int)=k:=by
 have h1:=abb y (show (n:Int) ≠ 0 by omega)
 have h2:=abL y (show 0 < (n:Int) by exact abf.mpr hn)
 exact ⟨(y % (n:Int)).toNat,by omega,by exact (acl h1).symm⟩
noncomputable def tri (l q r:Nat):D:=.tup [.int l,.int q,.int r]
theorem S5 (l q r:Nat):Dt (tri l q r) none (some 2)=.ok (Ah l q):=rfl
theorem VV (a b c:D):atD [a,b,c] 2=.ok c:=rfl
noncomputable def cvN (p f a m:Nat):D:=tri m (a / f ^ m) (min p (a + f ^ m))
section
variable {p f h:Nat} (hf:2<=f) (hf8:f<=8) (H:Hs p f h) (hh:h<=8)
include hf hf8 H hh
section
variable {a e:Nat} (hae:a < e) (hep:e<=p)
include hae hep
theorem QF (b:D) (xs:D) (i:Nat) (hi:i<=h) (nd:D) (o9:Option D) :
  ∃ o9',exs AN [some (.int p),some (.int f),some b,some (.int e),some xs,some (.int a),some (.int ((f ^ i:Nat):Int)),some nd,some (.int i),o9]=.nxt [some (.int p),some (.int f),some b,some (.int e),some xs,some (.int a),some (.int ((f ^ (i + 1):Nat):Int)),some (if okL p f a e i then cvN p f a i else nd),some (.int i),o9']:=by
 refine ⟨some (.int (min (p:Int) (a + ((f ^ i:Nat):Int)))),?_⟩
 have hw0:0 < f ^ i:=aby (by omega)
 have hw:=Qy (f:=f) (l:=i) hf8 (by omega)
 have ok:=FE (p:=p) (f:=f) (a:=a) (e:=e) (l:=i)
 rw [abI,abc]
 unfold cvN tri
 generalize okL p f a e i=t at *
 generalize f ^ i=w at *
 have h1:0 < (w:Int):=by omega
 have h2:(w:Int) < 1606938044258990275541962092341162602522202993782792835301376:=by omega
 have h3:-(18446744073709551616) < (f:Int):=by omega
 have h4:(f:Int) < 18446744073709551616:=by omega
 have e1:((a:Int) % (w:Int)==0)=(a % w==0):=by
  rw [<- Int.natCast_emod,abZ,beq_iff_eq,beq_iff_eq]
  omega
 have e2:((min p (a + w):Nat):Int)=min (p:Int) (a + (w:Int)):=by omega
 by_cases c1:a % w=0
 ·have d1:(a % w==0)=true:=by simpa using c1
  by_cases c2:min p (a + w)<=e
  ·have d2:min (p:Int) (a + (w:Int))<=e:=by omega
   have d3:t=true:=ok.mpr ⟨c1,c2⟩
   subst d3
   rw [if_pos rfl,acb,e2]
   simp_arith [AN,h1,h2,h3,h4,e1,d1,d2]
  ·have d2:¬ min (p:Int) (a + (w:Int))<=e:=by omega
   have d3:t=false:=by cases t; rfl; exact absurd (ok.mp rfl).2 c2
   subst d3
   rw [if_neg aa0]
   simp_arith [AN,h1,h2,h3,h4,e1,d1,d2]
 ·have d1:(a % w==0)=false:=by simpa using c1
  have d3:t=false:=by cases t; rfl; exact absurd (ok.mp rfl).1 c1
  subst d3
  rw [if_neg aa0]
  simp_arith [AN,h1,h2,h3,h4,e1,d1]
theorem Vb (i:Nat) (hi:i<=h):okL p f a e i=decide (i<=lvA p f h e a):=by
 rw [abZ,decide_eq_true_eq]
 constructor
 ·intro h1
  apply abl
  intro h2
  have:=Nk (b:=okL p f a e) h i h2 hi
  rw [this] at h1; cases h1
 ·intro h1
  exact K2 (by omega) (JV (Qz hae) h) h1
theorem QG (b:D) (xs:D) (o8 o9:Option D):∃ o8' o9',AL (.nm 8) (exs AN) (Am 0 ((h + 1:Nat):Int)) [some (.int p),some (.int f),some b,some (.int e),some xs,some (.int a),some (.int 1),some (tri 0 a (a + 1)),o8,o9]=.nxt [some (.int p),some (.int f),some b,some (.int e),some xs,some (.int a),some (.int ((f ^ (h + 1):Nat):Int)),some (cvN p f a (lvA p f h e a)),o8',o9']:=by
 obtain ⟨δ',e',o8',o9',rfl⟩:=Bw (tg:=.nm 8) (b:=exs AN) (fun i δ=>∃ o8 o9,δ=[some (.int p),some (.int f),some b,some (.int e),some xs,some (.int a),some (.int ((f ^ i:Nat):Int)),some (cvN p f a (min (i - 1) (lvA p f h e a))),o8,o9]) (ds:=Am 0 ((h + 1:Nat):Int)) (δ:=[some (.int p),some (.int f),some b,some (.int e),some xs,some (.int a),some (.int 1),some (tri 0 a (a + 1)),o8,o9]) 0 ⟨o8,o9,by
   rw [show min (0 - 1) (lvA p f h e a)=0 by exact rfl]
   unfold cvN
   rw [ab0,Nat.div_one,show min p (a + 1)=a + 1 by omega]; rfl⟩ (by
  rintro i d δ hd ⟨o8,o9,rfl⟩
  obtain ⟨rfl,hi⟩:=CS hd
  rw [abT,aaJ]
  obtain ⟨o9',e'⟩:=QF hf hf8 H hh hae hep b xs i (by omega) (cvN p f a (min (i - 1) (lvA p f h e a))) o9
  refine ⟨_,_,rfl,e',some (.int i),o9',?_⟩
  rw [Vb hf hf8 H hh hae hep i (by omega)]
  by_cases c:i<=lvA p f h e a
  ·rw [decide_eq_true c,if_pos rfl,show min (i + 1 - 1) (lvA p f h e a)=i by omega]
  ·rw [decide_eq_false c,if_neg aa0,show min (i + 1 - 1) (lvA p f h e a)=min (i - 1) (lvA p f h e a) by omega])
 have hm:lvA p f h e a<=h:=Iv _ _
 rw [BZ,show 0 + (((h + 1:Nat):Int) - 0).toNat=h + 1 by omega] at e'
 rw [show min (h + 1 - 1) (lvA p f h e a)=lvA p f h e a by omega] at e'
 exact ⟨o8',o9',e'⟩
theorem OT (b:D) (xs:List D) (hx:xs.length<=1000) (o6 o7 o8 o9:Option D):∃ o6' o7' o8' o9',exs BK [some (.int p),some (.int f),some b,some (.int e),some (.lst xs),some (.int a),o6,o7,o8,o9]=.nxt [some (.int p),some (.int f),some b,some (.int e),some (.lst (xs ++ [Ah (lvA p f h e a) (a / f ^ lvA p f h e a)])),some (.int (nxA p f h e a)),o6',o7',o8',o9']:=by
 obtain ⟨o8',o9',hl⟩:=QG hf hf8 H hh hae hep b (.lst xs) o8 o9
 refine ⟨some (.int ((f ^ (h + 1):Nat):Int)),some (cvN p f a (lvA p f h e a)),o8',o9',?_⟩
 have hc:=Ix hf hf8 H hh (by omega)
 have hr:=BG (a:=0) (b:=((h + 1:Nat):Int)) (by exact by decide) (by exact by decide) (by omega) (by omega)
 have hap:=BA xs (Ah (lvA p f h e a) (a / f ^ lvA p f h e a)) (by exact aaI hx (by decide))
 have hcut:=S5 (lvA p f h e a) (a / f ^ lvA p f h e a) (min p (a + f ^ lvA p f h e a))
 unfold BB at hc
 unfold cvN at *
 unfold nxA
 have hll:=BV p f h
 unfold tri at *
 rw [show ((0:Nat):Int)=0 from rfl,show ((a + 1:Nat):Int)=(a:Int) + 1 by exact rfl] at hl
 simp_arith [BK,hc,hll,aab,hr,hl,hcut,hap,VV,-Dt]
end
theorem Jy {e:Nat} (hep:e<=p) (b:D):∀ (n m a:Nat) (xs:List D) (o6 o7 o8 o9:Option D),e - a<=n->n < m->a<=e->xs.length + n<=1000->∃ o6' o7' o8' o9',AY (tv (.cmp .lt (.nm 5) (.nm 3))) (exs BK) m [some (.int p),some (.int f),some b,some (.int e),some (.lst xs),some (.int a),o6,o7,o8,o9]=.nxt [some (.int p),some (.int f),some b,some (.int e),some (.lst (xs ++ Fl p f h e n a)),some (.int e),o6',o7',o8',o9']
 | n,m + 1,a,xs,o6,o7,o8,o9,h1,h2,h3,h4=>by
  by_cases hae:a < e
  ·obtain ⟨n,rfl⟩:∃ k,n=k + 1:=⟨n - 1,by omega⟩
   have c1:(a:Int) < e:=by exact abf.mpr hae
   have hn:=K3 (p:=p) (f:=f) (h:=h) (by omega) hae hep
   have hn2:=(GE (p:=p) (f:=f) (h:=h) hae).2
   obtain ⟨q6,q7,q8,q9,ht⟩:=OT hf hf8 H hh hae hep b xs (by exact aao (acd ..) h4) o6 o7 o8 o9
   rw [DG (by simp_arith [c1]) ht]
   obtain ⟨q6',q7',q8',q9',e'⟩:=Jy hep b n m (nxA p f h e a) (xs ++ [Ah (lvA p f h e a) (a / f ^ lvA p f h e a)]) q6 q7 q8 q9 (by omega) (by exact aaH h2) hn2 (by simp; omega)
   refine ⟨q6',q7',q8',q9',?_⟩
   rw [e',aa2]
   unfold Fl
   rw [cov,if_pos hae]
   rfl
  ·have ha:a=e:=by omega
   subst ha
   have c1:¬ (a:Int) < a:=by omega
   refine ⟨o6,o7,o8,o9,?_⟩
   rw [CT (by simp_arith [c1])]
   unfold Fl
   cases n with
   | zero=>simp [cov]
   | succ n=>rw [cov,if_neg hae]; simp
theorem Nt {a e:Nat} (hae:a<=e) (hep:e<=p) (hp:p<=200):Dj.den [.int p,.int f,.int a,.int e]=.ok (.lst (Fl p f h e 200 a)):=by
 obtain ⟨o6,o7,o8,o9,e'⟩:=Jy hf hf8 H hh hep (.int a) 200 FU a [] none none none none (by omega) (by unfold FU; exact Nat.le_add_left ..) hae (by simp)
 rw [aaX] at e'
 refine (HC _ rfl).trans (Aj ?_)
 simp_arith [Cp,e']
end
theorem Ha {rs:List Int} {a b:Nat} {x:Int}:x ∈ (rs.drop a).take (b - a) ↔ ∃ k,a<=k/\k < b/\rs[k]?=some x:=by
 rw [List.mem_iff_getElem?]
 constructor
 ·rintro ⟨n,h⟩
  rw [ac3] at h
  split at h
  ·rw [ac4] at h
   exact ⟨a + n,by exact acd ..,by omega,h⟩
  ·cases h
 ·rintro ⟨k,h1,h2,h3⟩
  refine ⟨k - a,?_⟩
  rw [ac3,if_pos (by exact Nat.sub_lt_sub_right h1 h2),ac4,show a + (k - a)=k by exact ac0 h1,h3]
theorem VW {rs:List Int} {a b:Nat} {M:Int} (h1:∃ k,a<=k/\k < b/\rs[k]?=some M) (h2:∀ k x,a<=k->k < b->rs[k]?=some x->x<=M):mxR rs a b=M:=by
 have:((rs.drop a).take (b - a)).max?=some M:=abQ.mpr ⟨Ha.mpr h1,fun x hx=>by
  obtain ⟨k,q1,q2,q3⟩:=Ha.mp hx
  exact h2 k x q1 q2 q3⟩
 unfold mxR
 rw [this]; rfl
theorem Q3 {rs:List Int} {a b:Nat} (hab:a < b) (hb:b<=rs.length):(∃ k,a<=k/\k < b/\rs[k]?=some (mxR rs a b))/\∀ k x,a<=k->k < b->rs[k]?=some x->x<=mxR rs a b:=by
 obtain ⟨h1,h2⟩:=abQ.mp (OQ hab hb)
 exact ⟨Ha.mp h1,fun k x q1 q2 q3=>h2 x (Ha.mpr ⟨k,q1,q2,q3⟩)⟩
theorem OU (rs:List Int) (f l:Nat) {c j:Nat} (h:j < c):(Bh rs f l c)[j]?=some (mxR rs (j * f ^ l) (min rs.length (j * f ^ l + f ^ l))):=by
 unfold Bh
 rw [aam,acn h]; rfl
theorem QH (rs:List Int) (f:Nat):Bh rs f 0 (cnt rs.length f 0)=rs:=by
 rw [EN]
 apply ab5
 intro j
 by_cases h:j < rs.length
 ·rw [OU rs f 0 h,aah h]
  congr 1
  rw [ab0,ac7]
  refine VW ⟨j,aag _,by omega,aah h⟩ fun k x h1 h2 h3=>?_
  have:k=j:=by omega
  subst this
  rw [aah h] at h3
  cases h3
  exact Int.le_refl _
 ·rw [abD (show (Bh rs f 0 rs.length).length<=j by unfold Bh; simp; exact ab3.mp h),abD (by exact ab3.mp h)]
theorem OV {c:Fr->Res Bool} {b:Fr->Out} {n:Nat} {δ:Fr} {d:D} (h1:c δ=.ok true) (h2:b δ=.ret d):AY c b (n + 1) δ=.ret d:=by
 rw [AY,h1,Res.out_ok,if_pos rfl,h2,Out.then_ret]
noncomputable abbrev Nd:=Nat × Nat
noncomputable def AQ (t:Nd->Bool):List Nd->List Nd
 | []=>[]
 | q :: r=>q :: if t q then [] else AQ t r
theorem F7 (t:Nd->Bool):∀ qs,(AQ t qs).length<=qs.length
 | []=>aag _
 | q :: r=>by
  unfold AQ
  split
  ·simp
  ·have:=F7 t r; simp only [aaP]; exact abg this
theorem GJ (t:Nd->Bool):∀ {qs},qs ≠ []->∃ pre q,AQ t qs=pre ++ [q]/\q ∈ qs/\((qs.find? t=some q/\t q=true)\/(qs.find? t=none/\t q=false))
 | [],h=>absurd rfl h
 | q :: r,_=>by
  unfold AQ
  by_cases hq:t q=true
  ·exact ⟨[],q,by rw [if_pos hq]; rfl,aac,.inl ⟨abj hq,hq⟩⟩
  ·rw [if_neg hq,abk hq]
   by_cases hr:r=[]
   ·subst hr
    exact ⟨[],q,rfl,aac,.inr ⟨rfl,by simpa using hq⟩⟩
   ·obtain ⟨pre,q',h1,h2,h3⟩:=GJ t hr
    exact ⟨q :: pre,q',by rw [h1]; rfl,aaa _ h2,h3⟩
noncomputable def wk (t:Nd->Bool) (p f:Nat):Nat->List Nd->List Nd
 | 0,_=>[]
 | n + 1,qs=>AQ t qs ++ match qs.find? t with
  | none=>[]
  | some q=>wk t p f n (chN p f q.1 q.2)
noncomputable def tst (tr:List (List Int)) (need:Int) (q:Nd):Bool:=decide (need<=tl tr q.1 q.2)
noncomputable def Val (p f h:Nat) (qs:List Nd):Prop:=∀ q ∈ qs,q.1<=h/\q.2 < cnt p f q.1
theorem Nu (qs:List Nd):D.flat 9 1 (.lst (qs.map Ac))=true:=by
 show (qs.map Ac).all (D.flat 8 0)=true
 rw [aaA]
 intro d hd
 obtain ⟨q,_,rfl⟩:=aaD.mp hd
 rfl
theorem Iy {p f h l j:Nat} (hl:l<=h):Val p f h (chN p f l j):=by
 intro q hq
 cases l with
 | zero=>cases hq
 | succ l =>
  obtain ⟨k,hk,rfl⟩:=aaD.mp hq
  exact ⟨by show l<=h; exact aax hl,List.mem_range.mp (abB.mp hk).1⟩
theorem JW {p f l j:Nat}:∀ q ∈ chN p f l j,q.1 < l:=by
 intro q hq
 cases l with
 | zero=>cases hq
 | succ l =>
  obtain ⟨k,hk,rfl⟩:=aaD.mp hq
  exact ab9 l
theorem OW {p f l j:Nat} (hf:1<=f) (hp:p<=200):(chN p f l j).length<=200:=by
 cases l with
 | zero=>simp [chN]
 | succ l =>
  show (((aav (cnt p f l)).filter fun k=>k / f==j).map fun k=>(l,k)).length<=200
  rw [aab]
  have:=List.length_filter_le (fun k=>k / f==j) (aav (cnt p f l))
  rw [aaY] at this
  have:=EO (p:=p) (f:=f) (l:=l) hf
  omega
section
variable {tr:List (List Int)} {p f h:Nat} (hd:Dim tr p f h) (need:Int)
include hd
theorem Mn (nodes:D):∀ (qs:List Nd) (xs:List D) (o4:Option D),Val p f h qs->xs.length + qs.length<=100000->∃ o4',AL (.nm 4) (exs AR) (qs.map Ac) [some (Ab tr),some (.int need),some nodes,some (.lst xs),o4]=if (qs.find? (tst tr need)).isSome then .ret (.lst (xs ++ (AQ (tst tr need) qs).map Ac)) else .nxt [some (Ab tr),some (.int need),some nodes,some (.lst (xs ++ (AQ (tst tr need) qs).map Ac)),o4']
 | [],xs,o4,_,_=>⟨o4,by simp [AL,AQ]⟩
 | q :: r,xs,o4,hv,hl=>by
  rw [aaP] at hl
  have hv0:=hv q aac
  have ht:=E9 hd hv0.1 hv0.2
  have hap:=BA xs (Ac q) (by omega)
  rw [aay,AL]
  show ∃ o4',(exs AR [some (Ab tr),some (.int need),some nodes,some (.lst xs),some (Ac q)]).then _=_
  unfold AQ
  by_cases hq:tst tr need q=true
  ·have hq':need<=tl tr q.1 q.2:=of_decide_eq_true hq
   have e:exs AR [some (Ab tr),some (.int need),some nodes,some (.lst xs),some (Ac q)]=.ret (.lst (xs ++ [Ac q])):=by
    unfold Ac at *
    simp_arith [AR,hap,ht,hq']
   rw [e,abj hq,if_pos hq]
   exact ⟨none,rfl⟩
  ·have hq':¬ need<=tl tr q.1 q.2:=fun z=>hq (decide_eq_true z)
   have e:exs AR [some (Ab tr),some (.int need),some nodes,some (.lst xs),some (Ac q)]=.nxt [some (Ab tr),some (.int need),some nodes,some (.lst (xs ++ [Ac q])),some (Ac q)]:=by
    unfold Ac at *
    simp_arith [AR,hap,ht,hq']
   rw [e,abk hq,if_neg hq,Out.then_nxt]
   obtain ⟨o4',e'⟩:=Mn nodes r (xs ++ [Ac q]) (some (Ac q)) (fun x hx=>hv x (aaa _ hx)) (by simp; omega)
   refine ⟨o4',?_⟩
   rw [e',aa2]
   rfl
theorem Vc {qs:List Nd} (hv:Val p f h qs) (hl:qs.length<=200):Ck.den [Ab tr,.int need,.lst (qs.map Ac)]=.ok (.lst ((AQ (tst tr need) qs).map Ac)):=by
 obtain ⟨o4,e⟩:=Mn hd need (.lst (qs.map Ac)) qs [] none hv (by simp; exact aao hl (by decide))
 rw [aaX] at e
 refine (Ik _ rfl).trans (Aj ?_)
 cases q:(qs.find? (tst tr need)).isSome with
 | true =>
  rw [q,if_pos rfl] at e
  simp_arith [BU,e]
 | false =>
  rw [q,if_neg aa0] at e
  simp_arith [BU,e]
variable (hf:2<=f) (hf8:f<=8) (H:Hs p f h) (hh:h<=8) (hp:p<=200)
include hf hf8 H hh hp
theorem S6 (b:D) {qs:List Nd} (hq:qs ≠ []) (hv:Val p f h qs) (hl:qs.length<=200) (xs:List D) (hx:xs.length<=100000) (o7:Option D):exs Cf [some (Ab tr),some (.int f),some (.int need),some b,some (shD p f),some (.lst xs),some (.lst (qs.map Ac)),o7]=match qs.find? (tst tr need) with
  | none=>.ret (.lst (xs ++ (AQ (tst tr need) qs).map Ac))
  | some q=>.nxt [some (Ab tr),some (.int f),some (.int need),some b,some (shD p f),some (.lst (xs ++ (AQ (tst tr need) qs).map Ac)),some (.lst ((chN p f q.1 q.2).map Ac)),some (.lst ((AQ (tst tr need) qs).map Ac))]:=by
 have hu:=Vc hd need hv hl
 have hfl:=Nu (AQ (tst tr need) qs)
 have hdp:=Il
 have hul:=F7 (tst tr need) qs
 have hex:=U8 xs ((AQ (tst tr need) qs).map Ac) (by rw [aab]; omega)
 obtain ⟨pre,q,e1,e2,e3⟩:=GJ (tst tr need) hq
 have hq0:=hv q e2
 have ht:=E9 hd hq0.1 hq0.2
 have hc:=GI hf hf8 H hh hp hq0.1 hq0.2
 have hla:=IY (pre.map Ac) (Ac q)
 have e4:(AQ (tst tr need) qs).map Ac=pre.map Ac ++ [Ac q]:=by rw [e1,aat]; rfl
 rw [<- e4] at hla
 generalize (AQ (tst tr need) qs).map Ac=us at *
 have ht:Dh.den [Ab tr,Ac q]=.ok (.int (tl tr q.1 q.2)):=ht
 have hc:Cc.den [shD p f,Ac q]=.ok (.lst ((chN p f q.1 q.2).map Ac)):=hc
 rcases e3 with ⟨h1,h2⟩ | ⟨h1,h2⟩
 ·have hlt:¬ tl tr q.1 q.2 < need:=by have:need<=tl tr q.1 q.2:=of_decide_eq_true h2; exact acw.mpr this
  rw [h1]
  simp_arith [Cf,hu,hdp,hfl,hex,hla,ht,hlt,hc]
 ·have hlt:tl tr q.1 q.2 < need:=by have:¬ need<=tl tr q.1 q.2:=of_decide_eq_false h2; exact aa8.mp this
  rw [h1]
  simp_arith [Cf,hu,hdp,hfl,hex,hla,ht,hlt]
theorem Mo (b:D):∀ (n m:Nat) (qs:List Nd) (xs:List D) (o7:Option D),Val p f h qs->qs.length<=200->(∀ q ∈ qs,q.1 < n)->n < m->xs.length + 200 * n<=10000->∃ o6 o7',(AY (tv (.cmp .ne (.nm 6) (.lst .nil))) (exs Cf) m [some (Ab tr),some (.int f),some (.int need),some b,some (shD p f),some (.lst xs),some (.lst (qs.map Ac)),o7]=.ret (.lst (xs ++ (wk (tst tr need) p f n qs).map Ac)))\/(AY (tv (.cmp .ne (.nm 6) (.lst .nil))) (exs Cf) m [some (Ab tr),some (.int f),some (.int need),some b,some (shD p f),some (.lst xs),some (.lst (qs.map Ac)),o7]=.nxt [some (Ab tr),some (.int f),some (.int need),some b,some (shD p f),some (.lst (xs ++ (wk (tst tr need) p f n qs).map Ac)),o6,o7'])
 | n,m + 1,qs,xs,o7,hv,hl,hlv,hm,hx=>by
  have hcd:=GD (qs.map Ac) (GF qs 6)
  by_cases hq:qs=[]
  ·subst hq
   refine ⟨some (.lst []),o7,.inr ?_⟩
   rw [abi] at hcd
   rw [abi,CT (by simp_arith [hcd,List.isEmpty])]
   cases n <;> simp [wk,AQ]
  ·cases n with
   | zero =>
    obtain ⟨q,r,rfl⟩:=act hq
    exact absurd (hlv q aac) (by omega)
   | succ n =>
    have hc1:tv (.cmp .ne (.nm 6) (.lst .nil)) [some (Ab tr),some (.int f),some (.int need),some b,some (shD p f),some (.lst xs),some (.lst (qs.map Ac)),o7]=.ok true:=by
     have:(qs.map Ac).isEmpty=false:=by
      cases qs with
      | nil=>exact absurd rfl hq
      | cons a r=>rfl
     rw [this] at hcd
     simp_arith [hcd]
    have ht:=S6 hd need hf hf8 H hh hp b hq hv hl xs (by omega) o7
    have hul:=F7 (tst tr need) qs
    rw [wk]
    cases q:qs.find? (tst tr need) with
    | none =>
     rw [q] at ht
     refine ⟨none,none,.inl ?_⟩
     rw [OV hc1 ht,aaL]
    | some w =>
     rw [q] at ht
     have hw:=hv w (abp q)
     have hwl:=hlv w (abp q)
     rw [DG hc1 ht]
     obtain ⟨o6,o7',e⟩:=Mo b n m (chN p f w.1 w.2) (xs ++ (AQ (tst tr need) qs).map Ac) (some (.lst ((AQ (tst tr need) qs).map Ac))) (Iy hw.1) (OW (by omega) hp) (fun x hx=>by have:=JW x hx; exact aao this (aaH hwl)) (by exact aaH hm) (by rw [aaC,aab]; omega)
     rw [aa2,<- aat] at e
     exact ⟨o6,o7',e⟩
end
theorem FI {p f h e:Nat} (hf:1<=f) (hep:e<=p):∀ n a,Val p f h (cov p f h e n a)
 | 0,a=>fun q hq=>nomatch hq
 | n + 1,a=>by
  intro q hq
  rw [cov] at hq
  by_cases hae:a < e
  ·rw [if_pos hae] at hq
   rcases aal.mp hq with rfl | hq
   ·refine ⟨Iv _ _,?_⟩
    show a / f ^ lvA p f h e a < cnt p f (lvA p f h e a)
    rw [BL hf]
    have:=acZ a (f ^ lvA p f h e a)
    omega
   ·exact FI hf hep n _ q hq
  ·rw [if_neg hae] at hq; cases hq
theorem Ja {p f h e:Nat}:∀ n a,(cov p f h e n a).length<=n
 | 0,a=>aag _
 | n + 1,a=>by
  rw [cov]
  split
  ·have:=Ja (p:=p) (f:=f) (h:=h) (e:=e) n (nxA p f h e a)
   simp only [aaP]; exact abg this
  ·simp
section
variable {tr:List (List Int)} {p f h:Nat} (hd:Dim tr p f h) (need:Int) (hf:2<=f) (hf8:f<=8) (H:Hs p f h) (hh:h<=8) (hp:p<=200)
include hd hf hf8 H hh hp
noncomputable def wkD (tr:List (List Int)) (p f h:Nat) (need:Int) (a:Nat):List Nd:=wk (tst tr need) p f (h + 1) (cov p f h p 200 a)
theorem Iz {a:Nat} (ha:a<=p):Do.den [Ab tr,.int f,.int need,.int a]=.ok (.lst ((wkD tr p f h need a).map Ac)):=by
 have hs:=DH hd
 have hc:=Jv hf hf8 H hh ha (aag p) hp
 have hv:=FI (p:=p) (f:=f) (h:=h) (show 1<=f by omega) (aag p) 200 a
 obtain ⟨o6,o7,e⟩:=Mo hd need hf hf8 H hh hp (.int a) (h + 1) FU (cov p f h p 200 a) [] none hv (Ja 200 a) (fun q hq=>by have:=(hv q hq).1; exact abg this) (by unfold FU; exact aaI (ack hh _) (by decide)) (by simp; omega)
 rw [aaX] at e
 unfold Fl at hc
 refine (OJ _ rfl).trans (Aj ?_)
 unfold wkD
 generalize (wk (tst tr need) p f (h + 1) (cov p f h p 200 a)).map Ac=ws at *
 generalize (cov p f h p 200 a).map Ac=qs at *
 unfold shD at *
 rcases e with e | e
 ·simp_arith [EK,hs,hc,e]
 ·simp_arith [EK,hs,hc,e]
noncomputable def HG:Option Nd->D
 | none=>.non
 | some q=>Ac q
theorem Mp (q0:Nd) (fo w:D) (sh b pg:D) (o10:Option D):∀ (qs:List Nd) (o8 o9:Option D),∃ o8' o9',AL (.tp [8,9]) (exs Az) (qs.map Ac) [some (Ab tr),some sh,some (.int need),some b,some pg,some fo,some w,some (Ac q0),o8,o9,o10]=.nxt [some (Ab tr),some sh,some (.int need),some b,some pg,some fo,some w,some (Ac q0),o8',o9',o10]
 | [],o8,o9=>⟨o8,o9,rfl⟩
 | q :: r,o8,o9=>by
  obtain ⟨p8,p9,e⟩:=Mp q0 fo w sh b pg o10 r (some (.int q.1)) (some (.int q.2))
  refine ⟨p8,p9,?_⟩
  rw [aay,AL,<- e]
  show (exs Az [some (Ab tr),some sh,some (.int need),some b,some pg,some fo,some w,some (Ac q0),some (.int q.1),some (.int q.2),o10]).then _=_
  have ht:exs Az [some (Ab tr),some sh,some (.int need),some b,some pg,some fo,some w,some (Ac q0),some (.int q.1),some (.int q.2),o10]=.nxt [some (Ab tr),some sh,some (.int need),some b,some pg,some fo,some w,some (Ac q0),some (.int q.1),some (.int q.2),o10]:=by
   unfold Ac Ah
   simp_arith [Az]
  rw [ht,Out.then_nxt]
theorem Mq (w:D) (sh b pg:D) (o10:Option D):∀ (qs:List Nd) (xs:List D) (o8 o9:Option D),Val p f h qs->xs.length + qs.length<=100000->∃ o8' o9',AL (.tp [8,9]) (exs Az) (qs.map Ac) [some (Ab tr),some sh,some (.int need),some b,some pg,some (.lst xs),some w,some .non,o8,o9,o10]=.nxt [some (Ab tr),some sh,some (.int need),some b,some pg,some (.lst (xs ++ (AQ (tst tr need) qs).map Ac)),some w,some (HG (qs.find? (tst tr need))),o8',o9',o10]
 | [],xs,o8,o9,_,_=>⟨o8,o9,by simp [AL,AQ,HG]⟩
 | q :: r,xs,o8,o9,hv,hl=>by
  rw [aaP] at hl
  have hv0:=hv q aac
  have h5:=FH hd hv0.1
  have h6:=OS hd hv0.1 hv0.2
  have hap:=BA xs (.tup [.int q.1,.int q.2]) (by omega)
  rw [aay,AL]
  show ∃ o8' o9',(exs Az [some (Ab tr),some sh,some (.int need),some b,some pg,some (.lst xs),some w,some .non,some (.int q.1),some (.int q.2),o10]).then _=_
  unfold AQ
  by_cases hq:tst tr need q=true
  ·have hq':need<=tl tr q.1 q.2:=of_decide_eq_true hq
   have e:exs Az [some (Ab tr),some sh,some (.int need),some b,some pg,some (.lst xs),some w,some .non,some (.int q.1),some (.int q.2),o10]=.nxt [some (Ab tr),some sh,some (.int need),some b,some pg,some (.lst (xs ++ [Ac q])),some w,some (Ac q),some (.int q.1),some (.int q.2),o10]:=by
    unfold Ab Ac Ah Ad at *
    simp_arith [Az,hap,h5,h6,hq']
   rw [e,abj hq,if_pos hq,Out.then_nxt]
   exact Mp hd need hf hf8 H hh hp q _ w sh b pg o10 r _ _
  ·have hq':¬ need<=tl tr q.1 q.2:=fun z=>hq (decide_eq_true z)
   have e:exs Az [some (Ab tr),some sh,some (.int need),some b,some pg,some (.lst xs),some w,some .non,some (.int q.1),some (.int q.2),o10]=.nxt [some (Ab tr),some sh,some (.int need),some b,some pg,some (.lst (xs ++ [Ac q])),some w,some .non,some (.int q.1),some (.int q.2),o10]:=by
    unfold Ab Ac Ah Ad at *
    simp_arith [Az,hap,h5,h6,hq']
   rw [e,abk hq,if_neg hq,Out.then_nxt]
   obtain ⟨p8,p9,e'⟩:=Mq w sh b pg o10 r (xs ++ [Ac q]) (some (.int q.1)) (some (.int q.2)) (fun x hx=>hv x (aaa _ hx)) (by simp; omega)
   refine ⟨p8,p9,?_⟩
   rw [e',aa2]
   rfl
noncomputable def nxW (p f:Nat):Option Nd->List Nd
 | none=>[]
 | some q=>chN p f q.1 q.2
theorem S7 (b pg:D) {qs:List Nd} (hv:Val p f h qs) (hl:qs.length<=200) (xs:List D) (hx:xs.length<=10000) (o7 o8 o9 o10:Option D):∃ o7' o8' o9' o10',exs A7 [some (Ab tr),some (.int f),some (.int need),some b,some pg,some (.lst xs),some (.lst (qs.map Ac)),o7,o8,o9,o10]=.nxt [some (Ab tr),some (.int f),some (.int need),some b,some pg,some (.lst (xs ++ (AQ (tst tr need) qs).map Ac)),some (.lst ((nxW p f (qs.find? (tst tr need))).map Ac)),o7',o8',o9',o10']:=by
 obtain ⟨o8',o9',e⟩:=Mq hd need hf hf8 H hh hp (.lst (qs.map Ac)) (.int f) b pg o10 qs xs o8 o9 hv (by omega)
 cases q:qs.find? (tst tr need) with
 | none =>
  rw [q] at e
  refine ⟨some .non,o8',o9',o10,?_⟩
  unfold HG at e
  show _=Out.nxt [some (Ab tr),some (.int f),some (.int need),some b,some pg,some (.lst (xs ++ (AQ (tst tr need) qs).map Ac)),some (.lst []),some .non,o8',o9',o10]
  generalize (AQ (tst tr need) qs).map Ac=us at *
  generalize qs.map Ac=ws at *
  simp_arith [A7,e]
 | some w =>
  obtain ⟨l,j⟩:=w
  rw [q] at e
  have hw:=hv (l,j) (abp q)
  have hw1:l<=h:=hw.1
  have hw2:j < cnt p f l:=hw.2
  rw [show HG (some (l,j))=.tup [.int l,.int j] from rfl] at e
  cases l with
  | zero =>
   refine ⟨some (Ah 0 j),o8',o9',o10,?_⟩
   show _=Out.nxt [some (Ab tr),some (.int f),some (.int need),some b,some pg,some (.lst (xs ++ (AQ (tst tr need) qs).map Ac)),some (.lst []),some (Ah 0 j),o8',o9',o10]
   unfold Ah
   generalize (AQ (tst tr need) qs).map Ac=us at *
   generalize qs.map Ac=ws at *
   rw [show ((0:Nat):Int)=0 from rfl] at *
   have c0:¬ (0:Int) < 0:=by decide
   simp_arith [A7,e,c0]
  | succ l =>
   have hcl:=EO (p:=p) (f:=f) (l:=l) (by omega)
   have h5:=FH hd (show l<=h by omega)
   have h6:=(FG hd (show l<=h by omega)).1
   have hr:=BG (a:=0) (b:=(cnt p f l:Int)) (by exact by decide) (by exact by decide) (by omega) (by omega)
   have c0:(0:Int) < ((l + 1:Nat):Int):=by omega
   have e1:((l + 1:Nat):Int) - 1=(l:Int):=by omega
   have f1:0 < (f:Int):=by omega
   have f2:(f:Int) < 1606938044258990275541962092341162602522202993782792835301376:=by omega
   have h2:=HE (nl:=1) (fr:=[7,1]) (tg:=.nm 0) (it:=.r1 (.nm 10)) (cond:=.cmp .eq (.bin .fdiv (.nm 0) (.nm 2)) (.ix (.nm 1) (.cI 1))) (elt:=.tup (.cons (.bin .sub (.ix (.nm 1) (.cI 0)) (.cI 1)) (.cons (.nm 0) .nil))) (δ:=[some (Ab tr),some (.int f),some (.int need),some b,some pg,some (.lst (xs ++ (AQ (tst tr need) qs).map Ac)),some (.lst []),some (.tup [.int ((l + 1:Nat):Int),.int j]),o8',o9',some (.int (cnt p f l))]) (ds:=Am 0 (cnt p f l)) (b:=fun d=>match d with | .int k=>(k / f==(j:Int)) | _=>false) (g:=fun d=>.tup [.int l,d]) (by simp_arith [hr]) (fun d hd=>by
    obtain ⟨k,rfl,hk⟩:=Iu hd
    refine ⟨[some (.int k),some (.tup [.int ((l + 1:Nat):Int),.int j]),some (.int f)],rfl,?_,fun _=>?_⟩
    ·simp_arith [f1,f2]
    ·simp_arith [e1])
   have e3:((Am 0 (cnt p f l)).filter (fun d=>match d with | .int k=>(k / f==(j:Int)) | _=>false)).map (fun d=>D.tup [.int l,d])=(chN p f (l + 1) j).map Ac:=by
    show _=(((aav (cnt p f l)).filter fun k=>k / f==j).map fun k=>(l,k)).map Ac
    unfold Am
    rw [List.filter_map,aaE,aaE,ach,aa3]
    rw [ac6 (q:=fun k=>k / f==j) (fun k _=>by
     show (((0:Int) + (k:Int)) / (f:Int)==(j:Int))=(k / f==j)
     rw [abT,<- acb,abZ,beq_iff_eq,beq_iff_eq]
     exact ⟨fun z=>Int.ofNat.inj z,fun z=>by rw [z]⟩)]
    apply aaT
    intro k _
    show D.tup [.int l,.int (0 + (k:Int))]=Ah l k
    rw [abT]; rfl
   rw [e3] at h2
   refine ⟨some (Ah (l + 1) j),o8',o9',some (.int (cnt p f l)),?_⟩
   show _=Out.nxt [some (Ab tr),some (.int f),some (.int need),some b,some pg,some (.lst (xs ++ (AQ (tst tr need) qs).map Ac)),some (.lst ((chN p f (l + 1) j).map Ac)),some (Ah (l + 1) j),o8',o9',some (.int (cnt p f l))]
   generalize (chN p f (l + 1) j).map Ac=cs at *
   generalize (AQ (tst tr need) qs).map Ac=us at *
   generalize qs.map Ac=ws at *
   unfold Ah
   unfold Ab Ad at *
   simp_arith [hr] at h2
   simp_arith [A7,e,c0,e1,h5,aab,h6,hr,h2]
theorem Mr (b pg:D):∀ (n m:Nat) (qs:List Nd) (xs:List D) (o7 o8 o9 o10:Option D),Val p f h qs->qs.length<=200->(∀ q ∈ qs,q.1 < n)->n < m->xs.length + 200 * n<=10000->∃ o6 o7' o8' o9' o10',AY (tv (.cmp .ne (.nm 6) (.lst .nil))) (exs A7) m [some (Ab tr),some (.int f),some (.int need),some b,some pg,some (.lst xs),some (.lst (qs.map Ac)),o7,o8,o9,o10]=.nxt [some (Ab tr),some (.int f),some (.int need),some b,some pg,some (.lst (xs ++ (wk (tst tr need) p f n qs).map Ac)),o6,o7',o8',o9',o10']
 | n,m + 1,qs,xs,o7,o8,o9,o10,hv,hl,hlv,hm,hx=>by
  have hcd:=GD (qs.map Ac) (GF qs 6)
  by_cases hq:qs=[]
  ·subst hq
   refine ⟨some (.lst []),o7,o8,o9,o10,?_⟩
   rw [abi] at hcd
   rw [abi,CT (by simp_arith [hcd,List.isEmpty])]
   cases n <;> simp [wk,AQ]
  ·cases n with
   | zero =>
    obtain ⟨q,r,rfl⟩:=act hq
    exact absurd (hlv q aac) (by omega)
   | succ n =>
    have hc1:tv (.cmp .ne (.nm 6) (.lst .nil)) [some (Ab tr),some (.int f),some (.int need),some b,some pg,some (.lst xs),some (.lst (qs.map Ac)),o7,o8,o9,o10]=.ok true:=by
     have:(qs.map Ac).isEmpty=false:=by
      cases qs with
      | nil=>exact absurd rfl hq
      | cons a r=>rfl
     rw [this] at hcd
     simp_arith [hcd]
    obtain ⟨p7,p8,p9,p10,ht⟩:=S7 hd need hf hf8 H hh hp b pg hv hl xs (by exact aao (acd ..) hx) o7 o8 o9 o10
    have hul:=F7 (tst tr need) qs
    rw [DG hc1 ht,wk]
    have nv:Val p f h (nxW p f (qs.find? (tst tr need)))/\(nxW p f (qs.find? (tst tr need))).length<=200/\∀ q ∈ nxW p f (qs.find? (tst tr need)),q.1 < n:=by
     cases q:qs.find? (tst tr need) with
     | none=>exact ⟨fun _ h=>(nomatch h),aar _,fun _ h=>(nomatch h)⟩
     | some w =>
      have hw:=hv w (abp q)
      have hwl:=hlv w (abp q)
      exact ⟨Iy hw.1,OW (by omega) hp,fun x hx=>by have:=JW x hx; exact aao this (aaH hwl)⟩
    obtain ⟨o6,q7,q8,q9,q10,e⟩:=Mr b pg n m (nxW p f (qs.find? (tst tr need))) (xs ++ (AQ (tst tr need) qs).map Ac) p7 p8 p9 p10 nv.1 nv.2.1 nv.2.2 (by exact aaH hm) (by rw [aaC,aab]; omega)
    refine ⟨o6,q7,q8,q9,q10,?_⟩
    rw [e,aa2,<- aat]
    congr 9
    cases q:qs.find? (tst tr need) with
    | none=>cases n <;> rfl
    | some w=>rfl
theorem OX {a:Nat} (ha:a<=p) (hp1:1<=p):Cq.den [Ab tr,.int f,.int need,.int a]=.ok (.lst ((wkD tr p f h need a).map Ac)):=by
 have hc:=Nt hf hf8 H hh ha (aag p) hp
 have hv:=FI (p:=p) (f:=f) (h:=h) (show 1<=f by omega) (aag p) 200 a
 obtain ⟨o6,o7,o8,o9,o10,e⟩:=Mr hd need hf hf8 H hh hp (.int a) (.int p) (h + 1) FU (cov p f h p 200 a) [] none none none none hv (Ja 200 a) (fun q hq=>by have:=(hv q hq).1; exact abg this) (by unfold FU; exact aaI (ack hh _) (by decide)) (by simp; omega)
 rw [aaX] at e
 have h1:=GD (tr.map Ad) (EQ tr)
 rw [I0 hd] at h1
 have h5:=FH hd (aar h)
 rw [show ((0:Nat):Int)=0 from rfl] at h5
 have h6:=(FG hd (aar h)).1
 rw [EN] at h6
 unfold Fl at hc
 refine (Iq _ rfl).trans (Aj ?_)
 unfold wkD
 generalize (wk (tst tr need) p f (h + 1) (cov p f h p 200 a)).map Ac=ws at *
 generalize (cov p f h p 200 a).map Ac=qs at *
 unfold Ab Ad at *
 simp_arith [CO,h1,h5,aab,h6,hc,e]
end
theorem S8 {ms:List Int} {f h l j:Nat} (hl:l<=h) (hj:j < cnt ms.length f l):tl (Ae ms f (h + 1)) l j=mxR ms (j * f ^ l) (min ms.length (j * f ^ l + f ^ l)):=by
 unfold tl
 have e1:(Ae ms f (h + 1)).getD l []=Bh ms f l (cnt ms.length f l):=by
  unfold Ae
  rw [aaK,aam,acn (by exact abg hl)]; rfl
 rw [e1,aaK,OU ms f l hj]; rfl
noncomputable def Til (p f:Nat):List Nd->Nat->Nat->Prop
 | [],a,e=>a=e
 | q :: r,a,e=>q.2 * f ^ q.1=a/\Til p f r (min p (q.2 * f ^ q.1 + f ^ q.1)) e
theorem Jb {p f h e:Nat} (hf:1<=f) (hep:e<=p):∀ n a,e - a<=n->a<=e->Til p f (cov p f h e n a) a e
 | 0,a,h1,h2=>by show a=e; omega
 | n + 1,a,h1,h2=>by
  rw [cov]
  by_cases hae:a < e
  ·rw [if_pos hae]
   have hs:a / f ^ lvA p f h e a * f ^ lvA p f h e a=a:=by
    have:=acj a (f ^ lvA p f h e a)
    rw [(GE hae).1,abP] at this
    exact this
   have hn:=K3 (p:=p) (f:=f) (h:=h) hf hae hep
   have hn2:=(GE (p:=p) (f:=f) (h:=h) hae).2
   refine ⟨hs,?_⟩
   show Til p f _ (min p (a / f ^ lvA p f h e a * f ^ lvA p f h e a + f ^ lvA p f h e a)) e
   rw [hs]
   exact Jb hf hep n (nxA p f h e a) (by omega) hn2
  ·rw [if_neg hae]; show a=e; omega
theorem Mu {p f l:Nat} (hf:1<=f):∀ m s,0 < m->s + m<=cnt p f l->Til p f ((ac8 s m).map fun k=>(l,k)) (s * f ^ l) (min p ((s + m) * f ^ l))
 | 0,s,h,_=>absurd h (by exact absurd h (by decide))
 | 1,s,_,_=>⟨rfl,by show min p (s * f ^ l + f ^ l)=_; rw [acf]⟩
 | m + 2,s,_,h2=>by
  have ih:=Mu (p:=p) (f:=f) (l:=l) hf (m + 1) (s + 1) (by exact Nat.succ_pos _) (by omega)
  refine ⟨rfl,?_⟩
  show Til p f ((ac8 (s + 1) (m + 1)).map fun k=>(l,k)) (min p (s * f ^ l + f ^ l)) _
  have h3:=(BL (p:=p) (f:=f) (l:=l) (j:=s + 1) hf).mp (by omega)
  rw [acf] at h3 ih
  rw [show min p (s * f ^ l + f ^ l)=s * f ^ l + f ^ l by omega,show s + (m + 2)=s + 1 + (m + 1) by omega]
  exact ih
theorem OY {p f l j:Nat} (hf:1<=f):chN p f (l + 1) j=(ac8 (j * f) (min (j * f + f) (cnt p f l) - j * f)).map fun k=>(l,k):=by
 show ((aav (cnt p f l)).filter fun k=>k / f==j).map (fun k=>(l,k))=_
 rw [Jx hf,List.range'_eq_map_range]
theorem OZ {p f l j:Nat} (hf:1<=f) (hj:j < cnt p f (l + 1)):chN p f (l + 1) j ≠ []/\Til p f (chN p f (l + 1) j) (j * f ^ (l + 1)) (min p (j * f ^ (l + 1) + f ^ (l + 1))):=by
 have h1:=(BL hf).mp hj
 have e1:j * f ^ (l + 1)=j * f * f ^ l:=by rw [abI,abP (f ^ l) f,Nat.mul_assoc]
 have e2:j * f ^ (l + 1) + f ^ (l + 1)=(j * f + f) * f ^ l:=by rw [e1,Nat.add_mul,abI,abP f]
 have h2:j * f < cnt p f l:=(BL hf).mpr (by omega)
 have r:=Mu (p:=p) (f:=f) (l:=l) hf (min (j * f + f) (cnt p f l) - j * f) (j * f) (by omega) (by omega)
 rw [<- OY hf,<- e1,show j * f + (min (j * f + f) (cnt p f l) - j * f)=min (j * f + f) (cnt p f l) by omega] at r
 have e3:min p (min (j * f + f) (cnt p f l) * f ^ l)=min p (j * f ^ (l + 1) + f ^ (l + 1)):=by
  rw [e2]
  by_cases c:j * f + f<=cnt p f l
  ·rw [acG c]
  ·have h3:¬ cnt p f l * f ^ l < p:=fun z=>absurd ((BL hf).mpr z) (aaU _)
   have h4:cnt p f l * f ^ l<=(j * f + f) * f ^ l:=Nat.mul_le_mul_right _ (by omega)
   rw [abV (by omega:cnt p f l<=j * f + f)]
   omega
 rw [e3] at r
 refine ⟨fun z=>?_,r⟩
 have:=congrArg abq z
 rw [OY hf,aab,List.length_range'] at this
 simp at this
 omega
section
variable {ms:List Int} {f h:Nat} (hf:2<=f) (μ:Int)
include hf
theorem Hb {q:Nd} (hl:q.1<=h) (hj:q.2 < cnt ms.length f q.1):(tst (Ae ms f (h + 1)) μ q=true->∃ k x,q.2 * f ^ q.1<=k/\k < min ms.length (q.2 * f ^ q.1 + f ^ q.1)/\ms[k]?=some x/\μ<=x)/\(tst (Ae ms f (h + 1)) μ q=false->∀ k x,q.2 * f ^ q.1<=k->k < min ms.length (q.2 * f ^ q.1 + f ^ q.1)->ms[k]?=some x->x < μ):=by
 unfold tst
 rw [S8 hl hj]
 have hw:0 < f ^ q.1:=aby (by exact aax hf)
 have hlt:=(BL (show 1<=f by exact aax hf)).mp hj
 obtain ⟨⟨k,a1,a2,a3⟩,b1⟩:=Q3 (rs:=ms) (a:=q.2 * f ^ q.1) (b:=min ms.length (q.2 * f ^ q.1 + f ^ q.1)) (by omega) (by exact abu ..)
 refine ⟨fun z=>⟨k,_,a1,a2,a3,of_decide_eq_true z⟩,fun z k x c1 c2 c3=>?_⟩
 have:=of_decide_eq_false z
 have:=b1 k x c1 c2 c3
 omega
theorem ER:∀ (qs:List Nd) (a e:Nat),Val ms.length f h qs->Til ms.length f qs a e->(∀ q ∈ qs,tst (Ae ms f (h + 1)) μ q=false)->∀ k x,a<=k->k < e->ms[k]?=some x->x < μ
 | [],a,e,_,ht,_,k,x,h1,h2,_=>absurd (show a=e from ht) (by omega)
 | q :: r,a,e,hv,ht,hq,k,x,h1,h2,h3=>by
  obtain ⟨t1,t2⟩:=ht
  obtain ⟨v1,v2⟩:=hv q aac
  by_cases c:k < min ms.length (q.2 * f ^ q.1 + f ^ q.1)
  ·exact (Hb hf μ v1 v2).2 (hq q aac) k x (by exact t1 ▸ h1) c h3
  ·exact ER r _ e (fun q' h=>hv q' (aaa _ h)) t2 (fun q' h=>hq q' (aaa _ h)) k x (by exact ab3.mp c) h2 h3
theorem K9:∀ (qs:List Nd) (a e:Nat),Val ms.length f h qs->Til ms.length f qs a e->a<=e
 | [],a,e,_,ht=>abr ht
 | q :: r,a,e,hv,ht=>by
  obtain ⟨t1,t2⟩:=ht
  obtain ⟨v1,v2⟩:=hv q aac
  have hlt:=(BL (show 1<=f by exact aax hf)).mp v2
  have:=K9 r _ e (fun q' h=>hv q' (aaa _ h)) t2
  omega
theorem La:∀ (qs:List Nd) (a e:Nat) (q:Nd),Val ms.length f h qs->Til ms.length f qs a e->qs.find? (tst (Ae ms f (h + 1)) μ)=some q->a<=q.2 * f ^ q.1/\min ms.length (q.2 * f ^ q.1 + f ^ q.1)<=e/\∀ k x,a<=k->k < q.2 * f ^ q.1->ms[k]?=some x->x < μ
 | [],a,e,q,_,_,h=>nomatch h
 | q0 :: r,a,e,q,hv,ht,hq=>by
  obtain ⟨t1,t2⟩:=ht
  obtain ⟨v1,v2⟩:=hv q0 aac
  have hlt:=(BL (show 1<=f by exact aax hf)).mp v2
  have hv':Val ms.length f h r:=fun q' h=>hv q' (aaa _ h)
  have hle:=K9 hf r _ e hv' t2
  by_cases c:tst (Ae ms f (h + 1)) μ q0=true
  ·rw [abj c] at hq
   cases hq
   exact ⟨by exact abr t1.symm,hle,fun k x z1 z2=>absurd z2 (by omega)⟩
  ·rw [abk c] at hq
   obtain ⟨z1,z2,z3⟩:=La r _ e q hv' t2 hq
   refine ⟨by omega,z2,fun k x k1 k2 k3=>?_⟩
   by_cases c2:k < min ms.length (q0.2 * f ^ q0.1 + f ^ q0.1)
   ·exact (Hb hf μ v1 v2).2 (by simpa using c) k x (by exact t1 ▸ k1) c2 k3
   ·exact z3 k x (by exact ab3.mp c2) k2 k3
theorem Lb:∀ (n:Nat) (qs:List Nd) (a e:Nat),Val ms.length f h qs->(∀ q ∈ qs,q.1 < n)->Til ms.length f qs a e->qs ≠ []->∃ pre q,wk (tst (Ae ms f (h + 1)) μ) ms.length f n qs=pre ++ [q]/\q.1<=h/\q.2 < cnt ms.length f q.1/\((tst (Ae ms f (h + 1)) μ q=false/\∀ k x,a<=k->k < e->ms[k]?=some x->x < μ)\/(q.1=0/\tst (Ae ms f (h + 1)) μ q=true/\a<=q.2/\q.2 < e/\(∃ x,ms[q.2]?=some x/\μ<=x)/\∀ k x,a<=k->k < q.2->ms[k]?=some x->x < μ))
 | 0,qs,a,e,hv,hn,ht,hne=>by
  cases qs with
  | nil=>exact absurd rfl hne
  | cons q r=>exact absurd (hn q aac) (by omega)
 | n + 1,qs,a,e,hv,hn,ht,hne=>by
  obtain ⟨pre,q,h1,h2,h3⟩:=GJ (tst (Ae ms f (h + 1)) μ) hne
  obtain ⟨v1,v2⟩:=hv q h2
  rw [wk,h1]
  rcases h3 with ⟨g1,g2⟩ | ⟨g1,g2⟩
  ·rw [g1]
   obtain ⟨z1,z2,z3⟩:=La hf μ qs a e q hv ht g1
   obtain ⟨l,j⟩:=q
   cases l with
   | zero =>
    refine ⟨pre,(0,j),?_,v1,v2,.inr ⟨rfl,g2,?_⟩⟩
    ·have:wk (tst (Ae ms f (h + 1)) μ) ms.length f n (chN ms.length f 0 j)=[]:=by
      cases n with
      | zero=>rfl
      | succ m=>rfl
     show pre ++ [(0,j)] ++ wk (tst (Ae ms f (h + 1)) μ) ms.length f n (chN ms.length f 0 j)=_
     rw [this,aaL]
    ·obtain ⟨k,x,k1,k2,k3,k4⟩:=(Hb hf μ v1 v2).1 g2
     simp only [ab0,ac7] at k1 k2 z1 z2 z3
     have:k=j:=by omega
     subst this
     exact ⟨z1,by exact aao k2 z2,⟨x,k3,k4⟩,z3⟩
   | succ l =>
    obtain ⟨c1,c2⟩:=OZ (p:=ms.length) (f:=f) (l:=l) (j:=j) (by exact aax hf) v2
    have hn':=hn _ h2
    obtain ⟨pre',q',w1,w2,w3,w4⟩:=Lb n (chN ms.length f (l + 1) j) _ _ (Iy v1) (fun q hq=>by
     have:=JW q hq
     have:l + 1 < n + 1:=hn'
     omega) c2 c1
    refine ⟨pre ++ [(l + 1,j)] ++ pre',q',?_,w2,w3,?_⟩
    ·show pre ++ [(l + 1,j)] ++ wk (tst (Ae ms f (h + 1)) μ) ms.length f n (chN ms.length f (l + 1) j)=_
     rw [w1,aa2,aa2,aa2]
    ·rcases w4 with ⟨u1,u2⟩ | ⟨u1,u2,u3,u4,u5,u6⟩
     ·obtain ⟨k,x,k1,k2,k3,k4⟩:=(Hb hf μ v1 v2).1 g2
      have:=u2 k x k1 k2 k3
      exact absurd k4 (aa8.mpr this)
     ·refine .inr ⟨u1,u2,?_,?_,u5,fun k x k1 k2 k3=>?_⟩
      ·exact aao z1 u3
      ·exact aas u4 z2
      ·by_cases c:k < j * f ^ (l + 1)
       ·exact z3 k x k1 c k3
       ·exact u6 k x (by omega) k2 k3
  ·rw [g1]
   refine ⟨pre,q,by rw [aaL],v1,v2,.inl ⟨g2,?_⟩⟩
   exact ER hf μ qs a e hv ht (fun q' hq'=>by
    have:=ab1.mp g1 q' hq'
    simpa using this)
end
theorem Q4 {xs:List D} {d:D}:atD (xs ++ [d]) (-1)=.ok d:=by
 unfold atD ixN
 rw [if_neg (by decide),aaC,if_pos (by simp; omega)]
 show (match (xs ++ [d])[((-1:Int) + ((xs.length + [d].length:Nat):Int)).toNat]? with | some d=>Res.ok d | none=>Res.bad)=_
 rw [show ((-1:Int) + ((xs.length + [d].length:Nat):Int)).toNat=xs.length by simp; omega]
 simp
noncomputable def pgD:Option Nat->D
 | none=>.non
 | some k=>.int k
noncomputable def FsA (ms:List Int) (μ:Int) (a:Nat):Option Nat->Prop
 | none=>∀ (k:Nat) (x:Int),a<=k->ms[k]?=some x->x < μ
 | some j=>a<=j/\(∃ x:Int,ms[j]?=some x/\μ<=x)/\∀ (k:Nat) (x:Int),a<=k->k < j->ms[k]?=some x->x < μ
theorem Hc {ms:List Int} {μ:Int} {a:Nat}:∀ {o o':Option Nat},FsA ms μ a o->FsA ms μ a o'->o=o'
 | none,none,_,_=>rfl
 | none,some j,h,⟨h1,⟨x,h2,h3⟩,_⟩=>by have:=h j x h1 h2; exact absurd h3 (aa8.mpr this)
 | some j,none,⟨h1,⟨x,h2,h3⟩,_⟩,h=>by have:=h j x h1 h2; exact absurd h3 (aa8.mpr this)
 | some i,some j,⟨h1,⟨x,h2,h3⟩,h4⟩,⟨g1,⟨y,g2,g3⟩,g4⟩=>by
  rcases Nat.lt_trichotomy i j with c | c | c
  ·have:=g4 i x h1 c h2; exact absurd h3 (aa8.mpr this)
  ·rw [c]
  ·have:=h4 j y g1 c g2; exact absurd g3 (aa8.mpr this)
theorem Lq {a b:Int} (h:a < b):Am a b=.int a :: Am (a + 1) b:=by
 unfold Am
 rw [show (b - a).toNat=(b - (a + 1)).toNat + 1 by omega,abM,aay,aaE]
 congr 1
 ·show D.int (a + 0)=_; rw [Int.add_zero]
 ·apply aaT
  intro k _
  show D.int (a + ((k + 1:Nat):Int))=D.int (a + 1 + (k:Int))
  congr 1
  omega
theorem Lr {a b:Int} (h:b<=a):Am a b=[]:=by
 unfold Am
 rw [show (b - a).toNat=0 by omega]; rfl
theorem IA {rs:List Int} {q:Int} (pg:D):∀ (m a:Nat),rs.length - a=m->a<=rs.length->∀ o3:Option D,∃ o,FsA rs q a o/\∃ o3',AL (.nm 3) (exs Aw) (Am a rs.length) [some (Ad rs),some (.int q),some pg,o3]=match o with
  | some k=>.ret (.int k)
  | none=>.nxt [some (Ad rs),some (.int q),some pg,o3']
 | 0,a,h1,h2,o3=>by
  refine ⟨none,fun k x k1 k2=>?_,o3,?_⟩
  ·have:=(aap.mp k2).1
   omega
  ·rw [Lr (by omega)]; rfl
 | m + 1,a,h1,h2,o3=>by
  have ha:a < rs.length:=by omega
  have hat:=Nr ha
  have hge:rs[a]?=some (rs.getD a 0):=by rw [aaK,aah ha]; rfl
  rw [Lq (by exact abf.mpr ha),AL]
  show ∃ o,FsA rs q a o/\∃ o3',(exs Aw [some (Ad rs),some (.int q),some pg,some (.int a)]).then _=_
  by_cases c:q<=rs.getD a 0
  ·refine ⟨some a,⟨aag _,⟨_,hge,c⟩,fun k x k1 k2=>absurd k1 (by exact absurd k1 (acR.mpr k2))⟩,none,?_⟩
   unfold Ad
   clear hge
   generalize rs.map D.int=R at *
   generalize rs.getD a 0=r at *
   simp_arith [Aw,hat,c]
  ·obtain ⟨o,f1,o3',e⟩:=IA (rs:=rs) (q:=q) pg m (a + 1) (by omega) (by exact ha) (some (.int a))
   have st:exs Aw [some (Ad rs),some (.int q),some pg,some (.int a)]=.nxt [some (Ad rs),some (.int q),some pg,some (.int a)]:=by
    unfold Ad
    clear hge e f1
    generalize rs.map D.int=R at *
    generalize rs.getD a 0=r at *
    simp_arith [Aw,hat,c]
   refine ⟨o,?_,o3',?_⟩
   ·cases o with
    | none =>
     intro k x k1 k2
     by_cases ck:k=a
     ·subst ck; rw [hge] at k2; cases k2; exact aa8.mp c
     ·exact f1 k x (by omega) k2
    | some j =>
     obtain ⟨g1,g2,g3⟩:=f1
     refine ⟨by omega,g2,fun k x k1 k2 k3=>?_⟩
     by_cases ck:k=a
     ·subst ck; rw [hge] at k3; cases k3; omega
     ·exact g3 k x (by omega) k2 k3
   ·rw [st,Out.then_nxt]; exact e
theorem Jz (rs:List Int) (q:Int) {a:Nat} (ha:a<=rs.length):∃ o,FsA rs q a o/\As.den [Ad rs,.int q,.lst (Am a rs.length)]=.ok (pgD o):=by
 obtain ⟨o,h1,o3,e⟩:=IA (rs:=rs) (q:=q) (.lst (Am a rs.length)) _ a rfl ha none
 refine ⟨o,h1,(Dk _ rfl).trans (Aj ?_)⟩
 generalize Ad rs=R at *
 generalize Am a rs.length=G at *
 cases o with
 | none =>
  unfold pgD
  simp_arith [AI,e]
 | some k =>
  unfold pgD
  simp_arith [AI,e]
section
variable {ms:List Int} {f h:Nat} (hf:2<=f) (hf8:f<=8) (H:Hs ms.length f h) (hh:h<=8) (hn:ms.length<=200) (μ:Int)
include hf hf8 H hh hn
theorem IB {a:Nat} (ha:a < ms.length):∃ o,Bm.den [Ab (Ae ms f (h + 1)),.int f,.int μ,.int a]=.ok (pgD o)/\FsA ms μ a o:=by
 have hd:=BM ms f h
 have hw:=Iz hd μ hf hf8 H hh hn (a:=a) (by exact aax ha)
 have ht:=Jb (p:=ms.length) (f:=f) (h:=h) (e:=ms.length) (by omega) (aag _) 200 a (by omega) (by exact aax ha)
 have hv:=FI (p:=ms.length) (f:=f) (h:=h) (e:=ms.length) (by omega) (aag _) 200 a
 have hne:cov ms.length f h ms.length 200 a ≠ []:=by
  rw [cov,if_pos ha]
  exact List.cons_ne_nil _ _
 obtain ⟨pre,⟨l,j⟩,w1,w2,w3,w4⟩:=Lb (ms:=ms) (h:=h) hf μ (h + 1) _ a ms.length hv (fun q hq=>by
  have:=(hv q hq).1
  exact abg this) ht hne
 have w1:wkD (Ae ms f (h + 1)) ms.length f h μ a=pre ++ [(l,j)]:=w1
 rw [w1,aat] at hw
 have hw:Do.den [Ab (Ae ms f (h + 1)),.int f,.int μ,.int a]=.ok (.lst (pre.map Ac ++ [.tup [.int l,.int j]])):=hw
 have htl:=E9 hd w2 w3
 unfold Ah at htl
 have hm:=Q4 (xs:=pre.map Ac) (d:=.tup [.int l,.int j])
 have hnil:=CC (pre.map Ac ++ [.tup [.int l,.int j]]) (by
  rw [aaA]
  intro d hd
  rcases aai.mp hd with hd | hd
  ·obtain ⟨q,_,rfl⟩:=aaD.mp hd
   rfl
  ·rw [aaN.mp hd]; rfl)
 rw [show (pre.map Ac ++ [D.tup [.int l,.int j]]).isEmpty=false by cases pre <;> rfl] at hnil
 refine ⟨if tst (Ae ms f (h + 1)) μ (l,j)=true then some j else none,(JG _ rfl).trans (Aj ?_),?_⟩
 ·have hts:tst (Ae ms f (h + 1)) μ (l,j)=decide (μ<=tl (Ae ms f (h + 1)) l j):=rfl
  rw [hts]
  clear w4 hts w1 hd
  generalize tl (Ae ms f (h + 1)) l j=x at *
  generalize Ab (Ae ms f (h + 1))=T at *
  generalize pre.map Ac ++ [D.tup [.int l,.int j]]=W at *
  by_cases c:μ<=x
  ·rw [if_pos (decide_eq_true c)]
   have c':¬ x < μ:=by exact acw.mpr c
   unfold pgD
   simp_arith [Cw,hw,hnil,hm,htl,c']
  ·rw [if_neg (by rw [decide_eq_true_eq]; exact c)]
   have c':x < μ:=by exact aa8.mp c
   unfold pgD
   simp_arith [Cw,hw,hnil,hm,htl,c']
 ·rcases w4 with ⟨u1,u2⟩ | ⟨u1,u2,u3,u4,u5,u6⟩
  ·rw [u1,if_neg (by decide)]
   intro k x ha hk
   exact u2 k x ha ((aap.mp hk).1) hk
  ·rw [u2,if_pos rfl]
   exact ⟨u3,u5,u6⟩
theorem Ho {a:Nat} (ha:a < ms.length):∃ o,AZ.den [Ab (Ae ms f (h + 1)),.int f,.int μ,.int a]=.ok (pgD o)/\FsA ms μ a o:=by
 obtain ⟨o,h1,h2⟩:=IB hf hf8 H hh hn μ ha
 refine ⟨o,(Ng _ rfl).trans (Aj ?_),h2⟩
 have hs:=DH (BM ms f h)
 have hb:=DT (a:Int) 0 ((ms.length:Int) - 1)
 rw [decide_eq_true (by omega)] at hb
 have hc:D9.den [shD ms.length f,.int a]=.ok .non:=by
  refine (JF _ rfl).trans ?_
  unfold shD
  simp_arith [DB,hb,run]
 clear h2
 generalize Ab (Ae ms f (h + 1))=T at *
 generalize shD ms.length f=s at *
 generalize pgD o=d at *
 simp_arith [E6,hs,hc,h1]
theorem O0 {a:Nat} (ha:a < ms.length):∃ o o1,FsA ms μ a o/\FsA ms μ 0 o1/\AZ.den [Ab (Ae ms f (h + 1)),.int f,.int μ,.int a]=.ok (pgD o)/\B8.den [Ab (Ae ms f (h + 1)),.int f,.int μ,.int a]=.ok (pgD (match o with | none=>o1 | some k=>some k)):=by
 obtain ⟨o,h1,h2⟩:=Ho hf hf8 H hh hn μ ha
 obtain ⟨o1,g1,g2⟩:=IB hf hf8 H hh hn μ (a:=0) (by omega)
 have g1:Bm.den [Ab (Ae ms f (h + 1)),.int f,.int μ,.int 0]=.ok (pgD o1):=g1
 refine ⟨o,o1,h2,g2,h1,(JH _ rfl).trans (Aj ?_)⟩
 have h5:Cy.den [Ab (Ae ms f (h + 1)),.int f,.int μ]=.ok (pgD o1):=by
  refine (Hz _ rfl).trans (Aj ?_)
  generalize Ab (Ae ms f (h + 1))=T at *
  generalize pgD o1=d at *
  simp_arith [Ez,g1]
 clear h2 g2
 generalize Ab (Ae ms f (h + 1))=T at *
 cases o with
 | none =>
  have h1:AZ.den [T,.int f,.int μ,.int a]=.ok .non:=h1
  show _=Out.ret (pgD o1)
  generalize pgD o1=d at *
  simp_arith [CA,h1,h5]
 | some k =>
  have h1:AZ.den [T,.int f,.int μ,.int a]=.ok (.int k):=h1
  show _=Out.ret (.int k)
  simp_arith [CA,h1]
end
noncomputable def LsA (ms:List Int) (μ:Int) (e:Nat):Option Nat->Prop
 | none=>∀ (k:Nat) (x:Int),k < e->ms[k]?=some x->x < μ
 | some j=>j < e/\(∃ x:Int,ms[j]?=some x/\μ<=x)/\∀ (k:Nat) (x:Int),j < k->k < e->ms[k]?=some x->x < μ
section
variable {ms:List Int} {f h:Nat} (hf:2<=f) (μ:Int)
include hf
theorem GK:∀ (qs:List Nd) (a e:Nat) (q:Nd),Val ms.length f h qs->Til ms.length f qs a e->qs.reverse.find? (tst (Ae ms f (h + 1)) μ)=some q->q ∈ qs/\tst (Ae ms f (h + 1)) μ q=true/\a<=q.2 * f ^ q.1/\min ms.length (q.2 * f ^ q.1 + f ^ q.1)<=e/\∀ k x,min ms.length (q.2 * f ^ q.1 + f ^ q.1)<=k->k < e->ms[k]?=some x->x < μ
 | [],a,e,q,_,_,h=>nomatch h
 | q0 :: r,a,e,q,hv,ht,hq=>by
  obtain ⟨t1,t2⟩:=ht
  obtain ⟨v1,v2⟩:=hv q0 aac
  have hlt:=(BL (show 1<=f by exact aax hf)).mp v2
  have hv':Val ms.length f h r:=fun q' h=>hv q' (aaa _ h)
  have hle:=K9 hf r _ e hv' t2
  rw [ab4,List.find?_append] at hq
  cases c:r.reverse.find? (tst (Ae ms f (h + 1)) μ) with
  | some q1 =>
   rw [c,Option.some_or] at hq
   cases hq
   obtain ⟨z0,z00,z1,z2,z3⟩:=GK r _ e q hv' t2 c
   exact ⟨aaa _ z0,z00,by omega,z2,z3⟩
  | none =>
   rw [c,Option.none_or] at hq
   by_cases c2:tst (Ae ms f (h + 1)) μ q0=true
   ·rw [abj c2] at hq
    cases hq
    refine ⟨aac,c2,by exact abr t1.symm,hle,?_⟩
    exact ER hf μ r _ e hv' t2 (fun q' hq'=>by
     have:=ab1.mp c q' (abm.mpr hq')
     simpa using this)
   ·rw [abk c2] at hq
    cases hq
end
section
variable {tr:List (List Int)} {p f h:Nat} (hd:Dim tr p f h) (need:Int)
include hd
theorem Mv (nodes:D):∀ (qs:List Nd) (o3:Option D),Val p f h qs->∃ o3',AL (.nm 3) (exs AG) (qs.map Ac) [some (Ab tr),some (.int need),some nodes,o3]=match qs.find? (tst tr need) with
  | some q=>.ret (Ac q)
  | none=>.nxt [some (Ab tr),some (.int need),some nodes,o3']
 | [],o3,_=>⟨o3,rfl⟩
 | q :: r,o3,hv=>by
  have hv0:=hv q aac
  have ht:=E9 hd hv0.1 hv0.2
  rw [aay,AL]
  show ∃ o3',(exs AG [some (Ab tr),some (.int need),some nodes,some (Ac q)]).then _=_
  by_cases hq:tst tr need q=true
  ·have hq':need<=tl tr q.1 q.2:=of_decide_eq_true hq
   have e:exs AG [some (Ab tr),some (.int need),some nodes,some (Ac q)]=.ret (Ac q):=by
    unfold Ac at *
    simp_arith [AG,ht,hq']
   rw [e,abj hq]
   exact ⟨none,rfl⟩
  ·have hq':¬ need<=tl tr q.1 q.2:=fun z=>hq (decide_eq_true z)
   have e:exs AG [some (Ab tr),some (.int need),some nodes,some (Ac q)]=.nxt [some (Ab tr),some (.int need),some nodes,some (Ac q)]:=by
    unfold Ac at *
    simp_arith [AG,ht,hq']
   rw [e,abk hq,Out.then_nxt]
   exact Mv nodes r (some (Ac q)) (fun x hx=>hv x (aaa _ hx))
theorem O1 {qs:List Nd} (hv:Val p f h qs):Ba.den [Ab tr,.int need,.lst (qs.map Ac)]=.ok (HG (qs.reverse.find? (tst tr need))):=by
 obtain ⟨o3,e⟩:=Mv hd need (.lst (qs.map Ac)) qs.reverse none (fun q hq=>hv q (abm.mp hq))
 rw [acy] at e
 have hrv:Uo (.lst (qs.map Ac))=.ok (qs.map Ac).reverse:=rfl
 refine (IQ _ rfl).trans (Aj ?_)
 cases q:qs.reverse.find? (tst tr need) with
 | some w =>
  rw [q] at e
  unfold HG
  have e:AL (.nm 3) (exs AG) (qs.map Ac).reverse [some (Ab tr),some (.int need),some (.lst (qs.map Ac)),none]=.ret (Ac w):=e
  generalize (qs.map Ac).reverse=R at *
  generalize qs.map Ac=Q at *
  simp_arith [B7,hrv,e]
 | none =>
  rw [q] at e
  unfold HG
  have e:AL (.nm 3) (exs AG) (qs.map Ac).reverse [some (Ab tr),some (.int need),some (.lst (qs.map Ac)),none]=.nxt [some (Ab tr),some (.int need),some (.lst (qs.map Ac)),o3]:=e
  generalize (qs.map Ac).reverse=R at *
  generalize qs.map Ac=Q at *
  simp_arith [B7,hrv,e]
end
noncomputable def NrA (ms:List Int) (μ:Int) (a:Nat):Option Nat->Prop
 | none=>∀ (k:Nat) (x:Int),ms[k]?=some x->x < μ
 | some j=>(∃ x:Int,ms[j]?=some x/\μ<=x)/\∀ (k:Nat) (x:Int),ms[k]?=some x->μ<=x->(a - j) + (j - a) < (a - k) + (k - a)\/((a - j) + (j - a)=(a - k) + (k - a)/\j<=k)
theorem Q5 {a k i:Nat} (h1:a<=k) (h2:k<=i):(a - k) + (k - a) < (a - i) + (i - a)\/((a - k) + (k - a)=(a - i) + (i - a)/\k<=i):=by
 rw [aaS h1,aaS (aao h1 h2),aaJ,aaJ]
 exact (acq (acS h2 a)).imp_right fun e=>⟨e,h2⟩
theorem Q6 {a j i:Nat} (h1:j < a + 1) (h2:i<=j):(a - j) + (j - a) < (a - i) + (i - a)\/((a - j) + (j - a)=(a - i) + (i - a)/\j<=i):=by
 have h1:j<=a:=aaH h1
 rw [aaS h1,aaS (aao h2 h1),acB,acB]
 rcases acq h2 with h | h
 ·exact .inl (Nat.sub_lt_sub_left (aas h h1) h)
 ·exact .inr ⟨by rw [h],abr h.symm⟩
theorem Vd {a j k:Nat} (h1:a<=k) (h2:j<=a):(k:Int) - a < (a:Int) - j ↔ k - a < a - j:=by omega
theorem Wr {a j k i:Nat} (c:(k:Int) - a < (a:Int) - j) (h1:a<=k) (h0:j < a + 1) (h:i<=j\/k<=i):(a - k) + (k - a) < (a - i) + (i - a)\/((a - k) + (k - a)=(a - i) + (i - a)/\k<=i):=by
 rcases h with h | h
 ·have h0:j<=a:=aaH h0
  have c:=(Vd h1 h0).mp c
  left
  rw [aaS h1,aaJ,aaS (aao h h0),acB]
  exact aas c (Nat.sub_le_sub_left h a)
 ·exact Q5 h1 h
theorem Ws {a j k i:Nat} (c:¬ (k:Int) - a < (a:Int) - j) (h1:a<=k) (h0:j < a + 1) (h:i<=j\/k<=i):(a - j) + (j - a) < (a - i) + (i - a)\/((a - j) + (j - a)=(a - i) + (i - a)/\j<=i):=by
 rcases h with h | h
 ·exact Q6 h0 h
 ·have h0:j<=a:=aaH h0
  have c:=ab3.mp fun z=>c ((Vd h1 h0).mpr z)
  have hai:=aao h1 h
  rw [aaS h0,acB,aaS hai,aaJ]
  exact (acq (aao c (acS h a))).imp_right fun e=>⟨e,aao h0 hai⟩
theorem GM {x q:Int} {P:Prop} (h:x < q) (h2:q<=x):P:=absurd h (acw.mpr h2)
noncomputable def DU (a:Nat):Option Nat->Option Nat->Option Nat
 | none,ob=>ob
 | some j,none=>some j
 | some j,some k=>if (k:Int) - a < (a:Int) - j then some k else some j
theorem Mw {rs:List Int} {q:Int} {a m:Nat} (m0:a<=m) (m1:m<=a + 1):∀ {oB ob:Option Nat},LsA rs q m oB->FsA rs q a ob->NrA rs q a (DU a oB ob)
 | none,none,h1,h2=>fun k x hk=>(aa4 k m).elim (fun c=>h1 k x c hk) fun c=>h2 k x (aao m0 c) hk
 | none,some k,h1,⟨g1,g2,g3⟩=>⟨g2,fun i y hy hq=>(aa4 i m).elim (fun c=>GM (h1 i y c hy) hq) fun c=>(aa4 i k).elim (fun c2=>GM (g3 i y (aao m0 c) c2 hy) hq) fun c2=>Q5 g1 c2⟩
 | some j,none,⟨h1,h2,h3⟩,g=>⟨h2,fun i y hy hq=>(aa4 i a).elim (fun c=>(aa4 j i).elim (fun c2=>GM (h3 i y c2 (aas c m0) hy) hq) fun c2=>Q6 (aas h1 m1) c2) fun c=>GM (g i y c hy) hq⟩
 | some j,some k,⟨h1,h2,h3⟩,⟨g1,g2,g3⟩=>by
  have far:∀ i y,rs[i]?=some y->q<=y->i<=j\/k<=i:=fun i y hy hq=>(aa4 i a).elim (fun c=>(aa4 j i).elim (fun c2=>GM (h3 i y c2 (aas c m0) hy) hq) fun c2=>.inl c2) fun c=>(aa4 i k).elim (fun c2=>GM (g3 i y c c2 hy) hq) fun c2=>.inr c2
  show NrA rs q a (if (k:Int) - a < (a:Int) - j then some k else some j)
  split
  ·exact ⟨g2,fun i y hy hq=>Wr ‹_› g1 (aas h1 m1) (far i y hy hq)⟩
  ·exact ⟨h2,fun i y hy hq=>Ws ‹_› g1 (aas h1 m1) (far i y hy hq)⟩
section
variable {ms:List Int} {f h:Nat} (hf:2<=f) (hf8:f<=8) (H:Hs ms.length f h) (hh:h<=8) (hn:ms.length<=200) (μ:Int)
include hf hf8 H hh hn
theorem Mx (b:D) {e:Nat}:∀ (n l j m:Nat),l<=n->n < m->l<=h->j < cnt ms.length f l->tst (Ae ms f (h + 1)) μ (l,j)=true->min ms.length (j * f ^ l + f ^ l)<=e->(∀ k x,min ms.length (j * f ^ l + f ^ l)<=k->k < e->ms[k]?=some x->x < μ)->∃ j',LsA ms μ e (some j')/\AY (tv (.bo true (.cons (.isN true (.nm 5)) (.cons (.cmp .gt (.ix (.nm 5) (.cI 0)) (.cI 0)) .nil)))) (exs Cl) m [some (Ab (Ae ms f (h + 1))),some (.int f),some (.int μ),some b,some (shD ms.length f),some (.tup [.int l,.int j])]=.nxt [some (Ab (Ae ms f (h + 1))),some (.int f),some (.int μ),some b,some (shD ms.length f),some (.tup [.int 0,.int j'])]
 | n,0,j,m + 1,_,_,hl,hj,ht,he,hx=>by
  refine ⟨j,?_,?_⟩
  ·obtain ⟨k,x,k1,k2,k3,k4⟩:=(Hb hf μ (q:=(0,j)) hl hj).1 ht
   simp only [ab0,ac7] at k1 k2 he hx
   have:k=j:=by omega
   subst this
   exact ⟨by exact aao k2 he,⟨x,k3,k4⟩,fun i y i1 i2 i3=>hx i y (by omega) i2 i3⟩
  ·rw [show ((0:Nat):Int)=0 from rfl]
   generalize Ab (Ae ms f (h + 1))=T
   have c0:¬ (0:Int) < 0:=by decide
   exact CT (by simp_arith [c0])
 | n + 1,l + 1,j,m + 1,hln,hnm,hl,hj,ht,he,hx=>by
  obtain ⟨c1,c2⟩:=OZ (p:=ms.length) (f:=f) (l:=l) (j:=j) (by omega) hj
  have hv:=Iy (p:=ms.length) (f:=f) (h:=h) (l:=l + 1) (j:=j) hl
  have hle:=O1 (BM ms f h) μ hv
  have hch:=GI hf hf8 H hh hn hl hj
  cases q:(chN ms.length f (l + 1) j).reverse.find? (tst (Ae ms f (h + 1)) μ) with
  | none =>
   obtain ⟨k,x,k1,k2,k3,k4⟩:=(Hb hf μ (q:=(l + 1,j)) hl hj).1 ht
   have:=ER hf μ _ _ _ hv c2 (fun q' hq'=>by
    have:=ab1.mp q q' (abm.mpr hq')
    simpa using this) k x k1 k2 k3
   exact absurd k4 (aa8.mpr this)
  | some w =>
   obtain ⟨l',j'⟩:=w
   obtain ⟨z0,z00,z1,z2,z3⟩:=GK hf μ _ _ _ _ hv c2 q
   obtain ⟨v1,v2⟩:=hv _ z0
   have hlv:=JW _ z0
   simp only at z1 z2 z3 v1 v2 hlv
   obtain ⟨i,g1,g2⟩:=Mx (e:=e) b n l' j' m (by exact aao (aaH hlv) (aaH hln)) (by exact aaH hnm) v1 v2 z00 (by exact aao z2 he) (fun k x k1 k2 k3=>by
    by_cases ck:k < min ms.length (j * f ^ (l + 1) + f ^ (l + 1))
    ·exact z3 k x k1 ck k3
    ·exact hx k x (by exact ab3.mp ck) k2 k3)
   refine ⟨i,g1,?_⟩
   rw [q] at hle
   have hle:Ba.den [Ab (Ae ms f (h + 1)),.int μ,.lst ((chN ms.length f (l + 1) j).map Ac)]=.ok (.tup [.int l',.int j']):=hle
   have hch:Cc.den [shD ms.length f,.tup [.int ((l + 1:Nat):Int),.int j]]=.ok (.lst ((chN ms.length f (l + 1) j).map Ac)):=hch
   have c0:(0:Int) < ((l + 1:Nat):Int):=by omega
   rw [<- g2]
   clear g1 g2 z3 z1 z2 hx he ht
   generalize (chN ms.length f (l + 1) j).map Ac=C at *
   generalize Ab (Ae ms f (h + 1))=T at *
   generalize shD ms.length f=s at *
   generalize ((l + 1:Nat):Int)=L at *
   exact DG (by simp_arith [c0]) (by simp_arith [Cl,hch,hle])
theorem FJ {e:Nat} (he:e<=ms.length):∃ o,Bo.den [Ab (Ae ms f (h + 1)),.int f,.int μ,.int e]=.ok (pgD o)/\LsA ms μ e o:=by
 have hs:=DH (BM ms f h)
 have hc:=Jv hf hf8 H hh (aar e) he hn
 have ht:=Jb (p:=ms.length) (f:=f) (h:=h) (e:=e) (by omega) he 200 0 (by exact aao he hn) (by exact aar _)
 have hv:=FI (p:=ms.length) (f:=f) (h:=h) (e:=e) (by omega) he 200 0
 have hle:=O1 (BM ms f h) μ hv
 have hc:EH.den [shD ms.length f,.int 0,.int e]=.ok (.lst ((cov ms.length f h e 200 0).map Ac)):=hc
 cases q:(cov ms.length f h e 200 0).reverse.find? (tst (Ae ms f (h + 1)) μ) with
 | none =>
  refine ⟨none,(F8 _ rfl).trans (Aj ?_),fun k x k1 k2=>ER hf μ _ _ _ hv ht (fun q' hq'=>by
    have:=ab1.mp q q' (abm.mpr hq')
    simpa using this) k x (by exact aar _) k1 k2⟩
  rw [q] at hle
  have hle:Ba.den [Ab (Ae ms f (h + 1)),.int μ,.lst ((cov ms.length f h e 200 0).map Ac)]=.ok .non:=hle
  clear ht hv q
  show _=Out.ret .non
  generalize (cov ms.length f h e 200 0).map Ac=C at *
  generalize Ab (Ae ms f (h + 1))=T at *
  generalize shD ms.length f=s at *
  have hw:AY (tv (.bo true (.cons (.isN true (.nm 5)) (.cons (.cmp .gt (.ix (.nm 5) (.cI 0)) (.cI 0)) .nil)))) (exs Cl) FU [some T,some (.int f),some (.int μ),some (.int e),some s,some .non]=.nxt [some T,some (.int f),some (.int μ),some (.int e),some s,some .non]:=by
   unfold FU
   exact CT (by simp_arith [])
  simp_arith [Cz,hs,hc,hle,hw]
 | some w =>
  obtain ⟨l,j⟩:=w
  obtain ⟨z0,z00,z1,z2,z3⟩:=GK hf μ _ _ _ _ hv ht q
  obtain ⟨v1,v2⟩:=hv _ z0
  obtain ⟨i,g1,g2⟩:=Mx hf hf8 H hh hn μ (e:=e) (.int e) l l j FU (aag _) (by simp only at v1; unfold FU; omega) v1 v2 z00 z2 z3
  refine ⟨some i,(F8 _ rfl).trans (Aj ?_),g1⟩
  rw [q] at hle
  have hle:Ba.den [Ab (Ae ms f (h + 1)),.int μ,.lst ((cov ms.length f h e 200 0).map Ac)]=.ok (.tup [.int l,.int j]):=hle
  clear ht hv q g1 z0 z00 z1 z2 z3 v1 v2
  show _=Out.ret (.int i)
  generalize (cov ms.length f h e 200 0).map Ac=C at *
  generalize Ab (Ae ms f (h + 1))=T at *
  generalize shD ms.length f=s at *
  simp_arith [Cz,hs,hc,hle,g2]
theorem QI {a:Nat} (ha:a < ms.length):∃ o,G5.den [Ab (Ae ms f (h + 1)),.int f,.int μ,.int a]=.ok (pgD o)/\NrA ms μ a o:=by
 obtain ⟨ob,hb,FB⟩:=Ho hf hf8 H hh hn μ ha
 obtain ⟨oa,h1,FA⟩:=FJ hf hf8 H hh hn μ (e:=a) (aax ha)
 refine ⟨DU a oa ob,?_,Mw (aag _) (ab7 _) FA FB⟩
 clear FA FB hf hf8 H hh hn ha
 generalize Ab (Ae ms f (h + 1))=T at *
 refine (SM _ rfl).trans (Aj ?_)
 match oa,ob,h1,hb with
 | none,ob,h1,hb =>
  have h1:Bo.den [T,.int f,.int μ,.int a]=.ok .non:=h1
  show _=Out.ret (pgD ob)
  generalize pgD ob=B at *
  simp_arith [EL,hb,h1]
 | some i,none,h1,hb =>
  have h1:Bo.den [T,.int f,.int μ,.int a]=.ok (.int i):=h1
  have hb:AZ.den [T,.int f,.int μ,.int a]=.ok .non:=hb
  show _=Out.ret (.int i)
  simp_arith [EL,hb,h1]
 | some i,some j,h1,hb =>
  have h1:Bo.den [T,.int f,.int μ,.int a]=.ok (.int i):=h1
  have hb:AZ.den [T,.int f,.int μ,.int a]=.ok (.int j):=hb
  show _=Out.ret (pgD (if (j:Int) - a < (a:Int) - i then some j else some i))
  by_cases cc:(j:Int) - a < (a:Int) - i
  ·have c2:=aa8.mpr cc
   rw [if_pos cc]
   show _=Out.ret (.int j)
   simp_arith [EL,hb,h1,c2]
  ·have c2:=acw.mp cc
   rw [if_neg cc]
   show _=Out.ret (.int i)
   simp_arith [EL,hb,h1,c2]
end
theorem S9 {ms:List Int} {μ:Int} {e:Nat}:∀ {o o':Option Nat},LsA ms μ e o->LsA ms μ e o'->o=o'
 | none,none,_,_=>rfl
 | none,some j,h,⟨h1,⟨x,h2,h3⟩,_⟩=>by have:=h j x h1 h2; exact absurd h3 (aa8.mpr this)
 | some j,none,⟨h1,⟨x,h2,h3⟩,_⟩,h=>by have:=h j x h1 h2; exact absurd h3 (aa8.mpr this)
 | some i,some j,⟨h1,⟨x,h2,h3⟩,h4⟩,⟨g1,⟨y,g2,g3⟩,g4⟩=>by
  rcases Nat.lt_trichotomy i j with c | c | c
  ·have:=h4 j y c g1 g2; exact absurd g3 (aa8.mpr this)
  ·rw [c]
  ·have:=g4 i x c h1 h2; exact absurd h3 (aa8.mpr this)
section
variable {ms:List Int} {f h:Nat} (hf:2<=f) (hf8:f<=8) (H:Hs ms.length f h) (hh:h<=8) (hn:ms.length<=200) (hn1:1<=ms.length) (μ:Int)
include hf hf8 H hh hn hn1
theorem Nv:∃ o,Cy.den [Ab (Ae ms f (h + 1)),.int f,.int μ]=.ok (pgD o)/\FsA ms μ 0 o:=by
 obtain ⟨o1,g1,g2⟩:=IB hf hf8 H hh hn μ (a:=0) (by omega)
 have g1:Bm.den [Ab (Ae ms f (h + 1)),.int f,.int μ,.int 0]=.ok (pgD o1):=g1
 refine ⟨o1,(Hz _ rfl).trans (Aj ?_),g2⟩
 generalize Ab (Ae ms f (h + 1))=T at *
 generalize pgD o1=d at *
 simp_arith [Ez,g1]
theorem O2:∃ o,G4.den [Ab (Ae ms f (h + 1)),.int f,.int μ]=.ok (pgD o)/\LsA ms μ ms.length o:=by
 obtain ⟨o1,g1,g2⟩:=FJ hf hf8 H hh hn μ (aag _)
 have hs:=DH (BM ms f h)
 refine ⟨o1,(SL _ rfl).trans (Aj ?_),g2⟩
 unfold shD at hs
 generalize Ab (Ae ms f (h + 1))=T at *
 generalize pgD o1=d at *
 simp_arith [Im,hs,g1]
end
theorem Ta (m:Nat):BE (((m + 1:Nat):Int) - 1) (-1) (m + 1)=.int m :: BE ((m:Int) - 1) (-1) m:=by
 unfold BE
 rw [abM,aay,aaE]
 congr 1
 ·congr 1; omega
 ·apply aaT
  intro k _
  show D.int ((((m + 1:Nat):Int) - 1) + ((k + 1:Nat):Int) * (-1))=D.int (((m:Int) - 1) + (k:Int) * (-1))
  congr 1
  omega
theorem My {n:Nat} (hn:n<=200):Ul (.int ((n:Int) - 1)) (.int (-1)) (.int (-1))=.ok (BE ((n:Int) - 1) (-1) n):=by
 have e:r3N ((n:Int) - 1) (-1) (-1)=n:=by
  unfold r3N
  rw [if_neg (by decide),show (-(-1):Int)=1 from rfl,Int.ediv_one]; omega
 show (if (AD ((n:Int) - 1) && AD (-1) && AD (-1) && decide ((-1:Int) ≠ 0) && decide (r3N ((n:Int) - 1) (-1) (-1)<=LIM))=true then Res.ok (BE ((n:Int) - 1) (-1) (r3N ((n:Int) - 1) (-1) (-1))) else .bad)=_
 rw [e,if_pos]
 have h1:AD ((n:Int) - 1)=true:=by
  unfold AD
  rw [aaf,decide_eq_true_eq,decide_eq_true_eq]
  omega
 have h2:decide (n<=LIM)=true:=decide_eq_true (by unfold LIM; omega)
 rw [h1,h2]; rfl
theorem Fm {rs:List Int} {q:Int} (pg:D):∀ (m:Nat),m<=rs.length->∀ o3:Option D,∃ o,LsA rs q m o/\∃ o3',AL (.nm 3) (exs Aw) (BE ((m:Int) - 1) (-1) m) [some (Ad rs),some (.int q),some pg,o3]=match o with
  | some k=>.ret (.int k)
  | none=>.nxt [some (Ad rs),some (.int q),some pg,o3']
 | 0,h2,o3=>⟨none,fun k x k1 k2=>absurd k1 (by exact absurd k1 (acF _)),o3,rfl⟩
 | m + 1,h2,o3=>by
  have ha:m < rs.length:=by exact h2
  have hat:=Nr ha
  have hge:rs[m]?=some (rs.getD m 0):=by rw [aaK,aah ha]; rfl
  rw [Ta,AL]
  show ∃ o,LsA rs q (m + 1) o/\∃ o3',(exs Aw [some (Ad rs),some (.int q),some pg,some (.int m)]).then _=_
  by_cases c:q<=rs.getD m 0
  ·refine ⟨some m,⟨by exact aag _,⟨_,hge,c⟩,fun k x k1 k2=>absurd k1 (by exact absurd k1 (acR.mpr k2))⟩,none,?_⟩
   unfold Ad
   clear hge
   generalize rs.map D.int=R at *
   generalize rs.getD m 0=r at *
   simp_arith [Aw,hat,c]
  ·obtain ⟨o,f1,o3',e⟩:=Fm (rs:=rs) (q:=q) pg m (by exact aax h2) (some (.int m))
   have st:exs Aw [some (Ad rs),some (.int q),some pg,some (.int m)]=.nxt [some (Ad rs),some (.int q),some pg,some (.int m)]:=by
    unfold Ad
    clear hge e f1
    generalize rs.map D.int=R at *
    generalize rs.getD m 0=r at *
    simp_arith [Aw,hat,c]
   refine ⟨o,?_,o3',?_⟩
   ·cases o with
    | none =>
     intro k x k1 k2
     by_cases ck:k=m
     ·subst ck; rw [hge] at k2; cases k2; exact aa8.mp c
     ·exact f1 k x (by omega) k2
    | some j =>
     obtain ⟨g1,g2,g3⟩:=f1
     refine ⟨by omega,g2,fun k x k1 k2 k3=>?_⟩
     by_cases ck:k=m
     ·subst ck; rw [hge] at k3; cases k3; omega
     ·exact g3 k x k1 (by omega) k3
   ·rw [st,Out.then_nxt]; exact e
theorem Nw (rs:List Int) (q:Int):∃ o,LsA rs q rs.length o/\As.den [Ad rs,.int q,.lst (BE ((rs.length:Int) - 1) (-1) rs.length)]=.ok (pgD o):=by
 obtain ⟨o,h1,o3,e⟩:=Fm (rs:=rs) (q:=q) (.lst (BE ((rs.length:Int) - 1) (-1) rs.length)) rs.length (aag _) none
 refine ⟨o,h1,(Dk _ rfl).trans (Aj ?_)⟩
 generalize Ad rs=R at *
 generalize BE ((rs.length:Int) - 1) (-1) rs.length=G at *
 cases o with
 | none =>
  unfold pgD
  simp_arith [AI,e]
 | some k =>
  unfold pgD
  simp_arith [AI,e]
noncomputable def Bc (rs:List Int) (q:Int):List Int:=rs.filter fun x=>decide (q<=x)
theorem Jc {v:Int}:∀ {ns:List Int},v ∈ ns->∃ j,Cj v ns=some j
 | [],h=>nomatch h
 | x :: r,h=>by
  rw [Cj]
  by_cases c:x=v
  ·exact ⟨0,by rw [if_pos c]⟩
  ·rw [if_neg c]
   rcases aal.mp h with rfl | h
   ·exact absurd rfl c
   ·obtain ⟨j,e⟩:=Jc h
    exact ⟨j + 1,by rw [e]; rfl⟩
theorem O3 {v:Int}:∀ {ns:List Int} {j:Nat},Cj v ns=some j->ns[j]?=some v/\∀ m,m < j->ns[m]? ≠ some v
 | [],j,h=>nomatch h
 | x :: r,j,h=>by
  rw [Cj] at h
  split at h
  ·rename_i c
   cases h
   exact ⟨by rw [c]; rfl,fun m hm=>absurd hm (by exact absurd hm (acF _))⟩
  ·rename_i c
   obtain ⟨i,h1,rfl⟩:=aau.mp h
   obtain ⟨h2,h3⟩:=O3 h1
   refine ⟨by simpa using h2,fun m hm=>?_⟩
   cases m with
   | zero=>intro z; cases z; exact c rfl
   | succ m =>
    have:=h3 m (by exact aaH hm)
    simpa using this
theorem Lc {rs:List Int} {v:Int} {j:Nat} (h:Cj v rs=some j):mtD .index (.lst (rs.map .int)) [.int v]=.ok (.int j):=by
 show (Bu (Bf (rs.map .int))).bind _=_
 rw [B0]
 show (Bu (Cj v rs)).bind _=_
 rw [h]; rfl
theorem HH (xs:List Int):(xs.map D.int).all (D.shp 7)=true:=by
 rw [aaA]
 intro d hd
 obtain ⟨x,rfl⟩:=CQ hd
 rfl
theorem Tb {rs:List Int} {M:Int} {j:Nat} (hM:∀ x ∈ rs,x<=M) (hj:Cj M rs=some j):FsA rs M 0 (some j):=by
 obtain ⟨h1,h2⟩:=O3 hj
 refine ⟨aar _,⟨M,h1,Int.le_refl _⟩,fun k x _ hk hx=>?_⟩
 have:=hM x (aae hx)
 have:x ≠ M:=fun z=>h2 k hk (z ▸ hx)
 omega
theorem a1z (a:D):atD [a] 0=.ok a:=rfl
section
variable {rs:List Int} {f h:Nat} (hf:2<=f) (hf8:f<=8) (H:Hs rs.length f h) (hh:h<=8) (hn:rs.length<=200)
include hf hf8 H hh hn
theorem Ve:Cd.den [Ab (Ae rs f (h + 1))]=.ok (Ad rs):=by
 have:=GH (BM rs f h)
 rw [this]
 congr 1
 have e1:(Ae rs f (h + 1)).getD 0 []=Bh rs f 0 (cnt rs.length f 0):=by
  unfold Ae
  rw [aaK,aam,acn (by omega)]; rfl
 rw [e1,QH]
theorem Wt:∃ m:Int,Fk.den [Ab (Ae rs f (h + 1))]=.ok (.int m)/\m ∈ rs/\∀ x ∈ rs,x<=m:=by
 have h1:=H.one
 have h0:0 < cnt rs.length f h:=by exact abr h1.symm
 have hp:=(BL (show 1<=f by omega)).mp h0
 have hp2:¬ 1 * f ^ h < rs.length:=fun z=>by
  have:=(BL (show 1<=f by omega)).mpr z
  omega
 rw [Nat.one_mul] at hp2
 obtain ⟨⟨k,k1,k2,k3⟩,hall⟩:=Q3 (rs:=rs) (a:=0 * f ^ h) (b:=min rs.length (0 * f ^ h + f ^ h)) (by omega) (by omega)
 refine ⟨mxR rs (0 * f ^ h) (min rs.length (0 * f ^ h + f ^ h)),?_,aae k3,fun x hx=>?_⟩
 ·have et:(Ae rs f (h + 1)).map Ad=(Ae rs f h).map Ad ++ [.lst [.int (mxR rs (0 * f ^ h) (min rs.length (0 * f ^ h + f ^ h)))]]:=by
   rw [Jw,aat,h1]; rfl
  have hm:=Q4 (xs:=(Ae rs f h).map Ad) (d:=.lst [.int (mxR rs (0 * f ^ h) (min rs.length (0 * f ^ h + f ^ h)))])
  have hne:=CC ((Ae rs f (h + 1)).map Ad) (EQ _)
  rw [I0 (BM rs f h)] at hne
  rw [<- et] at hm
  refine (Ln _ rfl).trans (Aj ?_)
  unfold Ab
  clear et
  generalize (Ae rs f (h + 1)).map Ad=w at *
  generalize mxR rs (0 * f ^ h) (min rs.length (0 * f ^ h + f ^ h))=x at *
  simp_arith [El,hne,hm,a1z]
 ·obtain ⟨i,hi⟩:=abt hx
  have:=(aap.mp hi).1
  exact hall i x (by omega) (by omega) hi
theorem Tc {q:Int} {o2:Option Nat} (ho:(o2=none/\∀ x ∈ rs,x < q)\/∃ M j,o2=some j/\M ∈ rs/\(∀ x ∈ rs,x<=M)/\q<=M/\Cj M rs=some j):FZ.den [Ab (Ae rs f (h + 1)),.int f,.int q]=.ok (pgD o2):=by
 obtain ⟨m,hg,m1,m2⟩:=Wt hf hf8 H hh hn
 refine (Qx _ rfl).trans (Aj ?_)
 rcases ho with ⟨rfl,h1⟩ | ⟨M,j,rfl,h1,h2,h3,h4⟩
 ·have c:=h1 m m1
  generalize Ab (Ae rs f (h + 1))=T at *
  unfold pgD
  simp_arith [FC,hg,c]
 ·have e:m=M:=Int.le_antisymm (h2 m m1) (m2 M h1)
  subst e
  have hp:0 < rs.length:=List.length_pos_of_mem m1
  obtain ⟨o,g1,g2⟩:=IB hf hf8 H hh hn m (a:=0) hp
  cases Hc g2 (Tb m2 h4)
  have g1:Bm.den [Ab (Ae rs f (h + 1)),.int f,.int m,.int 0]=.ok (.int j):=g1
  have h5:Cy.den [Ab (Ae rs f (h + 1)),.int f,.int m]=.ok (.int j):=by
   refine (Hz _ rfl).trans (Aj ?_)
   generalize Ab (Ae rs f (h + 1))=T at *
   simp_arith [Ez,g1]
  have c:¬ m < q:=by exact acw.mpr h3
  generalize Ab (Ae rs f (h + 1))=T at *
  unfold pgD
  simp_arith [FC,hg,c,h5]
end
theorem VX {i j a:Nat} (h1:(a - i) + (i - a) < (a - j) + (j - a)\/((a - i) + (i - a)=(a - j) + (j - a)/\i<=j)) (h2:(a - j) + (j - a) < (a - i) + (i - a)\/((a - j) + (j - a)=(a - i) + (i - a)/\j<=i)):i=j:=by
 generalize (a - i) + (i - a)=x at *
 generalize (a - j) + (j - a)=y at *
 rcases h1 with h1 | ⟨_,h1⟩
 ·rcases h2 with h2 | ⟨h2,_⟩
  ·exact absurd h1 (Nat.lt_asymm h2)
  ·exact absurd h1 (h2 ▸ aaU _)
 ·rcases h2 with h2 | ⟨_,h2⟩
  ·rename_i e; exact absurd h2 (e ▸ aaU _)
  ·exact acg h1 h2
theorem Vf {ms:List Int} {μ:Int} {a:Nat}:∀ {o o':Option Nat},NrA ms μ a o->NrA ms μ a o'->o=o'
 | none,none,_,_=>rfl
 | none,some j,h,⟨⟨x,h2,h3⟩,_⟩=>GM (h j x h2) h3
 | some j,none,⟨⟨x,h2,h3⟩,_⟩,h=>GM (h j x h2) h3
 | some i,some j,⟨⟨x,h2,h3⟩,h4⟩,⟨⟨y,g2,g3⟩,g4⟩=>congrArg some (VX (h4 j y g2 g3) (g4 i x h2 h3))
theorem Nx (rs:List Int) (q:Int) {m:Nat} (hm:m<=rs.length):∃ o,LsA rs q m o/\As.den [Ad rs,.int q,.lst (BE ((m:Int) - 1) (-1) m)]=.ok (pgD o):=by
 obtain ⟨o,h1,o3,e⟩:=Fm (rs:=rs) (q:=q) (.lst (BE ((m:Int) - 1) (-1) m)) m hm none
 refine ⟨o,h1,(Dk _ rfl).trans (Aj ?_)⟩
 generalize Ad rs=R at *
 generalize BE ((m:Int) - 1) (-1) m=G at *
 cases o with
 | none =>
  unfold pgD
  simp_arith [AI,e]
 | some k =>
  unfold pgD
  simp_arith [AI,e]
theorem Q7 (rs:List Int) (q:Int):((rs.map D.int).filter fun d=>match d with | .int r=>decide (q<=r) | _=>false).map (fun d=>d)=(Bc rs q).map .int:=by
 unfold Bc
 rw [List.map_id',List.filter_map]; rfl
theorem Wu (rs:List Int) (q:Int) (f:Nat):∃ o1 o2:Option Nat,(∀ T:D,Cd.den [T]=.ok (Ad rs)->G6.den [T,.int f,.int q]=.ok (pgD o1))/\((o2=none/\∀ x ∈ rs,x < q)\/∃ M j,o2=some j/\M ∈ rs/\(∀ x ∈ rs,x<=M)/\q<=M/\Cj M rs=some j) /\
  ((Bc rs q=[]/\o1=none/\o2=none)\/∃ (mn mx:Int) (i j:Nat),Bc rs q ≠ []/\(Bc rs q).min?=some mn/\(Bc rs q).max?=some mx/\Cj mn rs=some i/\Cj mx rs=some j/\o1=some i/\o2=some j):=by
 have cB:=fun (T:D)=>HE (nl:=1) (fr:=[2]) (tg:=.nm 0) (it:=.seqL (.nm 3)) (cond:=.cmp .ge (.nm 0) (.nm 1)) (elt:=.nm 0) (δ:=[some T,some (.int f),some (.int q),some (.lst (rs.map .int)),none]) (ds:=rs.map .int) (b:=fun d=>match d with | .int r=>decide (q<=r) | _=>false) (g:=fun d=>d) (by simp_arith []) (fun d hd=>by
  obtain ⟨r,rfl⟩:=CQ hd
  refine ⟨[some (.int r),some (.int q)],rfl,?_,fun _=>?_⟩
  ·simp_arith []
  ·simp_arith [])
 simp only [Q7] at cB
 have hnil:=CC ((Bc rs q).map D.int) (HH _)
 generalize hE1:E.comp1 1 [2] (.nm 0) (.seqL (.nm 3)) (.cmp .ge (.nm 0) (.nm 1)) (.nm 0)=E1 at *
 by_cases hF:Bc rs q=[]
 ·rw [hF] at hnil cB
  simp only [abi,acC] at hnil cB
  refine ⟨none,none,fun T hT=>(Me _ rfl).trans (Aj ?_),.inl ⟨rfl,fun x hx=>?_⟩,.inl ⟨hF,rfl,rfl⟩⟩
  ·rw [GA,hE1]
   unfold Ad at hT
   unfold pgD
   generalize rs.map D.int=R at *
   simp_arith [hT,cB,hnil]
  ·refine aa8.mp fun c=>?_
   have:x ∈ Bc rs q:=abB.mpr ⟨hx,decide_eq_true c⟩
   rw [hF] at this
   cases this
 ·have hem:((Bc rs q).map D.int).isEmpty=false:=by
   cases h:Bc rs q with
   | nil=>exact absurd h hF
   | cons a r=>rfl
  rw [hem] at hnil
  obtain ⟨mn,hmn⟩:∃ m,(Bc rs q).min?=some m:=by
   cases h:(Bc rs q).min? with
   | none=>exact absurd (List.min?_eq_none_iff.mp h) hF
   | some m=>exact ⟨m,rfl⟩
  obtain ⟨mx,hmx⟩:∃ m,(Bc rs q).max?=some m:=⟨_,F5 hF⟩
  have mn1:mn ∈ Bc rs q:=List.min?_mem hmn
  obtain ⟨mx1,mx2⟩:=abQ.mp hmx
  obtain ⟨i,hi⟩:=Jc (abB.mp mn1).1
  obtain ⟨mxr,mxq⟩:=abB.mp mx1
  have mxq:=of_decide_eq_true mxq
  obtain ⟨j,hj⟩:=Jc mxr
  have hio:=B0 (Bc rs q)
  have hi':=Lc hi
  refine ⟨some i,some j,fun T hT=>(Me _ rfl).trans (Aj ?_),.inr ⟨mx,j,rfl,mxr,fun x hx=>?_,mxq,hj⟩,.inr ⟨mn,mx,i,j,hF,hmn,hmx,hi,hj,rfl,rfl⟩⟩
  ·rw [GA,hE1]
   unfold Ad at hT
   unfold pgD
   generalize rs.map D.int=R at *
   generalize (Bc rs q).map D.int=FF at *
   simp_arith [hT,cB,hnil,hio,hmn,Bu,hi']
  ·by_cases c:q<=x
   ·exact mx2 x (abB.mpr ⟨hx,decide_eq_true c⟩)
   ·omega
noncomputable def t38:Ss :=
 (.cons (.iff (.cmp .eq (.nm 5) (.lst .nil))
 (.cons (.asg 9 1 (.bin .add (.nm 9) (.lst (.cons .cN (.cons .cN .nil)))))
 .nil)
 (.cons (.asg 9 1 (.bin .add (.nm 9) (.lst (.cons (.mt .index (.nm 0) (.cons (.bi .minL (.cons (.nm 5) .nil)) .nil)) (.cons (.mt .index (.nm 0) (.cons (.bi .maxL (.cons (.nm 5) .nil)) .nil)) .nil)))))
 .nil))
 (.cons (.asg 10 1 (.lst (.cons (.call Cy (.cons (.nm 2) (.cons (.nm 1) (.cons (.nm 3) .nil)))) (.cons (.call G4 (.cons (.nm 2) (.cons (.nm 1) (.cons (.nm 3) .nil)))) (.cons (.call AZ (.cons (.nm 2) (.cons (.nm 1) (.cons (.nm 3) (.cons (.nm 4) .nil))))) .nil)))))
 (.cons (.asg 10 0 (.bin .add (.nm 10) (.lst (.cons (.call B8 (.cons (.nm 2) (.cons (.nm 1) (.cons (.nm 3) (.cons (.nm 4) .nil))))) (.cons (.call G5 (.cons (.nm 2) (.cons (.nm 1) (.cons (.nm 3) (.cons (.nm 4) .nil))))) .nil)))))
 (.cons (.iff (.cmp .ne (.bin .add (.nm 10) (.lst (.cons (.call G6 (.cons (.nm 2) (.cons (.nm 1) (.cons (.nm 3) .nil)))) (.cons (.call FZ (.cons (.nm 2) (.cons (.nm 1) (.cons (.nm 3) .nil)))) .nil)))) (.nm 9))
 (.cons (.ret (.cB false))
 .nil)
 .nil)
 (.cons (.asg 11 1 (.call Do (.cons (.nm 2) (.cons (.nm 1) (.cons (.nm 3) (.cons (.nm 4) .nil))))))
 (.cons (.asg 12 0 (.cmp .eq (.nm 11) (.call Cq (.cons (.call Aq (.cons (.nm 0) (.cons (.nm 1) .nil))) (.cons (.nm 1) (.cons (.nm 3) (.cons (.nm 4) .nil)))))))
 (.cons (.mut 11 [] .clear .nil)
 (.cons (.ret (.nm 12))
 .nil))))))))
theorem b38:Dp =
 (.cons (.asg 5 1 (.comp1 1 [3] (.nm 0) (.seq (.nm 0)) (.cmp .ge (.nm 0) (.nm 1)) (.nm 0)))
 (.cons (.asg 6 0 (.call As (.cons (.nm 0) (.cons (.nm 3) (.cons (.listI (.r1 (.bi .len (.cons (.nm 0) .nil)))) .nil)))))
 (.cons (.asg 7 0 (.call As (.cons (.nm 0) (.cons (.nm 3) (.cons (.listI (.r2 (.nm 4) (.bi .len (.cons (.nm 0) .nil)))) .nil)))))
 (.cons (.asg 8 0 (.call As (.cons (.nm 0) (.cons (.nm 3) (.cons (.listI (.r3 (.nm 4) (.neg (.cI 1)) (.neg (.cI 1)))) .nil)))))
 (.cons (.asg 9 1 (.lst (.cons (.nm 6) (.cons (.call As (.cons (.nm 0) (.cons (.nm 3) (.cons (.listI (.r3 (.bin .sub (.bi .len (.cons (.nm 0) .nil)) (.cI 1)) (.neg (.cI 1)) (.neg (.cI 1)))) .nil)))) (.cons (.nm 7) .nil)))))
 (.cons (.mut 9 [] .append (.cons (.ifx (.isN true (.nm 7)) (.nm 7) (.nm 6)) .nil))
 (.cons (.iff (.bo false (.cons (.isN false (.nm 8)) (.cons (.bo true (.cons (.isN true (.nm 7)) (.cons (.cmp .lt (.bin .sub (.nm 7) (.nm 4)) (.bin .sub (.nm 4) (.nm 8))) .nil))) .nil)))
 (.cons (.asg 8 0 (.nm 7))
 .nil)
 .nil)
 (.cons (.mut 9 [] .append (.cons (.nm 8) .nil))
 t38)))))))):=rfl
noncomputable def QJ (a:Nat):Option Nat->Option Nat->Bool
 | none,_=>true
 | some _,none=>false
 | some j,some k=>decide ((k:Int) - a < (a:Int) - j)
noncomputable def ES (o0:Option Nat):Option Nat->Option Nat
 | none=>o0
 | some k=>some k
theorem VY {rs:List Int} {q:Int} {f a:Nat} (T:D) (ha:a < rs.length) (hl:rs.length<=200):∃ o0 ob oB oL,FsA rs q 0 o0/\FsA rs q a ob/\LsA rs q (a + 1) oB/\LsA rs q rs.length oL/\exs Dp [some (Ad rs),some (.int f),some T,some (.int q),some (.int a),none,none,none,none,none,none,none,none]=exs t38 [some (Ad rs),some (.int f),some T,some (.int q),some (.int a),some (.lst ((Bc rs q).map .int)),some (pgD o0),some (pgD ob),some (pgD (DU a oB ob)),some (.lst [pgD o0,pgD oL,pgD ob,pgD (ES o0 ob),pgD (DU a oB ob)]),none,none,none]:=by
 obtain ⟨o0,F0,e0⟩:=Jz rs q (a:=0) (by omega)
 obtain ⟨ob,Fb,eb⟩:=Jz rs q (a:=a) (by exact aax ha)
 obtain ⟨oB,FB,eB⟩:=Nx rs q (m:=a + 1) (by exact ha)
 obtain ⟨oL,FL,eL⟩:=Nw rs q
 refine ⟨o0,ob,oB,oL,F0,Fb,FB,FL,?_⟩
 have e0:As.den [Ad rs,.int q,.lst (Am 0 rs.length)]=.ok (pgD o0):=e0
 have r1:=BG (a:=0) (b:=rs.length) (by exact by decide) (by exact by decide) (by omega) (by omega)
 have r2:=BG (a:=a) (b:=rs.length) (by exact aaR _) (by omega) (by omega) (by omega)
 have r3a:=My (n:=a + 1) (by exact aao ha hl)
 have r3b:=My hl
 have ea:((a + 1:Nat):Int) - 1=a:=by omega
 rw [ea] at r3a eB
 have hlen:(((rs.map D.int).length:Nat):Int)=(rs.length:Int):=by rw [aab]
 have cD:=HE (nl:=1) (fr:=[3]) (tg:=.nm 0) (it:=.seq (.nm 0)) (cond:=.cmp .ge (.nm 0) (.nm 1)) (elt:=.nm 0) (δ:=[some (.lst (rs.map .int)),some (.int f),some T,some (.int q),some (.int a),none,none,none,none,none,none,none,none]) (ds:=rs.map .int) (b:=fun d=>match d with | .int r=>decide (q<=r) | _=>false) (g:=fun d=>d) (by simp_arith []) (fun d hd=>by
  obtain ⟨r,rfl⟩:=CQ hd
  refine ⟨[some (.int r),some (.int q)],rfl,?_,fun _=>?_⟩
  ·simp_arith []
  ·simp_arith [])
 simp only [Q7] at cD
 have ap1:∀ u v x y:D,umD .append [y] [u,v,x]=some [u,v,x,y]:=fun _ _ _ _=>BA _ _ (by simp)
 have ap2:∀ u v x y z:D,umD .append [z] [u,v,x,y]=some [u,v,x,y,z]:=fun _ _ _ _ _=>BA _ _ (by simp)
 rw [b38]
 generalize E.comp1 1 [3] (.nm 0) (.seq (.nm 0)) (.cmp .ge (.nm 0) (.nm 1)) (.nm 0)=E1 at *
 generalize t38=TT at *
 clear F0 Fb FB FL ea hl
 unfold Ad at *
 generalize rs.map D.int=R at *
 generalize (Bc rs q).map D.int=FF at *
 generalize Am 0 (rs.length:Int)=A1 at *
 generalize Am (a:Int) (rs.length:Int)=A2 at *
 generalize BE (a:Int) (-1) (a + 1)=A3 at *
 generalize BE ((rs.length:Int) - 1) (-1) rs.length=A4 at *
 generalize pgD oL=dL at *
 have hEI:ev (.ifx (.isN true (.nm 7)) (.nm 7) (.nm 6)) [some (.lst R),some (.int f),some T,some (.int q),some (.int a),some (.lst FF),some (pgD o0),some (pgD ob),some (pgD oB),some (.lst [pgD o0,dL,pgD ob]),none,none,none]=.ok (pgD (ES o0 ob)):=by
  cases ob with
  | none=>rfl
  | some k=>rfl
 have hEC:ev (.bo false (.cons (.isN false (.nm 8)) (.cons (.bo true (.cons (.isN true (.nm 7)) (.cons (.cmp .lt (.bin .sub (.nm 7) (.nm 4)) (.bin .sub (.nm 4) (.nm 8))) .nil))) .nil))) [some (.lst R),some (.int f),some T,some (.int q),some (.int a),some (.lst FF),some (pgD o0),some (pgD ob),some (pgD oB),some (.lst [pgD o0,dL,pgD ob,pgD (ES o0 ob)]),none,none,none]=.ok (.bl (QJ a oB ob)):=by
  cases oB with
  | none=>rfl
  | some j =>
   cases ob with
   | none=>rfl
   | some k=>rfl
 have hN:DU a oB ob=if QJ a oB ob=true then ob else oB:=by
  cases oB with
  | none=>rfl
  | some j =>
   cases ob with
   | none=>rfl
   | some k =>
    show (if (k:Int) - a < (a:Int) - j then some k else some j)=if decide ((k:Int) - a < (a:Int) - j)=true then some k else some j
    by_cases c:(k:Int) - a < (a:Int) - j
    ·rw [if_pos c,decide_eq_true c]; rfl
    ·rw [if_neg c,decide_eq_false c]; rfl
 rw [hN]
 clear hN
 generalize hI:E.ifx (.isN true (.nm 7)) (.nm 7) (.nm 6)=EI at *
 generalize hC:E.bo false (.cons (.isN false (.nm 8)) (.cons (.bo true (.cons (.isN true (.nm 7)) (.cons (.cmp .lt (.bin .sub (.nm 7) (.nm 4)) (.bin .sub (.nm 4) (.nm 8))) .nil))) .nil))=EC at *
 generalize pgD (ES o0 ob)=dR at *
 generalize pgD o0=d0 at *
 cases hb:QJ a oB ob with
 | true =>
  rw [hb] at hEC
  rw [if_pos rfl]
  generalize pgD ob=d7 at *
  generalize pgD oB=d8 at *
  simp_arith [cD,hlen,r1,r2,r3a,r3b,e0,eb,eB,eL,ap1,ap2,hEI,hEC]
 | false =>
  rw [hb] at hEC
  rw [if_neg (by decide)]
  generalize pgD ob=d7 at *
  generalize pgD oB=d8 at *
  simp_arith [cD,hlen,r1,r2,r3a,r3b,e0,eb,eB,eL,ap1,ap2,hEI,hEC]
theorem Vg (o:Option Nat) (k:Nat):D.shp k (pgD o)=true:=by cases o <;> cases k <;> rfl
section
variable {rs:List Int} {f h:Nat} (hf:2<=f) (hf8:f<=8) (H:Hs rs.length f h) (hh:h<=8) (hn:rs.length<=200) (hn1:1<=rs.length)
include hf hf8 H hh hn hn1
theorem Ny (q:Int) {a:Nat} (ha:a < rs.length):A5.den [Ad rs,.int f,Ab (Ae rs f (h + 1)),.int q,.int a]=.ok (.bl true):=by
 obtain ⟨o0,ob,oB,oL,F0,Fb,FB,FL,e⟩:=VY (q:=q) (f:=f) (Ab (Ae rs f (h + 1))) ha hn
 obtain ⟨u0,g0,G0⟩:=Nv hf hf8 H hh hn hn1 q
 obtain ⟨uL,gL,GL⟩:=O2 hf hf8 H hh hn hn1 q
 obtain ⟨v,v1,Gv,Gv1,gf,gr⟩:=O0 hf hf8 H hh hn q ha
 obtain ⟨w,gn,Gw⟩:=QI hf hf8 H hh hn q ha
 cases Hc G0 F0
 cases S9 GL FL
 cases Hc Gv Fb
 cases Hc Gv1 G0
 have ew:=Vf Gw (Mw (ab7 _) (aag _) FB Gv)
 subst ew
 have gr:B8.den [Ab (Ae rs f (h + 1)),.int f,.int q,.int a]=.ok (pgD (ES o0 ob)):=by
  rw [gr]; cases ob <;> rfl
 obtain ⟨o1,o2,hbest,hw2,hcase⟩:=Wu rs q f
 have gb:=hbest _ (Ve hf hf8 H hh hn)
 have gw:=Tc hf hf8 H hh hn hw2
 have gk:=Iz (BM rs f h) q hf hf8 H hh hn (a:=a) (by exact aax ha)
 have gl:=OX (BM rs f h) q hf hf8 H hh hn (a:=a) (by exact aax ha) hn1
 have gt:=F6 hf hf8 H hh hn hn1
 generalize wkD (Ae rs f (h + 1)) rs.length f h q a=ws at *
 have heq:=F3 (.lst (ws.map Ac)) (GF ws 6)
 have hnil:=CC ((Bc rs q).map D.int) (HH _)
 have hio:=B0 (Bc rs q)
 have hne:c2 .ne (.lst [pgD o0,pgD oL,pgD ob,pgD (ES o0 ob),pgD (DU a oB ob),pgD o1,pgD o2]) (.lst [pgD o0,pgD oL,pgD ob,pgD (ES o0 ob),pgD (DU a oB ob),pgD o1,pgD o2])=.ok (.bl false):=Nn _ (by simp [D.shp,Vg])
 have hcl:umD .clear [] (ws.map Ac)=some []:=rfl
 have ad1:∀ a1 a2 a3 a4 a5 b1 b2':D,b2 .add (.lst [a1,a2,a3,a4,a5]) (.lst [b1,b2'])=.ok (.lst [a1,a2,a3,a4,a5,b1,b2']):=fun a1 a2 a3 a4 a5 b1 b2'=>G7 [a1,a2,a3,a4,a5] [b1,b2'] (by simp)
 have ad2:∀ a1 a2 a3 b1 b2':D,b2 .add (.lst [a1,a2,a3]) (.lst [b1,b2'])=.ok (.lst [a1,a2,a3,b1,b2']):=fun a1 a2 a3 b1 b2'=>G7 [a1,a2,a3] [b1,b2'] (by simp)
 refine (Nh _ rfl).trans (Aj ?_)
 show exs Dp [some (Ad rs),some (.int f),some (Ab (Ae rs f (h + 1))),some (.int q),some (.int a),none,none,none,none,none,none,none,none]=_
 rw [e]
 clear e hbest hw2 Gw Gv Gv1 G0 GL F0 FB FL Fb
 generalize Ab (Ae rs f (h + 1))=T at *
 generalize ws.map Ac=W at *
 have hSI:ex (.iff (.cmp .eq (.nm 5) (.lst .nil)) (.cons (.asg 9 1 (.bin .add (.nm 9) (.lst (.cons .cN (.cons .cN .nil))))) .nil) (.cons (.asg 9 1 (.bin .add (.nm 9) (.lst (.cons (.mt .index (.nm 0) (.cons (.bi .minL (.cons (.nm 5) .nil)) .nil)) (.cons (.mt .index (.nm 0) (.cons (.bi .maxL (.cons (.nm 5) .nil)) .nil)) .nil))))) .nil)) [some (Ad rs),some (.int f),some T,some (.int q),some (.int a),some (.lst ((Bc rs q).map .int)),some (pgD o0),some (pgD ob),some (pgD (DU a oB ob)),some (.lst [pgD o0,pgD oL,pgD ob,pgD (ES o0 ob),pgD (DU a oB ob)]),none,none,none]
   = .nxt [some (Ad rs),some (.int f),some T,some (.int q),some (.int a),some (.lst ((Bc rs q).map .int)),some (pgD o0),some (pgD ob),some (pgD (DU a oB ob)),some (.lst [pgD o0,pgD oL,pgD ob,pgD (ES o0 ob),pgD (DU a oB ob),pgD o1,pgD o2]),none,none,none]:=by
  clear hne gb gw g0 gL gf gr gn gk gl gt heq hcl ad2
  generalize pgD o0=d0 at *
  generalize pgD oL=d1 at *
  generalize pgD ob=d2 at *
  generalize pgD (ES o0 ob)=d3 at *
  generalize pgD (DU a oB ob)=d4 at *
  rcases hcase with ⟨hF,rfl,rfl⟩ | ⟨mn,mx,i,j,hF,hmn,hmx,hi,hj,rfl,rfl⟩
  ·rw [hF] at hnil ⊢
   simp only [abi,acC] at hnil ⊢
   generalize Ad rs=R at *
   simp only [pgD]
   simp_arith [hnil,ad1]
  ·have hem:((Bc rs q).map D.int).isEmpty=false:=by
    cases h:Bc rs q with
    | nil=>exact absurd h hF
    | cons a r=>rfl
   rw [hem] at hnil
   have hi':=Lc hi
   have hj':=Lc hj
   unfold Ad
   generalize rs.map D.int=R at *
   generalize (Bc rs q).map D.int=FF at *
   simp only [pgD]
   simp_arith [hnil,ad1,hio,hmn,hmx,Bu,hi',hj']
 clear hcase hnil hio ad1
 generalize pgD o0=d0 at *
 generalize pgD oL=d1 at *
 generalize pgD ob=d2 at *
 generalize pgD (ES o0 ob)=d3 at *
 generalize pgD (DU a oB ob)=d4 at *
 generalize pgD o1=d5 at *
 generalize pgD o2=d6 at *
 generalize Ad rs=R at *
 generalize (Bc rs q).map D.int=FF at *
 generalize hS:S.iff (.cmp .eq (.nm 5) (.lst .nil)) (.cons (.asg 9 1 (.bin .add (.nm 9) (.lst (.cons .cN (.cons .cN .nil))))) .nil) (.cons (.asg 9 1 (.bin .add (.nm 9) (.lst (.cons (.mt .index (.nm 0) (.cons (.bi .minL (.cons (.nm 5) .nil)) .nil)) (.cons (.mt .index (.nm 0) (.cons (.bi .maxL (.cons (.nm 5) .nil)) .nil)) .nil))))) .nil)=SI at *
 rw [t38,hS]
 have ad3:∀ a1 a2 a3 a4 a5 b1 b2':D,b2 .add (.lst [a1,a2,a3,a4,a5]) (.lst [b1,b2'])=.ok (.lst [a1,a2,a3,a4,a5,b1,b2']):=fun a1 a2 a3 a4 a5 b1 b2'=>G7 [a1,a2,a3,a4,a5] [b1,b2'] (by simp)
 simp_arith [hSI,ad2,ad3,g0,gL,gf,gr,gn,gb,gw,hne,gk,gl,gt,heq,hcl]
end
theorem O4 (c1 c2:Option D):∀ (es ds pre:List (List Int)) (o3 o4:Option D),es.length=ds.length->(∀ r ∈ es,r.length<=201)->(∀ r ∈ ds,r.length<=201)->∃ p3 p4,BH 3 4 0 (es.map Ad) pre.length [some (.lst (pre.map Ad ++ ds.map Ad)),c1,c2,o3,o4]=.nxt [some (.lst (pre.map Ad ++ es.map Ad)),c1,c2,p3,p4]
 | [],[],pre,o3,o4,_,_,_=>⟨o3,o4,rfl⟩
 | e :: es,[],pre,o3,o4,h,_,_=>nomatch h
 | [],r :: ds,pre,o3,o4,h,_,_=>nomatch h
 | e :: es,r :: ds,pre,o3,o4,h,h1,h2=>by
  obtain ⟨p3,p4,ih⟩:=O4 c1 c2 es ds (pre ++ [e]) (some (Ad r)) (some (Ad e)) (by simpa using h) (fun x hx=>h1 x (aaa _ hx)) (fun x hx=>h2 x (aaa _ hx))
  refine ⟨p3,p4,?_⟩
  have e1:=h1 e (aac ..)
  have e2:=h2 r (aac ..)
  have hg:(pre.map Ad ++ (r :: ds).map Ad)[pre.length]?=some (Ad r):=by
   rw [aaG (by simp)]; simp
  have hs:(pre.map Ad ++ (r :: ds).map Ad).set pre.length (Ad e)=(pre ++ [e]).map Ad ++ ds.map Ad:=by
   rw [List.set_append_right _ _ (by simp)]; simp
  rw [aay,BH]
  show (match (pre.map Ad ++ (r :: ds).map Ad)[pre.length]? with
   | none=>Out.nxt _
   | some r'=>FO r' fun rs=>FO (Ad e) fun us=>if rs.length + us.length<=LIM then BH 3 4 0 (es.map Ad) (pre.length + 1) [some (.lst ((pre.map Ad ++ (r :: ds).map Ad).set pre.length (.lst us))),c1,c2,some r',some (Ad e)] else .bad)=_
  rw [hg]
  show (if (r.map D.int).length + (e.map D.int).length<=LIM then BH 3 4 0 (es.map Ad) (pre.length + 1) [some (.lst ((pre.map Ad ++ (r :: ds).map Ad).set pre.length (Ad e))),c1,c2,some (Ad r),some (Ad e)] else .bad)=_
  rw [if_pos (by rw [aab,aab]; exact aao (show r.length + e.length<=402 by exact Nat.add_le_add e2 e1) (by decide)),hs]
  rw [aaC,abC] at ih
  rw [ih]
  simp
theorem Q8 {rs:List Int} {f:Nat} {tr tr2:List (List Int)} (ht:Aq.den [Ad rs,.int f]=.ok (Ab tr2)) (hl:tr2.length=tr.length) (h1:∀ r ∈ tr2,r.length<=201) (h2:∀ r ∈ tr,r.length<=201):CP.den [Ab tr,Ad rs,.int f]=.ok (Ab tr2):=by
 obtain ⟨p3,p4,e⟩:=O4 (some (Ad rs)) (some (.int f)) tr2 tr [] none none hl h1 h2
 have e:BH 3 4 0 (tr2.map Ad) 0 [some (.lst (tr.map Ad)),some (Ad rs),some (.int f),none,none]=.nxt [some (.lst (tr2.map Ad)),some (Ad rs),some (.int f),p3,p4]:=e
 have hev:ev Bp [some (Ab tr),some (Ad rs),some (.int f),none,none]=.ok (Ab tr2):=by
  generalize Ab tr=T at *
  generalize Ab tr2=T2 at *
  generalize Ad rs=R at *
  simp_arith [Bp,ht]
 have hex:ex (.eachZ 3 4 0 Bp) [some (Ab tr),some (Ad rs),some (.int f),none,none]=.nxt [some (.lst (tr2.map Ad)),some (Ad rs),some (.int f),p3,p4]:=by
  show Res.out (.ok (Ab tr)) [some (Ab tr),some (Ad rs),some (.int f),none,none] (fun d0=>FO d0 fun _=>(ev Bp [some (Ab tr),some (Ad rs),some (.int f),none,none]).out [some (Ab tr),some (Ad rs),some (.int f),none,none] fun d=>FO d fun es=>BH 3 4 0 es 0 [some (Ab tr),some (Ad rs),some (.int f),none,none])=_
  rw [hev]
  exact e
 show (match ex (.eachZ 3 4 0 Bp) [some (Ab tr),some (Ad rs),some (.int f),none,none] with
  | .nxt δ=>get δ 0
  | _=>.bad)=_
 rw [hex]
 rfl
theorem Td {xs:List Int} (h:xs.length=3):∃ a b c,xs=[a,b,c]:=by
 match xs,h with
 | [a,b,c],_=>exact ⟨a,b,c,rfl⟩
theorem Te {rs:List Int} {n:Nat} {v:Int} (h:n < rs.length):JP (n:Int) (.int v) (rs.map D.int)=some ((rs.set n v).map D.int):=by
 unfold JP ixN
 rw [aab,if_pos (by exact aaR _),if_pos (by exact abf.mpr h),aa3,abR]; rfl
theorem Fa {rs:List Int} {f n:Nat} (hf:2<=f) (hn:rs.length<=200):∀ r ∈ Ae rs f n,r.length<=201:=fun r hr=>by
 unfold Ae at hr
 obtain ⟨l,_,rfl⟩:=aaD.mp hr
 have:(Bh rs f l (cnt rs.length f l)).length=cnt rs.length f l:=by unfold Bh; simp
 rw [this]
 have:=EO (p:=rs.length) (f:=f) (l:=l) (by exact aax hf)
 omega
theorem Et (rs:List Int) (f n:Nat):(Ae rs f n).length=n:=by unfold Ae; simp
noncomputable abbrev v38:E:=.bin .mod (.ixL (.lst (.cons (.bin .add (.ixL (.nm 6) (.nm 11)) (.cI 1)) (.cons (.cI 0) (.cons (.ixL (.nm 9) (.cI 2)) (.cons (.bi .maxL (.cons (.nm 6) .nil)) .nil))))) (.bin .mod (.nm 7) (.cI 4))) (.bin .add (.bin .pow (.cI 10) (.cI 18)) (.cI 1))
theorem VZ {rs:List Int} {p i:Nat} {x y z:Int} (hp:p < rs.length) (c0 c1 c2 c3 c4 c5 c8 c10:Option D):∃ v:Int,0<=v/\ev v38 [c0,c1,c2,c3,c4,c5,some (Ad rs),some (.int i),c8,some (.lst [.int x,.int y,.int z]),c10,some (.int p)]=.ok (.int v):=by
 obtain ⟨mx,hmx⟩:∃ m,rs.max?=some m:=⟨_,F5 (by intro e; rw [e] at hp; simp at hp)⟩
 have hio:=B0 rs
 have hat:=Nr hp
 have hz:atD [D.int x,D.int y,D.int z] 2=.ok (.int z):=rfl
 obtain ⟨u,hu⟩:∃ u:Int,atD [D.int (rs.getD p 0 + 1),.int 0,.int z,.int mx] ((i:Int) % 4)=.ok (.int u):=by
  rcases m4c (i:Int) with e | e | e | e <;> rw [e]
  ·exact ⟨_,rfl⟩
  ·exact ⟨_,rfl⟩
  ·exact ⟨_,rfl⟩
  ·exact ⟨_,rfl⟩
 refine ⟨u % 1000000000000000001,abb _ (by decide),?_⟩
 unfold Ad v38
 generalize rs.map D.int=R at *
 generalize rs.getD p 0=r at *
 simp_arith [hat,hz,hio,hmx,Bu,hu]
section
variable {ns rs rs1:List Int} {f b h h2:Nat} (hf:2<=f) (hf8:f<=8) (hb:2<=b) (hb8:b<=8) (H:Hs rs.length f h) (hh:h<=8) (H2:Hs rs.length b h2) (hh2:h2<=8) (hn:rs.length<=200) (hn1:1<=rs.length)
include hf hf8 hb hb8 H hh H2 hh2 hn hn1
theorem Vh (h0:∀ r ∈ rs1,0<=r) (hl1:rs1.length=rs.length) (i:Nat) (o8 o9 o10 o11:Option D):∃ (rs2:List Int) (p8 p9 p10 p11:Option D),rs2.length=rs.length/\(∀ r ∈ rs2,0<=r)/\exs CB [some (.lst (ns.map .int)),some (Ad rs),some (.int f),some (.int b),some (Ab (Ae rs1 f (h + 1))),some (Ab (Ae rs b (h2 + 1))),some (Ad rs1),some (.int i),o8,o9,o10,o11]=.nxt [some (.lst (ns.map .int)),some (Ad rs),some (.int f),some (.int b),some (Ab (Ae rs2 f (h + 1))),some (Ab (Ae rs b (h2 + 1))),some (Ad rs2),some (.int i),p8,p9,p10,p11]:=by
 obtain ⟨q,hq0,hq⟩:=K8 ns (10 + i) (by exact aaR _) rs1 h0 (by omega)
 obtain ⟨ys,hrow,hyl,hyb⟩:=FD ns (20 + i) (by exact aaR _) [60,60,13] (by decide) (by decide)
 obtain ⟨x,y,z,rfl⟩:=Td hyl
 clear hyl hyb
 simp only [abH] at hrow
 obtain ⟨a,ha,ea⟩:=Mm (y:=x) (n:=rs.length) (by omega)
 obtain ⟨p,hp,ep⟩:=Mm (y:=y) (n:=rs.length) (by omega)
 have A1:=Ny (rs:=rs1) hf hf8 (by rw [hl1]; exact H) hh (by omega) (by omega) q (a:=a) (by omega)
 have A2:=Ny (rs:=rs) hb hb8 H2 hh2 hn hn1 q ha
 obtain ⟨v,hv0,hv⟩:=VZ (rs:=rs1) (p:=p) (i:=i) (x:=x) (y:=y) (z:=z) (by omega) (some (.lst (ns.map .int))) (some (Ad rs)) (some (.int f)) (some (.int b)) (some (Ab (Ae rs1 f (h + 1)))) (some (Ab (Ae rs b (h2 + 1)))) (some (.int q)) (some (.int a))
 have hs:=Te (rs:=rs1) (n:=p) (v:=v) (by omega)
 have hl2:(rs1.set p v).length=rs.length:=by rw [aaB]; exact hl1
 have hn0:∀ r ∈ rs1.set p v,0<=r:=fun r hr=>by
  rcases aba hr with h | h
  ·exact h0 r h
  ·exact h ▸ hv0
 refine ⟨rs1.set p v,some (.int q),some (.lst [.int x,.int y,.int z]),some (.int a),some (.int p),hl2,hn0,?_⟩
 have ht:=F6 (rs:=rs1.set p v) hf hf8 (by rw [hl2]; exact H) hh (by omega) (by omega)
 have hput:=Q8 (tr:=Ae rs1 f (h + 1)) ht (by rw [Et,Et]) (Fa hf (by omega)) (Fa hf (by omega))
 have hfl:=GG (Ae (rs1.set p v) f (h + 1))
 have d1:AT.dep=0:=E7
 have d2:A5.dep=0:=Ir
 have f0:D.flat 9 0 (.int q)=true:=rfl
 have f1:D.flat 9 0 (.bl true)=true:=rfl
 have x0:atD [D.int x,D.int y,D.int z] 0=.ok (.int x):=rfl
 have x1:atD [D.int x,D.int y,D.int z] 1=.ok (.int y):=rfl
 have hp0:0 < (rs.length:Int):=by omega
 have hlen:(((rs.map D.int).length:Nat):Int)=(rs.length:Int):=by rw [aab]
 clear ht hn0 hl2 hl1 h0
 generalize hEV:(E.bin .mod (.ixL (.lst (.cons (.bin .add (.ixL (.nm 6) (.nm 11)) (.cI 1)) (.cons (.cI 0) (.cons (.ixL (.nm 9) (.cI 2)) (.cons (.bi .maxL (.cons (.nm 6) .nil)) .nil))))) (.bin .mod (.nm 7) (.cI 4))) (.bin .add (.bin .pow (.cI 10) (.cI 18)) (.cI 1)))=EV at *
 rw [CB,hEV]
 unfold v38 at hv
 rw [hEV] at hv
 unfold Ad at *
 generalize Ab (Ae rs1 f (h + 1))=T1 at *
 generalize Ab (Ae rs b (h2 + 1))=T at *
 generalize Ab (Ae (rs1.set p v) f (h + 1))=T2 at *
 generalize (rs1.set p v).map D.int=R2 at *
 generalize rs1.map D.int=R1 at *
 generalize rs.map D.int=R at *
 generalize ns.map D.int=N at *
 simp_arith [hq,d1,f0,hrow,x0,x1,hlen,hp0,ea,ep,A1,A2,d2,f1,hv,hs,Gh,MQ,hput,hfl]
end
noncomputable def r38:Ss :=
 (.cons (.asg 2 1 (.call CM (.cons (.nm 0) (.cons (.cI 1) .nil))))
 (.cons (.asg 3 0 (.bin .add (.cI 2) (.bin .mod (.bin .add (.nm 2) (.ix (.call AX (.cons (.nm 0) (.cons (.cI 2) (.cons (.lst (.cons (.cI 5) .nil)) .nil)))) (.cI 0))) (.cI 7))))
 (.cons (.asg 4 2 (.callB Aq (.cons (.nm 1) (.cons (.nm 2) .nil))))
 (.cons (.asg 5 2 (.callB Aq (.cons (.nm 1) (.cons (.nm 3) .nil))))
 (.cons (.dem 1 1)
 (.cons (.asg 6 1 (.bi .listL (.cons (.nm 1) .nil)))
 (.cons (.for_ (.nm 7) (.r1 (.cI 8))
 CB)
 (.cons (.put CP 4 [1,2])
 (.cons (.asg 8 0 (.callB AT (.cons (.nm 0) (.cons (.cI 10) (.cons (.nm 1) .nil)))))
 (.cons (.ret (.bo true (.cons (.callB A5 (.cons (.nm 1) (.cons (.nm 2) (.cons (.nm 4) (.cons (.nm 8) (.cons (.cI 0) .nil)))))) (.cons (.cmp .eq (.nm 4) (.callB Aq (.cons (.nm 1) (.cons (.nm 2) .nil)))) (.cons (.cmp .eq (.nm 5) (.callB Aq (.cons (.nm 1) (.cons (.nm 3) .nil)))) .nil)))))
 .nil))))))))))
theorem Wv:D6 =
 (.cons (.asg 1 2 (.call Bz (.cons (.nm 0) (.cons (.cI 0) (.cons (.cI 60) .nil)))))
 (.cons (.iff (.cmp .eq (.nm 1) (.lst .nil))
 (.cons (.asg 1 2 (.lst (.cons (.cI 7) .nil)))
 .nil)
 .nil)
 r38)):=rfl
theorem O5 (ns rs:List Int) (hl:rs.length<=200) (hn1:1<=rs.length) (hb0:∀ r ∈ rs,0<=r):exs r38 [some (.lst (ns.map .int)),some (Ad rs),none,none,none,none,none,none,none,none,none,none]=.ret (.bl true):=by
 obtain ⟨f,hf,hf8,hfan⟩:=SX ns 1 (by decide)
 obtain ⟨ys,hrow,hyl,hyb⟩:=FD ns 2 (by decide) [5] (by decide) (by decide)
 obtain ⟨y,rfl⟩:∃ y,ys=[y]:=by
  match ys,hyl with
  | [y],_=>exact ⟨y,rfl⟩
 have hy:=hyb 0 y 5 rfl rfl
 clear hyl hyb
 simp only [abH] at hrow
 obtain ⟨b,hb2,hb8,eb⟩:∃ b:Nat,2<=b/\b<=8/\2 + ((f:Int) + y) % 7=(b:Int):=⟨(2 + ((f:Int) + y) % 7).toNat,by omega,by omega,by omega⟩
 obtain ⟨h,hh,H⟩:=hs8 hf hn1 hl
 obtain ⟨h2,hh2,H2⟩:=hs8 hb2 hn1 hl
 have t1:=F6 hf hf8 H hh hl hn1
 have t2:=F6 hb2 hb8 H2 hh2 hl hn1
 have ft1:=GG (Ae rs f (h + 1))
 have ft2:=GG (Ae rs b (h2 + 1))
 have d0:Aq.dep=2:=Ip
 have d1:AT.dep=0:=E7
 have d2:A5.dep=0:=Ir
 have r8:=BG (a:=0) (b:=8) (by exact by decide) (by exact by decide) (by exact by decide) (by exact by decide)
 obtain ⟨δ',e1,rs1,o7,o8,o9,o10,o11,l1,b1,rfl⟩:=Bw (tg:=.nm 7) (b:=exs CB) (fun _ δ=>∃ (rs1:List Int) (o7 o8 o9 o10 o11:Option D),rs1.length=rs.length/\(∀ r ∈ rs1,0<=r)/\δ=[some (.lst (ns.map .int)),some (Ad rs),some (.int f),some (.int b),some (Ab (Ae rs1 f (h + 1))),some (Ab (Ae rs b (h2 + 1))),some (Ad rs1),o7,o8,o9,o10,o11]) (ds:=Am 0 8) (δ:=[some (.lst (ns.map .int)),some (Ad rs),some (.int f),some (.int b),some (Ab (Ae rs f (h + 1))),some (Ab (Ae rs b (h2 + 1))),some (Ad rs),none,none,none,none,none]) 0 ⟨rs,none,none,none,none,none,rfl,hb0,rfl⟩ (by
  rintro i d δ hd ⟨rs1,o7,o8,o9,o10,o11,l1,b1,rfl⟩
  obtain ⟨j,rfl,_⟩:=Iu (aae hd)
  obtain ⟨rs2,p8,p9,p10,p11,l2,b2,e⟩:=Vh (ns:=ns) hf hf8 hb2 hb8 H hh H2 hh2 hl hn1 b1 l1 j o8 o9 o10 o11
  exact ⟨_,_,rfl,e,rs2,some (.int j),p8,p9,p10,p11,l2,b2,rfl⟩)
 obtain ⟨q,hq0,hq⟩:=K8 ns 10 (by exact by decide) rs hb0 hl
 have hput:=Q8 (tr:=Ae rs1 f (h + 1)) t1 (by rw [Et,Et]) (Fa hf hl) (Fa hf (by omega))
 have A1:=Ny (rs:=rs) hf hf8 H hh hl hn1 q (a:=0) (by omega)
 have A1:A5.den [Ad rs,.int f,Ab (Ae rs f (h + 1)),.int q,.int 0]=.ok (.bl true):=A1
 have q1:=F3 (Ab (Ae rs f (h + 1))) (EQ _)
 have q2:=F3 (Ab (Ae rs b (h2 + 1))) (EQ _)
 have f0:D.flat 9 0 (.int q)=true:=rfl
 have f1:D.flat 9 0 (.bl true)=true:=rfl
 have x0:atD [D.int y] 0=.ok (.int y):=rfl
 clear b1 hb0 l1
 unfold r38
 unfold Ad at *
 generalize Ab (Ae rs1 f (h + 1))=T1 at *
 generalize Ab (Ae rs b (h2 + 1))=T2 at *
 generalize Ab (Ae rs f (h + 1))=T at *
 generalize rs1.map D.int=R1 at *
 generalize rs.map D.int=R at *
 generalize ns.map D.int=N at *
 generalize Am 0 8=G at *
 simp_arith [hfan,hrow,x0,eb,t1,d0,ft1,t2,ft2,r8,e1,Gh,MQ,hput,hq,d1,f0,A1,d2,f1,q1,q2]
theorem Tf:∀ ns:List Int,ns.length<=63->F1.den [.lst (ns.map .int)]=.ok (.bl true):=by
 intro ns _
 obtain ⟨rs,hl,hb0,hr0⟩:=OP ns 0 (by decide) 60 (by decide)
 have hb:∀ r ∈ rs,0<=r:=fun r hr=>(hb0 r hr).1
 have hr0:Bz.den [.lst (ns.map .int),.int 0,.int 60]=.ok (.lst (rs.map .int)):=hr0
 have hnil:=CC (rs.map D.int) (HH _)
 refine (Ni _ rfl).trans (Aj ?_)
 show exs D6 [some (.lst (ns.map .int)),none,none,none,none,none,none,none,none,none,none,none]=_
 rw [Wv]
 by_cases hR:rs=[]
 ·subst hR
  have e:=O5 ns [7] (by decide) (by decide) (by intro r hr; simp at hr; omega)
  unfold Ad at e
  simp only [abH] at e hnil hr0
  rw [acC] at hnil
  generalize r38=TT at *
  generalize ns.map D.int=N at *
  simp_arith [hr0,hnil,e]
 ·have hem:(rs.map D.int).isEmpty=false:=by
   cases h:rs with
   | nil=>exact absurd h hR
   | cons a r=>rfl
  rw [hem] at hnil
  have e:=O5 ns rs (by exact aao hl (by decide)) (by cases rs with | nil=>exact absurd rfl hR | cons a r=>simp) hb
  unfold Ad at e
  generalize r38=TT at *
  generalize rs.map D.int=R at *
  generalize ns.map D.int=N at *
  simp_arith [hr0,hnil,e]
end Pu
end
namespace Pu
open PySem PySem.Spec PyProof.Rows PySem.W L2
noncomputable def top (i:Nat):Stmt:=PySem.Challenge.pw_ullage_k38_trees_changed_between.main.body.getD i (.Pass ⟨0,0,0,0⟩)
theorem Ls:dfB ["thing"] ["thing"] (top 5) Ii 9=true:=by decide +kernel
theorem JJ:dfB ["thing", "least", "most"] ["thing", "least", "most"] (top 6) Dy 9=true:=by decide +kernel
theorem O6:dfB ["shape", "fan", "counts", "many"] ["shape"] (top 8) FX 1=true:=by decide +kernel
theorem GN:dfB ["counts", "thing"] ["counts", "thing"] (top 10) BO 9=true:=by decide +kernel
theorem Nz:dfB ["shape", "thing"] ["shape", "thing"] (top 9) E4 9=true:=by decide +kernel
theorem JK:dfB ["shape", "thing"] ["shape", "thing"] (top 11) Dz 9=true:=by decide +kernel
theorem Th:dfB ["shape", "node", "width", "level", "begin"] ["shape", "node"] (top 12) Ij 0=true:=by decide +kernel
theorem Vi:dfB ["shape", "counts"] ["shape"] (top 15) JU 1=true:=by decide +kernel
theorem O7:dfB ["shape", "node"] ["shape", "node"] (top 13) EG 1=true:=by decide +kernel
theorem Lu:dfB ["shape", "node", "beneath", "begin", "end"] ["shape", "node"] (top 14) DA 1=true:=by decide +kernel
theorem Jd:dfB ["pages", "begin", "end"] ["pages", "begin", "end"] (top 19) Da 9=true:=by decide +kernel
theorem Hg:dfB ["shape", "begin", "end", "node", "above"] ["shape", "begin", "end"] (top 18) BW 0=true:=by decide +kernel
theorem QK:dfB ["shape", "begin", "end", "nodes", "at", "node"] ["shape", "begin", "end"] (top 17) G2 1=true:=by decide +kernel
theorem JL:dfB ["shape", "page"] ["shape", "page"] (top 20) DB 9=true:=by decide +kernel
theorem Ld:dfB ["tree"] ["tree"] (top 22) D1 9=true:=by decide +kernel
theorem Lv:dfB ["tree"] ["tree"] (top 23) Ei 1=true:=by decide +kernel
theorem Lx:dfB ["tree", "fan"] ["tree", "fan"] (top 24) Ej 0=true:=by decide +kernel
theorem Ly:dfB ["tree", "thing"] ["tree", "thing"] (top 25) Ek 9=true:=by decide +kernel
theorem Hh:dfB ["tree", "thing"] ["tree", "thing"] (top 26) BX 9=true:=by decide +kernel
theorem QL:dfB ["tree", "node"] ["tree", "node"] (top 27) G3 0=true:=by decide +kernel
theorem Lz:dfB ["tree"] ["tree"] (top 28) El 0=true:=by decide +kernel
theorem IC:dfB ["tree", "need", "nodes", "looks", "node"] ["tree", "need", "nodes"] (top 31) BU 1=true:=by decide +kernel
theorem O8:dfB ["tree", "fan", "need", "begin", "shape", "walk", "nodes", "looks"] ["tree", "fan", "need", "begin"] (top 30) EK 1=true:=by decide +kernel
theorem JM:dfB ["tree", "fan", "need", "begin", "walk"] ["tree", "fan", "need", "begin"] (top 34) Cw 0=true:=by decide +kernel
theorem QM:dfB ["tree", "fan", "need"] ["tree", "fan", "need"] (top 33) Ez 0=true:=by decide +kernel
theorem Je:dfB ["tree", "need", "nodes", "node"] ["tree", "need", "nodes"] (top 37) B7 0=true:=by decide +kernel
theorem JN:dfB ["tree", "fan", "need", "end", "shape", "node"] ["tree", "fan", "need", "end"] (top 36) Cz 0=true:=by decide +kernel
theorem Ti:dfB ["tree", "fan", "need"] ["tree", "fan", "need"] (top 35) Im 0=true:=by decide +kernel
theorem NA:dfB ["tree", "fan", "need", "at"] ["tree", "fan", "need", "at"] (top 38) E6 0=true:=by decide +kernel
theorem JO:dfB ["tree", "fan", "need", "at", "page"] ["tree", "fan", "need", "at"] (top 39) CA 0=true:=by decide +kernel
theorem Tj:dfB ["tree", "fan", "need", "at", "behind", "ahead"] ["tree", "fan", "need", "at"] (top 40) EL 0=true:=by decide +kernel
theorem Tk:dfB ["tree", "fan", "need", "rooms", "fitting"] ["tree", "fan", "need"] (top 41) GA 9=true:=by decide +kernel
theorem QN:dfB ["tree", "fan", "need", "most"] ["tree", "fan", "need"] (top 42) FC 0=true:=by decide +kernel
theorem LA:dfB ["_law_script", "_law_place", "_law_seed", "_law_cell_here"] ["_law_script", "_law_place"] (top 44) DC 0=true:=by decide +kernel
theorem Jf:dfB ["_law_cell_here", "_law_k", "_law_one", "_law_two"] ["_law_cell_here", "_law_k"] (top 45) Db 1=true:=by decide +kernel
theorem Jg:dfB ["_law_script", "_law_place", "_law_sizes", "_law_cell_here", "_law_left", "_law_some", "_law_k", "_law_other"] ["_law_script", "_law_place", "_law_sizes"] (top 46) Dc 2=true:=by decide +kernel
theorem HI:dfB ["_law_script", "_law_place", "_law_most", "_law_some", "_law_scale", "_law_rooms_here", "_law_k", "_law_here"] ["_law_script", "_law_place", "_law_most"] (top 47) Cm 2=true:=by decide +kernel
theorem Jh:dfB ["_law_script", "_law_place"] ["_law_script", "_law_place"] (top 48) Dd 1=true:=by decide +kernel
theorem ID:dfB ["_law_script", "_law_place", "_law_rooms_here", "_law_some", "_law_here"] ["_law_script", "_law_place", "_law_rooms_here"] (top 49) Bb 0=true:=by decide +kernel
theorem Hi:dfB ["_law_pages", "_law_fan_here", "_law_found"] ["_law_pages", "_law_fan_here"] (top 50) BY 1=true:=by decide +kernel
theorem HJ:dfB ["_law_pages", "_law_fan_here", "_law_level", "_law_place", "_law_wide", "_law_k"] ["_law_pages", "_law_fan_here", "_law_level", "_law_place"] (top 51) Co 1=true:=by decide +kernel
theorem IE:dfB ["_law_rooms_here", "_law_fan_here", "_law_tree_here", "_law_counts_here", "_law_level", "_law_row_here", "_law_place", "_law_begin", "_law_end"] ["_law_rooms_here", "_law_fan_here"] (top 52) CN 2=true:=by decide +kernel
theorem HK:dfB ["_law_pages", "_law_fan_here", "_law_begin", "_law_end", "_law_found", "_law_at", "_law_wide", "_law_node", "_law_level", "_law_high"] ["_law_pages", "_law_fan_here", "_law_begin", "_law_end"] (top 55) Cp 2=true:=by decide +kernel
theorem HL:dfB ["_law_rooms_here", "_law_need_here", "_law_pages", "_law_page"] ["_law_rooms_here", "_law_need_here", "_law_pages"] (top 56) AI 0=true:=by decide +kernel
theorem IF:dfB ["_law_tree_here", "_law_fan_here", "_law_need_here", "_law_begin", "_law_pages", "_law_found", "_law_ways", "_law_hit", "_law_level", "_law_place", "_law_many"] ["_law_tree_here", "_law_fan_here", "_law_need_here", "_law_begin"] (top 57) CO 1=true:=by decide +kernel
theorem NB:dfB ["_law_rooms_here", "_law_fan_here", "_law_tree_here", "_law_need_here", "_law_at", "_law_some", "_law_ahead", "_law_beyond", "_law_back", "_law_due", "_law_found", "_law_way", "_law_good"] ["_law_rooms_here", "_law_fan_here", "_law_tree_here", "_law_need_here", "_law_at"] (top 58) Dp 0=true:=by decide +kernel
theorem Ji:dfP ["_law_tree_here", "_law_rooms_here", "_law_fan_here", "_law_level", "_law_row_here"] ["_law_tree_here", "_law_rooms_here", "_law_fan_here"] (top 59) 3 4 Bp=true:=by decide +kernel
theorem NC:dfB ["_law_script", "_law_rooms_here", "_law_fan_here", "_law_beside", "_law_tree_here", "_law_other", "_law_here", "_law_k", "_law_need_here", "_law_some", "_law_at", "_law_page"] ["_law_script"] (top 60) D6 0=true:=by decide +kernel
set_option maxHeartbeats 0 in
theorem Vj {l:PySem.W.OpenLaw} {w:World} {K:PySem.W.Frag} {h:Heap} {mg:Str->Option Value} {fa:Addr} {C2 C3:Addr} (X:K.In h) (G:h.Ns mainGlobals mg) (hfa:mg "law" = some (.ref fa)) (t0:Ay K "is_whole" (top 5)) (t1:Ay K "is_between" (top 6)) (t2:Ay K "levels" (top 8)) (t3:Ay K "is_counted_node" (top 10)) (t4:Ay K "is_node" (top 9)) (t5:Ay K "check_node" (top 11)) (t6:Ay K "span" (top 12)) (t7:Ay K "top" (top 15)) (t8:Ay K "parent" (top 13)) (t9:Ay K "children" (top 14)) (t10:Ay K "lies_within" (top 19)) (t11:Ay K "highest_within" (top 18)) (t12:Ay K "cover" (top 17)) (t13:Ay K "check_page" (top 20)) (t14:Ay K "counts_of" (top 22)) (t15:Ay K "rooms_of" (top 23)) (t16:Ay K "shape_of" (top 24)) (t17:Ay K "has_node" (top 25)) (t18:Ay K "check_has_node" (top 26)) (t19:Ay K "tells" (top 27)) (t20:Ay K "greatest" (top 28)) (t21:Ay K "up_to_enough" (top 31)) (t22:Ay K "walked" (top 30)) (t23:Ay K "first_from" (top 34)) (t24:Ay K "first" (top 33)) (t25:Ay K "last_enough" (top 37)) (t26:Ay K "last_ahead" (top 36)) (t27:Ay K "last" (top 35)) (t28:Ay K "further" (top 38)) (t29:Ay K "round_from" (top 39)) (t30:Ay K "near" (top 40)) (t31:Ay K "best" (top 41)) (t32:Ay K "worst" (top 42)) (t33:Ay K "_law_cell" (top 44)) (t34:Ay K "_law_mix" (top 45)) (t35:Ay K "_law_row" (top 46)) (t36:Ay K "_law_rooms" (top 47)) (t37:Ay K "_law_fan" (top 48)) (t38:Ay K "_law_need" (top 49)) (t39:Ay K "_law_counts" (top 50)) (t40:Ay K "_law_reach" (top 51)) (t41:Ay K "_law_tree" (top 52)) (t42:Ay K "_law_cover" (top 55)) (t43:Ay K "_law_plain" (top 56)) (t44:Ay K "_law_walk" (top 57)) (t45:Ay K "_law_all" (top 58)) (t46:Ay K "_law_put" (top 59)) (t47:Ay K "law" (top 60)) (n_len:nsIn K mainGlobals "len" = some none) (n_min:nsIn K mainGlobals "min" = some none) (n_max:nsIn K mainGlobals "max" = some none) (n_abs:nsIn K mainGlobals "abs" = some none) (n_int:nsIn K mainGlobals "int" = some none) (n_list:nsIn K mainGlobals "list" = some none) (n_tuple:nsIn K mainGlobals "tuple" = some none) (n_all:nsIn K mainGlobals "all" = some none) (n_any:nsIn K mainGlobals "any" = some none) (n_sum:nsIn K mainGlobals "sum" = some none) (n_sorted:nsIn K mainGlobals "sorted" = some none) (n_isinstance:nsIn K mainGlobals "isinstance" = some none) (n_str:nsIn K mainGlobals "str" = some none) (n_range:nsIn K mainGlobals "range" = some none) (n_enumerate:nsIn K mainGlobals "enumerate" = some none) (n_zip:nsIn K mainGlobals "zip" = some none) (n_reversed:nsIn K mainGlobals "reversed" = some none) (n_bool:nsIn K mainGlobals "bool" = some none) (n_dict:nsIn K mainGlobals "dict" = some none) (n_ValueError:nsIn K mainGlobals "ValueError" = some none) (c2:ClsF K "NoNode" C2) (c3:ClsF K "NoPage" C3) (e2:excIn K C2 Hr "ValueError.__new__" = true) (e3:excIn K C3 Hr "ValueError.__new__" = true) (y2_2:kitOne K (.ref C2) (.ref C2)=some true) (y2_3:kitOne K (.ref C2) (.ref C3)=some false) (y3_2:kitOne K (.ref C3) (.ref C2)=some false) (y3_3:kitOne K (.ref C3) (.ref C3)=some true) (nl:noL K=true)
  (hden:∀ ns:List Int,ns.length<=63->F1.den [.lst (ns.map .int)]=.ok (.bl true)) :
  ∃ fd:FuncData,(∀ (s:Shared) (v:Value),BindsTo s fd ⟨[v],[]⟩ [("_law_script",v)])/\∀ base:Heap,K.In base->base.Ns mainGlobals mg->FnOk l.prog w K mg base (CXe l.prog w) 14 fa fd ["_law_script"] (spL K):=by
 have O:∀ base:Heap,Lw.Ok ⟨⟨K,clA [(2,C2),(3,C3)],Dg [(2,C2),(3,C3)]⟩,l.prog,w,mg,base⟩:=fun base=>VR rfl X G ⟨n_len,n_min,n_max,n_abs,n_int,n_list,n_tuple,n_all,n_any,n_sum,n_sorted,n_isinstance,n_str,n_range,n_enumerate,n_zip,n_reversed,n_bool,n_dict,n_ValueError,trivial⟩ ⟨c2,c3,trivial⟩ ⟨⟨y2_2,y2_3,trivial⟩,⟨y3_2,y3_3,trivial⟩,trivial⟩
 refine SJ (cs:=[(2,C2),(3,C3)]) (lv:=13) X G hfa t47 NC (fun _ _ _ _ _ _ s v=>.of_eq rfl) O (fun base=>?_) nl hden
 have rs2:=(⟨rfl,c2.q,e2⟩:NeedG ⟨⟨K,clA [(2,C2),(3,C3)],Dg [(2,C2),(3,C3)]⟩,l.prog,w,mg,base⟩ 0 (.rs 2))
 have cl2:=(⟨rfl,PySem.W.mg_of X G c2.q⟩:NeedG ⟨⟨K,clA [(2,C2),(3,C3)],Dg [(2,C2),(3,C3)]⟩,l.prog,w,mg,base⟩ 0 (.cl 2))
 have rs3:=(⟨rfl,c3.q,e3⟩:NeedG ⟨⟨K,clA [(2,C2),(3,C3)],Dg [(2,C2),(3,C3)]⟩,l.prog,w,mg,base⟩ 0 (.rs 3))
 have cl3:=(⟨rfl,PySem.W.mg_of X G c3.q⟩:NeedG ⟨⟨K,clA [(2,C2),(3,C3)],Dg [(2,C2),(3,C3)]⟩,l.prog,w,mg,base⟩ 0 (.cl 3))
 have h_is_whole:=Ap (lv:=0) (O base) (An X G t0 fun _ _ _ _ _ _=>ba1 fun _=>rfl) Ls trivial
 have h_is_between:=Ap (lv:=1) (O base) (An X G t1 fun _ _ _ _ _ _=>ba3 fun _ _ _=>rfl) JJ ⟨⟨by decide,h_is_whole⟩,trivial⟩
 have h_levels:=Ap (lv:=0) (O base) (An X G t2 fun _ _ _ _ _ _=>ba1 fun _=>rfl) O6 trivial
 have h_is_counted_node:=Ap (lv:=2) (O base) (An X G t3 fun _ _ _ _ _ _=>ba2 fun _ _=>rfl) GN ⟨⟨by decide,h_is_between⟩,⟨by decide,h_is_between⟩,trivial⟩
 have h_is_node:=Ap (lv:=3) (O base) (An X G t4 fun _ _ _ _ _ _=>ba2 fun _ _=>rfl) Nz ⟨⟨by decide,h_is_counted_node⟩,⟨by decide,h_levels⟩,trivial⟩
 have h_check_node:=Ap (lv:=4) (O base) (An X G t5 fun _ _ _ _ _ _=>ba2 fun _ _=>rfl) JK ⟨⟨by decide,h_is_node⟩,rs2,trivial⟩
 have h_span:=Ap (lv:=5) (O base) (An X G t6 fun _ _ _ _ _ _=>ba2 fun _ _=>rfl) Th ⟨⟨by decide,h_check_node⟩,trivial⟩
 have h_top:=Ap (lv:=1) (O base) (An X G t7 fun _ _ _ _ _ _=>ba1 fun _=>rfl) Vi ⟨⟨by decide,h_levels⟩,trivial⟩
 have h_parent:=Ap (lv:=5) (O base) (An X G t8 fun _ _ _ _ _ _=>ba2 fun _ _=>rfl) O7 ⟨⟨by decide,h_check_node⟩,⟨by decide,h_top⟩,trivial⟩
 have h_children:=Ap (lv:=5) (O base) (An X G t9 fun _ _ _ _ _ _=>ba2 fun _ _=>rfl) Lu ⟨⟨by decide,h_check_node⟩,⟨by decide,h_levels⟩,trivial⟩
 have h_lies_within:=Ap (lv:=0) (O base) (An X G t10 fun _ _ _ _ _ _=>ba3 fun _ _ _=>rfl) Jd trivial
 have h_highest_within:=Ap (lv:=6) (O base) (An X G t11 fun _ _ _ _ _ _=>ba3 fun _ _ _=>rfl) Hg ⟨⟨by decide,h_parent⟩,⟨by decide,h_lies_within⟩,⟨by decide,h_span⟩,⟨by decide,h_parent⟩,trivial⟩
 have h_cover:=Ap (lv:=7) (O base) (An X G t12 fun _ _ _ _ _ _=>ba3 fun _ _ _=>rfl) QK ⟨rs3,⟨by decide,h_highest_within⟩,⟨by decide,h_span⟩,trivial⟩
 have h_check_page:=Ap (lv:=2) (O base) (An X G t13 fun _ _ _ _ _ _=>ba2 fun _ _=>rfl) JL ⟨⟨by decide,h_is_between⟩,rs3,trivial⟩
 have h_counts_of:=Ap (lv:=0) (O base) (An X G t14 fun _ _ _ _ _ _=>ba1 fun _=>rfl) Ld trivial
 have h_rooms_of:=Ap (lv:=0) (O base) (An X G t15 fun _ _ _ _ _ _=>ba1 fun _=>rfl) Lv trivial
 have h_shape_of:=Ap (lv:=1) (O base) (An X G t16 fun _ _ _ _ _ _=>ba2 fun _ _=>rfl) Lx ⟨⟨by decide,h_rooms_of⟩,trivial⟩
 have h_has_node:=Ap (lv:=3) (O base) (An X G t17 fun _ _ _ _ _ _=>ba2 fun _ _=>rfl) Ly ⟨⟨by decide,h_is_counted_node⟩,⟨by decide,h_counts_of⟩,trivial⟩
 have h_check_has_node:=Ap (lv:=4) (O base) (An X G t18 fun _ _ _ _ _ _=>ba2 fun _ _=>rfl) Hh ⟨⟨by decide,h_has_node⟩,rs2,trivial⟩
 have h_tells:=Ap (lv:=5) (O base) (An X G t19 fun _ _ _ _ _ _=>ba2 fun _ _=>rfl) QL ⟨⟨by decide,h_check_has_node⟩,trivial⟩
 have h_greatest:=Ap (lv:=0) (O base) (An X G t20 fun _ _ _ _ _ _=>ba1 fun _=>rfl) Lz trivial
 have h_up_to_enough:=Ap (lv:=6) (O base) (An X G t21 fun _ _ _ _ _ _=>ba3 fun _ _ _=>rfl) IC ⟨⟨by decide,h_tells⟩,trivial⟩
 have h_walked:=Ap (lv:=8) (O base) (An X G t22 fun _ _ _ _ _ _=>ba4 fun _ _ _ _=>rfl) O8 ⟨⟨by decide,h_shape_of⟩,⟨by decide,h_cover⟩,⟨by decide,h_up_to_enough⟩,⟨by decide,h_tells⟩,⟨by decide,h_children⟩,trivial⟩
 have h_first_from:=Ap (lv:=9) (O base) (An X G t23 fun _ _ _ _ _ _=>ba4 fun _ _ _ _=>rfl) JM ⟨⟨by decide,h_walked⟩,⟨by decide,h_tells⟩,trivial⟩
 have h_first:=Ap (lv:=10) (O base) (An X G t24 fun _ _ _ _ _ _=>ba3 fun _ _ _=>rfl) QM ⟨⟨by decide,h_first_from⟩,trivial⟩
 have h_last_enough:=Ap (lv:=6) (O base) (An X G t25 fun _ _ _ _ _ _=>ba3 fun _ _ _=>rfl) Je ⟨⟨by decide,h_tells⟩,trivial⟩
 have h_last_ahead:=Ap (lv:=8) (O base) (An X G t26 fun _ _ _ _ _ _=>ba4 fun _ _ _ _=>rfl) JN ⟨⟨by decide,h_shape_of⟩,⟨by decide,h_last_enough⟩,⟨by decide,h_cover⟩,⟨by decide,h_last_enough⟩,⟨by decide,h_children⟩,trivial⟩
 have h_last:=Ap (lv:=9) (O base) (An X G t27 fun _ _ _ _ _ _=>ba3 fun _ _ _=>rfl) Ti ⟨⟨by decide,h_last_ahead⟩,⟨by decide,h_shape_of⟩,trivial⟩
 have h_further:=Ap (lv:=10) (O base) (An X G t28 fun _ _ _ _ _ _=>ba4 fun _ _ _ _=>rfl) NA ⟨⟨by decide,h_check_page⟩,⟨by decide,h_shape_of⟩,⟨by decide,h_first_from⟩,trivial⟩
 have h_round_from:=Ap (lv:=11) (O base) (An X G t29 fun _ _ _ _ _ _=>ba4 fun _ _ _ _=>rfl) JO ⟨⟨by decide,h_further⟩,⟨by decide,h_first⟩,trivial⟩
 have h_near:=Ap (lv:=11) (O base) (An X G t30 fun _ _ _ _ _ _=>ba4 fun _ _ _ _=>rfl) Tj ⟨⟨by decide,h_further⟩,⟨by decide,h_last_ahead⟩,trivial⟩
 have h_best:=Ap (lv:=1) (O base) (An X G t31 fun _ _ _ _ _ _=>ba3 fun _ _ _=>rfl) Tk ⟨⟨by decide,h_rooms_of⟩,trivial⟩
 have h_worst:=Ap (lv:=11) (O base) (An X G t32 fun _ _ _ _ _ _=>ba3 fun _ _ _=>rfl) QN ⟨⟨by decide,h_greatest⟩,⟨by decide,h_first⟩,trivial⟩
 have h_law_cell:=Ap (lv:=0) (O base) (An X G t33 fun _ _ _ _ _ _=>ba2 fun _ _=>rfl) LA trivial
 have h_law_mix_k11:=Ap (lv:=0) (O base) (An X G t34 fun _ _ _ _ _ _=>ba2 fun _ _=>rfl) Jf trivial
 have h_law_row_k11:=Ap (lv:=1) (O base) (An X G t35 fun _ _ _ _ _ _=>ba3 fun _ _ _=>rfl) Jg ⟨⟨by decide,h_law_cell⟩,⟨by decide,h_law_mix_k11⟩,⟨by decide,h_law_cell⟩,⟨by decide,h_law_mix_k11⟩,trivial⟩
 have h_law_rooms_k21:=Ap (lv:=2) (O base) (An X G t36 fun _ _ _ _ _ _=>ba3 fun _ _ _=>rfl) HI ⟨⟨by decide,h_law_row_k11⟩,trivial⟩
 have h_law_fan_k22:=Ap (lv:=2) (O base) (An X G t37 fun _ _ _ _ _ _=>ba2 fun _ _=>rfl) Jh ⟨⟨by decide,h_law_row_k11⟩,trivial⟩
 have h_law_need_k27:=Ap (lv:=2) (O base) (An X G t38 fun _ _ _ _ _ _=>ba3 fun _ _ _=>rfl) ID ⟨⟨by decide,h_law_row_k11⟩,trivial⟩
 have h_law_counts_k11:=Ap (lv:=0) (O base) (An X G t39 fun _ _ _ _ _ _=>ba2 fun _ _=>rfl) Hi trivial
 have h_law_reach_k12:=Ap (lv:=0) (O base) (An X G t40 fun _ _ _ _ _ _=>ba4 fun _ _ _ _=>rfl) HJ trivial
 have h_law_tree_k22:=Ap (lv:=1) (O base) (An X G t41 fun _ _ _ _ _ _=>ba2 fun _ _=>rfl) IE ⟨⟨by decide,h_law_counts_k11⟩,⟨by decide,h_law_reach_k12⟩,trivial⟩
 have h_law_cover_k13:=Ap (lv:=1) (O base) (An X G t42 fun _ _ _ _ _ _=>ba4 fun _ _ _ _=>rfl) HK ⟨⟨by decide,h_law_counts_k11⟩,trivial⟩
 have h_law_plain_k31:=Ap (lv:=0) (O base) (An X G t43 fun _ _ _ _ _ _=>ba3 fun _ _ _=>rfl) HL trivial
 have h_law_walk_k35:=Ap (lv:=2) (O base) (An X G t44 fun _ _ _ _ _ _=>ba4 fun _ _ _ _=>rfl) IF ⟨⟨by decide,h_law_cover_k13⟩,trivial⟩
 have h_law_all:=Ap (lv:=12) (O base) (An X G t45 fun _ _ _ _ _ _=>ba5 fun _ _ _ _ _=>rfl) NB ⟨⟨by decide,h_law_plain_k31⟩,⟨by decide,h_law_plain_k31⟩,⟨by decide,h_law_plain_k31⟩,⟨by decide,h_law_plain_k31⟩,⟨by decide,h_first⟩,⟨by decide,h_last⟩,⟨by decide,h_further⟩,⟨by decide,h_round_from⟩,⟨by decide,h_near⟩,⟨by decide,h_best⟩,⟨by decide,h_worst⟩,⟨by decide,h_walked⟩,⟨by decide,h_law_walk_k35⟩,⟨by decide,h_law_tree_k22⟩,trivial⟩
 have h_law_put_k38:=SH (lv:=2) (O base) (An X G t46 fun _ _ _ _ _ _=>ba3 fun _ _ _=>rfl) Ji ⟨⟨by decide,h_law_tree_k22⟩,trivial⟩
 exact ⟨⟨by decide,h_law_rooms_k21⟩,⟨by decide,h_law_fan_k22⟩,⟨by decide,h_law_row_k11⟩,⟨by decide,h_law_tree_k22⟩,⟨by decide,h_law_tree_k22⟩,⟨by decide,h_law_need_k27⟩,⟨by decide,h_law_row_k11⟩,⟨by decide,h_law_all⟩,⟨by decide,h_law_all⟩,⟨by decide,h_law_all⟩,⟨by decide,h_law_put_k38⟩,⟨by decide,h_law_put_k38⟩,⟨by decide,h_law_need_k27⟩,⟨by decide,h_law_all⟩,⟨by decide,h_law_tree_k22⟩,⟨by decide,h_law_tree_k22⟩,trivial⟩
end Pu
open PySem PySem.W PyProof.Rows
noncomputable def PySem.W.Fast.tw5730412786985621677:Nat:=0
noncomputable def PySem.W.Fast.tw12243175735667578667:Nat:=0
noncomputable def PySem.W.Fast.tw12612792892314387781:Nat:=0
noncomputable def PySem.W.Fast.tw2220462519210706311:Nat:=0
noncomputable def PySem.W.Fast.tw13296480342133605030:Nat:=0
noncomputable def PySem.W.Fast.tw7948533142979119954:Nat:=0
noncomputable def PySem.W.Fast.tw3729585440469485836:Nat:=0
noncomputable def PySem.W.Fast.tw7118567942266478181:Nat:=0
noncomputable def PySem.W.Fast.tw6527096960456201927:Nat:=0
noncomputable def PySem.W.Fast.tw12699651597557509353:Nat:=0
noncomputable def PySem.W.Fast.tw14766473487522513836:Nat:=0
noncomputable def PySem.W.Fast.tw13094870604116027261:Nat:=0
noncomputable def PySem.W.Fast.tw9720895205267903961:Nat:=0
noncomputable def PySem.W.Fast.tw1164923749079896041:Nat:=0
noncomputable def PySem.W.Fast.tw6988822121768010318:Nat:=0
noncomputable def PySem.W.Fast.tw14256430163436300329:Nat:=0
noncomputable def PySem.W.Fast.tw17065893787590534033:Nat:=0
noncomputable def PySem.W.Fast.tw10651933189774387990:Nat:=0
noncomputable def PySem.W.Fast.tw6970553055205916146:Nat:=0
noncomputable def PySem.W.Fast.tw5742013778083438731:Nat:=0
noncomputable def PySem.W.Fast.tw6441332010058198851:Nat:=0
noncomputable def PySem.W.Fast.tw4115133466821648843:Nat:=0
noncomputable def PySem.W.Fast.tw17578749501312864816:Nat:=0
noncomputable def PySem.W.Fast.tw2005420746197033069:Nat:=0
noncomputable def PySem.W.Fast.tw1956217894965714654:Nat:=0
noncomputable def PySem.W.Fast.tw16432850422493570021:Nat:=0
noncomputable def PySem.W.Fast.tw11363117431455734063:Nat:=0
noncomputable def PySem.W.Fast.tw9841674689663178210:Nat:=0
noncomputable def PySem.W.Fast.tw7652740624252527149:Nat:=0
noncomputable def PySem.W.Fast.tw17507740985172398855:Nat:=0
noncomputable def PySem.W.Fast.tw16642142151183799965:Nat:=0
noncomputable def PySem.W.Fast.tw16757005183314061610:Nat:=0
noncomputable def PySem.W.Fast.tw8047759469541731881:Nat:=0
noncomputable def PySem.W.Fast.tw17084089644832468255:Nat:=0
noncomputable def PySem.W.Fast.tw3388288474890177790:Nat:=0
noncomputable def PySem.W.Fast.tw7470127796281770953:Nat:=0
noncomputable def PySem.W.Fast.tw14143995968803060073:Nat:=0
noncomputable def PySem.W.Fast.tw872798738329268248:Nat:=0
noncomputable def PySem.W.Fast.tw791777249132023193:Nat:=0
noncomputable def PySem.W.Fast.tw953402950436797186:Nat:=0
noncomputable def PySem.W.Fast.tw3024910456254890407:Nat:=0
noncomputable def PySem.W.Fast.tw4200914513578956106:Nat:=0
noncomputable def PySem.W.Fast.tw9146546426655569315:Nat:=0
noncomputable def PySem.W.Fast.tw13988018189139673608:Nat:=0
noncomputable def PySem.W.Fast.tw14302840468441002475:Nat:=0
noncomputable def PySem.W.Fast.tw3219139064207170223:Nat:=0
noncomputable def PySem.W.Fast.tw6410438541696975547:Nat:=0
noncomputable def PySem.W.Fast.tw14603982659414026882:Nat:=0
noncomputable def PySem.W.Fast.tw16985025556611722592:Nat:=0
noncomputable def PySem.W.Fast.tw13556053131052434762:Nat:=0
noncomputable def PySem.W.Fast.tw2903333153066323754:Nat:=0
noncomputable def PySem.W.Fast.tw8897630720730347796:Nat:=0
noncomputable def PySem.W.Fast.tw2499476232171229160:Nat:=0
noncomputable def PySem.W.Fast.tw3007792362138745750:Nat:=0
noncomputable def PySem.W.Fast.tw2244928980674765049:Nat:=0
noncomputable def PySem.W.Fast.tw6251891294017014321:Nat:=0
noncomputable def PySem.W.Fast.tw4019715823086083971:Nat:=0
noncomputable def PySem.W.Fast.tw309457650425773442:Nat:=0
noncomputable def PySem.W.Fast.tw18274187691425095313:Nat:=0
noncomputable def PySem.W.Fast.tw3301067155361176185:Nat:=0
noncomputable def PySem.W.Fast.tw12756697629196739101:Nat:=0
noncomputable def PySem.W.Fast.tw14708097304299549155:Nat:=0
noncomputable def PySem.W.Fast.tw18088594886782721024:Nat:=0
noncomputable def PySem.W.Fast.tw16455373914912478216:Nat:=0
noncomputable def PySem.W.Fast.tw15601822678235527493:Nat:=0
noncomputable def PySem.W.Fast.tw18060613472811623143:Nat:=0
noncomputable def PySem.W.Fast.tw4416607336241416328:Nat:=0
noncomputable def PySem.W.Fast.tw7472984330877299051:Nat:=0
noncomputable def PySem.W.Fast.tw1440467529876980366:Nat:=0
noncomputable def PySem.W.Fast.tw3258368797510799413:Nat:=0
noncomputable def PySem.W.Fast.tw17260841594868929355:Nat:=0
noncomputable def PySem.W.Fast.tw2066365057380994178:Nat:=0
noncomputable def PySem.W.Fast.tw13837611247301115829:Nat:=0
noncomputable def PySem.W.Fast.tw10479559631378192968:Nat:=0
noncomputable def PySem.W.Fast.tw17520862123956342326:Nat:=0
noncomputable def PySem.W.Fast.tw3645814649102340523:Nat:=0
noncomputable def PySem.W.Fast.tw8285358997854876679:Nat:=0
noncomputable def PySem.W.Fast.tw7322498588513259312:Nat:=0
noncomputable def PySem.W.Fast.tw17634533038776967661:Nat:=0
noncomputable def PySem.W.Fast.tw9048584023912097446:Nat:=0
noncomputable def PySem.W.Fast.tw9754296756750933519:Nat:=0
noncomputable def PySem.W.Fast.tw9385080382261345984:Nat:=0
noncomputable def PySem.W.Fast.tw6155585211528957951:Nat:=0
noncomputable def PySem.W.Fast.tw11092116320750616130:Nat:=0
noncomputable def PySem.W.Fast.tw2361050055815755501:Nat:=0
noncomputable def PySem.W.Fast.tw17131672414415676802:Nat:=0
noncomputable def PySem.W.Fast.tw10885368024600684516:Nat:=0
noncomputable def PySem.W.Fast.tw17435123681866248:Nat:=0
noncomputable def PySem.W.Fast.tw5982402764124301000:Nat:=0
noncomputable def PySem.W.Fast.tw13176540490394356765:Nat:=0
noncomputable def PySem.W.Fast.tw15803265778077675344:Nat:=0
noncomputable def PySem.W.Fast.tw11170630964191767288:Nat:=0
noncomputable def PySem.W.Fast.tw1816448373041897336:Nat:=0
noncomputable def PySem.W.Fast.tw5111542563957999551:Nat:=0
noncomputable def PySem.W.Fast.tw12676769163155277555:Nat:=0
noncomputable def PySem.W.Fast.tw186938123580375138:Nat:=0
noncomputable def PySem.W.Fast.tw9189525333650276853:Nat:=0
noncomputable def PySem.W.Fast.tw6387031436416134223:Nat:=0
noncomputable def PySem.W.Fast.tw16759457025155377270:Nat:=0
noncomputable def PySem.W.Fast.tw2055675584676607886:Nat:=0
noncomputable def PySem.W.Fast.tw6288553634103889602:Nat:=0
noncomputable def PySem.W.Fast.tw5627825773423589016:Nat:=0
noncomputable def PySem.W.Fast.tw12849985541597558060:Nat:=0
noncomputable def PySem.W.Fast.tw2268224755065660662:Nat:=0
noncomputable def PySem.W.Fast.tw9027351464877927159:Nat:=0
noncomputable def PySem.W.Fast.tw9981739213258843707:Nat:=0
noncomputable def PySem.W.Fast.tw18092919089998830300:Nat:=0
noncomputable def PySem.W.Fast.tw14994110697565777913:Nat:=0
noncomputable def PySem.W.Fast.tw3152031585593077022:Nat:=0
noncomputable def PySem.W.Fast.tw10412492819001855471:Nat:=0
noncomputable def PySem.W.Fast.tw4190554661713547659:Nat:=0
noncomputable def PySem.W.Fast.tw12575691856892180808:Nat:=0
noncomputable def PySem.W.Fast.tw5697664912819869943:Nat:=0
noncomputable def PySem.W.Fast.tw1060951080302720119:Nat:=0
noncomputable def PySem.W.Fast.tw15554344683991318438:Nat:=0
noncomputable def PySem.W.Fast.tw16577705040184551033:Nat:=0
noncomputable def PySem.W.Fast.tw9626958486036178064:Nat:=0
noncomputable def PySem.W.Fast.tw17669024983860058480:Nat:=0
noncomputable def PySem.W.Fast.tw1114237636976737614:Nat:=0
noncomputable def PySem.W.Fast.tw15683739133896084492:Nat:=0
noncomputable def PySem.W.Fast.tw14717125251443599471:Nat:=0
noncomputable def PySem.W.Fast.tw1445828549971843917:Nat:=0
noncomputable def PySem.W.Fast.tw12867006880958388553:Nat:=0
noncomputable def PySem.W.Fast.tw16956619825447868735:Nat:=0
noncomputable def PySem.W.Fast.tw11826925364299168692:Nat:=0
noncomputable def PySem.W.Fast.tw17340997630367659182:Nat:=0
noncomputable def PySem.W.Fast.tw14306021533740433001:Nat:=0
noncomputable def PySem.W.Fast.tw3779900968851386199:Nat:=0
noncomputable def PySem.W.Fast.tw3500638142752493124:Nat:=0
noncomputable def PySem.W.Fast.tw4273491537593649219:Nat:=0
noncomputable def PySem.W.Fast.tw17374611601991197685:Nat:=0
noncomputable def PySem.W.Fast.tw3408631994252581790:Nat:=0
noncomputable def PySem.W.Fast.tw15851864695044679432:Nat:=0
noncomputable def PySem.W.Fast.tw12130742600203276207:Nat:=0
noncomputable def PySem.W.Fast.tw5707686402965437858:Nat:=0
noncomputable def PySem.W.Fast.tw5183029566402468746:Nat:=0
noncomputable def PySem.W.Fast.tw2515210571695161583:Nat:=0
noncomputable def PySem.W.Fast.tw7902416898773099590:Nat:=0
noncomputable def PySem.W.Fast.tw1582972912026803954:Nat:=0
noncomputable def PySem.W.Fast.tw12736150789424519768:Nat:=0
noncomputable def PySem.W.Fast.tw4322527822726104166:Nat:=0
noncomputable def PySem.W.Fast.tw4279624228631500812:Nat:=0
noncomputable def PySem.W.Fast.tw17367990730489668398:Nat:=0
noncomputable def PySem.W.Fast.tw15471428148992902755:Nat:=0
noncomputable def PySem.W.Fast.tw7569623073084898144:Nat:=0
noncomputable def PySem.W.Fast.tw17806747929130309398:Nat:=0
local macro_rules | `(tactic| simp_arith!)=>`(tactic| (refine' Pu.AA ?za ?zl ?zc ?zk; (case za=>k_is); (case zl=>k_is); (case zc=>k_is); (case zk=>k_is)))
local macro_rules | `(tactic| simp_all_arith)=>`(tactic| (refine' Pu.U4 ?zq ?zx1 ?zx2 ?zx3 ?zx4 ?zx5 ?zx6 ?zx7 ?zt1 ?zt2 ?zt3 ?zt4 ?zt5 ?zt6 ?zv; (case zq=>k_is); (case zx1=>k_is); (case zx2=>k_is); (case zx3=>k_is); (case zx4=>k_is); (case zx5=>k_is); (case zx6=>k_is); (case zx7=>k_is); (case zt1=>kit_is); (case zt2=>kit_is); (case zt3=>kit_is); (case zt4=>kit_is); (case zt5=>kit_is); (case zt6=>kit_is); (case zv=>kit_is)))
set_option maxRecDepth 100000 in
set_option maxHeartbeats 0 in
theorem PySem.Challenge.cw_ullage_k38_trees_changed_between_holds : PySem.Challenge.rw_ullage_k38_trees_changed_between.Holds := by
 w_on; o_law; k_head; (case hw=>w_witness2)
 k_fill
 refine Pu.VP (l:=PySem.Challenge.rw_ullage_k38_trees_changed_between) (k:=14) (x := "_law_script") rfl rfl ⟨rfl,by decide,by decide⟩ (fun w h Y=>PySem.W.kIn_of Y) ?F
 case F =>
  intro w mg fa h KX G hmg
  refine' Pu.Vj KX G hmg ?t0 ?t1 ?t2 ?t3 ?t4 ?t5 ?t6 ?t7 ?t8 ?t9 ?t10 ?t11 ?t12 ?t13 ?t14 ?t15 ?t16 ?t17 ?t18 ?t19 ?t20 ?t21 ?t22 ?t23 ?t24 ?t25 ?t26 ?t27 ?t28 ?t29 ?t30 ?t31 ?t32 ?t33 ?t34 ?t35 ?t36 ?t37 ?t38 ?t39 ?t40 ?t41 ?t42 ?t43 ?t44 ?t45 ?t46 ?t47 ?n_len ?n_min ?n_max ?n_abs ?n_int ?n_list ?n_tuple ?n_all ?n_any ?n_sum ?n_sorted ?n_isinstance ?n_str ?n_range ?n_enumerate ?n_zip ?n_reversed ?n_bool ?n_dict ?n_ValueError ?c2 ?c3 ?e2 ?e3 ?y2_2 ?y2_3 ?y3_2 ?y3_3 ?nl Pu.Tf
  (case t0=>simp_arith!)
  (case t1=>simp_arith!)
  (case t2=>simp_arith!)
  (case t3=>simp_arith!)
  (case t4=>simp_arith!)
  (case t5=>simp_arith!)
  (case t6=>simp_arith!)
  (case t7=>simp_arith!)
  (case t8=>simp_arith!)
  (case t9=>simp_arith!)
  (case t10=>simp_arith!)
  (case t11=>simp_arith!)
  (case t12=>simp_arith!)
  (case t13=>simp_arith!)
  (case t14=>simp_arith!)
  (case t15=>simp_arith!)
  (case t16=>simp_arith!)
  (case t17=>simp_arith!)
  (case t18=>simp_arith!)
  (case t19=>simp_arith!)
  (case t20=>simp_arith!)
  (case t21=>simp_arith!)
  (case t22=>simp_arith!)
  (case t23=>simp_arith!)
  (case t24=>simp_arith!)
  (case t25=>simp_arith!)
  (case t26=>simp_arith!)
  (case t27=>simp_arith!)
  (case t28=>simp_arith!)
  (case t29=>simp_arith!)
  (case t30=>simp_arith!)
  (case t31=>simp_arith!)
  (case t32=>simp_arith!)
  (case t33=>simp_arith!)
  (case t34=>simp_arith!)
  (case t35=>simp_arith!)
  (case t36=>simp_arith!)
  (case t37=>simp_arith!)
  (case t38=>simp_arith!)
  (case t39=>simp_arith!)
  (case t40=>simp_arith!)
  (case t41=>simp_arith!)
  (case t42=>simp_arith!)
  (case t43=>simp_arith!)
  (case t44=>simp_arith!)
  (case t45=>simp_arith!)
  (case t46=>simp_arith!)
  (case t47=>simp_arith!)
  (case n_len=>k_is)
  (case n_min=>k_is)
  (case n_max=>k_is)
  (case n_abs=>k_is)
  (case n_int=>k_is)
  (case n_list=>k_is)
  (case n_tuple=>k_is)
  (case n_all=>k_is)
  (case n_any=>k_is)
  (case n_sum=>k_is)
  (case n_sorted=>k_is)
  (case n_isinstance=>k_is)
  (case n_str=>k_is)
  (case n_range=>k_is)
  (case n_enumerate=>k_is)
  (case n_zip=>k_is)
  (case n_reversed=>k_is)
  (case n_bool=>k_is)
  (case n_dict=>k_is)
  (case n_ValueError=>k_is)
  (case c2=>simp_all_arith)
  (case c3=>simp_all_arith)
  (case e2=>k_exc)
  (case e3=>k_exc)
  (case y2_2=>kit_is)
  (case y2_3=>kit_is)
  (case y3_2=>kit_is)
  (case y3_3=>kit_is)
  (case nl=>exact rfl)

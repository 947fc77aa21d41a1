import PyProof.Rows.All
import Wide.All
import OpenK.AllK
import Wide.FinOn
import Lean
import PyProof.EqAt
import PyProof.EqKinds
import PyProof.TupleCall
import PyProof.ZipIter
import PyProof.LongRange
import PyProof.StrBlockL
import PyProof.StrCalls6
import PyProof.SliceStr
import PyProof.StrWalks
import PyProof.StrLawsIn
import PyProof.StrOps2
import PyProof.DelItemList
import PyProof.ListOps
import PyProof.FitsReplace
import PyProof.DictTable
import PyProof.DictKinds
import PyProof.DictStraight
import KE.KEqDict
import PySem.Challenge.RW_ullage_k23_checked_tree
set_option Elab.async false
set_option linter.all false
set_option bootstrap.genMatcherCode false
set_option compiler.extract_closed false
set_option maxRecDepth 100000
open List renaming mem_cons_of_mem->aaa,length_map->aab,mem_cons_self->aac,mem_append->aae,mem_of_getElem?->aaf,mem_append_right->aag,getElem?_eq_getElem->aah,mem_cons->aai,size_toArray->aak,getElem?_map->aal,replicate->aam,mem_append_left->aan,getElem?_set_ne->aap,map_append->aaq,all_eq_true->aat,nodup_cons->aav,getD_eq_getElem?_getD->aaw,getElem?_eq_some_iff->aaz,map_cons->aaA,all_cons->aaB,length_append->aaD,range->aaE,length_set->aaF,mem_singleton->aaG,getElem?_append_right->aaH,mem_or_eq_of_mem_set->aaJ,eq_nil_iff_forall_not_mem->aaK,mem_filterMap->aaN,getElem?_append_left->aaP,length->aaQ,mem_map->aaS,getElem?_replicate->aaT,append_nil->aaU,map_map->aaY,length_replicate->aa1,length_singleton->aa2,cons_append->aa4,getElem?_cons_succ->aa5,map_replicate->aa6,mem_of_mem_drop->aa7,mem_of_mem_take->aa8,map_set->aa9,getElem?_set_self'->aba,getElem?_cons_zero->abb,filterMap_cons->abc,replicate_succ->abd,map_congr_left->abe,getElem_of_mem->abf,length_take->abg,length_drop->abh,length_cons->abj,nil_append->abl,any_cons->abn,zipWith->abo,find?_cons->abr,getElem?_set_self->abv,flatten_cons->abx,all_map->aby,not_mem_nil->abA,getElem_mem->abB,drop_eq_getElem_cons->abD,map_nil->abE,mem_replicate->abF,map->abH,length_range->abM,take_of_length_le->abO,map_take->abP,map_drop->abQ,foldl_cons->abT,eq_nil_of_length_eq_zero->abW,length_pos_iff->abZ,mem_range->ab0,nodup_nil->ab1,reverse_cons->ab5,getElem?_set->ab6,drop_length->aca,of_mem_zip->acb,range_succ->ace,eraseIdx_sublist->aci,reverse_reverse->ack,getElem?_of_mem->acl,set->acm,nodup_append->acw,ext_getElem?->acx,foldl->acz
open Nat renaming le_refl->aao,zero_le->aas,lt_of_lt_of_le->aau,le_trans->aay,ne_of_lt->aaC,lt_of_le_of_lt->aaL,le_of_lt->aaO,le_of_succ_le_succ->aaR,lt_irrefl->aaW,zero_add->aaX,le_of_not_lt->abi,min_le_left->abt,pow_pos->abw,min_le_right->abz,le_of_lt_succ->abL,le_succ->abN,succ_le_succ->abR,le_div_iff_mul_le->abS,not_lt_zero->abU,pow_le_pow_left->abY,ne_of_gt->ab8,add_comm->ab9,le_antisymm->acd,le_add_left->acg,le_zero->ach,pow_le_pow_right->acn,le_of_eq->acr,lt_or_ge->acs,eq_zero_or_pos->act,pow_succ->acv
open Option renaming map_eq_some_iff->aar,isSome_iff_exists->aax,bind_some->aaM,map_some->aa0,getD_none->acy,map->acA
open Bool renaming and_eq_true->aaj,false_eq_true->aa3,true_and->abp,false_ne_true->abq,true_eq_false->abu,not_true->abC,false_and->abI,not_false->abJ,eq_false_iff->abK,or_eq_true_iff->abX,and_false->ab2,not_eq_true'->ab7,and_eq_true_iff->acj,false_or->aco,or_false->acp
open Int renaming natCast_nonneg->aaI,toNat_natCast->aaV,ofNat_le->aaZ,zero_add->abk,emod_nonneg->abm,emod_lt_of_pos->abG,sub_zero->abV,lt_of_le_of_lt->ab3,toNat->ab4,natCast_mul->acf,toNat_of_nonneg->acq,le_trans->acu
theorem nF {P:Prop} (h:false=true):P:=Bool.noConfusion h
theorem nE {P:Prop} (h:False):P:=h.elim
theorem bS {α β:Type _} {o:Option α} {f:α->Option β} {b:β} (h:o.bind f=some b):∃ a,o=some a/\f a=some b:=Option.bind_eq_some_iff.mp h
section
namespace L2
open PySem PySem.Spec PyProof.Rows
noncomputable abbrev Key:=Sum Int Str
noncomputable def Nx:Key->Value->Bool
 | .inl k,v=>Value.isInt k v
 | .inr x,v=>Value.isStrOf x v
noncomputable def Sd (w:World):Key->Int
 | .inl k=>hashInt k
 | .inr x=>hashStr w x
theorem AU:∀ {k:Key} {v:Value},Nx k v=true->(∃ i t,k=Sum.inl i/\v=Value.int i t)\/(∃ x t,k=Sum.inr x/\v=Value.str x t)
 | .inl i,v,h=>by
  obtain ⟨t,e⟩:=Value.isInt_shape (k:=i) (v:=v) h
  exact .inl ⟨i,t,rfl,e⟩
 | .inr x,v,h=>by
  obtain ⟨t,e⟩:=Value.isStrOf_shape (x:=x) (v:=v) h
  exact .inr ⟨x,t,rfl,e⟩
theorem Pf (a b:Int):decide ((Sum.inl a:Key)=Sum.inl b)=(a==b):=by
 by_cases e:a=b
 ·subst e; simp
 ·have h:¬ (Sum.inl a:Key)=Sum.inl b:=fun q=>e (Sum.inl.inj q)
  rw [decide_eq_false h]
  exact (beq_eq_false_iff_ne.mpr e).symm
theorem Pg (a b:Str):decide ((Sum.inr a:Key)=Sum.inr b)=decide (a=b):=by
 by_cases e:a=b
 ·subst e; simp
 ·have h:¬ (Sum.inr a:Key)=Sum.inr b:=fun q=>e (Sum.inr.inj q)
  rw [decide_eq_false h,decide_eq_false e]
theorem Ph (a:Int) (b:Str):decide ((Sum.inl a:Key)=Sum.inr b)=false:=decide_eq_false (fun q=>nomatch q)
theorem Pi (a:Str) (b:Int):decide ((Sum.inr a:Key)=Sum.inl b)=false:=decide_eq_false (fun q=>nomatch q)
noncomputable def B0 (prog:Program) (w:World):PySem.KeyKind prog w Key where
 is:=Nx
 hash:=Sd w
 inj:=fun v a b ha hb=>by
  rcases AU ha with ⟨i,t,rfl,rfl⟩ | ⟨x,t,rfl,rfl⟩
  ·rcases AU hb with ⟨j,u,rfl,e⟩ | ⟨y,u,rfl,e⟩
   ·injection e with e1 _; rw [e1]
   ·exact nomatch e
  ·rcases AU hb with ⟨j,u,rfl,e⟩ | ⟨y,u,rfl,e⟩
   ·exact nomatch e
   ·injection e with e1 _; rw [e1]
 byValue:=fun k v h=>by
  rcases AU h with ⟨i,t,rfl,rfl⟩ | ⟨x,t,rfl,rfl⟩ <;> rfl
 pyHash:=fun hv h=>by
  rcases AU hv with ⟨i,t,rfl,rfl⟩ | ⟨x,t,rfl,rfl⟩
  ·exact wpAny_pyHash_int h
  ·exact wpAny_pyHash_str h
 eqBool:=fun hu hv h=>by
  rcases AU hu with ⟨i,t,rfl,rfl⟩ | ⟨x,t,rfl,rfl⟩
  ·rcases AU hv with ⟨j,u,rfl,rfl⟩ | ⟨y,u,rfl,rfl⟩
   ·rw [Pf] at h; exact wpAny_eqBool_int h
   ·rw [Ph] at h; exact SeqAt.EqAt.int_str i t y u _ _ _ _ h
  ·rcases AU hv with ⟨j,u,rfl,rfl⟩ | ⟨y,u,rfl,rfl⟩
   ·rw [Pi] at h; exact SeqAt.EqAt.str_int x t j u _ _ _ _ h
   ·rw [Pg] at h; exact wpAny_eqBool_str h
 «strs»:=fun k x t v h=>by
  rcases AU h with ⟨i,u,rfl,e⟩ | ⟨y,u,rfl,e⟩
  ·exact nomatch e
  ·injection e with e1 _
   subst e1
   cases v <;> rfl
end L2
namespace L2
open PySem PySem.Spec PyProof.Rows
inductive V where
 | non | bl (b:Bool) | int (i:Int) | str (x:Str) | byt (b:Array UInt8) | flt (b:UInt64) | ref (a:Addr) | ty (n:String)
 deriving DecidableEq
noncomputable def RelV:V->Value->Prop
 | .non,u=>u=Value.none
 | .bl b,u=>u=Value.bool b
 | .int i,u=>∃ t,u=Value.int i t
 | .str x,u=>∃ t,u=Value.str x t
 | .byt b,u=>∃ t,u=Value.bytes b t
 | .flt b,u=>∃ t,u=Value.float b t
 | .ref a,u=>u=Value.ref a
 | .ty n,u=>u=Value.type n
noncomputable abbrev Vals:List V->List Value->Prop:=Paired RelV
theorem Vals.length {xs:List V} {us:List Value} (r:Vals xs us):xs.length=us.length:=Paired.length r
theorem Vals.get:∀ {xs:List V} {us:List Value} {i:Nat} {x:V},Vals xs us->xs[i]?=some x->∃ u,us[i]?=some u/\RelV x u
 | _,_,_,_,.nil,e=>by simp at e
 | _,_,0,_,.cons r _,e=>by simp at e; subst e; exact ⟨_,rfl,r⟩
 | _,_,i + 1,x,.cons _ t,e=>by
  obtain ⟨u,h1,h2⟩:=Vals.get (i:=i) (x:=x) t (by simpa using e)
  exact ⟨u,by simpa using h1,h2⟩
theorem Vals.set {x:V} {u:Value} (r:RelV x u):∀ {xs:List V} {us:List Value} (i:Nat),Vals xs us->Vals (xs.set i x) (us.set i u)
 | _,_,_,.nil=>.nil
 | _,_,0,.cons _ t=>.cons r t
 | _,_,i + 1,.cons q t=>.cons q (Vals.set r i t)
theorem Vals.append:∀ {xs ys:List V} {us ws:List Value},Vals xs us->Vals ys ws->Vals (xs ++ ys) (us ++ ws)
 | _,_,_,_,.nil,s=>s
 | _,_,_,_,.cons r t,s=>.cons r (Vals.append t s)
theorem Vals.take:∀ {xs:List V} {us:List Value} (n:Nat),Vals xs us->Vals (xs.take n) (us.take n)
 | _,_,0,_=>.nil
 | _,_,_ + 1,.nil=>.nil
 | _,_,n + 1,.cons r t=>.cons r (Vals.take n t)
theorem Vals.drop:∀ {xs:List V} {us:List Value} (n:Nat),Vals xs us->Vals (xs.drop n) (us.drop n)
 | _,_,0,r=>r
 | _,_,_ + 1,.nil=>.nil
 | _,_,n + 1,.cons _ t=>Vals.drop n t
noncomputable def RelO:Option V->Option Value->Prop
 | some v,some u=>RelV v u
 | none,none=>True
 | _,_=>False
noncomputable def KV {κ:Type}:List (κ × V)->List (κ × Value)->Prop:=Paired fun (p:κ × V) (q:κ × Value)=>p.1=q.1/\RelV p.2 q.2
noncomputable def kV:Key->V
 | .inl i=>.int i
 | .inr x=>.str x
inductive HO where
  | lst (xs:List V)
  | tup (xs:List V)
  | dK (kvs:List (Key × V)) | dT (kvs:List (List Key × V))
  | set (S:Int->Bool) (n:Nat)
  | ins (C dx:Addr) (fs:List (Str × V))
  | own (x:Addr)
  | xd (fs:List (Str × V))
  | met (f x:Addr)
  | rng (lo hi:Int)
  | frz (o:Obj) (u:HO)
  | tbl (ps:Array Value)
  | ext (φ:Heap->Prop)
noncomputable abbrev Hp:=Addr->Option HO
noncomputable def upd (H:Hp) (a:Addr) (o:HO):Hp:=fun b=>if b=a then some o else H b
theorem AJ {H:Hp} {a:Addr} {o:HO}:upd H a o a=some o:=by unfold upd; rw [if_pos rfl]
theorem Al {H:Hp} {a b:Addr} {o:HO} (h:b ≠ a):upd H a o b=H b:=by unfold upd; rw [if_neg h]
theorem BE {H:Hp} {a b:Addr} {o:HO} (h:H a=some o) (h':H b=none):a ≠ b:=by
 intro e; subst e; rw [h] at h'; cases h'
section
variable (P:Program) (w:World)
noncomputable def ObjOk (H:Hp) (h:Heap) (a:Addr):HO->Prop
 | .lst xs=>xs.length<=sizeLine/\∃ (its:List Value) (n:Nat),Vals xs its/\h.get? a=some { cls:=.type "list",data:=.seq its.toArray n }
 | .tup xs=>xs.length<=sizeLine/\∃ its:List Value,Vals xs its/\IsTup h a its.toArray
 | .dK kvs=>kvs.length<=sizeLine/\(a==sysModules)=false/\∃ vs,KV kvs vs/\h.DictOf (B0 P w) a vs
 | .dT kvs=>kvs.length<=sizeLine/\(a==sysModules)=false/\∃ xs:List (List Key × Addr × Value),
   Paired (fun (p:List Key × V) (q:List Key × Addr × Value)=>p.1=q.1/\H q.2.1=some (.tup (p.1.map kV))/\RelV p.2 q.2.2) kvs xs /\
   ∃ o es ep,h.get? a=some o/\o.ExactDict/\o.data=.dict es ep/\es.toList=xs.map (entryOfKey (tupleKind (B0 P w)))/\(xs.map (·.1)).Nodup
 | .set S n=>h.SetOf (intKind P w) a S n
 | .ins C dx fs=>H dx=some (.own a)/\fs.length<=1000/\dx ≠ a/\h.get? a=some (PySem.W.instObj C dx) /\
   ∃ mA,h.Ns1 dx mA/\(∀ f,RelO (fs.lookup f) (mA f))/\PySem.Within mA (fs.map (·.1))
 | .own _=>∃ o,h.get? a=some o
 | .xd fs=>∃ mA,h.Ns1 a mA/\∀ f,RelO (fs.lookup f) (mA f)
 | .rng lo hi=>∃ t u v,h.get? a=some { cls:=.type "range",data:=.fields #[.int lo t,.int hi u,.int 1 v] }
 | .frz o u=>h.get? a=some o/\ObjOk H h a u
 | .tbl ps=>h.get? a=some { cls:=.none,data:=.fields ps }
 | .met f x=>h.get? a=some (PySem.W.methodObj (.ref f) (.ref x))
 | .ext φ=>φ h/\(∃ o,h.get? a=some o)/\∀ h1 h2:Heap,φ h1->(∀ o,h1.get? a=some o->h2.get? a=some o)->φ h2
noncomputable def HOk (H:Hp) (h:Heap):Prop:=∀ a o,H a=some o->ObjOk P w H h a o
end
section
variable {P:Program} {w:World} {H H':Hp} {h h':Heap} {a:Addr} {o:HO}
theorem ObjOk.lt (x:ObjOk P w H h a o):a < h.objs.size:=by
 cases o with
 | lst xs=>obtain ⟨_,_,_,_,e⟩:=x; exact Heap.lt_size e
 | tup xs=>obtain ⟨_,_,_,p⟩:=x; exact p.lt
 | dK kvs=>obtain ⟨_,_,_,_,o,_,_,e,_⟩:=x; exact Heap.lt_size e
 | dT kvs=>obtain ⟨_,_,_,_,o,_,_,e,_⟩:=x; exact Heap.lt_size e
 | set S n=>obtain ⟨o,_,_,_,e,_⟩:=x; exact Heap.lt_size e
 | ins C dx fs=>obtain ⟨_,_,_,e,_⟩:=x; exact Heap.lt_size e
 | own y=>obtain ⟨_,e⟩:=x; exact Heap.lt_size e
 | xd fs=>obtain ⟨_,⟨_,_,_,e,_⟩,_⟩:=x; exact Heap.lt_size e
 | rng lo hi=>obtain ⟨_,_,_,e⟩:=x; exact Heap.lt_size e
 | frz ob u=>obtain ⟨e,_⟩:=x; exact Heap.lt_size e
 | tbl ps=>exact Heap.lt_size (show h.get? a=some _ from x)
 | met f y=>exact Heap.lt_size (show h.get? a=some _ from x)
 | ext φ=>obtain ⟨_,⟨_,e⟩,_⟩:=x; exact Heap.lt_size e
theorem Paired.mapP {α β:Type} {F G:α->β->Prop}:∀ {l₁:List α} {l₂:List β},Paired F l₁ l₂->(∀ a b,F a b->G a b)->Paired G l₁ l₂
 | _,_,.nil,_=>.nil
 | _,_,.cons r t,f=>.cons (f _ _ r) (Paired.mapP t f)
theorem ObjOk.stay (x:ObjOk P w H h a o) (k:∀ b u,(b=a\/H b=some (.own a))->h.get? b=some u->h'.get? b=some u)
  (ho:∀ b,H b=some (.own a)->H' b=some (.own a)) (ht:∀ b xs,H b=some (.tup xs)->H' b=some (.tup xs)):ObjOk P w H' h' a o:=by
 induction o with
 | lst xs=>obtain ⟨z,its,n,r,e⟩:=x; exact ⟨z,its,n,r,k _ _ (.inl rfl) e⟩
 | tup xs=>obtain ⟨z,its,r,ob,e,c⟩:=x; exact ⟨z,its,r,ob,k _ _ (.inl rfl) e,c⟩
 | dK kvs=>obtain ⟨z,y,vs,r,ob,es,ep,e,c⟩:=x; exact ⟨z,y,vs,r,ob,es,ep,k _ _ (.inl rfl) e,c⟩
 | dT kvs =>
  obtain ⟨z,y,xs,r,ob,es,ep,e,c⟩:=x
  exact ⟨z,y,xs,Paired.mapP r fun p q z=>⟨z.1,ht _ _ z.2.1,z.2.2⟩,ob,es,ep,k _ _ (.inl rfl) e,c⟩
 | set S n=>obtain ⟨ob,es,ep,t,e,c⟩:=x; exact ⟨ob,es,ep,t,k _ _ (.inl rfl) e,c⟩
 | ins C dx fs =>
  obtain ⟨d,z,ne,e,mA,⟨od,es,ep,e2,c⟩,r⟩:=x
  exact ⟨ho _ d,z,ne,k _ _ (.inl rfl) e,mA,⟨od,es,ep,k _ _ (.inr d) e2,c⟩,r⟩
 | own y=>obtain ⟨ob,e⟩:=x; exact ⟨ob,k _ _ (.inl rfl) e⟩
 | xd fs=>obtain ⟨mA,⟨od,es,ep,e,c⟩,r⟩:=x; exact ⟨mA,⟨od,es,ep,k _ _ (.inl rfl) e,c⟩,r⟩
 | rng lo hi=>obtain ⟨t,u,v,e⟩:=x; exact ⟨t,u,v,k _ _ (.inl rfl) e⟩
 | frz ob u ih=>obtain ⟨e,q⟩:=x; exact ⟨k _ _ (.inl rfl) e,ih q⟩
 | tbl ps =>
  have e:h.get? a=some { cls:=.none,data:=.fields ps }:=x
  show h'.get? a=some { cls:=.none,data:=.fields ps }
  exact k a _ (.inl rfl) e
 | met f y =>
  have e:h.get? a=some (PySem.W.methodObj (.ref f) (.ref y)):=x
  show h'.get? a=some (PySem.W.methodObj (.ref f) (.ref y))
  exact k a _ (.inl rfl) e
 | ext φ=>obtain ⟨p,⟨o,e⟩,st⟩:=x; exact ⟨st _ _ p fun o q=>k _ _ (.inl rfl) q,⟨o,k _ _ (.inl rfl) e⟩,st⟩
theorem HOk.lt (x:HOk P w H h) (e:H a=some o):a < h.objs.size:=(x a o e).lt
theorem HOk.fresh (x:HOk P w H h) (e:h.objs.size<=a):H a=none:=by
 cases q:H a with
 | none=>rfl
 | some u=>exact absurd (aau (x.lt q) e) (aaW _)
theorem HOk.kept (x:HOk P w H h) (k:∀ b u,h.get? b=some u->h'.get? b=some u):HOk P w H h':=fun a o e =>
 (x a o e).stay (fun b u _ q=>k b u q) (fun _ q=>q) fun _ _ q=>q
theorem HOk.laid (x:HOk P w H h) (k:∀ b u,h.get? b=some u->h'.get? b=some u) (hp:h.objs.size<=a) (new:ObjOk P w (upd H a o) h' a o):HOk P w (upd H a o) h':=fun b u e=>by
 have hn:=x.fresh hp
 by_cases hb:b=a
 ·subst hb; rw [AJ] at e; cases e; exact new
 ·rw [Al hb] at e
  exact (x b u e).stay (fun c v _ q=>k c v q) (fun c q=>by rw [Al (BE q hn)]; exact q) fun c xs q=>by rw [Al (BE q hn)]; exact q
end
noncomputable def Rd (H:Hp) (a:Addr) (u:HO):Prop:=H a=some u\/∃ o,H a=some (.frz o u)
theorem Rd.ok {P:Program} {w:World} {H:Hp} {h:Heap} {a:Addr} {u:HO} (r:Rd H a u) (x:HOk P w H h):ObjOk P w H h a u:=by
 rcases r with r | ⟨o,r⟩
 ·exact x a u r
 ·obtain ⟨_,q⟩:=x a _ r
  exact q
noncomputable def Mut:Option HO->Prop
 | some (.lst _)=>True
 | some (.dK _)=>True
 | some (.dT _)=>True
 | some (.set _ _)=>True
 | some (.ins _ _ _)=>True
 | some (.ext _)=>True
 | _=>False
section
variable {P:Program} {w:World} {H:Hp} {h h':Heap} {x e:Addr} {o':HO}
theorem HOk.write (ok:HOk P w H h) (mu:Mut (H x)) (he:e=x\/H e=some (.own x)) (k:∀ b u,b ≠ e->h.get? b=some u->h'.get? b=some u) (heo:∃ u,h'.get? e=some u)
  (new:ObjOk P w (upd H x o') h' x o'):HOk P w (upd H x o') h':=fun b u q=>by
 have nown:∀ c y,H c=some (.own y)->c ≠ x:=fun c y r z=>by subst z; rw [r] at mu; exact mu
 have ntup:∀ c xs,H c=some (.tup xs)->c ≠ x:=fun c xs r z=>by subst z; rw [r] at mu; exact mu
 by_cases hb:b=x
 ·subst hb; rw [AJ] at q; cases q; exact new
 ·rw [Al hb] at q
  by_cases hbe:b=e
  ·have q':H b=some (.own x):=by
    rcases he with z | z
    ·exact absurd (hbe.trans z) hb
    ·rw [hbe]; exact z
   rw [q] at q'; cases q'
   obtain ⟨v,hv⟩:=heo
   exact ⟨v,by rw [hbe]; exact hv⟩
  ·refine (ok b u q).stay (fun c v hc r=>k c v ?_ r) (fun c r=>by rw [Al (nown c b r)]; exact r) fun c xs r=>by rw [Al (ntup c xs r)]; exact r
   rcases hc with rfl | hc
   ·exact hbe
   ·rintro rfl
    rcases he with z | z
    ·exact nown c b hc z
    ·rw [hc] at z; cases z; exact hb rfl
end
structure Un (fs ex:List Addr) (H H':Hp) (h h':Heap):Prop where
 keep:∀ b o,h.get? b=some o->H b=none->b ∉ fs->b ∉ ex->h'.get? b=some o
 slot:∀ b o,h.get? b=some o->H b=none->b ∈ fs->b ∉ ex->∃ sl,h'.get? b=some { o with slots:=sl }
 free:∀ b o,h.get? b=some o->H b=none->b ∉ ex->H' b=none
 there:∀ b o,h.get? b=some o->b ∉ ex->∃ o',h'.get? b=some o'
 tups:∀ b xs,H b=some (.tup xs)->H' b=some (.tup xs)
 frzs:∀ b o u,H b=some (.frz o u)->H' b=some (.frz o u)
 tbls:∀ b ps,H b=some (.tbl ps)->∃ more,H' b=some (.tbl (ps ++ more))
section
variable {fs fs' ex ex':List Addr} {H H1 H2:Hp} {h h1 h2 h':Heap} {a x e:Addr} {o:HO}
theorem Un.any (u:Un fs ex H H1 h h1) {b:Addr} {ob:Obj} (q:h.get? b=some ob) (n:H b=none) (hx:b ∉ ex):∃ sl,h1.get? b=some { ob with slots:=sl }:=by
 by_cases hb:b ∈ fs
 ·exact u.slot b ob q n hb hx
 ·exact ⟨ob.slots,u.keep b ob q n hb hx⟩
theorem Un.kept (k:∀ b u,h.get? b=some u->h'.get? b=some u):Un fs ex H H h h' :=
 ⟨fun b ob q _ _ _=>k b ob q,fun b ob q _ _ _=>⟨ob.slots,k b ob q⟩,fun _ _ _ n _=>n,fun b ob q _=>⟨ob,k b ob q⟩,fun _ _ q=>q,fun _ _ _ q=>q,fun _ ps q=>⟨#[],by rw [q]; simp⟩⟩
theorem Un.refl:Un fs ex H H h h:=Un.kept fun _ _ q=>q
theorem Un.laid (k:∀ b u,h.get? b=some u->h'.get? b=some u) (hp:h.objs.size<=a) (hn:H a=none):Un fs ex H (upd H a o) h h' where
 keep:=fun b u q _ _ _=>k b u q
 slot:=fun b u q _ _ _=>⟨u.slots,k b u q⟩
 free:=fun b u q n _=>by rw [Al (aaC (aau (Heap.lt_size q) hp))]; exact n
 there:=fun b u q _=>⟨u,k b u q⟩
 tups:=fun b xs q=>by rw [Al (BE q hn)]; exact q
 frzs:=fun b u xs q=>by rw [Al (BE q hn)]; exact q
 tbls:=fun b ps q=>⟨#[],by rw [Al (BE q hn),q]; simp⟩
theorem Un.write (mu:Mut (H x)) (he:e=x\/H e=some (.own x)) (k:∀ b u,b ≠ e->h.get? b=some u->h'.get? b=some u) (heo:∃ u,h'.get? e=some u):Un fs ex H (upd H x o) h h':=by
 have hx:∀ b,H b=none->b ≠ x:=fun b n z=>by subst z; rw [n] at mu; exact mu
 have hb:∀ b,H b=none->b ≠ e:=fun b n z=>by
  subst z
  rcases he with r | r
  ·exact hx b n r
  ·rw [n] at r; cases r
 have hm:∀ b u,H b=some u->¬ Mut (some u)->b ≠ x:=fun b u q nm z=>by subst z; rw [q] at mu; exact nm mu
 refine ⟨fun b u q n _ _=>k b u (hb b n) q,fun b u q n _ _=>⟨u.slots,k b u (hb b n) q⟩,fun b u q n _=>by rw [Al (hx b n)]; exact n,fun b u q _=>?_,
  fun b xs q=>by rw [Al (hm b _ q fun z=>z)]; exact q,fun b u xs q=>by rw [Al (hm b _ q fun z=>z)]; exact q,fun b ps q=>⟨#[],by rw [Al (hm b _ q fun z=>z),q]; simp⟩⟩
 by_cases hbe:b=e
 ·subst hbe; exact heo
 ·exact ⟨u,k b u hbe q⟩
end
noncomputable def trk (h:Heap) (H:Hp):List Addr:=(aaE h.objs.size).filter fun a=>(H a).isSome
noncomputable def EB (h:Heap) (H:Hp):Heap:=PySem.W.hideAll h (trk h H)
theorem KK (h:Heap) (H:Hp):(EB h H).objs.size=h.objs.size:=PySem.W.hideAll_size _ _
theorem Ml {h:Heap} {H:Hp} {b:Addr} {o:Obj} (e:h.get? b=some o) (n:H b=none):(EB h H).get? b=some o :=
 PySem.W.hideAll_get _ e fun hm=>by
  have q:(H b).isSome=true:=(List.mem_filter.mp hm).2
  rw [n] at q; simp at q
theorem NR {h:Heap} {H:Hp} {b:Addr} {o:Obj} (e:(EB h H).get? b=some o):h.get? b=some o/\H b=none:=by
 have e':h.get? b=some o:=PySem.W.of_hideAll (trk h H) e
 refine ⟨e',?_⟩
 cases q:H b with
 | none=>rfl
 | some x =>
  have hm:b ∈ trk h H:=List.mem_filter.mpr ⟨ab0.mpr (Heap.lt_size e'),by simp [q]⟩
  have z:(EB h H).get? b=none:=PySem.W.hideAll_none (trk h H) hm
  rw [z] at e; cases e
structure Mod (K:PySem.W.Frag) (mg:Str->Option Value) (base:Heap):Prop where
 kin:K.In base
 glob:base.Ns mainGlobals mg
 blt:∃ mb,base.Ns builtinsNs mb/\∀ x:Str,x ≠ "__name__" -> mb x=bootBuiltins x
 nolimit:base.NoLimit
structure Cx where
 prog:Program
 w:World
 K:PySem.W.Frag
 mg:Str->Option Value
 base:Heap
 A:Around
 N:List Str
 s₀:Shared
 H₀:Hp
 env:Env
 outer:List Env
 stack:List Env
 ex:List Addr
 fn:Str->Bool
 calm:Bool
 pn:List (Addr × Obj)
 xe:Value->Shared->Prop
noncomputable def frs (l:List Env):List Addr:=l.filterMap (·.frame)
noncomputable abbrev Cx.fs (X:Cx):List Addr:=frs X.outer
noncomputable def Vis (sc:Scope) (x:Str):Prop:=sc.names.lookup x=some .local\/sc.names.lookup x=some .cell\/sc.names.lookup x=some .free
noncomputable def Loc (sc:Scope) (x:Str):Prop:=sc.names.lookup x=some .local\/sc.names.lookup x=some .cell
noncomputable def Se (env:Env) (h:Heap) (m:Str->Option Value) (x:Str) (u:Value):Prop :=
 (env.kindOf x=some .local/\m x=some u)\/((env.kindOf x=some .cell\/env.kindOf x=some .free)/\∃ c,env.cells.lookup x=some c/\h.IsCell c (some u))
structure Cx.Ok (X:Cx):Prop where
 mod:Mod X.K X.mg X.base
 kind:X.env.scope.kind=.function
 glob:X.env.globals=mainGlobals
 blt:X.env.builtins=builtinsNs
 above:X.s₀.heap.objs.size<=X.env.locals
 inj:∀ x y c,X.env.cells.lookup x=some c->X.env.cells.lookup y=some c->x=y
 has:∀ x,(X.env.kindOf x=some .cell\/X.env.kindOf x=some .free)->∃ c,X.env.cells.lookup x=some c
 cab:∀ x c,X.fn x=true->X.env.cells.lookup x=some c->X.s₀.heap.objs.size<=c
 hd:X.calm=true->X.A.handled=none
 frames:X.A.frames=some X.stack
 stk:X.stack=X.outer\/(X.stack=X.env :: X.outer/\X.env.frame=some X.env.locals)
 exf:∀ b ∈ X.ex,b ≠ X.env.locals/\∀ x c,X.env.cells.lookup x=some c->c ≠ b
 bs:∀ b o,X.base.get? b=some o->X.s₀.heap.get? b=some o/\X.H₀ b=none
 bsz:X.base.objs.size<=X.s₀.heap.objs.size
 noex:∀ b o,X.base.get? b=some o->b ∉ X.ex
 exfs:∀ b ∈ X.ex,b ∉ X.fs
 funs:X.s₀.heap.FunFrames X.base X.outer
 frf:∀ b ∈ X.fs,X.H₀ b=none
structure Inv (X:Cx) (pins:List (Addr × Obj)) (σ:List (Option V)) (H:Hp) (s:Shared):Prop where
 ok:X.Ok
 os:s.os=X.s₀.os
 bare:AllBare s.gens
 base:Un X.fs X.ex X.H₀ H X.s₀.heap s.heap
 loc:∃ m,s.heap.Ns X.env.locals m/\∀ (i:Nat) (x:Str) (v:V),X.N[i]?=some x->σ[i]?=some (some v)->Vis X.env.scope x->∃ u,RelV v u/\Se X.env s.heap m x u
 cell:∀ x c,X.env.cells.lookup x=some c->∃ v,s.heap.IsCell c v
 free:H X.env.locals=none
 freeC:∀ x c,X.env.cells.lookup x=some c->H c=none
 pin:∀ p ∈ X.pn ++ pins,s.heap.get? p.1=some p.2/\H p.1=none/\p.1 ≠ X.env.locals/\p.1 ∉ X.fs/\∀ v,p.2.data ≠ .cell v
 hok:HOk X.prog X.w H s.heap
 len:σ.length=X.N.length
section
variable {X:Cx} {pins:List (Addr × Obj)} {σ:List (Option V)} {H H':Hp} {s:Shared} {h':Heap}
theorem Cx.Ok.nofr (ok:X.Ok) {b:Addr} {o:Obj} (e:X.base.get? b=some o):b ∉ X.fs:=fun hb=>by
 have:=(ok.funs.mem hb).1
 rw [e] at this; cases this
theorem Inv.bs (I:Inv X pins σ H s):∀ b o,X.base.get? b=some o->s.heap.get? b=some o/\H b=none:=fun b o e =>
 ⟨I.base.keep b o (I.ok.bs b o e).1 (I.ok.bs b o e).2 (I.ok.nofr e) (I.ok.noex b o e),I.base.free b o (I.ok.bs b o e).1 (I.ok.bs b o e).2 (I.ok.noex b o e)⟩
theorem Inv.bk (I:Inv X pins σ H s):∀ b o,X.base.get? b=some o->s.heap.get? b=some o:=fun b o e=>(I.bs b o e).1
theorem Inv.mod (I:Inv X pins σ H s):Mod X.K X.mg X.base:=I.ok.mod
theorem Inv.kIn (I:Inv X pins σ H s):X.K.In s.heap:=I.ok.mod.kin.keeps I.bk
theorem Inv.fr (I:Inv X pins σ H s):∃ m,Fr X.base X.env.locals s.heap m :=
 let ⟨m,hn,_⟩:=I.loc
 ⟨m,hn,I.bk,aay I.ok.bsz I.ok.above⟩
theorem Inv.lt (I:Inv X pins σ H s):X.env.locals < s.heap.objs.size:=let ⟨_,hn,_⟩:=I.loc; hn.lt
theorem Inv.sz (I:Inv X pins σ H s):X.s₀.heap.objs.size<=s.heap.objs.size:=aay I.ok.above (aaO I.lt)
theorem Inv.nofs (I:Inv X pins σ H s) {a:Addr} (h:s.heap.objs.size<=a):a ∉ X.fs:=fun hb=>by
 obtain ⟨_,o,ho,_⟩:=I.ok.funs.mem hb
 exact absurd (aau (Heap.lt_size ho) (aay I.sz h)) (aaW _)
theorem Inv.cne (I:Inv X pins σ H s):∀ x c,X.env.cells.lookup x=some c->c ≠ X.env.locals:=fun x c e z=>by
 obtain ⟨v,o,ho,hd⟩:=I.cell x c e
 obtain ⟨m,⟨o',es,ep,ho',hd',_⟩,_⟩:=I.loc
 rw [z,ho'] at ho; cases ho; rw [hd'] at hd; cases hd
theorem Inv.funs (I:Inv X pins σ H s):s.heap.FunFrames X.base X.outer:=by
 have all:∀ (l:List Env),(∀ b ∈ frs l,b ∈ X.fs)->X.s₀.heap.FunFrames X.base l->s.heap.FunFrames X.base l:=by
  intro l
  induction l with
  | nil=>intro _ _; trivial
  | cons env r ih =>
   intro hs hl
   obtain ⟨hk,⟨L,o,hf,hn,ho,hd⟩,hr⟩:=hl
   have hL:L ∈ X.fs:=hs L (by unfold frs; rw [abc,hf]; exact aac)
   obtain ⟨sl,e⟩:=I.base.slot L o ho (I.ok.frf L hL) hL fun z=>I.ok.exfs L z hL
   exact ⟨hk,⟨L,_,hf,hn,e,hd⟩,ih (fun b hb=>hs b (by unfold frs; rw [abc,hf]; exact aaa _ hb)) hr⟩
 exact all X.outer (fun _ hb=>hb) I.ok.funs
theorem Inv.stack (I:Inv X pins σ H s):s.heap.FunFrames X.base X.stack:=by
 rcases I.ok.stk with e | ⟨e,hf⟩
 ·rw [e]; exact I.funs
 ·rw [e]
  obtain ⟨m,hn,_⟩:=I.loc
  refine .cons (by rw [I.ok.kind]; decide) hf hn ?_ I.funs
  exact Heap.get?_none_of_le (aay I.ok.bsz I.ok.above)
theorem Inv.stkSub (I:Inv X pins σ H s):∀ b ∈ frs X.stack,b ∈ X.env.locals :: X.fs:=fun b hb=>by
 rcases I.ok.stk with e | ⟨e,hf⟩
 ·rw [e] at hb; exact aaa _ hb
 ·rw [e] at hb
  unfold frs at hb
  rw [abc,hf] at hb
  exact hb
theorem Inv.stkFree (I:Inv X pins σ H s):∀ b ∈ frs X.stack,H b=none:=fun b hb=>by
 rcases aai.mp (I.stkSub b hb) with e | hb
 ·rw [e]; exact I.free
 ·obtain ⟨_,o,ho,_⟩:=I.ok.funs.mem hb
  exact I.base.free b o ho (I.ok.frf b hb) fun z=>I.ok.exfs b z hb
theorem Inv.step {g':Array GenState} {t':Nat} {d':Drawn} {ch:List Addr} (I:Inv X pins σ H s)
  (hch:∀ b ∈ ch,(b ∈ X.ex\/X.s₀.heap.objs.size<=b)/\b ≠ X.env.locals/\(∀ x c,X.env.cells.lookup x=some c->c ≠ b)/\∀ p ∈ X.pn ++ pins,p.1 ≠ b)
  (keep:∀ b o,b ≠ X.env.locals->b ∉ X.fs->b ∉ ch->s.heap.get? b=some o->H b=none->h'.get? b=some o)
  (slot:∀ b o,b ≠ X.env.locals->b ∈ X.fs->b ∉ ch->s.heap.get? b=some o->H b=none->∃ sl,h'.get? b=some { o with slots:=sl }) (free:∀ b o,b ∉ ch->s.heap.get? b=some o->H b=none->H' b=none)
  (there:∀ b o,b ∉ ch->s.heap.get? b=some o->∃ o',h'.get? b=some o')
  (tups:∀ b xs,H b=some (.tup xs)->H' b=some (.tup xs)) (frzs:∀ b o u,H b=some (.frz o u)->H' b=some (.frz o u)) (tbls:∀ b ps,H b=some (.tbl ps)->∃ more,H' b=some (.tbl (ps ++ more)))
  (ns:∀ m,s.heap.Ns X.env.locals m->h'.Ns X.env.locals m) (hok:HOk X.prog X.w H' h') (hg:AllBare g') :
  Inv X pins σ H' { s with heap:=h',gens:=g',drawn:=d',toks:=t' }:=by
 have neL:∀ b o,X.s₀.heap.get? b=some o->b ≠ X.env.locals:=fun b o e=>aaC (aau (Heap.lt_size e) I.ok.above)
 have neC:∀ b o,X.s₀.heap.get? b=some o->b ∉ X.ex->b ∉ ch:=fun b o e hx hb=>by
  rcases (hch b hb).1 with z | z
  ·exact hx z
  ·exact absurd (aau (Heap.lt_size e) z) (aaW _)
 have cellK:∀ x c,X.env.cells.lookup x=some c->∀ v,s.heap.IsCell c v->h'.IsCell c v:=fun x c e v ⟨o,ho,hd⟩=>by
  have nch:c ∉ ch:=fun z=>(hch c z).2.2.1 x c e rfl
  by_cases hc:c ∈ X.fs
  ·obtain ⟨sl,q⟩:=slot c o (I.cne x c e) hc nch ho (I.freeC x c e)
   exact ⟨_,q,hd⟩
  ·exact ⟨o,keep c o (I.cne x c e) hc nch ho (I.freeC x c e),hd⟩
 refine ⟨I.ok,I.os,hg,⟨fun b o e n hb hx=>?_,fun b o e n hb hx=>?_,fun b o e n hx=>?_,fun b o e hx=>?_,fun b xs e=>tups b xs (I.base.tups b xs e),fun b o xs e=>frzs b o xs (I.base.frzs b o xs e),fun b ps e=>?_⟩,?_,fun x c e=>?_,?_,fun x c e=>?_,fun p hp=>?_,hok,I.len⟩
 ·exact keep b o (neL b o e) hb (neC b o e hx) (I.base.keep b o e n hb hx) (I.base.free b o e n hx)
 ·obtain ⟨sl,e1⟩:=I.base.slot b o e n hb hx
  obtain ⟨sl',e2⟩:=slot b _ (neL b o e) hb (neC b o e hx) e1 (I.base.free b o e n hx)
  exact ⟨sl',e2⟩
 ·obtain ⟨o',e1⟩:=I.base.there b o e hx
  exact free b o' (neC b o e hx) e1 (I.base.free b o e n hx)
 ·obtain ⟨o',e1⟩:=I.base.there b o e hx
  exact there b o' (neC b o e hx) e1
 ·obtain ⟨m1,e1⟩:=I.base.tbls b ps e
  obtain ⟨m2,e2⟩:=tbls b _ e1
  exact ⟨m1 ++ m2,by rw [e2,Array.append_assoc]⟩
 ·obtain ⟨m,hn,hl⟩:=I.loc
  refine ⟨m,ns m hn,fun i x v e1 e2 e3=>?_⟩
  obtain ⟨u,r,l⟩:=hl i x v e1 e2 e3
  refine ⟨u,r,?_⟩
  rcases l with l | ⟨k,c,e,z⟩
  ·exact .inl l
  ·exact .inr ⟨k,c,e,cellK x c e _ z⟩
 ·obtain ⟨v,z⟩:=I.cell x c e
  exact ⟨v,cellK x c e v z⟩
 ·obtain ⟨m,⟨o,_,_,ho,_⟩,_⟩:=I.loc
  exact free _ o (fun z=>(hch _ z).2.1 rfl) ho I.free
 ·obtain ⟨v,o,ho,hd⟩:=I.cell x c e
  exact free c o (fun z=>(hch c z).2.2.1 x c e rfl) ho (I.freeC x c e)
 ·obtain ⟨e,n,ne,nf,d⟩:=I.pin p hp
  have nch:p.1 ∉ ch:=fun z=>(hch p.1 z).2.2.2 p hp rfl
  exact ⟨keep p.1 p.2 ne nf nch e n,free p.1 p.2 nch e n,ne,nf,d⟩
theorem Inv.un {t':Nat} (I:Inv X pins σ H s) (u:Un X.fs [] H H' s.heap h') (hok:HOk X.prog X.w H' h'):Inv X pins σ H' { s with heap:=h',toks:=t' }:=by
 obtain ⟨m,⟨o,es,ep,ho,r⟩,_⟩:=id I.loc
 obtain ⟨sl,hL⟩:=u.any ho I.free (by simp)
 exact I.step (g':=s.gens) (d':=s.drawn) (ch:=[]) (fun _ z=>nomatch z) (fun b o _ hb _ e n=>u.keep b o e n hb (by simp)) (fun b o _ hb _ e n=>u.slot b o e n hb (by simp)) (fun b o _ e n=>u.free b o e n (by simp)) (fun b o _ e=>u.there b o e (by simp)) u.tups u.frzs u.tbls (fun m' hm=>by
  obtain ⟨o',es',ep',ho',r'⟩:=hm
  rw [ho] at ho'; cases ho'
  exact ⟨_,es',ep',hL,r'⟩) hok I.bare
theorem Inv.call {g':Array GenState} {t':Nat} {d':Drawn} {ch:List Addr} (I:Inv X pins σ H s) (u:Un (frs X.stack) ch H H' s.heap h') (hok:HOk X.prog X.w H' h') (hg:AllBare g')
  (hch:∀ b ∈ ch,(b ∈ X.ex\/X.s₀.heap.objs.size<=b)/\b ≠ X.env.locals/\(∀ x c,X.env.cells.lookup x=some c->c ≠ b)/\∀ p ∈ X.pn ++ pins,p.1 ≠ b) :
  Inv X pins σ H' { s with heap:=h',gens:=g',drawn:=d',toks:=t' }:=by
 obtain ⟨m,⟨o,es,ep,ho,r⟩,_⟩:=id I.loc
 obtain ⟨sl,hL⟩:=u.any ho I.free fun z=>(hch _ z).2.1 rfl
 exact I.step (ch:=ch) hch (fun b o hL hb hc e n=>u.keep b o e n (fun z=>(aai.mp (I.stkSub b z)).elim hL hb) hc) (fun b o _ _ hc e n=>u.any e n hc) (fun b o hc e n=>u.free b o e n hc) (fun b o hc e=>u.there b o e hc) u.tups u.frzs u.tbls (fun m' hm=>by
  obtain ⟨o',es',ep',ho',r'⟩:=hm
  rw [ho] at ho'; cases ho'
  exact ⟨_,es',ep',hL,r'⟩) hok hg
theorem Inv.turned {t':Nat} {it:Addr} (I:Inv X pins σ H s) (k:∀ b o,b ≠ it->s.heap.get? b=some o->h'.get? b=some o) (hn:H it=none) (hL:it ≠ X.env.locals)
  (h1:it ∈ X.ex\/X.s₀.heap.objs.size<=it) (h2:∀ x c,X.env.cells.lookup x=some c->c ≠ it) (h3:∀ p ∈ X.pn ++ pins,p.1 ≠ it):Inv X pins σ H { s with heap:=h',toks:=t' }:=by
 have nit:∀ b u,H b=some u->b ≠ it:=fun b u e z=>by rw [z,hn] at e; cases e
 refine I.step (g':=s.gens) (d':=s.drawn) (ch:=[it]) (fun b hb=>?_) (fun b o _ _ hc e _=>k b o (fun z=>hc (by simp [z])) e) (fun b o _ _ hc e _=>⟨o.slots,k b o (fun z=>hc (by simp [z])) e⟩) (fun _ _ _ _ n=>n)
  (fun b o hc e=>⟨o,k b o (fun z=>hc (by simp [z])) e⟩) (fun _ _ e=>e) (fun _ _ _ e=>e) (fun b ps e=>⟨#[],by rw [e]; simp⟩) (fun m hm=>?_) (fun b u e=>?_) I.bare
 ·have e:b=it:=by simpa using hb
  subst e
  exact ⟨h1,hL,h2,h3⟩
 ·obtain ⟨o,es,ep,ho,r⟩:=hm
  exact ⟨o,es,ep,k _ o (Ne.symm hL) ho,r⟩
 ·refine (I.hok b u e).stay (fun c v hc q=>k c v ?_ q) (fun _ q=>q) fun _ _ q=>q
  rcases hc with z | z
  ·rw [z]; exact nit b u e
  ·exact nit c _ z
theorem Inv.tok (I:Inv X pins σ H s) (t:Nat):Inv X pins σ H { s with toks:=t }:=I.un (h':=s.heap) (t':=t) Un.refl I.hok
theorem Inv.kept {t':Nat} (I:Inv X pins σ H s) (k:∀ b u,s.heap.get? b=some u->h'.get? b=some u):Inv X pins σ H { s with heap:=h',toks:=t' }:=I.un (Un.kept k) (I.hok.kept k)
theorem Inv.laid {a:Addr} {o:HO} {t':Nat} (I:Inv X pins σ H s) (k:∀ b u,s.heap.get? b=some u->h'.get? b=some u) (hp:s.heap.objs.size<=a) (new:ObjOk X.prog X.w (upd H a o) h' a o) :
  Inv X pins σ (upd H a o) { s with heap:=h',toks:=t' }:=I.un (Un.laid k hp (I.hok.fresh hp)) (I.hok.laid k hp new)
theorem Inv.write {x e:Addr} {o:HO} {t':Nat} (I:Inv X pins σ H s) (mu:Mut (H x)) (he:e=x\/H e=some (.own x)) (k:∀ b u,b ≠ e->s.heap.get? b=some u->h'.get? b=some u) (heo:∃ u,h'.get? e=some u)
  (new:ObjOk X.prog X.w (upd H x o) h' x o):Inv X pins σ (upd H x o) { s with heap:=h',toks:=t' }:=I.un (Un.write mu he k heo) (I.hok.write mu he k heo new)
theorem Inv.weak {σ':List (Option V)} (I:Inv X pins σ H s) (hl:σ'.length=σ.length) (w:∀ (i:Nat) v,σ'[i]?=some (some v)->σ[i]?=some (some v)):Inv X pins σ' H s :=
 ⟨I.ok,I.os,I.bare,I.base,let ⟨m,hn,hl'⟩:=I.loc; ⟨m,hn,fun i x v e1 e2 e3=>hl' i x v e1 (w i v e2) e3⟩,I.cell,I.free,I.freeC,I.pin,I.hok,hl.trans I.len⟩
theorem Inv.pins_of {pins':List (Addr × Obj)} (I:Inv X pins σ H s) (h:∀ p ∈ pins',s.heap.get? p.1=some p.2/\H p.1=none/\p.1 ≠ X.env.locals/\p.1 ∉ X.fs/\∀ v,p.2.data ≠ .cell v):Inv X pins' σ H s :=
 ⟨I.ok,I.os,I.bare,I.base,I.loc,I.cell,I.free,I.freeC,fun p hp=>(aae.mp hp).elim (fun z=>I.pin p (aan _ z)) (h p),I.hok,I.len⟩
theorem FR {N:List Str} (hN:N.Nodup) {i j:Nat} {x:Str} (a:N[i]?=some x) (b:N[j]?=some x):i=j:=by
 obtain ⟨h1,e1⟩:=aaz.mp a
 obtain ⟨h2,e2⟩:=aaz.mp b
 exact (List.getElem_inj hN).mp (e1.trans e2.symm)
theorem G3 {M:Model} {A:Around} {E:Value->Shared->Prop} {i:Nat} {x:Str} {v:V} {u:Value} {Q:Unit->Shared->Prop} (I:Inv X pins σ H s) (hN:X.N.Nodup) (hi:X.N[i]?=some x) (hx:Loc X.env.scope x) (r:RelV v u)
  (h:∀ s',Inv X pins (σ.set i (some v)) H s'->(∃ a,Heap.SameBut a s.heap s'.heap/\(a=X.env.locals\/X.env.cells.lookup x=some a))->Q () s') (hf:X.fn x=true\/X.env.scope.names.lookup x=some .local:=by first | exact .inl rfl | exact .inr rfl | assumption):wpAny M A (storeName X.env x u) Q E s:=by
 obtain ⟨m,hn,hl⟩:=id I.loc
 have hcls:(X.env.scope.kind==.class || (X.env.scope.kind==.module && X.env.locals != X.env.globals))=false:=by rw [I.ok.kind]; rfl
 have hiσ:i < σ.length:=by rw [I.len]; exact (aaz.mp hi).1
 have cne:=I.cne
 have tracked:∀ {a:Addr} {h':Heap},(∃ o,s.heap.get? a=some o/\H a=none)->Heap.SameBut a s.heap h'->HOk X.prog X.w H h':=fun {a h'} ha hs b ob e=>by
  obtain ⟨_,_,hfree⟩:=ha
  refine (I.hok b ob e).stay (fun c w' hc q=>(hs.2 c ?_).trans q) (fun _ q=>q) fun _ _ q=>q
  rintro rfl
  rcases hc with rfl | hc
  ·rw [hfree] at e; cases e
  ·rw [hfree] at hc; cases hc
 rcases hx with hk | hk
 ·refine wpAny_storeName_local hk hn (fun h' hn' hs=>?_) hcls
  obtain ⟨oL,_,_,hoL,_⟩:=id hn
  refine h _ ⟨I.ok,I.os,I.bare,⟨fun b o e n hb hx=>?_,fun b o e n hb hx=>?_,I.base.free,fun b o e hx=>?_,I.base.tups,I.base.frzs,I.base.tbls⟩,⟨_,hn',fun j y v' e1 e2 e3=>?_⟩,fun y c e=>?_,I.free,I.freeC,fun p hp=>?_,tracked ⟨oL,hoL,I.free⟩ hs,by simpa using I.len⟩ ⟨_,hs,.inl rfl⟩
  ·exact (hs.2 b (aaC (aau (Heap.lt_size e) I.ok.above))).trans (I.base.keep b o e n hb hx)
  ·obtain ⟨sl,e1⟩:=I.base.slot b o e n hb hx
   exact ⟨sl,(hs.2 b (aaC (aau (Heap.lt_size e) I.ok.above))).trans e1⟩
  ·obtain ⟨o',e1⟩:=I.base.there b o e hx
   exact ⟨o',(hs.2 b (aaC (aau (Heap.lt_size e) I.ok.above))).trans e1⟩
  ·by_cases hj:j=i
   ·subst hj
    rw [hi] at e1; cases e1
    rw [abv hiσ] at e2
    cases e2
    exact ⟨u,r,.inl ⟨hk,by simp⟩⟩
   ·rw [aap (Ne.symm hj)] at e2
    obtain ⟨u',r',q⟩:=hl j y v' e1 e2 e3
    refine ⟨u',r',?_⟩
    rcases q with ⟨k,e⟩ | ⟨k,c,e,z⟩
    ·refine .inl ⟨k,?_⟩
     have:y ≠ x:=fun e=>hj (FR hN e1 (e ▸ hi))
     simp [this,e]
    ·exact .inr ⟨k,c,e,z.sameBut hs (cne y c e)⟩
  ·obtain ⟨w',z⟩:=I.cell y c e
   exact ⟨w',z.sameBut hs (cne y c e)⟩
  ·obtain ⟨e,n,ne,nf,d⟩:=I.pin p hp
   exact ⟨(hs.2 p.1 ne).trans e,n,ne,nf,d⟩
 ·have hfn:X.fn x=true:=by
   rcases hf with z | z
   ·exact z
   ·rw [z] at hk; cases hk
  obtain ⟨c,hc⟩:=I.ok.has x (.inl hk)
  obtain ⟨w',z⟩:=I.cell x c hc
  refine wpAny_storeName_cell I.ok.kind hk hc z (fun h' hc' hs=>?_)
  obtain ⟨oc,hoc,hocd⟩:=id z
  refine h { s with heap:=h' } ⟨I.ok,I.os,I.bare,⟨fun b o e n hb hx=>?_,fun b o e n hb hx=>?_,I.base.free,fun b o e hx=>?_,I.base.tups,I.base.frzs,I.base.tbls⟩,⟨m,hn.sameBut hs (Ne.symm (cne x c hc)),fun j y v' e1 e2 e3=>?_⟩,fun y c' e=>?_,I.free,I.freeC,fun p hp=>?_,tracked ⟨oc,hoc,I.freeC x c hc⟩ hs,by simpa using I.len⟩ ⟨c,hs,.inr hc⟩
  ·exact (hs.2 b (aaC (aau (Heap.lt_size e) (I.ok.cab x c hfn hc)))).trans (I.base.keep b o e n hb hx)
  ·obtain ⟨sl,e1⟩:=I.base.slot b o e n hb hx
   exact ⟨sl,(hs.2 b (aaC (aau (Heap.lt_size e) (I.ok.cab x c hfn hc)))).trans e1⟩
  ·obtain ⟨o',e1⟩:=I.base.there b o e hx
   exact ⟨o',(hs.2 b (aaC (aau (Heap.lt_size e) (I.ok.cab x c hfn hc)))).trans e1⟩
  ·by_cases hj:j=i
   ·subst hj
    rw [hi] at e1; cases e1
    rw [abv hiσ] at e2
    cases e2
    exact ⟨u,r,.inr ⟨.inl hk,c,hc,hc'⟩⟩
   ·rw [aap (Ne.symm hj)] at e2
    obtain ⟨u',r',q⟩:=hl j y v' e1 e2 e3
    refine ⟨u',r',?_⟩
    rcases q with q | ⟨k,c',e,z'⟩
    ·exact .inl q
    ·refine .inr ⟨k,c',e,z'.sameBut hs ?_⟩
     rintro rfl
     exact hj (FR hN e1 (I.ok.inj _ _ _ e hc ▸ hi))
  ·by_cases hcc:c'=c
   ·subst hcc; exact ⟨_,hc'⟩
   ·obtain ⟨w2,z2⟩:=I.cell y c' e
    exact ⟨w2,z2.sameBut hs hcc⟩
  ·obtain ⟨e,n,ne,nf,d⟩:=I.pin p hp
   refine ⟨(hs.2 p.1 ?_).trans e,n,ne,nf,d⟩
   intro q
   rw [q,hoc] at e
   have q':oc=p.2:=Option.some.inj e
   exact d w' (by rw [<- q']; exact hocd)
theorem FS {M:Model} {A:Around} {E:Value->Shared->Prop} {i:Nat} {x:Str} {v:V} {u:Value} {Q:Unit->Shared->Prop} (I:Inv X pins σ H s) (hN:X.N.Nodup) (hi:X.N[i]?=some x) (hx:Loc X.env.scope x) (r:RelV v u)
  (h:∀ s',Inv X pins (σ.set i (some v)) H s'->Q () s') (hf:X.fn x=true\/X.env.scope.names.lookup x=some .local:=by first | exact .inl rfl | exact .inr rfl | assumption):wpAny M A (storeName X.env x u) Q E s :=
 G3 I hN hi hx r (fun s' I' _=>h s' I') hf
theorem Inv.call' {s':Shared} {ch:List Addr} (I:Inv X pins σ H s) (ho:s'.os=s.os) (u:Un (frs X.stack) ch H H' s.heap s'.heap) (hok:HOk X.prog X.w H' s'.heap) (hg:AllBare s'.gens)
  (hch:∀ b ∈ ch,(b ∈ X.ex\/X.s₀.heap.objs.size<=b)/\b ≠ X.env.locals/\(∀ x c,X.env.cells.lookup x=some c->c ≠ b)/\∀ p ∈ X.pn ++ pins,p.1 ≠ b):Inv X pins σ H' s':=by
 obtain ⟨h',g',d',t',o'⟩:=s'
 have e:o'=s.os:=ho
 subst e
 exact I.call (g':=g') (t':=t') (d':=d') u hok hg hch
end
noncomputable abbrev XK:=Value->Option Addr->Hp->Prop
noncomputable abbrev St:=List (Option V)
noncomputable abbrev VK:=V->Hp->Prop
noncomputable abbrev TE:=St->Hp->VK->Prop
noncomputable abbrev TT:=St->Hp->(Bool->Hp->Prop)->Prop
noncomputable abbrev TA:=St->Hp->(List V->Hp->Prop)->Prop
structure Ends where
 nx:St->Hp->Prop
 rt:VK
 bk:St->Hp->Prop:=fun _ _=>False
 ct:St->Hp->Prop:=fun _ _=>False
noncomputable abbrev TS:=Ends->St->Hp->Prop
noncomputable def EP (X:Cx) (pins:List (Addr × Obj)) (σ:St) (Q:VK) (u:Value) (s':Shared):Prop:=∃ v H',Inv X pins σ H' s'/\RelV v u/\Q v H'
noncomputable def TP (X:Cx) (pins:List (Addr × Obj)) (σ:St) (Q:Bool->Hp->Prop) (b:Bool) (s':Shared):Prop:=∃ H',Inv X pins σ H' s'/\Q b H'
noncomputable def AP (X:Cx) (pins:List (Addr × Obj)) (σ:St) (Q:List V->Hp->Prop) (us:List Value) (s':Shared):Prop:=∃ vs H',Inv X pins σ H' s'/\Vals vs us/\Q vs H'
noncomputable def SP (X:Cx) (pins:List (Addr × Obj)) (D:Ends) (f:Flow) (s':Shared):Prop :=
 match f with
 | .next=>∃ σ' H',Inv X pins σ' H' s'/\D.nx σ' H'
 | .brk=>∃ σ' H',Inv X pins σ' H' s'/\D.bk σ' H'
 | .cont=>∃ σ' H',Inv X pins σ' H' s'/\D.ct σ' H'
 | .ret u=>∃ v σ' H',Inv X pins σ' H' s'/\RelV v u/\D.rt v H'
noncomputable def PE (X:Cx) (e:Expr) (t:TE):Prop :=
 ∀ (pins:List (Addr × Obj)) (s:Shared) (σ:St) (H:Hp) (Q:VK),Inv X pins σ H s->t σ H Q->wpAny (model X.prog X.w) X.A (eval e X.env) (EP X pins σ Q) X.xe s
noncomputable def PT (X:Cx) (e:Expr) (t:TT):Prop :=
 ∀ (pins:List (Addr × Obj)) (s:Shared) (σ:St) (H:Hp) (Q:Bool->Hp->Prop),Inv X pins σ H s->t σ H Q->wpAny (model X.prog X.w) X.A (isTrue e X.env (eval e X.env)) (TP X pins σ Q) X.xe s
noncomputable def PW (X:Cx) (e:Expr) (t:TT):Prop :=
 ∀ (whole:Sem Value) (pins:List (Addr × Obj)) (s:Shared) (σ:St) (H:Hp) (Q:Bool->Hp->Prop),Inv X pins σ H s->t σ H Q->wpAny (model X.prog X.w) X.A (isTrue e X.env whole) (TP X pins σ Q) X.xe s
theorem PW.pt {X:Cx} {e:Expr} {t:TT} (h:PW X e t):PT X e t:=h _
noncomputable def PA (X:Cx) (es:List Expr) (t:TA):Prop :=
 ∀ (pos:Pos) (pins:List (Addr × Obj)) (s:Shared) (σ:St) (H:Hp) (Q:List V->Hp->Prop),Inv X pins σ H s->t σ H Q->wpAny (model X.prog X.w) X.A (spliced (backTo pos (starEach es X.env))) (AP X pins σ Q) X.xe s
noncomputable def PS (X:Cx) (st:Stmt) (t:TS):Prop :=
 ∀ (pins:List (Addr × Obj)) (s:Shared) (σ:St) (H:Hp) (D:Ends),Inv X pins σ H s->t D σ H->wpAny (model X.prog X.w) X.A (exec st X.env) (SP X pins D) X.xe s
noncomputable def PSs (X:Cx) (st:List Stmt) (t:TS):Prop :=
 ∀ (pins:List (Addr × Obj)) (s:Shared) (σ:St) (H:Hp) (D:Ends),Inv X pins σ H s->t D σ H->wpAny (model X.prog X.w) X.A (execs st X.env) (SP X pins D) X.xe s
theorem thn {α:Type} {t:Sem α} {Q Q':α->Shared->Prop} {M:Model} {A:Around} {E:Value->Shared->Prop} {s:Shared} (h:wpAny M A t Q E s) (hQ:∀ a s,Q a s->Q' a s):wpAny M A t Q' E s:=wpAny_mono h hQ fun _ _ x=>x
section
variable {X:Cx}
theorem bin {a b:Expr} {ta tb:TE} (ha:PE X a ta) (hb:PE X b tb) {pins:List (Addr × Obj)} {s:Shared} {σ:St} {H:Hp} {R:V->V->Hp->Prop} (I:Inv X pins σ H s) (h:ta σ H fun x H1=>tb σ H1 fun y H2=>R x y H2)
  {α:Type} {Q:α->Shared->Prop} {f:Value->Value->Sem α}
  (hf:∀ v u s2 x y H2,Inv X pins σ H2 s2->RelV x v->RelV y u->R x y H2->wpAny (model X.prog X.w) X.A (f v u) Q X.xe s2) :
  wpAny (model X.prog X.w) X.A (eval a X.env) (fun v s₁=>wpAny (model X.prog X.w) X.A (eval b X.env) (fun u s₂=>wpAny (model X.prog X.w) X.A (f v u) Q X.xe s₂) X.xe s₁) X.xe s:=by
 refine thn (ha pins s σ H _ I h) fun v s1 ⟨x,H1,I1,r1,q1⟩=>?_
 refine thn (hb pins s1 σ H1 _ I1 q1) fun u s2 ⟨y,H2,I2,r2,q2⟩=>?_
 exact hf v u s2 x y H2 I2 r1 r2 q2
noncomputable def GI (i:Nat):TE:=fun σ H Q=>∃ v,σ[i]?=some (some v)/\Q v H
noncomputable def tC (v:V):TE:=fun _ H Q=>Q v H
theorem Eo {i:Nat} {x:Str} {pos:Pos} (hN:X.N[i]?=some x) (hv:Vis X.env.scope x) (hd:(x==("__debug__" : Str))=false:=by decide) (hcd:(x==("__classdict__" : Str))=false:=by decide):PE X (.Name x pos) (GI i):=by
 intro pins s σ H Q I h
 obtain ⟨v,e,h⟩:=h
 obtain ⟨m,hn,hl⟩:=I.loc
 obtain ⟨u,r,l⟩:=hl i x v hN e hv
 have fin:EP X pins σ Q u s:=⟨v,H,I,r,h⟩
 rcases l with ⟨hk,hm⟩ | ⟨hk,c,hc,hcell⟩
 ·exact wpAny_Name (wpAny_loadName_local I.ok.kind hk hn hm fin) hd
 ·rcases hk with hk | hk
  ·exact wpAny_Name (wpAny_loadName_cell I.ok.kind hk hc hcell fin) hd
  ·exact wpAny_Name (wpAny_loadName_free I.ok.kind hk hc hcell fin hcd) hd
theorem Pj {i j pos}:PE X (.Constant (.int i) j pos) (tC (.int i)):=fun _ _ _ H _ I h=>wpAny_Constant_int ⟨.int i,H,I.tok _,⟨_,rfl⟩,h⟩
theorem Q7 {b j pos}:PE X (.Constant (.bool b) j pos) (tC (.bl b)):=fun _ _ _ H _ I h=>Constant_bool ⟨.bl b,H,I,rfl,h⟩
theorem Pk {j pos}:PE X (.Constant .none j pos) (tC .non):=fun _ _ _ H _ I h=>Constant_none ⟨.non,H,I,rfl,h⟩
theorem Pl {x j pos}:PE X (.Constant (.str x) j pos) (tC (.str x)):=fun _ _ _ H _ I h=>Calls.Constant_str ⟨.str x,H,I.tok _,⟨_,rfl⟩,h⟩
noncomputable def Gl (X:Cx) (x:Str):Prop:=X.env.kindOf x=some .globalImplicit
theorem FB {E:Value->Shared->Prop} {pins:List (Addr × Obj)} {s:Shared} {σ:St} {H:Hp} {x:Str} {u:Value} {pos:Pos} {Q:Value->Shared->Prop} (I:Inv X pins σ H s) (hg:Gl X x) (hm:X.mg x=some u) (h:Q u s)
  (hd:(x==("__debug__" : Str))=false:=by decide):wpAny (model X.prog X.w) X.A (eval (.Name x pos) X.env) Q E s :=
 Calls.Name_function_global I.ok.kind hg (Calls.loadGlobal_global (by rw [I.ok.glob]; exact I.mod.glob.keeps I.bk) hm h) hd
theorem Gc {E:Value->Shared->Prop} {pins:List (Addr × Obj)} {s:Shared} {σ:St} {H:Hp} {x:Str} {u:Value} {pos:Pos} {Q:Value->Shared->Prop} (I:Inv X pins σ H s) (hg:Gl X x) (hm:X.mg x=none) (hv:bootBuiltins x=some u) (h:Q u s)
  (hn:x ≠ "__name__" := by decide) (hd:(x==("__debug__" : Str))=false:=by decide):wpAny (model X.prog X.w) X.A (eval (.Name x pos) X.env) Q E s:=by
 obtain ⟨mb,h1,h2⟩:=I.mod.blt
 exact Calls.Name_function_global I.ok.kind hg (Calls.loadGlobal_builtin (by rw [I.ok.glob]; exact I.mod.glob.keeps I.bk) hm (by rw [I.ok.blt]; exact h1.keeps I.bk) ((h2 x hn).trans hv) h) hd
theorem GJ {x:Str} {v:V} {u:Value} {pos:Pos} (hg:Gl X x) (hm:X.mg x=some u) (r:RelV v u) (hd:(x==("__debug__" : Str))=false:=by decide):PE X (.Name x pos) (tC v) :=
 fun _ _ _ H _ I h=>FB I hg hm ⟨v,H,I,r,h⟩ hd
theorem NT {x:Str} {v:V} {u:Value} {pos:Pos} (hg:Gl X x) (hm:X.mg x=none) (hv:bootBuiltins x=some u) (r:RelV v u) (hn:x ≠ "__name__" := by decide) (hd:(x==("__debug__" : Str))=false:=by decide):PE X (.Name x pos) (tC v) :=
 fun _ _ _ H _ I h=>Gc I hg hm hv ⟨v,H,I,r,h⟩ hn hd
variable {a b:Expr} {ta tb:TE} {pos:Pos}
noncomputable def PC (X:Cx) (op:CmpOp) (a b:Expr) (t:TE):Prop :=
 ∀ (pins:List (Addr × Obj)) (s:Shared) (σ:St) (H:Hp) (Q:VK),Inv X pins σ H s->t σ H Q ->
  wpAny (model X.prog X.w) X.A (eval a X.env) (fun v s₁=>wpAny (model X.prog X.w) X.A (eval b X.env) (fun u s₂=>wpAny (model X.prog X.w) X.A (compareOp op v u) (EP X pins σ Q) X.xe s₂) X.xe s₁) X.xe s
theorem Hw (b:Expr) {op:CmpOp} (h:op ≠ .In) (h2:op ≠ .NotIn):behindInMarks op b=false:=by
 have e1:(op==CmpOp.In)=false:=by cases op <;> first | rfl | exact absurd rfl h
 have e2:(op==CmpOp.NotIn)=false:=by cases op <;> first | rfl | exact absurd rfl h2
 cases b <;> simp [behindInMarks,e1,e2]
noncomputable def Sg (ta:TE):TE:=fun σ H Q=>ta σ H fun x H1=>Q (.bl (decide (x=.non))) H1
noncomputable def Q8 (ta:TE):TE:=fun σ H Q=>ta σ H fun x H1=>Q (.bl (!decide (x=.non))) H1
theorem RelV.none_iff {x:V} {v:Value} (r:RelV x v):(v==Value.none)=decide (x=.non):=by
 cases x with
 | non=>cases r; rfl
 | bl _=>cases r; rfl
 | int _=>obtain ⟨t,rfl⟩:=r; rfl
 | str _=>obtain ⟨t,rfl⟩:=r; rfl
 | byt _=>obtain ⟨t,rfl⟩:=r; rfl
 | flt _=>obtain ⟨t,rfl⟩:=r; rfl
 | ref _=>cases r; rfl
 | ty _=>cases r; rfl
theorem KM {j pos'} (ha:PE X a ta):PC X .Is a (.Constant .none j pos') (Sg ta):=by
 intro pins s σ H Q I h
 refine thn (ha pins s σ H _ I h) fun v s1 ⟨x,H1,I1,r1,q1⟩=>?_
 exact Constant_none (is_none_gen ⟨.bl _,H1,I1,by rw [r1.none_iff]; rfl,q1⟩)
theorem IZ {j pos'} (ha:PE X a ta):PC X .IsNot a (.Constant .none j pos') (Q8 ta):=by
 intro pins s σ H Q I h
 refine thn (ha pins s σ H _ I h) fun v s1 ⟨x,H1,I1,r1,q1⟩=>?_
 exact Constant_none (isnot_none_gen ⟨.bl _,H1,I1,by rw [r1.none_iff]; rfl,q1⟩)
noncomputable def tB (t:TE):TT:=fun σ H Q=>t σ H fun x H1=>∃ c,x=.bl c/\Q c H1
theorem KN {op:CmpOp} {t:TE} (h:PC X op a b t) (h1:behindInMarks op b=false:=by first | exact Hw _ (by decide) (by decide) | rfl):PE X (.Compare a [op] [b] pos) t:=fun pins s σ H Q I hw=>wpAny_Compare1 (h pins s σ H Q I hw) h1
theorem KO {op:CmpOp} {t:TE} (h:PC X op a b t) (h1:behindInMarks op b=false:=by first | exact Hw _ (by decide) (by decide) | rfl):PT X (.Compare a [op] [b] pos) (tB t):=by
 intro pins s σ H Q I hw
 refine wpAny_isTrue_Compare1 (thn (h pins s σ H _ I hw) fun v s1 h1=>thn h1 fun u s2 h2=>thn h2 fun c s3 ⟨x,H1,I1,r1,q1⟩=>?_) h1
 obtain ⟨d,rfl,q⟩:=q1
 cases r1
 exact wpAny_truthy_bool ⟨H1,I1,q⟩
variable {tA tB':TT} {rest:List Expr}
noncomputable def Si (t u:TT):TT:=fun σ H Q=>t σ H fun c H1=>if c=true then u σ H1 Q else Q false H1
noncomputable def tOr (t u:TT):TT:=fun σ H Q=>t σ H fun c H1=>if c=true then Q true H1 else u σ H1 Q
noncomputable def Sj (t:TT):TT:=fun σ H Q=>t σ H fun c H1=>Q (!c) H1
theorem NU (ha:PT X a tA):PW X (.BoolOp .And [a] pos) tA:=by
 intro wh pins s σ H Q I h
 refine isTrue_and (thn (ha pins s σ H Q I h) fun c s1 e=>?_)
 cases c with
 | true=>exact isTrue_and_nil e
 | false=>exact e
theorem Pm (ha:PT X a tA):PW X (.BoolOp .Or [a] pos) tA:=by
 intro wh pins s σ H Q I h
 refine isTrue_or (thn (ha pins s σ H Q I h) fun c s1 e=>?_)
 cases c with
 | false=>exact isTrue_or_nil e
 | true=>exact e
theorem Pn (ha:PT X a tA) (hb:PW X (.BoolOp .And (b :: rest) pos) tB'):PW X (.BoolOp .And (a :: b :: rest) pos) (Si tA tB'):=by
 intro wh pins s σ H Q I h
 refine isTrue_and (thn (ha pins s σ H _ I h) fun c s1 ⟨H1,I1,q1⟩=>?_)
 cases c with
 | true=>exact hb wh pins s1 σ H1 Q I1 q1
 | false=>exact ⟨H1,I1,q1⟩
theorem Q9 (ha:PT X a tA) (hb:PW X (.BoolOp .Or (b :: rest) pos) tB'):PW X (.BoolOp .Or (a :: b :: rest) pos) (tOr tA tB'):=by
 intro wh pins s σ H Q I h
 refine isTrue_or (thn (ha pins s σ H _ I h) fun c s1 ⟨H1,I1,q1⟩=>?_)
 cases c with
 | true=>exact ⟨H1,I1,q1⟩
 | false=>exact hb wh pins s1 σ H1 Q I1 q1
theorem Po (ha:PT X a tA):PT X (.UnaryOp .Not a pos) (Sj tA):=by
 intro pins s σ H Q I h
 exact isTrue_not (ha pins s σ H (fun c H1=>Q (!c) H1) I h)
noncomputable def Ra (ta tb:TE):TE:=fun σ H Q=>ta σ H fun x H1=>∃ c,x=.bl c/\if c=true then tb σ H1 Q else Q (.bl false) H1
noncomputable def Sk (ta tb:TE):TE:=fun σ H Q=>ta σ H fun x H1=>∃ c,x=.bl c/\if c=true then Q (.bl true) H1 else tb σ H1 Q
noncomputable def Rb (ta:TE):TE:=fun σ H Q=>ta σ H fun x H1=>∃ c,x=.bl c/\Q (.bl (!c)) H1
theorem Pp {op} {t:TE} (h:PE X a t):PE X (.BoolOp op [a] pos) t:=fun pins s σ H Q I hw=>BoolOp_one (h pins s σ H Q I hw)
theorem Pq (ha:PE X a ta) (hb:PE X (.BoolOp .And (b :: rest) pos) tb):PE X (.BoolOp .And (a :: b :: rest) pos) (Ra ta tb):=by
 intro pins s σ H Q I h
 refine BoolOp_and (thn (ha pins s σ H _ I h) fun v s1 ⟨x,H1,I1,r1,q1⟩=>?_)
 obtain ⟨c,rfl,q1⟩:=q1
 cases r1
 refine wpAny_truthy_bool ?_
 cases c with
 | true=>exact hb pins s1 σ H1 Q I1 q1
 | false=>exact ⟨.bl false,H1,I1,rfl,q1⟩
theorem Rc (ha:PE X a ta) (hb:PE X (.BoolOp .Or (b :: rest) pos) tb):PE X (.BoolOp .Or (a :: b :: rest) pos) (Sk ta tb):=by
 intro pins s σ H Q I h
 refine BoolOp_or (thn (ha pins s σ H _ I h) fun v s1 ⟨x,H1,I1,r1,q1⟩=>?_)
 obtain ⟨c,rfl,q1⟩:=q1
 cases r1
 refine wpAny_truthy_bool ?_
 cases c with
 | false=>exact hb pins s1 σ H1 Q I1 q1
 | true=>exact ⟨.bl true,H1,I1,rfl,q1⟩
theorem Pr (ha:PE X a ta):PE X (.UnaryOp .Not a pos) (Rb ta):=by
 intro pins s σ H Q I h
 refine UnaryOp_ (thn (ha pins s σ H _ I h) fun v s1 ⟨x,H1,I1,r1,q1⟩=>?_)
 obtain ⟨c,rfl,q1⟩:=q1
 cases r1
 exact not_of (wpAny_truthy_bool ⟨.bl (!c),H1,I1,rfl,q1⟩)
end
noncomputable def SqL (K:PySem.W.Frag) (H:Hp) (a:Addr) (xs:List V):Prop :=
 Rd H a (.lst xs) \/
  ∃ (o:Obj) (its:Array Value) (n:Nat),K.lookup a=some o/\o.cls=.type "list" /\ o.dict=none/\o.data=.seq its n/\its.size<=sizeLine/\Vals xs its.toList
noncomputable def SqT (K:PySem.W.Frag) (H:Hp) (a:Addr) (xs:List V):Prop :=
 Rd H a (.tup xs) \/
  ∃ (o:Obj) (its:Array Value) (n:Nat),K.lookup a=some o/\o.cls=.type "tuple" /\ o.data=.seq its n/\its.size<=sizeLine/\Vals xs its.toList
noncomputable def Sl:Value->Option V
 | .none=>some .non
 | .bool b=>some (.bl b)
 | .int i _=>some (.int i)
 | .str x _=>some (.str x)
 | .bytes b _=>some (.byt b)
 | .float b _=>some (.flt b)
 | .ref a=>some (.ref a)
 | .type n=>some (.ty n)
 | _=>none
theorem RelV.abs {x:V} {u:Value} (r:RelV x u):Sl u=some x:=by
 cases x with
 | non=>cases r; rfl
 | bl _=>cases r; rfl
 | int _=>obtain ⟨t,rfl⟩:=r; rfl
 | str _=>obtain ⟨t,rfl⟩:=r; rfl
 | byt _=>obtain ⟨t,rfl⟩:=r; rfl
 | flt _=>obtain ⟨t,rfl⟩:=r; rfl
 | ref _=>cases r; rfl
 | ty _=>cases r; rfl
theorem RelV.inj {x y:V} {u:Value} (r:RelV x u) (q:RelV y u):x=y:=Option.some.inj (r.abs.symm.trans q.abs)
theorem Vals.inj:∀ {xs ys:List V} {us:List Value},Vals xs us->Vals ys us->xs=ys
 | _,_,_,.nil,.nil=>rfl
 | _,_,_,.cons r t,.cons r' t'=>by rw [r.inj r',Vals.inj t t']
section
variable {X:Cx} {pins:List (Addr × Obj)} {σ:St} {H:Hp} {s:Shared} {a:Addr} {xs ys:List V}
theorem SqL.of {K:PySem.W.Frag} (h:H a=some (.lst xs)):SqL K H a xs:=.inl (.inl h)
theorem SqT.of {K:PySem.W.Frag} (h:H a=some (.tup xs)):SqT K H a xs:=.inl (.inl h)
theorem Inv.list (I:Inv X pins σ H s) (h:SqL X.K H a xs):∃ its:List Value,Vals xs its/\PlainL s.heap a its.toArray/\xs.length<=sizeLine:=by
 rcases h with h | ⟨o,its,n,hk,hc,hd,hs,hz,r⟩
 ·obtain ⟨z,its,n,r,e⟩:=h.ok I.hok
  exact ⟨its,r,⟨_,n,e,rfl,rfl,rfl⟩,z⟩
 ·refine ⟨its.toList,r,⟨o,n,I.kIn a o hk,hc,hd,by simpa using hs⟩,?_⟩
  have e:=r.length
  simp only [Array.length_toList] at e
  omega
theorem Inv.tuple (I:Inv X pins σ H s) (h:SqT X.K H a xs):∃ its:List Value,Vals xs its/\IsTup s.heap a its.toArray/\xs.length<=sizeLine:=by
 rcases h with h | ⟨o,its,n,hk,hc,hs,hz,r⟩
 ·obtain ⟨z,its,r,p⟩:=h.ok I.hok
  exact ⟨its,r,p,z⟩
 ·refine ⟨its.toList,r,⟨o,I.kIn a o hk,hc,n,by simpa using hs⟩,?_⟩
  have e:=r.length
  simp only [Array.length_toList] at e
  omega
theorem Inv.list_inj (I:Inv X pins σ H s) (h:SqL X.K H a xs) (h':SqL X.K H a ys):xs=ys:=by
 obtain ⟨its,r,⟨o,n,e,_,_,d⟩,_⟩:=I.list h
 obtain ⟨its',r',⟨o',n',e',_,_,d'⟩,_⟩:=I.list h'
 rw [e] at e'; cases e'
 rw [d] at d'
 injection d' with d1 _
 have:its=its':=by simpa using congrArg Array.toList d1
 subst this
 exact r.inj r'
theorem Inv.tuple_inj (I:Inv X pins σ H s) (h:SqT X.K H a xs) (h':SqT X.K H a ys):xs=ys:=by
 obtain ⟨its,r,⟨o,e,_,n,d⟩,_⟩:=I.tuple h
 obtain ⟨its',r',⟨o',e',_,n',d'⟩,_⟩:=I.tuple h'
 rw [e] at e'; cases e'
 rw [d] at d'
 injection d' with d1 _
 have:its=its':=by simpa using congrArg Array.toList d1
 subst this
 exact r.inj r'
end
section
variable {X:Cx} {st:Stmt} {rest:List Stmt} {t u:TS} {e:Expr} {te:TE} {pos:Pos}
noncomputable def Re:TS:=fun D σ H=>D.nx σ H
noncomputable def JJ (t u:TS):TS:=fun D σ H=>t { D with nx:=u D } σ H
theorem NV:PSs X [] Re:=fun _ _ σ H _ I h=>wpAny_execs_nil ⟨σ,H,I,h⟩
theorem Hx (h1:PS X st t) (h2:PSs X rest u):PSs X (st :: rest) (JJ t u):=by
 intro pins s σ H D I h
 refine wpAny_execs_cons (thn (h1 pins s σ H { D with nx:=u D } I h) fun f s1 q=>?_)
 cases f with
 | next =>
  obtain ⟨σ',H',I',q⟩:=q
  exact h2 pins s1 σ' H' D I' q
 | ret v=>exact q
 | brk=>exact q
 | cont=>exact q
theorem NW (h1:PS X st t):PSs X [st] t:=by
 intro pins s σ H D I h
 refine wpAny_execs_cons (thn (h1 pins s σ H D I h) fun f s1 q=>?_)
 cases f with
 | next=>exact wpAny_execs_nil q
 | ret v=>exact q
 | brk=>exact q
 | cont=>exact q
theorem Inv.quiet {pins:List (Addr × Obj)} {σ:St} {H:Hp} {s:Shared} (I:Inv X pins σ H s):interactive X.env=false:=by simp [interactive,I.ok.kind]
noncomputable def Ny (te:TE):TS:=fun D σ H=>te σ H fun _ H1=>D.nx σ H1
theorem CQ (he:PE X e te) (hs:swapsWith e none pos.line X.env=pure false:=by rfl):PS X (.Expr e pos) (Ny te):=by
 intro pins s σ H D I h
 exact wpAny_Expr_any (thn (he pins s σ H _ I h) fun v s1 ⟨x,H1,I1,r1,q1⟩=>⟨σ,H1,I1,q1⟩) I.quiet hs
noncomputable def Sm (te:TE):TS:=fun D σ H=>te σ H D.rt
theorem KP (he:PE X e te):PS X (.Return (some e) pos) (Sm te):=by
 intro pins s σ H D I h
 exact wpAny_Return_some (thn (he pins s σ H _ I h) fun v s1 ⟨x,H1,I1,r1,q1⟩=>⟨x,σ,H1,I1,r1,q1⟩)
noncomputable def Ps (c:TT) (t u:TS):TS:=fun D σ H=>c σ H fun b H1=>if b=true then t D σ H1 else u D σ H1
theorem Rf {c:Expr} {a b:List Stmt} {tc:TT} (hc:PT X c tc) (ha:PSs X a t) (hb:PSs X b u):PS X (.If c a b pos) (Ps tc t u):=by
 intro pins s σ H D I h
 refine wpAny_If (thn (hc pins s σ H _ I h) fun d s1 ⟨H1,I1,q1⟩=>?_)
 cases d with
 | true=>exact ha pins s1 σ H1 D I1 q1
 | false=>exact hb pins s1 σ H1 D I1 q1
end
noncomputable abbrev TG:=V->St->Hp->(St->Hp->Prop)->Prop
noncomputable abbrev TGs:=List V->St->Hp->(St->Hp->Prop)->Prop
noncomputable def PG (X:Cx) (target:Expr) (t:TG):Prop :=
 ∀ (pins:List (Addr × Obj)) (s:Shared) (σ:St) (H:Hp) (v:V) (u:Value) (Q:St->Hp->Prop),Inv X pins σ H s->RelV v u->t v σ H Q ->
  wpAny (model X.prog X.w) X.A (assign target X.env u) (fun _ s'=>∃ σ' H',Inv X pins σ' H' s'/\Q σ' H') X.xe s
noncomputable def PGs (X:Cx) (ts:List Expr) (t:TGs):Prop :=
 ∀ (pins:List (Addr × Obj)) (s:Shared) (σ:St) (H:Hp) (vs:List V) (us:List Value) (Q:St->Hp->Prop),Inv X pins σ H s->Vals vs us->t vs σ H Q ->
  wpAny (model X.prog X.w) X.A (assignInOrder ((assignEach ts X.env).map (·.2)) us) (fun _ s'=>∃ σ' H',Inv X pins σ' H' s'/\Q σ' H') X.xe s
noncomputable abbrev Mm:=V->V->V->Hp->(Hp->Prop)->Prop
noncomputable def Pt (X:Cx) (t:Mm):Prop :=
 ∀ (pins:List (Addr × Obj)) (s:Shared) (σ:St) (H:Hp) (o i v:V) (ov iv u:Value) (Q:Hp->Prop),Inv X pins σ H s->RelV o ov->RelV i iv->RelV v u->t o i v H Q ->
  wpAny (model X.prog X.w) X.A (setItem ov iv u) (fun _ s'=>∃ H',Inv X pins σ H' s'/\Q H') X.xe s
section
variable {X:Cx} {pos:Pos}
noncomputable def D2 (i:Nat):TG:=fun v σ H Q=>Q (σ.set i (some v)) H
theorem I0 {i:Nat} {x:Str} (hN:X.N.Nodup) (hi:X.N[i]?=some x) (hx:Loc X.env.scope x) (hf:X.fn x=true\/X.env.scope.names.lookup x=some .local:=by first | exact .inl rfl | exact .inr rfl | assumption):PG X (.Name x pos) (D2 i):=by
 intro pins s σ H v u Q I r h
 exact wpAny_assign_Name (FS I hN hi hx r (fun s' I'=>⟨_,H,I',h⟩) hf)
noncomputable def Pv:TGs:=fun vs σ H Q=>vs=[]/\Q σ H
noncomputable def Nz (t:TG) (u:TGs):TGs:=fun vs σ H Q=>∃ v r,vs=v :: r/\t v σ H fun σ' H'=>u r σ' H' Q
theorem NX:PGs X [] Pv:=by
 intro pins s σ H vs us Q I r h
 obtain ⟨e,h⟩:=h
 subst e
 cases r
 exact assignInOrder_nil ⟨σ,H,I,h⟩
theorem Mn {e:Expr} {es:List Expr} {t:TG} {u:TGs} (h1:PG X e t) (h2:PGs X es u)
  (hs:(assignEach (e :: es) X.env).map (·.2)=assign e X.env :: (assignEach es X.env).map (·.2):=by rfl):PGs X (e :: es) (Nz t u):=by
 intro pins s σ H vs us Q I r h
 obtain ⟨v,vr,e1,h⟩:=h
 subst e1
 cases r with
 | cons r rr =>
  rw [hs]
  refine assignInOrder_cons (thn (h1 pins s σ H _ _ _ I r h) fun _ s1 ⟨σ1,H1,I1,q1⟩=>?_)
  exact h2 pins s1 σ1 H1 _ _ Q I1 rr q1
noncomputable def Pw (K:PySem.W.Frag) (n:Nat) (t:TGs):TG:=fun v σ H Q=>∃ a xs,v=.ref a/\SqT K H a xs/\xs.length=n/\t xs σ H Q
theorem Py {es:List Expr} {k:Nat} {t:TGs} {n:Nat} (hc:X.calm=true) (h:PGs X es t)
  (hn:(assignEach es X.env).length=n:=by rfl) (hst:(assignEach es X.env).findIdx? (·.1)=none:=by rfl):PG X (.Tuple es k pos) (Pw X.K n t):=by
 intro pins s σ H v u Q I r hw
 obtain ⟨a,xs,e1,hq,hl,hw⟩:=hw
 subst e1
 cases r
 obtain ⟨its,rv,ht,hz⟩:=I.tuple hq
 refine assign_Tuple_tuple (I.ok.hd hc) ht (by simp [hn,<- hl,rv.length]) hst fun h' hx=>?_
 have I1:Inv X pins σ H { s with heap:=h' }:=I.kept (t':=s.toks) fun b o e=>hx b o (aaC (Heap.lt_size e)) e
 exact h pins _ σ H xs _ Q I1 (by simpa using rv) hw
noncomputable def Hy (to ti:TE) (t:Mm):TG:=fun v σ H Q=>to σ H fun o H1=>ti σ H1 fun i H2=>t o i v H2 fun H3=>Q σ H3
theorem KQ {o i:Expr} {to ti:TE} {t:Mm} (ho:PE X o to) (hi:PE X i ti) (hs:Pt X t)
  (ha:∀ v,assign (.Subscript o i pos) X.env v=(do
   let ov <- holding [v] (eval o X.env)
   let iv <- holding [v,ov] (eval i X.env)
   standAt pos
   holding [v,ov,iv] (setItem ov iv v)
   release [v,ov,iv] []):=by intro _; rfl):PG X (.Subscript o i pos) (Hy to ti t):=by
 intro pins s σ H v u Q I r h
 rw [ha]
 refine wpAny_bind (wpAny_holding (thn (ho pins s σ H _ I h) fun ov s1 ⟨x,H1,I1,r1,q1⟩=>?_))
 refine wpAny_bind (wpAny_holding (thn (hi pins s1 σ H1 _ I1 q1) fun iv s2 ⟨y,H2,I2,r2,q2⟩=>?_))
 refine wpAny_bind (wpAny_standAt (wpAny_bind (wpAny_holding (thn (hs pins s2 σ H2 x y v ov iv u _ I2 r1 r2 r q2) fun _ s3 ⟨H3,I3,q3⟩=>?_))))
 exact wpAny_release ⟨σ,H3,I3,q3⟩
noncomputable def DL (te:TE) (g:TG):TS:=fun D σ H=>te σ H fun x H1=>g x σ H1 D.nx
theorem Hz {tg e:Expr} {te:TE} {g:TG} (he:PE X e te) (hg:PG X tg g) (hs:swapsWithSole [tg] e pos.line X.env=pure false:=by rfl) (hw:swappedStores [tg] e X.env=pure none:=by rfl)
  (h1:(assignEach [tg] X.env).map (·.2)=[assign tg X.env]:=by rfl):PS X (.Assign [tg] e pos) (DL te g):=by
 intro pins s σ H D I h
 refine wpAny_Assign_stores (thn (he pins s σ H _ I h) fun v s1 ⟨x,H1,I1,r1,q1⟩=>?_) hs hw
 rw [h1]
 exact thn (hg pins s1 σ H1 x v _ I1 r1 q1) fun _ s2 q=>q
theorem HA {i:Nat} {x:Str} {e:Expr} {te:TE} {pos':Pos} (hN:X.N.Nodup) (hi:X.N[i]?=some x) (hx:Loc X.env.scope x) (he:PE X e te) (hs:swapsWith e (some (.Name x pos')) pos.line X.env=pure false:=by rfl) (hf:X.fn x=true\/X.env.scope.names.lookup x=some .local:=by first | exact .inl rfl | exact .inr rfl | assumption) :
  PS X (.Assign [.Name x pos'] e pos) (DL te (D2 i)):=by
 intro pins s σ H D I h
 refine wpAny_Assign_Name (thn (he pins s σ H _ I h) fun v s1 ⟨y,H1,I1,r1,q1⟩=>?_) hs
 exact FS I1 hN hi hx r1 (fun s2 I2=>⟨_,H1,I2,q1⟩) hf
end
section
variable {X:Cx} {pos:Pos}
noncomputable def KR (c:TT) (tb:TS):TS:=fun D σ H=>∃ W:Nat->St->Hp->Prop,(∃ m,W m σ H)/\∀ m σ H,W m σ H ->
 c σ H fun b H1=>if b=true then ∃ N:St->Hp->Prop,(∀ σ' H',N σ' H'->∃ m',m' < m/\W m' σ' H')/\tb { D with nx:=N,ct:=N,bk:=D.nx } σ H1 else D.nx σ H1
theorem Mo {c:Expr} {body:List Stmt} {tc:TT} {tb:TS} (hp:PassesOwn (model X.prog X.w) X.A X.env X.xe) (hc:PT X c tc) (hb:PSs X body tb):PS X (.While c body [] pos) (KR tc tb):=by
 intro pins s σ H D I h
 obtain ⟨W,⟨m0,w0⟩,turn⟩:=h
 refine wpAny_While (codeAny_whileLoop (fun n s'=>∃ σ' H',Inv X pins σ' H' s'/\W n σ' H') ?_ m0 ⟨σ,H,I,w0⟩)
 rintro n s1 ⟨σ1,H1,I1,w1⟩
 refine wpAny_passesOwn hp (thn (hc pins s1 σ1 H1 _ I1 (turn n σ1 H1 w1)) fun b s2 ⟨H2,I2,q2⟩=>?_)
 cases b with
 | true =>
  obtain ⟨N,hN,q2⟩:=q2
  rw [if_pos rfl]
  refine wpAny_passesOwn hp (thn (hb pins s2 σ1 H2 _ I2 q2) fun f s3 q3=>?_)
  cases f with
  | next =>
   obtain ⟨σ3,H3,I3,n3⟩:=q3
   obtain ⟨m',hm,w3⟩:=hN σ3 H3 n3
   exact ⟨m',hm,σ3,H3,I3,w3⟩
  | cont =>
   obtain ⟨σ3,H3,I3,n3⟩:=q3
   obtain ⟨m',hm,w3⟩:=hN σ3 H3 n3
   exact ⟨m',hm,σ3,H3,I3,w3⟩
  | brk=>exact q3
  | ret v=>exact q3
 | false =>
  rw [if_neg abq]
  exact wpAny_execs_nil ⟨σ1,H2,I2,q2⟩
end
structure It where
 go:Nat->Hp->Prop
 yld:Nat->Hp->V->Hp->Prop
 stop:Nat->Hp->Prop
noncomputable def FpOk (X:Cx) (pins:List (Addr × Obj)) (H:Hp) (b:Addr):Prop :=
 H b=none/\b ≠ X.env.locals/\b ∉ X.fs/\(b ∈ X.ex\/X.s₀.heap.objs.size<=b)/\(∀ x c,X.env.cells.lookup x=some c->c ≠ b)/\∀ p ∈ X.pn ++ pins,p.1 ≠ b
theorem Inv.fpOk {X:Cx} {pins:List (Addr × Obj)} {σ:St} {H H':Hp} {s:Shared} {b:Addr} (I:Inv X pins σ H s) (hb:s.heap.objs.size<=b) (hn:H' b=none):FpOk X pins H' b:=by
 refine ⟨hn,ab8 (aau I.lt hb),I.nofs hb,.inr (aay I.sz hb),fun x c e z=>?_,fun p hp z=>?_⟩
 ·obtain ⟨v,q⟩:=I.cell x c e
  exact absurd (aau q.lt (by rw [z]; exact hb)) (aaW _)
 ·exact absurd (aau (Heap.lt_size (I.pin p hp).1) (by rw [z]; exact hb)) (aaW _)
structure Turn (P:Program) (w:World) (K:PySem.W.Frag) (tg:Expr) (J:It) (fp:List Addr) (it:Addr) (tn:Nat->Heap->Prop):Prop where
 mem:it ∈ fp
 obj:∀ i h,tn i h->∀ b ∈ fp,∃ o,h.get? b=some o/\∀ v,o.data ≠ .cell v
 keep:∀ i h h',tn i h->(∀ b ∈ fp,∀ o,h.get? b=some o->h'.get? b=some o)->tn i h'
 item:∀ (X:Cx),X.prog=P->X.w=w->X.K=K->X.calm=true->∀ (i:Nat) (pins:List (Addr × Obj)) (s:Shared) (σ:St) (H:Hp) (E:Value->Shared->Prop),Inv X pins σ H s->(∀ b ∈ fp,FpOk X pins H b)->tn i s.heap->J.go i H ->
  wpAny (model P w) X.A (pyNext (.ref it)) (fun r s1=>∃ u,r=some u /\
   wpAny (model P w) X.A (letOwnedTupleGo tg (.ref it) u) (fun _ s2=>∃ x H',Inv X pins σ H' s2/\RelV x u/\J.yld i H x H'/\tn (i + 1) s2.heap/\∀ b ∈ fp,H' b=none) E s1) E s
 done:∀ (X:Cx),X.prog=P->X.w=w->X.K=K->X.calm=true->∀ (i:Nat) (pins:List (Addr × Obj)) (s:Shared) (σ:St) (H:Hp) (E:Value->Shared->Prop),Inv X pins σ H s->(∀ b ∈ fp,FpOk X pins H b)->tn i s.heap->J.stop i H ->
  wpAny (model P w) X.A (pyNext (.ref it)) (fun r s1=>r=none/\Inv X pins σ H s1) E s
 self:∀ (A:Around) (i:Nat) (s:Shared) (Q:Value->Shared->Prop) (E:Value->Shared->Prop),tn i s.heap->Q (.ref it) s->wpAny (model P w) A (pyIter (.ref it)) Q E s
noncomputable abbrev TI:=St->Hp->(It->Hp->Prop)->Prop
noncomputable def PIE (X:Cx) (pins:List (Addr × Obj)) (σ:St) (tg:Expr) (R:It->Hp->Prop) (itv:Value) (s2:Shared):Prop :=
 ∃ (it:Addr) (fp:List Addr) (tn:Nat->Heap->Prop) (J:It) (H':Hp),itv=.ref it/\Inv X pins σ H' s2/\Turn X.prog X.w X.K tg J fp it tn/\tn 0 s2.heap/\(∀ b ∈ fp,FpOk X pins H' b)/\R J H'
noncomputable def PI (X:Cx) (tg iter:Expr) (wi:TI):Prop :=
 ∀ (pins:List (Addr × Obj)) (s:Shared) (σ:St) (H:Hp) (R:It->Hp->Prop),Inv X pins σ H s->wi σ H R ->
  wpAny (model X.prog X.w) X.A (eval iter X.env) (fun v s1=>wpAny (model X.prog X.w) X.A (pyIter v) (PIE X pins σ tg R) X.xe s1) X.xe s
theorem JK {M:Model} {A:Around} {E:Value->Shared->Prop} {s:Shared} {tg:Expr} {it:Addr} {u:Value} {o:Obj} {n:String} {vs:Array Value} {Q:Unit->Shared->Prop} (ho:s.heap.get? it=some o) (hc:o.cls=.type n) (hd:o.data=.fields vs)
  (hn:["enumerate", "zip", "dict_itemiterator", "dict_reverseitemiterator", "odict_iterator", "itertools.zip_longest", "itertools.pairwise"].contains n=false) (hQ:Q () s):wpAny M A (letOwnedTupleGo tg (.ref it) u) Q E s:=by
 unfold letOwnedTupleGo
 cases tg <;> first
  | exact wpAny_pure hQ
  | (cases u <;> first
    | exact wpAny_pure hQ
    | (refine wpAny_bind (wpAny_load ho ?_)
       rw [hc,hd]
       show wpAny M A (if (["enumerate", "zip", "dict_itemiterator", "dict_reverseitemiterator", "odict_iterator", "itertools.zip_longest", "itertools.pairwise"].contains n && vs[0]?==some (rawInt _))=true then _ else _) Q E s
       rw [if_neg (by intro h; rw [hn,abI] at h; cases h)]
       exact wpAny_pure hQ))
noncomputable def Itl (K:PySem.W.Frag) (a:Addr):It :=
 ⟨fun i H=>∃ xs x,SqL K H a xs/\xs[i]?=some x,fun i H x H'=>H'=H/\∀ xs,SqL K H a xs->xs[i]?=some x,fun i H=>∃ xs,SqL K H a xs/\xs.length<=i⟩
noncomputable def Itt (K:PySem.W.Frag) (a:Addr):It :=
 ⟨fun i H=>∃ xs x,SqT K H a xs/\xs[i]?=some x,fun i H x H'=>H'=H/\∀ xs,SqT K H a xs->xs[i]?=some x,fun i H=>∃ xs,SqT K H a xs/\xs.length<=i⟩
noncomputable def Itr (lo:Int) (n:Nat):It:=⟨fun i _=>i < n,fun i H x H'=>H'=H/\x=.int (lo + i),fun i _=>n<=i⟩
theorem KS {P:Program} {w:World} {K:PySem.W.Frag} {tg:Expr} (a it:Addr):Turn P w K tg (Itl K a) [it] it (fun i h=>h.IsListIter it a i) where
 mem:=by simp
 obj:=fun i h st b hb=>by
  have e:b=it:=by simpa using hb
  subst e
  obtain ⟨o,e,c,d⟩:=st
  exact ⟨o,e,fun v z=>by rw [d] at z; cases z⟩
 keep:=fun i h h' st k=>st.at fun o e=>k it (by simp) o e
 item:=by
  intro X hP hw hK hc i pins s σ H E I hf st hg
  subst hP hw hK
  obtain ⟨xs,x,hq,hx⟩:=hg
  obtain ⟨its,rv,p,hz⟩:=I.list hq
  obtain ⟨u,hu,ru⟩:=rv.get hx
  obtain ⟨f0,f1,f2,f3,f4,f5⟩:=hf it (by simp)
  refine wpAny_pyNext_list_item st p.isList (x:=u) (by simpa using hu) fun h' st' sb=>?_
  have I1:Inv X pins σ H { s with heap:=h' }:=I.turned (t':=s.toks) (fun b o hb e=>(sb.2 b hb).trans e) f0 f1 f3 f4 f5
  obtain ⟨o,e,c,d⟩:=id st'
  exact ⟨u,rfl,JK (s:={ s with heap:=h' }) e c d (by decide) ⟨x,H,I1,ru,⟨rfl,fun ys hy=>by rw [I.list_inj hy hq]; exact hx⟩,st',fun b hb=>(hf b hb).1⟩⟩
 done:=by
  intro X hP hw hK hc i pins s σ H E I hf st hg
  subst hP hw hK
  obtain ⟨xs,hq,hx⟩:=hg
  obtain ⟨its,rv,p,hz⟩:=I.list hq
  obtain ⟨f0,f1,f2,f3,f4,f5⟩:=hf it (by simp)
  have hl:=rv.length
  exact wpAny_pyNext_list_end (I.ok.hd hc) st p.isList (by simp; omega) fun h' eb=>⟨rfl,I.turned (t':=s.toks) (fun b o hb e=>eb b o hb e) f0 f1 f3 f4 f5⟩
 self:=fun _ _ _ _ _ st h=>wpAny_pyIter_listiter st h
theorem JL {P:Program} {w:World} {K:PySem.W.Frag} {tg:Expr} (a it:Addr):Turn P w K tg (Itt K a) [it] it (fun i h=>h.IsTupleIter it a i) where
 mem:=by simp
 obj:=fun i h st b hb=>by
  have e:b=it:=by simpa using hb
  subst e
  obtain ⟨o,e,c,d⟩:=st
  exact ⟨o,e,fun v z=>by rw [d] at z; cases z⟩
 keep:=fun i h h' st k=>st.at fun o e=>k it (by simp) o e
 item:=by
  intro X hP hw hK hc i pins s σ H E I hf st hg
  subst hP hw hK
  obtain ⟨xs,x,hq,hx⟩:=hg
  obtain ⟨its,rv,p,hz⟩:=I.tuple hq
  obtain ⟨u,hu,ru⟩:=rv.get hx
  obtain ⟨f0,f1,f2,f3,f4,f5⟩:=hf it (by simp)
  refine wpAny_pyNext_tuple_item st (show s.heap.IsTuple a its.toArray from p) (x:=u) (by simpa using hu) fun h' st' sb=>?_
  have I1:Inv X pins σ H { s with heap:=h' }:=I.turned (t':=s.toks) (fun b o hb e=>(sb.2 b hb).trans e) f0 f1 f3 f4 f5
  obtain ⟨o,e,c,d⟩:=id st'
  exact ⟨u,rfl,JK (s:={ s with heap:=h' }) e c d (by decide) ⟨x,H,I1,ru,⟨rfl,fun ys hy=>by rw [I.tuple_inj hy hq]; exact hx⟩,st',fun b hb=>(hf b hb).1⟩⟩
 done:=by
  intro X hP hw hK hc i pins s σ H E I hf st hg
  subst hP hw hK
  obtain ⟨xs,hq,hx⟩:=hg
  obtain ⟨its,rv,p,hz⟩:=I.tuple hq
  obtain ⟨f0,f1,f2,f3,f4,f5⟩:=hf it (by simp)
  have hl:=rv.length
  exact wpAny_pyNext_tuple_end (I.ok.hd hc) st (show s.heap.IsTuple a its.toArray from p) (by simp; omega) fun h' eb=>⟨rfl,I.turned (t':=s.toks) (fun b o hb e=>eb b o hb e) f0 f1 f3 f4 f5⟩
 self:=fun _ _ _ _ _ st h=>wpAny_pyIter_tupleiter st h
theorem JM {P:Program} {w:World} {K:PySem.W.Frag} {tg:Expr} (it:Addr) (lo:Int) (n:Nat):Turn P w K tg (Itr lo n) [it] it (fun i h=>IsRangeIter h it (lo + (i:Nat) * 1) ((n:Int) - (i:Nat)) 1) where
 mem:=by simp
 obj:=fun i h st b hb=>by
  have e:b=it:=by simpa using hb
  subst e
  exact ⟨_,st,fun v z=>by
   have z':Data.fields _=Data.cell v:=z
   cases z'⟩
 keep:=fun i h h' st k=>k it (by simp) _ st
 item:=by
  intro X hP hw hK hc i pins s σ H E I hf st hg
  subst hP hw hK
  obtain ⟨f0,f1,f2,f3,f4,f5⟩:=hf it (by simp)
  have W:=Walks.range (prog:=X.prog) (w:=X.w) (I.ok.hd hc) it lo 1 n
  refine W.item i s _ _ hg st fun v h' tk hv st' kk=>?_
  obtain ⟨t,rfl⟩:=hv
  have I1:Inv X pins σ H { s with heap:=h',toks:=tk }:=I.turned (fun b o hb e=>kk b o (by simpa using hb) e) f0 f1 f3 f4 f5
  refine ⟨_,rfl,JK (s:={ s with heap:=h',toks:=tk }) (n := "range_iterator") st' rfl rfl (by decide) ⟨.int (lo + i),H,I1,⟨t,?_⟩,⟨rfl,rfl⟩,st',fun b hb=>(hf b hb).1⟩⟩
  rw [Int.mul_one]
 done:=by
  intro X hP hw hK hc i pins s σ H E I hf st hg
  subst hP hw hK
  obtain ⟨f0,f1,f2,f3,f4,f5⟩:=hf it (by simp)
  exact wpAny_pyNext_range_end (I.ok.hd hc) st (by have:n<=i:=hg; omega) fun h' eb=>⟨rfl,I.turned (t':=s.toks) (fun b o hb e=>eb b o hb e) f0 f1 f3 f4 f5⟩
 self:=fun _ _ _ _ _ st h=>wpAny_pyIter_rangeiter st h
section
variable {X:Cx} {tg:Expr}
theorem Mp {pins:List (Addr × Obj)} {σ:St} {H:Hp} {s:Shared} {R:It->Hp->Prop} {E:Value->Shared->Prop} {lo hi:Int} {t u v:Tok} {tk:Nat} (I:Inv X pins σ H s) (h1:-(2 ^ 62)<=lo) (h2:lo < 2 ^ 62) (h3:-(2 ^ 62)<=hi) (h4:hi < 2 ^ 62)
  (q:R (Itr lo (hi - lo).toNat) H):wpAny (model X.prog X.w) X.A (pyIter (.ref s.heap.objs.size)) (PIE X pins σ tg R) E { s with heap:=s.heap.push { cls:=.type "range",data:=.fields #[.int lo t,.int hi u,.int 1 v] },toks:=tk }:=by
 refine wpAny_pyIter_range (IsRange.new ..) (small_one h1 h2 h3 h4) ?_
 have I1:Inv X pins σ H { s with heap:=s.heap.push { cls:=.type "range",data:=.fields #[.int lo t,.int hi u,.int 1 v] },toks:=tk }:=I.kept fun b o e=>Heap.get?_push_of_some _ e
 refine ⟨(s.heap.push { cls:=.type "range",data:=.fields #[.int lo t,.int hi u,.int 1 v] }).objs.size,[(s.heap.push { cls:=.type "range",data:=.fields #[.int lo t,.int hi u,.int 1 v] }).objs.size],_,_,H,rfl,
  I1.kept (t':=tk) fun b o e=>Heap.get?_push_of_some _ e,JM _ lo (hi - lo).toNat,?_,fun b hb=>?_,q⟩
 ·have e1:lo + ((0:Nat):Int) * 1=lo:=by simp
  have e2:(((hi - lo).toNat:Nat):Int) - ((0:Nat):Int)=Builtin.Range.rangeSize lo hi 1:=by rw [rangeSize_one]; split <;> omega
  show IsRangeIter _ _ (lo + ((0:Nat):Int) * 1) ((((hi - lo).toNat:Nat):Int) - ((0:Nat):Int)) 1
  rw [e1,e2]
  exact Heap.get?_push_size _ rfl
 ·have e:b=(s.heap.push { cls:=.type "range",data:=.fields #[.int lo t,.int hi u,.int 1 v] }).objs.size:=by simpa using hb
  subst e
  exact I1.fpOk (aao _) (I1.hok.fresh (aao _))
noncomputable def Rg (ta:TA):TI:=fun σ H R=>ta σ H fun vs H1=>∃ j:Int,vs=[.int j]/\-(2 ^ 62)<=j/\j < 2 ^ 62/\R (Itr 0 j.toNat) H1
theorem KU {a:Expr} {ta:TA} {p pos:Pos} (hg:Gl X "range") (hm:X.mg "range" = none) (ha:PA X [a] ta) (hs:starEach [a] X.env=[(false,eval a X.env)]:=by rfl):PI X tg (.Call (.Name "range" p) [a] [] pos) (Rg ta):=by
 intro pins s σ H R I h
 refine Call_ (Gc I hg hm boot_range (PyProof.Rows.callWith_type1 (thn (ha pos pins s σ H _ I h) fun us s1 ⟨vs,H1,I1,r1,q1⟩=>?_) hs rfl))
 obtain ⟨j,e,q1,q2,q⟩:=q1
 subst e
 cases r1 with
 | cons r rr =>
  cases rr
  obtain ⟨t,rfl⟩:=r
  exact call_range_1 (Mp I1 (by omega) (by omega) q1 q2 (by simpa using q))
noncomputable def Pz (wi:TI) (g:TG) (tb:TS):TS:=fun D σ H=>wi σ H fun J H1=>∃ W:Nat->Nat->St->Hp->Prop,(∃ m,W 0 m σ H1)/\∀ i m σ H,W i m σ H ->
 (J.stop i H/\D.nx σ H)\/(J.go i H/\∃ N:St->Hp->Prop,(∀ σ' H',N σ' H'->∃ m',m' < m/\W (i + 1) m' σ' H')/\∀ x H',J.yld i H x H'->g x σ H' fun σ2 H2=>tb { D with nx:=N,ct:=N,bk:=D.nx } σ2 H2)
noncomputable def Ep (fp:List Addr) (h:Heap):List (Addr × Obj):=fp.filterMap fun b=>(h.get? b).map fun o=>(b,o)
theorem B3 {fp:List Addr} {h:Heap} {b:Addr} {o:Obj} (hb:b ∈ fp) (e:h.get? b=some o):(b,o) ∈ Ep fp h:=aaN.mpr ⟨b,hb,by rw [e]; rfl⟩
theorem KW {fp:List Addr} {h:Heap} {p:Addr × Obj} (hp:p ∈ Ep fp h):p.1 ∈ fp/\h.get? p.1=some p.2:=by
 obtain ⟨b,hb,e⟩:=aaN.mp hp
 cases q:h.get? b with
 | none=>rw [q] at e; cases e
 | some o =>
  rw [q] at e
  have e':(b,o)=p:=Option.some.inj e
  subst e'
  exact ⟨hb,q⟩
theorem Inv.pinned {pins:List (Addr × Obj)} {σ:St} {H:Hp} {s:Shared} {fp:List Addr} (I:Inv X pins σ H s) (hf:∀ b ∈ fp,FpOk X pins H b) (ho:∀ b ∈ fp,∃ o,s.heap.get? b=some o/\∀ v,o.data ≠ .cell v):Inv X (pins ++ Ep fp s.heap) σ H s :=
 I.pins_of fun p hp=>(aae.mp hp).elim (fun z=>I.pin p (aag _ z)) fun z=>by
  obtain ⟨hb,e⟩:=KW z
  obtain ⟨f0,f1,f2,_⟩:=hf p.1 hb
  obtain ⟨o,e',d⟩:=ho p.1 hb
  rw [e] at e'; cases e'
  exact ⟨e,f0,f1,f2,d⟩
theorem Inv.unpinned {pins pl:List (Addr × Obj)} {σ:St} {H:Hp} {s:Shared} (I:Inv X (pins ++ pl) σ H s):Inv X pins σ H s:=I.pins_of fun p hp=>I.pin p (aag _ (aan _ hp))
theorem KY {iter:Expr} {body:List Stmt} {wi:TI} {g:TG} {tb:TS} {pos:Pos} (hp:PassesOwn (model X.prog X.w) X.A X.env X.xe) (hc:X.calm=true) (hi:PI X tg iter wi) (hg:PG X tg g) (hb:PSs X body tb)
  (hs:∀ x,foldedSetIterable iter X.env x=pure x:=by intro _; rfl):PS X (.For tg iter body [] pos) (Pz wi g tb):=by
 intro pins s σ H D I h
 refine wpAny_For (thn (hi pins s σ H _ I h) fun v s1 h1=>thn h1 fun itv s2 h2=>?_) hs
 obtain ⟨it,fp,tn,J,H2,e,I2,T,st2,f2,W,⟨m0,w0⟩,turn⟩:=h2
 subst e
 have stat:∀ {H':Hp},(∀ b ∈ fp,H' b=none)->∀ b ∈ fp,FpOk X pins H' b:=fun hn b hb=>⟨hn b hb,(f2 b hb).2⟩
 refine codeAny_forLoop_any (fun n s'=>∃ i σ' H',Inv X pins σ' H' s'/\tn i s'.heap/\(∀ b ∈ fp,H' b=none)/\W i n σ' H') ?_ m0 ⟨0,σ,H2,I2,st2,fun b hb=>(f2 b hb).1,w0⟩
 rintro n s3 ⟨i,σ3,H3,I3,st3,fr3,w3⟩
 rcases turn i n σ3 H3 w3 with ⟨stop,qn⟩ | ⟨go,N,hN,step⟩
 ·refine wpAny_passesOwn hp (thn (T.done X rfl rfl rfl hc i pins s3 σ3 H3 X.xe I3 (stat fr3) st3 stop) fun r s4 ⟨hr,I4⟩=>?_)
  subst hr
  exact wpAny_execs_nil ⟨σ3,H3,I4,qn⟩
 ·refine wpAny_passesOwn hp (thn (T.item X rfl rfl rfl hc i pins s3 σ3 H3 X.xe I3 (stat fr3) st3 go) fun r s4 ⟨u,hr,h4⟩=>?_)
  subst hr
  refine wpAny_passesOwn hp (thn h4 fun _ s5 ⟨x,H5,I5,r5,y5,st5,fr5⟩=>?_)
  have I5':=I5.pinned (stat fr5) (T.obj _ _ st5)
  refine wpAny_passesOwn hp (thn (hg _ s5 σ3 H5 x u _ I5' r5 (step x H5 y5)) fun _ s6 ⟨σ6,H6,I6,q6⟩=>?_)
  refine wpAny_passesOwn hp (thn (hb _ s6 σ6 H6 _ I6 q6) fun f s7 q7=>?_)
  have again:∀ {σ7:St} {H7:Hp},Inv X (pins ++ Ep fp s5.heap) σ7 H7 s7->N σ7 H7->∃ m,m < n/\∃ i σ' H',Inv X pins σ' H' s7/\tn i s7.heap/\(∀ b ∈ fp,H' b=none)/\W i m σ' H':=fun {σ7 H7} I7 n7=>by
   obtain ⟨m',hm,w7⟩:=hN σ7 H7 n7
   refine ⟨m',hm,i + 1,σ7,H7,I7.unpinned,T.keep _ _ _ st5 fun b hb o e=>(I7.pin (b,o) (aag _ (aag _ (B3 hb e)))).1,fun b hb=>?_,w7⟩
   obtain ⟨o,e,d⟩:=T.obj _ _ st5 b hb
   exact (I7.pin (b,o) (aag _ (aag _ (B3 hb e)))).2.1
  cases f with
  | next=>obtain ⟨σ7,H7,I7,n7⟩:=q7; exact again I7 n7
  | cont=>obtain ⟨σ7,H7,I7,n7⟩:=q7; exact again I7 n7
  | brk=>obtain ⟨σ7,H7,I7,q7⟩:=q7; exact ⟨σ7,H7,I7.unpinned,q7⟩
  | ret v=>obtain ⟨x7,σ7,H7,I7,r7,q7⟩:=q7; exact ⟨x7,σ7,H7,I7.unpinned,r7,q7⟩
end
noncomputable abbrev R2:=V->V->Hp->VK->Prop
noncomputable def OpR (X:Cx) (f:Value->Value->Sem Value) (r:R2):Prop :=
 ∀ (pins:List (Addr × Obj)) (s:Shared) (σ:St) (H:Hp) (x y:V) (v u:Value) (Q:VK),Inv X pins σ H s->RelV x v->RelV y u->r x y H Q ->
  wpAny (model X.prog X.w) X.A (f v u) (EP X pins σ Q) X.xe s
noncomputable def UnR (X:Cx) (f:Value->Sem Value) (r:V->Hp->VK->Prop):Prop :=
 ∀ (pins:List (Addr × Obj)) (s:Shared) (σ:St) (H:Hp) (x:V) (v:Value) (Q:VK),Inv X pins σ H s->RelV x v->r x H Q ->
  wpAny (model X.prog X.w) X.A (f v) (EP X pins σ Q) X.xe s
noncomputable def CA (X:Cx) (f:Value) (r:List V->Hp->VK->Prop):Prop :=
 ∀ (pins:List (Addr × Obj)) (s:Shared) (σ:St) (H:Hp) (xs:List V) (us:List Value) (Q:VK),Inv X pins σ H s->Vals xs us->r xs H Q ->
  wpAny (model X.prog X.w) X.A (call f us) (EP X pins σ Q) X.xe s
noncomputable def Sn (X:Cx) (r:V->Hp->(Bool->Hp->Prop)->Prop):Prop :=
 ∀ (pins:List (Addr × Obj)) (s:Shared) (σ:St) (H:Hp) (x:V) (v:Value) (Q:Bool->Hp->Prop),Inv X pins σ H s->RelV x v->r x H Q ->
  wpAny (model X.prog X.w) X.A (truthy v) (TP X pins σ Q) X.xe s
noncomputable def tOp (r:R2) (ta tb:TE):TE:=fun σ H Q=>ta σ H fun x H1=>tb σ H1 fun y H2=>r x y H2 Q
noncomputable def tUn (r:V->Hp->VK->Prop) (ta:TE):TE:=fun σ H Q=>ta σ H fun x H1=>r x H1 Q
noncomputable def rI (C:Int->Int->Prop) (g:Int->Int->V):R2:=fun x y H Q=>∃ i j,x=.int i/\y=.int j/\C i j/\Q (g i j) H
noncomputable def rI0 (g:Int->Int->V):R2:=fun x y H Q=>∃ i j,x=.int i/\y=.int j/\Q (g i j) H
noncomputable def rU (g:Int->V):V->Hp->VK->Prop:=fun x H Q=>∃ i,x=.int i/\Q (g i) H
section
variable {X:Cx} {a b c:Expr} {ta tb tc:TE} {pos:Pos}
theorem Mq (ha:PE X a ta) (hb:PE X b tb) {pins:List (Addr × Obj)} {s:Shared} {σ:St} {H:Hp} {R:V->V->Hp->Prop} (I:Inv X pins σ H s)
  (h:ta σ H fun x H1=>tb σ H1 fun y H2=>R x y H2) {Q:Value->Shared->Prop} {f:Value->Value->Sem Value}
  (hf:∀ v u s2 x y H2,Inv X pins σ H2 s2->RelV x v->RelV y u->R x y H2->wpAny (model X.prog X.w) X.A (f v u) Q X.xe s2) :
  wpAny (model X.prog X.w) X.A (eval a X.env) (fun v s₁=>wpAny (model X.prog X.w) X.A (eval b X.env) (fun u s₂=>wpAny (model X.prog X.w) X.A (f v u) Q X.xe s₂) X.xe s₁) X.xe s:=by
 refine thn (ha pins s σ H _ I h) fun v s1 ⟨x,H1,I1,r1,q1⟩=>?_
 refine thn (hb pins s1 σ H1 _ I1 q1) fun u s2 ⟨y,H2,I2,r2,q2⟩=>?_
 exact hf v u s2 x y H2 I2 r1 r2 q2
theorem Rh {op:Operator} {r:R2} (ho:OpR X (binaryOp op) r) (ha:PE X a ta) (hb:PE X b tb):PE X (.BinOp a op b pos) (tOp r ta tb):=by
 intro pins s σ H Q I h
 exact wpAny_BinOp (Mq ha hb I h fun v u s2 x y H2 I2 rx ry q=>ho pins s2 σ H2 x y v u Q I2 rx ry q)
theorem Ri {op:UnaryOp} {r:V->Hp->VK->Prop} (ho:UnR X (unaryOp op) r) (ha:PE X a ta):PE X (.UnaryOp op a pos) (tUn r ta):=by
 intro pins s σ H Q I h
 exact UnaryOp_ (thn (ha pins s σ H _ I h) fun v s1 ⟨x,H1,I1,r1,q1⟩=>ho pins s1 σ H1 x v Q I1 r1 q1)
theorem opI {f:Value->Value->Sem Value} {C:Int->Int->Prop} {g:Int->Int->Int}
  (rule:∀ (i j:Int) (t u:Tok) (s:Shared) (Q:Value->Shared->Prop) (E:Value->Shared->Prop),C i j->Q (.int (g i j) s.toks) { s with toks:=s.toks + 1 }->wpAny (model X.prog X.w) X.A (f (.int i t) (.int j u)) Q E s) :
  OpR X f (rI C fun i j=>.int (g i j)):=by
 intro pins s σ H x y v u Q I rx ry h
 obtain ⟨i,j,rfl,rfl,hc,q⟩:=h
 obtain ⟨t,rfl⟩:=rx
 obtain ⟨t',rfl⟩:=ry
 exact rule i j t t' s _ _ hc ⟨.int (g i j),H,I.tok _,⟨_,rfl⟩,q⟩
theorem PB {f:Value->Value->Sem Value} {g:Int->Int->Int}
  (rule:∀ (i j:Int) (t u:Tok) (s:Shared) (Q:Value->Shared->Prop) (E:Value->Shared->Prop),Q (.int (g i j) s.toks) { s with toks:=s.toks + 1 }->wpAny (model X.prog X.w) X.A (f (.int i t) (.int j u)) Q E s) :
  OpR X f (rI0 fun i j=>.int (g i j)):=by
 intro pins s σ H x y v u Q I rx ry h
 obtain ⟨i,j,rfl,rfl,q⟩:=h
 obtain ⟨t,rfl⟩:=rx
 obtain ⟨t',rfl⟩:=ry
 exact rule i j t t' s _ _ ⟨.int (g i j),H,I.tok _,⟨_,rfl⟩,q⟩
theorem JN {f:Value->Value->Sem Value} {g:Int->Int->Bool}
  (rule:∀ (i j:Int) (t u:Tok) (s:Shared) (Q:Value->Shared->Prop) (E:Value->Shared->Prop),Q (.bool (g i j)) s->wpAny (model X.prog X.w) X.A (f (.int i t) (.int j u)) Q E s) :
  OpR X f (rI0 fun i j=>.bl (g i j)):=by
 intro pins s σ H x y v u Q I rx ry h
 obtain ⟨i,j,rfl,rfl,q⟩:=h
 obtain ⟨t,rfl⟩:=rx
 obtain ⟨t',rfl⟩:=ry
 exact rule i j t t' s _ _ ⟨.bl (g i j),H,I,rfl,q⟩
noncomputable def PD (i j:Int):Prop:=0<=j/\j<=1000000/\i.natAbs < 2 ^ 64
noncomputable def CMul (i j:Int):Prop:=(-(2 ^ 64) < i/\i < 2 ^ 64)\/(-(2 ^ 64) < j/\j < 2 ^ 64)
theorem CMul.ok {i j:Int} (h:CMul i j):IntMulOk i j:=by
 rcases h with ⟨h1,h2⟩ | ⟨h1,h2⟩
 ·exact .of_left (intBits_le_64 h1 h2)
 ·exact .of_right (intBits_le_64 h1 h2)
theorem PF:OpR X (binaryOp .Add) (rI0 fun i j=>.int (i + j)):=PB fun _ _ _ _ _ _ _ q=>add_int q
theorem PH:OpR X (binaryOp .Sub) (rI0 fun i j=>.int (i - j)):=PB fun _ _ _ _ _ _ _ q=>sub_int q
theorem PJ:OpR X (binaryOp .Mod) (rI (fun _ j=>0 < j) fun i j=>.int (i % j)):=opI fun i j _ _ _ _ _ hc q=>by
 have h1:(0:Int) < j:=hc
 exact mod_int' (by omega) (by rw [Int.fmod_eq_emod_of_nonneg i (by omega)]; exact q)
theorem PK:OpR X (binaryOp .Pow) (rI PD fun i j=>.int (i ^ j.toNat)):=opI fun _ _ _ _ _ _ _ hc q=>pow_int_small hc.1 hc.2.1 hc.2.2 q
theorem unI {f:Value->Sem Value} {g:Int->Int}
  (rule:∀ (i:Int) (t:Tok) (s:Shared) (Q:Value->Shared->Prop) (E:Value->Shared->Prop),Q (.int (g i) s.toks) { s with toks:=s.toks + 1 }->wpAny (model X.prog X.w) X.A (f (.int i t)) Q E s) :
  UnR X f (rU fun i=>.int (g i)):=by
 intro pins s σ H x v Q I rx h
 obtain ⟨i,rfl,q⟩:=h
 obtain ⟨t,rfl⟩:=rx
 exact rule i t s _ _ ⟨.int (g i),H,I.tok _,⟨_,rfl⟩,q⟩
theorem PL:UnR X (unaryOp .USub) (rU fun i=>.int (-i)):=unI fun _ _ _ _ _ q=>neg_int q
end
section
variable {X:Cx} {a b c:Expr} {ta tb tc:TE} {pos:Pos}
theorem Rj:OpR X (compareOp .Lt) (rI0 fun i j=>.bl (decide (i < j))):=JN fun _ _ _ _ _ _ _ q=>lt_int q
theorem Rk:OpR X (compareOp .LtE) (rI0 fun i j=>.bl (decide (i<=j))):=JN fun _ _ _ _ _ _ _ q=>le_int q
theorem Rl:OpR X (compareOp .Gt) (rI0 fun i j=>.bl (decide (j < i))):=JN fun _ _ _ _ _ _ _ q=>gt_int q
theorem Rm:OpR X (compareOp .GtE) (rI0 fun i j=>.bl (decide (j<=i))):=JN fun _ _ _ _ _ _ _ q=>ge_int q
theorem OpR.or {f:Value->Value->Sem Value} {r r':R2} (h:OpR X f r) (h':OpR X f r'):OpR X f (fun x y H Q=>r x y H Q\/r' x y H Q):=by
 intro pins s σ H x y v u Q I rx ry q
 rcases q with q | q
 ·exact h pins s σ H x y v u Q I rx ry q
 ·exact h' pins s σ H x y v u Q I rx ry q
theorem NY {op:CmpOp} {r:R2} (ho:OpR X (compareOp op) r) (ha:PE X a ta) (hb:PE X b tb) (hm:behindInMarks op b=false):PE X (.Compare a [op] [b] pos) (tOp r ta tb):=by
 intro pins s σ H Q I h
 exact wpAny_Compare1 (Mq ha hb I h fun v u s2 x y H2 I2 rx ry q=>ho pins s2 σ H2 x y v u Q I2 rx ry q) hm
noncomputable def NA (t:TE):TT:=fun σ H Q=>t σ H fun x H'=>∃ k,x=.bl k/\Q k H'
theorem NZ {op:CmpOp} {r:R2} (ho:OpR X (compareOp op) r) (ha:PE X a ta) (hb:PE X b tb) (hm:behindInMarks op b=false):PT X (.Compare a [op] [b] pos) (NA (tOp r ta tb)):=by
 intro pins s σ H Q I h
 refine wpAny_isTrue_Compare1 (thn (ha pins s σ H _ I h) fun v s1 ⟨x,H1,I1,r1,q1⟩=>thn (hb pins s1 σ H1 _ I1 q1) fun u s2 ⟨y,H2,I2,r2,q2⟩ =>
  thn (ho pins s2 σ H2 x y v u _ I2 r1 r2 q2) fun c s3 ⟨z,H3,I3,r3,k,e,q3⟩=>?_) hm
 subst e
 cases r3
 exact wpAny_truthy_bool ⟨H3,I3,q3⟩
noncomputable def HB (r r':R2) (ta tb tc:TE):TE:=fun σ H Q=>ta σ H fun x H1=>tb σ H1 fun y H2=>r x y H2 fun z H3=>∃ k,z=.bl k /\
 (if k=true then tc σ H3 fun w' H4=>r' y w' H4 Q else Q (.bl false) H3)
theorem Mr {op op':CmpOp} {r r':R2} (ho:OpR X (compareOp op) r) (ho':OpR X (compareOp op') r') (ha:PE X a ta) (hb:PE X b tb) (hc:PE X c tc)
  (hm:lastMarks [op,op'] [b,c]=false:=by with_unfolding_all rfl):PE X (.Compare a [op,op'] [b,c] pos) (HB r r' ta tb tc):=by
 intro pins s σ H Q I h
 refine Compare_chain (thn (ha pins s σ H _ I h) fun v s1 ⟨x,H1,I1,r1,q1⟩=>chain_link (thn (hb pins s1 σ H1 _ I1 q1) fun u s2 ⟨y,H2,I2,r2,q2⟩ =>
  thn (ho pins s2 σ H2 x y v u _ I2 r1 r2 q2) fun d s3 ⟨z,H3,I3,r3,k,e,q3⟩=>?_)) hm
 subst e
 cases r3
 refine wpAny_truthy_bool ?_
 cases k with
 | false=>exact ite_ff ⟨.bl false,H3,I3,rfl,q3⟩
 | true=>exact ite_tt (chain_last (thn (hc pins s3 σ H3 _ I3 q3) fun w' s4 ⟨z',H4,I4,r4,q4⟩=>ho' pins s4 σ H4 y z' u w' Q I4 r2 r4 q4))
theorem Mt {op op':CmpOp} {r r':R2} (ho:OpR X (compareOp op) r) (ho':OpR X (compareOp op') r') (ha:PE X a ta) (hb:PE X b tb) (hc:PE X c tc)
  (hm:lastMarks [op,op'] [b,c]=false:=by with_unfolding_all rfl):PT X (.Compare a [op,op'] [b,c] pos) (NA (HB r r' ta tb tc)):=by
 intro pins s σ H Q I h
 refine isTrue_chain (thn (ha pins s σ H _ I h) fun v s1 ⟨x,H1,I1,r1,q1⟩=>test_link (thn (hb pins s1 σ H1 _ I1 q1) fun u s2 ⟨y,H2,I2,r2,q2⟩ =>
  thn (ho pins s2 σ H2 x y v u _ I2 r1 r2 q2) fun d s3 ⟨z,H3,I3,r3,k,e,q3⟩=>?_)) hm
 subst e
 cases r3
 refine wpAny_truthy_bool ?_
 cases k with
 | false =>
  obtain ⟨k',e',q'⟩:=q3
  cases e'
  exact ite_ff ⟨H3,I3,q'⟩
 | true =>
  refine ite_tt (test_last (thn (hc pins s3 σ H3 _ I3 q3) fun w' s4 ⟨z',H4,I4,r4,q4⟩=>thn (ho' pins s4 σ H4 y z' u w' _ I4 r2 r4 q4) fun d' s5 ⟨z2,H5,I5,r5,k2,e2,q5⟩=>?_))
  subst e2
  cases r5
  exact wpAny_truthy_bool ⟨H5,I5,q5⟩
noncomputable def Mv (K:PySem.W.Frag) (x:V) (H:Hp) (k:Bool):Prop :=
 match x with
 | .non=>k=false
 | .bl b=>k=b
 | .int i=>k=(i != 0)
 | .str y=>y.length<=sizeLine/\k=((y.length:Int) != 0)
 | .byt y=>y.size<=sizeLine/\k=((y.size:Int) != 0)
 | .ref p=>(∃ xs,SqL K H p xs/\k=!xs.isEmpty)\/(∃ xs,SqT K H p xs/\k=!xs.isEmpty)\/∃ kvs,H p=some (.dK kvs)/\k=!kvs.isEmpty
 | _=>False
theorem JO {κ:Type} {kvs:List (κ × V)} {vs:List (κ × Value)} (r:KV kvs vs):(!vs.isEmpty)=!kvs.isEmpty:=by
 cases r <;> rfl
theorem Gd {xs:List V} {its:List Value} (r:Vals xs its):(!its.toArray.isEmpty)=!xs.isEmpty:=by
 cases r <;> simp
theorem EV:(sizeLine:Nat) < 2 ^ 63:=by rw [sizeLine_eq]; decide
theorem PM:Sn X (fun x H Q=>∃ k,Mv X.K x H k/\Q k H):=by
 intro pins s σ H x v Q I rx h
 obtain ⟨k,e,q⟩:=h
 have hl:=EV
 have hs:sizeLine=16777216:=sizeLine_eq
 cases x with
 | non =>
  cases rx
  have e':k=false:=e
  subst e'
  exact truthy_none ⟨H,I,q⟩
 | bl b =>
  cases rx
  have e':k=b:=e
  subst e'
  exact wpAny_truthy_bool ⟨H,I,q⟩
 | int i =>
  obtain ⟨t,rfl⟩:=rx
  have e':k=(i != 0):=e
  subst e'
  exact PySem.P.truthy_int ⟨H,I,q⟩
 | str y =>
  obtain ⟨t,rfl⟩:=rx
  obtain ⟨hy,e'⟩:y.length<=sizeLine/\k=((y.length:Int) != 0):=e
  subst e'
  exact PySem.P.truthy_str (by omega) ⟨H,I.tok _,q⟩
 | byt y =>
  obtain ⟨t,rfl⟩:=rx
  obtain ⟨hy,e'⟩:y.size<=sizeLine/\k=((y.size:Int) != 0):=e
  subst e'
  exact PySem.W.truthy_bytes (by omega) ⟨H,I.tok _,q⟩
 | ref p =>
  cases rx
  have e':(∃ xs,SqL X.K H p xs/\k=!xs.isEmpty)\/(∃ xs,SqT X.K H p xs/\k=!xs.isEmpty)\/∃ kvs,H p=some (.dK kvs)/\k=!kvs.isEmpty:=e
  rcases e' with ⟨xs,hx,e'⟩ | ⟨xs,hx,e'⟩ | ⟨kvs,hx,e'⟩
  ·subst e'
   obtain ⟨its,r,pl,hz⟩:=I.list hx
   have hlen:=r.length
   exact wpAny_truthy_list pl.isList (by simp only [aak]; omega) ⟨H,I.tok _,by rw [Gd r]; exact q⟩
  ·subst e'
   obtain ⟨its,r,pl,hz⟩:=I.tuple hx
   have hlen:=r.length
   exact truthy_tuple pl (by simp only [aak]; omega) ⟨H,I.tok _,by rw [Gd r]; exact q⟩
  ·subst e'
   obtain ⟨hz,hS,vs,r,m⟩:kvs.length<=sizeLine/\(p==sysModules)=false/\∃ vs,KV kvs vs/\s.heap.DictOf (B0 X.prog X.w) p vs:=I.hok p _ hx
   have hlen:kvs.length=vs.length:=Paired.length r
   exact wpAny_truthy_dict hS m (by omega) ⟨H,I.tok _,by rw [JO r]; exact q⟩
 | _=>exact nE e
theorem Mw (ha:PE X a ta) (he:∀ whole,isTrue a X.env whole=(do let v <- whole; standAt a.pos; holding [v] (truthy v))) :
  PT X a (fun σ H Q=>ta σ H fun x H'=>∃ k,Mv X.K x H' k/\Q k H'):=by
 intro pins s σ H Q I h
 exact isTrue_plain (thn (ha pins s σ H _ I h) fun v s1 ⟨x,H1,I1,r1,q1⟩=>PM pins s1 σ H1 x v Q I1 r1 q1) (he _)
theorem JP:OpR X (binaryOp .Add) (fun x y H Q=>∃ i j,x=.str i/\y=.str j/\i.length + j.length<=sizeLine/\Q (.str (i ++ j)) H):=by
 intro pins s σ H x y v u Q I rx ry h
 obtain ⟨i,j,rfl,rfl,hz,q⟩:=h
 obtain ⟨t,rfl⟩:=rx
 obtain ⟨t',rfl⟩:=ry
 exact add_str (fun t' tk=>⟨.str (i ++ j),H,I.tok _,⟨_,rfl⟩,q⟩) hz
theorem EC {x:V} {us:List Value} (r:Vals [x] us):∃ u,us=[u]/\RelV x u:=by
 cases r with
 | cons r1 r2=>cases r2; exact ⟨_,rfl,r1⟩
theorem JQ {x y:V} {us:List Value} (r:Vals [x,y] us):∃ u w',us=[u,w']/\RelV x u/\RelV y w':=by
 cases r with
 | cons r1 r2 =>
  cases r2 with
  | cons r3 r4=>cases r4; exact ⟨_,_,rfl,r1,r3⟩
theorem KZ (hc:X.calm=true):CA X (.builtin "min") (fun xs H Q=>∃ i j,xs=[.int i,.int j]/\Q (.int (if j < i then j else i)) H):=by
 intro pins s σ H xs us Q I r h
 obtain ⟨i,j,rfl,q⟩:=h
 obtain ⟨u,w',rfl,⟨t,rfl⟩,⟨t',rfl⟩⟩:=JQ r
 refine min_two_ints (I.ok.hd hc) fun h' tk k=>⟨_,H,I.kept k,?_,q⟩
 by_cases hj:j < i
 ·rw [if_pos hj,if_pos hj]; exact ⟨_,rfl⟩
 ·rw [if_neg hj,if_neg hj]; exact ⟨_,rfl⟩
theorem K0:CA X (.type "int") (fun xs H Q=>(∃ i,xs=[.int i]/\Q (.int i) H)\/∃ k,xs=[.bl k]/\Q (.int (if k then 1 else 0)) H):=by
 intro pins s σ H xs us Q I r h
 rcases h with ⟨i,rfl,q⟩ | ⟨k,rfl,q⟩
 ·obtain ⟨u,rfl,t,rfl⟩:=EC r
  exact call_int_int ⟨.int i,H,I,⟨_,rfl⟩,q⟩
 ·obtain ⟨u,rfl,r1⟩:=EC r
  cases r1
  exact call_int_bool ⟨.int (if k then 1 else 0),H,I.tok _,⟨_,rfl⟩,q⟩
end
structure ObjM (h:Heap) (x dx C:Addr) (mA:Str->Option Value):Prop where
 obj:h.get? x=some (PySem.W.instObj C dx)
 ns:h.Ns1 dx mA
 ne:dx ≠ x
theorem K1 {h:Heap} {dx:Addr} {mA:Str->Option Value} (n:h.Ns1 dx mA):∃ od,h.get? dx=some od/\∀ name,PySem.W.lookIn name od=some (mA name):=by
 obtain ⟨o,es,ep,ho,hd,hk,_,hm⟩:=n
 refine ⟨o,ho,fun name=>?_⟩
 have e:=hm name
 unfold nsFind findBy at e
 rw [<- Array.find?_toList] at e
 unfold PySem.W.lookIn
 rw [hd]
 dsimp only
 split
 ·rename_i y q
  rw [q] at e
  exact congrArg some e
 ·rename_i q
  rw [q] at e
  have a:es.toList.any (·.refKey)=false:=by
   rw [List.any_eq_false]
   intro y hy
   obtain ⟨z,t,hkey⟩:=hk y (Array.mem_toList_iff.mp hy)
   simp [DictEntry.refKey,hkey]
  have a':¬ es.toList.any (·.refKey)=true:=by rw [a]; exact abq
  rw [if_neg a']
  exact congrArg some e
theorem ObjM.look {h:Heap} {x dx C:Addr} {mA:Str->Option Value} (I:ObjM h x dx C mA):∃ od,PySem.W.InstAt h x (PySem.W.instObj C dx) C (some od)/\∀ name,PySem.W.lookIn name od=some (mA name) :=
 let ⟨od,ho,hl⟩:=K1 I.ns
 ⟨od,⟨I.obj,rfl,rfl,ho⟩,hl⟩
section
variable {P:Program} {w:World} {H H':Hp} {h h':Heap} {a C dx:Addr} {fs fs':List (Str × V)}
theorem N0 (hok:HOk P w H h) (e:H a=some (.ins C dx fs)):∃ mA,ObjM h a dx C mA/\(∀ f,RelO (fs.lookup f) (mA f))/\PySem.Within mA (fs.map (·.1))/\fs.length<=1000/\H dx=some (.own a):=by
 obtain ⟨d,z,ne,ob,mA,n,r,q⟩:=(show ObjOk P w H h a (.ins C dx fs) from hok a _ e)
 exact ⟨mA,⟨ob,n,ne⟩,r,q,z,d⟩
end
structure Cls (K:PySem.W.Frag) (C:Addr):Prop where
 pg:PySem.W.plainGet K C Str.empty=true
 hd:PySem.W.hasDictIn K C=true
 po:PySem.W.plainOver K C=true
 sa:PySem.W.findIn K (.ref C) "__setattr__" = some (some (.builtin "object.__setattr__"))
theorem Cls.get {K:PySem.W.Frag} {C:Addr} (c:Cls K C) (f:Str):PySem.W.plainGet K C f=true:=c.pg
section
variable {X:Cx} {pins:List (Addr × Obj)} {σ:St} {H:Hp} {s:Shared} {A:Around} {E:Value->Shared->Prop} {Q:Value->Shared->Prop} {c:Value} {b:Bool}
inductive TyOf (K:PySem.W.Frag) (H:Hp):V->Value->Prop where
 | non:TyOf K H .non (.type "NoneType")
 | bl (x:Bool):TyOf K H (.bl x) (.type "bool")
 | int (i:Int):TyOf K H (.int i) (.type "int")
 | str (x:Str):TyOf K H (.str x) (.type "str")
 | flt (x:UInt64):TyOf K H (.flt x) (.type "float")
 | lst {a:Addr} {xs:List V} (e:H a=some (.lst xs)):TyOf K H (.ref a) (.type "list")
 | frz {a:Addr} {o:Obj} {xs:List V} (e:H a=some (.frz o (.lst xs))):TyOf K H (.ref a) (.type "list")
 | tup {a:Addr} {xs:List V} (e:H a=some (.tup xs)):TyOf K H (.ref a) (.type "tuple")
 | dK {a:Addr} {kvs:List (Key × V)} (e:H a=some (.dK kvs)):TyOf K H (.ref a) (.type "dict")
 | dT {a:Addr} {kvs:List (List Key × V)} (e:H a=some (.dT kvs)):TyOf K H (.ref a) (.type "dict")
 | ins {a C dx:Addr} {fs:List (Str × V)} (e:H a=some (.ins C dx fs)) (cl:Cls K C) (ha:PySem.W.findIn K (.ref C) "__class__" = some (some (.builtin "object.__class__")))
   (hn:PySem.W.specialIn K (.builtin "object.__class__") "__get__" = some (some (.builtin "getset_descriptor.__get__"))) (htk:PySem.W.takesIn K (.builtin "object.__class__")=some true)
   (hm:PySem.W.mroIn K C (.type "object")=some true):TyOf K H (.ref a) (.ref C)
theorem K3 {x:V} {u t:Value} (I:Inv X pins σ H s) (rx:RelV x u) (ty:TyOf X.K H x t) (e:PySem.W.kitOne X.K t c=some b) (h:∀ tk,Q (.bool b) { s with toks:=tk }) :
  wpAny (model X.prog X.w) A (call (.builtin "isinstance") [u,c]) Q E s:=by
 cases ty with
 | non=>cases (show u=Value.none from rx); exact PySem.W.kia_one PySem.W.kitx_none I.kIn True.intro e (fun z=>nomatch z) h
 | bl y=>cases (show u=Value.bool y from rx); exact PySem.W.kia_one PySem.W.kitx_bool I.kIn True.intro e (fun z=>nomatch z) h
 | int i=>obtain ⟨t,q⟩:=(show ∃ t,u=Value.int i t from rx); cases q; exact PySem.W.kia_one PySem.W.kitx_int I.kIn True.intro e (fun z=>nomatch z) h
 | str y=>obtain ⟨t,q⟩:=(show ∃ t,u=Value.str y t from rx); cases q; exact PySem.W.kia_one PySem.W.kitx_str I.kIn True.intro e (fun z=>nomatch z) h
 | flt y=>obtain ⟨t,q⟩:=(show ∃ t,u=Value.float y t from rx); cases q; exact PySem.W.kia_one PySem.W.kitx_float I.kIn True.intro e (fun z=>nomatch z) h
 | @lst a xs ea =>
  cases (show u=Value.ref a from rx)
  obtain ⟨_,_,n,_,h1⟩:=(show ObjOk X.prog X.w H s.heap a (.lst xs) from I.hok a _ ea)
  exact PySem.W.kia_one PySem.W.kitx_list I.kIn ⟨_,h1,rfl⟩ e (fun z=>nomatch z) h
 | @frz a ob xs ea =>
  cases (show u=Value.ref a from rx)
  obtain ⟨_,_,_,n,_,h1⟩:=(show ObjOk X.prog X.w H s.heap a (.frz ob (.lst xs)) from I.hok a _ ea)
  exact PySem.W.kia_one PySem.W.kitx_list I.kIn ⟨_,h1,rfl⟩ e (fun z=>nomatch z) h
 | @tup a xs ea =>
  cases (show u=Value.ref a from rx)
  obtain ⟨_,_,_,p⟩:=(show ObjOk X.prog X.w H s.heap a (.tup xs) from I.hok a _ ea)
  obtain ⟨o,h1,h2,_⟩:=p
  exact PySem.W.kia_one PySem.W.kitx_tuple I.kIn ⟨o,h1,h2⟩ e (fun z=>nomatch z) h
 | @dK a kvs ea =>
  cases (show u=Value.ref a from rx)
  obtain ⟨_,_,vs,_,p⟩:=(show ObjOk X.prog X.w H s.heap a (.dK kvs) from I.hok a _ ea)
  obtain ⟨o,es,ep,h1,h2,_⟩:=p
  exact PySem.W.kia_one PySem.W.kitx_dict I.kIn ⟨o,h1,h2.1⟩ e (fun z=>nomatch z) h
 | @dT a kvs ea =>
  cases (show u=Value.ref a from rx)
  obtain ⟨_,_,xs,_,o,es,ep,h1,h2,_⟩:=(show ObjOk X.prog X.w H s.heap a (.dT kvs) from I.hok a _ ea)
  exact PySem.W.kia_one PySem.W.kitx_dict I.kIn ⟨o,h1,h2.1⟩ e (fun z=>nomatch z) h
 | @ins a C dx fs ea cl ha hn htk hm =>
  cases (show u=Value.ref a from rx)
  obtain ⟨mA,O,_⟩:=N0 I.hok ea
  obtain ⟨od,J,_⟩:=O.look
  exact PySem.W.kia_one (PySem.W.kitx_own (cl.get _) cl.hd ha hn htk hm) I.kIn J e (fun z=>nomatch z) h
end
structure Room (k:Nat) (A:Around):Prop where
 hd:A.handled=none
 dp:A.depth + 3 * k + 5 < recursionLimit
 un:A.units + 16 * k + 200 < cLine
theorem Room.mono {j k:Nat} {A:Around} (r:Room k A) (h:j<=k):Room j A:=⟨r.hd,by have:=r.dp; omega,by have:=r.un; omega⟩
theorem Room.deeper {k:Nat} {A:Around} (r:Room (k + 1) A) (env:Env):Room k (A.deeper env) :=
 ⟨r.hd,by have:=r.dp; show A.depth + 1 + 3 * k + 5 < _; omega,by have:=r.un; show A.units + 3 + 16 * k + 200 < _; omega⟩
theorem Room.depth {k:Nat} {A:Around} (r:Room k A):A.depth < recursionLimit:=by have:=r.dp; omega
theorem Room.units {k:Nat} {A:Around} (r:Room k A):A.units + 64 < cLine:=by have:=r.un; omega
noncomputable def PN:TA:=fun _ H Q=>Q [] H
noncomputable def NB (ta:TE) (tr:TA):TA:=fun σ H Q=>ta σ H fun x H1=>tr σ H1 fun xs H2=>Q (x :: xs) H2
section
variable {X:Cx} {e:Expr} {es:List Expr} {te:TE} {t:TA} {pos:Pos}
theorem Er:PA X [] PN:=fun _ _ _ _ H Q I h=>Calls.spliced_nil ⟨[],H,I,.nil,h⟩
theorem Cr (ha:PE X e te) (hr:PA X es t) (hs:starEach (e :: es) X.env=(false,eval e X.env) :: starEach es X.env:=by rfl):PA X (e :: es) (NB te t):=by
 intro pos pins s σ H Q I h
 rw [hs]
 show wpAny _ _ (spliced ((false,eval e X.env) :: backTo pos (starEach es X.env))) _ _ s
 refine Calls.spliced_cons (thn (ha pins s σ H _ I h) fun u s1 ⟨x,H1,I1,r1,q1⟩=>?_)
 exact thn (hr pos pins s1 σ H1 _ I1 q1) fun us s2 ⟨xs,H2,I2,r2,q2⟩=>⟨x :: xs,H2,I2,.cons r1 r2,q2⟩
noncomputable def So (t:TA):TE:=fun σ H Q=>t σ H fun xs H1=>xs.length<=sizeLine/\∀ p,H1 p=none->Q (.ref p) (upd H1 p (.tup xs))
noncomputable def Sq (t:TA):TE:=fun σ H Q=>t σ H fun xs H1=>xs.length<=sizeLine/\∀ p,H1 p=none->Q (.ref p) (upd H1 p (.lst xs))
theorem K4 {x1} (h:PA X es t):PE X (.Tuple es x1 pos) (So t):=by
 intro pins s σ H Q I hq
 refine wpAny_Tuple_spliced (thn (h pos pins s σ H _ I hq) fun us s1 ⟨xs,H1,I1,r,z,q⟩=>⟨by rw [<- r.length]; exact z,?_⟩)
 have hf:H1 s1.heap.objs.size=none:=I1.hok.fresh (aao _)
 refine ⟨.ref s1.heap.objs.size,upd H1 s1.heap.objs.size (.tup xs),I1.laid (t':=s1.toks) (fun b u e=>Heap.get?_push_of_some _ e) (aao _) ?_,rfl,q _ hf⟩
 exact ⟨z,us,r,⟨_,Heap.get?_push_size _ rfl,rfl,_,rfl⟩⟩
theorem PP (h:PA X es t):PE X (.List es pos) (Sq t):=by
 intro pins s σ H Q I hq
 refine wpAny_List_spliced (thn (h pos pins s σ H _ I hq) fun us s1 ⟨xs,H1,I1,r,z,q⟩=>⟨by rw [<- r.length]; exact z,?_⟩)
 have hf:H1 s1.heap.objs.size=none:=I1.hok.fresh (aao _)
 refine ⟨.ref s1.heap.objs.size,upd H1 s1.heap.objs.size (.lst xs),I1.laid (t':=s1.toks) (fun b u e=>Heap.get?_push_of_some _ e) (aao _) ?_,rfl,q _ hf⟩
 exact ⟨z,us,0,r,Heap.get?_push_size _ rfl⟩
end
noncomputable abbrev Sp:=List V->Hp->VK->XK->Prop
noncomputable abbrev CXT:=List Env->Hp->Shared->XK->Value->Shared->Prop
structure Env0 (P:Program) (w:World) (K:PySem.W.Frag) (mg:Str->Option Value) (base:Heap) (A:Around) (outer:List Env) (s:Shared) (H:Hp):Prop where
 frames:A.frames=some outer
 mod:Mod K mg base
 bs:∀ b o,base.get? b=some o->s.heap.get? b=some o/\H b=none
 bsz:base.objs.size<=s.heap.objs.size
 funs:s.heap.FunFrames base outer
 frf:∀ b ∈ frs outer,H b=none
 hok:HOk P w H s.heap
 bare:AllBare s.gens
noncomputable def CE (outer:List Env) (P:Program) (w:World) (H:Hp) (s:Shared) (Q:VK) (u:Value) (s':Shared):Prop :=
 ∃ v H',s'.os=s.os/\AllBare s'.gens/\Un (frs outer) [] H H' s.heap s'.heap/\HOk P w H' s'.heap/\RelV v u/\Q v H'
noncomputable def CR (CX:CXT) (outer:List Env) (P:Program) (w:World) (H:Hp) (s:Shared) (Q:VK) (E:XK) (r:Result) (s':Shared):Prop :=
 match r with
 | .ok (.ret u)=>CE outer P w H s Q u s'
 | .ok _=>False
 | .error e=>CX outer H s E e s'
structure FnOk (P:Program) (w:World) (K:PySem.W.Frag) (mg:Str->Option Value) (base:Heap) (CX:CXT) (k:Nat) (f:Addr) (fd:FuncData) (ps:List Str) (sp:Sp):Prop where
 len:∀ vs H Q E,sp vs H Q E->vs.length=ps.length
 run:∀ (A:Around) (outer:List Env) (s:Shared) (H:Hp) (args:Args) (us:List Value) (vs:List V) (Q:VK) (E:XK),Room k A->Env0 P w K mg base A outer s H->BindsTo s fd args (ps.zip us)->Vals vs us->sp vs H Q E ->
  codeAny (model P w) A (.call (.ref f) args) (CR CX outer P w H s Q E) s
theorem FnOk.imp {P:Program} {w:World} {K:PySem.W.Frag} {mg:Str->Option Value} {base:Heap} {CX:CXT} {k:Nat} {f:Addr} {fd:FuncData} {ps:List Str} {sp sp':Sp} (F:FnOk P w K mg base CX k f fd ps sp)
  (h:∀ vs H Q E,sp' vs H Q E->sp vs H Q E):FnOk P w K mg base CX k f fd ps sp' :=
 ⟨fun vs H Q E q=>F.len vs H Q E (h _ _ _ _ q),fun A outer s H args us vs Q E hr he hb hv hs=>F.run A outer s H args us vs Q E hr he hb hv (h _ _ _ _ hs)⟩
section
variable {X:Cx} {pins:List (Addr × Obj)} {σ:St} {H:Hp} {s s':Shared}
theorem Inv.env0 (I:Inv X pins σ H s):Env0 X.prog X.w X.K X.mg X.base X.A X.stack s H :=
 ⟨I.ok.frames,I.ok.mod,I.bs,aay I.ok.bsz I.sz,I.stack,I.stkFree,I.hok,I.bare⟩
theorem Inv.after {Q:VK} {u:Value} (I:Inv X pins σ H s) (h:CE X.stack X.prog X.w H s Q u s'):EP X pins σ Q u s':=by
 obtain ⟨v,H',os,bare,un,hok,r,q⟩:=h
 obtain ⟨hh,g,d,t,os'⟩:=s'
 obtain rfl:os'=s.os:=os
 exact ⟨v,H',I.call (h':=hh) (g':=g) (d':=d) (t':=t) (ch:=[]) un hok bare (fun b z=>absurd z (by simp)),r,q⟩
end
noncomputable def Binds (K:PySem.W.Frag) (fd:FuncData) (ps:List Str) (ds:List Value):Prop :=
 ∀ (s:Shared) (us:List Value),K.In s.heap->(us ++ ds).length=ps.length->BindsTo s fd ⟨us,[]⟩ (ps.zip (us ++ ds))
theorem Binds.all {K:PySem.W.Frag} {fd:FuncData} {ps:List Str} (h:∀ us:List Value,us.length=ps.length->bindArgs fd ⟨us,[]⟩=pure (ps.zip us)):Binds K fd ps []:=fun s us _ hl=>by
 rw [aaU] at hl ⊢
 exact .of_eq (h us hl)
noncomputable def PQ (CX:CXT) (X:Cx) (E:XK):Prop:=∀ (pins:List (Addr × Obj)) (σ:St) (H:Hp) (s:Shared) (e:Value) (s':Shared),Inv X pins σ H s->CX X.stack H s E e s'->X.xe e s'
structure FnScope (N P:List Str) (sc:Scope):Prop where
 kind:sc.kind=.function
 co:sc.isCoroutine=false
 gen:sc.isGenerator=false
 nd:N.Nodup
 pre:N.take P.length=P
 par:∀ x ∈ P,sc.names.lookup x=some .local\/sc.names.lookup x=some .cell
 nofree:∀ y ∈ sc.names,y.2 ≠ .free
theorem G4 {kindOf:Str->Option NameKind} {x:Str}:∀ {binds:List (Str × Value)} {m:Str->Option Value},(∀ v,(x,v) ∉ binds)->bindL kindOf binds m x=m x
 | [],_,_=>rfl
 | (n,v) :: r,m,h=>by
  unfold bindL
  rw [G4 fun w hw=>h w (aaa _ hw)]
  split
  ·have:x ≠ n:=by rintro rfl; exact h v aac
   simp [this]
  ·rfl
theorem G5 {kindOf:Str->Option NameKind} {x:Str}:∀ {binds:List (Str × Value)} {m:Str->Option Value},(∀ v,(x,v) ∉ binds)->bindC kindOf binds m x=m x
 | [],_,_=>rfl
 | (n,v) :: r,m,h=>by
  unfold bindC
  rw [G5 fun w hw=>h w (aaa _ hw)]
  split
  ·rfl
  ·have:x ≠ n:=by rintro rfl; exact h v aac
   simp [this]
theorem G6 {kindOf:Str->Option NameKind} {x:Str} {v:Value}:∀ {P:List Str} {vs:List Value} {i:Nat} {m:Str->Option Value},P.Nodup->P[i]?=some x->vs[i]?=some v->kindOf x=some .local ->
  bindL kindOf (P.zip vs) m x=some v
 | [],_,_,_,_,h,_,_=>by simp at h
 | _ :: _,[],_,_,_,_,h,_=>by simp at h
 | p :: P,w :: vs,0,m,nd,h1,h2,hk=>by
  simp at h1 h2; subst h1; subst h2
  show bindL kindOf ((p,w) :: P.zip vs) m p=_
  unfold bindL
  rw [G4 fun v hv=>(aav.mp nd).1 (acb hv).1,if_pos hk]
  simp
 | p :: P,w :: vs,i + 1,m,nd,h1,h2,hk=>by
  show bindL kindOf ((p,w) :: P.zip vs) m x=_
  unfold bindL
  exact G6 (i:=i) (aav.mp nd).2 (by simpa using h1) (by simpa using h2) hk
theorem G7 {kindOf:Str->Option NameKind} {x:Str} {v:Value}:∀ {P:List Str} {vs:List Value} {i:Nat} {m:Str->Option Value},P.Nodup->P[i]?=some x->vs[i]?=some v->kindOf x ≠ some .local ->
  bindC kindOf (P.zip vs) m x=some v
 | [],_,_,_,_,h,_,_=>by simp at h
 | _ :: _,[],_,_,_,_,h,_=>by simp at h
 | p :: P,w :: vs,0,m,nd,h1,h2,hk=>by
  simp at h1 h2; subst h1; subst h2
  show bindC kindOf ((p,w) :: P.zip vs) m p=_
  unfold bindC
  rw [G5 fun v hv=>(aav.mp nd).1 (acb hv).1,if_neg hk]
  simp
 | p :: P,w :: vs,i + 1,m,nd,h1,h2,hk=>by
  show bindC kindOf ((p,w) :: P.zip vs) m x=_
  unfold bindC
  exact G7 (i:=i) (aav.mp nd).2 (by simpa using h1) (by simpa using h2) hk
noncomputable def AI (N:List Str) (vs:List V):St:=vs.map some ++ aam (N.length - vs.length) none
noncomputable def BF (CX:CXT) (P:Program) (w:World) (K:PySem.W.Frag) (mg:Str->Option Value) (base:Heap) (N:List Str) (qual:Str) (scope:Scope) (f:Addr) (cd:Value) (A:Around) (outer:List Env) (s:Shared) (H:Hp) (E:XK):Cx where
 prog:=P
 w:=w
 K:=K
 mg:=mg
 base:=base
 A:=A.deeper (envOfC qual scope s.heap.objs.size f cd)
 N:=N
 s₀:=s
 H₀:=H
 env:=envOfC qual scope s.heap.objs.size f cd
 outer:=outer
 stack:=envOfC qual scope s.heap.objs.size f cd :: outer
 ex:=[]
 calm:=true
 fn:=fun _=>true
 pn:=[]
 xe:=fun e s'=>wpAny (model P w) (A.deeper (envOfC qual scope s.heap.objs.size f cd)) (leaving (envOfC qual scope s.heap.objs.size f cd) e) (fun _ s''=>CX outer H s E e s'') (fun e' s''=>CX outer H s E e' s'') s'
theorem HC {sc:Scope} {n:Nat} {x:Str} (h:sc.names.lookup x=some .cell):∃ c,(cellsFrom n sc.names []).lookup x=some c:=by
 have q:=PySem.W.cellsFrom_some sc.names n [] (.inl h)
 exact aax.mp q
theorem K5 {CX:CXT} {P:Program} {w:World} {K:PySem.W.Frag} {mg:Str->Option Value} {base:Heap} {N ps:List Str} {qual:Str} {scope:Scope} {f:Addr} {cd:Value} {A:Around} {outer:List Env} {s s1:Shared} {H:Hp} {E:XK} {us:List Value} {vs:List V}
  (S:FnScope N ps scope) (hd:A.handled=none) (e0:Env0 P w K mg base A outer s H) (hl:vs.length=ps.length) (r:Vals vs us)
  (x:InCallC s s.heap.objs.size (bindL (envOfC qual scope s.heap.objs.size f cd).kindOf (ps.zip us) fun _=>none) (cellsFrom (s.heap.objs.size + 1) scope.names []) (bindC (envOfC qual scope s.heap.objs.size f cd).kindOf (ps.zip us) fun _=>none) s1) :
  Inv (BF CX P w K mg base N qual scope f cd A outer s H E) [] (AI N vs) H s1:=by
 have hpl:ps.length<=N.length:=by have:=congrArg aaQ S.pre; rw [abg] at this; omega
 obtain ⟨h1,tk,rfl,hk⟩:=x.done
 have noA:∀ b:Addr,b ∉ (BF CX P w K mg base N qual scope f cd A outer s H E).ex:=fun b z=>absurd (show b ∈ ([]:List Addr) from z) (by simp)
 refine ⟨⟨e0.mod,S.kind,rfl,rfl,aao _,fun y z c h1 h2=>?_,fun y hy=>?_,fun y c _ h=>?_,fun _=>hd,Around.frames_deeper e0.frames,.inr ⟨rfl,rfl⟩,fun b z=>absurd z (noA b),e0.bs,e0.bsz,fun b _ _=>noA b,fun b z=>absurd z (noA b),e0.funs,e0.frf⟩,
  rfl,e0.bare,Un.kept hk,⟨_,x.toInCall.ns,fun i y v h1 h2 h3=>?_⟩,fun y c h=>⟨_,x.cell y c h⟩,e0.hok.fresh (aao _),fun y c h=>?_,fun p hp=>absurd (show p ∈ ([]:List (Addr × Obj)) from hp) (by simp),e0.hok.kept hk,?_⟩
 ·exact name_of_addr x.apart (PySem.mem_of_lookup h1) (PySem.mem_of_lookup h2)
 ·have hy:scope.names.lookup y=some .cell\/scope.names.lookup y=some .free:=hy
  rcases hy with hy | hy
  ·exact HC hy
  ·exact absurd rfl (S.nofree _ (PySem.mem_of_lookup hy))
 ·exact aaO (x.above y c (PySem.mem_of_lookup h))
 ·have hi:i < vs.length:=by
   unfold AI at h2
   by_cases hi:i < vs.length
   ·exact hi
   ·rw [aaH (by simpa using hi)] at h2
    rw [aaT] at h2
    split at h2 <;> cases h2
  have ha:vs[i]?=some v:=by
   unfold AI at h2
   rw [aaP (by simpa using hi),aal] at h2
   cases e:vs[i]? with
   | none=>rw [e] at h2; cases h2
   | some a=>rw [e] at h2; cases h2; rfl
  obtain ⟨u,hu,rv⟩:=r.get ha
  have hp:ps[i]?=some y:=by
   rw [<- S.pre,List.getElem?_take_of_lt (by omega)]; exact h1
  have ndP:ps.Nodup:=by rw [<- S.pre]; exact S.nd.sublist (List.take_sublist _ _)
  refine ⟨u,rv,?_⟩
  rcases S.par y (aaf hp) with k | k
  ·exact .inl ⟨k,G6 ndP hp hu k⟩
  ·obtain ⟨c,e⟩:=HC (n:=s.heap.objs.size + 1) k
   refine .inr ⟨.inl k,c,e,?_⟩
   have q:=x.cell y c e
   rw [G7 ndP hp hu (by show scope.names.lookup y ≠ _; rw [k]; decide)] at q
   exact q
 ·exact e0.hok.fresh (aaO (x.above y c (PySem.mem_of_lookup h)))
 ·unfold AI
  show _=N.length
  rw [aaD,aab,aa1]
  omega
theorem Rn {CX:CXT} {P:Program} {w:World} {K:PySem.W.Frag} {mg:Str->Option Value} {base:Heap} {k:Nat} {f:Addr} {name qual:Str} {params:Arguments} {body:List Stmt} {scope:Scope} {dV kV doc pm cdv ct oc:Value} {an od:Option Addr}
  {osl:Array (Option Value)} {N ps:List Str} {sp:Sp} (lk:K.lookup f=some ⟨oc,od,.func (PySem.W.fnOf name qual params body scope dV kV doc pm an cdv ct),osl⟩) (hcd:PySem.W.codeIn K cdv qual=true) (S:FnScope N ps scope)
  (len:∀ vs H Q E,sp vs H Q E->vs.length=ps.length)
  (hbody:∀ (A:Around) (outer:List Env) (s:Shared) (H:Hp) (vs:List V) (Q:VK) (E:XK),Room k (A.deeper (envOfC qual scope s.heap.objs.size f cdv))->sp vs H Q E ->
   ∃ t,PSs (BF CX P w K mg base N qual scope f cdv A outer s H E) body t/\t { nx:=fun _ H'=>Q .non H',rt:=Q } (AI N vs) H) :
  FnOk P w K mg base CX (k + 1) f (PySem.W.fnOf name qual params body scope dV kV doc pm an cdv ct) ps sp:=by
 refine ⟨len,fun A outer s H args us vs Q E hr e0 hb r hsp=>?_⟩
 have hl:=len _ _ _ _ hsp
 have KX:K.In s.heap:=e0.mod.kin.keeps fun b o e=>(e0.bs b o e).1
 have lim:s.heap.NoLimit:=e0.mod.nolimit.keeps fun b o e=>(e0.bs b o e).1
 have hkind:∀ y ∈ ps.zip us,scope.names.lookup y.1=some .local\/(scope.names.lookup y.1=some .cell/\((cellsFrom (s.heap.objs.size + 1) scope.names []).lookup y.1).isSome=true):=fun ⟨n,v⟩ hy=>by
  rcases S.par n (acb hy).1 with q | q
  ·exact .inl q
  ·exact .inr ⟨q,PySem.W.cellsFrom_some _ _ _ (.inl q)⟩
 refine codeAny_call_function hr.depth (KX _ _ lk) rfl S.co S.gen rfl (PySem.W.codeRec_of KX hcd) (hb _ _ _ _ ?_)
 refine wpAny_newFunctionEnv_cells S.kind hkind fun env he s1 x=>?_
 subst he
 refine ⟨lim.keeps x.toInCall.keep,codeAny_func ?_⟩
 obtain ⟨t,ht,hq⟩:=hbody A outer s H vs Q E (hr.deeper _) hsp
 have I:Inv (BF CX P w K mg base N qual scope f cdv A outer s H E) [] (AI N vs) H s1:=K5 S hr.hd e0 hl r x
 refine wpAny_mono (ht [] s1 (AI N vs) H _ I hq) (fun fl s' hs=>?_) fun e s' hs=>hs
 have fin:∀ {σ':St} {H':Hp} {v:V} {u:Value},Inv (BF CX P w K mg base N qual scope f cdv A outer s H E) [] σ' H' s'->RelV v u->Q v H'->CE outer P w H s Q u s' :=
  fun {σ' H' v u} J rv q=>⟨v,H',J.os,J.bare,J.base,J.hok,rv,q⟩
 cases fl with
 | ret u =>
  obtain ⟨v,σ',H',J,rv,q⟩:=hs
  exact fin J rv q
 | next =>
  obtain ⟨σ',H',J,q⟩:=hs
  exact fin (v:=V.non) (u:=Value.none) J rfl q
 | brk =>
  obtain ⟨_,_,_,q⟩:=hs
  exact False.elim q
 | cont =>
  obtain ⟨_,_,_,q⟩:=hs
  exact False.elim q
section
variable {X:Cx} {x:Str} {p pos:Pos} {e:Expr} {es:List Expr} {t:TA} {id T:String} {r:List V->Hp->VK->Prop}
noncomputable def tCB (r:List V->Hp->VK->Prop) (t:TA):TE:=fun σ H Q=>t σ H fun vs H1=>r vs H1 Q
theorem CS (hc:CA X (.builtin id) r) (hg:Gl X x) (hm:X.mg x=none) (hv:bootBuiltins x=some (.builtin id)) (ha:PA X (e :: es) t) (hn:x ≠ "__name__" := by decide) (hdb:(x==("__debug__" : Str))=false:=by decide)
  (he:starEach (e :: es) X.env=(false,eval e X.env) :: starEach es X.env:=by rfl) (hpl:(backTo pos (starEach es X.env)).any (·.1)=false:=by rfl):PE X (.Call (.Name x p) (e :: es) [] pos) (tCB r t):=by
 intro pins s σ H Q I h
 refine wpAny_Call_Name_kw (Gc I hg hm hv ?_ hn hdb)
 exact PyProof.Rows.callWith_builtin1 (thn (ha pos pins s σ H _ I h) fun us s1 ⟨vs,H1,I1,r1,q1⟩=>hc pins s1 σ H1 vs us Q I1 r1 q1) he hpl
theorem D3 (hc:CA X (.type T) r) (hg:Gl X x) (hm:X.mg x=none) (hv:bootBuiltins x=some (.type T)) (ha:PA X (e :: es) t) (hn:x ≠ "__name__" := by decide) (hdb:(x==("__debug__" : Str))=false:=by decide)
  (he:starEach (e :: es) X.env=(false,eval e X.env) :: starEach es X.env:=by rfl) (hpl:(backTo pos (starEach es X.env)).any (·.1)=false:=by rfl):PE X (.Call (.Name x p) (e :: es) [] pos) (tCB r t):=by
 intro pins s σ H Q I h
 refine wpAny_Call_Name_kw (Gc I hg hm hv ?_ hn hdb)
 exact PyProof.Rows.callWith_type1 (thn (ha pos pins s σ H _ I h) fun us s1 ⟨vs,H1,I1,r1,q1⟩=>hc pins s1 σ H1 vs us Q I1 r1 q1) he hpl
end
end L2
namespace HT
open PySem PyProof.Rows
section
variable {prog:Program} {w:World} {A:Around} {E:Value->Shared->Prop} {s:Shared}
noncomputable def sIx (n d:Nat):Option Int->Nat
 | none=>d
 | some v=>if v < 0 then (v + (n:Int)).toNat else min v.toNat n
theorem PR (n d:Nat) (hd:d<=n) (o:Option Int):sIx n d o<=n:=by
 cases o with
 | none=>exact hd
 | some v =>
  show (if v < 0 then (v + (n:Int)).toNat else min v.toNat n)<=n
  by_cases hv:v < 0
  ·rw [if_pos hv]; omega
  ·rw [if_neg hv]; exact abz _ _
theorem clip_eq (v:Int) (n d:Nat):(if v < 0 then max (v + (n:Int)) 0 else min v (n:Int))=((sIx n d (some v):Nat):Int):=by
 show (if v < 0 then max (v + (n:Int)) 0 else min v (n:Int))=(((if v < 0 then (v + (n:Int)).toNat else min v.toNat n):Nat):Int)
 by_cases hv:v < 0
 ·simp only [if_pos hv]; omega
 ·simp only [if_neg hv]; omega
theorem JR (lo hi:Option Int) (n:Nat):Builtin.Slice.sliceAdjust lo hi 1 (n:Int)=(((sIx n 0 lo:Nat):Int),((sIx n n hi:Nat):Int)):=by
 have h1:¬ ((1:Int) < 0):=by omega
 unfold Builtin.Slice.sliceAdjust
 simp only [h1,if_false]
 refine Prod.ext ?_ ?_
 ·cases lo with
  | none=>rfl
  | some v=>exact clip_eq v n 0
 ·cases hi with
  | none=>rfl
  | some v=>exact clip_eq v n n
theorem JS (i j:Nat):Builtin.Slice.slicePlaces (i:Int) (j:Int) 1=j - i:=by
 unfold Builtin.Slice.slicePlaces
 have h1:(1:Int) > 0:=by omega
 simp only [h1,if_true,Int.ediv_one]
 split <;> omega
theorem Ge {v:Value} {o:Option Int} {Q:Option Int->Shared->Prop} (p:IsPart v o) (h:Q o s):wpAny (model prog w) A (Builtin.Slice.slicePartIndex v) Q E s:=by
 cases p with
 | none=>exact slicePart_none h
 | int i t=>exact slicePart_int h
theorem FT {sl:Addr} {vl vu:Value} {lo hi:Option Int} {n:Nat} {Q:Int × Int × Nat->Shared->Prop} (hs:s.heap.IsSliceOf sl vl vu .none) (pl:IsPart vl lo) (pu:IsPart vu hi)
  (h:Q (((sIx n 0 lo:Nat):Int),1,sIx n n hi - sIx n 0 lo) s):wpAny (model prog w) A (Builtin.Slice.sliceApplied (.ref sl) (pure (n:Int))) Q E s:=by
 obtain ⟨os,hos,hcs,hds⟩:=id hs
 unfold Builtin.Slice.sliceApplied Builtin.Slice.sliceFields
 refine wpAny_bind (wpAny_bind (wpAny_field hos hds (x:=vl) rfl (wpAny_bind (wpAny_field hos hds (x:=vu) rfl (wpAny_bind (wpAny_field hos hds (x:=.none) rfl (wpAny_pure ?_)))))))
 refine wpAny_bind (slicePart_none ?_)
 show wpAny _ _ (if ((1:Int)==0)=true then _ else _) _ _ s
 rw [if_neg (by decide)]
 refine wpAny_bind (Ge pl (wpAny_bind (Ge pu (wpAny_bind (wpAny_pure ?_)))))
 show wpAny _ _ (match Builtin.Slice.sliceAdjust lo hi 1 (n:Int) with | (lo,hi)=>pure (lo,(1:Int),Builtin.Slice.slicePlaces lo hi 1)) _ _ s
 rw [JR lo hi n]
 show wpAny _ _ (pure (((sIx n 0 lo:Nat):Int),(1:Int),Builtin.Slice.slicePlaces ((sIx n 0 lo:Nat):Int) ((sIx n n hi:Nat):Int) 1)) _ _ s
 rw [JS]
 exact wpAny_pure h
theorem Mx (xs:Array Value) (i k:Nat):((aaE k).filterMap fun (m:Nat)=>xs[((i:Int) + (m:Int) * 1).toNat]?).toArray=((xs.toList.drop i).take k).toArray:=by
 have e:(fun (m:Nat)=>xs[((i:Int) + (m:Int) * 1).toNat]?)=fun m=>xs[i + m]?:=by
  funext m
  have:((i:Int) + (m:Int) * 1).toNat=i + m:=by omega
  rw [this]
 rw [e]
 have:=pick_run xs i k
 rw [List.filterMap_map] at this
 have e2:((fun x=>xs[x]?) ∘ fun x=>i + x)=fun m=>xs[i + m]?:=rfl
 rw [e2] at this
 rw [this]
theorem getItem_tuple_cut {t sl:Addr} {items:Array Value} {vl vu:Value} {lo hi:Option Int} {Q:Value->Shared->Prop} (ht:IsTup s.heap t items) (hs:s.heap.IsSliceOf sl vl vu .none) (pl:IsPart vl lo) (pu:IsPart vu hi)
  (hw:¬ (sIx items.size 0 lo=0/\sIx items.size items.size hi=items.size))
  (h:Q (.ref s.heap.objs.size) { s with heap:=s.heap.push { cls:=.type "tuple",data:=.seq ((items.toList.drop (sIx items.size 0 lo)).take (sIx items.size items.size hi - sIx items.size 0 lo)).toArray } })
  (hsz:items.size<=sizeLine):wpAny (model prog w) A (getItem (.ref t) (.ref sl)) Q E s:=by
 have htake:sizeOk (.seq ((items.toList.drop (sIx items.size 0 lo)).take (sIx items.size items.size hi - sIx items.size 0 lo)).toArray):=by
  show ((items.toList.drop (sIx items.size 0 lo)).take (sIx items.size items.size hi - sIx items.size 0 lo)).toArray.size<=sizeLine
  rw [aak,abg,abh,Array.length_toList]
  omega
 have hj:sIx items.size items.size hi<=items.size:=PR _ _ (aao _) hi
 obtain ⟨os,hos,hcs,hds⟩:=id hs
 have hTs:s.TypeIs (.ref sl) "slice" := ⟨os,hos,hcs⟩
 unfold getItem
 try with_reducible refine wpAny_holding ?_
 first | refine wpAny_bind (wpAny_pure ?_) | skip
 refine wpAny_bind (wpAny_sequenceKey ht.typeIs (by decide) ?_)
 refine wpAny_bind (wpAny_callSpecial?_slot (name:=Str.ofString "__getitem__") ht.typeIs PyProof.Rows.slot_tuple_getitem
  (wpAny_call_entry PyProof.Rows.slot_tuple_getitem ht.typeIs entry_tuple_getitem ?_ (args_tuple_getitem _ _)))
 show wpAny _ _ (Builtin.Tuple.tupleItemsOf (.ref t) >>= _) _ _ s
 refine wpAny_bind (tupleItemsOf_ ht ?_)
 refine wpAny_bind (wpAny_typeOf hTs ?_)
 rw [if_pos (by decide)]
 refine wpAny_bind (FT hs pl pu ?_)
 have hno:¬ ((((sIx items.size 0 lo:Nat):Int)==0 && (1:Int)==1 && (sIx items.size items.size hi - sIx items.size 0 lo)==items.size)=true):=by
  intro q
  rw [aaj,aaj] at q
  have q1:((sIx items.size 0 lo:Nat):Int)=0:=eq_of_beq q.1.1
  have q2:sIx items.size items.size hi - sIx items.size 0 lo=items.size:=eq_of_beq q.2
  exact hw ⟨by omega,by omega⟩
 show wpAny _ _ (if (((sIx items.size 0 lo:Nat):Int)==0 && (1:Int)==1 && (sIx items.size items.size hi - sIx items.size 0 lo)==items.size)=true then _ else _) _ _ s
 rw [if_neg hno,Mx]
 first
  | exact wpAny_bind (m:=Builtin.Tuple.tupleExact _) (wpAny_newObj_type (wpAny_pure ⟨_,rfl,wpAny_pure h⟩) htake)
  | exact wpAny_bind (m:=Builtin.Tuple.tupleExact _) (wpAny_newObj_type (wpAny_bind (wpAny_pure (wpAny_pure ⟨_,rfl,wpAny_pure h⟩))) htake)
  | exact wpAny_bind (wpAny_bind (m:=Builtin.Tuple.tupleExact _) (wpAny_newObj_type (wpAny_pure (wpAny_pure ⟨_,rfl,wpAny_pure h⟩)) htake))
  | exact wpAny_bind (wpAny_bind (m:=Builtin.Tuple.tupleExact _) (wpAny_newObj_type (wpAny_pure ⟨_,rfl,wpAny_pure h⟩) htake))
end
end HT
namespace L2
open PySem PySem.Spec PyProof.Rows
noncomputable abbrev TO:=St->Hp->(Option Int->Hp->Prop)->Prop
noncomputable def PO (X:Cx) (e:Option Expr) (t:TO):Prop :=
 ∀ (pins:List (Addr × Obj)) (s:Shared) (σ:St) (H:Hp) (Q:Option Int->Hp->Prop),Inv X pins σ H s->t σ H Q ->
  wpAny (model X.prog X.w) X.A (evalPart e X.env) (fun u s'=>∃ o H',Inv X pins σ H' s'/\IsPart u o/\Q o H') X.xe s
noncomputable def N1:TO:=fun _ H Q=>Q none H
noncomputable def Ro (t:TE):TO:=fun σ H Q=>t σ H fun x H1=>∃ i,x=.int i/\Q (some i) H1
theorem JT {ns:List Int}:∀ {us:List Value},Vals (ns.map V.int) us->IntsAre us ns:=by
 induction ns with
 | nil=>intro us r; rw [abE] at r; cases r; exact .nil
 | cons n ns ih =>
  intro us r
  rw [aaA] at r
  cases r with
  | cons r1 r2 =>
   obtain ⟨t,e⟩:=r1
   subst e
   exact .cons n t (ih r2)
section
variable {X:Cx} {e:Expr} {te:TE} {lo hi:Option Expr} {tl th:TO} {pos p2:Pos}
theorem N2:PO X none N1:=by
 intro pins s σ H Q I h
 rw [evalPart_none]
 exact wpAny_pure ⟨none,H,I,.none,h⟩
theorem N3 (h:PE X e te):PO X (some e) (Ro te):=by
 intro pins s σ H Q I hw
 rw [evalPart_some]
 refine thn (h pins s σ H _ I hw) fun u s1 ⟨x,H1,I1,r1,q1⟩=>?_
 obtain ⟨i,rfl,q⟩:=q1
 obtain ⟨t,rfl⟩:=r1
 exact ⟨some i,H1,I1,.int i t,q⟩
noncomputable def SlR (X:Cx) (r:V->Option Int->Option Int->Hp->VK->Prop):Prop :=
 ∀ (pins:List (Addr × Obj)) (s:Shared) (σ:St) (H:Hp) (x:V) (v vl vu:Value) (lo hi:Option Int) (sl:Addr) (Q:VK),Inv X pins σ H s->RelV x v->s.heap.IsSliceOf sl vl vu .none->IsPart vl lo->IsPart vu hi->r x lo hi H Q ->
  ∃ T id,typeLookup (.type T) "__getitem__" = pure (some (.builtin id))/\s.TypeIs v T/\wpAny (model X.prog X.w) X.A (getItem v (.ref sl)) (EP X pins σ Q) X.xe s
theorem SlR.or {r r':V->Option Int->Option Int->Hp->VK->Prop} (h:SlR X r) (h':SlR X r'):SlR X (fun x lo hi H Q=>r x lo hi H Q\/r' x lo hi H Q):=by
 intro pins s σ H x v vl vu lo hi sl Q I rx hs pl pu q
 rcases q with q | q
 ·exact h pins s σ H x v vl vu lo hi sl Q I rx hs pl pu q
 ·exact h' pins s σ H x v vl vu lo hi sl Q I rx hs pl pu q
noncomputable def tSl (r:V->Option Int->Option Int->Hp->VK->Prop) (te:TE) (tl th:TO):TE:=fun σ H Q=>te σ H fun x H1=>tl σ H1 fun l H2=>th σ H2 fun u H3=>r x l u H3 Q
theorem My {r:V->Option Int->Option Int->Hp->VK->Prop} (hr:SlR X r) (he:PE X e te) (hl:PO X lo tl) (hu:PO X hi th):PE X (.Subscript e (.Slice lo hi none p2) pos) (tSl r te tl th):=by
 intro pins s σ H Q I h
 refine Subscript_ (thn (he pins s σ H _ I h) fun v s1 ⟨x,H1,I1,r1,q1⟩=>?_)
 refine wpAny_Slice (thn (hl pins s1 σ H1 _ I1 q1) fun vl s2 ⟨l,H2,I2,pl,q2⟩=>thn (hu pins s2 σ H2 _ I2 q2) fun vu s3 ⟨u,H3,I3,pu,q3⟩=>?_)
 rw [evalPart_none]
 refine wpAny_pure ?_
 have I4:Inv X pins σ H3 { s3 with heap:=s3.heap.push { cls:=.type "slice",data:=.fields #[vl,vu,.none] } }:=I3.kept (t':=s3.toks) fun b ob q=>Heap.get?_push_of_some _ q
 obtain ⟨T,id,hT,ht,hg⟩:=hr pins { s3 with heap:=s3.heap.push { cls:=.type "slice",data:=.fields #[vl,vu,.none] } } σ H3 x v vl vu l u s3.heap.objs.size Q I4 r1 (Heap.IsSliceOf.new ..) pl pu q3
 show wpAny (model X.prog X.w) X.A (subscriptTail e (.Slice lo hi none p2) v (.ref s3.heap.objs.size)) (EP X pins σ Q) X.xe { s3 with heap:=s3.heap.push { cls:=.type "slice",data:=.fields #[vl,vu,.none] } }
 exact tail_any (ops:=[.ref s3.heap.objs.size,v]) ht hT hg (by with_unfolding_all rfl)
noncomputable def EW (xs:List V) (lo hi:Option Int):List V:=(xs.drop (HT.sIx xs.length 0 lo)).take (HT.sIx xs.length xs.length hi - HT.sIx xs.length 0 lo)
theorem FM (xs:List V) (lo hi:Option Int):(EW xs lo hi).length<=xs.length:=by
 unfold EW
 rw [abg,abh]
 omega
noncomputable def Sr (K:PySem.W.Frag):V->Option Int->Option Int->Hp->VK->Prop:=fun x lo hi H Q=>∃ a xs,x=.ref a/\SqT K H a xs /\
 ¬ (HT.sIx xs.length 0 lo=0/\HT.sIx xs.length xs.length hi=xs.length)/\∀ p,H p=none->Q (.ref p) (upd H p (.tup (EW xs lo hi)))
theorem PU:SlR X (Sr X.K):=by
 intro pins s σ H x v vl vu lo hi sl Q I rx hs pl pu h
 obtain ⟨a,xs,rfl,hx,hw,q⟩:=h
 cases rx
 obtain ⟨its,r,ht,hz⟩:=I.tuple hx
 have hlen:its.toArray.size=xs.length:=by rw [aak]; exact r.length.symm
 refine ⟨"tuple",_,PyProof.Rows.slot_tuple_getitem.lookup,ht.typeIs,?_⟩
 refine HT.getItem_tuple_cut ht hs pl pu (by rw [hlen]; exact hw) ?_ (by rw [hlen]; exact hz)
 rw [hlen]
 refine ⟨.ref s.heap.objs.size,_,I.laid (t':=s.toks) (o:=.tup (EW xs lo hi)) (fun b ob q=>Heap.get?_push_of_some _ q) (aao _) ?_,rfl,q _ (I.hok.fresh (aao _))⟩
 exact ⟨aay (FM xs lo hi) hz,_,(r.drop (HT.sIx xs.length 0 lo)).take (HT.sIx xs.length xs.length hi - HT.sIx xs.length 0 lo),IsTup.new _ _⟩
end
noncomputable def ixN (n:Nat) (i:Int):Option Nat:=if 0<=i then (if i < n then some i.toNat else none) else if -(n:Int)<=i then some (i + n).toNat else none
noncomputable def atI {α:Type} (xs:List α) (i:Int):Option α:=(ixN xs.length i).bind fun j=>xs[j]?
theorem GK {n:Nat} {i:Int} {j:Nat} (h:ixN n i=some j):seqIndex? i n=some j/\j < n/\-(n:Int)<=i/\i < n:=by
 unfold ixN at h
 by_cases h0:0<=i
 ·rw [if_pos h0] at h
  by_cases h1:i < n
  ·rw [if_pos h1] at h
   have e:i.toNat=j:=Option.some.inj h
   exact ⟨by rw [seqIndex_of h0 h1,e],by omega,by omega,h1⟩
  ·rw [if_neg h1] at h; cases h
 ·rw [if_neg h0] at h
  by_cases h1:-(n:Int)<=i
  ·rw [if_pos h1] at h
   have e:(i + n).toNat=j:=Option.some.inj h
   exact ⟨by rw [seqIndex_neg (by omega) h1,e],by omega,h1,by omega⟩
  ·rw [if_neg h1] at h; cases h
theorem Ja {α:Type} {xs:List α} {i:Int} {v:α} (h:atI xs i=some v):∃ j,seqIndex? i xs.length=some j/\xs[j]?=some v/\j < xs.length/\-(xs.length:Int)<=i/\i < xs.length:=by
 unfold atI at h
 cases e:ixN xs.length i with
 | none=>rw [e] at h; cases h
 | some j =>
  rw [e] at h
  obtain ⟨h1,h2,h3,h4⟩:=GK e
  exact ⟨j,h1,h,h2,h3,h4⟩
noncomputable def Jb (b:Expr):Prop:=∀ o i,subscripted b false o i=operate [o,i] (getItem o i)
noncomputable def IxR (X:Cx) (r:R2):Prop :=
 ∀ (value slice:Expr) (pins:List (Addr × Obj)) (s:Shared) (σ:St) (H:Hp) (x y:V) (v u:Value) (Q:VK),Inv X pins σ H s->RelV x v->RelV y u->r x y H Q ->
  subscripted slice false v u=operate [v,u] (getItem v u)->wpAny (model X.prog X.w) X.A (subscriptTail value slice v u) (EP X pins σ Q) X.xe s
noncomputable def MtR (X:Cx) (id:String) (r:V->List V->Hp->VK->Prop):Prop :=
 ∀ (pins:List (Addr × Obj)) (s:Shared) (σ:St) (H:Hp) (x:V) (xs:List V) (v:Value) (us:List Value) (Q:VK),Inv X pins σ H s->RelV x v->Vals xs us->r x xs H Q ->
  wpAny (model X.prog X.w) X.A (call (.builtin id) (v :: us)) (EP X pins σ Q) X.xe s
section
variable {X:Cx} {a b:Expr} {ta tb:TE} {pos:Pos}
theorem IxR.or {r r':R2} (h:IxR X r) (h':IxR X r'):IxR X (fun x y H Q=>r x y H Q\/r' x y H Q):=by
 intro value slice pins s σ H x y v u Q I rx ry q hs
 rcases q with q | q
 ·exact h value slice pins s σ H x y v u Q I rx ry q hs
 ·exact h' value slice pins s σ H x y v u Q I rx ry q hs
theorem JU {r:R2} (hr:IxR X r) (ha:PE X a ta) (hb:PE X b tb) (hs:Jb b):PE X (.Subscript a b pos) (tOp r ta tb):=by
 intro pins s σ H Q I h
 exact Subscript_ (Mq ha hb I h fun v u s2 x y H2 I2 rx ry q=>hr a b pins s2 σ H2 x y v u Q I2 rx ry q (hs _ _))
noncomputable def PV (K:PySem.W.Frag):R2:=fun x y H Q=>∃ p xs i v,x=.ref p/\y=.int i/\SqL K H p xs/\atI xs i=some v/\Q v H
noncomputable def PX (K:PySem.W.Frag):R2:=fun x y H Q=>∃ p xs i v,x=.ref p/\y=.int i/\SqT K H p xs/\atI xs i=some v/\Q v H
theorem GL:IxR X (PV X.K):=by
 intro value slice pins s σ H x y v u Q I rx ry h hs
 obtain ⟨p,xs,i,z,rfl,rfl,hq,he,q⟩:=h
 cases rx
 obtain ⟨t,rfl⟩:=ry
 obtain ⟨its,r,pl,hz⟩:=I.list hq
 obtain ⟨j,h1,h2,h3,h4,h5⟩:=Ja he
 obtain ⟨w,ew,rw'⟩:=r.get h2
 have hl:=r.length
 have hn:=EV
 have fin:EP X pins σ Q w s:=⟨z,H,I,rw',q⟩
 by_cases h0:0<=i
 ·have hj:i.toNat=j:=by
   rw [seqIndex_of h0 h5] at h1
   exact Option.some.inj h1
  exact item_listR pl.isList h0 (by omega) (by rw [hj]; simpa using ew) fin hs
 ·have hj:(i + (its.toArray.size:Int)).toNat=j:=by
   rw [seqIndex_neg (by omega) h4] at h1
   rw [aak,<- hl]
   exact Option.some.inj h1
  exact subscriptTail_builtinR (x:=w) pl.isList.typeIs slot_list_getitem.lookup
   (wpAny_getItem_list_neg (Q:=fun r s'=>r=w/\EP X pins σ Q r s') pl.isList (by omega) (by rw [aak] <;> omega) (by omega) (by rw [hj]; simpa using ew) ⟨rfl,fin⟩) hs
theorem K6:IxR X (PX X.K):=by
 intro value slice pins s σ H x y v u Q I rx ry h hs
 obtain ⟨p,xs,i,z,rfl,rfl,hq,he,q⟩:=h
 cases rx
 obtain ⟨t,rfl⟩:=ry
 obtain ⟨its,r,pl,hz⟩:=I.tuple hq
 obtain ⟨j,h1,h2,h3,h4,h5⟩:=Ja he
 obtain ⟨w,ew,rw'⟩:=r.get h2
 have hl:=r.length
 have hn:=EV
 have fin:EP X pins σ Q w s:=⟨z,H,I,rw',q⟩
 exact subscriptTail_builtinR (x:=w) pl.typeIs slot_tuple_getitem.lookup
  (getItem_tuple (j:=j) (Q:=fun r s'=>r=w/\EP X pins σ Q r s') pl (by omega) (by omega) (by rw [aak,<- hl]; exact h1) (by simpa using ew) ⟨rfl,fin⟩) hs
theorem JV (its:List Value) (n j:Nat) (u:Value):Obj.mapSeq (·.setIfInBounds j u) { cls:=.type "list",data:=.seq its.toArray n }={ cls:=.type "list",data:=.seq (its.set j u).toArray n }:=by
 simp [Obj.mapSeq]
theorem Inv.lst {pins:List (Addr × Obj)} {σ:St} {H:Hp} {s:Shared} {p:Addr} {xs:List V} (I:Inv X pins σ H s) (h:H p=some (.lst xs)) :
  ∃ (its:List Value) (n:Nat),Vals xs its/\s.heap.get? p=some { cls:=.type "list",data:=.seq its.toArray n }/\xs.length<=sizeLine:=by
 obtain ⟨z,its,n,r,e⟩:=I.hok p _ h
 exact ⟨its,n,r,e,z⟩
theorem Inv.lstUpd {pins:List (Addr × Obj)} {σ:St} {H:Hp} {s:Shared} {p:Addr} {xs ys:List V} {its its':List Value} {n n':Nat} {f:Obj->Obj} (I:Inv X pins σ H s) (h:H p=some (.lst xs))
  (ho:s.heap.get? p=some { cls:=.type "list",data:=.seq its.toArray n }) (hf:f { cls:=.type "list",data:=.seq its.toArray n }={ cls:=.type "list",data:=.seq its'.toArray n' }) (r:Vals ys its') (hz:ys.length<=sizeLine) (t:Nat) :
  Inv X pins σ (upd H p (.lst ys)) { s with heap:=s.heap.update p f,toks:=t }:=by
 have e:(s.heap.update p f).get? p=some { cls:=.type "list",data:=.seq its'.toArray n' }:=by
  rw [Heap.get?_update_self f ho (by rw [hf] <;> rfl),hf]
 refine I.write (x:=p) (e:=p) (by rw [h]; trivial) (.inl rfl) (fun b u hb q=>(Heap.get?_update_other _ _ (Ne.symm hb)).trans q) ⟨_,e⟩ ?_
 exact ⟨hz,its',n',r,e⟩
noncomputable def Gf:V->V->V->Hp->(Hp->Prop)->Prop:=fun o i v H Q=>∃ p xs k j,o=.ref p/\i=.int k/\H p=some (.lst xs)/\ixN xs.length k=some j/\Q (upd H p (.lst (xs.set j v)))
theorem HD:Pt X Gf:=by
 intro pins s σ H o i v ov iv u Q I ro ri rv h
 obtain ⟨p,xs,k,j,rfl,rfl,hp,hj,q⟩:=h
 cases ro
 obtain ⟨t,rfl⟩:=ri
 obtain ⟨its,n,r,ho,hz⟩:=I.lst hp
 obtain ⟨h1,h2,h3,h4⟩:=GK hj
 have hl:=r.length
 have hn:=EV
 have I':Inv X pins σ (upd H p (.lst (xs.set j v))) { s with heap:=s.heap.update p (Obj.mapSeq (·.setIfInBounds j u)) } :=
  I.lstUpd hp ho (JV its n j u) (r.set rv j) (by rw [aaF]; exact hz) s.toks
 by_cases h0:0<=k
 ·have hk:k.toNat=j:=by
   rw [seqIndex_of h0 h4] at h1
   exact Option.some.inj h1
  exact PySem.W.ki_setAt ho h0 (by omega) (by rw [aak,<- hl]; exact h4) (by rw [hk]; exact ⟨_,I',q⟩)
 ·have hk:(k + (its.toArray.size:Int)).toNat=j:=by
   rw [seqIndex_neg (by omega) h3] at h1
   rw [aak,<- hl]
   exact Option.some.inj h1
  exact PySem.W.ki_setBack ho (by omega) (by rw [aak,<- hl]; exact h3) (by omega) (by rw [hk]; exact ⟨_,I',q⟩)
theorem HE (lo hi:Option Int) (n:Nat):(sliceBounds lo hi none n).1=((HT.sIx n 0 lo:Nat):Int)/\(sliceBounds lo hi none n).2.1=((HT.sIx n n hi:Nat):Int)/\(sliceBounds lo hi none n).2.2=1:=by
 refine ⟨?_,?_,rfl⟩
 ·cases lo with
  | none=>simp [sliceBounds,HT.sIx]
  | some i =>
   simp only [sliceBounds,HT.sIx,acy,show (1:Int) > 0 by decide,if_true]
   by_cases h:i < 0
   ·simp only [h,if_true] <;> omega
   ·simp only [h,if_false] <;> omega
 ·cases hi with
  | none=>simp [sliceBounds,HT.sIx]
  | some i =>
   simp only [sliceBounds,HT.sIx,acy,show (1:Int) > 0 by decide,if_true]
   by_cases h:i < 0
   ·simp only [h,if_true] <;> omega
   ·simp only [h,if_false] <;> omega
theorem Hl (its:List Value) (lo hi:Option Int):slicePick its.toArray lo hi none=((its.drop (HT.sIx its.length 0 lo)).take (HT.sIx its.length its.length hi - HT.sIx its.length 0 lo)).toArray:=by
 obtain ⟨h1,h2,h3⟩:=HE lo hi its.toArray.size
 unfold slicePick
 rw [h1,h2,h3]
 simp only [sliceRange_one,pick_run,aak] <;> rfl
noncomputable def Su (K:PySem.W.Frag):V->Option Int->Option Int->Hp->VK->Prop:=fun x lo hi H Q=>∃ a xs,x=.ref a/\SqL K H a xs/\∀ p,H p=none->Q (.ref p) (upd H p (.lst (EW xs lo hi)))
theorem N4:SlR X (Su X.K):=by
 intro pins s σ H x v vl vu lo hi sl Q I rx hs pl pu h
 obtain ⟨a,xs,rfl,hx,q⟩:=h
 cases rx
 obtain ⟨its,r,ht,hz⟩:=I.list hx
 have hlen:=r.length
 refine ⟨"list",_,slot_list_getitem.lookup,ht.isList.typeIs,?_⟩
 refine wpAny_getItem_list_slice ht.isList hs pl pu .none (by simp) ?_ (by rw [aak] <;> omega)
 rw [Hl,<- hlen]
 refine ⟨.ref s.heap.objs.size,_,I.laid (t':=s.toks) (o:=.lst (EW xs lo hi)) (fun b ob q=>Heap.get?_push_of_some _ q) (aao _) ?_,rfl,q _ (I.hok.fresh (aao _))⟩
 exact ⟨aay (FM xs lo hi) hz,_,0,(r.drop (HT.sIx xs.length 0 lo)).take (HT.sIx xs.length xs.length hi - HT.sIx xs.length 0 lo),Heap.get?_push_size _ rfl⟩
theorem HF:CA X (.builtin "len") (fun xs H Q=>∃ p ys,xs=[.ref p]/\(SqL X.K H p ys\/SqT X.K H p ys)/\Q (.int ys.length) H):=by
 intro pins s σ H xs us Q I r h
 obtain ⟨p,ys,rfl,hq,q⟩:=h
 obtain ⟨u,rfl,rx⟩:=EC r
 cases rx
 have hn:=EV
 rcases hq with hq | hq
 ·obtain ⟨its,r',pl,hz⟩:=I.list hq
  have hlen:=r'.length
  exact Calls.call_len_list pl.isList (by simp only [aak] <;> omega) ⟨.int ys.length,H,I.tok _,⟨s.toks + 1,by rw [aak,hlen]⟩,q⟩
 ·obtain ⟨its,r',pl,hz⟩:=I.tuple hq
  have hlen:=r'.length
  exact len_tuple pl (by simp only [aak] <;> omega) ⟨.int ys.length,H,I.tok _,⟨s.toks + 1,by rw [aak,hlen]⟩,q⟩
theorem HG:CA X (.type "list") (fun xs H Q=>∃ p ys,xs=[.ref p]/\(SqL X.K H p ys\/SqT X.K H p ys)/\∀ l,H l=none->Q (.ref l) (upd H l (.lst ys))):=by
 intro pins s σ H xs us Q I r h
 obtain ⟨p,ys,rfl,hq,q⟩:=h
 obtain ⟨u,rfl,rx⟩:=EC r
 cases rx
 have fin:∀ (its:List Value),Vals ys its->ys.length<=sizeLine->∀ (h':Heap) (c':Nat),(∀ b o',s.heap.get? b=some o'->h'.get? b=some o') ->
   h'.get? s.heap.objs.size=some { cls:=.type "list",dict:=none,data:=.seq its.toArray c',slots:=#[] }->EP X pins σ Q (.ref s.heap.objs.size) { s with heap:=h' }:=fun its r' hz h' c' kp e =>
  ⟨.ref s.heap.objs.size,_,I.laid (t':=s.toks) kp (aao _) (show ObjOk X.prog X.w _ h' _ (.lst ys) from ⟨hz,its,c',r',e⟩),rfl,q _ (I.hok.fresh (aao _))⟩
 rcases hq with hq | hq
 ·obtain ⟨its,r',pl,hz⟩:=I.list hq
  have hlen:=r'.length
  obtain ⟨o,ho,hc,n,hd⟩:=pl.isList
  exact call_list_seq p (.inl rfl) ho hc hd (fun h' c' kp e=>fin its r' hz h' c' kp e) (by simp only [aak] <;> omega)
 ·obtain ⟨its,r',pl,hz⟩:=I.tuple hq
  have hlen:=r'.length
  obtain ⟨o,ho,hc,n,hd⟩:=pl
  exact call_list_seq p (.inr rfl) ho hc hd (fun h' c' kp e=>fin its r' hz h' c' kp e) (by simp only [aak] <;> omega)
theorem EU:CA X (.type "tuple") (fun xs H Q=>∃ p ys,xs=[.ref p]/\((SqL X.K H p ys/\∀ l,H l=none->Q (.ref l) (upd H l (.tup ys)))\/(SqT X.K H p ys/\Q (.ref p) H))):=by
 intro pins s σ H xs us Q I r h
 obtain ⟨p,ys,rfl,h⟩:=h
 obtain ⟨u,rfl,rx⟩:=EC r
 cases rx
 rcases h with ⟨hq,q⟩ | ⟨hq,q⟩
 ·obtain ⟨its,r',pl,hz⟩:=I.list hq
  have hlen:=r'.length
  refine call_tuple_list pl.isList (fun h' kp=>?_) (by simp only [aak] <;> omega)
  have I1:Inv X pins σ H { s with heap:=h' }:=I.kept (t':=s.toks) kp
  have I2:Inv X pins σ (upd H h'.objs.size (.tup ys)) { s with heap:=h'.push { cls:=.type "tuple",data:=.seq its.toArray } } :=
   I1.laid (t':=s.toks) (fun b o e=>Heap.get?_push_of_some _ e) (aao _) (show ObjOk X.prog X.w _ _ _ (.tup ys) from ⟨hz,its,r',IsTup.new _ _⟩)
  exact ⟨.ref h'.objs.size,_,I2,rfl,q _ (I1.hok.fresh (aao _))⟩
 ·obtain ⟨its,r',pl,hz⟩:=I.tuple hq
  exact call_tuple_same pl ⟨.ref p,H,I,rfl,q⟩
noncomputable def tyV (K:PySem.W.Frag) (T:String) (x:V) (H:Hp):Prop:=match x with
 | .str _=>T = "str"
 | .int _=>T = "int"
 | .ref p=>(T = "list" /\ ∃ xs,SqL K H p xs)\/(T = "tuple" /\ ∃ o,K.lookup p=some o/\o.cls=.type "tuple" /\ o.dict=none) \/
   (T = "dict" /\ ((∃ kvs,H p=some (.dK kvs))\/∃ kvs,H p=some (.dT kvs)))\/(T = "set" /\ ∃ S n,H p=some (.set S n))
 | _=>False
theorem K7 {pins:List (Addr × Obj)} {σ:St} {H:Hp} {s:Shared} {T:String} {x:V} {v:Value} (I:Inv X pins σ H s) (r:RelV x v) (ty:tyV X.K T x H) :
  s.TypeIs v T/\∀ a,v=.ref a->∃ ob,s.heap.get? a=some ob/\ob.dict=none:=by
 cases x with
 | str z =>
  obtain ⟨t,rfl⟩:=r
  cases (show T = "str" from ty)
  exact ⟨typeIs_str s z t,fun _ e=>nomatch e⟩
 | int i =>
  obtain ⟨t,rfl⟩:=r
  cases (show T = "int" from ty)
  exact ⟨typeIs_int s i t,fun _ e=>nomatch e⟩
 | ref p =>
  cases r
  rcases ty with ⟨rfl,xs,hq⟩ | ⟨rfl,o,hk,hc,hd⟩ | ⟨rfl,hk⟩ | ⟨rfl,S,n,hk⟩
  ·obtain ⟨its,_,pl,_⟩:=I.list hq
   refine ⟨pl.isList.typeIs,fun a e=>?_⟩
   cases e
   obtain ⟨o,n,e,c,hd,_⟩:=pl
   exact ⟨o,e,hd⟩
  ·refine ⟨⟨o,I.kIn p o hk,hc⟩,fun a e=>?_⟩
   cases e
   exact ⟨o,I.kIn _ o hk,hd⟩
  ·have z:∃ o,s.heap.get? p=some o/\o.ExactDict:=by
    rcases hk with ⟨kvs,hk⟩ | ⟨kvs,hk⟩
    ·obtain ⟨_,_,_,_,o,_,_,e,ex,_⟩:=I.hok p _ hk
     exact ⟨o,e,ex⟩
    ·obtain ⟨_,_,_,_,o,_,_,e,ex,_⟩:=I.hok p _ hk
     exact ⟨o,e,ex⟩
   obtain ⟨o,e,ex⟩:=z
   refine ⟨⟨o,e,ex.1⟩,fun a e2=>?_⟩
   cases e2
   exact ⟨o,e,ex.2.1⟩
  ·obtain ⟨o,_,_,_,e,ex,_⟩:=I.hok p _ hk
   refine ⟨⟨o,e,ex.1⟩,fun a e2=>?_⟩
   cases e2
   exact ⟨o,e,ex.2.1⟩
 | _=>exact False.elim ty
noncomputable def Sv (K:PySem.W.Frag) (T:String) (r:V->List V->Hp->VK->Prop) (to:TE):TE:=fun σ H Q=>to σ H fun x H1=>tyV K T x H1/\r x [] H1 Q
noncomputable def tBM (K:PySem.W.Frag) (T:String) (r:V->List V->Hp->VK->Prop) (to:TE) (t:TA):TE:=fun σ H Q=>to σ H fun x H1=>tyV K T x H1/\t σ H1 fun xs H2=>r x xs H2 Q
variable {o e:Expr} {es:List Expr} {to:TE} {t:TA} {name:Str} {apos cpos:Pos} {T id:String} {r:V->List V->Hp->VK->Prop}
theorem PY (pa:PlainAttrs T) (slot:Slot T name id) (hty:typeOf (.builtin id)=pure (.type "method_descriptor")) (hm:MtR X id r) (ho:PE X o to)
  (hbase:attributeBase o name X.env (eval o X.env)=eval o X.env:=by rfl) (hline:(apos.endLine==cpos.line)=true:=by rfl):PE X (.Call (.Attribute o name apos) [] [] cpos) (Sv X.K T r to):=by
 intro pins s σ H Q I h
 refine wpAny_Call_method0_late hbase hline (thn (ho pins s σ H _ I h) fun v s1 ⟨x,H1,I1,r1,ty,q1⟩=>?_)
 obtain ⟨h1,h2⟩:=K7 I1 r1 ty
 exact ⟨T,id,pa,slot,hty,h1,h2,Calls.callWith_builtin rfl (PySem.evalArgs_none (hm pins s1 σ H1 x [] v [] Q I1 r1 .nil q1))⟩
theorem Gg (pa:PlainAttrs T) (slot:Slot T name id) (hty:typeOf (.builtin id)=pure (.type "method_descriptor")) (hm:MtR X id r) (ho:PE X o to) (ha:PA X (e :: es) t)
  (hbase:attributeBase o name X.env (eval o X.env)=eval o X.env:=by rfl)
  (hfew:((backTo cpos (starEach (e :: es) X.env)).all (fun x=>!x.1) && (backToKw cpos (keywordEach [] X.env)).all (fun x=>x.1.isSome)
   && decide ((e :: es).length + ([]:List Keyword).length + (if ([]:List Keyword).isEmpty then 0 else 1) < 30))=true:=by rfl)
  (hline:(apos.endLine==cpos.line)=true:=by rfl) (hs:starEach (e :: es) X.env=(false,eval e X.env) :: starEach es X.env:=by rfl) (hplain:(backTo cpos (starEach es X.env)).any (·.1)=false:=by rfl) :
  PE X (.Call (.Attribute o name apos) (e :: es) [] cpos) (tBM X.K T r to t):=by
 intro pins s σ H Q I h
 refine wpAny_Call_method_late hbase hfew hline rfl (thn (ho pins s σ H _ I h) fun v s1 ⟨x,H1,I1,r1,ty,q1⟩=>?_)
 obtain ⟨h1,h2⟩:=K7 I1 r1 ty
 refine ⟨T,id,pa,slot,hty,h1,h2,?_⟩
 have hA:=ha cpos pins s1 σ H1 _ I1 q1
 rw [hs] at hA ⊢
 refine Calls.callWith_builtin (by show (false || (backTo cpos (starEach es X.env)).any (·.1))=false; rw [hplain] <;> rfl) (Calls.evalArgs_plain ?_)
 exact thn hA fun us s2 ⟨vs,H2,I2,r2,q2⟩=>hm pins s2 σ H2 x vs v us Q I2 r1 r2 q2
/- xs.append(e),list.index on a module's tuple .. are MtR facts of 06m -/
end
noncomputable def MtM (X:Cx) (id:String) (r:V->List V->Hp->VK->Prop):Prop :=
 ∀ (pins:List (Addr × Obj)) (s:Shared) (σ:St) (H:Hp) (x:V) (xs:List V) (v:Value) (us:List Value) (Q:VK),Inv X pins σ H s->RelV x v->Vals xs us->r x xs H Q ->
  wpAny (model X.prog X.w) X.A (call (.builtin id) (v :: us)) (EP X pins σ Q) X.xe s
theorem Vals.one:∀ {x:V} {us:List Value},Vals [x] us->∃ u,us=[u]/\RelV x u
 | _,_,.cons r .nil=>⟨_,rfl,r⟩
theorem Vals.zero:∀ {us:List Value},Vals [] us->us=[]
 | _,.nil=>rfl
theorem Vals.dropLast {xs:List V} {us:List Value} (h:Vals xs us):Vals xs.dropLast us.dropLast:=by
 induction h with
 | nil=>exact .nil
 | cons r t ih =>
  cases t with
  | nil=>exact .nil
  | cons q t'=>exact .cons r ih
theorem Vals.eraseIdx:∀ {xs:List V} {us:List Value} (i:Nat),Vals xs us->Vals (xs.eraseIdx i) (us.eraseIdx i)
 | _,_,_,.nil=>.nil
 | _,_,0,.cons _ t=>t
 | _,_,i + 1,.cons r t=>.cons r (Vals.eraseIdx i t)
theorem Vals.reverse {xs:List V} {us:List Value} (h:Vals xs us):Vals xs.reverse us.reverse:=by
 induction h with
 | nil=>exact .nil
 | cons r t ih=>rw [ab5,ab5]; exact Vals.append ih (.cons r .nil)
theorem Vals.rep {xs:List V} {us:List Value} (h:Vals xs us):∀ k:Nat,Vals (aam k xs).flatten (aam k us).flatten
 | 0=>.nil
 | k + 1=>by
  rw [abd,abd,abx,abx]
  exact Vals.append h (Vals.rep h k)
theorem G8 {α:Type}:∀ (l:List α) (i:Nat),(l.eraseIdx i).length<=l.length
 | [],_=>aao _
 | _ :: _,0=>abN _
 | _ :: r,i + 1=>abR (G8 r i)
theorem G9 (its:List Value):∀ (k:Nat) (acc:List Value),
  acz (fun x1 x2=>x1 ++ x2) acc.toArray (aam k its.toArray)=(acc ++ (aam k its).flatten).toArray
 | 0,acc=>by simp
 | k + 1,acc=>by
  have e:acc.toArray ++ its.toArray=(acc ++ its).toArray:=by simp
  have e2:(acc ++ its) ++ (aam k its).flatten=acc ++ (aam (k + 1) its).flatten:=by
   rw [abd,abx,List.append_assoc]
  rw [<- e2,<- G9 its k (acc ++ its),<- e,abd,abT]
section
variable {X:Cx} {pins:List (Addr × Obj)} {σ:St} {H:Hp} {s:Shared} {l b:Addr} {xs ys zs:List V}
theorem Inv.lset {its its':List Value} {n:Nat} {f:Array Value->Array Value} {t':Nat} (I:Inv X pins σ H s) (hH:H l=some (.lst xs))
  (e:s.heap.get? l=some { cls:=.type "list",data:=.seq its.toArray n }) (hf:f its.toArray=its'.toArray) (hv:Vals ys its') (hz:ys.length<=sizeLine) :
  Inv X pins σ (upd H l (.lst ys)) { s with heap:=s.heap.update l (Obj.mapSeq f),toks:=t' }:=by
 have q:=PySem.IsL.update e f
 rw [hf] at q
 refine I.write (x:=l) (e:=l) (by rw [hH]; exact trivial) (.inl rfl) (fun b' u hb hu=>(Heap.get?_update_other s.heap (Obj.mapSeq f) (Ne.symm hb)).trans hu) ⟨_,q⟩ ?_
 exact ⟨hz,its',_,hv,q⟩
theorem Inv.lnew {its:List Value} {t':Nat} (I:Inv X pins σ H s) (hv:Vals ys its) (hz:ys.length<=sizeLine) :
  Inv X pins σ (upd H s.heap.objs.size (.lst ys)) { s with heap:=s.heap.push { cls:=.type "list",data:=.seq its.toArray },toks:=t' } :=
 I.laid (fun _ _ q=>Heap.get?_push_of_some _ q) (aao _) ⟨hz,its,0,hv,Heap.get?_push_size _ rfl⟩
theorem Inv.fresh (I:Inv X pins σ H s):H s.heap.objs.size=none:=I.hok.fresh (aao _)
theorem Inv.lstM (I:Inv X pins σ H s) (hH:H l=some (.lst xs)):xs.length<=sizeLine/\∃ (its:List Value) (n:Nat),Vals xs its/\xs.length=its.length/\s.heap.get? l=some { cls:=.type "list",data:=.seq its.toArray n }:=by
 obtain ⟨z,its,n,r,e⟩:=I.hok l _ hH
 exact ⟨z,its,n,r,r.length,e⟩
theorem HH {n:Nat} (h:n<=sizeLine):Builtin.List.listTooLong n=false:=by
 unfold Builtin.List.listTooLong
 exact decide_eq_false (by omega)
end
section
variable {X:Cx}
noncomputable def FC:V->List V->Hp->VK->Prop:=fun x vs H Q=>∃ l xs y,x=.ref l/\vs=[y]/\H l=some (.lst xs)/\xs.length < sizeLine/\Q .non (upd H l (.lst (xs ++ [y])))
theorem D4:MtM X "list.append" FC:=by
 intro pins s σ H x vs v us Q I rx rv h
 obtain ⟨l,xs,y,rfl,rfl,hH,hz,q⟩:=h
 cases rx
 obtain ⟨u,rfl,ru⟩:=rv.one
 obtain ⟨z,its,n,r,hl,e⟩:=I.lstM hH
 refine call_meets F.slot_list_append ⟨_,e,rfl⟩ F.entry_list_append (F.args_list_append_2 _ _) (PySem.list_append l its.toArray n u (by rw [aak]; omega)) ⟨e,?_⟩
 refine ⟨.non,_,I.lset (its':=its ++ [u]) hH e (by simp) (r.append (.cons ru .nil)) ?_,rfl,q⟩
 rw [aaD,aa2]
 omega
noncomputable def K8:V->List V->Hp->VK->Prop:=fun x vs H Q=>∃ l xs i k y,x=.ref l/\vs=[.int i]/\H l=some (.lst xs)/\-(2 ^ 63)<=i/\i < 2 ^ 63/\seqIndex? i xs.length=some k/\xs[k]?=some y/\Q y (upd H l (.lst (xs.eraseIdx k)))
theorem Mz:MtM X "list.pop" K8:=by
 intro pins s σ H x vs v us Q I rx rv h
 obtain ⟨l,xs,i,k,y,rfl,rfl,hH,h1,h2,hk,hy,q⟩:=h
 cases rx
 obtain ⟨u,rfl,ru⟩:=rv.one
 obtain ⟨t,rfl⟩:=ru
 obtain ⟨z,its,n,r,hl,e⟩:=I.lstM hH
 obtain ⟨w,hw,rw'⟩:=r.get hy
 refine call_meets F.slot_list_pop ⟨_,e,rfl⟩ F.entry_list_pop (F.args_list_pop_2 _ _)
  (MeetsSeq.list_pop_at l its.toArray n i t k w (fitsIndex_both h1 h2) (by rw [aak,<- hl]; exact hk) (by rw [<- Array.getElem?_toList]; exact hw) (by rw [aak]; omega)) ⟨e,?_⟩
 refine ⟨y,_,I.lset (its':=its.eraseIdx k) hH e ?_ (r.eraseIdx k) ?_,rw',q⟩
 ·show its.toArray.eraseIdxIfInBounds k=(its.eraseIdx k).toArray
  rw [List.eraseIdxIfInBounds_toArray]
 ·have:=G8 xs k
  omega
noncomputable def La:V->List V->Hp->VK->Prop:=fun x vs H Q=>∃ l xs,x=.ref l/\vs=[]/\H l=some (.lst xs)/\Q .non (upd H l (.lst []))
theorem MA:MtM X "list.clear" La:=by
 intro pins s σ H x vs v us Q I rx rv h
 obtain ⟨l,xs,rfl,rfl,hH,q⟩:=h
 cases rx
 have hus:=rv.zero
 subst hus
 obtain ⟨z,its,n,r,hl,e⟩:=I.lstM hH
 refine call_meets F.slot_list_clear ⟨_,e,rfl⟩ F.entry_list_clear (F.args_list_clear_1 _) (AutoSeq1.list_clear_list_0 l its.toArray n (by rw [aak]; omega)) ⟨e,?_⟩
 exact ⟨.non,_,I.lset (its':=[]) (ys:=[]) hH e rfl .nil (aas _),rfl,q⟩
theorem N5 {α:Type} (xs:List α) (k:Nat):(aam k xs).flatten.length=k * xs.length:=by
 induction k with
 | zero=>simp
 | succ k ih=>rw [abd,abx,aaD,ih,Nat.succ_mul,ab9]
end
end L2
namespace Att
open PySem PySem.W PySem.Calls PyProof.Rows
theorem Gh {P:Params} {h:Heap}:∀ (ns:List Int) (vs:List Value),WellAll P h vs (ns.map WData.int)->IntsAre vs ns:=by
 intro ns
 induction ns with
 | nil =>
  intro vs w
  rw [abE] at w
  cases w
  exact .nil
 | cons n ns ih =>
  intro vs w
  rw [aaA] at w
  cases w with
  | cons a b =>
   cases a
   exact .cons _ _ (ih _ b)
theorem Lb {l:OpenLaw} {n:Nat} (hn:l.most=some n) {P:Params} {h:Heap} {args:List WData} {vals:List Value}
  (hpre:l.row.toRowW.claim.pre args=true) (hwl:WellAll P h vals args) :
  ∃ a vs ns,vals=[Value.ref a]/\args=[WData.list (ns.map WData.int)]/\h.get? a=some { cls:=.type "list",data:=.seq vs.toArray }/\IntsAre vs ns/\ns.length<=n:=by
 have hsh:WShape.hasAll [] args [.list .int]=true:=(pre_splitW hpre).1
 have hc:l.pre.holds [] { args:=args }=true:=(pre_splitW hpre).2
 obtain ⟨d,r,rfl,h1,h2⟩:=hasAllW_cons hsh
 obtain rfl:=hasAllW_nil h2
 obtain ⟨xs,rfl,h3⟩:=hasW_list h1
 obtain ⟨ns,rfl⟩:=items_int h3
 have hlen:ns.length<=n:=by
  unfold OpenLaw.pre at hc
  have h4:(WTm.not (.lt (.lit (.int (n:Int))) (.len (.arg 0)))).holds [] { args:=[.list (ns.map .int)] }=true:=by
   have h4:=(holds_andW hc).1
   rw [hn] at h4
   exact h4
  have h5:=condW_of h4 (w_not (w_lt w_lit (w_len_list (w_arg rfl))))
  rw [aab] at h5
  refine abi fun q=>?_
  have q':(n:Int) < ((ns.length:Nat):Int):=by omega
  first
   | (rw [decide_eq_true q'] at h5; exact absurd h5 (by decide))
   | (simp at h5; omega)
 cases hwl with
 | cons w1 w2 =>
  cases w2
  cases w1 with
  | list ho hall=>exact ⟨_,_,ns,rfl,rfl,ho,Gh ns _ hall,hlen⟩
theorem Lc (l:OpenLaw) (args:List WData):l.row.toRowW.claim.post args (.bool true) args=true :=
 postW_of (r:=l.row.toRowW) (X:=(true==true))
  (show WShape.has [] (.bool true) .bool=true by first | rfl | decide | simp [WShape.has,WShape.arms,WShape.armsAll])
  (show (WTm.eq .res (.lit (.bool true))).value [] { args:=args,res:=some (.bool true),after:=args }=some (.bool (true==true)) from w_eq_bool (w_res rfl) w_lit) rfl
theorem attach_call {l:OpenLaw} {n:Nat} {q:Program} {loose:List Str} {XP:(Str->Option Value)->Heap->Prop} {YP:World->Heap->Prop} {d:DefRec}
  (hn:l.most=some n) (hdf:d.params.defaults=[])
  (call:∀ (w:World) (s₀ s₁:Shared) (mg mb:Str->Option Value) (fa:Addr) (o:Obj) (pm cd doc:Value) (a:Addr) (vs:List Value) (ns:List Int),
   Ground q loose [] XP w s₀ mg mb s₁.heap->YP w s₁.heap ->
   s₁.heap.get? fa=some o->o.data=.func (docDef d.name d.params d.body d.scope pm cd doc)->s₁.heap.CodeRec cd d.name->mg d.name=some (.ref fa) ->
   s₁.heap.get? a=some { cls:=.type "list",data:=.seq vs.toArray }->IntsAre vs ns->ns.length<=n->s₁.gens=#[] ->
   codeAny (model l.prog w) callerA (.call (.ref fa) ⟨[.ref a],[]⟩) (fun r s'=>r=.ok (.ret (.bool true))/\OldK s₁.heap s'.heap/\s'.os=s₁.os/\AllBare s'.gens) s₁) :
  WalkO q loose XP YP l.row.toRowW d [] (fun f vs=>PySem.call f vs):=by
 intro w s₀ s₁ mg mb G Y fa o pm cd doc dV kV ho hd hcd hD hmg hg args vals as hpre hlay hrd hwl hlo
 obtain rfl:dV=.none:=Dflts.none hD hdf
 obtain rfl:kV=.none:=Dflts.noKw hD
 obtain ⟨a,vs,ns,rfl,rfl,hobj,hints,hlen⟩:=Lb hn hpre hwl
 refine enter_call (codeAny_mono (call w s₀ s₁ mg mb fa o pm cd doc a vs ns G Y ho (fd_plain hd) hcd hmg hobj hints hlen hg) fun r s' hq=>?_)
 obtain ⟨rfl,h2,h3,h4⟩:=hq
 exact ⟨.inl ⟨.bool true,.bool true,[],rfl,fun _=>rfl,.bool true,Lc l _,fun _=>⟨List.Pairwise.nil,fun _ hm=>(nomatch hm)⟩⟩,h2,h3,h4⟩
end Att
namespace L2
open PySem PySem.Spec PyProof.Rows
theorem Ha:∀ {vs:List Value} {ns:List Int},IntsAre vs ns->Vals (ns.map V.int) vs
 | _,_,.nil=>.nil
 | _,_,.cons n t h=>.cons ⟨t,rfl⟩ (Ha h)
noncomputable def MB (H:Hp):Prop:=∀ b,H b=none\/∃ o xs,H b=some (.frz o (.lst xs))
theorem MC {P:Program} {w:World} {K:PySem.W.Frag} {mg mb:Str->Option Value} {CX:CXT} {k:Nat} {fa a:Addr} {fd:FuncData} {x:Str} {sp:Sp} {s₁:Shared} {vs:List Value} {ns:List Int}
  (KX:K.In s₁.heap) (hns:s₁.heap.Ns mainGlobals mg) (hb:s₁.heap.Ns builtinsNs mb) (hbb:∀ x:Str,x ≠ "__name__" -> mb x=bootBuiltins x) (hlim:s₁.heap.NoLimit) (hg:s₁.gens=#[])
  (ha:s₁.heap.get? a=some { cls:=.type "list",data:=.seq vs.toArray }) (hi:IntsAre vs ns) (hl:ns.length<=sizeLine) (hr:Room k callerA)
  (F:∀ base:Heap,K.In base->base.Ns mainGlobals mg->FnOk P w K mg base CX k fa fd [x] sp) (hbind:∀ (s:Shared) (u:Value),BindsTo s fd ⟨[u],[]⟩ [(x,u)])
  (hsp:∀ H:Hp,MB H->SqL K H a (ns.map V.int)->sp [.ref a] H (fun v _=>v=.bl true) fun _ _ _=>False)
  (hCX:∀ H e s',CX [] H s₁ (fun _ _ _=>False) e s'->False) :
  codeAny (model P w) callerA (.call (.ref fa) ⟨[.ref a],[]⟩) (fun r s'=>r=.ok (.ret (.bool true))/\OldK s₁.heap s'.heap/\s'.os=s₁.os/\AllBare s'.gens) s₁:=by
 have rv:=Ha hi
 have lenV:=hi.length
 have core:∀ H:Hp,MB H->SqL K H a (ns.map V.int)->HOk P w H s₁.heap->(∀ b,H b ≠ none->b=a)->(H a ≠ none->K.lookup a=none) ->
   codeAny (model P w) callerA (.call (.ref fa) ⟨[.ref a],[]⟩) (fun r s'=>r=.ok (.ret (.bool true))/\OldK s₁.heap s'.heap/\s'.os=s₁.os/\AllBare s'.gens) s₁:=by
  intro H hO hS hok hA hK
  have base_of:∀ {b:Addr} {o:Obj},s₁.heap.get? b=some o->H b=none->(EB s₁.heap H).get? b=some o:=fun e n=>Ml e n
  have noA:∀ {b:Addr} {o:Obj} {es:Array DictEntry} {ep:Nat},s₁.heap.get? b=some o->o.data=.dict es ep->H b=none:=fun {b o es ep} e d=>by
   cases q:H b with
   | none=>rfl
   | some u =>
    have e':b=a:=hA b (by rw [q]; simp)
    subst e'
    rw [ha] at e; cases e
    have d':Data.seq vs.toArray _=Data.dict es ep:=d
    cases d'
  have nsK:∀ {b:Addr} {m:Str->Option Value},s₁.heap.Ns b m->(EB s₁.heap H).Ns b m:=fun {b m} ⟨o,es,ep,e,d,r⟩=>⟨o,es,ep,base_of e (noA e d),d,r⟩
  have hKb:K.In (EB s₁.heap H):=fun b o e=>base_of (KX b o e) (by
   cases q:H b with
   | none=>rfl
   | some u =>
    have e':b=a:=hA b (by rw [q]; simp)
    subst e'
    rw [hK (by rw [q]; simp)] at e; cases e)
  have hM:Mod K mg (EB s₁.heap H):=⟨hKb,nsK hns,⟨mb,nsK hb,hbb⟩,let ⟨mc,h1,h2⟩:=hlim; ⟨mc,nsK h1,h2⟩⟩
  have e0:Env0 P w K mg (EB s₁.heap H) callerA [] s₁ H:=⟨rfl,hM,fun b o e=>NR e,acr (KK _ _),trivial,fun b hb=>absurd (show b ∈ ([]:List Addr) from hb) (by simp),hok,.of_eq hg⟩
  refine codeAny_mono ((F _ hKb (nsK hns)).run callerA [] s₁ H ⟨[.ref a],[]⟩ [.ref a] [.ref a] _ _ hr e0 (hbind s₁ (.ref a)) (.cons rfl .nil) (hsp H hO hS)) fun r s' h=>?_
  cases r with
  | error e=>exact (hCX H e s' h).elim
  | ok fl =>
   cases fl with
   | next=>exact False.elim h
   | brk=>exact False.elim h
   | cont=>exact False.elim h
   | ret u =>
    obtain ⟨v,H',os,bare,un,hok',r',q⟩:=h
    have q':v=.bl true:=q
    subst q'
    obtain rfl:u=Value.bool true:=r'
    refine ⟨rfl,OldK.of_keep fun b o e=>?_,os,bare⟩
    cases q:H b with
    | none=>exact un.keep b o e q (by intro z; exact absurd (show b ∈ ([]:List Addr) from z) (by simp)) (by simp)
    | some u =>
     rcases hO b with z | ⟨ob,xs,z⟩
     ·rw [q] at z; cases z
     ·have z2:=un.frzs b ob _ z
      obtain ⟨e1,_⟩:=hok b _ z
      obtain ⟨e2,_⟩:=hok' b _ z2
      rw [e] at e1; cases e1
      exact e2
 cases hk:K.lookup a with
 | some o =>
  have e:=KX a o hk
  rw [ha] at e
  cases e
  refine core (fun _=>none) (fun _=>.inl rfl) (.inr ⟨_,vs.toArray,_,hk,rfl,rfl,rfl,by rw [aak,lenV]; exact hl,by simpa using rv⟩) (fun b u z=>by have z':(none:Option HO)=some u:=z; cases z') (fun b z=>absurd rfl z) fun z=>absurd rfl z
 | none =>
  refine core (fun b=>if b=a then some (.frz { cls:=.type "list",data:=.seq vs.toArray } (.lst (ns.map V.int))) else none) (fun b=>?_) (.inl (.inr ⟨{ cls:=.type "list",data:=.seq vs.toArray },if_pos rfl⟩)) (fun b u z=>?_) (fun b z=>?_) fun _=>hk
  ·by_cases hb:b=a
   ·exact .inr ⟨_,_,if_pos hb⟩
   ·exact .inl (if_neg hb)
  ·by_cases hb:b=a
   ·have z':=(if_pos hb).symm.trans z
    cases z'
    subst hb
    exact ⟨ha,by rw [aab]; exact hl,vs,_,rv,ha⟩
   ·have z':=(if_neg hb).symm.trans z
    cases z'
  ·by_cases hb:b=a
   ·exact hb
   ·exact absurd (if_neg hb) z
theorem N6 {l:PySem.W.OpenLaw} {n k:Nat} {q:Program} {loose:List Str} {XP:(Str->Option Value)->Heap->Prop} {YP:World->Heap->Prop} {d:DefRec} {K:Params->PySem.W.Frag} {CX:World->CXT} {sp:World->Sp} {x:Str}
  (hn:l.most=some n) (hn2:n<=sizeLine) (hdf:d.params.defaults=[]) (hr:Room k callerA)
  (hY:∀ (w:World) (h:Heap),YP w h->(K w.params).In h)
  (F:∀ (w:World) (mg:Str->Option Value) (fa:Addr) (h:Heap),(K w.params).In h->h.Ns mainGlobals mg->mg d.name=some (.ref fa) ->
   ∃ fd:FuncData,(∀ (s:Shared) (u:Value),BindsTo s fd ⟨[u],[]⟩ [(x,u)]) /\
    ∀ base:Heap,(K w.params).In base->base.Ns mainGlobals mg->FnOk l.prog w (K w.params) mg base (CX w) k fa fd [x] (sp w))
  (hsp:∀ (w:World) (H:Hp) (a:Addr) (ns:List Int),ns.length<=n->MB H->SqL (K w.params) H a (ns.map V.int)->sp w [.ref a] H (fun v _=>v=.bl true) fun _ _ _=>False)
  (hCX:∀ (w:World) (H:Hp) (s:Shared) (e:Value) (s':Shared),CX w [] H s (fun _ _ _=>False) e s'->False) :
  PySem.W.WalkO q loose XP YP l.row.toRowW d [] (fun f vs=>PySem.call f vs):=by
 refine Att.attach_call hn hdf fun w s₀ s₁ mg mb fa o pm cd doc a vs ns G Y ho hd hcd hmg hobj hints hlen hg=>?_
 have KX:=hY w _ Y
 obtain ⟨fd,hb,hF⟩:=F w mg fa _ KX G.T.g hmg
 exact MC KX G.T.g G.T.b G.T.builtins G.T.nolimit hg hobj hints (aay hlen hn2) hr hF hb (fun H hO hS=>hsp w H a ns hlen hO hS) fun H e s'=>hCX w H s₁ e s'
noncomputable def BK (s:Stmt):Arguments:=match s with
 | .FunctionDef _ a _ _ _ _ _ _ _ _=>a
 | _=>{ posonlyargs:=[],args:=[],vararg:=none,kwonlyargs:=[],kw_defaults:=[],kwarg:=none,defaults:=[] }
noncomputable def AO (s:Stmt):List Stmt:=match s with
 | .FunctionDef _ _ b _ _ _ _ _ _ _=>b
 | _=>[]
noncomputable def Ah (s:Stmt):Scope:=match s with
 | .FunctionDef _ _ _ _ _ _ sc _ _ _=>sc
 | _=>{ kind:=.function,names:=[],isGenerator:=false,isCoroutine:=false }
structure Fun (K:PySem.W.Frag) (x qual:Str) (st:Stmt) (f:Addr) (fd:FuncData):Prop where
 ex:∃ (oc:Value) (od:Option Addr) (kV doc pm:Value) (an:Option Addr) (cdv ct:Value) (osl:Array (Option Value)),
  fd=PySem.W.fnOf x qual (BK st) (AO st) (Ah st) .none kV doc pm an cdv ct/\K.lookup f=some ⟨oc,od,.func fd,osl⟩/\PySem.W.codeIn K cdv qual=true
 kp:PySem.W.keepIn K (.ref f)=true
section
variable {P:Program} {w:World} {K:PySem.W.Frag} {mg:Str->Option Value} {base:Heap}
theorem Fun.binds {x qual:Str} {st:Stmt} {f:Addr} {fd:FuncData} {ps:List Str} (F:Fun K x qual st f fd)
  (h:∀ (kV doc pm:Value) (an:Option Addr) (cdv ct:Value) (us:List Value),us.length=ps.length->bindArgs (PySem.W.fnOf x qual (BK st) (AO st) (Ah st) .none kV doc pm an cdv ct) ⟨us,[]⟩=pure (ps.zip us)):Binds K fd ps []:=by
 obtain ⟨oc,od,kV,doc,pm,an,cdv,ct,osl,rfl,lk,hcd⟩:=F.ex
 exact .all (h kV doc pm an cdv ct)
theorem Ld {x qual:Str} {st:Stmt} {f:Addr} {oc:Value} {od an:Option Addr} {osl:Array (Option Value)} {kV doc pm cdv ct:Value} (l:K.lookup f=some ⟨oc,od,.func (PySem.W.fnOf x qual (BK st) (AO st) (Ah st) .none kV doc pm an cdv ct),osl⟩)
  (c:PySem.W.codeIn K cdv qual=true) (k:PySem.W.keepIn K (.ref f)=true):Fun K x qual st f (PySem.W.fnOf x qual (BK st) (AO st) (Ah st) .none kV doc pm an cdv ct):=⟨⟨oc,od,kV,doc,pm,an,cdv,ct,osl,rfl,l,c⟩,k⟩
end
noncomputable def Same (H H':Hp):Prop:=∀ b o,H b=some o->H' b=some o
theorem Same.refl (H:Hp):Same H H:=fun _ _ h=>h
theorem Same.trans {H H1 H2:Hp} (a:Same H H1) (b:Same H1 H2):Same H H2:=fun c o h=>b c o (a c o h)
theorem Same.free {H H':Hp} (e:Same H H') {l:Addr} (h:H' l=Option.none):H l=Option.none:=by
 cases q:H l with
 | none=>rfl
 | some o =>
  rw [e l o q] at h
  cases h
theorem Same.seq {K:PySem.W.Frag} {H H':Hp} {a:Addr} {xs:List V} (e:Same H H') (h:SqL K H a xs):SqL K H' a xs:=by
 rcases h with (h | ⟨o,h⟩) | h
 ·exact .inl (.inl (e _ _ h))
 ·exact .inl (.inr ⟨o,e _ _ h⟩)
 ·exact .inr h
end L2
end
section
namespace L2
open PySem PySem.Spec PyProof.Rows
section
variable {κ:Type} [DecidableEq κ]
noncomputable def Dp (kvs:List (κ × V)) (k:κ):Option V:=(kvs.find? fun kv=>decide (kv.1=k)).map (·.2)
noncomputable def EY (kvs:List (κ × V)) (k:κ) (v:V):List (κ × V) :=
 if (kvs.any fun kv=>decide (kv.1=k))=true then kvs.map (fun kv=>if kv.1=k then (kv.1,v) else kv) else kvs ++ [(k,v)]
noncomputable def NC (kvs:List (κ × V)) (k:κ):List (κ × V):=kvs.filter fun kv=>decide (kv.1 ≠ k)
theorem FV {p:κ × V} {r:List (κ × V)} {k:κ} (e:p.1=k):Dp (p :: r) k=some p.2:=by simp [Dp,abr,e]
theorem FW {p:κ × V} {r:List (κ × V)} {k:κ} (e:¬ p.1=k):Dp (p :: r) k=Dp r k:=by simp [Dp,abr,e]
theorem HI (k:κ):∀ kvs:List (κ × V),(kvs.any fun kv=>decide (kv.1=k))=(Dp kvs k).isSome
 | []=>rfl
 | p :: r=>by
  rw [abn]
  by_cases e:p.1=k
  ·simp only [FV e,decide_eq_true e,Bool.true_or,Option.isSome_some]
  ·rw [FW e,decide_eq_false e,aco]; exact HI k r
theorem RelO.isSome_eq {o:Option V} {u:Option Value} (r:RelO o u):o.isSome=u.isSome:=by
 cases o with
 | none=>cases u with
  | none=>rfl
  | some _=>exact nE r
 | some _=>cases u with
  | none=>exact nE r
  | some _=>rfl
theorem RelO.getD {o:Option V} {u:Option Value} {d:V} {d':Value} (r:RelO o u) (rd:RelV d d'):RelV (o.getD d) (u.getD d'):=by
 cases o with
 | none=>cases u with
  | none=>exact rd
  | some _=>exact nE r
 | some _=>cases u with
  | none=>exact nE r
  | some _=>exact r
theorem KV.val {kvs:List (κ × V)} {vs:List (κ × Value)} (r:KV kvs vs) (k:κ):RelO (Dp kvs k) (valueAt vs k):=by
 unfold KV at r
 induction r with
 | nil=>exact True.intro
 | @cons p q ps qs h t ih =>
  obtain ⟨h1,h2⟩:=h
  by_cases e:p.1=k
  ·have e':q.1=k:=h1.symm.trans e
   have b:valueAt (q :: qs) k=some q.2:=by simp [valueAt,abr,e']
   rw [FV e,b]; exact h2
  ·have e':¬ q.1=k:=fun z=>e (h1.trans z)
   have b:valueAt (q :: qs) k=valueAt qs k:=by simp [valueAt,abr,e']
   rw [FW e,b]; exact ih
theorem KV.any {kvs:List (κ × V)} {vs:List (κ × Value)} (r:KV kvs vs) (k:κ):(kvs.any fun kv=>decide (kv.1=k))=vs.any fun kv=>decide (kv.1=k):=by
 unfold KV at r
 induction r with
 | nil=>rfl
 | cons h t ih=>rw [abn,abn,ih,h.1]
theorem KV.repl {kvs:List (κ × V)} {vs:List (κ × Value)} (r:KV kvs vs) (k:κ) {y:V} {u:Value} (ry:RelV y u) :
  KV (kvs.map fun kv=>if kv.1=k then (kv.1,y) else kv) (vs.map fun kv=>if kv.1=k then (kv.1,u) else kv):=by
 unfold KV at r ⊢
 induction r with
 | nil=>exact .nil
 | @cons p q ps qs h t ih =>
  rw [aaA,aaA]
  refine .cons ?_ ih
  obtain ⟨h1,h2⟩:=h
  by_cases e:p.1=k
  ·rw [if_pos e,if_pos (h1.symm.trans e)]; exact ⟨h1,ry⟩
  ·rw [if_neg e,if_neg (fun z=>e (h1.trans z))]; exact ⟨h1,h2⟩
theorem KV.put {kvs:List (κ × V)} {vs:List (κ × Value)} (r:KV kvs vs) (k:κ) {y:V} {u:Value} (ry:RelV y u):KV (EY kvs k y) (stored vs k u):=by
 unfold EY stored
 rw [r.any k]
 by_cases e:(vs.any fun kv=>decide (kv.1=k))=true
 ·rw [if_pos e,if_pos e]; exact r.repl k ry
 ·rw [if_neg e,if_neg e]; exact Paired.snoc r ⟨rfl,ry⟩
theorem KV.drop {kvs:List (κ × V)} {vs:List (κ × Value)} (r:KV kvs vs) (k:κ):KV (NC kvs k) (without vs k):=by
 unfold KV at r ⊢
 unfold NC without
 induction r with
 | nil=>exact .nil
 | @cons p q ps qs h t ih =>
  obtain ⟨h1,h2⟩:=h
  rw [List.filter_cons,List.filter_cons]
  by_cases e:p.1=k
  ·have a:¬ decide (p.1 ≠ k)=true:=by simp [e]
   have b:¬ decide (q.1 ≠ k)=true:=by simp [h1.symm.trans e]
   rw [if_neg a,if_neg b]; exact ih
  ·have e':¬ q.1=k:=fun z=>e (h1.trans z)
   have a:decide (p.1 ≠ k)=true:=by simp [e]
   have b:decide (q.1 ≠ k)=true:=by simp [e']
   rw [if_pos a,if_pos b]; exact .cons ⟨h1,h2⟩ ih
theorem KV.length {kvs:List (κ × V)} {vs:List (κ × Value)} (r:KV kvs vs):kvs.length=vs.length:=Paired.length r
end
noncomputable abbrev KT (H:Hp):List (List Key × V)->List (List Key × Addr × Value)->Prop:=Paired fun p q=>p.1=q.1/\H q.2.1=some (.tup (p.1.map kV))/\RelV p.2 q.2.2
theorem KT.val {H:Hp} {kvs:List (List Key × V)} {xs:List (List Key × Addr × Value)} (r:KT H kvs xs) (k:List Key):RelO (Dp kvs k) ((atKey xs k).map (·.2)):=by
 induction r with
 | nil=>exact True.intro
 | @cons p q ps qs h t ih =>
  obtain ⟨h1,_,h2⟩:=h
  by_cases e:p.1=k
  ·have e':q.1=k:=h1.symm.trans e
   have b:atKey (q :: qs) k=some q.2:=by simp [atKey,abr,e']
   rw [FV e,b]; exact h2
  ·have e':¬ q.1=k:=fun z=>e (h1.trans z)
   have b:atKey (q :: qs) k=atKey qs k:=by simp [atKey,abr,e']
   rw [FW e,b]; exact ih
theorem KT.repl {H:Hp} {kvs:List (List Key × V)} {xs:List (List Key × Addr × Value)} (r:KT H kvs xs) (k:List Key) {y:V} {u:Value} (ry:RelV y u) :
  KT H (kvs.map fun kv=>if kv.1=k then (kv.1,y) else kv) (xs.map (putAt k u)):=by
 induction r with
 | nil=>exact .nil
 | @cons p q ps qs h t ih =>
  rw [aaA,aaA]
  refine .cons ?_ ih
  obtain ⟨h1,h2,h3⟩:=h
  unfold putAt
  by_cases e:p.1=k
  ·rw [if_pos e,if_pos (h1.symm.trans e)]; exact ⟨h1,h2,ry⟩
  ·rw [if_neg e,if_neg (fun z=>e (h1.trans z))]; exact ⟨h1,h2,h3⟩
theorem KT.put {H:Hp} {kvs:List (List Key × V)} {xs:List (List Key × Addr × Value)} (r:KT H kvs xs) (k:List Key) {b:Addr} {y:V} {u:Value} (hb:H b=some (.tup (k.map kV))) (ry:RelV y u) :
  KT H (EY kvs k y) (storedH xs k b u):=by
 have e:(kvs.any fun kv=>decide (kv.1=k))=(atKey xs k).isSome:=by
  rw [HI,(r.val k).isSome_eq,Option.isSome_map]
 unfold EY storedH
 rw [e]
 by_cases q:(atKey xs k).isSome=true
 ·rw [if_pos q,if_pos q]; exact r.repl k ry
 ·rw [if_neg q,if_neg q]; exact Paired.snoc r ⟨rfl,hb,ry⟩
theorem KT.keeps {H H':Hp} {kvs:List (List Key × V)} {xs:List (List Key × Addr × Value)} (r:KT H kvs xs) (ht:∀ b ys,H b=some (.tup ys)->H' b=some (.tup ys)):KT H' kvs xs :=
 Paired.mapP r fun _ _ z=>⟨z.1,ht _ _ z.2.1,z.2.2⟩
section
variable {P:Program} {w:World} {H:Hp} {h:Heap} {a:Addr}
theorem D5 {u:HO} (ok:HOk P w H h) (e:Rd H a u):ObjOk P w H h a u:=e.ok ok
theorem Rp {kvs:List (Key × V)} (ok:HOk P w H h) (e:Rd H a (.dK kvs)):kvs.length<=sizeLine/\(a==sysModules)=false/\∃ vs,KV kvs vs/\h.DictOf (B0 P w) a vs :=
 show ObjOk P w H h a (.dK kvs) from D5 ok e
theorem ND {kvs:List (Key × V)} (ok:HOk P w H h) (e:H a=some (.dK kvs)):kvs.length<=sizeLine/\(a==sysModules)=false/\∃ vs,KV kvs vs/\h.DictOf (B0 P w) a vs:=Rp ok (.inl e)
end
noncomputable def DGet (H:Hp) (a:Addr) (y:V) (r:Option V):Prop :=
 (∃ kvs k,Rd H a (.dK kvs)/\y=kV k/\r=Dp kvs k)\/∃ kvs k b,Rd H a (.dT kvs)/\y=.ref b/\H b=some (.tup (k.map kV))/\r=Dp kvs k
noncomputable def DPut (H:Hp) (a:Addr) (y v:V) (H':Hp):Prop :=
 (∃ kvs k,H a=some (.dK kvs)/\y=kV k/\kvs.length < sizeLine/\H'=upd H a (.dK (EY kvs k v))) \/
 ∃ kvs k b,H a=some (.dT kvs)/\y=.ref b/\H b=some (.tup (k.map kV))/\kvs.length < sizeLine/\H'=upd H a (.dT (EY kvs k v))
theorem DGet.k {H:Hp} {a:Addr} {kvs:List (Key × V)} {k:Key} (e:H a=some (.dK kvs)):DGet H a (kV k) (Dp kvs k):=.inl ⟨kvs,k,.inl e,rfl,rfl⟩
theorem DGet.t {H:Hp} {a b:Addr} {kvs:List (List Key × V)} {k:List Key} (e:H a=some (.dT kvs)) (eb:H b=some (.tup (k.map kV))):DGet H a (.ref b) (Dp kvs k):=.inr ⟨kvs,k,b,.inl e,rfl,eb,rfl⟩
theorem DPut.k {H:Hp} {a:Addr} {kvs:List (Key × V)} {k:Key} {v:V} (e:H a=some (.dK kvs)) (hl:kvs.length < sizeLine):DPut H a (kV k) v (upd H a (.dK (EY kvs k v))):=.inl ⟨kvs,k,e,rfl,hl,rfl⟩
theorem DPut.t {H:Hp} {a b:Addr} {kvs:List (List Key × V)} {k:List Key} {v:V} (e:H a=some (.dT kvs)) (eb:H b=some (.tup (k.map kV))) (hl:kvs.length < sizeLine) :
  DPut H a (.ref b) v (upd H a (.dT (EY kvs k v))):=.inr ⟨kvs,k,b,e,rfl,eb,hl,rfl⟩
section
variable {X:Cx} {pins:List (Addr × Obj)} {σ:St} {H:Hp} {s:Shared} {a:Addr} {y v:V} {u r:Value} {o:Option V} {A:Around} {E:Value->Shared->Prop}
theorem Inv.big (I:Inv X pins σ H s):sysModules < s.heap.objs.size:=by
 have h:mainGlobals < s.heap.objs.size:=(I.mod.glob.keeps I.bk).lt
 exact Nat.lt_trans (by decide) h
end
theorem MD {P:Program} {w:World} {H:Hp} (h:Heap) (hb:sysModules < h.objs.size):ObjOk P w H (h.push { cls:=.type "dict",data:=.dict #[] }) h.objs.size (.dK []) :=
 ⟨aas _,beq_eq_false_iff_ne.mpr (Ne.symm (aaC hb)),[],.nil,Heap.DictOf.new h⟩
noncomputable def PZ:TE:=fun _ H Q=>∀ p,H p=none->Q (.ref p) (upd H p (.dK []))
section
variable {X:Cx} {pos:Pos}
theorem ME:PE X (.Dict [] [] pos) PZ:=fun pins s σ H Q I h =>
 wpAny_Dict_empty ⟨.ref s.heap.objs.size,_,I.laid (a:=s.heap.objs.size) (o:=.dK []) (t':=s.toks) (fun _ _ q=>Heap.get?_push_of_some _ q) (aao _) (MD s.heap I.big),rfl,h _ (I.hok.fresh (aao _))⟩
end
end L2
end
section
set_option maxHeartbeats 1000000
namespace L2
open PySem PySem.Spec PyProof.Rows PySem.W
section
variable {prog:Program} {w:World} {A:Around} {E:Value->Shared->Prop} {s:Shared} {K:Frag} {e C:Addr} {ox:Obj}
structure XCls (K:Frag) (C:Addr):Prop where
 ga:findIn K (.ref C) "__getattribute__" = some (some (.builtin "BaseException.__getattribute__"))
 gn:findIn K (.ref C) "__getattr__" = some none
 sb:subIn K (.ref C) (.type "BaseException")=some true
 cl:findIn K (.ref C) "__class__" = some (some (.builtin "object.__class__"))
 mo:mroIn K C (.type "object")=some true
 ty:typeIn K (.ref C)=some (.type "type")
 cc:(clsIn K C).isSome=true
noncomputable def XAt (e C:Addr) (h:Heap):Prop:=∃ oe,h.get? e=some oe/\oe.cls=.ref C
theorem XAt.type {M:Model} {h:Heap} (I:XAt e C h):Looks M h (typeOf (.ref e)) (.ref C):=by
 obtain ⟨oe,h1,h2⟩:=I
 exact h2 ▸ (Looks.ld h1).andThen .now
theorem P0 {R:Result->Shared->Prop} (X:K.In s.heap) (I:XAt e C s.heap) (c:XCls K C) (h:R (.ok (.ret (.ref C))) s) :
  codeAny (model prog w) A (.call (.builtin "getset_descriptor.__get__") ⟨[.builtin "object.__class__",.ref e,.ref C],[]⟩) R s:=by
 obtain ⟨hh,g,d,t,os⟩:=s
 have hT5:(⟨hh,g,d,t,os⟩:Shared).TypeIs (.builtin "object.__class__") "getset_descriptor" := F.typeOf_object_class
 have L0:=I.type (M:=model prog w)
 have L1:=looks_mroIn (M:=model prog w) X c.mo
 refine codeAny_call_builtin F.slot_gs_get.plain F.entry_gs_get (F.slot_gs_get.check _ _ _ _ _ _ _ _ hT5 (F.args_gs_get _ _ _) ?_)
 repeat (any_goals (first | assumption | refine L0.at ?_ | refine L1.at ?_ | refine wpAny_bind (L0.at ?_) | refine wpAny_bind (L1.at ?_) | wp_step))
 refine ⟨Code.quiet_builtin _ (by decide +kernel),codeAny_builtin KF.entry_class ?_⟩
 unfold Builtin.«object.__class__» shownTypeOf
 repeat (any_goals (first | assumption | refine L0.at ?_ | refine wpAny_bind (L0.at ?_) | wp_step))
theorem N7 {tk:Tok} {R:Result->Shared->Prop} (X:K.In s.heap) (I:XAt e C s.heap) (c:XCls K C) (h:R (.ok (.ret (.ref C))) s) :
  codeAny (model prog w) A (.call (.builtin "BaseException.__getattribute__") ⟨[.ref e,.str "__class__" tk],[]⟩) R s:=by
 obtain ⟨hh,g,d,t,os⟩:=s
 have L0:=I.type (M:=model prog w)
 have LS:=looks_subIn (M:=model prog w) X c.sb
 have LI:Looks (model prog w) hh (isInstance (.ref e) (.type "BaseException")) true:=L0.andThen LS
 have LC:=looks_findIn (M:=model prog w) X c.cl
 refine codeAny_call_builtin (by decide +kernel) F.entry_bexc_ga ?_
 have hk:builtinKind "BaseException.__getattribute__" = some .slot:=by decide +kernel
 have hsplit:splitId "BaseException.__getattribute__" = some ("BaseException", "__getattribute__"):=by decide +kernel
 have ha:=F.args_bexc_ga (.ref e) (.str "__class__" tk)
 simp only [checkBuiltinCall,hk,hsplit]
 refine wpAny_bind (LI.at ?_)
 unfold argsOk at ha
 simp only [abC,aa3,if_false]
 refine wpAny_of_eq ha ?_
 have hT5:(⟨hh,g,d,t,os⟩:Shared).TypeIs (.builtin "object.__class__") "getset_descriptor" := F.typeOf_object_class
 have f5:=F.typeOf_object_class
 have f6:=F.slot_gs_get.lookup
 have f7:=F.slot_gs_set.lookup
 repeat (any_goals (first | assumption | refine L0.at ?_ | refine wpAny_bind (L0.at ?_) | refine LC.at ?_ | refine wpAny_bind (LC.at ?_) | wp_step))
 exact P0 X I c (wpAny_pure h)
theorem N8 {Q:Option Value->Shared->Prop} (X:K.In s.heap) (I:XAt e C s.heap) (c:XCls K C) (h:Q (some (.ref C)) { s with toks:=s.toks + 1 }) :
  wpAny (model prog w) A (getAttr? (.ref e) "__class__") Q E s:=by
 obtain ⟨hh,g,d,t,os⟩:=s
 have L0:=I.type (M:=model prog w)
 have LG:=looks_findIn (M:=model prog w) X c.ga
 have LN:=looks_findIn (M:=model prog w) X c.gn
 have fb1:=F.excAttr_ValueError.ga.bind (.ref e)
 unfold getAttr? getAttrBy? getAttrBy
 repeat (first | refine wpAny_bind (L0.at ?_) | refine wpAny_bind (LG.at ?_) | refine wpAny_bind (LN.at ?_) | refine LN.at ?_ | wp_step)
 exact N7 (s:=⟨hh,g,d,t + 1,os⟩) X I c (handed_on rfl (wpAny_pure h))
theorem HJ (c:XCls K C):KitX K (.ref e) (.ref C) (XAt e C) where
 ty:=fun _ _ _ I=>I.type
 it:=fun M h X _=>by
  have hc:=c.cc
  unfold clsIn at hc
  split at hc
  ·rename_i ho
   intro A' Q' E' s' k q
   unfold isType loadHead
   exact wpAny_bind (wpAny_loadPart (k _ _ (X _ _ ho)) (wpAny_pure q))
  ·cases hc
 ne:=fun h tp dd its n sl X htp=>by
  refine abK.mpr fun q=>?_
  have e:C=tp:=Value.ref.inj (beq_iff_eq.mp q)
  subst e
  have hc:=c.cc
  unfold clsIn at hc
  split at hc
  ·rename_i ho
   have z:=(X _ _ ho).symm.trans htp
   cases z
  ·cases hc
 ca:=fun X I k=>N8 X I c k
end
noncomputable def xO (a C:Addr):HO:=.ext (XAt a C)
noncomputable def dO (a:Addr):HO:=.ext (KitAt a "dict")
inductive TyX (K:Frag) (H:Hp):V->Value->Prop where
 | dct {a:Addr} (y:H a=some (dO a)):TyX K H (.ref a) (.type "dict")
 | of {x:V} {t:Value} (y:TyOf K H x t):TyX K H x t
 | exc {a C:Addr} (y:H a=some (xO a C)) (c:XCls K C):TyX K H (.ref a) (.ref C)
noncomputable def clV:V->Option Value
 | .ty n=>some (.type n)
 | .ref C=>some (.ref C)
 | _=>none
noncomputable def Sw (K:Frag):List V->Hp->VK->Prop:=fun xs H Q=>∃ x c cv t b,xs=[x,c]/\clV c=some cv/\TyX K H x t/\kitOne K t cv=some b/\Q (.bl b) H
theorem MF {X:Cx}:CA X (.builtin "isinstance") (Sw X.K):=by
 intro pins s σ H xs us Q I r h
 obtain ⟨x,c,cv,t,b,rfl,hc,ty,e,q⟩:=h
 obtain ⟨u,w',rfl,ru,rw'⟩:=JQ r
 have ec:w'=cv:=by
  cases c with
  | ty n=>cases hc; exact rw'
  | ref C=>cases hc; exact rw'
  | _=>cases hc
 subst ec
 have fin:∀ tk,EP X pins σ Q (.bool b) { s with toks:=tk }:=fun tk=>⟨.bl b,H,I.tok tk,rfl,q⟩
 cases ty with
 | @dct a y =>
  cases (show u=Value.ref a from ru)
  exact kia_one kitx_dict I.kIn (I.hok a _ y).1 e (fun z=>nomatch z) fin
 | of y=>exact K3 I ru y e fin
 | @exc a C y c =>
  cases (show u=Value.ref a from ru)
  exact kia_one (HJ c) I.kIn (I.hok a _ y).1 e (fun z=>nomatch z) fin
theorem ObjOk.there {P:Program} {w:World} {H:Hp} {h:Heap} {a:Addr} {o:HO} (x:ObjOk P w H h a o):∃ ob,h.get? a=some ob:=by
 induction o with
 | lst xs=>obtain ⟨_,_,_,_,e⟩:=x; exact ⟨_,e⟩
 | tup xs=>obtain ⟨_,_,_,ob,e,_⟩:=x; exact ⟨_,e⟩
 | dK kvs=>obtain ⟨_,_,_,_,ob,_,_,e,_⟩:=x; exact ⟨_,e⟩
 | dT kvs=>obtain ⟨_,_,_,_,ob,_,_,e,_⟩:=x; exact ⟨_,e⟩
 | set S n=>obtain ⟨ob,_,_,_,e,_⟩:=x; exact ⟨_,e⟩
 | ins C dx fs=>obtain ⟨_,_,_,e,_⟩:=x; exact ⟨_,e⟩
 | own y=>exact x
 | xd fs=>obtain ⟨_,⟨od,_,_,e,_⟩,_⟩:=x; exact ⟨_,e⟩
 | rng lo hi=>obtain ⟨_,_,_,e⟩:=x; exact ⟨_,e⟩
 | frz ob u _=>exact ⟨_,x.1⟩
 | tbl ps=>exact ⟨_,x⟩
 | met f y=>exact ⟨_,x⟩
 | ext φ=>exact x.2.1
theorem HOk.hide {P:Program} {w:World} {H:Hp} {h:Heap} (x:HOk P w H h) {fs:List Addr} (hf:∀ b ∈ fs,H b=none):HOk P w H (hideAll h fs):=fun a o e =>
 (x a o e).stay (fun b u hb q=>hideAll_get _ q fun z=>by
  have n:=hf b z
  rcases hb with rfl | hb
  ·rw [n] at e; cases e
  ·rw [n] at hb; cases hb) (fun _ q=>q) fun _ _ q=>q
noncomputable def CXe (P:Program) (w:World):CXT:=fun outer H s E ev s'=>∃ (e:Addr) (cls a0:Value) (H':Hp) (B:Heap),ev=.ref e/\s'.os=s.os/\AllBare s'.gens/\Heap.FlyingW B outer e cls a0 s'.heap/\HOk P w H' B/\H' e=none /\
 (∀ b o,s.heap.get? b=some o->H b=none->b ∉ frs outer->B.get? b=some o)/\(∀ b o,s.heap.get? b=some o->H b=none->b ∈ frs outer->∃ sl,s'.heap.get? b=some { o with slots:=sl }) /\
 (∀ b o,s.heap.get? b=some o->H b=none->H' b=none)/\(∀ b o,s.heap.get? b=some o->b ∉ frs outer->∃ o',B.get? b=some o') /\
 (∀ b xs,H b=some (.tup xs)->H' b=some (.tup xs))/\(∀ b o u,H b=some (.frz o u)->H' b=some (.frz o u))/\(∀ b ps,H b=some (.tbl ps)->∃ more,H' b=some (.tbl (ps ++ more)))/\E cls none H'
noncomputable def JW (X:Cx) (E:XK):Prop:=∀ (pins:List (Addr × Obj)) (σ:St) (H:Hp) (s:Shared) (h':Heap) (e C:Addr) (vs:List Value),Inv X pins σ H s->Heap.MadeExcOf s.heap h' e (.ref C) vs->E (.ref C) none H->X.xe (.ref e) { s with heap:=h' }
section
variable {P:Program} {w:World} {K:Frag} {mg:Str->Option Value} {base:Heap} {N:List Str} {qual:Str} {scope:Scope} {f:Addr} {cd:Value} {A:Around} {outer:List Env} {s₀:Shared} {H₀:Hp} {E E':XK}
theorem MG (hE:∀ c d H,E c d H->E' c d H):JW (BF (CXe P w) P w K mg base N qual scope f cd A outer s₀ H₀ E') E:=by
 intro pins σ H s h' e C vs I hx he
 show wpAny _ _ (leaving _ (.ref e)) _ _ _
 have hfr:∀ env ∈ (BF (CXe P w) P w K mg base N qual scope f cd A outer s₀ H₀ E').stack,∀ b,env.frame=some b->b ∈ frs (BF (CXe P w) P w K mg base N qual scope f cd A outer s₀ H₀ E').stack:=fun env h b hb=>aaN.mpr ⟨env,h,hb⟩
 have hB:=I.hok.hide I.stkFree
 have hff:=funFrames_hide I.stack hfr
 have en:H e=none:=by
  cases q:H e with
  | none=>rfl
  | some o=>obtain ⟨ob,z⟩:=(I.hok e o q).there; rw [hx.new] at z; cases z
 refine wpAny_leaves_madeW (base:=hideAll s.heap (frs (BF (CXe P w) P w K mg base N qual scope f cd A outer s₀ H₀ E').stack)) I.ok.frames rfl (fun b o q=>of_hideAll _ q) hff hx fun h2 t fl _ _ up=>?_
 have sub:∀ b ∈ frs outer,b ∈ frs (BF (CXe P w) P w K mg base N qual scope f cd A outer s₀ H₀ E').stack:=fun b hb=>by
  obtain ⟨env,h1,h2⟩:=aaN.mp hb
  exact aaN.mpr ⟨env,aaa _ h1,h2⟩
 have nloc:∀ b o,s₀.heap.get? b=some o->b ≠ s₀.heap.objs.size:=fun b o q z=>by
  have:=Heap.lt_size q
  exact aaW _ (z ▸ this)
 have nfr:∀ b o,s₀.heap.get? b=some o->b ∉ frs outer->b ∉ frs (BF (CXe P w) P w K mg base N qual scope f cd A outer s₀ H₀ E').stack:=fun b o q hb z=>by
  obtain ⟨env,h1,h2⟩:=aaN.mp z
  rcases aai.mp h1 with rfl | h1
  ·exact nloc b o q (Option.some.inj h2).symm
  ·exact hb (aaN.mpr ⟨env,h1,h2⟩)
 have nx:∀ b:Addr,b ∉ (BF (CXe P w) P w K mg base N qual scope f cd A outer s₀ H₀ E').ex:=fun b z=>absurd (show b ∈ ([]:List Addr) from z) (by simp)
 refine ⟨e,.ref C,.ref t,H,_,rfl,I.os,I.bare,fl,hB,en,fun b o q n hb=>hideAll_get _ (I.base.keep b o q n hb (nx b)) (nfr b o q hb),fun b o q n hb=>?_,fun b o q n=>I.base.free b o q n (nx b),fun b o q hb=>?_,I.base.tups,I.base.frzs,I.base.tbls,hE _ _ _ he⟩
 ·obtain ⟨sl,e1⟩:=I.base.slot b o q n hb (nx b)
  obtain ⟨⟨hn,o2,ho2,hnf⟩⟩:=And.intro (I.stack.mem (sub b hb)) trivial
  rw [e1] at ho2
  cases ho2
  obtain ⟨sl2,e2⟩:=up b _ (hx.keeps b _ e1) hnf
  exact ⟨sl2,e2⟩
 ·obtain ⟨o',e1⟩:=I.base.there b o q (nx b)
  exact ⟨o',hideAll_get _ e1 (nfr b o q hb)⟩
theorem Rq (hE:∀ c d H,E c d H->E' c d H):PQ (CXe P w) (BF (CXe P w) P w K mg base N qual scope f cd A outer s₀ H₀ E') E:=by
 intro pins σ H s ev s' I h
 obtain ⟨e,cls,a0,H',B,rfl,ho,hg,fl,hok,en,keep,slot,free,there,tups,frzs,tbls,he⟩:=h
 show wpAny _ _ (leaving _ (.ref e)) _ _ _
 refine wpAny_leaves_onW (base:=B) I.ok.frames rfl fl fun h2 fl2 up=>?_
 have sub:∀ b ∈ frs outer,b ∈ frs (BF (CXe P w) P w K mg base N qual scope f cd A outer s₀ H₀ E').stack:=fun b hb=>by
  obtain ⟨env,h1,h2⟩:=aaN.mp hb
  exact aaN.mpr ⟨env,aaa _ h1,h2⟩
 have nfr:∀ b o,s₀.heap.get? b=some o->b ∉ frs outer->b ∉ frs (BF (CXe P w) P w K mg base N qual scope f cd A outer s₀ H₀ E').stack:=fun b o q hb z=>by
  obtain ⟨env,h1,h2⟩:=aaN.mp z
  rcases aai.mp h1 with rfl | h1
  ·exact aaW _ ((Option.some.inj h2).symm ▸ Heap.lt_size q)
  ·exact hb (aaN.mpr ⟨env,h1,h2⟩)
 have nx:∀ b:Addr,b ∉ (BF (CXe P w) P w K mg base N qual scope f cd A outer s₀ H₀ E').ex:=fun b z=>absurd (show b ∈ ([]:List Addr) from z) (by simp)
 have frNF:∀ b o,s'.heap.get? b=some o->b ∈ frs (BF (CXe P w) P w K mg base N qual scope f cd A outer s₀ H₀ E').stack->∃ sl,h2.get? b=some { o with slots:=sl }:=fun b o q hb=>by
  obtain ⟨hn,o2,ho2,hnf⟩:=fl.2.2.1.mem hb
  rw [q] at ho2
  cases ho2
  exact up b _ q hnf
 refine ⟨e,cls,a0,H',B,rfl,ho.trans I.os,hg,fl2,hok,en,fun b o q n hb=>keep b o (I.base.keep b o q n hb (nx b)) (I.base.free b o q n (nx b)) (nfr b o q hb),fun b o q n hb=>?_,
  fun b o q n=>?_,fun b o q hb=>?_,fun b xs q=>tups b xs (I.base.tups b xs q),fun b o u q=>frzs b o u (I.base.frzs b o u q),fun b ps q=>?_,hE _ _ _ he⟩
 ·obtain ⟨sl,e1⟩:=I.base.slot b o q n hb (nx b)
  obtain ⟨sl1,e2⟩:=slot b _ e1 (I.base.free b o q n (nx b)) (sub b hb)
  obtain ⟨sl2,e3⟩:=frNF b _ e2 (sub b hb)
  exact ⟨sl2,e3⟩
 ·obtain ⟨o',e1⟩:=I.base.there b o q (nx b)
  exact free b o' e1 (I.base.free b o q n (nx b))
 ·obtain ⟨o',e1⟩:=I.base.there b o q (nx b)
  exact there b o' e1 (nfr b o q hb)
 ·obtain ⟨m1,e1⟩:=I.base.tbls b ps q
  obtain ⟨m2,e2⟩:=tbls b _ e1
  exact ⟨m1 ++ m2,by rw [e2,Array.append_assoc]⟩
end
section
variable {X:Cx} {C:Addr} {x:Str} {e:Expr} {es:List Expr} {t:TA} {E:XK} {np cpos pos:Pos}
abbrev GM:List Value:=[.type "ValueError",.type "Exception",.type "BaseException",.type "object"]
theorem P5 {h:Heap} (KX:X.K.In h) (G:h.Ns mainGlobals X.mg) (B:∃ mb,h.Ns builtinsNs mb/\∀ x:Str,x ≠ "__name__" -> mb x=bootBuiltins x) (L:h.NoLimit) (hm:nsIn X.K mainGlobals x=some (some (.ref C))) (hC:excIn X.K C GM "ValueError.__new__" = true) :
  OwnCls x C GM "ValueError.__new__" X.mg h:=by
 obtain ⟨mb,Bn,hb⟩:=B
 obtain ⟨o,es,ep,ho,hd,hs,hf⟩:=id G
 have T:TopRead default (es.toList.filterMap fun d=>match d.key with | .str n _=>some n | _=>none) X.mg mb h:=⟨G,Bn,L,hb,fun y _ hy _ _ _=>by
  rw [<- hf y]
  unfold nsFind findBy
  rw [Option.map_eq_none_iff,Array.find?_eq_none]
  intro d hm hy2
  obtain ⟨n,tk,ek⟩:=hs d hm
  rw [ek] at hy2
  have en:n=y:=by simpa [Value.isStr] using hy2
  exact hy (aaN.mpr ⟨d,by simpa using hm,by rw [ek,en]⟩)⟩
 exact own_of_in KX T hm hC
theorem MH (hw:JW X E) (hc:X.calm=true) (hg:Gl X x) (hn:nsIn X.K mainGlobals x=some (some (.ref C))) (hC:excIn X.K C GM "ValueError.__new__" = true) (ha:PA X (e :: es) t) (hd:(x==("__debug__" : Str))=false:=by decide)
  (he:starEach (e :: es) X.env=(false,eval e X.env) :: starEach es X.env:=by rfl) (hpl:(backTo cpos (starEach es X.env)).any (·.1)=false:=by rfl) :
  PS X (.Raise (some (.Call (.Name x np) (e :: es) [] cpos)) none pos) (fun D σ H=>t σ H fun vs H1=>vs.length<=sizeLine/\E (.ref C) none H1):=by
 intro pins s σ H D I h
 have O:=P5 (X:=X) I.mod.kin I.mod.glob I.mod.blt I.mod.nolimit hn hC
 obtain ⟨bm,N',nm,q,bs,hdct,sn,sub,ab,col,dd,k0,k1,k2,k3,k5,mN,hCo,hN,hni,T⟩:=O.obj
 refine wpAny_Raise_call_subT (nm:=nm) (q:=q) (N:=N') (bs:=bs) (bm:=bm) (hdct:=hdct) (sn:=sn) (sub:=sub) (ab:=ab) (col:=col) (dd:=dd) (k0:=k0) (k1:=k1) (k2:=k2) (k3:=k3) (k5:=k5) PySem.F.excBase_ValueError (mN:=mN) (T.hasType rfl) (I.ok.hd hc) (by rw [he]; exact hpl) hni (FB I hg O.bound ⟨rfl,?_⟩ hd)
 have h2:=ha cpos pins s σ H _ I h
 rw [he] at h2 ⊢
 exact Calls.evalArgs_plain (thn h2 fun us s1 ⟨vs,H1,I1,r,q⟩=>⟨rfl,r.length ▸ q.1,I1.bk _ _ hCo,hN.keeps I1.bk,T.keeps I1.bk,fun h' ex hx=>hw pins σ H1 s1 h' ex C us I1 hx q.2⟩)
end
noncomputable abbrev EXT:=St->XK
noncomputable def DM (CX:CXT) (X:Cx) (E:EXT):Prop:=∀ (pins:List (Addr × Obj)) (σ:St) (H:Hp) (s:Shared) (e:Value) (s':Shared),Inv X pins σ H s->CX X.stack H s (E σ) e s'->X.xe e s'
noncomputable def Le (sp:Sp) (dvs:List V) (E:EXT) (t:TA):TE:=fun σ H Q=>t σ H fun vs H1=>sp (vs ++ dvs) H1 Q (E σ)
section
variable {X:Cx} {CX:CXT} {k:Nat} {f:Addr} {fd:FuncData} {ps:List Str} {sp:Sp} {dvs:List V} {ds:List Value} {E:EXT} {x:Str} {p pos:Pos} {e:Expr} {es:List Expr} {t:TA}
theorem MI (F:FnOk X.prog X.w X.K X.mg X.base CX k f fd ps sp) (hr:Room k X.A) (hg:Gl X x) (hm:X.mg x=some (.ref f)) (hk:PySem.W.keepIn X.K (.ref f)=true) (hb:Binds X.K fd ps ds) (hd:Vals dvs ds) (hx:DM CX X E)
  (ha:PA X (e :: es) t) (hdb:(x==("__debug__" : Str))=false:=by decide) (he:starEach (e :: es) X.env=(false,eval e X.env) :: starEach es X.env:=by rfl) (hpl:(backTo pos (starEach es X.env)).any (·.1)=false:=by rfl) :
  PE X (.Call (.Name x p) (e :: es) [] pos) (Le sp dvs E t):=by
 intro pins s σ H Q I h
 refine wpAny_Call_Name_kw (FB I hg hm ?_ hdb)
 refine PySem.W.callWith_K (h₀:=X.base) I.ok.mod.kin hk (thn (ha pos pins s σ H _ I h) fun us s1 ⟨vs,H1,I1,r,q⟩=>⟨I1.kIn,?_⟩) he hpl
 have r2:Vals (vs ++ dvs) (us ++ ds):=r.append hd
 have hl:(us ++ ds).length=ps.length:=r2.length ▸ F.len _ _ _ _ q
 refine wpAny_call (codeAny_mono (F.run X.A X.stack s1 H1 ⟨us,[]⟩ (us ++ ds) (vs ++ dvs) Q (E σ) hr I1.env0 (hb s1 us I1.kIn hl) r2 q) fun rr s' hq=>?_)
 rcases rr with ev | fl
 ·exact hx pins σ H1 s1 ev s' I1 hq
 ·cases fl with
  | ret u=>exact I1.after hq
  | next=>exact False.elim hq
  | brk=>exact False.elim hq
  | cont=>exact False.elim hq
end
noncomputable def Cx.inX (X:Cx) (e:Addr):Cx:={ X with A:=X.A.mark (some (.ref e)),calm:=false,xe:=fun _ _=>False }
theorem Cx.Ok.inX {X:Cx} (ok:X.Ok) (e:Addr):(X.inX e).Ok :=
 ⟨ok.mod,ok.kind,ok.glob,ok.blt,ok.above,ok.inj,ok.has,ok.cab,fun z=>(nomatch z),ok.frames,ok.stk,ok.exf,ok.bs,ok.bsz,ok.noex,ok.exfs,ok.funs,ok.frf⟩
theorem Inv.inX {X:Cx} {pins:List (Addr × Obj)} {σ:St} {H:Hp} {s:Shared} (I:Inv X pins σ H s) (e:Addr):Inv (X.inX e) pins σ H s:=⟨I.ok.inX e,I.os,I.bare,I.base,I.loc,I.cell,I.free,I.freeC,I.pin,I.hok,I.len⟩
theorem Inv.outX {X:Cx} {pins:List (Addr × Obj)} {σ:St} {H:Hp} {s:Shared} {e:Addr} (ok:X.Ok) (I:Inv (X.inX e) pins σ H s):Inv X pins σ H s:=⟨ok,I.os,I.bare,I.base,I.loc,I.cell,I.free,I.freeC,I.pin,I.hok,I.len⟩
noncomputable abbrev WT:=Value->Shared->Prop
noncomputable abbrev PT0:=List (Addr × Obj)
noncomputable def P6 (K:Frag) (c:Value) (i:Nat) (tb:EXT->WT->PT0->TS) (th:Addr->TS) (te:TS):TS:=fun D σ H=>∀ (W:WT) (pn:PT0),
 tb (fun σ1 cls _ H1=>∃ C,cls=.ref C/\exmOne K (.ref C) c=some true/\∀ e,H1 e=none->th e { nx:=fun σ2 H2=>D.nx (σ2.set i none) H2,rt:=D.rt } (σ1.set i (some (.ref e))) (upd H1 e (xO e C))) W pn { D with nx:=te D } σ H
noncomputable abbrev Cx.inT (X:Cx) (W:Value->Shared->Prop) (pn:List (Addr × Obj)):Cx:={ X with xe:=W,pn:=pn }
theorem Cx.Ok.inT {X:Cx} (ok:X.Ok) (W:Value->Shared->Prop) (pn:List (Addr × Obj)):(X.inT W pn).Ok :=
 ⟨ok.mod,ok.kind,ok.glob,ok.blt,ok.above,ok.inj,ok.has,ok.cab,ok.hd,ok.frames,ok.stk,ok.exf,ok.bs,ok.bsz,ok.noex,ok.exfs,ok.funs,ok.frf⟩
theorem Inv.intoT {X:Cx} {pins:List (Addr × Obj)} {σ:St} {H:Hp} {s:Shared} (I:Inv X pins σ H s) (W:Value->Shared->Prop):Inv (X.inT W (X.pn ++ pins)) [] σ H s :=
 ⟨I.ok.inT W _,I.os,I.bare,I.base,I.loc,I.cell,I.free,I.freeC,fun p hp=>I.pin p (by rcases aae.mp hp with z | z; exact z; cases z),I.hok,I.len⟩
theorem Inv.outT {X:Cx} {pins pins':List (Addr × Obj)} {σ:St} {H:Hp} {s:Shared} {W:Value->Shared->Prop} (ok:X.Ok) (I:Inv (X.inT W (X.pn ++ pins)) pins' σ H s):Inv X pins σ H s :=
 ⟨ok,I.os,I.bare,I.base,I.loc,I.cell,I.free,I.freeC,fun p hp=>I.pin p (aan _ hp),I.hok,I.len⟩
section
variable {X:Cx} {pins:List (Addr × Obj)} {σ:St} {H:Hp} {s:Shared}
theorem Jc {M:Model} {A:Around} {E:Value->Shared->Prop} {i:Nat} {n:Str} {pos:Pos} {Q:Unit->Shared->Prop} (I:Inv X pins σ H s) (hN:X.N.Nodup) (hi:X.N[i]?=some n) (hk:X.env.kindOf n=some .local)
  (h:∀ s',Inv X pins (σ.set i none) H s'->Q () s'):wpAny M A (do bindName X.env n .none; unbindBehindTheSuite X.env n pos) Q E s:=by
 obtain ⟨m,hn,hl⟩:=id I.loc
 have hcls:(X.env.scope.kind==.class || (X.env.scope.kind==.module && X.env.locals != X.env.globals))=false:=by rw [I.ok.kind]; rfl
 obtain ⟨oL,_,_,hoL,_⟩:=id hn
 have ab:=I.ok.above
 refine wpAny_nameGoes_keeps hk hn hcls fun h' v hn' hs=>h _ ⟨I.ok,I.os,I.bare,⟨fun b o e n hb hx=>?_,fun b o e n hb hx=>?_,I.base.free,fun b o e hx=>?_,I.base.tups,I.base.frzs,I.base.tbls⟩,⟨_,hn',fun j y v' e1 e2 e3=>?_⟩,fun y c e=>?_,I.free,I.freeC,fun p hp=>?_,fun b ob e=>?_,by simpa using I.len⟩
 ·exact (hs.2 b (aaC (aau (Heap.lt_size e) ab))).trans (I.base.keep b o e n hb hx)
 ·obtain ⟨sl,e1⟩:=I.base.slot b o e n hb hx
  exact ⟨sl,(hs.2 b (aaC (aau (Heap.lt_size e) ab))).trans e1⟩
 ·obtain ⟨o',e1⟩:=I.base.there b o e hx
  exact ⟨o',(hs.2 b (aaC (aau (Heap.lt_size e) ab))).trans e1⟩
 ·have hj:j ≠ i:=fun z=>by
   subst z
   rw [ab6] at e2
   split at e2
   ·split at e2 <;> cases e2
   ·rename_i z; exact z rfl
  rw [aap (Ne.symm hj)] at e2
  obtain ⟨u',r',q⟩:=hl j y v' e1 e2 e3
  refine ⟨u',r',?_⟩
  rcases q with ⟨k,e⟩ | ⟨k,c,e,z⟩
  ·refine .inl ⟨k,?_⟩
   have:y ≠ n:=fun e=>hj (FR hN e1 (e ▸ hi))
   simp [this,e]
  ·exact .inr ⟨k,c,e,z.sameBut hs (I.cne y c e)⟩
 ·obtain ⟨w',z⟩:=I.cell y c e
  exact ⟨w',z.sameBut hs (I.cne y c e)⟩
 ·obtain ⟨e,n,ne,nf,d⟩:=I.pin p hp
  exact ⟨(hs.2 p.1 ne).trans e,n,ne,nf,d⟩
 ·refine (I.hok b ob e).stay (fun c w' hc q=>(hs.2 c ?_).trans q) (fun _ q=>q) fun _ _ q=>q
  rintro rfl
  have hfree:=I.free
  rcases hc with rfl | hc
  ·rw [hfree] at e; cases e
  ·rw [hfree] at hc; cases hc
theorem Inv.landed {s':Shared} {h5 B:Heap} {e C:Addr} {a0:Value} {H':Hp} (I:Inv X pins σ H s) (hs:X.stack=X.env :: X.outer) (hf:X.env.frame=some X.env.locals) (ho:s'.os=s.os) (hg:AllBare s'.gens)
  (fl:Heap.FlyingW B X.stack e (.ref C) a0 h5) (up:s'.heap.UpToSlots h5) (fl0:Heap.FlyingW B X.stack e (.ref C) a0 s'.heap) (hok:HOk X.prog X.w H' B) (en:H' e=none)
  (keep:∀ b o,s.heap.get? b=some o->H b=none->b ∉ frs X.stack->B.get? b=some o) (slot:∀ b o,s.heap.get? b=some o->H b=none->b ∈ frs X.stack->∃ sl,s'.heap.get? b=some { o with slots:=sl })
  (free:∀ b o,s.heap.get? b=some o->H b=none->H' b=none) (there:∀ b o,s.heap.get? b=some o->b ∉ frs X.stack->∃ o',B.get? b=some o')
  (tups:∀ b xs,H b=some (.tup xs)->H' b=some (.tup xs)) (frzs:∀ b o u,H b=some (.frz o u)->H' b=some (.frz o u)) (tbls:∀ b ps,H b=some (.tbl ps)->∃ more,H' b=some (.tbl (ps ++ more))) {t':Nat} :
  Inv X pins σ (upd H' e (xO e C)) { s' with heap:=h5,toks:=t' }:=by
 have mem:∀ b,b ∈ frs X.stack ↔ b=X.env.locals\/b ∈ X.fs:=fun b=>by
  rw [hs]; unfold frs Cx.fs frs
  rw [abc,hf]
  exact aai
 have frs5:∀ b o,s.heap.get? b=some o->H b=none->b ∈ frs X.stack->∃ sl,h5.get? b=some { o with slots:=sl }:=fun b o q n hb=>by
  obtain ⟨sl,e1⟩:=slot b o q n hb
  obtain ⟨_,o2,ho2,hnf⟩:=fl0.2.2.1.mem hb
  rw [e1] at ho2
  cases ho2
  obtain ⟨sl2,e2⟩:=up b _ e1 hnf
  exact ⟨sl2,e2⟩
 have nee:∀ b,b ∈ frs X.stack->b ≠ e:=fun b hb z=>by
  subst z
  obtain ⟨_,o2,ho2,hnf⟩:=fl.2.2.1.mem hb
  obtain ⟨oe,vs,h1,_,h2,_⟩:=fl.first
  rw [h1] at ho2
  cases ho2
  exact hnf vs h2
 have upne:∀ b o,H' b=some o->(upd H' e (xO e C)) b=some o:=fun b o q=>by rw [Al (fun z=>by subst z; rw [en] at q; cases q)]; exact q
 have neo:∀ b o,s.heap.get? b=some o->H b=none->b ≠ e:=fun b o q n=>by
  by_cases hb:b ∈ frs X.stack
  ·exact nee b hb
  ·intro z; subst z
   have:=keep b o q n hb
   rw [fl.2.1] at this; cases this
 obtain ⟨hh,g2,d2,t2,os2⟩:=s'
 obtain rfl:os2=s.os:=ho
 show Inv X pins σ _ { s with heap:=h5,gens:=g2,drawn:=d2,toks:=t' }
 refine I.step (h':=h5) (g':=g2) (d':=d2) (t':=t') (ch:=[]) (fun b z=>absurd z (by simp)) (fun b o hb hbf _ q n=>fl.1 b o (keep b o q n fun z=>?_)) (fun b o hb hbf _ q n=>frs5 b o q n ((mem b).mpr (.inr hbf))) (fun b o _ q n=>?_) (fun b o _ q=>?_)
  (fun b xs q=>upne b _ (tups b xs q)) (fun b o u q=>upne b _ (frzs b o u q)) (fun b ps q=>?_) (fun m hn=>?_) ?_ hg
 ·rcases (mem b).mp z with z | z
  ·exact hb z
  ·exact hbf z
 ·rw [Al (neo b o q n)]; exact free b o q n
 ·by_cases hb:b ∈ frs X.stack
  ·have n:H b=none:=I.stkFree b hb
   obtain ⟨sl,e2⟩:=frs5 b o q n hb
   exact ⟨_,e2⟩
  ·obtain ⟨o',e1⟩:=there b o q hb
   exact ⟨o',fl.1 b o' e1⟩
 ·obtain ⟨m2,e2⟩:=tbls b ps q
  exact ⟨m2,upne b _ e2⟩
 ·obtain ⟨oL,es,ep,hoL,hd,hk,hm⟩:=hn
  obtain ⟨sl,e2⟩:=frs5 _ _ hoL I.free ((mem _).mpr (.inl rfl))
  exact ⟨_,es,ep,e2,hd,hk,hm⟩
 ·intro b o q
  by_cases hb:b=e
  ·subst hb
   rw [AJ] at q
   cases q
   obtain ⟨oe,h1,h2⟩:=fl.there
   exact ⟨⟨oe,h1,h2⟩,⟨oe,h1⟩,fun h1 h2 ⟨o,e1,e2⟩ k=>⟨o,k o e1,e2⟩⟩
  ·rw [Al hb] at q
   refine (hok b o q).stay (fun c u _ z=>fl.1 c u z) (fun c z=>upne c _ z) fun c xs z=>upne c _ z
theorem P7 {body suite orelse:List Stmt} {b₀:Stmt} {n x:Str} {np hpos pos:Pos} {i:Nat} {c:Value} {tb:EXT->WT->PT0->TS} {th:Addr->TS} {te:TS} (hc:X.calm=true) (hs:X.stack=X.env :: X.outer) (hf:X.env.frame=some X.env.locals)
  (hN:X.N.Nodup) (hi:X.N[i]?=some n) (hk:X.env.kindOf n=some .local) (hg:Gl X x) (hm:X.mg x=some c)
  (hb:∀ (E:EXT) (W:Value->Shared->Prop) (pn:List (Addr × Obj)),DM (CXe X.prog X.w) (X.inT W pn) E->PSs (X.inT W pn) body (tb E W pn)) (hh:∀ e,PSs (X.inX e) (b₀ :: suite) (th e)) (ho:PSs X orelse te)
  (hd:(x==("__debug__" : Str))=false:=by decide) :
  PS X (.Try body [.ExceptHandler (some (.Name x np)) (some n) (b₀ :: suite) hpos] orelse [] pos) (P6 X.K c i tb th te):=by
 intro pins s σ H D I h
 refine wpAny_Try_except ?_
 have I2:=I.intoT (W:=fun e s₁=>wpAny (model X.prog X.w) X.A (noteFrame e X.env) (fun _ s₂=>wpAny (model X.prog X.w) X.A (setFlight e none) (fun _ s₃=>wpAny (model X.prog X.w) X.A (handleBy e X.env [.ExceptHandler (some (.Name x np)) (some n) (b₀ :: suite) hpos]) (SP X pins D) X.xe s₃) X.xe s₂) X.xe s₁)
 refine thn (hb _ _ _ ?_ [] s σ H _ I2 (h _ _)) fun f s1 q=>?_
 ·intro pins' σ1 H1 s1 ev s' I1 hcx
  obtain ⟨e,cls,a0,H',B,rfl,hos,hgn,fl,hok,en,keep,slot,free,there,tups,frzs,tbls,C,rfl,hex,hth⟩:=hcx
  have J:Inv X pins σ1 H1 s1:=I1.outT I.ok
  have fl':Heap.FlyingW B (X.env :: X.outer) e (.ref C) a0 s'.heap:=hs ▸ fl
  refine wpAny_looks_onW (base:=B) (by rw [I.ok.frames,hs]) hf fl' fun h4 held up4=>?_
  refine wpAny_landsW held fun h5 fl5 up5=>?_
  have up45:=up4.trans up5
  have J5:=J.landed (s':=s') (h5:=h5) (t':=s'.toks) hs hf hos hgn (hs.symm ▸ fl5) up45 fl hok en keep slot free there tups frzs tbls
  refine wpAny_handleBy_cons (codeAny_handlers_test (FB (X:=X.inX e) (J5.inX e) hg hm ?_ hd)) (by intro q; cases q)
  have LT:Looks (model X.prog X.w) h5 (typeOf (.ref e)) (.ref C):=XAt.type fl5.there
  refine (exm_one J5.kIn LT hex).here ?_
  refine codeAny_handlers_suite_as ?_
  refine lands_againW fl5 fun h6 fl6 up6=>?_
  have J6:=J.landed (s':=s') (h5:=h6) (t':=s'.toks) hs hf hos hgn (hs.symm ▸ fl6) (up45.trans up6) fl hok en keep slot free there tups frzs tbls
  refine FS (X:=X.inX e) (v:=.ref e) (J6.inX e) hN hi (.inl hk) rfl (fun s7 J7=>?_) (.inr hk)
  refine wpAny_mono (hh e pins s7 _ _ _ J7 (hth e en)) (fun f s8 q8=>?_) fun _ _ z=>z.elim
  cases f with
  | next =>
   obtain ⟨σ2,H2,K2,q2⟩:=q8
   exact Jc (K2.outX I.ok) hN hi hk fun s9 K9=>⟨_,H2,K9,q2⟩
  | ret u =>
   obtain ⟨v,σ2,H2,K2,rv,q2⟩:=q8
   exact Jc (K2.outX I.ok) hN hi hk fun s9 K9=>⟨v,_,H2,K9,rv,q2⟩
  | brk =>
   obtain ⟨_,_,_,q2⟩:=q8
   exact False.elim q2
  | cont =>
   obtain ⟨_,_,_,q2⟩:=q8
   exact False.elim q2
 ·cases f with
  | next =>
   obtain ⟨σ2,H2,K2,q2⟩:=q
   exact ho pins s1 σ2 H2 D (K2.outT I.ok) q2
  | ret u =>
   obtain ⟨v,σ2,H2,K2,rv,q2⟩:=q
   exact ⟨v,σ2,H2,K2.outT I.ok,rv,q2⟩
  | brk =>
   obtain ⟨σ2,H2,K2,q2⟩:=q
   exact ⟨σ2,H2,K2.outT I.ok,q2⟩
  | cont =>
   obtain ⟨σ2,H2,K2,q2⟩:=q
   exact ⟨σ2,H2,K2.outT I.ok,q2⟩
end
noncomputable abbrev Jd (ifs:List Expr) (env:Env):Sem Bool:=forIn ifs true fun c r=>if r=true then do let ok <- isTrue c env (eval c env); pure (ForInStep.yield ok) else pure (ForInStep.yield r)
section
variable {prog:Program} {w:World} {A:Around} {R:Result->Shared->Prop} {s:Shared} {elt tg iter:Expr} {ifs:List Expr} {scope:Scope} {pos:Pos} {it acc:Value} {env:Env}
theorem EZ (I:Nat->Shared->Prop)
  (turn:∀ n s,I n s->wpAny (model prog w) A (pyNext it) (fun r s1=>match r with
   | none=>R (.ok .next) s1
   | some v=>wpAny (model prog w) A (letOwnedTupleGo tg it v) (fun _ s2=>wpAny (model prog w) A (assign tg env v) (fun _ s3=>wpAny (model prog w) A (Jd ifs env) (fun ok s4 =>
     if ok=true then wpAny (model prog w) A (eval elt env) (fun x s5=>wpAny (model prog w) A (call (.builtin "list.append") [acc,x]) (fun _ s6=>∃ m,m < n/\I m s6) (fun _ _=>False) s5) (fun _ _=>False) s4
     else ∃ m,m < n/\I m s4) (fun _ _=>False) s3) (fun _ _=>False) s2) (fun _ _=>False) s1) (fun _ _=>False) s) (n:Nat) (h:I n s) :
  codeAny (model prog w) A (.compLoop (.ListComp elt [⟨tg,iter,ifs,0⟩] scope pos) 0 it acc env) R s:=by
 refine codeAny_loop rfl I (fun k s' hk=>?_) n h
 show wpAny _ A ((compTurn (.ListComp elt [⟨tg,iter,ifs,0⟩] scope pos) 0 it acc env).onRaise (fun z=>do noteFrame z env; theTreesLotGoes z)) _ _ s'
 refine wpAny_noted ?_
 rw [compTurn_list]
 have no:∀ {Z:Value->Shared->Prop} (x:Value) (t:Shared),False->Z x t:=fun _ _ z=>z.elim
 refine wpAny_bind (wpAny_standAt ?_)
 refine wpAny_bind (wpAny_mono (turn k s' hk) (fun r s1 h1=>?_) no)
 rcases r with _ | v
 ·exact wpAny_pure h1
 ·refine wpAny_bind (wpAny_mono h1 (fun _ s2 h2=>?_) no)
  refine wpAny_bind (wpAny_mono h2 (fun _ s3 h3=>?_) no)
  refine wpAny_bind (wpAny_mono h3 (fun ok s4 h4=>?_) no)
  cases ok with
  | false=>exact wpAny_pure ⟨rfl,h4⟩
  | true =>
   refine wpAny_bind ?_
   refine wpAny_bind (wpAny_mono h4 (fun x s5 h5=>?_) no)
   exact wpAny_bind (wpAny_mono h5 (fun _ s6 h6=>wpAny_pure (wpAny_pure ⟨rfl,h6⟩)) no)
noncomputable def BJ (env:Env) (names:List (Str × NameKind)) (cs:List (Str × Addr)):List (Str × Addr):=names.foldl (fun cs x=>if (x.2==NameKind.free)=true then (x.1,(env.cells.lookup x.1).getD 0) :: cs else cs) cs
theorem Gi {α β:Type} (f:α->β->Sem (ForInStep β)) (g:β->α->β):∀ (l:List α) (b:β),(∀ x ∈ l,∀ b,f x b=pure (ForInStep.yield (g b x)))->forIn l b f=pure (l.foldl g b)
 | [],b,_=>rfl
 | x :: l,b,h=>by
  rw [List.forIn_cons,h x (aac ..) b,abT]
  exact Gi f g l (g b x) fun y hy=>h y (aaa _ hy)
theorem Gj (h:∀ x ∈ scope.names,x.2=.free->(env.cells.lookup x.1).isSome=true):closureFor scope env=pure (BJ env scope.names []):=by
 unfold closureFor BJ
 dsimp only
 rw [Gi _ (fun cs x=>if (x.2==NameKind.free)=true then (x.1,(env.cells.lookup x.1).getD 0) :: cs else cs)]
 ·rfl
 ·rintro ⟨n,k⟩ hx cs
  by_cases hk:(k==NameKind.free)=true
  ·obtain ⟨c,hc⟩:=aax.mp (h (n,k) hx (beq_iff_eq.mp hk))
   have hc':List.lookup n env.cells=some c:=hc
   dsimp only
   rw [if_pos hk,if_pos hk]
   unfold cellOf
   rw [hc']
   rfl
  ·dsimp only
   rw [if_neg hk,if_neg hk]
theorem AX (h:∀ x ∈ scope.names,x.2=.free->(env.cells.lookup x.1).isSome=true) {x:Str} {c:Addr} (e:(BJ env scope.names []).lookup x=some c):env.cells.lookup x=some c:=by
 have gen:∀ (l:List (Str × NameKind)) (cs:List (Str × Addr)),(∀ y ∈ l,y.2=.free->(env.cells.lookup y.1).isSome=true)->(∀ p ∈ cs,env.cells.lookup p.1=some p.2)->∀ p ∈ BJ env l cs,env.cells.lookup p.1=some p.2:=by
  intro l
  induction l with
  | nil=>intro cs _ hc; exact hc
  | cons y l ih =>
   intro cs hl hc
   unfold BJ
   rw [abT]
   refine ih _ (fun z hz=>hl z (aaa _ hz)) fun p hp=>?_
   split at hp
   ·rename_i hk
    rcases aai.mp hp with rfl | hp
    ·obtain ⟨c',hc'⟩:=aax.mp (hl y (aac ..) (beq_iff_eq.mp hk))
     show env.cells.lookup y.1=some ((env.cells.lookup y.1).getD 0)
     rw [hc']; rfl
    ·exact hc p hp
   ·exact hc p hp
 exact gen scope.names [] h (fun p hp=>nomatch hp) (x,c) (PySem.mem_of_lookup e)
theorem Dt {x:Str} {c:Addr} (hm:(x,NameKind.free) ∈ scope.names) (h:∀ x ∈ scope.names,x.2=.free->(env.cells.lookup x.1).isSome=true) (e:env.cells.lookup x=some c):(BJ env scope.names []).lookup x=some c:=by
 have gen:∀ (l:List (Str × NameKind)) (cs:List (Str × Addr)),((x,NameKind.free) ∈ l\/∃ d,(x,d) ∈ cs)->∃ d,(x,d) ∈ BJ env l cs:=by
  intro l
  induction l with
  | nil=>intro cs hc; rcases hc with z | z; cases z; exact z
  | cons y l ih =>
   intro cs hc
   unfold BJ
   rw [abT]
   refine ih _ ?_
   rcases hc with hc | ⟨d,hc⟩
   ·rcases aai.mp hc with rfl | hc
    ·exact .inr ⟨_,by rw [if_pos (by rfl)]; exact aac ..⟩
    ·exact .inl hc
   ·refine .inr ⟨d,?_⟩
    split
    ·exact aaa _ hc
    ·exact hc
 obtain ⟨d,hd⟩:=gen scope.names [] (.inl hm)
 cases q:(BJ env scope.names []).lookup x with
 | none =>
  rw [List.lookup_eq_none_iff] at q
  have:=q _ hd
  simp at this
 | some c'=>exact (AX h q).symm.trans e ▸ rfl
end
structure Bk where
 (C:Addr)
 (fp:List Addr)
 (s:Shared)
 (H:Hp)
noncomputable abbrev Cx.blk (X:Cx) (scope:Scope) (C:Addr) (fp:List Addr) (N:List Str) (s:Shared) (H:Hp):Cx :=
 { X with N:=N,s₀:=s,H₀:=H,env:=compEnvC scope (BJ X.env scope.names []) C X.env,outer:=X.stack,ex:=fp,fn:=fun _=>false,pn:=[],xe:=fun _ _=>False }
noncomputable def PTs (X:Cx) (ifs:List Expr) (t:TT):Prop :=
 ∀ (pins:List (Addr × Obj)) (s:Shared) (σ:St) (H:Hp) (Q:Bool->Hp->Prop),Inv X pins σ H s->t σ H Q->wpAny (model X.prog X.w) X.A (Jd ifs X.env) (TP X pins σ Q) X.xe s
noncomputable def NE:TT:=fun _ H Q=>Q true H
theorem Je {X:Cx}:PTs X [] NE:=fun _ _ _ H _ I h=>wpAny_tests_nil ⟨H,I,h⟩
noncomputable def A5 (nl:Nat) (fr:List Nat) (σ:St):St:=aam nl none ++ fr.map fun j=>(σ[j]?).join
noncomputable def Gk (nl:Nat) (fr:List Nat) (wi:TI) (gz:Bk->TG) (tcz:Bk->TT) (tez:Bk->TE):TE:=fun σ H Q=>wi σ H fun J H1=>∀ (z:Bk) (D:Addr),H1 D=none->∃ W:Nat->Nat->List V->Hp->Prop,(∃ m,W 0 m [] (upd H1 D (.lst [])))/\∀ i m acc H2,W i m acc H2 ->
 H2 D=some (.lst acc)/\((J.stop i H2/\Q (.ref D) H2)\/(J.go i H2/\∀ x H3,J.yld i H2 x H3->gz z x (A5 nl fr σ) H3 fun σ4 H4=>tcz z σ4 H4 fun b H5 =>
  if b=true then tez z σ4 H5 fun v H6=>H6 D=some (.lst acc)/\acc.length < sizeLine/\∃ m',m' < m/\W (i + 1) m' (acc ++ [v]) (upd H6 D (.lst (acc ++ [v]))) else ∃ m',m' < m/\W (i + 1) m' acc H5))
theorem N9 {X:Cx} {elt tg iter:Expr} {ifs:List Expr} {scope:Scope} {pos:Pos} {wi:TI} {gz:Bk->TG} {tcz:Bk->TT} {tez:Bk->TE} (loc:List Str) (fr:List Nat) (frn:List Str) (hc:X.calm=true) (hi:PI X tg iter wi)
  (hfr:∀ (j:Nat) (k:Nat) (x:Str),fr[j]?=some k->frn[j]?=some x->X.N[k]?=some x/\X.env.kindOf x=some .cell/\(x,NameKind.free) ∈ scope.names) (hln:frn.length=fr.length)
  (hcell:∀ y ∈ scope.names,y.2 ≠ .cell) (hkind:scope.kind=.function) (hnames:∀ y ∈ scope.names,y.2=.local->scope.names.lookup y.1=some .local) (hfree:∀ y ∈ scope.names,y.2=.free->X.env.kindOf y.1=some .cell)
  (hkin:∀ (x:Str),x ∈ frn->(relabel scope X.env).names.lookup x=some .cell) (hsc:X.env.scope.kind=.function)
  (hgk:∀ (z:Bk) (v:V) (σ:St) (H:Hp) (Q:St->Hp->Prop),gz z v σ H Q->gz z v σ H fun σ' H'=>Q σ' H'/\σ'.length=σ.length/\∀ i,loc.length<=i->σ'[i]?=σ[i]?)
  (hblk:∀ (z:Bk),PG (X.blk scope z.C z.fp (loc ++ frn) z.s z.H) tg (gz z)/\PTs (X.blk scope z.C z.fp (loc ++ frn) z.s z.H) ifs (tcz z)/\PE (X.blk scope z.C z.fp (loc ++ frn) z.s z.H) elt (tez z))
  (hs:∀ x,foldedSetIterable iter X.env x=pure x:=by intro _; rfl):PE X (.ListComp elt [⟨tg,iter,ifs,0⟩] scope pos) (Gk loc.length fr wi gz tcz tez):=by
 intro pins s σ H Q I h
 have hcs:∀ x ∈ scope.names,x.2=.free->(X.env.cells.lookup x.1).isSome=true:=fun x hx hf=>by
  obtain ⟨c,e⟩:=I.ok.has x.1 (.inl (hfree x hx hf))
  rw [e]; rfl
 rw [eval_ListComp]
 refine wpAny_comprehension_free (use:=none) rfl hs (Gj hcs) hkind hnames (thn (hi pins s σ H _ I h) fun v s1 h1=>thn h1 fun itv s2 h2=>?_)
 obtain ⟨it,fp,tn,J,H2,rfl,I2,T,st2,f2,q2⟩:=h2
 refine wpAny_newList (items:=[]) ?_ (by simp)
 have eD:H2 s2.heap.objs.size=none:=I2.hok.fresh (aao _)
 have pk:∀ (o:Obj) b u,s2.heap.get? b=some u->(s2.heap.push o).get? b=some u:=fun o b u e=>Heap.get?_push_of_some _ e
 have I3:=I2.laid (a:=s2.heap.objs.size) (o:=.lst []) (t':=s2.toks) (h':=s2.heap.push { cls:=.type "list",data:=.seq ([]:List Value).toArray }) (pk _) (aao _)
  ⟨aas _,[],0,.nil,Heap.get?_push_size _ rfl⟩
 generalize hs3:(⟨s2.heap.push { cls:=.type "list",data:=.seq ([]:List Value).toArray },s2.gens,s2.drawn,s2.toks,s2.os⟩:Shared)=s3 at I3 ⊢
 have k3:∀ b u,s2.heap.get? b=some u->s3.heap.get? b=some u:=fun b u e=>by rw [<- hs3]; exact pk _ b u e
 have tk3:s3.os=s2.os/\s3.gens=s2.gens:=by rw [<- hs3]; exact ⟨rfl,rfl⟩
 have z3:s3.heap.objs.size=s2.heap.objs.size + 1:=by rw [<- hs3]; exact Heap.size_push ..
 refine wpAny_newFunctionEnv hcell (by intro y hy; simp at hy) (fun h4 hns hsb=>?_) hkind
 have k4:∀ b u,s3.heap.get? b=some u->h4.get? b=some u:=fun b u e=>hsb.extBut b u (aaC (Heap.lt_size e)) (Heap.get?_push_of_some _ e)
 have fpl:∀ b ∈ fp,b < s2.heap.objs.size:=fun b hb=>by
  obtain ⟨o,e,_⟩:=T.obj 0 _ st2 b hb
  exact Heap.lt_size e
 obtain ⟨W,⟨m0,w0⟩,turn⟩:=q2 ⟨s3.heap.objs.size,fp,s3,upd H2 s2.heap.objs.size (.lst [])⟩ _ eD
 have ok4:(X.blk scope s3.heap.objs.size fp (loc ++ frn) s3 (upd H2 s2.heap.objs.size (.lst []))).Ok:=by
  refine ⟨I.ok.mod,hkind,I.ok.glob,I.ok.blt,aao _,fun x y c e1 e2=>I.ok.inj x y c (AX hcs e1) (AX hcs e2),fun x hx=>?_,fun x c z=>(nomatch z),I.ok.hd,I.ok.frames,.inl rfl,fun b hb=>⟨?_,fun x c e=>(f2 b hb).2.2.2.2.1 x c (AX hcs e)⟩,I3.bs,aay I.ok.bsz I3.sz,
   fun b o e hb=>?_,fun b hb z=>?_,I3.stack,I3.stkFree⟩
  ·have hm:(x,NameKind.free) ∈ scope.names:=by
    have:∃ k',(k'=NameKind.cell\/k'=NameKind.free)/\(relabel scope X.env).names.lookup x=some k':=by
     rcases hx with z | z
     ·exact ⟨_,.inl rfl,z⟩
     ·exact ⟨_,.inr rfl,z⟩
    obtain ⟨k',hk',z⟩:=this
    have zm:=PySem.mem_of_lookup z
    unfold relabel at zm
    obtain ⟨⟨n,k⟩,hn,e⟩:=aaS.mp zm
    dsimp only at e
    split at e
    ·rename_i hk
     cases e
     have:k=NameKind.free:=by
      cases k <;> first | rfl | (simp at hk)
     rw [<- this]; exact hn
    ·cases e
     rcases hk' with rfl | rfl
     ·exact absurd rfl (hcell _ hn)
     ·exact hn
   obtain ⟨c,e⟩:=I.ok.has x (.inl (hfree _ hm rfl))
   exact ⟨c,Dt hm hcs e⟩
  ·have:=fpl b hb
   exact aaC (by rw [z3]; exact Nat.lt_succ_of_lt this)
  ·rcases (f2 b hb).2.2.2.1 with z | z
   ·exact I.ok.noex b o e z
   ·exact absurd (aau (Heap.lt_size (I.ok.bs b o e).1) z) (aaW _)
  ·have:=I2.stkSub b z
   rcases aai.mp this with rfl | y
   ·exact (f2 _ hb).2.1 rfl
   ·exact (f2 b hb).2.2.1 y
 have I4:Inv (X.blk scope s3.heap.objs.size fp (loc ++ frn) s3 (upd H2 s2.heap.objs.size (.lst []))) [] (A5 loc.length fr σ) (upd H2 s2.heap.objs.size (.lst [])) { s3 with heap:=h4,toks:=s3.toks + ([]:List (Str × Value)).length }:=by
  refine ⟨ok4,rfl,I3.bare,Un.kept k4,⟨_,hns,fun i x v e1 e2 e3=>?_⟩,fun x c e=>?_,I3.hok.fresh (aao _),fun x c e=>I3.freeC x c (AX hcs e),fun p hp=>(nomatch hp),I3.hok.kept k4,?_⟩
  ·unfold A5 at e2
   by_cases hi:i < loc.length
   ·rw [aaP (by simpa using hi),aaT] at e2
    split at e2 <;> cases e2
   ·rw [aaH (by simpa using hi),aa1,aal] at e2
    have e1':frn[i - loc.length]?=some x:=by
     have:(loc ++ frn)[i]?=some x:=e1
     rw [aaH (abi hi)] at this
     exact this
    cases ek:fr[i - loc.length]? with
    | none=>rw [ek] at e2; cases e2
    | some k =>
     rw [ek] at e2
     have e2':(σ[k]?).join=some v:=Option.some.inj e2
     have e2'':σ[k]?=some (some v):=by
      cases q:σ[k]? with
      | none=>rw [q] at e2'; cases e2'
      | some y=>rw [q] at e2'; exact congrArg some e2'
     obtain ⟨n1,n2,n3⟩:=hfr _ k x ek e1'
     obtain ⟨m,_,hl⟩:=I3.loc
     obtain ⟨u,ru,lk⟩:=hl k x v n1 e2'' (.inr (.inl n2))
     refine ⟨u,ru,.inr ⟨.inl (hkin x (aaf e1')),?_⟩⟩
     rcases lk with ⟨z,_⟩ | ⟨_,c,ec,ic⟩
     ·rw [n2] at z; cases z
     ·obtain ⟨o,ho,hd⟩:=ic
      exact ⟨c,Dt n3 hcs ec,o,k4 _ _ ho,hd⟩
  ·obtain ⟨v,o,ho,hd⟩:=I3.cell x c (AX hcs e)
   exact ⟨v,o,k4 _ _ ho,hd⟩
  ·unfold A5
   show _=(loc ++ frn).length
   rw [aaD,aaD,aa1,aab,hln]
 have stat:∀ {H':Hp},(∀ b ∈ fp,H' b=none)->∀ b ∈ fp,FpOk (X.blk scope s3.heap.objs.size fp (loc ++ frn) s3 (upd H2 s2.heap.objs.size (.lst []))) [] H' b:=fun hn b hb =>
  ⟨hn b hb,(ok4.exf b hb).1,ok4.exfs b hb,.inl hb,(ok4.exf b hb).2,fun p hp=>(nomatch hp)⟩
 have fp3:∀ b ∈ fp,(upd H2 s2.heap.objs.size (.lst [])) b=none:=fun b hb=>by
  rw [Al (aaC (fpl b hb))]; exact (f2 b hb).1
 obtain ⟨pg,pt,pe⟩:=hblk ⟨s3.heap.objs.size,fp,s3,upd H2 s2.heap.objs.size (.lst [])⟩
 have st4:tn 0 h4:=T.keep 0 _ _ st2 fun b _ o e=>k4 b o (k3 b o e)
 have after:∀ {i:Nat} {H':Hp} {s':Shared} {acc:List V} {σ':St},Inv (X.blk scope s3.heap.objs.size fp (loc ++ frn) s3 (upd H2 s2.heap.objs.size (.lst []))) [] σ' H' s'->Q (.ref s2.heap.objs.size) H' ->
   compPost (model X.prog X.w) X.A X.xe none (EP X pins σ Q) (.ref s2.heap.objs.size) s3.heap.objs.size (.ok .next) s':=by
  intro i H' s' acc σ' I5 q
  obtain ⟨m,hn,_⟩:=I5.loc
  refine ⟨m,hn,fun h' hb=>?_⟩
  have same:∀ b o,s3.heap.get? b=some o->h'.get? b=s'.heap.get? b:=fun b o e=>hb.2 b (aaC (Heap.lt_size e))
  have u:=I5.base
  have un:Un (frs X.stack) fp (upd H2 s2.heap.objs.size (.lst [])) H' s3.heap h':=⟨fun b o e n h1 h2=>(same b o e).trans (u.keep b o e n h1 h2),fun b o e n h1 h2=>by
    obtain ⟨sl,z⟩:=u.slot b o e n h1 h2
    exact ⟨sl,(same b o e).trans z⟩,u.free,fun b o e h1=>by
    obtain ⟨o',z⟩:=u.there b o e h1
    exact ⟨o',(same b o e).trans z⟩,u.tups,u.frzs,u.tbls⟩
  have hok:HOk X.prog X.w H' h':=fun b o e=>by
   have fC:H' s3.heap.objs.size=none:=I5.free
   refine (I5.hok b o e).stay (fun c w' hc z=>(hb.2 c ?_).trans z) (fun _ z=>z) fun _ _ z=>z
   rintro rfl
   rcases hc with rfl | hc
   ·rw [fC] at e; cases e
   ·rw [fC] at hc; cases hc
  exact ⟨.ref s2.heap.objs.size,H',I3.call' (s':={ s' with heap:=h' }) (ch:=fp) I5.os un hok I5.bare (fun b hb=>⟨(f2 b hb).2.2.2.1,(f2 b hb).2.1,(f2 b hb).2.2.2.2.1,(f2 b hb).2.2.2.2.2⟩),rfl,q⟩
 have loop:∀ s5:Shared,s5={ s3 with heap:=h4,toks:=s3.toks + ([]:List (Str × Value)).length } ->
   codeAny (model X.prog X.w) X.A (.compLoop (.ListComp elt [⟨tg,iter,ifs,0⟩] scope pos) 0 (.ref it) (.ref s2.heap.objs.size) (compEnvC scope (BJ X.env scope.names []) s3.heap.objs.size X.env))
    (compPost (model X.prog X.w) X.A X.xe none (EP X pins σ Q) (.ref s2.heap.objs.size) s3.heap.objs.size) s5:=by
  rintro s5 rfl
  refine EZ (fun n s'=>∃ i acc H',Inv (X.blk scope s3.heap.objs.size fp (loc ++ frn) s3 (upd H2 s2.heap.objs.size (.lst []))) [] (A5 loc.length fr σ) H' s'/\tn i s'.heap/\(∀ b ∈ fp,H' b=none)/\W i n acc H') ?_ m0
   ⟨0,[],_,I4,st4,fp3,w0⟩
  rintro n s6 ⟨i,acc,H6,I6,st6,fr6,w6⟩
  obtain ⟨hD,alt⟩:=turn i n acc H6 w6
  rcases alt with ⟨stop,q⟩ | ⟨go,step⟩
  ·refine thn (T.done (X.blk scope s3.heap.objs.size fp (loc ++ frn) s3 (upd H2 s2.heap.objs.size (.lst []))) rfl rfl rfl hc i [] s6 _ H6 (fun _ _=>False) I6 (stat fr6) st6 stop) fun r s7 ⟨hr,I7⟩=>?_
   subst hr
   exact after (i:=i) (acc:=acc) I7 q
  ·refine thn (T.item (X.blk scope s3.heap.objs.size fp (loc ++ frn) s3 (upd H2 s2.heap.objs.size (.lst []))) rfl rfl rfl hc i [] s6 _ H6 (fun _ _=>False) I6 (stat fr6) st6 go) fun r s7 ⟨u,hr,h7⟩=>?_
   subst hr
   refine thn h7 fun _ s8 ⟨x,H8,I8,r8,y8,st8,fr8⟩=>?_
   have I8':=I8.pinned (stat fr8) (T.obj _ _ st8)
   have back:∀ {σ9:St} {H9:Hp} {s9:Shared},Inv (X.blk scope s3.heap.objs.size fp (loc ++ frn) s3 (upd H2 s2.heap.objs.size (.lst []))) ([] ++ Ep fp s8.heap) σ9 H9 s9->σ9.length=(A5 loc.length fr σ).length->(∀ i,loc.length<=i->σ9[i]?=(A5 loc.length fr σ)[i]?) ->
     Inv (X.blk scope s3.heap.objs.size fp (loc ++ frn) s3 (upd H2 s2.heap.objs.size (.lst []))) [] (A5 loc.length fr σ) H9 s9/\tn (i + 1) s9.heap/\(∀ b ∈ fp,H9 b=none):=by
    intro σ9 H9 s9 I9 hl hk
    refine ⟨(I9.unpinned).weak hl.symm fun j v ej=>?_,T.keep _ _ _ st8 fun b hb o e=>(I9.pin (b,o) (aag _ (aag _ (B3 hb e)))).1,fun b hb=>?_⟩
    ·by_cases hj:j < loc.length
     ·unfold A5 at ej
      rw [aaP (by simpa using hj),aaT] at ej
      split at ej <;> cases ej
     ·rw [hk j (abi hj)]; exact ej
    ·obtain ⟨o,e,d⟩:=T.obj _ _ st8 b hb
     exact (I9.pin (b,o) (aag _ (aag _ (B3 hb e)))).2.1
   refine thn (pg _ s8 _ H8 x u _ I8' r8 (hgk _ _ _ _ _ (step x H8 y8))) fun _ s9 ⟨σ9,H9,I9,q9,l9,k9⟩=>?_
   refine thn (pt _ s9 σ9 H9 _ I9 q9) fun ok s10 ⟨H10,I10,q10⟩=>?_
   cases ok with
   | false =>
    rw [if_neg (by decide)] at q10 ⊢
    obtain ⟨m',hm,w'⟩:=q10
    obtain ⟨b1,b2,b3⟩:=back I10 l9 k9
    exact ⟨m',hm,i + 1,acc,H10,b1,b2,b3,w'⟩
   | true =>
    rw [if_pos rfl] at q10 ⊢
    refine thn (pe _ s10 σ9 H10 _ I10 q10) fun y s11 ⟨v,H11,I11,r11,hD11,hz,m',hm,w'⟩=>?_
    refine thn (D4 _ s11 σ9 H11 (.ref s2.heap.objs.size) [v] (.ref s2.heap.objs.size) [y] (fun _ H12=>W (i + 1) m' (acc ++ [v]) H12) I11 rfl (.cons r11 .nil) ⟨_,acc,v,rfl,rfl,hD11,hz,w'⟩) fun _ s12 ⟨_,H12,I12,_,w12⟩=>?_
    obtain ⟨b1,b2,b3⟩:=back I12 l9 k9
    exact ⟨m',hm,i + 1,_,H12,b1,b2,b3,w12⟩
 exact codeAny_compStart_list (loop _ rfl) (T.self X.A 0 _ _ _ st4 (loop _ rfl))
mutual
inductive RD (K:Frag) (H:Hp):V->PyData->Prop where
 | non:RD K H .non .none
 | bl (b:Bool):RD K H (.bl b) (.bool b)
 | int (i:Int):RD K H (.int i) (.int i)
 | str (x:Str):RD K H (.str x) (.str x)
 | lst {a:Addr} {xs:List V} {ds:List PyData} (h:SqL K H a xs) (r:RDs K H xs ds):RD K H (.ref a) (.list ds)
 | tup {a:Addr} {xs:List V} {ds:List PyData} (h:SqT K H a xs) (r:RDs K H xs ds):RD K H (.ref a) (.tuple ds)
inductive RDs (K:Frag) (H:Hp):List V->List PyData->Prop where
 | nil:RDs K H [] []
 | cons {x:V} {xs:List V} {d:PyData} {ds:List PyData} (h:RD K H x d) (r:RDs K H xs ds):RDs K H (x :: xs) (d :: ds)
end
section
variable {X:Cx} {pins:List (Addr × Obj)} {σ:St} {H:Hp} {s:Shared}
mutual
theorem RD.reads (I:Inv X pins σ H s):∀ {v:V} {d:PyData} {u:Value},RD X.K H v d->RelV v u->∃ as,Reads s.heap u d as
 | _,_,_,.non,r=>by cases (show _=Value.none from r); exact ⟨_,.none⟩
 | _,_,_,.bl b,r=>by cases (show _=Value.bool b from r); exact ⟨_,.bool b⟩
 | _,_,_,.int i,r=>by obtain ⟨t,q⟩:=(show ∃ t,_=Value.int i t from r); cases q; exact ⟨_,.int i t⟩
 | _,_,_,.str x,r=>by obtain ⟨t,q⟩:=(show ∃ t,_=Value.str x t from r); cases q; exact ⟨_,.str x t⟩
 | _,_,_,.lst (a:=a) h rs,r=>by
  cases (show _=Value.ref a from r)
  obtain ⟨its,rv,⟨o,n,hp,hc,_,hd⟩,_⟩:=I.list h
  obtain ⟨as,ra⟩:=RDs.reads I rs rv
  exact ⟨_,reads_list_at hp hc hd (by simpa using ra)⟩
 | _,_,_,.tup (a:=a) h rs,r=>by
  cases (show _=Value.ref a from r)
  obtain ⟨its,rv,⟨o,h1,h2,n,h3⟩,_⟩:=I.tuple h
  obtain ⟨as,ra⟩:=RDs.reads I rs rv
  exact ⟨_,reads_tuple_at h1 h2 h3 (by simpa using ra)⟩
theorem RDs.reads (I:Inv X pins σ H s):∀ {xs:List V} {ds:List PyData} {us:List Value},RDs X.K H xs ds->Vals xs us->∃ as,ReadsAll s.heap us ds as
 | _,_,_,.nil,.nil=>⟨_,.nil⟩
 | _,_,_,.cons h r,.cons q t=>by
  obtain ⟨as,e1⟩:=RD.reads I h q
  obtain ⟨bs,e2⟩:=RDs.reads I r t
  exact ⟨_,.cons e1 e2⟩
end
noncomputable def P8 (K:Frag) (neg:Bool):R2:=fun x y H Q=>∃ d e,RD K H x d/\RD K H y e/\SeqAt.shaped d=true/\SeqAt.shaped e=true/\Q (.bl (if neg then !d.eqv e else d.eqv e)) H
theorem P9 (hu:X.A.units + 64 < cLine):OpR X (compareOp .Eq) (P8 X.K false):=by
 intro pins s σ H x y u w' Q I rx ry h
 obtain ⟨d,e,h1,h2,s1,s2,q⟩:=h
 obtain ⟨_,r1⟩:=h1.reads I rx
 obtain ⟨_,r2⟩:=h2.reads I ry
 exact eq_dataH r1 r2 s1 s2 hu ⟨.bl (d.eqv e),H,I,rfl,q⟩
theorem Qa (hu:X.A.units + 64 < cLine):OpR X (compareOp .NotEq) (P8 X.K true):=by
 intro pins s σ H x y u w' Q I rx ry h
 obtain ⟨d,e,h1,h2,s1,s2,q⟩:=h
 obtain ⟨_,r1⟩:=h1.reads I rx
 obtain ⟨_,r2⟩:=h2.reads I ry
 exact ne_dataH r1 r2 s1 s2 hu ⟨.bl (!d.eqv e),H,I,rfl,q⟩
noncomputable def Rr (K:Frag):List V->Hp->VK->Prop:=fun xs H Q=>∃ (l:Addr) (bs:List Bool),xs=[.ref l]/\SqL K H l (bs.map V.bl)/\Q (.bl (bs.all id)) H
theorem GN (bs:List Bool):(aaE bs.length).all (fun i=>bs.getD i false)=bs.all id:=by
 induction bs with
 | nil=>rfl
 | cons b r ih =>
  rw [abj,List.range_succ_eq_map,aaB,aaB,aby,<- ih]
  rfl
theorem Lf (hc:X.calm=true):CA X (.builtin "all") (Rr X.K):=by
 intro pins s σ H xs us Q I r h
 obtain ⟨l,bs,rfl,hS,q⟩:=h
 obtain ⟨u,rfl,ru⟩:=EC r
 cases (show u=Value.ref l from ru)
 obtain ⟨its,rr,p,_⟩:=I.list hS
 have hl:its.length=bs.length:=by rw [<- rr.length,aab]
 refine call_all_walk (wpAny_pyIter_list p.isList ?_)
 have hne:l ≠ s.heap.objs.size:=(by obtain ⟨_,e,_⟩:=p.isList; exact aaC (Heap.lt_size e))
 refine ⟨_,_,_,_,_,_,fun i=>bs.getD i false,rfl,Walks.list (A:=X.A.in1) (I.ok.hd hc) s.heap.objs.size l hne its.toArray,?_,?_,?_⟩
 ·exact ⟨⟨_,Heap.get?_push_size _ rfl,rfl,rfl⟩,p.isList.push _⟩
 ·intro i v s' Q' E' hP hQ'
  have hv:v=Value.bool (bs.getD i false):=by
   have hP':its[i]?=some v:=by simpa using hP
   have hi:i < its.length:=(aaz.mp hP').1
   have hx:(bs.map V.bl)[i]?=some (V.bl (bs.getD i false)):=by
    rw [aal,aaw,aah (by omega)]
    rfl
   obtain ⟨u,e1,e2⟩:=rr.get hx
   rw [hP'] at e1
   cases e1
   exact e2
  subst hv
  exact wpAny_pure hQ'
 ·intro h' tk hk
  have e:(aaE its.toArray.size).all (fun i=>bs.getD i false)=bs.all id:=by rw [aak,hl,GN]
  rw [e]
  exact ⟨.bl _,H,I.kept (h':=h') (t':=tk) (fun b o e=>hk b o (fun hm=>by
   have hm':b=s.heap.objs.size:=by simpa using hm
   exact aaW _ (hm' ▸ Heap.lt_size e)) (Heap.get?_push_of_some _ e)),rfl,q⟩
end
section
variable {P:Program} {w:World} {K:Frag} {mg:Str->Option Value} {base:Heap}
theorem Fun.okX {x qual:Str} {st:Stmt} {f:Addr} {fd:FuncData} {N ps:List Str} {k:Nat} {sp:Sp} (F:Fun K x qual st f fd) (S:FnScope N ps (Ah st)) (len:∀ vs H Q E,sp vs H Q E->vs.length=ps.length)
  (hbody:∀ (f:Addr) (cdv:Value) (A:Around) (outer:List Env) (s:Shared) (H:Hp) (vs:List V) (Q:VK) (E:XK),Room k (A.deeper (envOfC qual (Ah st) s.heap.objs.size f cdv))->sp vs H Q E ->
   ∃ t,PSs (BF (CXe P w) P w K mg base N qual (Ah st) f cdv A outer s H E) (AO st) t/\t { nx:=fun _ H'=>Q .non H',rt:=Q } (AI N vs) H):FnOk P w K mg base (CXe P w) (k + 1) f fd ps sp:=by
 obtain ⟨oc,od,kV,doc,pm,an,cdv,ct,osl,rfl,lk,hcd⟩:=F.ex
 exact Rn lk hcd S len fun A outer s H vs Q E hr hsp=>hbody f cdv A outer s H vs Q E hr hsp
noncomputable def Df (K:Frag) (mg:Str->Option Value) (x:Str) (st:Stmt) (ps:List Str):Prop:=∃ f fd,Fun K x x st f fd/\mg x=some (.ref f)/\Binds K fd ps []
noncomputable def Has (P:Program) (w:World) (K:Frag) (mg:Str->Option Value) (base:Heap) (x:Str) (k:Nat) (ps:List Str) (sp:Sp):Prop :=
 ∃ f fd,FnOk P w K mg base (CXe P w) k f fd ps sp/\mg x=some (.ref f)/\PySem.W.keepIn K (.ref f)=true/\Binds K fd ps []
theorem Rt {h:Heap} {x:Str} {st:Stmt} {ps:List Str} {f:Addr} {oc:Value} {od an:Option Addr} {osl:Array (Option Value)} {kV doc pm cdv ct:Value} (X:K.In h) (G:h.Ns mainGlobals mg) (a:nsIn K mainGlobals x=some (some (.ref f)))
  (l:K.lookup f=some ⟨oc,od,.func (PySem.W.fnOf x x (BK st) (AO st) (Ah st) .none kV doc pm an cdv ct),osl⟩) (c:PySem.W.codeIn K cdv x=true) (k:PySem.W.keepIn K (.ref f)=true)
  (hb:∀ (kV doc pm:Value) (an:Option Addr) (cdv ct:Value) (us:List Value),us.length=ps.length->bindArgs (PySem.W.fnOf x x (BK st) (AO st) (Ah st) .none kV doc pm an cdv ct) ⟨us,[]⟩=pure (ps.zip us)):Df K mg x st ps:=by
 have F:=Ld (st:=st) l c k
 exact ⟨f,_,F,mg_of X G a,F.binds hb⟩
end
section
variable {X:Cx} {k:Nat} {ps:List Str} {sp:Sp} {E:XK} {EX:EXT} {x:Str} {p pos:Pos} {e:Expr} {es:List Expr} {t:TA}
theorem NF (F:Has X.prog X.w X.K X.mg X.base x k ps sp) (hr:Room k X.A) (hg:Gl X x) (hx:DM (CXe X.prog X.w) X EX) (ha:PA X (e :: es) t) (hdb:(x==("__debug__" : Str))=false:=by decide)
  (he:starEach (e :: es) X.env=(false,eval e X.env) :: starEach es X.env:=by rfl) (hpl:(backTo pos (starEach es X.env)).any (·.1)=false:=by rfl):PE X (.Call (.Name x p) (e :: es) [] pos) (Le sp [] EX t):=by
 obtain ⟨f,fd,F,m,kp,b⟩:=F
 exact MI F hr hg m kp b .nil hx ha hdb he hpl
end
theorem Same.new {H:Hp} {p:Addr} {o:HO} (h:H p=none):Same H (upd H p o):=fun b u e=>by rw [Al (BE e h)]; exact e
theorem Same.put {H H1:Hp} {p:Addr} {o:HO} (s:Same H H1) (h:H p=none):Same H (upd H1 p o):=fun b u e=>by rw [Al (BE e h)]; exact s b u e
theorem Same.tup {K:Frag} {H H':Hp} {a:Addr} {xs:List V} (e:Same H H') (h:SqT K H a xs):SqT K H' a xs:=by
 rcases h with (h | ⟨o,h⟩) | h
 ·exact .inl (.inl (e _ _ h))
 ·exact .inl (.inr ⟨o,e _ _ h⟩)
 ·exact .inr h
mutual
theorem Same.rd {K:Frag} {H H':Hp} (e:Same H H'):∀ {x:V} {d:PyData},RD K H x d->RD K H' x d
 | _,_,.non=>.non
 | _,_,.bl b=>.bl b
 | _,_,.int i=>.int i
 | _,_,.str x=>.str x
 | _,_,.lst h r=>.lst (e.seq h) (Same.rds e r)
 | _,_,.tup h r=>.tup (e.tup h) (Same.rds e r)
theorem Same.rds {K:Frag} {H H':Hp} (e:Same H H'):∀ {xs:List V} {ds:List PyData},RDs K H xs ds->RDs K H' xs ds
 | _,_,.nil=>.nil
 | _,_,.cons h r=>.cons (Same.rd e h) (Same.rds e r)
end
theorem MJ {X:Cx} {use:Option (Value->Sem Unit)} {R:Value->Shared->Prop} {ipos:Pos} {pins:List (Addr × Obj)} {s:Shared} {σ:St} {H:Hp} {Q:VK} {elt tg iter:Expr} {ifs:List Expr} {scope:Scope} {pos:Pos} {wi:TI} {gz:Bk->TG} {tcz:Bk->TT} {tez:Bk->TE} (loc:List Str) (fr:List Nat) (frn:List Str) (hc:X.calm=true) (hi:PI X tg iter wi)
  (hfr:∀ (j:Nat) (k:Nat) (x:Str),fr[j]?=some k->frn[j]?=some x->X.N[k]?=some x/\X.env.kindOf x=some .cell/\(x,NameKind.free) ∈ scope.names) (hln:frn.length=fr.length)
  (hcell:∀ y ∈ scope.names,y.2 ≠ .cell) (hkind:scope.kind=.function) (hnames:∀ y ∈ scope.names,y.2=.local->scope.names.lookup y.1=some .local) (hfree:∀ y ∈ scope.names,y.2=.free->X.env.kindOf y.1=some .cell)
  (hkin:∀ (x:Str),x ∈ frn->(relabel scope X.env).names.lookup x=some .cell) (hsc:X.env.scope.kind=.function)
  (hgk:∀ (z:Bk) (v:V) (σ:St) (H:Hp) (Q:St->Hp->Prop),gz z v σ H Q->gz z v σ H fun σ' H'=>Q σ' H'/\σ'.length=σ.length/\∀ i,loc.length<=i->σ'[i]?=σ[i]?)
  (hblk:∀ (z:Bk),PG (X.blk scope z.C z.fp (loc ++ frn) z.s z.H) tg (gz z)/\PTs (X.blk scope z.C z.fp (loc ++ frn) z.s z.H) ifs (tcz z)/\PE (X.blk scope z.C z.fp (loc ++ frn) z.s z.H) elt (tez z))
  (I:Inv X pins σ H s) (h:Gk loc.length fr wi gz tcz tez σ H Q)
  (haf:∀ (D C:Addr) (H':Hp) (s':Shared) (m:Str->Option Value),s'.heap.Ns C m->(∀ h',Heap.SameBut C s'.heap h'->Inv X pins σ H' { s' with heap:=h' }) ->
   (X.s₀.heap.objs.size<=C/\C ≠ X.env.locals/\(∀ x c,X.env.cells.lookup x=some c->c ≠ C)/\(∀ p ∈ X.pn ++ pins,p.1 ≠ C)/\H' C=none/\C ∉ frs X.stack)->Q (.ref D) H'->compPost (model X.prog X.w) X.A X.xe use R (.ref D) C (.ok .next) s')
  (hs:∀ x,foldedSetIterable iter X.env x=pure x):wpAny (model X.prog X.w) X.A (comprehension (.ListComp elt [⟨tg,iter,ifs,0⟩] scope pos) scope X.env ipos (newList []) false (eval iter X.env) use) R X.xe s:=by
 have hcs:∀ x ∈ scope.names,x.2=.free->(X.env.cells.lookup x.1).isSome=true:=fun x hx hf=>by
  obtain ⟨c,e⟩:=I.ok.has x.1 (.inl (hfree x hx hf))
  rw [e]; rfl
 refine wpAny_comprehension_free rfl hs (Gj hcs) hkind hnames (thn (hi pins s σ H _ I h) fun v s1 h1=>thn h1 fun itv s2 h2=>?_)
 obtain ⟨it,fp,tn,J,H2,rfl,I2,T,st2,f2,q2⟩:=h2
 refine wpAny_newList (items:=[]) ?_ (by simp)
 have eD:H2 s2.heap.objs.size=none:=I2.hok.fresh (aao _)
 have pk:∀ (o:Obj) b u,s2.heap.get? b=some u->(s2.heap.push o).get? b=some u:=fun o b u e=>Heap.get?_push_of_some _ e
 have I3:=I2.laid (a:=s2.heap.objs.size) (o:=.lst []) (t':=s2.toks) (h':=s2.heap.push { cls:=.type "list",data:=.seq ([]:List Value).toArray }) (pk _) (aao _)
  ⟨aas _,[],0,.nil,Heap.get?_push_size _ rfl⟩
 generalize hs3:(⟨s2.heap.push { cls:=.type "list",data:=.seq ([]:List Value).toArray },s2.gens,s2.drawn,s2.toks,s2.os⟩:Shared)=s3 at I3 ⊢
 have k3:∀ b u,s2.heap.get? b=some u->s3.heap.get? b=some u:=fun b u e=>by rw [<- hs3]; exact pk _ b u e
 have tk3:s3.os=s2.os/\s3.gens=s2.gens:=by rw [<- hs3]; exact ⟨rfl,rfl⟩
 have z3:s3.heap.objs.size=s2.heap.objs.size + 1:=by rw [<- hs3]; exact Heap.size_push ..
 refine wpAny_newFunctionEnv hcell (by intro y hy; simp at hy) (fun h4 hns hsb=>?_) hkind
 have k4:∀ b u,s3.heap.get? b=some u->h4.get? b=some u:=fun b u e=>hsb.extBut b u (aaC (Heap.lt_size e)) (Heap.get?_push_of_some _ e)
 have fpl:∀ b ∈ fp,b < s2.heap.objs.size:=fun b hb=>by
  obtain ⟨o,e,_⟩:=T.obj 0 _ st2 b hb
  exact Heap.lt_size e
 obtain ⟨W,⟨m0,w0⟩,turn⟩:=q2 ⟨s3.heap.objs.size,fp,s3,upd H2 s2.heap.objs.size (.lst [])⟩ _ eD
 have ok4:(X.blk scope s3.heap.objs.size fp (loc ++ frn) s3 (upd H2 s2.heap.objs.size (.lst []))).Ok:=by
  refine ⟨I.ok.mod,hkind,I.ok.glob,I.ok.blt,aao _,fun x y c e1 e2=>I.ok.inj x y c (AX hcs e1) (AX hcs e2),fun x hx=>?_,fun x c z=>(nomatch z),I.ok.hd,I.ok.frames,.inl rfl,fun b hb=>⟨?_,fun x c e=>(f2 b hb).2.2.2.2.1 x c (AX hcs e)⟩,I3.bs,aay I.ok.bsz I3.sz,
   fun b o e hb=>?_,fun b hb z=>?_,I3.stack,I3.stkFree⟩
  ·have hm:(x,NameKind.free) ∈ scope.names:=by
    have:∃ k',(k'=NameKind.cell\/k'=NameKind.free)/\(relabel scope X.env).names.lookup x=some k':=by
     rcases hx with z | z
     ·exact ⟨_,.inl rfl,z⟩
     ·exact ⟨_,.inr rfl,z⟩
    obtain ⟨k',hk',z⟩:=this
    have zm:=PySem.mem_of_lookup z
    unfold relabel at zm
    obtain ⟨⟨n,k⟩,hn,e⟩:=aaS.mp zm
    dsimp only at e
    split at e
    ·rename_i hk
     cases e
     have:k=NameKind.free:=by
      cases k <;> first | rfl | (simp at hk)
     rw [<- this]; exact hn
    ·cases e
     rcases hk' with rfl | rfl
     ·exact absurd rfl (hcell _ hn)
     ·exact hn
   obtain ⟨c,e⟩:=I.ok.has x (.inl (hfree _ hm rfl))
   exact ⟨c,Dt hm hcs e⟩
  ·have:=fpl b hb
   exact aaC (by rw [z3]; exact Nat.lt_succ_of_lt this)
  ·rcases (f2 b hb).2.2.2.1 with z | z
   ·exact I.ok.noex b o e z
   ·exact absurd (aau (Heap.lt_size (I.ok.bs b o e).1) z) (aaW _)
  ·have:=I2.stkSub b z
   rcases aai.mp this with rfl | y
   ·exact (f2 _ hb).2.1 rfl
   ·exact (f2 b hb).2.2.1 y
 have I4:Inv (X.blk scope s3.heap.objs.size fp (loc ++ frn) s3 (upd H2 s2.heap.objs.size (.lst []))) [] (A5 loc.length fr σ) (upd H2 s2.heap.objs.size (.lst [])) { s3 with heap:=h4,toks:=s3.toks + ([]:List (Str × Value)).length }:=by
  refine ⟨ok4,rfl,I3.bare,Un.kept k4,⟨_,hns,fun i x v e1 e2 e3=>?_⟩,fun x c e=>?_,I3.hok.fresh (aao _),fun x c e=>I3.freeC x c (AX hcs e),fun p hp=>(nomatch hp),I3.hok.kept k4,?_⟩
  ·unfold A5 at e2
   by_cases hi:i < loc.length
   ·rw [aaP (by simpa using hi),aaT] at e2
    split at e2 <;> cases e2
   ·rw [aaH (by simpa using hi),aa1,aal] at e2
    have e1':frn[i - loc.length]?=some x:=by
     have:(loc ++ frn)[i]?=some x:=e1
     rw [aaH (abi hi)] at this
     exact this
    cases ek:fr[i - loc.length]? with
    | none=>rw [ek] at e2; cases e2
    | some k =>
     rw [ek] at e2
     have e2':(σ[k]?).join=some v:=Option.some.inj e2
     have e2'':σ[k]?=some (some v):=by
      cases q:σ[k]? with
      | none=>rw [q] at e2'; cases e2'
      | some y=>rw [q] at e2'; exact congrArg some e2'
     obtain ⟨n1,n2,n3⟩:=hfr _ k x ek e1'
     obtain ⟨m,_,hl⟩:=I3.loc
     obtain ⟨u,ru,lk⟩:=hl k x v n1 e2'' (.inr (.inl n2))
     refine ⟨u,ru,.inr ⟨.inl (hkin x (aaf e1')),?_⟩⟩
     rcases lk with ⟨z,_⟩ | ⟨_,c,ec,ic⟩
     ·rw [n2] at z; cases z
     ·obtain ⟨o,ho,hd⟩:=ic
      exact ⟨c,Dt n3 hcs ec,o,k4 _ _ ho,hd⟩
  ·obtain ⟨v,o,ho,hd⟩:=I3.cell x c (AX hcs e)
   exact ⟨v,o,k4 _ _ ho,hd⟩
  ·unfold A5
   show _=(loc ++ frn).length
   rw [aaD,aaD,aa1,aab,hln]
 have stat:∀ {H':Hp},(∀ b ∈ fp,H' b=none)->∀ b ∈ fp,FpOk (X.blk scope s3.heap.objs.size fp (loc ++ frn) s3 (upd H2 s2.heap.objs.size (.lst []))) [] H' b:=fun hn b hb =>
  ⟨hn b hb,(ok4.exf b hb).1,ok4.exfs b hb,.inl hb,(ok4.exf b hb).2,fun p hp=>(nomatch hp)⟩
 have fp3:∀ b ∈ fp,(upd H2 s2.heap.objs.size (.lst [])) b=none:=fun b hb=>by
  rw [Al (aaC (fpl b hb))]; exact (f2 b hb).1
 obtain ⟨pg,pt,pe⟩:=hblk ⟨s3.heap.objs.size,fp,s3,upd H2 s2.heap.objs.size (.lst [])⟩
 have st4:tn 0 h4:=T.keep 0 _ _ st2 fun b _ o e=>k4 b o (k3 b o e)
 have after:∀ {i:Nat} {H':Hp} {s':Shared} {acc:List V} {σ':St},Inv (X.blk scope s3.heap.objs.size fp (loc ++ frn) s3 (upd H2 s2.heap.objs.size (.lst []))) [] σ' H' s'->Q (.ref s2.heap.objs.size) H' ->
   compPost (model X.prog X.w) X.A X.xe use R (.ref s2.heap.objs.size) s3.heap.objs.size (.ok .next) s':=by
  intro i H' s' acc σ' I5 q
  obtain ⟨m,hn,_⟩:=I5.loc
  refine haf s2.heap.objs.size s3.heap.objs.size H' s' m hn (fun h' hb=>?_) ⟨I3.sz,ab8 I3.lt,fun x c e z=>?_,fun p hp z=>?_,I5.free,fun z=>?_⟩ q
  ·have same:∀ b o,s3.heap.get? b=some o->h'.get? b=s'.heap.get? b:=fun b o e=>hb.2 b (aaC (Heap.lt_size e))
   have u:=I5.base
   have un:Un (frs X.stack) fp (upd H2 s2.heap.objs.size (.lst [])) H' s3.heap h':=⟨fun b o e n h1 h2=>(same b o e).trans (u.keep b o e n h1 h2),fun b o e n h1 h2=>by
     obtain ⟨sl,z⟩:=u.slot b o e n h1 h2
     exact ⟨sl,(same b o e).trans z⟩,u.free,fun b o e h1=>by
     obtain ⟨o',z⟩:=u.there b o e h1
     exact ⟨o',(same b o e).trans z⟩,u.tups,u.frzs,u.tbls⟩
   have hok:HOk X.prog X.w H' h':=fun b o e=>by
    have fC:H' s3.heap.objs.size=none:=I5.free
    refine (I5.hok b o e).stay (fun c w' hc z=>(hb.2 c ?_).trans z) (fun _ z=>z) fun _ _ z=>z
    rintro rfl
    rcases hc with rfl | hc
    ·rw [fC] at e; cases e
    ·rw [fC] at hc; cases hc
   exact I3.call' (s':={ s' with heap:=h' }) (ch:=fp) I5.os un hok I5.bare (fun b hb=>⟨(f2 b hb).2.2.2.1,(f2 b hb).2.1,(f2 b hb).2.2.2.2.1,(f2 b hb).2.2.2.2.2⟩)
  ·obtain ⟨v,hcell⟩:=I3.cell x c e
   exact absurd (z ▸ hcell.lt) (aaW _)
  ·exact absurd (z ▸ Heap.lt_size (I3.pin p hp).1) (aaW _)
  ·rcases aai.mp (I3.stkSub _ z) with y | y
   ·exact absurd (y ▸ I3.lt) (aaW _)
   ·exact I3.nofs (aao _) y
 have loop:∀ s5:Shared,s5={ s3 with heap:=h4,toks:=s3.toks + ([]:List (Str × Value)).length } ->
   codeAny (model X.prog X.w) X.A (.compLoop (.ListComp elt [⟨tg,iter,ifs,0⟩] scope pos) 0 (.ref it) (.ref s2.heap.objs.size) (compEnvC scope (BJ X.env scope.names []) s3.heap.objs.size X.env))
    (compPost (model X.prog X.w) X.A X.xe use R (.ref s2.heap.objs.size) s3.heap.objs.size) s5:=by
  rintro s5 rfl
  refine EZ (fun n s'=>∃ i acc H',Inv (X.blk scope s3.heap.objs.size fp (loc ++ frn) s3 (upd H2 s2.heap.objs.size (.lst []))) [] (A5 loc.length fr σ) H' s'/\tn i s'.heap/\(∀ b ∈ fp,H' b=none)/\W i n acc H') ?_ m0
   ⟨0,[],_,I4,st4,fp3,w0⟩
  rintro n s6 ⟨i,acc,H6,I6,st6,fr6,w6⟩
  obtain ⟨hD,alt⟩:=turn i n acc H6 w6
  rcases alt with ⟨stop,q⟩ | ⟨go,step⟩
  ·refine thn (T.done (X.blk scope s3.heap.objs.size fp (loc ++ frn) s3 (upd H2 s2.heap.objs.size (.lst []))) rfl rfl rfl hc i [] s6 _ H6 (fun _ _=>False) I6 (stat fr6) st6 stop) fun r s7 ⟨hr,I7⟩=>?_
   subst hr
   exact after (i:=i) (acc:=acc) I7 q
  ·refine thn (T.item (X.blk scope s3.heap.objs.size fp (loc ++ frn) s3 (upd H2 s2.heap.objs.size (.lst []))) rfl rfl rfl hc i [] s6 _ H6 (fun _ _=>False) I6 (stat fr6) st6 go) fun r s7 ⟨u,hr,h7⟩=>?_
   subst hr
   refine thn h7 fun _ s8 ⟨x,H8,I8,r8,y8,st8,fr8⟩=>?_
   have I8':=I8.pinned (stat fr8) (T.obj _ _ st8)
   have back:∀ {σ9:St} {H9:Hp} {s9:Shared},Inv (X.blk scope s3.heap.objs.size fp (loc ++ frn) s3 (upd H2 s2.heap.objs.size (.lst []))) ([] ++ Ep fp s8.heap) σ9 H9 s9->σ9.length=(A5 loc.length fr σ).length->(∀ i,loc.length<=i->σ9[i]?=(A5 loc.length fr σ)[i]?) ->
     Inv (X.blk scope s3.heap.objs.size fp (loc ++ frn) s3 (upd H2 s2.heap.objs.size (.lst []))) [] (A5 loc.length fr σ) H9 s9/\tn (i + 1) s9.heap/\(∀ b ∈ fp,H9 b=none):=by
    intro σ9 H9 s9 I9 hl hk
    refine ⟨(I9.unpinned).weak hl.symm fun j v ej=>?_,T.keep _ _ _ st8 fun b hb o e=>(I9.pin (b,o) (aag _ (aag _ (B3 hb e)))).1,fun b hb=>?_⟩
    ·by_cases hj:j < loc.length
     ·unfold A5 at ej
      rw [aaP (by simpa using hj),aaT] at ej
      split at ej <;> cases ej
     ·rw [hk j (abi hj)]; exact ej
    ·obtain ⟨o,e,d⟩:=T.obj _ _ st8 b hb
     exact (I9.pin (b,o) (aag _ (aag _ (B3 hb e)))).2.1
   refine thn (pg _ s8 _ H8 x u _ I8' r8 (hgk _ _ _ _ _ (step x H8 y8))) fun _ s9 ⟨σ9,H9,I9,q9,l9,k9⟩=>?_
   refine thn (pt _ s9 σ9 H9 _ I9 q9) fun ok s10 ⟨H10,I10,q10⟩=>?_
   cases ok with
   | false =>
    rw [if_neg (by decide)] at q10 ⊢
    obtain ⟨m',hm,w'⟩:=q10
    obtain ⟨b1,b2,b3⟩:=back I10 l9 k9
    exact ⟨m',hm,i + 1,acc,H10,b1,b2,b3,w'⟩
   | true =>
    rw [if_pos rfl] at q10 ⊢
    refine thn (pe _ s10 σ9 H10 _ I10 q10) fun y s11 ⟨v,H11,I11,r11,hD11,hz,m',hm,w'⟩=>?_
    refine thn (D4 _ s11 σ9 H11 (.ref s2.heap.objs.size) [v] (.ref s2.heap.objs.size) [y] (fun _ H12=>W (i + 1) m' (acc ++ [v]) H12) I11 rfl (.cons r11 .nil) ⟨_,acc,v,rfl,rfl,hD11,hz,w'⟩) fun _ s12 ⟨_,H12,I12,_,w12⟩=>?_
    obtain ⟨b1,b2,b3⟩:=back I12 l9 k9
    exact ⟨m',hm,i + 1,_,H12,b1,b2,b3,w12⟩
 exact codeAny_compStart_list (loop _ rfl) (T.self X.A 0 _ _ _ st4 (loop _ rfl))
theorem Inv.but {X:Cx} {pins:List (Addr × Obj)} {s:Shared} {σ:St} {H:Hp} {C:Addr} {h':Heap} (I:Inv X pins σ H s) (hC:X.s₀.heap.objs.size<=C/\C ≠ X.env.locals/\(∀ x c,X.env.cells.lookup x=some c->c ≠ C)/\(∀ p ∈ X.pn ++ pins,p.1 ≠ C)/\H C=none/\C ∉ frs X.stack)
  (hb:Heap.SameBut C s.heap h'):Inv X pins σ H { s with heap:=h' }:=by
 obtain ⟨h1,h2,h3,h4,h5,h6⟩:=hC
 have same:∀ b,b ∉ [C]->h'.get? b=s.heap.get? b:=fun b z=>hb.2 b (fun e=>z (by simp [e]))
 refine I.call' (s':={ s with heap:=h' }) (ch:=[C]) rfl ⟨fun b o e _ _ z=>(same b z).trans e,fun b o e _ _ z=>⟨o.slots,(same b z).trans e⟩,fun b o e n z=>n,fun b o e z=>⟨o,(same b z).trans e⟩,fun _ _ e=>e,fun _ _ _ e=>e,fun _ ps e=>⟨#[],by simpa using e⟩⟩ ?_ I.bare
  (fun b z=>by
   have:b=C:=by simpa using z
   subst this
   exact ⟨.inr h1,h2,h3,h4⟩)
 intro b o e
 refine (I.hok b o e).stay (fun c w' hc z=>(hb.2 c ?_).trans z) (fun _ z=>z) fun _ _ z=>z
 rintro rfl
 rcases hc with rfl | hc
 ·rw [h5] at e; cases e
 ·rw [h5] at hc; cases hc
theorem JX {X:Cx} {elt tg iter:Expr} {ifs:List Expr} {scope:Scope} {pos spos py:Pos} {y:Str} {k:Nat} {wi:TI} {gz:Bk->TG} {tcz:Bk->TT} {tez:Bk->TE} (loc:List Str) (fr:List Nat) (frn:List Str) (hc:X.calm=true) (hi:PI X tg iter wi)
  (hfr:∀ (j:Nat) (k:Nat) (x:Str),fr[j]?=some k->frn[j]?=some x->X.N[k]?=some x/\X.env.kindOf x=some .cell/\(x,NameKind.free) ∈ scope.names) (hln:frn.length=fr.length)
  (hcell:∀ y ∈ scope.names,y.2 ≠ .cell) (hkind:scope.kind=.function) (hnames:∀ y ∈ scope.names,y.2=.local->scope.names.lookup y.1=some .local) (hfree:∀ y ∈ scope.names,y.2=.free->X.env.kindOf y.1=some .cell)
  (hkin:∀ (x:Str),x ∈ frn->(relabel scope X.env).names.lookup x=some .cell) (hsc:X.env.scope.kind=.function)
  (hgk:∀ (z:Bk) (v:V) (σ:St) (H:Hp) (Q:St->Hp->Prop),gz z v σ H Q->gz z v σ H fun σ' H'=>Q σ' H'/\σ'.length=σ.length/\∀ i,loc.length<=i->σ'[i]?=σ[i]?)
  (hblk:∀ (z:Bk),PG (X.blk scope z.C z.fp (loc ++ frn) z.s z.H) tg (gz z)/\PTs (X.blk scope z.C z.fp (loc ++ frn) z.s z.H) ifs (tcz z)/\PE (X.blk scope z.C z.fp (loc ++ frn) z.s z.H) elt (tez z))
  (hs:∀ x,foldedSetIterable iter X.env x=pure x) (hN:X.N.Nodup) (hk:X.N[k]?=some y) (hx:Loc X.env.scope y) (hf:X.fn y=true\/X.env.scope.names.lookup y=some .local)
  (hsw:swapsWith (.ListComp elt [⟨tg,iter,ifs,0⟩] scope pos) (some (.Name y py)) spos.line X.env=pure true) :
  PS X (.Assign [.Name y py] (.ListComp elt [⟨tg,iter,ifs,0⟩] scope pos) spos) (DL (Gk loc.length fr wi gz tcz tez) (D2 k)):=by
 intro pins s σ H D I h
 rw [exec_Assign_Name_used _ _ _ _ hsw]
 refine wpAny_bind (wpAny_standAt (wpAny_bind ?_))
 show wpAny _ X.A (do let _ <- comprehension (.ListComp elt [⟨tg,iter,ifs,0⟩] scope pos) scope X.env _ (newList []) false (eval iter X.env) (some (assign (.Name y py) X.env))) _ _ s
 refine wpAny_bind (wpAny_mono (MJ (R:=fun _ s'=>SP X pins D .next s') loc fr frn hc hi hfr hln hcell hkind hnames hfree hkin hsc hgk hblk I h (fun D' C H' s' m hn hI hC q=>?_) hs) (fun _ s' hq=>wpAny_pure (wpAny_pure hq)) fun _ _ e=>e)
 have I7:Inv X pins σ H' s':=hI s'.heap ⟨rfl,fun _ _=>rfl⟩
 refine wpAny_assign_Name (G3 (v:=.ref D') I7 hN hk hx rfl (fun s8 I8 ⟨a,sb,ha⟩=>?_) hf)
 refine ⟨m,hn.sameBut sb ?_,fun h9 sb9=>⟨_,H',I8.but hC sb9,q⟩⟩
 rcases ha with rfl | ha
 ·exact hC.2.1
 ·exact fun z=>hC.2.2.1 _ _ ha z.symm
end L2
end
section
namespace L2
open PySem PySem.Spec PyProof.Rows PySem.W
section
variable {X:Cx}
noncomputable def FX (n:Nat) (i:Int):Nat:=if i < 0 then (i + (n:Int)).toNat else min i.toNat n
noncomputable def Jf:V->List V->Hp->VK->Prop:=fun x vs H Q=>∃ l xs i y,x=.ref l/\vs=[.int i,y]/\H l=some (.lst xs)/\-(2 ^ 63)<=i/\i < 2 ^ 63/\xs.length < sizeLine/\Q .non (upd H l (.lst (xs.take (FX xs.length i) ++ y :: xs.drop (FX xs.length i))))
theorem Vals.tk {xs:List V} {us:List Value} (h:Vals xs us):∀ n,Vals (xs.take n) (us.take n)/\Vals (xs.drop n) (us.drop n):=by
 induction h with
 | nil=>intro n; cases n <;> exact ⟨.nil,.nil⟩
 | cons h1 h2 ih =>
  intro n
  cases n with
  | zero=>exact ⟨.nil,.cons h1 h2⟩
  | succ n=>exact ⟨.cons h1 (ih n).1,(ih n).2⟩
theorem Lh:MtM X "list.insert" Jf:=by
 intro pins s σ H x vs v us Q I rx rv h
 obtain ⟨l,xs,i,y,rfl,rfl,hH,h1,h2,hz,q⟩:=h
 cases rx
 cases rv with
 | cons ra rb =>
  cases rb with
  | cons ru rc =>
   cases rc
   obtain ⟨t,rfl⟩:=ra
   rename_i u
   obtain ⟨z,its,n,r,hl,e⟩:=I.lstM hH
   refine call_meets PySem.F.slot_list_insert ⟨_,e,rfl⟩ PySem.F.entry_list_insert (PySem.F.args_list_insert_3 _ _ _) (PySem.AutoListH.list_insert_list_int_val_1 l its.toArray n i t u (by rw [fitsIndex_both h1 h2]; decide) (by rw [aak]; omega)) ⟨e,?_⟩
   refine ⟨.non,_,I.lset (its':=its.take (FX xs.length i) ++ u :: its.drop (FX xs.length i)) hH e ?_ ((r.tk _).1.append (.cons ru (r.tk _).2)) ?_,rfl,q⟩
   ·rw [hl]
    unfold FX
    simp
    generalize (if i < 0 then (i + (its.length:Int)).toNat else min i.toNat its.length)=k
    exact abO (by rw [abh]; exact aao _)
   ·rw [aaD,abj,abg,abh]
    omega
end
end L2
end
section
namespace L2
open PySem PySem.Spec PyProof PyProof.Rows PySem.W
section
variable {prog:Program} {w:World} {A:Around} {E:Value->Shared->Prop}
theorem Li {it l:Addr} {items:Array Value} (hne:l ≠ it):∀ (n i:Nat) (s:Shared) (Q:List Value->Shared->Prop),s.heap.IsListIter it l i->s.heap.IsList l items->i + n<=items.size->(∀ h',h'.IsListIter it l (i + n)->Heap.SameBut it s.heap h'->Q ((items.toList.drop i).take n) { s with heap:=h' })->wpAny (model prog w) A (draw (.ref it) n) Q E s
 | 0,i,s,Q,hit,_,_,hQ=>wpAny_pure (by simpa using hQ s.heap hit (Heap.SameBut.refl ..))
 | n + 1,i,s,Q,hit,hl,hle,hQ=>by
  have hz:i < items.size:=by omega
  show wpAny _ _ (pyNext (.ref it) >>= _) Q E s; refine wpAny_bind (wpAny_pyNext_list_item hit hl (x:=items[i]) (by simp [hz]) fun h1 hit1 hs1=>?_)
  have hl1:h1.IsList l items:=by
   obtain ⟨o,e,c⟩:=hl
   exact ⟨o,(hs1.2 l hne).trans e,c⟩
  refine wpAny_bind (wpAny_holding (Li hne n (i + 1) _ _ hit1 hl1 (by omega) fun h2 hit2 hs2=>wpAny_pure ?_))
  have hd:items.toList.drop i=items[i] :: items.toList.drop (i + 1):=by simp [abD,hz]
  have:=hQ h2 (by rw [show i + (n + 1)=i + 1 + n by omega]; exact hit2) ⟨hs2.1.trans hs1.1,fun b hb=>(hs2.2 b hb).trans (hs1.2 b hb)⟩
  rw [hd,List.take_succ_cons] at this; exact this
theorem Oa {s:Shared} {l:Addr} {items:Array Value} {Q:List Value->Shared->Prop} (hh:A.handled=none) (hl:s.heap.IsList l items) (hQ:∀ h',Heap.ExtBut s.heap.objs.size s.heap h'->Q items.toList { s with heap:=h' }):wpAny (model prog w) A (unpackItems (.ref l) items.size none) Q E s:=by
 have hlt:l ≠ s.heap.objs.size:=by obtain ⟨o,ho,_⟩:=hl; exact aaC (Heap.lt_size ho)
 unfold unpackItems notIterableAtAll
 refine wpAny_bind (wpAny_bind (wpAny_specialOf hl.typeIs slot_list_iter.lookup (wpAny_pure ?_)))
 simp only [aa3,if_false]; refine wpAny_bind (wpAny_holding (wpAny_pyIter_list hl ?_))
 have hl0:(s.heap.push { cls:=.type "list_iterator",data:=.fields #[.ref l,.int 0 0] }).IsList l items:=by
  obtain ⟨o,e,c⟩:=hl
  exact ⟨o,Heap.get?_push_of_some _ e,c⟩
 refine wpAny_bind (wpAny_holding (Li hlt items.size 0 _ _ ⟨_,Heap.get?_push_size _ rfl,rfl,rfl⟩ hl0 (by omega) fun h1 hit1 hs1=>?_))
 have hall:List.take items.size (List.drop 0 items.toList)=items.toList:=by
  rw [List.drop_zero]; exact abO (by simp)
 rw [hall,if_neg (by simp)]
 have hl1:h1.IsList l items:=by
  obtain ⟨o,e,c⟩:=hl0
  exact ⟨o,(hs1.2 l hlt).trans e,c⟩
 refine wpAny_bind (wpAny_holding (wpAny_pyNext_list_end hh hit1 hl1 (by simp) fun h2 he2=>?_))
 simp only [Option.isSome_none,aa3,if_false]
 exact wpAny_pure (hQ h2 fun b o hb e=>he2 b o hb ((hs1.2 b hb).trans (Heap.get?_push_of_some _ e)))
end
section
variable {X:Cx} {pos:Pos}
noncomputable def Qb (K:PySem.W.Frag) (n:Nat) (t:TGs):TG:=fun v σ H Q=>∃ a xs,v=.ref a/\SqL K H a xs/\xs.length=n/\t xs σ H Q
theorem Qc {es:List Expr} {k:Nat} {t:TGs} {n:Nat} (hc:X.calm=true) (h:PGs X es t) (hn:(assignEach es X.env).length=n) (hst:(assignEach es X.env).findIdx? (·.1)=none):PG X (.Tuple es k pos) (Qb X.K n t):=by
 intro pins s σ H v u Q I r hw
 obtain ⟨a,xs,rfl,hq,hl,hw⟩:=hw
 cases r
 obtain ⟨its,rv,pl,hz⟩:=I.list hq
 rw [assign_Tuple]
 refine wpAny_bind (wpAny_standAt ?_)
 unfold unpack
 rw [hst,hn,<- hl,rv.length,show its.length=its.toArray.size by simp]
 refine wpAny_bind (wpAny_holding (Oa (I.ok.hd hc) pl.isList fun h' hx=>?_))
 have I1:Inv X pins σ H { s with heap:=h' }:=I.kept (t':=s.toks) fun b o e=>hx b o (aaC (Heap.lt_size e)) e
 exact h pins _ σ H xs _ Q I1 (by simpa using rv) hw
end
end L2
end
section
namespace L2
open PySem PySem.Spec PyProof.Rows PySem.W
open AutoSeq1 (wpAny_loadPart')
theorem FpOk.upd {X:Cx} {pins:List (Addr × Obj)} {H:Hp} {c t:Addr} {o:HO} (h:FpOk X pins H c) (n:c ≠ t):FpOk X pins (upd H t o) c:=by
 obtain ⟨f0,f1,f2,f3,f4,f5⟩:=h
 exact ⟨by rw [Al n]; exact f0,f1,f2,f3,f4,f5⟩
end L2
end
section
namespace L2
open PySem PySem.Spec PyProof.Rows
noncomputable def PEk (X:Cx) (e:Expr) (t:TE):Prop :=
 ∀ (pins:List (Addr × Obj)) (s:Shared) (σ:St) (H:Hp) (Q:VK),Inv X pins σ H s->0 < s.toks->t σ H Q->wpAny (model X.prog X.w) X.A (eval e X.env) (EP X pins σ Q) X.xe s
section
variable {X:Cx} {a b e o:Expr} {es:List Expr} {ta tb te to:TE} {t:TA} {pos:Pos}
theorem PE.k (h:PE X e te):PEk X e te:=fun pins s σ H Q I _ q=>h pins s σ H Q I q
end
end L2
end
section
namespace L2
open PySem PySem.Spec PyProof.Rows PySem.W PySem.SeqAt
theorem Qd {P:Program} {w:World} {A:Around} {s:Shared} {a b:Addr} (na:(a==sysModules)=false) (nb:(b==sysModules)=false) (da:s.heap.DictOf (B0 P w) a []) (db:s.heap.DictOf (B0 P w) b []) (hu:A.units < cLine):RcAt A s (.ref a) (.ref b) true:=by
 intro prog w' E Q h
 have any:∀ {c:Addr},s.heap.DictOf (B0 P w) c []->s.heap.DictOf (B0 prog w') c []:=by
  rintro c ⟨o,es,ep,h1,h2,h3,_,h5,h6⟩
  cases es with
  | mk l =>
   have:l=[]:=by cases h5; rfl
   subst this
   exact ⟨o,_,ep,h1,h2,h3,fun e he=>by cases he; contradiction,.nil,h6⟩
 exact keq_eq na nb (any da) (any db) hu (fun _=>KeqHits.nil) h
end L2
end
section
namespace Pu
open PySem (Str)
inductive D where
 | non
 | bl (b:Bool)
 | int (i:Int)
 | str (x:Str)
 | tup (ds:List D)
 | lst (ds:List D)
 | exn (c:Nat)
 | dic (ks:List (Sum Int Str)) (ds:List D)
 | dit (ks:List (List (Sum Int Str))) (ds:List D)
inductive Res (α:Type) where
 | ok (a:α)
 | exc (c:Nat)
 | bad
namespace Res
noncomputable def bind {α β:Type}:Res α->(α->Res β)->Res β
 | .ok a,f=>f a
 | .exc c,_=>.exc c
 | .bad,_=>.bad
@[simp] theorem bind_ok {α β:Type} (a:α) (f:α->Res β):(Res.ok a).bind f=f a:=rfl
@[simp] theorem bind_exc {α β:Type} (c:Nat) (f:α->Res β):(Res.exc c:Res α).bind f=.exc c:=rfl
@[simp] theorem bind_bad {α β:Type} (f:α->Res β):(Res.bad:Res α).bind f=.bad:=rfl
theorem bind_eq_ok {α β:Type} {r:Res α} {f:α->Res β} {b:β} (h:r.bind f=.ok b):∃ a,r=.ok a/\f a=.ok b:=by
 cases r <;> simp_all
end Res
mutual
noncomputable def D.eqv:D->D->Bool
 | .non,.non=>true
 | .bl a,.bl b=>a==b
 | .bl a,.int j=>(if a then 1 else 0)==j
 | .int i,.bl b=>i==(if b then 1 else 0)
 | .int i,.int j=>i==j
 | .str x,.str y=>x==y
 | .lst xs,.lst ys=>D.eqvs xs ys
 | .tup xs,.tup ys=>D.eqvs xs ys
 | _,_=>false
noncomputable def D.eqvs:List D->List D->Bool
 | [],[]=>true
 | x :: xs,y :: ys=>D.eqv x y && D.eqvs xs ys
 | _,_=>false
end
noncomputable def D.shp:Nat->D->Bool
 | _,.non=>true
 | _,.bl _=>true
 | _,.int _=>true
 | _,.str x=>x.cps.all (· < 0x110000)
 | 0,.tup _=>false
 | 0,.lst _=>false
 | n + 1,.tup ds=>ds.all (D.shp n)
 | n + 1,.lst ds=>ds.all (D.shp n)
 | _,.exn _=>false
 | _,.dic _ _=>false
 | _,.dit _ _=>false
noncomputable def D.sm:Nat->D->D->Bool
 | _,.non,.non=>true
 | _,.bl a,.bl b=>a==b
 | _,.int a,.int b=>a==b
 | _,.str a,.str b=>a==b
 | n + 1,.tup xs,.tup ys=>xs.length==ys.length && (abo (D.sm n) xs ys).all id
 | n + 1,.lst xs,.lst ys=>xs.length==ys.length && (abo (D.sm n) xs ys).all id
 | _,.dic [] [],.dic [] []=>true
 | _,_,_=>false
noncomputable def D.flat:Nat->Nat->D->Bool
 | 0,_,_=>false
 | _ + 1,_,.non=>true
 | _ + 1,_,.bl _=>true
 | _ + 1,_,.int _=>true
 | _ + 1,_,.str _=>true
 | _ + 1,_,.exn _=>true
 | m + 1,k,.tup ds=>ds.all (D.flat m k)
 | _ + 1,0,.lst _=>false
 | m + 1,k + 1,.lst ds=>ds.all (D.flat m k)
 | _ + 1,0,.dic _ _=>false
 | m + 1,k + 1,.dic _ ds=>ds.all (D.flat m k)
 | _ + 1,0,.dit _ _=>false
 | m + 1,k + 1,.dit _ ds=>ds.all (D.flat m k)
noncomputable abbrev LIM:Nat:=16777216
noncomputable abbrev Fr:=List (Option D)
structure Fn where
 name:Str
 ar:Nat
 lv:Nat
 dep:Nat
 den:List D->Res D
set_option genSizeOf false
set_option genSizeOfSpec false
set_option genInjectivity false
inductive B2 where
 | add | sub | mul | fdiv | mod | pow
 deriving DecidableEq
inductive C2 where
 | lt | le | gt | ge | eq | ne | inn | nin
 | sm
 | ml
 deriving DecidableEq
inductive Kd where
 | int | bool | str | list | tuple | dict | verr | cls (n:Nat)
 deriving DecidableEq
inductive Bi where
 | len | min | maxL | int | list | tuple | tupleL | all
 deriving DecidableEq
inductive Tg where
 | nm (i:Nat)
 | tp (is:List Nat)
 deriving DecidableEq
mutual
inductive E where
 | nm (i:Nat)
 | cN
 | cB (b:Bool)
 | cI (i:Int)
 | cS (x:Str)
 | gl (x:Str) (d:D)
 | tup (es:Es)
 | lst (es:Es)
 | bin (o:B2) (a b:E)
 | neg (a:E)
 | not (a:E)
 | cmp (o:C2) (a b:E)
 | chain (o o':C2) (a b c:E)
 | isN (n:Bool) (a:E)
 | bo (and:Bool) (es:Es)
 | ix (a i:E)
 | ixL (a i:E)
 | dNew
 | slc (a lo hi:E)
 | call (f:Fn) (es:Es)
 | callB (f:Fn) (es:Es)
 | bi (b:Bi) (es:Es)
 | isi (a:E) (k:Kd)
 | isiM (a:E) (ns:List Nat)
 | comp0 (nl:Nat) (fr:List Nat) (tg:Tg) (it:It) (elt:E)
inductive Es where
 | nil
 | cons (e:E) (r:Es)
inductive It where
 | seq (e:E)
 | seqL (e:E)
 | r1 (a:E)
end
noncomputable def get (δ:Fr) (i:Nat):Res D:=match δ[i]? with
 | some (some d)=>.ok d
 | _=>.bad
noncomputable def on1:List D->(D->Res D)->Res D
 | [a],f=>f a
 | _,_=>.bad
noncomputable def on2:List D->(D->D->Res D)->Res D
 | [a,b],f=>f a b
 | _,_=>.bad
noncomputable def on3:List D->(D->D->D->Res D)->Res D
 | [a,b,c],f=>f a b c
 | _,_=>.bad
noncomputable def DN:D->(Int->Res D)->Res D
 | .int i,f=>f i
 | _,_=>.bad
noncomputable def BO (a b:D) (f:Int->Int->Res D):Res D:=DN a fun i=>DN b fun j=>f i j
noncomputable def CT:D->(List D->Res D)->Res D
 | .lst ds,f=>f ds
 | .tup ds,f=>f ds
 | _,_=>.bad
noncomputable def JY:D->D->Res D
 | .int i,.int j=>.ok (.int (i + j))
 | .lst a,.lst b=>if a.length + b.length<=LIM then .ok (.lst (a ++ b)) else .bad
 | .str a,.str b=>if a.length + b.length<=LIM then .ok (.str (a ++ b)) else .bad
 | _,_=>.bad
noncomputable def HK:D->D->Res D
 | .int i,.int j=>if (-(2 ^ 64) < i/\i < 2 ^ 64)\/(-(2 ^ 64) < j/\j < 2 ^ 64) then .ok (.int (i * j)) else if i.natAbs < 2 ^ 400/\j.natAbs < 2 ^ 400 then .ok (.int (i * j)) else .bad
 | .lst a,.int k=>if -(2 ^ 63)<=k/\k < 2 ^ 63/\a.length * k.toNat<=LIM then .ok (.lst (aam k.toNat a).flatten) else .bad
 | _,_=>.bad
noncomputable def b2:B2->D->D->Res D
 | .add,a,b=>JY a b
 | .sub,a,b=>BO a b fun i j=>.ok (.int (i - j))
 | .mul,a,b=>HK a b
 | .fdiv,a,b=>BO a b fun i j=>if 0 < j/\j < 2 ^ 200 then .ok (.int (i / j)) else .bad
 | .mod,a,b=>BO a b fun i j=>if 0 < j then .ok (.int (i % j)) else .bad
 | .pow,a,b=>BO a b fun i j=>if 0<=j/\j<=1000000/\i.natAbs < 2 ^ 64 then .ok (.int (i ^ j.toNat)) else .bad
noncomputable def D.scal:D->Bool
 | .non | .bl _ | .int _ | .str _=>true
 | _=>false
noncomputable def inD (x:D) (ys:List D):Res Bool:=if D.shp 8 x && ys.all (D.shp 8) then .ok (ys.any fun y=>D.eqv y x) else .bad
noncomputable def mlD:D->D->Res D
 | .lst xs,.lst []=>.ok (.bl xs.isEmpty)
 | _,_=>.bad
noncomputable def c2:C2->D->D->Res D
 | .lt,a,b=>BO a b fun i j=>.ok (.bl (decide (i < j)))
 | .le,a,b=>BO a b fun i j=>.ok (.bl (decide (i<=j)))
 | .gt,a,b=>BO a b fun i j=>.ok (.bl (decide (j < i)))
 | .ge,a,b=>BO a b fun i j=>.ok (.bl (decide (j<=i)))
 | .eq,x,y=>if D.shp 8 x && D.shp 8 y then .ok (.bl (D.eqv x y)) else .bad
 | .ne,x,y=>if D.shp 8 x && D.shp 8 y then .ok (.bl (!D.eqv x y)) else .bad
 | .inn,x,y=>CT y fun ys=>(inD x ys).bind fun b=>.ok (.bl b)
 | .nin,x,y=>CT y fun ys=>(inD x ys).bind fun b=>.ok (.bl !b)
 | .sm,x,y=>if D.sm 8 x y=true then .ok (.bl true) else .bad
 | .ml,x,y=>mlD x y
noncomputable def ixN (n:Nat) (i:Int):Option Nat:=if 0<=i then (if i < n then some i.toNat else none) else if -(n:Int)<=i then some (i + n).toNat else none
noncomputable def atD (ds:List D) (i:Int):Res D:=match (ixN ds.length i).bind (fun j=>ds[j]?) with
 | some d=>.ok d
 | none=>.bad
noncomputable def ixD:D->D->Res D
 | .lst ds,.int i=>atD ds i
 | .tup ds,.int i=>atD ds i
 | _,_=>.bad
noncomputable def CB:D->D->Res D
 | .lst ds,.int i=>atD ds i
 | _,_=>.bad
noncomputable def E0:D->D->Res D
 | .tup ds,.int i=>atD ds i
 | _,_=>.bad
noncomputable def sIx (n d:Nat):Option Int->Nat
 | none=>d
 | some v=>(if v < 0 then max (v + (n:Int)) 0 else min v (n:Int)).toNat
noncomputable def cut {α:Type} (xs:List α) (lo hi:Option Int):List α:=(xs.drop (sIx xs.length 0 lo)).take (sIx xs.length xs.length hi - sIx xs.length 0 lo)
noncomputable def C9:D->Res (Option Int)
 | .int i=>.ok (some i)
 | _=>.bad
noncomputable def Ck (n:Bool) (r:Res D):Res (Option Int):=if n then .ok none else r.bind C9
noncomputable def E.isCN:E->Bool
 | .cN=>true
 | _=>false
noncomputable def DO:D->Option Int->Option Int->Res D
 | .lst ds,lo,hi=>.ok (.lst (cut ds lo hi))
 | .tup ds,lo,hi=>if ds.all D.scal=true/\¬ (sIx ds.length 0 lo=0/\sIx ds.length ds.length hi=ds.length) then .ok (.tup (cut ds lo hi)) else .bad
 | _,_,_=>.bad
noncomputable def CC:D->Res Bool
 | .non=>.ok false
 | .bl b=>.ok b
 | .int i=>.ok (i != 0)
 | .lst ds=>.ok (!ds.isEmpty)
 | .tup ds=>.ok (!ds.isEmpty)
 | _=>.bad
noncomputable def isa (c d:Nat):Bool:=c==d || d==0
noncomputable def dI:D->Bool
 | .int _=>true
 | .bl _=>true
 | _=>false
noncomputable def dB:D->Bool
 | .bl _=>true
 | _=>false
noncomputable def dS:D->Bool
 | .str _=>true
 | _=>false
noncomputable def dL:D->Bool
 | .lst _=>true
 | _=>false
noncomputable def dT':D->Bool
 | .tup _=>true
 | _=>false
noncomputable def dD:D->Bool
 | .exn c=>c==999
 | .dic _ _=>true
 | .dit _ _=>true
 | _=>false
noncomputable def dX:D->(Nat->Bool)->Res Bool
 | .exn c,f=>if c==999 then .bad else .ok (f c)
 | _,_=>.bad
noncomputable def CD (d:D):Kd->Res Bool
 | .int=>.ok (dI d)
 | .bool=>.ok (dB d)
 | .str=>.ok (dS d)
 | .list=>.ok (dL d)
 | .tuple=>.ok (dT' d)
 | .dict=>.ok (dD d)
 | .verr=>dX d fun _=>true
 | .cls n=>dX d fun c=>isa c n
noncomputable def CF:List D->Option (List Int)
 | []=>some []
 | .int i :: r=>(CF r).map (i :: ·)
 | _=>none
noncomputable def B4:List D->Option (List Bool)
 | []=>some []
 | .bl i :: r=>(B4 r).map (i :: ·)
 | _=>none
noncomputable def DP {α:Type}:Option α->Res α
 | some a=>.ok a
 | none=>.bad
noncomputable def Du:D->(List Int->Res D)->Res D
 | .lst ds,f=>(DP (CF ds)).bind f
 | _,_=>.bad
noncomputable def CG:D->(List Bool->Res D)->Res D
 | .lst ds,f=>(DP (B4 ds)).bind f
 | _,_=>.bad
noncomputable def ED:D->(List D->Res D)->Res D
 | .lst ds,f=>f ds
 | _,_=>.bad
noncomputable def EE:D->Res D
 | .int i=>.ok (.int i)
 | .bl b=>.ok (.int (if b then 1 else 0))
 | _=>.bad
noncomputable def biD:Bi->List D->Res D
 | .len,ds=>on1 ds fun d=>CT d fun ds=>.ok (.int ds.length)
 | .min,ds=>on2 ds fun a b=>BO a b fun i j=>.ok (.int (min i j))
 | .maxL,ds=>on1 ds fun d=>Du d fun ns=>(DP ns.max?).bind fun n=>.ok (.int n)
 | .int,ds=>on1 ds EE
 | .list,ds=>on1 ds fun d=>CT d fun ds=>.ok (.lst ds)
 | .tuple,ds=>on1 ds fun d=>CT d fun ds=>.ok (.tup ds)
 | .tupleL,ds=>on1 ds fun d=>ED d fun ds=>.ok (.tup ds)
 | .all,ds=>on1 ds fun d=>CG d fun bs=>.ok (.bl (bs.all id))
noncomputable def DQ:List Nat->List D->Fr->Option Fr
 | [],[],δ=>some δ
 | i :: is,d :: ds,δ=>DQ is ds (δ.set i (some d))
 | _,_,_=>none
noncomputable def Da:Tg->D->Fr->Option Fr
 | .nm i,d,δ=>some (δ.set i (some d))
 | .tp is,.tup ds,δ=>DQ is ds δ
 | .tp is,.lst ds,δ=>DQ is ds δ
 | _,_,_=>none
noncomputable def Bc (f:D->Res (Option D)):List D->Res (List D)
 | []=>.ok []
 | d :: ds=>match f d with
  | .ok o=>(Bc f ds).bind fun r=>.ok (match o with | some x=>x :: r | none=>r)
  | _=>.bad
noncomputable def blk (nl:Nat) (fr:List Nat) (δ:Fr):Fr:=aam nl none ++ fr.map fun j=>(δ[j]?).join
noncomputable def Ar (a b:Int):List D:=(aaE (b - a).toNat).map fun (i:Nat)=>D.int (a + i)
noncomputable def Dv:D->Res (List D)
 | .lst ds=>.ok ds
 | .tup ds=>.ok ds
 | _=>.bad
noncomputable def CH:D->Res (List D)
 | .lst ds=>.ok ds
 | _=>.bad
noncomputable def E3 (i:Int):Bool:=decide (-(2 ^ 62)<=i) && decide (i < 2 ^ 62)
noncomputable def Qe:D->D->Res (List D)
 | .int a,.int b=>if E3 a && E3 b && decide ((b - a).toNat<=LIM) then .ok (Ar a b) else .bad
 | _,_=>.bad
mutual
noncomputable def ev:E->Fr->Res D
 | .nm i,δ=>get δ i
 | .cN,_=>.ok .non
 | .cB b,_=>.ok (.bl b)
 | .cI i,_=>.ok (.int i)
 | .cS x,_=>.ok (.str x)
 | .gl _ d,_=>.ok d
 | .tup es,δ=>(evs es δ).bind fun ds=>.ok (.tup ds)
 | .lst es,δ=>(evs es δ).bind fun ds=>.ok (.lst ds)
 | .bin o a b,δ=>(ev a δ).bind fun x=>(ev b δ).bind fun y=>b2 o x y
 | .neg a,δ=>(ev a δ).bind fun x=>match x with | .int i=>.ok (.int (-i)) | _=>.bad
 | .not a,δ=>(ev a δ).bind fun x=>match x with | .bl b=>.ok (.bl !b) | _=>.bad
 | .cmp o a b,δ=>(ev a δ).bind fun x=>(ev b δ).bind fun y=>c2 o x y
 | .chain o o' a b c,δ=>(ev a δ).bind fun x=>(ev b δ).bind fun y=>(c2 o x y).bind fun r=>match r with
  | .bl true=>(ev c δ).bind fun z=>c2 o' y z
  | .bl false=>.ok (.bl false)
  | _=>.bad
 | .isN n a,δ=>(ev a δ).bind fun x=>.ok (.bl (match x with | .non=>!n | _=>n))
 | .bo k es,δ=>evBo k es δ
 | .ix a i,δ=>(ev a δ).bind fun x=>(ev i δ).bind fun y=>ixD x y
 | .ixL a i,δ=>(ev a δ).bind fun x=>(ev i δ).bind fun y=>CB x y
 | .dNew,_=>.ok (.dic [] [])
 | .slc a lo hi,δ=>(ev a δ).bind fun x=>(Ck lo.isCN (ev lo δ)).bind fun l=>(Ck hi.isCN (ev hi δ)).bind fun h=>DO x l h
 | .call f es,δ=>(evs es δ).bind fun ds=>f.den ds
 | .callB f es,δ=>(evs es δ).bind fun ds=>(f.den ds).bind fun d=>if D.flat 9 f.dep d then .ok d else .bad
 | .bi b es,δ=>(evs es δ).bind fun ds=>biD b ds
 | .isi a k,δ=>(ev a δ).bind fun x=>(CD x k).bind fun b=>.ok (.bl b)
 | .isiM a ns,δ=>(ev a δ).bind fun x=>(dX x fun c=>ns.any (isa c)).bind fun b=>.ok (.bl b)
 | .comp0 nl fr tg it elt,δ=>(evI it δ).bind fun ds=>(Bc (fun d=>match Da tg d (blk nl fr δ) with
   | some δ'=>(ev elt δ').bind fun x=>.ok (some x)
   | none=>.bad) ds).bind fun r=>.ok (.lst r)
noncomputable def evs:Es->Fr->Res (List D)
 | .nil,_=>.ok []
 | .cons e r,δ=>(ev e δ).bind fun x=>(evs r δ).bind fun xs=>.ok (x :: xs)
noncomputable def evBo (k:Bool):Es->Fr->Res D
 | .nil,_=>.bad
 | .cons e .nil,δ=>ev e δ
 | .cons e (.cons e' r),δ=>(ev e δ).bind fun x=>match x with
  | .bl c=>if c=k then evBo k (.cons e' r) δ else .ok (.bl c)
  | _=>.bad
noncomputable def evI:It->Fr->Res (List D)
 | .seq e,δ=>(ev e δ).bind Dv
 | .seqL e,δ=>(ev e δ).bind CH
 | .r1 a,δ=>(ev a δ).bind fun x=>Qe (.int 0) x
end
noncomputable def tv (e:E) (δ:Fr):Res Bool:=(ev e δ).bind CC
inductive Um where
 | append | extend | insert | popAt | clear
 deriving DecidableEq
mutual
inductive S where
 | asg (x:Nat) (k:Nat) (e:E)
 | dem (x:Nat) (k:Nat)
 | dead (x:Nat)
 | asgT (xs:List Nat) (e:E)
 | set (x:Nat) (path:List (Bool × E)) (i e:E)
 | mut (x:Nat) (path:List (Bool × E)) (m:Um) (es:Es)
 | expr (e:E)
 | iff (c:E) (a b:Ss)
 | wh (c:E) (b:Ss)
 | for_ (tg:Tg) (it:It) (b:Ss)
 | ret (e:E)
 | raise (c:Nat) (es:Es)
 | try_ (b:Ss) (c:Nat) (i:Nat) (h:Ss) (e:Ss)
inductive Ss where
 | nil
 | cons (s:S) (r:Ss)
 | lend (x y:Nat) (a:E) (b:Ss) (i e:E)
end
inductive Out where
 | nxt (δ:Fr)
 | ret (d:D)
 | exc (c:Nat) (δ:Fr)
 | bad
noncomputable def evP:List (Bool × E)->Fr->Res (List (Bool × Int))
 | [],_=>.ok []
 | (t,e) :: r,δ=>match ev e δ with
  | .ok (.int i)=>(evP r δ).bind fun is=>.ok ((t,i) :: is)
  | _=>.bad
noncomputable def Bd (f:List D->Option (List D)):List (Bool × Int)->D->Option D
 | [],.lst ds=>(f ds).map D.lst
 | (false,i) :: r,.lst ds=>(ixN ds.length i).bind fun j=>(ds[j]?).bind fun d=>(Bd f r d).map fun d'=>.lst (ds.set j d')
 | (true,i) :: r,.tup ds=>(ixN ds.length i).bind fun j=>(ds[j]?).bind fun d=>(Bd f r d).map fun d'=>.tup (ds.set j d')
 | _,_=>none
noncomputable def DR (n:Nat) (i:Int):Nat:=(if i < 0 then max (i + (n:Int)) 0 else min i (n:Int)).toNat
noncomputable def un1 {α:Type}:List D->(D->Option α)->Option α
 | [d],f=>f d
 | _,_=>none
noncomputable def un0 {α:Type}:List D->Option α->Option α
 | [],r=>r
 | _,_=>none
noncomputable def Ru (ds:List D):D->Option (List D)
 | .lst es=>if ds.length + es.length<=LIM then some (ds ++ es) else none
 | _=>none
noncomputable def JZ (ds:List D):List D->Option (List D)
 | [.int i,d]=>if ds.length < LIM/\-(2 ^ 63)<=i/\i < 2 ^ 63 then some (ds.take (DR ds.length i) ++ d :: ds.drop (DR ds.length i)) else none
 | _=>none
noncomputable def GO (ds:List D):D->Option (List D)
 | .int i=>if -(2 ^ 63)<=i/\i < 2 ^ 63 then (ixN ds.length i).map fun j=>ds.eraseIdx j else none
 | _=>none
noncomputable def umD:Um->List D->List D->Option (List D)
 | .append,es,ds=>un1 es fun d=>if ds.length < LIM then some (ds ++ [d]) else none
 | .extend,es,ds=>un1 es (Ru ds)
 | .insert,es,ds=>JZ ds es
 | .popAt,es,ds=>un1 es (GO ds)
 | .clear,es,_=>un0 es (some [])
noncomputable def AV (i:Int) (d:D) (ds:List D):Option (List D):=(ixN ds.length i).map fun j=>ds.set j d
noncomputable def upd (δ:Fr) (x:Nat) (f:D->Option D):Out:=match δ[x]? with
 | some (some d)=>match f d with
  | some d'=>.nxt (δ.set x (some d'))
  | none=>.bad
 | _=>.bad
noncomputable def Res.out {α:Type} (r:Res α) (δ:Fr) (f:α->Out):Out:=match r with
 | .ok a=>f a
 | .exc c=>.exc c δ
 | .bad=>.bad
@[simp] theorem Res.out_ok {α:Type} (a:α) (δ:Fr) (f:α->Out):(Res.ok a).out δ f=f a:=rfl
@[simp] theorem Res.out_exc {α:Type} (c:Nat) (δ:Fr) (f:α->Out):(Res.exc c:Res α).out δ f=.exc c δ:=rfl
@[simp] theorem Res.out_bad {α:Type} (δ:Fr) (f:α->Out):(Res.bad:Res α).out δ f=.bad:=rfl
noncomputable def Out.then (o:Out) (f:Fr->Out):Out:=match o with
 | .nxt δ=>f δ
 | .ret d=>.ret d
 | .exc c δ=>.exc c δ
 | .bad=>.bad
@[simp] theorem Out.then_nxt (δ:Fr) (f:Fr->Out):(Out.nxt δ).then f=f δ:=rfl
@[simp] theorem Out.then_ret (d:D) (f:Fr->Out):(Out.ret d).then f=.ret d:=rfl
@[simp] theorem Out.then_exc (c:Nat) (δ:Fr) (f:Fr->Out):(Out.exc c δ).then f=.exc c δ:=rfl
@[simp] theorem Out.then_bad (f:Fr->Out):Out.bad.then f=.bad:=rfl
noncomputable def BR (c:Fr->Res Bool) (b:Fr->Out):Nat->Fr->Out
 | 0,_=>.bad
 | n + 1,δ=>(c δ).out δ fun t=>if t then (b δ).then (BR c b n) else .nxt δ
noncomputable def BS (tg:Tg) (b:Fr->Out):List D->Fr->Out
 | [],δ=>.nxt δ
 | d :: ds,δ=>match Da tg d δ with
  | some δ'=>(b δ').then (BS tg b ds)
  | none=>.bad
noncomputable def Gm:Res D->Res D->(Int->D->Out)->Out
 | .ok (.int n),.ok d,f=>match CB d (.int n) with
  | .ok c=>f n c
  | _=>.bad
 | _,_,_=>.bad
noncomputable def GP:Res D->(Int->Out)->Out
 | .ok (.int n),f=>f n
 | _,_=>.bad
noncomputable def FU:Nat:=1073741824
mutual
noncomputable def ex:S->Fr->Out
 | .dem _ _,δ=>.nxt δ
 | .dead _,δ=>.nxt δ
 | .asg x _ e,δ=>(ev e δ).out δ fun d=>.nxt (δ.set x (some d))
 | .asgT xs e,δ=>(ev e δ).out δ fun d=>match Da (.tp xs) d δ with
  | some δ'=>.nxt δ'
  | none=>.bad
 | .set x p i e,δ=>(ev e δ).out δ fun d=>match evP p δ,ev i δ with
  | .ok q,.ok (.int n)=>upd δ x (Bd (AV n d) q)
  | _,_=>.bad
 | .mut x p m es,δ=>match evP p δ,evs es δ with
  | .ok q,.ok ds=>upd δ x (Bd (umD m ds) q)
  | _,_=>.bad
 | .expr e,δ=>(ev e δ).out δ fun _=>.nxt δ
 | .iff c a b,δ=>(tv c δ).out δ fun t=>if t then exs a δ else exs b δ
 | .wh c b,δ=>BR (tv c) (exs b) FU δ
 | .for_ tg it b,δ=>(evI it δ).out δ fun ds=>BS tg (exs b) ds δ
 | .ret e,δ=>(ev e δ).out δ fun d=>.ret d
 | .raise c es,δ=>(evs es δ).out δ fun _=>.exc c δ
 | .try_ b c i h e,δ=>match exs b δ with
  | .nxt δ'=>exs e δ'
  | .ret d=>.ret d
  | .exc n δ'=>if isa n c && !(n==c) then (match exs h (δ'.set i (some (.exn n))) with
   | .nxt δ2=>.nxt (δ2.set i none)
   | .ret d=>.ret d
   | _=>.bad) else .bad
  | .bad=>.bad
noncomputable def exs:Ss->Fr->Out
 | .nil,δ=>.nxt δ
 | .cons s r,δ=>(ex s δ).then (exs r)
 | .lend x y a b i e,δ=>Gm (ev a δ) (get δ y) fun n d=>(exs b (δ.set x (some d))).then fun δ2=>(ev e δ2).out δ2 fun v=>GP (ev i δ2) fun j=>upd δ2 y (Bd (AV j v) [(false,n)])
end
noncomputable def AI (n:Nat) (ds:List D):Fr:=ds.map some ++ aam (n - ds.length) none
noncomputable def run (n:Nat) (b:Ss) (ds:List D):Res D:=match exs b (AI n ds) with
 | .nxt _=>.ok .non
 | .ret d=>.ok d
 | .exc c _=>.exc c
 | .bad=>.bad
end Pu
end
section
namespace Pu
open PySem PySem.W L2
inductive T where
 | non
 | bl (b:Bool)
 | int (i:Int)
 | str (x:Str)
 | tup (a:Addr) (ts:List T)
 | lst (a:Addr) (ts:List T)
 | exn (a:Addr) (c:Nat)
 | dic (a:Addr) (ks:List (Sum Int Str)) (ts:List T)
 | dit (a:Addr) (ks:List (List (Sum Int Str))) (ts:List T)
noncomputable def T.val:T->V
 | .non=>.non
 | .bl b=>.bl b
 | .int i=>.int i
 | .str x=>.str x
 | .tup a _=>.ref a
 | .lst a _=>.ref a
 | .exn a _=>.ref a
 | .dic a _ _=>.ref a
 | .dit a _ _=>.ref a
mutual
noncomputable def T.dat:T->D
 | .non=>.non
 | .bl b=>.bl b
 | .int i=>.int i
 | .str x=>.str x
 | .tup _ ts=>.tup (T.dats ts)
 | .lst _ ts=>.lst (T.dats ts)
 | .exn _ c=>.exn c
 | .dic _ ks ts=>.dic ks (T.dats ts)
 | .dit _ ks ts=>.dit ks (T.dats ts)
noncomputable def T.dats:List T->List D
 | []=>[]
 | t :: r=>t.dat :: T.dats r
end
theorem T.dats_map:∀ ts:List T,T.dats ts=ts.map T.dat
 | []=>rfl
 | t :: r=>by simp [T.dats,T.dats_map r]
structure Px where
 K:Frag
 cl:Nat->Addr
 has:Nat->Bool
noncomputable def exO (p:Px) (a:Addr) (c:Nat):HO:=if c=999 then dO a else xO a (p.cl c)
mutual
noncomputable def T.Ok (p:Px) (H:Hp):T->Prop
 | .dic a ks ts=>(H a=some (.dK (ks.zip (ts.map T.val)))/\ks.Nodup/\ks.length=ts.length)/\T.Oks p H ts
 | .dit a ks ts=>(H a=some (.dT (ks.zip (ts.map T.val)))/\ks.Nodup/\ks.length=ts.length)/\T.Oks p H ts
 | .tup a ts=>H a=some (.tup (ts.map T.val))/\T.Oks p H ts
 | .lst a ts=>Rd H a (.lst (ts.map T.val))/\T.Oks p H ts
 | .exn a c=>H a=some (exO p a c)/\(c=999\/p.has c=true)
 | .non=>True
 | .bl _=>True
 | .int _=>True
 | .str _=>True
noncomputable def T.Oks (p:Px) (H:Hp):List T->Prop
 | []=>True
 | t :: r=>t.Ok p H/\T.Oks p H r
noncomputable def T.adr:T->Nat->List Addr
 | .tup _ ts,k=>T.adrs ts k
 | .lst _ _,0=>[]
 | .lst a ts,k + 1=>a :: T.adrs ts k
 | .non,_=>[]
 | .bl _,_=>[]
 | .int _,_=>[]
 | .str _,_=>[]
 | .exn _ _,_=>[]
 | .dic _ _ _,0=>[]
 | .dic a _ ts,k + 1=>a :: T.adrs ts k
 | .dit _ _ _,0=>[]
 | .dit a _ ts,k + 1=>a :: T.adrs ts k
noncomputable def T.adrs:List T->Nat->List Addr
 | [],_=>[]
 | t :: r,k=>t.adr k ++ T.adrs r k
noncomputable def T.rest:T->Nat->List Addr
 | .tup _ ts,k=>T.rests ts k
 | .lst a ts,0=>a :: T.rests ts 0
 | .lst _ ts,k + 1=>T.rests ts k
 | .non,_=>[]
 | .bl _,_=>[]
 | .int _,_=>[]
 | .str _,_=>[]
 | .exn _ _,_=>[]
 | .dic a _ ts,0=>a :: T.rests ts 0
 | .dic _ _ ts,k + 1=>T.rests ts k
 | .dit a _ ts,0=>a :: T.rests ts 0
 | .dit _ _ ts,k + 1=>T.rests ts k
noncomputable def T.rests:List T->Nat->List Addr
 | [],_=>[]
 | t :: r,k=>t.rest k ++ T.rests r k
end
theorem T.ind {P:T->Prop} (h0:P .non) (h1:∀ b,P (.bl b)) (h2:∀ i,P (.int i)) (h3:∀ x,P (.str x)) (h4:∀ a ts,(∀ t ∈ ts,P t)->P (.tup a ts)) (h5:∀ a ts,(∀ t ∈ ts,P t)->P (.lst a ts)) (h6:∀ a c,P (.exn a c)) (h7:∀ a ks ts,(∀ t ∈ ts,P t)->P (.dic a ks ts)) (h8:∀ a ks ts,(∀ t ∈ ts,P t)->P (.dit a ks ts)):∀ t,P t
 | .non=>h0
 | .bl b=>h1 b
 | .int i=>h2 i
 | .str x=>h3 x
 | .tup a ts=>h4 a ts fun t h=>T.ind h0 h1 h2 h3 h4 h5 h6 h7 h8 t
 | .lst a ts=>h5 a ts fun t h=>T.ind h0 h1 h2 h3 h4 h5 h6 h7 h8 t
 | .exn a c=>h6 a c
 | .dic a ks ts=>h7 a ks ts fun t h=>T.ind h0 h1 h2 h3 h4 h5 h6 h7 h8 t
 | .dit a ks ts=>h8 a ks ts fun t h=>T.ind h0 h1 h2 h3 h4 h5 h6 h7 h8 t
termination_by t=>t
theorem T.oks_iff {p:Px} {H:Hp}:∀ {ts:List T},T.Oks p H ts ↔ ∀ t ∈ ts,t.Ok p H
 | []=>by simp [T.Oks]
 | t :: r=>by simp [T.Oks,T.oks_iff (ts:=r)]
theorem T.mem_adrs {a:Addr} {k:Nat}:∀ {ts:List T},a ∈ T.adrs ts k ↔ ∃ t ∈ ts,a ∈ t.adr k
 | []=>by simp [T.adrs]
 | t :: r=>by simp [T.adrs,T.mem_adrs (ts:=r)]
theorem T.mem_rests {a:Addr} {k:Nat}:∀ {ts:List T},a ∈ T.rests ts k ↔ ∃ t ∈ ts,a ∈ t.rest k
 | []=>by simp [T.rests]
 | t :: r=>by simp [T.rests,T.mem_rests (ts:=r)]
theorem T.adrs_append {k:Nat}:∀ {ts us:List T},T.adrs (ts ++ us) k=T.adrs ts k ++ T.adrs us k
 | [],us=>by simp [T.adrs]
 | t :: r,us=>by simp [T.adrs,T.adrs_append (ts:=r)]
theorem T.rests_append {k:Nat}:∀ {ts us:List T},T.rests (ts ++ us) k=T.rests ts k ++ T.rests us k
 | [],us=>by simp [T.rests]
 | t :: r,us=>by simp [T.rests,T.rests_append (ts:=r)]
theorem T.adr_zero:∀ t:T,t.adr 0=[]:=by
 refine T.ind rfl (fun _=>rfl) (fun _=>rfl) (fun _=>rfl) (fun a ts ih=>?_) (fun _ _ _=>by simp [T.adr]) (fun _ _=>rfl) (fun _ _ _ _=>by simp [T.adr]) (fun _ _ _ _=>by simp [T.adr])
 simp only [T.adr]
 refine aaK.mpr fun b hb=>?_
 obtain ⟨t,ht,h⟩:=T.mem_adrs.mp hb
 rw [ih t ht] at h; cases h
theorem T.adrs_zero (ts:List T):T.adrs ts 0=[]:=by
 refine aaK.mpr fun b hb=>?_
 obtain ⟨t,ht,h⟩:=T.mem_adrs.mp hb
 rw [T.adr_zero] at h; cases h
theorem T.all_iff {a:Addr}:∀ (t:T) (k:Nat),a ∈ t.rest 0 ↔ a ∈ t.adr k\/a ∈ t.rest k:=by
 refine T.ind (by simp [T.rest,T.adr]) (by simp [T.rest,T.adr]) (by simp [T.rest,T.adr]) (by simp [T.rest,T.adr]) (fun b ts ih k=>?_) (fun b ts ih k=>?_) (by simp [T.rest,T.adr]) (fun b ks ts ih k=>?_) (fun b ks ts ih k=>?_)
 ·simp only [T.rest,T.adr,T.mem_rests,T.mem_adrs]
  constructor
  ·rintro ⟨t,ht,h⟩
   rcases (ih t ht k).mp h with h | h
   ·exact .inl ⟨t,ht,h⟩
   ·exact .inr ⟨t,ht,h⟩
  ·rintro (⟨t,ht,h⟩ | ⟨t,ht,h⟩)
   ·exact ⟨t,ht,(ih t ht k).mpr (.inl h)⟩
   ·exact ⟨t,ht,(ih t ht k).mpr (.inr h)⟩
 ·cases k with
  | zero=>simp [T.adr]
  | succ k =>
   simp only [T.rest,T.adr,T.mem_rests,T.mem_adrs,aai]
   constructor
   ·rintro (h | ⟨t,ht,h⟩)
    ·exact .inl (.inl h)
    rcases (ih t ht k).mp h with h | h
    ·exact .inl (.inr ⟨t,ht,h⟩)
    ·exact .inr ⟨t,ht,h⟩
   ·rintro ((h | ⟨t,ht,h⟩) | ⟨t,ht,h⟩)
    ·exact .inl h
    ·exact .inr ⟨t,ht,(ih t ht k).mpr (.inl h)⟩
    ·exact .inr ⟨t,ht,(ih t ht k).mpr (.inr h)⟩
 ·cases k with
  | zero=>simp [T.adr]
  | succ k =>
   simp only [T.rest,T.adr,T.mem_rests,T.mem_adrs,aai]
   constructor
   ·rintro (h | ⟨t,ht,h⟩)
    ·exact .inl (.inl h)
    rcases (ih t ht k).mp h with h | h
    ·exact .inl (.inr ⟨t,ht,h⟩)
    ·exact .inr ⟨t,ht,h⟩
   ·rintro ((h | ⟨t,ht,h⟩) | ⟨t,ht,h⟩)
    ·exact .inl h
    ·exact .inr ⟨t,ht,(ih t ht k).mpr (.inl h)⟩
    ·exact .inr ⟨t,ht,(ih t ht k).mpr (.inr h)⟩
 ·cases k with
  | zero=>simp [T.adr]
  | succ k =>
   simp only [T.rest,T.adr,T.mem_rests,T.mem_adrs,aai]
   constructor
   ·rintro (h | ⟨t,ht,h⟩)
    ·exact .inl (.inl h)
    rcases (ih t ht k).mp h with h | h
    ·exact .inl (.inr ⟨t,ht,h⟩)
    ·exact .inr ⟨t,ht,h⟩
   ·rintro ((h | ⟨t,ht,h⟩) | ⟨t,ht,h⟩)
    ·exact .inl h
    ·exact .inr ⟨t,ht,(ih t ht k).mpr (.inl h)⟩
    ·exact .inr ⟨t,ht,(ih t ht k).mpr (.inr h)⟩
theorem T.alls_iff {a:Addr} (ts:List T) (k:Nat):a ∈ T.rests ts 0 ↔ a ∈ T.adrs ts k\/a ∈ T.rests ts k:=by
 simp only [T.mem_rests,T.mem_adrs]
 constructor
 ·rintro ⟨t,ht,h⟩
  rcases (T.all_iff t k).mp h with h | h
  ·exact .inl ⟨t,ht,h⟩
  ·exact .inr ⟨t,ht,h⟩
 ·rintro (⟨t,ht,h⟩ | ⟨t,ht,h⟩)
  ·exact ⟨t,ht,(T.all_iff t k).mpr (.inl h)⟩
  ·exact ⟨t,ht,(T.all_iff t k).mpr (.inr h)⟩
theorem T.rest_le {a:Addr}:∀ (t:T) {j j':Nat},j<=j'->a ∈ t.rest j'->a ∈ t.rest j:=by
 refine T.ind (by simp [T.rest]) (by simp [T.rest]) (by simp [T.rest]) (by simp [T.rest]) (fun b ts ih j j' hj h=>?_) (fun b ts ih j j' hj h=>?_) (by simp [T.rest]) (fun b ks ts ih j j' hj h=>?_) (fun b ks ts ih j j' hj h=>?_)
 ·simp only [T.rest,T.mem_rests] at h ⊢
  obtain ⟨t,ht,h⟩:=h
  exact ⟨t,ht,ih t ht hj h⟩
 ·cases j' with
  | zero=>cases ach.mp hj; exact h
  | succ j' =>
   simp only [T.rest,T.mem_rests] at h
   obtain ⟨t,ht,h⟩:=h
   cases j with
   | zero=>exact aaa _ (T.mem_rests.mpr ⟨t,ht,ih t ht (aas _) h⟩)
   | succ j=>exact T.mem_rests.mpr ⟨t,ht,ih t ht (aaR hj) h⟩
 ·cases j' with
  | zero=>cases ach.mp hj; exact h
  | succ j' =>
   simp only [T.rest,T.mem_rests] at h
   obtain ⟨t,ht,h⟩:=h
   cases j with
   | zero=>exact aaa _ (T.mem_rests.mpr ⟨t,ht,ih t ht (aas _) h⟩)
   | succ j=>exact T.mem_rests.mpr ⟨t,ht,ih t ht (aaR hj) h⟩
 ·cases j' with
  | zero=>cases ach.mp hj; exact h
  | succ j' =>
   simp only [T.rest,T.mem_rests] at h
   obtain ⟨t,ht,h⟩:=h
   cases j with
   | zero=>exact aaa _ (T.mem_rests.mpr ⟨t,ht,ih t ht (aas _) h⟩)
   | succ j=>exact T.mem_rests.mpr ⟨t,ht,ih t ht (aaR hj) h⟩
theorem T.adr_le {a:Addr}:∀ (t:T) {j j':Nat},j<=j'->a ∈ t.adr j->a ∈ t.adr j':=by
 refine T.ind (by simp [T.adr]) (by simp [T.adr]) (by simp [T.adr]) (by simp [T.adr]) (fun b ts ih j j' hj h=>?_) (fun b ts ih j j' hj h=>?_) (by simp [T.adr]) (fun b ks ts ih j j' hj h=>?_) (fun b ks ts ih j j' hj h=>?_)
 ·simp only [T.adr,T.mem_adrs] at h ⊢
  obtain ⟨t,ht,h⟩:=h
  exact ⟨t,ht,ih t ht hj h⟩
 ·cases j with
  | zero=>simp [T.adr] at h
  | succ j =>
   cases j' with
   | zero=>omega
   | succ j' =>
    simp only [T.adr,aai,T.mem_adrs] at h ⊢
    rcases h with h | ⟨t,ht,h⟩
    ·exact .inl h
    ·exact .inr ⟨t,ht,ih t ht (aaR hj) h⟩
 ·cases j with
  | zero=>simp [T.adr] at h
  | succ j =>
   cases j' with
   | zero=>omega
   | succ j' =>
    simp only [T.adr,aai,T.mem_adrs] at h ⊢
    rcases h with h | ⟨t,ht,h⟩
    ·exact .inl h
    ·exact .inr ⟨t,ht,ih t ht (aaR hj) h⟩
 ·cases j with
  | zero=>simp [T.adr] at h
  | succ j =>
   cases j' with
   | zero=>omega
   | succ j' =>
    simp only [T.adr,aai,T.mem_adrs] at h ⊢
    rcases h with h | ⟨t,ht,h⟩
    ·exact .inl h
    ·exact .inr ⟨t,ht,ih t ht (aaR hj) h⟩
noncomputable def T.Nd (t:T) (k:Nat):Prop:=(t.adr k).Nodup/\∀ a ∈ t.rest k,a ∉ t.adr k
noncomputable def T.Nds (ts:List T) (k:Nat):Prop:=(T.adrs ts k).Nodup/\∀ a ∈ T.rests ts k,a ∉ T.adrs ts k
theorem T.nd_zero (t:T):t.Nd 0:=by unfold T.Nd; rw [T.adr_zero]; exact ⟨ab1,fun _ _ h=>nomatch h⟩
theorem T.nds_zero (ts:List T):T.Nds ts 0:=by unfold T.Nds; rw [T.adrs_zero]; exact ⟨ab1,fun _ _ h=>nomatch h⟩
theorem T.nds_cons {t:T} {r:List T} {k:Nat}:T.Nds (t :: r) k ↔ t.Nd k/\T.Nds r k/\(∀ a ∈ t.adr k,a ∉ T.rests r 0)/\(∀ a ∈ T.adrs r k,a ∉ t.rest 0):=by
 unfold T.Nds T.Nd
 simp only [T.adrs,T.rests,acw,aae]
 constructor
 ·rintro ⟨⟨n1,n2,n3⟩,h⟩
  refine ⟨⟨n1,fun a ha hb=>h a (.inl ha) (.inl hb)⟩,⟨n2,fun a ha hb=>h a (.inr ha) (.inr hb)⟩,fun a ha hb=>?_,fun a ha hb=>?_⟩
  ·rcases (T.alls_iff r k).mp hb with q | q
   ·exact n3 a ha a q rfl
   ·exact h a (.inr q) (.inl ha)
  ·rcases (T.all_iff t k).mp hb with q | q
   ·exact n3 a q a ha rfl
   ·exact h a (.inl q) (.inr ha)
 ·rintro ⟨⟨n1,h1⟩,⟨n2,h2⟩,c1,c2⟩
  refine ⟨⟨n1,n2,fun a ha b hb e=>?_⟩,fun a ha hb=>?_⟩
  ·subst e
   exact c1 a ha ((T.alls_iff r k).mpr (.inl hb))
  ·rcases ha with ha | ha <;> rcases hb with hb | hb
   ·exact h1 a ha hb
   ·exact c2 a hb ((T.all_iff t k).mpr (.inr ha))
   ·exact c1 a hb ((T.alls_iff r k).mpr (.inr ha))
   ·exact h2 a ha hb
theorem T.nd_down:∀ (t:T) {k:Nat},t.Nd (k + 1)->t.Nd k:=by
 have lists:∀ (ts:List T),(∀ t ∈ ts,∀ {k:Nat},t.Nd (k + 1)->t.Nd k)->∀ {k:Nat},T.Nds ts (k + 1)->T.Nds ts k:=by
  intro ts
  induction ts with
  | nil=>intro _ k _; exact ⟨by simp [T.adrs],by simp [T.rests]⟩
  | cons t r ih =>
   intro h k n
   obtain ⟨n1,n2,c1,c2⟩:=T.nds_cons.mp n
   exact T.nds_cons.mpr ⟨h t (aac ..) n1,ih (fun u hu=>h u (aaa _ hu)) n2,fun a ha=>c1 a (T.adr_le t (abN k) ha),fun a ha=>c2 a (by
    obtain ⟨u,hu,hq⟩:=T.mem_adrs.mp ha
    exact T.mem_adrs.mpr ⟨u,hu,T.adr_le u (abN k) hq⟩)⟩
 refine T.ind (fun _=>by simp [T.Nd,T.adr]) (fun _ _=>by simp [T.Nd,T.adr]) (fun _ _=>by simp [T.Nd,T.adr]) (fun _ _=>by simp [T.Nd,T.adr]) (fun a ts ih k n=>?_) (fun a ts ih k n=>?_) (fun _ _ _=>by simp [T.Nd,T.adr]) (fun a ks ts ih k n=>?_) (fun a ks ts ih k n=>?_)
 ·exact lists ts ih n
 ·cases k with
  | zero=>exact T.nd_zero _
  | succ k =>
   obtain ⟨n1,n2⟩:=n
   simp only [T.adr,T.rest,aav] at n1 n2
   have:=lists ts ih (k:=k) ⟨n1.2,fun b hb hc=>n2 b hb (aaa _ hc)⟩
   refine ⟨?_,?_⟩
   ·simp only [T.adr,aav]
    refine ⟨fun h=>n1.1 ?_,this.1⟩
    obtain ⟨u,hu,hq⟩:=T.mem_adrs.mp h
    exact T.mem_adrs.mpr ⟨u,hu,T.adr_le u (abN k) hq⟩
   ·intro b hb hc
    simp only [T.adr,T.rest,aai] at hb hc
    rcases hc with rfl | hc
    ·have h0:=(T.alls_iff ts (k + 1)).mp ((T.alls_iff ts k).mpr (.inr hb))
     rcases h0 with h0 | h0
     ·exact n1.1 h0
     ·exact n2 b h0 (aac ..)
    ·exact this.2 b hb hc
 ·cases k with
  | zero=>exact T.nd_zero _
  | succ k =>
   obtain ⟨n1,n2⟩:=n
   simp only [T.adr,T.rest,aav] at n1 n2
   have:=lists ts ih (k:=k) ⟨n1.2,fun b hb hc=>n2 b hb (aaa _ hc)⟩
   refine ⟨?_,?_⟩
   ·simp only [T.adr,aav]
    refine ⟨fun h=>n1.1 ?_,this.1⟩
    obtain ⟨u,hu,hq⟩:=T.mem_adrs.mp h
    exact T.mem_adrs.mpr ⟨u,hu,T.adr_le u (abN k) hq⟩
   ·intro b hb hc
    simp only [T.adr,T.rest,aai] at hb hc
    rcases hc with rfl | hc
    ·have h0:=(T.alls_iff ts (k + 1)).mp ((T.alls_iff ts k).mpr (.inr hb))
     rcases h0 with h0 | h0
     ·exact n1.1 h0
     ·exact n2 b h0 (aac ..)
    ·exact this.2 b hb hc
 ·cases k with
  | zero=>exact T.nd_zero _
  | succ k =>
   obtain ⟨n1,n2⟩:=n
   simp only [T.adr,T.rest,aav] at n1 n2
   have:=lists ts ih (k:=k) ⟨n1.2,fun b hb hc=>n2 b hb (aaa _ hc)⟩
   refine ⟨?_,?_⟩
   ·simp only [T.adr,aav]
    refine ⟨fun h=>n1.1 ?_,this.1⟩
    obtain ⟨u,hu,hq⟩:=T.mem_adrs.mp h
    exact T.mem_adrs.mpr ⟨u,hu,T.adr_le u (abN k) hq⟩
   ·intro b hb hc
    simp only [T.adr,T.rest,aai] at hb hc
    rcases hc with rfl | hc
    ·have h0:=(T.alls_iff ts (k + 1)).mp ((T.alls_iff ts k).mpr (.inr hb))
     rcases h0 with h0 | h0
     ·exact n1.1 h0
     ·exact n2 b h0 (aac ..)
    ·exact this.2 b hb hc
theorem T.nd_le (t:T) {k k':Nat} (h:k<=k') (n:t.Nd k'):t.Nd k:=by
 induction k' with
 | zero=>cases ach.mp h; exact n
 | succ k' ih =>
  rcases acs k (k' + 1) with q | q
  ·exact ih (abL q) (T.nd_down t n)
  ·cases acd h q; exact n
theorem T.nds_le {ts:List T} {k k':Nat} (h:k<=k') (n:T.Nds ts k'):T.Nds ts k:=by
 have:=T.nd_le (.tup 0 ts) h (k':=k') n
 exact this
noncomputable def HO.mu:HO->Bool
 | .lst _=>true
 | .dK _=>true
 | .dT _=>true
 | _=>false
noncomputable def Mu (H:Hp) (a:Addr):Prop:=∃ o,H a=some o/\HO.mu o=true
theorem Mu.l {H:Hp} {a:Addr} {vs:List V} (h:H a=some (.lst vs)):Mu H a:=⟨_,h,rfl⟩
theorem Qf {p:Px} {a:Addr} {c:Nat}:HO.mu (exO p a c)=false:=by
 unfold exO
 split <;> rfl
theorem T.Ok.keep' {p:Px} {H H':Hp}:∀ (t:T),(∀ a u,H a=some u->(a ∈ t.rest 0\/HO.mu u=false)->H' a=some u)->t.Ok p H->t.Ok p H':=by
 refine T.ind (P:=fun t=>(∀ a u,H a=some u->(a ∈ t.rest 0\/HO.mu u=false)->H' a=some u)->t.Ok p H->t.Ok p H') (fun _ h=>h) (fun _ _ h=>h) (fun _ _ h=>h) (fun _ _ h=>h) (fun a ts ih k h=>?_) (fun a ts ih k h=>?_) (fun a c k h=>?_) (fun a ks ts ih k h=>?_) (fun a ks ts ih k h=>?_)
 ·obtain ⟨h1,h2⟩:=h
  refine ⟨k _ _ h1 (.inr rfl),T.oks_iff.mpr fun t ht=>ih t ht (fun b u e q=>k b u e ?_) (T.oks_iff.mp h2 t ht)⟩
  rcases q with q | q
  ·exact .inl (T.mem_rests.mpr ⟨t,ht,q⟩)
  ·exact .inr q
 ·obtain ⟨h1,h2⟩:=h
  refine ⟨?_,T.oks_iff.mpr fun t ht=>ih t ht (fun b u e q=>k b u e ?_) (T.oks_iff.mp h2 t ht)⟩
  ·rcases h1 with h1 | ⟨o,h1⟩
   ·exact .inl (k _ _ h1 (.inl (aac ..)))
   ·exact .inr ⟨o,k _ _ h1 (.inl (aac ..))⟩
  ·rcases q with q | q
   ·exact .inl (aaa _ (T.mem_rests.mpr ⟨t,ht,q⟩))
   ·exact .inr q
 ·exact ⟨k _ _ h.1 (.inr Qf),h.2⟩
 ·obtain ⟨⟨h1,h3⟩,h2⟩:=h
  refine ⟨⟨k _ _ h1 (.inl (aac ..)),h3⟩,T.oks_iff.mpr fun t ht=>ih t ht (fun b u e q=>k b u e ?_) (T.oks_iff.mp h2 t ht)⟩
  rcases q with q | q
  ·exact .inl (aaa _ (T.mem_rests.mpr ⟨t,ht,q⟩))
  ·exact .inr q
 ·obtain ⟨⟨h1,h3⟩,h2⟩:=h
  refine ⟨⟨k _ _ h1 (.inl (aac ..)),h3⟩,T.oks_iff.mpr fun t ht=>ih t ht (fun b u e q=>k b u e ?_) (T.oks_iff.mp h2 t ht)⟩
  rcases q with q | q
  ·exact .inl (aaa _ (T.mem_rests.mpr ⟨t,ht,q⟩))
  ·exact .inr q
theorem T.Ok.keep {p:Px} {H H':Hp} {t:T} (k:∀ a u,H a=some u->(a ∈ t.rest 0\/HO.mu u=false)->H' a=some u) (h:t.Ok p H):t.Ok p H':=T.Ok.keep' t k h
theorem T.Ok.same {p:Px} {H H':Hp} {t:T} (s:Same H H') (h:t.Ok p H):t.Ok p H':=h.keep fun a u e _=>s a u e
theorem T.Oks.same {p:Px} {H H':Hp} {ts:List T} (s:Same H H') (h:T.Oks p H ts):T.Oks p H' ts:=T.oks_iff.mpr fun t ht=>(T.oks_iff.mp h t ht).same s
theorem Ob {H:Hp} {a:Addr} {u:HO} (h:Rd H a u):H a ≠ none:=by
 rcases h with h | ⟨o,h⟩ <;> rw [h] <;> simp
theorem T.Ok.dom' {p:Px} {H:Hp} {a:Addr}:∀ (t:T),t.Ok p H->a ∈ t.rest 0->H a ≠ none:=by
 refine T.ind (P:=fun t=>t.Ok p H->a ∈ t.rest 0->H a ≠ none) (fun _ h=>nomatch h) (fun _ _ h=>nomatch h) (fun _ _ h=>nomatch h) (fun _ _ h=>nomatch h) (fun b ts ih k h=>?_) (fun b ts ih k h=>?_) (fun _ _ _ h=>nomatch h) (fun b ks ts ih k h=>?_) (fun b ks ts ih k h=>?_)
 ·obtain ⟨t,ht,q⟩:=T.mem_rests.mp h
  exact ih t ht (T.oks_iff.mp k.2 t ht) q
 ·rcases aai.mp h with rfl | h
  ·exact Ob k.1
  ·obtain ⟨t,ht,q⟩:=T.mem_rests.mp h
   exact ih t ht (T.oks_iff.mp k.2 t ht) q
 ·rcases aai.mp h with rfl | h
  ·rw [k.1.1]; exact fun z=>nomatch z
  ·obtain ⟨t,ht,q⟩:=T.mem_rests.mp h
   exact ih t ht (T.oks_iff.mp k.2 t ht) q
 ·rcases aai.mp h with rfl | h
  ·rw [k.1.1]; exact fun z=>nomatch z
  ·obtain ⟨t,ht,q⟩:=T.mem_rests.mp h
   exact ih t ht (T.oks_iff.mp k.2 t ht) q
theorem T.Ok.dom {p:Px} {H:Hp} {a:Addr} {t:T} (h:t.Ok p H) (m:a ∈ t.rest 0):H a ≠ none:=T.Ok.dom' t h m
theorem T.Ok.domk {p:Px} {H:Hp} {a:Addr} {t:T} {k:Nat} (h:t.Ok p H) (m:a ∈ t.adr k):H a ≠ none:=h.dom ((T.all_iff t k).mpr (.inl m))
end Pu
end
section
namespace Pu
open PySem PySem.Spec PyProof.Rows PySem.W L2
noncomputable def gj (c:Bool) (x:Nat × Nat):Option (Nat × Nat):=if c then some x else none
mutual
noncomputable def jk (tn:List Nat):E->Option (Nat × Nat)
 | .nm i=>match tn[i]? with
  | some j=>gj (decide (j < 90)) (j,0)
  | none=>none
 | .cN=>some (0,9)
 | .cB _=>some (0,9)
 | .cI _=>some (0,9)
 | .cS _=>some (0,9)
 | .gl _ d=>gj (D.scal d) (0,9)
 | .tup es=>jks tn es
 | .lst es=>(jks tn es).bind fun x=>some (if x.1=0 then (0,x.2 + 1) else (x.1 + 1,0))
 | .bin _ a b=>(jk tn a).bind fun x=>(jk tn b).bind fun y=>gj (decide (x.1<=1) && decide (y.1<=1)) (0,1)
 | .neg a=>(jk tn a).bind fun _=>some (0,9)
 | .not a=>(jk tn a).bind fun _=>some (0,9)
 | .cmp _ a b=>(jk tn a).bind fun _=>(jk tn b).bind fun _=>some (0,9)
 | .chain _ _ a b c=>(jk tn a).bind fun _=>(jk tn b).bind fun _=>(jk tn c).bind fun _=>some (0,9)
 | .isN _ a=>(jk tn a).bind fun _=>some (0,9)
 | .bo _ es=>jks tn es
 | .ix a i=>(jk tn a).bind fun x=>(jk tn i).bind fun _=>gj (decide (x.1=0)) (0,0)
 | .ixL a i=>(jk tn a).bind fun x=>(jk tn i).bind fun _=>some (x.1 - 1,0)
 | .dNew=>some (0,9)
 | .slc a lo hi=>(jk tn a).bind fun x=>(jk tn lo).bind fun _=>(jk tn hi).bind fun _=>gj (decide (x.1<=1)) (0,1)
 | .call f es=>(jks tn es).bind fun x=>gj (decide (x.1=0)) (0,f.dep)
 | .callB f es=>(jks tn es).bind fun _=>some (0,9)
 | .bi b es=>(jks tn es).bind fun x=>match b with
  | .list=>gj (decide (x.1=0)) (0,1)
  | .tuple=>gj (decide (x.1=0)) (0,0)
  | .tupleL=>gj (decide (x.1<=1)) (0,0)
  | _=>some (0,9)
 | .isi a _=>(jk tn a).bind fun _=>some (0,9)
 | .isiM a _=>(jk tn a).bind fun _=>some (0,9)
 | .comp0 nl fr _ it elt=>(jkI tn it).bind fun _=>(jk (aam nl 0 ++ fr.map fun j=>tn.getD j 99) elt).bind fun x=>gj (decide (x.1=0)) (0,x.2 + 1)
noncomputable def jks (tn:List Nat):Es->Option (Nat × Nat)
 | .nil=>some (0,9)
 | .cons e r=>(jk tn e).bind fun x=>(jks tn r).bind fun y=>some (max x.1 y.1,if max x.1 y.1=0 then min x.2 y.2 else 0)
noncomputable def jkI (tn:List Nat):It->Option Nat
 | .seq e=>(jk tn e).bind fun x=>if x.1=0 then some 0 else none
 | .seqL e=>(jk tn e).bind fun x=>if x.1<=1 then some x.1 else none
 | .r1 a=>(jk tn a).bind fun _=>some 0
end
noncomputable abbrev St:=L2.St
noncomputable abbrev Ft:=List (Option T)
noncomputable def vτ (τ:Ft):St:=τ.map (acA T.val)
noncomputable def dτ (τ:Ft):Fr:=τ.map (acA T.dat)
noncomputable def Fok (p:Px) (tn:List Nat) (τ:Ft) (H:Hp):Prop:=∀ (i:Nat) (t:T) (j:Nat),τ[i]?=some (some t)->tn[i]?=some j->j < 90->t.Ok p H
noncomputable def Sh (tn:List Nat) (τ:Ft) (a:Addr):Prop:=∃ (i:Nat) (t:T) (j:Nat),τ[i]?=some (some t)/\tn[i]?=some j/\j < 90/\a ∈ t.rest j
theorem Fok.same {p:Px} {tn:List Nat} {τ:Ft} {H H':Hp} (h:Fok p tn τ H) (s:Same H H'):Fok p tn τ H':=fun i t j e e' l=>(h i t j e e' l).same s
theorem Fok.dom {p:Px} {tn:List Nat} {τ:Ft} {H:Hp} (h:Fok p tn τ H) {a:Addr} (s:Sh tn τ a):H a ≠ none:=by
 obtain ⟨i,t,j,e,e',l,m⟩:=s
 exact (h i t j e e' l).dom (T.rest_le t (aas j) m)
theorem Cu {τ:Ft} {i:Nat} {t:T} (h:τ[i]?=some (some t)):(vτ τ)[i]?=some (some t.val):=by simp [vτ,h]
theorem DB {τ:Ft} {i:Nat} {d:D} (h:get (dτ τ) i=.ok d):∃ t,τ[i]?=some (some t)/\t.dat=d:=by
 unfold get dτ at h
 rw [aal] at h
 cases q:τ[i]? with
 | none=>rw [q] at h; cases h
 | some o =>
  rw [q] at h
  cases o with
  | none=>cases h
  | some t=>exact ⟨t,rfl,by simpa using h⟩
structure Rs (p:Px) (B:Addr->Prop) (H H':Hp) (j k:Nat) (t:T):Prop where
 same:Same H H'
 ok:t.Ok p H'
 src:∀ a ∈ t.rest j,H a=none\/B a
 new:∀ a ∈ t.adr k,H a=none/\Mu H' a
 nd:t.Nd k
structure RsL (p:Px) (B:Addr->Prop) (H H':Hp) (j k:Nat) (ts:List T):Prop where
 same:Same H H'
 ok:T.Oks p H' ts
 src:∀ a ∈ T.rests ts j,H a=none\/B a
 new:∀ a ∈ T.adrs ts k,H a=none/\Mu H' a
 nd:T.Nds ts k
theorem Rs.back {p:Px} {B:Addr->Prop} {H H1 H2:Hp} {j k:Nat} {t:T} (r:Rs p B H1 H2 j k t) (s:Same H H1):Rs p B H H2 j k t :=
 ⟨s.trans r.same,r.ok,fun a m=>(r.src a m).imp s.free id,fun a m=>⟨s.free (r.new a m).1,(r.new a m).2⟩,r.nd⟩
theorem Rs.fwd {p:Px} {B:Addr->Prop} {H H1 H2:Hp} {j k:Nat} {t:T} (r:Rs p B H H1 j k t) (s:Same H1 H2):Rs p B H H2 j k t :=
 ⟨r.same.trans s,r.ok.same s,r.src,fun a m=>⟨(r.new a m).1,let ⟨vs,e,mu⟩:=(r.new a m).2; ⟨vs,s _ _ e,mu⟩⟩,r.nd⟩
theorem Rs.le {p:Px} {B:Addr->Prop} {H H1:Hp} {j k j' k':Nat} {t:T} (r:Rs p B H H1 j k t) (hj:j<=j') (hk:k'<=k):Rs p B H H1 j' k' t :=
 ⟨r.same,r.ok,fun a m=>r.src a (T.rest_le t hj m),fun a m=>r.new a (T.adr_le t hk m),T.nd_le t hk r.nd⟩
theorem RsL.back {p:Px} {B:Addr->Prop} {H H1 H2:Hp} {j k:Nat} {t:List T} (r:RsL p B H1 H2 j k t) (s:Same H H1):RsL p B H H2 j k t :=
 ⟨s.trans r.same,r.ok,fun a m=>(r.src a m).imp s.free id,fun a m=>⟨s.free (r.new a m).1,(r.new a m).2⟩,r.nd⟩
noncomputable def T.sc:T->Bool
 | .non=>true
 | .bl _=>true
 | .int _=>true
 | .str _=>true
 | _=>false
theorem Rs.scal {p:Px} {B:Addr->Prop} {H H':Hp} {j k:Nat} {t:T} (s:Same H H') (h:t.sc=true):Rs p B H H' j k t:=by
 cases t <;> first | exact ⟨s,trivial,by simp [T.rest],by simp [T.adr],by simp [T.Nd,T.adr]⟩ | cases h
noncomputable def Lg {α:Type} (p:Px) (EX:EXT) (σ:St) (r:Res α) (H:Hp) (Kc:α->Prop):Prop:=match r with
 | .ok a=>Kc a
 | .exc c=>p.has c=true->∀ H',Same H H'->EX σ (.ref (p.cl c)) none H'
 | .bad=>False
theorem Lg.bind {α β:Type} {p:Px} {EX:EXT} {σ:St} {r:Res α} {f:α->Res β} {H:Hp} {Kc:β->Prop} (h:Lg p EX σ (r.bind f) H Kc):Lg p EX σ r H fun a=>Lg p EX σ (f a) H Kc:=by
 cases r <;> exact h
theorem Lg.mono {α:Type} {p:Px} {EX:EXT} {σ:St} {r:Res α} {H H1:Hp} {Kc Kc':α->Prop} (h:Lg p EX σ r H Kc) (s:Same H H1) (m:∀ a,r=.ok a->Kc a->Kc' a):Lg p EX σ r H1 Kc':=by
 cases r with
 | ok a=>exact m a rfl h
 | exc c=>exact fun hc H' s'=>h hc H' (s.trans s')
 | bad=>exact h
theorem Lg.guard {α:Type} {p:Px} {EX:EXT} {σ:St} {c:Prop} [Decidable c] {r:Res α} {H:Hp} {Kc:α->Prop} (h:Lg p EX σ (if c then r else .bad) H Kc):c/\Lg p EX σ r H Kc:=by
 split at h
 ·exact ⟨‹_›,h⟩
 ·exact nE h
noncomputable abbrev KE (p:Px) (B:Addr->Prop) (H:Hp) (j k:Nat) (Q:VK):D->Prop:=fun d=>∀ t H',t.dat=d->Rs p B H H' j k t->Q t.val H'
noncomputable abbrev KL (p:Px) (B:Addr->Prop) (H:Hp) (j k:Nat) (Q:List V->Hp->Prop):List D->Prop:=fun ds=>∀ ts H',T.dats ts=ds->RsL p B H H' j k ts->Q (ts.map T.val) H'
noncomputable def lE (p:Px) (EX:EXT) (tn:List Nat) (e:E):TE:=fun σ H Q=>∃ τ,σ=vτ τ/\Fok p tn τ H/\∃ j k,jk tn e=some (j,k)/\Lg p EX σ (ev e (dτ τ)) H (KE p (Sh tn τ) H j k Q)
noncomputable def lEs (p:Px) (EX:EXT) (tn:List Nat) (es:Es):TA:=fun σ H Q=>∃ τ,σ=vτ τ/\Fok p tn τ H/\∃ j k,jks tn es=some (j,k)/\Lg p EX σ (evs es (dτ τ)) H (KL p (Sh tn τ) H j k Q)
noncomputable def lT (p:Px) (EX:EXT) (tn:List Nat) (e:E):TT:=fun σ H Q=>∃ τ,σ=vτ τ/\Fok p tn τ H/\(jk tn e).isSome=true/\Lg p EX σ (tv e (dτ τ)) H fun b=>∀ H',Same H H'->Q b H'
theorem PE.mono {X:Cx} {e:Expr} {t t':TE} (h:PE X e t) (m:∀ σ H Q,t' σ H Q->t σ H Q):PE X e t':=fun pins s σ H Q I q=>h pins s σ H Q I (m _ _ _ q)
theorem PT.mono {X:Cx} {e:Expr} {t t':TT} (h:PT X e t) (m:∀ σ H Q,t' σ H Q->t σ H Q):PT X e t':=fun pins s σ H Q I q=>h pins s σ H Q I (m _ _ _ q)
theorem PA.mono {X:Cx} {e:List Expr} {t t':TA} (h:PA X e t) (m:∀ σ H Q,t' σ H Q->t σ H Q):PA X e t':=fun pos pins s σ H Q I q=>h pos pins s σ H Q I (m _ _ _ q)
section
variable {p:Px} {EX:EXT} {tn:List Nat} {X:Cx} {pos:Pos}
theorem Db {c:Bool} {x:Nat × Nat} {j k:Nat} (h:gj c x=some (j,k)):c=true/\x=(j,k):=by
 unfold gj at h
 split at h
 ·exact ⟨‹_›,Option.some.inj h⟩
 ·cases h
theorem l1 {x:E} {β:Type} {f:D->Res β} {τ:Ft} {H:Hp} {Kc:β->Prop} {Q:VK} {ja ka:Nat} (hF:Fok p tn τ H) (hj:jk tn x=some (ja,ka)) (h:Lg p EX (vτ τ) ((ev x (dτ τ)).bind f) H Kc)
  (m:∀ d t H1,t.dat=d->Rs p (Sh tn τ) H H1 ja ka t->Lg p EX (vτ τ) (f d) H Kc->Q t.val H1):lE p EX tn x (vτ τ) H Q :=
 ⟨τ,rfl,hF,ja,ka,hj,h.bind.mono (Same.refl _) fun d _ hd t H1 ht R=>m d t H1 ht R hd⟩
theorem l2 {x:E} {β:Type} {f:D->Res β} {τ:Ft} {H H1:Hp} {Kc:β->Prop} {Q:VK} {ja ka:Nat} (hF:Fok p tn τ H) (s:Same H H1) (hj:jk tn x=some (ja,ka)) (h:Lg p EX (vτ τ) ((ev x (dτ τ)).bind f) H Kc)
  (m:∀ d t H2,t.dat=d->Rs p (Sh tn τ) H1 H2 ja ka t->Lg p EX (vτ τ) (f d) H Kc->Q t.val H2):lE p EX tn x (vτ τ) H1 Q :=
 ⟨τ,rfl,hF.same s,ja,ka,hj,h.bind.mono s fun d _ hd t H2 ht R=>m d t H2 ht R hd⟩
theorem Qg {i:Nat} {x:Str} (hN:X.N[i]?=some x) (hv:Vis X.env.scope x) (hd:(x==("__debug__" : Str))=false) (hcd:(x==("__classdict__" : Str))=false):PE X (.Name x pos) (lE p EX tn (.nm i)):=by
 refine PE.mono (Eo hN hv hd hcd) fun σ H Q h=>?_
 obtain ⟨τ,rfl,hF,j,k,hj,h⟩:=h
 simp only [jk] at hj
 split at hj
 ·rename_i j' hj'
  obtain ⟨hlt,e⟩:=Db hj
  cases e
  simp only [ev] at h
  cases q:get (dτ τ) i with
  | ok d =>
   rw [q] at h
   obtain ⟨t,ht,e⟩:=DB q
   exact ⟨t.val,Cu ht,h t H e ⟨Same.refl _,hF i t j ht hj' (of_decide_eq_true hlt),fun a m=>.inr ⟨i,t,j,ht,hj',of_decide_eq_true hlt,m⟩,by rw [T.adr_zero]; simp,T.nd_zero t⟩⟩
  | exc c=>rw [q] at h; unfold get at q; split at q <;> cases q
  | bad=>rw [q] at h; exact h.elim
 ·cases hj
theorem Gn {e:Expr} {x:E} {t:T} (hp:PE X e (tC t.val)) (hs:t.sc=true) (he:∀ δ,ev x δ=.ok t.dat):PE X e (lE p EX tn x):=by
 refine PE.mono hp fun σ H Q h=>?_
 obtain ⟨τ,rfl,hF,j,k,hj,h⟩:=h
 rw [he] at h
 exact h t H rfl (Rs.scal (Same.refl _) hs)
theorem Oc {B:Addr->Prop} {H H1 H2:Hp} {j1 k1 j2 k2:Nat} {t:T} {ts:List T} (hB:∀ a,B a->H a ≠ none) (r:Rs p B H H1 j1 k1 t) (q:RsL p B H1 H2 j2 k2 ts):RsL p B H H2 (max j1 j2) (if max j1 j2=0 then min k1 k2 else 0) (t :: ts):=by
 have r2:=r.fwd q.same
 refine ⟨r2.same,⟨r2.ok,q.ok⟩,fun a m=>?_,fun a m=>?_,?_⟩
 ·simp only [T.rests,aae] at m
  rcases m with m | m
  ·exact r.src a (T.rest_le t (Nat.le_max_left ..) m)
  ·obtain ⟨u,hu,m⟩:=T.mem_rests.mp m
   exact (q.src a (T.mem_rests.mpr ⟨u,hu,T.rest_le u (Nat.le_max_right ..) m⟩)).imp r.same.free id
 ·split at m
  ·simp only [T.adrs,aae] at m
   rcases m with m | m
   ·exact r2.new a (T.adr_le t (abt ..) m)
   ·obtain ⟨u,hu,m⟩:=T.mem_adrs.mp m
    have z:=q.new a (T.mem_adrs.mpr ⟨u,hu,T.adr_le u (abz ..) m⟩)
    exact ⟨r.same.free z.1,z.2⟩
  ·rw [T.adrs_zero] at m; cases m
 ·split
  ·rename_i hz
   have h1:j1=0:=by omega
   have h2:j2=0:=by omega
   subst h1 h2
   refine T.nds_cons.mpr ⟨T.nd_le t (abt ..) r.nd,T.nds_le (abz ..) q.nd,fun a m m'=>?_,fun a m m'=>?_⟩
   ·have m1:=T.adr_le t (abt k1 k2) m
    rcases q.src a m' with z | z
    ·exact r.ok.domk m1 z
    ·exact hB a z (r.new a m1).1
   ·obtain ⟨u,hu,m⟩:=T.mem_adrs.mp m
    exact r.ok.dom m' (q.new a (T.mem_adrs.mpr ⟨u,hu,T.adr_le u (abz ..) m⟩)).1
  ·exact T.nds_zero _
theorem MK:PA X [] (lEs p EX tn .nil):=by
 refine PA.mono Er fun σ H Q h=>?_
 obtain ⟨τ,rfl,hF,j,k,hj,h⟩:=h
 exact h [] H rfl ⟨Same.refl _,trivial,by simp [T.rests],by simp [T.adrs],by simp [T.Nds,T.adrs]⟩
theorem Lj {e:Expr} {es:List Expr} {x:E} {xs:Es} (he:PE X e (lE p EX tn x)) (hes:PA X es (lEs p EX tn xs)) (hs:starEach (e :: es) X.env=(false,eval e X.env) :: starEach es X.env):PA X (e :: es) (lEs p EX tn (.cons x xs)):=by
 refine PA.mono (Cr he hes hs) fun σ H Q h=>?_
 obtain ⟨τ,rfl,hF,j,k,hj,h⟩:=h
 simp only [jks] at hj
 obtain ⟨⟨j1,k1⟩,h1,hj⟩:=bS hj
 obtain ⟨⟨j2,k2⟩,h2,hj⟩:=bS hj
 cases hj
 simp only [evs] at h
 refine l1 hF h1 h fun d t H1 ht R h=>?_
 refine ⟨τ,rfl,hF.same R.same,j2,k2,h2,h.bind.mono R.same fun ds _ hd ts H2 hts R2=>?_⟩
 exact hd (t :: ts) H2 (by simp [T.dats,ht,hts]) (Oc (fun a=>hF.dom) R R2)
end
section
variable {p:Px} {EX:EXT} {tn:List Nat} {X:Cx} {pos:Pos}
theorem Lk {B:Addr->Prop} {H H1:Hp} {j k:Nat} {a:Addr} {ts:List T} (r:RsL p B H H1 j k ts) (hn:H1 a=none):Rs p B H (L2.upd H1 a (.tup (ts.map T.val))) j k (.tup a ts):=by
 have s:=Same.new (o:=.tup (ts.map T.val)) hn
 exact ⟨r.same.trans s,⟨AJ,r.ok.same s⟩,r.src,fun b m=>⟨(r.new b m).1,let ⟨vs,e,mu⟩:=(r.new b m).2; ⟨vs,s _ _ e,mu⟩⟩,r.nd⟩
theorem Ll {B:Addr->Prop} {H H1:Hp} {j k:Nat} {a:Addr} {ts:List T} (r:RsL p B H H1 j k ts) (hn:H1 a=none) :
  Rs p B H (L2.upd H1 a (.lst (ts.map T.val))) (if j=0 then 0 else j + 1) (if j=0 then k + 1 else 0) (.lst a ts):=by
 have s:=Same.new (o:=.lst (ts.map T.val)) hn
 have ha:H a=none:=r.same.free hn
 refine ⟨r.same.trans s,⟨.inl AJ,r.ok.same s⟩,fun b m=>?_,fun b m=>?_,?_⟩
 ·split at m
  ·rename_i e
   subst e
   simp only [T.rest,aai] at m
   rcases m with rfl | m
   ·exact .inl ha
   ·exact r.src b m
  ·exact r.src b m
 ·split at m
  ·simp only [T.adr,aai] at m
   rcases m with rfl | m
   ·exact ⟨ha,_,AJ,rfl⟩
   ·exact ⟨(r.new b m).1,let ⟨vs,e,mu⟩:=(r.new b m).2; ⟨vs,s _ _ e,mu⟩⟩
  ·rw [T.adr_zero] at m; cases m
 ·split
  ·rename_i e
   subst e
   have out:a ∉ T.rests ts 0:=fun m=>by
    obtain ⟨t,ht,m⟩:=T.mem_rests.mp m
    exact (T.oks_iff.mp r.ok t ht).dom m hn
   refine ⟨?_,fun b m m'=>?_⟩
   ·simp only [T.adr,aav]
    exact ⟨fun m=>out ((T.alls_iff ts k).mpr (.inl m)),r.nd.1⟩
   ·simp only [T.adr,T.rest,aai] at m m'
    rcases m' with rfl | m'
    ·exact out ((T.alls_iff ts k).mpr (.inr m))
    ·exact r.nd.2 b m m'
  ·exact T.nd_zero _
theorem Ae:∀ ts:List T,(T.dats ts).length=ts.length:=fun ts=>by rw [T.dats_map,aab]
noncomputable def Es.len:Es->Nat
 | .nil=>0
 | .cons _ r=>r.len + 1
theorem B5:∀ (es:Es) (δ:Fr) (ds:List D),evs es δ=.ok ds->ds.length=es.len
 | .nil,δ,ds,h=>by simp only [evs] at h; cases h; rfl
 | .cons e r,δ,ds,h=>by
  simp only [evs] at h
  obtain ⟨x,_,h⟩:=Res.bind_eq_ok h
  obtain ⟨xs,h2,h⟩:=Res.bind_eq_ok h
  cases h
  rw [abj,B5 r δ xs h2,Es.len]
theorem Od {es:List Expr} {xs:Es} {k1:Nat} (h:PA X es (lEs p EX tn xs)) (hl:xs.len<=1000):PE X (.Tuple es k1 pos) (lE p EX tn (.tup xs)):=by
 refine PE.mono (K4 h) fun σ H Q h=>?_
 obtain ⟨τ,rfl,hF,j,k,hj,h⟩:=h
 simp only [ev] at h
 refine ⟨τ,rfl,hF,j,k,hj,h.bind.mono (Same.refl _) fun ds e hd ts H1 hts R=>⟨?_,fun a ha=>hd (.tup a ts) _ (by simp [T.dat,hts]) (Lk R ha)⟩⟩
 have:=B5 _ _ _ e
 rw [aab,<- Ae,hts,this]
 exact aay hl (by decide)
theorem Oe {es:List Expr} {xs:Es} (h:PA X es (lEs p EX tn xs)) (hl:xs.len<=1000):PE X (.List es pos) (lE p EX tn (.lst xs)):=by
 refine PE.mono (PP h) fun σ H Q h=>?_
 obtain ⟨τ,rfl,hF,j,k,hj,h⟩:=h
 simp only [jk] at hj
 obtain ⟨⟨j1,k1⟩,h1,hj⟩:=bS hj
 simp only [ev] at h
 refine ⟨τ,rfl,hF,j1,k1,h1,h.bind.mono (Same.refl _) fun ds e hd ts H1 hts R=>⟨?_,fun a ha=>hd (.lst a ts) _ (by simp [T.dat,hts]) ?_⟩⟩
 ·have:=B5 _ _ _ e
  rw [aab,<- Ae,hts,this]
  exact aay hl (by decide)
 ·have q:=Ll R ha
  have hj:=Option.some.inj hj
  by_cases z:j1=0
  ·subst z; simp only [if_true] at q; simp at hj; obtain ⟨rfl,rfl⟩:=hj; exact q
  ·simp only [if_neg z] at q; simp [z] at hj; obtain ⟨rfl,rfl⟩:=hj; exact q
noncomputable def J0:B2->Operator
 | .add=>.Add
 | .sub=>.Sub
 | .mul=>.Mult
 | .fdiv=>.FloorDiv
 | .mod=>.Mod
 | .pow=>.Pow
theorem Inv.lstR {pins:List (Addr × Obj)} {σ:St} {H:Hp} {s:Shared} {l:Addr} {xs:List V} (I:Inv X pins σ H s) (hH:Rd H l (.lst xs)):xs.length<=sizeLine/\∃ (its:List Value) (n:Nat),Vals xs its/\xs.length=its.length/\s.heap.get? l=some { cls:=.type "list",data:=.seq its.toArray n }:=by
 obtain ⟨z,its,n,r,e⟩:=hH.ok I.hok
 exact ⟨z,its,n,r,r.length,e⟩
noncomputable def NG:R2:=fun x y H Q=>∃ l b xs zs,x=.ref l/\y=.ref b/\Rd H l (.lst xs)/\Rd H b (.lst zs)/\xs.length + zs.length<=sizeLine/\∀ q,H q=none->Q (.ref q) (L2.upd H q (.lst (xs ++ zs)))
theorem Of:OpR X (binaryOp .Add) NG:=by
 intro pins s σ H x y v u Q I rx ry h
 obtain ⟨l,b,xs,zs,rfl,rfl,hH,hB,hz,q⟩:=h
 cases rx
 cases ry
 obtain ⟨z,its,n,r,hl,e⟩:=Inv.lstR I hH
 obtain ⟨z2,its2,n2,r2,hl2,e2⟩:=Inv.lstR I hB
 refine PySem.P.add_list e e2 ?_ (by rw [aak,aak]; omega)
 have ea:its.toArray ++ its2.toArray=(its ++ its2).toArray:=by simp
 rw [ea]
 exact ⟨.ref _,_,I.lnew (t':=s.toks) (r.append r2) (by rw [aaD]; omega),rfl,q _ I.fresh⟩
noncomputable def NH:R2:=fun x y H Q=>∃ l k xs,x=.ref l/\y=.int k/\Rd H l (.lst xs)/\-(2 ^ 63)<=k/\k < 2 ^ 63/\xs.length * k.toNat<=sizeLine /\
 ∀ q,H q=none->Q (.ref q) (L2.upd H q (.lst (aam k.toNat xs).flatten))
noncomputable def NI (_ j:Int):Prop:=0 < j/\j < 2 ^ 200
theorem ML:OpR X (binaryOp .FloorDiv) (rI NI fun i j=>.int (i / j)):=opI fun i j _ _ _ _ _ hc q=>by
 have e:i / j=i.fdiv j:=(Int.fdiv_eq_ediv_of_nonneg _ (Int.le_of_lt hc.1)).symm
 rw [e] at q
 refine floordiv_int (by have:=hc.1; omega) q (.inl (PyProof.noPylong_of_log2 ?_))
 have h1:j.natAbs < 2 ^ 200:=by
  have e1:(j.natAbs:Int)=j:=Int.natAbs_of_nonneg (Int.le_of_lt hc.1)
  have e2:(j.natAbs:Int) < ((2 ^ 200:Nat):Int):=by rw [e1]; exact hc.2
  exact Int.ofNat_lt.mp e2
 have:j.natAbs.log2 < 200:=by
  refine (Nat.log2_lt (by have:=hc.1; omega)).mpr h1
 omega
theorem Og:OpR X (binaryOp .Mult) NH:=by
 intro pins s σ H x y v u Q I rx ry h
 obtain ⟨l,k,xs,rfl,rfl,hH,h1,h2,hz,q⟩:=h
 cases rx
 obtain ⟨t,rfl⟩:=ry
 obtain ⟨z,its,n,r,hl,e⟩:=Inv.lstR I hH
 have hlen:its.toArray.size * k.toNat<=sizeLine:=by rw [aak,<- hl]; exact hz
 have hcap:¬ its.toArray.size * k.toNat > (2 ^ 63 - 1) / 8:=by
  have:(sizeLine:Nat)<=(2 ^ 63 - 1) / 8:=by decide
  omega
 have hfit:¬ (!Builtin.List.listFitsIndex k)=true:=by
  rw [fitsIndex_both h1 h2]
  exact abq
 have hlong:¬ Builtin.List.listTooLong (its.toArray.size * k.toNat)=true:=by
  rw [HH hlen]
  exact abq
 have hnew:acz (fun x1 x2=>x1 ++ x2) #[] (aam (if its.toArray.isEmpty=true then 0 else k.toNat) its.toArray)=(aam k.toNat its).flatten.toArray:=by
  have f0:∀ m:Nat,acz (fun x1 x2=>x1 ++ x2) #[] (aam m its.toArray)=(aam m its).flatten.toArray:=fun m=>by
   have:=G9 its m []
   rw [abl] at this
   exact this
  rw [f0]
  cases its with
  | nil=>simp
  | cons a r'=>rw [if_neg (by simp)]
 refine wpAny_binaryOp_repeat_ref (T := "list") (U := "int") (by decide) ⟨_,e,rfl⟩ (fun s'=>typeIs_int s' k t) noFill_list_mul F.fills_int_mul F.slot_int_rmul repeat_list F.slot_int_index.lookup
  (call_meets F.slot_int_rmul (typeIs_int s k t) F.entry_int_rmul (F.args_int_rmul_2 _ _) (int___rmul___int_list k t l its.toArray n)
   ⟨e,rfl,⟨_,e,rfl⟩,call_meets F.slot_list_mul ⟨_,e,rfl⟩ F.entry_list_mul (F.args_list_mul_2 _ _) (AutoListH.list___mul___list_int_3 l its.toArray n k t hfit hcap hlong) ⟨e,?_⟩⟩)
 rw [hnew]
 exact ⟨.ref _,_,I.lnew (t':=s.toks) (r.rep k.toNat) (by rw [N5,Nat.mul_comm]; exact hz),rfl,q _ I.fresh⟩
noncomputable def CMulB (i j:Int):Prop:=CMul i j\/(i.natAbs < 2 ^ 400/\j.natAbs < 2 ^ 400)
theorem Jg {k:Int} (h:k.natAbs < 2 ^ 400):Builtin.Int.intBits k<=400:=by
 unfold Builtin.Int.intBits
 split
 ·exact aas _
 ·have:k.natAbs.log2 < 400:=by
   rcases act k.natAbs with h0 | hp
   ·rw [h0]; decide
   ·exact (Nat.log2_lt (ab8 hp)).mpr h
  omega
theorem CMulB.ok {i j:Int} (h:CMulB i j):IntMulOk i j:=by
 rcases h with h | ⟨h1,h2⟩
 ·exact h.ok
 ·have b1:=Jg h1
  have b2:=Jg h2
  have:Builtin.Int.intTooBig (Builtin.Int.intBits i + Builtin.Int.intBits j)=false:=by
   unfold Builtin.Int.intTooBig bitsLine
   exact decide_eq_false (by omega)
  unfold IntMulOk
  rw [this]
  simp
theorem Oh:OpR X (binaryOp .Mult) (rI CMulB fun i j=>.int (i * j)):=opI fun _ _ _ _ _ _ _ hc q=>mul_int q hc.ok
noncomputable def Qh:B2->R2
 | .add=>fun x y H Q=>rI0 (fun i j=>.int (i + j)) x y H Q\/(NG x y H Q\/∃ i j,x=.str i/\y=.str j/\i.length + j.length<=sizeLine/\Q (.str (i ++ j)) H)
 | .sub=>rI0 fun i j=>.int (i - j)
 | .mul=>fun x y H Q=>rI CMulB (fun i j=>.int (i * j)) x y H Q\/NH x y H Q
 | .fdiv=>rI NI fun i j=>.int (i / j)
 | .mod=>rI (fun _ j=>0 < j) fun i j=>.int (i % j)
 | .pow=>rI PD fun i j=>.int (i ^ j.toNat)
theorem Oi:∀ o:B2,OpR X (binaryOp (J0 o)) (Qh o)
 | .add=>PF.or (Of.or JP)
 | .sub=>PH
 | .mul=>Oh.or Og
 | .fdiv=>ML
 | .mod=>PJ
 | .pow=>PK
theorem Rs.elems {B:Addr->Prop} {H H1:Hp} {j k:Nat} {a:Addr} {ts:List T} (r:Rs p B H H1 j k (.lst a ts)) (hj:j<=1):∀ b ∈ T.rests ts 0,H b=none\/B b:=fun b m=>by
 refine r.src b (T.rest_le _ hj (j':=1) ?_)
 exact m
theorem E4 {B:Addr->Prop} {H H1:Hp} {a:Addr} {ts:List T} (s:Same H H1) (ok:T.Oks p H1 ts) (src:∀ b ∈ T.rests ts 0,H b=none\/B b) (hn:H1 a=none):Rs p B H (L2.upd H1 a (.lst (ts.map T.val))) 0 1 (.lst a ts):=by
 have:=Ll (j:=0) (k:=0) (p:=p) (B:=B) (H:=H) (a:=a) (ts:=ts) ⟨s,ok,src,by rw [T.adrs_zero]; simp,T.nds_zero ts⟩ hn
 exact this
theorem Jh {t:T} {f:Int->Res D} {Q:Res D->Prop} (hb:¬ Q .bad) (h:Q (DN t.dat f)):∃ i,t=.int i/\Q (f i):=by
 cases t with
 | int i=>exact ⟨i,rfl,h⟩
 | _=>exact absurd h hb
theorem B6 {t u:T} {f:Int->Int->Res D} {Q:Res D->Prop} (hb:¬ Q .bad) (h:Q (BO t.dat u.dat f)):∃ i j,t=.int i/\u=.int j/\Q (f i j):=by
 obtain ⟨i,rfl,h⟩:=Jh (t:=t) hb h
 obtain ⟨j,rfl,h⟩:=Jh (t:=u) hb h
 exact ⟨i,j,rfl,rfl,h⟩
theorem Oj {t u:T} {Q:Res D->Prop} (hb:¬ Q .bad) (h:Q (JY t.dat u.dat)):(∃ i j,t=.int i/\u=.int j/\Q (.ok (.int (i + j))))\/(∃ x y,t=.str x/\u=.str y/\Q (JY (.str x) (.str y)))\/∃ a ts b us,t=.lst a ts/\u=.lst b us/\Q (JY (.lst (T.dats ts)) (.lst (T.dats us))):=by
 cases t with
 | int i =>
  cases u with
  | int j=>exact .inl ⟨i,j,rfl,rfl,h⟩
  | _=>exact absurd h hb
 | str x =>
  cases u with
  | str y=>exact .inr (.inl ⟨x,y,rfl,rfl,h⟩)
  | _=>exact absurd h hb
 | lst a ts =>
  cases u with
  | lst b us=>exact .inr (.inr ⟨a,ts,b,us,rfl,rfl,h⟩)
  | _=>exact absurd h hb
 | _=>exact absurd h hb
theorem Ol {t u:T} {Q:Res D->Prop} (hb:¬ Q .bad) (h:Q (HK t.dat u.dat)):(∃ i j,t=.int i/\u=.int j/\Q (HK (.int i) (.int j)))\/∃ a ts k,t=.lst a ts/\u=.int k/\Q (HK (.lst (T.dats ts)) (.int k)):=by
 cases t with
 | int i =>
  cases u with
  | int j=>exact .inl ⟨i,j,rfl,rfl,h⟩
  | _=>exact absurd h hb
 | lst a ts =>
  cases u with
  | int k=>exact .inr ⟨a,ts,k,rfl,rfl,h⟩
  | _=>exact absurd h hb
 | _=>exact absurd h hb
theorem Rv {B:Addr->Prop} {H H2:Hp} {ja jb ka kb:Nat} {t u:T} {o:B2} {σ:St} {Q:VK} (r:Rs p B H H2 ja ka t) (r':Rs p B H H2 jb kb u) (ha:ja<=1) (hb:jb<=1) (h:Lg p EX σ (b2 o t.dat u.dat) H (KE p B H 0 1 Q)):Qh o t.val u.val H2 Q:=by
 have sc:∀ w:T,w.sc=true->Rs p B H H2 0 1 w:=fun w hw=>Rs.scal r.same hw
 cases o with
 | add =>
  rcases Oj (Q:=fun r=>Lg p EX σ r H _) id h with ⟨i,j,rfl,rfl,h⟩ | ⟨x,y,rfl,rfl,h⟩ | ⟨a,ts,b,us,rfl,rfl,h⟩
  ·exact .inl ⟨_,_,rfl,rfl,h (.int _) H2 rfl (sc _ rfl)⟩
  ·obtain ⟨hl,h⟩:=h.guard
   exact .inr (.inr ⟨_,_,rfl,rfl,hl,h (.str _) H2 rfl (sc _ rfl)⟩)
  ·skip
   obtain ⟨hl,h⟩:=h.guard
   ·refine .inr (.inl ⟨a,b,_,_,rfl,rfl,r.ok.1,r'.ok.1,?_,fun q hq=>?_⟩)
    ·rw [aab,aab,<- Ae,<- Ae]; exact hl
    ·rw [<- aaq]
     refine h (.lst q (ts ++ us)) _ (by simp [T.dat,T.dats_map]) (E4 r.same (T.oks_iff.mpr fun w hw=>?_) (fun c m=>?_) hq)
     ·rcases aae.mp hw with hw | hw
      ·exact T.oks_iff.mp r.ok.2 w hw
      ·exact T.oks_iff.mp r'.ok.2 w hw
     ·rw [T.rests_append,aae] at m
      rcases m with m | m
      ·exact r.elems ha c m
      ·exact r'.elems hb c m
 | sub =>
  obtain ⟨i,j,rfl,rfl,h⟩:=B6 (Q:=fun r=>Lg p EX σ r H _) id h
  exact ⟨_,_,rfl,rfl,h (.int _) H2 rfl (sc _ rfl)⟩
 | mul =>
  rcases Ol (Q:=fun r=>Lg p EX σ r H _) id h with ⟨i,j,rfl,rfl,h⟩ | ⟨a,ts,k,rfl,rfl,h⟩
  ·by_cases c:(-(2 ^ 64) < i/\i < 2 ^ 64)\/(-(2 ^ 64) < j/\j < 2 ^ 64)
   ·have h:Lg p EX σ (if (-(2 ^ 64) < i/\i < 2 ^ 64)\/(-(2 ^ 64) < j/\j < 2 ^ 64) then Res.ok (D.int (i * j)) else if i.natAbs < 2 ^ 400/\j.natAbs < 2 ^ 400 then .ok (.int (i * j)) else .bad) H _:=h
    rw [if_pos c] at h
    exact .inl ⟨_,_,rfl,rfl,.inl c,h (.int _) H2 rfl (sc _ rfl)⟩
   ·have h:Lg p EX σ (if (-(2 ^ 64) < i/\i < 2 ^ 64)\/(-(2 ^ 64) < j/\j < 2 ^ 64) then Res.ok (D.int (i * j)) else if i.natAbs < 2 ^ 400/\j.natAbs < 2 ^ 400 then .ok (.int (i * j)) else .bad) H _:=h
    rw [if_neg c] at h
    obtain ⟨hl,h⟩:=h.guard
    exact .inl ⟨_,_,rfl,rfl,.inr hl,h (.int _) H2 rfl (sc _ rfl)⟩
  ·skip
   obtain ⟨⟨h1,h2,h3⟩,h⟩:=h.guard
   ·refine .inr ⟨a,k,_,rfl,rfl,r.ok.1,h1,h2,?_,fun q hq=>?_⟩
    ·rw [aab,<- Ae]; exact h3
    ·have e:(aam k.toNat (ts.map T.val)).flatten=(aam k.toNat ts).flatten.map T.val:=by
      rw [List.map_flatten,aa6]
     rw [e]
     refine h (.lst q (aam k.toNat ts).flatten) _ ?_ (E4 r.same (T.oks_iff.mpr fun w hw=>?_) (fun c m=>?_) hq)
     ·rw [T.dat,T.dats_map,T.dats_map,List.map_flatten,aa6]
     ·obtain ⟨l,hl,hw⟩:=List.mem_flatten.mp hw
      rw [(abF.mp hl).2] at hw
      exact T.oks_iff.mp r.ok.2 w hw
     ·obtain ⟨w,hw,m⟩:=T.mem_rests.mp m
      obtain ⟨l,hl,hw⟩:=List.mem_flatten.mp hw
      rw [(abF.mp hl).2] at hw
      exact r.elems ha c (T.mem_rests.mpr ⟨w,hw,m⟩)
 | fdiv =>
  obtain ⟨i,j,rfl,rfl,h⟩:=B6 (Q:=fun r=>Lg p EX σ r H _) id h
  obtain ⟨hl,h⟩:=h.guard
  exact ⟨_,_,rfl,rfl,hl,h (.int _) H2 rfl (sc _ rfl)⟩
 | mod =>
  obtain ⟨i,j,rfl,rfl,h⟩:=B6 (Q:=fun r=>Lg p EX σ r H _) id h
  obtain ⟨hl,h⟩:=h.guard
  exact ⟨_,_,rfl,rfl,hl,h (.int _) H2 rfl (sc _ rfl)⟩
 | pow =>
  obtain ⟨i,j,rfl,rfl,h⟩:=B6 (Q:=fun r=>Lg p EX σ r H _) id h
  obtain ⟨hl,h⟩:=h.guard
  exact ⟨_,_,rfl,rfl,hl,h (.int _) H2 rfl (sc _ rfl)⟩
theorem Om {a b:Expr} {x y:E} {o:B2} (ha:PE X a (lE p EX tn x)) (hb:PE X b (lE p EX tn y)):PE X (.BinOp a (J0 o) b pos) (lE p EX tn (.bin o x y)):=by
 refine PE.mono (Rh (Oi o) ha hb) fun σ H Q h=>?_
 obtain ⟨τ,rfl,hF,j,k,hj,h⟩:=h
 simp only [jk] at hj
 obtain ⟨⟨j1,k1⟩,h1,hj⟩:=bS hj
 obtain ⟨⟨j2,k2⟩,h2,hj⟩:=bS hj
 obtain ⟨hc,e⟩:=Db hj
 cases e
 simp only [aaj,decide_eq_true_eq] at hc
 simp only [ev] at h
 refine l1 hF h1 h fun d t H1 ht R h=>l2 hF R.same h2 h fun d' t' H2 ht' R' h=>?_
 subst ht ht'
 exact Rv (R.fwd R'.same) (R'.back R.same) hc.1 hc.2 h
end
mutual
noncomputable def D.py:D->PyData
 | .non=>.none
 | .bl b=>.bool b
 | .int i=>.int i
 | .str x=>.str x
 | .tup ds=>.tuple (D.pys ds)
 | .lst ds=>.list (D.pys ds)
 | .exn _=>.none
 | .dic _ _=>.none
 | .dit _ _=>.none
noncomputable def D.pys:List D->List PyData
 | []=>[]
 | d :: r=>d.py :: D.pys r
end
theorem D.ind {P:D->Prop} (h0:P .non) (h1:∀ b,P (.bl b)) (h2:∀ i,P (.int i)) (h3:∀ x,P (.str x)) (h4:∀ ts,(∀ t ∈ ts,P t)->P (.tup ts)) (h5:∀ ts,(∀ t ∈ ts,P t)->P (.lst ts)) (h6:∀ c,P (.exn c)) (h7:∀ ks ts,P (.dic ks ts)) (h8:∀ ks ts,P (.dit ks ts)):∀ t,P t
 | .non=>h0
 | .bl b=>h1 b
 | .int i=>h2 i
 | .str x=>h3 x
 | .tup ts=>h4 ts fun t h=>D.ind h0 h1 h2 h3 h4 h5 h6 h7 h8 t
 | .lst ts=>h5 ts fun t h=>D.ind h0 h1 h2 h3 h4 h5 h6 h7 h8 t
 | .exn c=>h6 c
 | .dic ks ts=>h7 ks ts
 | .dit ks ts=>h8 ks ts
termination_by t=>t
theorem Bg {n c:Nat}:D.shp n (.exn c)=false:=by cases n <;> rfl
theorem Bh {n:Nat} {ks:List (Sum Int Str)} {ds:List D}:D.shp n (.dic ks ds)=false:=by cases n <;> rfl
theorem Bj {n:Nat} {ks:List (List (Sum Int Str))} {ds:List D}:D.shp n (.dit ks ds)=false:=by cases n <;> rfl
theorem DC {n:Nat} {ds:List D} (h:D.shp n (.tup ds)=true):∃ m,n=m + 1/\∀ d ∈ ds,D.shp m d=true:=by
 cases n with
 | zero=>cases h
 | succ m=>exact ⟨m,rfl,by simpa [D.shp] using h⟩
theorem DD {n:Nat} {ds:List D} (h:D.shp n (.lst ds)=true):∃ m,n=m + 1/\∀ d ∈ ds,D.shp m d=true:=by
 cases n with
 | zero=>cases h
 | succ m=>exact ⟨m,rfl,by simpa [D.shp] using h⟩
theorem HL:∀ (d e:D) (n m:Nat),d.shp n=true->e.shp m=true->d.eqv e=d.py.eqv e.py:=by
 have lists:∀ (ds:List D),(∀ d ∈ ds,∀ (e:D) (n m:Nat),d.shp n=true->e.shp m=true->d.eqv e=d.py.eqv e.py)->∀ (es:List D) (n m:Nat),(∀ d ∈ ds,d.shp n=true)->(∀ e ∈ es,e.shp m=true)->D.eqvs ds es=PyData.eqvAll (D.pys ds) (D.pys es):=by
  intro ds
  induction ds with
  | nil=>intro _ es n m _ _; cases es <;> simp [D.eqvs,D.pys,PyData.eqvAll]
  | cons d r ih =>
   intro h es n m h1 h2
   cases es with
   | nil=>simp [D.eqvs,D.pys,PyData.eqvAll]
   | cons e s =>
    simp only [D.eqvs,D.pys,PyData.eqvAll]
    rw [h d (aac ..) e n m (h1 d (aac ..)) (h2 e (aac ..)),ih (fun x hx=>h x (aaa _ hx)) s n m (fun x hx=>h1 x (aaa _ hx)) (fun x hx=>h2 x (aaa _ hx))]
 refine D.ind ?_ ?_ ?_ ?_ ?_ ?_ ?_ ?_ ?_
 ·intro e n m _ h; cases e <;> simp [D.eqv,D.py,PyData.eqv,Bg,Bh,Bj] at h ⊢
 ·intro b e n m _ h; cases e <;> simp [D.eqv,D.py,PyData.eqv,Bg,Bh,Bj] at h ⊢
 ·intro b e n m _ h; cases e <;> simp [D.eqv,D.py,PyData.eqv,Bg,Bh,Bj] at h ⊢
 ·intro b e n m _ h; cases e <;> simp [D.eqv,D.py,PyData.eqv,Bg,Bh,Bj] at h ⊢
 ·intro ds ih e n m h1 h2
  cases e with
  | tup es =>
   obtain ⟨n',_,h1⟩:=DC h1
   obtain ⟨m',_,h2⟩:=DC h2
   simp only [D.eqv,D.py,PyData.eqv]
   exact lists ds ih es n' m' h1 h2
  | exn c=>rw [Bg] at h2; cases h2
  | dic ks cs=>rw [Bh] at h2; cases h2
  | dit ks cs=>rw [Bj] at h2; cases h2
  | _=>simp [D.eqv,D.py,PyData.eqv]
 ·intro ds ih e n m h1 h2
  cases e with
  | lst es =>
   obtain ⟨n',_,h1⟩:=DD h1
   obtain ⟨m',_,h2⟩:=DD h2
   simp only [D.eqv,D.py,PyData.eqv]
   exact lists ds ih es n' m' h1 h2
  | exn c=>rw [Bg] at h2; cases h2
  | dic ks cs=>rw [Bh] at h2; cases h2
  | dit ks cs=>rw [Bj] at h2; cases h2
  | _=>simp [D.eqv,D.py,PyData.eqv]
 ·intro c e n m h; rw [Bg] at h; cases h
 ·intro ks cs e n m h; rw [Bh] at h; cases h
 ·intro ks cs e n m h; rw [Bj] at h; cases h
theorem GQ:∀ (d:D) (n:Nat),d.shp n=true->d.py.canLay0=true/\d.py.depth<=n:=by
 have lists:∀ (ds:List D),(∀ d ∈ ds,∀ (n:Nat),d.shp n=true->d.py.canLay0=true/\d.py.depth<=n)->∀ n,(∀ d ∈ ds,d.shp n=true)->PyData.canLayAll0 (D.pys ds)=true/\PyData.depthAll (D.pys ds)<=n:=by
  intro ds
  induction ds with
  | nil=>intro _ n _; simp [D.pys,PyData.canLayAll0,PyData.depthAll]
  | cons d r ih =>
   intro h n h1
   obtain ⟨a1,a2⟩:=h d (aac ..) n (h1 d (aac ..))
   obtain ⟨b1,b2⟩:=ih (fun x hx=>h x (aaa _ hx)) n (fun x hx=>h1 x (aaa _ hx))
   simp only [D.pys,PyData.canLayAll0,PyData.depthAll,a1,b1,Bool.and_self,true_and]
   omega
 refine D.ind ?_ ?_ ?_ ?_ ?_ ?_ ?_ ?_ ?_
 ·intro n h; simp [D.py,PyData.canLay0,PyData.depth]
 ·intro b n h; simp [D.py,PyData.canLay0,PyData.depth]
 ·intro b n h; simp [D.py,PyData.canLay0,PyData.depth]
 ·intro x n h
  simp only [D.py,PyData.canLay0,PyData.depth,aas,and_true]
  cases n <;> exact h
 ·intro ds ih n h
  obtain ⟨m,rfl,h'⟩:=DC h
  have:=lists ds ih m h'
  simp only [D.py,PyData.canLay0,PyData.depth]
  exact ⟨this.1,by omega⟩
 ·intro ds ih n h
  obtain ⟨m,rfl,h'⟩:=DD h
  have:=lists ds ih m h'
  simp only [D.py,PyData.canLay0,PyData.depth]
  exact ⟨this.1,by omega⟩
 ·intro c n h; rw [Bg] at h; cases h
 ·intro ks cs n h; rw [Bh] at h; cases h
 ·intro ks cs n h; rw [Bj] at h; cases h
theorem D6 {d:D} (h:d.shp 8=true):SeqAt.shaped d.py=true:=by
 obtain ⟨h1,h2⟩:=GQ d 8 h
 unfold SeqAt.shaped
 rw [h1,abp]
 exact decide_eq_true (by omega)
theorem D5 {p:Px} {H:Hp}:∀ (t:T) (n:Nat),t.Ok p H->t.dat.shp n=true->RD p.K H t.val t.dat.py:=by
 have lists:∀ (ts:List T),(∀ t ∈ ts,∀ n,t.Ok p H->t.dat.shp n=true->RD p.K H t.val t.dat.py)->∀ n,T.Oks p H ts->(∀ d ∈ T.dats ts,d.shp n=true)->RDs p.K H (ts.map T.val) (D.pys (T.dats ts)):=by
  intro ts
  induction ts with
  | nil=>intro _ _ _ _; exact .nil
  | cons t r ih =>
   intro h n ok hs
   exact .cons (h t (aac ..) n ok.1 (hs _ (by simp [T.dats]))) (ih (fun u hu=>h u (aaa _ hu)) n ok.2 (fun d hd=>hs d (by simp [T.dats,hd])))
 refine T.ind (fun _ _ _=>.non) (fun b _ _ _=>.bl b) (fun i _ _ _=>.int i) (fun x _ _ _=>.str x) (fun a ts ih n ok h=>?_) (fun a ts ih n ok h=>?_) (fun a c n ok h=>?_) (fun a ks ts _ n ok h=>by rw [T.dat,Bh] at h; cases h) (fun a ks ts _ n ok h=>by rw [T.dat,Bj] at h; cases h)
 ·obtain ⟨m,rfl,h'⟩:=DC h
  exact .tup (SqT.of ok.1) (lists ts ih m ok.2 h')
 ·obtain ⟨m,rfl,h'⟩:=DD h
  exact .lst (.inl ok.1) (lists ts ih m ok.2 h')
 ·rw [T.dat,Bg] at h; cases h
theorem J1 {H:Hp} {a:Addr} {xs ys:List V} (h:Rd H a (.lst xs)) (h':Rd H a (.lst ys)):xs=ys:=by
 rcases h with h | ⟨o,h⟩ <;> rcases h' with h' | ⟨o',h'⟩ <;> rw [h] at h' <;> cases h' <;> rfl
theorem T.det {p:Px} {H:Hp}:∀ (t u:T) (n m:Nat),t.Ok p H->u.Ok p H->t.dat.shp n=true->u.dat.shp m=true->t.val=u.val->t.dat=u.dat:=by
 have lists:∀ (ts:List T),(∀ t ∈ ts,∀ (u:T) (n m:Nat),t.Ok p H->u.Ok p H->t.dat.shp n=true->u.dat.shp m=true->t.val=u.val->t.dat=u.dat)->∀ (us:List T) (n m:Nat),T.Oks p H ts->T.Oks p H us ->
   (∀ d ∈ T.dats ts,d.shp n=true)->(∀ d ∈ T.dats us,d.shp m=true)->ts.map T.val=us.map T.val->T.dats ts=T.dats us:=by
  intro ts
  induction ts with
  | nil=>intro _ us n m _ _ _ _ e; cases us with | nil=>rfl | cons u r=>simp at e
  | cons t r ih =>
   intro h us n m o1 o2 s1 s2 e
   cases us with
   | nil=>simp at e
   | cons u q =>
    simp only [aaA,List.cons.injEq] at e
    simp only [T.dats,List.cons.injEq]
    exact ⟨h t (aac ..) u n m o1.1 o2.1 (s1 _ (by simp [T.dats])) (s2 _ (by simp [T.dats])) e.1,ih (fun x hx=>h x (aaa _ hx)) q n m o1.2 o2.2 (fun d hd=>s1 d (by simp [T.dats,hd])) (fun d hd=>s2 d (by simp [T.dats,hd])) e.2⟩
 refine T.ind ?_ ?_ ?_ ?_ ?_ ?_ ?_ ?_ ?_
 ·intro u n m _ _ _ _ e; cases u <;> first | rfl | cases e
 ·intro b u n m _ _ _ _ e; cases u <;> first | (cases e; rfl) | cases e
 ·intro b u n m _ _ _ _ e; cases u <;> first | (cases e; rfl) | cases e
 ·intro b u n m _ _ _ _ e; cases u <;> first | (cases e; rfl) | cases e
 ·intro a ts ih u n m o1 o2 s1 s2 e
  cases u with
  | tup b us =>
   cases e
   obtain ⟨n',_,s1⟩:=DC s1
   obtain ⟨m',_,s2⟩:=DC s2
   have q:=o1.1.symm.trans o2.1
   simp only [Option.some.injEq,HO.tup.injEq] at q
   simp only [T.dat,lists ts ih us n' m' o1.2 o2.2 s1 s2 q]
  | lst b us =>
   cases e
   have h1:=o1.1
   rcases o2.1 with h | ⟨_,h⟩ <;> rw [h] at h1 <;> cases h1
  | exn b c=>rw [T.dat,Bg] at s2; cases s2
  | dic b ks cs=>rw [T.dat,Bh] at s2; cases s2
  | dit b ks cs=>rw [T.dat,Bj] at s2; cases s2
  | _=>cases e
 ·intro a ts ih u n m o1 o2 s1 s2 e
  cases u with
  | tup b us =>
   cases e
   have h1:=o2.1
   rcases o1.1 with h | ⟨_,h⟩ <;> rw [h] at h1 <;> cases h1
  | lst b us =>
   cases e
   obtain ⟨n',_,s1⟩:=DD s1
   obtain ⟨m',_,s2⟩:=DD s2
   have q:=J1 o1.1 o2.1
   simp only [T.dat,lists ts ih us n' m' o1.2 o2.2 s1 s2 q]
  | exn b c=>rw [T.dat,Bg] at s2; cases s2
  | dic b ks cs=>rw [T.dat,Bh] at s2; cases s2
  | dit b ks cs=>rw [T.dat,Bj] at s2; cases s2
  | _=>cases e
 ·intro a c u n m _ _ h; rw [T.dat,Bg] at h; cases h
 ·intro a ks ts _ u n m _ _ h; rw [T.dat,Bh] at h; cases h
 ·intro a ks ts _ u n m _ _ h; rw [T.dat,Bj] at h; cases h
section
variable {p:Px} {EX:EXT} {tn:List Nat} {X:Cx} {pos:Pos}
theorem FD (hK:X.K=p.K) {pins:List (Addr × Obj)} {σ:St} {H:Hp} {s:Shared} {A:Around} (I:Inv X pins σ H s) {t u:T} {x y:Value} (hu:A.units + 60 < cLine) (o1:t.Ok p H) (o2:u.Ok p H) (s1:t.dat.shp 8=true) (s2:u.dat.shp 8=true) (r1:RelV t.val x) (r2:RelV u.val y) :
  SeqAt.EqAt A s x y (t.dat.eqv u.dat):=by
 intro prog w E Q hQ
 obtain ⟨as,q1⟩:=RD.reads (X:=X) I (hK ▸ D5 t 8 o1 s1) r1
 obtain ⟨bs,q2⟩:=RD.reads (X:=X) I (hK ▸ D5 u 8 o2 s2) r2
 obtain ⟨c1,d1⟩:=GQ _ 8 s1
 obtain ⟨c2,d2⟩:=GQ _ 8 s2
 refine PySem.SeqAt.eqBoolOverData prog w A E s x y _ _ as bs Q q1 q2 c1 c2 (by omega) ?_
 rw [<- HL _ _ 8 8 s1 s2]
 exact hQ
theorem Lm {vs:List (L2.Key × Value)} (h:L2.KV [] vs):vs=[]:=by cases h; rfl
theorem Ji {xs:List V} {us:List Value} (r:Vals xs us):∀ {i:Nat} {u:Value},us[i]?=some u->∃ x,xs[i]?=some x/\RelV x u:=by
 induction r with
 | nil=>intro i u h; cases h
 | cons r q ih =>
  intro i u h
  cases i with
  | zero=>cases h; exact ⟨_,rfl,r⟩
  | succ i=>exact ih h
theorem Rw {n:Nat} {xs ys:List D} (h:(abo (D.sm n) xs ys).all id=true) {i:Nat} {x y:D} (e1:xs[i]?=some x) (e2:ys[i]?=some y):D.sm n x y=true:=by
 rw [aat] at h
 exact h _ (aaf (i:=i) (by rw [List.getElem?_zipWith,e1,e2]))
theorem Rx {pins:List (Addr × Obj)} {σ:St} {H:Hp} {s:Shared} (hK:X.K=p.K) (I:Inv X pins σ H s):∀ (n:Nat) (t u:T) (A:Around) (x y:Value),t.Ok p H->u.Ok p H->D.sm n t.dat u.dat=true->A.units + n < cLine->RelV t.val x->RelV u.val y->SeqAt.RcAt A s x y true/\SeqAt.EqAt A s x y true:=by
 have ref:∀ {A:Around} {a b:Addr},SeqAt.RcAt A s (.ref a) (.ref b) true->SeqAt.RcAt A s (.ref a) (.ref b) true/\SeqAt.EqAt A s (.ref a) (.ref b) true:=fun {A a b} h=>by
  refine ⟨h,?_⟩
  by_cases e:a=b
  ·subst e; exact SeqAt.EqAt.same _
  ·exact SeqAt.EqAt.of_refs e h
 have items:∀ (n:Nat),(∀ (t u:T) (A:Around) (x y:Value),t.Ok p H->u.Ok p H->D.sm n t.dat u.dat=true->A.units + n < cLine->RelV t.val x->RelV u.val y->SeqAt.RcAt A s x y true/\SeqAt.EqAt A s x y true)->∀ (ts us:List T) (A:Around) (xs ys:List Value),T.Oks p H ts->T.Oks p H us->(abo (D.sm n) (T.dats ts) (T.dats us)).all id=true->A.units + (n + 1) < cLine->Vals (ts.map T.val) xs->Vals (us.map T.val) ys->∀ j (h1:j < xs.toArray.size) (h2:j < ys.toArray.size),SeqAt.EqAt A.in1 s xs.toArray[j] ys.toArray[j] true:=by
  intro n ih ts us A xs ys o1 o2 h hu r1 r2 j h1 h2
  obtain ⟨v1,e1,q1⟩:=Ji r1 (i:=j) (u:=xs[j]) (aah (by simpa using h1))
  obtain ⟨v2,e2,q2⟩:=Ji r2 (i:=j) (u:=ys[j]) (aah (by simpa using h2))
  rw [aal] at e1 e2
  obtain ⟨t,t1,rfl⟩:=aar.mp e1
  obtain ⟨u,u1,rfl⟩:=aar.mp e2
  have hs:=Rw (i:=j) (x:=t.dat) (y:=u.dat) h (by rw [T.dats_map,aal,t1]; rfl) (by rw [T.dats_map,aal,u1]; rfl)
  have:=(ih t u A.in1 xs[j] ys[j] (T.oks_iff.mp o1 t (aaf t1)) (T.oks_iff.mp o2 u (aaf u1)) hs (by show A.units + 1 + n < cLine; omega) q1 q2).2
  simpa using this
 have key:∀ (n:Nat),(∀ m,n=m + 1->∀ (t u:T) (A:Around) (x y:Value),t.Ok p H->u.Ok p H->D.sm m t.dat u.dat=true->A.units + m < cLine->RelV t.val x->RelV u.val y->SeqAt.RcAt A s x y true/\SeqAt.EqAt A s x y true)->∀ (t u:T) (A:Around) (x y:Value),t.Ok p H->u.Ok p H->D.sm n t.dat u.dat=true->A.units + n < cLine->RelV t.val x->RelV u.val y->SeqAt.RcAt A s x y true/\SeqAt.EqAt A s x y true:=by
  intro n ih t u A x y o1 o2 h hu r1 r2
  cases t with
  | non =>
   cases u with
   | non=>cases r1; cases r2; exact ⟨SeqAt.RcAt.none_none,SeqAt.EqAt.same _⟩
   | _=>cases n <;> exact nF h
  | bl a =>
   cases u with
   | bl b =>
    have e:a=b:=by cases n <;> exact beq_iff_eq.mp h
    subst e
    cases r1; cases r2
    exact ⟨by simpa using SeqAt.RcAt.bool_bool (A:=A) (s:=s) a a,SeqAt.EqAt.same _⟩
   | _=>cases n <;> exact nF h
  | int a =>
   cases u with
   | int b =>
    have e:a=b:=by cases n <;> exact beq_iff_eq.mp h
    subst e
    obtain ⟨t1,rfl⟩:=(show ∃ t,x=Value.int a t from r1)
    obtain ⟨t2,rfl⟩:=(show ∃ t,y=Value.int a t from r2)
    exact ⟨by simpa using SeqAt.RcAt.int_int (A:=A) (s:=s) a t1 a t2,by simpa using SeqAt.EqAt.int_int (A:=A) (s:=s) a t1 a t2⟩
   | _=>cases n <;> exact nF h
  | str a =>
   cases u with
   | str b =>
    have e:a=b:=by cases n <;> exact beq_iff_eq.mp h
    subst e
    obtain ⟨t1,rfl⟩:=(show ∃ t,x=Value.str a t from r1)
    obtain ⟨t2,rfl⟩:=(show ∃ t,y=Value.str a t from r2)
    exact ⟨by simpa using SeqAt.RcAt.str_str (A:=A) (s:=s) a t1 a t2,by simpa using SeqAt.EqAt.str_str (A:=A) (s:=s) a t1 a t2⟩
   | _=>cases n <;> exact nF h
  | tup a ts =>
   cases u with
   | tup b us =>
    cases n with
    | zero=>exact nF h
    | succ n =>
     obtain ⟨hl,h⟩:=acj.mp (show ((T.dats ts).length==(T.dats us).length && (abo (D.sm n) (T.dats ts) (T.dats us)).all id)=true from h)
     obtain ⟨its,q1,p1,_⟩:=I.tuple (SqT.of o1.1)
     obtain ⟨its2,q2,p2,_⟩:=I.tuple (SqT.of o2.1)
     cases r1; cases r2
     have hz:its.toArray.size=its2.toArray.size:=by
      have:=beq_iff_eq.mp hl
      rw [T.dats_map,T.dats_map,aab,aab] at this
      have l1:=q1.length
      have l2:=q2.length
      rw [aab] at l1 l2
      simp only [aak]; omega
     have:=SeqAt.RcAt.tuples (e:=fun _=>true) p1 p2 (by omega) (items n (ih n rfl) ts us A its its2 o1.2 o2.2 h hu q1 q2)
     refine ref ?_
     have e1:((aaE (min its.toArray.size its2.toArray.size)).all (fun _=>true) && its.toArray.size==its2.toArray.size)=true:=by rw [hz]; simp
     rw [e1] at this
     exact this
   | _=>cases n <;> exact nF h
  | lst a ts =>
   cases u with
   | lst b us =>
    cases n with
    | zero=>exact nF h
    | succ n =>
     obtain ⟨hl,h⟩:=acj.mp (show ((T.dats ts).length==(T.dats us).length && (abo (D.sm n) (T.dats ts) (T.dats us)).all id)=true from h)
     obtain ⟨its,q1,p1,_⟩:=I.list (.inl o1.1)
     obtain ⟨its2,q2,p2,_⟩:=I.list (.inl o2.1)
     cases r1; cases r2
     have hz:its.toArray.size=its2.toArray.size:=by
      have:=beq_iff_eq.mp hl
      rw [T.dats_map,T.dats_map,aab,aab] at this
      have l1:=q1.length
      have l2:=q2.length
      rw [aab] at l1 l2
      simp only [aak]; omega
     have:=SeqAt.RcAt.lists (e:=fun _=>true) p1.isList p2.isList hz (by omega) (items n (ih n rfl) ts us A its its2 o1.2 o2.2 h hu q1 q2)
     have e1:(aaE its.toArray.size).all (fun _=>true)=true:=by simp
     rw [e1] at this
     exact ref this
   | _=>cases n <;> exact nF h
  | exn a c=>cases u <;> cases n <;> exact nF h
  | dic a ks ts =>
   cases u with
   | dic b ls us =>
    match ks,ts,ls,us,o1,o2,h with
    | [],[],[],[],o1,o2,_ =>
     obtain ⟨_,na,vs,kv,da⟩:=L2.ND I.hok o1.1.1
     obtain ⟨_,nb,vs2,kv2,db⟩:=L2.ND I.hok o2.1.1
     cases r1; cases r2
     rw [Lm kv] at da
     rw [Lm kv2] at db
     exact ref (L2.Qd na nb da db (by omega))
    | _ :: _,_,_,_,_,_,h=>cases n <;> exact nF h
    | [],_ :: _,_,_,_,_,h=>cases n <;> exact nF h
    | [],[],_ :: _,_,_,_,h=>cases n <;> exact nF h
    | [],[],[],_ :: _,_,_,h=>cases n <;> exact nF h
   | _=>cases n <;> first | exact nF h | (cases ks <;> cases ts <;> exact nF h)
  | dit a ks ts=>cases u <;> cases n <;> exact nF h
 intro n
 induction n with
 | zero=>exact key 0 fun m e=>nomatch e
 | succ n ih=>exact key (n + 1) fun m e=>by cases e; exact ih
noncomputable def eqS (us:List T) (t:T) (y:Value):Bool:=@decide (∃ u ∈ us,RelV u.val y/\u.dat.eqv t.dat=true) (Classical.propDecidable _)
theorem E5 {H:Hp} {us:List T} {t u:T} {y:Value} (ok:T.Oks p H us) (sh:∀ w ∈ us,w.dat.shp 8=true) (hu:u ∈ us) (r:RelV u.val y):eqS us t y=u.dat.eqv t.dat:=by
 unfold eqS
 cases e:u.dat.eqv t.dat with
 | true=>exact @decide_eq_true _ (Classical.propDecidable _) ⟨u,hu,r,e⟩
 | false =>
  refine @decide_eq_false _ (Classical.propDecidable _) ?_
  rintro ⟨w,hw,r',e'⟩
  rw [T.det w u 8 8 (T.oks_iff.mp ok w hw) (T.oks_iff.mp ok u hu) (sh w hw) (sh u hu) (RelV.inj r' r)] at e'
  rw [e] at e'; cases e'
theorem Et {H:Hp} {us:List T} {t:T} (ok:T.Oks p H us) (sh:∀ w ∈ us,w.dat.shp 8=true):∀ (ws:List T) (ys:List Value),(∀ w ∈ ws,w ∈ us)->Vals (ws.map T.val) ys->ys.any (eqS us t)=ws.any fun w=>w.dat.eqv t.dat
 | [],_,_,.nil=>rfl
 | w :: ws,_,h,.cons r q=>by
  rw [abn,abn,E5 ok sh (h w (aac ..)) r,Et ok sh ws _ (fun x hx=>h x (aaa _ hx)) q]
theorem DS:∀ {ws:List T} {ys:List Value} {y:Value},Vals (ws.map T.val) ys->y ∈ ys->∃ w ∈ ws,RelV w.val y
 | [],_,y,.nil,h=>nomatch h
 | w :: ws,_,y,.cons r q,h=>by
  rcases aai.mp h with rfl | h
  ·exact ⟨w,aac ..,r⟩
  ·obtain ⟨w',hw,r'⟩:=DS q h
   exact ⟨w',aaa _ hw,r'⟩
noncomputable def J2 (p:Px) (neg:Bool):R2:=fun x y H Q=>∃ (t:T) (a:Addr) (us:List T),x=t.val/\y=.ref a/\(Rd H a (.lst (us.map T.val))\/H a=some (.tup (us.map T.val)))/\T.Oks p H us/\t.Ok p H/\t.dat.shp 8=true/\(∀ w ∈ us,w.dat.shp 8=true) /\
 Q (.bl (if neg then !(us.any fun w=>w.dat.eqv t.dat) else us.any fun w=>w.dat.eqv t.dat)) H
theorem Qi (hK:X.K=p.K) (hu:X.A.units + 64 < cLine):OpR X (compareOp .In) (J2 p false):=by
 intro pins s σ H x y v u Q I rx ry h
 obtain ⟨t,a,us,rfl,rfl,hq,ok,o1,s1,s2,q⟩:=h
 cases ry
 rcases hq with hq | hq
 ·obtain ⟨its,r,pl,hz⟩:=I.list (.inl hq)
  refine SeqAt.in_listAt (eqS us t) pl.isList (fun w hw=>?_) ⟨.bl _,H,I,rfl,?_⟩
  ·obtain ⟨w',hw',r'⟩:=DS r (by simpa using hw)
   rw [E5 ok s2 hw' r']
   exact FD hK I (by show X.A.units + 1 + 60 < cLine; omega) (T.oks_iff.mp ok w' hw') o1 (s2 w' hw') s1 r' rx
  ·rw [show its.toArray.any (eqS us t)=its.any (eqS us t) by simp,Et ok s2 us its (fun _ h=>h) r]
   exact q
 ·obtain ⟨its,r,pl,hz⟩:=I.tuple (SqT.of hq)
  refine SeqAt.in_tupleAt (eqS us t) pl (fun w hw=>?_) ⟨.bl _,H,I,rfl,?_⟩
  ·obtain ⟨w',hw',r'⟩:=DS r (by simpa using hw)
   rw [E5 ok s2 hw' r']
   exact FD hK I (by show X.A.units + 1 + 60 < cLine; omega) (T.oks_iff.mp ok w' hw') o1 (s2 w' hw') s1 r' rx
  ·rw [show its.toArray.any (eqS us t)=its.any (eqS us t) by simp,Et ok s2 us its (fun _ h=>h) r]
   exact q
theorem Ln (hK:X.K=p.K) (hu:X.A.units + 64 < cLine):OpR X (compareOp .NotIn) (J2 p true):=by
 intro pins s σ H x y v u Q I rx ry h
 obtain ⟨t,a,us,rfl,rfl,hq,ok,o1,s1,s2,q⟩:=h
 cases ry
 rcases hq with hq | hq
 ·obtain ⟨its,r,pl,hz⟩:=I.list (.inl hq)
  refine SeqAt.notIn_listAt (eqS us t) pl.isList (fun w hw=>?_) ⟨.bl _,H,I,rfl,?_⟩
  ·obtain ⟨w',hw',r'⟩:=DS r (by simpa using hw)
   rw [E5 ok s2 hw' r']
   exact FD hK I (by show X.A.units + 1 + 60 < cLine; omega) (T.oks_iff.mp ok w' hw') o1 (s2 w' hw') s1 r' rx
  ·rw [show its.toArray.any (eqS us t)=its.any (eqS us t) by simp,Et ok s2 us its (fun _ h=>h) r]
   exact q
 ·obtain ⟨its,r,pl,hz⟩:=I.tuple (SqT.of hq)
  refine SeqAt.notIn_tupleAt (eqS us t) pl (fun w hw=>?_) ⟨.bl _,H,I,rfl,?_⟩
  ·obtain ⟨w',hw',r'⟩:=DS r (by simpa using hw)
   rw [E5 ok s2 hw' r']
   exact FD hK I (by show X.A.units + 1 + 60 < cLine; omega) (T.oks_iff.mp ok w' hw') o1 (s2 w' hw') s1 r' rx
  ·rw [show its.toArray.any (eqS us t)=its.any (eqS us t) by simp,Et ok s2 us its (fun _ h=>h) r]
   exact q
end
section
variable {p:Px} {EX:EXT} {tn:List Nat} {X:Cx} {pos:Pos}
noncomputable def A6:C2->CmpOp
 | .lt=>.Lt
 | .le=>.LtE
 | .gt=>.Gt
 | .ge=>.GtE
 | .eq=>.Eq
 | .ne=>.NotEq
 | .inn=>.In
 | .nin=>.NotIn
 | .sm=>.Eq
 | .ml=>.Eq
noncomputable def Qj (p:Px) (neg:Bool):R2:=fun x y H Q=>∃ t u:T,x=t.val/\y=u.val/\t.Ok p H/\u.Ok p H/\t.dat.shp 8=true/\u.dat.shp 8=true/\Q (.bl (if neg then !t.dat.eqv u.dat else t.dat.eqv u.dat)) H
noncomputable def Sx (p:Px):R2:=fun x y H Q=>∃ t u:T,x=t.val/\y=u.val/\t.Ok p H/\u.Ok p H/\D.sm 8 t.dat u.dat=true/\Q (.bl true) H
noncomputable def Sy:R2:=fun x y H Q=>∃ (a b:Addr) (xs:List V),x=.ref a/\y=.ref b/\Rd H a (.lst xs)/\Rd H b (.lst [])/\Q (.bl xs.isEmpty) H
noncomputable def HM (p:Px):C2->R2
 | .lt=>rI0 fun i j=>.bl (decide (i < j))
 | .le=>rI0 fun i j=>.bl (decide (i<=j))
 | .gt=>rI0 fun i j=>.bl (decide (j < i))
 | .ge=>rI0 fun i j=>.bl (decide (j<=i))
 | .eq=>Qj p false
 | .ne=>Qj p true
 | .inn=>J2 p false
 | .nin=>J2 p true
 | .sm=>Sx p
 | .ml=>Sy
theorem DE (hK:X.K=p.K) (hu:X.A.units + 64 < cLine):∀ o:C2,OpR X (compareOp (A6 o)) (HM p o)
 | .lt=>Rj
 | .le=>Rk
 | .gt=>Rl
 | .ge=>Rm
 | .eq=>by
  intro pins s σ H x y v u Q I rx ry h
  obtain ⟨t,w,rfl,rfl,o1,o2,s1,s2,q⟩:=h
  refine P9 hu pins s σ H _ _ v u Q I rx ry ⟨_,_,hK ▸ D5 t 8 o1 s1,hK ▸ D5 w 8 o2 s2,D6 s1,D6 s2,?_⟩
  rw [<- HL _ _ 8 8 s1 s2]; exact q
 | .ne=>by
  intro pins s σ H x y v u Q I rx ry h
  obtain ⟨t,w,rfl,rfl,o1,o2,s1,s2,q⟩:=h
  refine Qa hu pins s σ H _ _ v u Q I rx ry ⟨_,_,hK ▸ D5 t 8 o1 s1,hK ▸ D5 w 8 o2 s2,D6 s1,D6 s2,?_⟩
  rw [<- HL _ _ 8 8 s1 s2]; exact q
 | .inn=>Qi hK hu
 | .nin=>Ln hK hu
 | .sm=>by
  intro pins s σ H x y v u Q I rx ry h
  obtain ⟨t,w,rfl,rfl,o1,o2,hs,q⟩:=h
  exact (Rx hK I 8 t w X.A v u o1 o2 hs (by omega) rx ry).1 X.prog X.w X.xe _ ⟨.bl true,H,I,rfl,q⟩
 | .ml=>by
  intro pins s σ H x y v u Q I rx ry h
  obtain ⟨a,b,xs,rfl,rfl,h1,h2,q⟩:=h
  cases rx; cases ry
  obtain ⟨its,r1,p1,_⟩:=I.list (.inl h1)
  obtain ⟨its2,r2,p2,_⟩:=I.list (.inl h2)
  cases r2
  cases r1 with
  | nil=>exact SeqAt.eq_listAt (e:=fun _=>true) p1.isList p2.isList rfl (by omega) (fun j h1 _=>absurd h1 (abU j)) ⟨.bl true,H,I,rfl,q⟩
  | cons r rr=>exact SeqAt.eq_list_lengthsAt p1.isList p2.isList (by simp) (by omega) ⟨.bl false,H,I,rfl,q⟩
theorem HN {t:T}:∀ us:List T,((T.dats us).any fun y=>D.eqv y t.dat)=us.any fun w=>w.dat.eqv t.dat
 | []=>rfl
 | u :: r=>by simp [T.dats,HN r]
theorem CU {f:D->Bool}:∀ {us:List T},(T.dats us).all f=true->∀ w ∈ us,f w.dat=true
 | [],_,w,h=>nomatch h
 | u :: r,h,w,hw=>by
  simp only [T.dats,aaB,aaj] at h
  rcases aai.mp hw with rfl | hw
  ·exact h.1
  ·exact CU h.2 w hw
theorem Hq {β:Type} {t:T} {us:List T} {σ:St} {H:Hp} {f:Bool->Res β} {Kc:β->Prop} (h:Lg p EX σ ((inD t.dat (T.dats us)).bind f) H Kc):t.dat.shp 8=true/\(∀ w ∈ us,w.dat.shp 8=true)/\Lg p EX σ (f (us.any fun w=>w.dat.eqv t.dat)) H Kc:=by
 have h:=h.bind
 unfold inD at h
 obtain ⟨hc,h⟩:=h.guard
 rw [aaj] at hc
 rw [HN] at h
 exact ⟨hc.1,fun w hw=>CU hc.2 w hw,h⟩
theorem J3 {B:Addr->Prop} {H H2:Hp} {ja jb ka kb:Nat} {t u:T} {o:C2} {σ:St} {Kc:D->Prop} {Q:VK} (r:Rs p B H H2 ja ka t) (r':Rs p B H H2 jb kb u) (h:Lg p EX σ (c2 o t.dat u.dat) H Kc) (hQ:∀ b,Kc (.bl b)->Q (.bl b) H2):HM p o t.val u.val H2 Q:=by
 cases o with
 | lt =>
  obtain ⟨i,j,rfl,rfl,h⟩:=B6 (Q:=fun r=>Lg p EX σ r H Kc) id h
  exact ⟨_,_,rfl,rfl,hQ _ h⟩
 | le =>
  obtain ⟨i,j,rfl,rfl,h⟩:=B6 (Q:=fun r=>Lg p EX σ r H Kc) id h
  exact ⟨_,_,rfl,rfl,hQ _ h⟩
 | gt =>
  obtain ⟨i,j,rfl,rfl,h⟩:=B6 (Q:=fun r=>Lg p EX σ r H Kc) id h
  exact ⟨_,_,rfl,rfl,hQ _ h⟩
 | ge =>
  obtain ⟨i,j,rfl,rfl,h⟩:=B6 (Q:=fun r=>Lg p EX σ r H Kc) id h
  exact ⟨_,_,rfl,rfl,hQ _ h⟩
 | eq =>
  simp only [c2] at h
  obtain ⟨hc,h⟩:=h.guard
  rw [aaj] at hc
  exact ⟨t,u,rfl,rfl,r.ok,r'.ok,hc.1,hc.2,hQ _ h⟩
 | ne =>
  simp only [c2] at h
  obtain ⟨hc,h⟩:=h.guard
  rw [aaj] at hc
  exact ⟨t,u,rfl,rfl,r.ok,r'.ok,hc.1,hc.2,hQ _ h⟩
 | inn =>
  cases u <;> first | exact nE h | skip
  ·obtain ⟨s1,s2,h⟩:=Hq h
   exact ⟨t,_,_,rfl,rfl,.inr r'.ok.1,r'.ok.2,r.ok,s1,s2,hQ _ h⟩
  ·obtain ⟨s1,s2,h⟩:=Hq h
   exact ⟨t,_,_,rfl,rfl,.inl r'.ok.1,r'.ok.2,r.ok,s1,s2,hQ _ h⟩
 | nin =>
  cases u <;> first | exact nE h | skip
  ·obtain ⟨s1,s2,h⟩:=Hq h
   exact ⟨t,_,_,rfl,rfl,.inr r'.ok.1,r'.ok.2,r.ok,s1,s2,hQ _ h⟩
  ·obtain ⟨s1,s2,h⟩:=Hq h
   exact ⟨t,_,_,rfl,rfl,.inl r'.ok.1,r'.ok.2,r.ok,s1,s2,hQ _ h⟩
 | sm =>
  simp only [c2] at h
  obtain ⟨hc,h⟩:=h.guard
  exact ⟨t,u,rfl,rfl,r.ok,r'.ok,hc,hQ _ h⟩
 | ml =>
  have h:Lg p EX σ (mlD t.dat u.dat) H Kc:=h
  cases t with
  | lst a ts =>
   cases u with
   | lst b us =>
    cases us with
    | nil =>
     have h:Kc (.bl (T.dats ts).isEmpty):=h
     refine ⟨a,b,ts.map T.val,rfl,rfl,r.ok.1,r'.ok.1,?_⟩
     have e:(ts.map T.val).isEmpty=(T.dats ts).isEmpty:=by cases ts <;> rfl
     rw [e]
     exact hQ _ h
    | cons w us=>exact nE h
   | _=>exact nE h
  | _=>cases u <;> exact nE h
theorem KE.bl {B:Addr->Prop} {H H2:Hp} {j k:Nat} {Q:VK} {b:Bool} (s:Same H H2) (h:KE p B H j k Q (.bl b)):Q (.bl b) H2:=h (.bl b) H2 rfl (Rs.scal s rfl)
theorem Qk {x y:E} {o:C2} {τ:Ft} {H:Hp} {Kc:D->Prop} {Q:VK} {j1 k1 j2 k2:Nat} (hF:Fok p tn τ H) (h1:jk tn x=some (j1,k1)) (h2:jk tn y=some (j2,k2))
  (h:Lg p EX (vτ τ) ((ev x (dτ τ)).bind fun a=>(ev y (dτ τ)).bind fun b=>c2 o a b) H Kc) (hQ:∀ b H2,Same H H2->Kc (.bl b)->Q (.bl b) H2):tOp (HM p o) (lE p EX tn x) (lE p EX tn y) (vτ τ) H Q:=by
 refine l1 hF h1 h fun d t H1 ht R h=>l2 hF R.same h2 h fun d' t' H2 ht' R' h=>?_
 subst ht ht'
 exact J3 (R.fwd R'.same) (R'.back R.same) h fun b hb=>hQ b H2 (R.same.trans R'.same) hb
theorem On (hK:X.K=p.K) (hu:X.A.units + 64 < cLine) {a b:Expr} {x y:E} {o:C2} (ha:PE X a (lE p EX tn x)) (hb:PE X b (lE p EX tn y)) (hm:behindInMarks (A6 o) b=false):PE X (.Compare a [A6 o] [b] pos) (lE p EX tn (.cmp o x y)):=by
 refine PE.mono (NY (DE hK hu o) ha hb hm) fun σ H Q h=>?_
 obtain ⟨τ,rfl,hF,j,k,hj,h⟩:=h
 simp only [jk] at hj
 obtain ⟨⟨j1,k1⟩,h1,hj⟩:=bS hj
 obtain ⟨⟨j2,k2⟩,h2,hj⟩:=bS hj
 simp only [ev] at h
 exact Qk hF h1 h2 h fun b H2 s hb=>KE.bl s hb
theorem MM (hK:X.K=p.K) (hu:X.A.units + 64 < cLine) {a b:Expr} {x y:E} {o:C2} (ha:PE X a (lE p EX tn x)) (hb:PE X b (lE p EX tn y)) (hm:behindInMarks (A6 o) b=false):PT X (.Compare a [A6 o] [b] pos) (lT p EX tn (.cmp o x y)):=by
 refine PT.mono (NZ (DE hK hu o) ha hb hm) fun σ H Q h=>?_
 obtain ⟨τ,rfl,hF,hj,h⟩:=h
 obtain ⟨q,hj⟩:=aax.mp hj
 simp only [jk] at hj
 obtain ⟨⟨j1,k1⟩,h1,hj⟩:=bS hj
 obtain ⟨⟨j2,k2⟩,h2,hj⟩:=bS hj
 simp only [tv,ev] at h
 exact Qk hF h1 h2 h.bind fun b H2 s hb=>⟨b,rfl,hb H2 s⟩
theorem Lo {x y z:E} {o o':C2} {τ:Ft} {H:Hp} {Kc:D->Prop} {Q:VK} {j1 k1 j2 k2 j3 k3:Nat} (hF:Fok p tn τ H) (h1:jk tn x=some (j1,k1)) (h2:jk tn y=some (j2,k2)) (h3:jk tn z=some (j3,k3))
  (h:Lg p EX (vτ τ) (ev (.chain o o' x y z) (dτ τ)) H Kc) (hQ:∀ b H2,Same H H2->Kc (.bl b)->Q (.bl b) H2):HB (HM p o) (HM p o') (lE p EX tn x) (lE p EX tn y) (lE p EX tn z) (vτ τ) H Q:=by
 simp only [ev] at h
 refine l1 hF h1 h fun d t H1 ht R h=>l2 hF R.same h2 h fun d' t' H2 ht' R' h=>?_
 subst ht ht'
 refine J3 (R.fwd R'.same) (R'.back R.same) h.bind fun b h=>⟨b,rfl,?_⟩
 have s2:=R.same.trans R'.same
 cases b with
 | false=>exact hQ false H2 s2 h
 | true =>
  refine l2 hF s2 h3 h fun d'' t'' H3 ht'' R'' h=>?_
  subst ht''
  exact J3 ((R'.back R.same).fwd R''.same) (R''.back s2) h fun b hb=>hQ b H3 (s2.trans R''.same) hb
theorem Lp (hK:X.K=p.K) (hu:X.A.units + 64 < cLine) {a b c:Expr} {x y z:E} {o o':C2} (ha:PE X a (lE p EX tn x)) (hb:PE X b (lE p EX tn y)) (hc:PE X c (lE p EX tn z)) (hm:lastMarks [A6 o,A6 o'] [b,c]=false):PE X (.Compare a [A6 o,A6 o'] [b,c] pos) (lE p EX tn (.chain o o' x y z)):=by
 refine PE.mono (Mr (DE hK hu o) (DE hK hu o') ha hb hc hm) fun σ H Q h=>?_
 obtain ⟨τ,rfl,hF,j,k,hj,h⟩:=h
 simp only [jk] at hj
 obtain ⟨⟨j1,k1⟩,h1,hj⟩:=bS hj
 obtain ⟨⟨j2,k2⟩,h2,hj⟩:=bS hj
 obtain ⟨⟨j3,k3⟩,h3,hj⟩:=bS hj
 exact Lo hF h1 h2 h3 h fun b H2 s hb=>KE.bl s hb
theorem J4 (hK:X.K=p.K) (hu:X.A.units + 64 < cLine) {a b c:Expr} {x y z:E} {o o':C2} (ha:PE X a (lE p EX tn x)) (hb:PE X b (lE p EX tn y)) (hc:PE X c (lE p EX tn z)) (hm:lastMarks [A6 o,A6 o'] [b,c]=false):PT X (.Compare a [A6 o,A6 o'] [b,c] pos) (lT p EX tn (.chain o o' x y z)):=by
 refine PT.mono (Mt (DE hK hu o) (DE hK hu o') ha hb hc hm) fun σ H Q h=>?_
 obtain ⟨τ,rfl,hF,hj,h⟩:=h
 obtain ⟨q,hj⟩:=aax.mp hj
 simp only [jk] at hj
 obtain ⟨⟨j1,k1⟩,h1,hj⟩:=bS hj
 obtain ⟨⟨j2,k2⟩,h2,hj⟩:=bS hj
 obtain ⟨⟨j3,k3⟩,h3,hj⟩:=bS hj
 unfold tv at h
 exact Lo hF h1 h2 h3 h.bind fun b H2 s hb=>⟨b,rfl,hb H2 s⟩
theorem Oo {t:T}:decide (t.val=V.non)=(match t.dat with | .non=>true | _=>false):=by
 cases t <;> rfl
theorem Ql {x:E} {n:Bool} {τ:Ft} {H:Hp} {Kc:D->Prop} {Q:VK} {j1 k1:Nat} (hF:Fok p tn τ H) (h1:jk tn x=some (j1,k1)) (h:Lg p EX (vτ τ) (ev (.isN n x) (dτ τ)) H Kc) (hQ:∀ b H2,Same H H2->Kc (.bl b)->Q (.bl b) H2) :
  lE p EX tn x (vτ τ) H fun v H1=>Q (.bl (if n then !decide (v=.non) else decide (v=.non))) H1:=by
 simp only [ev] at h
 refine l1 hF h1 h fun d t H1 ht R h=>?_
 subst ht
 refine hQ _ H1 R.same ?_
 have h:Kc (.bl (match t.dat with | .non=>!n | _=>n)):=h
 rw [Oo]
 cases n <;> cases t <;> exact h
theorem Op {a:Expr} {x:E} {n:Bool} {j pos'} (ha:PE X a (lE p EX tn x)):PE X (.Compare a [if n then .IsNot else .Is] [.Constant .none j pos'] pos) (lE p EX tn (.isN n x)):=by
 have key:∀ σ H Q,lE p EX tn (.isN n x) σ H Q->lE p EX tn x σ H fun v H1=>Q (.bl (if n then !decide (v=.non) else decide (v=.non))) H1:=by
  intro σ H Q h
  obtain ⟨τ,rfl,hF,j,k,hj,h⟩:=h
  simp only [jk] at hj
  obtain ⟨⟨j1,k1⟩,h1,hj⟩:=bS hj
  exact Ql hF h1 h fun b H2 s hb=>KE.bl s hb
 cases n with
 | true=>exact PE.mono (KN (IZ ha)) fun σ H Q h=>key σ H Q h
 | false=>exact PE.mono (KN (KM ha)) fun σ H Q h=>key σ H Q h
theorem MN {a:Expr} {x:E} {n:Bool} {j pos'} (ha:PE X a (lE p EX tn x)):PT X (.Compare a [if n then .IsNot else .Is] [.Constant .none j pos'] pos) (lT p EX tn (.isN n x)):=by
 have key:∀ σ H Q,lT p EX tn (.isN n x) σ H Q->lE p EX tn x σ H fun v H1=>∃ c,V.bl (if n then !decide (v=.non) else decide (v=.non))=V.bl c/\Q c H1:=by
  intro σ H Q h
  obtain ⟨τ,rfl,hF,hj,h⟩:=h
  obtain ⟨q,hj⟩:=aax.mp hj
  simp only [jk] at hj
  obtain ⟨⟨j1,k1⟩,h1,hj⟩:=bS hj
  unfold tv at h
  exact Ql (Q:=fun v H1=>∃ c,v=V.bl c/\Q c H1) hF h1 h.bind fun b H2 s hb=>⟨b,rfl,hb H2 s⟩
 cases n with
 | true=>exact PT.mono (KO (IZ ha)) fun σ H Q h=>key σ H Q h
 | false=>exact PT.mono (KO (KM ha)) fun σ H Q h=>key σ H Q h
end
section
variable {p:Px} {EX:EXT} {tn:List Nat} {X:Cx} {pos:Pos}
theorem Oq {a:Expr} {x:E} (ha:PE X a (lE p EX tn x)):PE X (.UnaryOp .USub a pos) (lE p EX tn (.neg x)):=by
 refine PE.mono (Ri PL ha) fun σ H Q h=>?_
 obtain ⟨τ,rfl,hF,j,k,hj,h⟩:=h
 simp only [jk] at hj
 obtain ⟨⟨j1,k1⟩,h1,hj⟩:=bS hj
 simp only [ev] at h
 refine l1 hF h1 h fun d t H1 ht R h=>?_
 subst ht
 cases t <;> simp only [T.dat] at h
 all_goals first | exact nE h | exact ⟨_,rfl,h (.int _) H1 rfl (Rs.scal R.same rfl)⟩
theorem Os {a:Expr} {x:E} (ha:PE X a (lE p EX tn x)):PE X (.UnaryOp .Not a pos) (lE p EX tn (.not x)):=by
 refine PE.mono (Pr ha) fun σ H Q h=>?_
 obtain ⟨τ,rfl,hF,j,k,hj,h⟩:=h
 simp only [jk] at hj
 obtain ⟨⟨j1,k1⟩,h1,hj⟩:=bS hj
 simp only [ev] at h
 refine l1 hF h1 h fun d t H1 ht R h=>?_
 subst ht
 cases t <;> simp only [T.dat] at h
 all_goals first | exact nE h | exact ⟨_,rfl,h (.bl _) H1 rfl (Rs.scal R.same rfl)⟩
theorem MO {H:Hp} {t:T} {σ:St} {H0:Hp} {Kc:Bool->Prop} (hK:X.K=p.K) (ok:t.Ok p H) (h:Lg p EX σ (CC t.dat) H0 Kc):∃ b,Mv X.K t.val H b/\Kc b:=by
 cases t <;> simp only [T.dat,CC] at h
 ·exact ⟨false,rfl,h⟩
 ·exact ⟨_,rfl,h⟩
 ·exact ⟨_,rfl,h⟩
 ·exact nE h
 ·rename_i a ts
  refine ⟨_,.inr (.inl ⟨_,SqT.of ok.1,rfl⟩),?_⟩
  have h:Kc (!(T.dats ts).isEmpty):=h
  cases ts <;> exact h
 ·rename_i a ts
  refine ⟨_,.inl ⟨_,.inl ok.1,rfl⟩,?_⟩
  have h:Kc (!(T.dats ts).isEmpty):=h
  cases ts <;> exact h
 ·exact nE h
 ·exact nE h
 ·exact nE h
noncomputable def HP:Expr->Bool
 | .UnaryOp .Not _ _=>false
 | .BoolOp _ _ _=>false
 | .IfExp _ _ _ _=>false
 | .Compare _ _ _ _=>false
 | _=>true
theorem Lq {a:Expr} {env:Env} (h:HP a=true):∀ whole,isTrue a env whole=(do let v <- whole; standAt a.pos; holding [v] (truthy v)):=by
 intro whole
 cases a with
 | UnaryOp o x q=>cases o <;> first | rfl | cases h
 | BoolOp _ _ _=>cases h
 | IfExp _ _ _ _=>cases h
 | Compare _ _ _ _=>cases h
 | _=>rfl
theorem J8 (hK:X.K=p.K) {a:Expr} {x:E} (ha:PE X a (lE p EX tn x)) (hp:HP a=true):PT X a (lT p EX tn x):=by
 refine PT.mono (Mw ha (Lq hp)) fun σ H Q h=>?_
 obtain ⟨τ,rfl,hF,hj,h⟩:=h
 obtain ⟨⟨j,k⟩,hj⟩:=aax.mp hj
 refine l1 hF hj h fun d t H1 ht R h=>?_
 subst ht
 obtain ⟨b,tb,hb⟩:=MO (X:=X) hK R.ok h
 exact ⟨b,tb,hb H1 R.same⟩
theorem MP {a:Expr} {x:E} (ha:PT X a (lT p EX tn x)):PT X (.UnaryOp .Not a pos) (lT p EX tn (.not x)):=by
 refine PT.mono (Po ha) fun σ H Q h=>?_
 obtain ⟨τ,rfl,hF,hj,h⟩:=h
 obtain ⟨q,hj⟩:=aax.mp hj
 simp only [jk] at hj
 obtain ⟨⟨j1,k1⟩,h1,hj⟩:=bS hj
 refine ⟨τ,rfl,hF,by rw [h1]; rfl,?_⟩
 unfold tv at h ⊢
 simp only [ev] at h
 cases q:ev x (dτ τ) with
 | ok d =>
  rw [q] at h
  simp only [Res.bind_ok] at h ⊢
  cases d <;> simp only [Res.bind_bad] at h
  all_goals first | exact nE h | exact h
 | exc c=>rw [q] at h; exact h
 | bad=>rw [q] at h; exact h
theorem Qm {a:Expr} {x:E} {k0:Bool} (ha:PE X a (lE p EX tn x)):PE X (.BoolOp (if k0 then .And else .Or) [a] pos) (lE p EX tn (.bo k0 (.cons x .nil))):=by
 refine PE.mono (Pp ha) fun σ H Q h=>?_
 obtain ⟨τ,rfl,hF,j,k,hj,h⟩:=h
 simp only [jk,jks] at hj
 obtain ⟨⟨j1,k1⟩,h1,hj⟩:=bS hj
 simp only [ev,evBo] at h
 have hj:=Option.some.inj hj
 refine ⟨τ,rfl,hF,j1,k1,h1,h.mono (Same.refl _) fun d _ hd t H' ht R=>hd t H' ht (R.le ?_ ?_)⟩
 ·simp at hj; omega
 ·simp at hj
  obtain ⟨h1,h2⟩:=hj
  rw [<- h2]
  split
  ·exact abt ..
  ·exact aas _
theorem Ot {a b:Expr} {rest:List Expr} {x y:E} {r:Es} {k0:Bool} (ha:PE X a (lE p EX tn x)) (hb:PE X (.BoolOp (if k0 then .And else .Or) (b :: rest) pos) (lE p EX tn (.bo k0 (.cons y r)))) :
  PE X (.BoolOp (if k0 then .And else .Or) (a :: b :: rest) pos) (lE p EX tn (.bo k0 (.cons x (.cons y r)))):=by
 have key:∀ σ H Q,lE p EX tn (.bo k0 (.cons x (.cons y r))) σ H Q->lE p EX tn x σ H fun v H1=>∃ c,v=.bl c/\if c=k0 then lE p EX tn (.bo k0 (.cons y r)) σ H1 Q else Q (.bl c) H1:=by
  intro σ H Q h
  obtain ⟨τ,rfl,hF,j,k,hj,h⟩:=h
  simp only [jk,jks] at hj
  obtain ⟨⟨j1,k1⟩,h1,hj⟩:=bS hj
  obtain ⟨⟨j2,k2⟩,h2,hj⟩:=bS hj
  have hj:=Option.some.inj hj
  simp only [Prod.mk.injEq] at hj
  simp only [ev,evBo] at h
  refine l1 hF h1 h fun d t H1 ht R h=>?_
  subst ht
  cases t <;> simp only [T.dat] at h
  all_goals first | exact nE h | skip
  rename_i c
  refine ⟨c,rfl,?_⟩
  by_cases z:c=k0
  ·rw [if_pos z] at h ⊢
   refine ⟨τ,rfl,hF.same R.same,j2,k2,by simp only [jk,jks]; exact h2,?_⟩
   simp only [ev]
   refine h.mono R.same fun d _ hd t H' ht R'=>hd t H' ht ((R'.back R.same).le (by omega) ?_)
   rw [<- hj.2]
   split
   ·exact abz ..
   ·exact aas _
  ·rw [if_neg z] at h ⊢
   exact h (.bl c) H1 rfl (Rs.scal R.same rfl)
 cases k0 with
 | true =>
  refine PE.mono (Pq ha hb) fun σ H Q h=>?_
  refine (show ∀ (A B:VK),(∀ v H,A v H->B v H)->lE p EX tn x σ H A->lE p EX tn x σ H B from ?_) _ _ ?_ (key σ H Q h)
  ·rintro A B m ⟨τ,e,hF,j,k,hj,h⟩
   exact ⟨τ,e,hF,j,k,hj,h.mono (Same.refl _) fun d _ hd t H' ht R=>m _ _ (hd t H' ht R)⟩
  ·rintro v H1 ⟨c,rfl,h⟩
   exact ⟨c,rfl,by cases c <;> simpa using h⟩
 | false =>
  refine PE.mono (Rc ha hb) fun σ H Q h=>?_
  refine (show ∀ (A B:VK),(∀ v H,A v H->B v H)->lE p EX tn x σ H A->lE p EX tn x σ H B from ?_) _ _ ?_ (key σ H Q h)
  ·rintro A B m ⟨τ,e,hF,j,k,hj,h⟩
   exact ⟨τ,e,hF,j,k,hj,h.mono (Same.refl _) fun d _ hd t H' ht R=>m _ _ (hd t H' ht R)⟩
  ·rintro v H1 ⟨c,rfl,h⟩
   exact ⟨c,rfl,by cases c <;> simpa using h⟩
theorem Ou {a:Expr} {x:E} {k0:Bool} (ha:PT X a (lT p EX tn x)):PW X (.BoolOp (if k0 then .And else .Or) [a] pos) (lT p EX tn (.bo k0 (.cons x .nil))):=by
 have key:∀ σ H Q,lT p EX tn (.bo k0 (.cons x .nil)) σ H Q->lT p EX tn x σ H Q:=by
  rintro σ H Q ⟨τ,rfl,hF,hj,h⟩
  refine ⟨τ,rfl,hF,?_,by simpa only [tv,ev,evBo] using h⟩
  obtain ⟨q,hj⟩:=aax.mp hj
  simp only [jk,jks] at hj
  obtain ⟨⟨j1,k1⟩,h1,hj⟩:=bS hj
  rw [h1]; rfl
 cases k0 with
 | true=>exact fun wh pins s σ H Q I h=>NU ha wh pins s σ H Q I (key σ H Q h)
 | false=>exact fun wh pins s σ H Q I h=>Pm ha wh pins s σ H Q I (key σ H Q h)
theorem MQ {a b:Expr} {rest:List Expr} {x y:E} {r:Es} {k0:Bool} (ha:PT X a (lT p EX tn x)) (hb:PW X (.BoolOp (if k0 then .And else .Or) (b :: rest) pos) (lT p EX tn (.bo k0 (.cons y r)))) :
  PW X (.BoolOp (if k0 then .And else .Or) (a :: b :: rest) pos) (lT p EX tn (.bo k0 (.cons x (.cons y r)))):=by
 have key:∀ σ H Q,lT p EX tn (.bo k0 (.cons x (.cons y r))) σ H Q->lT p EX tn x σ H fun c H1=>if c=k0 then lT p EX tn (.bo k0 (.cons y r)) σ H1 Q else Q c H1:=by
  rintro σ H Q ⟨τ,rfl,hF,hj,h⟩
  obtain ⟨q,hj⟩:=aax.mp hj
  simp only [jk,jks] at hj
  obtain ⟨⟨j1,k1⟩,h1,hj⟩:=bS hj
  obtain ⟨⟨j2,k2⟩,h2,hj⟩:=bS hj
  refine ⟨τ,rfl,hF,by rw [h1]; rfl,?_⟩
  simp only [tv,ev,evBo] at h ⊢
  cases q:ev x (dτ τ) with
  | ok d =>
   rw [q] at h
   simp only [Res.bind_ok] at h ⊢
   cases d <;> simp only [Res.bind_bad] at h
   all_goals first | exact nE h | skip
   rename_i c
   show ∀ H',Same H H'->if c=k0 then _ else _
   intro H' s
   by_cases z:c=k0
   ·rw [if_pos z] at h ⊢
    refine ⟨τ,rfl,hF.same s,by simp only [jk,jks]; rw [h2]; rfl,?_⟩
    simp only [tv,ev]
    exact h.mono s fun b _ hb H2 s2=>hb H2 (s.trans s2)
   ·rw [if_neg z] at h ⊢
    exact h H' s
  | exc c=>rw [q] at h; exact h
  | bad=>rw [q] at h; exact h
 have mon:∀ (σ:St) (H:Hp) (A B:Bool->Hp->Prop),(∀ v H,A v H->B v H)->lT p EX tn x σ H A->lT p EX tn x σ H B:=by
  rintro σ H A B m ⟨τ,e,hF,hj,h⟩
  exact ⟨τ,e,hF,hj,h.mono (Same.refl _) fun b _ hb H' s=>m _ _ (hb H' s)⟩
 cases k0 with
 | true=>exact fun wh pins s σ H Q I h=>Pn ha hb wh pins s σ H Q I (mon _ _ _ _ (fun c H1 h=>by cases c <;> simpa using h) (key σ H Q h))
 | false=>exact fun wh pins s σ H Q I h=>Q9 ha hb wh pins s σ H Q I (mon _ _ _ _ (fun c H1 h=>by cases c <;> simpa using h) (key σ H Q h))
end
section
variable {p:Px} {EX:EXT} {tn:List Nat} {X:Cx} {pos:Pos}
theorem HQ (n:Nat) (i:Int):L2.ixN n i=ixN n i:=rfl
theorem J9 {ts:List T} {i:Int} {σ:St} {H:Hp} {Kc:D->Prop} (h:Lg p EX σ (atD (T.dats ts) i) H Kc):∃ t ∈ ts,atI (ts.map T.val) i=some t.val/\Kc t.dat:=by
 unfold atD at h
 rw [Ae] at h
 cases q:ixN ts.length i with
 | none=>rw [q] at h; exact nE h
 | some j =>
  rw [q] at h
  simp only [aaM] at h
  rw [T.dats_map,aal] at h
  cases e:ts[j]? with
  | none=>rw [e] at h; exact nE h
  | some t =>
   rw [e] at h
   refine ⟨t,aaf e,?_,h⟩
   unfold atI
   rw [aab,HQ,q]
   show (ts.map T.val)[j]?=_
   rw [aal,e]; rfl
theorem Rs.sub {B:Addr->Prop} {H H1:Hp} {j k j':Nat} {t u:T} (r:Rs p B H H1 j k t) (ok:u.Ok p H1) (h:∀ a ∈ u.rest j',a ∈ t.rest j):Rs p B H H1 j' 0 u :=
 ⟨r.same,ok,fun a m=>r.src a (h a m),by rw [T.adr_zero]; simp,T.nd_zero u⟩
noncomputable def Bt:Expr->Bool
 | .Slice _ _ _ _=>false
 | _=>true
theorem E6 {b:Expr} (h:Bt b=true):Jb b:=by
 intro o i
 cases b <;> first | rfl | cases h
theorem Qn (hK:X.K=p.K):IxR X (fun x y H Q=>PV X.K x y H Q\/PX X.K x y H Q):=GL.or K6
theorem Qo (hK:X.K=p.K) {a b:Expr} {x y:E} (ha:PE X a (lE p EX tn x)) (hb:PE X b (lE p EX tn y)) (hp:Bt b=true):PE X (.Subscript a b pos) (lE p EX tn (.ix x y)):=by
 refine PE.mono (JU (Qn hK) ha hb (E6 hp)) fun σ H Q h=>?_
 obtain ⟨τ,rfl,hF,j,k,hj,h⟩:=h
 simp only [jk] at hj
 obtain ⟨⟨j1,k1⟩,h1,hj⟩:=bS hj
 obtain ⟨⟨j2,k2⟩,h2,hj⟩:=bS hj
 obtain ⟨hc,e⟩:=Db hj
 cases e
 have hc:=of_decide_eq_true hc
 subst hc
 simp only [ev] at h
 refine l1 hF h1 h fun d t H1 ht R h=>l2 hF R.same h2 h fun d' t' H2 ht' R' h=>?_
 subst ht ht'
 have R:=R.fwd R'.same
 cases t <;> cases t' <;> simp only [T.dat,ixD] at h
 all_goals first | exact nE h | skip
 ·obtain ⟨u,hu,e,h⟩:=J9 h
  exact .inr ⟨_,_,_,_,rfl,rfl,SqT.of R.ok.1,e,h u H2 rfl (R.sub (T.oks_iff.mp R.ok.2 u hu) fun b m=>T.mem_rests.mpr ⟨u,hu,m⟩)⟩
 ·obtain ⟨u,hu,e,h⟩:=J9 h
  exact .inl ⟨_,_,_,_,rfl,rfl,.inl R.ok.1,e,h u H2 rfl (R.sub (T.oks_iff.mp R.ok.2 u hu) fun b m=>aaa _ (T.mem_rests.mpr ⟨u,hu,m⟩))⟩
theorem Ov {a b:Expr} {x y:E} (ha:PE X a (lE p EX tn x)) (hb:PE X b (lE p EX tn y)) (hp:Bt b=true):PE X (.Subscript a b pos) (lE p EX tn (.ixL x y)):=by
 refine PE.mono (JU GL ha hb (E6 hp)) fun σ H Q h=>?_
 obtain ⟨τ,rfl,hF,j,k,hj,h⟩:=h
 simp only [jk] at hj
 obtain ⟨⟨j1,k1⟩,h1,hj⟩:=bS hj
 obtain ⟨⟨j2,k2⟩,h2,hj⟩:=bS hj
 have hj:=Option.some.inj hj
 simp only [Prod.mk.injEq] at hj
 obtain ⟨rfl,rfl⟩:=hj
 simp only [ev] at h
 refine l1 hF h1 h fun d t H1 ht R h=>l2 hF R.same h2 h fun d' t' H2 ht' R' h=>?_
 subst ht ht'
 have R:=R.fwd R'.same
 cases t <;> cases t' <;> simp only [T.dat,CB] at h
 all_goals first | exact nE h | skip
 obtain ⟨u,hu,e,h⟩:=J9 h
 refine ⟨_,_,_,_,rfl,rfl,.inl R.ok.1,e,h u H2 rfl (R.sub (T.oks_iff.mp R.ok.2 u hu) fun b m=>?_)⟩
 cases j1 with
 | zero=>exact aaa _ (T.mem_rests.mpr ⟨u,hu,m⟩)
 | succ j1=>exact T.mem_rests.mpr ⟨u,hu,m⟩
theorem Go (n d:Nat) (o:Option Int):HT.sIx n d o=sIx n d o:=by
 cases o with
 | none=>rfl
 | some v=>exact Int.ofNat_inj.mp (by rw [<- HT.clip_eq v n d]; unfold sIx; simp only; split <;> omega)
theorem Jj {α β:Type} (f:α->β) (xs:List α) (lo hi:Option Int):(cut xs lo hi).map f=cut (xs.map f) lo hi:=by
 unfold cut; rw [abP,abQ,aab]
theorem Jk (ts:List T) (lo hi:Option Int):EW (ts.map T.val) lo hi=(cut ts lo hi).map T.val:=by
 unfold EW cut
 rw [abP,abQ,aab,Go,Go]
theorem FE {α:Type} {xs:List α} {lo hi:Option Int} {x:α} (h:x ∈ cut xs lo hi):x ∈ xs:=aa7 (aa8 h)
noncomputable def lO (p:Px) (EX:EXT) (tn:List Nat) (e:E):TO:=fun σ H Q=>∃ τ,σ=vτ τ/\Fok p tn τ H/\(jk tn e).isSome=true/\Lg p EX σ (Ck e.isCN (ev e (dτ τ))) H fun o=>∀ H',Same H H'->Q o H'
theorem Hb:PO X none (lO p EX tn .cN):=by
 intro pins s σ H Q I h
 obtain ⟨τ,rfl,hF,hj,h⟩:=h
 exact N2 pins s _ H Q I (h H (Same.refl _))
theorem Hc {e:Expr} {x:E} (he:PE X e (lE p EX tn x)) (hx:x.isCN=false):PO X (some e) (lO p EX tn x):=by
 intro pins s σ H Q I h
 obtain ⟨τ,rfl,hF,hj,h⟩:=h
 obtain ⟨⟨j,k⟩,hj⟩:=aax.mp hj
 unfold Ck at h
 rw [hx,if_neg (by decide)] at h
 refine N3 he pins s _ H Q I (l1 hF hj h fun d t H1 ht R h=>?_)
 subst ht
 cases t <;> simp only [T.dat,C9] at h
 all_goals first | exact nE h | exact ⟨_,rfl,h H1 R.same⟩
theorem Jl:∀ {ts:List T},(T.dats ts).all D.scal=true->∀ t ∈ ts,t.sc=true
 | [],_,t,h=>nomatch h
 | u :: r,h,t,ht=>by
  simp only [T.dats,aaB,aaj] at h
  rcases aai.mp ht with rfl | ht
  ·cases t <;> first | rfl | cases h.1
  ·exact Jl h.2 t ht
theorem Ow {t:T} {j:Nat} (h:t.sc=true):t.rest j=[]:=by cases t <;> first | rfl | cases h
theorem Qp {t:T} {j:Nat} (h:t.sc=true):t.adr j=[]:=by cases t <;> first | rfl | cases h
theorem HR {ts:List T} {j:Nat} (h:∀ t ∈ ts,t.sc=true):T.rests ts j=[]:=by
 refine aaK.mpr fun b hb=>?_
 obtain ⟨t,ht,q⟩:=T.mem_rests.mp hb
 rw [Ow (h t ht)] at q; cases q
theorem Jm {ts:List T} {j:Nat} (h:∀ t ∈ ts,t.sc=true):T.adrs ts j=[]:=by
 refine aaK.mpr fun b hb=>?_
 obtain ⟨t,ht,q⟩:=T.mem_adrs.mp hb
 rw [Qp (h t ht)] at q; cases q
theorem MR {B:Addr->Prop} {H H1:Hp} {j k:Nat} {a:Addr} {ts:List T} (s:Same H H1) (ok:(T.tup a ts).Ok p H1) (h:∀ t ∈ ts,t.sc=true):Rs p B H H1 j k (.tup a ts) :=
 ⟨s,ok,by simp only [T.rest]; rw [HR h]; simp,by simp only [T.adr]; rw [Jm h]; simp,by unfold T.Nd; simp only [T.adr,T.rest]; rw [HR h,Jm h]; simp⟩
theorem Ox {a:Expr} {lo hi:Option Expr} {p2:Pos} {x y z:E} (ha:PE X a (lE p EX tn x)) (hl:PO X lo (lO p EX tn y)) (hh:PO X hi (lO p EX tn z)):PE X (.Subscript a (.Slice lo hi none p2) pos) (lE p EX tn (.slc x y z)):=by
 refine PE.mono (My (N4.or PU) ha hl hh) fun σ H Q h=>?_
 obtain ⟨τ,rfl,hF,j,k,hj,h⟩:=h
 simp only [jk] at hj
 obtain ⟨⟨j1,k1⟩,h1,hj⟩:=bS hj
 obtain ⟨q2,h2,hj⟩:=bS hj
 obtain ⟨q3,h3,hj⟩:=bS hj
 obtain ⟨hc,e⟩:=Db hj
 cases e
 have hc:=of_decide_eq_true hc
 simp only [ev] at h
 refine l1 hF h1 h fun d t H1 ht R h=>?_
 subst ht
 refine ⟨τ,rfl,hF.same R.same,by rw [h2]; rfl,h.bind.mono R.same fun l _ h H2 s2=>?_⟩
 refine ⟨τ,rfl,hF.same (R.same.trans s2),by rw [h3]; rfl,h.bind.mono (R.same.trans s2) fun u _ h H3 s3=>?_⟩
 have R:=R.fwd (s2.trans s3)
 cases t with
 | tup b ts =>
  simp only [T.dat,DO] at h
  obtain ⟨⟨g1,g2⟩,h⟩:=h.guard
  refine .inr ⟨b,_,rfl,SqT.of R.ok.1,?_,fun q hq=>?_⟩
  ·rw [aab,Go,Go,<- Ae]; exact g2
  ·rw [Jk]
   have sn:=Same.new (o:=.tup ((cut ts l u).map T.val)) hq
   refine h (.tup q (cut ts l u)) _ (by simp only [T.dat,T.dats_map,Jj]) (MR (R.same.trans sn) ⟨AJ,T.oks_iff.mpr fun w hw=>((T.oks_iff.mp R.ok.2 w (FE hw))).same sn⟩ fun w hw=>Jl g1 w (FE hw))
 | lst b ts =>
  simp only [T.dat,DO] at h
  refine .inl ⟨b,_,rfl,.inl R.ok.1,fun q hq=>?_⟩
  rw [Jk]
  refine h (.lst q (cut ts l u)) _ (by simp only [T.dat,T.dats_map,Jj]) (E4 R.same (T.oks_iff.mpr fun w hw=>T.oks_iff.mp R.ok.2 w (FE hw)) (fun c m=>?_) hq)
  obtain ⟨w,hw,m⟩:=T.mem_rests.mp m
  exact R.elems hc c (T.mem_rests.mpr ⟨w,FE hw,m⟩)
 | _=>exact nE h
end
noncomputable def spF (p:Px) (F:Fn):Sp:=fun vs H Q E=>∃ ts:List T,vs=ts.map T.val/\T.Oks p H ts/\ts.length=F.ar/\match F.den (T.dats ts) with
 | .ok d=>∀ t H',t.dat=d->Rs p (fun a=>a ∈ T.rests ts 0) H H' 0 F.dep t->Q t.val H'
 | .exc c=>p.has c=true->∀ H',Same H H'->E (.ref (p.cl c)) none H'
 | .bad=>False
noncomputable def Ka (p:Px) (X:Cx) (F:Fn):Prop:=∃ ps:List Str,ps.length=F.ar/\Has X.prog X.w X.K X.mg X.base F.name F.lv ps (spF p F)
noncomputable def spM (p:Px) (F:Fn):Sp:=fun vs H Q _=>∃ (t:T) (ts:List T),vs=t.val :: ts.map T.val/\t.Ok p H/\T.Oks p H ts/\ts.length + 1=F.ar/\t.Nd 2/\(∀ b ∈ t.adr 2,(Mu H b)/\b ∉ T.rests ts 0)/\∃ d,F.den (t.dat :: T.dats ts)=.ok d /\
 ∀ (t':T) (H':Hp),t'.dat=d->t'.val=t.val->t'.Ok p H'->t'.Nd 2->(∀ b u,H b=some u->b ∉ t.adr 2->H' b=some u)->(∀ b ∈ t'.adr 2,(b ∈ t.adr 2\/H b=none)/\Mu H' b)->Q .non H'
noncomputable def Qq (p:Px) (X:Cx) (F:Fn):Prop:=∃ ps:List Str,ps.length=F.ar/\Has X.prog X.w X.K X.mg X.base F.name F.lv ps (spM p F)
noncomputable def spN (p:Px) (F:Fn):Sp:=fun vs H Q _=>∃ (ts:List T) (a:Addr) (us:List T),vs=ts.map T.val/\T.Oks p H ts/\ts.length=F.ar/\ts[F.dep - 1000]?=some (.lst a us)/\(∀ (i:Nat) (u:T),i ≠ F.dep - 1000->ts[i]?=some u->a ∉ u.rest 0)/\a ∉ T.rests us 0/\(Mu H a) /\
 ∃ (b:Bool) (ds:List D),F.den (T.dats ts)=.ok (.tup [.bl b,.lst ds])/\∀ (us':List T) (H':Hp),T.dats us'=ds->(T.lst a us').Ok p H'->(Mu H' a)->(∀ c u,H c=some u->c ≠ a->H' c=some u)->Q (.bl b) H'
noncomputable def Qr (p:Px) (X:Cx) (F:Fn):Prop:=∃ ps:List Str,ps.length=F.ar/\Has X.prog X.w X.K X.mg X.base F.name F.lv ps (spN p F)
theorem De:∀ (m:Nat) (t:T) (k:Nat),t.dat.flat m k=true->t.rest k=[]
 | 0,t,k,h=>by simp [D.flat] at h
 | m + 1,t,k,h=>by
  cases t with
  | tup a ts =>
   simp only [T.dat,D.flat] at h
   simp only [T.rest]
   refine aaK.mpr fun b hb=>?_
   obtain ⟨t,ht,q⟩:=T.mem_rests.mp hb
   rw [De m t k (CU h t ht)] at q; cases q
  | lst a ts =>
   cases k with
   | zero=>simp [T.dat,D.flat] at h
   | succ k =>
    simp only [T.dat,D.flat] at h
    simp only [T.rest]
    refine aaK.mpr fun b hb=>?_
    obtain ⟨t,ht,q⟩:=T.mem_rests.mp hb
    rw [De m t k (CU h t ht)] at q; cases q
  | dic a ks ts =>
   cases k with
   | zero=>simp [T.dat,D.flat] at h
   | succ k =>
    simp only [T.dat,D.flat] at h
    simp only [T.rest]
    refine aaK.mpr fun b hb=>?_
    obtain ⟨t,ht,q⟩:=T.mem_rests.mp hb
    rw [De m t k (CU h t ht)] at q; cases q
  | dit a ks ts =>
   cases k with
   | zero=>simp [T.dat,D.flat] at h
   | succ k =>
    simp only [T.dat,D.flat] at h
    simp only [T.rest]
    refine aaK.mpr fun b hb=>?_
    obtain ⟨t,ht,q⟩:=T.mem_rests.mp hb
    rw [De m t k (CU h t ht)] at q; cases q
  | _=>rfl
noncomputable def As:Expr->Bool
 | .Starred _ _=>false
 | _=>true
theorem An {e:Expr} {es:List Expr} {env:Env} (h:As e=true):starEach (e :: es) env=(false,eval e env) :: starEach es env:=by
 cases e <;> first | rfl | cases h
theorem AK {pos:Pos} {env:Env}:∀ {es:List Expr},es.all As=true->(backTo pos (starEach es env)).any (·.1)=false
 | [],_=>rfl
 | e :: es,h=>by
  rw [aaB,aaj] at h
  rw [An h.1]
  have ih:=AK (pos:=pos) (env:=env) h.2
  unfold backTo at ih ⊢
  rw [aaA,abn,ih]; rfl
section
variable {p:Px} {EX:EXT} {tn:List Nat} {X:Cx} {pos np:Pos}
theorem MS {F:Fn} {e:Expr} {es:List Expr} {x:E} {xs:Es} (hx:DM (CXe X.prog X.w) X EX) (hF:Ka p X F) (hr:Room F.lv X.A) (hg:Gl X F.name) (hdb:(F.name==("__debug__" : Str))=false) (ha:PA X (e :: es) (lEs p EX tn (.cons x xs))) (hst:(e :: es).all As=true) (hl:(Es.cons x xs).len=F.ar) :
  PE X (.Call (.Name F.name np) (e :: es) [] pos) (lE p EX tn (.call F (.cons x xs))):=by
 obtain ⟨ps,hps,hF⟩:=hF
 rw [aaB,aaj] at hst
 refine PE.mono (NF hF hr hg hx ha hdb (An hst.1) (AK hst.2)) fun σ H Q h=>?_
 obtain ⟨τ,rfl,hFr,j,k,hj,h⟩:=h
 simp only [jk] at hj
 obtain ⟨⟨j1,k1⟩,h1,hj⟩:=bS hj
 obtain ⟨hc,e⟩:=Db hj
 cases e
 have hc:j1=0:=of_decide_eq_true hc
 subst hc
 simp only [ev] at h
 refine ⟨τ,rfl,hFr,0,k1,h1,h.bind.mono (Same.refl _) fun ds e hd ts H1 hts R=>?_⟩
 show spF p F (ts.map T.val ++ []) H1 Q (EX (vτ τ))
 rw [aaU]
 refine ⟨ts,rfl,R.ok,?_,?_⟩
 ·rw [<- Ae,hts,B5 _ _ _ e,hl]
 ·rw [hts]
  cases q:F.den ds with
  | ok d =>
   rw [q] at hd
   intro t H' ht R'
   refine hd t H' ht ⟨R.same.trans R'.same,R'.ok,fun a m=>?_,fun a m=>⟨R.same.free (R'.new a m).1,(R'.new a m).2⟩,R'.nd⟩
   rcases R'.src a m with z | z
   ·exact .inl (R.same.free z)
   ·exact R.src a z
  | exc c =>
   rw [q] at hd
   exact fun hc H' s=>hd hc H' (R.same.trans s)
  | bad=>rw [q] at hd; exact hd
theorem T.adr_rest:∀ (t:T) {d K:Nat},t.rest d=[]->d<=K->t.adr K=t.adr d:=by
 have lists:∀ (ts:List T),(∀ t ∈ ts,∀ {d K:Nat},t.rest d=[]->d<=K->t.adr K=t.adr d)->∀ {d K:Nat},T.rests ts d=[]->d<=K->T.adrs ts K=T.adrs ts d:=by
  intro ts
  induction ts with
  | nil=>intro _ d K _ _; rfl
  | cons t r ih =>
   intro h d K hr hk
   simp only [T.rests,List.append_eq_nil_iff] at hr
   show t.adr K ++ T.adrs r K=t.adr d ++ T.adrs r d
   rw [h t (aac ..) hr.1 hk,ih (fun u hu=>h u (aaa _ hu)) hr.2 hk]
 refine T.ind (by intros; rfl) (by intros; rfl) (by intros; rfl) (by intros; rfl) (fun a ts ih d K h hk=>?_) (fun a ts ih d K h hk=>?_) (by intros; rfl) (fun a ks ts ih d K h hk=>?_) (fun a ks ts ih d K h hk=>?_)
 ·exact lists ts ih h hk
 ·cases d with
  | zero=>cases h
  | succ d =>
   cases K with
   | zero=>omega
   | succ K=>exact congrArg (a :: ·) (lists ts ih h (aaR hk))
 ·cases d with
  | zero=>cases h
  | succ d =>
   cases K with
   | zero=>omega
   | succ K=>exact congrArg (a :: ·) (lists ts ih h (aaR hk))
 ·cases d with
  | zero=>cases h
  | succ d =>
   cases K with
   | zero=>omega
   | succ K=>exact congrArg (a :: ·) (lists ts ih h (aaR hk))
theorem Lr {F:Fn} {e:Expr} {es:List Expr} {x:E} {xs:Es} (hx:DM (CXe X.prog X.w) X EX) (hF:Ka p X F) (hr:Room F.lv X.A) (hg:Gl X F.name) (hdb:(F.name==("__debug__" : Str))=false) (ha:PA X (e :: es) (lEs p EX tn (.cons x xs))) (hst:(e :: es).all As=true) (hl:(Es.cons x xs).len=F.ar) :
  PE X (.Call (.Name F.name np) (e :: es) [] pos) (lE p EX tn (.callB F (.cons x xs))):=by
 obtain ⟨ps,hps,hF⟩:=hF
 rw [aaB,aaj] at hst
 refine PE.mono (NF hF hr hg hx ha hdb (An hst.1) (AK hst.2)) fun σ H Q h=>?_
 obtain ⟨τ,rfl,hFr,j,k,hj,h⟩:=h
 simp only [jk] at hj
 obtain ⟨⟨j1,k1⟩,h1,hj⟩:=bS hj
 have hj:=Option.some.inj hj
 simp only [Prod.mk.injEq] at hj
 obtain ⟨rfl,rfl⟩:=hj
 simp only [ev] at h
 refine ⟨τ,rfl,hFr,j1,k1,h1,h.bind.mono (Same.refl _) fun ds e hd ts H1 hts R=>?_⟩
 show spF p F (ts.map T.val ++ []) H1 Q (EX (vτ τ))
 rw [aaU]
 refine ⟨ts,rfl,R.ok,?_,?_⟩
 ·rw [<- Ae,hts,B5 _ _ _ e,hl]
 ·rw [hts]
  cases q:F.den ds with
  | ok d =>
   rw [q] at hd
   obtain ⟨hf,hd⟩:=Lg.guard hd
   intro t H' ht R'
   subst ht
   have r0:=De 9 t F.dep hf
   have up:∀ a,a ∈ t.rest 0->a ∈ t.adr F.dep:=fun a m=>by
    rcases (T.all_iff t F.dep).mp m with z | z
    ·exact z
    ·rw [r0] at z; cases z
   refine hd t H' rfl ⟨R.same.trans R'.same,R'.ok,fun a m=>.inl (R.same.free (R'.new a (up a m)).1),fun a m=>?_,?_⟩
   ·have:=R'.new a (up a ((T.all_iff t 9).mpr (.inl m)))
    exact ⟨R.same.free this.1,this.2⟩
   ·by_cases c9:9<=F.dep
    ·exact T.nd_le t c9 R'.nd
    ·have e9:=T.adr_rest t r0 (show F.dep<=9 by omega)
     refine ⟨by rw [e9]; exact R'.nd.1,fun a m _=>?_⟩
     have:=T.rest_le t (show F.dep<=9 by omega) m
     rw [r0] at this; cases this
  | exc c =>
   rw [q] at hd
   exact fun hc H' s=>hd hc H' (R.same.trans s)
  | bad=>rw [q] at hd; exact hd
theorem Cv {b:Bi} {e:Expr} {es:List Expr} {x:E} {xs:Es} {ex:Expr} {r:List V->Hp->VK->Prop} (hp:PE X ex (tCB r (lEs p EX tn (.cons x xs))))
  (hr:∀ (B:Addr->Prop) (H H1:Hp) (j1 k1 j k:Nat) (ts:List T) (σ:St) (Q:VK),RsL p B H H1 j1 k1 ts->(match b with | .list=>gj (decide (j1=0)) (0,1) | .tuple=>gj (decide (j1=0)) (0,0) | .tupleL=>gj (decide (j1<=1)) (0,0) | _=>some (0,9))=some (j,k) ->
   Lg p EX σ (biD b (T.dats ts)) H (KE p B H j k Q)->r (ts.map T.val) H1 Q):PE X ex (lE p EX tn (.bi b (.cons x xs))):=by
 refine PE.mono hp fun σ H Q h=>?_
 obtain ⟨τ,rfl,hFr,j,k,hj,h⟩:=h
 simp only [jk] at hj
 obtain ⟨⟨j1,k1⟩,h1,hj⟩:=bS hj
 simp only [ev] at h
 refine ⟨τ,rfl,hFr,j1,k1,h1,h.bind.mono (Same.refl _) fun ds e hd ts H1 hts R=>?_⟩
 subst hts
 exact hr (Sh tn τ) H H1 j1 k1 j k ts _ Q R hj hd
theorem Jn {B:Addr->Prop} {H H1:Hp} {a:Addr} {ts:List T} (s:Same H H1) (ok:T.Oks p H1 ts) (src:∀ b ∈ T.rests ts 0,H b=none\/B b) (hn:H1 a=none):Rs p B H (L2.upd H1 a (.tup (ts.map T.val))) 0 0 (.tup a ts) :=
 Lk ⟨s,ok,src,by rw [T.adrs_zero]; simp,T.nds_zero ts⟩ hn
theorem E7:∀ {ts:List T} {bs:List Bool},B4 (T.dats ts)=some bs->ts.map T.val=bs.map V.bl
 | [],bs,h=>by simp [T.dats,B4] at h; subst h; rfl
 | t :: r,bs,h=>by
  cases t <;> simp only [T.dats,T.dat,B4] at h
  all_goals first | cases h | skip
  obtain ⟨bs',h1,rfl⟩:=aar.mp h
  simp [T.val,E7 h1]
theorem FN:∀ {ts:List T} {bs:List Int},CF (T.dats ts)=some bs->ts.map T.val=bs.map V.int
 | [],bs,h=>by simp [T.dats,CF] at h; subst h; rfl
 | t :: r,bs,h=>by
  cases t <;> simp only [T.dats,T.dat,CF] at h
  all_goals first | cases h | skip
  obtain ⟨bs',h1,rfl⟩:=aar.mp h
  simp [T.val,FN h1]
section
variable {e:Expr} {es:List Expr} {x:E} {xs:Es} (hg:∀ y:Str,y ∈ (["len", "min", "max", "abs", "int", "list", "tuple", "all", "any", "sum", "sorted", "isinstance", "str", "range", "enumerate", "zip", "reversed"]:List Str)->X.mg y=none)
 (ha:PA X (e :: es) (lEs p EX tn (.cons x xs))) (hst:(e :: es).all As=true)
include hg ha hst
theorem Oy (hgl:Gl X "len"):PE X (.Call (.Name "len" np) (e :: es) [] pos) (lE p EX tn (.bi .len (.cons x xs))):=by
 rw [aaB,aaj] at hst
 refine Cv (es:=es) (e:=e) (CS HF hgl (hg _ (by simp)) PySem.boot_len ha (by decide) (by decide) (An hst.1) (AK hst.2)) fun B H H1 j1 k1 j k ts σ Q R hj h=>?_
 rcases ts with _ | ⟨t,_ | ⟨u,r⟩⟩
 ·exact nE h
 ·cases t with
  | lst a us=>exact ⟨a,_,rfl,.inl (.inl R.ok.1.1),by have:=h (.int _) H1 rfl (Rs.scal R.same rfl); rw [Ae,<- aab (f:=T.val)] at this; exact this⟩
  | tup a us=>exact ⟨a,_,rfl,.inr (SqT.of R.ok.1.1),by have:=h (.int _) H1 rfl (Rs.scal R.same rfl); rw [Ae,<- aab (f:=T.val)] at this; exact this⟩
  | _=>exact nE h
 ·exact nE h
theorem Oz (hgl:Gl X "int"):PE X (.Call (.Name "int" np) (e :: es) [] pos) (lE p EX tn (.bi .int (.cons x xs))):=by
 rw [aaB,aaj] at hst
 refine Cv (es:=es) (e:=e) (D3 K0 hgl (hg _ (by simp)) (by decide +kernel) ha (by decide) (by decide) (An hst.1) (AK hst.2)) fun B H H1 j1 k1 j k ts σ Q R hj h=>?_
 rcases ts with _ | ⟨t,_ | ⟨u,r⟩⟩
 ·exact nE h
 ·cases t with
  | int i=>exact .inl ⟨i,rfl,h (.int _) H1 rfl (Rs.scal R.same rfl)⟩
  | bl b=>exact .inr ⟨b,rfl,h (.int _) H1 rfl (Rs.scal R.same rfl)⟩
  | _=>exact nE h
 ·exact nE h
theorem MT (hgl:Gl X "list"):PE X (.Call (.Name "list" np) (e :: es) [] pos) (lE p EX tn (.bi .list (.cons x xs))):=by
 rw [aaB,aaj] at hst
 refine Cv (es:=es) (e:=e) (D3 HG hgl (hg _ (by simp)) (by decide +kernel) ha (by decide) (by decide) (An hst.1) (AK hst.2)) fun B H H1 j1 k1 j k ts σ Q R hj h=>?_
 obtain ⟨hc,ej⟩:=Db hj
 cases ej
 have hc:j1=0:=of_decide_eq_true hc
 subst hc
 rcases ts with _ | ⟨t,_ | ⟨u,r⟩⟩
 ·exact nE h
 ·cases t with
  | lst a us=>exact ⟨a,_,rfl,.inl (.inl R.ok.1.1),fun l hl=>h (.lst l us) _ rfl (E4 R.same R.ok.1.2 (fun c m=>R.src c (by simp [T.rests,T.rest,m])) hl)⟩
  | tup a us=>exact ⟨a,_,rfl,.inr (SqT.of R.ok.1.1),fun l hl=>h (.lst l us) _ rfl (E4 R.same R.ok.1.2 (fun c m=>R.src c (by simp [T.rests,T.rest,m])) hl)⟩
  | _=>exact nE h
 ·exact nE h
theorem Ls (hgl:Gl X "tuple"):PE X (.Call (.Name "tuple" np) (e :: es) [] pos) (lE p EX tn (.bi .tuple (.cons x xs))):=by
 rw [aaB,aaj] at hst
 refine Cv (es:=es) (e:=e) (D3 EU hgl (hg _ (by simp)) (by decide +kernel) ha (by decide) (by decide) (An hst.1) (AK hst.2)) fun B H H1 j1 k1 j k ts σ Q R hj h=>?_
 obtain ⟨hc,ej⟩:=Db hj
 cases ej
 have hc:j1=0:=of_decide_eq_true hc
 subst hc
 rcases ts with _ | ⟨t,_ | ⟨u,r⟩⟩
 ·exact nE h
 ·cases t with
  | lst a us=>exact ⟨a,_,rfl,.inl ⟨.inl R.ok.1.1,fun l hl=>h (.tup l us) _ rfl (Jn R.same R.ok.1.2 (fun c m=>R.src c (by simp [T.rests,T.rest,m])) hl)⟩⟩
  | tup a us=>exact ⟨a,_,rfl,.inr ⟨SqT.of R.ok.1.1,h (.tup a us) _ rfl ⟨R.same,R.ok.1,fun c m=>R.src c (by simpa [T.rests] using m),by rw [T.adr_zero]; simp,T.nd_zero _⟩⟩⟩
  | _=>exact nE h
 ·exact nE h
theorem Kb (hgl:Gl X "tuple"):PE X (.Call (.Name "tuple" np) (e :: es) [] pos) (lE p EX tn (.bi .tupleL (.cons x xs))):=by
 rw [aaB,aaj] at hst
 refine Cv (es:=es) (e:=e) (D3 EU hgl (hg _ (by simp)) (by decide +kernel) ha (by decide) (by decide) (An hst.1) (AK hst.2)) fun B H H1 j1 k1 j k ts σ Q R hj h=>?_
 obtain ⟨hc,ej⟩:=Db hj
 cases ej
 have hc:j1<=1:=of_decide_eq_true hc
 rcases ts with _ | ⟨t,_ | ⟨u,r⟩⟩
 ·exact nE h
 ·cases t with
  | lst a us=>exact ⟨a,_,rfl,.inl ⟨.inl R.ok.1.1,fun l hl=>h (.tup l us) _ rfl (Jn R.same R.ok.1.2 (fun c m=>R.src c (by
    simp only [T.rests,aaU]
    exact T.rest_le (.lst a us) hc (j':=1) m)) hl)⟩⟩
  | _=>exact nE h
 ·exact nE h
theorem OA (hcm:X.calm=true) (hgl:Gl X "all"):PE X (.Call (.Name "all" np) (e :: es) [] pos) (lE p EX tn (.bi .all (.cons x xs))):=by
 rw [aaB,aaj] at hst
 refine Cv (es:=es) (e:=e) (CS (Lf hcm) hgl (hg _ (by simp)) (by decide +kernel) ha (by decide) (by decide) (An hst.1) (AK hst.2)) fun B H H1 j1 k1 j k ts σ Q R hj h=>?_
 rcases ts with _ | ⟨t,_ | ⟨u,r⟩⟩
 ·exact nE h
 ·cases t with
  | lst a us =>
   have h:Lg p EX σ ((DP (B4 (T.dats us))).bind _) H (KE p B H j k Q):=h
   cases q:B4 (T.dats us) with
   | none=>rw [q] at h; exact nE h
   | some bs =>
    rw [q] at h
    exact ⟨a,bs,rfl,.inl (E7 q ▸ R.ok.1.1),h (.bl _) H1 rfl (Rs.scal R.same rfl)⟩
  | _=>exact nE h
 ·exact nE h
end
end
section
variable {p:Px} {EX:EXT} {tn:List Nat} {X:Cx} {pos np:Pos}
theorem Ke {ns:List Int} {its:List Value} (h:Vals (ns.map V.int) its):∃ xs:Array (Int × Tok),its.toArray=intItems xs/\ns=xs.toList.map (·.1):=by
 have hi:=JT h
 obtain ⟨xs,hx⟩:=hi.allInts.items
 refine ⟨xs,hx,?_⟩
 rw [<- nums_intItems,<- hx,<- hi.numsOf]
noncomputable def Ry:List V->Hp->VK->Prop:=fun xs H Q=>∃ (l:Addr) (ns:List Int) (M:Int),xs=[.ref l]/\Rd H l (.lst (ns.map V.int))/\ns.max?=some M/\Q (.int M) H
theorem Lu (hc:X.calm=true):CA X (.builtin "max") Ry:=by
 intro pins s σ H xs us Q I r h
 obtain ⟨l,ns,M,rfl,hS,hM,q⟩:=h
 obtain ⟨u,rfl,ru⟩:=EC r
 cases (show u=Value.ref l from ru)
 obtain ⟨its,rr,pl,_⟩:=I.list (.inl hS)
 obtain ⟨xs,hx,rfl⟩:=Ke rr
 have hl:=pl.isList
 rw [hx] at hl
 have hne:0 < xs.size:=by
  rcases act xs.size with z | z
  ·have:xs.toList=[]:=abW (by simpa using z)
   rw [this] at hM; cases hM
  ·exact z
 refine max_intList (I.ok.hd hc) hl hne fun v h' tk hv hk=>?_
 obtain ⟨t,rfl⟩:=intItems_at hv
 obtain ⟨h1,h2⟩:=argBest_gt (numAt xs) (xs.size - 1)
 have e:M=numAt xs (argBest (fun i j=>decide (numAt xs i > numAt xs j)) (xs.size - 1)):=by
  have:(xs.toList.map (·.1)).max?=some (numAt xs (argBest (fun i j=>decide (numAt xs i > numAt xs j)) (xs.size - 1))):=by
   refine List.max?_eq_some_iff.mpr ⟨?_,fun a ha=>?_⟩
   ·rw [numAt_eq]; exact getD_mem (by rw [aab,Array.length_toList]; omega)
   ·obtain ⟨j,hj,rfl⟩:=mem_getD ha
    rw [aab,Array.length_toList] at hj
    rw [<- numAt_eq]; exact h2 j (by omega)
  exact Option.some.inj (hM.symm.trans this)
 exact ⟨.int M,H,I.kept (t':=tk) hk,⟨t,by rw [e]⟩,q⟩
section
variable {e:Expr} {es:List Expr} {x:E} {xs:Es} (hg:∀ y:Str,y ∈ (["len", "min", "max", "abs", "int", "list", "tuple", "all", "any", "sum", "sorted", "isinstance", "str", "range", "enumerate", "zip", "reversed"]:List Str)->X.mg y=none)
 (ha:PA X (e :: es) (lEs p EX tn (.cons x xs))) (hst:(e :: es).all As=true)
include hg ha hst
theorem MU (hcm:X.calm=true) (hgl:Gl X "max"):PE X (.Call (.Name "max" np) (e :: es) [] pos) (lE p EX tn (.bi .maxL (.cons x xs))):=by
 rw [aaB,aaj] at hst
 refine Cv (es:=es) (e:=e) (CS (Lu hcm) hgl (hg _ (by simp)) (by decide +kernel) ha (by decide) (by decide) (An hst.1) (AK hst.2)) fun B H H1 j1 k1 j k ts σ Q R hj h=>?_
 rcases ts with _ | ⟨t,_ | ⟨u,r⟩⟩
 ·exact nE h
 ·cases t with
  | lst a us =>
   have h:Lg p EX σ ((DP (CF (T.dats us))).bind fun ns=>(DP ns.max?).bind fun n=>.ok (.int n)) H (KE p B H j k Q):=h
   cases q:CF (T.dats us) with
   | none=>rw [q] at h; exact nE h
   | some ns =>
    rw [q] at h
    have h:Lg p EX σ ((DP ns.max?).bind fun n=>.ok (.int n)) H (KE p B H j k Q):=h
    cases q2:ns.max? with
    | none=>rw [q2] at h; exact nE h
    | some M =>
     rw [q2] at h
     exact ⟨a,ns,M,rfl,FN q ▸ R.ok.1.1,q2,h (.int _) H1 rfl (Rs.scal R.same rfl)⟩
  | _=>exact nE h
 ·exact nE h
theorem OB (hcm:X.calm=true) (hgl:Gl X "min"):PE X (.Call (.Name "min" np) (e :: es) [] pos) (lE p EX tn (.bi .min (.cons x xs))):=by
 rw [aaB,aaj] at hst
 refine Cv (es:=es) (e:=e) (CS (KZ hcm) hgl (hg _ (by simp)) (by decide +kernel) ha (by decide) (by decide) (An hst.1) (AK hst.2)) fun B H H1 j1 k1 j k ts σ Q R hj h=>?_
 rcases ts with _ | ⟨t,_ | ⟨u,_ | ⟨v,r⟩⟩⟩
 ·exact nE h
 ·exact nE h
 ·obtain ⟨i,m,rfl,rfl,h⟩:=B6 (t:=t) (u:=u) (Q:=fun r=>Lg p EX σ r H (KE p B H j k Q)) id h
  refine ⟨i,m,rfl,?_⟩
  have:=h (.int _) H1 rfl (Rs.scal R.same rfl)
  have e:(if m < i then m else i)=min i m:=by split <;> omega
  rw [e]; exact this
 ·exact nE h
end
end
structure ItOk (p:Px) (B:Addr->Prop) (H H1:Hp) (J:L2.It) (us:List T) (j:Nat) (ds:List D):Prop where
 same:Same H H1
 ok:T.Oks p H1 us
 src:∀ a ∈ T.rests us j,H a=none\/B a
 len:ds.length<=sizeLine
 go:∀ (i:Nat) (H':Hp),T.Oks p H' us->i < ds.length->J.go i H'
 stop:∀ (i:Nat) (H':Hp),T.Oks p H' us->ds.length<=i->J.stop i H'
 yld:∀ (i:Nat) (H':Hp) (v:V) (H'':Hp) (d:D),T.Oks p H' us->ds[i]?=some d->J.yld i H' v H''->Same H' H''/\∃ t:T,t.val=v/\t.dat=d/\t.Ok p H''/\(∀ a ∈ t.rest 0,a ∈ T.rests us 0)/\∀ a ∈ t.rest 0,H a=none\/B a
noncomputable def lI (p:Px) (EX:EXT) (tn:List Nat) (it:It):TI:=fun σ H R=>∃ τ,σ=vτ τ/\Fok p tn τ H/\∃ j,jkI tn it=some j/\Lg p EX σ (evI it (dτ τ)) H fun ds=>∀ J us H1,ItOk p (Sh tn τ) H H1 J us j ds->R J H1
theorem PI.mono {X:Cx} {tg e:Expr} {t t':TI} (h:PI X tg e t) (m:∀ σ H Q,t' σ H Q->t σ H Q):PI X tg e t':=fun pins s σ H Q I q=>h pins s σ H Q I (m _ _ _ q)
section
variable {p:Px} {EX:EXT} {tn:List Nat} {X:Cx} {pos np:Pos} {tg:Expr}
theorem DT {ts:List T} {i:Nat} {d:D} (h:(T.dats ts)[i]?=some d):∃ t,ts[i]?=some t/\t.dat=d:=by
 rw [T.dats_map,aal] at h
 obtain ⟨t,h1,h2⟩:=aar.mp h
 exact ⟨t,h1,h2⟩
theorem E8 (hK:X.K=p.K) {B:Addr->Prop} {H H1:Hp} {j k:Nat} {a:Addr} {ts:List T} (r:Rs p B H H1 j k (.lst a ts)) (hj:j<=1) (hl:ts.length<=sizeLine):ItOk p B H H1 (Itl X.K a) [.lst a ts] j (T.dats ts) where
 same:=r.same
 ok:=⟨r.ok,trivial⟩
 src:=fun b m=>r.src b (by simpa [T.rests] using m)
 len:=by rw [Ae]; exact hl
 go:=fun i H' ok h=>by
  rw [Ae] at h
  exact ⟨_,(ts.map T.val)[i]'(by simpa using h),.inl ok.1.1,by simp [h]⟩
 stop:=fun i H' ok h=>⟨_,.inl ok.1.1,by simpa [Ae] using h⟩
 yld:=fun i H' v H'' d ok h y=>by
  obtain ⟨rfl,y⟩:=y
  obtain ⟨t,ht,e⟩:=DT h
  have:=y _ (.inl ok.1.1)
  rw [aal,ht] at this
  refine ⟨Same.refl _,t,Option.some.inj this,e,T.oks_iff.mp ok.1.2 t (aaf ht),fun b m=>by simp only [T.rests,T.rest,aaU]; exact aaa _ (T.mem_rests.mpr ⟨t,aaf ht,m⟩),fun b m=>r.elems hj b (T.mem_rests.mpr ⟨t,aaf ht,m⟩)⟩
theorem MV {B:Addr->Prop} {H H1:Hp} {k:Nat} {a:Addr} {ts:List T} (r:Rs p B H H1 0 k (.tup a ts)) (hl:ts.length<=sizeLine):ItOk p B H H1 (Itt X.K a) [.tup a ts] 0 (T.dats ts) where
 same:=r.same
 ok:=⟨r.ok,trivial⟩
 src:=fun b m=>r.src b (by simpa [T.rests] using m)
 len:=by rw [Ae]; exact hl
 go:=fun i H' ok h=>by
  rw [Ae] at h
  exact ⟨_,(ts.map T.val)[i]'(by simpa using h),SqT.of ok.1.1,by simp [h]⟩
 stop:=fun i H' ok h=>⟨_,SqT.of ok.1.1,by simpa [Ae] using h⟩
 yld:=fun i H' v H'' d ok h y=>by
  obtain ⟨rfl,y⟩:=y
  obtain ⟨t,ht,e⟩:=DT h
  have:=y _ (SqT.of ok.1.1)
  rw [aal,ht] at this
  refine ⟨Same.refl _,t,Option.some.inj this,e,T.oks_iff.mp ok.1.2 t (aaf ht),fun b m=>by simp only [T.rests,T.rest,aaU]; exact T.mem_rests.mpr ⟨t,aaf ht,m⟩,fun b m=>r.src b (T.mem_rests.mpr ⟨t,aaf ht,m⟩)⟩
noncomputable def Sz (K:Frag) (tl:TE):TI:=fun σ H R=>tl σ H fun x H1=>∃ a,x=.ref a/\((∃ xs,SqL K H1 a xs/\(xs.length<=sizeLine->R (Itl K a) H1))\/(∃ xs,SqT K H1 a xs/\(xs.length<=sizeLine->R (Itt K a) H1)))
theorem HS {l:Expr} {tl:TE} (hl:PE X l tl):PI X tg l (Sz X.K tl):=by
 intro pins s σ H R I h
 refine thn (hl pins s σ H _ I h) fun v s1 ⟨x,H1,I1,r1,q1⟩=>?_
 obtain ⟨a,e,q1⟩:=q1
 subst e
 cases r1
 rcases q1 with ⟨xs,hq,q⟩ | ⟨xs,hq,q⟩
 ·obtain ⟨its,rv,pl,hz⟩:=I1.list hq
  refine wpAny_pyIter_list pl.isList ?_
  refine ⟨s1.heap.objs.size,[s1.heap.objs.size],_,_,H1,rfl,I1.kept (t':=s1.toks) fun b o e=>Heap.get?_push_of_some _ e,KS a _,⟨_,Heap.get?_push_size _ rfl,rfl,rfl⟩,fun b hb=>?_,q hz⟩
  have e:b=s1.heap.objs.size:=by simpa using hb
  subst e
  exact I1.fpOk (aao _) (I1.hok.fresh (aao _))
 ·obtain ⟨its,rv,pl,hz⟩:=I1.tuple hq
  refine wpAny_pyIter_tuple (show s1.heap.IsTuple a its.toArray from pl) ?_
  refine ⟨s1.heap.objs.size,[s1.heap.objs.size],_,_,H1,rfl,I1.kept (t':=s1.toks) fun b o e=>Heap.get?_push_of_some _ e,JL a _,⟨_,Heap.get?_push_size _ rfl,rfl,rfl⟩,fun b hb=>?_,q hz⟩
  have e:b=s1.heap.objs.size:=by simpa using hb
  subst e
  exact I1.fpOk (aao _) (I1.hok.fresh (aao _))
theorem MW (hK:X.K=p.K) {e:Expr} {x:E} (he:PE X e (lE p EX tn x)):PI X tg e (lI p EX tn (.seq x)):=by
 refine PI.mono (HS he) fun σ H R h=>?_
 obtain ⟨τ,rfl,hF,j,hj,h⟩:=h
 simp only [jkI] at hj
 obtain ⟨⟨j1,k1⟩,h1,hj⟩:=bS hj
 split at hj
 ·rename_i z
  cases hj
  have z:j1=0:=z
  subst z
  simp only [evI] at h
  refine l1 hF h1 h fun d t H1 ht r h=>?_
  subst ht
  cases t with
  | lst a ts=>exact ⟨a,rfl,.inl ⟨_,.inl r.ok.1,fun hz=>h _ _ _ (E8 hK r (by omega) (by simpa using hz))⟩⟩
  | tup a ts=>exact ⟨a,rfl,.inr ⟨_,SqT.of r.ok.1,fun hz=>h _ _ _ (MV r (by simpa using hz))⟩⟩
  | _=>exact nE h
 ·cases hj
theorem Lv (hK:X.K=p.K) {e:Expr} {x:E} (he:PE X e (lE p EX tn x)):PI X tg e (lI p EX tn (.seqL x)):=by
 refine PI.mono (HS he) fun σ H R h=>?_
 obtain ⟨τ,rfl,hF,j,hj,h⟩:=h
 simp only [jkI] at hj
 obtain ⟨⟨j1,k1⟩,h1,hj⟩:=bS hj
 split at hj
 ·rename_i z
  cases hj
  simp only [evI] at h
  refine l1 hF h1 h fun d t H1 ht r h=>?_
  subst ht
  cases t with
  | lst a ts=>exact ⟨a,rfl,.inl ⟨_,.inl r.ok.1,fun hz=>h _ _ _ (E8 hK r z (by simpa using hz))⟩⟩
  | _=>exact nE h
 ·cases hj
theorem Kf {B:Addr->Prop} {H H1:Hp} {a b:Int} (s:Same H H1) (hl:(b - a).toNat<=LIM):ItOk p B H H1 (Itr a (b - a).toNat) [] 0 (Ar a b) where
 same:=s
 ok:=trivial
 src:=fun c m=>nomatch m
 len:=by unfold Ar; rw [aab,abM]; exact hl
 go:=fun i H' _ h=>by unfold Ar at h; rw [aab,abM] at h; exact h
 stop:=fun i H' _ h=>by unfold Ar at h; rw [aab,abM] at h; exact h
 yld:=fun i H' v H'' d _ h y=>by
  obtain ⟨rfl,rfl⟩:=y
  unfold Ar at h
  rw [aal] at h
  obtain ⟨n,h1,h2⟩:=aar.mp h
  have:n=i:=by
   obtain ⟨_,e⟩:=aaz.mp h1
   simpa using e.symm
  subst this
  exact ⟨Same.refl _,.int (a + n),rfl,h2,trivial,by simp [T.rest],by simp [T.rest]⟩
theorem MX {i:Int} (h:E3 i=true):-(2 ^ 62)<=i/\i < 2 ^ 62:=by
 unfold E3 at h
 rw [aaj] at h
 exact ⟨of_decide_eq_true h.1,of_decide_eq_true h.2⟩
theorem OC {e:Expr} {x:E} (he:PE X e (lE p EX tn x)) (hst:As e=true) (hg:Gl X "range") (hm:X.mg "range" = none):PI X tg (.Call (.Name "range" np) [e] [] pos) (lI p EX tn (.r1 x)):=by
 refine PI.mono (KU hg hm (Cr he Er (An hst)) (An hst)) fun σ H R h=>?_
 obtain ⟨τ,rfl,hF,j,hj,h⟩:=h
 simp only [jkI] at hj
 obtain ⟨⟨j1,k1⟩,h1,hj⟩:=bS hj
 cases hj
 simp only [evI] at h
 refine l1 hF h1 h fun d t H1 ht r h=>?_
 subst ht
 cases t with
 | int b =>
  obtain ⟨hc,h⟩:=Lg.guard (r:=.ok (Ar 0 b)) h
  rw [aaj,aaj] at hc
  obtain ⟨h3,h4⟩:=MX hc.1.2
  have hl:=of_decide_eq_true hc.2
  have:=h _ _ _ (Kf (p:=p) r.same hl)
  rw [abV] at this
  exact ⟨b,rfl,h3,h4,this⟩
 | _=>exact nE h
theorem Res.bind_assoc {α β γ:Type} (r:Res α) (f:α->Res β) (g:β->Res γ):(r.bind f).bind g=r.bind fun a=>(f a).bind g:=by cases r <;> rfl
end
noncomputable def BL:List Nat->List T->Ft->Option Ft
 | [],[],τ=>some τ
 | i :: is,t :: ts,τ=>BL is ts (τ.set i (some t))
 | _,_,_=>none
noncomputable def Cg:Tg->T->Ft->Option Ft
 | .nm i,t,τ=>some (τ.set i (some t))
 | .tp is,.tup _ ts,τ=>BL is ts τ
 | .tp is,.lst _ ts,τ=>BL is ts τ
 | _,_,_=>none
theorem Cw (τ:Ft) (i:Nat) (t:T):dτ (τ.set i (some t))=(dτ τ).set i (some t.dat):=by unfold dτ; rw [aa9]; rfl
theorem DF (τ:Ft) (i:Nat) (t:T):vτ (τ.set i (some t))=(vτ τ).set i (some t.val):=by unfold vτ; rw [aa9]; rfl
theorem Gp:∀ (is:List Nat) (ts:List T) (τ:Ft),DQ is (T.dats ts) (dτ τ)=(BL is ts τ).map dτ
 | [],[],τ=>rfl
 | [],t :: ts,τ=>rfl
 | i :: is,[],τ=>rfl
 | i :: is,t :: ts,τ=>by simp only [T.dats,DQ,BL]; rw [<- Cw,Gp is ts]
theorem E9 (g:Tg) (t:T) (τ:Ft):Da g t.dat (dτ τ)=(Cg g t τ).map dτ:=by
 cases g with
 | nm i=>simp only [Da,Cg,aa0,Cw]
 | tp is=>cases t <;> first | rfl | exact Gp is _ τ
noncomputable def Ch:List Nat->TGs
 | []=>Pv
 | i :: r=>Nz (D2 i) (Ch r)
noncomputable def lG (K:Frag):Tg->TG
 | .nm i=>D2 i
 | .tp is=>fun v σ H Q=>Pw K is.length (Ch is) v σ H Q\/Qb K is.length (Ch is) v σ H Q
theorem Fa {H:Hp} {Q:L2.St->Hp->Prop}:∀ {is:List Nat} {ts:List T} {τ τ':Ft},BL is ts τ=some τ'->Q (vτ τ') H->Ch is (ts.map T.val) (vτ τ) H Q
 | [],[],τ,τ',h,q=>by cases h; exact ⟨rfl,q⟩
 | [],t :: ts,τ,τ',h,q=>by cases h
 | i :: is,[],τ,τ',h,q=>by cases h
 | i :: is,t :: ts,τ,τ',h,q=>by
  refine ⟨t.val,ts.map T.val,rfl,?_⟩
  show Ch is (ts.map T.val) ((vτ τ).set i (some t.val)) H Q
  rw [<- DF]
  exact Fa (τ:=τ.set i (some t)) h q
theorem Eg:∀ {is:List Nat} {ts:List T} {τ τ':Ft},BL is ts τ=some τ'->ts.length=is.length
 | [],[],τ,τ',h=>rfl
 | [],t :: ts,τ,τ',h=>by cases h
 | i :: is,[],τ,τ',h=>by cases h
 | i :: is,t :: ts,τ,τ',h=>by simp [Eg (is:=is) (ts:=ts) (τ:=τ.set i (some t)) h]
theorem Kg {K:Frag} {p:Px} {H:Hp} {g:Tg} {t:T} {τ τ':Ft} {Q:L2.St->Hp->Prop} (ok:t.Ok p H) (h:Cg g t τ=some τ') (q:Q (vτ τ') H):lG K g t.val (vτ τ) H Q:=by
 cases g with
 | nm i =>
  cases h
  show Q ((vτ τ).set i (some t.val)) H
  rw [<- DF]; exact q
 | tp is =>
  cases t with
  | tup a ts=>exact .inl ⟨a,ts.map T.val,rfl,SqT.of ok.1,by rw [aab]; exact Eg h,Fa h q⟩
  | lst a ts=>exact .inr ⟨a,ts.map T.val,rfl,.inl ok.1,by rw [aab]; exact Eg h,Fa h q⟩
  | _=>cases h
noncomputable def Tg.sl:Tg->List Nat
 | .nm i=>[i]
 | .tp is=>is
theorem Eh {n:Nat} {H:Hp} {Q:L2.St->Hp->Prop}:∀ {is:List Nat} {vs:List V} {σ:L2.St},(∀ i ∈ is,i < n)->Ch is vs σ H Q->Ch is vs σ H fun σ' H'=>Q σ' H'/\σ'.length=σ.length/\∀ i,n<=i->σ'[i]?=σ[i]?
 | [],vs,σ,_,h=>by obtain ⟨e,q⟩:=h; exact ⟨e,q,rfl,fun _ _=>rfl⟩
 | i :: is,vs,σ,hi,h=>by
  obtain ⟨v,r,e,h⟩:=h
  refine ⟨v,r,e,?_⟩
  have h2:=Eh (n:=n) (is:=is) (σ:=σ.set i (some v)) (fun j hj=>hi j (aaa _ hj)) h
  have mono:∀ {is:List Nat} {vs:List V} {σ:L2.St} {H:Hp} {A B:L2.St->Hp->Prop},(∀ s h,A s h->B s h)->Ch is vs σ H A->Ch is vs σ H B:=by
   intro is
   induction is with
   | nil=>intro vs σ H A B m h; exact ⟨h.1,m _ _ h.2⟩
   | cons i is ih =>
    intro vs σ H A B m h
    obtain ⟨v,r,e,h⟩:=h
    exact ⟨v,r,e,ih m h⟩
  refine mono (fun s h q=>⟨q.1,by rw [q.2.1,aaF],fun k hk=>?_⟩) h2
  rw [q.2.2 k hk,aap (by have:=hi i (aac ..); omega)]
theorem Jo {K:Frag} {n:Nat} {g:Tg} (hg:∀ i ∈ g.sl,i < n) {v:V} {σ:L2.St} {H:Hp} {Q:L2.St->Hp->Prop} (h:lG K g v σ H Q):lG K g v σ H fun σ' H'=>Q σ' H'/\σ'.length=σ.length/\∀ i,n<=i->σ'[i]?=σ[i]?:=by
 cases g with
 | nm i=>exact ⟨h,by rw [aaF],fun k hk=>by rw [aap (by have:=hg i (aaG.mpr rfl); omega)]⟩
 | tp is =>
  rcases h with ⟨a,xs,e,s,l,h⟩ | ⟨a,xs,e,s,l,h⟩
  ·exact .inl ⟨a,xs,e,s,l,Eh hg h⟩
  ·exact .inr ⟨a,xs,e,s,l,Eh hg h⟩
theorem Ei {P:Option T->Prop}:∀ {is:List Nat} {ts:List T} {τ τ':Ft},BL is ts τ=some τ'->(∀ t ∈ ts,P (some t))->∀ i o,τ'[i]?=some o->P o\/(i ∉ is/\τ[i]?=some o)
 | [],[],τ,τ',h,_,i,o,e=>by cases h; exact .inr ⟨by simp,e⟩
 | [],t :: ts,τ,τ',h,_,_,_,_=>by cases h
 | i :: is,[],τ,τ',h,_,_,_,_=>by cases h
 | i :: is,t :: ts,τ,τ',h,hp,j,o,e=>by
  rcases Ei (P:=P) (is:=is) (ts:=ts) (τ:=τ.set i (some t)) h (fun u hu=>hp u (aaa _ hu)) j o e with q | ⟨q1,q2⟩
  ·exact .inl q
  ·by_cases z:i=j
   ·subst z
    rw [aba ] at q2
    cases w:τ[i]? with
    | none=>rw [w] at q2; cases q2
    | some x =>
     rw [w] at q2
     have:o=some t:=by simpa using q2.symm
     subst this
     exact .inl (hp t (aac ..))
   ·rw [aap z] at q2
    refine .inr ⟨?_,q2⟩
    intro m
    rcases aai.mp m with rfl | m
    ·exact z rfl
    ·exact q1 m
theorem Gq {P:Option T->Prop} {g:Tg} {t:T} {τ τ':Ft} (h:Cg g t τ=some τ') (hp:P (some t)) (hp':∀ a ts,(t=.tup a ts\/t=.lst a ts)->∀ u ∈ ts,P (some u)) (i:Nat) (o:Option T) (e:τ'[i]?=some o):P o\/(i ∉ g.sl/\τ[i]?=some o):=by
 cases g with
 | nm k =>
  cases h
  by_cases z:k=i
  ·subst z
   rw [aba] at e
   cases w:τ[k]? with
   | none=>rw [w] at e; cases e
   | some x =>
    rw [w] at e
    have:o=some t:=by simpa using e.symm
    subst this; exact .inl hp
  ·rw [aap z] at e
   exact .inr ⟨by simpa [Tg.sl] using fun q=>z q.symm,e⟩
 | tp is =>
  cases t with
  | tup a ts=>exact Ei (P:=P) h (fun u hu=>hp' a ts (.inl rfl) u hu) i o e
  | lst a ts=>exact Ei (P:=P) h (fun u hu=>hp' a ts (.inr rfl) u hu) i o e
  | _=>cases h
theorem Eu:∀ {is:List Nat} {ts:List T} {τ τ':Ft},BL is ts τ=some τ'->τ'.length=τ.length
 | [],[],τ,τ',h=>by cases h; rfl
 | [],t :: ts,τ,τ',h=>by cases h
 | i :: is,[],τ,τ',h=>by cases h
 | i :: is,t :: ts,τ,τ',h=>by rw [Eu (is:=is) (ts:=ts) (τ:=τ.set i (some t)) h,aaF]
theorem Hm {g:Tg} {t:T} {τ τ':Ft} (h:Cg g t τ=some τ'):τ'.length=τ.length:=by
 cases g with
 | nm k=>cases h; rw [aaF]
 | tp is=>cases t <;> first | cases h | exact Eu h
noncomputable def FY (nl:Nat) (fr:List Nat) (τ:Ft):Ft:=aam nl none ++ fr.map fun j=>(τ[j]?).join
theorem OD (nl:Nat) (fr:List Nat) (τ:Ft):dτ (FY nl fr τ)=blk nl fr (dτ τ):=by
 unfold dτ FY blk
 rw [aaq,aa6,aaY]
 congr 1
 refine abe fun j _=>?_
 simp only [Function.comp,aal]
 cases τ[j]? with
 | none=>rfl
 | some o=>rfl
theorem OE (nl:Nat) (fr:List Nat) (τ:Ft):vτ (FY nl fr τ)=A5 nl fr (vτ τ):=by
 unfold vτ FY A5
 rw [aaq,aa6,aaY]
 congr 1
 refine abe fun j _=>?_
 simp only [Function.comp,aal]
 cases τ[j]? with
 | none=>rfl
 | some o=>rfl
noncomputable abbrev tnB (nl:Nat) (fr:List Nat) (tn:List Nat):List Nat:=aam nl 0 ++ fr.map fun j=>tn.getD j 99
theorem Jp {nl:Nat} {fr:List Nat} {tn:List Nat} {τ:Ft} {i:Nat} {t:T} {j:Nat} (h:(FY nl fr τ)[i]?=some (some t)) (hj:(tnB nl fr tn)[i]?=some j) (hlt:j < 90):∃ k:Nat,τ[k]?=some (some t)/\tn[k]?=some j:=by
 unfold FY at h
 unfold tnB at hj
 by_cases hi:i < nl
 ·rw [aaP (by simpa using hi),aaT] at h
  split at h <;> cases h
 ·rw [aaH (by simpa using hi),aa1,aal] at h hj
  obtain ⟨k,e1,e2⟩:=aar.mp h
  rw [e1] at hj
  have e3:tn.getD k 99=j:=by simpa using hj
  refine ⟨k,?_,?_⟩
  ·cases w:τ[k]? with
   | none=>rw [w] at e2; cases e2
   | some o=>rw [w] at e2; exact congrArg some e2
  ·rw [aaw] at e3
   cases w:tn[k]? with
   | none=>rw [w] at e3; simp at e3; omega
   | some x=>rw [w] at e3; exact congrArg some e3
theorem T.nds_append {ts us:List T} {k:Nat} (h1:T.Nds ts k) (h2:T.Nds us k) (c1:∀ a ∈ T.adrs ts k,a ∉ T.rests us 0) (c2:∀ a ∈ T.adrs us k,a ∉ T.rests ts 0):T.Nds (ts ++ us) k:=by
 unfold T.Nds
 rw [T.adrs_append,T.rests_append]
 refine ⟨acw.mpr ⟨h1.1,h2.1,fun a ha b hb e=>?_⟩,fun a ha hb=>?_⟩
 ·subst e; exact c1 a ha ((T.alls_iff us k).mpr (.inl hb))
 ·rcases aae.mp ha with ha | ha <;> rcases aae.mp hb with hb | hb
  ·exact h1.2 a ha hb
  ·exact c2 a hb ((T.alls_iff ts k).mpr (.inr ha))
  ·exact c1 a hb ((T.alls_iff us k).mpr (.inr ha))
  ·exact h2.2 a ha hb
theorem Fb {f:D->Res (Option D)}:∀ (ds:List D) (c:Nat),Bc f ds ≠ .exc c
 | [],c=>by simp [Bc]
 | d :: ds,c=>by
  simp only [Bc]
  cases f d with
  | ok o =>
   simp only
   cases q:Bc f ds with
   | ok r=>simp
   | exc c'=>exact absurd q (Fb ds c')
   | bad=>simp
  | exc c'=>simp
  | bad=>simp
theorem IK {f:D->Res (Option D)} {d:D} {ds r:List D} (h:Bc f (d :: ds)=.ok r):∃ o r',f d=.ok o/\Bc f ds=.ok r'/\r=o.toList ++ r':=by
 simp only [Bc] at h
 cases q:f d with
 | ok o =>
  rw [q] at h
  obtain ⟨r',h1,h2⟩:=Res.bind_eq_ok h
  cases h2
  refine ⟨o,r',rfl,h1,?_⟩
  cases o <;> rfl
 | exc c=>rw [q] at h; cases h
 | bad=>rw [q] at h; cases h
noncomputable abbrev EX0:EXT:=fun _ _ _ _=>False
section
variable {p:Px} {EX:EXT} {tn:List Nat} {X:Cx} {pos np:Pos}
theorem OF {K:Frag} {nl:Nat} {fr:List Nat} {g:Tg} {it:It} {k:Nat} {f:D->Res (Option D)} {tc:TT} {elt:E} {τ:Ft} {H:Hp} {Q:VK} {ji:Nat} (hF:Fok p tn τ H) (hji:jkI tn it=some ji) (hg:∀ i ∈ g.sl,i < nl) (hk:jk (tnB nl fr tn) elt=some (0,k))
  (hf:∀ (d:D) (o:Option D),f d=.ok o->∃ δ',Da g d (blk nl fr (dτ τ))=some δ'/\∀ (τ4:Ft) (H3:Hp) (N:Bool->Hp->Prop),dτ τ4=δ'->Fok p (tnB nl fr tn) τ4 H3 ->
   (∀ b H5,Same H3 H5->(match o with | none=>b=false | some x=>b=true/\ev elt δ'=.ok x)->N b H5)->tc (vτ τ4) H3 N)
  (h:Lg p EX (vτ τ) ((evI it (dτ τ)).bind fun ds=>(Bc f ds).bind fun r=>.ok (.lst r)) H (KE p (Sh tn τ) H 0 (k + 1) Q)) :
  Gk nl fr (lI p EX tn it) (fun _=>lG K g) (fun _=>tc) (fun _=>lE p EX0 (tnB nl fr tn) elt) (vτ τ) H Q:=by
 refine ⟨τ,rfl,hF,ji,hji,h.bind.mono (Same.refl _) fun ds _ hd J us H1 IT=>?_⟩
 cases q:Bc f ds with
 | exc c=>exact absurd q (Fb ds c)
 | bad=>rw [q] at hd; exact nE hd
 | ok r =>
 rw [q] at hd
 have hd:KE p (Sh tn τ) H 0 (k + 1) Q (.lst r):=hd
 intro z D hD
 have hDH:H D=none:=IT.same.free hD
 refine ⟨fun i m acc H2=>m=ds.length - i/\i<=ds.length/\∃ (ts:List T) (r':List Pu.D),acc=ts.map T.val/\Bc f (ds.drop i)=.ok r'/\T.dats ts ++ r'=r/\ts.length<=i/\H2 D=some (.lst acc)/\(∀ a u,a ≠ D->H1 a=some u->H2 a=some u) /\
  T.Oks p H2 ts/\(∀ a ∈ T.rests ts 0,(H a=none\/Sh tn τ a)/\a ≠ D)/\(∀ a ∈ T.adrs ts k,H1 a=none/\Mu H2 a)/\T.Nds ts k,⟨ds.length,by simp,aas _,[],r,rfl,by simpa using q,rfl,aao _,AJ,fun a u n e=>by rw [Al n]; exact e,trivial,by simp [T.rests],by simp [T.adrs],by simp [T.Nds,T.adrs]⟩,?_⟩
 rintro i m acc H2 ⟨rfl,hi,ts,r',rfl,hr,hc,hts,hD2,kp,ok,src,new,nd⟩
 refine ⟨hD2,?_⟩
 have s2:Same H H2:=fun a u e=>kp a u (fun z=>by rw [z,hDH] at e; cases e) (IT.same a u e)
 have usok:T.Oks p H2 us:=T.oks_iff.mpr fun u hu=>(T.oks_iff.mp IT.ok u hu).keep fun a w e _=>kp a w (fun z=>by rw [z,hD] at e; cases e) e
 have out:D ∉ T.rests ts 0:=fun m=>(src D m).2 rfl
 rcases acs i ds.length with hlt | hge
 ·refine .inr ⟨IT.go i H2 usok hlt,fun x H3 y=>?_⟩
  have hdi:ds[i]?=some ds[i]:=aah hlt
  obtain ⟨s3,t,rfl,ht,tok,tus,tsrc⟩:=IT.yld i H2 x H3 ds[i] usok hdi y
  have hdrop:ds.drop i=ds[i] :: ds.drop (i + 1):=abD hlt
  rw [hdrop] at hr
  obtain ⟨o,r'',hfo,hr'',rfl⟩:=IK hr
  obtain ⟨δ',hasg,hev⟩:=hf _ o hfo
  rw [<- ht,<- OD,E9] at hasg
  obtain ⟨τ4,h4,hδ⟩:=aar.mp hasg
  have sH3:Same H H3:=s2.trans s3
  have tusD:∀ a ∈ t.rest 0,a ≠ D:=fun a m z=>by
   obtain ⟨w,hw,m⟩:=T.mem_rests.mp (tus a m)
   exact (T.oks_iff.mp IT.ok w hw).dom m (z ▸ hD)
  have slot:∀ (n:Nat) (w:T),τ4[n]?=some (some w)->(w.Ok p H3/\∀ a ∈ w.rest 0,(H a=none\/Sh tn τ a)/\a ≠ D/\H1 a ≠ none)\/(n ∉ g.sl/\(FY nl fr τ)[n]?=some (some w)):=by
   intro n w e
   refine (Gq (P:=fun o=>∀ w,o=some w->(w.Ok p H3/\∀ a ∈ w.rest 0,(H a=none\/Sh tn τ a)/\a ≠ D/\H1 a ≠ none)) h4 (fun w e=>?_) (fun a ts' e u hu w e'=>?_) n (some w) e).imp (fun q=>q w rfl) id
   ·cases e
    refine ⟨tok,fun a m=>⟨tsrc a m,tusD a m,fun z=>?_⟩⟩
    obtain ⟨w',hw',m'⟩:=T.mem_rests.mp (tus a m)
    exact (T.oks_iff.mp IT.ok w' hw').dom m' z
   ·cases e'
    have sub:∀ b ∈ u.rest 0,b ∈ t.rest 0:=fun b m=>by
     rcases e with rfl | rfl
     ·exact T.mem_rests.mpr ⟨u,hu,m⟩
     ·exact aaa _ (T.mem_rests.mpr ⟨u,hu,m⟩)
    have uok:u.Ok p H3:=by
     rcases e with rfl | rfl
     ·exact T.oks_iff.mp tok.2 u hu
     ·exact T.oks_iff.mp tok.2 u hu
    refine ⟨uok,fun b m=>?_⟩
    have m:=sub b m
    refine ⟨tsrc b m,tusD b m,fun z=>?_⟩
    obtain ⟨w',hw',m'⟩:=T.mem_rests.mp (tus b m)
    exact (T.oks_iff.mp IT.ok w' hw').dom m' z
  have F4:Fok p (tnB nl fr tn) τ4 H3:=fun n w j e ej hj=>by
   rcases slot n w e with q | ⟨_,q⟩
   ·exact q.1
   ·obtain ⟨k',e1,e2⟩:=Jp q ej hj
    exact (hF k' w j e1 e2 hj).same sH3
  have S4:∀ a,Sh (tnB nl fr tn) τ4 a->(H a=none\/Sh tn τ a)/\a ≠ D/\H1 a ≠ none:=by
   rintro a ⟨n,w,j,e,ej,hj,m⟩
   rcases slot n w e with q | ⟨_,q⟩
   ·exact q.2 a (T.rest_le w (aas j) m)
   ·obtain ⟨k',e1,e2⟩:=Jp q ej hj
    have sh:Sh tn τ a:=⟨k',w,j,e1,e2,hj,m⟩
    have hd:=hF.dom sh
    exact ⟨.inr sh,fun z=>hd (z ▸ hDH),fun z=>hd (IT.same.free z)⟩
  rw [<- OE]
  refine Kg tok h4 (hev τ4 H3 _ hδ F4 fun b H5 s5 hb=>?_)
  have s25:Same H2 H5:=s3.trans s5
  cases o with
  | none =>
   subst hb
   rw [if_neg (by decide)]
   refine ⟨ds.length - (i + 1),by omega,rfl,hlt,ts,r'',rfl,hr'',?_,by omega,s25 _ _ hD2,fun a u n e=>s25 _ _ (kp a u n e),ok.same s25,src,fun a m=>⟨(new a m).1,let ⟨vs,e,mu⟩:=(new a m).2; ⟨vs,s25 _ _ e,mu⟩⟩,nd⟩
   simpa using hc
  | some xo =>
   obtain ⟨rfl,he⟩:=hb
   rw [if_pos rfl]
   refine ⟨τ4,rfl,F4.same s5,0,k,hk,?_⟩
   rw [hδ,he]
   intro t' H6 ht' R
   have s26:Same H2 H6:=s25.trans R.same
   have hD6:H6 D=some (.lst (ts.map T.val)):=s26 _ _ hD2
   refine ⟨hD6,by rw [aab]; exact aaL hts (aau hlt IT.len),ds.length - (i + 1),by omega,rfl,hlt,ts ++ [t'],r'',by simp,hr'',?_,by simp; omega,AJ,fun a u n e=>by rw [Al n]; exact s26 _ _ (kp a u n e),?_,?_,?_,?_⟩
   ·rw [T.dats_map,aaq,<- T.dats_map]
    simpa [ht'] using hc
   ·-- all of them stand
    have tD:∀ a ∈ t'.rest 0,a ≠ D:=fun a m z=>by
     rcases R.src a m with q | q
     ·rw [z,s25 _ _ hD2] at q; cases q
     ·exact (S4 a q).2.1 z
    refine T.oks_iff.mpr fun w hw=>?_
    have kk:(∀ a ∈ w.rest 0,a ≠ D)->w.Ok p H6->w.Ok p (L2.upd H6 D (.lst (ts.map T.val ++ [t'.val]))):=fun hne hok=>hok.keep fun a u e hq=>by
     rw [Al ?_]; exact e
     rintro rfl
     rcases hq with hq | hq
     ·exact hne a hq rfl
     ·rw [hD6] at e
      cases e; exact nomatch (show true=false from hq)
    rcases aae.mp hw with hw | hw
    ·exact kk (fun a m=>(src a (T.mem_rests.mpr ⟨w,hw,m⟩)).2) ((T.oks_iff.mp ok w hw).same s26)
    ·cases aaG.mp hw
     exact kk tD R.ok
   ·intro a m
    rw [T.rests_append,aae] at m
    rcases m with m | m
    ·exact src a m
    ·have m:a ∈ t'.rest 0:=by simpa [T.rests] using m
     rcases R.src a m with q | q
     ·exact ⟨.inl (sH3.trans s5 |>.free q),fun z=>by rw [z,s25 _ _ hD2] at q; cases q⟩
     ·exact ⟨(S4 a q).1,(S4 a q).2.1⟩
   ·intro a m
    rw [T.adrs_append,aae] at m
    rcases m with m | m
    ·obtain ⟨n1,vs,e,mu⟩:=new a m
     have aD:a ≠ D:=fun z=>out (by rw [<- z]; exact (T.alls_iff ts k).mpr (.inl m))
     refine ⟨n1,vs,?_,mu⟩
     rw [Al aD]
     exact s26 _ _ e
    ·have m:a ∈ t'.adr k:=by simpa [T.adrs] using m
     obtain ⟨n1,vs,e,mu⟩:=R.new a m
     have aD:a ≠ D:=fun z=>by rw [z,s25 _ _ hD2] at n1; cases n1
     refine ⟨?_,vs,by rw [Al aD]; exact e,mu⟩
     cases w:H1 a with
     | none=>rfl
     | some u=>rw [s25 _ _ (kp a u aD w)] at n1; cases n1
   ·refine T.nds_append nd (T.nds_cons.mpr ⟨R.nd,by simp [T.Nds,T.adrs],by simp [T.rests],by simp [T.adrs]⟩) (fun a m m'=>?_) (fun a m m'=>?_)
    ·have m':a ∈ t'.rest 0:=by simpa [T.rests] using m'
     rcases R.src a m' with q | q
     ·obtain ⟨_,vs,e,mu⟩:=new a m
      rw [s25 _ _ e] at q; cases q
     ·exact (S4 a q).2.2 (new a m).1
    ·have m:a ∈ t'.adr k:=by simpa [T.adrs] using m
     obtain ⟨w,hw,m'⟩:=T.mem_rests.mp m'
     exact ((T.oks_iff.mp ok w hw).same s25).dom m' (R.new a m).1
 ·have hil:i=ds.length:=acd hi hge
  refine .inl ⟨IT.stop i H2 usok hge,hd (.lst D ts) H2 ?_ ⟨s2,⟨.inl hD2,ok⟩,fun a m=>?_,fun a m=>?_,?_,fun a m m'=>?_⟩⟩
  ·subst hil
   rw [aca] at hr
   simp only [Bc] at hr
   cases hr
   simp only [T.dat,aaU] at hc ⊢
   rw [hc]
  ·simp only [T.rest,aai] at m
   rcases m with rfl | m
   ·exact .inl hDH
   ·exact (src a m).1
  ·simp only [T.adr,aai] at m
   rcases m with rfl | m
   ·exact ⟨hDH,_,hD2,rfl⟩
   ·exact ⟨IT.same.free (new a m).1,(new a m).2⟩
  ·simp only [T.adr,aav]
   exact ⟨fun m=>out ((T.alls_iff ts k).mpr (.inl m)),nd.1⟩
  ·simp only [T.adr,T.rest,aai] at m m'
   rcases m' with rfl | m'
   ·exact out ((T.alls_iff ts k).mpr (.inr m))
   ·exact nd.2 a m m'
structure ScOk (X:Cx) (scope:Scope) (loc:List Str) (fr:List Nat) (frn:List Str):Prop where
 hfr:∀ (j:Nat) (k:Nat) (x:Str),fr[j]?=some k->frn[j]?=some x->X.N[k]?=some x/\X.env.kindOf x=some .cell/\(x,NameKind.free) ∈ scope.names
 hln:frn.length=fr.length
 hcell:∀ y ∈ scope.names,y.2 ≠ .cell
 hkind:scope.kind=.function
 hnames:∀ y ∈ scope.names,y.2=.local->scope.names.lookup y.1=some .local
 hfree:∀ y ∈ scope.names,y.2=.free->X.env.kindOf y.1=some .cell
 hkin:∀ (x:Str),x ∈ frn->(relabel scope X.env).names.lookup x=some .cell
 hsc:X.env.scope.kind=.function
theorem HU {K:Frag} {nl:Nat} {fr:List Nat} {g:Tg} {it:It} {elt:E} {σ:L2.St} {H:Hp} {Q:VK} (hg:∀ i ∈ g.sl,i < nl) (h:lE p EX tn (.comp0 nl fr g it elt) σ H Q):Gk nl fr (lI p EX tn it) (fun _=>lG K g) (fun _=>NE) (fun _=>lE p EX0 (tnB nl fr tn) elt) σ H Q:=by
 obtain ⟨τ,rfl,hF,j,k,hj,h⟩:=h
 simp only [jk] at hj
 obtain ⟨ji,h1,hj⟩:=bS hj
 obtain ⟨⟨j2,k2⟩,h2,hj⟩:=bS hj
 obtain ⟨hc,e⟩:=Db hj
 cases e
 have hc:j2=0:=of_decide_eq_true hc
 subst hc
 simp only [ev] at h
 refine OF hF h1 hg h2 (fun d o e=>?_) h
 split at e
 ·rename_i δ' hd
  obtain ⟨x,e1,e2⟩:=Res.bind_eq_ok e
  cases e2
  exact ⟨δ',hd,fun τ4 H3 N _ _ hN=>hN true H3 (Same.refl _) ⟨rfl,e1⟩⟩
 ·cases e
theorem Lx {elt tg iter:Expr} {scope:Scope} {loc:List Str} {fr:List Nat} {frn:List Str} {g:Tg} {it:It} {x:E} (hc:X.calm=true) (S:ScOk X scope loc fr frn) (hi:PI X tg iter (lI p EX tn it)) (hg:∀ i ∈ g.sl,i < loc.length)
  (hb:∀ z:Bk,PG (X.blk scope z.C z.fp (loc ++ frn) z.s z.H) tg (lG X.K g)/\PE (X.blk scope z.C z.fp (loc ++ frn) z.s z.H) elt (lE p EX0 (tnB loc.length fr tn) x)) (hs:∀ y,foldedSetIterable iter X.env y=pure y) :
  PE X (.ListComp elt [⟨tg,iter,[],0⟩] scope pos) (lE p EX tn (.comp0 loc.length fr g it x)) :=
 PE.mono (N9 loc fr frn hc hi S.hfr S.hln S.hcell S.hkind S.hnames S.hfree S.hkin S.hsc (fun _ _ _ _ _ h=>Jo hg h) (fun z=>⟨(hb z).1,Je,(hb z).2⟩) hs) fun σ H Q h=>HU hg h
theorem PS.mono {X:Cx} {st:Stmt} {t t':TS} (h:PS X st t) (m:∀ D σ H,t' D σ H->t D σ H):PS X st t':=fun pins s σ H D I q=>h pins s σ H D I (m _ _ _ q)
theorem Kh {elt tg iter:Expr} {scope:Scope} {loc:List Str} {fr:List Nat} {frn:List Str} {g:Tg} {it:It} {x:E} {y:Str} {k:Nat} {py spos:Pos} (hc:X.calm=true) (S:ScOk X scope loc fr frn) (hi:PI X tg iter (lI p EX tn it)) (hg:∀ i ∈ g.sl,i < loc.length)
  (hb:∀ z:Bk,PG (X.blk scope z.C z.fp (loc ++ frn) z.s z.H) tg (lG X.K g)/\PE (X.blk scope z.C z.fp (loc ++ frn) z.s z.H) elt (lE p EX0 (tnB loc.length fr tn) x)) (hs:∀ y,foldedSetIterable iter X.env y=pure y)
  (hN:X.N.Nodup) (hk:X.N[k]?=some y) (hx:Loc X.env.scope y) (hf:X.fn y=true\/X.env.scope.names.lookup y=some .local) (hsw:swapsWith (.ListComp elt [⟨tg,iter,[],0⟩] scope pos) (some (.Name y py)) spos.line X.env=pure true) :
  PS X (.Assign [.Name y py] (.ListComp elt [⟨tg,iter,[],0⟩] scope pos) spos) (DL (lE p EX tn (.comp0 loc.length fr g it x)) (D2 k)) :=
 PS.mono (JX loc fr frn hc hi S.hfr S.hln S.hcell S.hkind S.hnames S.hfree S.hkin S.hsc (fun _ _ _ _ _ h=>Jo hg h) (fun z=>⟨(hb z).1,Je,(hb z).2⟩) hs hN hk hx hf hsw) fun D σ H h=>HU hg h
end
structure CkC where
 N:List Str
 sc:Scope
 fn:Bool
 rz:Bool
 cm:Bool
noncomputable def Ej (sc:Scope) (x:Str):Bool:=match sc.names.lookup x with
 | some .local=>true
 | some .cell=>true
 | some .free=>true
 | _=>false
noncomputable def Ek (c:CkC) (x:Str):Bool:=match c.sc.names.lookup x with
 | some .local=>true
 | some .cell=>c.fn
 | _=>false
noncomputable def glB (sc:Scope) (x:Str):Bool:=match sc.names.lookup x with
 | some .globalImplicit=>true
 | _=>false
noncomputable def Br (x:Str):Bool:=!(x==("__debug__" : Str)) && !(x==("__classdict__" : Str))
noncomputable def Gr (scope outer:Scope):Scope :=
 { scope with names:=scope.names.map fun (n,k)=>if (k==.free && outer.kind==.function && outer.names.lookup n==some .cell) then (n,.cell) else (n,k) }
theorem HV (scope:Scope) (env:Env):relabel scope env=Gr scope env.scope:=rfl
noncomputable def Ev:List Str:=["len", "min", "max", "abs", "int", "list", "tuple", "all", "any", "sum", "sorted", "isinstance", "str", "range", "enumerate", "zip", "reversed"]
noncomputable def ckG (c:CkC):Tg->Expr->Bool
 | .nm i,.Name x _=>(c.N[i]?==some x) && Ek c x
 | .tp is,.Tuple es _ _=>ckGs c is es && c.cm
 | _,_=>false
where ckGs (c:CkC):List Nat->List Expr->Bool
 | [],[]=>true
 | i :: is,.Name x _ :: es=>(c.N[i]?==some x) && Ek c x && ckGs c is es
 | _,_=>false
noncomputable def scB (c:CkC) (scope:Scope) (loc:List Str) (fr:List Nat) (frn:List Str):Bool :=
 decide (frn.length=fr.length) && ((fr.zip frn).all fun q=>(c.N[q.1]?==some q.2) && (c.sc.names.lookup q.2==some .cell) && scope.names.contains (q.2,NameKind.free)) &&
 (scope.names.all fun y=>(y.2 != .cell) && (y.2 != .local || scope.names.lookup y.1==some .local) && (y.2 != .free || c.sc.names.lookup y.1==some .cell)) && (scope.kind==.function) && (c.sc.kind==.function) &&
 (frn.all fun x=>(Gr scope c.sc).names.lookup x==some .cell) && decide (loc ++ frn).Nodup
noncomputable def Ki (c:CkC) (fr:List Nat):List Str:=fr.map fun j=>c.N.getD j ""
noncomputable def Hr:Expr->List Str
 | .Name x _=>[x]
 | .Tuple es _ _=>es.filterMap fun | .Name x _=>some x | _=>none
 | _=>[]
noncomputable def Dw:Expr->Bool
 | .Set _ _ _=>false
 | _=>true
noncomputable def FZ:List Str:=["RoomError", "BadShape", "NoNode", "NoPage", "NotRooms", "NotATree", "BadRoom", "Unlike", "BadScale", "BadStore", "BadName", "BadLength", "Twice", "Full", "NoThing", "NoDeed", "NoLine"]
noncomputable def Az (n:Nat):Str:=FZ.getD n "RoomError"
theorem Gs (n:Nat):(Az n==("__debug__" : Str))=false:=by
 have h:∀ x ∈ FZ,(x==("__debug__" : Str))=false:=by decide
 unfold Az
 rw [aaw]
 cases q:FZ[n]? with
 | none=>decide
 | some x=>exact h x (aaf q)
noncomputable def GR:Kd->String
 | .int => "int"
 | .bool => "bool"
 | .str => "str"
 | .list => "list"
 | .tuple => "tuple"
 | .dict => "dict"
 | .verr => "ValueError"
 | .cls _ => ""
noncomputable def Ew:Kd->Str
 | .cls n=>Az n
 | k=>Str.ofString (GR k)
noncomputable def MY (c:CkC) (k:Kd):Expr->Bool
 | .Name x _=>(x==Ew k) && glB c.sc x
 | _=>false
noncomputable def Ex (c:CkC):List Nat->List Expr->Bool
 | [],[]=>true
 | n :: ns,.Name x _ :: es=>(x==Az n) && glB c.sc x && Ex c ns es
 | _,_=>false
noncomputable def NJ (c:CkC) (ns:List Nat):Expr->Bool
 | .Tuple es _ _=>Ex c ns es && decide (ns.length<=1000)
 | _=>false
noncomputable def Ly:Bi->Str
 | .len => "len"
 | .min => "min"
 | .maxL => "max"
 | .int => "int"
 | .list => "list"
 | .tuple => "tuple"
 | .tupleL => "tuple"
 | .all => "all"
noncomputable def Qs:Bi->Bool
 | _=>true
noncomputable def Fc:Bi->Bool
 | .len=>true
 | .int=>true
 | .list=>true
 | .tuple=>true
 | .tupleL=>true
 | _=>false
mutual
noncomputable def E.tst:E->Bool
 | .not a=>a.tst
 | .bo _ es=>es.tsts
 | _=>true
noncomputable def Es.tsts:Es->Bool
 | .nil=>true
 | .cons e r=>e.tst && r.tsts
end
noncomputable def GS (gens:List Comprehension) (f:Expr->Expr->List Expr->Bool):Bool:=match gens with
 | [⟨tg,iter,ifs,n⟩]=>decide (n=0) && f tg iter ifs
 | _=>false
theorem Gu {gens:List Comprehension} {f:Expr->Expr->List Expr->Bool} (h:GS gens f=true):∃ tg iter ifs,gens=[⟨tg,iter,ifs,0⟩]/\f tg iter ifs=true:=by
 unfold GS at h
 split at h
 ·rw [aaj] at h
  cases of_decide_eq_true h.1
  exact ⟨_,_,_,rfl,h.2⟩
 ·cases h
noncomputable def Lz:Expr->Bool
 | .Constant .none _ _=>true
 | _=>false
noncomputable def Gv (b:Bool) (f:Expr->Bool):Option Expr->Bool
 | none=>b
 | some l=>!b && f l
mutual
noncomputable def ckE (c:CkC):E->Expr->Bool
 | .nm i,.Name x _=>(c.N[i]?==some x) && Ej c.sc x && Br x
 | .cN,.Constant .none _ _=>true
 | .cB b,.Constant (.bool b') _ _=>b==b'
 | .cI i,.Constant (.int i') _ _=>i==i'
 | .cS x,.Constant (.str x') _ _=>x==x'
 | .gl x d,.Name y _=>(x==y) && glB c.sc y && Br y && D.scal d
 | .tup es,.Tuple xs _ _=>ckEs c es xs && decide (es.len<=1000)
 | .lst es,.List xs _=>ckEs c es xs && decide (es.len<=1000)
 | .bin o a b,.BinOp l op r _=>(op==J0 o) && ckE c a l && ckE c b r
 | .neg a,.UnaryOp .USub l _=>ckE c a l
 | .not a,.UnaryOp .Not l _=>ckE c a l
 | .cmp o a b,.Compare l [op] [r] _=>(op==A6 o) && ckE c a l && ckE c b r && Dw r
 | .chain o o' a b d,.Compare l [op,op'] [r,r'] _=>(op==A6 o) && (op'==A6 o') && ckE c a l && ckE c b r && ckE c d r' && Dw r'
 | .isN n a,.Compare l [op] [r] _=>(op==if n then .IsNot else .Is) && Lz r && ckE c a l
 | .bo k es,.BoolOp op xs _=>(op==if k then .And else .Or) && ckEs c es xs
 | .ix a i,.Subscript a' i' _=>ckE c a a' && ckE c i i' && Bt i'
 | .ixL a i,.Subscript a' i' _=>ckE c a a' && ckE c i i' && Bt i'
 | .dNew,.Dict [] [] _=>true
 | .slc a lo hi,.Subscript a' (.Slice lo' hi' none _) _=>ckE c a a' && Gv lo.isCN (ckE c lo) lo' && Gv hi.isCN (ckE c hi) hi'
 | .call f es,.Call (.Name x _) xs [] _=>(x==f.name) && glB c.sc x && Br x && ckEs c es xs && decide (es.len=f.ar) && decide (0 < es.len) && c.cm
 | .callB f es,.Call (.Name x _) xs [] _=>(x==f.name) && glB c.sc x && Br x && ckEs c es xs && decide (es.len=f.ar) && decide (0 < es.len) && c.cm
 | .bi b es,.Call (.Name x _) xs [] _=>(x==Ly b) && glB c.sc x && Qs b && ckEs c es xs && decide (0 < es.len) && (c.cm || Fc b)
 | .isi a k,.Call (.Name x _) [l,r] [] _=>(x==("isinstance" : Str)) && glB c.sc x && ckE c a l && MY c k r && As l
 | .isiM a ns,.Call (.Name x _) [l,r] [] _=>(x==("isinstance" : Str)) && glB c.sc x && ckE c a l && NJ c ns r && As l
 | .comp0 nl fr g it elt,.ListComp elt' gens scope _=>GS gens fun tg iter ifs=>c.cm && ifs.isEmpty && scB c scope (Hr tg) fr (Ki c fr) && decide (nl=(Hr tg).length) && (g.sl.all fun i=>decide (i < nl)) && ckI c tg it iter && Dw iter &&
   ckG ⟨Hr tg ++ Ki c fr,Gr scope c.sc,false,false,c.cm⟩ g tg && ckE ⟨Hr tg ++ Ki c fr,Gr scope c.sc,false,false,c.cm⟩ elt elt'
 | _,_=>false
noncomputable def ckEs (c:CkC):Es->List Expr->Bool
 | .nil,[]=>true
 | .cons e r,x :: xs=>ckE c e x && As x && ckEs c r xs
 | _,_=>false
noncomputable def ckI (c:CkC) (tg:Expr):It->Expr->Bool
 | .seq e,x=>ckE c e x
 | .seqL e,x=>ckE c e x
 | .r1 a,.Call (.Name x _) [l] [] _=>(x==("range" : Str)) && glB c.sc x && ckE c a l && As l
 | _,_=>false
end
inductive Nd1 where
 | fn (F:Fn)
 | fm (F:Fn)
 | fc (F:Fn)
 | cl (n:Nat)
 | rs (n:Nat)
 | gl (x:Str) (d:D)
mutual
noncomputable def E.need:E->List Nd1
 | .nm _=>[]
 | .cN=>[]
 | .cB _=>[]
 | .cI _=>[]
 | .cS _=>[]
 | .gl x d=>[.gl x d]
 | .tup es=>es.need
 | .lst es=>es.need
 | .bin _ a b=>a.need ++ b.need
 | .neg a=>a.need
 | .not a=>a.need
 | .cmp _ a b=>a.need ++ b.need
 | .chain _ _ a b c=>a.need ++ (b.need ++ c.need)
 | .isN _ a=>a.need
 | .bo _ es=>es.need
 | .ix a i=>a.need ++ i.need
 | .ixL a i=>a.need ++ i.need
 | .dNew=>[]
 | .slc a lo hi=>a.need ++ (lo.need ++ hi.need)
 | .call f es=>.fn f :: es.need
 | .callB f es=>.fn f :: es.need
 | .bi _ es=>es.need
 | .isi a k=>(match k with | .cls n=>[.cl n] | _=>[]) ++ a.need
 | .isiM a ns=>ns.map .cl ++ a.need
 | .comp0 _ _ _ it elt=>it.need ++ elt.need
noncomputable def Es.need:Es->List Nd1
 | .nil=>[]
 | .cons e r=>e.need ++ r.need
noncomputable def It.need:It->List Nd1
 | .seq e=>e.need
 | .seqL e=>e.need
 | .r1 a=>a.need
end
noncomputable def dT:D->T
 | .bl b=>.bl b
 | .int i=>.int i
 | .str x=>.str x
 | _=>.non
theorem Qt {d:D} (h:D.scal d=true):(dT d).dat=d/\(dT d).sc=true:=by cases d <;> first | exact ⟨rfl,rfl⟩ | cases h
noncomputable def NeedOk (p:Px) (lv:Nat) (X:Cx):Nd1->Prop
 | .fn F=>F.lv<=lv/\Ka p X F
 | .fm F=>F.lv<=lv/\Qq p X F
 | .fc F=>F.lv<=lv/\Qr p X F
 | .cl n=>p.has n=true/\X.mg (Az n)=some (.ref (p.cl n))
 | .rs n=>p.has n=true/\nsIn X.K mainGlobals (Az n)=some (some (.ref (p.cl n)))/\excIn X.K (p.cl n) GM "ValueError.__new__" = true
 | .gl x d=>∃ u,X.mg x=some u/\RelV (dT d).val u
structure Kx (p:Px):Prop where
 no:p.has 999=false
 x:∀ c,p.has c=true->XCls p.K (p.cl c)
 kb:∀ c,p.has c=true->∀ T ∈ (["int", "bool", "str", "list", "tuple", "dict"]:List String),kitOne p.K (.ref (p.cl c)) (.type T)=some false
 kv:∀ c,p.has c=true->kitOne p.K (.ref (p.cl c)) (.type "ValueError")=some true
 kc:∀ c d,p.has c=true->p.has d=true->kitOne p.K (.ref (p.cl c)) (.ref (p.cl d))=some (isa c d)
structure Ct (p:Px) (c:CkC) (lv:Nat) (X:Cx) (EX:EXT):Prop where
 K:X.K=p.K
 N:X.N=c.N
 sc:X.env.scope=c.sc
 nd:X.N.Nodup
 calm:c.cm=true->X.calm=true
 room:c.cm=true->Room lv X.A
 un:X.A.units + 64 < cLine
 blt:∀ y ∈ Ev,X.mg y=none
 bt:∀ y ∈ (["bool", "dict", "ValueError"]:List Str),X.mg y=none
 pass:DM (CXe X.prog X.w) X EX
 fn:c.fn=true->∀ x,X.fn x=true
 kx:Kx p
 ph:c.rz=true->True
section
variable {p:Px} {c:CkC} {lv:Nat} {X:Cx} {EX:EXT} {tn:List Nat} {pos np:Pos}
theorem Ct.gl (C:Ct p c lv X EX) {x:Str} (h:glB c.sc x=true):Gl X x:=by
 unfold glB at h
 show X.env.scope.names.lookup x=_
 rw [C.sc]
 split at h
 ·assumption
 ·cases h
theorem Ct.vis (C:Ct p c lv X EX) {x:Str} (h:Ej c.sc x=true):Vis X.env.scope x:=by
 unfold Ej at h
 unfold Vis
 rw [C.sc]
 split at h
 ·exact .inl ‹_›
 ·exact .inr (.inl ‹_›)
 ·exact .inr (.inr ‹_›)
 ·cases h
theorem Ct.loc (C:Ct p c lv X EX) {x:Str} (h:Ek c x=true):L2.Loc X.env.scope x/\(X.fn x=true\/X.env.scope.names.lookup x=some .local):=by
 unfold Ek at h
 unfold L2.Loc
 rw [C.sc]
 split at h
 ·rename_i e; exact ⟨.inl e,.inr e⟩
 ·rename_i e; exact ⟨.inr e,.inl (C.fn h x)⟩
 ·cases h
theorem Bu {x:Str} (h:Br x=true):(x==("__debug__" : Str))=false/\(x==("__classdict__" : Str))=false:=by
 unfold Br at h
 rw [aaj,ab7,ab7] at h
 exact h
theorem Ct.hu (C:Ct p c lv X EX):X.A.units + 64 < cLine:=C.un
theorem NK (C:Ct p c lv X EX):∀ {is:List Nat} {es:List Expr},ckG.ckGs c is es=true->PGs X es (Ch is)/\(assignEach es X.env).length=is.length/\(assignEach es X.env).findIdx? (·.1)=none
 | [],[],_=>⟨NX,rfl,rfl⟩
 | [],e :: es,h=>nF h
 | i :: is,[],h=>nF h
 | i :: is,e :: es,h=>by
  cases e with
  | Name x q =>
   have h:((c.N[i]?==some x) && Ek c x && ckG.ckGs c is es)=true:=h
   rw [aaj,aaj] at h
   obtain ⟨⟨h1,h2⟩,h3⟩:=h
   obtain ⟨a1,a2,a3⟩:=NK C h3
   obtain ⟨l1,l2⟩:=C.loc h2
   refine ⟨Mn (I0 C.nd (by rw [C.N]; exact beq_iff_eq.mp h1) l1 l2) a1 rfl,?_,?_⟩
   ·show (assignEach es X.env).length + 1=_; rw [a2]; rfl
   ·show List.findIdx? (·.1) ((false,_) :: assignEach es X.env)=none
    rw [List.findIdx?_cons,a3]; rfl
  | _=>exact nF h
theorem HW (C:Ct p c lv X EX) {g:Tg} {e:Expr} (h:ckG c g e=true):PG X e (lG X.K g):=by
 cases g with
 | nm i =>
  cases e with
  | Name x q =>
   have h:((c.N[i]?==some x) && Ek c x)=true:=h
   rw [aaj] at h
   obtain ⟨l1,l2⟩:=C.loc h.2
   exact I0 C.nd (by rw [C.N]; exact beq_iff_eq.mp h.1) l1 l2
  | _=>exact nF h
 | tp is =>
  cases e with
  | Tuple es k q =>
   rw [show ckG c (.tp is) (.Tuple es k q)=(ckG.ckGs c is es && c.cm) from rfl,aaj] at h
   obtain ⟨a1,a2,a3⟩:=NK C h.1
   intro pins s σ H v u Q I r hw
   rcases hw with hw | hw
   ·exact Py (C.calm h.2) a1 a2 a3 pins s σ H v u Q I r hw
   ·exact Qc (C.calm h.2) a1 a2 a3 pins s σ H v u Q I r hw
  | _=>exact nF h
theorem Jq {α β:Type} {xs:List α} {ys:List β} {j:Nat} {a:α} {b:β} (h1:xs[j]?=some a) (h2:ys[j]?=some b):(a,b) ∈ xs.zip ys:=by
 have:(xs.zip ys)[j]?=some (a,b):=by rw [List.getElem?_zip_eq_some]; exact ⟨h1,h2⟩
 exact aaf this
theorem NL (C:Ct p c lv X EX) {scope:Scope} {loc:List Str} {fr:List Nat} {frn:List Str} (h:scB c scope loc fr frn=true):ScOk X scope loc fr frn/\(loc ++ frn).Nodup:=by
 unfold scB at h
 simp only [aaj,decide_eq_true_eq,aat,beq_iff_eq,bne_iff_ne,Bool.or_eq_true] at h
 obtain ⟨⟨⟨⟨⟨⟨h1,h2⟩,h3⟩,h4⟩,h5⟩,h6⟩,h7⟩:=h
 refine ⟨⟨fun j k x e1 e2=>?_,h1,fun y hy=>(h3 y hy).1.1,h4,fun y hy e=>?_,fun y hy e=>?_,fun x hx=>?_,by rw [C.sc]; exact h5⟩,h7⟩
 ·obtain ⟨⟨q1,q2⟩,q3⟩:=h2 (k,x) (Jq e1 e2)
  refine ⟨by rw [C.N]; exact q1,?_,by simpa using q3⟩
  show X.env.scope.names.lookup x=_
  rw [C.sc]; exact q2
 ·rcases (h3 y hy).1.2 with q | q
  ·exact absurd e q
  ·exact q
 ·rcases (h3 y hy).2 with q | q
  ·exact absurd e q
  ·show X.env.scope.names.lookup y.1=_
   rw [C.sc]; exact q
 ·rw [HV,C.sc]; exact h6 x hx
theorem Ct.blk (C:Ct p c lv X EX) {scope:Scope} {N:List Str} (hN:N.Nodup) (z:Bk):Ct p ⟨N,Gr scope c.sc,false,false,c.cm⟩ lv (X.blk scope z.C z.fp N z.s z.H) EX0 where
 K:=C.K
 N:=rfl
 sc:=by show relabel scope X.env=_; rw [HV,C.sc]
 nd:=hN
 calm:=C.calm
 room:=C.room
 un:=C.un
 blt:=C.blt
 bt:=C.bt
 pass:=fun _ _ _ _ _ _ _ h=>by
  obtain ⟨_,_,_,_,_,_,_,_,_,_,_,_,_,_,_,_,_,_,z⟩:=h
  exact z.elim
 fn:=fun z=>nomatch z
 kx:=C.kx
 ph:=fun z=>nomatch z
theorem NeedOk.blk {scope:Scope} {N:List Str} {z:Bk} {n:Nd1} (h:NeedOk p lv X n):NeedOk p lv (X.blk scope z.C z.fp N z.s z.H) n:=by
 cases n <;> exact h
theorem EF {e:Expr} {env:Env} (h:Dw e=true):∀ y,foldedSetIterable e env y=pure y:=by
 intro y
 cases e <;> first | rfl | cases h
theorem Dx {op:CmpOp} {e:Expr} (h:Dw e=true):behindInMarks op e=false:=by
 cases e <;> first | rfl | cases h
end
section
variable {p:Px} {c:CkC} {lv:Nat} {X:Cx} {EX:EXT} {tn:List Nat} {pos np:Pos}
theorem AM (C:Ct p c lv X EX) {e:Expr} {x:E} (h:PE X e (lE p EX tn x)) (hp:HP e=true):PE X e (lE p EX tn x)/\(x.tst=true->PT X e (lT p EX tn x)):=⟨h,fun _=>J8 C.K h hp⟩
noncomputable def kdV (p:Px):Kd->Value
 | .cls n=>.ref (p.cl n)
 | k=>.type (GR k)
noncomputable def Kj (p:Px):Kd->Prop
 | .cls n=>p.has n=true
 | _=>True
theorem Qu (C:Ct p c lv X EX) {H:Hp} {t:T} (ok:t.Ok p H):∃ ty,TyX X.K H t.val ty/\∀ k b,CD t.dat k=.ok b->Kj p k->kitOne X.K ty (kdV p k)=some b:=by
 cases t with
 | non=>exact ⟨_,.of .non,fun k b h _=>by cases k <;> cases h <;> rfl⟩
 | bl x=>exact ⟨_,.of (.bl x),fun k b h _=>by cases k <;> cases h <;> rfl⟩
 | int x=>exact ⟨_,.of (.int x),fun k b h _=>by cases k <;> cases h <;> rfl⟩
 | str x=>exact ⟨_,.of (.str x),fun k b h _=>by cases k <;> cases h <;> rfl⟩
 | tup a ts=>exact ⟨_,.of (.tup ok.1),fun k b h _=>by cases k <;> cases h <;> rfl⟩
 | lst a ts =>
  rcases ok.1 with e | ⟨o,e⟩
  ·exact ⟨_,.of (.lst e),fun k b h _=>by cases k <;> cases h <;> rfl⟩
  ·exact ⟨_,.of (.frz e),fun k b h _=>by cases k <;> cases h <;> rfl⟩
 | dic a ks ts=>exact ⟨_,.of (.dK ok.1.1),fun k b h _=>by cases k <;> cases h <;> rfl⟩
 | dit a ks ts=>exact ⟨_,.of (.dT ok.1.1),fun k b h _=>by cases k <;> cases h <;> rfl⟩
 | exn a n =>
  by_cases hn:n=999
  ·subst hn
   refine ⟨_,.dct (by rw [ok.1]; rfl),fun k b h _=>?_⟩
   cases k <;> cases h <;> rfl
  ·have hs:=ok.2.resolve_left hn
   have hn':(n==999)=false:=beq_eq_false_iff_ne.mpr hn
   refine ⟨_,.exc (by rw [ok.1]; unfold exO; rw [if_neg hn]) (C.K ▸ C.kx.x n hs),fun k b h hh=>?_⟩
   rw [C.K]
   have kb:=C.kx.kb n hs
   cases k with
   | verr =>
    have h:(if (n==999)=true then Res.bad else Res.ok true)=Res.ok b:=h
    rw [hn',if_neg (by decide)] at h
    cases h; exact C.kx.kv n hs
   | cls m =>
    have h:(if (n==999)=true then Res.bad else Res.ok (isa n m))=Res.ok b:=h
    rw [hn',if_neg (by decide)] at h
    cases h; exact C.kx.kc n m hs hh
   | dict =>
    have h:Res.ok (n==999)=Res.ok b:=h
    rw [hn'] at h
    cases h; exact kb _ (by decide)
   | _=>cases h; exact kb _ (by decide)
theorem OG (C:Ct p c lv X EX) {l r:Expr} {x:E} {k:Kd} {v:V} {cv:Value} (hl:PE X l (lE p EX tn x)) (hr:PE X r (tC v)) (hst:As l=true) (hst':As r=true) (hgl:Gl X "isinstance") (hcv:clV v=some cv)
  (hk:∀ (H:Hp) (t:T) (b:Bool),t.Ok p H->CD t.dat k=.ok b->∃ ty,TyX X.K H t.val ty/\kitOne X.K ty cv=some b):PE X (.Call (.Name "isinstance" np) [l,r] [] pos) (lE p EX tn (.isi x k)):=by
 refine PE.mono (CS MF hgl (C.blt _ (by simp [Ev])) (by decide +kernel) (Cr hl (Cr hr Er (An hst')) (An hst)) (by decide) (by decide) (An hst) (AK (by simp [hst']))) fun σ H Q h=>?_
 obtain ⟨τ,rfl,hF,j,k',hj,h⟩:=h
 simp only [jk] at hj
 obtain ⟨⟨j1,k1⟩,h1,hj⟩:=bS hj
 simp only [ev] at h
 refine l1 hF h1 h fun d t H1 ht R h=>?_
 subst ht
 cases q:CD t.dat k with
 | ok b =>
  rw [q] at h
  obtain ⟨ty,h2,h3⟩:=hk H1 t b R.ok q
  exact ⟨t.val,v,cv,ty,b,rfl,hcv,h2,h3,h (.bl b) H1 rfl (Rs.scal R.same rfl)⟩
 | exc n =>
  rw [q] at h
  cases t with
  | exn a c =>
   have hx:∀ f,dX (T.exn a c).dat f ≠ .exc n:=fun f e=>by
    unfold T.dat dX at e
    split at e <;> simp_all
    split at e <;> cases e
   cases k with
   | verr=>exact absurd (show dX (T.exn a c).dat (fun _=>true)=.exc n from q) (hx _)
   | cls m=>exact absurd (show dX (T.exn a c).dat (fun c=>isa c m)=.exc n from q) (hx _)
   | _=>cases q
  | _=>cases k <;> cases q
 | bad=>rw [q] at h; exact nE h
theorem Qv (C:Ct p c lv X EX) {k:Kd} {r:Expr} (h:MY c k r=true) (hn:∀ n,k=.cls n->NeedOk p lv X (.cl n)):∃ v cv,PE X r (tC v)/\clV v=some cv/\As r=true/\∀ (H:Hp) (t:T) (b:Bool),t.Ok p H->CD t.dat k=.ok b->∃ ty,TyX X.K H t.val ty/\kitOne X.K ty cv=some b:=by
 cases r with
 | Name x q =>
  have h:((x==Ew k) && glB c.sc x)=true:=h
  rw [aaj,beq_iff_eq] at h
  obtain ⟨rfl,h⟩:=h
  have fin:Kj p k->∀ (H:Hp) (t:T) (b:Bool),t.Ok p H->CD t.dat k=.ok b->∃ ty,TyX X.K H t.val ty/\kitOne X.K ty (kdV p k)=some b:=fun hk H t b ok e=>let ⟨ty,a,f⟩:=Qu C ok; ⟨ty,a,f _ _ e hk⟩
  have key:(∃ n,k=.cls n)\/(Kj p k/\kdV p k=.type (GR k)/\X.mg (Ew k)=none/\bootBuiltins (Ew k)=some (.type (GR k))/\Ew k ≠ "__name__" /\ (Ew k==("__debug__" : Str))=false):=by
   cases k with
   | cls n=>exact .inl ⟨n,rfl⟩
   | bool=>exact .inr ⟨trivial,rfl,C.bt _ (by decide),by decide +kernel,by decide,by decide⟩
   | dict=>exact .inr ⟨trivial,rfl,C.bt _ (by decide),by decide +kernel,by decide,by decide⟩
   | verr=>exact .inr ⟨trivial,rfl,C.bt _ (by decide),by decide +kernel,by decide,by decide⟩
   | _=>exact .inr ⟨trivial,rfl,C.blt _ (by decide),by decide +kernel,by decide,by decide⟩
  rcases key with ⟨n,rfl⟩ | ⟨k1,k2,k3,k4,k5,k6⟩
  ·obtain ⟨h1,h2⟩:=hn n rfl
   exact ⟨.ref (p.cl n),.ref (p.cl n),GJ (C.gl h) h2 rfl (Gs n),rfl,rfl,fin h1⟩
  ·exact ⟨.ty (GR k),.type (GR k),NT (C.gl h) k3 k4 rfl k5 k6,rfl,rfl,k2 ▸ fin k1⟩
 | _=>exact nF h
noncomputable def Rz (K:Frag):List V->Hp->VK->Prop:=fun xs H Q=>∃ (a C tp:Addr) (Cs:List Addr) (b:Bool),xs=[.ref a,.ref tp]/\H a=some (xO a C)/\XCls K C/\H tp=some (.tup (Cs.map V.ref))/\kitAny K (.ref C) (Cs.map Value.ref)=some b/\Q (.bl b) H
theorem Hd:∀ {Cs:List Addr} {its:List Value},Vals (Cs.map V.ref) its->its=Cs.map Value.ref
 | [],its,h=>by cases h; rfl
 | C :: r,its,h=>by
  cases h with
  | cons h1 h2 =>
   rw [Hd (Cs:=r) h2]
   cases (show _=Value.ref C from h1)
   rfl
theorem LA:CA X (.builtin "isinstance") (Rz X.K):=by
 intro pins s σ H xs us Q I r h
 obtain ⟨a,C,tp,Cs,b,rfl,y,c,ht,e,q⟩:=h
 obtain ⟨u,w',rfl,ru,rw'⟩:=JQ r
 cases (show u=Value.ref a from ru)
 cases (show w'=Value.ref tp from rw')
 obtain ⟨_,its,rel,o,ho,hc,n,hd⟩:=I.hok tp _ ht
 cases Hd rel
 obtain ⟨oc,dd,od,sl⟩:=o
 cases hc
 cases hd
 exact kia_tup (HJ c) I.kIn (I.hok a _ y).1 ho e (fun z=>nomatch z) fun tk=>⟨.bl b,H,I.tok tk,rfl,q⟩
theorem LB (C:Ct p c lv X EX):∀ {ns:List Nat} {es:List Expr},(∀ n ∈ ns,NeedOk p lv X (.cl n))->Ex c ns es=true->PA X es (fun _ H Q=>Q (ns.map fun n=>V.ref (p.cl n)) H)
 | [],[],_,_=>Er
 | [],e :: es,_,h=>nF h
 | n :: ns,[],_,h=>nF h
 | n :: ns,e :: es,hn,h=>by
  cases e with
  | Name x q =>
   have h:((x==Az n) && glB c.sc x && Ex c ns es)=true:=h
   rw [aaj,aaj,beq_iff_eq] at h
   obtain ⟨⟨rfl,h2⟩,h3⟩:=h
   obtain ⟨_,g2⟩:=hn n (aac ..)
   exact PA.mono (Cr (GJ (v:=.ref (p.cl n)) (C.gl h2) g2 rfl (Gs n)) (LB C (fun k hk=>hn k (aaa _ hk)) h3) rfl) fun σ H Q z=>z
  | _=>exact nF h
theorem LD (kx:Kx p) {k:Nat} (hk:p.has k=true):∀ {ns:List Nat},(∀ n ∈ ns,p.has n=true)->kitAny p.K (.ref (p.cl k)) ((ns.map p.cl).map Value.ref)=some (ns.any (isa k))
 | [],_=>rfl
 | n :: ns,hn=>by
  have k1:=kx.kc k n hk (hn n (aac ..))
  have ih:=LD kx hk (ns:=ns) fun m hm=>hn m (aaa _ hm)
  rw [aaA,aaA,kitAny,k1,abn]
  cases isa k n with
  | true=>rfl
  | false=>exact ih
theorem MZ (C:Ct p c lv X EX) {l:Expr} {es:List Expr} {x:E} {ns:List Nat} {kt:Nat} {pt:Pos} (hl:PE X l (lE p EX tn x)) (hst:As l=true) (hgl:Gl X "isinstance") (hn:∀ n ∈ ns,NeedOk p lv X (.cl n)) (hc:Ex c ns es=true) (hlen:ns.length<=1000):PE X (.Call (.Name "isinstance" np) [l,.Tuple es kt pt] [] pos) (lE p EX tn (.isiM x ns)):=by
 refine PE.mono (CS LA hgl (C.blt _ (by simp [Ev])) (by decide +kernel) (Cr hl (Cr (K4 (LB C hn hc)) Er rfl) (An hst)) (by decide) (by decide) (An hst) rfl) fun σ H Q h=>?_
 obtain ⟨τ,rfl,hF,j,k',hj,h⟩:=h
 simp only [jk] at hj
 obtain ⟨⟨j1,k1⟩,h1,hj⟩:=bS hj
 simp only [ev] at h
 refine l1 hF h1 h fun d t H1 ht R h=>?_
 subst ht
 refine ⟨by rw [aab]; exact aay hlen (by decide),fun tp htp=>?_⟩
 cases t with
 | exn a k =>
  have h:Lg p EX (vτ τ) ((if (k==999)=true then Res.bad else Res.ok (ns.any (isa k))).bind fun b=>Res.ok (D.bl b)) H (KE p (Sh tn τ) H j k' Q):=h
  by_cases hk9:k=999
  ·subst hk9; exact nE h
  rw [if_neg (by simpa using hk9)] at h
  have hks:=R.ok.2.resolve_left hk9
  have hka:H1 a=some (xO a (p.cl k)):=by rw [R.ok.1]; unfold exO; rw [if_neg hk9]
  have sm:Same H1 (L2.upd H1 tp (.tup (ns.map fun n=>V.ref (p.cl n)))):=fun a' u e=>by
   rw [L2.Al (fun z=>by subst z; rw [htp] at e; cases e)]; exact e
  have e1:(ns.map fun n=>V.ref (p.cl n))=(ns.map p.cl).map V.ref:=by rw [aaY]; rfl
  refine ⟨a,p.cl k,tp,ns.map p.cl,ns.any (isa k),rfl,sm _ _ hka,C.K ▸ C.kx.x k hks,by rw [L2.AJ,e1],C.K ▸ LD C.kx hks (fun n hm=>(hn n hm).1),?_⟩
  exact h (.bl _) _ rfl (Rs.scal (R.same.trans sm) rfl)
 | _=>exact nE h
theorem M0:PE X (.Dict [] [] pos) (lE p EX tn .dNew):=by
 refine PE.mono L2.ME fun σ H Q h=>?_
 obtain ⟨τ,rfl,hF,j,k,hj,h⟩:=h
 simp only [jk] at hj
 cases hj
 intro a ha
 have s:=Same.new (o:=.dK []) ha
 refine h (.dic a [] []) _ rfl ⟨s,⟨⟨AJ,ab1,rfl⟩,trivial⟩,fun b m=>?_,fun b m=>?_,⟨?_,fun b m=>nomatch (show b ∈ ([]:List Addr) from m)⟩⟩
 ·rcases aai.mp m with rfl | m
  ·exact .inl ha
  ·cases m
 ·rcases aai.mp m with rfl | m
  ·exact ⟨ha,_,AJ,rfl⟩
  ·cases m
 ·exact aav.mpr ⟨abA,ab1⟩
end
end Pu
end
section
set_option maxHeartbeats 1000000
namespace Pu
open PySem PySem.Spec PyProof.Rows PySem.W L2
theorem Ab {a b:Bool} (h:(a && b)=true):a=true/\b=true:=aaj _ _ |>.mp h
theorem Ax {p:Px} {lv:Nat} {X:Cx} {a b:List Nd1} (h:∀ n ∈ a ++ b,NeedOk p lv X n):(∀ n ∈ a,NeedOk p lv X n)/\∀ n ∈ b,NeedOk p lv X n:=⟨fun n m=>h n (aan _ m),fun n m=>h n (aag _ m)⟩
theorem B7 {c:CkC}:∀ {es:Es} {xs:List Expr},ckEs c es xs=true->xs.all As=true/\xs.length=es.len
 | .nil,[],_=>⟨rfl,rfl⟩
 | .nil,x :: xs,h=>nF h
 | .cons e r,[],h=>nF h
 | .cons e r,x :: xs,h=>by
  have h:(ckE c e x && As x && ckEs c r xs)=true:=h
  obtain ⟨h,h3⟩:=Ab h
  obtain ⟨h1,h2⟩:=Ab h
  obtain ⟨a,b⟩:=B7 h3
  exact ⟨by rw [aaB,h2,a]; rfl,by rw [abj,b,Es.len]⟩
mutual
theorem snd {p:Px} {lv:Nat}:∀ (x:E) {c:CkC} {X:Cx} {EX:EXT} {tn:List Nat} (C:Ct p c lv X EX) (e:Expr),(∀ n ∈ x.need,NeedOk p lv X n)->ckE c x e=true->PE X e (lE p EX tn x)/\(x.tst=true->PT X e (lT p EX tn x))
 | .nm i,c,X,EX,tn,C,e,hn,h=>by
  cases e with
  | Name y q =>
   have h:((c.N[i]?==some y) && Ej c.sc y && Br y)=true:=h
   obtain ⟨h,h3⟩:=Ab h
   obtain ⟨h1,h2⟩:=Ab h
   obtain ⟨d1,d2⟩:=Bu h3
   exact AM C (Qg (by rw [C.N]; exact beq_iff_eq.mp h1) (C.vis h2) d1 d2) rfl
  | _=>exact nF h
 | .cN,c,X,EX,tn,C,e,hn,h=>by
  cases e with
  | Constant k j q =>
   cases k with
   | none=>exact AM C (Gn (t:=.non) Pk rfl (fun _=>rfl)) rfl
   | _=>exact nF h
  | _=>exact nF h
 | .cB b,c,X,EX,tn,C,e,hn,h=>by
  cases e with
  | Constant k j q =>
   cases k with
   | bool b' =>
    cases beq_iff_eq.mp (show (b==b')=true from h)
    exact AM C (Gn (t:=.bl b) Q7 rfl (fun _=>rfl)) rfl
   | _=>exact nF h
  | _=>exact nF h
 | .cI b,c,X,EX,tn,C,e,hn,h=>by
  cases e with
  | Constant k j q =>
   cases k with
   | int b' =>
    cases beq_iff_eq.mp (show (b==b')=true from h)
    exact AM C (Gn (t:=.int b) Pj rfl (fun _=>rfl)) rfl
   | _=>exact nF h
  | _=>exact nF h
 | .cS b,c,X,EX,tn,C,e,hn,h=>by
  cases e with
  | Constant k j q =>
   cases k with
   | str b' =>
    cases beq_iff_eq.mp (show (b==b')=true from h)
    exact AM C (Gn (t:=.str b) Pl rfl (fun _=>rfl)) rfl
   | _=>exact nF h
  | _=>exact nF h
 | .gl y d,c,X,EX,tn,C,e,hn,h=>by
  cases e with
  | Name y' q =>
   have h:((y==y') && glB c.sc y' && Br y' && D.scal d)=true:=h
   obtain ⟨h,h4⟩:=Ab h
   obtain ⟨h,h3⟩:=Ab h
   obtain ⟨h1,h2⟩:=Ab h
   cases beq_iff_eq.mp h1
   obtain ⟨u,m,r⟩:=hn (.gl y d) (aaG.mpr rfl)
   obtain ⟨e1,e2⟩:=Qt h4
   exact AM C (Gn (t:=dT d) (GJ (C.gl h2) m r (Bu h3).1) e2 (fun _=>by rw [e1]; rfl)) rfl
  | _=>exact nF h
 | .tup es,c,X,EX,tn,C,e,hn,h=>by
  cases e with
  | Tuple xs k q =>
   obtain ⟨h1,h2⟩:=Ab (show (ckEs c es xs && decide (es.len<=1000))=true from h)
   exact AM C (Od (sndA es C xs hn h1).1 (of_decide_eq_true h2)) rfl
  | _=>exact nF h
 | .lst es,c,X,EX,tn,C,e,hn,h=>by
  cases e with
  | List xs q =>
   obtain ⟨h1,h2⟩:=Ab (show (ckEs c es xs && decide (es.len<=1000))=true from h)
   exact AM C (Oe (sndA es C xs hn h1).1 (of_decide_eq_true h2)) rfl
  | _=>exact nF h
 | .bin o a b,c,X,EX,tn,C,e,hn,h=>by
  cases e with
  | BinOp l op r q =>
   obtain ⟨h,h3⟩:=Ab (show ((op==J0 o) && ckE c a l && ckE c b r)=true from h)
   obtain ⟨h1,h2⟩:=Ab h
   cases beq_iff_eq.mp h1
   obtain ⟨n1,n2⟩:=Ax hn
   exact AM C (Om (snd a C l n1 h2).1 (snd b C r n2 h3).1) rfl
  | _=>exact nF h
 | .neg a,c,X,EX,tn,C,e,hn,h=>by
  cases e with
  | UnaryOp o l q =>
   cases o with
   | USub=>exact AM C (Oq (snd a C l hn h).1) rfl
   | _=>exact nF h
  | _=>exact nF h
 | .not a,c,X,EX,tn,C,e,hn,h=>by
  cases e with
  | UnaryOp o l q =>
   cases o with
   | Not =>
    obtain ⟨h1,h2⟩:=snd a C (tn:=tn) l hn h
    exact ⟨Os h1,fun ht=>MP (h2 ht)⟩
   | _=>exact nF h
  | _=>exact nF h
 | .cmp o a b,c,X,EX,tn,C,e,hn,h=>by
  cases e with
  | Compare l ops rs q =>
   match ops,rs,h with
   | [op],[r],h =>
    obtain ⟨h,h4⟩:=Ab (show ((op==A6 o) && ckE c a l && ckE c b r && Dw r)=true from h)
    obtain ⟨h,h3⟩:=Ab h
    obtain ⟨h1,h2⟩:=Ab h
    cases beq_iff_eq.mp h1
    obtain ⟨n1,n2⟩:=Ax hn
    have A:=(snd a C (tn:=tn) l n1 h2).1
    have B:=(snd b C (tn:=tn) r n2 h3).1
    exact ⟨On C.K C.hu A B (Dx h4),fun _=>MM C.K C.hu A B (Dx h4)⟩
   | [],_,h=>exact nF h
   | [_],[],h=>exact nF h
   | [_],_ :: _ :: _,h=>exact nF h
   | _ :: _ :: _,_,h=>exact nF h
  | _=>exact nF h
 | .chain o o' a b d,c,X,EX,tn,C,e,hn,h=>by
  cases e with
  | Compare l ops rs q =>
   match ops,rs,h with
   | [op,op'],[r,r'],h =>
    obtain ⟨h,h6⟩:=Ab (show ((op==A6 o) && (op'==A6 o') && ckE c a l && ckE c b r && ckE c d r' && Dw r')=true from h)
    obtain ⟨h,h5⟩:=Ab h
    obtain ⟨h,h4⟩:=Ab h
    obtain ⟨h,h3⟩:=Ab h
    obtain ⟨h1,h2⟩:=Ab h
    cases beq_iff_eq.mp h1
    cases beq_iff_eq.mp h2
    obtain ⟨n1,n2⟩:=Ax hn
    obtain ⟨n2,n3⟩:=Ax n2
    have A:=(snd a C (tn:=tn) l n1 h3).1
    have B:=(snd b C (tn:=tn) r n2 h4).1
    have D:=(snd d C (tn:=tn) r' n3 h5).1
    exact ⟨Lp C.K C.hu A B D (Dx h6),fun _=>J4 C.K C.hu A B D (Dx h6)⟩
   | [],_,h=>exact nF h
   | [_],_,h=>exact nF h
   | [_,_],[],h=>exact nF h
   | [_,_],[_],h=>exact nF h
   | [_,_],_ :: _ :: _ :: _,h=>exact nF h
   | _ :: _ :: _ :: _,_,h=>exact nF h
  | _=>exact nF h
 | .isN n a,c,X,EX,tn,C,e,hn,h=>by
  cases e with
  | Compare l ops rs q =>
   match ops,rs,h with
   | [op],[r],h =>
    obtain ⟨h,h3⟩:=Ab (show ((op==if n then .IsNot else .Is) && Lz r && ckE c a l)=true from h)
    obtain ⟨h1,h2⟩:=Ab h
    cases beq_iff_eq.mp h1
    have A:=(snd a C (tn:=tn) l hn h3).1
    cases r with
    | Constant k j q' =>
     cases k with
     | none=>exact ⟨Op A,fun _=>MN A⟩
     | _=>cases h2
    | _=>cases h2
   | [],_,h=>exact nF h
   | [_],[],h=>exact nF h
   | [_],_ :: _ :: _,h=>exact nF h
   | _ :: _ :: _,_,h=>exact nF h
  | _=>exact nF h
 | .bo k es,c,X,EX,tn,C,e,hn,h=>by
  cases e with
  | BoolOp op xs q =>
   obtain ⟨h1,h2⟩:=Ab (show ((op==if k then .And else .Or) && ckEs c es xs)=true from h)
   cases beq_iff_eq.mp h1
   obtain ⟨a1,a2⟩:=(sndA es C (tn:=tn) xs hn h2).2 k q
   exact ⟨a1,fun ht=>(a2 ht).pt⟩
  | _=>exact nF h
 | .ix a i,c,X,EX,tn,C,e,hn,h=>by
  cases e with
  | Subscript l r q =>
   obtain ⟨h,h3⟩:=Ab (show (ckE c a l && ckE c i r && Bt r)=true from h)
   obtain ⟨h1,h2⟩:=Ab h
   obtain ⟨n1,n2⟩:=Ax hn
   exact AM C (Qo C.K (snd a C l n1 h1).1 (snd i C r n2 h2).1 h3) rfl
  | _=>exact nF h
 | .ixL a i,c,X,EX,tn,C,e,hn,h=>by
  cases e with
  | Subscript l r q =>
   obtain ⟨h,h3⟩:=Ab (show (ckE c a l && ckE c i r && Bt r)=true from h)
   obtain ⟨h1,h2⟩:=Ab h
   obtain ⟨n1,n2⟩:=Ax hn
   exact AM C (Ov (snd a C l n1 h1).1 (snd i C r n2 h2).1 h3) rfl
  | _=>exact nF h
 | .dNew,c,X,EX,tn,C,e,hn,h=>by
  cases e with
  | Dict ks vs q =>
   match ks,vs,h with
   | [],[],_=>exact AM C M0 rfl
   | [],_ :: _,h=>exact nF h
   | _ :: _,_,h=>exact nF h
  | _=>exact nF h
 | .slc a lo hi,c,X,EX,tn,C,e,hn,h=>by
  cases e with
  | Subscript l r q =>
   cases r with
   | Slice lo' hi' st q2 =>
    cases st with
    | none =>
     obtain ⟨h,h3⟩:=Ab (show (ckE c a l && Gv lo.isCN (ckE c lo) lo' && Gv hi.isCN (ckE c hi) hi')=true from h)
     obtain ⟨h1,h2⟩:=Ab h
     obtain ⟨n1,n2⟩:=Ax hn
     obtain ⟨n2,n3⟩:=Ax n2
     have cn:∀ {y:E},y.isCN=true->y=.cN:=fun {y} z=>by cases y <;> first | rfl | cases z
     have P1:PO X lo' (lO p EX tn lo):=by
      cases lo' with
      | none=>cases cn h2; exact Hb
      | some l' =>
       obtain ⟨g1,g2⟩:=Ab h2
       exact Hc (snd lo C l' n2 g2).1 (by simpa using g1)
     have P2:PO X hi' (lO p EX tn hi):=by
      cases hi' with
      | none=>cases cn h3; exact Hb
      | some l' =>
       obtain ⟨g1,g2⟩:=Ab h3
       exact Hc (snd hi C l' n3 g2).1 (by simpa using g1)
     exact AM C (Ox (snd a C l n1 h1).1 P1 P2) rfl
    | some _=>exact nF h
   | _=>exact nF h
  | _=>exact nF h
 | .call f es,c,X,EX,tn,C,e,hn,h=>by
  cases e with
  | Call fn xs ks q =>
   cases fn with
   | Name y q' =>
    cases ks with
    | nil =>
     obtain ⟨h,h7⟩:=Ab (show ((y==f.name) && glB c.sc y && Br y && ckEs c es xs && decide (es.len=f.ar) && decide (0 < es.len) && c.cm)=true from h)
     obtain ⟨h,h6⟩:=Ab h
     obtain ⟨h,h5⟩:=Ab h
     obtain ⟨h,h4⟩:=Ab h
     obtain ⟨h,h3⟩:=Ab h
     obtain ⟨h1,h2⟩:=Ab h
     cases beq_iff_eq.mp h1
     obtain ⟨s1,s2⟩:=B7 h4
     obtain ⟨f1,f2⟩:=hn (.fn f) (aac ..)
     have A:=(sndA es C (tn:=tn) xs (fun n m=>hn n (aaa _ m)) h4).1
     cases es with
     | nil=>cases of_decide_eq_true h6
     | cons e1 r1 =>
      cases xs with
      | nil=>cases s2
      | cons x1 xr=>exact AM C (MS C.pass f2 ((C.room h7).mono f1) (C.gl h2) (Bu h3).1 A s1 (of_decide_eq_true h5)) rfl
    | cons _ _=>exact nF h
   | _=>exact nF h
  | _=>exact nF h
 | .callB f es,c,X,EX,tn,C,e,hn,h=>by
  cases e with
  | Call fn xs ks q =>
   cases fn with
   | Name y q' =>
    cases ks with
    | nil =>
     obtain ⟨h,h7⟩:=Ab (show ((y==f.name) && glB c.sc y && Br y && ckEs c es xs && decide (es.len=f.ar) && decide (0 < es.len) && c.cm)=true from h)
     obtain ⟨h,h6⟩:=Ab h
     obtain ⟨h,h5⟩:=Ab h
     obtain ⟨h,h4⟩:=Ab h
     obtain ⟨h,h3⟩:=Ab h
     obtain ⟨h1,h2⟩:=Ab h
     cases beq_iff_eq.mp h1
     obtain ⟨s1,s2⟩:=B7 h4
     obtain ⟨f1,f2⟩:=hn (.fn f) (aac ..)
     have A:=(sndA es C (tn:=tn) xs (fun n m=>hn n (aaa _ m)) h4).1
     cases es with
     | nil=>cases of_decide_eq_true h6
     | cons e1 r1 =>
      cases xs with
      | nil=>cases s2
      | cons x1 xr=>exact AM C (Lr C.pass f2 ((C.room h7).mono f1) (C.gl h2) (Bu h3).1 A s1 (of_decide_eq_true h5)) rfl
    | cons _ _=>exact nF h
   | _=>exact nF h
  | _=>exact nF h
 | .bi b es,c,X,EX,tn,C,e,hn,h=>by
  cases e with
  | Call fn xs ks q =>
   cases fn with
   | Name y q' =>
    cases ks with
    | nil =>
     obtain ⟨h,h6⟩:=Ab (show ((y==Ly b) && glB c.sc y && Qs b && ckEs c es xs && decide (0 < es.len) && (c.cm || Fc b))=true from h)
     obtain ⟨h,h5⟩:=Ab h
     obtain ⟨h,h4⟩:=Ab h
     obtain ⟨h,h3⟩:=Ab h
     obtain ⟨h1,h2⟩:=Ab h
     cases beq_iff_eq.mp h1
     obtain ⟨s1,s2⟩:=B7 h4
     have A:=(sndA es C (tn:=tn) xs hn h4).1
     cases es with
     | nil=>cases of_decide_eq_true h5
     | cons e1 r1 =>
      cases xs with
      | nil=>cases s2
      | cons x1 xr =>
       refine AM C ?_ rfl
       cases b with
       | len=>exact Oy C.blt A s1 (C.gl h2)
       | min=>exact OB C.blt A s1 (C.calm (by rw [show Fc .min=false from rfl,acp] at h6; exact h6)) (C.gl h2)
       | maxL=>exact MU C.blt A s1 (C.calm (by rw [show Fc .maxL=false from rfl,acp] at h6; exact h6)) (C.gl h2)
       | int=>exact Oz C.blt A s1 (C.gl h2)
       | list=>exact MT C.blt A s1 (C.gl h2)
       | tuple=>exact Ls C.blt A s1 (C.gl h2)
       | tupleL=>exact Kb C.blt A s1 (C.gl h2)
       | all=>exact OA C.blt A s1 (C.calm (by rw [show Fc .all=false from rfl,acp] at h6; exact h6)) (C.gl h2)
    | cons _ _=>exact nF h
   | _=>exact nF h
  | _=>exact nF h
 | .isi a k,c,X,EX,tn,C,e,hn,h=>by
  cases e with
  | Call fn xs ks q =>
   cases fn with
   | Name y q' =>
    match xs,ks,h with
    | [l,r],[],h =>
     obtain ⟨h,h5⟩:=Ab (show ((y==("isinstance" : Str)) && glB c.sc y && ckE c a l && MY c k r && As l)=true from h)
     obtain ⟨h,h4⟩:=Ab h
     obtain ⟨h,h3⟩:=Ab h
     obtain ⟨h1,h2⟩:=Ab h
     cases beq_iff_eq.mp h1
     obtain ⟨n1,n2⟩:=Ax hn
     obtain ⟨v,cv,e1,e2,e3,e4⟩:=Qv C h4 (fun n e=>n1 _ (by subst e; exact aaG.mpr rfl))
     exact AM C (OG C (snd a C l n2 h3).1 e1 h5 e3 (C.gl h2) e2 e4) rfl
    | [],_,h=>exact nF h
    | [_],_,h=>exact nF h
    | _ :: _ :: _ :: _,_,h=>exact nF h
    | [_,_],_ :: _,h=>exact nF h
   | _=>exact nF h
  | _=>exact nF h
 | .isiM a ns,c,X,EX,tn,C,e,hn,h=>by
  cases e with
  | Call f xs ks q =>
   cases f with
   | Name x np =>
    match xs,ks,h with
    | [l,r],[],h =>
     obtain ⟨h,h5⟩:=Ab (show ((x==("isinstance" : Str)) && glB c.sc x && ckE c a l && NJ c ns r && As l)=true from h)
     obtain ⟨h,h4⟩:=Ab h
     obtain ⟨h,h3⟩:=Ab h
     obtain ⟨h1,h2⟩:=Ab h
     cases beq_iff_eq.mp h1
     obtain ⟨n1,n2⟩:=Ax hn
     cases r with
     | Tuple es kt pt =>
      obtain ⟨g1,g2⟩:=Ab (show (Ex c ns es && decide (ns.length<=1000))=true from h4)
      exact AM C (MZ C (snd a C l n2 h3).1 h5 (C.gl h2) (fun n hm=>n1 _ (aaS.mpr ⟨n,hm,rfl⟩)) g1 (of_decide_eq_true g2)) rfl
     | _=>exact nF h4
    | [],_,h=>exact nF h
    | [_],_,h=>exact nF h
    | _ :: _ :: _ :: _,_,h=>exact nF h
    | [_,_],_ :: _,h=>exact nF h
   | _=>exact nF h
  | _=>exact nF h
 | .comp0 nl fr g it elt,c,X,EX,tn,C,e,hn,h=>by
  cases e with
  | ListComp elt' gens scope q =>
   obtain ⟨tg,iter,ifs,rfl,h⟩:=Gu h
   obtain ⟨h,h7⟩:=Ab h
   obtain ⟨h,h6⟩:=Ab h
   obtain ⟨h,h5⟩:=Ab h
   obtain ⟨h,h4⟩:=Ab h
   obtain ⟨h,h3⟩:=Ab h
   obtain ⟨h,h2⟩:=Ab h
   obtain ⟨h,h1⟩:=Ab h
   obtain ⟨hcm,h0⟩:=Ab h
   cases ifs with
   | cons _ _=>cases h0
   | nil =>
   have h2:=of_decide_eq_true h2
   subst h2
   obtain ⟨S,nd⟩:=NL C h1
   obtain ⟨n1,n2⟩:=Ax hn
   refine AM C (Lx (C.calm hcm) S (sndI it C iter n1 h4) (fun i hi=>of_decide_eq_true (aat.mp h3 i hi)) (fun z=>⟨?_,?_⟩) (EF h5)) rfl
   ·exact HW (C.blk nd z) h6
   ·exact (snd elt (C.blk nd z) elt' (fun n m=>(n2 n m).blk) h7).1
  | _=>exact nF h
theorem sndA {p:Px} {lv:Nat}:∀ (es:Es) {c:CkC} {X:Cx} {EX:EXT} {tn:List Nat} (C:Ct p c lv X EX) (xs:List Expr),(∀ n ∈ es.need,NeedOk p lv X n)->ckEs c es xs=true ->
  PA X xs (lEs p EX tn es)/\∀ (k:Bool) (q:Pos),PE X (.BoolOp (if k then .And else .Or) xs q) (lE p EX tn (.bo k es))/\(es.tsts=true->PW X (.BoolOp (if k then .And else .Or) xs q) (lT p EX tn (.bo k es)))
 | .nil,c,X,EX,tn,C,xs,hn,h=>by
  cases xs with
  | nil =>
   refine ⟨MK,fun k q=>⟨fun pins s σ H Q I h=>?_,fun _ wh pins s σ H Q I h=>?_⟩⟩
   ·obtain ⟨τ,rfl,hF,j,k',hj,h⟩:=h
    simp only [ev,evBo] at h
    exact nE h
   ·obtain ⟨τ,rfl,hF,hj,h⟩:=h
    simp only [tv,ev,evBo] at h
    exact nE h
  | cons _ _=>exact nF h
 | .cons e r,c,X,EX,tn,C,xs,hn,h=>by
  cases xs with
  | nil=>exact nF h
  | cons x xs =>
   obtain ⟨h,h3⟩:=Ab (show (ckE c e x && As x && ckEs c r xs)=true from h)
   obtain ⟨h1,h2⟩:=Ab h
   obtain ⟨n1,n2⟩:=Ax hn
   obtain ⟨A1,A2⟩:=snd e C (tn:=tn) x n1 h1
   obtain ⟨B1,B2⟩:=sndA r C (tn:=tn) xs n2 h3
   refine ⟨Lj A1 B1 (An h2),fun k q=>?_⟩
   cases r with
   | nil =>
    cases xs with
    | nil=>exact ⟨Qm A1,fun z=>Ou (A2 (Ab (show (e.tst && true)=true from z)).1)⟩
    | cons _ _=>exact nF h3
   | cons e' r' =>
    cases xs with
    | nil=>exact nF h3
    | cons x' xs' =>
     obtain ⟨C1,C2⟩:=B2 k q
     exact ⟨Ot A1 C1,fun z=>let ⟨z1,z2⟩:=Ab (show (e.tst && (Es.cons e' r').tsts)=true from z); MQ (A2 z1) (C2 z2)⟩
theorem sndI {p:Px} {lv:Nat}:∀ (it:It) {c:CkC} {X:Cx} {EX:EXT} {tn:List Nat} {tg:Expr} (C:Ct p c lv X EX) (e:Expr),(∀ n ∈ it.need,NeedOk p lv X n)->ckI c tg it e=true->PI X tg e (lI p EX tn it)
 | .seq a,c,X,EX,tn,tg,C,e,hn,h=>MW C.K (snd a C e hn h).1
 | .seqL a,c,X,EX,tn,tg,C,e,hn,h=>Lv C.K (snd a C e hn h).1
 | .r1 a,c,X,EX,tn,tg,C,e,hn,h=>by
  cases e with
  | Call fn xs ks q =>
   cases fn with
   | Name y q' =>
    match xs,ks,h with
    | [l],[],h =>
     obtain ⟨h,h4⟩:=Ab (show ((y==("range" : Str)) && glB c.sc y && ckE c a l && As l)=true from h)
     obtain ⟨h,h3⟩:=Ab h
     obtain ⟨h1,h2⟩:=Ab h
     cases beq_iff_eq.mp h1
     exact OC (snd a C l hn h3).1 h4 (C.gl h2) (C.blt _ (by simp [Ev]))
    | [],_,h=>exact nF h
    | _ :: _ :: _,_,h=>exact nF h
    | [_],_ :: _,h=>exact nF h
   | _=>exact nF h
  | _=>exact nF h
end
end Pu
end
section
namespace Pu
open PySem PySem.Spec PyProof.Rows PySem.W L2
inductive Md where
 | sh
 | ow (k:Nat)
 | br (k:Nat)
 | dead
 deriving DecidableEq
noncomputable abbrev Ms:=List Md
noncomputable def Md.tn:Md->Nat
 | .sh=>0
 | .ow k=>k
 | .br k=>k
 | .dead=>99
noncomputable def Md.le:Md->Md->Bool
 | _,.dead=>true
 | .sh,.sh=>true
 | .ow _,.sh=>true
 | .ow k,.ow k'=>decide (0 < k'/\k'<=k)
 | .br k,.br k'=>decide (k=k')
 | _,_=>false
noncomputable def Md.small:Md->Bool
 | .ow k=>decide (0 < k/\k < 90)
 | .br k=>decide (k < 90)
 | _=>true
noncomputable def Md.meet (a b:Md):Md:=if a=b then a else match a,b with
 | .ow k,.ow k'=>if 0 < min k k' then .ow (min k k') else .sh
 | .ow _,.sh=>.sh
 | .sh,.ow _=>.sh
 | _,_=>.dead
noncomputable def tnM (m:Ms):List Nat:=m.map Md.tn
theorem AR {m:Ms} {i j:Nat} (h:(tnM m)[i]?=some j):∃ d,m[i]?=some d/\d.tn=j:=by
 unfold tnM at h
 rw [aal] at h
 exact aar.mp h
theorem AL {m:Ms} {i:Nat} {d:Md} (h:m[i]?=some d):(tnM m)[i]?=some d.tn:=by
 unfold tnM; rw [aal,h]; rfl
noncomputable def Own (m:Ms) (τ:Ft) (a:Addr):Prop:=∃ (i:Nat) (t:T) (k:Nat),τ[i]?=some (some t)/\m[i]?=some (.ow k)/\a ∈ t.adr k
noncomputable def Md.low:Md->Nat
 | .sh=>0
 | .ow _=>0
 | .br k=>k
 | .dead=>99
structure Sf (p:Px) (H0:Hp) (A0:Addr->Prop) (m:Ms) (τ:Ft) (H:Hp):Prop where
 len:τ.length=m.length
 small:∀ d ∈ m,d.small=true
 same:Same H0 H
 ok:Fok p (tnM m) τ H
 own:∀ (i:Nat) (t:T) (k:Nat) (a:Addr),τ[i]?=some (some t)->m[i]?=some (.ow k)->a ∈ t.adr k->H0 a=none/\Mu H a
 src:∀ a,Sh (tnM m) τ a->H0 a=none\/A0 a
 nd:∀ (i:Nat) (t:T) (k:Nat),τ[i]?=some (some t)->m[i]?=some (.ow k)->t.Nd k
 sep:∀ (i j:Nat) (t u:T) (k:Nat) (d:Md),i ≠ j->τ[i]?=some (some t)->m[i]?=some (.ow k)->τ[j]?=some (some u)->m[j]?=some d->d ≠ .dead->∀ a ∈ t.adr k,a ∉ u.rest d.low
 top:∀ (i j:Nat) (t u:T) (k k2:Nat),τ[i]?=some (some t)->m[i]?=some (.ow k)->τ[j]?=some (some u)->m[j]?=some (.br k2)->∀ a ts,t=.lst a ts->a ∉ u.rest 0
section
variable {p:Px} {H0:Hp} {A0:Addr->Prop} {m m':Ms} {τ:Ft} {H H':Hp}
theorem Sf.at (S:Sf p H0 A0 m τ H) {i:Nat} {t:T} {d:Md} (e:τ[i]?=some (some t)) (h:m[i]?=some d) (hd:d ≠ .dead):t.Ok p H:=by
 refine S.ok i t d.tn e (AL h) ?_
 have:=S.small d (aaf h)
 cases d with
 | sh=>exact (by decide:(0:Nat) < 90)
 | ow k=>exact (of_decide_eq_true this).2
 | br k=>exact of_decide_eq_true this
 | dead=>exact absurd rfl hd
theorem Sf.ownOk (S:Sf p H0 A0 m τ H) {a:Addr} (o:Own m τ a):H0 a=none/\Mu H a:=by
 obtain ⟨i,t,k,e,h,q⟩:=o
 exact S.own i t k a e h q
theorem Sf.disj (S:Sf p H0 A0 m τ H) {a:Addr} (o:Own m τ a):¬ Sh (tnM m) τ a:=by
 rintro ⟨j,u,jj,e',h',l,q'⟩
 obtain ⟨i,t,k,e,h,q⟩:=o
 obtain ⟨d,hd,rfl⟩:=AR h'
 have hdd:d ≠ .dead:=fun z=>by subst z; exact absurd l (by decide)
 by_cases z:i=j
 ·subst z
  rw [h] at hd; cases hd
  rw [e] at e'
  cases e'
  exact (S.nd i _ k e h).2 a q' q
 ·refine S.sep i j t u k d z e h e' hd hdd a q (T.rest_le u ?_ q')
  cases d <;> simp [Md.low,Md.tn]
theorem Sf.grow (S:Sf p H0 A0 m τ H) (s:Same H H'):Sf p H0 A0 m τ H' :=
 ⟨S.len,S.small,S.same.trans s,S.ok.same s,fun i t k a e h q=>⟨(S.own i t k a e h q).1,let ⟨vs,z,mu⟩:=(S.own i t k a e h q).2; ⟨vs,s _ _ z,mu⟩⟩,S.src,S.nd,S.sep,S.top⟩
noncomputable def leM (m m':Ms):Bool:=decide (m.length=m'.length) && (m.zip m').all fun q=>q.1.le q.2
theorem CV (h:leM m m'=true) {i:Nat} {d':Md} (e:m'[i]?=some d'):∃ d,m[i]?=some d/\d.le d'=true:=by
 unfold leM at h
 obtain ⟨h1,h2⟩:=Ab h
 have h1:=of_decide_eq_true h1
 have hi:i < m.length:=by
  rw [h1]; exact (aaz.mp e).1
 refine ⟨m[i],aah hi,aat.mp h2 (m[i],d') (Jq (aah hi) e)⟩
theorem F0 {m:Ms} (h:∀ d ∈ m,d.small=true):leM m m=true:=by
 unfold leM
 simp only [decide_true,abp]
 refine aat.mpr fun q hq=>?_
 obtain ⟨i,hi,e⟩:=abf hq
 have hi':i < m.length:=by simpa using hi
 have hs:=h m[i] (abB hi')
 have:q=(m[i],m[i]):=by rw [<- e]; simp
 rw [this]
 generalize m[i]=d at hs
 cases d <;> simp_all [Md.le,Md.small]
theorem Sf.weak (S:Sf p H0 A0 m τ H) (h:leM m m'=true):Sf p H0 A0 m' τ H:=by
 have hl:m.length=m'.length:=of_decide_eq_true (Ab (show (decide (m.length=m'.length) && _)=true from h)).1
 have shd:∀ a,Sh (tnM m') τ a->Sh (tnM m) τ a\/Own m τ a:=by
  rintro a ⟨i,t,j,e,ej,l,q⟩
  obtain ⟨d',hd',rfl⟩:=AR ej
  obtain ⟨d,hd,le⟩:=CV h hd'
  have sm:=S.small d (aaf hd)
  cases d' with
  | dead=>exact absurd l (by decide)
  | sh =>
   cases d with
   | sh=>exact .inl ⟨i,t,0,e,AL hd,by decide,q⟩
   | ow k =>
    rcases (T.all_iff t k).mp q with z | z
    ·exact .inr ⟨i,t,k,e,hd,z⟩
    ·exact .inl ⟨i,t,k,e,AL hd,(of_decide_eq_true sm).2,z⟩
   | _=>cases le
  | ow k' =>
   cases d with
   | ow k =>
    rcases (T.all_iff t k).mp (T.rest_le t (aas _) q) with z | z
    ·exact .inr ⟨i,t,k,e,hd,z⟩
    ·exact .inl ⟨i,t,k,e,AL hd,(of_decide_eq_true sm).2,z⟩
   | _=>cases le
  | br k' =>
   cases d with
   | br k =>
    have:k=k':=of_decide_eq_true le
    subst this
    exact .inl ⟨i,t,k,e,AL hd,of_decide_eq_true sm,q⟩
   | _=>cases le
 have ownd:∀ {i:Nat} {k':Nat},m'[i]?=some (.ow k')->∃ k,m[i]?=some (.ow k)/\k'<=k:=by
  intro i k' hd'
  obtain ⟨d,hd,le⟩:=CV h hd'
  cases d with
  | ow k=>exact ⟨k,hd,(of_decide_eq_true le).2⟩
  | _=>cases le
 refine ⟨S.len.trans hl,fun d' hd'=>?_,S.same,fun i t j e ej l=>?_,fun i t k' a e hk q=>?_,fun a sh=>?_,fun i t k' e hk=>?_,fun i j t u k' d' ne e hk e' hd' nd a q=>?_,fun i j t u k' k2 e hk e' hd' a ts z=>?_⟩
 ·obtain ⟨i,hi,rfl⟩:=abf hd'
  obtain ⟨d,hd,le⟩:=CV h (aah hi)
  have sm:=S.small d (aaf hd)
  generalize m'[i]=d' at le
  cases d' <;> cases d <;> simp_all [Md.le,Md.small] <;> omega
 ·obtain ⟨d',hd',rfl⟩:=AR ej
  obtain ⟨d,hd,le⟩:=CV h hd'
  refine S.at e hd fun z=>?_
  subst z
  cases d' <;> first | exact absurd l (by decide) | cases le
 ·obtain ⟨k,hd,le⟩:=ownd hk
  exact S.own i t k a e hd (T.adr_le t le q)
 ·rcases shd a sh with z | z
  ·exact S.src a z
  ·exact .inl (S.ownOk z).1
 ·obtain ⟨k,hd,le⟩:=ownd hk
  exact T.nd_le t le (S.nd i t k e hd)
 ·obtain ⟨k,hd,le⟩:=ownd hk
  obtain ⟨d,hdj,lj⟩:=CV h hd'
  have hdd:d ≠ .dead:=fun z=>by subst z; cases d' <;> first | exact nd rfl | cases lj
  refine fun q'=>S.sep i j t u k d ne e hd e' hdj hdd a (T.adr_le t le q) (T.rest_le u ?_ q')
  cases d' <;> cases d <;> first | exact aas _ | (cases lj; done) | exact absurd rfl nd | skip
  exact acr (of_decide_eq_true lj)
 ·obtain ⟨k,hd,le⟩:=ownd hk
  obtain ⟨d,hdj,lj⟩:=CV h hd'
  cases d with
  | br k3=>exact S.top i j t u k k3 e hd e' hdj a ts z
  | _=>cases lj
noncomputable def up (l:List Nat):List Nat:=l ++ l.map (· + 1000)
theorem HX {τ:Ft} {x i:Nat} {s:Option T} (h:i ≠ x):(vτ (τ.set x s))[i]?=(vτ τ)[i]?:=by
 unfold vτ
 rw [aal,aal,aap (Ne.symm h)]
theorem Qw {τ τ':Ft} {i:Nat} (h:τ'[i]?=τ[i]?):(vτ τ')[i]?=(vτ τ)[i]?:=by
 unfold vτ
 rw [aal,aal,h]
theorem F1 {x i:Nat} {l:List Nat} (h:i + 1000 ∉ x :: (x + 1000) :: l):i ≠ x:=fun z=>h (by rw [z]; exact aaa _ (aac ..))
theorem nup {i:Nat} {l:List Nat} (h:i + 1000 ∉ up l):i ∉ l:=fun z=>h (aag _ (aaS.mpr ⟨i,z,rfl⟩))
theorem OH (τ:Ft) (x:Nat) (t:T):vτ (τ.set x (some t))=(vτ τ).set x (some t.val):=by
 unfold vτ
 rw [aa9]; rfl
theorem Qx {τ:Ft} {x:Nat} {t t':T} (h:τ[x]?=some (some t)) (e:t'.val=t.val):vτ (τ.set x (some t'))=vτ τ:=by
 rw [OH,e]
 refine acx fun i=>?_
 by_cases z:x=i
 ·subst z
  rw [aba,Cu h]; rfl
 ·rw [aap z]
theorem Ey {i x y:Nat} {l:List Nat} (h:i ∈ [x,y]):i ∈ x :: y :: l:=by
 rcases aai.mp h with e | e
 ·rw [e]; exact aac ..
 ·rw [aaG.mp e]; exact aaa _ (aac ..)
structure Stp (m m':Ms) (w0:List Nat) (τ τ':Ft) (H H':Hp):Prop where
 keep:∀ a u,H a=some u->¬ Own m τ a->H' a=some u
 grow:∀ a,Own m' τ' a->Own m τ a\/H a=none
 wr:∀ i,i ∉ w0->τ'[i]?=τ[i]?
 ad:∀ i,i + 1000 ∉ w0->(vτ τ')[i]?=(vτ τ)[i]?
theorem Own.weak (h:leM m m'=true) {a:Addr} (o:Own m' τ a):Own m τ a:=by
 obtain ⟨i,t,k,e,hk,q⟩:=o
 obtain ⟨d,hd,le⟩:=CV h hk
 cases d with
 | ow k2=>exact ⟨i,t,k2,e,hd,T.adr_le t (of_decide_eq_true le).2 q⟩
 | _=>cases le
theorem Stp.refl (wr:List Nat) (h:leM m m'=true) (s:Same H H'):Stp m m' wr τ τ H H':=⟨fun a u e _=>s a u e,fun a o=>.inl (o.weak h),fun _ _=>rfl,fun _ _=>rfl⟩
theorem Stp.trans {m1 m2 m3:Ms} {w1 w2:List Nat} {τ1 τ2 τ3:Ft} {H1 H2 H3:Hp} (a:Stp m1 m2 w1 τ1 τ2 H1 H2) (b:Stp m2 m3 w2 τ2 τ3 H2 H3):Stp m1 m3 (w1 ++ w2) τ1 τ3 H1 H3:=by
 refine ⟨fun x u e n=>b.keep x u (a.keep x u e n) fun o=>?_,fun x o=>?_,fun i hi=>?_,fun i hi=>(b.ad i fun h=>hi (aag _ h)).trans (a.ad i fun h=>hi (aan _ h))⟩
 ·rcases a.grow x o with z | z
  ·exact n z
  ·rw [e] at z; cases z
 ·rcases b.grow x o with z | z
  ·exact a.grow x z
  ·cases q:H1 x with
   | none=>exact .inr rfl
   | some u =>
    refine .inl (Classical.byContradiction fun n=>?_)
    rw [a.keep x u q n] at z; cases z
 ·rw [b.wr i (fun h=>hi (aag _ h)),a.wr i (fun h=>hi (aan _ h))]
theorem Stp.mono {w1 w2:List Nat} {τ':Ft} (a:Stp m m' w1 τ τ' H H') (h:∀ i ∈ w1,i ∈ w2):Stp m m' w2 τ τ' H H':=⟨a.keep,a.grow,fun i hi=>a.wr i fun q=>hi (h i q),fun i hi=>a.ad i fun q=>hi (h _ q)⟩
end
noncomputable def mdK (k:Nat):Md:=if k=0 then .sh else .ow k
theorem Fd {k k':Nat} (h:mdK k=.ow k'):k'=k/\k ≠ 0:=by unfold mdK at h; split at h <;> simp_all
theorem Qy {k k':Nat} (h:mdK k=.br k'):False:=by unfold mdK at h; split at h <;> simp_all
section
variable {p:Px} {H0:Hp} {A0:Addr->Prop} {m m':Ms} {τ:Ft} {H H1:Hp}
theorem Ad {α:Type} {l:List α} {x i:Nat} {v w:α} (h:(l.set x v)[i]?=some w):(i=x/\w=v)\/(i ≠ x/\l[i]?=some w):=by
 by_cases z:x=i
 ·subst z
  rw [aba] at h
  cases q:l[x]? with
  | none=>rw [q] at h; cases h
  | some y =>
   rw [q] at h
   exact .inl ⟨rfl,by simpa using h.symm⟩
 ·rw [aap z] at h
  exact .inr ⟨fun e=>z e.symm,h⟩
theorem LE {x k ke:Nat} {t:T} (S:Sf p H0 A0 m τ H) (R:Rs p (Sh (tnM m) τ) H H1 0 ke t) (hk:k<=ke) (hx:x < m.length) (h90:k < 90):Sf p H0 A0 (m.set x (mdK k)) (τ.set x (some t)) H1/\Stp m (m.set x (mdK k)) [x,x + 1000] τ (τ.set x (some t)) H H1:=by
 have S1:=S.grow R.same
 have dom:∀ {i:Nat} {u:T} {d:Md},τ[i]?=some (some u)->m[i]?=some d->d ≠ .dead->∀ a ∈ u.rest 0,H a ≠ none:=fun e hd nd a q=>(S.at e hd nd).dom q
 have tnew:∀ a ∈ t.adr k,H a=none:=fun a q=>(R.new a (T.adr_le t hk q)).1
 have town:∀ a,Own m τ a->a ∉ t.rest 0:=fun a o q=>by
  rcases R.src a q with z | z
  ·obtain ⟨_,vs,e,mu⟩:=S.ownOk o
   rw [e] at z; cases z
  ·exact S.disj o z
 have owns:∀ a,Own (m.set x (mdK k)) (τ.set x (some t)) a->a ∈ t.adr k\/Own m τ a:=by
  rintro a ⟨i,u,k',e,hk',q⟩
  rcases Ad e with ⟨rfl,e2⟩ | ⟨ne,e⟩
  ·cases e2
   rcases Ad hk' with ⟨_,z⟩ | ⟨z,_⟩
   ·obtain ⟨rfl,_⟩:=Fd z.symm
    exact .inl q
   ·exact absurd rfl z
  ·rcases Ad hk' with ⟨z,_⟩ | ⟨_,z⟩
   ·exact absurd z ne
   ·exact .inr ⟨i,u,k',e,z,q⟩
 refine ⟨⟨by rw [aaF,aaF]; exact S.len,fun d hd=>?_,S1.same,fun i u j e ej l=>?_,fun i u k' a e hk' q=>?_,fun a sh=>?_,fun i u k' e hk'=>?_,fun i j u w k' d ne e hk' e' hd nd a q=>?_,fun i j u w k' k2 e hk' e' hd a ts z=>?_⟩,
  fun a u e _=>R.same a u e,fun a o=>?_,fun i hi=>?_,fun i hi=>HX (F1 hi)⟩
 ·rcases aaJ hd with z | z
  ·exact S.small d z
  ·subst z
   unfold mdK
   split
   ·rfl
   ·exact decide_eq_true ⟨by omega,h90⟩
 ·obtain ⟨d,hd,rfl⟩:=AR ej
  rcases Ad e with ⟨rfl,e2⟩ | ⟨ne,e⟩
  ·cases e2; exact R.ok
  ·rcases Ad hd with ⟨z,_⟩ | ⟨_,z⟩
   ·exact absurd z ne
   ·exact S1.ok i u _ e (AL z) l
 ·rcases Ad e with ⟨rfl,e2⟩ | ⟨ne,e⟩
  ·cases e2
   rcases Ad hk' with ⟨_,z⟩ | ⟨z,_⟩
   ·obtain ⟨rfl,_⟩:=Fd z.symm
    have:=R.new a (T.adr_le _ hk q)
    exact ⟨S.same.free this.1,this.2⟩
   ·exact absurd rfl z
  ·rcases Ad hk' with ⟨z,_⟩ | ⟨_,z⟩
   ·exact absurd z ne
   ·exact S1.own i u k' a e z q
 ·obtain ⟨i,u,j,e,ej,l,q⟩:=sh
  obtain ⟨d,hd,rfl⟩:=AR ej
  rcases Ad e with ⟨rfl,e2⟩ | ⟨ne,e⟩
  ·cases e2
   rcases R.src a (T.rest_le _ (aas _) q) with z | z
   ·exact .inl (S.same.free z)
   ·exact S.src a z
  ·rcases Ad hd with ⟨z,_⟩ | ⟨_,z⟩
   ·exact absurd z ne
   ·exact S.src a ⟨i,u,_,e,AL z,l,q⟩
 ·rcases Ad e with ⟨rfl,e2⟩ | ⟨ne,e⟩
  ·cases e2
   rcases Ad hk' with ⟨_,z⟩ | ⟨z,_⟩
   ·obtain ⟨rfl,_⟩:=Fd z.symm
    exact T.nd_le _ hk R.nd
   ·exact absurd rfl z
  ·rcases Ad hk' with ⟨z,_⟩ | ⟨_,z⟩
   ·exact absurd z ne
   ·exact S.nd i u k' e z
 ·rcases Ad e with ⟨rfl,e2⟩ | ⟨n1,e1⟩
  ·cases e2
   rcases Ad hk' with ⟨_,z⟩ | ⟨z,_⟩
   ·obtain ⟨rfl,_⟩:=Fd z.symm
    rcases Ad e' with ⟨z',_⟩ | ⟨n2,e3⟩
    ·exact absurd z'.symm ne
    ·rcases Ad hd with ⟨z',_⟩ | ⟨_,hd3⟩
     ·exact absurd z' n2
     ·exact fun q'=>dom e3 hd3 nd a (T.rest_le w (aas _) q') (tnew a q)
   ·exact absurd rfl z
  ·rcases Ad hk' with ⟨z,_⟩ | ⟨_,hk3⟩
   ·exact absurd z n1
   ·rcases Ad e' with ⟨z4,e2⟩ | ⟨n2,e3⟩
    ·cases e2
     exact fun q'=>town a ⟨i,u,k',e1,hk3,q⟩ (T.rest_le _ (aas _) q')
    ·rcases Ad hd with ⟨z,_⟩ | ⟨_,hd3⟩
     ·exact absurd z n2
     ·exact S.sep i j u w k' d ne e1 hk3 e3 hd3 nd a q
 ·rcases Ad hd with ⟨_,z'⟩ | ⟨n2,hd3⟩
  ·exact (Qy z'.symm).elim
  ·rcases Ad e' with ⟨z',_⟩ | ⟨_,e3⟩
   ·exact absurd z' n2
   ·rcases Ad e with ⟨z4,e2⟩ | ⟨n1,e1⟩
    ·cases e2
     rcases Ad hk' with ⟨_,z'⟩ | ⟨z',_⟩
     ·obtain ⟨z5,hk0⟩:=Fd z'.symm
      subst z
      have mem:a ∈ (T.lst a ts).adr k:=by
       cases k with
       | zero=>exact absurd rfl hk0
       | succ n=>exact aac ..
      exact fun q'=>dom e3 hd3 (by intro c; cases c) a q' (tnew a mem)
     ·exact absurd z4 z'
    ·rcases Ad hk' with ⟨z',_⟩ | ⟨_,hk3⟩
     ·exact absurd z' n1
     ·exact S.top i j u w k' k2 e1 hk3 e3 hd3 a ts z
 ·rcases owns a o with z | z
  ·exact .inr (tnew a z)
  ·exact .inl z
 ·rw [aap (fun z=>hi (by simp [z]))]
noncomputable def Ag (m:Ms) (is:List Nat) (d:Md):Ms:=is.foldl (fun m i=>m.set i d) m
theorem Cl (d:Md):∀ (is:List Nat) (m:Ms),(Ag m is d).length=m.length
 | [],m=>rfl
 | i :: is,m=>by show (Ag (m.set i d) is d).length=_; rw [Cl d is,aaF]
theorem Dy {d d':Md}:∀ {is:List Nat} {m:Ms} {i:Nat},(Ag m is d)[i]?=some d'->(i ∈ is/\d'=d)\/(i ∉ is/\m[i]?=some d')
 | [],m,i,h=>.inr ⟨by simp,h⟩
 | j :: is,m,i,h=>by
  rcases Dy (is:=is) (m:=m.set j d) h with ⟨z1,z2⟩ | ⟨z1,z2⟩
  ·exact .inl ⟨aaa _ z1,z2⟩
  ·rcases Ad z2 with ⟨rfl,e⟩ | ⟨ne,e⟩
   ·exact .inl ⟨aac ..,e⟩
   ·exact .inr ⟨fun q=>by rcases aai.mp q with q | q; exact ne q; exact z1 q,e⟩
theorem Fe:∀ {is:List Nat} {ts:List T} {τ τ':Ft} {i:Nat},BL is ts τ=some τ'->i ∉ is->τ'[i]?=τ[i]?
 | [],[],τ,τ',i,h,_=>by cases h; rfl
 | [],t :: ts,τ,τ',i,h,_=>by cases h
 | j :: is,[],τ,τ',i,h,_=>by cases h
 | j :: is,t :: ts,τ,τ',i,h,hi=>by
  rw [Fe (is:=is) (ts:=ts) (τ:=τ.set j (some t)) h (fun q=>hi (aaa _ q)),aap (fun z=>hi (by simp [z]))]
theorem IL {g:Tg} {t:T} {τ τ':Ft} {i:Nat} (h:Cg g t τ=some τ') (hi:i ∉ g.sl):τ'[i]?=τ[i]?:=by
 cases g with
 | nm k=>cases h; rw [aap (fun z=>hi (by simp [Tg.sl,z]))]
 | tp is=>cases t <;> first | cases h | exact Fe h hi
theorem OI {is:List Nat} {τ':Ft} (S:Sf p H0 A0 m τ H) (s:Same H H1) (hlen:τ'.length=τ.length) (hin:∀ (i:Nat) (u:T),i ∈ is->τ'[i]?=some (some u)->u.Ok p H1/\∀ a ∈ u.rest 0,(H0 a=none\/A0 a)/\¬ Own m τ a) (hout:∀ i,i ∉ is->τ'[i]?=τ[i]?) :
  Sf p H0 A0 (Ag m is .sh) τ' H1/\Stp m (Ag m is .sh) (up is) τ τ' H H1:=by
 have S1:=S.grow s
 have AM:∀ {i:Nat} {u:T} {d:Md},τ'[i]?=some (some u)->(Ag m is .sh)[i]?=some d->(d=.sh/\u.Ok p H1/\∀ a ∈ u.rest 0,(H0 a=none\/A0 a)/\¬ Own m τ a)\/(τ[i]?=some (some u)/\m[i]?=some d):=by
  intro i u d e hd
  rcases Dy hd with ⟨z1,z2⟩ | ⟨z1,z2⟩
  ·exact .inl ⟨z2,hin i u z1 e⟩
  ·exact .inr ⟨(hout i z1) ▸ e,z2⟩
 have town:∀ {u:T},(∀ a ∈ u.rest 0,(H0 a=none\/A0 a)/\¬ Own m τ a)->∀ a,Own m τ a->a ∉ u.rest 0:=fun src a o q=>(src a q).2 o
 refine ⟨⟨by rw [hlen,Cl]; exact S.len,fun d hd=>?_,S1.same,fun i u j e ej l=>?_,fun i u k' a e hk' q=>?_,fun a sh=>?_,fun i u k' e hk'=>?_,fun i j u w k' d ne e hk' e' hd nd a q=>?_,fun i j u w k' k2 e hk' e' hd a ts z=>?_⟩,
  fun a u e _=>s a u e,fun a o=>?_,fun i hi=>hout i fun z=>hi (aan _ z),fun i hi=>Qw (hout i (nup hi))⟩
 ·obtain ⟨i,hi,rfl⟩:=abf hd
  rcases Dy (aah hi) with ⟨_,z⟩ | ⟨_,z⟩
  ·rw [z]; rfl
  ·exact S.small _ (aaf z)
 ·obtain ⟨d,hd,rfl⟩:=AR ej
  rcases AM e hd with ⟨_,q,_⟩ | ⟨q1,q2⟩
  ·exact q
  ·exact S1.ok i u _ q1 (AL q2) l
 ·rcases AM e hk' with ⟨z,_⟩ | ⟨q1,q2⟩
  ·cases z
  ·exact S1.own i u k' a q1 q2 q
 ·obtain ⟨i,u,j,e,ej,l,q⟩:=sh
  obtain ⟨d,hd,rfl⟩:=AR ej
  rcases AM e hd with ⟨_,_,q'⟩ | ⟨q1,q2⟩
  ·exact (q' a (T.rest_le u (aas _) q)).1
  ·exact S.src a ⟨i,u,_,q1,AL q2,l,q⟩
 ·rcases AM e hk' with ⟨z,_⟩ | ⟨q1,q2⟩
  ·cases z
  ·exact S.nd i u k' q1 q2
 ·rcases AM e hk' with ⟨z,_⟩ | ⟨q1,q2⟩
  ·cases z
  ·rcases AM e' hd with ⟨_,_,q'⟩ | ⟨q3,q4⟩
   ·exact fun q5=>town q' a ⟨i,u,k',q1,q2,q⟩ (T.rest_le w (aas _) q5)
   ·exact S.sep i j u w k' d ne q1 q2 q3 q4 nd a q
 ·rcases AM e hk' with ⟨z,_⟩ | ⟨q1,q2⟩
  ·cases z
  ·rcases AM e' hd with ⟨z',_⟩ | ⟨q3,q4⟩
   ·cases z'
   ·exact S.top i j u w k' k2 q1 q2 q3 q4 a ts z
 ·obtain ⟨i,u,k',e,hk',q⟩:=o
  rcases AM e hk' with ⟨z,_⟩ | ⟨q1,q2⟩
  ·cases z
  ·exact .inl ⟨i,u,k',q1,q2,q⟩
theorem Sf.fine (S:Sf p H0 A0 m τ H) {a:Addr} (h:H a=none\/Sh (tnM m) τ a):(H0 a=none\/A0 a)/\¬ Own m τ a:=by
 rcases h with z | z
 ·refine ⟨.inl (S.same.free z),fun o=>?_⟩
  obtain ⟨_,vs,e,mu⟩:=S.ownOk o
  rw [e] at z; cases z
 ·exact ⟨S.src a z,fun o=>S.disj o z⟩
theorem LF {g:Tg} {t:T} {τ':Ft} (S:Sf p H0 A0 m τ H) (s:Same H H1) (ok:t.Ok p H1) (src:∀ a ∈ t.rest 0,(H0 a=none\/A0 a)/\¬ Own m τ a) (h:Cg g t τ=some τ'):Sf p H0 A0 (Ag m g.sl .sh) τ' H1/\Stp m (Ag m g.sl .sh) (up g.sl) τ τ' H H1:=by
 refine OI S s (Hm h) (fun i u hi e=>?_) (fun i hi=>IL h hi)
 rcases Gq (P:=fun o=>∀ w,o=some w->w.Ok p H1/\∀ a ∈ w.rest 0,(H0 a=none\/A0 a)/\¬ Own m τ a) h (fun w e=>by cases e; exact ⟨ok,src⟩)
   (fun a ts e u hu w e'=>by
    cases e'
    rcases e with e | e
    ·subst e
     exact ⟨T.oks_iff.mp ok.2 u hu,fun b q=>src b (T.mem_rests.mpr ⟨u,hu,q⟩)⟩
    ·subst e
     exact ⟨T.oks_iff.mp ok.2 u hu,fun b q=>src b (aaa _ (T.mem_rests.mpr ⟨u,hu,q⟩))⟩) i (some u) e with q | ⟨q,_⟩
 ·exact q u rfl
 ·exact absurd hi q
theorem RA {g:Tg} {t:T} {τ':Ft} (S:Sf p H0 A0 m τ H) (s:Same H H1) (ok:t.Ok p H1) (src:∀ a ∈ t.rest 0,H a=none\/Sh (tnM m) τ a) (h:Cg g t τ=some τ'):Sf p H0 A0 (Ag m g.sl .sh) τ' H1/\Stp m (Ag m g.sl .sh) (up g.sl) τ τ' H H1 :=
 LF S s ok (fun a q=>S.fine (src a q)) h
end
noncomputable def AG:List (Bool × Int)->T->Option T
 | [],t=>some t
 | (false,i) :: r,.lst _ ts=>(ixN ts.length i).bind fun j=>(ts[j]?).bind fun t=>AG r t
 | (true,i) :: r,.tup _ ts=>(ixN ts.length i).bind fun j=>(ts[j]?).bind fun t=>AG r t
 | _,_=>none
noncomputable def DU (s:T):List (Bool × Int)->T->Option T
 | [],_=>some s
 | (false,i) :: r,.lst a ts=>(ixN ts.length i).bind fun j=>(ts[j]?).bind fun t=>(DU s r t).map fun t'=>.lst a (ts.set j t')
 | (true,i) :: r,.tup a ts=>(ixN ts.length i).bind fun j=>(ts[j]?).bind fun t=>(DU s r t).map fun t'=>.tup a (ts.set j t')
 | _,_=>none
noncomputable def lnP:List (Bool × Int)->Nat
 | []=>0
 | (false,_) :: r=>lnP r + 1
 | (true,_) :: r=>lnP r
theorem Dg {α:Type} {l:List α} {j:Nat} {x:α} (h:l[j]?=some x):∃ l1 l2,l=l1 ++ x :: l2/\∀ y,l.set j y=l1 ++ y :: l2:=by
 obtain ⟨hj,e⟩:=aaz.mp h
 refine ⟨l.take j,l.drop (j + 1),?_,fun y=>?_⟩
 ·rw [<- e,List.getElem_cons_drop,List.take_append_drop]
 ·rw [List.set_eq_take_append_cons_drop,if_pos hj]
theorem Cy {l1 l2:List T} {c:T} {k:Nat}:T.Nds (l1 ++ c :: l2) k ↔ T.Nds (l1 ++ l2) k/\c.Nd k/\(∀ a ∈ c.adr k,a ∉ T.rests (l1 ++ l2) 0)/\(∀ a ∈ T.adrs (l1 ++ l2) k,a ∉ c.rest 0):=by
 induction l1 with
 | nil =>
  rw [abl,abl,T.nds_cons]
  exact ⟨fun ⟨a,b,c,d⟩=>⟨b,a,c,d⟩,fun ⟨b,a,c,d⟩=>⟨a,b,c,d⟩⟩
 | cons x l1 ih =>
  rw [aa4,aa4,T.nds_cons,T.nds_cons,ih]
  simp only [T.rests_append,T.adrs_append,T.rests,T.adrs,aae,not_or]
  constructor
  ·rintro ⟨h1,⟨h2,h3,h4,h5⟩,h6,h7⟩
   refine ⟨⟨h1,h2,fun a q=>⟨(h6 a q).1,(h6 a q).2.2⟩,fun a q=>h7 a ?_⟩,h3,fun a q=>⟨fun z=>h7 a (.inr (.inl q)) z,h4 a q⟩,fun a q=>?_⟩
   ·rcases q with q | q
    ·exact .inl q
    ·exact .inr (.inr q)
   ·rcases q with q | q
    ·exact (h6 a q).2.1
    ·exact h5 a q
  ·rintro ⟨⟨h1,h2,h6,h7⟩,h3,h4,h5⟩
   refine ⟨h1,⟨h2,h3,fun a q=>(h4 a q).2,fun a q=>h5 a (.inr q)⟩,fun a q=>⟨(h6 a q).1,h5 a (.inl q),(h6 a q).2⟩,fun a q=>?_⟩
   rcases q with q | q | q
   ·exact h7 a (.inl q)
   ·exact (h4 a q).1
   ·exact h7 a (.inr q)
section
variable {p:Px}
theorem CI:∀ (q:List (Bool × Int)) {t s:T} {k:Nat},AG q t=some s->lnP q<=k->(∀ b ∈ s.rest 0,b ∈ t.rest 0)/\(∀ b ∈ s.adr (k - lnP q),b ∈ t.adr k)
 | [],t,s,k,h,_=>by cases h; exact ⟨fun b q=>q,fun b q=>q⟩
 | (false,i) :: r,.lst a ts,s,k,h,hl=>by
  simp only [AG] at h
  obtain ⟨j,_,h⟩:=bS h
  obtain ⟨c,hc,h⟩:=bS h
  cases k with
  | zero=>simp [lnP] at hl
  | succ k =>
   obtain ⟨h1,h2⟩:=CI r (k:=k) h (by simp [lnP] at hl; exact hl)
   refine ⟨fun b q=>aaa _ (T.mem_rests.mpr ⟨c,aaf hc,h1 b q⟩),fun b q=>aaa _ (T.mem_adrs.mpr ⟨c,aaf hc,h2 b ?_⟩)⟩
   have:k + 1 - lnP ((false,i) :: r)=k - lnP r:=by simp only [lnP]; omega
   rw [this] at q; exact q
 | (true,i) :: r,.tup a ts,s,k,h,hl=>by
  simp only [AG] at h
  obtain ⟨j,_,h⟩:=bS h
  obtain ⟨c,hc,h⟩:=bS h
  obtain ⟨h1,h2⟩:=CI r (k:=k) h hl
  exact ⟨fun b q=>T.mem_rests.mpr ⟨c,aaf hc,h1 b q⟩,fun b q=>T.mem_adrs.mpr ⟨c,aaf hc,h2 b q⟩⟩
 | (false,i) :: r,.tup a ts,s,k,h,_=>by cases h
 | (true,i) :: r,.lst a ts,s,k,h,_=>by cases h
 | (b,i) :: r,.non,s,k,h,_=>by cases b <;> cases h
 | (b,i) :: r,.bl _,s,k,h,_=>by cases b <;> cases h
 | (b,i) :: r,.int _,s,k,h,_=>by cases b <;> cases h
 | (b,i) :: r,.str _,s,k,h,_=>by cases b <;> cases h
 | (b,i) :: r,.exn _ _,s,k,h,_=>by cases b <;> cases h
 | (b,i) :: r,.dic _ _ _,s,k,h,_=>by cases b <;> cases h
 | (b,i) :: r,.dit _ _ _,s,k,h,_=>by cases b <;> cases h
theorem LH {l1 l2:List T} {c c':T} {k:Nat} {F N:Addr->Prop} (hFN:∀ b,F b->N b) (nds:T.Nds (l1 ++ c :: l2) k) (nd':c'.Nd k) (hA:∀ b ∈ c'.adr k,b ∈ c.adr k\/F b) (hB:∀ b ∈ c'.rest k,b ∈ c.rest k\/N b) (hF:∀ b,F b->b ∉ T.rests (l1 ++ c :: l2) 0) (hN:∀ b,N b->b ∉ T.adrs (l1 ++ c :: l2) k) :
  T.Nds (l1 ++ c' :: l2) k/\(∀ b ∈ T.adrs (l1 ++ c' :: l2) k,b ∈ T.adrs (l1 ++ c :: l2) k\/F b)/\(∀ b ∈ T.rests (l1 ++ c' :: l2) k,b ∈ T.rests (l1 ++ c :: l2) k\/N b):=by
 obtain ⟨m1,m2,m3,m4⟩:=Cy.mp nds
 have inm:∀ b,b ∈ T.rests (l1 ++ l2) 0->b ∈ T.rests (l1 ++ c :: l2) 0:=fun b q=>by
  simp only [T.rests_append,T.rests,aae] at q ⊢
  rcases q with q | q
  ·exact .inl q
  ·exact .inr (.inr q)
 have ina:∀ b,b ∈ T.adrs (l1 ++ l2) k->b ∈ T.adrs (l1 ++ c :: l2) k:=fun b q=>by
  simp only [T.adrs_append,T.adrs,aae] at q ⊢
  rcases q with q | q
  ·exact .inl q
  ·exact .inr (.inr q)
 have cm:∀ b,b ∈ c.adr k->b ∈ T.adrs (l1 ++ c :: l2) k:=fun b q=>by
  simp only [T.adrs_append,T.adrs,aae]
  exact .inr (.inl q)
 refine ⟨Cy.mpr ⟨m1,nd',fun b q q'=>?_,fun b q q'=>?_⟩,fun b q=>?_,fun b q=>?_⟩
 ·rcases hA b q with z | z
  ·exact m3 b z q'
  ·exact hF b z (inm b q')
 ·rcases (T.all_iff c' k).mp q' with z | z
  ·rcases hA b z with y | y
   ·exact m4 b q ((T.all_iff c k).mpr (.inl y))
   ·exact hN b (hFN b y) (ina b q)
  ·rcases hB b z with y | y
   ·exact m4 b q ((T.all_iff c k).mpr (.inr y))
   ·exact hN b y (ina b q)
 ·simp only [T.adrs_append,T.adrs,aae] at q ⊢
  rcases q with q | q | q
  ·exact .inl (.inl q)
  ·exact (hA b q).imp (fun z=>.inr (.inl z)) id
  ·exact .inl (.inr (.inr q))
 ·simp only [T.rests_append,T.rests,aae] at q ⊢
  rcases q with q | q | q
  ·exact .inl (.inl q)
  ·exact (hB b q).imp (fun z=>.inr (.inl z)) id
  ·exact .inl (.inr (.inr q))
theorem CW {H H':Hp} {a:Addr} {t:T} (hkeep:∀ b w,H b=some w->b ≠ a->H' b=some w) (hpl:Mu H a) (ok:t.Ok p H) (hn:a ∉ t.rest 0):t.Ok p H':=by
 refine ok.keep fun b w e q=>hkeep b w e fun z=>?_
 subst z
 rcases q with q | q
 ·exact hn q
 ·obtain ⟨vs,z,mu⟩:=hpl
  rw [z] at e
  cases e
  rw [mu] at q; cases q
theorem HY {H H':Hp} {a:Addr} {ts us:List T} {F N:Addr->Prop} (hkeep:∀ b w,H b=some w->b ≠ a->H' b=some w) (hpl:Mu H a) (hs:(T.lst a us).Ok p H') (hFN:∀ b,F b->N b) :
  ∀ (q:List (Bool × Int)) {t:T} {k:Nat},AG q t=some (.lst a ts)->lnP q < k->t.Nd k->t.Ok p H->(∀ b,F b->b ∉ t.rest 0)->(∀ b,N b->b ∉ t.adr k)->(∀ b ∈ T.adrs us (k - 1 - lnP q),b ∈ T.adrs ts (k - 1 - lnP q)\/F b) ->
   (∀ b ∈ T.rests us (k - 1 - lnP q),b ∈ T.rests ts (k - 1 - lnP q)\/N b)->T.Nds us (k - 1 - lnP q) ->
   ∃ t',DU (.lst a us) q t=some t'/\t'.val=t.val/\t'.Ok p H'/\t'.Nd k/\(∀ b ∈ t'.adr k,b ∈ t.adr k\/F b)/\(∀ b ∈ t'.rest k,b ∈ t.rest k\/N b)
 | [],t,k,h,hl,nd,ok,hF,hN,hA,hB,hnd=>by
  cases h
  cases k with
  | zero=>cases hl
  | succ k =>
   have e:k + 1 - 1 - lnP []=k:=by simp [lnP]
   rw [e] at hA hB hnd
   obtain ⟨n1,n2⟩:=nd
   simp only [T.adr,aav] at n1
   refine ⟨_,rfl,rfl,hs,⟨?_,fun b m m'=>?_⟩,fun b m=>?_,fun b m=>hB b m⟩
   ·simp only [T.adr,aav]
    refine ⟨fun m=>?_,hnd.1⟩
    rcases hA a m with z | z
    ·exact n1.1 z
    ·exact hF a z (aac ..)
   ·simp only [T.adr,T.rest,aai] at m m'
    rcases m' with rfl | m'
    ·rcases hB b m with z | z
     ·exact n2 b z (aac ..)
     ·exact hN b z (aac ..)
    ·exact hnd.2 b m m'
   ·simp only [T.adr,aai] at m ⊢
    rcases m with m | m
    ·exact .inl (.inl m)
    ·exact (hA b m).imp .inr id
 | (false,i) :: r,.lst b0 cs,k,h,hl,nd,ok,hF,hN,hA,hB,hnd=>by
  simp only [AG] at h
  obtain ⟨j,hj,h⟩:=bS h
  obtain ⟨c,hc,h⟩:=bS h
  cases k with
  | zero=>cases hl
  | succ k =>
   have hl':lnP r < k:=by simp only [lnP] at hl; omega
   have e:k + 1 - 1 - lnP ((false,i) :: r)=k - 1 - lnP r:=by simp only [lnP]; omega
   rw [e] at hA hB hnd
   obtain ⟨n1,n2⟩:=nd
   simp only [T.adr,T.rest,aav] at n1 n2
   have nds:T.Nds cs k:=⟨n1.2,fun x hx hy=>n2 x hx (aaa _ hy)⟩
   have hcm:=aaf hc
   obtain ⟨l1,l2,e1,e2⟩:=Dg hc
   rw [e1] at nds
   obtain ⟨m1,m2,m3,m4⟩:=Cy.mp nds
   obtain ⟨ain,aad⟩:=CI r (k:=k) h (by omega)
   have aadr:a ∈ c.adr k:=aad a (by
    have:k - lnP r=(k - lnP r - 1) + 1:=by omega
    rw [this]; exact aac ..)
   obtain ⟨c',p1,p2,p3,p4,p5,p6⟩:=HY hkeep hpl hs hFN r h hl' m2 (T.oks_iff.mp ok.2 c hcm) (fun b f q=>hF b f (aaa _ (T.mem_rests.mpr ⟨c,hcm,q⟩))) (fun b n q=>hN b n (aaa _ (T.mem_adrs.mpr ⟨c,hcm,q⟩))) hA hB hnd
   obtain ⟨q1,q2,q3⟩:=LH hFN nds p4 p5 p6 (fun b f q=>hF b f (aaa _ (by rw [e1]; exact q))) (fun b n q=>hN b n (aaa _ (by rw [e1]; exact q)))
   have ab:b0 ≠ a:=fun z=>n1.1 (by rw [z,T.mem_adrs]; exact ⟨c,hcm,aadr⟩)
   have hv:(l1 ++ c' :: l2).map T.val=cs.map T.val:=by rw [e1]; simp [p2]
   refine ⟨.lst b0 (l1 ++ c' :: l2),by simp only [DU,hj,aaM,hc,p1,aa0,e2],rfl,⟨?_,T.oks_iff.mpr fun w hw=>?_⟩,⟨?_,fun b m m'=>?_⟩,fun b m=>?_,fun b m=>?_⟩
   ·rw [hv]
    rcases ok.1 with z | ⟨o,z⟩
    ·exact .inl (hkeep _ _ z ab)
    ·exact .inr ⟨o,hkeep _ _ z ab⟩
   ·rcases aae.mp hw with hw | hw
    ·refine CW hkeep hpl (T.oks_iff.mp ok.2 w (by rw [e1]; exact aan _ hw)) fun q=>m3 a aadr ?_
     rw [T.rests_append]; exact aan _ (T.mem_rests.mpr ⟨w,hw,q⟩)
    ·rcases aai.mp hw with rfl | hw
     ·exact p3
     ·refine CW hkeep hpl (T.oks_iff.mp ok.2 w (by rw [e1]; exact aag _ (aaa _ hw))) fun q=>m3 a aadr ?_
      rw [T.rests_append]; exact aag _ (T.mem_rests.mpr ⟨w,hw,q⟩)
   ·simp only [T.adr,aav]
    refine ⟨fun m=>?_,q1.1⟩
    rcases q2 b0 m with z | z
    ·exact n1.1 (by rw [e1]; exact z)
    ·exact hF b0 z (aac ..)
   ·simp only [T.adr,T.rest,aai] at m m'
    rcases m' with rfl | m'
    ·rcases q3 b m with z | z
     ·exact n2 b (by rw [e1]; exact z) (aac ..)
     ·exact hN b z (aac ..)
    ·exact q1.2 b m m'
   ·simp only [T.adr,aai] at m ⊢
    rcases m with m | m
    ·exact .inl (.inl m)
    ·rw [e1]; exact (q2 b m).imp .inr id
   ·simp only [T.rest] at m ⊢
    rw [e1]; exact q3 b m
 | (true,i) :: r,.tup b0 cs,k,h,hl,nd,ok,hF,hN,hA,hB,hnd=>by
  simp only [AG] at h
  obtain ⟨j,hj,h⟩:=bS h
  obtain ⟨c,hc,h⟩:=bS h
  have hl':lnP r < k:=hl
  have nds:T.Nds cs k:=nd
  have hcm:=aaf hc
  obtain ⟨l1,l2,e1,e2⟩:=Dg hc
  rw [e1] at nds
  obtain ⟨m1,m2,m3,m4⟩:=Cy.mp nds
  obtain ⟨ain,aad⟩:=CI r (k:=k) h (by omega)
  have aadr:a ∈ c.adr k:=aad a (by
   have:k - lnP r=(k - lnP r - 1) + 1:=by omega
   rw [this]; exact aac ..)
  obtain ⟨c',p1,p2,p3,p4,p5,p6⟩:=HY hkeep hpl hs hFN r h hl' m2 (T.oks_iff.mp ok.2 c hcm) (fun b f q=>hF b f (T.mem_rests.mpr ⟨c,hcm,q⟩)) (fun b n q=>hN b n (T.mem_adrs.mpr ⟨c,hcm,q⟩)) hA hB hnd
  obtain ⟨q1,q2,q3⟩:=LH hFN nds p4 p5 p6 (fun b f q=>hF b f (by rw [T.rest,e1]; exact q)) (fun b n q=>hN b n (by rw [T.adr,e1]; exact q))
  have ab:b0 ≠ a:=fun z=>by
   obtain ⟨vs,y,mu⟩:=hpl
   have:=ok.1
   rw [z,y] at this; cases this
   exact nomatch (show false=true from mu)
  have hv:(l1 ++ c' :: l2).map T.val=cs.map T.val:=by rw [e1]; simp [p2]
  refine ⟨.tup b0 (l1 ++ c' :: l2),by simp only [DU,hj,aaM,hc,p1,aa0,e2],rfl,⟨?_,T.oks_iff.mpr fun w hw=>?_⟩,q1,fun b m=>?_,fun b m=>?_⟩
  ·rw [hv]; exact hkeep _ _ ok.1 ab
  ·rcases aae.mp hw with hw | hw
   ·refine CW hkeep hpl (T.oks_iff.mp ok.2 w (by rw [e1]; exact aan _ hw)) fun q=>m3 a aadr ?_
    rw [T.rests_append]; exact aan _ (T.mem_rests.mpr ⟨w,hw,q⟩)
   ·rcases aai.mp hw with rfl | hw
    ·exact p3
    ·refine CW hkeep hpl (T.oks_iff.mp ok.2 w (by rw [e1]; exact aag _ (aaa _ hw))) fun q=>m3 a aadr ?_
     rw [T.rests_append]; exact aag _ (T.mem_rests.mpr ⟨w,hw,q⟩)
  ·simp only [T.adr] at m ⊢
   rw [e1]; exact q2 b m
  ·simp only [T.rest] at m ⊢
   rw [e1]; exact q3 b m
 | (false,i) :: r,.tup a ts,k,h,_,_,_,_,_,_,_,_=>by cases h
 | (true,i) :: r,.lst a ts,k,h,_,_,_,_,_,_,_,_=>by cases h
 | (b,i) :: r,.non,k,h,_,_,_,_,_,_,_,_=>by cases b <;> cases h
 | (b,i) :: r,.bl _,k,h,_,_,_,_,_,_,_,_=>by cases b <;> cases h
 | (b,i) :: r,.int _,k,h,_,_,_,_,_,_,_,_=>by cases b <;> cases h
 | (b,i) :: r,.str _,k,h,_,_,_,_,_,_,_,_=>by cases b <;> cases h
 | (b,i) :: r,.exn _ _,k,h,_,_,_,_,_,_,_,_=>by cases b <;> cases h
 | (b,i) :: r,.dic _ _ _,k,h,_,_,_,_,_,_,_,_=>by cases b <;> cases h
 | (b,i) :: r,.dit _ _ _,k,h,_,_,_,_,_,_,_,_=>by cases b <;> cases h
end
theorem Gw:∀ (q:List (Bool × Int)) {t s:T} {k:Nat},AG q t=some s->lnP q<=k->t.Nd k->s.Nd (k - lnP q)
 | [],t,s,k,h,_,n=>by cases h; exact n
 | (false,i) :: r,.lst a ts,s,k,h,hl,n=>by
  simp only [AG] at h
  obtain ⟨j,_,h⟩:=bS h
  obtain ⟨c,hc,h⟩:=bS h
  cases k with
  | zero=>simp [lnP] at hl
  | succ k =>
   obtain ⟨n1,n2⟩:=n
   simp only [T.adr,T.rest,aav] at n1 n2
   have nds:T.Nds ts k:=⟨n1.2,fun x hx hy=>n2 x hx (aaa _ hy)⟩
   obtain ⟨l1,l2,e1,_⟩:=Dg hc
   rw [e1] at nds
   have:=Gw r (k:=k) h (by simp [lnP] at hl; exact hl) (Cy.mp nds).2.1
   have e:k + 1 - lnP ((false,i) :: r)=k - lnP r:=by simp only [lnP]; omega
   rw [e]; exact this
 | (true,i) :: r,.tup a ts,s,k,h,hl,n=>by
  simp only [AG] at h
  obtain ⟨j,_,h⟩:=bS h
  obtain ⟨c,hc,h⟩:=bS h
  have nds:T.Nds ts k:=n
  obtain ⟨l1,l2,e1,_⟩:=Dg hc
  rw [e1] at nds
  exact Gw r (k:=k) h hl (Cy.mp nds).2.1
 | (false,i) :: r,.tup a ts,s,k,h,_,_=>by cases h
 | (true,i) :: r,.lst a ts,s,k,h,_,_=>by cases h
 | (b,i) :: r,.non,s,k,h,_,_=>by cases b <;> cases h
 | (b,i) :: r,.bl _,s,k,h,_,_=>by cases b <;> cases h
 | (b,i) :: r,.int _,s,k,h,_,_=>by cases b <;> cases h
 | (b,i) :: r,.str _,s,k,h,_,_=>by cases b <;> cases h
 | (b,i) :: r,.exn _ _,s,k,h,_,_=>by cases b <;> cases h
theorem EG (ts:List T) (j:Nat) (t:T):T.dats (ts.set j t)=(T.dats ts).set j t.dat:=by rw [T.dats_map,T.dats_map,aa9]
theorem Ez {f:List D->Option (List D)}:∀ (q:List (Bool × Int)) {t:T} {d':D},Bd f q t.dat=some d'->∃ a ts ds',AG q t=some (.lst a ts)/\f (T.dats ts)=some ds'/\∀ us t',T.dats us=ds'->DU (.lst a us) q t=some t'->t'.dat=d'
 | [],t,d',h=>by
  cases t with
  | lst a ts =>
   simp only [T.dat,Bd] at h
   obtain ⟨ds',h1,rfl⟩:=aar.mp h
   exact ⟨a,ts,ds',rfl,h1,fun us t' e1 e2=>by cases e2; simp [T.dat,e1]⟩
  | _=>cases h
 | (b,i) :: r,t,d',h=>by
  cases b with
  | false =>
   cases t with
   | lst a ts =>
    simp only [T.dat,Bd,Ae] at h
    obtain ⟨j,hj,h⟩:=bS h
    obtain ⟨d,hd,h⟩:=bS h
    obtain ⟨d2,h1,rfl⟩:=aar.mp h
    obtain ⟨c,hc,rfl⟩:=DT hd
    obtain ⟨a',ts',ds',s1,s2,s3⟩:=Ez r h1
    refine ⟨a',ts',ds',by simp only [AG,hj,aaM,hc,s1],s2,fun us t' e1 e2=>?_⟩
    simp only [DU,hj,aaM,hc] at e2
    obtain ⟨c',e3,rfl⟩:=aar.mp e2
    simp only [T.dat,EG,s3 us c' e1 e3]
   | _=>cases h
  | true =>
   cases t with
   | tup a ts =>
    simp only [T.dat,Bd,Ae] at h
    obtain ⟨j,hj,h⟩:=bS h
    obtain ⟨d,hd,h⟩:=bS h
    obtain ⟨d2,h1,rfl⟩:=aar.mp h
    obtain ⟨c,hc,rfl⟩:=DT hd
    obtain ⟨a',ts',ds',s1,s2,s3⟩:=Ez r h1
    refine ⟨a',ts',ds',by simp only [AG,hj,aaM,hc,s1],s2,fun us t' e1 e2=>?_⟩
    simp only [DU,hj,aaM,hc] at e2
    obtain ⟨c',e3,rfl⟩:=aar.mp e2
    simp only [T.dat,EG,s3 us c' e1 e3]
   | _=>cases h
section
variable {p:Px} {H0:Hp} {A0:Addr->Prop} {m m1:Ms} {τ:Ft} {H H1:Hp}
theorem LJ {x k:Nat} {t:T} {q:List (Bool × Int)} {a:Addr} {ts us:List T} {F N:Addr->Prop} (S:Sf p H0 A0 m τ H) (s:Same H H1) (hx:τ[x]?=some (some t)) (hm:m[x]?=some (.ow k)) (hq:AG q t=some (.lst a ts)) (hl:lnP q < k) (hus:T.Oks p H1 us) (hFN:∀ b,F b->N b)
  (hA:∀ b ∈ T.adrs us (k - 1 - lnP q),b ∈ T.adrs ts (k - 1 - lnP q)\/F b) (hB:∀ b ∈ T.rests us (k - 1 - lnP q),b ∈ T.rests ts (k - 1 - lnP q)\/N b) (hnd:T.Nds us (k - 1 - lnP q))
  (f0:∀ b,F b->b ∉ t.rest 0) (f1:∀ b,F b->H0 b=none/\Mu H1 b) (f4:∀ b,F b->Own m τ b\/H b=none) (n0:∀ b,N b->b ∉ t.adr k) (n1:∀ b,N b->H0 b=none\/A0 b)
  (hlen:m1.length=m.length) (hmx:m1[x]?=some (.ow k)) (hmo:∀ (j:Nat) (d:Md),j ≠ x->m1[j]?=some d->d ≠ .dead->m[j]?=some d/\(q ≠ []->∀ k2,d ≠ .br k2))
  (f2:∀ (j:Nat) (u:T) (d:Md),j ≠ x->τ[j]?=some (some u)->m1[j]?=some d->d ≠ .dead->∀ b,F b->b ∉ u.rest d.low) (n2:∀ (i:Nat) (u:T) (k':Nat),i ≠ x->τ[i]?=some (some u)->m1[i]?=some (.ow k')->∀ b,N b->b ∉ u.adr k') :
  ∃ t',DU (.lst a us) q t=some t'/\t'.val=t.val/\Sf p H0 A0 m1 (τ.set x (some t')) (L2.upd H1 a (.lst (us.map T.val)))/\Stp m m1 [x] τ (τ.set x (some t')) H (L2.upd H1 a (.lst (us.map T.val))):=by
 have S1:=S.grow s
 obtain ⟨ain,aad⟩:=CI q (k:=k) hq (by omega)
 have ek:k - lnP q=(k - 1 - lnP q) + 1:=by omega
 have aadr:a ∈ t.adr k:=aad a (by rw [ek]; exact aac ..)
 have arest:a ∈ t.rest 0:=(T.all_iff t k).mpr (.inl aadr)
 have nds:=Gw q hq (by omega:lnP q<=k) (S.nd x t k hx hm)
 rw [ek] at nds
 obtain ⟨nd1,nd2⟩:=nds
 simp only [T.adr,T.rest,aav] at nd1 nd2
 have hpl:Mu H1 a:=(S1.own x t k a hx hm aadr).2
 have hkeep:∀ b w,H1 b=some w->b ≠ a->L2.upd H1 a (.lst (us.map T.val)) b=some w:=fun b w e n=>by rw [Al n]; exact e
 have aus:a ∉ T.rests us 0:=fun z=>by
  rcases (T.alls_iff us (k - 1 - lnP q)).mp z with z | z
  ·rcases hA a z with y | y
   ·exact nd1.1 y
   ·exact f0 a y arest
  ·rcases hB a z with y | y
   ·exact nd2 a y (aac ..)
   ·exact n0 a y aadr
 have hs:(T.lst a us).Ok p (L2.upd H1 a (.lst (us.map T.val))):=⟨.inl AJ,T.oks_iff.mpr fun u hu=>CW hkeep hpl (T.oks_iff.mp hus u hu) fun z=>aus (T.mem_rests.mpr ⟨u,hu,z⟩)⟩
 obtain ⟨t',p1,p2,p3,p4,p5,p6⟩:=HY hkeep hpl hs hFN q hq hl (S.nd x t k hx hm) (S1.at hx hm (by intro c; cases c)) f0 n0 hA hB hnd
 have all':∀ b ∈ t'.rest 0,b ∈ t.rest 0\/N b:=fun b z=>by
  rcases (T.all_iff t' k).mp z with z | z
  ·exact (p5 b z).imp (fun y=>(T.all_iff t k).mpr (.inl y)) (hFN b)
  ·exact (p6 b z).imp (fun y=>(T.all_iff t k).mpr (.inr y)) id
 have sm0:0 < k/\k < 90:=of_decide_eq_true (S.small _ (aaf hm))
 have sm:=sm0.2
 have other:∀ {j:Nat} {u:T} {d:Md},j ≠ x->τ[j]?=some (some u)->m1[j]?=some d->d ≠ .dead->u.Ok p (L2.upd H1 a (.lst (us.map T.val))):=by
  intro j u d ne e hd nd
  obtain ⟨h1,h2⟩:=hmo j d ne hd nd
  refine CW hkeep hpl (S1.at e h1 nd) ?_
  cases d with
  | sh=>exact S.sep x j t u k _ (Ne.symm ne) hx hm e h1 nd a aadr
  | ow k2=>exact S.sep x j t u k _ (Ne.symm ne) hx hm e h1 nd a aadr
  | br k2 =>
   cases q with
   | nil =>
    cases hq
    exact S.top x j _ u k k2 hx hm e h1 a ts rfl
   | cons _ _=>exact absurd rfl (h2 (by simp) k2)
  | dead=>exact absurd rfl nd
 refine ⟨t',p1,p2,⟨by rw [aaF,hlen]; exact S.len,fun d hd=>?_,fun b u e=>?_,fun i u j e ej l=>?_,fun i u k' b e hk' z=>?_,fun b sh=>?_,fun i u k' e hk'=>?_,fun i j u w k' d ne e hk' e' hd nd b z=>?_,fun i j u w k' k2 e hk' e' hd b cs z=>?_⟩,
  fun b u e n=>?_,fun b o=>?_,fun i hi=>?_,fun i _=>by rw [Qx hx p2]⟩
 ·obtain ⟨i,hi,rfl⟩:=abf hd
  by_cases z:i=x
  ·subst z
   rw [aah hi] at hmx
   rw [Option.some.inj hmx]
   exact decide_eq_true sm0
  ·by_cases y:m1[i]=.dead
   ·rw [y]; rfl
   ·exact S.small _ (aaf (hmo i _ z (aah hi) y).1)
 ·rw [Al (fun z=>by
   have:=(S.own x t k a hx hm aadr).1
   rw [z] at e
   rw [this] at e; cases e)]
  exact S1.same b u e
 ·obtain ⟨d,hd,rfl⟩:=AR ej
  rcases Ad e with ⟨rfl,e2⟩ | ⟨ne,e1⟩
  ·cases e2; exact p3
  ·exact other ne e1 hd (fun z=>by subst z; exact absurd l (by decide))
 ·rcases Ad e with ⟨rfl,e2⟩ | ⟨ne,e1⟩
  ·cases e2
   rw [hmx] at hk'
   cases hk'
   rcases p5 b z with y | y
   ·obtain ⟨y1,vs,y2,mu⟩:=S1.own i t k b hx hm y
    by_cases w:b=a
    ·subst w; exact ⟨y1,_,AJ,rfl⟩
    ·exact ⟨y1,vs,hkeep _ _ y2 w,mu⟩
   ·obtain ⟨y1,vs,y2,mu⟩:=f1 b y
    exact ⟨y1,vs,hkeep _ _ y2 (fun w=>f0 b y (w ▸ arest)),mu⟩
  ·obtain ⟨h1,_⟩:=hmo i _ ne hk' (by intro c; cases c)
   obtain ⟨y1,vs,y2,mu⟩:=S1.own i u k' b e1 h1 z
   exact ⟨y1,vs,hkeep _ _ y2 (fun w=>S.sep x i t u k _ (Ne.symm ne) hx hm e1 h1 (by intro c; cases c) a aadr (w ▸ (T.all_iff u k').mpr (.inl z))),mu⟩
 ·obtain ⟨i,u,j,e,ej,l,z⟩:=sh
  obtain ⟨d,hd,rfl⟩:=AR ej
  rcases Ad e with ⟨rfl,e2⟩ | ⟨ne,e1⟩
  ·cases e2
   rw [hmx] at hd
   cases hd
   rcases p6 b z with y | y
   ·exact S.src b ⟨i,t,k,hx,AL hm,sm,y⟩
   ·exact n1 b y
  ·obtain ⟨h1,_⟩:=hmo i _ ne hd (fun z=>by subst z; exact absurd l (by decide))
   exact S.src b ⟨i,u,_,e1,AL h1,l,z⟩
 ·rcases Ad e with ⟨rfl,e2⟩ | ⟨ne,e1⟩
  ·cases e2
   rw [hmx] at hk'
   cases hk'
   exact p4
  ·exact S.nd i u k' e1 (hmo i _ ne hk' (by intro c; cases c)).1
 ·rcases Ad e with ⟨rfl,e2⟩ | ⟨ne1,e1⟩
  ·cases e2
   rw [hmx] at hk'
   cases hk'
   rcases Ad e' with ⟨z',_⟩ | ⟨ne2,e3⟩
   ·exact absurd z'.symm ne
   ·rcases p5 b z with y | y
    ·exact S.sep i j t w k d ne hx hm e3 (hmo j d ne2 hd nd).1 nd b y
    ·exact f2 j w d ne2 e3 hd nd b y
  ·obtain ⟨h1,_⟩:=hmo i _ ne1 hk' (by intro c; cases c)
   rcases Ad e' with ⟨z',e2⟩ | ⟨ne2,e3⟩
   ·cases e2
    subst z'
    rw [hmx] at hd
    cases hd
    intro y
    rcases all' b y with y | y
    ·exact S.sep i j u t k' _ ne e1 h1 hx hm (by intro c; cases c) b z y
    ·exact n2 i u k' ne1 e1 hk' b y z
   ·exact S.sep i j u w k' d ne e1 h1 e3 (hmo j d ne2 hd nd).1 nd b z
 ·have ne2:j ≠ x:=fun y=>by subst y; rw [hmx] at hd; cases hd
  rcases Ad e' with ⟨y,_⟩ | ⟨_,e3⟩
  ·exact absurd y ne2
  obtain ⟨h3,h4⟩:=hmo j _ ne2 hd (by intro c; cases c)
  rcases Ad e with ⟨rfl,e2⟩ | ⟨ne1,e1⟩
  ·cases e2
   rw [hmx] at hk'
   cases hk'
   cases q with
   | nil =>
    cases hq
    cases p1
    cases z
    exact S.top i j _ w k k2 hx hm e3 h3 _ ts rfl
   | cons _ _=>exact absurd rfl (h4 (by simp) k2)
  ·exact S.top i j u w k' k2 e1 (hmo i _ ne1 hk' (by intro c; cases c)).1 e3 h3 b cs z
 ·rw [Al (show b ≠ a from fun z=>n ⟨x,t,k,hx,hm,by rw [z]; exact aadr⟩)]
  exact s b u e
 ·obtain ⟨i,u,k',e,hk',z⟩:=o
  rcases Ad e with ⟨rfl,e2⟩ | ⟨ne,e1⟩
  ·cases e2
   rw [hmx] at hk'
   cases hk'
   rcases p5 b z with y | y
   ·exact .inl ⟨i,t,k,hx,hm,y⟩
   ·exact f4 b y
  ·exact .inl ⟨i,u,k',e1,(hmo i _ ne hk' (by intro c; cases c)).1,z⟩
 ·rw [aap (fun z=>hi (by simp [z]))]
end
structure Zx where
 p:Px
 H0:Hp
 A0:Addr->Prop
 EX:EXT
 mx:Ms
 dep:Nat
noncomputable def Um.kind:Um->Nat
 | .append=>1
 | .insert=>3
 | .extend=>2
 | _=>0
mutual
noncomputable def wrS:S->List Nat
 | .asg x _ _=>[x,x + 1000]
 | .dem _ _=>[]
 | .dead _=>[]
 | .asgT xs _=>up xs
 | .set x _ _ _=>[x]
 | .mut x _ _ _=>[x]
 | .expr _=>[]
 | .iff _ a b=>wrSs a ++ wrSs b
 | .wh _ b=>wrSs b
 | .for_ g _ b=>up g.sl ++ wrSs b
 | .ret _=>[]
 | .raise _ _=>[]
 | .try_ b _ i h e=>wrSs b ++ (i :: (i + 1000) :: (wrSs h ++ wrSs e))
noncomputable def wrSs:Ss->List Nat
 | .nil=>[]
 | .cons s r=>wrS s ++ wrSs r
 | .lend x y _ b _ _=>x :: (x + 1000) :: y :: wrSs b
end
noncomputable def RC (a b:Ms):Ms:=abo Md.meet a b
noncomputable def FF:Option Ms->Option Ms->Option Ms
 | none,b=>b
 | a,none=>a
 | some a,some b=>some (RC a b)
noncomputable def Ht (i:Nat):Option Ms->Option Ms
 | some m=>some (m.set i .dead)
 | none=>none
noncomputable def okJ:Option Ms->Option Ms->Bool
 | some a,some r=>leM a r
 | none,_=>true
 | some _,none=>false
noncomputable def It.nmOf:It->Option Nat
 | .seqL (.nm x)=>some x
 | _=>none
noncomputable def rk (m:Ms) (e:E):Option Nat:=match e with
 | .nm i=>match m[i]? with
  | some (.ow k)=>some k
  | some .sh=>some 0
  | _=>none
 | e=>(jk (tnM m) e).bind fun x=>if x.1=0 then some x.2 else none
noncomputable def Bv (m:Ms):Ms:=m.map fun d=>match d with
 | .br _=>.dead
 | d=>d
noncomputable def DV (m:Ms):List (Bool × E)->Bool
 | []=>true
 | (_,e) :: r=>(jk (tnM m) e).isSome && DV m r
noncomputable def lnE:List (Bool × E)->Nat
 | []=>0
 | (false,_) :: r=>lnE r + 1
 | (true,_) :: r=>lnE r
noncomputable def Es.mvOf (m:Ms):Es->Option (Nat × Nat)
 | .cons (.nm y) .nil=>match m[y]? with
  | some (.ow k)=>some (y,k)
  | _=>none
 | _=>none
mutual
noncomputable def msS (mx:Ms) (dep:Nat):S->Ms->Option (Option Ms)
 | .asg x k e,m=>(jk (tnM m) e).bind fun c=>if c.1=0/\k<=c.2/\x < m.length/\k < 90/\leM m mx=true then some (some (m.set x (mdK k))) else none
 | .dem x k,m=>if leM m (m.set x (mdK k))=true then some (some (m.set x (mdK k))) else none
 | .dead x,m=>if leM m (m.set x .dead)=true then some (some (m.set x .dead)) else none
 | .asgT xs e,m=>(jk (tnM m) e).bind fun c=>if c.1=0/\leM m mx=true then some (some (Ag m xs .sh)) else none
 | .set x p i e,m=>(jk (tnM m) e).bind fun c=>(jk (tnM m) i).bind fun _=>match m[x]? with
  | some (.ow k)=>if c.1=0/\lnE p < k/\k - 1 - lnE p<=c.2/\DV m p=true/\leM m mx=true then some (some (if p.isEmpty then m else Bv m)) else none
  | _=>none
 | .mut x p u es,m=>match m[x]? with
  | some (.ow k)=>if lnE p < k/\DV m p=true/\leM m mx=true then (match es.mvOf m with
    | some (y,ky)=>if u=.append/\y ≠ x/\k - 1 - lnE p<=ky/\p.isEmpty=true then some (some (m.set y (.br ky))) else none
    | none=>(jks (tnM m) es).bind fun c=>if (c.1=0\/(u=.extend/\c.1<=1))/\(k - 1 - lnE p=0\/(u.kind=1/\k - 1 - lnE p<=c.2)\/(u.kind=2/\k - lnE p<=c.2)\/u.kind=0) then some (some (if p.isEmpty then m else Bv m)) else none) else none
  | _=>none
 | .expr e,m=>(jk (tnM m) e).bind fun _=>if leM m mx=true then some (some m) else none
 | .iff c a b,m=>(jk (tnM m) c).bind fun _=>if leM m mx=true then (msSs mx dep a m).bind fun ra=>(msSs mx dep b m).bind fun rb=>if okJ ra (FF ra rb)=true/\okJ rb (FF ra rb)=true then some (FF ra rb) else none
  else none
 | .wh c b,m=>(jk (tnM m) c).bind fun _=>if leM m mx=true then (msSs mx dep b m).bind fun r=>match r with
   | none=>some (some m)
   | some mb=>if leM mb m=true then some (some m) else none
  else none
 | .for_ g it b,m=>(jkI (tnM m) it).bind fun j=>if leM m mx=true/\leM m (Ag m g.sl .dead)=true/\(j=0\/∃ x,it.nmOf=some x/\x ∉ wrSs b/\x ∉ up g.sl) then (msSs mx dep b (Ag (Ag m g.sl .dead) g.sl .sh)).bind fun r=>match r with
   | none=>some (some (Ag m g.sl .dead))
   | some mb=>if leM mb (Ag m g.sl .dead)=true then some (some (Ag m g.sl .dead)) else none
  else none
 | .ret e,m=>(rk m e).bind fun k=>if (dep<=k/\dep < 1000)/\leM m mx=true then some none else none
 | .raise _ es,m=>(jks (tnM m) es).bind fun _=>if leM m mx=true then some none else none
 | .try_ b _ i h e,m=>if i < m.length/\leM m (Ag m (wrSs b) .dead)=true then (msSs (Ag m (wrSs b) .dead) dep b m).bind fun rb =>
   (msSs (aam m.length .dead) dep h ((Ag m (wrSs b) .dead).set i .sh)).bind fun rh =>
    (match rb with
     | none=>some none
     | some m1=>msSs mx dep e m1).bind fun re=>if okJ re (FF re (Ht i rh))=true/\okJ (Ht i rh) (FF re (Ht i rh))=true then some (FF re (Ht i rh)) else none
  else none
noncomputable def msSs (mx:Ms) (dep:Nat):Ss->Ms->Option (Option Ms)
 | .nil,m=>some (some m)
 | .cons s r,m=>(msS mx dep s m).bind fun o=>match o with
  | none=>some none
  | some m1=>msSs mx dep r m1
 | .lend x y a b i e,m=>match m[y]? with
  | some (.ow k)=>(jk (tnM m) a).bind fun _=>if 1 < k/\x ≠ y/\x < m.length/\leM m mx=true/\x ∉ wrSs b/\y ∉ wrSs b then (msSs mx dep b (m.set x (.br (k - 1)))).bind fun r=>match r with
    | none=>some none
    | some m2=>(jk (tnM m2) e).bind fun c=>(jk (tnM m2) i).bind fun _=>if c.1=0/\m2[y]?=some (.ow k)/\k - 2<=c.2/\leM m2 mx=true then some (some (Bv m2)) else none
   else none
  | _=>none
end
noncomputable def lRet (Z:Zx) (w:List Nat) (d:D) (τ:Ft) (E:Ends):Prop:=if Z.dep < 1000 then ∀ (t:T) (H':Hp),t.dat=d->Rs Z.p Z.A0 Z.H0 H' 0 Z.dep t->E.rt t.val H'
 else Z.dep ∉ w/\∀ (b:Bool) (us:List T) (a:Addr) (H':Hp),d=.tup [.bl b,.lst (T.dats us)]->(vτ τ)[Z.dep - 1000]?=some (some (.ref a))->(T.lst a us).Ok Z.p H'->(Mu H' a)->Same Z.H0 H'->E.rt (.bl b) H'
theorem lRet.lo {Z:Zx} {w:List Nat} {d:D} {τ:Ft} {E:Ends} (h:lRet Z w d τ E) (hd:Z.dep < 1000) {t:T} {H':Hp} (e:t.dat=d) (R:Rs Z.p Z.A0 Z.H0 H' 0 Z.dep t):E.rt t.val H':=by
 unfold lRet at h
 rw [if_pos hd] at h
 exact h t H' e R
theorem lRet.to {Z Z2:Zx} {w w2:List Nat} {d:D} {τ τ2:Ft} {E E2:Ends} (h:lRet Z w d τ E) (hw:∀ i ∈ w2,i ∈ w) (hv:∀ i,i + 1000 ∉ w->(vτ τ2)[i]?=(vτ τ)[i]?) (he:E2.rt=E.rt:=by rfl) (hz:lRet Z2 w2 d τ2 E2=lRet Z w2 d τ2 E2:=by rfl):lRet Z2 w2 d τ2 E2:=by
 rw [hz]; clear hz
 unfold lRet at *
 rw [he]
 split
 ·rename_i c; rw [if_pos c] at h; exact h
 ·rename_i c
  rw [if_neg c] at h
  have e:Z.dep - 1000 + 1000=Z.dep:=Nat.sub_add_cancel (Nat.not_lt.mp c)
  refine ⟨fun z=>h.1 (hw _ z),fun b us a H' e1 e2=>h.2 b us a H' e1 ?_⟩
  rw [<- hv (Z.dep - 1000) (by rw [e]; exact h.1)]
  exact e2
noncomputable def lOut (Z:Zx) (m:Ms) (r:Option Ms) (w:List Nat) (o:Out) (τ:Ft) (H:Hp) (D:Ends):Prop:=match o with
 | .nxt δ'=>∀ (m':Ms) (τ':Ft) (H':Hp),r=some m'->dτ τ'=δ'->Sf Z.p Z.H0 Z.A0 m' τ' H'->Stp m m' w τ τ' H H'->D.nx (vτ τ') H'
 | .ret d=>lRet Z w d τ D
 | .exc c δ'=>Z.p.has c=true->∀ (τ':Ft) (H':Hp),dτ τ'=δ'->Sf Z.p Z.H0 Z.A0 Z.mx τ' H'->Stp m Z.mx w τ τ' H H'->Z.EX (vτ τ') (.ref (Z.p.cl c)) none H'
 | .bad=>False
noncomputable def lS (Z:Zx) (s:S):TS:=fun D σ H=>∃ τ m r,σ=vτ τ/\Sf Z.p Z.H0 Z.A0 m τ H/\msS Z.mx Z.dep s m=some r/\lOut Z m r (wrS s) (ex s (dτ τ)) τ H D
noncomputable def lSs (Z:Zx) (s:Ss):TS:=fun D σ H=>∃ τ m r,σ=vτ τ/\Sf Z.p Z.H0 Z.A0 m τ H/\msSs Z.mx Z.dep s m=some r/\lOut Z m r (wrSs s) (exs s (dτ τ)) τ H D
theorem PSs.mono {X:Cx} {st:List Stmt} {t t':TS} (h:PSs X st t) (m:∀ D σ H,t' D σ H->t D σ H):PSs X st t':=fun pins s σ H D I q=>h pins s σ H D I (m _ _ _ q)
section
variable {Z:Zx} {m:Ms} {r:Option Ms} {w:List Nat} {τ:Ft} {H:Hp} {D:Ends} {X:Cx} {pos:Pos}
theorem lOut.lg {α:Type} {q:Res α} {f:α->Out} (S:Sf Z.p Z.H0 Z.A0 m τ H) (hm:leM m Z.mx=true) (h:lOut Z m r w (q.out (dτ τ) f) τ H D):Lg Z.p Z.EX (vτ τ) q H fun a=>lOut Z m r w (f a) τ H D:=by
 cases q with
 | ok a=>exact h
 | exc c=>exact fun hc H' s=>h hc τ H' rfl ((S.weak hm).grow s) (Stp.refl w hm s)
 | bad=>exact h
theorem AA {c:Prop} [Decidable c] {α:Type} {x y:α} (h:(if c then some x else none)=some y):c/\x=y:=by
 split at h
 ·exact ⟨‹_›,Option.some.inj h⟩
 ·cases h
theorem Qz {x k:Nat} {e:E} {σ:L2.St} (h:lS Z (.asg x k e) D σ H):∃ τ m,σ=vτ τ/\Sf Z.p Z.H0 Z.A0 m τ H/\DL (lE Z.p Z.EX (tnM m) e) (D2 x) D σ H:=by
 obtain ⟨τ,m,r,rfl,S,hr,h⟩:=h
 simp only [msS] at hr
 obtain ⟨⟨j1,k1⟩,h1,hr⟩:=bS hr
 obtain ⟨⟨c1,c2,c3,c4,c5⟩,rfl⟩:=AA hr
 have c1:j1=0:=c1
 subst c1
 refine ⟨τ,m,rfl,S,τ,rfl,S.ok,0,k1,h1,?_⟩
 simp only [ex] at h
 refine (h.lg S c5).mono (Same.refl _) fun d _ h t H1 ht R=>?_
 subst ht
 obtain ⟨S2,P2⟩:=LE S R c2 c3 c4
 show D.nx ((vτ τ).set x (some t.val)) H1
 rw [<- DF]
 exact h _ _ H1 rfl (Cw τ x t) S2 P2
end
theorem Kk {m:Ms} {i:Nat} {d:Md} (h:(Bv m)[i]?=some d):(d=.dead)\/(m[i]?=some d/\∀ k2,d ≠ .br k2):=by
 unfold Bv at h
 rw [aal] at h
 obtain ⟨d',h1,h2⟩:=aar.mp h
 cases d' with
 | br k=>exact .inl h2.symm
 | sh=>cases h2; exact .inr ⟨h1,by simp⟩
 | ow k=>cases h2; exact .inr ⟨h1,by simp⟩
 | dead=>exact .inl h2.symm
theorem LK {m:Ms} {i k:Nat} (h:m[i]?=some (.ow k)):(Bv m)[i]?=some (.ow k):=by
 unfold Bv; rw [aal,h]; rfl
section
variable {p:Px} {H0:Hp} {A0:Addr->Prop} {m:Ms} {τ:Ft} {H H1:Hp}
theorem HZ {x k:Nat} {t:T} {q:List (Bool × Int)} {a:Addr} {ts us es:List T} (S:Sf p H0 A0 m τ H) (s:Same H H1) (hx:τ[x]?=some (some t)) (hm:m[x]?=some (.ow k)) (hq:AG q t=some (.lst a ts)) (hl:lnP q < k) (hus:T.Oks p H1 us)
  (hA:∀ b ∈ T.adrs us (k - 1 - lnP q),b ∈ T.adrs ts (k - 1 - lnP q)\/b ∈ T.adrs es (k - 1 - lnP q)) (hB:∀ b ∈ T.rests us (k - 1 - lnP q),b ∈ T.rests ts (k - 1 - lnP q)\/b ∈ T.rests es 0)
  (hnd:T.Nds ts (k - 1 - lnP q)->(∀ b ∈ T.adrs es (k - 1 - lnP q),b ∉ T.rests ts 0)->(∀ b ∈ T.adrs ts (k - 1 - lnP q),b ∉ T.rests es 0)->T.Nds us (k - 1 - lnP q))
  (src:∀ b ∈ T.rests es 0,H b=none\/Sh (tnM m) τ b) (new:∀ b ∈ T.adrs es (k - 1 - lnP q),H b=none/\Mu H1 b) :
  ∃ t',DU (.lst a us) q t=some t'/\t'.val=t.val/\Sf p H0 A0 (if q.isEmpty then m else Bv m) (τ.set x (some t')) (L2.upd H1 a (.lst (us.map T.val)))/\Stp m (if q.isEmpty then m else Bv m) [x] τ (τ.set x (some t')) H (L2.upd H1 a (.lst (us.map T.val))):=by
 have dom:∀ {j:Nat} {u:T} {d:Md},τ[j]?=some (some u)->m[j]?=some d->d ≠ .dead->∀ b ∈ u.rest 0,H b ≠ none:=fun e hd nd b z=>(S.at e hd nd).dom z
 obtain ⟨ain,aad⟩:=CI q (k:=k) hq (by omega)
 have ek:k - lnP q=(k - 1 - lnP q) + 1:=by omega
 have nds:=Gw q hq (by omega:lnP q<=k) (S.nd x t k hx hm)
 rw [ek] at nds aad
 have ndt:T.Nds ts (k - 1 - lnP q):=by
  obtain ⟨n1,n2⟩:=nds
  simp only [T.adr,T.rest,aav] at n1 n2
  exact ⟨n1.2,fun b z y=>n2 b z (aaa _ y)⟩
 have hxd:∀ b ∈ t.rest 0,H b ≠ none:=dom hx hm (by intro c; cases c)
 have notOwn:∀ b ∈ T.rests es 0,¬ Own m τ b:=fun b z o=>by
  rcases src b z with y | y
  ·obtain ⟨_,vs,e,mu⟩:=S.ownOk o
   rw [e] at y; cases y
  ·exact S.disj o y
 have hm1:∀ (j:Nat) (d:Md),(if q.isEmpty then m else Bv m)[j]?=some d->d ≠ .dead->m[j]?=some d/\(q ≠ []->∀ k2,d ≠ .br k2):=by
  intro j d hd nd
  cases q with
  | nil=>exact ⟨hd,fun z=>absurd rfl z⟩
  | cons z r =>
   rcases Kk hd with y | ⟨y1,y2⟩
   ·exact absurd y nd
   ·exact ⟨y1,fun _=>y2⟩
 refine LJ (F:=fun b=>b ∈ T.adrs es (k - 1 - lnP q)) (N:=fun b=>b ∈ T.rests es 0) S s hx hm hq hl hus (fun b z=>(T.alls_iff es _).mpr (.inl z)) hA hB ?_ (fun b z y=>hxd b y (new b z).1) (fun b z=>⟨S.same.free (new b z).1,(new b z).2⟩) (fun b z=>.inr (new b z).1)
  (fun b z y=>notOwn b z ⟨x,t,k,hx,hm,y⟩) (fun b z=>?_) ?_ ?_ (fun j d _ hd nd=>hm1 j d hd nd) (fun j u d ne e hd nd b z y=>?_) (fun i u k' ne e hk b z y=>?_)
 ·refine hnd ndt (fun b z y=>?_) (fun b z y=>?_)
  ·exact hxd b (ain b (aaa _ y)) (new b z).1
  ·exact notOwn b y ⟨x,t,k,hx,hm,aad b (aaa _ z)⟩
 ·rcases src b z with y | y
  ·exact .inl (S.same.free y)
  ·exact S.src b y
 ·split
  ·rfl
  ·unfold Bv; rw [aab]
 ·split
  ·exact hm
  ·exact LK hm
 ·exact dom e (hm1 j d hd nd).1 nd b (T.rest_le u (aas _) y) (new b z).1
 ·exact notOwn b z ⟨i,u,k',e,(hm1 i _ hk (by intro c; cases c)).1,y⟩
theorem Ia {ts:List T} {e:T} {k:Nat} (ne:e.Nd k) (h1:T.Nds ts k) (h2:∀ b ∈ T.adrs [e] k,b ∉ T.rests ts 0) (h3:∀ b ∈ T.adrs ts k,b ∉ T.rests [e] 0):T.Nds (ts ++ [e]) k :=
 T.nds_append h1 (T.nds_cons.mpr ⟨ne,by simp [T.Nds,T.adrs],by simp [T.rests],by simp [T.adrs]⟩) h3 h2
theorem Jr {ts:List T} {j:Nat} {c e:T} {k:Nat} (hc:ts[j]?=some c) (ne:e.Nd k) (h1:T.Nds ts k) (h2:∀ b ∈ T.adrs [e] k,b ∉ T.rests ts 0) (h3:∀ b ∈ T.adrs ts k,b ∉ T.rests [e] 0) :
  T.Nds (ts.set j e) k/\(∀ b ∈ T.adrs (ts.set j e) k,b ∈ T.adrs ts k\/b ∈ T.adrs [e] k)/\(∀ b ∈ T.rests (ts.set j e) k,b ∈ T.rests ts k\/b ∈ T.rests [e] 0):=by
 obtain ⟨l1,l2,e1,e2⟩:=Dg hc
 rw [e1] at h1 h2 h3
 rw [e2,e1]
 refine ⟨Cy.mpr ⟨(Cy.mp h1).1,ne,fun b z y=>h2 b (by simpa [T.adrs] using z) ?_,fun b z y=>h3 b ?_ (by simpa [T.rests] using y)⟩,fun b z=>?_,fun b z=>?_⟩
 ·simp only [T.rests_append,T.rests,aae] at y ⊢
  rcases y with y | y
  ·exact .inl y
  ·exact .inr (.inr y)
 ·simp only [T.adrs_append,T.adrs,aae] at z ⊢
  rcases z with z | z
  ·exact .inl z
  ·exact .inr (.inr z)
 ·simp only [T.adrs_append,T.adrs,aae,aaU] at z ⊢
  rcases z with z | z | z
  ·exact .inl (.inl z)
  ·exact .inr z
  ·exact .inl (.inr (.inr z))
 ·simp only [T.rests_append,T.rests,aae,aaU] at z ⊢
  rcases z with z | z | z
  ·exact .inl (.inl z)
  ·exact .inr (T.rest_le e (aas _) z)
  ·exact .inl (.inr (.inr z))
theorem OJ {ts us:List T} {k:Nat} (h:us.Sublist ts) (n:T.Nds ts k):T.Nds us k:=by
 induction h with
 | slnil=>exact n
 | cons x _ ih=>exact ih (T.nds_cons.mp n).2.1
 | cons_cons x hs ih =>
  rename_i l1 l2
  obtain ⟨a,b,c,d⟩:=T.nds_cons.mp n
  refine T.nds_cons.mpr ⟨a,ih b,fun z hz y=>c z hz ?_,fun z hz=>d z ?_⟩
  ·obtain ⟨w,hw,q⟩:=T.mem_rests.mp y
   exact T.mem_rests.mpr ⟨w,hs.subset hw,q⟩
  ·obtain ⟨w,hw,q⟩:=T.mem_adrs.mp hz
   exact T.mem_adrs.mpr ⟨w,hs.subset hw,q⟩
end
theorem Ff:∀ (q:List (Bool × E)) (δ:Fr) (c:Nat),evP q δ ≠ .exc c
 | [],δ,c=>by simp [evP]
 | (t,e) :: r,δ,c=>by
  simp only [evP]
  split
  ·cases h:evP r δ with
   | ok is=>simp
   | exc c'=>exact absurd h (Ff r δ c')
   | bad=>simp
  ·simp
theorem Ib:∀ (q:List (Bool × E)) {δ:Fr} {b:Bool} {e:E} {is:List (Bool × Int)},evP (q ++ [(b,e)]) δ=.ok is->∃ js i,evP q δ=.ok js/\ev e δ=.ok (.int i)/\is=js ++ [(b,i)]
 | [],δ,b,e,is,h=>by
  simp only [abl,evP] at h
  split at h
  ·rename_i i he
   simp only [Res.bind_ok] at h
   cases h
   exact ⟨[],i,rfl,he,rfl⟩
  ·cases h
 | (t,e') :: r,δ,b,e,is,h=>by
  simp only [aa4,evP] at h
  split at h
  ·rename_i i' he'
   obtain ⟨js',h1,h2⟩:=Res.bind_eq_ok h
   cases h2
   obtain ⟨js,i,h3,h4,rfl⟩:=Ib r h1
   exact ⟨(t,i') :: js,i,by simp only [evP,he',h3,Res.bind_ok],h4,rfl⟩
  ·cases h
theorem Fg:∀ (q:List (Bool × Int)) {t s':T} {b:Bool} {i:Int},AG (q ++ [(b,i)]) t=some s'->∃ s,AG q t=some s/\AG [(b,i)] s=some s'
 | [],t,s',b,i,h=>⟨t,rfl,h⟩
 | (c,j) :: r,t,s',b,i,h=>by
  cases c with
  | false =>
   cases t with
   | lst a ts =>
    simp only [aa4,AG] at h ⊢
    obtain ⟨n,h1,h⟩:=bS h
    obtain ⟨u,h2,h⟩:=bS h
    obtain ⟨s,h3,h4⟩:=Fg r h
    exact ⟨s,by rw [h1]; simp only [aaM]; rw [h2]; exact h3,h4⟩
   | _=>cases h
  | true =>
   cases t with
   | tup a ts =>
    simp only [aa4,AG] at h ⊢
    obtain ⟨n,h1,h⟩:=bS h
    obtain ⟨u,h2,h⟩:=bS h
    obtain ⟨s,h3,h4⟩:=Fg r h
    exact ⟨s,by rw [h1]; simp only [aaM]; rw [h2]; exact h3,h4⟩
   | _=>cases h
theorem DG {p:Px} {H:Hp}:∀ (q:List (Bool × Int)) {t s:T},t.Ok p H->AG q t=some s->s.Ok p H
 | [],t,s,ok,h=>by cases h; exact ok
 | (c,j) :: r,t,s,ok,h=>by
  cases c with
  | false =>
   cases t with
   | lst a ts =>
    simp only [AG] at h
    obtain ⟨n,h1,h⟩:=bS h
    obtain ⟨u,h2,h⟩:=bS h
    exact DG r (T.oks_iff.mp ok.2 u (aaf h2)) h
   | _=>cases h
  | true =>
   cases t with
   | tup a ts =>
    simp only [AG] at h
    obtain ⟨n,h1,h⟩:=bS h
    obtain ⟨u,h2,h⟩:=bS h
    exact DG r (T.oks_iff.mp ok.2 u (aaf h2)) h
   | _=>cases h
theorem OK {b:Bool} {i:Int} {s s':T} (h:AG [(b,i)] s=some s'):(∃ a ts,s=.lst a ts/\atI (ts.map T.val) i=some s'.val)\/(∃ a ts,s=.tup a ts/\atI (ts.map T.val) i=some s'.val):=by
 cases b with
 | false =>
  cases s with
  | lst a ts =>
   simp only [AG] at h
   obtain ⟨n,h1,h⟩:=bS h
   obtain ⟨u,h2,h⟩:=bS h
   cases h
   refine .inl ⟨a,ts,rfl,?_⟩
   unfold atI
   rw [aab,HQ,h1]
   show (ts.map T.val)[n]?=_
   rw [aal,h2]; rfl
  | _=>cases h
 | true =>
  cases s with
  | tup a ts =>
   simp only [AG] at h
   obtain ⟨n,h1,h⟩:=bS h
   obtain ⟨u,h2,h⟩:=bS h
   cases h
   refine .inr ⟨a,ts,rfl,?_⟩
   unfold atI
   rw [aab,HQ,h1]
   show (ts.map T.val)[n]?=_
   rw [aal,h2]; rfl
  | _=>cases h
noncomputable def NM (tn:List Nat) (q:List (Bool × E)):Prop:=∀ e ∈ q,(jk tn e.2).isSome=true
noncomputable def lPl (p:Px) (EX:EXT) (tn:List Nat) (x:Nat) (q:List (Bool × E)):TE:=fun σ H Q=>∃ τ t is s,σ=vτ τ/\Fok p tn τ H/\NM tn q/\τ[x]?=some (some t)/\t.Ok p H/\evP q (dτ τ)=.ok is/\AG is t=some s/\∀ H',Same H H'->Q s.val H'
noncomputable def DW (c:CkC) (x:Nat):List (Bool × E)->Expr->Bool
 | [],.Name y _=>(c.N[x]?==some y) && Ej c.sc y && Br y
 | (_,e) :: r,.Subscript o i _=>DW c x r o && ckE c e i && Bt i
 | _,_=>false
section
variable {p:Px} {c:CkC} {lv:Nat} {X:Cx} {EX:EXT} {tn:List Nat} {pos np:Pos}
theorem Hu (C:Ct p c lv X EX) {x:Nat}:∀ {rp:List (Bool × E)} {o:Expr},(∀ e ∈ rp,∀ n ∈ e.2.need,NeedOk p lv X n)->DW c x rp o=true->PE X o (lPl p EX tn x rp.reverse)
 | [],o,hn,h=>by
  cases o with
  | Name y q =>
   obtain ⟨h,h3⟩:=Ab (show ((c.N[x]?==some y) && Ej c.sc y && Br y)=true from h)
   obtain ⟨h1,h2⟩:=Ab h
   obtain ⟨d1,d2⟩:=Bu h3
   refine PE.mono (Eo (by rw [C.N]; exact beq_iff_eq.mp h1) (C.vis h2) d1 d2) fun σ H Q h=>?_
   obtain ⟨τ,t,is,s,rfl,hF,_,ht,ok,e,hs,hq⟩:=h
   simp only [List.reverse_nil,evP] at e
   cases e
   cases hs
   exact ⟨_,Cu ht,hq H (Same.refl _)⟩
  | _=>exact nF h
 | (b,e) :: rp,o,hn,h=>by
  cases o with
  | Subscript o' i q =>
   obtain ⟨h,h3⟩:=Ab (show (DW c x rp o' && ckE c e i && Bt i)=true from h)
   obtain ⟨h1,h2⟩:=Ab h
   have A:=Hu C (rp:=rp) (o:=o') (fun e he=>hn e (aaa _ he)) h1
   have B:=(snd e C (tn:=tn) i (hn (b,e) (aac ..)) h2).1
   refine PE.mono (JU (GL.or K6) A B (E6 h3)) fun σ H Q h=>?_
   rw [ab5] at h
   obtain ⟨τ,t,is,s,rfl,hF,hj,ht,ok,ev1,hs,hq⟩:=h
   obtain ⟨js,n,e1,e2,rfl⟩:=Ib _ ev1
   obtain ⟨s1,hs1,hs2⟩:=Fg _ hs
   refine ⟨τ,t,js,s1,rfl,hF,fun e he=>hj e (aan _ he),ht,ok,e1,hs1,fun H1 sm=>?_⟩
   obtain ⟨⟨j,k⟩,hj'⟩:=aax.mp (hj (b,e) (aag _ (aaG.mpr rfl)))
   refine ⟨τ,rfl,hF.same sm,j,k,hj',?_⟩
   rw [e2]
   intro t2 H2 ht2 R
   have hv:t2.val=.int n:=by cases t2 <;> simp [T.dat] at ht2 <;> simp [T.val,ht2]
   rw [hv]
   have ok1:=(DG _ ok hs1).same (sm.trans R.same)
   rcases OK hs2 with ⟨a,ts,rfl,at1⟩ | ⟨a,ts,rfl,at1⟩
   ·exact .inl ⟨a,_,n,_,rfl,rfl,.inl ok1.1,at1,hq H2 (sm.trans R.same)⟩
   ·exact .inr ⟨a,_,n,_,rfl,rfl,SqT.of ok1.1,at1,hq H2 (sm.trans R.same)⟩
  | _=>exact nF h
theorem D7 {m:Ms}:∀ {q:List (Bool × E)},DV m q=true->NM (tnM m) q
 | [],_=>fun e he=>nomatch he
 | (b,e) :: r,h=>by
  obtain ⟨h1,h2⟩:=Ab (show ((jk (tnM m) e).isSome && DV m r)=true from h)
  intro e' he
  rcases aai.mp he with rfl | he
  ·exact h1
  ·exact D7 h2 e' he
theorem Ic:∀ {q:List (Bool × E)} {δ:Fr} {is:List (Bool × Int)},evP q δ=.ok is->lnP is=lnE q/\is.isEmpty=q.isEmpty
 | [],δ,is,h=>by simp only [evP] at h; cases h; exact ⟨rfl,rfl⟩
 | (b,e) :: r,δ,is,h=>by
  simp only [evP] at h
  split at h
  ·obtain ⟨js,h1,h2⟩:=Res.bind_eq_ok h
   cases h2
   have:=(Ic h1).1
   cases b <;> simp [lnP,lnE,this]
  ·cases h
theorem GT {δ:Fr} {x:Nat} {f:D->Option D} {Z:Zx} {m:Ms} {r:Option Ms} {w:List Nat} {τ:Ft} {H:Hp} {En:Ends} (h:lOut Z m r w (upd (dτ τ) x f) τ H En):∃ t d',τ[x]?=some (some t)/\f t.dat=some d'/\lOut Z m r w (.nxt ((dτ τ).set x (some d'))) τ H En:=by
 unfold upd at h
 cases q:(dτ τ)[x]? with
 | none=>rw [q] at h; exact nE h
 | some o =>
  rw [q] at h
  cases o with
  | none=>exact nE h
  | some d =>
   have:get (dτ τ) x=.ok d:=by unfold get; rw [q]
   obtain ⟨t,ht,rfl⟩:=DB this
   simp only at h
   cases q2:f t.dat with
   | none=>rw [q2] at h; exact nE h
   | some d'=>rw [q2] at h; exact ⟨t,d',ht,q2,h⟩
end
theorem Fh {α β:Type} (f:α->β):∀ (l:List α) (i:Nat),(l.eraseIdx i).map f=(l.map f).eraseIdx i
 | [],_=>rfl
 | _ :: _,0=>rfl
 | a :: l,i + 1=>by simp [Fh f l i]
theorem F2 {τ:Ft} {x:Nat} {t t':T} (h:τ[x]?=some (some t)) (e:t'.val=t.val):vτ (τ.set x (some t'))=vτ τ:=by
 rw [DF,e]
 refine acx fun i=>?_
 by_cases z:x=i
 ·subst z
  rw [aba,Cu h]; rfl
 ·rw [aap z]
theorem F3 {H:Hp} {a:Addr} {vs:List V} (h:Rd H a (.lst vs)) (hp:Mu H a):H a=some (.lst vs):=by
 rcases h with h | ⟨o,h⟩
 ·exact h
 ·obtain ⟨ws,e,mu⟩:=hp
  rw [h] at e; cases e
  exact nomatch (show false=true from mu)
section
variable {Z:Zx} {m:Ms} {r:Option Ms} {w:List Nat} {τ:Ft} {H:Hp} {D:Ends} {X:Cx} {pos:Pos} {σ:L2.St}
theorem QA {x:Nat} {q:List (Bool × E)} {i e:E} (h:lS Z (.set x q i e) D σ H):∃ m,DL (lE Z.p Z.EX (tnM m) e) (Hy (lPl Z.p Z.EX (tnM m) x q) (lE Z.p Z.EX (tnM m) i) Gf) D σ H:=by
 obtain ⟨τ,m,r,rfl,S,hr,h⟩:=h
 refine ⟨m,?_⟩
 simp only [msS] at hr
 obtain ⟨⟨j1,k1⟩,h1,hr⟩:=bS hr
 obtain ⟨⟨j2,k2⟩,h2,hr⟩:=bS hr
 split at hr
 ·rename_i k hmx
  obtain ⟨⟨c1,c2,c3,c4,c5⟩,rfl⟩:=AA hr
  have c1:j1=0:=c1
  subst c1
  simp only [ex] at h
  refine ⟨τ,rfl,S.ok,0,k1,h1,(h.lg S c5).mono (Same.refl _) fun d _ h te H1 hte R=>?_⟩
  subst hte
  cases ep:evP q (dτ τ) with
  | exc c=>exact absurd ep (Ff _ _ _)
  | bad=>rw [ep] at h; exact nE h
  | ok is =>
  rw [ep] at h
  cases ei:ev i (dτ τ) with
  | exc c=>rw [ei] at h; exact nE h
  | bad=>rw [ei] at h; exact nE h
  | ok di =>
  rw [ei] at h
  cases di with
  | int n =>
   simp only at h
   obtain ⟨t,d',ht,hu,h⟩:=GT (δ:=dτ τ) h
   obtain ⟨a,ts,ds',hs,hf,hd'⟩:=Ez is hu
   unfold AV at hf
   obtain ⟨j,hj,rfl⟩:=aar.mp hf
   rw [Ae] at hj
   obtain ⟨l1,l2⟩:=Ic ep
   refine ⟨τ,t,is,.lst a ts,rfl,S.ok.same R.same,D7 c4,ht,(S.at ht hmx (by intro c; cases c)).same R.same,ep,hs,fun H2 s2=>?_⟩
   refine ⟨τ,rfl,S.ok.same (R.same.trans s2),j2,k2,h2,?_⟩
   rw [ei]
   intro t2 H3 ht2 R3
   have hv:t2.val=.int n:=by cases t2 <;> simp [T.dat] at ht2 <;> simp [T.val,ht2]
   rw [hv]
   have s3:Same H1 H3:=s2.trans R3.same
   have sH3:Same H H3:=R.same.trans s3
   have S3:=S.grow sH3
   have hl:lnP is < k:=by rw [l1]; exact c2
   have aadr:a ∈ t.adr k:=(CI is (k:=k) hs (by omega)).2 a (by
    have:k - lnP is=(k - lnP is - 1) + 1:=by omega
    rw [this]; exact aac ..)
   have okt:=DG _ (S3.at ht hmx (by intro c; cases c)) hs
   have hpl:=F3 okt.1 (S3.own x t k a ht hmx aadr).2
   have hjl:j < ts.length:=by
    unfold ixN at hj
    split at hj
    ·split at hj
     ·cases hj; omega
     ·cases hj
    ·split at hj
     ·cases hj; omega
     ·cases hj
   have hc:ts[j]?=some ts[j]:=aah hjl
   refine ⟨a,_,n,j,rfl,rfl,hpl,by rw [aab]; exact hj,?_⟩
   rw [<- aa9]
   have R':Rs Z.p (Sh (tnM m) τ) H H3 0 (k - 1 - lnP is) te:=(R.fwd s3).le (aao _) (by rw [l1]; exact c3)
   obtain ⟨t',p1,p2,S4,P4⟩:=HZ (us:=ts.set j te) (es:=[te]) S sH3 ht hmx hs hl (T.oks_iff.mpr fun w hw=>by
     rcases aaJ hw with z | rfl
     ·exact T.oks_iff.mp okt.2 w z
     ·exact R'.ok)
    (fun b z=>(show b ∈ T.adrs ts _\/b ∈ T.adrs [te] _ from by
     obtain ⟨w,hw,z2⟩:=T.mem_adrs.mp z
     rcases aaJ hw with y | rfl
     ·exact .inl (T.mem_adrs.mpr ⟨w,y,z2⟩)
     ·exact .inr (by simpa [T.adrs] using z2)))
    (fun b z=>(by
     obtain ⟨w,hw,z2⟩:=T.mem_rests.mp z
     rcases aaJ hw with y | rfl
     ·exact .inl (T.mem_rests.mpr ⟨w,y,z2⟩)
     ·exact .inr (by simpa [T.rests] using T.rest_le w (aas _) z2)))
    (fun n1 n2 n3=>(Jr hc R'.nd n1 n2 n3).1)
    (fun b z=>R'.src b (by simpa [T.rests] using z)) (fun b z=>R'.new b (by simpa [T.adrs] using z))
   have:=h _ _ _ (by rw [l2]) (by rw [Cw,hd' _ _ (EG ..) p1]) S4 P4
   rw [F2 ht p2] at this
   exact this
  | _=>exact nE h
 ·cases hr
theorem Js {K:Frag} {H:Hp} {a:Addr} {vs:List V} (h:H a=some (.lst vs)):tyV K "list" (.ref a) H:=.inl ⟨rfl,_,SqL.of h⟩
theorem Id {x:Nat} {q:List (Bool × E)} {u:Um} {es:Es} {k:Nat} (S:Sf Z.p Z.H0 Z.A0 m τ H) (hmx:m[x]?=some (.ow k)) (c2:lnE q < k) (c4:DV m q=true) (h:lOut Z m r [x] (ex (.mut x q u es) (dτ τ)) τ H D) :
  ∃ t is ds a ts ds',τ[x]?=some (some t)/\evP q (dτ τ)=.ok is/\evs es (dτ τ)=.ok ds/\AG is t=some (.lst a ts)/\lnP is=lnE q/\is.isEmpty=q.isEmpty/\umD u ds (T.dats ts)=some ds' /\
   (∀ H3,Same H H3->H3 a=some (.lst (ts.map T.val))/\T.Oks Z.p H3 ts/\a ∈ t.adr k) /\
   (∀ us m' H3 t',T.dats us=ds'->r=some m'->DU (.lst a us) is t=some t'->t'.val=t.val->Sf Z.p Z.H0 Z.A0 m' (τ.set x (some t')) (L2.upd H3 a (.lst (us.map T.val)))->Stp m m' [x] τ (τ.set x (some t')) H (L2.upd H3 a (.lst (us.map T.val)))->D.nx (vτ τ) (L2.upd H3 a (.lst (us.map T.val)))):=by
 simp only [ex] at h
 cases ep:evP q (dτ τ) with
 | exc c=>exact absurd ep (Ff _ _ _)
 | bad=>rw [ep] at h; exact nE h
 | ok is =>
 rw [ep] at h
 cases ee:evs es (dτ τ) with
 | exc c=>rw [ee] at h; exact nE h
 | bad=>rw [ee] at h; exact nE h
 | ok ds =>
 rw [ee] at h
 simp only at h
 obtain ⟨t,d',ht,hu,h⟩:=GT (δ:=dτ τ) h
 obtain ⟨a,ts,ds',hs,hf,hd'⟩:=Ez is hu
 obtain ⟨l1,l2⟩:=Ic ep
 refine ⟨t,is,ds,a,ts,ds',ht,rfl,rfl,hs,l1,l2,hf,fun H3 sH3=>?_,fun us m' H3 t' e1 e2 p1 p2 S4 P4=>?_⟩
 ·have S3:=S.grow sH3
  have hl:lnP is < k:=by rw [l1]; exact c2
  have aadr:a ∈ t.adr k:=(CI is (k:=k) hs (by omega)).2 a (by
   have:k - lnP is=(k - lnP is - 1) + 1:=by omega
   rw [this]; exact aac ..)
  have okt:=DG _ (S3.at ht hmx (by intro c; cases c)) hs
  exact ⟨F3 okt.1 (S3.own x t k a ht hmx aadr).2,okt.2,aadr⟩
 ·have:=h m' _ _ e2 (by rw [Cw,hd' us t' e1 p1]) S4 P4
  rw [F2 ht p2] at this
  exact this
noncomputable def rUm:Um->V->List V->Hp->VK->Prop
 | .append=>FC
 | .extend=>fun x vs H Q=>∃ l b xs zs,x=.ref l/\vs=[.ref b]/\H l=some (.lst xs)/\Rd H b (.lst zs)/\xs.length + zs.length<=sizeLine/\Q .non (L2.upd H l (.lst (xs ++ zs)))
 | .popAt=>K8
 | .clear=>La
 | .insert=>Jf
noncomputable def M1:V->List V->Hp->VK->Prop:=fun x vs H Q=>∃ l b xs zs,x=.ref l/\vs=[.ref b]/\H l=some (.lst xs)/\Rd H b (.lst zs)/\xs.length + zs.length<=sizeLine/\Q .non (L2.upd H l (.lst (xs ++ zs)))
end
section
variable {X:Cx}
theorem Kl:MtM X "list.extend" M1:=by
 intro pins s σ H x vs v us Q I rx rv h
 obtain ⟨l,b,xs,zs,rfl,rfl,hH,hB,hz,q⟩:=h
 cases rx
 obtain ⟨u,rfl,ru⟩:=rv.one
 cases ru
 obtain ⟨z,its,n,r,hl,e⟩:=I.lstM hH
 obtain ⟨z2,its2,n2,r2,hl2,e2⟩:=Inv.lstR I hB
 have hsz:its.toArray.size + its2.toArray.size<=sizeLine:=by rw [aak,aak]; omega
 have hlong:¬ (!its.toArray.isEmpty && Builtin.List.listTooLong (its.toArray.size + its2.toArray.size))=true:=by
  rw [HH hsz,ab2]
  exact abq
 refine call_meets F.slot_list_extend ⟨_,e,rfl⟩ F.entry_list_extend (F.args_list_extend_2 _ _)
  (AutoSeq1.list_extend_list_list_0 l its.toArray n b its2.toArray n2 hlong (by rw [aak]; omega) (by omega)) ⟨e,e2,?_⟩
 refine ⟨.non,_,I.lset (its':=its ++ its2) hH e (by simp) (r.append r2) ?_,rfl,q⟩
 rw [aaD]
 omega
end
section
variable {Z:Zx} {m:Ms} {r:Option Ms} {w:List Nat} {τ:Ft} {H:Hp} {D:Ends} {X:Cx} {pos:Pos} {σ:L2.St}
theorem OL {x:Nat} {q:List (Bool × E)} {u:Um} {es:Es} {k:Nat} (hK:X.K=Z.p.K) (S:Sf Z.p Z.H0 Z.A0 m τ H) (hmx:m[x]?=some (.ow k)) (c2:lnE q < k) (c4:DV m q=true) {j1 k1:Nat} (h1:jks (tnM m) es=some (j1,k1))
  (hc:(j1=0\/(u=.extend/\j1<=1))/\(k - 1 - lnE q=0\/(u.kind=1/\k - 1 - lnE q<=k1)\/(u.kind=2/\k - lnE q<=k1)\/u.kind=0)) (hr:r=some (if q.isEmpty then m else Bv m)) (h:lOut Z m r [x] (ex (.mut x q u es) (dτ τ)) τ H D) :
  lPl Z.p Z.EX (tnM m) x q (vτ τ) H fun v H1=>tyV X.K "list" v H1/\lEs Z.p Z.EX (tnM m) es (vτ τ) H1 fun vs H2=>rUm u v vs H2 fun _ H3=>D.nx (vτ τ) H3:=by
 obtain ⟨t,is,ds,a,ts,ds',ht,ep,ee,hs,l1,l2,hf,hpl,hnx⟩:=Id S hmx c2 c4 h
 subst hr
 refine ⟨τ,t,is,.lst a ts,rfl,S.ok,D7 c4,ht,S.at ht hmx (by intro c; cases c),ep,hs,fun H1 s1=>⟨Js (hpl H1 s1).1,?_⟩⟩
 refine ⟨τ,rfl,S.ok.same s1,j1,k1,h1,?_⟩
 rw [ee]
 intro tes H2 hte R
 subst hte
 have s2:Same H H2:=s1.trans R.same
 obtain ⟨p0,okt,aadr⟩:=hpl H2 s2
 have hl:lnP is < k:=by rw [l1]; exact c2
 have fin:∀ us es',T.dats us=ds'->T.Oks Z.p H2 us->(∀ b ∈ T.adrs us (k - 1 - lnP is),b ∈ T.adrs ts (k - 1 - lnP is)\/b ∈ T.adrs es' (k - 1 - lnP is))->(∀ b ∈ T.rests us (k - 1 - lnP is),b ∈ T.rests ts (k - 1 - lnP is)\/b ∈ T.rests es' 0) ->
   (T.Nds ts (k - 1 - lnP is)->(∀ b ∈ T.adrs es' (k - 1 - lnP is),b ∉ T.rests ts 0)->(∀ b ∈ T.adrs ts (k - 1 - lnP is),b ∉ T.rests es' 0)->T.Nds us (k - 1 - lnP is))->(∀ b ∈ T.rests es' 0,H b=none\/Sh (tnM m) τ b)->(∀ b ∈ T.adrs es' (k - 1 - lnP is),H b=none/\Mu H2 b) ->
   D.nx (vτ τ) (L2.upd H2 a (.lst (us.map T.val))):=by
  intro us es' e1 e2 e3 e4 e5 e6 e7
  obtain ⟨t',p1,p2,S4,P4⟩:=HZ (us:=us) (es:=es') S s2 ht hmx hs hl e2 e3 e4 e5 e6 e7
  rw [l2] at S4 P4
  exact hnx us _ H2 t' e1 rfl p1 p2 S4 P4
 have hz:ts.length<=sizeLine\/True:=.inr trivial
 cases u with
 | append =>
  rcases tes with _ | ⟨te,_ | ⟨te2,ter⟩⟩
  ·cases hf
  ·simp only [T.dats,umD] at hf
   obtain ⟨hlt,rfl⟩:=AA hf
   have hj:j1=0:=by
    rcases hc.1 with z | ⟨z,_⟩
    ·exact z
    ·cases z
   subst hj
   have hk1:k - 1 - lnP is<=k1\/k - 1 - lnP is=0:=by
    rw [l1]
    rcases hc.2 with z | ⟨_,z⟩ | ⟨z,_⟩ | z
    ·exact .inr z
    ·exact .inl z
    ·cases z
    ·cases z
   refine ⟨a,_,te.val,rfl,rfl,p0,by rw [aab,<- Ae]; exact hlt,?_⟩
   have:=fin (ts ++ [te]) [te] (by rw [T.dats_map,aaq,<- T.dats_map]; rfl) (T.oks_iff.mpr fun w hw=>by
     rcases aae.mp hw with z | z
     ·exact T.oks_iff.mp okt w z
     ·exact T.oks_iff.mp R.ok w z)
    (fun b z=>by rw [T.adrs_append,aae] at z; exact z) (fun b z=>by
     rw [T.rests_append,aae] at z
     refine z.imp id fun z=>?_
     simp only [T.rests,aaU] at z ⊢
     exact T.rest_le te (aas _) z)
    (fun n1 n2 n3=>Ia (by
     rcases hk1 with z | z
     ·exact (T.nds_le z R.nd:T.Nds [te] _) |> fun w=>(T.nds_cons.mp w).1
     ·rw [z]; exact T.nd_zero te) n1 n2 n3)
    (fun b z=>(R.src b z).imp s1.free id) (fun b z=>by
     rcases hk1 with y | y
     ·obtain ⟨w,hw,z⟩:=T.mem_adrs.mp z
      have:=R.new b (T.mem_adrs.mpr ⟨w,hw,T.adr_le w y z⟩)
      exact ⟨s1.free this.1,this.2⟩
     ·rw [y,T.adrs_zero] at z; cases z)
   rw [aaq] at this
   exact this
  ·have:umD .append (T.dats (te :: te2 :: ter)) (T.dats ts)=none:=rfl
   rw [this] at hf; cases hf
 | extend =>
  rcases tes with _ | ⟨te,_ | ⟨te2,ter⟩⟩
  ·cases hf
  ·cases te with
   | lst b0 es' =>
    simp only [T.dats,T.dat,umD] at hf
    obtain ⟨hlt,rfl⟩:=AA hf
    have hj:j1<=1:=by
     rcases hc.1 with z | ⟨_,z⟩
     ·omega
     ·exact z
    have hk1:k - 1 - lnP is + 1<=k1\/k - 1 - lnP is=0:=by
     rw [l1]
     rcases hc.2 with z | ⟨z,_⟩ | ⟨_,z⟩ | z
     ·exact .inr z
     ·cases z
     ·exact .inl (by omega)
     ·cases z
    refine ⟨a,b0,_,_,rfl,rfl,p0,R.ok.1.1,by rw [aab,aab,<- Ae,<- Ae]; exact hlt,?_⟩
    have nde:T.Nds es' (k - 1 - lnP is):=by
     rcases hk1 with z | z
     ·obtain ⟨n1,n2⟩:=(T.nds_cons.mp (T.nds_le z R.nd)).1
      simp only [T.adr,T.rest,aav] at n1 n2
      exact ⟨n1.2,fun b y w=>n2 b y (aaa _ w)⟩
     ·rw [z]; exact T.nds_zero _
    have:=fin (ts ++ es') es' (by rw [T.dats_map,aaq,<- T.dats_map,<- T.dats_map]) (T.oks_iff.mpr fun w hw=>by
      rcases aae.mp hw with z | z
      ·exact T.oks_iff.mp okt w z
      ·exact T.oks_iff.mp R.ok.1.2 w z)
     (fun b z=>by rw [T.adrs_append,aae] at z; exact z) (fun b z=>by
      rw [T.rests_append,aae] at z
      refine z.imp id fun z=>?_
      obtain ⟨w,hw,z2⟩:=T.mem_rests.mp z
      exact T.mem_rests.mpr ⟨w,hw,T.rest_le w (aas _) z2⟩)
     (fun n1 n2 n3=>T.nds_append n1 nde n3 n2)
     (fun b z=>(R.src b (by
      simp only [T.rests,aaU]
      exact T.rest_le (.lst b0 es') hj (j':=1) z)).imp s1.free id) (fun b z=>by
      rcases hk1 with y | y
      ·have:=R.new b (T.mem_adrs.mpr ⟨.lst b0 es',aaG.mpr rfl,T.adr_le (.lst b0 es') y (aaa _ z)⟩)
       exact ⟨s1.free this.1,this.2⟩
      ·rw [y,T.adrs_zero] at z; cases z)
    rw [aaq] at this
    exact this
   | _=>cases hf
  ·have:umD .extend (T.dats (te :: te2 :: ter)) (T.dats ts)=none:=rfl
   rw [this] at hf; cases hf
 | insert =>
  rcases tes with _ | ⟨te1,_ | ⟨te,_ | ⟨te3,ter⟩⟩⟩
  ·cases hf
  ·cases te1 <;> cases hf
  ·cases te1 with
   | int i =>
    simp only [T.dats,T.dat,umD,JZ] at hf
    obtain ⟨hlt,rfl⟩:=AA hf
    have hj:j1=0:=by
     rcases hc.1 with z | ⟨z,_⟩
     ·exact z
     ·cases z
    subst hj
    have hk0:k - 1 - lnP is=0:=by
     rw [l1]
     rcases hc.2 with z | ⟨z,_⟩ | ⟨z,_⟩ | z
     ·exact z
     ·cases z
     ·cases z
     ·cases z
    have hlen:(T.dats ts).length=(ts.map T.val).length:=by rw [Ae,aab]
    have hpos:DR (T.dats ts).length i=L2.FX (ts.map T.val).length i:=by
     rw [hlen]
     unfold DR L2.FX
     split <;> omega
    refine ⟨a,_,i,te.val,rfl,rfl,p0,hlt.2.1,hlt.2.2,by rw [<- hlen]; exact hlt.1,?_⟩
    rw [<- hpos]
    generalize DR (T.dats ts).length i=n at *
    have:=fin (ts.take n ++ te :: ts.drop n) [te] (by rw [T.dats_map,T.dats_map,aaq,aaA,abP,abQ]) (T.oks_iff.mpr fun w hw=>by
      rcases aae.mp hw with z | z
      ·exact T.oks_iff.mp okt w (aa8 z)
      ·rcases aai.mp z with rfl | z
       ·exact T.oks_iff.mp R.ok w (by simp)
       ·exact T.oks_iff.mp okt w (aa7 z))
     (fun b z=>by rw [hk0,T.adrs_zero] at z; cases z) (fun b z=>by
      rw [hk0] at z ⊢
      obtain ⟨w,hw,z2⟩:=T.mem_rests.mp z
      rcases aae.mp hw with y | y
      ·exact .inl (T.mem_rests.mpr ⟨w,aa8 y,z2⟩)
      ·rcases aai.mp y with rfl | y
       ·exact .inr (T.mem_rests.mpr ⟨w,aaG.mpr rfl,z2⟩)
       ·exact .inl (T.mem_rests.mpr ⟨w,aa7 y,z2⟩))
     (fun _ _ _=>by rw [hk0]; exact T.nds_zero _)
     (fun b z=>(R.src b (by
      obtain ⟨w,hw,z2⟩:=T.mem_rests.mp z
      exact T.mem_rests.mpr ⟨w,aaa _ hw,z2⟩)).imp s1.free id) (fun b z=>by rw [hk0,T.adrs_zero] at z; cases z)
    rw [aaq,aaA,abP,abQ] at this
    exact this
   | _=>cases hf
  ·have:umD .insert (T.dats (te1 :: te :: te3 :: ter)) (T.dats ts)=none:=by cases te1 <;> rfl
   rw [this] at hf; cases hf
 | popAt =>
  rcases tes with _ | ⟨te,_ | ⟨te2,ter⟩⟩
  ·cases hf
  ·cases te with
   | int i =>
    simp only [T.dats,T.dat,umD,un1,GO] at hf
    split at hf
    ·rename_i hb
     obtain ⟨j,hj,rfl⟩:=aar.mp hf
     rw [Ae] at hj
     obtain ⟨q1,q2,_,_⟩:=L2.GK (n:=ts.length) (i:=i) (j:=j) hj
     refine ⟨a,_,i,j,(ts.map T.val)[j]'(by simpa using q2),rfl,rfl,p0,hb.1,hb.2,by rw [aab]; exact q1,aah (by simpa using q2),?_⟩
     have sub:∀ w ∈ ts.eraseIdx j,w ∈ ts:=fun w hw=>(aci ts j).subset hw
     have:=fin (ts.eraseIdx j) [] (by rw [T.dats_map,T.dats_map,Fh]) (T.oks_iff.mpr fun w hw=>T.oks_iff.mp okt w (sub w hw))
      (fun b z=>by
       obtain ⟨w,hw,z2⟩:=T.mem_adrs.mp z
       exact .inl (T.mem_adrs.mpr ⟨w,sub w hw,z2⟩)) (fun b z=>by
       obtain ⟨w,hw,z2⟩:=T.mem_rests.mp z
       exact .inl (T.mem_rests.mpr ⟨w,sub w hw,z2⟩))
      (fun n1 _ _=>OJ (aci ts j) n1) (fun b z=>nomatch z) (fun b z=>nomatch z)
     rw [Fh] at this
     exact this
    ·cases hf
   | _=>cases hf
  ·have:umD .popAt (T.dats (te :: te2 :: ter)) (T.dats ts)=none:=rfl
   rw [this] at hf; cases hf
 | clear =>
  rcases tes with _ | ⟨te,ter⟩
  ·cases hf
   refine ⟨a,_,rfl,rfl,p0,?_⟩
   exact fin [] [] rfl trivial (fun b z=>nomatch z) (fun b z=>nomatch z) (fun n1 _ _=>by simp [T.Nds,T.adrs]) (fun b z=>nomatch z) (fun b z=>nomatch z)
  ·have:umD .clear (T.dats (te :: ter)) (T.dats ts)=none:=rfl
   rw [this] at hf; cases hf
end
section
variable {p:Px} {H0:Hp} {A0:Addr->Prop} {m:Ms} {τ:Ft} {H H1:Hp}
theorem NN {y ky:Nat} {ty:T} (S:Sf p H0 A0 (m.set y .dead) τ H) (hy:τ[y]?=some (some ty)) (hm:y < m.length) (h90:ky < 90) (ok:ty.Ok p H) (src:∀ a ∈ ty.rest ky,H0 a=none\/A0 a)
  (sep:∀ (i:Nat) (t:T) (k:Nat),τ[i]?=some (some t)->(m.set y .dead)[i]?=some (.ow k)->∀ a ∈ t.adr k,a ∉ ty.rest ky) (top:∀ (i:Nat) (t:T) (k:Nat),τ[i]?=some (some t)->(m.set y .dead)[i]?=some (.ow k)->∀ a ts,t=.lst a ts->a ∉ ty.rest 0):Sf p H0 A0 (m.set y (.br ky)) τ H:=by
 have back:∀ {i:Nat} {d:Md},(m.set y (.br ky))[i]?=some d->(i=y/\d=.br ky)\/(i ≠ y/\(m.set y .dead)[i]?=some d):=by
  intro i d h
  rcases Ad h with z | ⟨z1,z2⟩
  ·exact .inl z
  ·exact .inr ⟨z1,by rw [aap (Ne.symm z1)]; exact z2⟩
 have ow':∀ {i k:Nat},(m.set y (.br ky))[i]?=some (.ow k)->(m.set y .dead)[i]?=some (.ow k):=by
  intro i k h
  rcases back h with ⟨_,z⟩ | ⟨_,z⟩
  ·cases z
  ·exact z
 refine ⟨by have:=S.len; rw [aaF] at this ⊢; exact this,fun d hd=>?_,S.same,fun i t j e ej l=>?_,fun i t k a e hk q=>S.own i t k a e (ow' hk) q,fun a sh=>?_,fun i t k e hk=>S.nd i t k e (ow' hk),fun i j t u k d ne e hk e' hd nd a q=>?_,fun i j t u k k2 e hk e' hd a ts z=>?_⟩
 ·obtain ⟨i,hi,rfl⟩:=abf hd
  rcases back (aah hi) with ⟨_,z⟩ | ⟨_,z⟩
  ·rw [z]; exact decide_eq_true h90
  ·exact S.small _ (aaf z)
 ·obtain ⟨d,hd,rfl⟩:=AR ej
  rcases back hd with ⟨rfl,z⟩ | ⟨_,z⟩
  ·rw [hy] at e; cases e; exact ok
  ·exact S.ok i t _ e (AL z) l
 ·obtain ⟨i,t,j,e,ej,l,q⟩:=sh
  obtain ⟨d,hd,rfl⟩:=AR ej
  rcases back hd with ⟨rfl,z⟩ | ⟨_,z⟩
  ·rw [hy] at e; cases e; subst z; exact src a q
  ·exact S.src a ⟨i,t,_,e,AL z,l,q⟩
 ·rcases back hd with ⟨rfl,z⟩ | ⟨_,z⟩
  ·rw [hy] at e'; cases e'; subst z; exact sep i t k e (ow' hk) a q
  ·exact S.sep i j t u k d ne e (ow' hk) e' z nd a q
 ·rcases back hd with ⟨rfl,z'⟩ | ⟨_,z'⟩
  ·rw [hy] at e'; cases e'; exact top i t k e (ow' hk) a ts z
  ·exact S.top i j t u k k2 e (ow' hk) e' z' a ts z
theorem OM {x y k ky:Nat} {ty:T} {a:Addr} {ts:List T} (S:Sf p H0 A0 m τ H) (s:Same H H1) (hx:τ[x]?=some (some (.lst a ts))) (hm:m[x]?=some (.ow k)) (hy:τ[y]?=some (some ty)) (hmy:m[y]?=some (.ow ky)) (hne:y ≠ x) (hk:k - 1<=ky) :
  Sf p H0 A0 (m.set y (.br ky)) (τ.set x (some (.lst a (ts ++ [ty])))) (L2.upd H1 a (.lst ((ts ++ [ty]).map T.val)))/\Stp m (m.set y (.br ky)) [x] τ (τ.set x (some (.lst a (ts ++ [ty])))) H (L2.upd H1 a (.lst ((ts ++ [ty]).map T.val))):=by
 have S1:=S.grow s
 have sm:0 < k/\k < 90:=of_decide_eq_true (S.small _ (aaf hm))
 have smy:0 < ky/\ky < 90:=of_decide_eq_true (S.small _ (aaf hmy))
 have no:∀ {k0:Nat},Md.ow k0 ≠ .dead:=by intro k0 c; cases c
 have hyl:y < m.length:=(aaz.mp hmy).1
 have sxy:∀ b ∈ (T.lst a ts).adr k,b ∉ ty.rest 0:=S.sep x y _ ty k _ (Ne.symm hne) hx hm hy hmy no
 have syx:∀ b ∈ ty.adr ky,b ∉ (T.lst a ts).rest 0:=S.sep y x ty _ ky _ hne hy hmy hx hm no
 obtain ⟨k',rfl⟩:∃ k',k=k' + 1:=⟨k - 1,by omega⟩
 have aadr:a ∈ (T.lst a ts).adr (k' + 1):=aac ..
 have ndx:=S.nd x _ _ hx hm
 have ndt:T.Nds ts k':=by
  obtain ⟨n1,n2⟩:=ndx
  simp only [T.adr,T.rest,aav] at n1 n2
  exact ⟨n1.2,fun b z y=>n2 b z (aaa _ y)⟩
 have hk':k'<=ky:=by omega
 have okx:=S1.at hx hm no
 have oky:=S1.at hy hmy no
 have e0:k' + 1 - 1 - lnP []=k':=by simp [lnP]
 obtain ⟨t',p1,p2,S2,P2⟩:=LJ (F:=fun b=>b ∈ ty.adr k') (N:=fun b=>b ∈ ty.rest 0) (m1:=m.set y .dead) (us:=ts ++ [ty]) (q:=[]) S s hx hm rfl (by simp [lnP])
  (T.oks_iff.mpr fun w hw=>by
   rcases aae.mp hw with z | z
   ·exact T.oks_iff.mp okx.2 w z
   ·cases aaG.mp z; exact oky)
  (fun b z=>(T.all_iff ty k').mpr (.inl z))
  (by
   rw [e0]
   intro b z
   rw [T.adrs_append,aae] at z
   exact z.imp id fun z=>by simpa [T.adrs] using z)
  (by
   rw [e0]
   intro b z
   rw [T.rests_append,aae] at z
   exact z.imp id fun z=>T.rest_le ty (aas k') (by simpa [T.rests] using z))
  (by
   rw [e0]
   exact Ia (T.nd_le ty hk' (S.nd y ty ky hy hmy)) ndt (fun b z w=>syx b (T.adr_le ty hk' (by simpa [T.adrs] using z)) (aaa _ w)) (fun b z w=>sxy b (aaa _ z) (by simpa [T.rests] using w)))
  (fun b z=>syx b (T.adr_le ty hk' z)) (fun b z=>S1.own y ty ky b hy hmy (T.adr_le ty hk' z)) (fun b z=>.inl ⟨y,ty,ky,hy,hmy,T.adr_le ty hk' z⟩) (fun b z w=>sxy b w z)
  (fun b z=>by
   rcases (T.all_iff ty ky).mp z with w | w
   ·exact .inl (S.own y ty ky b hy hmy w).1
   ·exact S.src b ⟨y,ty,ky,hy,AL hmy,smy.2,w⟩)
  (by rw [aaF]) (by rw [aap hne]; exact hm)
  (fun j d ne hd nd=>by
   rcases Ad hd with ⟨_,z⟩ | ⟨_,z⟩
   ·exact absurd z nd
   ·exact ⟨z,fun w=>absurd rfl w⟩)
  (fun j u d ne e hd nd b z=>by
   rcases Ad hd with ⟨_,w⟩ | ⟨w,hd⟩
   ·exact absurd w nd
   ·exact S.sep y j ty u ky d (Ne.symm w) hy hmy e hd nd b (T.adr_le ty hk' z))
  (fun i u k2 ne e hk2 b z w=>by
   rcases Ad hk2 with ⟨_,w'⟩ | ⟨w',hk2⟩
   ·cases w'
   ·exact S.sep i y u ty k2 _ w' e hk2 hy hmy no b w z)
 cases p1
 have hy':(τ.set x (some (.lst a (ts ++ [ty]))))[y]?=some (some ty):=by rw [aap (Ne.symm hne)]; exact hy
 have atop:a ∉ ty.rest 0:=sxy a aadr
 refine ⟨NN S2 hy' hyl smy.2 ?_ (fun b z=>S.src b ⟨y,ty,ky,hy,AL hmy,smy.2,z⟩) (fun i t k2 e hk2 b z w=>?_) (fun i t k2 e hk2 b cs z=>?_),P2.keep,fun b o=>P2.grow b ?_,P2.wr,P2.ad⟩
 ·refine CW (H:=H1) (fun b w e n=>by rw [Al n]; exact e) (S1.own x _ _ a hx hm aadr).2 oky atop
 ·rcases Ad e with ⟨rfl,e2⟩ | ⟨n1,e1⟩
  ·cases e2
   rcases Ad hk2 with ⟨w',_⟩ | ⟨_,hk2⟩
   ·exact hne w'.symm
   ·rw [hm] at hk2
    cases hk2
    simp only [T.adr,T.adrs_append,T.adrs,aai,aae,aaU] at z
    rcases z with rfl | z | z
    ·exact atop (T.rest_le ty (aas _) w)
    ·exact sxy b (aaa _ z) (T.rest_le ty (aas _) w)
    ·exact (S.nd y ty ky hy hmy).2 b w (T.adr_le ty hk' z)
  ·rcases Ad hk2 with ⟨_,w'⟩ | ⟨w',hk2⟩
   ·cases w'
   ·exact S.sep i y t ty k2 _ w' e1 hk2 hy hmy no b z (T.rest_le ty (aas _) w)
 ·rcases Ad e with ⟨rfl,e2⟩ | ⟨n1,e1⟩
  ·cases e2
   cases z
   exact atop
  ·rcases Ad hk2 with ⟨_,w'⟩ | ⟨w',hk2⟩
   ·cases w'
   ·subst z
    have:=of_decide_eq_true (S.small _ (aaf hk2))
    refine S.sep i y _ ty k2 _ w' e1 hk2 hy hmy no b ?_
    obtain ⟨k3,rfl⟩:∃ k3,k2=k3 + 1:=⟨k2 - 1,by omega⟩
    exact aac ..
 ·obtain ⟨i,t,k2,e,hk2,z⟩:=o
  refine ⟨i,t,k2,e,?_,z⟩
  rcases Ad hk2 with ⟨_,w'⟩ | ⟨w',hk2⟩
  ·cases w'
  ·rw [aap (Ne.symm w')]; exact hk2
end
section
variable {Z:Zx} {m:Ms} {r:Option Ms} {τ:Ft} {H:Hp} {D:Ends} {X:Cx}
theorem QB {x y k ky:Nat} (S:Sf Z.p Z.H0 Z.A0 m τ H) (hmx:m[x]?=some (.ow k)) (hmy:m[y]?=some (.ow ky)) (hne:y ≠ x) (hk:k - 1<=ky) (hr:r=some (m.set y (.br ky))) (h:lOut Z m r [x] (ex (.mut x [] .append (.cons (.nm y) .nil)) (dτ τ)) τ H D) :
  lPl Z.p Z.EX (tnM m) x [] (vτ τ) H fun v H1=>tyV X.K "list" v H1/\(NB (GI y) PN) (vτ τ) H1 fun vs H2=>FC v vs H2 fun _ H3=>D.nx (vτ τ) H3:=by
 have sm:0 < k/\k < 90:=of_decide_eq_true (S.small _ (aaf hmx))
 obtain ⟨t,is,ds,a,ts,ds',ht,ep,ee,hs,l1,l2,hf,hpl,hnx⟩:=Id S hmx (by simp [lnE]; omega) rfl h
 cases ep
 cases hs
 subst hr
 simp only [evs,ev] at ee
 obtain ⟨d,e1,ee⟩:=Res.bind_eq_ok ee
 cases ee
 obtain ⟨ty,hy,rfl⟩:=DB e1
 simp only [umD] at hf
 obtain ⟨hlt,rfl⟩:=AA hf
 refine ⟨τ,_,[],.lst a ts,rfl,S.ok,D7 rfl,ht,S.at ht hmx (by intro c; cases c),rfl,rfl,fun H1 s1=>⟨Js (hpl H1 s1).1,?_⟩⟩
 refine ⟨ty.val,Cu hy,?_⟩
 show FC (.ref a) [ty.val] H1 (fun _ H3=>D.nx (vτ τ) H3)
 refine ⟨a,_,ty.val,rfl,rfl,(hpl H1 s1).1,by rw [aab,<- Ae]; exact hlt,?_⟩
 obtain ⟨S2,P2⟩:=OM S s1 ht hmx hy hmy hne hk
 have:=hnx (ts ++ [ty]) _ H1 _ (by rw [T.dats_map,aaq,<- T.dats_map]; rfl) rfl rfl rfl S2 P2
 rw [aaq] at this
 exact this
end
section
variable {Z:Zx} {m:Ms} {r:Option Ms} {w:List Nat} {τ:Ft} {H:Hp} {D:Ends} {X:Cx} {pos:Pos} {σ:L2.St}
theorem ON {K:Frag} {xs:List Nat} {e:E} (h:lS Z (.asgT xs e) D σ H):∃ m,DL (lE Z.p Z.EX (tnM m) e) (lG K (.tp xs)) D σ H:=by
 obtain ⟨τ,m,r,rfl,S,hr,h⟩:=h
 refine ⟨m,?_⟩
 simp only [msS] at hr
 obtain ⟨⟨j1,k1⟩,h1,hr⟩:=bS hr
 obtain ⟨⟨c1,c2⟩,rfl⟩:=AA hr
 have c1:j1=0:=c1
 subst c1
 simp only [ex] at h
 refine ⟨τ,rfl,S.ok,0,k1,h1,(h.lg S c2).mono (Same.refl _) fun d _ h t H1 ht R=>?_⟩
 subst ht
 rw [E9] at h
 cases q:Cg (.tp xs) t τ with
 | none=>rw [q] at h; exact nE h
 | some τ' =>
  rw [q] at h
  obtain ⟨S2,P2⟩:=RA S R.same R.ok R.src q
  exact Kg R.ok q (h _ τ' H1 rfl rfl S2 P2)
theorem OO {e:E} (h:lS Z (.expr e) D σ H):∃ m,Ny (lE Z.p Z.EX (tnM m) e) D σ H:=by
 obtain ⟨τ,m,r,rfl,S,hr,h⟩:=h
 refine ⟨m,?_⟩
 simp only [msS] at hr
 obtain ⟨⟨j1,k1⟩,h1,hr⟩:=bS hr
 obtain ⟨c2,rfl⟩:=AA hr
 simp only [ex] at h
 exact ⟨τ,rfl,S.ok,j1,k1,h1,(h.lg S c2).mono (Same.refl _) fun d _ h t H1 ht R=>h m τ H1 rfl rfl (S.grow R.same) (Stp.refl _ (F0 S.small) R.same)⟩
theorem M2 {c:Nat} {es:Es} (h:lS Z (.raise c es) D σ H):∃ m,lEs Z.p Z.EX (tnM m) es σ H fun vs H1=>vs.length=es.len/\(Z.p.has c=true->Z.EX σ (.ref (Z.p.cl c)) none H1):=by
 obtain ⟨τ,m,r,rfl,S,hr,h⟩:=h
 refine ⟨m,?_⟩
 simp only [msS] at hr
 obtain ⟨⟨j1,k1⟩,h1,hr⟩:=bS hr
 obtain ⟨c2,rfl⟩:=AA hr
 simp only [ex] at h
 refine ⟨τ,rfl,S.ok,j1,k1,h1,(h.lg S c2).mono (Same.refl _) fun ds e h ts H1 hts R=>⟨?_,fun hc=>h hc τ H1 rfl ((S.weak c2).grow R.same) (Stp.refl _ c2 R.same)⟩⟩
 rw [aab,<- Ae,hts,B5 _ _ _ e]
theorem QC {e:E} (h:lS Z (.ret e) D σ H):(∃ (i:Nat) (t:T),e=.nm i/\σ[i]?=some (some t.val)/\D.rt t.val H)\/∃ m,lE Z.p Z.EX (tnM m) e σ H D.rt:=by
 obtain ⟨τ,m,r,rfl,S,hr,h⟩:=h
 simp only [msS] at hr
 obtain ⟨k,hk,hr⟩:=bS hr
 obtain ⟨⟨⟨c1,c0⟩,c2⟩,rfl⟩:=AA hr
 simp only [ex] at h
 have gen:∀ j,(jk (tnM m) e=some (j,k))->j=0->∃ m,lE Z.p Z.EX (tnM m) e (vτ τ) H D.rt:=by
  intro j hj hz
  subst hz
  refine ⟨m,τ,rfl,S.ok,0,k,hj,(h.lg S c2).mono (Same.refl _) fun d _ h t H1 ht R=>lRet.lo h c0 ht ⟨S.same.trans R.same,R.ok,fun a q=>?_,fun a q=>?_,T.nd_le t c1 R.nd⟩⟩
  ·rcases R.src a q with z | z
   ·exact .inl (S.same.free z)
   ·exact S.src a z
  ·have:=R.new a (T.adr_le t c1 q)
   exact ⟨S.same.free this.1,this.2⟩
 by_cases hnm:∃ i,e=.nm i
 ·obtain ⟨i,rfl⟩:=hnm
  simp only [rk] at hk
  cases q:get (dτ τ) i with
  | exc c=>unfold get at q; split at q <;> cases q
  | bad=>simp only [ev,q] at h; exact nE h
  | ok d =>
   obtain ⟨t,ht,rfl⟩:=DB q
   simp only [ev,q] at h
   refine .inl ⟨i,t,rfl,Cu ht,lRet.lo h c0 rfl ?_⟩
   split at hk
   ·rename_i k0 hm
    cases hk
    have sm:0 < k/\k < 90:=of_decide_eq_true (S.small _ (aaf hm))
    refine ⟨S.same,S.at ht hm (by intro c; cases c),fun a z=>?_,fun a z=>S.own i t k a ht hm (T.adr_le t c1 z),T.nd_le t c1 (S.nd i t k ht hm)⟩
    rcases (T.all_iff t k).mp z with y | y
    ·exact .inl (S.own i t k a ht hm y).1
    ·exact S.src a ⟨i,t,k,ht,AL hm,sm.2,y⟩
   ·rename_i hm
    cases hk
    have c1:Z.dep=0:=by omega
    rw [c1]
    exact ⟨S.same,S.at ht hm (by intro c; cases c),fun a z=>S.src a ⟨i,t,0,ht,AL hm,by decide,z⟩,by rw [T.adr_zero]; simp,T.nd_zero t⟩
   ·cases hk
 ·refine .inr ?_
  have:rk m e=(jk (tnM m) e).bind fun x=>if x.1=0 then some x.2 else none:=by
   cases e <;> first | rfl | exact absurd ⟨_,rfl⟩ hnm
  rw [this] at hk
  obtain ⟨⟨j1,k1⟩,h1,hk⟩:=bS hk
  obtain ⟨z,rfl⟩:=AA hk
  exact gen j1 h1 z
theorem lOut.weak {r1 r2:Option Ms} {w1 w2:List Nat} {o:Out} (h:lOut Z m r2 w2 o τ H D) (hj:okJ r1 r2=true) (hw:∀ i ∈ w1,i ∈ w2):lOut Z m r1 w1 o τ H D:=by
 cases o with
 | nxt δ' =>
  intro m' τ' H' e1 e2 S P
  subst e1
  cases r2 with
  | none=>cases hj
  | some m2=>exact h m2 τ' H' rfl e2 (S.weak hj) ⟨P.keep,fun a o=>P.grow a (o.weak hj),fun i hi=>P.wr i fun q=>hi (hw i q),fun i hi=>P.ad i fun q=>hi (hw _ q)⟩
 | ret d=>exact h.to hw fun _ _=>rfl
 | exc c δ'=>exact fun hc τ' H' e S P=>h hc τ' H' e S (P.mono hw)
 | bad=>exact h
theorem QD {c:E} {a b:Ss} (h:lS Z (.iff c a b) D σ H):∃ m,Ps (lT Z.p Z.EX (tnM m) c) (lSs Z a) (lSs Z b) D σ H:=by
 obtain ⟨τ,m,r,rfl,S,hr,h⟩:=h
 refine ⟨m,?_⟩
 simp only [msS] at hr
 obtain ⟨⟨j1,k1⟩,h1,hr⟩:=bS hr
 split at hr
 ·rename_i c2
  obtain ⟨ra,h2,hr⟩:=bS hr
  obtain ⟨rb,h3,hr⟩:=bS hr
  obtain ⟨⟨c3,c4⟩,rfl⟩:=AA hr
  simp only [ex] at h
  refine ⟨τ,rfl,S.ok,by rw [h1]; rfl,(h.lg S c2).mono (Same.refl _) fun t _ h H1 s1=>?_⟩
  have S1:=S.grow s1
  have shift:∀ {o:Out} {r0:Option Ms} {w0:List Nat},lOut Z m r0 w0 o τ H D->lOut Z m r0 w0 o τ H1 D:=by
   intro o r0 w0 h
   cases o with
   | nxt δ'=>exact fun m' τ' H' e1 e2 S P=>h m' τ' H' e1 e2 S ⟨fun a u e n=>P.keep a u (s1 a u e) n,fun a o=>(P.grow a o).imp id s1.free,P.wr,P.ad⟩
   | ret d=>exact h
   | exc c δ'=>exact fun hc τ' H' e S P=>h hc τ' H' e S ⟨fun a u e n=>P.keep a u (s1 a u e) n,fun a o=>(P.grow a o).imp id s1.free,P.wr,P.ad⟩
   | bad=>exact h
  cases t with
  | true =>
   rw [if_pos rfl] at h
   show (if true=true then lSs Z a D (vτ τ) H1 else lSs Z b D (vτ τ) H1)
   rw [if_pos rfl]
   exact ⟨τ,m,ra,rfl,S1,h2,shift (h.weak c3 fun i hi=>aan _ hi)⟩
  | false =>
   rw [if_neg (by decide)] at h
   show (if false=true then lSs Z a D (vτ τ) H1 else lSs Z b D (vτ τ) H1)
   rw [if_neg (by decide)]
   exact ⟨τ,m,rb,rfl,S1,h3,shift (h.weak c4 fun i hi=>aag _ hi)⟩
 ·cases hr
theorem lOut.shift {H1:Hp} {o:Out} (s1:Same H H1) (h:lOut Z m r w o τ H D):lOut Z m r w o τ H1 D:=by
 cases o with
 | nxt δ'=>exact fun m' τ' H' e1 e2 S P=>h m' τ' H' e1 e2 S ⟨fun a u e n=>P.keep a u (s1 a u e) n,fun a o=>(P.grow a o).imp id s1.free,P.wr,P.ad⟩
 | ret d=>exact h
 | exc c δ'=>exact fun hc τ' H' e S P=>h hc τ' H' e S ⟨fun a u e n=>P.keep a u (s1 a u e) n,fun a o=>(P.grow a o).imp id s1.free,P.wr,P.ad⟩
 | bad=>exact h
theorem lOut.after {m1:Ms} {τ1:Ft} {H1:Hp} {w1 w2:List Nat} {o:Out} (P:Stp m m1 w1 τ τ1 H H1) (hw1:∀ i ∈ w1,i ∈ w) (hw2:∀ i ∈ w2,i ∈ w) (h:lOut Z m r w o τ H D):lOut Z m1 r w2 o τ1 H1 D:=by
 cases o with
 | nxt δ'=>exact fun m' τ' H' e1 e2 S Q=>h m' τ' H' e1 e2 S ((P.trans Q).mono fun i hi=>by
   rcases aae.mp hi with z | z
   ·exact hw1 i z
   ·exact hw2 i z)
 | ret d=>exact h.to hw2 fun i hi=>P.ad i fun z=>hi (hw1 _ z)
 | exc c δ'=>exact fun hc τ' H' e S Q=>h hc τ' H' e S ((P.trans Q).mono fun i hi=>by
   rcases aae.mp hi with z | z
   ·exact hw1 i z
   ·exact hw2 i z)
 | bad=>exact h
theorem QE {s:S} {rest:Ss} (h:lSs Z (.cons s rest) D σ H):lS Z s { D with nx:=lSs Z rest D } σ H:=by
 obtain ⟨τ,m,r,rfl,S,hr,h⟩:=h
 simp only [msSs] at hr
 obtain ⟨r1,h1,hr⟩:=bS hr
 refine ⟨τ,m,r1,rfl,S,h1,?_⟩
 simp only [exs] at h
 cases q:ex s (dτ τ) with
 | nxt δ' =>
  rw [q] at h
  intro m' τ' H' e1 e2 S' P
  subst e1
  simp only at hr
  refine ⟨τ',m',r,rfl,S',hr,?_⟩
  rw [e2]
  exact h.after P (fun i hi=>aan _ hi) (fun i hi=>aag _ hi)
 | ret d=>rw [q] at h; exact lRet.to (show lRet Z _ d τ D from h) (fun i hi=>aan _ hi) fun _ _=>rfl
 | exc c δ' =>
  rw [q] at h
  exact fun hc τ' H' e S' P=>h hc τ' H' e S' (P.mono fun i hi=>aan _ hi)
 | bad=>rw [q] at h; exact h
theorem QF (h:lSs Z .nil D σ H):D.nx σ H:=by
 obtain ⟨τ,m,r,rfl,S,hr,h⟩:=h
 cases hr
 exact h m τ H rfl rfl S (Stp.refl _ (F0 S.small) (Same.refl _))
theorem OP {s:S} {rest:Ss} (hs:(∃ x k,s=.dem x k)\/(∃ x,s=.dead x)) (h:lSs Z (.cons s rest) D σ H):lSs Z rest D σ H:=by
 obtain ⟨τ,m,r,rfl,S,hr,h⟩:=h
 simp only [msSs] at hr
 obtain ⟨r1,h1,hr⟩:=bS hr
 rcases hs with ⟨x,k,rfl⟩ | ⟨x,rfl⟩
 ·simp only [msS] at h1
  obtain ⟨c,rfl⟩:=AA h1
  refine ⟨τ,_,r,rfl,S.weak c,hr,?_⟩
  simp only [exs,ex,Out.then_nxt] at h
  exact h.after (w1:=[]) (Stp.refl _ c (Same.refl _)) (fun i hi=>nomatch hi) (fun i hi=>aag _ hi)
 ·simp only [msS] at h1
  obtain ⟨c,rfl⟩:=AA h1
  refine ⟨τ,_,r,rfl,S.weak c,hr,?_⟩
  simp only [exs,ex,Out.then_nxt] at h
  exact h.after (w1:=[]) (Stp.refl _ c (Same.refl _)) (fun i hi=>nomatch hi) (fun i hi=>aag _ hi)
end
section
variable {Z:Zx} {m:Ms} {r:Option Ms} {w:List Nat} {τ:Ft} {H:Hp} {D:Ends} {X:Cx} {pos:Pos} {σ:L2.St}
theorem RE {c:E} {b:Ss} (h:lS Z (.wh c b) D σ H):∃ m,KR (lT Z.p Z.EX (tnM m) c) (lSs Z b) D σ H:=by
 obtain ⟨τ,m,r,rfl,S,hr,h⟩:=h
 refine ⟨m,?_⟩
 simp only [msS] at hr
 obtain ⟨⟨j1,k1⟩,h1,hr⟩:=bS hr
 split at hr
 ·rename_i c2
  obtain ⟨rb,h2,hr⟩:=bS hr
  have hrb:r=some m/\okJ rb (some m)=true:=by
   cases rb with
   | none=>exact ⟨(Option.some.inj hr).symm,rfl⟩
   | some mb =>
    obtain ⟨z,e⟩:=AA hr
    exact ⟨e.symm,z⟩
  obtain ⟨rfl,hj⟩:=hrb
  simp only [ex] at h
  refine ⟨fun n σ H'=>∃ τ',σ=vτ τ'/\Sf Z.p Z.H0 Z.A0 m τ' H'/\Stp m m (wrSs b) τ τ' H H'/\lOut Z m (some m) (wrSs b) (BR (tv c) (exs b) n (dτ τ')) τ H D,⟨FU,τ,rfl,S,Stp.refl _ (F0 S.small) (Same.refl _),h⟩,?_⟩
  rintro n σ' H' ⟨τ',rfl,S',P',h'⟩
  cases n with
  | zero=>exact nE h'
  | succ n =>
   simp only [BR] at h'
   have hb:=h'.after (w:=wrSs b) (w1:=wrSs b) (w2:=wrSs b) P' (fun _ z=>z) (fun _ z=>z)
   refine ⟨τ',rfl,S'.ok,by rw [h1]; rfl,(hb.lg S' c2).mono (Same.refl _) fun t et hb2 H1 s1=>?_⟩
   rw [et] at h'
   simp only [Res.out_ok] at h'
   cases t with
   | false =>
    show (if false=true then _ else D.nx (vτ τ') H1)
    rw [if_neg (by decide)]
    rw [if_neg (by decide)] at h'
    exact h' m τ' H1 rfl rfl (S'.grow s1) ⟨fun a u e n=>s1 _ _ (P'.keep a u e n),P'.grow,P'.wr,P'.ad⟩
   | true =>
    rw [if_pos rfl] at h' hb2
    show (if true=true then _ else _)
    rw [if_pos rfl]
    refine ⟨fun σ2 H2=>∃ τ2,σ2=vτ τ2/\Sf Z.p Z.H0 Z.A0 m τ2 H2/\Stp m m (wrSs b) τ τ2 H H2/\lOut Z m (some m) (wrSs b) (BR (tv c) (exs b) n (dτ τ2)) τ H D,fun σ2 H2 q=>⟨n,Nat.lt_succ_self n,q⟩,?_⟩
    refine ⟨τ',m,rb,rfl,S'.grow s1,h2,?_⟩
    have hb3:=hb2.shift s1
    have P1:Stp m m (wrSs b) τ τ' H H1:=⟨fun a u e n=>s1 _ _ (P'.keep a u e n),P'.grow,P'.wr,P'.ad⟩
    cases q:exs b (dτ τ') with
    | nxt δ2 =>
     rw [q] at h'
     intro m' τ2 H2 e1 e2 S2 P2
     subst e1
     have hle:leM m' m=true:=hj
     refine ⟨τ2,rfl,S2.weak hle,((P1.trans P2).mono (w2:=wrSs b) (fun i hi=>by simpa using hi)) |> fun P3=>⟨P3.keep,fun a o=>P3.grow a (Own.weak hle o),P3.wr,P3.ad⟩,?_⟩
     rw [e2]; exact h'
    | ret d=>rw [q] at hb3; exact hb3
    | exc c' δ'=>rw [q] at hb3; exact hb3
    | bad=>rw [q] at hb3; exact hb3
 ·cases hr
theorem Stp.lesser {m1 m2:Ms} {τ':Ft} {H':Hp} (h:leM m1 m2=true) (P:Stp m m1 w τ τ' H H'):Stp m m2 w τ τ' H H':=⟨P.keep,fun a o=>P.grow a (Own.weak h o),P.wr,P.ad⟩
theorem Ie {K:Frag} {g:Tg} {b:Ss} {J:L2.It} {us:List T} {ds:List Pu.D} {j:Nat} {H1:Hp} {rb:Option Ms} (S:Sf Z.p Z.H0 Z.A0 m τ H) (IT:ItOk Z.p (Sh (tnM m) τ) H H1 J us j ds) (hd:leM m (Ag m g.sl .dead)=true)
  (h2:msSs Z.mx Z.dep b (Ag (Ag m g.sl .dead) g.sl .sh)=some rb) (hj:okJ rb (some (Ag m g.sl .dead))=true)
  (per:∀ (τ':Ft) (H':Hp),Sf Z.p Z.H0 Z.A0 (Ag m g.sl .dead) τ' H'->Stp m (Ag m g.sl .dead) (up g.sl ++ wrSs b) τ τ' H1 H'->T.Oks Z.p H' us)
  (h:lOut Z m (some (Ag m g.sl .dead)) (up g.sl ++ wrSs b) (BS g (exs b) ds (dτ τ)) τ H1 D) :
  ∃ W:Nat->Nat->L2.St->Hp->Prop,(∃ n,W 0 n (vτ τ) H1)/\∀ i n σ H,W i n σ H->(J.stop i H/\D.nx σ H)\/(J.go i H/\∃ N:L2.St->Hp->Prop,(∀ σ' H',N σ' H'->∃ n',n' < n/\W (i + 1) n' σ' H')/\∀ x H',J.yld i H x H'->lG K g x σ H' fun σ2 H2=>lSs Z b { D with nx:=N,ct:=N,bk:=D.nx } σ2 H2):=by
 have S1:=S.grow IT.same
 have fineU:∀ a,(H a=none\/Sh (tnM m) τ a)->(Z.H0 a=none\/Z.A0 a)/\¬ Own m τ a:=fun a q=>S.fine q
 refine ⟨fun i n σ H'=>n=ds.length - i/\i<=ds.length/\∃ τ',σ=vτ τ'/\Sf Z.p Z.H0 Z.A0 (Ag m g.sl .dead) τ' H'/\Stp m (Ag m g.sl .dead) (up g.sl ++ wrSs b) τ τ' H1 H'/\lOut Z m (some (Ag m g.sl .dead)) (up g.sl ++ wrSs b) (BS g (exs b) (ds.drop i) (dτ τ')) τ H1 D,
  ⟨ds.length,by simp,aas _,τ,rfl,S1.weak hd,Stp.refl _ hd (Same.refl _),by simpa using h⟩,?_⟩
 rintro i n σ' H' ⟨rfl,hi,τ',rfl,S',P',h'⟩
 have usok:=per τ' H' S' P'
 rcases acs i ds.length with hlt | hge
 ·have hdi:ds[i]?=some ds[i]:=aah hlt
  rw [abD hlt] at h'
  simp only [BS] at h'
  refine .inr ⟨IT.go i H' usok hlt,fun σ2 H2=>∃ τ2,σ2=vτ τ2/\Sf Z.p Z.H0 Z.A0 (Ag m g.sl .dead) τ2 H2/\Stp m (Ag m g.sl .dead) (up g.sl ++ wrSs b) τ τ2 H1 H2/\lOut Z m (some (Ag m g.sl .dead)) (up g.sl ++ wrSs b) (BS g (exs b) (ds.drop (i + 1)) (dτ τ2)) τ H1 D,
   fun σ2 H2 q=>⟨ds.length - (i + 1),by omega,rfl,hlt,q⟩,fun x H'' y=>?_⟩
  obtain ⟨s2,t,rfl,ht,tok,tus,tsrc⟩:=IT.yld i H' x H'' ds[i] usok hdi y
  rw [<- ht,E9] at h'
  cases q:Cg g t τ' with
  | none=>rw [q] at h'; exact nE h'
  | some τ2 =>
   rw [q] at h'
   simp only [aa0] at h'
   have src:∀ a ∈ t.rest 0,(Z.H0 a=none\/Z.A0 a)/\¬ Own (Ag m g.sl .dead) τ' a:=fun a z=>by
    refine ⟨(fineU a (tsrc a z)).1,fun o=>?_⟩
    rcases P'.grow a o with w | w
    ·exact (fineU a (tsrc a z)).2 w
    ·obtain ⟨v,hv,z2⟩:=T.mem_rests.mp (tus a z)
     exact (T.oks_iff.mp IT.ok v hv).dom z2 w
   obtain ⟨S2,P2⟩:=LF S' s2 tok src q
   refine Kg tok q ⟨τ2,_,rb,rfl,S2,h2,?_⟩
   have P3:=P'.trans P2
   have h3:=h'.after (w:=up g.sl ++ wrSs b) (w2:=wrSs b) P3 (fun i hi=>by
    simp only [aae] at hi ⊢
    rcases hi with (hi | hi) | hi
    ·exact .inl hi
    ·exact .inr hi
    ·exact .inl hi) (fun i hi=>aag _ hi)
   cases e:exs b (dτ τ2) with
   | nxt δ3 =>
    rw [e] at h'
    intro m' τ3 H3 e1 e2 S3 P4
    subst e1
    have hle:leM m' (Ag m g.sl .dead)=true:=hj
    refine ⟨τ3,rfl,S3.weak hle,Stp.lesser hle ((P3.trans P4).mono fun i hi=>?_),?_⟩
    ·simp only [aae] at hi ⊢
     rcases hi with ((hi | hi) | hi) | hi
     ·exact .inl hi
     ·exact .inr hi
     ·exact .inl hi
     ·exact .inr hi
    ·rw [e2]; exact h'
   | ret d=>rw [e] at h3; exact h3
   | exc c' δ'=>rw [e] at h3; exact h3
   | bad=>rw [e] at h3; exact h3
 ·refine .inl ⟨IT.stop i H' usok hge,?_⟩
  have hil:i=ds.length:=acd hi hge
  subst hil
  rw [aca] at h'
  exact h' _ τ' H' rfl rfl S' P'
theorem QG {K:Frag} {g:Tg} {it:It} {b:Ss} (h:lS Z (.for_ g it b) D σ H):(∃ m,Pz (lI Z.p Z.EX (tnM m) it) (lG K g) (lSs Z b) D σ H) \/
  (∃ x,it=.seqL (.nm x)/\∃ v a xs,σ[x]?=some (some v)/\v=.ref a/\SqL X.K H a xs/\(X.K=Z.p.K->xs.length<=sizeLine->∃ W:Nat->Nat->L2.St->Hp->Prop,(∃ n,W 0 n σ H)/\∀ i n σ H,W i n σ H->((Itl X.K a).stop i H/\D.nx σ H)\/((Itl X.K a).go i H/\∃ N:L2.St->Hp->Prop,(∀ σ' H',N σ' H'->∃ n',n' < n/\W (i + 1) n' σ' H') /\
   ∀ x H',(Itl X.K a).yld i H x H'->lG K g x σ H' fun σ2 H2=>lSs Z b { D with nx:=N,ct:=N,bk:=D.nx } σ2 H2))):=by
 obtain ⟨τ,m,r,rfl,S,hr,h⟩:=h
 simp only [msS] at hr
 obtain ⟨j,h1,hr⟩:=bS hr
 split at hr
 ·rename_i c
  obtain ⟨c1,c2,c3⟩:=c
  obtain ⟨rb,h2,hr⟩:=bS hr
  have hrb:r=some (Ag m g.sl .dead)/\okJ rb (some (Ag m g.sl .dead))=true:=by
   cases rb with
   | none=>exact ⟨(Option.some.inj hr).symm,rfl⟩
   | some mb =>
    obtain ⟨z,e⟩:=AA hr
    exact ⟨e.symm,z⟩
  obtain ⟨rfl,hj⟩:=hrb
  simp only [ex] at h
  by_cases z:j=0
  ·subst z
   refine .inl ⟨m,τ,rfl,S.ok,0,h1,(h.lg S c1).mono (Same.refl _) fun ds _ h J us H1 IT=>?_⟩
   refine Ie S IT c2 h2 hj (fun τ' H' S' P'=>?_) (h.shift IT.same)
   have S1:=S.grow IT.same
   refine T.oks_iff.mpr fun u hu=>(T.oks_iff.mp IT.ok u hu).keep fun a w e q=>P'.keep a w e fun o=>?_
   rcases q with q | q
   ·exact (S.fine (IT.src a (T.mem_rests.mpr ⟨u,hu,q⟩))).2 o
   ·obtain ⟨_,vs,e2,mu⟩:=S1.ownOk o
    rw [e2] at e
    cases e; rw [mu] at q; cases q
  ·rcases c3 with c3 | ⟨x,c3,c4,c5⟩
   ·exact absurd c3 z
   ·have hit:it=.seqL (.nm x):=by
     unfold It.nmOf at c3
     split at c3
     ·cases c3; rfl
     ·cases c3
    subst hit
    refine .inr ⟨x,rfl,?_⟩
    have hlg:=h.lg S c1
    cases q:get (dτ τ) x with
    | exc c=>unfold get at q; split at q <;> cases q
    | bad=>simp only [evI,ev,q,Res.bind_bad] at hlg; exact nE hlg
    | ok d =>
     obtain ⟨t,ht,rfl⟩:=DB q
     simp only [evI,ev,q,Res.bind_ok] at hlg
     cases t with
     | lst a ts =>
      simp only [jkI] at h1
      obtain ⟨⟨j1,k1⟩,h3,h1⟩:=bS h1
      obtain ⟨hj1,e1⟩:=AA h1
      have e1:j1=j:=e1
      subst e1
      simp only [jk] at h3
      split at h3
      ·rename_i j' hj'
       obtain ⟨hlt,e⟩:=Db h3
       cases e
       have okt:=S.ok x _ j1 ht hj' (of_decide_eq_true hlt)
       refine ⟨_,a,ts.map T.val,Cu ht,rfl,.inl okt.1,fun hK hz=>?_⟩
       have R:Rs Z.p (Sh (tnM m) τ) H H j1 0 (.lst a ts):=⟨Same.refl _,okt,fun b m'=>.inr ⟨x,_,j1,ht,hj',of_decide_eq_true hlt,m'⟩,by rw [T.adr_zero]; simp,T.nd_zero _⟩
       refine Ie S (E8 hK R hj1 (by simpa using hz)) c2 h2 hj (fun τ' H' S' P'=>?_) hlg
       obtain ⟨d,hd,ed⟩:=AR hj'
       have hdd:d ≠ .dead:=fun w=>by subst w; subst ed; exact absurd (of_decide_eq_true hlt) (by decide)
       have hx':(Ag m g.sl .dead)[x]?=some d:=by
        have hlen:x < (Ag m g.sl .dead).length:=by rw [Cl]; exact (aaz.mp hd).1
        rcases Dy (aah hlen) with ⟨w,_⟩ | ⟨_,w⟩
        ·exact absurd (aan _ w) c5
        ·rw [aah hlen]
         rw [hd] at w
         exact w.symm
       refine ⟨S'.at (i:=x) (by rw [P'.wr x (fun w=>by rcases aae.mp w with w | w; exact c5 w; exact c4 w)]; exact ht) hx' hdd,trivial⟩
      ·cases h3
     | _=>exact nE hlg
 ·cases hr
end
section
variable {p:Px} {H0:Hp} {A0:Addr->Prop} {m:Ms} {τ:Ft} {H H1:Hp}
theorem Jt {x:Nat} {s:Option T} (S:Sf p H0 A0 m τ H):Sf p H0 A0 (m.set x .dead) (τ.set x s) H:=by
 have back:∀ {i:Nat} {u:T} {d:Md},d ≠ .dead->(τ.set x s)[i]?=some (some u)->(m.set x .dead)[i]?=some d->τ[i]?=some (some u)/\m[i]?=some d:=by
  intro i u d nd e h
  rcases Ad h with ⟨_,z⟩ | ⟨z1,z2⟩
  ·exact absurd z nd
  ·rcases Ad e with ⟨z,_⟩ | ⟨_,e⟩
   ·exact absurd z z1
   ·exact ⟨e,z2⟩
 have no:∀ {k:Nat},Md.ow k ≠ .dead:=by intro k c; cases c
 have nb:∀ {k:Nat},Md.br k ≠ .dead:=by intro k c; cases c
 have lt:∀ {d:Md},d.tn < 90->d ≠ .dead:=fun l z=>by subst z; exact absurd l (by decide)
 refine ⟨by rw [aaF,aaF]; exact S.len,fun d hd=>?_,S.same,fun i t j e ej l=>?_,fun i t k a e hk q=>?_,fun a sh=>?_,fun i t k e hk=>?_,fun i j t u k d ne e hk e' hd nd a q=>?_,fun i j t u k k2 e hk e' hd a ts z=>?_⟩
 ·rcases aaJ hd with z | z
  ·exact S.small d z
  ·subst z; rfl
 ·obtain ⟨d,hd,rfl⟩:=AR ej
  obtain ⟨q1,q2⟩:=back (lt l) e hd
  exact S.ok i t _ q1 (AL q2) l
 ·obtain ⟨q1,q2⟩:=back no e hk
  exact S.own i t k a q1 q2 q
 ·obtain ⟨i,t,j,e,ej,l,q⟩:=sh
  obtain ⟨d,hd,rfl⟩:=AR ej
  obtain ⟨q1,q2⟩:=back (lt l) e hd
  exact S.src a ⟨i,t,_,q1,AL q2,l,q⟩
 ·obtain ⟨q1,q2⟩:=back no e hk
  exact S.nd i t k q1 q2
 ·obtain ⟨q1,q2⟩:=back no e hk
  obtain ⟨q3,q4⟩:=back nd e' hd
  exact S.sep i j t u k d ne q1 q2 q3 q4 nd a q
 ·obtain ⟨q1,q2⟩:=back no e hk
  obtain ⟨q3,q4⟩:=back nb e' hd
  exact S.top i j t u k k2 q1 q2 q3 q4 a ts z
theorem OQ {x y k:Nat} {a0:Addr} {ts:List T} {s:T} (S:Sf p H0 A0 m τ H) (hy:τ[y]?=some (some (.lst a0 ts))) (hm:m[y]?=some (.ow (k + 1))) (hne:x ≠ y) (hx:x < m.length) (hs:s ∈ ts) :
  Sf p H0 A0 (m.set x (.br k)) (τ.set x (some s)) H/\Stp m (m.set x (.br k)) [x,x + 1000] τ (τ.set x (some s)) H H:=by
 have sm:0 < k + 1/\k + 1 < 90:=of_decide_eq_true (S.small _ (aaf hm))
 have no:∀ {k:Nat},Md.ow k ≠ .dead:=by intro k c; cases c
 have ok:=S.at hy hm no
 have nd:=S.nd y _ _ hy hm
 obtain ⟨n1,n2⟩:=nd
 simp only [T.adr,T.rest,aav] at n1 n2
 have xl:x < τ.length:=by rw [S.len]; exact hx
 have inr:∀ a ∈ s.rest k,a ∈ T.rests ts k:=fun a q=>T.mem_rests.mpr ⟨s,hs,q⟩
 have in0:∀ a ∈ s.rest 0,a ∈ (T.lst a0 ts).rest 0:=fun a q=>aaa _ (T.mem_rests.mpr ⟨s,hs,q⟩)
 have back:∀ {i:Nat} {u:T} {k':Nat},(τ.set x (some s))[i]?=some (some u)->(m.set x .dead)[i]?=some (.ow k')->τ[i]?=some (some u)/\m[i]?=some (.ow k'):=by
  intro i u k' e h
  rcases Ad h with ⟨_,z⟩ | ⟨z1,z2⟩
  ·cases z
  ·rcases Ad e with ⟨z,_⟩ | ⟨_,e⟩
   ·exact absurd z z1
   ·exact ⟨e,z2⟩
 refine ⟨NN (Jt (s:=some s) S) (by rw [abv xl]) hx (by omega) (T.oks_iff.mp ok.2 s hs) (fun a q=>S.src a ⟨y,_,k + 1,hy,AL hm,sm.2,inr a q⟩) (fun i t k' e hk a q q'=>?_) (fun i t k' e hk a us z q'=>?_),fun a u e _=>e,fun a o=>?_,fun i hi=>by rw [aap (fun z=>hi (by simp [z]))],fun i hi=>HX (F1 hi)⟩
 ·obtain ⟨q1,q2⟩:=back e hk
  by_cases z:i=y
  ·subst z
   rw [hy] at q1; cases q1
   rw [hm] at q2; cases q2
   exact n2 a (inr a q') q
  ·exact S.sep i y t _ k' _ z q1 q2 hy hm no a q (in0 a (T.rest_le s (aas _) q'))
 ·obtain ⟨q1,q2⟩:=back e hk
  subst z
  by_cases z:i=y
  ·subst z
   rw [hy] at q1
   injection q1 with q1
   injection q1 with q1
   injection q1 with q3 q4
   subst q3
   rcases (T.all_iff s k).mp q' with w | w
   ·exact n1.1 (T.mem_adrs.mpr ⟨s,hs,w⟩)
   ·exact n2 _ (inr _ w) (aac ..)
  ·have sm':0 < k'/\k' < 90:=of_decide_eq_true (S.small _ (aaf q2))
   refine S.sep i y _ _ k' _ z q1 q2 hy hm no a ?_ (in0 a q')
   obtain ⟨k2,rfl⟩:∃ k2,k'=k2 + 1:=⟨k' - 1,by omega⟩
   exact aac ..
 ·obtain ⟨i,u,k',e,hk,q⟩:=o
  rcases Ad hk with ⟨_,z⟩ | ⟨z1,z2⟩
  ·cases z
  ·rcases Ad e with ⟨z,_⟩ | ⟨_,e⟩
   ·exact absurd z z1
   ·exact .inl ⟨i,u,k',e,z2,q⟩
end
section
variable {Z:Zx} {m:Ms} {r:Option Ms} {w:List Nat} {τ:Ft} {H:Hp} {D:Ends} {X:Cx} {pos:Pos} {σ:L2.St}
theorem M3 {x y k k1:Nat} {i e:E} {n:Int} {a0:Addr} {cs:List T} {s:T} (S:Sf Z.p Z.H0 Z.A0 m τ H) (hx:τ[x]?=some (some s)) (ht:τ[y]?=some (some (.lst a0 cs))) (hmx:m[y]?=some (.ow k)) (hs:AG [(false,n)] (.lst a0 cs)=some s) (hk:1 < k)
  (h1:jk (tnM m) e=some (0,k1)) (hi:(jk (tnM m) i).isSome=true) (c3:k - 2<=k1) (c5:leM m Z.mx=true) (h:lOut Z m (some (Bv m)) [y] ((ev e (dτ τ)).out (dτ τ) fun v=>GP (ev i (dτ τ)) fun j=>upd (dτ τ) y (Bd (AV j v) [(false,n)])) τ H D) :
  DL (lE Z.p Z.EX (tnM m) e) (Hy (GI x) (lE Z.p Z.EX (tnM m) i) Gf) D (vτ τ) H:=by
 obtain ⟨⟨j2,k2⟩,h2⟩:=aax.mp hi
 refine ⟨τ,rfl,S.ok,0,k1,h1,(h.lg S c5).mono (Same.refl _) fun d _ h te H1 hte R=>?_⟩
 subst hte
 cases ei:ev i (dτ τ) with
 | exc c=>rw [ei] at h; exact nE h
 | bad=>rw [ei] at h; exact nE h
 | ok di =>
 rw [ei] at h
 cases di with
 | int n' =>
  simp only [GP] at h
  obtain ⟨t,d',ht',hu,h⟩:=GT (δ:=dτ τ) h
  rw [ht] at ht'; cases ht'
  obtain ⟨a,ts,ds',hs',hf,hd'⟩:=Ez [(false,n)] hu
  rw [hs] at hs'; cases hs'
  unfold AV at hf
  obtain ⟨j,hj,rfl⟩:=aar.mp hf
  rw [Ae] at hj
  refine ⟨_,Cu hx,?_⟩
  refine ⟨τ,rfl,S.ok.same R.same,j2,k2,h2,?_⟩
  rw [ei]
  intro t2 H3 ht2 R3
  have hv:t2.val=.int n':=by cases t2 <;> simp [T.dat] at ht2 <;> simp [T.val,ht2]
  rw [hv]
  have sH3:Same H H3:=R.same.trans R3.same
  have S3:=S.grow sH3
  have e0:lnP [((false,n):Bool × Int)]=1:=rfl
  have hl:lnP [(false,n)] < k:=hk
  have aadr:a ∈ (T.lst a0 cs).adr k:=(CI [(false,n)] (k:=k) hs (by omega)).2 a (by
   have:k - lnP [(false,n)]=(k - 2) + 1:=by rw [e0]; omega
   rw [this]; exact aac ..)
  have okt:=DG _ (S3.at ht hmx (by intro c; cases c)) hs
  have hpl:=F3 okt.1 (S3.own y _ k a ht hmx aadr).2
  have hjl:j < ts.length:=by
   unfold ixN at hj
   split at hj
   ·split at hj
    ·cases hj; omega
    ·cases hj
   ·split at hj
    ·cases hj; omega
    ·cases hj
  have hc:ts[j]?=some ts[j]:=aah hjl
  refine ⟨a,_,n',j,rfl,rfl,hpl,by rw [aab]; exact hj,?_⟩
  rw [<- aa9]
  have R':Rs Z.p (Sh (tnM m) τ) H H3 0 (k - 1 - lnP [(false,n)]) te:=(R.fwd R3.same).le (aao _) (by rw [e0]; omega)
  obtain ⟨t',p1,p2,S4,P4⟩:=HZ (us:=ts.set j te) (es:=[te]) S sH3 ht hmx hs hl (T.oks_iff.mpr fun w hw=>by
    rcases aaJ hw with z | rfl
    ·exact T.oks_iff.mp okt.2 w z
    ·exact R'.ok)
   (fun b z=>(show b ∈ T.adrs ts _\/b ∈ T.adrs [te] _ from by
    obtain ⟨w,hw,z2⟩:=T.mem_adrs.mp z
    rcases aaJ hw with y | rfl
    ·exact .inl (T.mem_adrs.mpr ⟨w,y,z2⟩)
    ·exact .inr (by simpa [T.adrs] using z2)))
   (fun b z=>(by
    obtain ⟨w,hw,z2⟩:=T.mem_rests.mp z
    rcases aaJ hw with y | rfl
    ·exact .inl (T.mem_rests.mpr ⟨w,y,z2⟩)
    ·exact .inr (by simpa [T.rests] using T.rest_le w (aas _) z2)))
   (fun n1 n2 n3=>(Jr hc R'.nd n1 n2 n3).1)
   (fun b z=>R'.src b (by simpa [T.rests] using z)) (fun b z=>R'.new b (by simpa [T.adrs] using z))
  have:=h _ _ _ rfl (by rw [Cw,hd' _ _ (EG ..) p1]) S4 P4
  rw [F2 ht p2] at this
  exact this
 | _=>exact nE h
theorem OR {x y:Nat} {a i e:E} {b:Ss} (h:lSs Z (.lend x y a b i e) D σ H):∃ m m2,JJ (DL (lPl Z.p Z.EX (tnM m) y [(false,a)]) (D2 x)) (JJ (lSs Z b) (DL (lE Z.p Z.EX (tnM m2) e) (Hy (GI x) (lE Z.p Z.EX (tnM m2) i) Gf))) D σ H:=by
 obtain ⟨τ,m,r,rfl,S,hr,h⟩:=h
 simp only [msSs] at hr
 split at hr
 ·rename_i k hmy
  obtain ⟨ja,h1,hr⟩:=bS hr
  split at hr
  ·rename_i cc
   obtain ⟨c1,c2,c3,c4,c5,c6⟩:=cc
   obtain ⟨rb,h2,hr⟩:=bS hr
   simp only [exs,wrSs] at h
   cases ea:ev a (dτ τ) with
   | exc c=>rw [ea] at h; exact nE h
   | bad=>rw [ea] at h; exact nE h
   | ok da =>
   rw [ea] at h
   cases da with
   | int n =>
    cases ey:get (dτ τ) y with
    | exc c=>rw [ey] at h; exact nE h
    | bad=>rw [ey] at h; exact nE h
    | ok dy =>
    rw [ey] at h
    obtain ⟨t,ht,rfl⟩:=DB ey
    simp only [Gm] at h
    cases t with
    | lst a0 cs =>
     simp only [T.dat,CB] at h
     unfold atD at h
     cases q1:ixN (T.dats cs).length n with
     | none=>rw [q1] at h; exact nE h
     | some j =>
     rw [q1] at h
     simp only [aaM] at h
     cases q2:(T.dats cs)[j]? with
     | none=>rw [q2] at h; exact nE h
     | some d =>
     rw [q2] at h
     simp only at h
     obtain ⟨s,hs,rfl⟩:=DT q2
     rw [Ae] at q1
     have hsub:AG [(false,n)] (.lst a0 cs)=some s:=by simp only [AG,q1,aaM,hs]
     obtain ⟨k',rfl⟩:∃ k',k=k' + 1:=⟨k - 1,by omega⟩
     have ok:=S.at ht hmy (by intro c; cases c)
     obtain ⟨S1,P1⟩:=OQ S ht hmy c2 c3 (aaf hs)
     have e1:k' + 1 - 1=k':=rfl
     rw [e1] at h2
     refine ⟨m,rb.getD [],?_⟩
     refine ⟨τ,_,[(false,n)],s,rfl,S.ok,fun e he=>?_,ht,ok,by simp only [evP,ea,Res.bind_ok],hsub,fun H1 s1=>?_⟩
     ·rcases aaG.mp he with rfl
      rw [h1]; rfl
     have P1':Stp m (m.set x (.br k')) [x,x + 1000] τ (τ.set x (some s)) H H1:=⟨fun a u e _=>s1 a u e,P1.grow,P1.wr,P1.ad⟩
     refine ⟨τ.set x (some s),_,rb,by rw [DF],S1.grow s1,h2,?_⟩
     rw [Cw]
     cases q:exs b ((dτ τ).set x (some s.dat)) with
     | ret d=>rw [q] at h; exact lRet.to (show lRet Z _ d τ D from h) (fun i hi=>aaa _ (aaa _ (aaa _ hi))) fun i hi=>P1'.ad i fun z=>hi (Ey z)
     | bad=>rw [q] at h; exact h
     | exc c δ' =>
      rw [q] at h
      exact lOut.after P1' (fun i hi=>Ey hi) (fun i hi=>aaa _ (aaa _ (aaa _ hi))) h
     | nxt δ2 =>
      rw [q] at h
      simp only [Out.then_nxt] at h
      intro m2 τ2 H2 em e2 S2 P2
      subst em e2
      obtain ⟨⟨j3,k3⟩,h3,hr⟩:=bS hr
      obtain ⟨ji,h4,hr⟩:=bS hr
      obtain ⟨⟨g1,g2,g3,g4⟩,rfl⟩:=AA hr
      have g1:j3=0:=g1
      subst g1
      have hy2:τ2[y]?=some (some (.lst a0 cs)):=by rw [P2.wr y c6,aap c2]; exact ht
      have xl:x < τ.length:=by rw [S.len]; exact c3
      have hx2:τ2[x]?=some (some s):=by rw [P2.wr x c5,abv xl]
      have P:=(P1'.trans P2).mono (w2:=x :: (x + 1000) :: y :: wrSs b) fun i hi=>by
       rcases aae.mp hi with z | z
       ·exact Ey z
       ·exact aaa _ (aaa _ (aaa _ z))
      have h5:=lOut.after (w2:=[y]) P (fun i hi=>hi) (fun i hi=>by rw [aaG.mp hi]; exact aaa _ (aaa _ (aac ..))) h
      exact M3 S2 hx2 hy2 g2 hsub c1 h3 (by show (jk (tnM m2) i).isSome=true; rw [h4]; rfl) g3 g4 h5
    | _=>exact nE h
   | _=>exact nE h
  ·cases hr
 ·cases hr
end
theorem QH {p:Px} (kx:Kx p) {k n:Nat} (hk:p.has k=true) (hn:p.has n=true) (h:isa k n=true) (ne:k ≠ n):exmOne p.K (.ref (p.cl k)) (.ref (p.cl n))=some true:=by
 have k1:=kx.kc k n hk hn
 have k2:=kx.kc n k hn hk
 rw [h] at k1
 have hf:isa n k=false:=by
  unfold isa at h ⊢
  have e1:(k==n)=false:=beq_eq_false_iff_ne.mpr ne
  rw [e1,aco,beq_iff_eq] at h
  subst h
  rw [Bool.or_eq_false_iff]
  exact ⟨beq_eq_false_iff_ne.mpr (Ne.symm ne),beq_eq_false_iff_ne.mpr ne⟩
 rw [hf] at k2
 have hne:p.cl n ≠ p.cl k:=fun z=>by
  rw [z] at k2
  unfold kitOne at k2
  rw [if_pos (by simp)] at k2
  cases k2
 unfold exmOne
 rw [if_pos (by rw [(kx.x n hn).sb]; rfl)]
 unfold kitOne at k1
 rw [if_neg (fun z=>hne (by
  have:=eq_of_beq z
  injection this with this
  exact this.symm))] at k1
 exact k1
theorem M4 (τ:Ft) (i:Nat):vτ (τ.set i none)=(vτ τ).set i none:=by unfold vτ; rw [aa9]; rfl
theorem M5 (τ:Ft) (i:Nat):dτ (τ.set i none)=(dτ τ).set i none:=by unfold dτ; rw [aa9]; rfl
section
variable {Z:Zx} {m:Ms} {r:Option Ms} {w:List Nat} {τ:Ft} {H:Hp} {D:Ends} {σ:L2.St}
theorem M6 {i:Nat}:Stp m (m.set i .dead) [i,i + 1000] τ (τ.set i none) H H:=by
 refine ⟨fun a u e _=>e,fun a o=>?_,fun j hj=>by rw [aap (fun z=>hj (by simp [z]))],fun j hj=>HX (F1 hj)⟩
 obtain ⟨j,u,k',e,hk,q⟩:=o
 rcases Ad hk with ⟨_,z⟩ | ⟨z1,z2⟩
 ·cases z
 ·rcases Ad e with ⟨z,_⟩ | ⟨_,e⟩
  ·exact absurd z z1
  ·exact .inl ⟨j,u,k',e,z2,q⟩
theorem QI {K:Frag} {b h e:Ss} {n i:Nat} (hK:K=Z.p.K) (kx:Kx Z.p) (hn:Z.p.has n=true) (hq:lS Z (.try_ b n i h e) D σ H):∃ mb mh,P6 K (.ref (Z.p.cl n)) i (fun E _ _=>lSs { Z with EX:=E,mx:=mb } b) (fun _=>lSs { Z with EX:=EX0,mx:=mh } h) (lSs Z e) D σ H:=by
 obtain ⟨τ,m,r,rfl,S,hr,hq⟩:=hq
 simp only [msS] at hr
 split at hr
 ·rename_i cc
  obtain ⟨c1,c2⟩:=cc
  obtain ⟨rb,h1,hr⟩:=bS hr
  obtain ⟨rh,h2,hr⟩:=bS hr
  obtain ⟨re,h3,hr⟩:=bS hr
  obtain ⟨⟨c3,c4⟩,rfl⟩:=AA hr
  refine ⟨Ag m (wrSs b) .dead,aam m.length .dead,fun W pn=>⟨τ,m,rb,rfl,S,h1,?_⟩⟩
  simp only [ex] at hq
  cases q:exs b (dτ τ) with
  | bad=>rw [q] at hq; exact hq
  | ret d=>rw [q] at hq; exact lRet.to (show lRet Z _ d τ D from hq) (fun j hj=>aan _ hj) fun _ _=>rfl
  | nxt δ1 =>
   rw [q] at hq
   intro m1 τ1 H1 em e2 S1 P1
   subst em e2
   refine ⟨τ1,m1,re,rfl,S1,h3,?_⟩
   exact ((show lOut Z m _ _ (exs e (dτ τ1)) τ H D from hq).weak (w1:=wrS (.try_ b n i h e)) c3 (fun _ z=>z)).after P1 (fun j hj=>aan _ hj) (fun j hj=>aag _ (aaa _ (aaa _ (aag _ hj))))
  | exc k δ1 =>
   rw [q] at hq
   intro hk τ1 H1 e2 S1 P1
   subst e2
   simp only at hq
   by_cases cc:(isa k n && !(k==n))=true
   ·rw [if_pos cc] at hq
    obtain ⟨i1,i2⟩:=Ab cc
    have ne:k ≠ n:=by simpa using i2
    refine ⟨_,rfl,hK ▸ QH kx hk hn i1 ne,fun a ha=>?_⟩
    have hl:i < (Ag m (wrSs b) .dead).length:=by rw [Cl]; exact c1
    have sm:Same H1 (L2.upd H1 a (xO a (Z.p.cl k))):=fun a' u e=>by
     rw [L2.Al (fun z=>by subst z; rw [ha] at e; cases e)]; exact e
    have R:Rs Z.p (Sh (tnM (Ag m (wrSs b) .dead)) τ1) H1 (L2.upd H1 a (xO a (Z.p.cl k))) 0 0 (.exn a k):=⟨sm,⟨by rw [L2.AJ]; unfold exO; rw [if_neg (fun z=>by rw [z,kx.no] at hk; cases hk)],.inr hk⟩,by simp [T.rest],by simp [T.adr],by simp [T.Nd,T.adr]⟩
    obtain ⟨S2,P2⟩:=LE S1 R (aao 0) hl (by decide)
    have e0:mdK 0=.sh:=rfl
    rw [e0] at S2 P2
    refine ⟨τ1.set i (some (.exn a k)),_,rh,by rw [DF]; rfl,S2,h2,?_⟩
    rw [Cw]
    cases q2:exs h ((dτ τ1).set i (some (.exn k))) with
    | bad=>rw [show (T.exn a k).dat=.exn k from rfl,q2]; rw [q2] at hq; exact hq
    | exc _ _=>rw [show (T.exn a k).dat=.exn k from rfl,q2]; rw [q2] at hq; exact nE hq
    | ret d =>
     rw [show (T.exn a k).dat=.exn k from rfl,q2]
     rw [q2] at hq
     exact lRet.to (show lRet Z _ d τ D from hq) (fun j hj=>aag _ (aaa _ (aaa _ (aan _ hj)))) fun j hj=>(P1.trans P2).ad j fun z=>hj (by
      rcases aae.mp z with z | z
      ·exact aan _ z
      ·exact aag _ (Ey z))
    | nxt δ2 =>
     rw [show (T.exn a k).dat=.exn k from rfl,q2]
     rw [q2] at hq
     intro m2 τ2 H2 em e3 S3 P3
     subst em e3
     have hw:=(show lOut Z m _ _ (.nxt ((dτ τ2).set i none)) τ H D from hq).weak (w1:=wrS (.try_ b n i h e)) c4 (fun _ z=>z)
     have:=hw (m2.set i .dead) (τ2.set i none) H2 rfl (M5 τ2 i) (Jt S3) ((((P1.trans P2).trans P3).trans M6).mono fun j hj=>?_)
     ·rw [M4] at this
      exact this
     ·rcases aae.mp hj with hj | hj
      ·rcases aae.mp hj with hj | hj
       ·rcases aae.mp hj with hj | hj
        ·exact aan _ hj
        ·exact aag _ (Ey hj)
       ·exact aag _ (aaa _ (aaa _ (aan _ hj)))
      ·exact aag _ (Ey hj)
   ·rw [if_neg cc] at hq; exact nE hq
 ·cases hr
end
noncomputable def OwnN (m:Ms) (τ:Ft) (I:List Nat) (a:Addr):Prop:=∃ (i:Nat) (t:T) (k:Nat),i ∉ I/\τ[i]?=some (some t)/\m[i]?=some (.ow k)/\a ∈ t.adr k
section
variable {p:Px} {H0:Hp} {A0:Addr->Prop} {m:Ms} {τ:Ft} {H H1 H2:Hp}
theorem OwnN.own {I:List Nat} {a:Addr} (h:OwnN m τ I a):Own m τ a:=let ⟨i,t,k,_,e,q,z⟩:=h; ⟨i,t,k,e,q,z⟩
end
section
variable {Z:Zx} {D:Ends} {X:Cx} {σ:L2.St} {H:Hp}
noncomputable def lOA (Z:Zx) (m m1:Ms) (w:List Nat) (y:Nat) (o:Out) (τ:Ft) (H:Hp) (D:Ends):Prop:=match o with
 | .nxt δ'=>∀ (τ':Ft) (H':Hp) (a:Addr) (ts ts':List T),dτ τ'=δ'->τ[y]?=some (some (.lst a ts))->τ'[y]?=some (some (.lst a ts'))->Sf Z.p Z.H0 Z.A0 m1 τ' H'->Stp m m1 w τ τ' H H'->D.nx (vτ τ') H'
 | o=>lOut Z m (some m1) w o τ H D
theorem lOA.lg {α:Type} {m m1:Ms} {w:List Nat} {τ:Ft} {y:Nat} {q:Res α} {f:α->Out} (S:Sf Z.p Z.H0 Z.A0 m τ H) (hm:leM m Z.mx=true) (h:lOA Z m m1 w y (q.out (dτ τ) f) τ H D):Lg Z.p Z.EX (vτ τ) q H fun a=>lOA Z m m1 w y (f a) τ H D:=by
 cases q with
 | ok a=>exact h
 | exc c=>exact fun hc H' s=>h hc τ H' rfl ((S.weak hm).grow s) (Stp.refl w hm s)
 | bad=>exact h
theorem lOA.shift {H1:Hp} {m m1:Ms} {w:List Nat} {τ:Ft} {y:Nat} {o:Out} (s1:Same H H1) (h:lOA Z m m1 w y o τ H D):lOA Z m m1 w y o τ H1 D:=by
 cases o with
 | nxt δ'=>exact fun τ' H' a ts ts' e1 e2 e3 S P=>h τ' H' a ts ts' e1 e2 e3 S ⟨fun a u e n=>P.keep a u (s1 a u e) n,fun a o=>(P.grow a o).imp id s1.free,P.wr,P.ad⟩
 | ret d=>exact h
 | exc c δ'=>exact fun hc τ' H' e S P=>h hc τ' H' e S ⟨fun a u e n=>P.keep a u (s1 a u e) n,fun a o=>(P.grow a o).imp id s1.free,P.wr,P.ad⟩
 | bad=>exact h
noncomputable def vals (σ:L2.St):List Nat->Option (List V)
 | []=>some []
 | i :: r=>match σ[i]? with
  | some (some v)=>(vals σ r).map (v :: ·)
  | _=>none
end
noncomputable def CY:List (Bool × E)->List Nd1
 | []=>[]
 | (_,e) :: r=>e.need ++ CY r
mutual
noncomputable def S.need:S->List Nd1
 | .asg _ _ e=>e.need
 | .dem _ _=>[]
 | .dead _=>[]
 | .asgT _ e=>e.need
 | .set _ q i e=>CY q ++ (i.need ++ e.need)
 | .mut _ q _ es=>CY q ++ es.need
 | .expr e=>e.need
 | .iff c a b=>c.need ++ (a.need ++ b.need)
 | .wh c b=>c.need ++ b.need
 | .for_ _ it b=>it.need ++ b.need
 | .ret e=>e.need
 | .raise c es=>.rs c :: es.need
 | .try_ b c _ h e=>.cl c :: (b.need ++ (h.need ++ e.need))
noncomputable def Ss.need:Ss->List Nd1
 | .nil=>[]
 | .cons s r=>s.need ++ r.need
 | .lend _ _ a b i e=>a.need ++ (b.need ++ (i.need ++ e.need))
end
noncomputable def Ig:Um->Str
 | .append => "append"
 | .extend => "extend"
 | .insert => "insert"
 | .popAt => "pop"
 | .clear => "clear"
noncomputable def M7:Um->Nat->Bool
 | .append,n=>decide (n=1)
 | .extend,n=>decide (n=1)
 | .popAt,n=>decide (n=1)
 | .insert,n=>decide (n=2)
 | _,n=>decide (n=0)
noncomputable def Bw:Expr->Bool
 | .ListComp _ _ _ _=>false
 | .SetComp _ _ _ _=>false
 | .DictComp _ _ _ _ _=>false
 | _=>true
noncomputable def Fi:Expr->Bool
 | .Tuple _ _ _=>false
 | _=>true
noncomputable def Ih (c:CkC):List Expr->Bool
 | [.Name x _,.Name y _]=>(c.sc.names.lookup x==some .cell) || (c.sc.names.lookup y==some .cell)
 | _=>false
noncomputable def Ii:Expr->Bool
 | .Call _ _ _ _=>false
 | _=>true
noncomputable def nmOf:Expr->Option (Str × Pos)
 | .Name x p=>some (x,p)
 | _=>none
noncomputable def Km (c:CkC) (x y:Nat) (a:E):Stmt->Bool
 | .Assign [.Name x' _] o _=>(c.N[x]?==some x') && Ek c x' && DW c y [(false,a)] o
 | _=>false
noncomputable def Kn (c:CkC) (x:Nat) (i e:E):Option Stmt->Bool
 | some (.Assign [.Subscript (.Name x' _) i' _] e' _)=>(c.N[x]?==some x') && Ej c.sc x' && Br x' && ckE c i i' && Bt i' && ckE c e e' && Bw e'
 | _=>false
noncomputable def Ij:List ExceptHandler->List Stmt->Option (Str × Str × List Stmt)
 | [.ExceptHandler (some (.Name x _)) (some y) h _],[]=>some (x,y,h)
 | _,_=>none
theorem OS {hs:List ExceptHandler} {fin h:List Stmt} {x y:Str} (e:Ij hs fin=some (x,y,h)):∃ p1 p2,hs=[.ExceptHandler (some (.Name x p1)) (some y) h p2]/\fin=[]:=by
 unfold Ij at e
 split at e
 ·cases e; exact ⟨_,_,rfl,rfl⟩
 ·cases e
noncomputable def Rows (st:Stmt) (a b y f a2 b2:Str) (es:List Expr) (k:Nat) (q:Pos) (e:Expr):Prop:=∃ p1 p2 p3 p4 p5 p6 p7 p8 p9 p10 p11,es=[.Name a p1,.Name b p2]/\st=.For (.Tuple [.Name a p1,.Name b p2] k q) (.Call (.Name f p4) [.Name y p3,e] [] p5) [.Assign [.Subscript (.Name a2 p6) (.Slice none none none p7) p8] (.Name b2 p9) p10] [] p11
mutual
noncomputable def ckS (c:CkC):S->Stmt->Bool
 | .asg x _ e,.Assign [.Name y _] e' _=>(c.N[x]?==some y) && Ek c y && ckE c e e'
 | .asgT xs e,.Assign [.Tuple ts k q] e' _=>ckG c (.tp xs) (.Tuple ts k q) && ckE c e e' && (Fi e' || Ih c ts)
 | .set x q i e,.Assign [.Subscript o i' _] e' _=>DW c x q.reverse o && ckE c i i' && Bt i' && ckE c e e' && Bw e'
 | .mut x q u es,.Expr (.Call (.Attribute o name ap) xs [] cp) _=>DW c x q.reverse o && (name==Ig u) && ckEs c es xs && (ap.endLine==cp.line) && Ii o && decide (es.len < 20) && M7 u es.len
 | .expr e,.Expr e' _=>ckE c e e' && Bw e'
 | .iff t a b,.If t' a' b' _=>ckE c t t' && t.tst && ckSs c a a' && ckSs c b b'
 | .wh t b,.While t' b' [] _=>ckE c t t' && t.tst && ckSs c b b' && c.rz
 | .for_ g it b,.For tg it' b' [] _=>ckG c g tg && ckI c tg it it' && Dw it' && ckSs c b b' && c.rz && c.cm
 | .ret e,.Return (some e') _=>ckE c e e'
 | .raise n es,.Raise (some (.Call (.Name x _) xs [] _)) none _=>(x==Az n) && glB c.sc x && Br x && ckEs c es xs && decide (0 < es.len) && decide (es.len<=1000) && c.rz && c.cm
 | .try_ b n i h e,.Try b' hs e' fin _=>match Ij hs fin with
  | some (x,y,h')=>(x==Az n) && glB c.sc x && Br x && (c.N[i]?==some y) && (c.sc.names.lookup y==some .local) && c.rz && c.cm && !h'.isEmpty && ckSs { c with rz:=false } b b' && ckSs { c with rz:=false,cm:=false } h h' && ckSs c e e'
  | none=>false
 | _,_=>false
noncomputable def ckSs (c:CkC):Ss->List Stmt->Bool
 | .nil,[]=>true
 | .cons (.dem _ _) r,st=>ckSs c r st
 | .cons (.dead _) r,st=>ckSs c r st
 | .cons s r,x :: xs=>ckS c s x && ckSs c r xs
 | .lend x y a b i e,st :: sts=>Km c x y a st && Kn c x i e sts.getLast? && ckSs c b sts.dropLast
 | _,_=>false
end
structure Cs (Z:Zx) (c:CkC) (lv:Nat) (X:Cx) (E:XK):Prop where
 ct:Ct Z.p c lv X Z.EX
 ex:c.rz=true->Z.EX=fun _=>E
 xw:c.rz=true->JW X E
 po:c.rz=true->PassesOwn (model X.prog X.w) X.A X.env X.xe
 kind:c.sc.kind=.function
 stk:X.stack=X.env :: X.outer
 frm:X.env.frame=some X.env.locals
section
variable {Z:Zx} {c:CkC} {lv:Nat} {X:Cx} {E:XK} {pos:Pos}
theorem EH {e:Expr} {t:Option Expr} {n:Nat} {env:Env} (h:Bw e=true):swapsWith e t n env=pure false:=by
 cases e <;> first | rfl | cases h
theorem FO {q:List (Bool × Pu.E)}:∀ e ∈ q,∀ n ∈ e.2.need,n ∈ CY q:=by
 induction q with
 | nil=>intro e he; cases he
 | cons a q ih =>
  intro e he n hn
  obtain ⟨b,e0⟩:=a
  rcases aai.mp he with rfl | he
  ·exact aan _ hn
  ·exact aag _ (ih e he n hn)
theorem M8 (C:Cs Z c lv X E) {x k:Nat} {e:Pu.E} {y:Str} {py:Pos} {e':Expr} (hn:∀ n ∈ e.need,NeedOk Z.p lv X n) (h1:(c.N[x]?==some y)=true) (h2:Ek c y=true) (h3:ckE c e e'=true):PS X (.Assign [.Name y py] e' pos) (lS Z (.asg x k e)):=by
 have hN:X.N[x]?=some y:=by rw [C.ct.N]; exact beq_iff_eq.mp h1
 obtain ⟨l1,l2⟩:=C.ct.loc h2
 intro pins s σ H D I h
 obtain ⟨τ,m,rfl,S,h⟩:=Qz h
 by_cases hc:Bw e'=true
 ·exact HA C.ct.nd hN l1 (snd e C.ct (tn:=tnM m) e' hn h3).1 (EH hc) l2 pins s _ H D I h
 ·cases e' with
  | ListComp elt' gens scope q =>
   have hsw:∃ b:Bool,swapsWith (.ListComp elt' gens scope q) (some (.Name y py)) pos.line X.env=pure b:=⟨_,rfl⟩
   obtain ⟨b,hsw⟩:=hsw
   cases b with
   | false=>exact HA C.ct.nd hN l1 (snd e C.ct (tn:=tnM m) _ hn h3).1 hsw l2 pins s _ H D I h
   | true =>
    cases e with
    | comp0 nl fr g it elt =>
     obtain ⟨tg,iter,ifs,rfl,h3⟩:=Gu h3
     obtain ⟨h3,g7⟩:=Ab h3
     obtain ⟨h3,g6⟩:=Ab h3
     obtain ⟨h3,g5⟩:=Ab h3
     obtain ⟨h3,g4⟩:=Ab h3
     obtain ⟨h3,g3⟩:=Ab h3
     obtain ⟨h3,g2⟩:=Ab h3
     obtain ⟨h3,g1⟩:=Ab h3
     obtain ⟨gc,g0⟩:=Ab h3
     cases ifs with
     | cons _ _=>cases g0
     | nil =>
     have g2:=of_decide_eq_true g2
     subst g2
     obtain ⟨Sc,nd⟩:=NL C.ct g1
     obtain ⟨n1,n2⟩:=Ax hn
     refine Kh (C.ct.calm gc) Sc (sndI it C.ct (tn:=tnM m) iter n1 g4) (fun i hi=>of_decide_eq_true (aat.mp g3 i hi)) (fun z=>⟨?_,?_⟩) (EF g5) C.ct.nd hN l1 l2 hsw pins s _ H D I h
     ·exact HW (C.ct.blk nd z) g6
     ·exact (snd elt (C.ct.blk nd z) elt' (fun n m=>(n2 n m).blk) g7).1
    | _=>exact nF h3
  | SetComp _ _ _ _ =>
   cases e with
   | _=>exact nF h3
  | DictComp _ _ _ _ _ =>
   cases e with
   | _=>exact nF h3
  | _=>exact absurd rfl hc
theorem LL {ts:List Expr} {k:Nat} {q:Pos} {e':Expr} {env:Env} (h:Fi e'=true):swappedStores [.Tuple ts k q] e' env=pure none:=by
 cases e' <;> first | rfl | cases h
theorem M9 (x:Str) (p:Pos):(Expr.Name x p).pos=p:=rfl
theorem LM {x y:Str} {px py q:Pos} {k:Nat} {e':Expr} {env:Env} (h:env.kindOf x=some .cell\/env.kindOf y=some .cell):swappedStores [.Tuple [.Name x px,.Name y py] k q] e' env=pure none:=by
 cases e' with
 | Tuple vs k2 q2 =>
  have key:([Expr.Name x px,.Name y py].filterMap fun | .Name id pos=>(if env.kindOf id==some .local && pos.line==px.line then some id else none) | _=>none).length ≠ 2:=by
   rcases h with h | h <;> simp only [abc,List.filterMap_nil,h] <;> simp <;> split <;> simp
  have key2:(([Expr.Name x px,.Name y py].filterMap fun | .Name id pos=>(if env.kindOf id==some .local && pos.line==px.line then some id else none) | _=>none).length != 2)=true:=by simpa using key
  unfold swappedStores
  simp only [abj,List.length_nil,List.head?_cons,aa0,Option.getD_some,M9,aaX,Nat.reduceAdd,key2,Bool.true_or,if_true,pure_bind]
  split
  ·rfl
  ·split
   ·rfl
   ·exact if_pos (abX.mpr (.inl key2))
 | _=>rfl
theorem Na {c:CkC} {ts:List Expr} {k:Nat} {q:Pos} {e':Expr} {env:Env} (hs:env.scope=c.sc) (h:(Fi e' || Ih c ts)=true):swappedStores [.Tuple ts k q] e' env=pure none:=by
 rcases abX.mp h with h | h
 ·exact LL h
 ·unfold Ih at h
  split at h
  ·refine LM ?_
   rw [abX,beq_iff_eq,beq_iff_eq,<- hs] at h
   exact h
  ·cases h
theorem Nb {ts:List Expr} {k:Nat} {q:Pos} {e':Expr} {env:Env} {n:Nat}:swapsWithSole [.Tuple ts k q] e' n env=pure false:=by
 cases e' <;> rfl
theorem Ik {o i:Expr} {q:Pos} {e':Expr} {env:Env} {n:Nat} (h:Bw e'=true):swapsWithSole [.Subscript o i q] e' n env=pure false:=by
 cases e' <;> first | rfl | cases h
theorem LO (C:Cs Z c lv X E) {xs:List Nat} {e:Pu.E} {ts:List Expr} {k:Nat} {q:Pos} {e':Expr} (hn:∀ n ∈ e.need,NeedOk Z.p lv X n) (h1:ckG c (.tp xs) (.Tuple ts k q)=true) (h2:ckE c e e'=true) (h3:(Fi e' || Ih c ts)=true):PS X (.Assign [.Tuple ts k q] e' pos) (lS Z (.asgT xs e)):=by
 intro pins s σ H D I h
 obtain ⟨m,h⟩:=ON (K:=X.K) h
 exact Hz (snd e C.ct (tn:=tnM m) e' hn h2).1 (HW C.ct h1) Nb (Na C.ct.sc h3) rfl pins s σ H D I h
theorem LP (C:Cs Z c lv X E) {e:Pu.E} {e':Expr} (hn:∀ n ∈ e.need,NeedOk Z.p lv X n) (h1:ckE c e e'=true) (h2:Bw e'=true):PS X (.Expr e' pos) (lS Z (.expr e)):=by
 intro pins s σ H D I h
 obtain ⟨m,h⟩:=OO h
 exact CQ (snd e C.ct (tn:=tnM m) e' hn h1).1 (EH h2) pins s σ H D I h
theorem Nc (C:Cs Z c lv X E) {x:Nat} {q:List (Bool × Pu.E)} {i e:Pu.E} {o i' e':Expr} {p2:Pos} (n1:∀ n ∈ CY q,NeedOk Z.p lv X n) (n2:∀ n ∈ i.need,NeedOk Z.p lv X n) (n3:∀ n ∈ e.need,NeedOk Z.p lv X n)
  (h1:DW c x q.reverse o=true) (h2:ckE c i i'=true) (h3:Bt i'=true) (h4:ckE c e e'=true) (h5:Bw e'=true):PS X (.Assign [.Subscript o i' p2] e' pos) (lS Z (.set x q i e)):=by
 intro pins s σ H D I h
 obtain ⟨m,h⟩:=QA h
 have A:=Hu C.ct (tn:=tnM m) (x:=x) (rp:=q.reverse) (o:=o) (fun e he n hn=>n1 n (FO e (List.mem_reverse.mp he) n hn)) h1
 rw [ack] at A
 have hw:swappedStores [.Subscript o i' p2] e' X.env=pure none:=by cases e' <;> rfl
 refine Hz (snd e C.ct (tn:=tnM m) e' n3 h4).1 (KQ A (snd i C.ct (tn:=tnM m) i' n2 h2).1 HD (fun v=>?_)) (Ik h5) hw rfl pins s σ H D I h
 cases i' <;> first | rfl | cases h3
theorem Nf {p:Px} {EX:EXT} {tn:List Nat} {K:Frag} {u:V->List V->Hp->VK->Prop} {x:Nat} {q:List (Bool × Pu.E)} {σ:L2.St} {H:Hp} {Q:Hp->Prop} (h:lPl p EX tn x q σ H fun v H1=>tyV K "list" v H1/\lEs p EX tn .nil σ H1 fun vs H2=>u v vs H2 fun _ H3=>Q H3) :
  lPl p EX tn x q σ H fun v H1=>tyV K "list" v H1/\u v [] H1 fun _ H3=>Q H3:=by
 obtain ⟨τ,t,is,s,e1,e2,e3,e4,e5,e6,e7,h⟩:=h
 refine ⟨τ,t,is,s,e1,e2,e3,e4,e5,e6,e7,fun H' s'=>?_⟩
 obtain ⟨h1,τ2,rfl,hF,j,k,hj,h2⟩:=h H' s'
 exact ⟨h1,h2 [] H' rfl ⟨Same.refl _,trivial,by simp [T.rests],by simp [T.adrs],by simp [T.Nds,T.adrs]⟩⟩
theorem LQ {x:Nat} {rp:List (Bool × Pu.E)} {o:Expr} {name:Str} {env:Env} (h:DW c x rp o=true):attributeBase o name env (eval o env)=eval o env:=by
 cases rp with
 | nil=>cases o <;> first | rfl | exact nF h
 | cons a r=>obtain ⟨b,e⟩:=a; cases o <;> first | rfl | exact nF h
theorem Ng (C:Cs Z c lv X E) {x:Nat} {q:List (Bool × Pu.E)} {u:Um} {es:Es} {o:Expr} {xs:List Expr} {ap cp:Pos} (n1:∀ n ∈ CY q,NeedOk Z.p lv X n) (n2:∀ n ∈ es.need,NeedOk Z.p lv X n)
  (h1:DW c x q.reverse o=true) (h2:ckEs c es xs=true) (h3:(ap.endLine==cp.line)=true) (h5:M7 u es.len=true):PS X (.Expr (.Call (.Attribute o (Ig u) ap) xs [] cp) pos) (lS Z (.mut x q u es)):=by
 intro pins s σ H D I h
 obtain ⟨τ,m,r,rfl,S,hr,h⟩:=h
 have A:PE X o (lPl Z.p Z.EX (tnM m) x q):=by
  have A:=Hu C.ct (tn:=tnM m) (x:=x) (rp:=q.reverse) (o:=o) (fun e he n hn=>n1 n (FO e (List.mem_reverse.mp he) n hn)) h1
  rwa [ack] at A
 have hb:∀ name:Str,attributeBase o name X.env (eval o X.env)=eval o X.env:=fun name=>LQ h1
 obtain ⟨st,sl⟩:=B7 h2
 simp only [msS] at hr
 split at hr
 ·rename_i k hmx
  split at hr
  ·rename_i hc
   obtain ⟨c1,c2,c3⟩:=hc
   cases hmv:es.mvOf m with
   | some yk =>
    obtain ⟨y,ky⟩:=yk
    rw [hmv] at hr
    obtain ⟨⟨d1,d2,d3,d4⟩,rfl⟩:=AA hr
    subst d1
    have hq:q=[]:=by cases q with | nil=>rfl | cons _ _=>cases d4
    subst hq
    have hes:es=.cons (.nm y) .nil/\m[y]?=some (.ow ky):=by
     unfold Es.mvOf at hmv
     split at hmv
     ·split at hmv
      ·cases hmv; exact ⟨rfl,‹_›⟩
      ·cases hmv
     ·cases hmv
    obtain ⟨rfl,hmy⟩:=hes
    cases xs with
    | nil=>cases sl
    | cons a xr =>
     cases xr with
     | cons _ _=>cases sl
     | nil =>
      obtain ⟨g,_⟩:=Ab (show (ckE c (.nm y) a && As a && ckEs c .nil [])=true from h2)
      obtain ⟨g1,g2⟩:=Ab g
      cases a with
      | Name z pz =>
       obtain ⟨g,g5⟩:=Ab (show ((c.N[y]?==some z) && Ej c.sc z && Br z)=true from g1)
       obtain ⟨g3,g4⟩:=Ab g
       obtain ⟨e1,e2⟩:=Bu g5
       have hv:PE X (.Name z pz) (GI y):=Eo (by rw [C.ct.N]; exact beq_iff_eq.mp g3) (C.ct.vis g4) e1 e2
       refine CQ (Gg PySem.F.plainAttrs_list PySem.F.slot_list_append PySem.F.type_list_append D4 A (Cr hv Er rfl) (hb _) rfl h3 rfl rfl) rfl pins s _ H D I ?_
       exact QB (X:=X) S hmx hmy d2 (by simpa [lnE] using d3) rfl h
      | _=>exact nF g1
   | none =>
    rw [hmv] at hr
    obtain ⟨⟨j1,k1⟩,g1,hr⟩:=bS hr
    obtain ⟨hcc,rfl⟩:=AA hr
    have B:=(sndA es C.ct (tn:=tnM m) xs n2 h2).1
    have M:=OL (X:=X) C.ct.K S hmx c1 c2 g1 hcc rfl h
    have one:∀ {y:Expr},As y=true->((backTo cp (starEach [y] X.env)).all (fun x=>!x.1) && (backToKw cp (keywordEach [] X.env)).all (fun x=>x.1.isSome) && decide ([y].length + ([]:List Keyword).length + (if ([]:List Keyword).isEmpty then 0 else 1) < 30))=true:=by
     intro y hy
     rw [An hy]; rfl
    cases u with
    | append =>
     have h5:es.len=1:=of_decide_eq_true h5
     match xs,sl,st with
     | [y],_,st =>
      have hy:As y=true:=by simpa using st
      exact CQ (Gg PySem.F.plainAttrs_list PySem.F.slot_list_append PySem.F.type_list_append D4 A B (hb _) (one hy) h3 (An hy) rfl) rfl pins s _ H D I M
     | [],sl,_=>rw [h5] at sl; cases sl
     | _ :: _ :: _,sl,_=>rw [h5] at sl; cases sl
    | extend =>
     have h5:es.len=1:=of_decide_eq_true h5
     match xs,sl,st with
     | [y],_,st =>
      have hy:As y=true:=by simpa using st
      exact CQ (Gg PySem.F.plainAttrs_list PySem.F.slot_list_extend PySem.F.type_list_extend Kl A B (hb _) (one hy) h3 (An hy) rfl) rfl pins s _ H D I M
     | [],sl,_=>rw [h5] at sl; cases sl
     | _ :: _ :: _,sl,_=>rw [h5] at sl; cases sl
    | popAt =>
     have h5:es.len=1:=of_decide_eq_true h5
     match xs,sl,st with
     | [y],_,st =>
      have hy:As y=true:=by simpa using st
      exact CQ (Gg PySem.F.plainAttrs_list PySem.F.slot_list_pop PySem.F.type_list_pop Mz A B (hb _) (one hy) h3 (An hy) rfl) rfl pins s _ H D I M
     | [],sl,_=>rw [h5] at sl; cases sl
     | _ :: _ :: _,sl,_=>rw [h5] at sl; cases sl
    | insert =>
     have h5:es.len=2:=of_decide_eq_true h5
     match xs,sl,st with
     | [y,y'],_,st =>
      have hy:As y=true/\As y'=true:=by simpa using st
      exact CQ (Gg PySem.F.plainAttrs_list PySem.F.slot_list_insert PySem.F.type_list_insert Lh A B (hb _) (by rw [An hy.1,An hy.2]; rfl) h3 (An hy.1) (by rw [An hy.2]; rfl)) rfl pins s _ H D I M
     | [],sl,_=>rw [h5] at sl; cases sl
     | [_],sl,_=>rw [h5] at sl; cases sl
     | _ :: _ :: _ :: _,sl,_=>rw [h5] at sl; cases sl
    | clear =>
     have h5:es.len=0:=of_decide_eq_true h5
     rw [h5] at sl
     cases xs with
     | cons _ _=>cases sl
     | nil =>
      cases es with
      | cons _ _=>cases h5
      | nil =>
       refine CQ (PY PySem.F.plainAttrs_list PySem.F.slot_list_clear PySem.F.type_list_clear MA A (hb _) h3) rfl pins s _ H D I ?_
       exact Nf M
  ·cases hr
 ·cases hr
end
section
variable {Z:Zx} {c:CkC} {lv:Nat} {X:Cx} {E:XK} {pos:Pos}
theorem Nh (C:Cs Z c lv X E) {e:Pu.E} {e':Expr} (hn:∀ n ∈ e.need,NeedOk Z.p lv X n) (h1:ckE c e e'=true):PS X (.Return (some e') pos) (lS Z (.ret e)):=by
 intro pins s σ H D I h
 rcases QC h with ⟨i,t,rfl,hs,hq⟩ | ⟨m,h⟩
 ·cases e' with
  | Name y q =>
   obtain ⟨g,h3⟩:=Ab (show ((c.N[i]?==some y) && Ej c.sc y && Br y)=true from h1)
   obtain ⟨h1,h2⟩:=Ab g
   obtain ⟨d1,d2⟩:=Bu h3
   exact KP (Eo (by rw [C.ct.N]; exact beq_iff_eq.mp h1) (C.ct.vis h2) d1 d2) pins s σ H D I ⟨_,hs,hq⟩
  | _=>exact nF h1
 ·exact KP (snd e C.ct (tn:=tnM m) e' hn h1).1 pins s σ H D I h
theorem Ko (C:Cs Z c lv X E) {n:Nat} {es:Es} {xs:List Expr} {np cp:Pos} (hn:∀ n ∈ es.need,NeedOk Z.p lv X n) (hr:NeedOk Z.p lv X (.rs n)) (h1:glB c.sc (Az n)=true) (h2:Br (Az n)=true) (h3:ckEs c es xs=true) (h4:0 < es.len) (h5:es.len<=1000) (hrz:c.rz=true) (hcm:c.cm=true) :
  PS X (.Raise (some (.Call (.Name (Az n) np) xs [] cp)) none pos) (lS Z (.raise n es)):=by
 intro pins s σ H D I h
 obtain ⟨m,h⟩:=M2 h
 obtain ⟨r1,r2,r3⟩:=hr
 obtain ⟨s1,s2⟩:=B7 h3
 have A:=(sndA es C.ct (tn:=tnM m) xs hn h3).1
 cases xs with
 | nil=>rw [<- s2] at h4; cases h4
 | cons x xr =>
  rw [aaB,aaj] at s1
  refine MH (C.xw hrz) (C.ct.calm hcm) (C.ct.gl h1) r2 r3 A (Bu h2).1 (An s1.1) (AK s1.2) pins s σ H D I ?_
  obtain ⟨τ,e,hF,j,k,hj,h⟩:=h
  refine ⟨τ,e,hF,j,k,hj,h.mono (Same.refl _) fun ds _ hd ts H1 ht R=>?_⟩
  obtain ⟨q1,q2⟩:=hd ts H1 ht R
  refine ⟨by rw [q1]; exact aay h5 (by decide),?_⟩
  have:=q2 r1
  rw [C.ex hrz] at this
  exact this
end
theorem He (env:Env) (b:List Stmt):∀ a:List Stmt,execs (a ++ b) env=(do match <- execs a env with | .next=>execs b env | f=>pure f)
 | []=>rfl
 | s :: a=>by
  rw [aa4,execs_cons,execs_cons,He env b a,bind_assoc]
  congr 1
  funext f
  cases f <;> rfl
theorem OT {X:Cx} {a b:List Stmt} {t u:TS} (h1:PSs X a t) (h2:PSs X b u):PSs X (a ++ b) (JJ t u):=by
 intro pins s σ H D I h
 have k:=h1 pins s σ H { D with nx:=u D } I h
 intro Γ p hΓ
 rw [He,Sem.wp_bind']
 refine Sem.wp_mono _ Γ _ (fun f p' s' q=>?_) (fun _ _ _ q=>q) _ _ (k Γ p hΓ)
 cases f with
 | next =>
  obtain ⟨σ',H',I',q⟩:=q
  exact h2 pins s' σ' H' D I' q Γ p' hΓ
 | ret v=>exact q
 | brk=>exact q
 | cont=>exact q
section
variable {Z:Zx} {c:CkC} {lv:Nat} {X:Cx} {E:XK} {pos:Pos}
theorem LR (C:Cs Z c lv X E) {x y:Nat} {a i e:Pu.E} {b:Ss} {st:Stmt} {sts:List Stmt} (n1:∀ n ∈ a.need,NeedOk Z.p lv X n) (n3:∀ n ∈ i.need,NeedOk Z.p lv X n) (n4:∀ n ∈ e.need,NeedOk Z.p lv X n)
  (h1:Km c x y a st=true) (h2:Kn c x i e sts.getLast?=true) (B:PSs X sts.dropLast (lSs Z b)):PSs X (st :: sts) (lSs Z (.lend x y a b i e)):=by
 unfold Km at h1
 split at h1
 ·rename_i x' px o po
  obtain ⟨h1,g3⟩:=Ab h1
  obtain ⟨g1,g2⟩:=Ab h1
  unfold Kn at h2
  split at h2
  ·rename_i x2 px2 i' pi e' pe hl
   obtain ⟨h2,f7⟩:=Ab h2
   obtain ⟨h2,f6⟩:=Ab h2
   obtain ⟨h2,f5⟩:=Ab h2
   obtain ⟨h2,f4⟩:=Ab h2
   obtain ⟨h2,f3⟩:=Ab h2
   obtain ⟨f1,f2⟩:=Ab h2
   have hsts:sts.dropLast ++ [.Assign [.Subscript (.Name x2 px2) i' pi] e' pe]=sts:=by
    obtain ⟨ys,rfl⟩:=List.getLast?_eq_some_iff.mp hl
    simp
   intro pins s σ H D I h
   obtain ⟨m,m2,h⟩:=OR h
   obtain ⟨l1,l2⟩:=C.ct.loc g2
   obtain ⟨d1,d2⟩:=Bu f3
   have A:=Hu C.ct (tn:=tnM m) (x:=y) (rp:=[(false,a)]) (o:=o) (fun e he n hn=>by
    rcases aaG.mp he with rfl
    exact n1 n hn) g3
   have nc:Bw o=true:=by
    cases o <;> first | rfl | exact nF g3
   have P1:=HA (pos:=po) (pos':=px) C.ct.nd (by rw [C.ct.N]; exact beq_iff_eq.mp g1) l1 A (EH nc) l2
   have P2:PS X (.Assign [.Subscript (.Name x2 px2) i' pi] e' pe) (DL (lE Z.p Z.EX (tnM m2) e) (Hy (GI x) (lE Z.p Z.EX (tnM m2) i) Gf)):=by
    have hw:swappedStores [.Subscript (.Name x2 px2) i' pi] e' X.env=pure none:=by cases e' <;> rfl
    refine Hz (snd e C.ct (tn:=tnM m2) e' n4 f6).1 (KQ (Eo (by rw [C.ct.N]; exact beq_iff_eq.mp f1) (C.ct.vis f2) d1 d2) (snd i C.ct (tn:=tnM m2) i' n3 f4).1 HD (fun v=>?_)) (Ik f7) hw rfl
    cases i' <;> first | rfl | cases f5
   have R:=Hx P1 (OT B (NW P2))
   rw [hsts] at R
   exact R pins s σ H D I h
  ·cases h2
 ·cases h1
end
section
variable {Z:Zx} {c:CkC} {lv:Nat} {X:Cx} {E:XK} {pos:Pos}
theorem Ni (C:Cs Z c lv X E) (hcm:X.calm=true) {b h e:Ss} {n i:Nat} {y:Str} {b' e' hr:List Stmt} {b0:Stmt} {p1 p2:Pos} (nC:NeedOk Z.p lv X (.cl n)) (hi:X.N[i]?=some y) (hl:c.sc.names.lookup y=some .local) (hg:Gl X (Az n)) (hd:(Az n==("__debug__" : Str))=false)
  (B:∀ (EX:EXT) (W:WT) (pn:PT0),DM (CXe X.prog X.w) (X.inT W pn) EX->∀ mx,PSs (X.inT W pn) b' (lSs { Z with EX:=EX,mx:=mx } b)) (S:∀ a mx,PSs (X.inX a) (b0 :: hr) (lSs { Z with EX:=EX0,mx:=mx } h)) (O:PSs X e' (lSs Z e)) :
  PS X (.Try b' [.ExceptHandler (some (.Name (Az n) p1)) (some y) (b0 :: hr) p2] e' [] pos) (lS Z (.try_ b n i h e)):=by
 intro pins s σ H D I hq
 obtain ⟨mb,mh,q⟩:=QI (K:=X.K) C.ct.K C.ct.kx nC.1 hq
 have hk:X.env.kindOf y=some .local:=by
  show X.env.scope.names.lookup y=_
  rw [C.ct.sc]; exact hl
 exact P7 hcm C.stk C.frm C.ct.nd hi hk hg nC.2 (fun E W pn hp=>B E W pn hp mb) (fun a=>S a mh) O hd pins s σ H D I q
end
mutual
theorem SA {Z:Zx} {c:CkC} {lv:Nat} {X:Cx} {E:XK} (C:Cs Z c lv X E):∀ (s:S) (st:Stmt),(∀ n ∈ s.need,NeedOk Z.p lv X n)->ckS c s st=true->PS X st (lS Z s)
 | .asg x k e,st,hn,h=>by
  cases st with
  | Assign ts e' q =>
   match ts,h with
   | [t],h =>
    cases t with
    | Name y py =>
     obtain ⟨h,h3⟩:=Ab (show ((c.N[x]?==some y) && Ek c y && ckE c e e')=true from h)
     obtain ⟨h1,h2⟩:=Ab h
     exact M8 C hn h1 h2 h3
    | _=>exact nF h
   | [],h=>exact nF h
   | t :: _ :: _,h=>cases t <;> exact nF h
  | _=>exact nF h
 | .dem _ _,st,hn,h=>by cases st <;> exact nF h
 | .dead _,st,hn,h=>by cases st <;> exact nF h
 | .asgT xs e,st,hn,h=>by
  cases st with
  | Assign ts e' q =>
   match ts,h with
   | [t],h =>
    cases t with
    | Tuple es k py =>
     obtain ⟨h,h3⟩:=Ab (show (ckG c (.tp xs) (.Tuple es k py) && ckE c e e' && (Fi e' || Ih c es))=true from h)
     obtain ⟨h1,h2⟩:=Ab h
     exact LO C hn h1 h2 h3
    | _=>exact nF h
   | [],h=>exact nF h
   | t :: _ :: _,h=>cases t <;> exact nF h
  | _=>exact nF h
 | .set x q i e,st,hn,h=>by
  cases st with
  | Assign ts e' q2 =>
   match ts,h with
   | [t],h =>
    cases t with
    | Subscript o i' py =>
     obtain ⟨h,h5⟩:=Ab (show (DW c x q.reverse o && ckE c i i' && Bt i' && ckE c e e' && Bw e')=true from h)
     obtain ⟨h,h4⟩:=Ab h
     obtain ⟨h,h3⟩:=Ab h
     obtain ⟨h1,h2⟩:=Ab h
     obtain ⟨n1,n2⟩:=Ax hn
     obtain ⟨n2,n3⟩:=Ax n2
     exact Nc C n1 n2 n3 h1 h2 h3 h4 h5
    | _=>exact nF h
   | [],h=>exact nF h
   | t :: _ :: _,h=>cases t <;> exact nF h
  | _=>exact nF h
 | .mut x q u es,st,hn,h=>by
  cases st with
  | Expr v q2 =>
   cases v with
   | Call f xs ks cp =>
    cases f with
    | Attribute o name ap =>
     cases ks with
     | nil =>
      obtain ⟨h,h8⟩:=Ab (show (DW c x q.reverse o && (name==Ig u) && ckEs c es xs && (ap.endLine==cp.line) && Ii o && decide (es.len < 20) && M7 u es.len)=true from h)
      obtain ⟨h,h7⟩:=Ab h
      obtain ⟨h,h5⟩:=Ab h
      obtain ⟨h,h4⟩:=Ab h
      obtain ⟨h,h3⟩:=Ab h
      obtain ⟨h1,h2⟩:=Ab h
      cases beq_iff_eq.mp h2
      obtain ⟨n1,n2⟩:=Ax hn
      exact Ng C n1 n2 h1 h3 h4 h8
     | cons _ _=>exact nF h
    | _=>exact nF h
   | _=>exact nF h
  | _=>exact nF h
 | .expr e,st,hn,h=>by
  cases st with
  | Expr v q2 =>
   obtain ⟨h1,h2⟩:=Ab (show (ckE c e v && Bw v)=true from h)
   exact LP C hn h1 h2
  | _=>exact nF h
 | .iff t a b,st,hn,h=>by
  cases st with
  | If t' a' b' q =>
   obtain ⟨h,h4⟩:=Ab (show (ckE c t t' && t.tst && ckSs c a a' && ckSs c b b')=true from h)
   obtain ⟨h,h3⟩:=Ab h
   obtain ⟨h1,h2⟩:=Ab h
   obtain ⟨n1,n2⟩:=Ax hn
   obtain ⟨n2,n3⟩:=Ax n2
   intro pins s σ H D I h
   obtain ⟨m,h⟩:=QD h
   exact Rf ((snd t C.ct (tn:=tnM m) t' n1 h1).2 h2) (sndSs C a a' n2 h3) (sndSs C b b' n3 h4) pins s σ H D I h
  | _=>exact nF h
 | .wh t b,st,hn,h=>by
  cases st with
  | While t' b' el q =>
   cases el with
   | nil =>
    obtain ⟨h,hrz⟩:=Ab (show (ckE c t t' && t.tst && ckSs c b b' && c.rz)=true from h)
    obtain ⟨h,h3⟩:=Ab h
    obtain ⟨h1,h2⟩:=Ab h
    obtain ⟨n1,n2⟩:=Ax hn
    intro pins s σ H D I h
    obtain ⟨m,h⟩:=RE h
    exact Mo (C.po hrz) ((snd t C.ct (tn:=tnM m) t' n1 h1).2 h2) (sndSs C b b' n2 h3) pins s σ H D I h
   | cons _ _=>exact nF h
  | _=>exact nF h
 | .for_ g it b,st,hn,h=>by
  cases st with
  | For tg it' b' el q =>
   cases el with
   | nil =>
    obtain ⟨h,hcm⟩:=Ab (show (ckG c g tg && ckI c tg it it' && Dw it' && ckSs c b b' && c.rz && c.cm)=true from h)
    obtain ⟨h,hrz⟩:=Ab h
    obtain ⟨h,h4⟩:=Ab h
    obtain ⟨h,h3⟩:=Ab h
    obtain ⟨h1,h2⟩:=Ab h
    obtain ⟨n1,n2⟩:=Ax hn
    have B:=sndSs C b b' n2 h4
    intro pins s σ H D I h
    rcases QG (K:=X.K) (X:=X) h with ⟨m,h⟩ | ⟨x,rfl,v,a,xs,e1,rfl,sq,hW⟩
    ·exact KY (C.po hrz) (C.ct.calm hcm) (sndI it C.ct (tn:=tnM m) it' n1 h2) (HW C.ct h1) B (EF h3) pins s σ H D I h
    ·cases it' with
     | Name y q' =>
      obtain ⟨g,g3⟩:=Ab (show ((c.N[x]?==some y) && Ej c.sc y && Br y)=true from h2)
      obtain ⟨g1,g2⟩:=Ab g
      obtain ⟨d1,d2⟩:=Bu g3
      refine KY (C.po hrz) (C.ct.calm hcm) (HS (Eo (by rw [C.ct.N]; exact beq_iff_eq.mp g1) (C.ct.vis g2) d1 d2)) (HW C.ct h1) B (EF h3) pins s σ H D I ?_
      exact ⟨_,e1,a,rfl,.inl ⟨xs,sq,hW C.ct.K⟩⟩
     | _=>exact nF h2
   | cons _ _=>exact nF h
  | _=>exact nF h
 | .ret e,st,hn,h=>by
  cases st with
  | Return v q =>
   cases v with
   | some e'=>exact Nh C hn h
   | none=>exact nF h
  | _=>exact nF h
 | .raise n es,st,hn,h=>by
  cases st with
  | Raise v w q =>
   cases v with
   | none=>exact nF h
   | some v =>
    cases v with
    | Call f xs ks cp =>
     cases f with
     | Name x np =>
      cases ks with
      | nil =>
       cases w with
       | none =>
        obtain ⟨h,hcm⟩:=Ab (show ((x==Az n) && glB c.sc x && Br x && ckEs c es xs && decide (0 < es.len) && decide (es.len<=1000) && c.rz && c.cm)=true from h)
        obtain ⟨h,hrz⟩:=Ab h
        obtain ⟨h,h6⟩:=Ab h
        obtain ⟨h,h5⟩:=Ab h
        obtain ⟨h,h4⟩:=Ab h
        obtain ⟨h,h3⟩:=Ab h
        obtain ⟨h1,h2⟩:=Ab h
        cases beq_iff_eq.mp h1
        exact Ko C (fun n m=>hn n (aaa _ m)) (hn _ (aac ..)) h2 h3 h4 (of_decide_eq_true h5) (of_decide_eq_true h6) hrz hcm
       | some _=>exact nF h
      | cons _ _=>exact nF h
     | _=>exact nF h
    | _=>exact nF h
  | _=>exact nF h
 | .try_ b n i h e,st,hn,hck=>by
  cases st with
  | Try b' hs e' fin q =>
   have hck:(match Ij hs fin with
    | some (x,y,h')=>(x==Az n) && glB c.sc x && Br x && (c.N[i]?==some y) && (c.sc.names.lookup y==some .local) && c.rz && c.cm && !h'.isEmpty && ckSs { c with rz:=false } b b' && ckSs { c with rz:=false,cm:=false } h h' && ckSs c e e'
    | none=>false)=true:=hck
   cases hh:Ij hs fin with
   | none=>rw [hh] at hck; cases hck
   | some w =>
    obtain ⟨x,y,h'⟩:=w
    rw [hh] at hck
    obtain ⟨p1,p2,rfl,rfl⟩:=OS hh
    obtain ⟨hck,g10⟩:=Ab hck
    obtain ⟨hck,g9⟩:=Ab hck
    obtain ⟨hck,g8⟩:=Ab hck
    obtain ⟨hck,g7⟩:=Ab hck
    obtain ⟨hck,gcm⟩:=Ab hck
    obtain ⟨hck,g6⟩:=Ab hck
    obtain ⟨hck,g5⟩:=Ab hck
    obtain ⟨hck,g4⟩:=Ab hck
    obtain ⟨hck,g3⟩:=Ab hck
    obtain ⟨g1,g2⟩:=Ab hck
    cases beq_iff_eq.mp g1
    have nC:NeedOk Z.p lv X (.cl n):=hn _ (aac ..)
    have hn':∀ k ∈ b.need ++ (h.need ++ e.need),NeedOk Z.p lv X k:=fun k m=>hn k (aaa _ m)
    obtain ⟨n1,n2⟩:=Ax hn'
    obtain ⟨n2,n3⟩:=Ax n2
    cases h' with
    | nil=>cases g7
    | cons b0 hr =>
     refine Ni C (C.ct.calm gcm) nC (by rw [C.ct.N]; exact beq_iff_eq.mp g4) (beq_iff_eq.mp g5) (C.ct.gl g2) (Bu g3).1 (fun EX W pn hp mx=>?_) (fun a mx=>?_) (sndSs C e e' n3 g10)
     ·exact sndSs (Z:={ Z with EX:=EX,mx:=_ }) (c:={ c with rz:=false }) (X:=X.inT W pn) (E:=E) ⟨⟨C.ct.K,C.ct.N,C.ct.sc,C.ct.nd,C.ct.calm,C.ct.room,C.ct.un,C.ct.blt,C.ct.bt,hp,C.ct.fn,C.ct.kx,(fun z=>nomatch z)⟩,(fun z=>nomatch z),(fun z=>nomatch z),(fun z=>nomatch z),C.kind,C.stk,C.frm⟩ b b' n1 g8
     ·refine sndSs (Z:={ Z with EX:=EX0,mx:=_ }) (c:={ c with rz:=false,cm:=false }) (X:=X.inX a) (E:=E) ⟨⟨C.ct.K,C.ct.N,C.ct.sc,C.ct.nd,(fun z=>nomatch z),(fun z=>nomatch z),C.ct.un,C.ct.blt,C.ct.bt,?_,C.ct.fn,C.ct.kx,(fun z=>nomatch z)⟩,(fun z=>nomatch z),(fun z=>nomatch z),(fun z=>nomatch z),C.kind,C.stk,C.frm⟩ h (b0 :: hr) n2 g9
      intro _ _ _ _ _ _ _ hx
      obtain ⟨_,_,_,_,_,_,_,_,_,_,_,_,_,_,_,_,_,_,z⟩:=hx
      exact z.elim
  | _=>exact nF hck
theorem sndSs {Z:Zx} {c:CkC} {lv:Nat} {X:Cx} {E:XK} (C:Cs Z c lv X E):∀ (s:Ss) (st:List Stmt),(∀ n ∈ s.need,NeedOk Z.p lv X n)->ckSs c s st=true->PSs X st (lSs Z s)
 | .nil,st,hn,h=>by
  cases st with
  | nil=>exact fun pins s σ H D I h=>NV pins s σ H D I (QF h)
  | cons _ _=>exact nF h
 | .cons s r,st,hn,h=>by
  obtain ⟨n1,n2⟩:=Ax hn
  have skip:(∃ x k,s=.dem x k)\/(∃ x,s=.dead x)->ckSs c r st=true->PSs X st (lSs Z (.cons s r)):=fun hs h=>PSs.mono (sndSs C r st n2 h) fun D σ H q=>OP hs q
  by_cases hd:(∃ x k,s=.dem x k)\/(∃ x,s=.dead x)
  ·refine skip hd ?_
   rcases hd with ⟨x,k,rfl⟩ | ⟨x,rfl⟩
   ·exact h
   ·exact h
  ·cases st with
   | nil=>cases s <;> first | exact nF h | exact absurd (.inl ⟨_,_,rfl⟩) hd | exact absurd (.inr ⟨_,rfl⟩) hd
   | cons x xs =>
    have h:(ckS c s x && ckSs c r xs)=true:=by
     cases s <;> first | exact h | exact absurd (.inl ⟨_,_,rfl⟩) hd | exact absurd (.inr ⟨_,rfl⟩) hd
    obtain ⟨h1,h2⟩:=Ab h
    exact PSs.mono (Hx (SA C s x n1 h1) (sndSs C r xs n2 h2)) fun D σ H q=>QE q
 | .lend x y a b i e,st,hn,h=>by
  cases st with
  | nil=>exact nF h
  | cons st sts =>
   obtain ⟨h,h3⟩:=Ab (show (Km c x y a st && Kn c x i e sts.getLast? && ckSs c b sts.dropLast)=true from h)
   obtain ⟨h1,h2⟩:=Ab h
   obtain ⟨n1,n2⟩:=Ax hn
   obtain ⟨n2,n3⟩:=Ax n2
   obtain ⟨n3,n4⟩:=Ax n3
   exact LR C n1 n3 n4 h1 h2 (sndSs C b _ n2 h3)
end
structure Lw where
 p:Px
 P:Program
 w:World
 mg:Str->Option Value
 base:Heap
structure Lw.Ok (L:Lw):Prop where
 blt:∀ y ∈ Ev,L.mg y=none
 bt:∀ y ∈ (["bool", "dict", "ValueError"]:List Str),L.mg y=none
 kx:Kx L.p
noncomputable def Kp (L:Lw) (F:Fn):Prop:=∃ ps:List Str,ps.length=F.ar/\Has L.P L.w L.p.K L.mg L.base F.name F.lv ps (spF L.p F)
noncomputable def RF (L:Lw) (F:Fn):Prop:=∃ ps:List Str,ps.length=F.ar/\Has L.P L.w L.p.K L.mg L.base F.name F.lv ps (spM L.p F)
noncomputable def RG (L:Lw) (F:Fn):Prop:=∃ ps:List Str,ps.length=F.ar/\Has L.P L.w L.p.K L.mg L.base F.name F.lv ps (spN L.p F)
noncomputable def NeedG (L:Lw) (lv:Nat):Nd1->Prop
 | .fn F=>F.lv<=lv/\Kp L F
 | .fm F=>F.lv<=lv/\RF L F
 | .fc F=>F.lv<=lv/\RG L F
 | .cl n=>L.p.has n=true/\L.mg (Az n)=some (.ref (L.p.cl n))
 | .rs n=>L.p.has n=true/\nsIn L.p.K mainGlobals (Az n)=some (some (.ref (L.p.cl n)))/\excIn L.p.K (L.p.cl n) GM "ValueError.__new__" = true
 | .gl x d=>∃ u,L.mg x=some u/\RelV (dT d).val u
noncomputable def AllN (f:Nd1->Prop):List Nd1->Prop
 | []=>True
 | n :: r=>f n/\AllN f r
theorem AllN.mem {f:Nd1->Prop}:∀ {l:List Nd1},AllN f l->∀ n ∈ l,f n
 | [],_,n,h=>by cases h
 | m :: r,h,n,hn=>by
  rcases aai.mp hn with rfl | hn
  ·exact h.1
  ·exact AllN.mem h.2 n hn
noncomputable def AC (name:Str) (ar lv dep n:Nat) (body:Ss):Fn:=⟨name,ar,lv,dep,fun ds=>if ds.length=ar then run n body ds else .bad⟩
theorem Ao {x:Str} {ar lv dep n:Nat} {b:Ss} {ds:List D} (h:ds.length=ar):(AC x ar lv dep n b).den ds=run n b ds:=if_pos h
noncomputable def m0 (ar n:Nat):Ms:=aam ar .sh ++ aam (n - ar) .dead
noncomputable def τ0 (n:Nat) (ts:List T):Ft:=ts.map some ++ aam (n - ts.length) none
theorem vτ0 (N:List Str) (ts:List T):vτ (τ0 N.length ts)=L2.AI N (ts.map T.val):=by
 unfold vτ τ0 L2.AI
 rw [aaq,aaY,aaY,aa6,aab]
 rfl
theorem dτ0 (n:Nat) (ts:List T):dτ (τ0 n ts)=Pu.AI n (T.dats ts):=by
 unfold dτ τ0 Pu.AI
 rw [aaq,aaY,T.dats_map,aaY,aa6,aab]
 rfl
theorem Il {ar n i:Nat} {d:Md} (h:(m0 ar n)[i]?=some d):(i < ar/\d=.sh)\/(ar<=i/\d=.dead):=by
 unfold m0 at h
 by_cases hi:i < ar
 ·rw [aaP (by simpa using hi),aaT,if_pos hi] at h
  exact .inl ⟨hi,(Option.some.inj h).symm⟩
 ·rw [aaH (by simpa using hi),aaT] at h
  split at h
  ·exact .inr ⟨abi hi,(Option.some.inj h).symm⟩
  ·cases h
theorem Ju {n i:Nat} {ts:List T} {t:T} (h:(τ0 n ts)[i]?=some (some t)):t ∈ ts:=by
 unfold τ0 at h
 have:=aaf h
 rw [aae] at this
 rcases this with z | z
 ·obtain ⟨u,hu,e⟩:=aaS.mp z
  cases e; exact hu
 ·have:=(abF.mp z).2; cases this
theorem Jv {p:Px} {H:Hp}:∀ {ts:List T},T.Oks p H ts->∀ t ∈ ts,t.Ok p H
 | [],_,t,h=>by cases h
 | u :: r,h,t,ht=>by
  rcases aai.mp ht with rfl | ht
  ·exact h.1
  ·exact Jv h.2 t ht
theorem sf0 {p:Px} {H:Hp} {ts:List T} {n ar:Nat} (ok:T.Oks p H ts) (hl:ts.length=ar) (hn:ar<=n):Sf p H (fun a=>a ∈ T.rests ts 0) (m0 ar n) (τ0 n ts) H:=by
 have noOw:∀ {i k:Nat},(m0 ar n)[i]? ≠ some (.ow k):=fun {i k} h=>by
  rcases Il h with ⟨_,z⟩ | ⟨_,z⟩ <;> cases z
 refine ⟨?_,fun d hd=>?_,Same.refl _,fun i t j h1 h2 h3=>Jv ok t (Ju h1),fun i t k a h1 h2=>absurd h2 noOw,?_,fun i t k h1 h2=>absurd h2 noOw,fun i j t u k d h0 h1 h2=>absurd h2 noOw,fun i j t u k k2 h1 h2=>absurd h2 noOw⟩
 ·unfold τ0 m0
  simp [hl]
 ·obtain ⟨i,hi⟩:=acl hd
  rcases Il hi with ⟨_,rfl⟩ | ⟨_,rfl⟩ <;> rfl
 ·rintro a ⟨i,t,j,h1,h2,h3,h4⟩
  obtain ⟨d,h5,rfl⟩:=AR h2
  right
  refine T.mem_rests.mpr ⟨t,Ju h1,?_⟩
  rcases Il h5 with ⟨_,rfl⟩ | ⟨_,rfl⟩
  ·exact h4
  ·exact absurd h3 (by decide)
theorem NeedG.to {L:Lw} {lv:Nat} {n:Nd1} (h:NeedG L lv n) {X:Cx} (e1:X.prog=L.P) (e2:X.w=L.w) (e3:X.K=L.p.K) (e4:X.mg=L.mg) (e5:X.base=L.base):NeedOk L.p lv X n:=by
 cases n with
 | fn F =>
  refine ⟨h.1,?_⟩
  unfold Ka
  rw [e1,e2,e3,e4,e5]
  exact h.2
 | fm F =>
  refine ⟨h.1,?_⟩
  unfold Qq
  rw [e1,e2,e3,e4,e5]
  exact h.2
 | fc F =>
  refine ⟨h.1,?_⟩
  unfold Qr
  rw [e1,e2,e3,e4,e5]
  exact h.2
 | cl n=>show _/\_; rw [e4]; exact h
 | rs n=>show _/\_/\_; rw [e3]; exact h
 | gl x d=>show ∃ u,_; rw [e4]; exact h
theorem LU {L:Lw} (O:L.Ok) {x:Str} {st:Stmt} {N ps:List Str} {ar lv dep:Nat} {body:Ss} {f:Addr} {fd:FuncData} (D:Fun L.p.K x x st f fd) (S:FnScope N ps (Ah st)) (har:ps.length=ar)
  (hck:ckSs ⟨N,Ah st,true,true,true⟩ body (AO st)=true) (hms:(msSs (aam N.length .dead) dep body (m0 ar N.length)).isSome=true) (hn:AllN (NeedG L lv) body.need) (hdp:dep < 1000):FnOk L.P L.w L.p.K L.mg L.base (CXe L.P L.w) (lv + 1) f fd ps (spF L.p (AC x ar (lv + 1) dep N.length body)):=by
 have hpl:ps.length<=N.length:=by have:=congrArg aaQ S.pre; rw [abg] at this; omega
 refine Fun.okX D S (fun vs H Q E h=>?_) fun f cdv A outer s H vs Q E hr hsp=>?_
 ·obtain ⟨ts,rfl,_,h,_⟩:=h
  rw [aab,h]; exact har.symm
 ·obtain ⟨ts,rfl,ok,hl,h⟩:=hsp
  have hl:ts.length=ar:=hl
  obtain ⟨r,hr'⟩:=aax.mp hms
  let Z:Zx:=⟨L.p,H,fun a=>a ∈ T.rests ts 0,fun _=>E,aam N.length .dead,dep⟩
  have C:Cs Z ⟨N,Ah st,true,true,true⟩ lv (BF (CXe L.P L.w) L.P L.w L.p.K L.mg L.base N x (Ah st) f cdv A outer s H E) E:=by
   refine ⟨⟨rfl,rfl,rfl,S.nd,fun _=>rfl,fun _=>hr,hr.units,O.blt,O.bt,?_,fun _ _=>rfl,O.kx,fun _=>trivial⟩,fun _=>rfl,fun _=>MG fun _ _ _ h=>h,fun _=>PassesOwn.leaving,S.kind,rfl,rfl⟩
   intro pins σ H' s' e s'' I h
   exact Rq (fun _ _ _ h=>h) pins σ H' s' e s'' I h
  refine ⟨_,sndSs C body (AO st) (fun n hnm=>(hn.mem n hnm).to rfl rfl rfl rfl rfl) hck,τ0 N.length ts,m0 ar N.length,r,(vτ0 N ts).symm,sf0 ok hl (by omega),hr',?_⟩
  have h:match (if (T.dats ts).length=ar then run N.length body (T.dats ts) else .bad) with
   | .ok d=>∀ t H',t.dat=d->Rs L.p (fun a=>a ∈ T.rests ts 0) H H' 0 dep t->Q t.val H'
   | .exc c=>L.p.has c=true->∀ H',Same H H'->E (.ref (L.p.cl c)) none H'
   | .bad=>False:=h
  rw [if_pos (by rw [T.dats_map,aab]; exact hl)] at h
  unfold run at h
  rw [dτ0]
  cases q:exs body (Pu.AI N.length (T.dats ts)) with
  | nxt δ =>
   rw [q] at h
   intro m' τ' H' e1 e2 S' P'
   exact h .non H' rfl (Rs.scal S'.same rfl)
  | ret d =>
   rw [q] at h
   show lRet Z _ d _ _
   unfold lRet
   rw [if_pos (show Z.dep < 1000 from hdp)]
   exact h
  | exc c δ =>
   rw [q] at h
   intro hc τ' H' e S' P'
   exact h hc H' S'.same
  | bad=>rw [q] at h; exact h.elim
theorem OU {L:Lw} (O:L.Ok) {x:Str} {st:Stmt} {N ps:List Str} {ar lv dep:Nat} {body:Ss} (D:Df L.p.K L.mg x st ps) (S:FnScope N ps (Ah st)) (har:ps.length=ar)
  (hck:ckSs ⟨N,Ah st,true,true,true⟩ body (AO st)=true) (hms:(msSs (aam N.length .dead) dep body (m0 ar N.length)).isSome=true) (hn:AllN (NeedG L lv) body.need) (hdp:dep < 1000):Kp L (AC x ar (lv + 1) dep N.length body):=by
 obtain ⟨f,fd,F,m,b⟩:=D
 exact ⟨ps,har,f,fd,LU O F S har hck hms hn hdp,m,F.kp,b⟩
theorem OV {L:Lw} {x:Str} {st:Stmt} {ps:List Str} {lv dep:Nat} (D:Df L.p.K L.mg x st ps):Kp L ⟨x,ps.length,lv,dep,fun _=>.bad⟩:=by
 obtain ⟨f,fd,F,m,b⟩:=D
 exact ⟨ps,rfl,f,fd,⟨fun _ _ _ _ h=>(let ⟨_,_,_,_,h⟩:=h; (show False from h).elim),fun _ _ _ _ _ _ _ _ _ _ _ _ _ h=>(let ⟨_,_,_,_,h⟩:=h; (show False from h).elim)⟩,m,F.kp,b⟩
noncomputable def SB:Value->Bool
 | .type x=>x == "list"
 | _=>false
noncomputable def noL (K:Frag):Bool:=K.all fun e=>!SB e.2.cls
theorem LV {a:Addr} {o:Obj}:∀ {K:Frag},K.lookup a=some o->(a,o) ∈ K
 | [],h=>by cases h
 | (b,u) :: r,h=>by
  by_cases e:a=b
  ·subst e
   rw [List.lookup_cons_self] at h
   cases h
   exact aac
  ·have:(a==b)=false:=by simpa using e
   rw [List.lookup_cons,this] at h
   exact aaa _ (LV h)
theorem QJ {K:Frag} (h:noL K=true) {a:Addr} {o:Obj} (e:K.lookup a=some o):o.cls ≠ .type "list" := fun z=>by
 have:=aat.mp h (a,o) (LV e)
 rw [z] at this
 cases this
noncomputable def spL (K:Frag):Sp:=fun vs H Q E=>∃ (a:Addr) (ns:List Int),vs=[.ref a]/\ns.length<=63/\SqL K H a (ns.map V.int)/\∀ H',Q (.bl true) H'
theorem Im:∀ ns:List Int,(ns.map T.int).map T.val=ns.map V.int
 | []=>rfl
 | n :: r=>by rw [aaA,aaA,aaA,Im r]; rfl
theorem Io:∀ ns:List Int,T.dats (ns.map T.int)=ns.map D.int
 | []=>rfl
 | n :: r=>by rw [aaA,aaA,T.dats,Io r]; rfl
theorem Jw {p:Px} {H:Hp}:∀ ns:List Int,T.Oks p H (ns.map T.int)
 | []=>trivial
 | n :: r=>⟨trivial,Jw r⟩
theorem QK {P:Program} {w:World} {K:Frag} {mg:Str->Option Value} {base:Heap} {p:Px} {F:Fn} {f:Addr} {fd:FuncData} {ps:List Str} (hF:FnOk P w K mg base (CXe P w) F.lv f fd ps (spF p F)) (hp:p.K=K) (ha:F.ar=1) (hK:noL K=true)
  (hd:∀ ns:List Int,ns.length<=63->F.den [.lst (ns.map .int)]=.ok (.bl true)):FnOk P w K mg base (CXe P w) F.lv f fd ps (spL K):=by
 refine hF.imp fun vs H Q E h=>?_
 obtain ⟨a,ns,rfl,hl,hS,q⟩:=h
 have hR:Rd H a (.lst (ns.map V.int)):=by
  rcases hS with h | ⟨o,its,n,e,c,_⟩
  ·exact h
  ·exact absurd c (QJ hK e)
 refine ⟨[.lst a (ns.map T.int)],rfl,⟨⟨by rw [Im]; exact hR,Jw ns⟩,trivial⟩,ha.symm,?_⟩
 have e:T.dats [T.lst a (ns.map T.int)]=[.lst (ns.map .int)]:=by
  show [D.lst (T.dats (ns.map T.int))]=_
  rw [Io]
 rw [e,hd ns hl]
 intro t H' ht R
 cases t <;> first | cases ht | skip
 exact q H'
theorem RH {l:PySem.W.OpenLaw} {k:Nat} {q:Program} {loose:List Str} {XP:(Str->Option Value)->Heap->Prop} {YP:World->Heap->Prop} {d:DefRec} {K:Params->PySem.W.Frag} {x:Str} (hn:l.most=some 63) (hdf:d.params.defaults=[]) (hr:Room k callerA)
  (hY:∀ (w:World) (h:Heap),YP w h->(K w.params).In h)
  (F:∀ (w:World) (mg:Str->Option Value) (fa:Addr) (h:Heap),(K w.params).In h->h.Ns mainGlobals mg->mg d.name=some (.ref fa) ->
   ∃ fd:FuncData,(∀ (s:Shared) (u:Value),BindsTo s fd ⟨[u],[]⟩ [(x,u)])/\∀ base:Heap,(K w.params).In base->base.Ns mainGlobals mg->FnOk l.prog w (K w.params) mg base (CXe l.prog w) k fa fd [x] (spL (K w.params))) :
  PySem.W.WalkO q loose XP YP l.row.toRowW d [] (fun f vs=>PySem.call f vs) :=
 L2.N6 (n:=63) (k:=k) (x:=x) (CX:=fun w=>CXe l.prog w) (sp:=fun w=>spL (K w.params)) hn (by decide) hdf hr hY F (fun _ _ a ns hl _ hS=>⟨a,ns,rfl,hl,hS,fun _=>rfl⟩) fun w H s e s' h=>by
  obtain ⟨_,_,_,_,_,_,_,_,_,_,_,_,_,_,_,_,_,_,z⟩:=h
  exact z
noncomputable def AD (K:Frag) (x:Str) (st:Stmt):Prop:=∃ (f:Addr) (oc:Value) (od an:Option Addr) (sl:Array (Option Value)) (kV dc pm cd ct:Value),nsIn K mainGlobals x=some (some (.ref f))/\K.lookup f=some ⟨oc,od,.func (fnOf x x (BK st) (AO st) (Ah st) .none kV dc pm an cd ct),sl⟩/\codeIn K cd x=true/\keepIn K (.ref f)=true
theorem AH {K:Frag} {x:Str} {st:Stmt} {f:Addr} {oc:Value} {od an:Option Addr} {sl:Array (Option Value)} {kV dc pm cd ct:Value} (a:nsIn K mainGlobals x=some (some (.ref f))) (l:K.lookup f=some ⟨oc,od,.func (fnOf x x (BK st) (AO st) (Ah st) .none kV dc pm an cd ct),sl⟩) (c:codeIn K cd x=true) (k:keepIn K (.ref f)=true):AD K x st:=⟨f,oc,od,an,sl,kV,dc,pm,cd,ct,a,l,c,k⟩
theorem Ap {K:Frag} {h:Heap} {mg:Str->Option Value} {x:Str} {st:Stmt} {ps:List Str} (X:K.In h) (G:h.Ns mainGlobals mg) (t:AD K x st) (hb:∀ (kV doc pm:Value) (an:Option Addr) (cdv ct:Value) (us:List Value),us.length=ps.length->bindArgs (fnOf x x (BK st) (AO st) (Ah st) .none kV doc pm an cdv ct) ⟨us,[]⟩=pure (ps.zip us)):Df K mg x st ps:=by
 obtain ⟨f,oc,od,an,sl,kV,dc,pm,cd,ct,a,l,c,k⟩:=t
 exact Rt X G a l c k hb
theorem ba1 {fd:FuncData} {a0:Str} (h:∀ u0:Value,bindArgs fd ⟨[u0],[]⟩=pure [(a0,u0)]):∀ us:List Value,us.length=([a0]:List Str).length->bindArgs fd ⟨us,[]⟩=pure (([a0]:List Str).zip us)
 | [u0],_=>h u0
theorem ba2 {fd:FuncData} {a0 a1:Str} (h:∀ u0 u1:Value,bindArgs fd ⟨[u0,u1],[]⟩=pure [(a0,u0),(a1,u1)]):∀ us:List Value,us.length=([a0,a1]:List Str).length->bindArgs fd ⟨us,[]⟩=pure (([a0,a1]:List Str).zip us)
 | [u0,u1],_=>h u0 u1
theorem ba3 {fd:FuncData} {a0 a1 a2:Str} (h:∀ u0 u1 u2:Value,bindArgs fd ⟨[u0,u1,u2],[]⟩=pure [(a0,u0),(a1,u1),(a2,u2)]):∀ us:List Value,us.length=([a0,a1,a2]:List Str).length->bindArgs fd ⟨us,[]⟩=pure (([a0,a1,a2]:List Str).zip us)
 | [u0,u1,u2],_=>h u0 u1 u2
theorem ba4 {fd:FuncData} {a0 a1 a2 a3:Str} (h:∀ u0 u1 u2 u3:Value,bindArgs fd ⟨[u0,u1,u2,u3],[]⟩=pure [(a0,u0),(a1,u1),(a2,u2),(a3,u3)]):∀ us:List Value,us.length=([a0,a1,a2,a3]:List Str).length->bindArgs fd ⟨us,[]⟩=pure (([a0,a1,a2,a3]:List Str).zip us)
 | [u0,u1,u2,u3],_=>h u0 u1 u2 u3
structure ClsF (K:Frag) (x:Str) (C:Addr):Prop where
 q:nsIn K mainGlobals x=some (some (.ref C))
 x:XCls K C
 t:∀ T ∈ (["int", "bool", "str", "list", "tuple", "dict"]:List String),kitOne K (.ref C) (.type T)=some false
 v:kitOne K (.ref C) (.type "ValueError")=some true
theorem Kq {K:Frag} {x:Str} {C:Addr} {cd:ClassData} (q:nsIn K mainGlobals x=some (some (.ref C)))
  (ga:findIn K (.ref C) "__getattribute__" = some (some (.builtin "BaseException.__getattribute__"))) (gn:findIn K (.ref C) "__getattr__" = some none) (sb:subIn K (.ref C) (.type "BaseException")=some true)
  (cl:findIn K (.ref C) "__class__" = some (some (.builtin "object.__class__"))) (mo:mroIn K C (.type "object")=some true) (ty:typeIn K (.ref C)=some (.type "type")) (cc:clsIn K C=some cd)
  (t1:kitOne K (.ref C) (.type "int")=some false) (t2:kitOne K (.ref C) (.type "bool")=some false) (t3:kitOne K (.ref C) (.type "str")=some false) (t4:kitOne K (.ref C) (.type "list")=some false) (t5:kitOne K (.ref C) (.type "tuple")=some false) (t6:kitOne K (.ref C) (.type "dict")=some false)
  (v:kitOne K (.ref C) (.type "ValueError")=some true):ClsF K x C:=by
 refine ⟨q,⟨ga,gn,sb,cl,mo,ty,by rw [cc]; rfl⟩,fun T hT=>?_,v⟩
 simp only [aai,abA,or_false] at hT
 rcases hT with rfl | rfl | rfl | rfl | rfl | rfl <;> assumption
noncomputable abbrev Cs':=List (Nat × Addr)
noncomputable def clA:Cs'->Nat->Addr
 | [],_=>0
 | (c,a) :: r,n=>if n=c then a else clA r n
noncomputable def BP:Cs'->Nat->Bool
 | [],_=>false
 | (c,_) :: r,n=>n==c || BP r n
noncomputable def AllC {α:Type} (f:α->Prop):List α->Prop
 | []=>True
 | q :: r=>f q/\AllC f r
theorem AllC.mem {α:Type} {f:α->Prop}:∀ {l:List α},AllC f l->∀ n ∈ l,f n
 | [],_,n,h=>by cases h
 | m :: r,h,n,hn=>by
  rcases aai.mp hn with rfl | hn
  ·exact h.1
  ·exact AllC.mem h.2 n hn
theorem CZ:∀ {cs:Cs'} {n:Nat},BP cs n=true->(n,clA cs n) ∈ cs
 | [],n,h=>by cases h
 | (c,a) :: r,n,h=>by
  unfold BP at h
  unfold clA
  by_cases e:n=c
  ·subst e; rw [if_pos rfl]; exact aac
  ·rw [if_neg e]
   have:(n==c)=false:=by simpa using e
   rw [this,aco] at h
   exact aaa _ (CZ h)
theorem RI {K:Frag} {cs:Cs'} (h9:BP cs 999=false) (h:AllC (fun q=>ClsF K (Az q.1) q.2) cs) (y:AllC (fun q=>AllC (fun r=>kitOne K (.ref q.2) (.ref r.2)=some (isa q.1 r.1)) cs) cs):Kx ⟨K,clA cs,BP cs⟩ :=
 ⟨h9,fun c hc=>(h.mem _ (CZ hc)).x,fun c hc=>(h.mem _ (CZ hc)).t,fun c hc=>(h.mem _ (CZ hc)).v,fun c d hc hd=>(y.mem _ (CZ hc)).mem _ (CZ hd)⟩
theorem RJ {K:Frag} {P:Program} {w:World} {mg:Str->Option Value} {base h:Heap} {cs:Cs'} (h9:BP cs 999=false) (X:K.In h) (G:h.Ns mainGlobals mg) (nb:AllC (fun y=>nsIn K mainGlobals y=some none) (Ev ++ (["bool", "dict", "ValueError"]:List Str))) (hc:AllC (fun q=>ClsF K (Az q.1) q.2) cs) (y:AllC (fun q=>AllC (fun r=>kitOne K (.ref q.2) (.ref r.2)=some (isa q.1 r.1)) cs) cs):Lw.Ok ⟨⟨K,clA cs,BP cs⟩,P,w,mg,base⟩ :=
 ⟨fun z hz=>mg_none_of X G (nb.mem z (aan _ hz)),fun z hz=>mg_none_of X G (nb.mem z (aag _ hz)),RI h9 hc y⟩
noncomputable def dfB (N:List Str) (ps:List Str) (st:Stmt) (b:Ss) (dep:Nat):Bool :=
 decide ((Ah st).kind=.function) && !(Ah st).isCoroutine && !(Ah st).isGenerator && decide N.Nodup && decide (N.take ps.length=ps) && ps.all (fun x=>decide ((Ah st).names.lookup x=some .local\/(Ah st).names.lookup x=some .cell)) && (Ah st).names.all (fun y=>decide (y.2 ≠ .free)) && ckSs ⟨N,Ah st,true,true,true⟩ b (AO st) && (msSs (aam N.length .dead) dep b (m0 ps.length N.length)).isSome && decide (dep < 1000)
theorem Dh {N ps:List Str} {st:Stmt} {b:Ss} {dep:Nat} (h:dfB N ps st b dep=true):FnScope N ps (Ah st)/\ckSs ⟨N,Ah st,true,true,true⟩ b (AO st)=true/\(msSs (aam N.length .dead) dep b (m0 ps.length N.length)).isSome=true/\dep < 1000:=by
 unfold dfB at h
 simp only [aaj,decide_eq_true_eq,aat,ab7] at h
 obtain ⟨⟨⟨⟨⟨⟨⟨⟨⟨h1,h2⟩,h3⟩,h4⟩,h5⟩,h6⟩,h7⟩,h8⟩,h9⟩,h10⟩:=h
 exact ⟨⟨h1,h2,h3,h4,h5,h6,h7⟩,h8,h9,h10⟩
theorem Aq {L:Lw} (O:L.Ok) {x:Str} {st:Stmt} {N ps:List Str} {lv dep:Nat} {b:Ss} (D:Df L.p.K L.mg x st ps) (h:dfB N ps st b dep=true) (hn:AllN (NeedG L lv) b.need):Kp L (AC x ps.length (lv + 1) dep N.length b) :=
 OU O D (Dh h).1 rfl (Dh h).2.1 (Dh h).2.2.1 hn (Dh h).2.2.2
theorem OW {l:PySem.W.OpenLaw} {w:World} {K:Frag} {h:Heap} {mg:Str->Option Value} {fa:Addr} {cs:Cs'} {x:Str} {st:Stmt} {N:List Str} {lv dep:Nat} {b:Ss} (X:K.In h) (G:h.Ns mainGlobals mg) (hfa:mg "law" = some (.ref fa)) (t:AD K "law" st) (hck:dfB N [x] st b dep=true)
  (hb:∀ (kV dc pm:Value) (an:Option Addr) (cd ct:Value) (s:Shared) (v:Value),BindsTo s (fnOf "law" "law" (BK st) (AO st) (Ah st) .none kV dc pm an cd ct) ⟨[v],[]⟩ [(x,v)])
  (O:∀ base:Heap,Lw.Ok ⟨⟨K,clA cs,BP cs⟩,l.prog,w,mg,base⟩) (hn:∀ base:Heap,AllN (NeedG ⟨⟨K,clA cs,BP cs⟩,l.prog,w,mg,base⟩ lv) b.need) (nl:noL K=true)
  (hden:∀ ns:List Int,ns.length<=63->(AC "law" 1 (lv + 1) dep N.length b).den [.lst (ns.map .int)]=.ok (.bl true)) :
  ∃ fd:FuncData,(∀ (s:Shared) (v:Value),BindsTo s fd ⟨[v],[]⟩ [(x,v)])/\∀ base:Heap,K.In base->base.Ns mainGlobals mg->FnOk l.prog w K mg base (CXe l.prog w) (lv + 1) fa fd [x] (spL K):=by
 obtain ⟨f,oc,od,an,sl,kV,dc,pm,cd,ct,a,l',c,k⟩:=t
 have e:=hfa.symm.trans (mg_of X G a)
 cases e
 refine ⟨_,hb kV dc pm an cd ct,fun base _ _=>?_⟩
 exact QK (F:=AC "law" 1 (lv + 1) dep N.length b) (LU (L:=⟨⟨K,clA cs,BP cs⟩,l.prog,w,mg,base⟩) (O base) (Ld (st:=st) l' c k) (Dh hck).1 rfl (Dh hck).2.1 (Dh hck).2.2.1 (hn base) (Dh hck).2.2.2) rfl rfl nl hden
end Pu
end
namespace Pu
open PySem PySem.Spec PyProof.Rows PySem.W L2
noncomputable def Dz:Ss :=
 (.cons (.ret (.bo true (.cons (.isi (.nm 0) .int) (.cons (.not (.isi (.nm 0) .bool)) .nil))))
 .nil)
noncomputable def Ci:Fn:=AC "is_whole" 1 1 9 1 Dz
theorem IM (ds:List D) (h:ds.length=1):Ci.den ds=run 1 Dz ds:=Ao h
noncomputable def Be:Ss :=
 (.cons (.ret (.bo true (.cons (.call Ci (.cons (.nm 0) .nil)) (.cons (.chain .le .le (.nm 1) (.nm 0) (.nm 2)) .nil))))
 .nil)
noncomputable def Dq:Fn:=AC "is_between" 3 2 9 3 Be
theorem Hn (ds:List D) (h:ds.length=3):Dq.den ds=run 3 Be ds:=Ao h
noncomputable def BM:Ss :=
 (.cons (.mut 2 [] .append (.cons (.nm 3) .nil))
 (.cons (.asg 3 0 (.bin .fdiv (.bin .sub (.bin .add (.nm 3) (.nm 1)) (.cI 1)) (.nm 1)))
 .nil))
noncomputable def DX:Ss :=
 (.cons (.asg 1 0 (.ix (.nm 0) (.cI 1)))
 (.cons (.asg 2 2 (.lst .nil))
 (.cons (.asg 3 0 (.ix (.nm 0) (.cI 0)))
 (.cons (.dem 2 1)
 (.cons (.wh (.cmp .gt (.nm 3) (.cI 1))
 BM)
 (.cons (.iff (.cmp .eq (.nm 3) (.cI 1))
 (.cons (.mut 2 [] .append (.cons (.nm 3) .nil))
 .nil)
 .nil)
 (.cons (.ret (.nm 2))
 .nil)))))))
noncomputable def Di:Fn:=AC "levels" 1 1 1 4 DX
theorem Hf (ds:List D) (h:ds.length=1):Di.den ds=run 4 DX ds:=Ao h
noncomputable def D8:Ss :=
 (.cons (.ret (.call Dq (.cons (.nm 0) (.cons (.cI 0) (.cons (.bin .pow (.cI 10) (.cI 18)) .nil)))))
 .nil)
noncomputable def CJ:Fn:=AC "is_room" 1 3 9 1 D8
theorem Kr (ds:List D) (h:ds.length=1):CJ.den ds=run 1 D8 ds:=Ao h
noncomputable def EK:Ss :=
 (.cons (.ret (.comp0 1 [] (.nm 0) (.seq (.nm 0)) (.bi .list (.cons (.nm 0) .nil))))
 .nil)
noncomputable def Fj:Fn:=AC "copied" 1 1 2 1 EK
theorem LW (ds:List D) (h:ds.length=1):Fj.den ds=run 1 EK ds:=Ao h
noncomputable def Dc:Ss :=
 (.cons (.ret (.comp0 1 [] (.nm 0) (.seq (.nm 0)) (.bi .len (.cons (.nm 0) .nil))))
 .nil)
noncomputable def DY:Fn:=AC "counts_of" 1 1 9 1 Dc
theorem Ip (ds:List D) (h:ds.length=1):DY.den ds=run 1 Dc ds:=Ao h
noncomputable def CK:Ss :=
 (.cons (.ret (.bo true (.cons (.isi (.nm 0) .list) (.cons (.bi .all (.cons (.comp0 1 [] (.nm 0) (.seq (.nm 0)) (.call CJ (.cons (.nm 0) .nil))) .nil)) .nil))))
 .nil)
noncomputable def A8:Fn:=AC "is_level" 1 4 9 1 CK
theorem FP (ds:List D) (h:ds.length=1):A8.den ds=run 1 CK ds:=Ao h
noncomputable def BG:Ss :=
 (.cons (.iff (.cmp .eq (.nm 0) (.lst .nil))
 (.cons (.ret (.lst .nil))
 .nil)
 .nil)
 (.cons (.ret (.bi .list (.cons (.ix (.nm 0) (.cI 0)) .nil)))
 .nil))
noncomputable def El:Fn:=AC "rooms_of" 1 1 1 1 BG
theorem IN (ds:List D) (h:ds.length=1):El.den ds=run 1 BG ds:=Ao h
noncomputable def DA:Ss :=
 (.cons (.ret (.tup (.cons (.bi .len (.cons (.call El (.cons (.nm 0) .nil)) .nil)) (.cons (.nm 1) .nil))))
 .nil)
noncomputable def Em:Fn:=AC "shape_of" 2 2 0 2 DA
theorem IO (ds:List D) (h:ds.length=2):Em.den ds=run 2 DA ds:=Ao h
noncomputable def Cz:Ss :=
 (.cons (.iff (.bo false (.cons (.not (.isi (.nm 0) .list)) (.cons (.not (.bi .all (.cons (.comp0 1 [] (.nm 0) (.seq (.nm 0)) (.call A8 (.cons (.nm 0) .nil))) .nil))) .nil)))
 (.cons (.ret (.cB false))
 .nil)
 .nil)
 (.cons (.asg 2 0 (.call Em (.cons (.nm 0) (.cons (.nm 1) .nil))))
 (.cons (.ret (.bo true (.cons (.cmp .le (.ix (.nm 2) (.cI 0)) (.gl "MOST_PAGES" (.int 200))) (.cons (.cmp .eq (.call DY (.cons (.nm 0) .nil)) (.call Di (.cons (.nm 2) .nil))) .nil))))
 .nil)))
noncomputable def AW:Fn:=AC "is_tree" 2 5 9 3 Cz
theorem EL (ds:List D) (h:ds.length=2):AW.den ds=run 3 Cz ds:=Ao h
noncomputable def Bx:Ss :=
 (.cons (.iff (.not (.call AW (.cons (.nm 0) (.cons (.nm 1) .nil))))
 (.cons (.raise 5 (.cons (.cS "this is no tree by the fan") .nil))
 .nil)
 .nil)
 (.cons (.ret (.call Fj (.cons (.nm 0) .nil)))
 .nil))
noncomputable def AF:Fn:=AC "checked_tree" 2 6 2 2 Bx
theorem D9 (ds:List D) (h:ds.length=2):AF.den ds=run 2 Bx ds:=Ao h
theorem Gx:AF.dep=2:=rfl
noncomputable def Dr:Ss :=
 (.cons (.asg 2 0 (.bin .mod (.bin .add (.bin .add (.bin .mul (.nm 2) (.cI 48271)) (.bin .mod (.nm 3) (.cI 1000003))) (.cI 1)) (.cI 2147483647)))
 .nil)
noncomputable def CL:Ss :=
 (.cons (.iff (.cmp .lt (.nm 1) (.bi .len (.cons (.nm 0) .nil)))
 (.cons (.ret (.ix (.nm 0) (.nm 1)))
 .nil)
 .nil)
 (.cons (.asg 2 0 (.cI 5))
 (.cons (.for_ (.nm 3) (.seq (.slc (.nm 0) .cN (.cI 63)))
 Dr)
 (.cons (.ret (.bin .mod (.bin .add (.nm 2) (.bin .mul (.cI 7919) (.nm 1))) (.cI 1000003)))
 .nil))))
noncomputable def Cj:Fn:=AC "_law_cell" 2 1 0 4 CL
theorem IP (ds:List D) (h:ds.length=2):Cj.den ds=run 4 CL ds:=Ao h
noncomputable def Cm:Ss :=
 (.cons (.asg 2 0 (.bin .mod (.bin .pow (.bin .add (.bin .add (.bin .mod (.nm 0) (.cI 2147483629)) (.bin .mul (.cI 1013) (.nm 1))) (.cI 7919)) (.cI 3)) (.cI 2147483647)))
 (.cons (.asg 3 0 (.bin .mod (.bin .add (.bin .add (.bin .mul (.nm 2) (.cI 40699)) (.bin .mul (.bin .mul (.cI 3793) (.nm 1)) (.nm 1))) (.cI 11)) (.cI 2147483399)))
 (.cons (.ret (.bin .fdiv (.nm 3) (.cI 101)))
 .nil)))
noncomputable def B8:Fn:=AC "_law_mix" 2 1 1 4 Cm
theorem GU (ds:List D) (h:ds.length=2):B8.den ds=run 4 Cm ds:=Ao h
noncomputable def AE:Ss :=
 (.cons (.iff (.cmp .lt (.nm 3) (.bin .pow (.cI 10) (.cI 18)))
 (.cons (.mut 5 [] .append (.cons (.bin .mod (.call B8 (.cons (.nm 3) (.cons (.nm 6) .nil))) (.ix (.nm 2) (.nm 6))) .nil))
 .nil)
 (.cons (.iff (.cmp .gt (.nm 4) (.cI 0))
 (.cons (.mut 5 [] .append (.cons (.bin .mod (.nm 4) (.ix (.nm 2) (.nm 6))) .nil))
 (.cons (.asg 4 0 (.bin .fdiv (.nm 4) (.ix (.nm 2) (.nm 6))))
 .nil))
 (.cons (.asg 7 0 (.call Cj (.cons (.nm 0) (.cons (.bin .mod (.bin .add (.bin .add (.nm 1) (.cI 1)) (.nm 6)) (.cI 63)) .nil))))
 (.cons (.mut 5 [] .append (.cons (.bin .mod (.call B8 (.cons (.nm 7) (.cons (.nm 6) .nil))) (.ix (.nm 2) (.nm 6))) .nil))
 .nil)))
 .nil))
 .nil)
noncomputable def Cn:Ss :=
 (.cons (.asg 3 0 (.call Cj (.cons (.nm 0) (.cons (.nm 1) .nil))))
 (.cons (.asg 4 0 (.nm 3))
 (.cons (.asg 5 2 (.lst .nil))
 (.cons (.for_ (.nm 6) (.r1 (.bi .len (.cons (.nm 2) .nil)))
 AE)
 (.cons (.ret (.nm 5))
 .nil)))))
noncomputable def A9:Fn:=AC "_law_row" 3 2 2 8 Cn
theorem GV (ds:List D) (h:ds.length=3):A9.den ds=run 8 Cn ds:=Ao h
noncomputable def Ay:Ss :=
 (.cons (.asg 7 0 (.ixL (.nm 3) (.bin .add (.cI 4) (.nm 6))))
 (.cons (.iff (.cmp .eq (.ixL (.nm 3) (.cI 2)) (.cI 1))
 (.cons (.asg 7 0 (.bin .mod (.nm 7) (.cI 3)))
 .nil)
 .nil)
 (.cons (.iff (.cmp .eq (.ixL (.nm 3) (.cI 2)) (.cI 2))
 (.cons (.asg 7 0 (.bin .mul (.ix (.lst (.cons (.cI 0) (.cons (.cI 0) (.cons (.cI 0) (.cons (.cI 1) .nil))))) (.bin .mod (.nm 7) (.cI 4))) (.bin .add (.cI 1) (.bin .fdiv (.nm 7) (.cI 4)))))
 .nil)
 .nil)
 (.cons (.iff (.cmp .eq (.ixL (.nm 3) (.cI 2)) (.cI 3))
 (.cons (.asg 7 0 (.bin .mod (.bin .add (.ixL (.nm 3) (.cI 3)) (.nm 6)) (.cI 13)))
 .nil)
 .nil)
 (.cons (.iff (.cmp .eq (.ixL (.nm 3) (.cI 2)) (.cI 4))
 (.cons (.asg 7 0 (.ixL (.nm 3) (.cI 3)))
 .nil)
 .nil)
 (.cons (.mut 5 [] .append (.cons (.bi .min (.cons (.bin .pow (.cI 10) (.cI 18)) (.cons (.bin .add (.bin .mul (.nm 7) (.nm 4)) (.bin .mul (.bi .int (.cons (.cmp .eq (.nm 7) (.cI 12)) .nil)) (.cI 4))) .nil))) .nil))
 .nil))))))
noncomputable def BT:Ss :=
 (.cons (.asg 3 2 (.call A9 (.cons (.nm 0) (.cons (.nm 1) (.cons (.bin .add (.lst (.cons (.bin .add (.nm 2) (.cI 1)) (.cons (.cI 5) (.cons (.cI 6) (.cons (.cI 13) .nil))))) (.bin .mul (.lst (.cons (.cI 13) .nil)) (.nm 2))) .nil)))))
 (.cons (.asg 4 0 (.ix (.lst (.cons (.cI 1) (.cons (.cI 1) (.cons (.cI 7) (.cons (.bin .pow (.cI 10) (.cI 6)) (.cons (.cI 83333333333333333) .nil)))))) (.ixL (.nm 3) (.cI 1))))
 (.cons (.asg 5 2 (.lst .nil))
 (.cons (.dem 3 1)
 (.cons (.for_ (.nm 6) (.r1 (.ixL (.nm 3) (.cI 0)))
 Ay)
 (.cons (.ret (.nm 5))
 .nil))))))
noncomputable def BH:Fn:=AC "_law_rooms" 3 3 2 8 BT
theorem F5 (ds:List D) (h:ds.length=3):BH.den ds=run 8 BT ds:=Ao h
noncomputable def Co:Ss :=
 (.cons (.ret (.bin .add (.cI 2) (.ix (.call A9 (.cons (.nm 0) (.cons (.nm 1) (.cons (.lst (.cons (.cI 7) .nil)) .nil)))) (.cI 0))))
 .nil)
noncomputable def C3:Fn:=AC "_law_fan" 2 3 1 2 Co
theorem GW (ds:List D) (h:ds.length=2):C3.den ds=run 2 Co ds:=Ao h
noncomputable def AQ:Ss :=
 (.cons (.mut 2 [] .append (.cons (.bin .fdiv (.bin .sub (.bin .add (.ixL (.nm 2) (.neg (.cI 1))) (.nm 1)) (.cI 1)) (.nm 1)) .nil))
 .nil)
noncomputable def Bf:Ss :=
 (.cons (.iff (.cmp .eq (.nm 0) (.cI 0))
 (.cons (.ret (.lst .nil))
 .nil)
 .nil)
 (.cons (.asg 2 1 (.lst (.cons (.nm 0) .nil)))
 (.cons (.wh (.cmp .gt (.ixL (.nm 2) (.neg (.cI 1))) (.cI 1))
 AQ)
 (.cons (.ret (.nm 2))
 .nil))))
noncomputable def A4:Fn:=AC "_law_counts" 2 1 1 3 Bf
theorem Ds (ds:List D) (h:ds.length=2):A4.den ds=run 3 Bf ds:=Ao h
noncomputable def Bl:Ss :=
 (.cons (.asg 4 0 (.bin .mul (.nm 4) (.nm 1)))
 .nil)
noncomputable def BU:Ss :=
 (.cons (.asg 4 0 (.cI 1))
 (.cons (.for_ (.nm 5) (.r1 (.nm 2))
 Bl)
 (.cons (.ret (.tup (.cons (.bin .mul (.nm 3) (.nm 4)) (.cons (.bi .min (.cons (.nm 0) (.cons (.bin .add (.bin .mul (.nm 3) (.nm 4)) (.nm 4)) .nil))) .nil))))
 .nil)))
noncomputable def Cq:Fn:=AC "_law_reach" 4 1 1 6 BU
theorem F6 (ds:List D) (h:ds.length=4):Cq.den ds=run 6 BU ds:=Ao h
noncomputable def Au:Ss :=
 (.cons (.asgT [7,8] (.call Cq (.cons (.bi .len (.cons (.nm 0) .nil)) (.cons (.nm 1) (.cons (.nm 4) (.cons (.nm 6) .nil))))))
 (.cons (.mut 5 [] .append (.cons (.bi .maxL (.cons (.slc (.nm 0) (.nm 7) (.nm 8)) .nil)) .nil))
 .nil))
noncomputable def AB:Ss :=
 (.cons (.asg 5 2 (.lst .nil))
 (.cons (.for_ (.nm 6) (.r1 (.ixL (.nm 3) (.nm 4)))
 Au)
 (.cons (.mut 2 [] .append (.cons (.nm 5) .nil))
 .nil)))
noncomputable def Ba:Ss :=
 (.cons (.asg 2 2 (.lst .nil))
 (.cons (.asg 3 1 (.call A4 (.cons (.bi .len (.cons (.nm 0) .nil)) (.cons (.nm 1) .nil))))
 (.cons (.for_ (.nm 4) (.r1 (.bi .len (.cons (.nm 3) .nil)))
 AB)
 (.cons (.ret (.nm 2))
 .nil))))
noncomputable def Ak:Fn:=AC "_law_tree" 2 2 2 9 Ba
theorem CM (ds:List D) (h:ds.length=2):Ak.den ds=run 9 Ba ds:=Ao h
theorem Gy:Ak.dep=2:=rfl
noncomputable def Dd:Ss :=
 (.cons (.ret (.bo true (.cons (.isi (.nm 0) .int) (.cons (.not (.isi (.nm 0) .bool)) .nil))))
 .nil)
noncomputable def By:Fn:=AC "_law_whole" 1 1 9 1 Dd
theorem Iq (ds:List D) (h:ds.length=1):By.den ds=run 1 Dd ds:=Ao h
noncomputable def Av:Ss :=
 (.cons (.iff (.bo false (.cons (.not (.call By (.cons (.nm 2) .nil))) (.cons (.cmp .lt (.nm 2) (.cI 0)) (.cons (.cmp .gt (.nm 2) (.bin .pow (.cI 10) (.cI 18))) .nil))))
 (.cons (.ret (.cB false))
 .nil)
 .nil)
 .nil)
noncomputable def AS:Ss :=
 (.cons (.iff (.bo false (.cons (.not (.isi (.nm 0) .list)) (.cons (.cmp .ne (.bi .len (.cons (.nm 0) .nil)) (.nm 1)) .nil)))
 (.cons (.ret (.cB false))
 .nil)
 .nil)
 (.cons (.for_ (.nm 2) (.seq (.nm 0))
 Av)
 (.cons (.ret (.cB true))
 .nil)))
noncomputable def AZ:Fn:=AC "_law_is_level" 2 2 9 3 AS
theorem Ea (ds:List D) (h:ds.length=2):AZ.den ds=run 3 AS ds:=Ao h
noncomputable def Aw:Ss :=
 (.cons (.iff (.not (.isi (.nm 0) .list))
 (.cons (.ret (.cB false))
 .nil)
 .nil)
 (.cons (.iff (.cmp .ml (.nm 0) (.lst .nil))
 (.cons (.ret (.cB true))
 .nil)
 .nil)
 (.cons (.iff (.bo false (.cons (.not (.isi (.ix (.nm 0) (.cI 0)) .list)) (.cons (.cmp .eq (.bi .len (.cons (.ix (.nm 0) (.cI 0)) .nil)) (.cI 0)) (.cons (.cmp .gt (.bi .len (.cons (.ix (.nm 0) (.cI 0)) .nil)) (.cI 200)) .nil))))
 (.cons (.ret (.cB false))
 .nil)
 .nil)
 (.cons (.asg 2 1 (.call A4 (.cons (.bi .len (.cons (.ix (.nm 0) (.cI 0)) .nil)) (.cons (.nm 1) .nil))))
 (.cons (.iff (.cmp .ne (.bi .len (.cons (.nm 0) .nil)) (.bi .len (.cons (.nm 2) .nil)))
 (.cons (.ret (.cB false))
 .nil)
 .nil)
 (.cons (.ret (.cmp .nin (.cB false) (.comp0 1 [0,2] (.nm 0) (.r1 (.bi .len (.cons (.nm 2) .nil))) (.call AZ (.cons (.ix (.nm 1) (.nm 0)) (.cons (.ixL (.nm 2) (.nm 0)) .nil))))))
 .nil))))))
noncomputable def Aj:Fn:=AC "_law_is_tree" 2 3 9 3 Aw
theorem Bm (ds:List D) (h:ds.length=2):Aj.den ds=run 3 Aw ds:=Ao h
noncomputable def Cp:Ss :=
 (.cons (.asg 1 2 (.lst (.cons .cN (.cons (.cB true) (.cons (.neg (.cI 1)) (.cons (.bin .add (.bin .pow (.cI 10) (.cI 18)) (.cI 1)) (.cons (.cS "7") (.cons (.tup (.cons (.cI 7) .nil)) (.cons (.lst (.cons (.cI 7) .nil)) (.cons (.bin .pow (.cI 10) (.cI 59)) (.cons (.cB false) (.cons (.lst .nil) (.cons .dNew (.cons (.cS "") .nil))))))))))))))
 (.cons (.dem 1 1)
 (.cons (.ret (.ixL (.nm 1) (.nm 0)))
 .nil)))
noncomputable def Bz:Fn:=AC "_law_odd" 1 1 0 2 Cp
theorem GX (ds:List D) (h:ds.length=1):Bz.den ds=run 2 Cp ds:=Ao h
noncomputable def Ai:Ss :=
 (.cons (.iff (.bo false (.cons (.cmp .eq (.ix (.nm 2) (.cI 0)) (.cI 0)) (.cons (.cmp .eq (.nm 0) (.lst .nil)) .nil)))
 (.cons (.ret (.ix (.lst (.cons (.nm 0) (.cons (.lst (.cons (.lst .nil) .nil)) (.cons (.lst (.cons (.lst (.cons (.cI 3) .nil)) .nil)) (.cons (.lst (.cons (.lst (.cons (.cI 3) .nil)) (.cons (.lst (.cons (.cI 3) .nil)) .nil))) (.cons .cN (.cons (.tup .nil) (.cons (.cS "") (.cons (.lst (.cons .cN .nil)) (.cons (.cI 7) (.cons (.bin .add (.nm 0) (.lst (.cons (.lst (.cons (.cI 5) .nil)) .nil))) (.cons (.lst (.cons (.lst (.cons (.cB true) .nil)) .nil)) (.cons .dNew .nil))))))))))))) (.ix (.nm 2) (.cI 1))))
 .nil)
 .nil)
 (.cons (.asg 3 0 (.bin .mod (.ix (.nm 2) (.cI 2)) (.bi .len (.cons (.nm 0) .nil))))
 (.cons (.asg 4 0 (.ix (.nm 0) (.nm 3)))
 (.cons (.asg 5 0 (.bin .mod (.ix (.nm 2) (.cI 3)) (.bi .len (.cons (.nm 4) .nil))))
 (.cons (.asg 6 1 (.bi .list (.cons (.nm 4) .nil)))
 (.cons (.iff (.cmp .eq (.ix (.nm 2) (.cI 0)) (.cI 1))
 (.cons (.ret (.bin .add (.slc (.nm 0) .cN (.nm 3)) (.slc (.nm 0) (.bin .add (.nm 3) (.cI 1)) .cN)))
 .nil)
 .nil)
 (.cons (.iff (.cmp .eq (.ix (.nm 2) (.cI 0)) (.cI 2))
 (.cons (.ret (.bin .add (.bin .add (.slc (.nm 0) .cN (.nm 3)) (.lst (.cons (.bi .list (.cons (.nm 4) .nil)) .nil))) (.slc (.nm 0) (.nm 3) .cN)))
 .nil)
 .nil)
 (.cons (.iff (.cmp .eq (.ix (.nm 2) (.cI 0)) (.cI 3))
 (.cons (.mut 6 [] .popAt (.cons (.nm 5) .nil))
 .nil)
 .nil)
 (.cons (.iff (.cmp .eq (.ix (.nm 2) (.cI 0)) (.cI 4))
 (.cons (.mut 6 [] .insert (.cons (.nm 5) (.cons (.cI 3) .nil)))
 .nil)
 .nil)
 (.cons (.iff (.cmp .eq (.ix (.nm 2) (.cI 0)) (.cI 5))
 (.cons (.set 6 [] (.nm 5) (.call Bz (.cons (.ix (.nm 2) (.cI 1)) .nil)))
 .nil)
 .nil)
 (.cons (.iff (.bo true (.cons (.cmp .eq (.ix (.nm 2) (.cI 0)) (.cI 6)) (.cons (.cmp .eq (.bin .mod (.ix (.nm 2) (.cI 1)) (.cI 2)) (.cI 0)) .nil)))
 (.cons (.ret (.bi .tuple (.cons (.nm 0) .nil)))
 .nil)
 .nil)
 (.cons (.iff (.cmp .eq (.ix (.nm 2) (.cI 0)) (.cI 6))
 (.cons (.asg 6 0 (.bi .tupleL (.cons (.nm 6) .nil)))
 .nil)
 .nil)
 (.cons (.iff (.cmp .eq (.ix (.nm 2) (.cI 0)) (.cI 7))
 (.cons (.ret (.call Ak (.cons (.ix (.nm 0) (.cI 0)) (.cons (.bin .add (.cI 2) (.bin .mod (.bin .add (.nm 1) (.ix (.nm 2) (.cI 1))) (.cI 7))) .nil))))
 .nil)
 .nil)
 (.cons (.asg 7 1 (.bi .list (.cons (.nm 0) .nil)))
 (.cons (.set 7 [] (.nm 3) (.nm 6))
 (.cons (.ret (.nm 7))
 .nil))))))))))))))))
noncomputable def Bo:Fn:=AC "_law_changed" 3 3 0 8 Ai
theorem BV (ds:List D) (h:ds.length=3):Bo.den ds=run 8 Ai ds:=Ao h
noncomputable def Dj:Fn:=⟨"_law_deep",1,1,0,fun _=>.bad⟩
noncomputable def Cc:Ss :=
 (.cons (.iff (.isi (.nm 0) .list)
 (.cons (.ret (.comp0 1 [] (.nm 0) (.seq (.nm 0)) (.call Dj (.cons (.nm 0) .nil))))
 .nil)
 .nil)
 (.cons (.ret (.nm 0))
 .nil))
noncomputable def BW:Fn:=AC "_law_deep" 1 2 0 1 Cc
theorem Fk (ds:List D) (h:ds.length=1):BW.den ds=run 1 Cc ds:=Ao h
noncomputable def Cd:Ss :=
 (.cons (.iff (.isi (.nm 0) .list)
 (.cons (.ret (.comp0 1 [] (.nm 0) (.seq (.nm 0)) (.call BW (.cons (.nm 0) .nil))))
 .nil)
 .nil)
 (.cons (.ret (.nm 0))
 .nil))
noncomputable def BX:Fn:=AC "_law_deep" 1 3 0 1 Cd
theorem Fl (ds:List D) (h:ds.length=1):BX.den ds=run 1 Cd ds:=Ao h
noncomputable def Ce:Ss :=
 (.cons (.iff (.isi (.nm 0) .list)
 (.cons (.ret (.comp0 1 [] (.nm 0) (.seq (.nm 0)) (.call BX (.cons (.nm 0) .nil))))
 .nil)
 .nil)
 (.cons (.ret (.nm 0))
 .nil))
noncomputable def BY:Fn:=AC "_law_deep" 1 4 0 1 Ce
theorem Fm (ds:List D) (h:ds.length=1):BY.den ds=run 1 Ce ds:=Ao h
noncomputable def C6:Ss :=
 (.cons (.iff (.isi (.nm 0) .list)
 (.cons (.ret (.comp0 1 [] (.nm 0) (.seq (.nm 0)) (.call BY (.cons (.nm 0) .nil))))
 .nil)
 .nil)
 (.cons (.ret (.nm 0))
 .nil))
noncomputable def AN:Fn:=AC "_law_deep" 1 5 0 1 C6
theorem Gz (ds:List D) (h:ds.length=1):AN.den ds=run 1 C6 ds:=Ao h
theorem GA:AN.dep=0:=rfl
noncomputable def Bs:Ss :=
 (.cons (.try_ (.cons (.expr (.call AF (.cons (.nm 0) (.cons (.nm 1) .nil))))
 .nil)
 0 2
 (.cons (.ret (.bo true (.cons (.isi (.nm 2) (.cls 5)) (.cons (.isi (.nm 2) .verr) (.cons (.not (.isiM (.nm 2) [2,4])) .nil)))))
 .nil)
 .nil)
 (.cons (.ret (.cB false))
 .nil))
noncomputable def Bp:Fn:=AC "_law_refused" 2 7 9 3 Bs
theorem Fo (ds:List D) (h:ds.length=2):Bp.den ds=run 3 Bs ds:=Ao h
noncomputable def CN:Ss :=
 (.cons (.asg 2 0 (.call AN (.cons (.nm 0) .nil)))
 (.cons (.asg 3 2 (.call AF (.cons (.nm 2) (.cons (.nm 1) .nil))))
 (.cons (.iff (.bo false (.cons (.not (.isi (.nm 3) .list)) (.cons (.cmp .ne (.nm 3) (.nm 0)) (.cons (.cmp .ne (.nm 2) (.nm 0)) .nil))))
 (.cons (.ret (.cB false))
 .nil)
 .nil)
 (.cons (.iff (.cmp .ne (.nm 3) (.lst .nil))
 (.cons (.set 3 [(false,(.neg (.cI 1)))] (.cI 0) (.bin .add (.ixL (.ixL (.nm 3) (.neg (.cI 1))) (.cI 0)) (.cI 1)))
 (.cons (.mut 3 [(false,(.cI 0))] .append (.cons (.cI 4) .nil))
 .nil))
 .nil)
 (.cons (.mut 3 [] .append (.cons (.lst .nil) .nil))
 (.cons (.ret (.bo true (.cons (.cmp .eq (.nm 2) (.nm 0)) (.cons (.cmp .eq (.call AF (.cons (.nm 2) (.cons (.nm 1) .nil))) (.nm 0)) .nil))))
 .nil))))))
noncomputable def BN:Fn:=AC "_law_good" 2 7 9 4 CN
theorem IQ (ds:List D) (h:ds.length=2):BN.den ds=run 4 CN ds:=Ao h
noncomputable def BA:Ss :=
 (.cons (.mut 1 [] .append (.cons (.bin .mod (.bi .len (.cons (.nm 1) .nil)) (.cI 9)) .nil))
 .nil)
noncomputable def BC:Ss :=
 (.cons (.iff (.bo true (.cons (.cmp .eq (.ixL (.nm 3) (.cI 2)) (.cI 1)) (.cons (.cmp .ne (.nm 4) (.lst .nil)) .nil)))
 (.lend 6 4 (.bin .mod (.ixL (.nm 3) (.bin .add (.cI 3) (.bin .mul (.cI 3) (.nm 5)))) (.bi .len (.cons (.nm 4) .nil)))
 .nil
 (.bin .mod (.ixL (.nm 3) (.bin .add (.cI 4) (.bin .mul (.cI 3) (.nm 5)))) (.bi .len (.cons (.nm 6) .nil))) (.ix (.lst (.cons (.cI 0) (.cons (.cI 1) (.cons (.cI 7) (.cons (.bin .pow (.cI 10) (.cI 18)) (.cons (.bin .pow (.cI 10) (.cI 17)) (.cons (.cI 2) (.cons (.cI 3) (.cons (.cI 4) (.cons (.cI 5) .nil)))))))))) (.ixL (.nm 3) (.bin .add (.cI 5) (.bin .mul (.cI 3) (.nm 5))))))
 .nil)
 .nil)
noncomputable def BZ:Ss :=
 (.cons (.asg 8 2 (.call A9 (.cons (.nm 0) (.cons (.bin .add (.cI 3) (.nm 5)) (.cons (.lst (.cons (.cI 9) (.cons (.cI 12) (.cons (.cI 9) (.cons (.cI 200) .nil))))) .nil)))))
 (.cons (.iff (.call Aj (.cons (.nm 7) (.cons (.nm 2) .nil)))
 (.cons (.dem 8 0)
 (.cons (.asg 7 0 (.call Bo (.cons (.nm 7) (.cons (.nm 2) (.cons (.nm 8) .nil)))))
 .nil))
 .nil)
 .nil))
noncomputable def Dk:Ss :=
 (.cons (.asg 1 2 (.call BH (.cons (.nm 0) (.cons (.cI 0) (.cons (.cI 40) .nil)))))
 (.cons (.asg 2 1 (.call C3 (.cons (.nm 0) (.cons (.cI 1) .nil))))
 (.cons (.asg 3 2 (.call A9 (.cons (.nm 0) (.cons (.cI 2) (.cons (.bin .add (.lst (.cons (.cI 8) (.cons (.cI 6) (.cons (.cI 2) .nil)))) (.bin .mul (.lst (.cons (.cI 5) (.cons (.cI 40) (.cons (.cI 9) .nil)))) (.cI 4))) .nil)))))
 (.cons (.iff (.cmp .eq (.ixL (.nm 3) (.cI 0)) (.cI 0))
 (.cons (.wh (.cmp .lt (.bi .len (.cons (.nm 1) .nil)) (.bin .add (.cI 196) (.ixL (.nm 3) (.cI 1))))
 BA)
 .nil)
 .nil)
 (.cons (.asg 4 2 (.callB Ak (.cons (.nm 1) (.cons (.nm 2) .nil))))
 (.cons (.for_ (.nm 5) (.r1 (.cI 4))
 BC)
 (.cons (.dem 4 0)
 (.cons (.asg 7 0 (.nm 4))
 (.cons (.dem 2 0)
 (.cons (.for_ (.nm 5) (.r1 (.bin .add (.cI 1) (.bin .mod (.ixL (.nm 3) (.cI 1)) (.cI 2))))
 BZ)
 (.cons (.iff (.call Aj (.cons (.nm 7) (.cons (.nm 2) .nil)))
 (.cons (.ret (.call BN (.cons (.nm 7) (.cons (.nm 2) .nil))))
 .nil)
 .nil)
 (.cons (.asg 9 0 (.call AN (.cons (.nm 7) .nil)))
 (.cons (.ret (.bo true (.cons (.call Bp (.cons (.nm 9) (.cons (.nm 2) .nil))) (.cons (.cmp .sm (.nm 9) (.nm 7)) (.cons (.bo false (.cons (.not (.call Aj (.cons (.nm 4) (.cons (.nm 2) .nil)))) (.cons (.call BN (.cons (.nm 4) (.cons (.nm 2) .nil))) .nil))) .nil)))))
 .nil)))))))))))))
noncomputable def EM:Fn:=AC "law" 1 8 9 10 Dk
theorem Ks (ds:List D) (h:ds.length=1):EM.den ds=run 10 Dk ds:=Ao h
end Pu
section
namespace Pu
open PySem
theorem q9A {f n:Nat} {k:Int} (h:f<=n) (e:(n:Int) < k):(f:Int) < k:=ab3 (aaZ.mpr h) e
theorem q9B {f n:Nat} {k:Int} (h:f<=n) (e:(n:Int)<=k):(f:Int)<=k:=acu (aaZ.mpr h) e
theorem q9F {a:Nat}:¬ (a:Int) < 0:=Int.not_lt.mpr (aaI a)
theorem q9K {a b c d:Nat} (h:a<=b) (k:b<=c) (e:c < d):a < d:=aaL h (aaL k e)
theorem q9L {a b c:Nat} {d:Int} (h:a<=b) (k:b<=c) (e:(c:Int)<=d):(a:Int)<=d:=q9B (aay h k) e
theorem q9N {a b:Nat} (h:(a:Int) < ((b:Nat):Int) - 0):a < b:=Int.ofNat_lt.mp (by rwa [abV] at h)
theorem q9O {a b:Nat} (h:(a:Int) < ((b + 1:Nat):Int) - 0):a<=b:=abL (q9N h)
theorem AY {tg:Tg} {b:Fr->Out} (P:Nat->Fr->Prop):∀ {ds:List D} {δ:Fr} (n:Nat),P n δ->(∀ i d δ,ds[i]?=some d->P (n + i) δ->∃ δ' δ'',Da tg d δ=some δ'/\b δ'=.nxt δ''/\P (n + i + 1) δ'')->∃ δ',BS tg b ds δ=.nxt δ'/\P (n + ds.length) δ'
 | [],δ,n,h0,_=>⟨δ,rfl,h0⟩
 | d :: ds,δ,n,h0,hs=>by
  obtain ⟨δ',δ'',e1,e2,h1⟩:=hs 0 d δ rfl h0
  obtain ⟨δ3,e3,h3⟩:=AY P (ds:=ds) (δ:=δ'') (n + 1) h1 fun i d δ hd hP=>by
   have:=hs (i + 1) d δ (by simpa using hd) (by rw [show n + (i + 1)=n + 1 + i by omega]; exact hP)
   rw [show n + (i + 1) + 1=n + 1 + i + 1 by exact Nat.add_right_comm ..] at this
   exact this
  refine ⟨δ3,?_,by rw [abj,show n + (ds.length + 1)=n + 1 + ds.length by omega]; exact h3⟩
  unfold BS
  rw [e1]
  show (b δ').then _=_
  rw [e2]
  exact e3
theorem CO (i j:Int):b2 .add (.int i) (.int j)=.ok (.int (i + j)):=rfl
theorem Dl (i j:Int):b2 .sub (.int i) (.int j)=.ok (.int (i - j)):=rfl
theorem B9 (i j:Int) (h1:-(18446744073709551616) < i) (h2:i < 18446744073709551616):b2 .mul (.int i) (.int j)=.ok (.int (i * j)):=by
 show (if _ then _ else _)=_; rw [if_pos (.inl ⟨h1,h2⟩)]
theorem Ca (i j:Int) (h1:-(18446744073709551616) < j) (h2:j < 18446744073709551616):b2 .mul (.int i) (.int j)=.ok (.int (i * j)):=by
 show (if _ then _ else _)=_; rw [if_pos (.inr ⟨h1,h2⟩)]
theorem CP (i j:Int) (h1:0 < j):b2 .mod (.int i) (.int j)=.ok (.int (i % j)):=by
 show (if _ then _ else _)=_; rw [if_pos h1]
theorem Cb (i j:Int) (h1:0 < j) (h2:j < 1606938044258990275541962092341162602522202993782792835301376):b2 .fdiv (.int i) (.int j)=.ok (.int (i / j)):=by
 show (if _ then _ else _)=_; rw [if_pos ⟨h1,h2⟩]
theorem Dm (i j:Int) (h1:0<=j) (h2:j<=1000000) (h3:i.natAbs < 18446744073709551616):b2 .pow (.int i) (.int j)=.ok (.int (i ^ j.toNat)):=by
 show (if _ then _ else _)=_; rw [if_pos ⟨h1,h2,h3⟩]
theorem Eb (i j:Int):c2 .lt (.int i) (.int j)=.ok (.bl (decide (i < j))):=rfl
theorem Ec (i j:Int):c2 .le (.int i) (.int j)=.ok (.bl (decide (i<=j))):=rfl
theorem Ed (i j:Int):c2 .gt (.int i) (.int j)=.ok (.bl (decide (j < i))):=rfl
theorem Ee (i j:Int):c2 .ge (.int i) (.int j)=.ok (.bl (decide (j<=i))):=rfl
theorem Dn (i j:Int):c2 .eq (.int i) (.int j)=.ok (.bl (i==j)):=rfl
theorem Do (i j:Int):c2 .ne (.int i) (.int j)=.ok (.bl (!(i==j))):=rfl
theorem DZ (d:D) (r:Fr):get (some d :: r) 0=.ok d:=rfl
theorem D0 (o:Option D) (r:Fr) (i:Nat):get (o :: r) (i + 1)=get r i:=by
 unfold get; rw [aa5]
theorem Af {n:Nat} {b:Ss} {ds:List D} {d:D} (h:exs b (Pu.AI n ds)=.ret d):run n b ds=.ok d:=by
 unfold run; rw [h]
theorem OX {n:Nat} {b:Ss} {ds:List D} {c:Nat} {δ:Fr} (h:exs b (Pu.AI n ds)=.exc c δ):run n b ds=.exc c:=by
 unfold run; rw [h]
noncomputable def Fp (c k:Int):Int:=((((c % 2147483629 + 1013 * k + 7919) ^ 3 % 2147483647) * 40699 + 3793 * k * k + 11) % 2147483399) / 101
theorem Jx (c k:Int) (hk0:0<=k) (hk:k<=100000):B8.den [.int c,.int k]=.ok (.int (Fp c k)):=by
 have h1:0<=c % 2147483629:=abm _ (by decide)
 have h2:c % 2147483629 < 2147483629:=abG _ (by decide)
 have h3:(c % 2147483629 + 1013 * k + 7919).natAbs < 18446744073709551616:=by omega
 have h4:-(18446744073709551616) < k:=by omega
 have h5:k < 18446744073709551616:=by omega
 rw [GU _ rfl]
 simp [run,Cm,exs,ex,ev,evs,get,CO,B9,Ca,CP,Cb,Dm,Pu.AI,h3,h4,h5,Fp]
theorem EN {ns:List Int} {d:D} (h:d ∈ ns.map D.int):∃ x,d=.int x:=by
 obtain ⟨x,_,e⟩:=aaS.mp h
 exact ⟨x,e.symm⟩
theorem Kt {ns:List Int} {d:D} {lo hi:Option Int} {i:Nat} (h:(cut (ns.map D.int) lo hi)[i]?=some d):∃ x,d=.int x:=by
 have:=aaf h
 unfold cut at this
 exact EN (aa7 (aa8 this))
theorem Ir {ns:List Int} {i:Int} (h0:0<=i) (h1:i < ns.length):∃ x,ns[i.toNat]?=some x/\atD (ns.map D.int) i=.ok (.int x):=by
 have hl:i.toNat < ns.length:=by omega
 refine ⟨ns[i.toNat],aah hl,?_⟩
 unfold atD ixN
 rw [aab,if_pos h0,if_pos h1]
 simp [hl]
theorem Iu (ns:List Int) (p:Int) (hp:0<=p):∃ i,Cj.den [.lst (ns.map .int),.int p]=.ok (.int i):=by
 rw [IP _ rfl]
 by_cases h:p < ns.length
 ·obtain ⟨x,_,e⟩:=Ir hp h
  refine ⟨x,?_⟩
  simp -implicitDefEqProofs [run,exs,ex,ev,evs,evI,evBo,tv,get,CC,CO,Dl,B9,Ca,CP,Cb,Dm,Eb,Ec,Ed,Ee,Dn,Do,Pu.AI,biD,ixD,CB,E0,evP,upd,Bd,umD,Dv,CH,CD,Ck,C9,E.isCN,DO,on1,on2,on3,DN,BO,Du,CG,ED,CT,EE,dI,dB,dS,dL,dT',un1,un0,CL,h,e]
 ·obtain ⟨δ',e,s,o,rfl⟩:=AY (tg:=.nm 3) (b:=exs Dr) (fun _ δ=>∃ (s:Int) (o:Option D),δ=[some (.lst (ns.map .int)),some (.int p),some (.int s),o]) (ds:=cut (ns.map D.int) none (some 63)) (δ:=[some (.lst (ns.map .int)),some (.int p),some (.int 5),none]) 0 ⟨5,none,rfl⟩ (by
   rintro i d δ hd ⟨s,o,rfl⟩
   obtain ⟨x,rfl⟩:=Kt hd
   refine ⟨_,_,rfl,?_,(s * 48271 + x % 1000003 + 1) % 2147483647,some (.int x),rfl⟩
   simp -implicitDefEqProofs [run,exs,ex,ev,evs,evI,evBo,tv,get,CC,CO,Dl,B9,Ca,CP,Cb,Dm,Eb,Ec,Ed,Ee,Dn,Do,Pu.AI,biD,ixD,CB,E0,evP,upd,Bd,umD,Dv,CH,CD,Ck,C9,E.isCN,DO,on1,on2,on3,DN,BO,Du,CG,ED,CT,EE,dI,dB,dS,dL,dT',un1,un0,Dr])
  refine ⟨(s + 7919 * p) % 1000003,?_⟩
  simp -implicitDefEqProofs [run,exs,ex,ev,evs,evI,evBo,tv,get,CC,CO,Dl,B9,Ca,CP,Cb,Dm,Eb,Ec,Ed,Ee,Dn,Do,Pu.AI,biD,ixD,CB,E0,evP,upd,Bd,umD,Dv,CH,CD,Ck,C9,E.isCN,DO,on1,on2,on3,DN,BO,Du,CG,ED,CT,EE,dI,dB,dS,dL,dT',un1,un0,CL,h,e]
theorem A7 {a b:Int} {i:Nat} {d:D} (h:(Ar a b)[i]?=some d):d=.int (a + i)/\(i:Int) < b - a:=by
 unfold Ar at h
 rw [aal] at h
 obtain ⟨j,hj,e⟩:=aar.mp h
 obtain ⟨h1,h2⟩:=aaz.mp hj
 rw [List.getElem_range] at h2
 subst h2
 rw [abM] at h1
 exact ⟨e.symm,by omega⟩
theorem BI (a b:Int):(Ar a b).length=(b - a).toNat:=by unfold Ar; simp
theorem BD {a b:Int} (h1:-1000000<=a) (h2:a<=1000000) (h3:-1000000<=b) (h4:b<=1000000):Qe (.int a) (.int b)=.ok (Ar a b):=by
 show (if _ then _ else _)=_
 rw [if_pos]
 unfold E3 LIM
 simp -implicitDefEqProofs only [aaj,decide_eq_true_eq]
 omega
theorem C7 {ns:List Int} {i:Nat} {x:Int} (h:ns[i]?=some x):atD (ns.map D.int) (i:Int)=.ok (.int x):=by
 have hl:=(aaz.mp h).1
 obtain ⟨y,e1,e2⟩:=Ir (ns:=ns) (i:=(i:Int)) (by exact aaI _) (by exact aaZ.mpr hl)
 rw [aaV,h] at e1
 cases e1
 exact e2
theorem Iv:b2 .pow (.int 10) (.int 18)=.ok (.int 1000000000000000000):=by
 rw [Dm _ _ (by decide) (by decide) (by decide)]; rfl
theorem Iw:b2 .pow (.int 10) (.int 59)=.ok (.int 100000000000000000000000000000000000000000000000000000000000):=by
 rw [Dm _ _ (by decide) (by decide) (by decide)]; rfl
theorem Bq (ds:List D) (d:D) (h:ds.length < 16777216):umD .append [d] ds=some (ds ++ [d]):=by
 show (if _ then _ else _)=_
 exact if_pos h
section
variable {ns S xs:List Int} {p c left:Int} {i:Nat} {s:Int} {o2:Option D} (hs:0 < s) (hat:atD (S.map D.int) (i:Int)=.ok (.int s)) (hi:i<=1000) (hx:xs.length<=1000)
include hs hat hi hx
theorem RK (h1:c < 1000000000000000000) :
  exs AE [some (.lst (ns.map .int)),some (.int p),some (.lst (S.map .int)),some (.int c),some (.int left),some (.lst (xs.map .int)),some (.int i),o2]=.nxt [some (.lst (ns.map .int)),some (.int p),some (.lst (S.map .int)),some (.int c),some (.int left),some (.lst ((xs ++ [Fp c i % s]).map .int)),some (.int i),o2]:=by
 have hmx:=Jx c i (by exact aaI _) (by exact q9B hi (by decide))
 have hap:=Bq (xs.map D.int) (.int (Fp c i % s)) (by rw [aab]; exact aaL hx (by decide))
 simp -implicitDefEqProofs only [AE,exs,ex,tv,ev,evs,evI,evBo,DZ,D0,Res.bind_ok,Res.out_ok,Out.then_nxt,Out.then_ret,abb,aa5,Iv,Iw,CO,Dl,B9,Ca,CP,Cb,Eb,Ec,Ed,Ee,Dn,Do,CC,decide_true,decide_false,if_true,if_false,aa3,abu,abC,abJ,evP,ixD,CB,E0,upd,Bd,aa0,acm,aaq,abH,biD,Dv,CH,CD,on1,on2,on3,DN,BO,Du,CG,ED,CT,EE,dI,dB,dS,dL,dT',un1,un0,Ck,C9,E.isCN,DO,reduceCtorEq,Int.reduceLT,Int.reduceLE,Int.reduceNeg,Int.reduceBEq,h1,hmx,hat,hs,hap]
theorem RL (h1:¬ c < 1000000000000000000) (h2:0 < left) (h3:s < 1606938044258990275541962092341162602522202993782792835301376) :
  exs AE [some (.lst (ns.map .int)),some (.int p),some (.lst (S.map .int)),some (.int c),some (.int left),some (.lst (xs.map .int)),some (.int i),o2]=.nxt [some (.lst (ns.map .int)),some (.int p),some (.lst (S.map .int)),some (.int c),some (.int (left / s)),some (.lst ((xs ++ [left % s]).map .int)),some (.int i),o2]:=by
 have hap:=Bq (xs.map D.int) (.int (left % s)) (by rw [aab]; exact aaL hx (by decide))
 simp -implicitDefEqProofs only [AE,exs,ex,tv,ev,evs,evI,evBo,DZ,D0,Res.bind_ok,Res.out_ok,Out.then_nxt,Out.then_ret,abb,aa5,Iv,Iw,CO,Dl,B9,Ca,CP,Cb,Eb,Ec,Ed,Ee,Dn,Do,CC,decide_true,decide_false,if_true,if_false,aa3,abu,abC,abJ,evP,ixD,CB,E0,upd,Bd,aa0,acm,aaq,abH,biD,Dv,CH,CD,on1,on2,on3,DN,BO,Du,CG,ED,CT,EE,dI,dB,dS,dL,dT',un1,un0,Ck,C9,E.isCN,DO,reduceCtorEq,Int.reduceLT,Int.reduceLE,Int.reduceNeg,Int.reduceBEq,h1,h2,h3,hat,hs,hap]
theorem RM (h1:¬ c < 1000000000000000000) (h2:¬ 0 < left) {q:Int} (hq:Cj.den [.lst (ns.map .int),.int ((p + 1 + i) % 63)]=.ok (.int q)) :
  exs AE [some (.lst (ns.map .int)),some (.int p),some (.lst (S.map .int)),some (.int c),some (.int left),some (.lst (xs.map .int)),some (.int i),o2]=.nxt [some (.lst (ns.map .int)),some (.int p),some (.lst (S.map .int)),some (.int c),some (.int left),some (.lst ((xs ++ [Fp q i % s]).map .int)),some (.int i),some (.int q)]:=by
 have hmx:=Jx q i (by exact aaI _) (by exact q9B hi (by decide))
 have hap:=Bq (xs.map D.int) (.int (Fp q i % s)) (by rw [aab]; exact aaL hx (by decide))
 simp -implicitDefEqProofs only [AE,exs,ex,tv,ev,evs,evI,evBo,DZ,D0,Res.bind_ok,Res.out_ok,Out.then_nxt,Out.then_ret,abb,aa5,Iv,Iw,CO,Dl,B9,Ca,CP,Cb,Eb,Ec,Ed,Ee,Dn,Do,CC,decide_true,decide_false,if_true,if_false,aa3,abu,abC,abJ,evP,ixD,CB,E0,upd,Bd,aa0,acm,aaq,abH,biD,Dv,CH,CD,on1,on2,on3,DN,BO,Du,CG,ED,CT,EE,dI,dB,dS,dL,dT',un1,un0,Ck,C9,E.isCN,DO,reduceCtorEq,Int.reduceLT,Int.reduceLE,Int.reduceNeg,Int.reduceBEq,h1,h2,hq,hmx,hat,hs,hap,Int.reduceLT]
end
theorem FG (ns:List Int) (p:Int) (hp:0<=p) (S:List Int) (hl:S.length<=1000) (hS:∀ s ∈ S,0 < s/\s < 1606938044258990275541962092341162602522202993782792835301376) :
  ∃ xs:List Int,A9.den [.lst (ns.map .int),.int p,.lst (S.map .int)]=.ok (.lst (xs.map .int))/\xs.length=S.length/\∀ (j:Nat) (x s:Int),xs[j]?=some x->S[j]?=some s->0<=x/\x < s:=by
 obtain ⟨c,hc⟩:=Iu ns p hp
 obtain ⟨δ',e,left,xs,o1,o2,rfl,hx,hb⟩:=AY (tg:=.nm 6) (b:=exs AE) (fun i δ=>∃ (left:Int) (xs:List Int) (o1 o2:Option D),δ=[some (.lst (ns.map .int)),some (.int p),some (.lst (S.map .int)),some (.int c),some (.int left),some (.lst (xs.map .int)),o1,o2]/\xs.length=i/\∀ (j:Nat) (x s:Int),xs[j]?=some x->S[j]?=some s->0<=x/\x < s)
  (ds:=Ar 0 (S.length:Int)) (δ:=[some (.lst (ns.map .int)),some (.int p),some (.lst (S.map .int)),some (.int c),some (.int c),some (.lst []),none,none]) 0 ⟨c,[],none,none,rfl,rfl,by simp⟩ (by
   rintro i d δ hd ⟨left,xs,o1,o2,rfl,hx,hb⟩
   obtain ⟨rfl,hi⟩:=A7 hd
   have hx:xs.length=i:=by omega
   have hi':i < S.length:=by exact aaZ.mp hi
   have hs:S[i]?=some S[i]:=aah hi'
   have hsp:=hS S[i] (abB hi')
   have hat:=C7 hs
   generalize S[i]=s at hs hsp hat
   have fin:∀ z:Int,0<=z->z < s->∀ (j:Nat) (x s:Int),(xs ++ [z])[j]?=some x->S[j]?=some s->0<=x/\x < s:=by
    intro z h0 h1 j x s e1 e2
    by_cases hj:j < xs.length
    ·rw [aaP hj] at e1
     exact hb j x s e1 e2
    ·rw [aaH (by exact Nat.not_lt.mp hj)] at e1
     have:j=i:=by
      have:=(aaz.mp e1).1
      simp at this; omega
     subst this
     rw [hx,Nat.sub_self] at e1
     rw [hs] at e2
     cases e2; cases e1
     exact ⟨h0,h1⟩
   have md:∀ y:Int,0<=y % s/\y % s < s:=fun y=>⟨abm _ (by omega),abG _ hsp.1⟩
   have hz:(0:Int) + (i:Int)=(i:Int):=by omega
   rw [hz]
   have len:∀ z:Int,(xs ++ [z]).length=0 + i + 1:=fun z=>by rw [aaD,hx]; simp
   by_cases h1:c < 1000000000000000000
   ·exact ⟨_,_,rfl,RK hsp.1 hat (by omega) (by omega) h1,left,xs ++ [Fp c i % s],some (.int i),o2,rfl,len _,fin _ (md _).1 (md _).2⟩
   ·by_cases h2:0 < left
    ·exact ⟨_,_,rfl,RL hsp.1 hat (by omega) (by omega) h1 h2 hsp.2,left / s,xs ++ [left % s],some (.int i),o2,rfl,len _,fin _ (md _).1 (md _).2⟩
    ·obtain ⟨q,hq⟩:=Iu ns ((p + 1 + i) % 63) (abm _ (by decide))
     exact ⟨_,_,rfl,RM hsp.1 hat (by omega) (by omega) h1 h2 hq,left,xs ++ [Fp q i % s],some (.int i),some (.int q),rfl,len _,fin _ (md _).1 (md _).2⟩)
 refine ⟨xs,?_,by rw [hx,BI]; exact ab9 ..,hb⟩
 have hr:=BD (a:=0) (b:=(S.length:Int)) (by exact by decide) (by exact by decide) (by exact aaI _) (by exact q9B hl (by decide))
 refine (GV _ rfl).trans (Af ?_)
 simp -implicitDefEqProofs only [Pu.AI,aaQ,aam,aa4,abl,Cn,exs,ex,tv,ev,evs,evI,evBo,DZ,D0,Res.bind_ok,Res.out_ok,Out.then_nxt,Out.then_ret,abb,aa5,Iv,Iw,CO,Dl,B9,Ca,CP,Cb,Eb,Ec,Ed,Ee,Dn,Do,CC,decide_true,decide_false,if_true,if_false,aa3,abu,abC,abJ,evP,ixD,CB,E0,upd,Bd,aa0,acm,aaq,abH,biD,Dv,CH,CD,on1,on2,on3,DN,BO,Du,CG,ED,CT,EE,dI,dB,dS,dL,dT',un1,un0,Ck,C9,E.isCN,DO,reduceCtorEq,Int.reduceLT,Int.reduceLE,Int.reduceNeg,Int.reduceBEq,hc,aab,hr,e]
theorem at0 (a b:D):atD [a,b] 0=.ok a:=rfl
theorem at1 (a b:D):atD [a,b] 1=.ok b:=rfl
theorem SC {xs:List Int} (h:xs.length=4):∃ a b c d,xs=[a,b,c,d]:=by
 match xs,h with
 | [a,b,c,d],_=>exact ⟨a,b,c,d,rfl⟩
theorem SD {xs:List Int} (h:xs.length=1):∃ a,xs=[a]:=by
 match xs,h with
 | [a],_=>exact ⟨a,rfl⟩
section
variable (a b c d e f:D)
theorem SE:atD [a] 0=.ok a:=rfl
end
theorem Hg {f:D->Res (Option D)} {g:D->Option D}:∀ {ds:List D},(∀ d ∈ ds,f d=.ok (g d))->Bc f ds=.ok (ds.filterMap g)
 | [],_=>rfl
 | d :: ds,h=>by
  unfold Bc
  rw [h d aac,Hg (ds:=ds) fun x hx=>h x (aaa _ hx)]
  show Res.ok _=_
  rw [abc]
  cases g d <;> rfl
theorem C8 {nl:Nat} {fr:List Nat} {tg:Tg} {it:It} {elt:E} {δ:Fr} {ds:List D} {g:D->D} (hi:evI it δ=.ok ds) (h:∀ d ∈ ds,∃ δ',Da tg d (blk nl fr δ)=some δ'/\ev elt δ'=.ok (g d)):ev (.comp0 nl fr tg it elt) δ=.ok (.lst (ds.map g)):=by
 rw [ev,hi,Res.bind_ok,Hg (g:=fun d=>some (g d)) (fun d hd=>by
  obtain ⟨δ',e1,e2⟩:=h d hd
  rw [e1]
  show (ev elt δ').bind _=_
  rw [e2]; rfl),Res.bind_ok,List.filterMap_eq_map']
theorem Ef {c:Fr->Res Bool} {b:Fr->Out} (P:Nat->Fr->Prop):∀ (k n m:Nat) {δ:Fr},P m δ->(∀ i δ,m<=i->i < m + k->P i δ->c δ=.ok true/\∃ δ',b δ=.nxt δ'/\P (i + 1) δ')->(∀ δ,P (m + k) δ->c δ=.ok false)->k < n->∃ δ',BR c b n δ=.nxt δ'/\P (m + k) δ'
 | 0,n + 1,m,δ,h0,_,h2,_=>by
  refine ⟨δ,?_,h0⟩
  unfold BR
  rw [h2 δ h0]; rfl
 | k + 1,n + 1,m,δ,h0,h1,h2,hn=>by
  obtain ⟨e1,δ',e2,h3⟩:=h1 m δ (aao _) (by omega) h0
  obtain ⟨δ2,e4,h4⟩:=Ef P k n (m + 1) h3 (fun i δ hi hl=>h1 i δ (by exact aaO hi) (by omega)) (fun δ hd=>h2 δ (by rw [show m + (k + 1)=m + 1 + k by omega]; exact hd)) (by exact abL hn)
  refine ⟨δ2,?_,by rw [show m + (k + 1)=m + 1 + k by omega]; exact h4⟩
  unfold BR
  rw [e1,Res.out_ok,if_pos rfl,e2]
  exact e4
theorem LX (xs:List D) (h:xs.all (D.shp 7)=true):c2 .ne (.lst xs) (.lst [])=.ok (.bl (!xs.isEmpty)):=by
 show (if (D.shp 8 (.lst xs) && D.shp 8 (.lst [])) then _ else _)=_
 rw [show D.shp 8 (.lst xs)=true from h,show D.shp 8 (.lst [])=true from rfl]
 cases xs <;> rfl
theorem Ku {b:Int} {d:D} (h:d ∈ Ar 0 b):∃ i:Nat,d=.int i/\(i:Int) < b:=by
 obtain ⟨i,hi⟩:=acl h
 obtain ⟨rfl,h⟩:=A7 hi
 exact ⟨i,by rw [abk],by omega⟩
theorem DH (a b:List D) (h:a.length + b.length<=16777216):b2 .add (.lst a) (.lst b)=.ok (.lst (a ++ b)):=by
 show (if _ then _ else _)=_
 exact if_pos h
noncomputable def cnt (p f i:Nat):Nat:=(p + f ^ i - 1) / f ^ i
theorem F7 (p f:Nat):cnt p f 0=p:=by unfold cnt; simp
theorem Ix {p f:Nat} (hf:1<=f) (i:Nat):cnt p f (i + 1)=(cnt p f i + f - 1) / f:=by
 unfold cnt
 have hw:0 < f ^ i:=abw (by exact hf)
 have h1:(p + f ^ i - 1) / f ^ i + f - 1=(p + f ^ (i + 1) - 1) / f ^ i:=by
  have e:p + f ^ (i + 1) - 1=(p + f ^ i - 1) + f ^ i * (f - 1):=by
   have:f ^ (i + 1)=f ^ i * (f - 1) + f ^ i:=by
    rw [acv,<- Nat.mul_succ]; congr 1; omega
   omega
  rw [e,Nat.add_mul_div_left _ _ hw]
  generalize (p + f ^ i - 1) / f ^ i=q
  omega
 rw [h1,Nat.div_div_eq_div_mul,acv]
structure Hs (p f h:Nat):Prop where
 one:cnt p f h=1
 more:∀ i,i < h->1 < cnt p f i
theorem OY {p f:Nat} (hf:1<=f) (hp:1<=p) (i:Nat):1<=cnt p f i:=by
 unfold cnt
 have hw:0 < f ^ i:=abw (by exact hf)
 rw [abS hw]; omega
theorem Jy {p f h:Nat} (hf:1<=f) (hh:p<=f ^ h) (hp:1<=p):cnt p f h=1:=by
 unfold cnt
 have hw:0 < f ^ h:=abw (by exact hf)
 apply Nat.div_eq_of_lt_le <;> omega
theorem Kv {p f:Nat} (hf:2<=f) (hp:1<=p):∀ n:Nat,p<=f ^ n->∃ h,h<=n/\Hs p f h
 | 0,h=>⟨0,aao _,Jy (by exact aaO hf) h hp,fun i hi=>absurd hi (by exact absurd hi (abU _))⟩
 | n + 1,h=>by
  by_cases hn:p<=f ^ n
  ·obtain ⟨k,h1,h2⟩:=Kv hf hp n hn
   exact ⟨k,by exact Nat.le_succ_of_le h1,h2⟩
  ·refine ⟨n + 1,aao _,Jy (by exact aaO hf) h hp,fun i hi=>?_⟩
   unfold cnt
   have hw:0 < f ^ i:=abw (by exact aaO hf)
   have hm:f ^ i<=f ^ n:=acn (by exact aaO hf) (by exact abL hi)
   have:2<=(p + f ^ i - 1) / f ^ i:=by
    rw [abS hw]; omega
   exact this
theorem hs8 {p f:Nat} (hf:2<=f) (hp:1<=p) (hp2:p<=200):∃ h,h<=8/\Hs p f h:=by
 refine Kv hf hp 8 (aay (show p<=2 ^ 8 by exact aay hp2 (by decide)) (abY hf 8))
theorem SF {f l:Nat} (hf:f<=8) (hl:l<=9):f ^ l<=134217728 :=
 aay (abY hf l) (aay (acn (by decide) hl) (by decide))
theorem Iy {p f l j:Nat} (hf:1<=f):j < cnt p f l ↔ j * f ^ l < p:=by
 unfold cnt
 have hw:0 < f ^ l:=abw (by exact hf)
 rw [<- Nat.succ_le_iff,abS hw,Nat.succ_mul]
 omega
theorem Fq {p f l:Nat} (hf:1<=f):cnt p f l<=p:=by
 apply abi
 intro h
 have:=(Iy hf).mp h
 have hw:0 < f ^ l:=abw (by exact hf)
 have:=Nat.le_mul_of_pos_right p hw
 omega
noncomputable def mx (b:Nat->Bool):Nat->Nat
 | 0=>0
 | l + 1=>if b (l + 1) then l + 1 else mx b l
end Pu
end
section
open Pu
local macro_rules | `(tactic| simp_arith [$xs,*] $[at $h:ident]?)=>`(tactic| simp -implicitDefEqProofs only [Pu.AI,aaQ,aam,aa4,abl,↓reduceIte,aaX,Nat.reduceAdd,Nat.reduceSub,Int.cast_ofNat_Int,Int.reduceAdd,Int.reduceSub,Int.reduceMul,at0,at1,beq_self_eq_true,Bool.and_self,Bool.and_true,abp,abI,ab2,exs,ex,tv,ev,evs,evI,evBo,DZ,D0,Res.bind_ok,Res.out_ok,Out.then_nxt,Out.then_ret,abb,aa5,Iv,Iw,CO,Dl,B9,Ca,CP,Cb,Eb,Ec,Ed,Ee,Dn,Do,CC,decide_true,decide_false,if_true,if_false,aa3,abu,abC,abJ,evP,ixD,CB,E0,upd,Bd,aa0,acm,aaq,abH,biD,Dv,CH,CD,on1,on2,on3,DN,BO,Du,CG,ED,CT,EE,dI,dB,dS,dL,dT',un1,un0,Ck,C9,E.isCN,DO,reduceCtorEq,Int.reduceLT,Int.reduceLE,Int.reduceNeg,Int.reduceBEq,$xs,*] $[at $h:ident]?)
namespace Pu
open PySem
theorem Kw {c:Fr->Res Bool} {b:Fr->Out} {n:Nat} {δ:Fr} (h1:c δ=.ok false):BR c b (n + 1) δ=.nxt δ:=by
 rw [BR,h1,Res.out_ok]; rfl
noncomputable def iN (n:Nat):D:=.int n
noncomputable def Am (xs:List Nat):D:=.lst (xs.map iN)
noncomputable def lvD (p f h:Nat):List Nat:=(aaE (h + 1)).map (cnt p f)
noncomputable def shD (p f:Nat):D:=.tup [.int p,.int f]
noncomputable def Hv (l j:Nat):D:=.tup [.int l,.int j]
theorem LY {m f:Nat} (hf:1<=f):((m:Int) + (f:Int) - 1) / (f:Int)=(((m + f - 1) / f:Nat):Int):=by
 rw [Int.natCast_ediv]; congr 1; omega
theorem Iz {xs:List Nat} {i:Nat} (h:i < xs.length):atD (xs.map iN) (i:Int)=.ok (.int (xs[i]:Nat)):=by
 unfold atD ixN
 rw [aab,if_pos (by exact aaI _),if_pos (by exact aaZ.mpr h)]
 simp [h,iN]
theorem FH (p f i:Nat):((aaE (i + 1)).map (cnt p f)).map iN=((aaE i).map (cnt p f)).map iN ++ [.int (cnt p f i)]:=by
 rw [ace,aaq,aaq]; rfl
section
variable {p f h:Nat} (hf:2<=f) (hf8:f<=8) (H:Hs p f h) (hh:h<=8)
include hf hf8 H hh
theorem OZ (xs:List D) (hl:xs.length<=1000) (i:Nat):exs BM [some (shD p f),some (.int f),some (.lst xs),some (.int (cnt p f i))]=.nxt [some (shD p f),some (.int f),some (.lst (xs ++ [.int (cnt p f i)])),some (.int (cnt p f (i + 1)))]:=by
 have hap:=Bq xs (.int (cnt p f i)) (by exact aaL hl (by decide))
 have h1:0 < (f:Int):=by exact aaZ.mpr (aaO hf)
 have h2:(f:Int) < 1606938044258990275541962092341162602522202993782792835301376:=by exact q9A hf8 (by decide)
 rw [Ix (by exact aaO hf),<- LY (by exact aaO hf)]
 simp_arith [BM,hap,h1,h2]
theorem O0:BR (tv (.cmp .gt (.nm 3) (.cI 1))) (exs BM) FU [some (shD p f),some (.int f),some (.lst []),some (.int p)]=.nxt [some (shD p f),some (.int f),some (.lst (((aaE h).map (cnt p f)).map iN)),some (.int (1:Nat))]:=by
 obtain ⟨δ',e,rfl⟩:=Ef (c:=tv (.cmp .gt (.nm 3) (.cI 1))) (b:=exs BM) (fun i δ=>δ=[some (shD p f),some (.int f),some (.lst (((aaE i).map (cnt p f)).map iN)),some (.int (cnt p f i))]) h FU 0 (δ:=[some (shD p f),some (.int f),some (.lst []),some (.int p)]) (by rw [F7]; rfl) (by
   rintro i δ _ hi rfl
   have:=H.more i (by omega)
   have h1:(1:Int) < (cnt p f i:Int):=by exact aaZ.mpr this
   refine ⟨?_,_,OZ hf hf8 H hh _ (by simp; omega) i,by rw [FH]⟩
   simp_arith [h1]) (by
   rintro δ rfl
   rw [aaX,H.one]
   rfl) (by unfold FU; exact aaL hh (by decide))
 rw [e,aaX,H.one]
theorem Ky:Di.den [shD p f]=.ok (Am (lvD p f h)):=by
 have hl:=O0 hf hf8 H hh
 have hap:=Bq (((aaE h).map (cnt p f)).map iN) (.int (1:Nat)) (by simp; exact aaL hh (by decide))
 have e:=FH p f h
 rw [H.one] at e
 refine (Hf _ rfl).trans (Af ?_)
 unfold Am lvD
 rw [e]
 unfold shD at hl ⊢
 have h1:((1:Nat):Int)=1:=rfl
 rw [h1] at hap hl ⊢
 simp_arith [DX,hl,hap]
end
theorem FQ (f:Nat):Di.den [shD 0 f]=.ok (Am []):=by
 refine (Hf _ rfl).trans (Af ?_)
 unfold shD Am
 have h1:((0:Nat):Int)=0:=rfl
 have hl:BR (tv (.cmp .gt (.nm 3) (.cI 1))) (exs BM) FU [some (.tup [.int 0,.int f]),some (.int f),some (.lst []),some (.int 0)]=.nxt [some (.tup [.int 0,.int f]),some (.int f),some (.lst []),some (.int 0)]:=by
  unfold FU
  exact Kw rfl
 rw [h1]
 simp_arith [DX,hl]
theorem Bb (p f h:Nat):(lvD p f h).length=h + 1:=by unfold lvD; simp
theorem DI {p f h i:Nat} (hi:i<=h):(lvD p f h)[i]'(by rw [Bb]; exact abR hi)=cnt p f i:=by unfold lvD; simp
theorem Hh (xs:List D) (h:xs.all (D.shp 7)=true):c2 .eq (.lst xs) (.lst [])=.ok (.bl xs.isEmpty):=by
 show (if (D.shp 8 (.lst xs) && D.shp 8 (.lst [])) then _ else _)=_
 rw [show D.shp 8 (.lst xs)=true from h,show D.shp 8 (.lst [])=true from rfl]
 cases xs <;> rfl
theorem Jz (xs:List D) (d:D):atD (xs ++ [d]) (-1)=.ok d:=by
 unfold atD ixN
 rw [if_neg (by decide),if_pos (by rw [aaD,aa2]; omega),aaD,aa2]
 show (match (xs ++ [d])[((-1:Int) + ((xs.length + 1:Nat):Int)).toNat]? with | some d=>Res.ok d | none=>Res.bad)=_
 rw [show ((-1:Int) + ((xs.length + 1:Nat):Int)).toNat=xs.length by omega,aaH (aao _),Nat.sub_self]
 rfl
section
variable {p f h:Nat} (hf:2<=f) (hf8:f<=8) (H:Hs p f h) (hh:h<=8)
include hf hf8 H hh
noncomputable def cL (p f i:Nat):D:=.lst (((aaE i).map (cnt p f)).map iN ++ [.int (cnt p f i)])
theorem O1 (i:Nat) (hi:i<=8):exs AQ [some (.int p),some (.int f),some (cL p f i)]=.nxt [some (.int p),some (.int f),some (cL p f (i + 1))]:=by
 have h0:=Jz (((aaE i).map (cnt p f)).map iN) (.int (cnt p f i))
 have hap:=Bq (((aaE i).map (cnt p f)).map iN ++ [.int (cnt p f i)]) (.int (cnt p f (i + 1))) (by simp; exact aaL (Nat.add_le_add_right hi _) (by decide))
 have h1:0 < (f:Int):=by exact aaZ.mpr (aaO hf)
 have h2:(f:Int) < 1606938044258990275541962092341162602522202993782792835301376:=by exact q9A hf8 (by decide)
 have e1:cL p f (i + 1)=.lst ((((aaE i).map (cnt p f)).map iN ++ [.int (cnt p f i)]) ++ [.int (cnt p f (i + 1))]):=by
  unfold cL; rw [FH]
 rw [e1]
 rw [Ix (by omega),<- LY (by omega)] at hap ⊢
 unfold cL
 generalize ((aaE i).map (cnt p f)).map iN=xs at *
 simp_arith [AQ,h0,h1,h2,hap]
theorem O2:BR (tv (.cmp .gt (.ixL (.nm 2) (.neg (.cI 1))) (.cI 1))) (exs AQ) FU [some (.int p),some (.int f),some (cL p f 0)]=.nxt [some (.int p),some (.int f),some (cL p f h)]:=by
 have cd:∀ i,tv (.cmp .gt (.ixL (.nm 2) (.neg (.cI 1))) (.cI 1)) [some (.int p),some (.int f),some (cL p f i)]=.ok (decide (1 < (cnt p f i:Int))):=fun i=>by
  have h0:=Jz (((aaE i).map (cnt p f)).map iN) (.int (cnt p f i))
  unfold cL
  simp_arith [h0]
 obtain ⟨δ',e,rfl⟩:=Ef (c:=tv (.cmp .gt (.ixL (.nm 2) (.neg (.cI 1))) (.cI 1))) (b:=exs AQ) (fun i δ=>δ=[some (.int p),some (.int f),some (cL p f i)]) h FU 0 (δ:=[some (.int p),some (.int f),some (cL p f 0)]) rfl (by
   rintro i δ _ hi rfl
   have:=H.more i (by omega)
   refine ⟨?_,_,O1 hf hf8 H hh i (by omega),rfl⟩
   rw [cd,decide_eq_true (by exact aaZ.mpr this)]) (by
   rintro δ rfl
   rw [aaX,cd,H.one]
   rfl) (by unfold FU; exact aaL hh (by decide))
 rw [e,aaX]
theorem EO (hp:1<=p):A4.den [.int p,.int f]=.ok (Am (lvD p f h)):=by
 have hl:=O2 hf hf8 H hh
 have e:Am (lvD p f h)=cL p f h:=by unfold Am lvD cL; rw [FH]
 have c1:((p:Int)==0)=false:=by simp; exact ab8 hp
 have e0:cL p f 0=.lst [.int p]:=by unfold cL; rw [F7]; rfl
 rw [e0] at hl
 rw [e]
 refine (Ds _ rfl).trans (Af ?_)
 simp_arith [Bf,c1,hl]
end
theorem IR (f:Nat):A4.den [.int 0,.int f]=.ok (Am []):=by
 refine (Ds _ rfl).trans (Af ?_)
 unfold Am
 simp_arith [Bf]
theorem Kz (p f l j:Nat) (hf8:f<=8):∃ o,BS (.nm 5) (exs Bl) (Ar 0 (l:Int)) [some (.int p),some (.int f),some (.int l),some (.int j),some (.int 1),none]=.nxt [some (.int p),some (.int f),some (.int l),some (.int j),some (.int ((f ^ l:Nat):Int)),o]:=by
 obtain ⟨δ',e,o,rfl⟩:=AY (tg:=.nm 5) (b:=exs Bl) (fun i δ=>∃ o,δ=[some (.int p),some (.int f),some (.int l),some (.int j),some (.int ((f ^ i:Nat):Int)),o]) (ds:=Ar 0 (l:Int)) (δ:=[some (.int p),some (.int f),some (.int l),some (.int j),some (.int 1),none]) 0 ⟨none,rfl⟩ (by
  rintro i d δ hd ⟨o,rfl⟩
  refine ⟨_,_,rfl,?_,some d,rfl⟩
  have h1:-(18446744073709551616) < (f:Int):=by exact aaI _
  have h2:(f:Int) < 18446744073709551616:=by exact q9A hf8 (by decide)
  rw [acv,aaX,acf]
  simp_arith [Bl,h1,h2])
 rw [BI,abV,aaV,aaX] at e
 exact ⟨o,e⟩
theorem Hi (p f l j:Nat) (hf8:f<=8) (hl:l<=8):Cq.den [.int p,.int f,.int l,.int j]=.ok (Hv (j * f ^ l) (min p (j * f ^ l + f ^ l))):=by
 obtain ⟨o,e⟩:=Kz p f l j hf8
 have hr:=BD (a:=0) (b:=(l:Int)) (by exact by decide) (by exact by decide) (by exact aaI _) (by exact q9B hl (by decide))
 have hw:=SF (f:=f) (l:=l) hf8 (by exact aay hl (by decide))
 have h1:-(18446744073709551616) < ((f ^ l:Nat):Int):=by exact aaI _
 have h2:((f ^ l:Nat):Int) < 18446744073709551616:=by exact q9A hw (by decide)
 refine (F6 _ rfl).trans (Af ?_)
 generalize f ^ l=w at *
 have h3:(((min p (j * w + w):Nat)):Int)=min (p:Int) ((j:Int) * w + w):=by rw [<- acf]; omega
 unfold Hv
 rw [h3,acf]
 simp_arith [BU,hr,e,h1,h2]
mutual
theorem F8:∀ {n:Nat} {d:D},D.shp n d=true->D.eqv d d=true
 | _,.non,_=>by simp [D.eqv]
 | _,.bl b,_=>by simp [D.eqv]
 | _,.int i,_=>by simp [D.eqv]
 | _,.str x,_=>by simp [D.eqv]
 | n + 1,.tup ds,h=>by rw [D.eqv]; exact eqvs_refl (n:=n) h
 | n + 1,.lst ds,h=>by rw [D.eqv]; exact eqvs_refl (n:=n) h
 | 0,.tup ds,h=>by cases h
 | 0,.lst ds,h=>by cases h
 | _,.exn _,h=>by simp [D.shp] at h
 | _,.dic _ _,h=>by simp [D.shp] at h
 | _,.dit _ _,h=>by simp [D.shp] at h
theorem eqvs_refl:∀ {n:Nat} {ds:List D},ds.all (D.shp n)=true->D.eqvs ds ds=true
 | _,[],_=>by simp [D.eqvs]
 | n,d :: ds,h=>by
  rw [aaB,aaj] at h
  rw [D.eqvs,F8 h.1,eqvs_refl h.2]; rfl
end
theorem KA (d:D) (h:D.shp 8 d=true):c2 .eq d d=.ok (.bl true):=by
 show (if _ then _ else _)=_
 rw [h,F8 h]; rfl
theorem KB (d:D) (h:D.shp 8 d=true):c2 .ne d d=.ok (.bl false):=by
 show (if _ then _ else _)=_
 rw [h,F8 h]; rfl
structure Sp (p f h:Nat):Prop where
 hf:2<=f
 hf8:f<=8
 hp:p<=200
 hh:h<=8
 hs:p=0\/Hs p f h
theorem pw6:b2 .pow (.int 10) (.int 6)=.ok (.int 1000000):=by
 rw [Dm _ _ (by decide) (by decide) (by decide)]; rfl
theorem IA (d:D):∀ n,(aam n [d]).flatten=aam n d
 | 0=>rfl
 | n + 1=>by rw [abd,abx,IA d n]; rfl
theorem QL (d:D) (n:Nat) (h:n<=1000):b2 .mul (.lst [d]) (.int n)=.ok (.lst (aam n d)):=by
 rw [b2,HK,if_pos]
 ·rw [aaV,IA]
 ·rw [aaV,aa2]
  unfold LIM
  omega
theorem m4c (x:Int):x % 4=0\/x % 4=1\/x % 4=2\/x % 4=3:=by omega
section
variable {xs rs:List Int} {k:Nat} {s p m:D} {sc x c e:Int} {o7:Option D} (h0:0<=sc) (h1:sc<=100000000000000000) (x0:0<=x) (x1:x < 13) (e0:0<=e) (e1:e < 13) (a2:atD (xs.map D.int) 2=.ok (.int c)) (a3:atD (xs.map D.int) 3=.ok (.int e)) (ak:atD (xs.map D.int) (4 + (k:Int))=.ok (.int x)) (hr:rs.length<=1000)
include h0 h1 x0 x1 e0 e1 a2 a3 ak hr
theorem O3:∃ (r:Int) (o7':Option D),0<=r/\r<=1000000000000000000/\exs Ay [some s,some p,some m,some (.lst (xs.map .int)),some (.int sc),some (.lst (rs.map .int)),some (.int k),o7]=.nxt [some s,some p,some m,some (.lst (xs.map .int)),some (.int sc),some (.lst ((rs ++ [r]).map .int)),some (.int k),o7']:=by
 have hap:=fun r=>Bq (rs.map D.int) (.int r) (by rw [aab]; exact aaL hr (by decide))
 have fin:∀ w:Int,0<=w->0<=min 1000000000000000000 (w * sc + (if (w==12)=true then 1 else 0) * 4):=fun w hw=>Int.le_min.mpr ⟨by decide,Int.add_nonneg (Int.mul_nonneg hw h0) (by split <;> decide)⟩
 have big:∀ w:Int,min 1000000000000000000 (w * sc + (if (w==12)=true then 1 else 0) * 4)<=1000000000000000000:=fun w=>Int.min_le_left ..
 have l3:(0:Int) < 3:=by decide
 have l4:(0:Int) < 4:=by decide
 have l5:(0:Int) < 13:=by decide
 have l6:(4:Int) < 1606938044258990275541962092341162602522202993782792835301376:=by decide
 have s1:-18446744073709551616 < sc:=by exact acu (by decide) h0
 have s2:sc < 18446744073709551616:=by exact ab3 h1 (by decide)
 have m3:=abm x (show (3:Int) ≠ 0 by decide)
 have m4:=abm x (show (4:Int) ≠ 0 by decide)
 have m4':=abG x l4
 have m13:=abm (e + (k:Int)) (show (13:Int) ≠ 0 by decide)
 by_cases c1:c=1
 ·subst c1
  refine ⟨_,some (.int (x % 3)),fin (x % 3) m3,big _,?_⟩
  simp_arith [Ay,a2,ak,l3,hap,s1,s2]
 by_cases c2:c=2
 ·subst c2
  obtain ⟨v,hv,v0,v1⟩:∃ v:Int,atD [.int 0,.int 0,.int 0,.int 1] (x % 4)=.ok (.int v)/\0<=v/\v<=1:=by
   rcases m4c x with h | h | h | h <;> rw [h] <;> refine ⟨_,rfl,?_,?_⟩ <;> decide
  have v2:-18446744073709551616 < v:=by exact acu (by decide) v0
  have v3:v < 18446744073709551616:=by exact ab3 v1 (by decide)
  refine ⟨_,some (.int (v * (1 + x / 4))),fin (v * (1 + x / 4)) (Int.mul_nonneg v0 (Int.add_nonneg (by decide) (Int.ediv_nonneg x0 (by decide)))),big _,?_⟩
  simp_arith [Ay,a2,ak,l4,l6,hv,v2,v3,hap,s1,s2]
 by_cases c3:c=3
 ·subst c3
  refine ⟨_,some (.int ((e + (k:Int)) % 13)),fin ((e + (k:Int)) % 13) m13,big _,?_⟩
  simp_arith [Ay,a2,a3,ak,l5,hap,s1,s2]
 by_cases c4:c=4
 ·subst c4
  refine ⟨_,some (.int e),fin e e0,big _,?_⟩
  simp_arith [Ay,a2,a3,ak,hap,s1,s2]
 ·have d1:(c==1)=false:=beq_eq_false_iff_ne.mpr c1
  have d2:(c==2)=false:=beq_eq_false_iff_ne.mpr c2
  have d3:(c==3)=false:=beq_eq_false_iff_ne.mpr c3
  have d4:(c==4)=false:=beq_eq_false_iff_ne.mpr c4
  refine ⟨_,some (.int x),fin x x0,big _,?_⟩
  simp_arith [Ay,a2,ak,d1,d2,d3,d4,hap,s1,s2]
end
theorem LZ (ns:List Int) (p:Int) (hp:0<=p) (m:Nat) (hm:m<=200):∃ rs:List Int,rs.length<=m/\(∀ r ∈ rs,0<=r/\r<=1000000000000000000)/\BH.den [.lst (ns.map .int),.int p,.int m]=.ok (.lst (rs.map .int)):=by
 obtain ⟨xs,hrow,hl,hb⟩:=FG ns p hp ([(m:Int) + 1,5,6,13] ++ aam m 13) (by simp; exact aay hm (by decide)) (by
  intro s hs
  rcases aae.mp hs with h | h
  ·simp only [aai,abA,or_false] at h
   rcases h with rfl | rfl | rfl | rfl <;> omega
  ·rw [(abF.mp h).2]; decide)
 have hl:xs.length=m + 4:=by rw [hl,aaD,aa1]; simp; exact ab9 ..
 have g:∀ i,i < m + 4->∃ x,xs[i]?=some x:=fun i hi=>⟨_,aah (by exact hl ▸ hi)⟩
 obtain ⟨c0,g0⟩:=g 0 (by exact Nat.succ_pos _)
 obtain ⟨c1,g1⟩:=g 1 (by exact acg ..)
 obtain ⟨c2,g2⟩:=g 2 (by exact acg ..)
 obtain ⟨c3,g3⟩:=g 3 (by exact acg ..)
 have b0:=hb 0 c0 ((m:Int) + 1) g0 (by simp)
 have b1:=hb 1 c1 5 g1 (by simp)
 have b3:=hb 3 c3 13 g3 (by simp)
 have bk:∀ i:Nat,i < m->∃ x,xs[4 + i]?=some x/\0<=x/\x < 13:=fun i hi=>by
  obtain ⟨x,gx⟩:=g (4 + i) (by omega)
  refine ⟨x,gx,hb (4 + i) x 13 gx ?_⟩
  rw [aaH (by simp)]
  simp [hi]
 have a0:=C7 g0
 have a1:=C7 g1
 have a2:=C7 g2
 have a3:=C7 g3
 obtain ⟨sc,hsc,s0,s1⟩:∃ v:Int,atD [.int 1,.int 1,.int 7,.int 1000000,.int 83333333333333333] c1=.ok (.int v)/\0<=v/\v<=100000000000000000:=by
  have:c1=0\/c1=1\/c1=2\/c1=3\/c1=4:=by omega
  rcases this with rfl | rfl | rfl | rfl | rfl <;> refine ⟨_,rfl,?_,?_⟩ <;> decide
 obtain ⟨n,rfl⟩:∃ n:Nat,c0=n:=⟨c0.toNat,by omega⟩
 obtain ⟨δ',e,rs,o6,o7,rfl,hrl,hrb⟩:=AY (tg:=.nm 6) (b:=exs Ay) (fun i δ=>∃ (rs:List Int) (o6 o7:Option D),δ=[some (.lst (ns.map .int)),some (.int p),some (.int m),some (.lst (xs.map .int)),some (.int sc),some (.lst (rs.map .int)),o6,o7]/\rs.length=i/\∀ r ∈ rs,0<=r/\r<=1000000000000000000) (ds:=Ar 0 (n:Int)) (δ:=[some (.lst (ns.map .int)),some (.int p),some (.int m),some (.lst (xs.map .int)),some (.int sc),some (.lst []),none,none]) 0 ⟨[],none,none,rfl,rfl,fun _ h=>nomatch h⟩ (by
  rintro i d δ hd ⟨rs,o6,o7,rfl,hrl,hrb⟩
  obtain ⟨rfl,hi⟩:=A7 hd
  rw [abk]
  obtain ⟨x,gx,x0,x1⟩:=bk i (by omega)
  have ak:=C7 gx
  rw [show ((4 + i:Nat):Int)=4 + (i:Int) by exact rfl] at ak
  obtain ⟨r,o7',r0,r1,e⟩:=O3 (s:=.lst (ns.map .int)) (p:=.int p) (m:=.int m) (o7:=o7) s0 s1 x0 x1 b3.1 b3.2 a2 a3 ak (rs:=rs) (by omega)
  refine ⟨_,_,rfl,e,rs ++ [r],some (.int i),o7',rfl,by simp; omega,fun y hy=>?_⟩
  rcases aae.mp hy with h | h
  ·exact hrb y h
  ·rw [aaG.mp h]; exact ⟨r0,r1⟩)
 rw [BI] at hrl
 refine ⟨rs,by omega,hrb,?_⟩
 have hr:=BD (a:=0) (b:=(n:Int)) (by exact by decide) (by exact by decide) (by exact aaI _) (by omega)
 have hrep:=QL (.int 13) m (by exact aay hm (by decide))
 have hadd:=DH [.int ((m:Int) + 1),.int 5,.int 6,.int 13] (aam m (.int 13)) (by simp; exact aay (Nat.add_le_add_left hm _) (by decide))
 rw [aaq,aa6] at hrow
 refine (F5 _ rfl).trans (Af ?_)
 have a0':atD (xs.map D.int) 0=.ok (.int n):=a0
 have a1':atD (xs.map D.int) 1=.ok (.int c1):=a1
 generalize aam m (D.int 13)=zs at *
 simp only [abH,aa4,abl] at hrow hadd
 simp_arith [BT,hrep,hadd,hrow,pw6,hsc,a0',a1',hr,e]
theorem O4 (ns:List Int) (p:Int) (hp:0<=p):∃ f:Nat,2<=f/\f<=8/\C3.den [.lst (ns.map .int),.int p]=.ok (.int f):=by
 obtain ⟨xs,hrow,hl,hb⟩:=FG ns p hp [7] (by decide) (by decide)
 obtain ⟨a,rfl⟩:=SD hl
 have ha:=hb 0 a 7 rfl rfl
 simp only [abH] at hrow
 refine ⟨(2 + a).toNat,by omega,by omega,?_⟩
 rw [acq (by omega)]
 refine (GW _ rfl).trans (Af ?_)
 simp_arith [Co,hrow,SE]
theorem JA {rs:List Int} {a b:Nat} (ha:a<=rs.length) (hb:b<=rs.length):cut (rs.map D.int) (some (a:Int)) (some (b:Int))=((rs.drop a).take (b - a)).map D.int:=by
 have e1:sIx rs.length 0 (some (a:Int))=a:=by
  show (if (a:Int) < 0 then _ else _:Int).toNat=a
  rw [if_neg (by exact q9F)]; omega
 have e2:sIx rs.length rs.length (some (b:Int))=b:=by
  show (if (b:Int) < 0 then _ else _:Int).toNat=b
  rw [if_neg (by exact q9F)]; omega
 unfold cut
 rw [aab,e1,e2,<- abQ,<- abP]
theorem EQ:∀ ys:List Int,CF (ys.map .int)=some ys
 | []=>rfl
 | y :: r=>by rw [aaA,CF,EQ r]; rfl
noncomputable def mxR (rs:List Int) (a b:Nat):Int:=((rs.drop a).take (b - a)).max?.getD 0
theorem Nj {ys:List Int} (h:ys ≠ []):ys.max?=some (ys.max?.getD 0):=by
 cases q:ys.max? with
 | none=>exact absurd (List.max?_eq_none_iff.mp q) h
 | some m=>rfl
theorem L3 {rs:List Int} {a b:Nat} (hab:a < b) (hb:b<=rs.length):((rs.drop a).take (b - a)).max?=some (mxR rs a b):=by
 apply Nj
 intro h
 have:=congrArg aaQ h
 rw [abg,abh] at this
 simp at this
 omega
noncomputable def AT (rs:List Int) (f l n:Nat):List Int:=(aaE n).map fun j=>mxR rs (j * f ^ l) (min rs.length (j * f ^ l + f ^ l))
noncomputable def A3 (rs:List Int) (f n:Nat):List (List Int):=(aaE n).map fun l=>AT rs f l (cnt rs.length f l)
noncomputable def Aa (xs:List Int):D:=.lst (xs.map .int)
noncomputable def Ac (tr:List (List Int)):D:=.lst (tr.map Aa)
theorem IB (rs:List Int) (f l n:Nat):AT rs f l (n + 1)=AT rs f l n ++ [mxR rs (n * f ^ l) (min rs.length (n * f ^ l + f ^ l))]:=by
 unfold AT; rw [ace,aaq]; rfl
theorem Hj (rs:List Int) (f n:Nat):A3 rs f (n + 1)=A3 rs f n ++ [AT rs f n (cnt rs.length f n)]:=by
 unfold A3; rw [ace,aaq]; rfl
section
variable {rs:List Int} {f h:Nat} (hf:2<=f) (hf8:f<=8) (H:Hs rs.length f h) (hh:h<=8) (hn:rs.length<=200)
include hf hf8 H hh hn
theorem O5 (tr co:D) (l j:Nat) (hl:l<=h) (hj:j < cnt rs.length f l) (o7 o8:Option D):∃ o7' o8',exs Au [some (Aa rs),some (.int f),some tr,some co,some (.int l),some (Aa (AT rs f l j)),some (.int j),o7,o8]=.nxt [some (Aa rs),some (.int f),some tr,some co,some (.int l),some (Aa (AT rs f l (j + 1))),some (.int j),o7',o8']:=by
 have hr:=Hi rs.length f l j hf8 (by exact aay hl hh)
 have hlt:=(Iy (show 1<=f by exact aaO hf)).mp hj
 have hw:0 < f ^ l:=abw (by exact aaO hf)
 have hc:=JA (rs:=rs) (a:=j * f ^ l) (b:=min rs.length (j * f ^ l + f ^ l)) (by exact aaO hlt) (by exact abt ..)
 have hm:=L3 (rs:=rs) (a:=j * f ^ l) (b:=min rs.length (j * f ^ l + f ^ l)) (by omega) (by exact abt ..)
 have hcl:=Fq (p:=rs.length) (f:=f) (l:=l) (by exact aaO hf)
 have hap:=Bq ((AT rs f l j).map .int) (.int (mxR rs (j * f ^ l) (min rs.length (j * f ^ l + f ^ l)))) (by unfold AT; simp; omega)
 have hi:=EQ ((rs.drop (j * f ^ l)).take (min rs.length (j * f ^ l + f ^ l) - j * f ^ l))
 refine ⟨some (.int ((j * f ^ l:Nat):Int)),some (.int ((min rs.length (j * f ^ l + f ^ l):Nat):Int)),?_⟩
 rw [IB]
 unfold Aa
 rw [aaq]
 generalize mxR rs (j * f ^ l) (min rs.length (j * f ^ l + f ^ l))=M at *
 generalize (rs.drop (j * f ^ l)).take (min rs.length (j * f ^ l + f ^ l) - j * f ^ l)=ys at *
 generalize min rs.length (j * f ^ l + f ^ l)=e at *
 generalize j * f ^ l=a at *
 unfold Hv at hr
 generalize (AT rs f l j).map D.int=zs at *
 simp_arith [Au,aab,hr,Da,DQ,hc,hi,DP,hm,hap]
theorem QM (tr:D) (l:Nat) (hl:l<=h) (o6 o7 o8:Option D):∃ o6' o7' o8',BS (.nm 6) (exs Au) (Ar 0 (cnt rs.length f l)) [some (Aa rs),some (.int f),some tr,some (Am (lvD rs.length f h)),some (.int l),some (Aa []),o6,o7,o8]=.nxt [some (Aa rs),some (.int f),some tr,some (Am (lvD rs.length f h)),some (.int l),some (Aa (AT rs f l (cnt rs.length f l))),o6',o7',o8']:=by
 obtain ⟨δ',e,o6',o7',o8',rfl⟩:=AY (tg:=.nm 6) (b:=exs Au) (fun j δ=>∃ o6 o7 o8,δ=[some (Aa rs),some (.int f),some tr,some (Am (lvD rs.length f h)),some (.int l),some (Aa (AT rs f l j)),o6,o7,o8]) (ds:=Ar 0 (cnt rs.length f l)) (δ:=[some (Aa rs),some (.int f),some tr,some (Am (lvD rs.length f h)),some (.int l),some (Aa []),o6,o7,o8]) 0 ⟨o6,o7,o8,rfl⟩ (by
  rintro j d δ hd ⟨o6,o7,o8,rfl⟩
  obtain ⟨rfl,hj⟩:=A7 hd
  rw [abk,aaX]
  obtain ⟨q7,q8,e⟩:=O5 hf hf8 H hh hn tr (Am (lvD rs.length f h)) l j hl (by exact aaZ.mp hj) o7 o8
  exact ⟨_,_,rfl,e,some (.int j),q7,q8,rfl⟩)
 rw [BI,abV,aaV,aaX] at e
 exact ⟨o6',o7',o8',e⟩
theorem Nk (l:Nat) (hl:l<=h) (o5 o6 o7 o8:Option D):∃ o5' o6' o7' o8',exs AB [some (Aa rs),some (.int f),some (Ac (A3 rs f l)),some (Am (lvD rs.length f h)),some (.int l),o5,o6,o7,o8]=.nxt [some (Aa rs),some (.int f),some (Ac (A3 rs f (l + 1))),some (Am (lvD rs.length f h)),some (.int l),o5',o6',o7',o8']:=by
 obtain ⟨o6',o7',o8',e⟩:=QM hf hf8 H hh hn (Ac (A3 rs f l)) l hl o6 o7 o8
 have h5:=Iz (xs:=lvD rs.length f h) (i:=l) (by rw [Bb]; exact abR hl)
 rw [DI hl] at h5
 have hcl:=Fq (p:=rs.length) (f:=f) (l:=l) (by exact aaO hf)
 have hr:=BD (a:=0) (b:=(cnt rs.length f l:Int)) (by exact by decide) (by exact by decide) (by exact aaI _) (by exact q9L hcl hn (by decide))
 have hap:=Bq ((A3 rs f l).map Aa) (Aa (AT rs f l (cnt rs.length f l))) (by unfold A3; simp; exact q9K hl hh (by decide))
 refine ⟨some (Aa (AT rs f l (cnt rs.length f l))),o6',o7',o8',?_⟩
 rw [Hj]
 unfold Ac Am at *
 rw [aaq]
 generalize AT rs f l (cnt rs.length f l)=zs at *
 unfold Aa at e hap ⊢
 rw [abE] at e
 simp_arith [AB,h5,hr,e,hap]
theorem Nl (hn1:1<=rs.length):Ak.den [Aa rs,.int f]=.ok (Ac (A3 rs f (h + 1))):=by
 have hc:=EO hf hf8 H hh hn1
 have hr:=BD (a:=0) (b:=((h + 1:Nat):Int)) (by exact by decide) (by exact by decide) (by exact aaI _) (by exact q9A hh (by decide))
 obtain ⟨δ',e,o4,o5,o6,o7,o8,rfl⟩:=AY (tg:=.nm 4) (b:=exs AB) (fun l δ=>∃ o4 o5 o6 o7 o8,δ=[some (Aa rs),some (.int f),some (Ac (A3 rs f l)),some (Am (lvD rs.length f h)),o4,o5,o6,o7,o8]) (ds:=Ar 0 ((h + 1:Nat):Int)) (δ:=[some (Aa rs),some (.int f),some (Ac []),some (Am (lvD rs.length f h)),none,none,none,none,none]) 0 ⟨none,none,none,none,none,rfl⟩ (by
  rintro l d δ hd ⟨o4,o5,o6,o7,o8,rfl⟩
  obtain ⟨rfl,hl⟩:=A7 hd
  rw [abk,aaX]
  obtain ⟨q5,q6,q7,q8,e⟩:=Nk hf hf8 H hh hn l (by exact q9O hl) o5 o6 o7 o8
  exact ⟨_,_,rfl,e,some (.int l),q5,q6,q7,q8,rfl⟩)
 rw [BI,show 0 + (((h + 1:Nat):Int) - 0).toNat=h + 1 by exact ab9 ..] at e
 have hll:=Bb rs.length f h
 refine (CM _ rfl).trans (Af ?_)
 unfold Am at hc e
 unfold Ac at e ⊢
 rw [abE] at e
 unfold Aa at e ⊢
 simp_arith [Ba,aab,hc,hll,hr,e]
end
theorem Hk (f:Nat):Ak.den [Aa [],.int f]=.ok (Ac []):=by
 have hc:=IR f
 have hr:=BD (a:=0) (b:=0) (by exact by decide) (by exact by decide) (by exact by decide) (by exact by decide)
 have e:BS (.nm 4) (exs AB) (Ar 0 0) [some (.lst []),some (.int f),some (.lst []),some (.lst []),none,none,none,none,none]=.nxt [some (.lst []),some (.int f),some (.lst []),some (.lst []),none,none,none,none,none]:=rfl
 refine (CM _ rfl).trans (Af ?_)
 unfold Aa Ac Am at *
 simp_arith [Ba,hc,hr,e,Int.natCast_zero]
theorem L4 (xs:List Int) (m k:Nat):D.flat (m + 2) (k + 1) (Aa xs)=true:=by
 unfold Aa
 show (xs.map D.int).all (D.flat (m + 1) k)=true
 rw [aat]
 intro d hd
 obtain ⟨x,rfl⟩:=EN hd
 rfl
theorem L5 (tr:List (List Int)):D.flat 9 2 (Ac tr)=true:=by
 show (tr.map Aa).all (D.flat 8 1)=true
 rw [aat]
 intro d hd
 obtain ⟨x,_,rfl⟩:=aaS.mp hd
 exact L4 x 6 0
theorem Nm (xs:List Int) (k:Nat):D.shp (k + 1) (Aa xs)=true:=by
 show (xs.map D.int).all (D.shp k)=true
 rw [aat]
 intro d hd
 obtain ⟨x,rfl⟩:=EN hd
 cases k <;> rfl
theorem D1 (tr:List (List Int)):D.shp 8 (Ac tr)=true:=by
 show (tr.map Aa).all (D.shp 7)=true
 rw [aat]
 intro d hd
 obtain ⟨x,_,rfl⟩:=aaS.mp hd
 exact Nm x 6
noncomputable def tl (tr:List (List Int)) (l j:Nat):Int:=(tr.getD l []).getD j 0
noncomputable def Dim (tr:List (List Int)) (p f h:Nat):Prop:=tr.map aaQ=lvD p f h
theorem Nn (rs:List Int) (f h:Nat):Dim (A3 rs f (h + 1)) rs.length f h:=by
 unfold Dim A3 lvD
 rw [aaY]
 apply abe
 intro l _
 show (AT rs f l (cnt rs.length f l)).length=_
 unfold AT; simp
section
variable {tr:List (List Int)} {p f h:Nat} (hd:Dim tr p f h)
include hd
theorem JB:tr.length=h + 1:=by
 have:=congrArg aaQ hd
 rwa [aab,Bb] at this
theorem JC {l:Nat} (hl:l<=h):(tr.getD l []).length=cnt p f l/\tr[l]?=some (tr.getD l []):=by
 have h1:=JB hd
 have h2:tr[l]?=some tr[l]:=aah (by exact aaL hl (acr h1.symm))
 have h3:tr.getD l []=tr[l]:=by rw [aaw,h2]; rfl
 rw [h3]
 refine ⟨?_,h2⟩
 have h4:(tr.map aaQ)[l]?=some tr[l].length:=by rw [aal,h2]; rfl
 rw [hd] at h4
 have h5:(lvD p f h)[l]?=some (cnt p f l):=by rw [aah (by rw [Bb]; exact abR hl),DI hl]
 rw [h5] at h4
 exact (Option.some.inj h4).symm
end
theorem QN (xs:List D) (a:Nat):cut xs none (some (a:Int))=xs.take a:=by
 have e2:sIx xs.length xs.length (some (a:Int))=min a xs.length:=by
  show (if (a:Int) < 0 then _ else _:Int).toNat=_
  rw [if_neg (by exact q9F)]; omega
 unfold cut
 rw [e2]
 show (xs.drop 0).take (min a xs.length - 0)=_
 rw [List.drop_zero,Nat.sub_zero,<- List.take_eq_take_min]
theorem IC (xs:List D) (a:Nat):cut xs (some (a:Int)) none=xs.drop a:=by
 have e2:sIx xs.length 0 (some (a:Int))=min a xs.length:=by
  show (if (a:Int) < 0 then _ else _:Int).toNat=_
  rw [if_neg (by exact q9F)]; omega
 unfold cut
 rw [e2]
 show (xs.drop (min a xs.length)).take (xs.length - min a xs.length)=_
 rw [abO (by rw [abh]; exact aao _)]
 by_cases h:a<=xs.length
 ·rw [Nat.min_eq_left h]
 ·rw [Nat.min_eq_right (by omega),aca,List.drop_eq_nil_of_le (by omega)]
theorem KC {xs:List D} {i:Nat} (h:i < xs.length):atD xs (i:Int)=.ok xs[i]:=by
 unfold atD ixN
 rw [if_pos (by exact aaI _),if_pos (by exact aaZ.mpr h)]
 simp [h]
noncomputable def ID (tr:List (List Int)) (l j:Nat) (v:Int):List (List Int):=tr.set l ((tr.getD l []).set j v)
theorem No {tr:List (List Int)} {n:Nat} (hn:n < tr.length):CB (Ac tr) (.int (n:Int))=.ok (Aa (tr.getD n [])):=by
 have e1:tr[n]?=some (tr.getD n []):=by rw [aaw,aah hn]; rfl
 unfold Ac
 show atD (tr.map Aa) (n:Int)=_
 unfold atD ixN
 rw [aab,if_pos (by exact aaI _),if_pos (by exact aaZ.mpr hn)]
 show (match (tr.map Aa)[(n:Int).toNat]? with | some d=>Res.ok d | none=>Res.bad)=_
 rw [aaV,aal,e1]
 rfl
theorem JD (tr:List (List Int)):c2 .ne (Ac tr) (.lst [])=.ok (.bl (!tr.isEmpty)):=by
 have:=LX (tr.map Aa) (D1 tr)
 unfold Ac
 rw [this]
 cases tr <;> rfl
theorem O6 {n:Int} {d c:D} {f:Int->D->Out} (h:CB d (.int n)=.ok c):Gm (.ok (.int n)) (.ok d) f=f n c:=by
 rw [Gm,h]
theorem FI {y:Int} {n:Nat} (hn:0 < n):∃ k:Nat,k < n/\y % (n:Int)=k:=by
 have h1:=abm y (show (n:Int) ≠ 0 by omega)
 have h2:=abG y (show 0 < (n:Int) by exact aaZ.mpr hn)
 exact ⟨(y % (n:Int)).toNat,by omega,by exact (acq h1).symm⟩
theorem IE {rs:List Int} {f:Nat} (hf:2<=f) (hf8:f<=8) (hn:rs.length<=200):∃ tr:List (List Int),Ak.den [Aa rs,.int f]=.ok (Ac tr)/\((tr=[]/\rs=[])\/∃ h,h<=8/\Hs rs.length f h/\1<=rs.length/\tr=A3 rs f (h + 1)):=by
 by_cases c:1<=rs.length
 ·obtain ⟨h,hh,H⟩:=hs8 hf c hn
  exact ⟨_,Nl hf hf8 H hh hn c,.inr ⟨h,hh,H,c,rfl⟩⟩
 ·have:rs=[]:=List.length_eq_zero_iff.mp (by omega)
  subst this
  exact ⟨[],Hk f,.inl ⟨rfl,rfl⟩⟩
theorem GY (tr:List (List Int)):DY.den [Ac tr]=.ok (Am (tr.map aaQ)):=by
 have h2:=C8 (nl:=1) (fr:=[]) (tg:=.nm 0) (it:=.seq (.nm 0)) (elt:=.bi .len (.cons (.nm 0) .nil)) (δ:=[some (Ac tr)]) (ds:=tr.map Aa) (g:=fun d=>match d with | .lst ds=>.int ds.length | d=>d) (by unfold Ac; simp_arith []) (fun d hd=>by
  obtain ⟨x,_,rfl⟩:=aaS.mp hd
  refine ⟨[some (Aa x)],rfl,?_⟩
  unfold Aa
  simp_arith [])
 have e:(tr.map Aa).map (fun d=>match d with | .lst ds=>D.int ds.length | d=>d)=(tr.map aaQ).map iN:=by
  rw [aaY,aaY]
  apply abe
  intro x _
  show D.int ((x.map D.int).length:Int)=iN x.length
  rw [aab]; rfl
 rw [e] at h2
 refine (Ip _ rfl).trans (Af ?_)
 unfold Ac Am at *
 simp_arith [] at h2
 simp_arith [Dc,h2]
theorem NO:∀ a b:List Nat,D.eqvs (a.map iN) (b.map iN)=decide (a=b)
 | [],[]=>by simp [D.eqvs]
 | [],y :: b=>by simp [D.eqvs]
 | x :: a,[]=>by simp [D.eqvs]
 | x :: a,y :: b=>by
  rw [aaA,aaA,D.eqvs,NO a b]
  show (((x:Int)==(y:Int)) && decide (a=b))=_
  by_cases c:x=y
  ·subst c
   by_cases c2:a=b
   ·subst c2; simp
   ·simp [c2]
  ·rw [show ((x:Int)==(y:Int))=false by rw [beq_eq_false_iff_ne]; omega]
   simp [c]
theorem QO (a:List Nat):D.shp 8 (Am a)=true:=by
 show (a.map iN).all (D.shp 7)=true
 rw [aat]
 intro d hd
 obtain ⟨w,_,rfl⟩:=aaS.mp hd
 rfl
theorem RN (a b:List Nat):c2 .eq (Am a) (Am b)=.ok (.bl (decide (a=b))):=by
 show (if (D.shp 8 (Am a) && D.shp 8 (Am b))=true then _ else _)=_
 rw [QO,QO]
 show Res.ok (D.bl (D.eqv (Am a) (Am b)))=_
 unfold Am
 rw [D.eqv,NO]
theorem Np {α:Type} (f:α->Bool):∀ xs:List α,B4 (xs.map fun x=>D.bl (f x))=some (xs.map f)
 | []=>rfl
 | x :: xs=>by rw [aaA,B4,Np f xs]; rfl
noncomputable def whB:D->Bool
 | .int _=>true
 | _=>false
noncomputable def rmB:D->Bool
 | .int i=>decide (0<=i/\i<=1000000000000000000)
 | _=>false
noncomputable def lvB:D->Bool
 | .lst ns=>ns.all rmB
 | _=>false
noncomputable def BQ:D->Nat
 | .lst ns=>ns.length
 | _=>0
theorem SG (d:D):Ci.den [d]=.ok (.bl (whB d)):=by
 refine (IM _ rfl).trans (Af ?_)
 cases d <;> (simp_arith [Dz,whB])
theorem RO (d:D):By.den [d]=.ok (.bl (whB d)):=by
 refine (Iq _ rfl).trans (Af ?_)
 cases d <;> (simp_arith [Dd,whB])
theorem RP (d:D):Dq.den [d,.int 0,.int 1000000000000000000]=.ok (.bl (rmB d)):=by
 have hw:=SG d
 refine (Hn _ rfl).trans (Af ?_)
 cases d with
 | int i =>
  have hw:Ci.den [.int i]=.ok (.bl true):=hw
  show _=Out.ret (.bl (decide (0<=i/\i<=1000000000000000000)))
  by_cases c1:0<=i
  ·by_cases c2:i<=1000000000000000000
   ·rw [decide_eq_true ⟨c1,c2⟩]
    simp_arith [Be,hw,c1,c2]
   ·rw [decide_eq_false fun z=>c2 z.2]
    simp_arith [Be,hw,c1,c2]
  ·rw [decide_eq_false fun z=>c1 z.1]
   simp_arith [Be,hw,c1]
 | _ =>
  have hw:Ci.den [_]=.ok (.bl false):=hw
  show _=Out.ret (.bl false)
  simp_arith [Be,hw]
theorem QP (d:D):CJ.den [d]=.ok (.bl (rmB d)):=by
 have hb:=RP d
 refine (Kr _ rfl).trans (Af ?_)
 generalize rmB d=b at *
 simp_arith [D8,hb]
theorem O7 (d:D):A8.den [d]=.ok (.bl (lvB d)):=by
 cases d with
 | lst ns =>
  have hc:=C8 (nl:=1) (fr:=[]) (tg:=.nm 0) (it:=.seq (.nm 0)) (elt:=.call CJ (.cons (.nm 0) .nil)) (δ:=[some (.lst ns)]) (ds:=ns) (g:=fun d=>.bl (rmB d)) (by simp_arith []) (fun d hd=>by
   have:=QP d
   refine ⟨[some d],rfl,?_⟩
   generalize rmB d=b at *
   simp_arith [this])
  have hb:=Np rmB ns
  have ha:(ns.map rmB).all id=ns.all rmB:=by rw [aby]; rfl
  refine (FP _ rfl).trans (Af ?_)
  show _=Out.ret (.bl (ns.all rmB))
  generalize hC:E.comp0 1 [] (.nm 0) (.seq (.nm 0)) (.call CJ (.cons (.nm 0) .nil))=C at *
  rw [CK,hC]
  generalize (ns.map fun x=>D.bl (rmB x))=RB at *
  generalize ns.map rmB=BB at *
  generalize ns.all rmB=B at *
  simp_arith [hc,hb,DP,ha]
 | _ =>
  refine (FP _ rfl).trans (Af ?_)
  show _=Out.ret (.bl false)
  simp_arith [CK]
theorem JE (X M:D):∀ (ns:List D) (o2:Option D),∃ p2,BS (.nm 2) (exs Av) ns [some X,some M,o2]=if ns.all rmB=true then .nxt [some X,some M,p2] else .ret (.bl false)
 | [],o2=>⟨o2,rfl⟩
 | d :: ns,o2=>by
  have hw:=RO d
  rw [BS]
  show ∃ p2,(exs Av [some X,some M,some d]).then _=_
  rw [aaB]
  cases c:rmB d with
  | false =>
   refine ⟨none,?_⟩
   have st:exs Av [some X,some M,some d]=.ret (.bl false):=by
    cases d with
    | int i =>
     have hw:By.den [.int i]=.ok (.bl true):=hw
     have c:¬ (0<=i/\i<=1000000000000000000):=of_decide_eq_false c
     by_cases c1:i < 0
     ·simp_arith [Av,hw,c1]
     ·have c2:1000000000000000000 < i:=by omega
      simp_arith [Av,hw,c1,c2]
    | _ =>
     have hw:By.den [_]=.ok (.bl false):=hw
     simp_arith [Av,hw]
   rw [st]; rfl
  | true =>
   obtain ⟨p2,ih⟩:=JE X M ns (some d)
   refine ⟨p2,?_⟩
   have st:exs Av [some X,some M,some d]=.nxt [some X,some M,some d]:=by
    cases d with
    | int i =>
     have hw:By.den [.int i]=.ok (.bl true):=hw
     have c:0<=i/\i<=1000000000000000000:=of_decide_eq_true c
     have c1:¬ i < 0:=by omega
     have c2:¬ 1000000000000000000 < i:=by omega
     simp_arith [Av,hw,c1,c2]
    | _=>cases c
   rw [st,Out.then_nxt,abp]
   exact ih
theorem Nq (d:D) (n:Nat):AZ.den [d,.int n]=.ok (.bl (lvB d && BQ d==n)):=by
 cases d with
 | lst ns =>
  show _=Res.ok (D.bl (ns.all rmB && ns.length==n))
  obtain ⟨p2,hl⟩:=JE (.lst ns) (.int n) ns none
  refine (Ea _ rfl).trans (Af ?_)
  by_cases c:ns.length=n
  ·have c1:(((ns.length:Nat):Int)==(n:Int))=true:=by simp [c]
   rw [show (ns.length==n)=true from beq_iff_eq.mpr c,Bool.and_true]
   cases ha:ns.all rmB with
   | true =>
    rw [ha,if_pos rfl] at hl
    simp_arith [AS,c1,hl]
   | false =>
    rw [ha,if_neg (by decide)] at hl
    simp_arith [AS,c1,hl]
  ·have c1:(((ns.length:Nat):Int)==(n:Int))=false:=by rw [beq_eq_false_iff_ne]; omega
   rw [show (ns.length==n)=false from beq_eq_false_iff_ne.mpr c,ab2]
   simp_arith [AS,c1]
 | _ =>
  refine (Ea _ rfl).trans (Af ?_)
  show _=Out.ret (.bl false)
  simp_arith [AS]
theorem GB (d:D) (ds:List D):atD (d :: ds) 0=.ok d:=KC (xs:=d :: ds) (i:=0) (Nat.zero_lt_succ _)
theorem O8 (tr:List (List Int)):El.den [Ac tr]=.ok (Aa (tr.getD 0 [])):=by
 have h1:=Hh (tr.map Aa) (D1 tr)
 refine (IN _ rfl).trans (Af ?_)
 cases tr with
 | nil =>
  have h1:c2 .eq (.lst []) (.lst [])=.ok (.bl true):=h1
  show exs BG (Pu.AI 1 [.lst []])=.ret (.lst [])
  simp_arith [BG,h1]
 | cons r tr =>
  have h1:c2 .eq (.lst (Aa r :: tr.map Aa)) (.lst [])=.ok (.bl false):=h1
  have h2:atD (Aa r :: tr.map Aa) 0=.ok (Aa r):=GB ..
  show exs BG (Pu.AI 1 [.lst (Aa r :: tr.map Aa)])=.ret (Aa r)
  generalize Aa r :: tr.map Aa=L at *
  unfold Aa at *
  simp_arith [BG,h1,h2]
theorem O9 (tr:List (List Int)) (f:Nat):Em.den [Ac tr,.int f]=.ok (shD (tr.getD 0 []).length f):=by
 have h1:=O8 tr
 refine (IO _ rfl).trans (Af ?_)
 unfold Aa at h1
 unfold shD
 simp_arith [DA,h1,aab]
theorem L6:∀ (ns:List D),ns.all rmB=true->∃ xs:List Int,ns=xs.map .int/\∀ x ∈ xs,0<=x/\x<=1000000000000000000
 | [],_=>⟨[],rfl,fun x hx=>nomatch hx⟩
 | d :: ns,h=>by
  rw [aaB,aaj] at h
  obtain ⟨xs,e,hx⟩:=L6 ns h.2
  cases d with
  | int i =>
   refine ⟨i :: xs,by rw [e]; rfl,fun x hm=>?_⟩
   rcases aai.mp hm with rfl | hm
   ·exact of_decide_eq_true h.1
   ·exact hx x hm
  | _=>exact nF (h.1)
theorem L7:∀ (ls:List D),ls.all lvB=true->∃ tr:List (List Int),ls=tr.map Aa/\∀ r ∈ tr,∀ x ∈ r,0<=x/\x<=1000000000000000000
 | [],_=>⟨[],rfl,fun x hx=>nomatch hx⟩
 | d :: ls,h=>by
  rw [aaB,aaj] at h
  obtain ⟨tr,e,hx⟩:=L7 ls h.2
  cases d with
  | lst ns =>
   obtain ⟨xs,e2,h2⟩:=L6 ns h.1
   refine ⟨xs :: tr,by rw [e,e2]; rfl,fun r hm=>?_⟩
   rcases aai.mp hm with rfl | hm
   ·exact h2
   ·exact hx r hm
  | _=>exact nF (h.1)
theorem QQ {r:List Int} (h:∀ x ∈ r,0<=x/\x<=1000000000000000000):lvB (Aa r)=true:=by
 show (r.map D.int).all rmB=true
 rw [aat]
 intro d hd
 obtain ⟨x,hx,rfl⟩:=aaS.mp hd
 exact decide_eq_true (h x hx)
theorem QR (bs:List Bool):c2 .nin (.bl false) (.lst (bs.map .bl))=.ok (.bl (bs.all id)):=by
 show (inD (.bl false) (bs.map .bl)).bind (fun b=>Res.ok (D.bl !b))=_
 unfold inD
 have h1:(bs.map D.bl).all (D.shp 8)=true:=by
  rw [aby,aat]; intro b _; rfl
 have h2:∀ bs:List Bool,(!((bs.map D.bl).any fun y=>D.eqv y (.bl false)))=bs.all id:=by
  intro bs
  induction bs with
  | nil=>rfl
  | cons b bs ih =>
   rw [aaA,abn,aaB,Bool.not_or,ih]
   cases b <;> rfl
 rw [h1,<- h2 bs]
 rfl
theorem Pa (ls:List D) (F:D):ev (.comp0 1 [] (.nm 0) (.seq (.nm 0)) (.call A8 (.cons (.nm 0) .nil))) [some (.lst ls),some F,none]=.ok (.lst (ls.map fun l=>.bl (lvB l))) :=
 C8 (by simp_arith []) (fun d hd=>by
  have:=O7 d
  refine ⟨[some d],rfl,?_⟩
  generalize lvB d=b at *
  simp_arith [this])
theorem L8 {ls:List D} {F:D}:ev (.bi .all (.cons (.comp0 1 [] (.nm 0) (.seq (.nm 0)) (.call A8 (.cons (.nm 0) .nil))) .nil)) [some (.lst ls),some F,none]=.ok (.bl (ls.all lvB)):=by
 have hc:=Pa ls F
 have hb:=Np lvB ls
 have ha:(ls.map lvB).all id=ls.all lvB:=by rw [aby]; rfl
 generalize E.comp0 1 [] (.nm 0) (.seq (.nm 0)) (.call A8 (.cons (.nm 0) .nil))=C at *
 generalize (ls.map fun x=>D.bl (lvB x))=RB at *
 generalize ls.map lvB=BB at *
 generalize ls.all lvB=B at *
 simp_arith [hc,hb,DP,ha]
theorem RQ {ls:List D} (f:Nat) (h:ls.all lvB=false):AW.den [.lst ls,.int f]=.ok (.bl false):=by
 have ha:=L8 (ls:=ls) (F:=.int f)
 rw [h] at ha
 refine (EL _ rfl).trans (Af ?_)
 rw [Cz]
 generalize (E.bi .all (.cons (.comp0 1 [] (.nm 0) (.seq (.nm 0)) (.call A8 (.cons (.nm 0) .nil))) .nil))=C at *
 simp_arith [ha]
theorem GC {tr:List (List Int)} {f:Nat} (h:∀ r ∈ tr,∀ x ∈ r,0<=x/\x<=1000000000000000000) {L:List Nat} (hL:(tr.getD 0 []).length<=200->Di.den [shD (tr.getD 0 []).length f]=.ok (Am L)):AW.den [Ac tr,.int f]=.ok (.bl (decide ((tr.getD 0 []).length<=200) && decide (tr.map aaQ=L))):=by
 have ha:=L8 (ls:=tr.map Aa) (F:=.int f)
 have h0:(tr.map Aa).all lvB=true:=by
  rw [aat]
  intro d hd
  obtain ⟨r,hr,rfl⟩:=aaS.mp hd
  exact QQ (h r hr)
 rw [h0] at ha
 have hs:=O9 tr f
 have hc:=GY tr
 have hq:=RN (tr.map aaQ) L
 refine (EL _ rfl).trans (Af ?_)
 rw [Cz]
 generalize (E.bi .all (.cons (.comp0 1 [] (.nm 0) (.seq (.nm 0)) (.call A8 (.cons (.nm 0) .nil))) .nil))=C at *
 generalize (tr.getD 0 []).length=p at *
 by_cases c:p<=200
 ·have hL:=hL c
  have c1:(p:Int)<=200:=by omega
  rw [decide_eq_true c,abp]
  generalize decide (tr.map aaQ=L)=B at *
  unfold shD at *
  unfold Ac at *
  simp_arith [ha,hs,c1,hc,hL,hq]
 ·have c1:¬ (p:Int)<=200:=by omega
  rw [decide_eq_false c,abI]
  unfold shD at *
  unfold Ac at *
  simp_arith [ha,hs,c1]
structure IsT (f:Nat) (tr:List (List Int)):Prop where
 ok:∀ r ∈ tr,∀ x ∈ r,0<=x/\x<=1000000000000000000
 dm:tr=[]\/∃ p h,1<=p/\p<=200/\h<=8/\Hs p f h/\Dim tr p f h
theorem Nr (ls:List D) (p f h:Nat) (hl:ls.length=h + 1) (hh:h<=8) (F:D):ev (.comp0 1 [0,2] (.nm 0) (.r1 (.bi .len (.cons (.nm 2) .nil))) (.call AZ (.cons (.ix (.nm 1) (.nm 0)) (.cons (.ixL (.nm 2) (.nm 0)) .nil)))) [some (.lst ls),some F,some (Am (lvD p f h))]=.ok (.lst (((aaE (h + 1)).map fun k=>lvB (ls.getD k .non) && BQ (ls.getD k .non)==cnt p f k).map .bl)):=by
 have hr:=BD (a:=0) (b:=((h + 1:Nat):Int)) (by omega) (by omega) (by omega) (by omega)
 have hc:=C8 (nl:=1) (fr:=[0,2]) (tg:=.nm 0) (it:=.r1 (.bi .len (.cons (.nm 2) .nil))) (elt:=.call AZ (.cons (.ix (.nm 1) (.nm 0)) (.cons (.ixL (.nm 2) (.nm 0)) .nil))) (δ:=[some (.lst ls),some F,some (Am (lvD p f h))]) (ds:=Ar 0 ((h + 1:Nat):Int)) (g:=fun d=>match d with | .int k=>.bl (lvB (ls.getD k.toNat .non) && BQ (ls.getD k.toNat .non)==cnt p f k.toNat) | d=>d) (by
  unfold Am
  simp_arith [aab,Bb,hr]) (fun d hd=>by
  obtain ⟨k,rfl,hk⟩:=Ku hd
  have hk:k < h + 1:=by omega
  refine ⟨[some (.int k),some (.lst ls),some (Am (lvD p f h))],rfl,?_⟩
  have h1:=KC (xs:=ls) (i:=k) (by omega)
  have h2:=Iz (xs:=lvD p f h) (i:=k) (by rw [Bb]; exact hk)
  rw [DI (by omega)] at h2
  have e:ls.getD k .non=ls[k]'(by omega):=by
   rw [aaw,aah (by omega)]; rfl
  show _=Res.ok (D.bl (lvB (ls.getD (ab4 k) .non) && BQ (ls.getD (ab4 k) .non)==cnt p f (ab4 k)))
  rw [aaV,e]
  have h3:=Nq (ls[k]'(by omega)) (cnt p f k)
  generalize ls[k]'(by omega)=x at *
  generalize (lvB x && BQ x==cnt p f k)=B at *
  unfold Am
  simp_arith [h1,h2,h3])
 rw [hc]
 unfold Ar
 rw [aaY,aaY,show (((h + 1:Nat):Int) - 0).toNat=h + 1 by omega]
 refine congrArg (fun L=>Res.ok (D.lst L)) (abe fun k _=>?_)
 show D.bl (lvB (ls.getD (ab4 (0 + (k:Int))) .non) && BQ (ls.getD (ab4 (0 + (k:Int))) .non)==cnt p f (ab4 (0 + (k:Int))))=_
 rw [abk,aaV]; rfl
theorem JF {ns ls0:List D} {f h:Nat} (hf:2<=f) (hf8:f<=8) (H:Hs ns.length f h) (hh:h<=8) (hp:1<=ns.length) (hp2:ns.length<=200):Aj.den [.lst (.lst ns :: ls0),.int f]=.ok (.bl (decide ((D.lst ns :: ls0).length=h + 1) && ((aaE (h + 1)).map fun k=>lvB ((D.lst ns :: ls0).getD k .non) && BQ ((D.lst ns :: ls0).getD k .non)==cnt ns.length f k).all id)):=by
 have hml:c2 .ml (.lst (.lst ns :: ls0)) (.lst [])=.ok (.bl false):=rfl
 have h2:atD (D.lst ns :: ls0) 0=.ok (.lst ns):=GB ..
 have hc:=EO hf hf8 H hh hp
 have c1:((ns.length:Int)==0)=false:=by rw [beq_eq_false_iff_ne]; omega
 have c2:¬ (200:Int) < (ns.length:Int):=by omega
 have hll:=Bb ns.length f h
 have hcomp:=Nr (D.lst ns :: ls0) ns.length f h
 refine (Bm _ rfl).trans (Af ?_)
 rw [Aw]
 generalize hC:E.comp0 1 [0,2] (.nm 0) (.r1 (.bi .len (.cons (.nm 2) .nil))) (.call AZ (.cons (.ix (.nm 1) (.nm 0)) (.cons (.ixL (.nm 2) (.nm 0)) .nil)))=C at *
 have hnin:=QR ((aaE (h + 1)).map fun k=>lvB ((D.lst ns :: ls0).getD k .non) && BQ ((D.lst ns :: ls0).getD k .non)==cnt ns.length f k)
 generalize ((aaE (h + 1)).map fun k=>lvB ((D.lst ns :: ls0).getD k .non) && BQ ((D.lst ns :: ls0).getD k .non)==cnt ns.length f k)=BB at *
 generalize hLS:D.lst ns :: ls0=LS at *
 by_cases c:LS.length=h + 1
 ·have c3:((LS.length:Int)==((h + 1:Nat):Int))=true:=by rw [beq_iff_eq]; omega
  have hcomp:=hcomp c hh (.int f)
  rw [decide_eq_true c,abp]
  generalize BB.all id=B at *
  unfold Am at *
  simp_arith [hml,h2,c1,c2,hc,aab,hll,c3,hcomp,hnin]
 ·have c3:((LS.length:Int)==((h + 1:Nat):Int))=false:=by rw [beq_eq_false_iff_ne]; omega
  rw [decide_eq_false c,abI]
  unfold Am at *
  simp_arith [hml,h2,c1,c2,hc,aab,hll,c3]
theorem IF {l0:D} {ls0:List D} {f:Nat} (h:∀ ns,l0=.lst ns->ns.length=0\/200 < ns.length):Aj.den [.lst (l0 :: ls0),.int f]=.ok (.bl false):=by
 have hml:c2 .ml (.lst (l0 :: ls0)) (.lst [])=.ok (.bl false):=rfl
 have h2:atD (l0 :: ls0) 0=.ok l0:=GB ..
 refine (Bm _ rfl).trans (Af ?_)
 cases l0 with
 | lst ns =>
  rcases h ns rfl with c | c
  ·have c1:((ns.length:Int)==0)=true:=by rw [beq_iff_eq]; omega
   generalize D.lst ns :: ls0=LS at *
   simp_arith [Aw,hml,h2,c1]
  ·have c1:((ns.length:Int)==0)=false:=by rw [beq_eq_false_iff_ne]; omega
   have c2:(200:Int) < (ns.length:Int):=by omega
   generalize D.lst ns :: ls0=LS at *
   simp_arith [Aw,hml,h2,c1,c2]
 | _ =>
  generalize _ :: ls0=LS at *
  simp_arith [Aw,hml,h2]
theorem JG {ls:List D} {p f h:Nat}:(decide (ls.length=h + 1) && ((aaE (h + 1)).map fun k=>lvB (ls.getD k .non) && BQ (ls.getD k .non)==cnt p f k).all id)=true ↔ ls.all lvB=true/\ls.map BQ=lvD p f h:=by
 have e:∀ k (hk:k < ls.length),ls.getD k .non=ls[k]:=fun k hk=>by
  rw [aaw,aah hk]; rfl
 rw [aaj,decide_eq_true_iff,aby,aat]
 constructor
 ·rintro ⟨h1,h2⟩
  constructor
  ·rw [aat]
   intro d hd
   obtain ⟨k,hk,rfl⟩:=abf hd
   have:=h2 k (ab0.mpr (by omega))
   have this:(lvB (ls.getD k .non) && BQ (ls.getD k .non)==cnt p f k)=true:=this
   rw [e k hk,aaj] at this
   exact this.1
  ·apply List.ext_getElem (by rw [aab,Bb,h1])
   intro k h3 h4
   rw [aab] at h3
   have:=h2 k (ab0.mpr (by omega))
   have this:(lvB (ls.getD k .non) && BQ (ls.getD k .non)==cnt p f k)=true:=this
   rw [e k h3,aaj,beq_iff_eq] at this
   rw [List.getElem_map,DI (by omega)]
   exact this.2
 ·rintro ⟨h1,h2⟩
  have hl:ls.length=h + 1:=by
   have:=congrArg aaQ h2
   rwa [aab,Bb] at this
  refine ⟨hl,fun k hk=>?_⟩
  have hk:=ab0.mp hk
  show (lvB (ls.getD k .non) && BQ (ls.getD k .non)==cnt p f k)=true
  rw [e k (by omega),aaj,beq_iff_eq]
  refine ⟨aat.mp h1 _ (abB _),?_⟩
  have h5:(ls.map BQ)[k]?=(lvD p f h)[k]?:=by rw [h2]
  rw [aah (by rw [aab]; omega),aah (by rw [Bb]; omega),List.getElem_map,DI (by omega)] at h5
  exact Option.some.inj h5
theorem L9 (tr:List (List Int)):(tr.map Aa).map BQ=tr.map aaQ:=by
 rw [aaY]
 apply abe
 intro r _
 show (r.map D.int).length=_
 rw [aab]
theorem IG (x:D) {f:Nat} (hf:2<=f) (hf8:f<=8):(AW.den [x,.int f]=.ok (.bl false)/\Aj.den [x,.int f]=.ok (.bl false))\/∃ tr,x=Ac tr/\IsT f tr/\AW.den [x,.int f]=.ok (.bl true)/\Aj.den [x,.int f]=.ok (.bl true):=by
 cases x with
 | lst ls =>
  cases ls with
  | nil =>
   refine .inr ⟨[],rfl,⟨fun r hr=>(nomatch hr),.inl rfl⟩,?_,?_⟩
   ·exact GC (tr:=[]) (L:=[]) (fun r hr=>(nomatch hr)) fun _=>FQ f
   ·have hml:c2 .ml (.lst []) (.lst [])=.ok (.bl true):=rfl
    refine (Bm _ rfl).trans (Af ?_)
    simp_arith [Aw,hml]
  | cons l0 ls =>
   by_cases hA:(l0 :: ls).all lvB=true
   ·obtain ⟨tr,e,ho⟩:=L7 _ hA
    cases tr with
    | nil=>cases e
    | cons r0 tr =>
     rw [aaA,List.cons.injEq] at e
     obtain ⟨rfl,rfl⟩:=e
     have hlen:(r0.map D.int).length=r0.length:=aab ..
     by_cases p0:r0.length=0
     ·refine .inl ⟨?_,IF fun ns e=>.inl ?_⟩
      ·have:=GC (tr:=r0 :: tr) (f:=f) (L:=[]) ho fun _=>(by rw [show ((r0 :: tr).getD 0 []).length=0 from p0]; exact FQ f)
       rw [show decide ((r0 :: tr).map aaQ=[])=false from rfl,ab2] at this
       exact this
      ·cases e; omega
     ·by_cases p1:200 < r0.length
      ·refine .inl ⟨?_,IF fun ns e=>.inr ?_⟩
       ·have:=GC (tr:=r0 :: tr) (f:=f) (L:=[]) ho fun z=>absurd z (by show ¬ r0.length<=200; omega)
        rw [show decide (((r0 :: tr).getD 0 []).length<=200)=false from decide_eq_false (by show ¬ r0.length<=200; omega),abI] at this
        exact this
       ·cases e; omega
      ·obtain ⟨h,hh,H⟩:=hs8 hf (show 1<=r0.length by omega) (by omega)
       have h1:=GC (tr:=r0 :: tr) (f:=f) (L:=lvD r0.length f h) ho fun _=>Ky hf hf8 H hh
       rw [show decide (((r0 :: tr).getD 0 []).length<=200)=true from decide_eq_true (by show r0.length<=200; omega),abp] at h1
       have h2:=JF (ns:=r0.map D.int) (ls0:=tr.map Aa) hf hf8 (by rw [hlen]; exact H) hh (by omega) (by omega)
       have hk:=JG (ls:=D.lst (r0.map D.int) :: tr.map Aa) (p:=(r0.map D.int).length) (f:=f) (h:=h)
       rw [show (D.lst (r0.map D.int) :: tr.map Aa).map BQ=(r0 :: tr).map aaQ from L9 (r0 :: tr)] at hk
       rw [hlen] at hk h2
       by_cases c:(r0 :: tr).map aaQ=lvD r0.length f h
       ·rw [decide_eq_true c] at h1
        rw [hk.mpr ⟨hA,c⟩] at h2
        exact .inr ⟨r0 :: tr,rfl,⟨ho,.inr ⟨r0.length,h,by omega,by omega,hh,H,c⟩⟩,h1,h2⟩
       ·rw [decide_eq_false c] at h1
        rw [abK.mpr fun z=>c (hk.mp z).2] at h2
        exact .inl ⟨h1,h2⟩
   ·have hA:=abK.mpr hA
    refine .inl ⟨RQ f hA,?_⟩
    by_cases q:∃ ns,l0=.lst ns/\1<=ns.length/\ns.length<=200
    ·obtain ⟨ns,rfl,p1,p2⟩:=q
     obtain ⟨h,hh,H⟩:=hs8 hf p1 p2
     have h2:=JF (ns:=ns) (ls0:=ls) hf hf8 H hh p1 p2
     have hk:=JG (ls:=D.lst ns :: ls) (p:=ns.length) (f:=f) (h:=h)
     generalize (decide ((D.lst ns :: ls).length=h + 1) && ((aaE (h + 1)).map fun k=>lvB ((D.lst ns :: ls).getD k .non) && BQ ((D.lst ns :: ls).getD k .non)==cnt ns.length f k).all id)=B at *
     rw [show B=false from abK.mpr fun z=>(by have:=(hk.mp z).1; rw [hA] at this; cases this)] at h2
     exact h2
    ·exact IF fun ns e=>by
      by_cases z:ns.length=0
      ·exact .inl z
      ·by_cases z2:200 < ns.length
       ·exact .inr z2
       ·exact absurd ⟨ns,e,by omega,by omega⟩ q
 | _ =>
  refine .inl ⟨(EL _ rfl).trans (Af ?_),(Bm _ rfl).trans (Af ?_)⟩
  ·simp_arith [Cz]
  ·simp_arith [Aw]
noncomputable def Cf:Nat->D->Bool
 | 0,_=>false
 | n + 1,.lst ds=>ds.all (Cf n)
 | _ + 1,_=>true
noncomputable def KD (F:Fn):Ss :=
 (.cons (.iff (.isi (.nm 0) .list)
 (.cons (.ret (.comp0 1 [] (.nm 0) (.seq (.nm 0)) (.call F (.cons (.nm 0) .nil))))
 .nil)
 .nil)
 (.cons (.ret (.nm 0))
 .nil))
theorem ER {F:Fn} {n:Nat} (hF:∀ d,Cf n d=true->F.den [d]=.ok d) {d:D} (h:Cf (n + 1) d=true):run 1 (KD F) [d]=.ok d:=by
 refine Af ?_
 cases d with
 | lst ds =>
  have h:ds.all (Cf n)=true:=h
  have hc:=C8 (nl:=1) (fr:=[]) (tg:=.nm 0) (it:=.seq (.nm 0)) (elt:=.call F (.cons (.nm 0) .nil)) (δ:=[some (.lst ds)]) (ds:=ds) (g:=fun d=>d) (by simp_arith []) (fun d hd=>by
   have:=hF d (aat.mp h d hd)
   exact ⟨[some d],rfl,by simp_arith [this]⟩)
  rw [List.map_id'] at hc
  rw [KD]
  generalize E.comp0 1 [] (.nm 0) (.seq (.nm 0)) (.call F (.cons (.nm 0) .nil))=C at *
  simp_arith [hc]
 | _=>simp_arith [KD]
theorem Ma {d:D} (h:Cf 4 d=true):AN.den [d]=.ok d:=by
 have h0:∀ d,Cf 0 d=true->Dj.den [d]=.ok d:=fun d h=>by cases h
 have h1:∀ d,Cf 1 d=true->BW.den [d]=.ok d:=fun d h=>(Fk _ rfl).trans (ER h0 h)
 have h2:∀ d,Cf 2 d=true->BX.den [d]=.ok d:=fun d h=>(Fl _ rfl).trans (ER h1 h)
 have h3:∀ d,Cf 3 d=true->BY.den [d]=.ok d:=fun d h=>(Fm _ rfl).trans (ER h2 h)
 exact (Gz _ rfl).trans (ER h3 h)
theorem Mb (r:List Int) (n:Nat):Cf (n + 2) (Aa r)=true:=by
 show (r.map D.int).all (Cf (n + 1))=true
 rw [aby,aat]; intro x _; rfl
theorem Pb (tr:List (List Int)):Cf 4 (Ac tr)=true:=by
 show (tr.map Aa).all (Cf 3)=true
 rw [aby,aat]; intro x _; exact Mb x 1
theorem Nt {n:Nat}:∀ {ds:List D},(∀ d ∈ ds,D.sm n d d=true)->(abo (D.sm n) ds ds).all id=true
 | [],_=>rfl
 | d :: ds,h=>by
  rw [List.zipWith_cons_cons,aaB,h d (aac ..),Nt fun x hx=>h x (aaa _ hx)]; rfl
theorem IH {n:Nat} {ds:List D} (h:∀ d ∈ ds,D.sm n d d=true):D.sm (n + 1) (.lst ds) (.lst ds)=true:=by
 rw [D.sm,Nt h,beq_self_eq_true]; rfl
theorem Mc {n:Nat} {ds:List D} (h:∀ d ∈ ds,D.sm n d d=true):D.sm (n + 1) (.tup ds) (.tup ds)=true:=by
 rw [D.sm,Nt h,beq_self_eq_true]; rfl
theorem Me (n:Nat) (i:Int):D.sm n (.int i) (.int i)=true:=by
 rw [D.sm,beq_self_eq_true]
theorem QS (r:List Int) (n:Nat):D.sm (n + 1) (Aa r) (Aa r)=true:=IH fun d hd=>by
 obtain ⟨x,_,rfl⟩:=aaS.mp hd
 exact Me ..
noncomputable def okR (d:D):Prop:=Cf 3 d=true/\D.sm 7 d d=true
noncomputable def ES (d:D):Prop:=Cf 2 d=true/\D.sm 6 d d=true
noncomputable def okV (d:D):Prop:=Cf 4 d=true/\D.sm 8 d d=true
theorem JH (r:List Int):okR (Aa r):=⟨Mb r 1,QS r 6⟩
theorem JI (i:Int):ES (.int i):=⟨rfl,Me ..⟩
theorem EA {ds:List D} (h:∀ d ∈ ds,okR d):okV (.lst ds):=⟨aat.mpr fun d hd=>(h d hd).1,IH fun d hd=>(h d hd).2⟩
theorem FJ {ds:List D} (h:∀ d ∈ ds,ES d):okR (.lst ds):=⟨aat.mpr fun d hd=>(h d hd).1,IH fun d hd=>(h d hd).2⟩
theorem Pc {ds:List D} (h:∀ d ∈ ds,ES d):okR (.tup ds):=⟨rfl,Mc fun d hd=>(h d hd).2⟩
theorem DJ {tr:List (List Int)}:∀ d ∈ tr.map Aa,okR d:=fun d hd=>by
 obtain ⟨r,_,rfl⟩:=aaS.mp hd
 exact JH r
theorem F9 (tr:List (List Int)):okV (Ac tr):=EA DJ
theorem QT {r:List Int}:∀ d ∈ r.map D.int,ES d:=fun d hd=>by
 obtain ⟨x,_,rfl⟩:=aaS.mp hd
 exact JI x
theorem Nu (tr:List (List Int)):Fj.den [Ac tr]=.ok (Ac tr):=by
 have hc:=C8 (nl:=1) (fr:=[]) (tg:=.nm 0) (it:=.seq (.nm 0)) (elt:=.bi .list (.cons (.nm 0) .nil)) (δ:=[some (Ac tr)]) (ds:=tr.map Aa) (g:=fun d=>d) (by unfold Ac; simp_arith []) (fun d hd=>by
  obtain ⟨r,_,rfl⟩:=aaS.mp hd
  refine ⟨[some (Aa r)],rfl,?_⟩
  unfold Aa
  simp_arith [])
 rw [List.map_id'] at hc
 have hc:ev (E.comp0 1 [] (.nm 0) (.seq (.nm 0)) (.bi .list (.cons (.nm 0) .nil))) [some (Ac tr)]=.ok (Ac tr):=hc
 refine (LW _ rfl).trans (Af ?_)
 rw [EK]
 generalize E.comp0 1 [] (.nm 0) (.seq (.nm 0)) (.bi .list (.cons (.nm 0) .nil))=C at *
 generalize Ac tr=T at *
 simp_arith [hc]
theorem QU {tr:List (List Int)} {f:Nat} (h:AW.den [Ac tr,.int f]=.ok (.bl true)):AF.den [Ac tr,.int f]=.ok (Ac tr):=by
 have hc:=Nu tr
 refine (D9 _ rfl).trans (Af ?_)
 generalize Ac tr=T at *
 simp_arith [Bx,h,hc]
theorem QV {x:D} {f:Nat} (h:AW.den [x,.int f]=.ok (.bl false)):AF.den [x,.int f]=.exc 5:=by
 refine (D9 _ rfl).trans (OX (δ:=[some x,some (.int f)]) ?_)
 simp_arith [Bx,h,Out.then_exc]
theorem RS {x:D} {f:Nat} (h:AW.den [x,.int f]=.ok (.bl false)):Bp.den [x,.int f]=.ok (.bl true):=by
 have hd:=QV h
 have i1:(isa 5 0 && !(5==0))=true:=rfl
 have h9:((5:Nat)==999)=false:=rfl
 have j1:isa 5 5=true:=rfl
 have j2:[2,4].any (isa 5)=false:=rfl
 refine (Fo _ rfl).trans (Af ?_)
 simp_arith [Bs,hd,Res.out_exc,Out.then_exc,i1,dX,h9,j1,j2]
structure Rw23 (tr:List (List Int)):Prop where
 len:tr.length<=9
 row:∀ n,n < tr.length->0 < (tr.getD n []).length/\(tr.getD n []).length<=250
theorem Mf {tr:List (List Int)} {p f h:Nat} (hf:1<=f) (hp:1<=p) (hp2:p<=250) (hh:h<=8) (hd:Dim tr p f h):Rw23 tr:=by
 have hl:=JB hd
 refine ⟨by omega,fun n hn=>?_⟩
 have h1:=(JC hd (l:=n) (by omega)).1
 have h2:=OY (p:=p) (f:=f) hf hp n
 have h3:=Fq (p:=p) (f:=f) (l:=n) hf
 omega
theorem Mg {tr:List (List Int)} {f:Nat} (hf:2<=f) (T:IsT f tr):Rw23 tr:=by
 rcases T.dm with rfl | ⟨p,h,p1,p2,hh,_,hd⟩
 ·exact ⟨aas _,fun n hn=>absurd hn (abU _)⟩
 ·exact Mf (by omega) p1 (by omega) hh hd
theorem RT {n:Nat} (h:0 < n):ixN n (-1)=some (n - 1):=by
 unfold ixN
 rw [if_neg (by decide),if_pos (by omega)]
 congr 1
 omega
theorem NP {F:List D->Option (List D)} {ds:List D} {i:Int} {j:Nat} {es es':List D} (h1:ixN ds.length i=some j) (h2:ds[j]?=some (.lst es)) (h3:F es=some es'):Bd F [(false,i)] (.lst ds)=some (.lst (ds.set j (.lst es'))):=by
 show (ixN ds.length i).bind _=_
 rw [h1,aaM,h2,aaM]
 show (acA _ ((F es).map D.lst))=_
 rw [h3]; rfl
theorem ixz {n:Nat} (h:0 < n):ixN n 0=some 0:=by
 unfold ixN
 rw [if_pos (by decide),if_pos (by omega)]; rfl
theorem Mh {tr:List (List Int)} {f:Nat} (hf:2<=f) (T:IsT f tr) (ht:AW.den [Ac tr,.int f]=.ok (.bl true)):BN.den [Ac tr,.int f]=.ok (.bl true):=by
 have R:=Mg hf T
 have h1:=Ma (Pb tr)
 have h2:=QU ht
 have hL:∀ o,ev (.isi (.nm 3) .list) [o,some (.int f),some (Ac tr),some (Ac tr)]=.ok (.bl true):=fun _=>rfl
 have hne:=KB (Ac tr) (D1 tr)
 have heq:=KA (Ac tr) (D1 tr)
 have hnn:=JD tr
 have d2:AF.dep=2:=Gx
 have d0:AN.dep=0:=GA
 refine (IQ _ rfl).trans (Af ?_)
 show exs CN [some (Ac tr),some (.int f),none,none]=_
 rw [CN]
 generalize E.isi (.nm 3) .list=EI at *
 by_cases c:tr=[]
 ·subst c
  have hnn:c2 .ne (Ac []) (.lst [])=.ok (.bl false):=hnn
  have hap:Bd (umD .append [.lst []]) [] (Ac [])=some (.lst [.lst []]):=rfl
  generalize Ac []=TT at *
  simp_arith [h1,h2,hL,hne,heq,hnn,hap,GP]
 ·have hl:0 < tr.length:=abZ.mpr c
  have hem:tr.isEmpty=false:=by
   cases tr with
   | nil=>exact absurd rfl c
   | cons a r=>rfl
  rw [hem] at hnn
  have hml:(tr.map Aa).length=tr.length:=aab ..
  obtain ⟨r,hr⟩:∃ r,tr[tr.length - 1]?=some r:=⟨_,aah (by omega)⟩
  have hrl:=R.row (tr.length - 1) (by omega)
  rw [aaw,hr] at hrl
  have hrl:0 < r.length/\r.length<=250:=hrl
  have e2:(tr.map Aa)[tr.length - 1]?=some (.lst (r.map D.int)):=by rw [aal,hr]; rfl
  have e1:ixN (tr.map Aa).length (-1)=some (tr.length - 1):=by rw [hml]; exact RT hl
  have a1:atD (tr.map Aa) (-1)=.ok (.lst (r.map D.int)):=by
   unfold atD; rw [e1]; show (match (tr.map Aa)[tr.length - 1]? with | some d=>Res.ok d | none=>Res.bad)=_; rw [e2]
  obtain ⟨x,xs,rfl⟩:∃ x xs,r=x :: xs:=by
   cases r with
   | nil=>exact absurd hrl.1 (by decide)
   | cons x xs=>exact ⟨x,xs,rfl⟩
  have a2:atD ((x :: xs).map D.int) 0=.ok (.int x):=GB ..
  have u1:=NP (F:=AV 0 (.int (x + 1))) (ds:=tr.map Aa) e1 e2 (es':=.int (x + 1) :: xs.map D.int) (by
   unfold AV; rw [ixz (by rw [aab]; exact hrl.1)]; rfl)
  generalize hds:(tr.map Aa).set (tr.length - 1) (.lst (.int (x + 1) :: xs.map D.int))=ds at *
  have hdl:ds.length=tr.length:=by rw [<- hds,aaF,hml]
  obtain ⟨es,he,hel⟩:∃ es,ds[0]?=some (.lst es)/\es.length<=250:=by
   rw [<- hds,ab6]
   by_cases z:tr.length - 1=0
   ·rw [if_pos z,if_pos (by rw [hml]; omega)]
    refine ⟨_,rfl,?_⟩
    have:=hrl.2
    rw [abj] at this ⊢
    rw [aab]; exact this
   ·rw [if_neg z,aal]
    obtain ⟨r0,hr0⟩:∃ r0,tr[0]?=some r0:=⟨_,aah (by omega)⟩
    have:=(R.row 0 hl).2
    rw [aaw,hr0] at this
    rw [hr0]
    refine ⟨r0.map D.int,rfl,?_⟩
    rw [aab]; exact this
  have u2:=NP (F:=umD .append [.int 4]) (ds:=ds) (i:=0) (j:=0) (by rw [hdl]; exact ixz hl) he (Bq es (.int 4) (by omega))
  have hap:=Bq (ds.set 0 (.lst (es ++ [.int 4]))) (.lst []) (by rw [aaF,hdl]; have:=R.len; omega)
  have u3:Bd (umD .append [.lst []]) [] (.lst (ds.set 0 (.lst (es ++ [.int 4]))))=some (.lst (ds.set 0 (.lst (es ++ [.int 4])) ++ [.lst []])):=by
   rw [Bd,hap]; rfl
  have hI:ev (.ixL (.nm 3) (.neg (.cI 1))) [some (Ac tr),some (.int f),some (Ac tr),some (Ac tr)]=.ok (.lst ((x :: xs).map D.int)):=by
   unfold Ac
   rw [ev,ev,ev,ev]
   exact a1
  generalize E.ixL (.nm 3) (.neg (.cI 1))=EJ at *
  have u1:Bd (AV 0 (.int (x + 1))) [(false,-1)] (Ac tr)=some (.lst ds):=u1
  clear T R hem hml hr hrl e2 e1 hds hdl he hel hap
  generalize Ac tr=TT at *
  generalize (x :: xs).map D.int=XX at *
  generalize D.lst (ds.set 0 (.lst (es ++ [.int 4])) ++ [.lst []])=d3 at *
  generalize D.lst (ds.set 0 (.lst (es ++ [.int 4])))=d2 at *
  generalize D.lst ds=d1 at *
  simp_arith [h1,h2,hL,hne,heq,hnn,hI,a2,GP,u1,u2,u3]
theorem FK {n m:Nat} (h:n < m):ixN m (n:Int)=some n:=by
 unfold ixN; rw [if_pos (by omega),if_pos (by omega),aaV]
theorem RU {k:Nat} {d:D} {ds:List D} (h:k<=ds.length) (hl:ds.length<=100000):umD .insert [.int (k:Int),d] ds=some (ds.take k ++ d :: ds.drop k):=by
 have e:DR ds.length (k:Int)=k:=by
  unfold DR
  rw [if_neg (by omega)]
  omega
 rw [umD,JZ,e]
 refine if_pos ⟨?_,?_,?_⟩
 ·show ds.length < 16777216; omega
 ·omega
 ·omega
theorem RV {k:Nat} {ds:List D} (h:k < ds.length) (hl:ds.length<=100000):umD .popAt [.int (k:Int)] ds=some (ds.eraseIdx k):=by
 rw [umD,un1,GO,FK h]
 refine (if_pos ⟨?_,?_⟩).trans rfl
 ·omega
 ·omega
theorem QW {a b c d e g h i j k l m:D} {y:Int} (h0:0<=y) (h1:y < 12) (P:D->Prop) (H:∀ x ∈ [a,b,c,d,e,g,h,i,j,k,l,m],P x):∃ v,atD [a,b,c,d,e,g,h,i,j,k,l,m] y=.ok v/\P v:=by
 obtain ⟨n,rfl⟩:∃ n:Nat,y=n:=⟨y.toNat,by omega⟩
 refine ⟨_,KC (xs:=[a,b,c,d,e,g,h,i,j,k,l,m]) (i:=n) (by show n < 12; omega),H _ (abB _)⟩
theorem NQ {a b c d e g h i j k l m:D} {P:D->Prop} (p1:P a) (p2:P b) (p3:P c) (p4:P d) (p5:P e) (p6:P g) (p7:P h) (p8:P i) (p9:P j) (p10:P k) (p11:P l) (p12:P m):∀ x ∈ [a,b,c,d,e,g,h,i,j,k,l,m],P x:=by
 intro x hx
 simp only [aai,abA,or_false] at hx
 rcases hx with rfl | rfl | rfl | rfl | rfl | rfl | rfl | rfl | rfl | rfl | rfl | rfl <;> assumption
theorem RW {y:Int} (h0:0<=y) (h1:y < 12):∃ v,Bz.den [.int y]=.ok v/\ES v:=by
 obtain ⟨v,hv,ho⟩:=QW (a:=.non) (b:=.bl true) (c:=.int (-1)) (d:=.int 1000000000000000001) (e:=.str "7") (g:=.tup [.int 7]) (h:=.lst [.int 7]) (i:=.int 100000000000000000000000000000000000000000000000000000000000) (j:=.bl false) (k:=.lst []) (l:=.dic [] []) (m:=.str "") h0 h1 ES (NQ ⟨rfl,rfl⟩ ⟨rfl,rfl⟩ ⟨rfl,rfl⟩ ⟨rfl,rfl⟩ ⟨rfl,by rw [D.sm,beq_self_eq_true]⟩ ⟨rfl,rfl⟩ ⟨rfl,rfl⟩ ⟨rfl,rfl⟩ ⟨rfl,rfl⟩ ⟨rfl,rfl⟩ ⟨rfl,rfl⟩ ⟨rfl,by rw [D.sm,beq_self_eq_true]⟩)
 refine ⟨v,(GX _ rfl).trans (Af ?_),ho⟩
 simp_arith [Cp,hv]
noncomputable def DK:E:=(.ix (.lst (.cons (.nm 0) (.cons (.lst (.cons (.lst .nil) .nil)) (.cons (.lst (.cons (.lst (.cons (.cI 3) .nil)) .nil)) (.cons (.lst (.cons (.lst (.cons (.cI 3) .nil)) (.cons (.lst (.cons (.cI 3) .nil)) .nil))) (.cons .cN (.cons (.tup .nil) (.cons (.cS "") (.cons (.lst (.cons .cN .nil)) (.cons (.cI 7) (.cons (.bin .add (.nm 0) (.lst (.cons (.lst (.cons (.cI 5) .nil)) .nil))) (.cons (.lst (.cons (.lst (.cons (.cB true) .nil)) .nil)) (.cons .dNew .nil))))))))))))) (.ix (.nm 2) (.cI 1)))
theorem RX {tr:List (List Int)} (hl:tr.length<=9) {Y:List D} {y1:Int} (a1:atD Y 1=.ok (.int y1)) (h0:0<=y1) (h1:y1 < 12) (F:D) (o3 o4 o5 o6 o7:Option D):∃ x,ev DK [some (Ac tr),some F,some (.lst Y),o3,o4,o5,o6,o7]=.ok x/\okV x:=by
 have hadd:=DH (tr.map Aa) [.lst [.int 5]] (by rw [aab,aa2]; omega)
 obtain ⟨v,hv,ho⟩:=QW (a:=Ac tr) (b:=.lst [.lst []]) (c:=.lst [.lst [.int 3]]) (d:=.lst [.lst [.int 3],.lst [.int 3]]) (e:=.non) (g:=.tup []) (h:=.str "") (i:=.lst [.non]) (j:=.int 7) (k:=.lst (tr.map Aa ++ [.lst [.int 5]])) (l:=.lst [.lst [.bl true]]) (m:=.dic [] []) h0 h1 okV (NQ (F9 tr) ⟨rfl,rfl⟩ ⟨rfl,rfl⟩ ⟨rfl,rfl⟩ ⟨rfl,rfl⟩ ⟨rfl,rfl⟩ ⟨rfl,by rw [D.sm,beq_self_eq_true]⟩ ⟨rfl,rfl⟩ ⟨rfl,rfl⟩ (EA fun d hd=>by
  rcases aae.mp hd with hd | hd
  ·exact DJ d hd
  ·rw [aaG.mp hd]; exact ⟨rfl,rfl⟩) ⟨rfl,rfl⟩ ⟨rfl,rfl⟩)
 refine ⟨v,?_,ho⟩
 unfold Ac at *
 generalize tr.map Aa ++ [.lst [.int 5]]=A at *
 generalize tr.map Aa=T at *
 simp_arith [DK,hadd,a1,hv]
noncomputable def u23:Ss:=(.cons (.asg 7 1 (.bi .list (.cons (.nm 0) .nil)))
 (.cons (.set 7 [] (.nm 3) (.nm 6))
 (.cons (.ret (.nm 7))
 .nil)))
noncomputable def p23:Ss:=(.cons (.mut 6 [] .popAt (.cons (.nm 5) .nil)) .nil)
noncomputable def i23:Ss:=(.cons (.mut 6 [] .insert (.cons (.nm 5) (.cons (.cI 3) .nil))) .nil)
noncomputable def s23:Ss:=(.cons (.set 6 [] (.nm 5) (.call Bz (.cons (.ix (.nm 2) (.cI 1)) .nil))) .nil)
noncomputable def r23:Ss:=(.cons (.ret (.bi .tuple (.cons (.nm 0) .nil))) .nil)
noncomputable def v23:Ss:=(.cons (.asg 6 0 (.bi .tupleL (.cons (.nm 6) .nil))) .nil)
noncomputable def w23:Ss:=(.cons (.ret (.call Ak (.cons (.ix (.nm 0) (.cI 0)) (.cons (.bin .add (.cI 2) (.bin .mod (.bin .add (.nm 1) (.ix (.nm 2) (.cI 1))) (.cI 7))) .nil)))) .nil)
noncomputable def ET (c:Int) (A r:Ss):Ss:=.cons (.iff (.cmp .eq (.ix (.nm 2) (.cI 0)) (.cI c)) A .nil) r
noncomputable def if6 (A r:Ss):Ss:=.cons (.iff (.bo true (.cons (.cmp .eq (.ix (.nm 2) (.cI 0)) (.cI 6)) (.cons (.cmp .eq (.bin .mod (.ix (.nm 2) (.cI 1)) (.cI 2)) (.cI 0)) .nil))) A .nil) r
noncomputable def t23:Ss:=ET 3 p23 (ET 4 i23 (ET 5 s23 (if6 r23 (ET 6 v23 (ET 7 w23 u23)))))
section
variable {A r:Ss} {c y0 y1:Int} {δ:Fr} {Y:List D} (hg:get δ 2=.ok (.lst Y)) (a0:atD Y 0=.ok (.int y0))
include hg a0
theorem At (h:(y0==c)=false):exs (ET c A r) δ=exs r δ:=by
 simp_arith [ET,hg,a0,h]
theorem Fs (h:(y0==c)=true):exs (ET c A r) δ=(exs A δ).then (exs r):=by
 simp_arith [ET,hg,a0,h]
theorem GD (h:(y0==6)=false):exs (if6 A r) δ=exs r δ:=by
 simp_arith [if6,hg,a0,h]
theorem RY (a1:atD Y 1=.ok (.int y1)) (h:(y0==6)=true) (h2:(y1 % 2==0)=true):exs (if6 A r) δ=(exs A δ).then (exs r):=by
 have l2:(0:Int) < 2:=by decide
 simp_arith [if6,hg,a0,a1,h,h2,l2]
theorem SH (a1:atD Y 1=.ok (.int y1)) (h:(y0==6)=true) (h2:(y1 % 2==0)=false):exs (if6 A r) δ=exs r δ:=by
 have l2:(0:Int) < 2:=by decide
 simp_arith [if6,hg,a0,a1,h,h2,l2]
end
section
variable {TT RR Y A Q:List D} {f n j:Nat} {y1:Int} {X:D} (a1:atD Y 1=.ok (.int y1))
theorem Fu {o0 o1 o2 o4:Option D} (hm:AV (n:Int) X TT=some A):exs u23 [some (.lst TT),o1,o2,some (.int n),o4,o0,some X,none]=.ret (.lst A):=by
 simp_arith [u23,hm]
theorem QX {k:Int} {o0 o1 o2 o3 o4:Option D} (hp:umD .popAt [.int k] RR=some Q):exs p23 [o0,o1,o2,o3,o4,some (.int k),some (.lst RR),none]=.nxt [o0,o1,o2,o3,o4,some (.int k),some (.lst Q),none]:=by
 simp_arith [p23,hp]
theorem RZ (a0:atD Y 0=.ok (.int 3)) (hp:umD .popAt [.int (j:Int)] RR=some Q) (hm:AV (n:Int) (.lst Q) TT=some A):exs t23 [some (.lst TT),some (.int f),some (.lst Y),some (.int n),some (.lst RR),some (.int j),some (.lst RR),none]=.ret (.lst A):=by
 rw [t23,Fs rfl a0 rfl]
 have e:exs p23 [some (.lst TT),some (.int f),some (.lst Y),some (.int n),some (.lst RR),some (.int j),some (.lst RR),none]=.nxt [some (.lst TT),some (.int f),some (.lst Y),some (.int n),some (.lst RR),some (.int j),some (.lst Q),none]:=QX hp
 rw [e,Out.then_nxt,At rfl a0 rfl,At rfl a0 rfl,GD rfl a0 rfl,At rfl a0 rfl,At rfl a0 rfl,Fu hm]
theorem R4 (a0:atD Y 0=.ok (.int 4)) (hp:umD .insert [.int (j:Int),.int 3] RR=some Q) (hm:AV (n:Int) (.lst Q) TT=some A):exs t23 [some (.lst TT),some (.int f),some (.lst Y),some (.int n),some (.lst RR),some (.int j),some (.lst RR),none]=.ret (.lst A):=by
 rw [t23,At rfl a0 rfl,Fs rfl a0 rfl]
 have e:exs i23 [some (.lst TT),some (.int f),some (.lst Y),some (.int n),some (.lst RR),some (.int j),some (.lst RR),none]=.nxt [some (.lst TT),some (.int f),some (.lst Y),some (.int n),some (.lst RR),some (.int j),some (.lst Q),none]:=by simp_arith [i23,hp]
 rw [e,Out.then_nxt,At rfl a0 rfl,GD rfl a0 rfl,At rfl a0 rfl,At rfl a0 rfl,Fu hm]
include a1
theorem R5 (a0:atD Y 0=.ok (.int 5)) (ho:Bz.den [.int y1]=.ok X) (hp:AV (j:Int) X RR=some Q) (hm:AV (n:Int) (.lst Q) TT=some A):exs t23 [some (.lst TT),some (.int f),some (.lst Y),some (.int n),some (.lst RR),some (.int j),some (.lst RR),none]=.ret (.lst A):=by
 rw [t23,At rfl a0 rfl,At rfl a0 rfl,Fs rfl a0 rfl]
 have e:exs s23 [some (.lst TT),some (.int f),some (.lst Y),some (.int n),some (.lst RR),some (.int j),some (.lst RR),none]=.nxt [some (.lst TT),some (.int f),some (.lst Y),some (.int n),some (.lst RR),some (.int j),some (.lst Q),none]:=by simp_arith [s23,a1,ho,hp]
 rw [e,Out.then_nxt,GD rfl a0 rfl,At rfl a0 rfl,At rfl a0 rfl,Fu hm]
theorem R6 (a0:atD Y 0=.ok (.int 6)) (c:(y1 % 2==0)=true):exs t23 [some (.lst TT),some (.int f),some (.lst Y),some (.int n),some (.lst RR),some (.int j),some (.lst RR),none]=.ret (.tup TT):=by
 rw [t23,At rfl a0 rfl,At rfl a0 rfl,At rfl a0 rfl,RY rfl a0 a1 rfl c]
 have e:exs r23 [some (.lst TT),some (.int f),some (.lst Y),some (.int n),some (.lst RR),some (.int j),some (.lst RR),none]=.ret (.tup TT):=by simp_arith [r23]
 rw [e,Out.then_ret]
theorem QY (a0:atD Y 0=.ok (.int 6)) (c:(y1 % 2==0)=false) (hm:AV (n:Int) (.tup RR) TT=some A):exs t23 [some (.lst TT),some (.int f),some (.lst Y),some (.int n),some (.lst RR),some (.int j),some (.lst RR),none]=.ret (.lst A):=by
 rw [t23,At rfl a0 rfl,At rfl a0 rfl,At rfl a0 rfl,SH rfl a0 a1 rfl c,Fs rfl a0 rfl]
 have e:exs v23 [some (.lst TT),some (.int f),some (.lst Y),some (.int n),some (.lst RR),some (.int j),some (.lst RR),none]=.nxt [some (.lst TT),some (.int f),some (.lst Y),some (.int n),some (.lst RR),some (.int j),some (.tup RR),none]:=by simp_arith [v23]
 rw [e,Out.then_nxt,At rfl a0 rfl,Fu hm]
theorem R7 (a0:atD Y 0=.ok (.int 7)) {R0:D} (h0:atD TT 0=.ok R0) (hx:Ak.den [R0,.int (2 + ((f:Int) + y1) % 7)]=.ok X):exs t23 [some (.lst TT),some (.int f),some (.lst Y),some (.int n),some (.lst RR),some (.int j),some (.lst RR),none]=.ret X:=by
 have l7:(0:Int) < 7:=by decide
 rw [t23,At rfl a0 rfl,At rfl a0 rfl,At rfl a0 rfl,GD rfl a0 rfl,At rfl a0 rfl,Fs rfl a0 rfl]
 have e:exs w23 [some (.lst TT),some (.int f),some (.lst Y),some (.int n),some (.lst RR),some (.int j),some (.lst RR),none]=.ret X:=by simp_arith [w23,a1,h0,hx,l7]
 rw [e,Out.then_ret]
omit a1
theorem R8 (a0:atD Y 0=.ok (.int 8)) (hm:AV (n:Int) (.lst RR) TT=some A):exs t23 [some (.lst TT),some (.int f),some (.lst Y),some (.int n),some (.lst RR),some (.int j),some (.lst RR),none]=.ret (.lst A):=by
 rw [t23,At rfl a0 rfl,At rfl a0 rfl,At rfl a0 rfl,GD rfl a0 rfl,At rfl a0 rfl,At rfl a0 rfl,Fu hm]
end
noncomputable def h23 (t:Ss):Ss:=(.cons (.iff (.bo false (.cons (.cmp .eq (.ix (.nm 2) (.cI 0)) (.cI 0)) (.cons (.cmp .eq (.nm 0) (.lst .nil)) .nil)))
 (.cons (.ret (.ix (.lst (.cons (.nm 0) (.cons (.lst (.cons (.lst .nil) .nil)) (.cons (.lst (.cons (.lst (.cons (.cI 3) .nil)) .nil)) (.cons (.lst (.cons (.lst (.cons (.cI 3) .nil)) (.cons (.lst (.cons (.cI 3) .nil)) .nil))) (.cons .cN (.cons (.tup .nil) (.cons (.cS "") (.cons (.lst (.cons .cN .nil)) (.cons (.cI 7) (.cons (.bin .add (.nm 0) (.lst (.cons (.lst (.cons (.cI 5) .nil)) .nil))) (.cons (.lst (.cons (.lst (.cons (.cB true) .nil)) .nil)) (.cons .dNew .nil))))))))))))) (.ix (.nm 2) (.cI 1))))
 .nil)
 .nil)
 (.cons (.asg 3 0 (.bin .mod (.ix (.nm 2) (.cI 2)) (.bi .len (.cons (.nm 0) .nil))))
 (.cons (.asg 4 0 (.ix (.nm 0) (.nm 3)))
 (.cons (.asg 5 0 (.bin .mod (.ix (.nm 2) (.cI 3)) (.bi .len (.cons (.nm 4) .nil))))
 (.cons (.asg 6 1 (.bi .list (.cons (.nm 4) .nil)))
 (.cons (.iff (.cmp .eq (.ix (.nm 2) (.cI 0)) (.cI 1))
 (.cons (.ret (.bin .add (.slc (.nm 0) .cN (.nm 3)) (.slc (.nm 0) (.bin .add (.nm 3) (.cI 1)) .cN)))
 .nil)
 .nil)
 (.cons (.iff (.cmp .eq (.ix (.nm 2) (.cI 0)) (.cI 2))
 (.cons (.ret (.bin .add (.bin .add (.slc (.nm 0) .cN (.nm 3)) (.lst (.cons (.bi .list (.cons (.nm 4) .nil)) .nil))) (.slc (.nm 0) (.nm 3) .cN)))
 .nil)
 .nil) t)))))))
theorem QZ:Ai=h23 t23:=rfl
theorem R9 {TT RR Y:List D} {f n j:Nat} {y0 y2 y3:Int} {t:Ss} (a0:atD Y 0=.ok (.int y0)) (a2:atD Y 2=.ok (.int y2)) (a3:atD Y 3=.ok (.int y3)) (c0:(y0==0)=false) (c1:(y0==1)=false) (c2:(y0==2)=false) (hnil:Pu.c2 .eq (.lst TT) (.lst [])=.ok (.bl false)) (hlp:(0:Int) < (TT.length:Int)) (en:y2 % (TT.length:Int)=n) (an:atD TT (n:Int)=.ok (.lst RR)) (hrp:(0:Int) < (RR.length:Int)) (ej:y3 % (RR.length:Int)=j):exs (h23 t) [some (.lst TT),some (.int f),some (.lst Y),none,none,none,none,none]=exs t [some (.lst TT),some (.int f),some (.lst Y),some (.int n),some (.lst RR),some (.int j),some (.lst RR),none]:=by
 simp_arith [h23,a0,a2,a3,c0,c1,c2,hnil,hlp,en,an,hrp,ej]
theorem Sa {tr:List (List Int)} {f:Nat} (hf:2<=f) (hf8:f<=8) (T:IsT f tr) {Y:List D} {y0 y1 y2 y3:Int} (a0:atD Y 0=.ok (.int y0)) (a1:atD Y 1=.ok (.int y1)) (a2:atD Y 2=.ok (.int y2)) (a3:atD Y 3=.ok (.int y3)) (h00:0<=y0) (h01:y0 < 9) (h10:0<=y1) (h11:y1 < 12):∃ x,Bo.den [Ac tr,.int f,.lst Y]=.ok x/\okV x:=by
 have R:=Mg hf T
 obtain ⟨x1,hx1,ok1⟩:=RX (tr:=tr) R.len a1 h10 h11 (.int f) none none none none none
 have hnil:=Hh (tr.map Aa) (D1 tr)
 by_cases c0:y0=0
 ·subst c0
  refine ⟨x1,(BV _ rfl).trans (Af ?_),ok1⟩
  show exs Ai [some (Ac tr),some (.int f),some (.lst Y),none,none,none,none,none]=_
  rw [Ai]
  change exs (.cons (.iff _ (.cons (.ret DK) .nil) _) _) _=_
  generalize DK=E1 at *
  generalize Ac tr=TT at *
  simp_arith [a0,hx1]
 have c0:(y0==0)=false:=by rw [beq_eq_false_iff_ne]; exact c0
 by_cases c:tr=[]
 ·subst c
  have hnil:c2 .eq (Ac []) (.lst [])=.ok (.bl true):=hnil
  refine ⟨x1,(BV _ rfl).trans (Af ?_),ok1⟩
  show exs Ai [some (Ac []),some (.int f),some (.lst Y),none,none,none,none,none]=_
  rw [Ai]
  change exs (.cons (.iff _ (.cons (.ret DK) .nil) _) _) _=_
  generalize DK=E1 at *
  generalize Ac []=TT at *
  simp_arith [a0,c0,hnil,hx1]
 have hl:0 < tr.length:=abZ.mpr c
 have hem:(tr.map Aa).isEmpty=false:=by
  cases tr with
  | nil=>exact absurd rfl c
  | cons a r=>rfl
 rw [hem] at hnil
 have hml:((tr.map Aa).length:Int)=(tr.length:Int):=by rw [aab]
 have hlp:(0:Int) < (tr.length:Int):=by omega
 obtain ⟨n,hn,en⟩:=FI (y:=y2) hl
 obtain ⟨r,hr⟩:∃ r,tr[n]?=some r:=⟨_,aah (by omega)⟩
 have hrl:=R.row n hn
 rw [aaw,hr] at hrl
 have hrl:0 < r.length/\r.length<=250:=hrl
 obtain ⟨j,hj,ej⟩:=FI (y:=y3) hrl.1
 have hrm:((r.map D.int).length:Int)=(r.length:Int):=by rw [aab]
 have hrp:(0:Int) < (r.length:Int):=by omega
 have an:atD (tr.map Aa) (n:Int)=.ok (.lst (r.map D.int)):=by
  unfold atD
  rw [FK (by rw [aab]; exact hn)]
  show (match (tr.map Aa)[n]? with | some d=>Res.ok d | none=>Res.bad)=_
  rw [aal,hr]; rfl
 have hmade:∀ d,AV (n:Int) d (tr.map Aa)=some ((tr.map Aa).set n d):=fun d=>by
  unfold AV; rw [FK (by rw [aab]; exact hn)]; rfl
 have okM:∀ d,okR d->okV (.lst ((tr.map Aa).set n d)):=fun d hd=>EA fun e he=>by
  rcases aaJ he with he | rfl
  ·exact DJ e he
  ·exact hd
 have ct:=QN (tr.map Aa) n
 have cf1:=IC (tr.map Aa) (n + 1)
 rw [show ((n + 1:Nat):Int)=(n:Int) + 1 from rfl] at cf1
 have cf:=IC (tr.map Aa) n
 have lt:((tr.map Aa).take n).length<=9:=by rw [abg,aab]; have:=R.len; omega
 have ld:∀ m,((tr.map Aa).drop m).length<=9:=fun m=>by rw [abh,aab]; have:=R.len; omega
 have okt:∀ d ∈ (tr.map Aa).take n,okR d:=fun d hd=>DJ d (aa8 hd)
 have okd:∀ m,∀ d ∈ (tr.map Aa).drop m,okR d:=fun m d hd=>DJ d (aa7 hd)
 have hcase:y0=1\/y0=2\/y0=3\/y0=4\/y0=5\/y0=6\/y0=7\/y0=8:=by
  rw [beq_eq_false_iff_ne] at c0; omega
 obtain ⟨od,hod,oko⟩:=RW h10 h11
 have hro:=JH r
 have hT:Bo.den [Ac tr,.int f,.lst Y]=run 8 Ai [.lst (tr.map Aa),.int f,.lst Y]:=BV _ rfl
 rw [hT]
 have hrE:∀ d ∈ r.map D.int,ES d:=QT
 have htr0:∃ x,Ak.den [Aa (tr.getD 0 []),.int ((2 + (f + y1) % 7:Int))]=.ok x/\okV x:=by
  obtain ⟨g,hg⟩:∃ g:Nat,(2 + ((f:Int) + y1) % 7:Int)=(g:Int):=⟨(2 + ((f:Int) + y1) % 7:Int).toNat,by omega⟩
  have hp:(tr.getD 0 []).length<=200:=by
   rcases T.dm with z | ⟨p,h,p1,p2,hh,_,hd⟩
   ·exact absurd z c
   ·have:=(JC hd (aas h)).1
    rw [F7] at this; omega
  obtain ⟨t2,h2,_⟩:=IE (rs:=tr.getD 0 []) (f:=g) (by omega) (by omega) hp
  exact ⟨_,by rw [hg]; exact h2,F9 t2⟩
 obtain ⟨x7,hx7,ok7⟩:=htr0
 have at0':atD (tr.map Aa) 0=.ok (Aa (tr.getD 0 [])):=by
  cases tr with
  | nil=>exact absurd rfl c
  | cons a r=>exact GB ..
 clear T R hem hx1 ok1 x1
 generalize Aa (tr.getD 0 [])=R0 at *
 generalize hTT:tr.map Aa=TT at *
 generalize hRR:r.map D.int=RR at *
 have hrr:RR.length=r.length:=by rw [<- hRR,aab]
 rcases hcase with rfl | rfl | rfl | rfl | rfl | rfl | rfl | rfl
 ·-- a row is left out
  have hadd:=DH (TT.take n) (TT.drop (n + 1)) (by have:=ld (n + 1); omega)
  refine ⟨.lst (TT.take n ++ TT.drop (n + 1)),Af ?_,EA fun d hd=>?_⟩
  ·generalize TT.take n ++ TT.drop (n + 1)=A at *
   simp_arith [Ai,a0,a2,a3,hnil,hml,hlp,en,an,hrm,hrp,ej,ct,cf1,hadd]
  ·rcases aae.mp hd with hd | hd
   ·exact okt d hd
   ·exact okd _ d hd
 ·-- a row stands twice
  have hadd1:=DH (TT.take n) [.lst RR] (by rw [aa2]; omega)
  have hadd2:=DH (TT.take n ++ [.lst RR]) (TT.drop n) (by rw [aaD,aa2]; have:=ld n; omega)
  refine ⟨.lst (TT.take n ++ [.lst RR] ++ TT.drop n),Af ?_,EA fun d hd=>?_⟩
  ·generalize TT.take n ++ [.lst RR] ++ TT.drop n=A at *
   generalize TT.take n ++ [.lst RR]=B at *
   simp_arith [Ai,a0,a2,a3,hnil,hml,hlp,en,an,hrm,hrp,ej,ct,cf,hadd1,hadd2]
  ·rcases aae.mp hd with hd | hd
   ·rcases aae.mp hd with hd | hd
    ·exact okt d hd
    ·rw [aaG.mp hd,<- hRR]; exact hro
   ·exact okd _ d hd
 all_goals (
  have hlp2:(0:Int) < (TT.length:Int):=by rw [hml]; exact hlp
  have en2:y2 % (TT.length:Int)=n:=by rw [hml]; exact en
  have hrp2:(0:Int) < (RR.length:Int):=by rw [hrm]; exact hrp
  have ej2:y3 % (RR.length:Int)=j:=by rw [hrm]; exact ej
  have hP:=R9 (f:=f) (t:=t23) a0 a2 a3 rfl rfl rfl hnil hlp2 en2 an hrp2 ej2
  have fin:∀ d,exs t23 [some (.lst TT),some (.int f),some (.lst Y),some (.int n),some (.lst RR),some (.int j),some (.lst RR),none]=.ret d->run 8 Ai [.lst TT,.int f,.lst Y]=.ok d:=fun d h=>Af (QZ ▸ hP.trans h))
 ·exact ⟨_,fin _ (RZ a0 (RV (by omega) (by omega)) (hmade _)),okM _ (FJ fun d hd=>hrE d (List.mem_of_mem_eraseIdx hd))⟩
 ·refine ⟨_,fin _ (R4 a0 (RU (by omega) (by omega)) (hmade _)),okM _ (FJ fun d hd=>?_)⟩
  rcases aae.mp hd with hd | hd
  ·exact hrE d (aa8 hd)
  ·rcases aai.mp hd with rfl | hd
   ·exact JI 3
   ·exact hrE d (aa7 hd)
 ·have hset:AV (j:Int) od RR=some (RR.set j od):=by
   unfold AV; rw [FK (by omega)]; rfl
  refine ⟨_,fin _ (R5 a1 a0 hod hset (hmade _)),okM _ (FJ fun d hd=>?_)⟩
  rcases aaJ hd with hd | rfl
  ·exact hrE d hd
  ·exact oko
 ·by_cases c2:y1 % 2=0
  ·refine ⟨_,fin _ (R6 a1 a0 (beq_iff_eq.mpr c2)),rfl,Mc fun d hd=>?_⟩
   rw [<- hTT] at hd; exact (DJ d hd).2
  ·exact ⟨_,fin _ (QY a1 a0 (beq_eq_false_iff_ne.mpr c2) (hmade _)),okM _ (Pc hrE)⟩
 ·exact ⟨x7,fin _ (R7 a1 a0 at0' hx7),ok7⟩
 ·exact ⟨_,fin _ (R8 a0 (hmade _)),okM _ (FJ hrE)⟩
theorem SJ {p f:Nat} (hf:2<=f) (hp:1<=p) (hp2:p<=256):∃ h,h<=8/\Hs p f h:=by
 refine Kv hf hp 8 (aay (show p<=2 ^ 8 by omega) (abY hf 8))
section
variable {rs:List Int} {f h:Nat} (hf:2<=f) (hf8:f<=8) (H:Hs rs.length f h) (hh:h<=8) (hn:rs.length<=250)
include hf hf8 H hh hn
theorem Nv (tr co:D) (l j:Nat) (hl:l<=h) (hj:j < cnt rs.length f l) (o7 o8:Option D):∃ o7' o8',exs Au [some (Aa rs),some (.int f),some tr,some co,some (.int l),some (Aa (AT rs f l j)),some (.int j),o7,o8]=.nxt [some (Aa rs),some (.int f),some tr,some co,some (.int l),some (Aa (AT rs f l (j + 1))),some (.int j),o7',o8']:=by
 have hr:=Hi rs.length f l j hf8 (by omega)
 have hlt:=(Iy (show 1<=f by omega)).mp hj
 have hw:0 < f ^ l:=abw (by omega)
 have hc:=JA (rs:=rs) (a:=j * f ^ l) (b:=min rs.length (j * f ^ l + f ^ l)) (by omega) (by omega)
 have hm:=L3 (rs:=rs) (a:=j * f ^ l) (b:=min rs.length (j * f ^ l + f ^ l)) (by omega) (by omega)
 have hcl:=Fq (p:=rs.length) (f:=f) (l:=l) (by omega)
 have hap:=Bq ((AT rs f l j).map .int) (.int (mxR rs (j * f ^ l) (min rs.length (j * f ^ l + f ^ l)))) (by unfold AT; simp; omega)
 have hi:=EQ ((rs.drop (j * f ^ l)).take (min rs.length (j * f ^ l + f ^ l) - j * f ^ l))
 refine ⟨some (.int ((j * f ^ l:Nat):Int)),some (.int ((min rs.length (j * f ^ l + f ^ l):Nat):Int)),?_⟩
 rw [IB]
 unfold Aa
 rw [aaq]
 generalize mxR rs (j * f ^ l) (min rs.length (j * f ^ l + f ^ l))=M at *
 generalize (rs.drop (j * f ^ l)).take (min rs.length (j * f ^ l + f ^ l) - j * f ^ l)=ys at *
 generalize min rs.length (j * f ^ l + f ^ l)=e at *
 generalize j * f ^ l=a at *
 unfold Hv at hr
 generalize (AT rs f l j).map D.int=zs at *
 simp_arith [Au,aab,hr,Da,DQ,hc,hi,DP,hm,hap]
theorem Pd (tr:D) (l:Nat) (hl:l<=h) (o6 o7 o8:Option D):∃ o6' o7' o8',BS (.nm 6) (exs Au) (Ar 0 (cnt rs.length f l)) [some (Aa rs),some (.int f),some tr,some (Am (lvD rs.length f h)),some (.int l),some (Aa []),o6,o7,o8]=.nxt [some (Aa rs),some (.int f),some tr,some (Am (lvD rs.length f h)),some (.int l),some (Aa (AT rs f l (cnt rs.length f l))),o6',o7',o8']:=by
 obtain ⟨δ',e,o6',o7',o8',rfl⟩:=AY (tg:=.nm 6) (b:=exs Au) (fun j δ=>∃ o6 o7 o8,δ=[some (Aa rs),some (.int f),some tr,some (Am (lvD rs.length f h)),some (.int l),some (Aa (AT rs f l j)),o6,o7,o8]) (ds:=Ar 0 (cnt rs.length f l)) (δ:=[some (Aa rs),some (.int f),some tr,some (Am (lvD rs.length f h)),some (.int l),some (Aa []),o6,o7,o8]) 0 ⟨o6,o7,o8,rfl⟩ (by
  rintro j d δ hd ⟨o6,o7,o8,rfl⟩
  obtain ⟨rfl,hj⟩:=A7 hd
  rw [abk,aaX]
  obtain ⟨q7,q8,e⟩:=Nv hf hf8 H hh hn tr (Am (lvD rs.length f h)) l j hl (by omega) o7 o8
  exact ⟨_,_,rfl,e,some (.int j),q7,q8,rfl⟩)
 rw [BI,abV,aaV,aaX] at e
 exact ⟨o6',o7',o8',e⟩
theorem Mi (l:Nat) (hl:l<=h) (o5 o6 o7 o8:Option D):∃ o5' o6' o7' o8',exs AB [some (Aa rs),some (.int f),some (Ac (A3 rs f l)),some (Am (lvD rs.length f h)),some (.int l),o5,o6,o7,o8]=.nxt [some (Aa rs),some (.int f),some (Ac (A3 rs f (l + 1))),some (Am (lvD rs.length f h)),some (.int l),o5',o6',o7',o8']:=by
 obtain ⟨o6',o7',o8',e⟩:=Pd hf hf8 H hh hn (Ac (A3 rs f l)) l hl o6 o7 o8
 have h5:=Iz (xs:=lvD rs.length f h) (i:=l) (by rw [Bb]; omega)
 rw [DI hl] at h5
 have hcl:=Fq (p:=rs.length) (f:=f) (l:=l) (by omega)
 have hr:=BD (a:=0) (b:=(cnt rs.length f l:Int)) (by omega) (by omega) (by omega) (by omega)
 have hap:=Bq ((A3 rs f l).map Aa) (Aa (AT rs f l (cnt rs.length f l))) (by unfold A3; simp; omega)
 refine ⟨some (Aa (AT rs f l (cnt rs.length f l))),o6',o7',o8',?_⟩
 rw [Hj]
 unfold Ac Am at *
 rw [aaq]
 generalize AT rs f l (cnt rs.length f l)=zs at *
 unfold Aa at e hap ⊢
 rw [abE] at e
 simp_arith [AB,h5,hr,e,hap]
theorem KG (hn1:1<=rs.length):Ak.den [Aa rs,.int f]=.ok (Ac (A3 rs f (h + 1))):=by
 have hc:=EO hf hf8 H hh hn1
 have hr:=BD (a:=0) (b:=((h + 1:Nat):Int)) (by omega) (by omega) (by omega) (by omega)
 obtain ⟨δ',e,o4,o5,o6,o7,o8,rfl⟩:=AY (tg:=.nm 4) (b:=exs AB) (fun l δ=>∃ o4 o5 o6 o7 o8,δ=[some (Aa rs),some (.int f),some (Ac (A3 rs f l)),some (Am (lvD rs.length f h)),o4,o5,o6,o7,o8]) (ds:=Ar 0 ((h + 1:Nat):Int)) (δ:=[some (Aa rs),some (.int f),some (Ac []),some (Am (lvD rs.length f h)),none,none,none,none,none]) 0 ⟨none,none,none,none,none,rfl⟩ (by
  rintro l d δ hd ⟨o4,o5,o6,o7,o8,rfl⟩
  obtain ⟨rfl,hl⟩:=A7 hd
  rw [abk,aaX]
  obtain ⟨q5,q6,q7,q8,e⟩:=Mi hf hf8 H hh hn l (by omega) o5 o6 o7 o8
  exact ⟨_,_,rfl,e,some (.int l),q5,q6,q7,q8,rfl⟩)
 rw [BI,show 0 + (((h + 1:Nat):Int) - 0).toNat=h + 1 by omega] at e
 have hll:=Bb rs.length f h
 refine (CM _ rfl).trans (Af ?_)
 unfold Am at hc e
 unfold Ac at e ⊢
 rw [abE] at e
 unfold Aa at e ⊢
 simp_arith [Ba,aab,hc,hll,hr,e]
end
theorem at9 {a b c d e g h i j:D} {y:Int} (h0:0<=y) (h1:y < 9) (P:D->Prop) (H:∀ x ∈ [a,b,c,d,e,g,h,i,j],P x):∃ v,atD [a,b,c,d,e,g,h,i,j] y=.ok v/\P v:=by
 obtain ⟨n,rfl⟩:∃ n:Nat,y=n:=⟨y.toNat,by omega⟩
 refine ⟨_,KC (xs:=[a,b,c,d,e,g,h,i,j]) (i:=n) (by show n < 9; omega),H _ (abB _)⟩
theorem SK:b2 .pow (.int 10) (.int 17)=.ok (.int 100000000000000000):=by
 rw [Dm _ _ (by decide) (by decide) (by decide)]; rfl
theorem Sb {tr:List (List Int)} (n j:Nat) (v:Int):(tr.map Aa).set n (.lst (((tr.getD n []).map D.int).set j (.int v)))=(ID tr n j v).map Aa:=by
 unfold ID
 rw [aa9]
 unfold Aa
 rw [aa9]
theorem Nw {tr:List (List Int)} (T:Rw23 tr) (n j:Nat) (v:Int):Rw23 (ID tr n j v):=by
 unfold ID
 refine ⟨by rw [aaF]; exact T.len,fun m hm=>?_⟩
 rw [aaF] at hm
 have:=T.row m hm
 rw [aaw,ab6]
 by_cases c:n=m
 ·subst c
  rw [if_pos rfl,if_pos hm]
  show 0 < ((tr.getD n []).set j v).length/\((tr.getD n []).set j v).length<=250
  rw [aaF]; exact this
 ·rw [if_neg c,<- aaw]; exact this
theorem Q0 {tr:List (List Int)} (T:Rw23 tr) {S R:D} {f:Nat} {Y:List D} {y2 y3 y4 y5:Int} (k:Nat) (a2:atD Y 2=.ok (.int y2)) (a3:atD Y (3 + 3 * (k:Int))=.ok (.int y3)) (a4:atD Y (4 + 3 * (k:Int))=.ok (.int y4)) (a5:atD Y (5 + 3 * (k:Int))=.ok (.int y5)) (h0:0<=y5) (h1:y5 < 9) (o6:Option D) :
  ∃ tr' o6',Rw23 tr'/\exs BC [some S,some R,some (.int f),some (.lst Y),some (Ac tr),some (.int k),o6,none,none,none]=.nxt [some S,some R,some (.int f),some (.lst Y),some (Ac tr'),some (.int k),o6',none,none,none]:=by
 have hnn:=JD tr
 by_cases c2:y2=1
 ·have c2:(y2==1)=true:=beq_iff_eq.mpr c2
  by_cases c:tr=[]
  ·subst c
   have hnn:Pu.c2 .ne (Ac []) (.lst [])=.ok (.bl false):=hnn
   refine ⟨[],o6,T,?_⟩
   rw [BC]
   generalize Ac []=TT at *
   simp_arith [a2,c2,hnn]
  ·have hl:0 < tr.length:=abZ.mpr c
   have hem:tr.isEmpty=false:=by
    cases tr with
    | nil=>exact absurd rfl c
    | cons a r=>rfl
   rw [hem] at hnn
   have hnn:Pu.c2 .ne (.lst (tr.map Aa)) (.lst [])=.ok (.bl true):=hnn
   obtain ⟨n,hn,en⟩:=FI (y:=y3) hl
   have hrl:=T.row n hn
   obtain ⟨j,hj,ej⟩:=FI (y:=y4) hrl.1
   obtain ⟨v,hv,v',rfl⟩:=at9 (a:=.int 0) (b:=.int 1) (c:=.int 7) (d:=.int 1000000000000000000) (e:=.int 100000000000000000) (g:=.int 2) (h:=.int 3) (i:=.int 4) (j:=.int 5) h0 h1 (fun d=>∃ v,d=.int v) (fun x hx=>by
    simp only [aai,abA,or_false] at hx
    rcases hx with rfl | rfl | rfl | rfl | rfl | rfl | rfl | rfl | rfl <;> exact ⟨_,rfl⟩)
   have hL:∀ F:Int->D->Out,Gm (.ok (.int (n:Int))) (.ok (.lst (tr.map Aa))) F=F n (.lst ((tr.getD n []).map D.int)):=fun F=>O6 (No hn)
   have q2:tr[n]?=some (tr.getD n []):=by
    rw [aaw,aah hn]; rfl
   have e1:(tr.map Aa)[n]?=some (.lst ((tr.getD n []).map D.int)):=by rw [aal,q2]; rfl
   have e2:ixN (tr.map Aa).length (n:Int)=some n:=FK (by rw [aab]; exact hn)
   have e3:AV (j:Int) (.int v') ((tr.getD n []).map D.int)=some (((tr.getD n []).map D.int).set j (.int v')):=by
    unfold AV; rw [FK (by rw [aab]; exact hj)]; rfl
   have l1:(((tr.map Aa).length:Nat):Int)=(tr.length:Int):=by rw [aab]
   have l2:((((tr.getD n []).map D.int).length:Nat):Int)=((tr.getD n []).length:Int):=by rw [aab]
   have p1:0 < (tr.length:Int):=by omega
   have p2:0 < ((tr.getD n []).length:Int):=by omega
   refine ⟨ID tr n j v',some (.lst ((tr.getD n []).map D.int)),Nw T n j v',?_⟩
   unfold Ac
   rw [<- Sb]
   clear q2 T hem
   generalize tr.map Aa=ws at *
   generalize (tr.getD n []).map D.int=rw' at *
   simp_arith [BC,SK,hnn,a2,c2,a3,a4,a5,l1,l2,p1,p2,en,ej,hL,hv,e1,e2,e3,GP,aaM]
 ·have c2:(y2==1)=false:=beq_eq_false_iff_ne.mpr c2
  refine ⟨tr,o6,T,?_⟩
  simp_arith [BC,a2,c2]
theorem Q1 {s F y0 y1:Int} {S Y:D} {Ys:List D} (hY:Y=.lst Ys) (a1:atD Ys 1=.ok (.int y1)) (h0:0<=y1) (h1:y1 < 6) {rs:List Int} (hl:rs.length<=40):∃ rs':List Int,rs'.length<=201/\BR (tv (.cmp .lt (.bi .len (.cons (.nm 1) .nil)) (.bin .add (.cI 196) (.ixL (.nm 3) (.cI 1))))) (exs BA) FU [some S,some (Aa rs),some (.int F),some Y,none,none,none,none,none,none]=.nxt [some S,some (Aa rs'),some (.int F),some Y,none,none,none,none,none,none]:=by
 subst hY
 obtain ⟨N,rfl⟩:∃ N:Nat,y1=N:=⟨y1.toNat,by omega⟩
 obtain ⟨δ',e,rs',hr,rfl⟩:=Ef (c:=tv (.cmp .lt (.bi .len (.cons (.nm 1) .nil)) (.bin .add (.cI 196) (.ixL (.nm 3) (.cI 1))))) (b:=exs BA) (fun i δ=>∃ rs':List Int,rs'.length=i/\δ=[some S,some (Aa rs'),some (.int F),some (.lst Ys),none,none,none,none,none,none]) (196 + N - rs.length) FU rs.length (δ:=[some S,some (Aa rs),some (.int F),some (.lst Ys),none,none,none,none,none,none]) ⟨rs,rfl,rfl⟩ (by
  rintro i δ h2 h3 ⟨rs',hr,rfl⟩
  have c1:((rs'.map D.int).length:Int) < 196 + (N:Int):=by rw [aab]; omega
  have l9:(0:Int) < 9:=by decide
  have hap:=Bq (rs'.map D.int) (.int (((rs'.map D.int).length:Int) % 9)) (by rw [aab]; omega)
  refine ⟨?_,_,?_,rs' ++ [((rs'.map D.int).length:Int) % 9],by rw [aaD,hr]; rfl,rfl⟩
  ·unfold Aa
   generalize rs'.map D.int=R at *
   simp_arith [a1,c1]
  ·unfold Aa
   rw [aaq,List.map_singleton]
   generalize rs'.map D.int=R at *
   simp_arith [BA,l9,hap]) (by
  rintro δ ⟨rs',hr,rfl⟩
  have c1:¬ ((rs'.map D.int).length:Int) < 196 + (N:Int):=by rw [aab]; omega
  unfold Aa
  generalize rs'.map D.int=R at *
  simp_arith [a1,c1]) (by unfold FU; omega)
 exact ⟨rs',by omega,e⟩
noncomputable def S23:List Int:=[8,6,2,5,40,9,5,40,9,5,40,9,5,40,9]
theorem Q2:b2 .mul (.lst [.int 5,.int 40,.int 9]) (.int 4)=.ok (.lst [.int 5,.int 40,.int 9,.int 5,.int 40,.int 9,.int 5,.int 40,.int 9,.int 5,.int 40,.int 9]):=rfl
theorem Q3 {rs:List Int} {f:Nat} (hf:2<=f) (hf8:f<=8) (hn:rs.length<=201):∃ tr,Rw23 tr/\Ak.den [Aa rs,.int f]=.ok (Ac tr):=by
 by_cases n0:rs.length=0
 ·have z:rs=[]:=abW n0
  subst z
  exact ⟨[],⟨aas _,fun n hn=>absurd hn (abU _)⟩,Hk f⟩
 ·obtain ⟨h,hh,H⟩:=SJ hf (show 1<=rs.length by omega) (by omega)
  exact ⟨_,Mf (by omega) (by omega) (by omega) hh (Nn rs f h),KG hf hf8 H hh (by omega) (by omega)⟩
theorem Q4 (ns:List Int) {R:D} {f:Nat} (hf:2<=f) (hf8:f<=8) {Y T:D} {x:D} (hx:okV x) (k:Nat) (o6 o8:Option D):∃ x' o8',okV x'/\exs BZ [some (.lst (ns.map .int)),some R,some (.int f),some Y,some T,some (.int k),o6,some x,o8,none]=.nxt [some (.lst (ns.map .int)),some R,some (.int f),some Y,some T,some (.int k),o6,some x',o8',none]:=by
 obtain ⟨ys,hrow,hyl,hb⟩:=FG ns (3 + (k:Int)) (by omega) [9,12,9,200] (by decide) (by decide)
 obtain ⟨y0,y1,y2,y3,rfl⟩:=SC hyl
 have b0:=hb 0 y0 9 rfl rfl
 have b1:=hb 1 y1 12 rfl rfl
 simp only [abH] at hrow
 rcases IG x hf hf8 with ⟨_,hL⟩ | ⟨tr,rfl,T,_,hL⟩
 ·refine ⟨x,some (.lst [.int y0,.int y1,.int y2,.int y3]),hx,?_⟩
  generalize ns.map D.int=NS at *
  simp_arith [BZ,hrow,hL]
 ·obtain ⟨x',hc,ho⟩:=Sa hf hf8 T (Y:=[.int y0,.int y1,.int y2,.int y3]) (y0:=y0) (y1:=y1) (y2:=y2) (y3:=y3) rfl rfl rfl rfl b0.1 b0.2 b1.1 b1.2
  refine ⟨x',some (.lst [.int y0,.int y1,.int y2,.int y3]),ho,?_⟩
  generalize ns.map D.int=NS at *
  generalize Ac tr=TT at *
  simp_arith [BZ,hrow,hL,hc]
theorem Q5 {f:Nat} (hf:2<=f) (hf8:f<=8) {x:D} (hx:okV x) (tr:List (List Int)):∀ o0 o1 o3 o5 o6 o8:Option D,exs (.cons (.iff (.call Aj (.cons (.nm 7) (.cons (.nm 2) .nil)))
 (.cons (.ret (.call BN (.cons (.nm 7) (.cons (.nm 2) .nil))))
 .nil)
 .nil)
 (.cons (.asg 9 0 (.call AN (.cons (.nm 7) .nil)))
 (.cons (.ret (.bo true (.cons (.call Bp (.cons (.nm 9) (.cons (.nm 2) .nil))) (.cons (.cmp .sm (.nm 9) (.nm 7)) (.cons (.bo false (.cons (.not (.call Aj (.cons (.nm 4) (.cons (.nm 2) .nil)))) (.cons (.call BN (.cons (.nm 4) (.cons (.nm 2) .nil))) .nil))) .nil)))))
 .nil))) [o0,o1,some (.int f),o3,some (Ac tr),o5,o6,some x,o8,none]=.ret (.bl true):=by
 intro o0 o1 o3 o5 o6 o8
 rcases IG x hf hf8 with ⟨h1,hL⟩ | ⟨t2,rfl,T,h1,hL⟩
 ·have hd:=Ma hx.1
  have hr:=RS h1
  have hs:Pu.c2 .sm x x=.ok (.bl true):=by
   show (if D.sm 8 x x=true then Res.ok (D.bl true) else .bad)=_
   rw [if_pos hx.2]
  rcases IG (Ac tr) hf hf8 with ⟨_,h2⟩ | ⟨t3,e3,T3,h3,h2⟩
  ·generalize Ac tr=TT at *
   simp_arith [hL,hd,hr,hs,h2]
  ·have hg:=Mh hf T3 (e3 ▸ h3)
   rw [<- e3] at hg
   generalize Ac tr=TT at *
   simp_arith [hL,hd,hr,hs,h2,hg]
 ·have hg:=Mh hf T h1
  generalize Ac t2=X at *
  simp_arith [hL,hg]
theorem Pe:∀ ns:List Int,ns.length<=63->EM.den [.lst (ns.map .int)]=.ok (.bl true):=by
 intro ns _
 obtain ⟨rs,hrl,_,hrooms⟩:=LZ ns 0 (by decide) 40 (by omega)
 obtain ⟨f,hf,hf8,hfan⟩:=O4 ns 1 (by decide)
 obtain ⟨ys,hrow,hyl,hb⟩:=FG ns 2 (by decide) S23 (by decide) (by decide)
 have hyl:ys.length=15:=hyl
 have gy:∀ i:Nat,i < 15->∃ y,atD (ys.map D.int) ((i:Nat):Int)=.ok (.int y)/\∀ s,S23[i]?=some s->0<=y/\y < s:=fun i hi=>by
  have e:ys[i]?=some ys[i]:=aah (by omega)
  exact ⟨ys[i],C7 e,fun s hs=>hb i _ s e hs⟩
 obtain ⟨y0,g0,_⟩:=gy 0 (by decide)
 obtain ⟨y1,g1,b1⟩:=gy 1 (by decide)
 obtain ⟨y2,g2,_⟩:=gy 2 (by decide)
 have b1:=b1 6 rfl
 have g0:atD (ys.map D.int) 0=.ok (.int y0):=g0
 have g1:atD (ys.map D.int) 1=.ok (.int y1):=g1
 have g2:atD (ys.map D.int) 2=.ok (.int y2):=g2
 obtain ⟨rs',hrl',hW⟩:=Q1 (F:=(f:Int)) (S:=.lst (ns.map .int)) (Y:=.lst (ys.map D.int)) rfl g1 b1.1 b1.2 hrl (s:=0) (y0:=0)
 obtain ⟨qs,hql,hq⟩:∃ qs:List Int,qs.length<=201/\ex (.iff (.cmp .eq (.ixL (.nm 3) (.cI 0)) (.cI 0)) (.cons (.wh (.cmp .lt (.bi .len (.cons (.nm 1) .nil)) (.bin .add (.cI 196) (.ixL (.nm 3) (.cI 1)))) BA) .nil) .nil) [some (.lst (ns.map .int)),some (Aa rs),some (.int f),some (.lst (ys.map D.int)),none,none,none,none,none,none]=.nxt [some (.lst (ns.map .int)),some (Aa qs),some (.int f),some (.lst (ys.map D.int)),none,none,none,none,none,none]:=by
  by_cases c:y0=0
  ·have c:(y0==0)=true:=beq_iff_eq.mpr c
   refine ⟨rs',hrl',?_⟩
   generalize (E.cmp .lt (.bi .len (.cons (.nm 1) .nil)) (.bin .add (.cI 196) (.ixL (.nm 3) (.cI 1))))=C at *
   generalize ys.map D.int=Y at *
   generalize Aa rs=R1 at *
   generalize Aa rs'=R2 at *
   simp_arith [g0,c,hW]
  ·have c:(y0==0)=false:=beq_eq_false_iff_ne.mpr c
   refine ⟨rs,by omega,?_⟩
   generalize ys.map D.int=Y at *
   generalize Aa rs=R1 at *
   simp_arith [g0,c]
 obtain ⟨tr,T,htree⟩:=Q3 hf hf8 hql
 have hr4:=BD (a:=0) (b:=4) (by omega) (by omega) (by omega) (by omega)
 obtain ⟨δ',e,tr',o5,o6,T',rfl⟩:=AY (tg:=.nm 5) (b:=exs BC) (fun i δ=>∃ (tr':List (List Int)) (o5 o6:Option D),Rw23 tr'/\δ=[some (.lst (ns.map .int)),some (Aa qs),some (.int f),some (.lst (ys.map D.int)),some (Ac tr'),o5,o6,none,none,none]) (ds:=Ar 0 4) (δ:=[some (.lst (ns.map .int)),some (Aa qs),some (.int f),some (.lst (ys.map D.int)),some (Ac tr),none,none,none,none,none]) 0 ⟨tr,none,none,T,rfl⟩ (by
  rintro i d δ hd ⟨tr',o5,o6,T',rfl⟩
  obtain ⟨rfl,hi⟩:=A7 hd
  rw [abk]
  obtain ⟨y3,g3,_⟩:=gy (3 + 3 * i) (by omega)
  obtain ⟨y4,g4,_⟩:=gy (4 + 3 * i) (by omega)
  obtain ⟨y5,g5,c5⟩:=gy (5 + 3 * i) (by omega)
  have c5:=c5 9 (by
   have:i=0\/i=1\/i=2\/i=3:=by omega
   rcases this with rfl | rfl | rfl | rfl <;> rfl)
  rw [show ((3 + 3 * i:Nat):Int)=3 + 3 * (i:Int) by omega] at g3
  rw [show ((4 + 3 * i:Nat):Int)=4 + 3 * (i:Int) by omega] at g4
  rw [show ((5 + 3 * i:Nat):Int)=5 + 3 * (i:Int) by omega] at g5
  obtain ⟨tr2,p6,T2,e2⟩:=Q0 T' (S:=.lst (ns.map .int)) (R:=Aa qs) (f:=f) i g2 g3 g4 g5 c5.1 c5.2 o6
  exact ⟨_,_,rfl,e2,tr2,some (.int i),p6,T2,rfl⟩)
 obtain ⟨N,hN,hN2⟩:∃ N:Nat,1 + y1 % 2=N/\N<=2:=⟨(1 + y1 % 2).toNat,by omega,by omega⟩
 have hrN:=BD (a:=0) (b:=(N:Int)) (by omega) (by omega) (by omega) (by omega)
 obtain ⟨δ2,e2,x,o5',o8,hx,rfl⟩:=AY (tg:=.nm 5) (b:=exs BZ) (fun i δ=>∃ (x:D) (o5 o8:Option D),okV x/\δ=[some (.lst (ns.map .int)),some (Aa qs),some (.int f),some (.lst (ys.map D.int)),some (Ac tr'),o5,o6,some x,o8,none]) (ds:=Ar 0 (N:Int)) (δ:=[some (.lst (ns.map .int)),some (Aa qs),some (.int f),some (.lst (ys.map D.int)),some (Ac tr'),o5,o6,some (Ac tr'),none,none]) 0 ⟨_,o5,none,F9 tr',rfl⟩ (by
  rintro i d δ hd ⟨x,o5,o8,hx,rfl⟩
  obtain ⟨rfl,hi⟩:=A7 hd
  rw [abk]
  obtain ⟨x',p8,hx',e2⟩:=Q4 ns (R:=Aa qs) (Y:=.lst (ys.map D.int)) (T:=Ac tr') hf hf8 hx i o6 o8
  exact ⟨_,_,rfl,e2,x',some (.int i),p8,hx',rfl⟩)
 have hfin:=Q5 hf hf8 hx tr' (some (.lst (ns.map .int))) (some (Aa qs)) (some (.lst (ys.map D.int))) o5' o6 o8
 have hft:=L5 tr
 have hd1:Ak.dep=2:=Gy
 have hadd:=DH [.int 8,.int 6,.int 2] [.int 5,.int 40,.int 9,.int 5,.int 40,.int 9,.int 5,.int 40,.int 9,.int 5,.int 40,.int 9] (by decide)
 simp only [S23,abH] at hrow
 have l2:(0:Int) < 2:=by decide
 refine (Ks _ rfl).trans (Af ?_)
 show exs Dk [some (.lst (ns.map .int)),none,none,none,none,none,none,none,none,none]=_
 rw [Dk]
 generalize hSI:S.iff (.cmp .eq (.ixL (.nm 3) (.cI 0)) (.cI 0)) (.cons (.wh (.cmp .lt (.bi .len (.cons (.nm 1) .nil)) (.bin .add (.cI 196) (.ixL (.nm 3) (.cI 1)))) BA) .nil) .nil=SI at *
 generalize hTL:(Ss.cons (.iff (.call Aj (.cons (.nm 7) (.cons (.nm 2) .nil))) _ _) _)=TL at *
 have hrooms:BH.den [.lst (ns.map .int),.int 0,.int 40]=.ok (Aa rs):=hrooms
 generalize Ac tr'=w' at *
 generalize Ac tr=w at *
 generalize Aa qs=Q at *
 generalize Aa rs=R at *
 generalize ys.map D.int=Y at *
 simp_arith [hrooms,hfan,Q2,hadd,hrow,hq,htree,hd1,hft,hr4,e,g1,l2,hN,hrN,e2,hfin]
end Pu
end
namespace Pu
open PySem PySem.Spec PyProof.Rows PySem.W L2
noncomputable def top (i:Nat):Stmt:=PySem.Challenge.pw_ullage_k23_checked_tree.main.body.getD i (.Pass ⟨0,0,0,0⟩)
theorem IS:dfB ["thing"] ["thing"] (top 6) Dz 9=true:=by decide +kernel
theorem Ho:dfB ["thing", "least", "most"] ["thing", "least", "most"] (top 7) Be 9=true:=by decide +kernel
theorem Mj:dfB ["shape", "fan", "counts", "many"] ["shape"] (top 10) DX 1=true:=by decide +kernel
theorem KH:dfB ["thing"] ["thing"] (top 12) D8 9=true:=by decide +kernel
theorem Mk:dfB ["tree"] ["tree"] (top 14) EK 2=true:=by decide +kernel
theorem II:dfB ["tree"] ["tree"] (top 17) Dc 9=true:=by decide +kernel
theorem IU:dfB ["thing"] ["thing"] (top 16) CK 9=true:=by decide +kernel
theorem IV:dfB ["tree"] ["tree"] (top 18) BG 1=true:=by decide +kernel
theorem IW:dfB ["tree", "fan"] ["tree", "fan"] (top 19) DA 0=true:=by decide +kernel
theorem KI:dfB ["thing", "fan", "shape"] ["thing", "fan"] (top 15) Cz 9=true:=by decide +kernel
theorem GE:dfB ["tree", "fan"] ["tree", "fan"] (top 13) Bx 2=true:=by decide +kernel
theorem IX:dfB ["_law_script", "_law_place", "_law_seed", "_law_cell_here"] ["_law_script", "_law_place"] (top 21) CL 0=true:=by decide +kernel
theorem GZ:dfB ["_law_cell_here", "_law_k", "_law_one", "_law_two"] ["_law_cell_here", "_law_k"] (top 22) Cm 1=true:=by decide +kernel
theorem G0:dfB ["_law_script", "_law_place", "_law_sizes", "_law_cell_here", "_law_left", "_law_some", "_law_k", "_law_other"] ["_law_script", "_law_place", "_law_sizes"] (top 23) Cn 2=true:=by decide +kernel
theorem Ga:dfB ["_law_script", "_law_place", "_law_most", "_law_some", "_law_scale", "_law_rooms_here", "_law_k", "_law_here"] ["_law_script", "_law_place", "_law_most"] (top 24) BT 2=true:=by decide +kernel
theorem G1:dfB ["_law_script", "_law_place"] ["_law_script", "_law_place"] (top 25) Co 1=true:=by decide +kernel
theorem FL:dfB ["_law_pages", "_law_fan_here", "_law_found"] ["_law_pages", "_law_fan_here"] (top 26) Bf 1=true:=by decide +kernel
theorem Gb:dfB ["_law_pages", "_law_fan_here", "_law_level", "_law_place", "_law_wide", "_law_k"] ["_law_pages", "_law_fan_here", "_law_level", "_law_place"] (top 27) BU 1=true:=by decide +kernel
theorem GF:dfB ["_law_rooms_here", "_law_fan_here", "_law_tree_here", "_law_counts_here", "_law_level", "_law_row_here", "_law_place", "_law_begin", "_law_end"] ["_law_rooms_here", "_law_fan_here"] (top 28) Ba 2=true:=by decide +kernel
theorem IJ:dfB ["_law_thing"] ["_law_thing"] (top 29) Dd 9=true:=by decide +kernel
theorem GG:dfB ["_law_level", "_law_many", "_law_one"] ["_law_level", "_law_many"] (top 30) AS 9=true:=by decide +kernel
theorem Fv:dfB ["_law_thing", "_law_fan_here", "_law_counts_here"] ["_law_thing", "_law_fan_here"] (top 31) Aw 9=true:=by decide +kernel
theorem G2:dfB ["_law_k", "_law_some"] ["_law_k"] (top 32) Cp 0=true:=by decide +kernel
theorem Fw:dfB ["_law_tree_here", "_law_fan_here", "_law_some", "_law_at", "_law_level", "_law_place", "_law_other", "_law_made"] ["_law_tree_here", "_law_fan_here", "_law_some"] (top 33) Ai 0=true:=by decide +kernel
theorem Fx:dfB ["_law_thing"] ["_law_thing"] (top 34) Cc 0=true:=by decide +kernel
theorem Fy:dfB ["_law_thing"] ["_law_thing"] (top 34) Cd 0=true:=by decide +kernel
theorem Fz:dfB ["_law_thing"] ["_law_thing"] (top 34) Ce 0=true:=by decide +kernel
theorem GH:dfB ["_law_thing"] ["_law_thing"] (top 34) C6 0=true:=by decide +kernel
theorem FA:dfB ["_law_thing", "_law_fan_here", "e"] ["_law_thing", "_law_fan_here"] (top 35) Bs 9=true:=by decide +kernel
theorem IY:dfB ["_law_tree_here", "_law_fan_here", "_law_handed", "_law_found"] ["_law_tree_here", "_law_fan_here"] (top 36) CN 9=true:=by decide +kernel
theorem KJ:dfB ["_law_script", "_law_rooms_here", "_law_fan_here", "_law_more", "_law_tree_here", "_law_k", "_law_level", "_law_thing", "_law_some", "_law_handed"] ["_law_script"] (top 37) Dk 9=true:=by decide +kernel
set_option maxHeartbeats 0 in
theorem Q6 {l:PySem.W.OpenLaw} {w:World} {K:PySem.W.Frag} {h:Heap} {mg:Str->Option Value} {fa:Addr} {C0 C2 C4 C5:Addr} {gv0:Value} (X:K.In h) (G:h.Ns mainGlobals mg) (hfa:mg "law" = some (.ref fa)) (t0:AD K "is_whole" (top 6)) (t1:AD K "is_between" (top 7)) (t2:AD K "levels" (top 10)) (t3:AD K "is_room" (top 12)) (t4:AD K "copied" (top 14)) (t5:AD K "counts_of" (top 17)) (t6:AD K "is_level" (top 16)) (t7:AD K "rooms_of" (top 18)) (t8:AD K "shape_of" (top 19)) (t9:AD K "is_tree" (top 15)) (t10:AD K "checked_tree" (top 13)) (t11:AD K "_law_cell" (top 21)) (t12:AD K "_law_mix" (top 22)) (t13:AD K "_law_row" (top 23)) (t14:AD K "_law_rooms" (top 24)) (t15:AD K "_law_fan" (top 25)) (t16:AD K "_law_counts" (top 26)) (t17:AD K "_law_reach" (top 27)) (t18:AD K "_law_tree" (top 28)) (t19:AD K "_law_whole" (top 29)) (t20:AD K "_law_is_level" (top 30)) (t21:AD K "_law_is_tree" (top 31)) (t22:AD K "_law_odd" (top 32)) (t23:AD K "_law_changed" (top 33)) (t24:AD K "_law_deep" (top 34)) (t25:AD K "_law_deep" (top 34)) (t26:AD K "_law_deep" (top 34)) (t27:AD K "_law_deep" (top 34)) (t28:AD K "_law_deep" (top 34)) (t29:AD K "_law_refused" (top 35)) (t30:AD K "_law_good" (top 36)) (t31:AD K "law" (top 37)) (n_len:nsIn K mainGlobals "len" = some none) (n_min:nsIn K mainGlobals "min" = some none) (n_max:nsIn K mainGlobals "max" = some none) (n_abs:nsIn K mainGlobals "abs" = some none) (n_int:nsIn K mainGlobals "int" = some none) (n_list:nsIn K mainGlobals "list" = some none) (n_tuple:nsIn K mainGlobals "tuple" = some none) (n_all:nsIn K mainGlobals "all" = some none) (n_any:nsIn K mainGlobals "any" = some none) (n_sum:nsIn K mainGlobals "sum" = some none) (n_sorted:nsIn K mainGlobals "sorted" = some none) (n_isinstance:nsIn K mainGlobals "isinstance" = some none) (n_str:nsIn K mainGlobals "str" = some none) (n_range:nsIn K mainGlobals "range" = some none) (n_enumerate:nsIn K mainGlobals "enumerate" = some none) (n_zip:nsIn K mainGlobals "zip" = some none) (n_reversed:nsIn K mainGlobals "reversed" = some none) (n_bool:nsIn K mainGlobals "bool" = some none) (n_dict:nsIn K mainGlobals "dict" = some none) (n_ValueError:nsIn K mainGlobals "ValueError" = some none) (c0:ClsF K "RoomError" C0) (c2:ClsF K "NoNode" C2) (c4:ClsF K "NotRooms" C4) (c5:ClsF K "NotATree" C5) (e5:excIn K C5 GM "ValueError.__new__" = true) (y0_0:kitOne K (.ref C0) (.ref C0)=some true) (y0_2:kitOne K (.ref C0) (.ref C2)=some false) (y0_4:kitOne K (.ref C0) (.ref C4)=some false) (y0_5:kitOne K (.ref C0) (.ref C5)=some false) (y2_0:kitOne K (.ref C2) (.ref C0)=some true) (y2_2:kitOne K (.ref C2) (.ref C2)=some true) (y2_4:kitOne K (.ref C2) (.ref C4)=some false) (y2_5:kitOne K (.ref C2) (.ref C5)=some false) (y4_0:kitOne K (.ref C4) (.ref C0)=some true) (y4_2:kitOne K (.ref C4) (.ref C2)=some false) (y4_4:kitOne K (.ref C4) (.ref C4)=some true) (y4_5:kitOne K (.ref C4) (.ref C5)=some false) (y5_0:kitOne K (.ref C5) (.ref C0)=some true) (y5_2:kitOne K (.ref C5) (.ref C2)=some false) (y5_4:kitOne K (.ref C5) (.ref C4)=some false) (y5_5:kitOne K (.ref C5) (.ref C5)=some true) (gq0:PySem.W.nsIn K mainGlobals "MOST_PAGES" = some (some gv0)) (rq0:RelV (dT (.int 200)).val gv0) (nl:noL K=true)
  (hden:∀ ns:List Int,ns.length<=63->EM.den [.lst (ns.map .int)]=.ok (.bl true)) :
  ∃ fd:FuncData,(∀ (s:Shared) (v:Value),BindsTo s fd ⟨[v],[]⟩ [("_law_script",v)])/\∀ base:Heap,K.In base->base.Ns mainGlobals mg->FnOk l.prog w K mg base (CXe l.prog w) 8 fa fd ["_law_script"] (spL K):=by
 have O:∀ base:Heap,Lw.Ok ⟨⟨K,clA [(0,C0),(2,C2),(4,C4),(5,C5)],BP [(0,C0),(2,C2),(4,C4),(5,C5)]⟩,l.prog,w,mg,base⟩:=fun base=>RJ rfl X G ⟨n_len,n_min,n_max,n_abs,n_int,n_list,n_tuple,n_all,n_any,n_sum,n_sorted,n_isinstance,n_str,n_range,n_enumerate,n_zip,n_reversed,n_bool,n_dict,n_ValueError,trivial⟩ ⟨c0,c2,c4,c5,trivial⟩ ⟨⟨y0_0,y0_2,y0_4,y0_5,trivial⟩,⟨y2_0,y2_2,y2_4,y2_5,trivial⟩,⟨y4_0,y4_2,y4_4,y4_5,trivial⟩,⟨y5_0,y5_2,y5_4,y5_5,trivial⟩,trivial⟩
 refine OW (cs:=[(0,C0),(2,C2),(4,C4),(5,C5)]) (lv:=7) X G hfa t31 KJ (fun _ _ _ _ _ _ s v=>.of_eq rfl) O (fun base=>?_) nl hden
 have cl0:=(⟨rfl,PySem.W.mg_of X G c0.q⟩:NeedG ⟨⟨K,clA [(0,C0),(2,C2),(4,C4),(5,C5)],BP [(0,C0),(2,C2),(4,C4),(5,C5)]⟩,l.prog,w,mg,base⟩ 0 (.cl 0))
 have cl2:=(⟨rfl,PySem.W.mg_of X G c2.q⟩:NeedG ⟨⟨K,clA [(0,C0),(2,C2),(4,C4),(5,C5)],BP [(0,C0),(2,C2),(4,C4),(5,C5)]⟩,l.prog,w,mg,base⟩ 0 (.cl 2))
 have cl4:=(⟨rfl,PySem.W.mg_of X G c4.q⟩:NeedG ⟨⟨K,clA [(0,C0),(2,C2),(4,C4),(5,C5)],BP [(0,C0),(2,C2),(4,C4),(5,C5)]⟩,l.prog,w,mg,base⟩ 0 (.cl 4))
 have rs5:=(⟨rfl,c5.q,e5⟩:NeedG ⟨⟨K,clA [(0,C0),(2,C2),(4,C4),(5,C5)],BP [(0,C0),(2,C2),(4,C4),(5,C5)]⟩,l.prog,w,mg,base⟩ 0 (.rs 5))
 have cl5:=(⟨rfl,PySem.W.mg_of X G c5.q⟩:NeedG ⟨⟨K,clA [(0,C0),(2,C2),(4,C4),(5,C5)],BP [(0,C0),(2,C2),(4,C4),(5,C5)]⟩,l.prog,w,mg,base⟩ 0 (.cl 5))
 have gl0:=(⟨_,PySem.W.mg_of X G gq0,rq0⟩:NeedG ⟨⟨K,clA [(0,C0),(2,C2),(4,C4),(5,C5)],BP [(0,C0),(2,C2),(4,C4),(5,C5)]⟩,l.prog,w,mg,base⟩ 0 (.gl "MOST_PAGES" (.int 200)))
 have h_is_whole:=Aq (lv:=0) (O base) (Ap X G t0 fun _ _ _ _ _ _=>ba1 fun _=>rfl) IS trivial
 have h_is_between:=Aq (lv:=1) (O base) (Ap X G t1 fun _ _ _ _ _ _=>ba3 fun _ _ _=>rfl) Ho ⟨⟨by decide,h_is_whole⟩,trivial⟩
 have h_levels:=Aq (lv:=0) (O base) (Ap X G t2 fun _ _ _ _ _ _=>ba1 fun _=>rfl) Mj trivial
 have h_is_room:=Aq (lv:=2) (O base) (Ap X G t3 fun _ _ _ _ _ _=>ba1 fun _=>rfl) KH ⟨⟨by decide,h_is_between⟩,trivial⟩
 have h_copied:=Aq (lv:=0) (O base) (Ap X G t4 fun _ _ _ _ _ _=>ba1 fun _=>rfl) Mk trivial
 have h_counts_of:=Aq (lv:=0) (O base) (Ap X G t5 fun _ _ _ _ _ _=>ba1 fun _=>rfl) II trivial
 have h_is_level:=Aq (lv:=3) (O base) (Ap X G t6 fun _ _ _ _ _ _=>ba1 fun _=>rfl) IU ⟨⟨by decide,h_is_room⟩,trivial⟩
 have h_rooms_of:=Aq (lv:=0) (O base) (Ap X G t7 fun _ _ _ _ _ _=>ba1 fun _=>rfl) IV trivial
 have h_shape_of:=Aq (lv:=1) (O base) (Ap X G t8 fun _ _ _ _ _ _=>ba2 fun _ _=>rfl) IW ⟨⟨by decide,h_rooms_of⟩,trivial⟩
 have h_is_tree:=Aq (lv:=4) (O base) (Ap X G t9 fun _ _ _ _ _ _=>ba2 fun _ _=>rfl) KI ⟨⟨by decide,h_is_level⟩,⟨by decide,h_shape_of⟩,gl0,⟨by decide,h_counts_of⟩,⟨by decide,h_levels⟩,trivial⟩
 have h_checked_tree:=Aq (lv:=5) (O base) (Ap X G t10 fun _ _ _ _ _ _=>ba2 fun _ _=>rfl) GE ⟨⟨by decide,h_is_tree⟩,rs5,⟨by decide,h_copied⟩,trivial⟩
 have h_law_cell:=Aq (lv:=0) (O base) (Ap X G t11 fun _ _ _ _ _ _=>ba2 fun _ _=>rfl) IX trivial
 have h_law_mix_k11:=Aq (lv:=0) (O base) (Ap X G t12 fun _ _ _ _ _ _=>ba2 fun _ _=>rfl) GZ trivial
 have h_law_row_k11:=Aq (lv:=1) (O base) (Ap X G t13 fun _ _ _ _ _ _=>ba3 fun _ _ _=>rfl) G0 ⟨⟨by decide,h_law_cell⟩,⟨by decide,h_law_mix_k11⟩,⟨by decide,h_law_cell⟩,⟨by decide,h_law_mix_k11⟩,trivial⟩
 have h_law_rooms_k21:=Aq (lv:=2) (O base) (Ap X G t14 fun _ _ _ _ _ _=>ba3 fun _ _ _=>rfl) Ga ⟨⟨by decide,h_law_row_k11⟩,trivial⟩
 have h_law_fan_k22:=Aq (lv:=2) (O base) (Ap X G t15 fun _ _ _ _ _ _=>ba2 fun _ _=>rfl) G1 ⟨⟨by decide,h_law_row_k11⟩,trivial⟩
 have h_law_counts_k11:=Aq (lv:=0) (O base) (Ap X G t16 fun _ _ _ _ _ _=>ba2 fun _ _=>rfl) FL trivial
 have h_law_reach_k12:=Aq (lv:=0) (O base) (Ap X G t17 fun _ _ _ _ _ _=>ba4 fun _ _ _ _=>rfl) Gb trivial
 have h_law_tree_k22:=Aq (lv:=1) (O base) (Ap X G t18 fun _ _ _ _ _ _=>ba2 fun _ _=>rfl) GF ⟨⟨by decide,h_law_counts_k11⟩,⟨by decide,h_law_reach_k12⟩,trivial⟩
 have h_law_whole:=Aq (lv:=0) (O base) (Ap X G t19 fun _ _ _ _ _ _=>ba1 fun _=>rfl) IJ trivial
 have h_law_is_level:=Aq (lv:=1) (O base) (Ap X G t20 fun _ _ _ _ _ _=>ba2 fun _ _=>rfl) GG ⟨⟨by decide,h_law_whole⟩,trivial⟩
 have h_law_is_tree_k23:=Aq (lv:=2) (O base) (Ap X G t21 fun _ _ _ _ _ _=>ba2 fun _ _=>rfl) Fv ⟨⟨by decide,h_law_counts_k11⟩,⟨by decide,h_law_is_level⟩,trivial⟩
 have h_law_odd_k23:=Aq (lv:=0) (O base) (Ap X G t22 fun _ _ _ _ _ _=>ba1 fun _=>rfl) G2 trivial
 have h_law_changed_k23:=Aq (lv:=2) (O base) (Ap X G t23 fun _ _ _ _ _ _=>ba3 fun _ _ _=>rfl) Fw ⟨⟨by decide,h_law_odd_k23⟩,⟨by decide,h_law_tree_k22⟩,trivial⟩
 have h_law_deep_k23_r0:=OV (L:=⟨⟨K,clA [(0,C0),(2,C2),(4,C4),(5,C5)],BP [(0,C0),(2,C2),(4,C4),(5,C5)]⟩,l.prog,w,mg,base⟩) (ps:=["_law_thing"]) (lv:=1) (dep:=0) (Ap X G t24 fun _ _ _ _ _ _=>ba1 fun _=>rfl)
 have h_law_deep_k23_r1:=Aq (lv:=1) (O base) (Ap X G t25 fun _ _ _ _ _ _=>ba1 fun _=>rfl) Fx ⟨⟨by decide,h_law_deep_k23_r0⟩,trivial⟩
 have h_law_deep_k23_r2:=Aq (lv:=2) (O base) (Ap X G t26 fun _ _ _ _ _ _=>ba1 fun _=>rfl) Fy ⟨⟨by decide,h_law_deep_k23_r1⟩,trivial⟩
 have h_law_deep_k23_r3:=Aq (lv:=3) (O base) (Ap X G t27 fun _ _ _ _ _ _=>ba1 fun _=>rfl) Fz ⟨⟨by decide,h_law_deep_k23_r2⟩,trivial⟩
 have h_law_deep_k23:=Aq (lv:=4) (O base) (Ap X G t28 fun _ _ _ _ _ _=>ba1 fun _=>rfl) GH ⟨⟨by decide,h_law_deep_k23_r3⟩,trivial⟩
 have h_law_refused_k23:=Aq (lv:=6) (O base) (Ap X G t29 fun _ _ _ _ _ _=>ba2 fun _ _=>rfl) FA ⟨cl0,⟨by decide,h_checked_tree⟩,cl5,cl2,cl4,trivial⟩
 have h_law_good:=Aq (lv:=6) (O base) (Ap X G t30 fun _ _ _ _ _ _=>ba2 fun _ _=>rfl) IY ⟨⟨by decide,h_law_deep_k23⟩,⟨by decide,h_checked_tree⟩,⟨by decide,h_checked_tree⟩,trivial⟩
 exact ⟨⟨by decide,h_law_rooms_k21⟩,⟨by decide,h_law_fan_k22⟩,⟨by decide,h_law_row_k11⟩,⟨by decide,h_law_tree_k22⟩,⟨by decide,h_law_row_k11⟩,⟨by decide,h_law_is_tree_k23⟩,⟨by decide,h_law_changed_k23⟩,⟨by decide,h_law_is_tree_k23⟩,⟨by decide,h_law_good⟩,⟨by decide,h_law_deep_k23⟩,⟨by decide,h_law_refused_k23⟩,⟨by decide,h_law_is_tree_k23⟩,⟨by decide,h_law_good⟩,trivial⟩
end Pu
open PySem PySem.W PyProof.Rows
noncomputable def PySem.W.Fast.tw8643884619092573596:Nat:=0
noncomputable def PySem.W.Fast.tw11793253553247133979:Nat:=0
noncomputable def PySem.W.Fast.tw4054845964391461444:Nat:=0
noncomputable def PySem.W.Fast.tw10061249857329022738:Nat:=0
noncomputable def PySem.W.Fast.tw8121798842628428598:Nat:=0
noncomputable def PySem.W.Fast.tw7391052404914129033:Nat:=0
noncomputable def PySem.W.Fast.tw16721697863817254702:Nat:=0
noncomputable def PySem.W.Fast.tw12320307625586192909:Nat:=0
noncomputable def PySem.W.Fast.tw15132240908027907355:Nat:=0
noncomputable def PySem.W.Fast.tw13701161124450469675:Nat:=0
noncomputable def PySem.W.Fast.tw15653798390054472690:Nat:=0
noncomputable def PySem.W.Fast.tw14542614607981167052:Nat:=0
noncomputable def PySem.W.Fast.tw14408455842557783526:Nat:=0
noncomputable def PySem.W.Fast.tw11061029451173646335:Nat:=0
noncomputable def PySem.W.Fast.tw11969051939186514062:Nat:=0
noncomputable def PySem.W.Fast.tw669466517103193910:Nat:=0
noncomputable def PySem.W.Fast.tw5751897790932290561:Nat:=0
noncomputable def PySem.W.Fast.tw10677867993497272360:Nat:=0
noncomputable def PySem.W.Fast.tw17442748178761340285:Nat:=0
noncomputable def PySem.W.Fast.tw17718567255477208487:Nat:=0
noncomputable def PySem.W.Fast.tw1454221815122300762:Nat:=0
noncomputable def PySem.W.Fast.tw2498922670729655485:Nat:=0
noncomputable def PySem.W.Fast.tw11442900443100668881:Nat:=0
noncomputable def PySem.W.Fast.tw59984970086122820:Nat:=0
noncomputable def PySem.W.Fast.tw14078389300809351782:Nat:=0
noncomputable def PySem.W.Fast.tw14724516230961678440:Nat:=0
noncomputable def PySem.W.Fast.tw9293975948783841619:Nat:=0
noncomputable def PySem.W.Fast.tw977073628052962229:Nat:=0
noncomputable def PySem.W.Fast.tw10417247688937543824:Nat:=0
noncomputable def PySem.W.Fast.tw4821814140705649062:Nat:=0
noncomputable def PySem.W.Fast.tw16383046699881818811:Nat:=0
noncomputable def PySem.W.Fast.tw3659510016713387506:Nat:=0
noncomputable def PySem.W.Fast.tw2428185895383380018:Nat:=0
noncomputable def PySem.W.Fast.tw1911474868967285890:Nat:=0
noncomputable def PySem.W.Fast.tw15876631310534309254:Nat:=0
noncomputable def PySem.W.Fast.tw11261199502345649228:Nat:=0
noncomputable def PySem.W.Fast.tw4704673387323315744:Nat:=0
noncomputable def PySem.W.Fast.tw955704817670720800:Nat:=0
noncomputable def PySem.W.Fast.tw16125152853814888184:Nat:=0
noncomputable def PySem.W.Fast.tw5926013339671900184:Nat:=0
noncomputable def PySem.W.Fast.tw13607414111882885286:Nat:=0
noncomputable def PySem.W.Fast.tw13768072667547236001:Nat:=0
noncomputable def PySem.W.Fast.tw8872724169290394264:Nat:=0
noncomputable def PySem.W.Fast.tw5278436184300772978:Nat:=0
noncomputable def PySem.W.Fast.tw12677994272499382621:Nat:=0
noncomputable def PySem.W.Fast.tw11070851511556575698:Nat:=0
noncomputable def PySem.W.Fast.tw425798193921317572:Nat:=0
noncomputable def PySem.W.Fast.tw15780525424778910118:Nat:=0
noncomputable def PySem.W.Fast.tw17216603954445744279:Nat:=0
noncomputable def PySem.W.Fast.tw17320117580007373662:Nat:=0
noncomputable def PySem.W.Fast.tw14648223156568005543:Nat:=0
noncomputable def PySem.W.Fast.tw7118167475325040799:Nat:=0
noncomputable def PySem.W.Fast.tw6199197006336002290:Nat:=0
noncomputable def PySem.W.Fast.tw8904965606087874224:Nat:=0
noncomputable def PySem.W.Fast.tw15735209645521861999:Nat:=0
noncomputable def PySem.W.Fast.tw15125532271636411983:Nat:=0
noncomputable def PySem.W.Fast.tw5541015743232647669:Nat:=0
noncomputable def PySem.W.Fast.tw9526048960598591370:Nat:=0
noncomputable def PySem.W.Fast.tw6538992849817604061:Nat:=0
noncomputable def PySem.W.Fast.tw8217737606265952462:Nat:=0
noncomputable def PySem.W.Fast.tw15233005087704940321:Nat:=0
noncomputable def PySem.W.Fast.tw8102357968415140145:Nat:=0
noncomputable def PySem.W.Fast.tw5879262310119207617:Nat:=0
noncomputable def PySem.W.Fast.tw13384403230561137820:Nat:=0
noncomputable def PySem.W.Fast.tw11044742401106824439:Nat:=0
noncomputable def PySem.W.Fast.tw8517393975032863225:Nat:=0
noncomputable def PySem.W.Fast.tw15118205085629399069:Nat:=0
noncomputable def PySem.W.Fast.tw9002520010588896414:Nat:=0
noncomputable def PySem.W.Fast.tw6605997936211326177:Nat:=0
noncomputable def PySem.W.Fast.tw16227752922160212729:Nat:=0
noncomputable def PySem.W.Fast.tw643750202176095:Nat:=0
noncomputable def PySem.W.Fast.tw13600612022396597426:Nat:=0
noncomputable def PySem.W.Fast.tw7709732910321685906:Nat:=0
noncomputable def PySem.W.Fast.tw7386071759982902408:Nat:=0
noncomputable def PySem.W.Fast.tw7732115023831484248:Nat:=0
noncomputable def PySem.W.Fast.tw730369005738713932:Nat:=0
noncomputable def PySem.W.Fast.tw2989640136586336179:Nat:=0
noncomputable def PySem.W.Fast.tw12559928026170336124:Nat:=0
noncomputable def PySem.W.Fast.tw8437038523646094271:Nat:=0
noncomputable def PySem.W.Fast.tw1444201343874608894:Nat:=0
noncomputable def PySem.W.Fast.tw17770557932597942302:Nat:=0
noncomputable def PySem.W.Fast.tw15131046185802157803:Nat:=0
noncomputable def PySem.W.Fast.tw15248859310458371399:Nat:=0
noncomputable def PySem.W.Fast.tw191200305850352878:Nat:=0
noncomputable def PySem.W.Fast.tw3687869120350133765:Nat:=0
noncomputable def PySem.W.Fast.tw6374426645706011040:Nat:=0
noncomputable def PySem.W.Fast.tw16868838168547834699:Nat:=0
noncomputable def PySem.W.Fast.tw2254563420829745836:Nat:=0
noncomputable def PySem.W.Fast.tw17432296770173127328:Nat:=0
noncomputable def PySem.W.Fast.tw12353652486619193624:Nat:=0
noncomputable def PySem.W.Fast.tw7160364862586376368:Nat:=0
noncomputable def PySem.W.Fast.tw6322606275035516103:Nat:=0
noncomputable def PySem.W.Fast.tw4180610147043583212:Nat:=0
noncomputable def PySem.W.Fast.tw4628198728854927770:Nat:=0
noncomputable def PySem.W.Fast.tw5010564364090566631:Nat:=0
noncomputable def PySem.W.Fast.tw13321364603819696359:Nat:=0
noncomputable def PySem.W.Fast.tw8040689914014105814:Nat:=0
noncomputable def PySem.W.Fast.tw3500096953753079682:Nat:=0
noncomputable def PySem.W.Fast.tw6315057802476449224:Nat:=0
noncomputable def PySem.W.Fast.tw625585866827892574:Nat:=0
local macro_rules | `(tactic| simp_arith!)=>`(tactic| (refine' Pu.AH ?za ?zl ?zc ?zk; (case za=>k_is); (case zl=>k_is); (case zc=>k_is); (case zk=>k_is)))
local macro_rules | `(tactic| simp_all_arith)=>`(tactic| (refine' Pu.Kq ?zq ?zx1 ?zx2 ?zx3 ?zx4 ?zx5 ?zx6 ?zx7 ?zt1 ?zt2 ?zt3 ?zt4 ?zt5 ?zt6 ?zv; (case zq=>k_is); (case zx1=>k_is); (case zx2=>k_is); (case zx3=>k_is); (case zx4=>k_is); (case zx5=>k_is); (case zx6=>k_is); (case zx7=>k_is); (case zt1=>kit_is); (case zt2=>kit_is); (case zt3=>kit_is); (case zt4=>kit_is); (case zt5=>kit_is); (case zt6=>kit_is); (case zv=>kit_is)))
set_option maxRecDepth 100000 in
set_option maxHeartbeats 0 in
theorem PySem.Challenge.cw_ullage_k23_checked_tree_holds : PySem.Challenge.rw_ullage_k23_checked_tree.Holds := by
 w_on; o_law; k_head; (case hw=>w_witness2)
 k_fill
 refine Pu.RH (l:=PySem.Challenge.rw_ullage_k23_checked_tree) (k:=8) (x := "_law_script") rfl rfl ⟨rfl,by decide,by decide⟩ (fun w h Y=>PySem.W.kIn_of Y) ?F
 case F =>
  intro w mg fa h KX G hmg
  refine' Pu.Q6 KX G hmg ?t0 ?t1 ?t2 ?t3 ?t4 ?t5 ?t6 ?t7 ?t8 ?t9 ?t10 ?t11 ?t12 ?t13 ?t14 ?t15 ?t16 ?t17 ?t18 ?t19 ?t20 ?t21 ?t22 ?t23 ?t24 ?t25 ?t26 ?t27 ?t28 ?t29 ?t30 ?t31 ?n_len ?n_min ?n_max ?n_abs ?n_int ?n_list ?n_tuple ?n_all ?n_any ?n_sum ?n_sorted ?n_isinstance ?n_str ?n_range ?n_enumerate ?n_zip ?n_reversed ?n_bool ?n_dict ?n_ValueError ?c0 ?c2 ?c4 ?c5 ?e5 ?y0_0 ?y0_2 ?y0_4 ?y0_5 ?y2_0 ?y2_2 ?y2_4 ?y2_5 ?y4_0 ?y4_2 ?y4_4 ?y4_5 ?y5_0 ?y5_2 ?y5_4 ?y5_5 ?gq0 ?rq0 ?nl Pu.Pe
  (case t0=>simp_arith!)
  (case t1=>simp_arith!)
  (case t2=>simp_arith!)
  (case t3=>simp_arith!)
  (case t4=>simp_arith!)
  (case t5=>simp_arith!)
  (case t6=>simp_arith!)
  (case t7=>simp_arith!)
  (case t8=>simp_arith!)
  (case t9=>simp_arith!)
  (case t10=>simp_arith!)
  (case t11=>simp_arith!)
  (case t12=>simp_arith!)
  (case t13=>simp_arith!)
  (case t14=>simp_arith!)
  (case t15=>simp_arith!)
  (case t16=>simp_arith!)
  (case t17=>simp_arith!)
  (case t18=>simp_arith!)
  (case t19=>simp_arith!)
  (case t20=>simp_arith!)
  (case t21=>simp_arith!)
  (case t22=>simp_arith!)
  (case t23=>simp_arith!)
  (case t24=>simp_arith!)
  (case t25=>simp_arith!)
  (case t26=>simp_arith!)
  (case t27=>simp_arith!)
  (case t28=>simp_arith!)
  (case t29=>simp_arith!)
  (case t30=>simp_arith!)
  (case t31=>simp_arith!)
  (case n_len=>k_is)
  (case n_min=>k_is)
  (case n_max=>k_is)
  (case n_abs=>k_is)
  (case n_int=>k_is)
  (case n_list=>k_is)
  (case n_tuple=>k_is)
  (case n_all=>k_is)
  (case n_any=>k_is)
  (case n_sum=>k_is)
  (case n_sorted=>k_is)
  (case n_isinstance=>k_is)
  (case n_str=>k_is)
  (case n_range=>k_is)
  (case n_enumerate=>k_is)
  (case n_zip=>k_is)
  (case n_reversed=>k_is)
  (case n_bool=>k_is)
  (case n_dict=>k_is)
  (case n_ValueError=>k_is)
  (case c0=>simp_all_arith)
  (case c2=>simp_all_arith)
  (case c4=>simp_all_arith)
  (case c5=>simp_all_arith)
  (case e5=>k_exc)
  (case y0_0=>kit_is)
  (case y0_2=>kit_is)
  (case y0_4=>kit_is)
  (case y0_5=>kit_is)
  (case y2_0=>kit_is)
  (case y2_2=>kit_is)
  (case y2_4=>kit_is)
  (case y2_5=>kit_is)
  (case y4_0=>kit_is)
  (case y4_2=>kit_is)
  (case y4_4=>kit_is)
  (case y4_5=>kit_is)
  (case y5_0=>kit_is)
  (case y5_2=>kit_is)
  (case y5_4=>kit_is)
  (case y5_5=>kit_is)
  (case gq0=>k_is)
  (case rq0=>first | exact rfl | exact ⟨_,rfl⟩)
  (case nl=>exact rfl)

import PyProof.Rows.All
import Wide.All
import OpenK.AllK
import Wide.FinOn
import Lean
import PyProof.EqAt
import PyProof.EqKinds
import PyProof.TupleCall
import PyProof.ZipIter
import PyProof.LongRange
import PyProof.StrBlockL
import PyProof.StrCalls6
import PyProof.SliceStr
import PyProof.StrWalks
import PyProof.StrLawsIn
import PyProof.StrOps2
import PyProof.DelItemList
import PyProof.ListOps
import PyProof.FitsReplace
import PyProof.DictTable
import PyProof.DictKinds
import PyProof.DictStraight
import PySem.Challenge.RW_ullage_k93_papers_read
set_option Elab.async false
set_option linter.all false
set_option maxRecDepth 100000
open List renaming mem_cons_of_mem->aaa,mem_cons_self->aab,mem_append->aac,length_map->aae,replicate->aaf,mem_append_right->aag,mem_cons->aah,mem_of_getElem?->aai,length_append->aal,getElem?_eq_getElem->aam,map_append->aan,size_toArray->aap,map_cons->aar,mem_append_left->aat,getElem?_map->aau,getElem?_set_ne->aav,all_eq_true->aaw,mem_filterMap->aay,mem_singleton->aaz,getElem?_eq_some_iff->aaC,mem_of_mem_drop->aaD,all_cons->aaE,nodup_cons->aaF,mem_map->aaG,map_map->aaH,getElem?_append_right->aaI,mem_of_mem_take->aaJ,getElem?_append_left->aaK,length->aaM,length_drop->aaN,getElem?_replicate->aaO,append_nil->aaP,length_take->aaQ,length_cons->aaS,length_singleton->aaT,length_set->aaU,cons_append->aaV,length_replicate->aaW,map_nil->aa0,nil_append->aa2,getElem?_cons_succ->aa5,filterMap_cons->aa6,drop_eq_getElem_cons->aa7,eq_nil_iff_forall_not_mem->aa8,getElem?_cons_zero->aa9,replicate_succ->aba,map_congr_left->abb,not_mem_nil->abd,take_of_length_le->abe,map_replicate->abf,range->abg,getElem_of_mem->abh,getElem?_set_self'->abi,foldl_cons->abk,sum_append->abm,append_assoc->abn,mem_reverse->abr,getElem_mem->abt,getD_eq_getElem?_getD->abv,map_take->abw,map_drop->abx,sum_cons->aby,mem_replicate->abz,flatten_cons->abA,length_range->abB,flatMap_cons->abC,getElem?_set_self->abD,drop_length->abE,eraseIdxIfInBounds_toArray->abF,getElem?_of_mem->abH,map_set->abJ,dropLast_subset->abK,map->abN,any_cons->abQ,reverse_cons->abT,mem_or_eq_of_mem_set->abV,mem_flatten->abX,sum_nil->abY,length_eq_zero_iff->abZ,mem_filter->ab0,of_mem_zip->ab1,length_nil->ab2,range_succ_eq_map->ab4,drop_eq_nil_of_le->ab5,drop_zero->ab7,take_append_drop->ab8,eraseIdx_sublist->ab9,getElem_toArray->aca,set->acd,take_succ_cons->acf,length_pos_iff->ach,all_map->ack,nodup_append->acp,map_dropLast->acq,foldl->act
open Nat renaming le_refl->aaj,le_trans->aao,lt_of_lt_of_le->aaq,ne_of_lt->aax,zero_le->aaA,lt_irrefl->aaL,min_le_right->aaR,min_le_left->aaX,le_of_not_lt->aa4,ne_of_gt->abG,le_antisymm->abI,le_succ->abO,lt_succ_of_lt->abU,lt_or_ge->abW,le_of_succ_le_succ->ab6,mul_le_mul_right->acb,le_of_lt->aci,succ_mul->acj,eq_zero_or_pos->acl,lt_of_le_of_lt->acm,zero_add->acn,log2_lt->acr
open Option renaming map_eq_some_iff->aas,isSome_iff_exists->aaB,bind_some->aaZ,map_some->aa3,getD_none->acs
open Bool renaming and_eq_true->aak,false_eq_true->aaY,true_and->aa1,false_and->abc,false_ne_true->abj,true_eq_false->abl,not_eq_true'->abo,not_false->abq,not_true->abu,or_eq_true_iff->abM,false_or->abR,and_true->abS,eq_iff_iff->ab3,and_self->ace,true_or->aco
open Int renaming toNat_natCast->abp,emod_nonneg->abL,emod_lt_of_pos->abP,toNat_of_nonneg->acg
theorem nF {P:Prop} (h:false=true):P:=Bool.noConfusion h
theorem nE {P:Prop} (h:False):P:=h.elim
theorem bS {α β:Type _} {o:Option α} {f:α->Option β} {b:β} (h:o.bind f=some b):∃ a,o=some a/\f a=some b:=Option.bind_eq_some_iff.mp h
section
namespace L2
open PySem PySem.Spec PyProof.Rows
noncomputable abbrev Key:=Sum Int Str
noncomputable def NY:Key->Value->Bool
 | .inl k,v=>Value.isInt k v
 | .inr x,v=>Value.isStrOf x v
noncomputable def Tv (w:World):Key->Int
 | .inl k=>hashInt k
 | .inr x=>hashStr w x
theorem AG:∀ {k:Key} {v:Value},NY k v=true->(∃ i t,k=Sum.inl i/\v=Value.int i t)\/(∃ x t,k=Sum.inr x/\v=Value.str x t)
 | .inl i,v,h=>by
  obtain ⟨t,e⟩:=Value.isInt_shape (k:=i) (v:=v) h
  exact .inl ⟨i,t,rfl,e⟩
 | .inr x,v,h=>by
  obtain ⟨t,e⟩:=Value.isStrOf_shape (x:=x) (v:=v) h
  exact .inr ⟨x,t,rfl,e⟩
theorem Qa (a b:Int):decide ((Sum.inl a:Key)=Sum.inl b)=(a==b):=by
 by_cases e:a=b
 ·subst e; simp
 ·have h:¬ (Sum.inl a:Key)=Sum.inl b:=fun q=>e (Sum.inl.inj q)
  rw [decide_eq_false h]
  exact (beq_eq_false_iff_ne.mpr e).symm
theorem Qb (a b:Str):decide ((Sum.inr a:Key)=Sum.inr b)=decide (a=b):=by
 by_cases e:a=b
 ·subst e; simp
 ·have h:¬ (Sum.inr a:Key)=Sum.inr b:=fun q=>e (Sum.inr.inj q)
  rw [decide_eq_false h,decide_eq_false e]
theorem Qc (a:Int) (b:Str):decide ((Sum.inl a:Key)=Sum.inr b)=false:=decide_eq_false (fun q=>nomatch q)
theorem Qd (a:Str) (b:Int):decide ((Sum.inr a:Key)=Sum.inl b)=false:=decide_eq_false (fun q=>nomatch q)
noncomputable def Gp (prog:Program) (w:World):PySem.KeyKind prog w Key where
 is:=NY
 hash:=Tv w
 inj:=fun v a b ha hb=>by
  rcases AG ha with ⟨i,t,rfl,rfl⟩ | ⟨x,t,rfl,rfl⟩
  ·rcases AG hb with ⟨j,u,rfl,e⟩ | ⟨y,u,rfl,e⟩
   ·injection e with e1 _; rw [e1]
   ·exact nomatch e
  ·rcases AG hb with ⟨j,u,rfl,e⟩ | ⟨y,u,rfl,e⟩
   ·exact nomatch e
   ·injection e with e1 _; rw [e1]
 byValue:=fun k v h=>by
  rcases AG h with ⟨i,t,rfl,rfl⟩ | ⟨x,t,rfl,rfl⟩ <;> rfl
 pyHash:=fun hv h=>by
  rcases AG hv with ⟨i,t,rfl,rfl⟩ | ⟨x,t,rfl,rfl⟩
  ·exact wpAny_pyHash_int h
  ·exact wpAny_pyHash_str h
 eqBool:=fun hu hv h=>by
  rcases AG hu with ⟨i,t,rfl,rfl⟩ | ⟨x,t,rfl,rfl⟩
  ·rcases AG hv with ⟨j,u,rfl,rfl⟩ | ⟨y,u,rfl,rfl⟩
   ·rw [Qa] at h; exact wpAny_eqBool_int h
   ·rw [Qc] at h; exact SeqAt.EqAt.int_str i t y u _ _ _ _ h
  ·rcases AG hv with ⟨j,u,rfl,rfl⟩ | ⟨y,u,rfl,rfl⟩
   ·rw [Qd] at h; exact SeqAt.EqAt.str_int x t j u _ _ _ _ h
   ·rw [Qb] at h; exact wpAny_eqBool_str h
 «strs»:=fun k x t v h=>by
  rcases AG h with ⟨i,u,rfl,e⟩ | ⟨y,u,rfl,e⟩
  ·exact nomatch e
  ·injection e with e1 _
   subst e1
   cases v <;> rfl
end L2
namespace L2
open PySem PySem.Spec PyProof.Rows
inductive V where
 | non | bl (b:Bool) | int (i:Int) | str (x:Str) | byt (b:Array UInt8) | flt (b:UInt64) | ref (a:Addr) | ty (n:String)
 deriving DecidableEq
noncomputable def RelV:V->Value->Prop
 | .non,u=>u=Value.none
 | .bl b,u=>u=Value.bool b
 | .int i,u=>∃ t,u=Value.int i t
 | .str x,u=>∃ t,u=Value.str x t
 | .byt b,u=>∃ t,u=Value.bytes b t
 | .flt b,u=>∃ t,u=Value.float b t
 | .ref a,u=>u=Value.ref a
 | .ty n,u=>u=Value.type n
noncomputable abbrev Vals:List V->List Value->Prop:=Paired RelV
theorem Vals.length {xs:List V} {us:List Value} (r:Vals xs us):xs.length=us.length:=Paired.length r
theorem Vals.get:∀ {xs:List V} {us:List Value} {i:Nat} {x:V},Vals xs us->xs[i]?=some x->∃ u,us[i]?=some u/\RelV x u
 | _,_,_,_,.nil,e=>by simp at e
 | _,_,0,_,.cons r _,e=>by simp at e; subst e; exact ⟨_,rfl,r⟩
 | _,_,i + 1,x,.cons _ t,e=>by
  obtain ⟨u,h1,h2⟩:=Vals.get (i:=i) (x:=x) t (by simpa using e)
  exact ⟨u,by simpa using h1,h2⟩
theorem Vals.set {x:V} {u:Value} (r:RelV x u):∀ {xs:List V} {us:List Value} (i:Nat),Vals xs us->Vals (xs.set i x) (us.set i u)
 | _,_,_,.nil=>.nil
 | _,_,0,.cons _ t=>.cons r t
 | _,_,i + 1,.cons q t=>.cons q (Vals.set r i t)
theorem Vals.append:∀ {xs ys:List V} {us ws:List Value},Vals xs us->Vals ys ws->Vals (xs ++ ys) (us ++ ws)
 | _,_,_,_,.nil,s=>s
 | _,_,_,_,.cons r t,s=>.cons r (Vals.append t s)
theorem Vals.take:∀ {xs:List V} {us:List Value} (n:Nat),Vals xs us->Vals (xs.take n) (us.take n)
 | _,_,0,_=>.nil
 | _,_,_ + 1,.nil=>.nil
 | _,_,n + 1,.cons r t=>.cons r (Vals.take n t)
theorem Vals.drop:∀ {xs:List V} {us:List Value} (n:Nat),Vals xs us->Vals (xs.drop n) (us.drop n)
 | _,_,0,r=>r
 | _,_,_ + 1,.nil=>.nil
 | _,_,n + 1,.cons _ t=>Vals.drop n t
noncomputable def Mo:Option V->Option Value->Prop
 | some v,some u=>RelV v u
 | none,none=>True
 | _,_=>False
noncomputable def KV {κ:Type}:List (κ × V)->List (κ × Value)->Prop:=Paired fun (p:κ × V) (q:κ × Value)=>p.1=q.1/\RelV p.2 q.2
noncomputable def kV:Key->V
 | .inl i=>.int i
 | .inr x=>.str x
inductive HO where
  | lst (xs:List V)
  | tup (xs:List V)
  | dK (kvs:List (Key × V)) | dT (kvs:List (List Key × V))
  | set (S:Int->Bool) (n:Nat)
  | ins (C dx:Addr) (fs:List (Str × V))
  | own (x:Addr)
  | xd (fs:List (Str × V))
  | met (f x:Addr)
  | rng (lo hi:Int)
  | frz (o:Obj) (u:HO)
  | tbl (ps:Array Value)
  | ext (φ:Heap->Prop)
noncomputable abbrev Hp:=Addr->Option HO
noncomputable def upd (H:Hp) (a:Addr) (o:HO):Hp:=fun b=>if b=a then some o else H b
theorem Ak {H:Hp} {a:Addr} {o:HO}:upd H a o a=some o:=by unfold upd; rw [if_pos rfl]
theorem Af {H:Hp} {a b:Addr} {o:HO} (h:b ≠ a):upd H a o b=H b:=by unfold upd; rw [if_neg h]
theorem BE {H:Hp} {a b:Addr} {o:HO} (h:H a=some o) (h':H b=none):a ≠ b:=by
 intro e; subst e; rw [h] at h'; cases h'
section
variable (P:Program) (w:World)
noncomputable def ObjOk (H:Hp) (h:Heap) (a:Addr):HO->Prop
 | .lst xs=>xs.length<=sizeLine/\∃ (its:List Value) (n:Nat),Vals xs its/\h.get? a=some { cls:=.type "list",data:=.seq its.toArray n }
 | .tup xs=>xs.length<=sizeLine/\∃ its:List Value,Vals xs its/\IsTup h a its.toArray
 | .dK kvs=>kvs.length<=sizeLine/\(a==sysModules)=false/\∃ vs,KV kvs vs/\h.DictOf (Gp P w) a vs
 | .dT kvs=>kvs.length<=sizeLine/\(a==sysModules)=false/\∃ xs:List (List Key × Addr × Value),
   Paired (fun (p:List Key × V) (q:List Key × Addr × Value)=>p.1=q.1/\H q.2.1=some (.tup (p.1.map kV))/\RelV p.2 q.2.2) kvs xs /\
   ∃ o es ep,h.get? a=some o/\o.ExactDict/\o.data=.dict es ep/\es.toList=xs.map (entryOfKey (tupleKind (Gp P w)))/\(xs.map (·.1)).Nodup
 | .set S n=>h.SetOf (intKind P w) a S n
 | .ins C dx fs=>H dx=some (.own a)/\fs.length<=1000/\dx ≠ a/\h.get? a=some (PySem.W.instObj C dx) /\
   ∃ mA,h.Ns1 dx mA/\(∀ f,Mo (fs.lookup f) (mA f))/\PySem.Within mA (fs.map (·.1))
 | .own _=>∃ o,h.get? a=some o
 | .xd fs=>∃ mA,h.Ns1 a mA/\∀ f,Mo (fs.lookup f) (mA f)
 | .rng lo hi=>∃ t u v,h.get? a=some { cls:=.type "range",data:=.fields #[.int lo t,.int hi u,.int 1 v] }
 | .frz o u=>h.get? a=some o/\ObjOk H h a u
 | .tbl ps=>h.get? a=some { cls:=.none,data:=.fields ps }
 | .met f x=>h.get? a=some (PySem.W.methodObj (.ref f) (.ref x))
 | .ext φ=>φ h/\(∃ o,h.get? a=some o)/\∀ h1 h2:Heap,φ h1->(∀ o,h1.get? a=some o->h2.get? a=some o)->φ h2
noncomputable def HOk (H:Hp) (h:Heap):Prop:=∀ a o,H a=some o->ObjOk P w H h a o
end
section
variable {P:Program} {w:World} {H H':Hp} {h h':Heap} {a:Addr} {o:HO}
theorem ObjOk.lt (x:ObjOk P w H h a o):a < h.objs.size:=by
 cases o with
 | lst xs=>obtain ⟨_,_,_,_,e⟩:=x; exact Heap.lt_size e
 | tup xs=>obtain ⟨_,_,_,p⟩:=x; exact p.lt
 | dK kvs=>obtain ⟨_,_,_,_,o,_,_,e,_⟩:=x; exact Heap.lt_size e
 | dT kvs=>obtain ⟨_,_,_,_,o,_,_,e,_⟩:=x; exact Heap.lt_size e
 | set S n=>obtain ⟨o,_,_,_,e,_⟩:=x; exact Heap.lt_size e
 | ins C dx fs=>obtain ⟨_,_,_,e,_⟩:=x; exact Heap.lt_size e
 | own y=>obtain ⟨_,e⟩:=x; exact Heap.lt_size e
 | xd fs=>obtain ⟨_,⟨_,_,_,e,_⟩,_⟩:=x; exact Heap.lt_size e
 | rng lo hi=>obtain ⟨_,_,_,e⟩:=x; exact Heap.lt_size e
 | frz ob u=>obtain ⟨e,_⟩:=x; exact Heap.lt_size e
 | tbl ps=>exact Heap.lt_size (show h.get? a=some _ from x)
 | met f y=>exact Heap.lt_size (show h.get? a=some _ from x)
 | ext φ=>obtain ⟨_,⟨_,e⟩,_⟩:=x; exact Heap.lt_size e
theorem Paired.mapP {α β:Type} {F G:α->β->Prop}:∀ {l₁:List α} {l₂:List β},Paired F l₁ l₂->(∀ a b,F a b->G a b)->Paired G l₁ l₂
 | _,_,.nil,_=>.nil
 | _,_,.cons r t,f=>.cons (f _ _ r) (Paired.mapP t f)
theorem ObjOk.stay (x:ObjOk P w H h a o) (k:∀ b u,(b=a\/H b=some (.own a))->h.get? b=some u->h'.get? b=some u)
  (ho:∀ b,H b=some (.own a)->H' b=some (.own a)) (ht:∀ b xs,H b=some (.tup xs)->H' b=some (.tup xs)):ObjOk P w H' h' a o:=by
 induction o with
 | lst xs=>obtain ⟨z,its,n,r,e⟩:=x; exact ⟨z,its,n,r,k _ _ (.inl rfl) e⟩
 | tup xs=>obtain ⟨z,its,r,ob,e,c⟩:=x; exact ⟨z,its,r,ob,k _ _ (.inl rfl) e,c⟩
 | dK kvs=>obtain ⟨z,y,vs,r,ob,es,ep,e,c⟩:=x; exact ⟨z,y,vs,r,ob,es,ep,k _ _ (.inl rfl) e,c⟩
 | dT kvs =>
  obtain ⟨z,y,xs,r,ob,es,ep,e,c⟩:=x
  exact ⟨z,y,xs,Paired.mapP r fun p q z=>⟨z.1,ht _ _ z.2.1,z.2.2⟩,ob,es,ep,k _ _ (.inl rfl) e,c⟩
 | set S n=>obtain ⟨ob,es,ep,t,e,c⟩:=x; exact ⟨ob,es,ep,t,k _ _ (.inl rfl) e,c⟩
 | ins C dx fs =>
  obtain ⟨d,z,ne,e,mA,⟨od,es,ep,e2,c⟩,r⟩:=x
  exact ⟨ho _ d,z,ne,k _ _ (.inl rfl) e,mA,⟨od,es,ep,k _ _ (.inr d) e2,c⟩,r⟩
 | own y=>obtain ⟨ob,e⟩:=x; exact ⟨ob,k _ _ (.inl rfl) e⟩
 | xd fs=>obtain ⟨mA,⟨od,es,ep,e,c⟩,r⟩:=x; exact ⟨mA,⟨od,es,ep,k _ _ (.inl rfl) e,c⟩,r⟩
 | rng lo hi=>obtain ⟨t,u,v,e⟩:=x; exact ⟨t,u,v,k _ _ (.inl rfl) e⟩
 | frz ob u ih=>obtain ⟨e,q⟩:=x; exact ⟨k _ _ (.inl rfl) e,ih q⟩
 | tbl ps =>
  have e:h.get? a=some { cls:=.none,data:=.fields ps }:=x
  show h'.get? a=some { cls:=.none,data:=.fields ps }
  exact k a _ (.inl rfl) e
 | met f y =>
  have e:h.get? a=some (PySem.W.methodObj (.ref f) (.ref y)):=x
  show h'.get? a=some (PySem.W.methodObj (.ref f) (.ref y))
  exact k a _ (.inl rfl) e
 | ext φ=>obtain ⟨p,⟨o,e⟩,st⟩:=x; exact ⟨st _ _ p fun o q=>k _ _ (.inl rfl) q,⟨o,k _ _ (.inl rfl) e⟩,st⟩
theorem HOk.lt (x:HOk P w H h) (e:H a=some o):a < h.objs.size:=(x a o e).lt
theorem HOk.fresh (x:HOk P w H h) (e:h.objs.size<=a):H a=none:=by
 cases q:H a with
 | none=>rfl
 | some u=>exact absurd (aaq (x.lt q) e) (aaL _)
theorem HOk.kept (x:HOk P w H h) (k:∀ b u,h.get? b=some u->h'.get? b=some u):HOk P w H h':=fun a o e =>
 (x a o e).stay (fun b u _ q=>k b u q) (fun _ q=>q) fun _ _ q=>q
theorem HOk.laid (x:HOk P w H h) (k:∀ b u,h.get? b=some u->h'.get? b=some u) (hp:h.objs.size<=a) (new:ObjOk P w (upd H a o) h' a o):HOk P w (upd H a o) h':=fun b u e=>by
 have hn:=x.fresh hp
 by_cases hb:b=a
 ·subst hb; rw [Ak] at e; cases e; exact new
 ·rw [Af hb] at e
  exact (x b u e).stay (fun c v _ q=>k c v q) (fun c q=>by rw [Af (BE q hn)]; exact q) fun c xs q=>by rw [Af (BE q hn)]; exact q
end
noncomputable def Rd (H:Hp) (a:Addr) (u:HO):Prop:=H a=some u\/∃ o,H a=some (.frz o u)
theorem Rd.ok {P:Program} {w:World} {H:Hp} {h:Heap} {a:Addr} {u:HO} (r:Rd H a u) (x:HOk P w H h):ObjOk P w H h a u:=by
 rcases r with r | ⟨o,r⟩
 ·exact x a u r
 ·obtain ⟨_,q⟩:=x a _ r
  exact q
noncomputable def Mut:Option HO->Prop
 | some (.lst _)=>True
 | some (.dK _)=>True
 | some (.dT _)=>True
 | some (.set _ _)=>True
 | some (.ins _ _ _)=>True
 | some (.ext _)=>True
 | _=>False
section
variable {P:Program} {w:World} {H:Hp} {h h':Heap} {x e:Addr} {o':HO}
theorem HOk.write (ok:HOk P w H h) (mu:Mut (H x)) (he:e=x\/H e=some (.own x)) (k:∀ b u,b ≠ e->h.get? b=some u->h'.get? b=some u) (heo:∃ u,h'.get? e=some u)
  (new:ObjOk P w (upd H x o') h' x o'):HOk P w (upd H x o') h':=fun b u q=>by
 have nown:∀ c y,H c=some (.own y)->c ≠ x:=fun c y r z=>by subst z; rw [r] at mu; exact mu
 have ntup:∀ c xs,H c=some (.tup xs)->c ≠ x:=fun c xs r z=>by subst z; rw [r] at mu; exact mu
 by_cases hb:b=x
 ·subst hb; rw [Ak] at q; cases q; exact new
 ·rw [Af hb] at q
  by_cases hbe:b=e
  ·have q':H b=some (.own x):=by
    rcases he with z | z
    ·exact absurd (hbe.trans z) hb
    ·rw [hbe]; exact z
   rw [q] at q'; cases q'
   obtain ⟨v,hv⟩:=heo
   exact ⟨v,by rw [hbe]; exact hv⟩
  ·refine (ok b u q).stay (fun c v hc r=>k c v ?_ r) (fun c r=>by rw [Af (nown c b r)]; exact r) fun c xs r=>by rw [Af (ntup c xs r)]; exact r
   rcases hc with rfl | hc
   ·exact hbe
   ·rintro rfl
    rcases he with z | z
    ·exact nown c b hc z
    ·rw [hc] at z; cases z; exact hb rfl
end
structure Un (fs ex:List Addr) (H H':Hp) (h h':Heap):Prop where
 keep:∀ b o,h.get? b=some o->H b=none->b ∉ fs->b ∉ ex->h'.get? b=some o
 slot:∀ b o,h.get? b=some o->H b=none->b ∈ fs->b ∉ ex->∃ sl,h'.get? b=some { o with slots:=sl }
 free:∀ b o,h.get? b=some o->H b=none->b ∉ ex->H' b=none
 there:∀ b o,h.get? b=some o->b ∉ ex->∃ o',h'.get? b=some o'
 tups:∀ b xs,H b=some (.tup xs)->H' b=some (.tup xs)
 frzs:∀ b o u,H b=some (.frz o u)->H' b=some (.frz o u)
 tbls:∀ b ps,H b=some (.tbl ps)->∃ more,H' b=some (.tbl (ps ++ more))
section
variable {fs fs' ex ex':List Addr} {H H1 H2:Hp} {h h1 h2 h':Heap} {a x e:Addr} {o:HO}
theorem Un.any (u:Un fs ex H H1 h h1) {b:Addr} {ob:Obj} (q:h.get? b=some ob) (n:H b=none) (hx:b ∉ ex):∃ sl,h1.get? b=some { ob with slots:=sl }:=by
 by_cases hb:b ∈ fs
 ·exact u.slot b ob q n hb hx
 ·exact ⟨ob.slots,u.keep b ob q n hb hx⟩
theorem Un.kept (k:∀ b u,h.get? b=some u->h'.get? b=some u):Un fs ex H H h h' :=
 ⟨fun b ob q _ _ _=>k b ob q,fun b ob q _ _ _=>⟨ob.slots,k b ob q⟩,fun _ _ _ n _=>n,fun b ob q _=>⟨ob,k b ob q⟩,fun _ _ q=>q,fun _ _ _ q=>q,fun _ ps q=>⟨#[],by rw [q]; simp⟩⟩
theorem Un.refl:Un fs ex H H h h:=Un.kept fun _ _ q=>q
theorem Un.laid (k:∀ b u,h.get? b=some u->h'.get? b=some u) (hp:h.objs.size<=a) (hn:H a=none):Un fs ex H (upd H a o) h h' where
 keep:=fun b u q _ _ _=>k b u q
 slot:=fun b u q _ _ _=>⟨u.slots,k b u q⟩
 free:=fun b u q n _=>by rw [Af (aax (aaq (Heap.lt_size q) hp))]; exact n
 there:=fun b u q _=>⟨u,k b u q⟩
 tups:=fun b xs q=>by rw [Af (BE q hn)]; exact q
 frzs:=fun b u xs q=>by rw [Af (BE q hn)]; exact q
 tbls:=fun b ps q=>⟨#[],by rw [Af (BE q hn),q]; simp⟩
theorem Un.write (mu:Mut (H x)) (he:e=x\/H e=some (.own x)) (k:∀ b u,b ≠ e->h.get? b=some u->h'.get? b=some u) (heo:∃ u,h'.get? e=some u):Un fs ex H (upd H x o) h h':=by
 have hx:∀ b,H b=none->b ≠ x:=fun b n z=>by subst z; rw [n] at mu; exact mu
 have hb:∀ b,H b=none->b ≠ e:=fun b n z=>by
  subst z
  rcases he with r | r
  ·exact hx b n r
  ·rw [n] at r; cases r
 have hm:∀ b u,H b=some u->¬ Mut (some u)->b ≠ x:=fun b u q nm z=>by subst z; rw [q] at mu; exact nm mu
 refine ⟨fun b u q n _ _=>k b u (hb b n) q,fun b u q n _ _=>⟨u.slots,k b u (hb b n) q⟩,fun b u q n _=>by rw [Af (hx b n)]; exact n,fun b u q _=>?_,
  fun b xs q=>by rw [Af (hm b _ q fun z=>z)]; exact q,fun b u xs q=>by rw [Af (hm b _ q fun z=>z)]; exact q,fun b ps q=>⟨#[],by rw [Af (hm b _ q fun z=>z),q]; simp⟩⟩
 by_cases hbe:b=e
 ·subst hbe; exact heo
 ·exact ⟨u,k b u hbe q⟩
end
noncomputable def trk (h:Heap) (H:Hp):List Addr:=(abg h.objs.size).filter fun a=>(H a).isSome
noncomputable def Eh (h:Heap) (H:Hp):Heap:=PySem.W.hideAll h (trk h H)
theorem KU (h:Heap) (H:Hp):(Eh h H).objs.size=h.objs.size:=PySem.W.hideAll_size _ _
theorem Mp {h:Heap} {H:Hp} {b:Addr} {o:Obj} (e:h.get? b=some o) (n:H b=none):(Eh h H).get? b=some o :=
 PySem.W.hideAll_get _ e fun hm=>by
  have q:(H b).isSome=true:=(ab0.mp hm).2
  rw [n] at q; simp at q
theorem Oh {h:Heap} {H:Hp} {b:Addr} {o:Obj} (e:(Eh h H).get? b=some o):h.get? b=some o/\H b=none:=by
 have e':h.get? b=some o:=PySem.W.of_hideAll (trk h H) e
 refine ⟨e',?_⟩
 cases q:H b with
 | none=>rfl
 | some x =>
  have hm:b ∈ trk h H:=ab0.mpr ⟨List.mem_range.mpr (Heap.lt_size e'),by simp [q]⟩
  have z:(Eh h H).get? b=none:=PySem.W.hideAll_none (trk h H) hm
  rw [z] at e; cases e
structure Mod (K:PySem.W.Frag) (mg:Str->Option Value) (base:Heap):Prop where
 kin:K.In base
 glob:base.Ns mainGlobals mg
 blt:∃ mb,base.Ns builtinsNs mb/\∀ x:Str,x ≠ "__name__" -> mb x=bootBuiltins x
 nolimit:base.NoLimit
structure Cx where
 prog:Program
 w:World
 K:PySem.W.Frag
 mg:Str->Option Value
 base:Heap
 A:Around
 N:List Str
 s₀:Shared
 H₀:Hp
 env:Env
 outer:List Env
 stack:List Env
 ex:List Addr
 fn:Str->Bool
 calm:Bool
 pn:List (Addr × Obj)
 xe:Value->Shared->Prop
noncomputable def frs (l:List Env):List Addr:=l.filterMap (·.frame)
noncomputable abbrev Cx.fs (X:Cx):List Addr:=frs X.outer
noncomputable def Vis (sc:Scope) (x:Str):Prop:=sc.names.lookup x=some .local\/sc.names.lookup x=some .cell\/sc.names.lookup x=some .free
noncomputable def Loc (sc:Scope) (x:Str):Prop:=sc.names.lookup x=some .local\/sc.names.lookup x=some .cell
noncomputable def Tw (env:Env) (h:Heap) (m:Str->Option Value) (x:Str) (u:Value):Prop :=
 (env.kindOf x=some .local/\m x=some u)\/((env.kindOf x=some .cell\/env.kindOf x=some .free)/\∃ c,env.cells.lookup x=some c/\h.IsCell c (some u))
structure Cx.Ok (X:Cx):Prop where
 mod:Mod X.K X.mg X.base
 kind:X.env.scope.kind=.function
 glob:X.env.globals=mainGlobals
 blt:X.env.builtins=builtinsNs
 above:X.s₀.heap.objs.size<=X.env.locals
 inj:∀ x y c,X.env.cells.lookup x=some c->X.env.cells.lookup y=some c->x=y
 has:∀ x,(X.env.kindOf x=some .cell\/X.env.kindOf x=some .free)->∃ c,X.env.cells.lookup x=some c
 cab:∀ x c,X.fn x=true->X.env.cells.lookup x=some c->X.s₀.heap.objs.size<=c
 hd:X.calm=true->X.A.handled=none
 frames:X.A.frames=some X.stack
 stk:X.stack=X.outer\/(X.stack=X.env :: X.outer/\X.env.frame=some X.env.locals)
 exf:∀ b ∈ X.ex,b ≠ X.env.locals/\∀ x c,X.env.cells.lookup x=some c->c ≠ b
 bs:∀ b o,X.base.get? b=some o->X.s₀.heap.get? b=some o/\X.H₀ b=none
 bsz:X.base.objs.size<=X.s₀.heap.objs.size
 noex:∀ b o,X.base.get? b=some o->b ∉ X.ex
 exfs:∀ b ∈ X.ex,b ∉ X.fs
 funs:X.s₀.heap.FunFrames X.base X.outer
 frf:∀ b ∈ X.fs,X.H₀ b=none
structure Inv (X:Cx) (pins:List (Addr × Obj)) (σ:List (Option V)) (H:Hp) (s:Shared):Prop where
 ok:X.Ok
 os:s.os=X.s₀.os
 bare:AllBare s.gens
 base:Un X.fs X.ex X.H₀ H X.s₀.heap s.heap
 loc:∃ m,s.heap.Ns X.env.locals m/\∀ (i:Nat) (x:Str) (v:V),X.N[i]?=some x->σ[i]?=some (some v)->Vis X.env.scope x->∃ u,RelV v u/\Tw X.env s.heap m x u
 cell:∀ x c,X.env.cells.lookup x=some c->∃ v,s.heap.IsCell c v
 free:H X.env.locals=none
 freeC:∀ x c,X.env.cells.lookup x=some c->H c=none
 pin:∀ p ∈ X.pn ++ pins,s.heap.get? p.1=some p.2/\H p.1=none/\p.1 ≠ X.env.locals/\p.1 ∉ X.fs/\∀ v,p.2.data ≠ .cell v
 hok:HOk X.prog X.w H s.heap
 len:σ.length=X.N.length
section
variable {X:Cx} {pins:List (Addr × Obj)} {σ:List (Option V)} {H H':Hp} {s:Shared} {h':Heap}
theorem Cx.Ok.nofr (ok:X.Ok) {b:Addr} {o:Obj} (e:X.base.get? b=some o):b ∉ X.fs:=fun hb=>by
 have:=(ok.funs.mem hb).1
 rw [e] at this; cases this
theorem Inv.bs (I:Inv X pins σ H s):∀ b o,X.base.get? b=some o->s.heap.get? b=some o/\H b=none:=fun b o e =>
 ⟨I.base.keep b o (I.ok.bs b o e).1 (I.ok.bs b o e).2 (I.ok.nofr e) (I.ok.noex b o e),I.base.free b o (I.ok.bs b o e).1 (I.ok.bs b o e).2 (I.ok.noex b o e)⟩
theorem Inv.bk (I:Inv X pins σ H s):∀ b o,X.base.get? b=some o->s.heap.get? b=some o:=fun b o e=>(I.bs b o e).1
theorem Inv.mod (I:Inv X pins σ H s):Mod X.K X.mg X.base:=I.ok.mod
theorem Inv.kIn (I:Inv X pins σ H s):X.K.In s.heap:=I.ok.mod.kin.keeps I.bk
theorem Inv.fr (I:Inv X pins σ H s):∃ m,Fr X.base X.env.locals s.heap m :=
 let ⟨m,hn,_⟩:=I.loc
 ⟨m,hn,I.bk,aao I.ok.bsz I.ok.above⟩
theorem Inv.lt (I:Inv X pins σ H s):X.env.locals < s.heap.objs.size:=let ⟨_,hn,_⟩:=I.loc; hn.lt
theorem Inv.sz (I:Inv X pins σ H s):X.s₀.heap.objs.size<=s.heap.objs.size:=aao I.ok.above (aci I.lt)
theorem Inv.nofs (I:Inv X pins σ H s) {a:Addr} (h:s.heap.objs.size<=a):a ∉ X.fs:=fun hb=>by
 obtain ⟨_,o,ho,_⟩:=I.ok.funs.mem hb
 exact absurd (aaq (Heap.lt_size ho) (aao I.sz h)) (aaL _)
theorem Inv.cne (I:Inv X pins σ H s):∀ x c,X.env.cells.lookup x=some c->c ≠ X.env.locals:=fun x c e z=>by
 obtain ⟨v,o,ho,hd⟩:=I.cell x c e
 obtain ⟨m,⟨o',es,ep,ho',hd',_⟩,_⟩:=I.loc
 rw [z,ho'] at ho; cases ho; rw [hd'] at hd; cases hd
theorem Inv.funs (I:Inv X pins σ H s):s.heap.FunFrames X.base X.outer:=by
 have all:∀ (l:List Env),(∀ b ∈ frs l,b ∈ X.fs)->X.s₀.heap.FunFrames X.base l->s.heap.FunFrames X.base l:=by
  intro l
  induction l with
  | nil=>intro _ _; trivial
  | cons env r ih =>
   intro hs hl
   obtain ⟨hk,⟨L,o,hf,hn,ho,hd⟩,hr⟩:=hl
   have hL:L ∈ X.fs:=hs L (by unfold frs; rw [aa6,hf]; exact aab)
   obtain ⟨sl,e⟩:=I.base.slot L o ho (I.ok.frf L hL) hL fun z=>I.ok.exfs L z hL
   exact ⟨hk,⟨L,_,hf,hn,e,hd⟩,ih (fun b hb=>hs b (by unfold frs; rw [aa6,hf]; exact aaa _ hb)) hr⟩
 exact all X.outer (fun _ hb=>hb) I.ok.funs
theorem Inv.stack (I:Inv X pins σ H s):s.heap.FunFrames X.base X.stack:=by
 rcases I.ok.stk with e | ⟨e,hf⟩
 ·rw [e]; exact I.funs
 ·rw [e]
  obtain ⟨m,hn,_⟩:=I.loc
  refine .cons (by rw [I.ok.kind]; decide) hf hn ?_ I.funs
  exact Heap.get?_none_of_le (aao I.ok.bsz I.ok.above)
theorem Inv.stkSub (I:Inv X pins σ H s):∀ b ∈ frs X.stack,b ∈ X.env.locals :: X.fs:=fun b hb=>by
 rcases I.ok.stk with e | ⟨e,hf⟩
 ·rw [e] at hb; exact aaa _ hb
 ·rw [e] at hb
  unfold frs at hb
  rw [aa6,hf] at hb
  exact hb
theorem Inv.stkFree (I:Inv X pins σ H s):∀ b ∈ frs X.stack,H b=none:=fun b hb=>by
 rcases aah.mp (I.stkSub b hb) with e | hb
 ·rw [e]; exact I.free
 ·obtain ⟨_,o,ho,_⟩:=I.ok.funs.mem hb
  exact I.base.free b o ho (I.ok.frf b hb) fun z=>I.ok.exfs b z hb
theorem Inv.step {g':Array GenState} {t':Nat} {d':Drawn} {ch:List Addr} (I:Inv X pins σ H s)
  (hch:∀ b ∈ ch,(b ∈ X.ex\/X.s₀.heap.objs.size<=b)/\b ≠ X.env.locals/\(∀ x c,X.env.cells.lookup x=some c->c ≠ b)/\∀ p ∈ X.pn ++ pins,p.1 ≠ b)
  (keep:∀ b o,b ≠ X.env.locals->b ∉ X.fs->b ∉ ch->s.heap.get? b=some o->H b=none->h'.get? b=some o)
  (slot:∀ b o,b ≠ X.env.locals->b ∈ X.fs->b ∉ ch->s.heap.get? b=some o->H b=none->∃ sl,h'.get? b=some { o with slots:=sl }) (free:∀ b o,b ∉ ch->s.heap.get? b=some o->H b=none->H' b=none)
  (there:∀ b o,b ∉ ch->s.heap.get? b=some o->∃ o',h'.get? b=some o')
  (tups:∀ b xs,H b=some (.tup xs)->H' b=some (.tup xs)) (frzs:∀ b o u,H b=some (.frz o u)->H' b=some (.frz o u)) (tbls:∀ b ps,H b=some (.tbl ps)->∃ more,H' b=some (.tbl (ps ++ more)))
  (ns:∀ m,s.heap.Ns X.env.locals m->h'.Ns X.env.locals m) (hok:HOk X.prog X.w H' h') (hg:AllBare g') :
  Inv X pins σ H' { s with heap:=h',gens:=g',drawn:=d',toks:=t' }:=by
 have neL:∀ b o,X.s₀.heap.get? b=some o->b ≠ X.env.locals:=fun b o e=>aax (aaq (Heap.lt_size e) I.ok.above)
 have neC:∀ b o,X.s₀.heap.get? b=some o->b ∉ X.ex->b ∉ ch:=fun b o e hx hb=>by
  rcases (hch b hb).1 with z | z
  ·exact hx z
  ·exact absurd (aaq (Heap.lt_size e) z) (aaL _)
 have cellK:∀ x c,X.env.cells.lookup x=some c->∀ v,s.heap.IsCell c v->h'.IsCell c v:=fun x c e v ⟨o,ho,hd⟩=>by
  have nch:c ∉ ch:=fun z=>(hch c z).2.2.1 x c e rfl
  by_cases hc:c ∈ X.fs
  ·obtain ⟨sl,q⟩:=slot c o (I.cne x c e) hc nch ho (I.freeC x c e)
   exact ⟨_,q,hd⟩
  ·exact ⟨o,keep c o (I.cne x c e) hc nch ho (I.freeC x c e),hd⟩
 refine ⟨I.ok,I.os,hg,⟨fun b o e n hb hx=>?_,fun b o e n hb hx=>?_,fun b o e n hx=>?_,fun b o e hx=>?_,fun b xs e=>tups b xs (I.base.tups b xs e),fun b o xs e=>frzs b o xs (I.base.frzs b o xs e),fun b ps e=>?_⟩,?_,fun x c e=>?_,?_,fun x c e=>?_,fun p hp=>?_,hok,I.len⟩
 ·exact keep b o (neL b o e) hb (neC b o e hx) (I.base.keep b o e n hb hx) (I.base.free b o e n hx)
 ·obtain ⟨sl,e1⟩:=I.base.slot b o e n hb hx
  obtain ⟨sl',e2⟩:=slot b _ (neL b o e) hb (neC b o e hx) e1 (I.base.free b o e n hx)
  exact ⟨sl',e2⟩
 ·obtain ⟨o',e1⟩:=I.base.there b o e hx
  exact free b o' (neC b o e hx) e1 (I.base.free b o e n hx)
 ·obtain ⟨o',e1⟩:=I.base.there b o e hx
  exact there b o' (neC b o e hx) e1
 ·obtain ⟨m1,e1⟩:=I.base.tbls b ps e
  obtain ⟨m2,e2⟩:=tbls b _ e1
  exact ⟨m1 ++ m2,by rw [e2,Array.append_assoc]⟩
 ·obtain ⟨m,hn,hl⟩:=I.loc
  refine ⟨m,ns m hn,fun i x v e1 e2 e3=>?_⟩
  obtain ⟨u,r,l⟩:=hl i x v e1 e2 e3
  refine ⟨u,r,?_⟩
  rcases l with l | ⟨k,c,e,z⟩
  ·exact .inl l
  ·exact .inr ⟨k,c,e,cellK x c e _ z⟩
 ·obtain ⟨v,z⟩:=I.cell x c e
  exact ⟨v,cellK x c e v z⟩
 ·obtain ⟨m,⟨o,_,_,ho,_⟩,_⟩:=I.loc
  exact free _ o (fun z=>(hch _ z).2.1 rfl) ho I.free
 ·obtain ⟨v,o,ho,hd⟩:=I.cell x c e
  exact free c o (fun z=>(hch c z).2.2.1 x c e rfl) ho (I.freeC x c e)
 ·obtain ⟨e,n,ne,nf,d⟩:=I.pin p hp
  have nch:p.1 ∉ ch:=fun z=>(hch p.1 z).2.2.2 p hp rfl
  exact ⟨keep p.1 p.2 ne nf nch e n,free p.1 p.2 nch e n,ne,nf,d⟩
theorem Inv.un {t':Nat} (I:Inv X pins σ H s) (u:Un X.fs [] H H' s.heap h') (hok:HOk X.prog X.w H' h'):Inv X pins σ H' { s with heap:=h',toks:=t' }:=by
 obtain ⟨m,⟨o,es,ep,ho,r⟩,_⟩:=id I.loc
 obtain ⟨sl,hL⟩:=u.any ho I.free (by simp)
 exact I.step (g':=s.gens) (d':=s.drawn) (ch:=[]) (fun _ z=>nomatch z) (fun b o _ hb _ e n=>u.keep b o e n hb (by simp)) (fun b o _ hb _ e n=>u.slot b o e n hb (by simp)) (fun b o _ e n=>u.free b o e n (by simp)) (fun b o _ e=>u.there b o e (by simp)) u.tups u.frzs u.tbls (fun m' hm=>by
  obtain ⟨o',es',ep',ho',r'⟩:=hm
  rw [ho] at ho'; cases ho'
  exact ⟨_,es',ep',hL,r'⟩) hok I.bare
theorem Inv.call {g':Array GenState} {t':Nat} {d':Drawn} {ch:List Addr} (I:Inv X pins σ H s) (u:Un (frs X.stack) ch H H' s.heap h') (hok:HOk X.prog X.w H' h') (hg:AllBare g')
  (hch:∀ b ∈ ch,(b ∈ X.ex\/X.s₀.heap.objs.size<=b)/\b ≠ X.env.locals/\(∀ x c,X.env.cells.lookup x=some c->c ≠ b)/\∀ p ∈ X.pn ++ pins,p.1 ≠ b) :
  Inv X pins σ H' { s with heap:=h',gens:=g',drawn:=d',toks:=t' }:=by
 obtain ⟨m,⟨o,es,ep,ho,r⟩,_⟩:=id I.loc
 obtain ⟨sl,hL⟩:=u.any ho I.free fun z=>(hch _ z).2.1 rfl
 exact I.step (ch:=ch) hch (fun b o hL hb hc e n=>u.keep b o e n (fun z=>(aah.mp (I.stkSub b z)).elim hL hb) hc) (fun b o _ _ hc e n=>u.any e n hc) (fun b o hc e n=>u.free b o e n hc) (fun b o hc e=>u.there b o e hc) u.tups u.frzs u.tbls (fun m' hm=>by
  obtain ⟨o',es',ep',ho',r'⟩:=hm
  rw [ho] at ho'; cases ho'
  exact ⟨_,es',ep',hL,r'⟩) hok hg
theorem Inv.turned {t':Nat} {it:Addr} (I:Inv X pins σ H s) (k:∀ b o,b ≠ it->s.heap.get? b=some o->h'.get? b=some o) (hn:H it=none) (hL:it ≠ X.env.locals)
  (h1:it ∈ X.ex\/X.s₀.heap.objs.size<=it) (h2:∀ x c,X.env.cells.lookup x=some c->c ≠ it) (h3:∀ p ∈ X.pn ++ pins,p.1 ≠ it):Inv X pins σ H { s with heap:=h',toks:=t' }:=by
 have nit:∀ b u,H b=some u->b ≠ it:=fun b u e z=>by rw [z,hn] at e; cases e
 refine I.step (g':=s.gens) (d':=s.drawn) (ch:=[it]) (fun b hb=>?_) (fun b o _ _ hc e _=>k b o (fun z=>hc (by simp [z])) e) (fun b o _ _ hc e _=>⟨o.slots,k b o (fun z=>hc (by simp [z])) e⟩) (fun _ _ _ _ n=>n)
  (fun b o hc e=>⟨o,k b o (fun z=>hc (by simp [z])) e⟩) (fun _ _ e=>e) (fun _ _ _ e=>e) (fun b ps e=>⟨#[],by rw [e]; simp⟩) (fun m hm=>?_) (fun b u e=>?_) I.bare
 ·have e:b=it:=by simpa using hb
  subst e
  exact ⟨h1,hL,h2,h3⟩
 ·obtain ⟨o,es,ep,ho,r⟩:=hm
  exact ⟨o,es,ep,k _ o (Ne.symm hL) ho,r⟩
 ·refine (I.hok b u e).stay (fun c v hc q=>k c v ?_ q) (fun _ q=>q) fun _ _ q=>q
  rcases hc with z | z
  ·rw [z]; exact nit b u e
  ·exact nit c _ z
theorem Inv.tok (I:Inv X pins σ H s) (t:Nat):Inv X pins σ H { s with toks:=t }:=I.un (h':=s.heap) (t':=t) Un.refl I.hok
theorem Inv.kept {t':Nat} (I:Inv X pins σ H s) (k:∀ b u,s.heap.get? b=some u->h'.get? b=some u):Inv X pins σ H { s with heap:=h',toks:=t' }:=I.un (Un.kept k) (I.hok.kept k)
theorem Inv.laid {a:Addr} {o:HO} {t':Nat} (I:Inv X pins σ H s) (k:∀ b u,s.heap.get? b=some u->h'.get? b=some u) (hp:s.heap.objs.size<=a) (new:ObjOk X.prog X.w (upd H a o) h' a o) :
  Inv X pins σ (upd H a o) { s with heap:=h',toks:=t' }:=I.un (Un.laid k hp (I.hok.fresh hp)) (I.hok.laid k hp new)
theorem Inv.write {x e:Addr} {o:HO} {t':Nat} (I:Inv X pins σ H s) (mu:Mut (H x)) (he:e=x\/H e=some (.own x)) (k:∀ b u,b ≠ e->s.heap.get? b=some u->h'.get? b=some u) (heo:∃ u,h'.get? e=some u)
  (new:ObjOk X.prog X.w (upd H x o) h' x o):Inv X pins σ (upd H x o) { s with heap:=h',toks:=t' }:=I.un (Un.write mu he k heo) (I.hok.write mu he k heo new)
theorem Inv.weak {σ':List (Option V)} (I:Inv X pins σ H s) (hl:σ'.length=σ.length) (w:∀ (i:Nat) v,σ'[i]?=some (some v)->σ[i]?=some (some v)):Inv X pins σ' H s :=
 ⟨I.ok,I.os,I.bare,I.base,let ⟨m,hn,hl'⟩:=I.loc; ⟨m,hn,fun i x v e1 e2 e3=>hl' i x v e1 (w i v e2) e3⟩,I.cell,I.free,I.freeC,I.pin,I.hok,hl.trans I.len⟩
theorem Inv.pins_of {pins':List (Addr × Obj)} (I:Inv X pins σ H s) (h:∀ p ∈ pins',s.heap.get? p.1=some p.2/\H p.1=none/\p.1 ≠ X.env.locals/\p.1 ∉ X.fs/\∀ v,p.2.data ≠ .cell v):Inv X pins' σ H s :=
 ⟨I.ok,I.os,I.bare,I.base,I.loc,I.cell,I.free,I.freeC,fun p hp=>(aac.mp hp).elim (fun z=>I.pin p (aat _ z)) (h p),I.hok,I.len⟩
theorem FD {N:List Str} (hN:N.Nodup) {i j:Nat} {x:Str} (a:N[i]?=some x) (b:N[j]?=some x):i=j:=by
 obtain ⟨h1,e1⟩:=aaC.mp a
 obtain ⟨h2,e2⟩:=aaC.mp b
 exact (List.getElem_inj hN).mp (e1.trans e2.symm)
theorem ED {M:Model} {A:Around} {E:Value->Shared->Prop} {i:Nat} {x:Str} {v:V} {u:Value} {Q:Unit->Shared->Prop} (I:Inv X pins σ H s) (hN:X.N.Nodup) (hi:X.N[i]?=some x) (hx:Loc X.env.scope x) (r:RelV v u)
  (h:∀ s',Inv X pins (σ.set i (some v)) H s'->(∃ a,Heap.SameBut a s.heap s'.heap/\(a=X.env.locals\/X.env.cells.lookup x=some a))->Q () s') (hf:X.fn x=true\/X.env.scope.names.lookup x=some .local:=by first | exact .inl rfl | exact .inr rfl | assumption):wpAny M A (storeName X.env x u) Q E s:=by
 obtain ⟨m,hn,hl⟩:=id I.loc
 have hcls:(X.env.scope.kind==.class || (X.env.scope.kind==.module && X.env.locals != X.env.globals))=false:=by rw [I.ok.kind]; rfl
 have hiσ:i < σ.length:=by rw [I.len]; exact (aaC.mp hi).1
 have cne:=I.cne
 have tracked:∀ {a:Addr} {h':Heap},(∃ o,s.heap.get? a=some o/\H a=none)->Heap.SameBut a s.heap h'->HOk X.prog X.w H h':=fun {a h'} ha hs b ob e=>by
  obtain ⟨_,_,hfree⟩:=ha
  refine (I.hok b ob e).stay (fun c w' hc q=>(hs.2 c ?_).trans q) (fun _ q=>q) fun _ _ q=>q
  rintro rfl
  rcases hc with rfl | hc
  ·rw [hfree] at e; cases e
  ·rw [hfree] at hc; cases hc
 rcases hx with hk | hk
 ·refine wpAny_storeName_local hk hn (fun h' hn' hs=>?_) hcls
  obtain ⟨oL,_,_,hoL,_⟩:=id hn
  refine h _ ⟨I.ok,I.os,I.bare,⟨fun b o e n hb hx=>?_,fun b o e n hb hx=>?_,I.base.free,fun b o e hx=>?_,I.base.tups,I.base.frzs,I.base.tbls⟩,⟨_,hn',fun j y v' e1 e2 e3=>?_⟩,fun y c e=>?_,I.free,I.freeC,fun p hp=>?_,tracked ⟨oL,hoL,I.free⟩ hs,by simpa using I.len⟩ ⟨_,hs,.inl rfl⟩
  ·exact (hs.2 b (aax (aaq (Heap.lt_size e) I.ok.above))).trans (I.base.keep b o e n hb hx)
  ·obtain ⟨sl,e1⟩:=I.base.slot b o e n hb hx
   exact ⟨sl,(hs.2 b (aax (aaq (Heap.lt_size e) I.ok.above))).trans e1⟩
  ·obtain ⟨o',e1⟩:=I.base.there b o e hx
   exact ⟨o',(hs.2 b (aax (aaq (Heap.lt_size e) I.ok.above))).trans e1⟩
  ·by_cases hj:j=i
   ·subst hj
    rw [hi] at e1; cases e1
    rw [abD hiσ] at e2
    cases e2
    exact ⟨u,r,.inl ⟨hk,by simp⟩⟩
   ·rw [aav (Ne.symm hj)] at e2
    obtain ⟨u',r',q⟩:=hl j y v' e1 e2 e3
    refine ⟨u',r',?_⟩
    rcases q with ⟨k,e⟩ | ⟨k,c,e,z⟩
    ·refine .inl ⟨k,?_⟩
     have:y ≠ x:=fun e=>hj (FD hN e1 (e ▸ hi))
     simp [this,e]
    ·exact .inr ⟨k,c,e,z.sameBut hs (cne y c e)⟩
  ·obtain ⟨w',z⟩:=I.cell y c e
   exact ⟨w',z.sameBut hs (cne y c e)⟩
  ·obtain ⟨e,n,ne,nf,d⟩:=I.pin p hp
   exact ⟨(hs.2 p.1 ne).trans e,n,ne,nf,d⟩
 ·have hfn:X.fn x=true:=by
   rcases hf with z | z
   ·exact z
   ·rw [z] at hk; cases hk
  obtain ⟨c,hc⟩:=I.ok.has x (.inl hk)
  obtain ⟨w',z⟩:=I.cell x c hc
  refine wpAny_storeName_cell I.ok.kind hk hc z (fun h' hc' hs=>?_)
  obtain ⟨oc,hoc,hocd⟩:=id z
  refine h { s with heap:=h' } ⟨I.ok,I.os,I.bare,⟨fun b o e n hb hx=>?_,fun b o e n hb hx=>?_,I.base.free,fun b o e hx=>?_,I.base.tups,I.base.frzs,I.base.tbls⟩,⟨m,hn.sameBut hs (Ne.symm (cne x c hc)),fun j y v' e1 e2 e3=>?_⟩,fun y c' e=>?_,I.free,I.freeC,fun p hp=>?_,tracked ⟨oc,hoc,I.freeC x c hc⟩ hs,by simpa using I.len⟩ ⟨c,hs,.inr hc⟩
  ·exact (hs.2 b (aax (aaq (Heap.lt_size e) (I.ok.cab x c hfn hc)))).trans (I.base.keep b o e n hb hx)
  ·obtain ⟨sl,e1⟩:=I.base.slot b o e n hb hx
   exact ⟨sl,(hs.2 b (aax (aaq (Heap.lt_size e) (I.ok.cab x c hfn hc)))).trans e1⟩
  ·obtain ⟨o',e1⟩:=I.base.there b o e hx
   exact ⟨o',(hs.2 b (aax (aaq (Heap.lt_size e) (I.ok.cab x c hfn hc)))).trans e1⟩
  ·by_cases hj:j=i
   ·subst hj
    rw [hi] at e1; cases e1
    rw [abD hiσ] at e2
    cases e2
    exact ⟨u,r,.inr ⟨.inl hk,c,hc,hc'⟩⟩
   ·rw [aav (Ne.symm hj)] at e2
    obtain ⟨u',r',q⟩:=hl j y v' e1 e2 e3
    refine ⟨u',r',?_⟩
    rcases q with q | ⟨k,c',e,z'⟩
    ·exact .inl q
    ·refine .inr ⟨k,c',e,z'.sameBut hs ?_⟩
     rintro rfl
     exact hj (FD hN e1 (I.ok.inj _ _ _ e hc ▸ hi))
  ·by_cases hcc:c'=c
   ·subst hcc; exact ⟨_,hc'⟩
   ·obtain ⟨w2,z2⟩:=I.cell y c' e
    exact ⟨w2,z2.sameBut hs hcc⟩
  ·obtain ⟨e,n,ne,nf,d⟩:=I.pin p hp
   refine ⟨(hs.2 p.1 ?_).trans e,n,ne,nf,d⟩
   intro q
   rw [q,hoc] at e
   have q':oc=p.2:=Option.some.inj e
   exact d w' (by rw [<- q']; exact hocd)
theorem Ei {M:Model} {A:Around} {E:Value->Shared->Prop} {i:Nat} {x:Str} {v:V} {u:Value} {Q:Unit->Shared->Prop} (I:Inv X pins σ H s) (hN:X.N.Nodup) (hi:X.N[i]?=some x) (hx:Loc X.env.scope x) (r:RelV v u)
  (h:∀ s',Inv X pins (σ.set i (some v)) H s'->Q () s') (hf:X.fn x=true\/X.env.scope.names.lookup x=some .local:=by first | exact .inl rfl | exact .inr rfl | assumption):wpAny M A (storeName X.env x u) Q E s :=
 ED I hN hi hx r (fun s' I' _=>h s' I') hf
theorem Inv.call' {s':Shared} {ch:List Addr} (I:Inv X pins σ H s) (ho:s'.os=s.os) (u:Un (frs X.stack) ch H H' s.heap s'.heap) (hok:HOk X.prog X.w H' s'.heap) (hg:AllBare s'.gens)
  (hch:∀ b ∈ ch,(b ∈ X.ex\/X.s₀.heap.objs.size<=b)/\b ≠ X.env.locals/\(∀ x c,X.env.cells.lookup x=some c->c ≠ b)/\∀ p ∈ X.pn ++ pins,p.1 ≠ b):Inv X pins σ H' s':=by
 obtain ⟨h',g',d',t',o'⟩:=s'
 have e:o'=s.os:=ho
 subst e
 exact I.call (g':=g') (t':=t') (d':=d') u hok hg hch
end
noncomputable abbrev XK:=Value->Option Addr->Hp->Prop
noncomputable abbrev St:=List (Option V)
noncomputable abbrev VK:=V->Hp->Prop
noncomputable abbrev TE:=St->Hp->VK->Prop
noncomputable abbrev TT:=St->Hp->(Bool->Hp->Prop)->Prop
noncomputable abbrev TA:=St->Hp->(List V->Hp->Prop)->Prop
structure Ends where
 nx:St->Hp->Prop
 rt:VK
 bk:St->Hp->Prop:=fun _ _=>False
 ct:St->Hp->Prop:=fun _ _=>False
noncomputable abbrev TS:=Ends->St->Hp->Prop
noncomputable def EP (X:Cx) (pins:List (Addr × Obj)) (σ:St) (Q:VK) (u:Value) (s':Shared):Prop:=∃ v H',Inv X pins σ H' s'/\RelV v u/\Q v H'
noncomputable def TP (X:Cx) (pins:List (Addr × Obj)) (σ:St) (Q:Bool->Hp->Prop) (b:Bool) (s':Shared):Prop:=∃ H',Inv X pins σ H' s'/\Q b H'
noncomputable def AP (X:Cx) (pins:List (Addr × Obj)) (σ:St) (Q:List V->Hp->Prop) (us:List Value) (s':Shared):Prop:=∃ vs H',Inv X pins σ H' s'/\Vals vs us/\Q vs H'
noncomputable def SP (X:Cx) (pins:List (Addr × Obj)) (D:Ends) (f:Flow) (s':Shared):Prop :=
 match f with
 | .next=>∃ σ' H',Inv X pins σ' H' s'/\D.nx σ' H'
 | .brk=>∃ σ' H',Inv X pins σ' H' s'/\D.bk σ' H'
 | .cont=>∃ σ' H',Inv X pins σ' H' s'/\D.ct σ' H'
 | .ret u=>∃ v σ' H',Inv X pins σ' H' s'/\RelV v u/\D.rt v H'
noncomputable def PE (X:Cx) (e:Expr) (t:TE):Prop :=
 ∀ (pins:List (Addr × Obj)) (s:Shared) (σ:St) (H:Hp) (Q:VK),Inv X pins σ H s->t σ H Q->wpAny (model X.prog X.w) X.A (eval e X.env) (EP X pins σ Q) X.xe s
noncomputable def PT (X:Cx) (e:Expr) (t:TT):Prop :=
 ∀ (pins:List (Addr × Obj)) (s:Shared) (σ:St) (H:Hp) (Q:Bool->Hp->Prop),Inv X pins σ H s->t σ H Q->wpAny (model X.prog X.w) X.A (isTrue e X.env (eval e X.env)) (TP X pins σ Q) X.xe s
noncomputable def PW (X:Cx) (e:Expr) (t:TT):Prop :=
 ∀ (whole:Sem Value) (pins:List (Addr × Obj)) (s:Shared) (σ:St) (H:Hp) (Q:Bool->Hp->Prop),Inv X pins σ H s->t σ H Q->wpAny (model X.prog X.w) X.A (isTrue e X.env whole) (TP X pins σ Q) X.xe s
theorem PW.pt {X:Cx} {e:Expr} {t:TT} (h:PW X e t):PT X e t:=h _
noncomputable def PA (X:Cx) (es:List Expr) (t:TA):Prop :=
 ∀ (pos:Pos) (pins:List (Addr × Obj)) (s:Shared) (σ:St) (H:Hp) (Q:List V->Hp->Prop),Inv X pins σ H s->t σ H Q->wpAny (model X.prog X.w) X.A (spliced (backTo pos (starEach es X.env))) (AP X pins σ Q) X.xe s
noncomputable def PS (X:Cx) (st:Stmt) (t:TS):Prop :=
 ∀ (pins:List (Addr × Obj)) (s:Shared) (σ:St) (H:Hp) (D:Ends),Inv X pins σ H s->t D σ H->wpAny (model X.prog X.w) X.A (exec st X.env) (SP X pins D) X.xe s
noncomputable def PSs (X:Cx) (st:List Stmt) (t:TS):Prop :=
 ∀ (pins:List (Addr × Obj)) (s:Shared) (σ:St) (H:Hp) (D:Ends),Inv X pins σ H s->t D σ H->wpAny (model X.prog X.w) X.A (execs st X.env) (SP X pins D) X.xe s
theorem thn {α:Type} {t:Sem α} {Q Q':α->Shared->Prop} {M:Model} {A:Around} {E:Value->Shared->Prop} {s:Shared} (h:wpAny M A t Q E s) (hQ:∀ a s,Q a s->Q' a s):wpAny M A t Q' E s:=wpAny_mono h hQ fun _ _ x=>x
section
variable {X:Cx}
theorem bin {a b:Expr} {ta tb:TE} (ha:PE X a ta) (hb:PE X b tb) {pins:List (Addr × Obj)} {s:Shared} {σ:St} {H:Hp} {R:V->V->Hp->Prop} (I:Inv X pins σ H s) (h:ta σ H fun x H1=>tb σ H1 fun y H2=>R x y H2)
  {α:Type} {Q:α->Shared->Prop} {f:Value->Value->Sem α}
  (hf:∀ v u s2 x y H2,Inv X pins σ H2 s2->RelV x v->RelV y u->R x y H2->wpAny (model X.prog X.w) X.A (f v u) Q X.xe s2) :
  wpAny (model X.prog X.w) X.A (eval a X.env) (fun v s₁=>wpAny (model X.prog X.w) X.A (eval b X.env) (fun u s₂=>wpAny (model X.prog X.w) X.A (f v u) Q X.xe s₂) X.xe s₁) X.xe s:=by
 refine thn (ha pins s σ H _ I h) fun v s1 ⟨x,H1,I1,r1,q1⟩=>?_
 refine thn (hb pins s1 σ H1 _ I1 q1) fun u s2 ⟨y,H2,I2,r2,q2⟩=>?_
 exact hf v u s2 x y H2 I2 r1 r2 q2
noncomputable def Dl (i:Nat):TE:=fun σ H Q=>∃ v,σ[i]?=some (some v)/\Q v H
noncomputable def tC (v:V):TE:=fun _ H Q=>Q v H
theorem CN {i:Nat} {x:Str} {pos:Pos} (hN:X.N[i]?=some x) (hv:Vis X.env.scope x) (hd:(x==("__debug__" : Str))=false:=by decide) (hcd:(x==("__classdict__" : Str))=false:=by decide):PE X (.Name x pos) (Dl i):=by
 intro pins s σ H Q I h
 obtain ⟨v,e,h⟩:=h
 obtain ⟨m,hn,hl⟩:=I.loc
 obtain ⟨u,r,l⟩:=hl i x v hN e hv
 have fin:EP X pins σ Q u s:=⟨v,H,I,r,h⟩
 rcases l with ⟨hk,hm⟩ | ⟨hk,c,hc,hcell⟩
 ·exact wpAny_Name (wpAny_loadName_local I.ok.kind hk hn hm fin) hd
 ·rcases hk with hk | hk
  ·exact wpAny_Name (wpAny_loadName_cell I.ok.kind hk hc hcell fin) hd
  ·exact wpAny_Name (wpAny_loadName_free I.ok.kind hk hc hcell fin hcd) hd
theorem KW {i j pos}:PE X (.Constant (.int i) j pos) (tC (.int i)):=fun _ _ _ H _ I h=>wpAny_Constant_int ⟨.int i,H,I.tok _,⟨_,rfl⟩,h⟩
theorem R8 {b j pos}:PE X (.Constant (.bool b) j pos) (tC (.bl b)):=fun _ _ _ H _ I h=>Constant_bool ⟨.bl b,H,I,rfl,h⟩
theorem Qe {j pos}:PE X (.Constant .none j pos) (tC .non):=fun _ _ _ H _ I h=>Constant_none ⟨.non,H,I,rfl,h⟩
theorem HM {x j pos}:PE X (.Constant (.str x) j pos) (tC (.str x)):=fun _ _ _ H _ I h=>Calls.Constant_str ⟨.str x,H,I.tok _,⟨_,rfl⟩,h⟩
noncomputable def Gl (X:Cx) (x:Str):Prop:=X.env.kindOf x=some .globalImplicit
theorem Fb {E:Value->Shared->Prop} {pins:List (Addr × Obj)} {s:Shared} {σ:St} {H:Hp} {x:Str} {u:Value} {pos:Pos} {Q:Value->Shared->Prop} (I:Inv X pins σ H s) (hg:Gl X x) (hm:X.mg x=some u) (h:Q u s)
  (hd:(x==("__debug__" : Str))=false:=by decide):wpAny (model X.prog X.w) X.A (eval (.Name x pos) X.env) Q E s :=
 Calls.Name_function_global I.ok.kind hg (Calls.loadGlobal_global (by rw [I.ok.glob]; exact I.mod.glob.keeps I.bk) hm h) hd
theorem FY {E:Value->Shared->Prop} {pins:List (Addr × Obj)} {s:Shared} {σ:St} {H:Hp} {x:Str} {u:Value} {pos:Pos} {Q:Value->Shared->Prop} (I:Inv X pins σ H s) (hg:Gl X x) (hm:X.mg x=none) (hv:bootBuiltins x=some u) (h:Q u s)
  (hn:x ≠ "__name__" := by decide) (hd:(x==("__debug__" : Str))=false:=by decide):wpAny (model X.prog X.w) X.A (eval (.Name x pos) X.env) Q E s:=by
 obtain ⟨mb,h1,h2⟩:=I.mod.blt
 exact Calls.Name_function_global I.ok.kind hg (Calls.loadGlobal_builtin (by rw [I.ok.glob]; exact I.mod.glob.keeps I.bk) hm (by rw [I.ok.blt]; exact h1.keeps I.bk) ((h2 x hn).trans hv) h) hd
theorem Jt {x:Str} {v:V} {u:Value} {pos:Pos} (hg:Gl X x) (hm:X.mg x=some u) (r:RelV v u) (hd:(x==("__debug__" : Str))=false:=by decide):PE X (.Name x pos) (tC v) :=
 fun _ _ _ H _ I h=>Fb I hg hm ⟨v,H,I,r,h⟩ hd
theorem Oi {x:Str} {v:V} {u:Value} {pos:Pos} (hg:Gl X x) (hm:X.mg x=none) (hv:bootBuiltins x=some u) (r:RelV v u) (hn:x ≠ "__name__" := by decide) (hd:(x==("__debug__" : Str))=false:=by decide):PE X (.Name x pos) (tC v) :=
 fun _ _ _ H _ I h=>FY I hg hm hv ⟨v,H,I,r,h⟩ hn hd
variable {a b:Expr} {ta tb:TE} {pos:Pos}
noncomputable def PC (X:Cx) (op:CmpOp) (a b:Expr) (t:TE):Prop :=
 ∀ (pins:List (Addr × Obj)) (s:Shared) (σ:St) (H:Hp) (Q:VK),Inv X pins σ H s->t σ H Q ->
  wpAny (model X.prog X.w) X.A (eval a X.env) (fun v s₁=>wpAny (model X.prog X.w) X.A (eval b X.env) (fun u s₂=>wpAny (model X.prog X.w) X.A (compareOp op v u) (EP X pins σ Q) X.xe s₂) X.xe s₁) X.xe s
theorem HN (b:Expr) {op:CmpOp} (h:op ≠ .In) (h2:op ≠ .NotIn):behindInMarks op b=false:=by
 have e1:(op==CmpOp.In)=false:=by cases op <;> first | rfl | exact absurd rfl h
 have e2:(op==CmpOp.NotIn)=false:=by cases op <;> first | rfl | exact absurd rfl h2
 cases b <;> simp [behindInMarks,e1,e2]
noncomputable def Ty (ta:TE):TE:=fun σ H Q=>ta σ H fun x H1=>Q (.bl (decide (x=.non))) H1
noncomputable def R9 (ta:TE):TE:=fun σ H Q=>ta σ H fun x H1=>Q (.bl (!decide (x=.non))) H1
theorem RelV.none_iff {x:V} {v:Value} (r:RelV x v):(v==Value.none)=decide (x=.non):=by
 cases x with
 | non=>cases r; rfl
 | bl _=>cases r; rfl
 | int _=>obtain ⟨t,rfl⟩:=r; rfl
 | str _=>obtain ⟨t,rfl⟩:=r; rfl
 | byt _=>obtain ⟨t,rfl⟩:=r; rfl
 | flt _=>obtain ⟨t,rfl⟩:=r; rfl
 | ref _=>cases r; rfl
 | ty _=>cases r; rfl
theorem KY {j pos'} (ha:PE X a ta):PC X .Is a (.Constant .none j pos') (Ty ta):=by
 intro pins s σ H Q I h
 refine thn (ha pins s σ H _ I h) fun v s1 ⟨x,H1,I1,r1,q1⟩=>?_
 exact Constant_none (is_none_gen ⟨.bl _,H1,I1,by rw [r1.none_iff]; rfl,q1⟩)
theorem Ju {j pos'} (ha:PE X a ta):PC X .IsNot a (.Constant .none j pos') (R9 ta):=by
 intro pins s σ H Q I h
 refine thn (ha pins s σ H _ I h) fun v s1 ⟨x,H1,I1,r1,q1⟩=>?_
 exact Constant_none (isnot_none_gen ⟨.bl _,H1,I1,by rw [r1.none_iff]; rfl,q1⟩)
noncomputable def tB (t:TE):TT:=fun σ H Q=>t σ H fun x H1=>∃ c,x=.bl c/\Q c H1
theorem KZ {op:CmpOp} {t:TE} (h:PC X op a b t) (h1:behindInMarks op b=false:=by first | exact HN _ (by decide) (by decide) | rfl):PE X (.Compare a [op] [b] pos) t:=fun pins s σ H Q I hw=>wpAny_Compare1 (h pins s σ H Q I hw) h1
theorem K0 {op:CmpOp} {t:TE} (h:PC X op a b t) (h1:behindInMarks op b=false:=by first | exact HN _ (by decide) (by decide) | rfl):PT X (.Compare a [op] [b] pos) (tB t):=by
 intro pins s σ H Q I hw
 refine wpAny_isTrue_Compare1 (thn (h pins s σ H _ I hw) fun v s1 h1=>thn h1 fun u s2 h2=>thn h2 fun c s3 ⟨x,H1,I1,r1,q1⟩=>?_) h1
 obtain ⟨d,rfl,q⟩:=q1
 cases r1
 exact wpAny_truthy_bool ⟨H1,I1,q⟩
variable {tA tB':TT} {rest:List Expr}
noncomputable def Tz (t u:TT):TT:=fun σ H Q=>t σ H fun c H1=>if c=true then u σ H1 Q else Q false H1
noncomputable def tOr (t u:TT):TT:=fun σ H Q=>t σ H fun c H1=>if c=true then Q true H1 else u σ H1 Q
noncomputable def TC (t:TT):TT:=fun σ H Q=>t σ H fun c H1=>Q (!c) H1
theorem Oj (ha:PT X a tA):PW X (.BoolOp .And [a] pos) tA:=by
 intro wh pins s σ H Q I h
 refine isTrue_and (thn (ha pins s σ H Q I h) fun c s1 e=>?_)
 cases c with
 | true=>exact isTrue_and_nil e
 | false=>exact e
theorem Qf (ha:PT X a tA):PW X (.BoolOp .Or [a] pos) tA:=by
 intro wh pins s σ H Q I h
 refine isTrue_or (thn (ha pins s σ H Q I h) fun c s1 e=>?_)
 cases c with
 | false=>exact isTrue_or_nil e
 | true=>exact e
theorem Qg (ha:PT X a tA) (hb:PW X (.BoolOp .And (b :: rest) pos) tB'):PW X (.BoolOp .And (a :: b :: rest) pos) (Tz tA tB'):=by
 intro wh pins s σ H Q I h
 refine isTrue_and (thn (ha pins s σ H _ I h) fun c s1 ⟨H1,I1,q1⟩=>?_)
 cases c with
 | true=>exact hb wh pins s1 σ H1 Q I1 q1
 | false=>exact ⟨H1,I1,q1⟩
theorem Sa (ha:PT X a tA) (hb:PW X (.BoolOp .Or (b :: rest) pos) tB'):PW X (.BoolOp .Or (a :: b :: rest) pos) (tOr tA tB'):=by
 intro wh pins s σ H Q I h
 refine isTrue_or (thn (ha pins s σ H _ I h) fun c s1 ⟨H1,I1,q1⟩=>?_)
 cases c with
 | true=>exact ⟨H1,I1,q1⟩
 | false=>exact hb wh pins s1 σ H1 Q I1 q1
theorem Qh (ha:PT X a tA):PT X (.UnaryOp .Not a pos) (TC tA):=by
 intro pins s σ H Q I h
 exact isTrue_not (ha pins s σ H (fun c H1=>Q (!c) H1) I h)
noncomputable def Sb (ta tb:TE):TE:=fun σ H Q=>ta σ H fun x H1=>∃ c,x=.bl c/\if c=true then tb σ H1 Q else Q (.bl false) H1
noncomputable def TD (ta tb:TE):TE:=fun σ H Q=>ta σ H fun x H1=>∃ c,x=.bl c/\if c=true then Q (.bl true) H1 else tb σ H1 Q
noncomputable def Sd (ta:TE):TE:=fun σ H Q=>ta σ H fun x H1=>∃ c,x=.bl c/\Q (.bl (!c)) H1
theorem Qi {op} {t:TE} (h:PE X a t):PE X (.BoolOp op [a] pos) t:=fun pins s σ H Q I hw=>BoolOp_one (h pins s σ H Q I hw)
theorem Qj (ha:PE X a ta) (hb:PE X (.BoolOp .And (b :: rest) pos) tb):PE X (.BoolOp .And (a :: b :: rest) pos) (Sb ta tb):=by
 intro pins s σ H Q I h
 refine BoolOp_and (thn (ha pins s σ H _ I h) fun v s1 ⟨x,H1,I1,r1,q1⟩=>?_)
 obtain ⟨c,rfl,q1⟩:=q1
 cases r1
 refine wpAny_truthy_bool ?_
 cases c with
 | true=>exact hb pins s1 σ H1 Q I1 q1
 | false=>exact ⟨.bl false,H1,I1,rfl,q1⟩
theorem Se (ha:PE X a ta) (hb:PE X (.BoolOp .Or (b :: rest) pos) tb):PE X (.BoolOp .Or (a :: b :: rest) pos) (TD ta tb):=by
 intro pins s σ H Q I h
 refine BoolOp_or (thn (ha pins s σ H _ I h) fun v s1 ⟨x,H1,I1,r1,q1⟩=>?_)
 obtain ⟨c,rfl,q1⟩:=q1
 cases r1
 refine wpAny_truthy_bool ?_
 cases c with
 | false=>exact hb pins s1 σ H1 Q I1 q1
 | true=>exact ⟨.bl true,H1,I1,rfl,q1⟩
theorem Qk (ha:PE X a ta):PE X (.UnaryOp .Not a pos) (Sd ta):=by
 intro pins s σ H Q I h
 refine UnaryOp_ (thn (ha pins s σ H _ I h) fun v s1 ⟨x,H1,I1,r1,q1⟩=>?_)
 obtain ⟨c,rfl,q1⟩:=q1
 cases r1
 exact not_of (wpAny_truthy_bool ⟨.bl (!c),H1,I1,rfl,q1⟩)
noncomputable def tIf (t:TT) (ta tb:TE):TE:=fun σ H Q=>t σ H fun c H1=>if c=true then ta σ H1 Q else tb σ H1 Q
theorem Mq {c:Expr} (hc:PT X c tA) (ha:PE X a ta) (hb:PE X b tb):PE X (.IfExp c a b pos) (tIf tA ta tb):=by
 intro pins s σ H Q I h
 refine wpAny_IfExp (thn (hc pins s σ H _ I h) fun d s1 ⟨H1,I1,q1⟩=>?_)
 cases d with
 | true=>exact ha pins s1 σ H1 Q I1 q1
 | false=>exact hb pins s1 σ H1 Q I1 q1
end
noncomputable def SqL (K:PySem.W.Frag) (H:Hp) (a:Addr) (xs:List V):Prop :=
 Rd H a (.lst xs) \/
  ∃ (o:Obj) (its:Array Value) (n:Nat),K.lookup a=some o/\o.cls=.type "list" /\ o.dict=none/\o.data=.seq its n/\its.size<=sizeLine/\Vals xs its.toList
noncomputable def SqT (K:PySem.W.Frag) (H:Hp) (a:Addr) (xs:List V):Prop :=
 Rd H a (.tup xs) \/
  ∃ (o:Obj) (its:Array Value) (n:Nat),K.lookup a=some o/\o.cls=.type "tuple" /\ o.data=.seq its n/\its.size<=sizeLine/\Vals xs its.toList
noncomputable def TF:Value->Option V
 | .none=>some .non
 | .bool b=>some (.bl b)
 | .int i _=>some (.int i)
 | .str x _=>some (.str x)
 | .bytes b _=>some (.byt b)
 | .float b _=>some (.flt b)
 | .ref a=>some (.ref a)
 | .type n=>some (.ty n)
 | _=>none
theorem RelV.abs {x:V} {u:Value} (r:RelV x u):TF u=some x:=by
 cases x with
 | non=>cases r; rfl
 | bl _=>cases r; rfl
 | int _=>obtain ⟨t,rfl⟩:=r; rfl
 | str _=>obtain ⟨t,rfl⟩:=r; rfl
 | byt _=>obtain ⟨t,rfl⟩:=r; rfl
 | flt _=>obtain ⟨t,rfl⟩:=r; rfl
 | ref _=>cases r; rfl
 | ty _=>cases r; rfl
theorem RelV.inj {x y:V} {u:Value} (r:RelV x u) (q:RelV y u):x=y:=Option.some.inj (r.abs.symm.trans q.abs)
theorem Vals.inj:∀ {xs ys:List V} {us:List Value},Vals xs us->Vals ys us->xs=ys
 | _,_,_,.nil,.nil=>rfl
 | _,_,_,.cons r t,.cons r' t'=>by rw [r.inj r',Vals.inj t t']
section
variable {X:Cx} {pins:List (Addr × Obj)} {σ:St} {H:Hp} {s:Shared} {a:Addr} {xs ys:List V}
theorem SqL.of {K:PySem.W.Frag} (h:H a=some (.lst xs)):SqL K H a xs:=.inl (.inl h)
theorem SqT.of {K:PySem.W.Frag} (h:H a=some (.tup xs)):SqT K H a xs:=.inl (.inl h)
theorem Inv.list (I:Inv X pins σ H s) (h:SqL X.K H a xs):∃ its:List Value,Vals xs its/\PlainL s.heap a its.toArray/\xs.length<=sizeLine:=by
 rcases h with h | ⟨o,its,n,hk,hc,hd,hs,hz,r⟩
 ·obtain ⟨z,its,n,r,e⟩:=h.ok I.hok
  exact ⟨its,r,⟨_,n,e,rfl,rfl,rfl⟩,z⟩
 ·refine ⟨its.toList,r,⟨o,n,I.kIn a o hk,hc,hd,by simpa using hs⟩,?_⟩
  have e:=r.length
  simp only [Array.length_toList] at e
  omega
theorem Inv.tuple (I:Inv X pins σ H s) (h:SqT X.K H a xs):∃ its:List Value,Vals xs its/\IsTup s.heap a its.toArray/\xs.length<=sizeLine:=by
 rcases h with h | ⟨o,its,n,hk,hc,hs,hz,r⟩
 ·obtain ⟨z,its,r,p⟩:=h.ok I.hok
  exact ⟨its,r,p,z⟩
 ·refine ⟨its.toList,r,⟨o,I.kIn a o hk,hc,n,by simpa using hs⟩,?_⟩
  have e:=r.length
  simp only [Array.length_toList] at e
  omega
theorem Inv.list_inj (I:Inv X pins σ H s) (h:SqL X.K H a xs) (h':SqL X.K H a ys):xs=ys:=by
 obtain ⟨its,r,⟨o,n,e,_,_,d⟩,_⟩:=I.list h
 obtain ⟨its',r',⟨o',n',e',_,_,d'⟩,_⟩:=I.list h'
 rw [e] at e'; cases e'
 rw [d] at d'
 injection d' with d1 _
 have:its=its':=by simpa using congrArg Array.toList d1
 subst this
 exact r.inj r'
theorem Inv.tuple_inj (I:Inv X pins σ H s) (h:SqT X.K H a xs) (h':SqT X.K H a ys):xs=ys:=by
 obtain ⟨its,r,⟨o,e,_,n,d⟩,_⟩:=I.tuple h
 obtain ⟨its',r',⟨o',e',_,n',d'⟩,_⟩:=I.tuple h'
 rw [e] at e'; cases e'
 rw [d] at d'
 injection d' with d1 _
 have:its=its':=by simpa using congrArg Array.toList d1
 subst this
 exact r.inj r'
end
section
variable {X:Cx} {st:Stmt} {rest:List Stmt} {t u:TS} {e:Expr} {te:TE} {pos:Pos}
noncomputable def Sg:TS:=fun D σ H=>D.nx σ H
noncomputable def Mr (t u:TS):TS:=fun D σ H=>t { D with nx:=u D } σ H
theorem Ol:PSs X [] Sg:=fun _ _ σ H _ I h=>wpAny_execs_nil ⟨σ,H,I,h⟩
theorem Mu (h1:PS X st t) (h2:PSs X rest u):PSs X (st :: rest) (Mr t u):=by
 intro pins s σ H D I h
 refine wpAny_execs_cons (thn (h1 pins s σ H { D with nx:=u D } I h) fun f s1 q=>?_)
 cases f with
 | next =>
  obtain ⟨σ',H',I',q⟩:=q
  exact h2 pins s1 σ' H' D I' q
 | ret v=>exact q
 | brk=>exact q
 | cont=>exact q
theorem Inv.quiet {pins:List (Addr × Obj)} {σ:St} {H:Hp} {s:Shared} (I:Inv X pins σ H s):interactive X.env=false:=by simp [interactive,I.ok.kind]
noncomputable def NZ (te:TE):TS:=fun D σ H=>te σ H fun _ H1=>D.nx σ H1
theorem BF (he:PE X e te) (hs:swapsWith e none pos.line X.env=pure false:=by rfl):PS X (.Expr e pos) (NZ te):=by
 intro pins s σ H D I h
 exact wpAny_Expr_any (thn (he pins s σ H _ I h) fun v s1 ⟨x,H1,I1,r1,q1⟩=>⟨σ,H1,I1,q1⟩) I.quiet hs
noncomputable def Mv (te:TE):TS:=fun D σ H=>te σ H D.rt
theorem HP (he:PE X e te):PS X (.Return (some e) pos) (Mv te):=by
 intro pins s σ H D I h
 exact wpAny_Return_some (thn (he pins s σ H _ I h) fun v s1 ⟨x,H1,I1,r1,q1⟩=>⟨x,σ,H1,I1,r1,q1⟩)
noncomputable def Ql (c:TT) (t u:TS):TS:=fun D σ H=>c σ H fun b H1=>if b=true then t D σ H1 else u D σ H1
theorem Si {c:Expr} {a b:List Stmt} {tc:TT} (hc:PT X c tc) (ha:PSs X a t) (hb:PSs X b u):PS X (.If c a b pos) (Ql tc t u):=by
 intro pins s σ H D I h
 refine wpAny_If (thn (hc pins s σ H _ I h) fun d s1 ⟨H1,I1,q1⟩=>?_)
 cases d with
 | true=>exact ha pins s1 σ H1 D I1 q1
 | false=>exact hb pins s1 σ H1 D I1 q1
end
noncomputable abbrev TG:=V->St->Hp->(St->Hp->Prop)->Prop
noncomputable abbrev TGs:=List V->St->Hp->(St->Hp->Prop)->Prop
noncomputable def PG (X:Cx) (target:Expr) (t:TG):Prop :=
 ∀ (pins:List (Addr × Obj)) (s:Shared) (σ:St) (H:Hp) (v:V) (u:Value) (Q:St->Hp->Prop),Inv X pins σ H s->RelV v u->t v σ H Q ->
  wpAny (model X.prog X.w) X.A (assign target X.env u) (fun _ s'=>∃ σ' H',Inv X pins σ' H' s'/\Q σ' H') X.xe s
noncomputable def PGs (X:Cx) (ts:List Expr) (t:TGs):Prop :=
 ∀ (pins:List (Addr × Obj)) (s:Shared) (σ:St) (H:Hp) (vs:List V) (us:List Value) (Q:St->Hp->Prop),Inv X pins σ H s->Vals vs us->t vs σ H Q ->
  wpAny (model X.prog X.w) X.A (assignInOrder ((assignEach ts X.env).map (·.2)) us) (fun _ s'=>∃ σ' H',Inv X pins σ' H' s'/\Q σ' H') X.xe s
section
variable {X:Cx} {pos:Pos}
noncomputable def Cf (i:Nat):TG:=fun v σ H Q=>Q (σ.set i (some v)) H
theorem Jv {i:Nat} {x:Str} (hN:X.N.Nodup) (hi:X.N[i]?=some x) (hx:Loc X.env.scope x) (hf:X.fn x=true\/X.env.scope.names.lookup x=some .local:=by first | exact .inl rfl | exact .inr rfl | assumption):PG X (.Name x pos) (Cf i):=by
 intro pins s σ H v u Q I r h
 exact wpAny_assign_Name (Ei I hN hi hx r (fun s' I'=>⟨_,H,I',h⟩) hf)
noncomputable def Qm:TGs:=fun vs σ H Q=>vs=[]/\Q σ H
noncomputable def N0 (t:TG) (u:TGs):TGs:=fun vs σ H Q=>∃ v r,vs=v :: r/\t v σ H fun σ' H'=>u r σ' H' Q
theorem Om:PGs X [] Qm:=by
 intro pins s σ H vs us Q I r h
 obtain ⟨e,h⟩:=h
 subst e
 cases r
 exact assignInOrder_nil ⟨σ,H,I,h⟩
theorem Mw {e:Expr} {es:List Expr} {t:TG} {u:TGs} (h1:PG X e t) (h2:PGs X es u)
  (hs:(assignEach (e :: es) X.env).map (·.2)=assign e X.env :: (assignEach es X.env).map (·.2):=by rfl):PGs X (e :: es) (N0 t u):=by
 intro pins s σ H vs us Q I r h
 obtain ⟨v,vr,e1,h⟩:=h
 subst e1
 cases r with
 | cons r rr =>
  rw [hs]
  refine assignInOrder_cons (thn (h1 pins s σ H _ _ _ I r h) fun _ s1 ⟨σ1,H1,I1,q1⟩=>?_)
  exact h2 pins s1 σ1 H1 _ _ Q I1 rr q1
noncomputable def Qn (K:PySem.W.Frag) (n:Nat) (t:TGs):TG:=fun v σ H Q=>∃ a xs,v=.ref a/\SqT K H a xs/\xs.length=n/\t xs σ H Q
theorem Qo {es:List Expr} {k:Nat} {t:TGs} {n:Nat} (hc:X.calm=true) (h:PGs X es t)
  (hn:(assignEach es X.env).length=n:=by rfl) (hst:(assignEach es X.env).findIdx? (·.1)=none:=by rfl):PG X (.Tuple es k pos) (Qn X.K n t):=by
 intro pins s σ H v u Q I r hw
 obtain ⟨a,xs,e1,hq,hl,hw⟩:=hw
 subst e1
 cases r
 obtain ⟨its,rv,ht,hz⟩:=I.tuple hq
 refine assign_Tuple_tuple (I.ok.hd hc) ht (by simp [hn,<- hl,rv.length]) hst fun h' hx=>?_
 have I1:Inv X pins σ H { s with heap:=h' }:=I.kept (t':=s.toks) fun b o e=>hx b o (aax (Heap.lt_size e)) e
 exact h pins _ σ H xs _ Q I1 (by simpa using rv) hw
noncomputable def DZ (te:TE) (g:TG):TS:=fun D σ H=>te σ H fun x H1=>g x σ H1 D.nx
theorem Qp {tg e:Expr} {te:TE} {g:TG} (he:PE X e te) (hg:PG X tg g) (hs:swapsWithSole [tg] e pos.line X.env=pure false:=by rfl) (hw:swappedStores [tg] e X.env=pure none:=by rfl)
  (h1:(assignEach [tg] X.env).map (·.2)=[assign tg X.env]:=by rfl):PS X (.Assign [tg] e pos) (DZ te g):=by
 intro pins s σ H D I h
 refine wpAny_Assign_stores (thn (he pins s σ H _ I h) fun v s1 ⟨x,H1,I1,r1,q1⟩=>?_) hs hw
 rw [h1]
 exact thn (hg pins s1 σ H1 x v _ I1 r1 q1) fun _ s2 q=>q
theorem K1 {i:Nat} {x:Str} {e:Expr} {te:TE} {pos':Pos} (hN:X.N.Nodup) (hi:X.N[i]?=some x) (hx:Loc X.env.scope x) (he:PE X e te) (hs:swapsWith e (some (.Name x pos')) pos.line X.env=pure false:=by rfl) (hf:X.fn x=true\/X.env.scope.names.lookup x=some .local:=by first | exact .inl rfl | exact .inr rfl | assumption) :
  PS X (.Assign [.Name x pos'] e pos) (DZ te (Cf i)):=by
 intro pins s σ H D I h
 refine wpAny_Assign_Name (thn (he pins s σ H _ I h) fun v s1 ⟨y,H1,I1,r1,q1⟩=>?_) hs
 exact Ei I1 hN hi hx r1 (fun s2 I2=>⟨_,H1,I2,q1⟩) hf
end
section
variable {X:Cx} {pos:Pos}
noncomputable def K3 (c:TT) (tb:TS):TS:=fun D σ H=>∃ W:Nat->St->Hp->Prop,(∃ m,W m σ H)/\∀ m σ H,W m σ H ->
 c σ H fun b H1=>if b=true then ∃ N:St->Hp->Prop,(∀ σ' H',N σ' H'->∃ m',m' < m/\W m' σ' H')/\tb { D with nx:=N,ct:=N,bk:=D.nx } σ H1 else D.nx σ H1
theorem Mx {c:Expr} {body:List Stmt} {tc:TT} {tb:TS} (hp:PassesOwn (model X.prog X.w) X.A X.env X.xe) (hc:PT X c tc) (hb:PSs X body tb):PS X (.While c body [] pos) (K3 tc tb):=by
 intro pins s σ H D I h
 obtain ⟨W,⟨m0,w0⟩,turn⟩:=h
 refine wpAny_While (codeAny_whileLoop (fun n s'=>∃ σ' H',Inv X pins σ' H' s'/\W n σ' H') ?_ m0 ⟨σ,H,I,w0⟩)
 rintro n s1 ⟨σ1,H1,I1,w1⟩
 refine wpAny_passesOwn hp (thn (hc pins s1 σ1 H1 _ I1 (turn n σ1 H1 w1)) fun b s2 ⟨H2,I2,q2⟩=>?_)
 cases b with
 | true =>
  obtain ⟨N,hN,q2⟩:=q2
  rw [if_pos rfl]
  refine wpAny_passesOwn hp (thn (hb pins s2 σ1 H2 _ I2 q2) fun f s3 q3=>?_)
  cases f with
  | next =>
   obtain ⟨σ3,H3,I3,n3⟩:=q3
   obtain ⟨m',hm,w3⟩:=hN σ3 H3 n3
   exact ⟨m',hm,σ3,H3,I3,w3⟩
  | cont =>
   obtain ⟨σ3,H3,I3,n3⟩:=q3
   obtain ⟨m',hm,w3⟩:=hN σ3 H3 n3
   exact ⟨m',hm,σ3,H3,I3,w3⟩
  | brk=>exact q3
  | ret v=>exact q3
 | false =>
  rw [if_neg abj]
  exact wpAny_execs_nil ⟨σ1,H2,I2,q2⟩
end
structure It where
 go:Nat->Hp->Prop
 yld:Nat->Hp->V->Hp->Prop
 stop:Nat->Hp->Prop
noncomputable def FpOk (X:Cx) (pins:List (Addr × Obj)) (H:Hp) (b:Addr):Prop :=
 H b=none/\b ≠ X.env.locals/\b ∉ X.fs/\(b ∈ X.ex\/X.s₀.heap.objs.size<=b)/\(∀ x c,X.env.cells.lookup x=some c->c ≠ b)/\∀ p ∈ X.pn ++ pins,p.1 ≠ b
theorem Inv.fpOk {X:Cx} {pins:List (Addr × Obj)} {σ:St} {H H':Hp} {s:Shared} {b:Addr} (I:Inv X pins σ H s) (hb:s.heap.objs.size<=b) (hn:H' b=none):FpOk X pins H' b:=by
 refine ⟨hn,abG (aaq I.lt hb),I.nofs hb,.inr (aao I.sz hb),fun x c e z=>?_,fun p hp z=>?_⟩
 ·obtain ⟨v,q⟩:=I.cell x c e
  exact absurd (aaq q.lt (by rw [z]; exact hb)) (aaL _)
 ·exact absurd (aaq (Heap.lt_size (I.pin p hp).1) (by rw [z]; exact hb)) (aaL _)
structure Turn (P:Program) (w:World) (K:PySem.W.Frag) (tg:Expr) (J:It) (fp:List Addr) (it:Addr) (tn:Nat->Heap->Prop):Prop where
 mem:it ∈ fp
 obj:∀ i h,tn i h->∀ b ∈ fp,∃ o,h.get? b=some o/\∀ v,o.data ≠ .cell v
 keep:∀ i h h',tn i h->(∀ b ∈ fp,∀ o,h.get? b=some o->h'.get? b=some o)->tn i h'
 item:∀ (X:Cx),X.prog=P->X.w=w->X.K=K->X.calm=true->∀ (i:Nat) (pins:List (Addr × Obj)) (s:Shared) (σ:St) (H:Hp) (E:Value->Shared->Prop),Inv X pins σ H s->(∀ b ∈ fp,FpOk X pins H b)->tn i s.heap->J.go i H ->
  wpAny (model P w) X.A (pyNext (.ref it)) (fun r s1=>∃ u,r=some u /\
   wpAny (model P w) X.A (letOwnedTupleGo tg (.ref it) u) (fun _ s2=>∃ x H',Inv X pins σ H' s2/\RelV x u/\J.yld i H x H'/\tn (i + 1) s2.heap/\∀ b ∈ fp,H' b=none) E s1) E s
 done:∀ (X:Cx),X.prog=P->X.w=w->X.K=K->X.calm=true->∀ (i:Nat) (pins:List (Addr × Obj)) (s:Shared) (σ:St) (H:Hp) (E:Value->Shared->Prop),Inv X pins σ H s->(∀ b ∈ fp,FpOk X pins H b)->tn i s.heap->J.stop i H ->
  wpAny (model P w) X.A (pyNext (.ref it)) (fun r s1=>r=none/\Inv X pins σ H s1) E s
 self:∀ (A:Around) (i:Nat) (s:Shared) (Q:Value->Shared->Prop) (E:Value->Shared->Prop),tn i s.heap->Q (.ref it) s->wpAny (model P w) A (pyIter (.ref it)) Q E s
noncomputable abbrev TI:=St->Hp->(It->Hp->Prop)->Prop
noncomputable def PIE (X:Cx) (pins:List (Addr × Obj)) (σ:St) (tg:Expr) (R:It->Hp->Prop) (itv:Value) (s2:Shared):Prop :=
 ∃ (it:Addr) (fp:List Addr) (tn:Nat->Heap->Prop) (J:It) (H':Hp),itv=.ref it/\Inv X pins σ H' s2/\Turn X.prog X.w X.K tg J fp it tn/\tn 0 s2.heap/\(∀ b ∈ fp,FpOk X pins H' b)/\R J H'
noncomputable def PI (X:Cx) (tg iter:Expr) (wi:TI):Prop :=
 ∀ (pins:List (Addr × Obj)) (s:Shared) (σ:St) (H:Hp) (R:It->Hp->Prop),Inv X pins σ H s->wi σ H R ->
  wpAny (model X.prog X.w) X.A (eval iter X.env) (fun v s1=>wpAny (model X.prog X.w) X.A (pyIter v) (PIE X pins σ tg R) X.xe s1) X.xe s
theorem FZ {M:Model} {A:Around} {E:Value->Shared->Prop} {s:Shared} {tg:Expr} {it:Addr} {u:Value} {o:Obj} {n:String} {vs:Array Value} {Q:Unit->Shared->Prop} (ho:s.heap.get? it=some o) (hc:o.cls=.type n) (hd:o.data=.fields vs)
  (hn:["enumerate", "zip", "dict_itemiterator", "dict_reverseitemiterator", "odict_iterator", "itertools.zip_longest", "itertools.pairwise"].contains n=false) (hQ:Q () s):wpAny M A (letOwnedTupleGo tg (.ref it) u) Q E s:=by
 unfold letOwnedTupleGo
 cases tg <;> first
  | exact wpAny_pure hQ
  | (cases u <;> first
    | exact wpAny_pure hQ
    | (refine wpAny_bind (wpAny_load ho ?_)
       rw [hc,hd]
       show wpAny M A (if (["enumerate", "zip", "dict_itemiterator", "dict_reverseitemiterator", "odict_iterator", "itertools.zip_longest", "itertools.pairwise"].contains n && vs[0]?==some (rawInt _))=true then _ else _) Q E s
       rw [if_neg (by intro h; rw [hn,abc] at h; cases h)]
       exact wpAny_pure hQ))
noncomputable def Itl (K:PySem.W.Frag) (a:Addr):It :=
 ⟨fun i H=>∃ xs x,SqL K H a xs/\xs[i]?=some x,fun i H x H'=>H'=H/\∀ xs,SqL K H a xs->xs[i]?=some x,fun i H=>∃ xs,SqL K H a xs/\xs.length<=i⟩
noncomputable def Itt (K:PySem.W.Frag) (a:Addr):It :=
 ⟨fun i H=>∃ xs x,SqT K H a xs/\xs[i]?=some x,fun i H x H'=>H'=H/\∀ xs,SqT K H a xs->xs[i]?=some x,fun i H=>∃ xs,SqT K H a xs/\xs.length<=i⟩
noncomputable def Itr (lo:Int) (n:Nat):It:=⟨fun i _=>i < n,fun i H x H'=>H'=H/\x=.int (lo + i),fun i _=>n<=i⟩
theorem K4 {P:Program} {w:World} {K:PySem.W.Frag} {tg:Expr} (a it:Addr):Turn P w K tg (Itl K a) [it] it (fun i h=>h.IsListIter it a i) where
 mem:=by simp
 obj:=fun i h st b hb=>by
  have e:b=it:=by simpa using hb
  subst e
  obtain ⟨o,e,c,d⟩:=st
  exact ⟨o,e,fun v z=>by rw [d] at z; cases z⟩
 keep:=fun i h h' st k=>st.at fun o e=>k it (by simp) o e
 item:=by
  intro X hP hw hK hc i pins s σ H E I hf st hg
  subst hP hw hK
  obtain ⟨xs,x,hq,hx⟩:=hg
  obtain ⟨its,rv,p,hz⟩:=I.list hq
  obtain ⟨u,hu,ru⟩:=rv.get hx
  obtain ⟨f0,f1,f2,f3,f4,f5⟩:=hf it (by simp)
  refine wpAny_pyNext_list_item st p.isList (x:=u) (by simpa using hu) fun h' st' sb=>?_
  have I1:Inv X pins σ H { s with heap:=h' }:=I.turned (t':=s.toks) (fun b o hb e=>(sb.2 b hb).trans e) f0 f1 f3 f4 f5
  obtain ⟨o,e,c,d⟩:=id st'
  exact ⟨u,rfl,FZ (s:={ s with heap:=h' }) e c d (by decide) ⟨x,H,I1,ru,⟨rfl,fun ys hy=>by rw [I.list_inj hy hq]; exact hx⟩,st',fun b hb=>(hf b hb).1⟩⟩
 done:=by
  intro X hP hw hK hc i pins s σ H E I hf st hg
  subst hP hw hK
  obtain ⟨xs,hq,hx⟩:=hg
  obtain ⟨its,rv,p,hz⟩:=I.list hq
  obtain ⟨f0,f1,f2,f3,f4,f5⟩:=hf it (by simp)
  have hl:=rv.length
  exact wpAny_pyNext_list_end (I.ok.hd hc) st p.isList (by simp; omega) fun h' eb=>⟨rfl,I.turned (t':=s.toks) (fun b o hb e=>eb b o hb e) f0 f1 f3 f4 f5⟩
 self:=fun _ _ _ _ _ st h=>wpAny_pyIter_listiter st h
theorem J2 {P:Program} {w:World} {K:PySem.W.Frag} {tg:Expr} (a it:Addr):Turn P w K tg (Itt K a) [it] it (fun i h=>h.IsTupleIter it a i) where
 mem:=by simp
 obj:=fun i h st b hb=>by
  have e:b=it:=by simpa using hb
  subst e
  obtain ⟨o,e,c,d⟩:=st
  exact ⟨o,e,fun v z=>by rw [d] at z; cases z⟩
 keep:=fun i h h' st k=>st.at fun o e=>k it (by simp) o e
 item:=by
  intro X hP hw hK hc i pins s σ H E I hf st hg
  subst hP hw hK
  obtain ⟨xs,x,hq,hx⟩:=hg
  obtain ⟨its,rv,p,hz⟩:=I.tuple hq
  obtain ⟨u,hu,ru⟩:=rv.get hx
  obtain ⟨f0,f1,f2,f3,f4,f5⟩:=hf it (by simp)
  refine wpAny_pyNext_tuple_item st (show s.heap.IsTuple a its.toArray from p) (x:=u) (by simpa using hu) fun h' st' sb=>?_
  have I1:Inv X pins σ H { s with heap:=h' }:=I.turned (t':=s.toks) (fun b o hb e=>(sb.2 b hb).trans e) f0 f1 f3 f4 f5
  obtain ⟨o,e,c,d⟩:=id st'
  exact ⟨u,rfl,FZ (s:={ s with heap:=h' }) e c d (by decide) ⟨x,H,I1,ru,⟨rfl,fun ys hy=>by rw [I.tuple_inj hy hq]; exact hx⟩,st',fun b hb=>(hf b hb).1⟩⟩
 done:=by
  intro X hP hw hK hc i pins s σ H E I hf st hg
  subst hP hw hK
  obtain ⟨xs,hq,hx⟩:=hg
  obtain ⟨its,rv,p,hz⟩:=I.tuple hq
  obtain ⟨f0,f1,f2,f3,f4,f5⟩:=hf it (by simp)
  have hl:=rv.length
  exact wpAny_pyNext_tuple_end (I.ok.hd hc) st (show s.heap.IsTuple a its.toArray from p) (by simp; omega) fun h' eb=>⟨rfl,I.turned (t':=s.toks) (fun b o hb e=>eb b o hb e) f0 f1 f3 f4 f5⟩
 self:=fun _ _ _ _ _ st h=>wpAny_pyIter_tupleiter st h
theorem J3 {P:Program} {w:World} {K:PySem.W.Frag} {tg:Expr} (it:Addr) (lo:Int) (n:Nat):Turn P w K tg (Itr lo n) [it] it (fun i h=>IsRangeIter h it (lo + (i:Nat) * 1) ((n:Int) - (i:Nat)) 1) where
 mem:=by simp
 obj:=fun i h st b hb=>by
  have e:b=it:=by simpa using hb
  subst e
  exact ⟨_,st,fun v z=>by
   have z':Data.fields _=Data.cell v:=z
   cases z'⟩
 keep:=fun i h h' st k=>k it (by simp) _ st
 item:=by
  intro X hP hw hK hc i pins s σ H E I hf st hg
  subst hP hw hK
  obtain ⟨f0,f1,f2,f3,f4,f5⟩:=hf it (by simp)
  have W:=Walks.range (prog:=X.prog) (w:=X.w) (I.ok.hd hc) it lo 1 n
  refine W.item i s _ _ hg st fun v h' tk hv st' kk=>?_
  obtain ⟨t,rfl⟩:=hv
  have I1:Inv X pins σ H { s with heap:=h',toks:=tk }:=I.turned (fun b o hb e=>kk b o (by simpa using hb) e) f0 f1 f3 f4 f5
  refine ⟨_,rfl,FZ (s:={ s with heap:=h',toks:=tk }) (n := "range_iterator") st' rfl rfl (by decide) ⟨.int (lo + i),H,I1,⟨t,?_⟩,⟨rfl,rfl⟩,st',fun b hb=>(hf b hb).1⟩⟩
  rw [Int.mul_one]
 done:=by
  intro X hP hw hK hc i pins s σ H E I hf st hg
  subst hP hw hK
  obtain ⟨f0,f1,f2,f3,f4,f5⟩:=hf it (by simp)
  exact wpAny_pyNext_range_end (I.ok.hd hc) st (by have:n<=i:=hg; omega) fun h' eb=>⟨rfl,I.turned (t':=s.toks) (fun b o hb e=>eb b o hb e) f0 f1 f3 f4 f5⟩
 self:=fun _ _ _ _ _ st h=>wpAny_pyIter_rangeiter st h
section
variable {X:Cx} {tg:Expr}
theorem My {pins:List (Addr × Obj)} {σ:St} {H:Hp} {s:Shared} {R:It->Hp->Prop} {E:Value->Shared->Prop} {lo hi:Int} {t u v:Tok} {tk:Nat} (I:Inv X pins σ H s) (h1:-(2 ^ 62)<=lo) (h2:lo < 2 ^ 62) (h3:-(2 ^ 62)<=hi) (h4:hi < 2 ^ 62)
  (q:R (Itr lo (hi - lo).toNat) H):wpAny (model X.prog X.w) X.A (pyIter (.ref s.heap.objs.size)) (PIE X pins σ tg R) E { s with heap:=s.heap.push { cls:=.type "range",data:=.fields #[.int lo t,.int hi u,.int 1 v] },toks:=tk }:=by
 refine wpAny_pyIter_range (IsRange.new ..) (small_one h1 h2 h3 h4) ?_
 have I1:Inv X pins σ H { s with heap:=s.heap.push { cls:=.type "range",data:=.fields #[.int lo t,.int hi u,.int 1 v] },toks:=tk }:=I.kept fun b o e=>Heap.get?_push_of_some _ e
 refine ⟨(s.heap.push { cls:=.type "range",data:=.fields #[.int lo t,.int hi u,.int 1 v] }).objs.size,[(s.heap.push { cls:=.type "range",data:=.fields #[.int lo t,.int hi u,.int 1 v] }).objs.size],_,_,H,rfl,
  I1.kept (t':=tk) fun b o e=>Heap.get?_push_of_some _ e,J3 _ lo (hi - lo).toNat,?_,fun b hb=>?_,q⟩
 ·have e1:lo + ((0:Nat):Int) * 1=lo:=by simp
  have e2:(((hi - lo).toNat:Nat):Int) - ((0:Nat):Int)=Builtin.Range.rangeSize lo hi 1:=by rw [rangeSize_one]; split <;> omega
  show IsRangeIter _ _ (lo + ((0:Nat):Int) * 1) ((((hi - lo).toNat:Nat):Int) - ((0:Nat):Int)) 1
  rw [e1,e2]
  exact Heap.get?_push_size _ rfl
 ·have e:b=(s.heap.push { cls:=.type "range",data:=.fields #[.int lo t,.int hi u,.int 1 v] }).objs.size:=by simpa using hb
  subst e
  exact I1.fpOk (aaj _) (I1.hok.fresh (aaj _))
noncomputable def Sj (ta:TA):TI:=fun σ H R=>ta σ H fun vs H1=>∃ j:Int,vs=[.int j]/\-(2 ^ 62)<=j/\j < 2 ^ 62/\R (Itr 0 j.toNat) H1
theorem K5 {a:Expr} {ta:TA} {p pos:Pos} (hg:Gl X "range") (hm:X.mg "range" = none) (ha:PA X [a] ta) (hs:starEach [a] X.env=[(false,eval a X.env)]:=by rfl):PI X tg (.Call (.Name "range" p) [a] [] pos) (Sj ta):=by
 intro pins s σ H R I h
 refine Call_ (FY I hg hm boot_range (PyProof.Rows.callWith_type1 (thn (ha pos pins s σ H _ I h) fun us s1 ⟨vs,H1,I1,r1,q1⟩=>?_) hs rfl))
 obtain ⟨j,e,q1,q2,q⟩:=q1
 subst e
 cases r1 with
 | cons r rr =>
  cases rr
  obtain ⟨t,rfl⟩:=r
  exact call_range_1 (My I1 (by omega) (by omega) q1 q2 (by simpa using q))
noncomputable def Qq (wi:TI) (g:TG) (tb:TS):TS:=fun D σ H=>wi σ H fun J H1=>∃ W:Nat->Nat->St->Hp->Prop,(∃ m,W 0 m σ H1)/\∀ i m σ H,W i m σ H ->
 (J.stop i H/\D.nx σ H)\/(J.go i H/\∃ N:St->Hp->Prop,(∀ σ' H',N σ' H'->∃ m',m' < m/\W (i + 1) m' σ' H')/\∀ x H',J.yld i H x H'->g x σ H' fun σ2 H2=>tb { D with nx:=N,ct:=N,bk:=D.nx } σ2 H2)
noncomputable def Dm (fp:List Addr) (h:Heap):List (Addr × Obj):=fp.filterMap fun b=>(h.get? b).map fun o=>(b,o)
theorem A5 {fp:List Addr} {h:Heap} {b:Addr} {o:Obj} (hb:b ∈ fp) (e:h.get? b=some o):(b,o) ∈ Dm fp h:=aay.mpr ⟨b,hb,by rw [e]; rfl⟩
theorem K6 {fp:List Addr} {h:Heap} {p:Addr × Obj} (hp:p ∈ Dm fp h):p.1 ∈ fp/\h.get? p.1=some p.2:=by
 obtain ⟨b,hb,e⟩:=aay.mp hp
 cases q:h.get? b with
 | none=>rw [q] at e; cases e
 | some o =>
  rw [q] at e
  have e':(b,o)=p:=Option.some.inj e
  subst e'
  exact ⟨hb,q⟩
theorem Inv.pinned {pins:List (Addr × Obj)} {σ:St} {H:Hp} {s:Shared} {fp:List Addr} (I:Inv X pins σ H s) (hf:∀ b ∈ fp,FpOk X pins H b) (ho:∀ b ∈ fp,∃ o,s.heap.get? b=some o/\∀ v,o.data ≠ .cell v):Inv X (pins ++ Dm fp s.heap) σ H s :=
 I.pins_of fun p hp=>(aac.mp hp).elim (fun z=>I.pin p (aag _ z)) fun z=>by
  obtain ⟨hb,e⟩:=K6 z
  obtain ⟨f0,f1,f2,_⟩:=hf p.1 hb
  obtain ⟨o,e',d⟩:=ho p.1 hb
  rw [e] at e'; cases e'
  exact ⟨e,f0,f1,f2,d⟩
theorem Inv.unpinned {pins pl:List (Addr × Obj)} {σ:St} {H:Hp} {s:Shared} (I:Inv X (pins ++ pl) σ H s):Inv X pins σ H s:=I.pins_of fun p hp=>I.pin p (aag _ (aat _ hp))
theorem K7 {iter:Expr} {body:List Stmt} {wi:TI} {g:TG} {tb:TS} {pos:Pos} (hp:PassesOwn (model X.prog X.w) X.A X.env X.xe) (hc:X.calm=true) (hi:PI X tg iter wi) (hg:PG X tg g) (hb:PSs X body tb)
  (hs:∀ x,foldedSetIterable iter X.env x=pure x:=by intro _; rfl):PS X (.For tg iter body [] pos) (Qq wi g tb):=by
 intro pins s σ H D I h
 refine wpAny_For (thn (hi pins s σ H _ I h) fun v s1 h1=>thn h1 fun itv s2 h2=>?_) hs
 obtain ⟨it,fp,tn,J,H2,e,I2,T,st2,f2,W,⟨m0,w0⟩,turn⟩:=h2
 subst e
 have stat:∀ {H':Hp},(∀ b ∈ fp,H' b=none)->∀ b ∈ fp,FpOk X pins H' b:=fun hn b hb=>⟨hn b hb,(f2 b hb).2⟩
 refine codeAny_forLoop_any (fun n s'=>∃ i σ' H',Inv X pins σ' H' s'/\tn i s'.heap/\(∀ b ∈ fp,H' b=none)/\W i n σ' H') ?_ m0 ⟨0,σ,H2,I2,st2,fun b hb=>(f2 b hb).1,w0⟩
 rintro n s3 ⟨i,σ3,H3,I3,st3,fr3,w3⟩
 rcases turn i n σ3 H3 w3 with ⟨stop,qn⟩ | ⟨go,N,hN,step⟩
 ·refine wpAny_passesOwn hp (thn (T.done X rfl rfl rfl hc i pins s3 σ3 H3 X.xe I3 (stat fr3) st3 stop) fun r s4 ⟨hr,I4⟩=>?_)
  subst hr
  exact wpAny_execs_nil ⟨σ3,H3,I4,qn⟩
 ·refine wpAny_passesOwn hp (thn (T.item X rfl rfl rfl hc i pins s3 σ3 H3 X.xe I3 (stat fr3) st3 go) fun r s4 ⟨u,hr,h4⟩=>?_)
  subst hr
  refine wpAny_passesOwn hp (thn h4 fun _ s5 ⟨x,H5,I5,r5,y5,st5,fr5⟩=>?_)
  have I5':=I5.pinned (stat fr5) (T.obj _ _ st5)
  refine wpAny_passesOwn hp (thn (hg _ s5 σ3 H5 x u _ I5' r5 (step x H5 y5)) fun _ s6 ⟨σ6,H6,I6,q6⟩=>?_)
  refine wpAny_passesOwn hp (thn (hb _ s6 σ6 H6 _ I6 q6) fun f s7 q7=>?_)
  have again:∀ {σ7:St} {H7:Hp},Inv X (pins ++ Dm fp s5.heap) σ7 H7 s7->N σ7 H7->∃ m,m < n/\∃ i σ' H',Inv X pins σ' H' s7/\tn i s7.heap/\(∀ b ∈ fp,H' b=none)/\W i m σ' H':=fun {σ7 H7} I7 n7=>by
   obtain ⟨m',hm,w7⟩:=hN σ7 H7 n7
   refine ⟨m',hm,i + 1,σ7,H7,I7.unpinned,T.keep _ _ _ st5 fun b hb o e=>(I7.pin (b,o) (aag _ (aag _ (A5 hb e)))).1,fun b hb=>?_,w7⟩
   obtain ⟨o,e,d⟩:=T.obj _ _ st5 b hb
   exact (I7.pin (b,o) (aag _ (aag _ (A5 hb e)))).2.1
  cases f with
  | next=>obtain ⟨σ7,H7,I7,n7⟩:=q7; exact again I7 n7
  | cont=>obtain ⟨σ7,H7,I7,n7⟩:=q7; exact again I7 n7
  | brk=>obtain ⟨σ7,H7,I7,q7⟩:=q7; exact ⟨σ7,H7,I7.unpinned,q7⟩
  | ret v=>obtain ⟨x7,σ7,H7,I7,r7,q7⟩:=q7; exact ⟨x7,σ7,H7,I7.unpinned,r7,q7⟩
end
noncomputable abbrev R2:=V->V->Hp->VK->Prop
noncomputable def OpR (X:Cx) (f:Value->Value->Sem Value) (r:R2):Prop :=
 ∀ (pins:List (Addr × Obj)) (s:Shared) (σ:St) (H:Hp) (x y:V) (v u:Value) (Q:VK),Inv X pins σ H s->RelV x v->RelV y u->r x y H Q ->
  wpAny (model X.prog X.w) X.A (f v u) (EP X pins σ Q) X.xe s
noncomputable def UnR (X:Cx) (f:Value->Sem Value) (r:V->Hp->VK->Prop):Prop :=
 ∀ (pins:List (Addr × Obj)) (s:Shared) (σ:St) (H:Hp) (x:V) (v:Value) (Q:VK),Inv X pins σ H s->RelV x v->r x H Q ->
  wpAny (model X.prog X.w) X.A (f v) (EP X pins σ Q) X.xe s
noncomputable def CI (X:Cx) (f:Value) (r:List V->Hp->VK->Prop):Prop :=
 ∀ (pins:List (Addr × Obj)) (s:Shared) (σ:St) (H:Hp) (xs:List V) (us:List Value) (Q:VK),Inv X pins σ H s->Vals xs us->r xs H Q ->
  wpAny (model X.prog X.w) X.A (call f us) (EP X pins σ Q) X.xe s
noncomputable def TH (X:Cx) (r:V->Hp->(Bool->Hp->Prop)->Prop):Prop :=
 ∀ (pins:List (Addr × Obj)) (s:Shared) (σ:St) (H:Hp) (x:V) (v:Value) (Q:Bool->Hp->Prop),Inv X pins σ H s->RelV x v->r x H Q ->
  wpAny (model X.prog X.w) X.A (truthy v) (TP X pins σ Q) X.xe s
noncomputable def tOp (r:R2) (ta tb:TE):TE:=fun σ H Q=>ta σ H fun x H1=>tb σ H1 fun y H2=>r x y H2 Q
noncomputable def tUn (r:V->Hp->VK->Prop) (ta:TE):TE:=fun σ H Q=>ta σ H fun x H1=>r x H1 Q
noncomputable def rI (C:Int->Int->Prop) (g:Int->Int->V):R2:=fun x y H Q=>∃ i j,x=.int i/\y=.int j/\C i j/\Q (g i j) H
noncomputable def rI0 (g:Int->Int->V):R2:=fun x y H Q=>∃ i j,x=.int i/\y=.int j/\Q (g i j) H
noncomputable def rU (g:Int->V):V->Hp->VK->Prop:=fun x H Q=>∃ i,x=.int i/\Q (g i) H
section
variable {X:Cx} {a b c:Expr} {ta tb tc:TE} {pos:Pos}
theorem Mz (ha:PE X a ta) (hb:PE X b tb) {pins:List (Addr × Obj)} {s:Shared} {σ:St} {H:Hp} {R:V->V->Hp->Prop} (I:Inv X pins σ H s)
  (h:ta σ H fun x H1=>tb σ H1 fun y H2=>R x y H2) {Q:Value->Shared->Prop} {f:Value->Value->Sem Value}
  (hf:∀ v u s2 x y H2,Inv X pins σ H2 s2->RelV x v->RelV y u->R x y H2->wpAny (model X.prog X.w) X.A (f v u) Q X.xe s2) :
  wpAny (model X.prog X.w) X.A (eval a X.env) (fun v s₁=>wpAny (model X.prog X.w) X.A (eval b X.env) (fun u s₂=>wpAny (model X.prog X.w) X.A (f v u) Q X.xe s₂) X.xe s₁) X.xe s:=by
 refine thn (ha pins s σ H _ I h) fun v s1 ⟨x,H1,I1,r1,q1⟩=>?_
 refine thn (hb pins s1 σ H1 _ I1 q1) fun u s2 ⟨y,H2,I2,r2,q2⟩=>?_
 exact hf v u s2 x y H2 I2 r1 r2 q2
theorem J4 {op:Operator} {r:R2} (ho:OpR X (binaryOp op) r) (ha:PE X a ta) (hb:PE X b tb):PE X (.BinOp a op b pos) (tOp r ta tb):=by
 intro pins s σ H Q I h
 exact wpAny_BinOp (Mz ha hb I h fun v u s2 x y H2 I2 rx ry q=>ho pins s2 σ H2 x y v u Q I2 rx ry q)
theorem Sk {op:UnaryOp} {r:V->Hp->VK->Prop} (ho:UnR X (unaryOp op) r) (ha:PE X a ta):PE X (.UnaryOp op a pos) (tUn r ta):=by
 intro pins s σ H Q I h
 exact UnaryOp_ (thn (ha pins s σ H _ I h) fun v s1 ⟨x,H1,I1,r1,q1⟩=>ho pins s1 σ H1 x v Q I1 r1 q1)
theorem opI {f:Value->Value->Sem Value} {C:Int->Int->Prop} {g:Int->Int->Int}
  (rule:∀ (i j:Int) (t u:Tok) (s:Shared) (Q:Value->Shared->Prop) (E:Value->Shared->Prop),C i j->Q (.int (g i j) s.toks) { s with toks:=s.toks + 1 }->wpAny (model X.prog X.w) X.A (f (.int i t) (.int j u)) Q E s) :
  OpR X f (rI C fun i j=>.int (g i j)):=by
 intro pins s σ H x y v u Q I rx ry h
 obtain ⟨i,j,rfl,rfl,hc,q⟩:=h
 obtain ⟨t,rfl⟩:=rx
 obtain ⟨t',rfl⟩:=ry
 exact rule i j t t' s _ _ hc ⟨.int (g i j),H,I.tok _,⟨_,rfl⟩,q⟩
theorem Qr {f:Value->Value->Sem Value} {g:Int->Int->Int}
  (rule:∀ (i j:Int) (t u:Tok) (s:Shared) (Q:Value->Shared->Prop) (E:Value->Shared->Prop),Q (.int (g i j) s.toks) { s with toks:=s.toks + 1 }->wpAny (model X.prog X.w) X.A (f (.int i t) (.int j u)) Q E s) :
  OpR X f (rI0 fun i j=>.int (g i j)):=by
 intro pins s σ H x y v u Q I rx ry h
 obtain ⟨i,j,rfl,rfl,q⟩:=h
 obtain ⟨t,rfl⟩:=rx
 obtain ⟨t',rfl⟩:=ry
 exact rule i j t t' s _ _ ⟨.int (g i j),H,I.tok _,⟨_,rfl⟩,q⟩
theorem J8 {f:Value->Value->Sem Value} {g:Int->Int->Bool}
  (rule:∀ (i j:Int) (t u:Tok) (s:Shared) (Q:Value->Shared->Prop) (E:Value->Shared->Prop),Q (.bool (g i j)) s->wpAny (model X.prog X.w) X.A (f (.int i t) (.int j u)) Q E s) :
  OpR X f (rI0 fun i j=>.bl (g i j)):=by
 intro pins s σ H x y v u Q I rx ry h
 obtain ⟨i,j,rfl,rfl,q⟩:=h
 obtain ⟨t,rfl⟩:=rx
 obtain ⟨t',rfl⟩:=ry
 exact rule i j t t' s _ _ ⟨.bl (g i j),H,I,rfl,q⟩
noncomputable def Qs (i j:Int):Prop:=0<=j/\j<=1000000/\i.natAbs < 2 ^ 64
noncomputable def CMul (i j:Int):Prop:=(-(2 ^ 64) < i/\i < 2 ^ 64)\/(-(2 ^ 64) < j/\j < 2 ^ 64)
theorem CMul.ok {i j:Int} (h:CMul i j):IntMulOk i j:=by
 rcases h with ⟨h1,h2⟩ | ⟨h1,h2⟩
 ·exact .of_left (intBits_le_64 h1 h2)
 ·exact .of_right (intBits_le_64 h1 h2)
theorem Qt:OpR X (binaryOp .Add) (rI0 fun i j=>.int (i + j)):=Qr fun _ _ _ _ _ _ _ q=>add_int q
theorem Qu:OpR X (binaryOp .Sub) (rI0 fun i j=>.int (i - j)):=Qr fun _ _ _ _ _ _ _ q=>sub_int q
theorem Qv:OpR X (binaryOp .Mod) (rI (fun _ j=>0 < j) fun i j=>.int (i % j)):=opI fun i j _ _ _ _ _ hc q=>by
 have h1:(0:Int) < j:=hc
 exact mod_int' (by omega) (by rw [Int.fmod_eq_emod_of_nonneg i (by omega)]; exact q)
theorem Qw:OpR X (binaryOp .Pow) (rI Qs fun i j=>.int (i ^ j.toNat)):=opI fun _ _ _ _ _ _ _ hc q=>pow_int_small hc.1 hc.2.1 hc.2.2 q
theorem unI {f:Value->Sem Value} {g:Int->Int}
  (rule:∀ (i:Int) (t:Tok) (s:Shared) (Q:Value->Shared->Prop) (E:Value->Shared->Prop),Q (.int (g i) s.toks) { s with toks:=s.toks + 1 }->wpAny (model X.prog X.w) X.A (f (.int i t)) Q E s) :
  UnR X f (rU fun i=>.int (g i)):=by
 intro pins s σ H x v Q I rx h
 obtain ⟨i,rfl,q⟩:=h
 obtain ⟨t,rfl⟩:=rx
 exact rule i t s _ _ ⟨.int (g i),H,I.tok _,⟨_,rfl⟩,q⟩
theorem Qx:UnR X (unaryOp .USub) (rU fun i=>.int (-i)):=unI fun _ _ _ _ _ q=>neg_int q
end
section
variable {X:Cx} {a b c:Expr} {ta tb tc:TE} {pos:Pos}
theorem K8 {pins:List (Addr × Obj)} {σ:St} {H:Hp} {s:Shared} {Q:VK} {k k':Bool} (I:Inv X pins σ H s) (q:Q (.bl k) H) (e:k=k'):EP X pins σ Q (.bool k') s:=by
 subst e
 exact ⟨.bl k,H,I,rfl,q⟩
theorem Sl:OpR X (compareOp .Lt) (rI0 fun i j=>.bl (decide (i < j))):=J8 fun _ _ _ _ _ _ _ q=>lt_int q
theorem Sm:OpR X (compareOp .LtE) (rI0 fun i j=>.bl (decide (i<=j))):=J8 fun _ _ _ _ _ _ _ q=>le_int q
theorem Sn:OpR X (compareOp .Gt) (rI0 fun i j=>.bl (decide (j < i))):=J8 fun _ _ _ _ _ _ _ q=>gt_int q
theorem So:OpR X (compareOp .GtE) (rI0 fun i j=>.bl (decide (j<=i))):=J8 fun _ _ _ _ _ _ _ q=>ge_int q
theorem La:OpR X (compareOp .In) (fun x y H Q=>∃ i j,x=.str i/\y=.str j/\Q (.bl (!(Builtin.Str.occurrences j i 0 j.length 1).isEmpty)) H):=by
 intro pins s σ H x y v u Q I rx ry h
 obtain ⟨i,j,rfl,rfl,q⟩:=h
 obtain ⟨t,rfl⟩:=rx
 obtain ⟨t',rfl⟩:=ry
 exact in_str (K8 I q rfl)
theorem HQ:OpR X (compareOp .NotIn) (fun x y H Q=>∃ i j,x=.str i/\y=.str j/\Q (.bl (!(!(Builtin.Str.occurrences j i 0 j.length 1).isEmpty))) H):=by
 intro pins s σ H x y v u Q I rx ry h
 obtain ⟨i,j,rfl,rfl,q⟩:=h
 obtain ⟨t,rfl⟩:=rx
 obtain ⟨t',rfl⟩:=ry
 exact notIn_str (K8 I q rfl)
theorem OpR.or {f:Value->Value->Sem Value} {r r':R2} (h:OpR X f r) (h':OpR X f r'):OpR X f (fun x y H Q=>r x y H Q\/r' x y H Q):=by
 intro pins s σ H x y v u Q I rx ry q
 rcases q with q | q
 ·exact h pins s σ H x y v u Q I rx ry q
 ·exact h' pins s σ H x y v u Q I rx ry q
theorem Jw {op:CmpOp} {r:R2} (ho:OpR X (compareOp op) r) (ha:PE X a ta) (hb:PE X b tb) (hm:behindInMarks op b=false):PE X (.Compare a [op] [b] pos) (tOp r ta tb):=by
 intro pins s σ H Q I h
 exact wpAny_Compare1 (Mz ha hb I h fun v u s2 x y H2 I2 rx ry q=>ho pins s2 σ H2 x y v u Q I2 rx ry q) hm
noncomputable def N1 (t:TE):TT:=fun σ H Q=>t σ H fun x H'=>∃ k,x=.bl k/\Q k H'
theorem Jx {op:CmpOp} {r:R2} (ho:OpR X (compareOp op) r) (ha:PE X a ta) (hb:PE X b tb) (hm:behindInMarks op b=false):PT X (.Compare a [op] [b] pos) (N1 (tOp r ta tb)):=by
 intro pins s σ H Q I h
 refine wpAny_isTrue_Compare1 (thn (ha pins s σ H _ I h) fun v s1 ⟨x,H1,I1,r1,q1⟩=>thn (hb pins s1 σ H1 _ I1 q1) fun u s2 ⟨y,H2,I2,r2,q2⟩ =>
  thn (ho pins s2 σ H2 x y v u _ I2 r1 r2 q2) fun c s3 ⟨z,H3,I3,r3,k,e,q3⟩=>?_) hm
 subst e
 cases r3
 exact wpAny_truthy_bool ⟨H3,I3,q3⟩
noncomputable def HR (r r':R2) (ta tb tc:TE):TE:=fun σ H Q=>ta σ H fun x H1=>tb σ H1 fun y H2=>r x y H2 fun z H3=>∃ k,z=.bl k /\
 (if k=true then tc σ H3 fun w' H4=>r' y w' H4 Q else Q (.bl false) H3)
theorem MA {op op':CmpOp} {r r':R2} (ho:OpR X (compareOp op) r) (ho':OpR X (compareOp op') r') (ha:PE X a ta) (hb:PE X b tb) (hc:PE X c tc)
  (hm:lastMarks [op,op'] [b,c]=false:=by with_unfolding_all rfl):PE X (.Compare a [op,op'] [b,c] pos) (HR r r' ta tb tc):=by
 intro pins s σ H Q I h
 refine Compare_chain (thn (ha pins s σ H _ I h) fun v s1 ⟨x,H1,I1,r1,q1⟩=>chain_link (thn (hb pins s1 σ H1 _ I1 q1) fun u s2 ⟨y,H2,I2,r2,q2⟩ =>
  thn (ho pins s2 σ H2 x y v u _ I2 r1 r2 q2) fun d s3 ⟨z,H3,I3,r3,k,e,q3⟩=>?_)) hm
 subst e
 cases r3
 refine wpAny_truthy_bool ?_
 cases k with
 | false=>exact ite_ff ⟨.bl false,H3,I3,rfl,q3⟩
 | true=>exact ite_tt (chain_last (thn (hc pins s3 σ H3 _ I3 q3) fun w' s4 ⟨z',H4,I4,r4,q4⟩=>ho' pins s4 σ H4 y z' u w' Q I4 r2 r4 q4))
theorem MB {op op':CmpOp} {r r':R2} (ho:OpR X (compareOp op) r) (ho':OpR X (compareOp op') r') (ha:PE X a ta) (hb:PE X b tb) (hc:PE X c tc)
  (hm:lastMarks [op,op'] [b,c]=false:=by with_unfolding_all rfl):PT X (.Compare a [op,op'] [b,c] pos) (N1 (HR r r' ta tb tc)):=by
 intro pins s σ H Q I h
 refine isTrue_chain (thn (ha pins s σ H _ I h) fun v s1 ⟨x,H1,I1,r1,q1⟩=>test_link (thn (hb pins s1 σ H1 _ I1 q1) fun u s2 ⟨y,H2,I2,r2,q2⟩ =>
  thn (ho pins s2 σ H2 x y v u _ I2 r1 r2 q2) fun d s3 ⟨z,H3,I3,r3,k,e,q3⟩=>?_)) hm
 subst e
 cases r3
 refine wpAny_truthy_bool ?_
 cases k with
 | false =>
  obtain ⟨k',e',q'⟩:=q3
  cases e'
  exact ite_ff ⟨H3,I3,q'⟩
 | true =>
  refine ite_tt (test_last (thn (hc pins s3 σ H3 _ I3 q3) fun w' s4 ⟨z',H4,I4,r4,q4⟩=>thn (ho' pins s4 σ H4 y z' u w' _ I4 r2 r4 q4) fun d' s5 ⟨z2,H5,I5,r5,k2,e2,q5⟩=>?_))
  subst e2
  cases r5
  exact wpAny_truthy_bool ⟨H5,I5,q5⟩
noncomputable def MC (K:PySem.W.Frag) (x:V) (H:Hp) (k:Bool):Prop :=
 match x with
 | .non=>k=false
 | .bl b=>k=b
 | .int i=>k=(i != 0)
 | .str y=>y.length<=sizeLine/\k=((y.length:Int) != 0)
 | .byt y=>y.size<=sizeLine/\k=((y.size:Int) != 0)
 | .ref p=>(∃ xs,SqL K H p xs/\k=!xs.isEmpty)\/(∃ xs,SqT K H p xs/\k=!xs.isEmpty)\/∃ kvs,H p=some (.dK kvs)/\k=!kvs.isEmpty
 | _=>False
theorem J9 {κ:Type} {kvs:List (κ × V)} {vs:List (κ × Value)} (r:KV kvs vs):(!vs.isEmpty)=!kvs.isEmpty:=by
 cases r <;> rfl
theorem F0 {xs:List V} {its:List Value} (r:Vals xs its):(!its.toArray.isEmpty)=!xs.isEmpty:=by
 cases r <;> simp
theorem D4:(sizeLine:Nat) < 2 ^ 63:=by rw [sizeLine_eq]; decide
theorem Qy:TH X (fun x H Q=>∃ k,MC X.K x H k/\Q k H):=by
 intro pins s σ H x v Q I rx h
 obtain ⟨k,e,q⟩:=h
 have hl:=D4
 have hs:sizeLine=16777216:=sizeLine_eq
 cases x with
 | non =>
  cases rx
  have e':k=false:=e
  subst e'
  exact truthy_none ⟨H,I,q⟩
 | bl b =>
  cases rx
  have e':k=b:=e
  subst e'
  exact wpAny_truthy_bool ⟨H,I,q⟩
 | int i =>
  obtain ⟨t,rfl⟩:=rx
  have e':k=(i != 0):=e
  subst e'
  exact PySem.P.truthy_int ⟨H,I,q⟩
 | str y =>
  obtain ⟨t,rfl⟩:=rx
  obtain ⟨hy,e'⟩:y.length<=sizeLine/\k=((y.length:Int) != 0):=e
  subst e'
  exact PySem.P.truthy_str (by omega) ⟨H,I.tok _,q⟩
 | byt y =>
  obtain ⟨t,rfl⟩:=rx
  obtain ⟨hy,e'⟩:y.size<=sizeLine/\k=((y.size:Int) != 0):=e
  subst e'
  exact PySem.W.truthy_bytes (by omega) ⟨H,I.tok _,q⟩
 | ref p =>
  cases rx
  have e':(∃ xs,SqL X.K H p xs/\k=!xs.isEmpty)\/(∃ xs,SqT X.K H p xs/\k=!xs.isEmpty)\/∃ kvs,H p=some (.dK kvs)/\k=!kvs.isEmpty:=e
  rcases e' with ⟨xs,hx,e'⟩ | ⟨xs,hx,e'⟩ | ⟨kvs,hx,e'⟩
  ·subst e'
   obtain ⟨its,r,pl,hz⟩:=I.list hx
   have hlen:=r.length
   exact wpAny_truthy_list pl.isList (by simp only [aap]; omega) ⟨H,I.tok _,by rw [F0 r]; exact q⟩
  ·subst e'
   obtain ⟨its,r,pl,hz⟩:=I.tuple hx
   have hlen:=r.length
   exact truthy_tuple pl (by simp only [aap]; omega) ⟨H,I.tok _,by rw [F0 r]; exact q⟩
  ·subst e'
   obtain ⟨hz,hS,vs,r,m⟩:kvs.length<=sizeLine/\(p==sysModules)=false/\∃ vs,KV kvs vs/\s.heap.DictOf (Gp X.prog X.w) p vs:=I.hok p _ hx
   have hlen:kvs.length=vs.length:=Paired.length r
   exact wpAny_truthy_dict hS m (by omega) ⟨H,I.tok _,by rw [J9 r]; exact q⟩
 | _=>exact nE e
theorem MD (ha:PE X a ta) (he:∀ whole,isTrue a X.env whole=(do let v <- whole; standAt a.pos; holding [v] (truthy v))) :
  PT X a (fun σ H Q=>ta σ H fun x H'=>∃ k,MC X.K x H' k/\Q k H'):=by
 intro pins s σ H Q I h
 exact isTrue_plain (thn (ha pins s σ H _ I h) fun v s1 ⟨x,H1,I1,r1,q1⟩=>Qy pins s1 σ H1 x v Q I1 r1 q1) (he _)
theorem Ej:OpR X (binaryOp .Add) (fun x y H Q=>∃ i j,x=.str i/\y=.str j/\i.length + j.length<=sizeLine/\Q (.str (i ++ j)) H):=by
 intro pins s σ H x y v u Q I rx ry h
 obtain ⟨i,j,rfl,rfl,hz,q⟩:=h
 obtain ⟨t,rfl⟩:=rx
 obtain ⟨t',rfl⟩:=ry
 exact add_str (fun t' tk=>⟨.str (i ++ j),H,I.tok _,⟨_,rfl⟩,q⟩) hz
theorem DF {x:V} {us:List Value} (r:Vals [x] us):∃ u,us=[u]/\RelV x u:=by
 cases r with
 | cons r1 r2=>cases r2; exact ⟨_,rfl,r1⟩
theorem Sq {x y:V} {us:List Value} (r:Vals [x,y] us):∃ u w',us=[u,w']/\RelV x u/\RelV y w':=by
 cases r with
 | cons r1 r2 =>
  cases r2 with
  | cons r3 r4=>cases r4; exact ⟨_,_,rfl,r1,r3⟩
theorem Lb:CI X (.type "int") (fun xs H Q=>(∃ i,xs=[.int i]/\Q (.int i) H)\/∃ k,xs=[.bl k]/\Q (.int (if k then 1 else 0)) H):=by
 intro pins s σ H xs us Q I r h
 rcases h with ⟨i,rfl,q⟩ | ⟨k,rfl,q⟩
 ·obtain ⟨u,rfl,t,rfl⟩:=DF r
  exact call_int_int ⟨.int i,H,I,⟨_,rfl⟩,q⟩
 ·obtain ⟨u,rfl,r1⟩:=DF r
  cases r1
  exact call_int_bool ⟨.int (if k then 1 else 0),H,I.tok _,⟨_,rfl⟩,q⟩
end
structure ObjM (h:Heap) (x dx C:Addr) (mA:Str->Option Value):Prop where
 obj:h.get? x=some (PySem.W.instObj C dx)
 ns:h.Ns1 dx mA
 ne:dx ≠ x
theorem Lc {h:Heap} {dx:Addr} {mA:Str->Option Value} (n:h.Ns1 dx mA):∃ od,h.get? dx=some od/\∀ name,PySem.W.lookIn name od=some (mA name):=by
 obtain ⟨o,es,ep,ho,hd,hk,_,hm⟩:=n
 refine ⟨o,ho,fun name=>?_⟩
 have e:=hm name
 unfold nsFind findBy at e
 rw [<- Array.find?_toList] at e
 unfold PySem.W.lookIn
 rw [hd]
 dsimp only
 split
 ·rename_i y q
  rw [q] at e
  exact congrArg some e
 ·rename_i q
  rw [q] at e
  have a:es.toList.any (·.refKey)=false:=by
   rw [List.any_eq_false]
   intro y hy
   obtain ⟨z,t,hkey⟩:=hk y (Array.mem_toList_iff.mp hy)
   simp [DictEntry.refKey,hkey]
  have a':¬ es.toList.any (·.refKey)=true:=by rw [a]; exact abj
  rw [if_neg a']
  exact congrArg some e
theorem ObjM.look {h:Heap} {x dx C:Addr} {mA:Str->Option Value} (I:ObjM h x dx C mA):∃ od,PySem.W.InstAt h x (PySem.W.instObj C dx) C (some od)/\∀ name,PySem.W.lookIn name od=some (mA name) :=
 let ⟨od,ho,hl⟩:=Lc I.ns
 ⟨od,⟨I.obj,rfl,rfl,ho⟩,hl⟩
section
variable {P:Program} {w:World} {H H':Hp} {h h':Heap} {a C dx:Addr} {fs fs':List (Str × V)}
theorem On (hok:HOk P w H h) (e:H a=some (.ins C dx fs)):∃ mA,ObjM h a dx C mA/\(∀ f,Mo (fs.lookup f) (mA f))/\PySem.Within mA (fs.map (·.1))/\fs.length<=1000/\H dx=some (.own a):=by
 obtain ⟨d,z,ne,ob,mA,n,r,q⟩:=(show ObjOk P w H h a (.ins C dx fs) from hok a _ e)
 exact ⟨mA,⟨ob,n,ne⟩,r,q,z,d⟩
end
structure Cls (K:PySem.W.Frag) (C:Addr):Prop where
 pg:PySem.W.plainGet K C Str.empty=true
 hd:PySem.W.hasDictIn K C=true
 po:PySem.W.plainOver K C=true
 sa:PySem.W.findIn K (.ref C) "__setattr__" = some (some (.builtin "object.__setattr__"))
theorem Cls.get {K:PySem.W.Frag} {C:Addr} (c:Cls K C) (f:Str):PySem.W.plainGet K C f=true:=c.pg
section
variable {X:Cx} {pins:List (Addr × Obj)} {σ:St} {H:Hp} {s:Shared} {A:Around} {E:Value->Shared->Prop} {Q:Value->Shared->Prop} {c:Value} {b:Bool}
inductive TyOf (K:PySem.W.Frag) (H:Hp):V->Value->Prop where
 | non:TyOf K H .non (.type "NoneType")
 | bl (x:Bool):TyOf K H (.bl x) (.type "bool")
 | int (i:Int):TyOf K H (.int i) (.type "int")
 | str (x:Str):TyOf K H (.str x) (.type "str")
 | flt (x:UInt64):TyOf K H (.flt x) (.type "float")
 | lst {a:Addr} {xs:List V} (e:H a=some (.lst xs)):TyOf K H (.ref a) (.type "list")
 | frz {a:Addr} {o:Obj} {xs:List V} (e:H a=some (.frz o (.lst xs))):TyOf K H (.ref a) (.type "list")
 | tup {a:Addr} {xs:List V} (e:H a=some (.tup xs)):TyOf K H (.ref a) (.type "tuple")
 | dK {a:Addr} {kvs:List (Key × V)} (e:H a=some (.dK kvs)):TyOf K H (.ref a) (.type "dict")
 | dT {a:Addr} {kvs:List (List Key × V)} (e:H a=some (.dT kvs)):TyOf K H (.ref a) (.type "dict")
 | ins {a C dx:Addr} {fs:List (Str × V)} (e:H a=some (.ins C dx fs)) (cl:Cls K C) (ha:PySem.W.findIn K (.ref C) "__class__" = some (some (.builtin "object.__class__")))
   (hn:PySem.W.specialIn K (.builtin "object.__class__") "__get__" = some (some (.builtin "getset_descriptor.__get__"))) (htk:PySem.W.takesIn K (.builtin "object.__class__")=some true)
   (hm:PySem.W.mroIn K C (.type "object")=some true):TyOf K H (.ref a) (.ref C)
theorem Ld {x:V} {u t:Value} (I:Inv X pins σ H s) (rx:RelV x u) (ty:TyOf X.K H x t) (e:PySem.W.kitOne X.K t c=some b) (h:∀ tk,Q (.bool b) { s with toks:=tk }) :
  wpAny (model X.prog X.w) A (call (.builtin "isinstance") [u,c]) Q E s:=by
 cases ty with
 | non=>cases (show u=Value.none from rx); exact PySem.W.kia_one PySem.W.kitx_none I.kIn True.intro e (fun z=>nomatch z) h
 | bl y=>cases (show u=Value.bool y from rx); exact PySem.W.kia_one PySem.W.kitx_bool I.kIn True.intro e (fun z=>nomatch z) h
 | int i=>obtain ⟨t,q⟩:=(show ∃ t,u=Value.int i t from rx); cases q; exact PySem.W.kia_one PySem.W.kitx_int I.kIn True.intro e (fun z=>nomatch z) h
 | str y=>obtain ⟨t,q⟩:=(show ∃ t,u=Value.str y t from rx); cases q; exact PySem.W.kia_one PySem.W.kitx_str I.kIn True.intro e (fun z=>nomatch z) h
 | flt y=>obtain ⟨t,q⟩:=(show ∃ t,u=Value.float y t from rx); cases q; exact PySem.W.kia_one PySem.W.kitx_float I.kIn True.intro e (fun z=>nomatch z) h
 | @lst a xs ea =>
  cases (show u=Value.ref a from rx)
  obtain ⟨_,_,n,_,h1⟩:=(show ObjOk X.prog X.w H s.heap a (.lst xs) from I.hok a _ ea)
  exact PySem.W.kia_one PySem.W.kitx_list I.kIn ⟨_,h1,rfl⟩ e (fun z=>nomatch z) h
 | @frz a ob xs ea =>
  cases (show u=Value.ref a from rx)
  obtain ⟨_,_,_,n,_,h1⟩:=(show ObjOk X.prog X.w H s.heap a (.frz ob (.lst xs)) from I.hok a _ ea)
  exact PySem.W.kia_one PySem.W.kitx_list I.kIn ⟨_,h1,rfl⟩ e (fun z=>nomatch z) h
 | @tup a xs ea =>
  cases (show u=Value.ref a from rx)
  obtain ⟨_,_,_,p⟩:=(show ObjOk X.prog X.w H s.heap a (.tup xs) from I.hok a _ ea)
  obtain ⟨o,h1,h2,_⟩:=p
  exact PySem.W.kia_one PySem.W.kitx_tuple I.kIn ⟨o,h1,h2⟩ e (fun z=>nomatch z) h
 | @dK a kvs ea =>
  cases (show u=Value.ref a from rx)
  obtain ⟨_,_,vs,_,p⟩:=(show ObjOk X.prog X.w H s.heap a (.dK kvs) from I.hok a _ ea)
  obtain ⟨o,es,ep,h1,h2,_⟩:=p
  exact PySem.W.kia_one PySem.W.kitx_dict I.kIn ⟨o,h1,h2.1⟩ e (fun z=>nomatch z) h
 | @dT a kvs ea =>
  cases (show u=Value.ref a from rx)
  obtain ⟨_,_,xs,_,o,es,ep,h1,h2,_⟩:=(show ObjOk X.prog X.w H s.heap a (.dT kvs) from I.hok a _ ea)
  exact PySem.W.kia_one PySem.W.kitx_dict I.kIn ⟨o,h1,h2.1⟩ e (fun z=>nomatch z) h
 | @ins a C dx fs ea cl ha hn htk hm =>
  cases (show u=Value.ref a from rx)
  obtain ⟨mA,O,_⟩:=On I.hok ea
  obtain ⟨od,J,_⟩:=O.look
  exact PySem.W.kia_one (PySem.W.kitx_own (cl.get _) cl.hd ha hn htk hm) I.kIn J e (fun z=>nomatch z) h
end
structure Room (k:Nat) (A:Around):Prop where
 hd:A.handled=none
 dp:A.depth + 3 * k + 5 < recursionLimit
 un:A.units + 16 * k + 200 < cLine
theorem Room.mono {j k:Nat} {A:Around} (r:Room k A) (h:j<=k):Room j A:=⟨r.hd,by have:=r.dp; omega,by have:=r.un; omega⟩
theorem Room.deeper {k:Nat} {A:Around} (r:Room (k + 1) A) (env:Env):Room k (A.deeper env) :=
 ⟨r.hd,by have:=r.dp; show A.depth + 1 + 3 * k + 5 < _; omega,by have:=r.un; show A.units + 3 + 16 * k + 200 < _; omega⟩
theorem Room.depth {k:Nat} {A:Around} (r:Room k A):A.depth < recursionLimit:=by have:=r.dp; omega
theorem Room.units {k:Nat} {A:Around} (r:Room k A):A.units + 64 < cLine:=by have:=r.un; omega
noncomputable def HS:TA:=fun _ H Q=>Q [] H
noncomputable def C7 (ta:TE) (tr:TA):TA:=fun σ H Q=>ta σ H fun x H1=>tr σ H1 fun xs H2=>Q (x :: xs) H2
section
variable {X:Cx} {e:Expr} {es:List Expr} {te:TE} {t:TA} {pos:Pos}
theorem BQ:PA X [] HS:=fun _ _ _ _ H Q I h=>Calls.spliced_nil ⟨[],H,I,.nil,h⟩
theorem A7 (ha:PE X e te) (hr:PA X es t) (hs:starEach (e :: es) X.env=(false,eval e X.env) :: starEach es X.env:=by rfl):PA X (e :: es) (C7 te t):=by
 intro pos pins s σ H Q I h
 rw [hs]
 show wpAny _ _ (spliced ((false,eval e X.env) :: backTo pos (starEach es X.env))) _ _ s
 refine Calls.spliced_cons (thn (ha pins s σ H _ I h) fun u s1 ⟨x,H1,I1,r1,q1⟩=>?_)
 exact thn (hr pos pins s1 σ H1 _ I1 q1) fun us s2 ⟨xs,H2,I2,r2,q2⟩=>⟨x :: xs,H2,I2,.cons r1 r2,q2⟩
noncomputable def TJ (t:TA):TE:=fun σ H Q=>t σ H fun xs H1=>xs.length<=sizeLine/\∀ p,H1 p=none->Q (.ref p) (upd H1 p (.tup xs))
noncomputable def Gq (t:TA):TE:=fun σ H Q=>t σ H fun xs H1=>xs.length<=sizeLine/\∀ p,H1 p=none->Q (.ref p) (upd H1 p (.lst xs))
theorem Qz {x1} (h:PA X es t):PE X (.Tuple es x1 pos) (TJ t):=by
 intro pins s σ H Q I hq
 refine wpAny_Tuple_spliced (thn (h pos pins s σ H _ I hq) fun us s1 ⟨xs,H1,I1,r,z,q⟩=>⟨by rw [<- r.length]; exact z,?_⟩)
 have hf:H1 s1.heap.objs.size=none:=I1.hok.fresh (aaj _)
 refine ⟨.ref s1.heap.objs.size,upd H1 s1.heap.objs.size (.tup xs),I1.laid (t':=s1.toks) (fun b u e=>Heap.get?_push_of_some _ e) (aaj _) ?_,rfl,q _ hf⟩
 exact ⟨z,us,r,⟨_,Heap.get?_push_size _ rfl,rfl,_,rfl⟩⟩
theorem Le (h:PA X es t):PE X (.List es pos) (Gq t):=by
 intro pins s σ H Q I hq
 refine wpAny_List_spliced (thn (h pos pins s σ H _ I hq) fun us s1 ⟨xs,H1,I1,r,z,q⟩=>⟨by rw [<- r.length]; exact z,?_⟩)
 have hf:H1 s1.heap.objs.size=none:=I1.hok.fresh (aaj _)
 refine ⟨.ref s1.heap.objs.size,upd H1 s1.heap.objs.size (.lst xs),I1.laid (t':=s1.toks) (fun b u e=>Heap.get?_push_of_some _ e) (aaj _) ?_,rfl,q _ hf⟩
 exact ⟨z,us,0,r,Heap.get?_push_size _ rfl⟩
end
noncomputable abbrev Sp:=List V->Hp->VK->XK->Prop
noncomputable abbrev CXT:=List Env->Hp->Shared->XK->Value->Shared->Prop
structure Env0 (P:Program) (w:World) (K:PySem.W.Frag) (mg:Str->Option Value) (base:Heap) (A:Around) (outer:List Env) (s:Shared) (H:Hp):Prop where
 frames:A.frames=some outer
 mod:Mod K mg base
 bs:∀ b o,base.get? b=some o->s.heap.get? b=some o/\H b=none
 bsz:base.objs.size<=s.heap.objs.size
 funs:s.heap.FunFrames base outer
 frf:∀ b ∈ frs outer,H b=none
 hok:HOk P w H s.heap
 bare:AllBare s.gens
noncomputable def CE (outer:List Env) (P:Program) (w:World) (H:Hp) (s:Shared) (Q:VK) (u:Value) (s':Shared):Prop :=
 ∃ v H',s'.os=s.os/\AllBare s'.gens/\Un (frs outer) [] H H' s.heap s'.heap/\HOk P w H' s'.heap/\RelV v u/\Q v H'
noncomputable def CR (CX:CXT) (outer:List Env) (P:Program) (w:World) (H:Hp) (s:Shared) (Q:VK) (E:XK) (r:Result) (s':Shared):Prop :=
 match r with
 | .ok (.ret u)=>CE outer P w H s Q u s'
 | .ok _=>False
 | .error e=>CX outer H s E e s'
structure FnOk (P:Program) (w:World) (K:PySem.W.Frag) (mg:Str->Option Value) (base:Heap) (CX:CXT) (k:Nat) (f:Addr) (fd:FuncData) (ps:List Str) (sp:Sp):Prop where
 len:∀ vs H Q E,sp vs H Q E->vs.length=ps.length
 run:∀ (A:Around) (outer:List Env) (s:Shared) (H:Hp) (args:Args) (us:List Value) (vs:List V) (Q:VK) (E:XK),Room k A->Env0 P w K mg base A outer s H->BindsTo s fd args (ps.zip us)->Vals vs us->sp vs H Q E ->
  codeAny (model P w) A (.call (.ref f) args) (CR CX outer P w H s Q E) s
theorem FnOk.imp {P:Program} {w:World} {K:PySem.W.Frag} {mg:Str->Option Value} {base:Heap} {CX:CXT} {k:Nat} {f:Addr} {fd:FuncData} {ps:List Str} {sp sp':Sp} (F:FnOk P w K mg base CX k f fd ps sp)
  (h:∀ vs H Q E,sp' vs H Q E->sp vs H Q E):FnOk P w K mg base CX k f fd ps sp' :=
 ⟨fun vs H Q E q=>F.len vs H Q E (h _ _ _ _ q),fun A outer s H args us vs Q E hr he hb hv hs=>F.run A outer s H args us vs Q E hr he hb hv (h _ _ _ _ hs)⟩
section
variable {X:Cx} {pins:List (Addr × Obj)} {σ:St} {H:Hp} {s s':Shared}
theorem Inv.env0 (I:Inv X pins σ H s):Env0 X.prog X.w X.K X.mg X.base X.A X.stack s H :=
 ⟨I.ok.frames,I.ok.mod,I.bs,aao I.ok.bsz I.sz,I.stack,I.stkFree,I.hok,I.bare⟩
theorem Inv.after {Q:VK} {u:Value} (I:Inv X pins σ H s) (h:CE X.stack X.prog X.w H s Q u s'):EP X pins σ Q u s':=by
 obtain ⟨v,H',os,bare,un,hok,r,q⟩:=h
 obtain ⟨hh,g,d,t,os'⟩:=s'
 obtain rfl:os'=s.os:=os
 exact ⟨v,H',I.call (h':=hh) (g':=g) (d':=d) (t':=t) (ch:=[]) un hok bare (fun b z=>absurd z (by simp)),r,q⟩
end
noncomputable def Binds (K:PySem.W.Frag) (fd:FuncData) (ps:List Str) (ds:List Value):Prop :=
 ∀ (s:Shared) (us:List Value),K.In s.heap->(us ++ ds).length=ps.length->BindsTo s fd ⟨us,[]⟩ (ps.zip (us ++ ds))
theorem Binds.all {K:PySem.W.Frag} {fd:FuncData} {ps:List Str} (h:∀ us:List Value,us.length=ps.length->bindArgs fd ⟨us,[]⟩=pure (ps.zip us)):Binds K fd ps []:=fun s us _ hl=>by
 rw [aaP] at hl ⊢
 exact .of_eq (h us hl)
noncomputable def QA (CX:CXT) (X:Cx) (E:XK):Prop:=∀ (pins:List (Addr × Obj)) (σ:St) (H:Hp) (s:Shared) (e:Value) (s':Shared),Inv X pins σ H s->CX X.stack H s E e s'->X.xe e s'
structure FnScope (N P:List Str) (sc:Scope):Prop where
 kind:sc.kind=.function
 co:sc.isCoroutine=false
 gen:sc.isGenerator=false
 nd:N.Nodup
 pre:N.take P.length=P
 par:∀ x ∈ P,sc.names.lookup x=some .local\/sc.names.lookup x=some .cell
 nofree:∀ y ∈ sc.names,y.2 ≠ .free
theorem GT {kindOf:Str->Option NameKind} {x:Str}:∀ {binds:List (Str × Value)} {m:Str->Option Value},(∀ v,(x,v) ∉ binds)->bindL kindOf binds m x=m x
 | [],_,_=>rfl
 | (n,v) :: r,m,h=>by
  unfold bindL
  rw [GT fun w hw=>h w (aaa _ hw)]
  split
  ·have:x ≠ n:=by rintro rfl; exact h v aab
   simp [this]
  ·rfl
theorem GU {kindOf:Str->Option NameKind} {x:Str}:∀ {binds:List (Str × Value)} {m:Str->Option Value},(∀ v,(x,v) ∉ binds)->bindC kindOf binds m x=m x
 | [],_,_=>rfl
 | (n,v) :: r,m,h=>by
  unfold bindC
  rw [GU fun w hw=>h w (aaa _ hw)]
  split
  ·rfl
  ·have:x ≠ n:=by rintro rfl; exact h v aab
   simp [this]
theorem GV {kindOf:Str->Option NameKind} {x:Str} {v:Value}:∀ {P:List Str} {vs:List Value} {i:Nat} {m:Str->Option Value},P.Nodup->P[i]?=some x->vs[i]?=some v->kindOf x=some .local ->
  bindL kindOf (P.zip vs) m x=some v
 | [],_,_,_,_,h,_,_=>by simp at h
 | _ :: _,[],_,_,_,_,h,_=>by simp at h
 | p :: P,w :: vs,0,m,nd,h1,h2,hk=>by
  simp at h1 h2; subst h1; subst h2
  show bindL kindOf ((p,w) :: P.zip vs) m p=_
  unfold bindL
  rw [GT fun v hv=>(aaF.mp nd).1 (ab1 hv).1,if_pos hk]
  simp
 | p :: P,w :: vs,i + 1,m,nd,h1,h2,hk=>by
  show bindL kindOf ((p,w) :: P.zip vs) m x=_
  unfold bindL
  exact GV (i:=i) (aaF.mp nd).2 (by simpa using h1) (by simpa using h2) hk
theorem GW {kindOf:Str->Option NameKind} {x:Str} {v:Value}:∀ {P:List Str} {vs:List Value} {i:Nat} {m:Str->Option Value},P.Nodup->P[i]?=some x->vs[i]?=some v->kindOf x ≠ some .local ->
  bindC kindOf (P.zip vs) m x=some v
 | [],_,_,_,_,h,_,_=>by simp at h
 | _ :: _,[],_,_,_,_,h,_=>by simp at h
 | p :: P,w :: vs,0,m,nd,h1,h2,hk=>by
  simp at h1 h2; subst h1; subst h2
  show bindC kindOf ((p,w) :: P.zip vs) m p=_
  unfold bindC
  rw [GU fun v hv=>(aaF.mp nd).1 (ab1 hv).1,if_neg hk]
  simp
 | p :: P,w :: vs,i + 1,m,nd,h1,h2,hk=>by
  show bindC kindOf ((p,w) :: P.zip vs) m x=_
  unfold bindC
  exact GW (i:=i) (aaF.mp nd).2 (by simpa using h1) (by simpa using h2) hk
noncomputable def Au (N:List Str) (vs:List V):St:=vs.map some ++ aaf (N.length - vs.length) none
noncomputable def AM (CX:CXT) (P:Program) (w:World) (K:PySem.W.Frag) (mg:Str->Option Value) (base:Heap) (N:List Str) (qual:Str) (scope:Scope) (f:Addr) (cd:Value) (A:Around) (outer:List Env) (s:Shared) (H:Hp) (E:XK):Cx where
 prog:=P
 w:=w
 K:=K
 mg:=mg
 base:=base
 A:=A.deeper (envOfC qual scope s.heap.objs.size f cd)
 N:=N
 s₀:=s
 H₀:=H
 env:=envOfC qual scope s.heap.objs.size f cd
 outer:=outer
 stack:=envOfC qual scope s.heap.objs.size f cd :: outer
 ex:=[]
 calm:=true
 fn:=fun _=>true
 pn:=[]
 xe:=fun e s'=>wpAny (model P w) (A.deeper (envOfC qual scope s.heap.objs.size f cd)) (leaving (envOfC qual scope s.heap.objs.size f cd) e) (fun _ s''=>CX outer H s E e s'') (fun e' s''=>CX outer H s E e' s'') s'
theorem HU {sc:Scope} {n:Nat} {x:Str} (h:sc.names.lookup x=some .cell):∃ c,(cellsFrom n sc.names []).lookup x=some c:=by
 have q:=PySem.W.cellsFrom_some sc.names n [] (.inl h)
 exact aaB.mp q
theorem Lf {CX:CXT} {P:Program} {w:World} {K:PySem.W.Frag} {mg:Str->Option Value} {base:Heap} {N ps:List Str} {qual:Str} {scope:Scope} {f:Addr} {cd:Value} {A:Around} {outer:List Env} {s s1:Shared} {H:Hp} {E:XK} {us:List Value} {vs:List V}
  (S:FnScope N ps scope) (hd:A.handled=none) (e0:Env0 P w K mg base A outer s H) (hl:vs.length=ps.length) (r:Vals vs us)
  (x:InCallC s s.heap.objs.size (bindL (envOfC qual scope s.heap.objs.size f cd).kindOf (ps.zip us) fun _=>none) (cellsFrom (s.heap.objs.size + 1) scope.names []) (bindC (envOfC qual scope s.heap.objs.size f cd).kindOf (ps.zip us) fun _=>none) s1) :
  Inv (AM CX P w K mg base N qual scope f cd A outer s H E) [] (Au N vs) H s1:=by
 have hpl:ps.length<=N.length:=by have:=congrArg aaM S.pre; rw [aaQ] at this; omega
 obtain ⟨h1,tk,rfl,hk⟩:=x.done
 have noA:∀ b:Addr,b ∉ (AM CX P w K mg base N qual scope f cd A outer s H E).ex:=fun b z=>absurd (show b ∈ ([]:List Addr) from z) (by simp)
 refine ⟨⟨e0.mod,S.kind,rfl,rfl,aaj _,fun y z c h1 h2=>?_,fun y hy=>?_,fun y c _ h=>?_,fun _=>hd,Around.frames_deeper e0.frames,.inr ⟨rfl,rfl⟩,fun b z=>absurd z (noA b),e0.bs,e0.bsz,fun b _ _=>noA b,fun b z=>absurd z (noA b),e0.funs,e0.frf⟩,
  rfl,e0.bare,Un.kept hk,⟨_,x.toInCall.ns,fun i y v h1 h2 h3=>?_⟩,fun y c h=>⟨_,x.cell y c h⟩,e0.hok.fresh (aaj _),fun y c h=>?_,fun p hp=>absurd (show p ∈ ([]:List (Addr × Obj)) from hp) (by simp),e0.hok.kept hk,?_⟩
 ·exact name_of_addr x.apart (PySem.mem_of_lookup h1) (PySem.mem_of_lookup h2)
 ·have hy:scope.names.lookup y=some .cell\/scope.names.lookup y=some .free:=hy
  rcases hy with hy | hy
  ·exact HU hy
  ·exact absurd rfl (S.nofree _ (PySem.mem_of_lookup hy))
 ·exact aci (x.above y c (PySem.mem_of_lookup h))
 ·have hi:i < vs.length:=by
   unfold Au at h2
   by_cases hi:i < vs.length
   ·exact hi
   ·rw [aaI (by simpa using hi)] at h2
    rw [aaO] at h2
    split at h2 <;> cases h2
  have ha:vs[i]?=some v:=by
   unfold Au at h2
   rw [aaK (by simpa using hi),aau] at h2
   cases e:vs[i]? with
   | none=>rw [e] at h2; cases h2
   | some a=>rw [e] at h2; cases h2; rfl
  obtain ⟨u,hu,rv⟩:=r.get ha
  have hp:ps[i]?=some y:=by
   rw [<- S.pre,List.getElem?_take_of_lt (by omega)]; exact h1
  have ndP:ps.Nodup:=by rw [<- S.pre]; exact S.nd.sublist (List.take_sublist _ _)
  refine ⟨u,rv,?_⟩
  rcases S.par y (aai hp) with k | k
  ·exact .inl ⟨k,GV ndP hp hu k⟩
  ·obtain ⟨c,e⟩:=HU (n:=s.heap.objs.size + 1) k
   refine .inr ⟨.inl k,c,e,?_⟩
   have q:=x.cell y c e
   rw [GW ndP hp hu (by show scope.names.lookup y ≠ _; rw [k]; decide)] at q
   exact q
 ·exact e0.hok.fresh (aci (x.above y c (PySem.mem_of_lookup h)))
 ·unfold Au
  show _=N.length
  rw [aal,aae,aaW]
  omega
theorem Sr {CX:CXT} {P:Program} {w:World} {K:PySem.W.Frag} {mg:Str->Option Value} {base:Heap} {k:Nat} {f:Addr} {name qual:Str} {params:Arguments} {body:List Stmt} {scope:Scope} {dV kV doc pm cdv ct oc:Value} {an od:Option Addr}
  {osl:Array (Option Value)} {N ps:List Str} {sp:Sp} (lk:K.lookup f=some ⟨oc,od,.func (PySem.W.fnOf name qual params body scope dV kV doc pm an cdv ct),osl⟩) (hcd:PySem.W.codeIn K cdv qual=true) (S:FnScope N ps scope)
  (len:∀ vs H Q E,sp vs H Q E->vs.length=ps.length)
  (hbody:∀ (A:Around) (outer:List Env) (s:Shared) (H:Hp) (vs:List V) (Q:VK) (E:XK),Room k (A.deeper (envOfC qual scope s.heap.objs.size f cdv))->sp vs H Q E ->
   ∃ t,PSs (AM CX P w K mg base N qual scope f cdv A outer s H E) body t/\t { nx:=fun _ H'=>Q .non H',rt:=Q } (Au N vs) H) :
  FnOk P w K mg base CX (k + 1) f (PySem.W.fnOf name qual params body scope dV kV doc pm an cdv ct) ps sp:=by
 refine ⟨len,fun A outer s H args us vs Q E hr e0 hb r hsp=>?_⟩
 have hl:=len _ _ _ _ hsp
 have KX:K.In s.heap:=e0.mod.kin.keeps fun b o e=>(e0.bs b o e).1
 have lim:s.heap.NoLimit:=e0.mod.nolimit.keeps fun b o e=>(e0.bs b o e).1
 have hkind:∀ y ∈ ps.zip us,scope.names.lookup y.1=some .local\/(scope.names.lookup y.1=some .cell/\((cellsFrom (s.heap.objs.size + 1) scope.names []).lookup y.1).isSome=true):=fun ⟨n,v⟩ hy=>by
  rcases S.par n (ab1 hy).1 with q | q
  ·exact .inl q
  ·exact .inr ⟨q,PySem.W.cellsFrom_some _ _ _ (.inl q)⟩
 refine codeAny_call_function hr.depth (KX _ _ lk) rfl S.co S.gen rfl (PySem.W.codeRec_of KX hcd) (hb _ _ _ _ ?_)
 refine wpAny_newFunctionEnv_cells S.kind hkind fun env he s1 x=>?_
 subst he
 refine ⟨lim.keeps x.toInCall.keep,codeAny_func ?_⟩
 obtain ⟨t,ht,hq⟩:=hbody A outer s H vs Q E (hr.deeper _) hsp
 have I:Inv (AM CX P w K mg base N qual scope f cdv A outer s H E) [] (Au N vs) H s1:=Lf S hr.hd e0 hl r x
 refine wpAny_mono (ht [] s1 (Au N vs) H _ I hq) (fun fl s' hs=>?_) fun e s' hs=>hs
 have fin:∀ {σ':St} {H':Hp} {v:V} {u:Value},Inv (AM CX P w K mg base N qual scope f cdv A outer s H E) [] σ' H' s'->RelV v u->Q v H'->CE outer P w H s Q u s' :=
  fun {σ' H' v u} J rv q=>⟨v,H',J.os,J.bare,J.base,J.hok,rv,q⟩
 cases fl with
 | ret u =>
  obtain ⟨v,σ',H',J,rv,q⟩:=hs
  exact fin J rv q
 | next =>
  obtain ⟨σ',H',J,q⟩:=hs
  exact fin (v:=V.non) (u:=Value.none) J rfl q
 | brk =>
  obtain ⟨_,_,_,q⟩:=hs
  exact False.elim q
 | cont =>
  obtain ⟨_,_,_,q⟩:=hs
  exact False.elim q
section
variable {X:Cx} {x:Str} {p pos:Pos} {e:Expr} {es:List Expr} {t:TA} {id T:String} {r:List V->Hp->VK->Prop}
noncomputable def tCB (r:List V->Hp->VK->Prop) (t:TA):TE:=fun σ H Q=>t σ H fun vs H1=>r vs H1 Q
theorem Ek (hc:CI X (.builtin id) r) (hg:Gl X x) (hm:X.mg x=none) (hv:bootBuiltins x=some (.builtin id)) (ha:PA X (e :: es) t) (hn:x ≠ "__name__" := by decide) (hdb:(x==("__debug__" : Str))=false:=by decide)
  (he:starEach (e :: es) X.env=(false,eval e X.env) :: starEach es X.env:=by rfl) (hpl:(backTo pos (starEach es X.env)).any (·.1)=false:=by rfl):PE X (.Call (.Name x p) (e :: es) [] pos) (tCB r t):=by
 intro pins s σ H Q I h
 refine wpAny_Call_Name_kw (FY I hg hm hv ?_ hn hdb)
 exact PyProof.Rows.callWith_builtin1 (thn (ha pos pins s σ H _ I h) fun us s1 ⟨vs,H1,I1,r1,q1⟩=>hc pins s1 σ H1 vs us Q I1 r1 q1) he hpl
theorem DG (hc:CI X (.type T) r) (hg:Gl X x) (hm:X.mg x=none) (hv:bootBuiltins x=some (.type T)) (ha:PA X (e :: es) t) (hn:x ≠ "__name__" := by decide) (hdb:(x==("__debug__" : Str))=false:=by decide)
  (he:starEach (e :: es) X.env=(false,eval e X.env) :: starEach es X.env:=by rfl) (hpl:(backTo pos (starEach es X.env)).any (·.1)=false:=by rfl):PE X (.Call (.Name x p) (e :: es) [] pos) (tCB r t):=by
 intro pins s σ H Q I h
 refine wpAny_Call_Name_kw (FY I hg hm hv ?_ hn hdb)
 exact PyProof.Rows.callWith_type1 (thn (ha pos pins s σ H _ I h) fun us s1 ⟨vs,H1,I1,r1,q1⟩=>hc pins s1 σ H1 vs us Q I1 r1 q1) he hpl
end
end L2
namespace HT
open PySem PyProof.Rows
section
variable {prog:Program} {w:World} {A:Around} {E:Value->Shared->Prop} {s:Shared}
noncomputable def sIx (n d:Nat):Option Int->Nat
 | none=>d
 | some v=>if v < 0 then (v + (n:Int)).toNat else min v.toNat n
theorem sIx_le (n d:Nat) (hd:d<=n) (o:Option Int):sIx n d o<=n:=by
 cases o with
 | none=>exact hd
 | some v =>
  show (if v < 0 then (v + (n:Int)).toNat else min v.toNat n)<=n
  by_cases hv:v < 0
  ·rw [if_pos hv]; omega
  ·rw [if_neg hv]; exact aaR _ _
theorem clip_eq (v:Int) (n d:Nat):(if v < 0 then max (v + (n:Int)) 0 else min v (n:Int))=((sIx n d (some v):Nat):Int):=by
 show (if v < 0 then max (v + (n:Int)) 0 else min v (n:Int))=(((if v < 0 then (v + (n:Int)).toNat else min v.toNat n):Nat):Int)
 by_cases hv:v < 0
 ·simp only [if_pos hv]; omega
 ·simp only [if_neg hv]; omega
theorem Ka (lo hi:Option Int) (n:Nat):Builtin.Slice.sliceAdjust lo hi 1 (n:Int)=(((sIx n 0 lo:Nat):Int),((sIx n n hi:Nat):Int)):=by
 have h1:¬ ((1:Int) < 0):=by omega
 unfold Builtin.Slice.sliceAdjust
 simp only [h1,if_false]
 refine Prod.ext ?_ ?_
 ·cases lo with
  | none=>rfl
  | some v=>exact clip_eq v n 0
 ·cases hi with
  | none=>rfl
  | some v=>exact clip_eq v n n
theorem Kb (i j:Nat):Builtin.Slice.slicePlaces (i:Int) (j:Int) 1=j - i:=by
 unfold Builtin.Slice.slicePlaces
 have h1:(1:Int) > 0:=by omega
 simp only [h1,if_true,Int.ediv_one]
 split <;> omega
theorem F1 {v:Value} {o:Option Int} {Q:Option Int->Shared->Prop} (p:IsPart v o) (h:Q o s):wpAny (model prog w) A (Builtin.Slice.slicePartIndex v) Q E s:=by
 cases p with
 | none=>exact slicePart_none h
 | int i t=>exact slicePart_int h
theorem FE {sl:Addr} {vl vu:Value} {lo hi:Option Int} {n:Nat} {Q:Int × Int × Nat->Shared->Prop} (hs:s.heap.IsSliceOf sl vl vu .none) (pl:IsPart vl lo) (pu:IsPart vu hi)
  (h:Q (((sIx n 0 lo:Nat):Int),1,sIx n n hi - sIx n 0 lo) s):wpAny (model prog w) A (Builtin.Slice.sliceApplied (.ref sl) (pure (n:Int))) Q E s:=by
 obtain ⟨os,hos,hcs,hds⟩:=id hs
 unfold Builtin.Slice.sliceApplied Builtin.Slice.sliceFields
 refine wpAny_bind (wpAny_bind (wpAny_field hos hds (x:=vl) rfl (wpAny_bind (wpAny_field hos hds (x:=vu) rfl (wpAny_bind (wpAny_field hos hds (x:=.none) rfl (wpAny_pure ?_)))))))
 refine wpAny_bind (slicePart_none ?_)
 show wpAny _ _ (if ((1:Int)==0)=true then _ else _) _ _ s
 rw [if_neg (by decide)]
 refine wpAny_bind (F1 pl (wpAny_bind (F1 pu (wpAny_bind (wpAny_pure ?_)))))
 show wpAny _ _ (match Builtin.Slice.sliceAdjust lo hi 1 (n:Int) with | (lo,hi)=>pure (lo,(1:Int),Builtin.Slice.slicePlaces lo hi 1)) _ _ s
 rw [Ka lo hi n]
 show wpAny _ _ (pure (((sIx n 0 lo:Nat):Int),(1:Int),Builtin.Slice.slicePlaces ((sIx n 0 lo:Nat):Int) ((sIx n n hi:Nat):Int) 1)) _ _ s
 rw [Kb]
 exact wpAny_pure h
theorem ME (xs:Array Value) (i k:Nat):((abg k).filterMap fun (m:Nat)=>xs[((i:Int) + (m:Int) * 1).toNat]?).toArray=((xs.toList.drop i).take k).toArray:=by
 have e:(fun (m:Nat)=>xs[((i:Int) + (m:Int) * 1).toNat]?)=fun m=>xs[i + m]?:=by
  funext m
  have:((i:Int) + (m:Int) * 1).toNat=i + m:=by omega
  rw [this]
 rw [e]
 have:=pick_run xs i k
 rw [List.filterMap_map] at this
 have e2:((fun x=>xs[x]?) ∘ fun x=>i + x)=fun m=>xs[i + m]?:=rfl
 rw [e2] at this
 rw [this]
theorem getItem_tuple_cut {t sl:Addr} {items:Array Value} {vl vu:Value} {lo hi:Option Int} {Q:Value->Shared->Prop} (ht:IsTup s.heap t items) (hs:s.heap.IsSliceOf sl vl vu .none) (pl:IsPart vl lo) (pu:IsPart vu hi)
  (hw:¬ (sIx items.size 0 lo=0/\sIx items.size items.size hi=items.size))
  (h:Q (.ref s.heap.objs.size) { s with heap:=s.heap.push { cls:=.type "tuple",data:=.seq ((items.toList.drop (sIx items.size 0 lo)).take (sIx items.size items.size hi - sIx items.size 0 lo)).toArray } })
  (hsz:items.size<=sizeLine):wpAny (model prog w) A (getItem (.ref t) (.ref sl)) Q E s:=by
 have htake:sizeOk (.seq ((items.toList.drop (sIx items.size 0 lo)).take (sIx items.size items.size hi - sIx items.size 0 lo)).toArray):=by
  show ((items.toList.drop (sIx items.size 0 lo)).take (sIx items.size items.size hi - sIx items.size 0 lo)).toArray.size<=sizeLine
  rw [aap,aaQ,aaN,Array.length_toList]
  omega
 have hj:sIx items.size items.size hi<=items.size:=sIx_le _ _ (aaj _) hi
 obtain ⟨os,hos,hcs,hds⟩:=id hs
 have hTs:s.TypeIs (.ref sl) "slice" := ⟨os,hos,hcs⟩
 unfold getItem
 try with_reducible refine wpAny_holding ?_
 first | refine wpAny_bind (wpAny_pure ?_) | skip
 refine wpAny_bind (wpAny_sequenceKey ht.typeIs (by decide) ?_)
 refine wpAny_bind (wpAny_callSpecial?_slot (name:=Str.ofString "__getitem__") ht.typeIs PyProof.Rows.slot_tuple_getitem
  (wpAny_call_entry PyProof.Rows.slot_tuple_getitem ht.typeIs entry_tuple_getitem ?_ (args_tuple_getitem _ _)))
 show wpAny _ _ (Builtin.Tuple.tupleItemsOf (.ref t) >>= _) _ _ s
 refine wpAny_bind (tupleItemsOf_ ht ?_)
 refine wpAny_bind (wpAny_typeOf hTs ?_)
 rw [if_pos (by decide)]
 refine wpAny_bind (FE hs pl pu ?_)
 have hno:¬ ((((sIx items.size 0 lo:Nat):Int)==0 && (1:Int)==1 && (sIx items.size items.size hi - sIx items.size 0 lo)==items.size)=true):=by
  intro q
  rw [aak,aak] at q
  have q1:((sIx items.size 0 lo:Nat):Int)=0:=eq_of_beq q.1.1
  have q2:sIx items.size items.size hi - sIx items.size 0 lo=items.size:=eq_of_beq q.2
  exact hw ⟨by omega,by omega⟩
 show wpAny _ _ (if (((sIx items.size 0 lo:Nat):Int)==0 && (1:Int)==1 && (sIx items.size items.size hi - sIx items.size 0 lo)==items.size)=true then _ else _) _ _ s
 rw [if_neg hno,ME]
 first
  | exact wpAny_bind (m:=Builtin.Tuple.tupleExact _) (wpAny_newObj_type (wpAny_pure ⟨_,rfl,wpAny_pure h⟩) htake)
  | exact wpAny_bind (m:=Builtin.Tuple.tupleExact _) (wpAny_newObj_type (wpAny_bind (wpAny_pure (wpAny_pure ⟨_,rfl,wpAny_pure h⟩))) htake)
  | exact wpAny_bind (wpAny_bind (m:=Builtin.Tuple.tupleExact _) (wpAny_newObj_type (wpAny_pure (wpAny_pure ⟨_,rfl,wpAny_pure h⟩)) htake))
  | exact wpAny_bind (wpAny_bind (m:=Builtin.Tuple.tupleExact _) (wpAny_newObj_type (wpAny_pure ⟨_,rfl,wpAny_pure h⟩) htake))
end
end HT
namespace L2
open PySem PySem.Spec PyProof.Rows
noncomputable abbrev TO:=St->Hp->(Option Int->Hp->Prop)->Prop
noncomputable def PO (X:Cx) (e:Option Expr) (t:TO):Prop :=
 ∀ (pins:List (Addr × Obj)) (s:Shared) (σ:St) (H:Hp) (Q:Option Int->Hp->Prop),Inv X pins σ H s->t σ H Q ->
  wpAny (model X.prog X.w) X.A (evalPart e X.env) (fun u s'=>∃ o H',Inv X pins σ H' s'/\IsPart u o/\Q o H') X.xe s
noncomputable def Oo:TO:=fun _ H Q=>Q none H
noncomputable def Su (t:TE):TO:=fun σ H Q=>t σ H fun x H1=>∃ i,x=.int i/\Q (some i) H1
section
variable {X:Cx} {e:Expr} {te:TE} {lo hi:Option Expr} {tl th:TO} {pos p2:Pos}
theorem Op:PO X none Oo:=by
 intro pins s σ H Q I h
 rw [evalPart_none]
 exact wpAny_pure ⟨none,H,I,.none,h⟩
theorem Oq (h:PE X e te):PO X (some e) (Su te):=by
 intro pins s σ H Q I hw
 rw [evalPart_some]
 refine thn (h pins s σ H _ I hw) fun u s1 ⟨x,H1,I1,r1,q1⟩=>?_
 obtain ⟨i,rfl,q⟩:=q1
 obtain ⟨t,rfl⟩:=r1
 exact ⟨some i,H1,I1,.int i t,q⟩
noncomputable def SlR (X:Cx) (r:V->Option Int->Option Int->Hp->VK->Prop):Prop :=
 ∀ (pins:List (Addr × Obj)) (s:Shared) (σ:St) (H:Hp) (x:V) (v vl vu:Value) (lo hi:Option Int) (sl:Addr) (Q:VK),Inv X pins σ H s->RelV x v->s.heap.IsSliceOf sl vl vu .none->IsPart vl lo->IsPart vu hi->r x lo hi H Q ->
  ∃ T id,typeLookup (.type T) "__getitem__" = pure (some (.builtin id))/\s.TypeIs v T/\wpAny (model X.prog X.w) X.A (getItem v (.ref sl)) (EP X pins σ Q) X.xe s
theorem SlR.or {r r':V->Option Int->Option Int->Hp->VK->Prop} (h:SlR X r) (h':SlR X r'):SlR X (fun x lo hi H Q=>r x lo hi H Q\/r' x lo hi H Q):=by
 intro pins s σ H x v vl vu lo hi sl Q I rx hs pl pu q
 rcases q with q | q
 ·exact h pins s σ H x v vl vu lo hi sl Q I rx hs pl pu q
 ·exact h' pins s σ H x v vl vu lo hi sl Q I rx hs pl pu q
noncomputable def tSl (r:V->Option Int->Option Int->Hp->VK->Prop) (te:TE) (tl th:TO):TE:=fun σ H Q=>te σ H fun x H1=>tl σ H1 fun l H2=>th σ H2 fun u H3=>r x l u H3 Q
theorem HV {r:V->Option Int->Option Int->Hp->VK->Prop} (hr:SlR X r) (he:PE X e te) (hl:PO X lo tl) (hu:PO X hi th):PE X (.Subscript e (.Slice lo hi none p2) pos) (tSl r te tl th):=by
 intro pins s σ H Q I h
 refine Subscript_ (thn (he pins s σ H _ I h) fun v s1 ⟨x,H1,I1,r1,q1⟩=>?_)
 refine wpAny_Slice (thn (hl pins s1 σ H1 _ I1 q1) fun vl s2 ⟨l,H2,I2,pl,q2⟩=>thn (hu pins s2 σ H2 _ I2 q2) fun vu s3 ⟨u,H3,I3,pu,q3⟩=>?_)
 rw [evalPart_none]
 refine wpAny_pure ?_
 have I4:Inv X pins σ H3 { s3 with heap:=s3.heap.push { cls:=.type "slice",data:=.fields #[vl,vu,.none] } }:=I3.kept (t':=s3.toks) fun b ob q=>Heap.get?_push_of_some _ q
 obtain ⟨T,id,hT,ht,hg⟩:=hr pins { s3 with heap:=s3.heap.push { cls:=.type "slice",data:=.fields #[vl,vu,.none] } } σ H3 x v vl vu l u s3.heap.objs.size Q I4 r1 (Heap.IsSliceOf.new ..) pl pu q3
 show wpAny (model X.prog X.w) X.A (subscriptTail e (.Slice lo hi none p2) v (.ref s3.heap.objs.size)) (EP X pins σ Q) X.xe { s3 with heap:=s3.heap.push { cls:=.type "slice",data:=.fields #[vl,vu,.none] } }
 exact tail_any (ops:=[.ref s3.heap.objs.size,v]) ht hT hg (by with_unfolding_all rfl)
noncomputable def EF (xs:List V) (lo hi:Option Int):List V:=(xs.drop (HT.sIx xs.length 0 lo)).take (HT.sIx xs.length xs.length hi - HT.sIx xs.length 0 lo)
theorem FA (xs:List V) (lo hi:Option Int):(EF xs lo hi).length<=xs.length:=by
 unfold EF
 rw [aaQ,aaN]
 omega
noncomputable def TK (K:PySem.W.Frag):V->Option Int->Option Int->Hp->VK->Prop:=fun x lo hi H Q=>∃ a xs,x=.ref a/\SqT K H a xs /\
 ¬ (HT.sIx xs.length 0 lo=0/\HT.sIx xs.length xs.length hi=xs.length)/\∀ p,H p=none->Q (.ref p) (upd H p (.tup (EF xs lo hi)))
theorem QB:SlR X (TK X.K):=by
 intro pins s σ H x v vl vu lo hi sl Q I rx hs pl pu h
 obtain ⟨a,xs,rfl,hx,hw,q⟩:=h
 cases rx
 obtain ⟨its,r,ht,hz⟩:=I.tuple hx
 have hlen:its.toArray.size=xs.length:=by rw [aap]; exact r.length.symm
 refine ⟨"tuple",_,PyProof.Rows.slot_tuple_getitem.lookup,ht.typeIs,?_⟩
 refine HT.getItem_tuple_cut ht hs pl pu (by rw [hlen]; exact hw) ?_ (by rw [hlen]; exact hz)
 rw [hlen]
 refine ⟨.ref s.heap.objs.size,_,I.laid (t':=s.toks) (o:=.tup (EF xs lo hi)) (fun b ob q=>Heap.get?_push_of_some _ q) (aaj _) ?_,rfl,q _ (I.hok.fresh (aaj _))⟩
 exact ⟨aao (FA xs lo hi) hz,_,(r.drop (HT.sIx xs.length 0 lo)).take (HT.sIx xs.length xs.length hi - HT.sIx xs.length 0 lo),IsTup.new _ _⟩
end
noncomputable def ixN (n:Nat) (i:Int):Option Nat:=if 0<=i then (if i < n then some i.toNat else none) else if -(n:Int)<=i then some (i + n).toNat else none
noncomputable def atI {α:Type} (xs:List α) (i:Int):Option α:=(ixN xs.length i).bind fun j=>xs[j]?
theorem Jy {n:Nat} {i:Int} {j:Nat} (h:ixN n i=some j):seqIndex? i n=some j/\j < n/\-(n:Int)<=i/\i < n:=by
 unfold ixN at h
 by_cases h0:0<=i
 ·rw [if_pos h0] at h
  by_cases h1:i < n
  ·rw [if_pos h1] at h
   have e:i.toNat=j:=Option.some.inj h
   exact ⟨by rw [seqIndex_of h0 h1,e],by omega,by omega,h1⟩
  ·rw [if_neg h1] at h; cases h
 ·rw [if_neg h0] at h
  by_cases h1:-(n:Int)<=i
  ·rw [if_pos h1] at h
   have e:(i + n).toNat=j:=Option.some.inj h
   exact ⟨by rw [seqIndex_neg (by omega) h1,e],by omega,h1,by omega⟩
  ·rw [if_neg h1] at h; cases h
theorem Gr {α:Type} {xs:List α} {i:Int} {v:α} (h:atI xs i=some v):∃ j,seqIndex? i xs.length=some j/\xs[j]?=some v/\j < xs.length/\-(xs.length:Int)<=i/\i < xs.length:=by
 unfold atI at h
 cases e:ixN xs.length i with
 | none=>rw [e] at h; cases h
 | some j =>
  rw [e] at h
  obtain ⟨h1,h2,h3,h4⟩:=Jy e
  exact ⟨j,h1,h,h2,h3,h4⟩
noncomputable def Gs (b:Expr):Prop:=∀ o i,subscripted b false o i=operate [o,i] (getItem o i)
noncomputable def IxR (X:Cx) (r:R2):Prop :=
 ∀ (value slice:Expr) (pins:List (Addr × Obj)) (s:Shared) (σ:St) (H:Hp) (x y:V) (v u:Value) (Q:VK),Inv X pins σ H s->RelV x v->RelV y u->r x y H Q ->
  subscripted slice false v u=operate [v,u] (getItem v u)->wpAny (model X.prog X.w) X.A (subscriptTail value slice v u) (EP X pins σ Q) X.xe s
noncomputable def MtR (X:Cx) (id:String) (r:V->List V->Hp->VK->Prop):Prop :=
 ∀ (pins:List (Addr × Obj)) (s:Shared) (σ:St) (H:Hp) (x:V) (xs:List V) (v:Value) (us:List Value) (Q:VK),Inv X pins σ H s->RelV x v->Vals xs us->r x xs H Q ->
  wpAny (model X.prog X.w) X.A (call (.builtin id) (v :: us)) (EP X pins σ Q) X.xe s
section
variable {X:Cx} {a b:Expr} {ta tb:TE} {pos:Pos}
theorem IxR.or {r r':R2} (h:IxR X r) (h':IxR X r'):IxR X (fun x y H Q=>r x y H Q\/r' x y H Q):=by
 intro value slice pins s σ H x y v u Q I rx ry q hs
 rcases q with q | q
 ·exact h value slice pins s σ H x y v u Q I rx ry q hs
 ·exact h' value slice pins s σ H x y v u Q I rx ry q hs
theorem Hl {r:R2} (hr:IxR X r) (ha:PE X a ta) (hb:PE X b tb) (hs:Gs b):PE X (.Subscript a b pos) (tOp r ta tb):=by
 intro pins s σ H Q I h
 exact Subscript_ (Mz ha hb I h fun v u s2 x y H2 I2 rx ry q=>hr a b pins s2 σ H2 x y v u Q I2 rx ry q (hs _ _))
noncomputable def Ke (K:PySem.W.Frag):R2:=fun x y H Q=>∃ p xs i v,x=.ref p/\y=.int i/\SqL K H p xs/\atI xs i=some v/\Q v H
noncomputable def QC (K:PySem.W.Frag):R2:=fun x y H Q=>∃ p xs i v,x=.ref p/\y=.int i/\SqT K H p xs/\atI xs i=some v/\Q v H
noncomputable def TL:R2:=fun x y H Q=>∃ z i c,x=.str z/\y=.int i/\z.length<=sizeLine/\atI z.cps.toList i=some c/\Q (.str ⟨#[c]⟩) H
theorem Fc:IxR X (Ke X.K):=by
 intro value slice pins s σ H x y v u Q I rx ry h hs
 obtain ⟨p,xs,i,z,rfl,rfl,hq,he,q⟩:=h
 cases rx
 obtain ⟨t,rfl⟩:=ry
 obtain ⟨its,r,pl,hz⟩:=I.list hq
 obtain ⟨j,h1,h2,h3,h4,h5⟩:=Gr he
 obtain ⟨w,ew,rw'⟩:=r.get h2
 have hl:=r.length
 have hn:=D4
 have fin:EP X pins σ Q w s:=⟨z,H,I,rw',q⟩
 by_cases h0:0<=i
 ·have hj:i.toNat=j:=by
   rw [seqIndex_of h0 h5] at h1
   exact Option.some.inj h1
  exact item_listR pl.isList h0 (by omega) (by rw [hj]; simpa using ew) fin hs
 ·have hj:(i + (its.toArray.size:Int)).toNat=j:=by
   rw [seqIndex_neg (by omega) h4] at h1
   rw [aap,<- hl]
   exact Option.some.inj h1
  exact subscriptTail_builtinR (x:=w) pl.isList.typeIs slot_list_getitem.lookup
   (wpAny_getItem_list_neg (Q:=fun r s'=>r=w/\EP X pins σ Q r s') pl.isList (by omega) (by rw [aap] <;> omega) (by omega) (by rw [hj]; simpa using ew) ⟨rfl,fin⟩) hs
theorem Lh:IxR X (QC X.K):=by
 intro value slice pins s σ H x y v u Q I rx ry h hs
 obtain ⟨p,xs,i,z,rfl,rfl,hq,he,q⟩:=h
 cases rx
 obtain ⟨t,rfl⟩:=ry
 obtain ⟨its,r,pl,hz⟩:=I.tuple hq
 obtain ⟨j,h1,h2,h3,h4,h5⟩:=Gr he
 obtain ⟨w,ew,rw'⟩:=r.get h2
 have hl:=r.length
 have hn:=D4
 have fin:EP X pins σ Q w s:=⟨z,H,I,rw',q⟩
 exact subscriptTail_builtinR (x:=w) pl.typeIs slot_tuple_getitem.lookup
  (getItem_tuple (j:=j) (Q:=fun r s'=>r=w/\EP X pins σ Q r s') pl (by omega) (by omega) (by rw [aap,<- hl]; exact h1) (by simpa using ew) ⟨rfl,fin⟩) hs
theorem QD:IxR X TL:=by
 intro value slice pins s σ H x y v u Q I rx ry h hs
 obtain ⟨z,i,c,rfl,rfl,hz,he,q⟩:=h
 obtain ⟨t,rfl⟩:=rx
 obtain ⟨t',rfl⟩:=ry
 obtain ⟨j,h1,h2,h3,h4,h5⟩:=Gr he
 have hl:z.cps.toList.length=z.length:=by simp [Str.length]
 rw [hl] at h1 h4 h5
 have hn:=D4
 exact tail_any (typeIs_str s z t) slot_str_getitem.lookup (getItem_str (c:=c) (by
  have e1:decide (i < -(2 ^ 63:Int))=false:=decide_eq_false (by omega)
  have e2:decide (i ≥ 2 ^ 63)=false:=decide_eq_false (by omega)
  rw [e1,e2,Bool.or_false]) (by rw [h1]; simpa using h2) ⟨.str ⟨#[c]⟩,H,I.tok _,⟨_,rfl⟩,q⟩) hs
theorem EG (lo hi:Option Int) (n:Nat):(sliceBounds lo hi none n).1=((HT.sIx n 0 lo:Nat):Int)/\(sliceBounds lo hi none n).2.1=((HT.sIx n n hi:Nat):Int)/\(sliceBounds lo hi none n).2.2=1:=by
 refine ⟨?_,?_,rfl⟩
 ·cases lo with
  | none=>simp [sliceBounds,HT.sIx]
  | some i =>
   simp only [sliceBounds,HT.sIx,acs,show (1:Int) > 0 by decide,if_true]
   by_cases h:i < 0
   ·simp only [h,if_true] <;> omega
   ·simp only [h,if_false] <;> omega
 ·cases hi with
  | none=>simp [sliceBounds,HT.sIx]
  | some i =>
   simp only [sliceBounds,HT.sIx,acs,show (1:Int) > 0 by decide,if_true]
   by_cases h:i < 0
   ·simp only [h,if_true] <;> omega
   ·simp only [h,if_false] <;> omega
theorem G9 (its:List Value) (lo hi:Option Int):slicePick its.toArray lo hi none=((its.drop (HT.sIx its.length 0 lo)).take (HT.sIx its.length its.length hi - HT.sIx its.length 0 lo)).toArray:=by
 obtain ⟨h1,h2,h3⟩:=EG lo hi its.toArray.size
 unfold slicePick
 rw [h1,h2,h3]
 simp only [sliceRange_one,pick_run,aap] <;> rfl
noncomputable def TM (K:PySem.W.Frag):V->Option Int->Option Int->Hp->VK->Prop:=fun x lo hi H Q=>∃ a xs,x=.ref a/\SqL K H a xs/\∀ p,H p=none->Q (.ref p) (upd H p (.lst (EF xs lo hi)))
theorem Os:SlR X (TM X.K):=by
 intro pins s σ H x v vl vu lo hi sl Q I rx hs pl pu h
 obtain ⟨a,xs,rfl,hx,q⟩:=h
 cases rx
 obtain ⟨its,r,ht,hz⟩:=I.list hx
 have hlen:=r.length
 refine ⟨"list",_,slot_list_getitem.lookup,ht.isList.typeIs,?_⟩
 refine wpAny_getItem_list_slice ht.isList hs pl pu .none (by simp) ?_ (by rw [aap] <;> omega)
 rw [G9,<- hlen]
 refine ⟨.ref s.heap.objs.size,_,I.laid (t':=s.toks) (o:=.lst (EF xs lo hi)) (fun b ob q=>Heap.get?_push_of_some _ q) (aaj _) ?_,rfl,q _ (I.hok.fresh (aaj _))⟩
 exact ⟨aao (FA xs lo hi) hz,_,0,(r.drop (HT.sIx xs.length 0 lo)).take (HT.sIx xs.length xs.length hi - HT.sIx xs.length 0 lo),Heap.get?_push_size _ rfl⟩
theorem HW:CI X (.builtin "len") (fun xs H Q=>∃ p ys,xs=[.ref p]/\(SqL X.K H p ys\/SqT X.K H p ys)/\Q (.int ys.length) H):=by
 intro pins s σ H xs us Q I r h
 obtain ⟨p,ys,rfl,hq,q⟩:=h
 obtain ⟨u,rfl,rx⟩:=DF r
 cases rx
 have hn:=D4
 rcases hq with hq | hq
 ·obtain ⟨its,r',pl,hz⟩:=I.list hq
  have hlen:=r'.length
  exact Calls.call_len_list pl.isList (by simp only [aap] <;> omega) ⟨.int ys.length,H,I.tok _,⟨s.toks + 1,by rw [aap,hlen]⟩,q⟩
 ·obtain ⟨its,r',pl,hz⟩:=I.tuple hq
  have hlen:=r'.length
  exact len_tuple pl (by simp only [aap] <;> omega) ⟨.int ys.length,H,I.tok _,⟨s.toks + 1,by rw [aap,hlen]⟩,q⟩
theorem HX:CI X (.builtin "len") (fun xs H Q=>∃ z,xs=[.str z]/\z.length<=sizeLine/\Q (.int z.length) H):=by
 intro pins s σ H xs us Q I r h
 obtain ⟨z,rfl,hz,q⟩:=h
 obtain ⟨u,rfl,t,rfl⟩:=DF r
 have hn:=D4
 exact len_str (by omega) ⟨.int z.length,H,I.tok _,⟨_,rfl⟩,q⟩
theorem Ha:CI X (.type "tuple") (fun xs H Q=>∃ p ys,xs=[.ref p]/\((SqL X.K H p ys/\∀ l,H l=none->Q (.ref l) (upd H l (.tup ys)))\/(SqT X.K H p ys/\Q (.ref p) H))):=by
 intro pins s σ H xs us Q I r h
 obtain ⟨p,ys,rfl,h⟩:=h
 obtain ⟨u,rfl,rx⟩:=DF r
 cases rx
 rcases h with ⟨hq,q⟩ | ⟨hq,q⟩
 ·obtain ⟨its,r',pl,hz⟩:=I.list hq
  have hlen:=r'.length
  refine call_tuple_list pl.isList (fun h' kp=>?_) (by simp only [aap] <;> omega)
  have I1:Inv X pins σ H { s with heap:=h' }:=I.kept (t':=s.toks) kp
  have I2:Inv X pins σ (upd H h'.objs.size (.tup ys)) { s with heap:=h'.push { cls:=.type "tuple",data:=.seq its.toArray } } :=
   I1.laid (t':=s.toks) (fun b o e=>Heap.get?_push_of_some _ e) (aaj _) (show ObjOk X.prog X.w _ _ _ (.tup ys) from ⟨hz,its,r',IsTup.new _ _⟩)
  exact ⟨.ref h'.objs.size,_,I2,rfl,q _ (I1.hok.fresh (aaj _))⟩
 ·obtain ⟨its,r',pl,hz⟩:=I.tuple hq
  exact call_tuple_same pl ⟨.ref p,H,I,rfl,q⟩
noncomputable def tyV (K:PySem.W.Frag) (T:String) (x:V) (H:Hp):Prop:=match x with
 | .str _=>T = "str"
 | .int _=>T = "int"
 | .ref p=>(T = "list" /\ ∃ xs,SqL K H p xs)\/(T = "tuple" /\ ∃ o,K.lookup p=some o/\o.cls=.type "tuple" /\ o.dict=none) \/
   (T = "dict" /\ ((∃ kvs,H p=some (.dK kvs))\/∃ kvs,H p=some (.dT kvs)))\/(T = "set" /\ ∃ S n,H p=some (.set S n))
 | _=>False
theorem Li {pins:List (Addr × Obj)} {σ:St} {H:Hp} {s:Shared} {T:String} {x:V} {v:Value} (I:Inv X pins σ H s) (r:RelV x v) (ty:tyV X.K T x H) :
  s.TypeIs v T/\∀ a,v=.ref a->∃ ob,s.heap.get? a=some ob/\ob.dict=none:=by
 cases x with
 | str z =>
  obtain ⟨t,rfl⟩:=r
  cases (show T = "str" from ty)
  exact ⟨typeIs_str s z t,fun _ e=>nomatch e⟩
 | int i =>
  obtain ⟨t,rfl⟩:=r
  cases (show T = "int" from ty)
  exact ⟨typeIs_int s i t,fun _ e=>nomatch e⟩
 | ref p =>
  cases r
  rcases ty with ⟨rfl,xs,hq⟩ | ⟨rfl,o,hk,hc,hd⟩ | ⟨rfl,hk⟩ | ⟨rfl,S,n,hk⟩
  ·obtain ⟨its,_,pl,_⟩:=I.list hq
   refine ⟨pl.isList.typeIs,fun a e=>?_⟩
   cases e
   obtain ⟨o,n,e,c,hd,_⟩:=pl
   exact ⟨o,e,hd⟩
  ·refine ⟨⟨o,I.kIn p o hk,hc⟩,fun a e=>?_⟩
   cases e
   exact ⟨o,I.kIn _ o hk,hd⟩
  ·have z:∃ o,s.heap.get? p=some o/\o.ExactDict:=by
    rcases hk with ⟨kvs,hk⟩ | ⟨kvs,hk⟩
    ·obtain ⟨_,_,_,_,o,_,_,e,ex,_⟩:=I.hok p _ hk
     exact ⟨o,e,ex⟩
    ·obtain ⟨_,_,_,_,o,_,_,e,ex,_⟩:=I.hok p _ hk
     exact ⟨o,e,ex⟩
   obtain ⟨o,e,ex⟩:=z
   refine ⟨⟨o,e,ex.1⟩,fun a e2=>?_⟩
   cases e2
   exact ⟨o,e,ex.2.1⟩
  ·obtain ⟨o,_,_,_,e,ex,_⟩:=I.hok p _ hk
   refine ⟨⟨o,e,ex.1⟩,fun a e2=>?_⟩
   cases e2
   exact ⟨o,e,ex.2.1⟩
 | _=>exact False.elim ty
noncomputable def TN (K:PySem.W.Frag) (T:String) (r:V->List V->Hp->VK->Prop) (to:TE):TE:=fun σ H Q=>to σ H fun x H1=>tyV K T x H1/\r x [] H1 Q
noncomputable def tBM (K:PySem.W.Frag) (T:String) (r:V->List V->Hp->VK->Prop) (to:TE) (t:TA):TE:=fun σ H Q=>to σ H fun x H1=>tyV K T x H1/\t σ H1 fun xs H2=>r x xs H2 Q
variable {o e:Expr} {es:List Expr} {to:TE} {t:TA} {name:Str} {apos cpos:Pos} {T id:String} {r:V->List V->Hp->VK->Prop}
theorem HY (pa:PlainAttrs T) (slot:Slot T name id) (hty:typeOf (.builtin id)=pure (.type "method_descriptor")) (hm:MtR X id r) (ho:PE X o to)
  (hbase:attributeBase o name X.env (eval o X.env)=eval o X.env:=by rfl) (hline:(apos.endLine==cpos.line)=true:=by rfl):PE X (.Call (.Attribute o name apos) [] [] cpos) (TN X.K T r to):=by
 intro pins s σ H Q I h
 refine wpAny_Call_method0_late hbase hline (thn (ho pins s σ H _ I h) fun v s1 ⟨x,H1,I1,r1,ty,q1⟩=>?_)
 obtain ⟨h1,h2⟩:=Li I1 r1 ty
 exact ⟨T,id,pa,slot,hty,h1,h2,Calls.callWith_builtin rfl (PySem.evalArgs_none (hm pins s1 σ H1 x [] v [] Q I1 r1 .nil q1))⟩
theorem C8 (pa:PlainAttrs T) (slot:Slot T name id) (hty:typeOf (.builtin id)=pure (.type "method_descriptor")) (hm:MtR X id r) (ho:PE X o to) (ha:PA X (e :: es) t)
  (hbase:attributeBase o name X.env (eval o X.env)=eval o X.env:=by rfl)
  (hfew:((backTo cpos (starEach (e :: es) X.env)).all (fun x=>!x.1) && (backToKw cpos (keywordEach [] X.env)).all (fun x=>x.1.isSome)
   && decide ((e :: es).length + ([]:List Keyword).length + (if ([]:List Keyword).isEmpty then 0 else 1) < 30))=true:=by rfl)
  (hline:(apos.endLine==cpos.line)=true:=by rfl) (hs:starEach (e :: es) X.env=(false,eval e X.env) :: starEach es X.env:=by rfl) (hplain:(backTo cpos (starEach es X.env)).any (·.1)=false:=by rfl) :
  PE X (.Call (.Attribute o name apos) (e :: es) [] cpos) (tBM X.K T r to t):=by
 intro pins s σ H Q I h
 refine wpAny_Call_method_late hbase hfew hline rfl (thn (ho pins s σ H _ I h) fun v s1 ⟨x,H1,I1,r1,ty,q1⟩=>?_)
 obtain ⟨h1,h2⟩:=Li I1 r1 ty
 refine ⟨T,id,pa,slot,hty,h1,h2,?_⟩
 have hA:=ha cpos pins s1 σ H1 _ I1 q1
 rw [hs] at hA ⊢
 refine Calls.callWith_builtin (by show (false || (backTo cpos (starEach es X.env)).any (·.1))=false; rw [hplain] <;> rfl) (Calls.evalArgs_plain ?_)
 exact thn hA fun us s2 ⟨vs,H2,I2,r2,q2⟩=>hm pins s2 σ H2 x vs v us Q I2 r1 r2 q2
/- xs.append(e),list.index on a module's tuple .. are MtR facts of 06m -/
end
noncomputable def MtM (X:Cx) (id:String) (r:V->List V->Hp->VK->Prop):Prop :=
 ∀ (pins:List (Addr × Obj)) (s:Shared) (σ:St) (H:Hp) (x:V) (xs:List V) (v:Value) (us:List Value) (Q:VK),Inv X pins σ H s->RelV x v->Vals xs us->r x xs H Q ->
  wpAny (model X.prog X.w) X.A (call (.builtin id) (v :: us)) (EP X pins σ Q) X.xe s
theorem Vals.one:∀ {x:V} {us:List Value},Vals [x] us->∃ u,us=[u]/\RelV x u
 | _,_,.cons r .nil=>⟨_,rfl,r⟩
theorem Vals.zero:∀ {us:List Value},Vals [] us->us=[]
 | _,.nil=>rfl
theorem Vals.dropLast {xs:List V} {us:List Value} (h:Vals xs us):Vals xs.dropLast us.dropLast:=by
 induction h with
 | nil=>exact .nil
 | cons r t ih =>
  cases t with
  | nil=>exact .nil
  | cons q t'=>exact .cons r ih
theorem Vals.eraseIdx:∀ {xs:List V} {us:List Value} (i:Nat),Vals xs us->Vals (xs.eraseIdx i) (us.eraseIdx i)
 | _,_,_,.nil=>.nil
 | _,_,0,.cons _ t=>t
 | _,_,i + 1,.cons r t=>.cons r (Vals.eraseIdx i t)
theorem Vals.reverse {xs:List V} {us:List Value} (h:Vals xs us):Vals xs.reverse us.reverse:=by
 induction h with
 | nil=>exact .nil
 | cons r t ih=>rw [abT,abT]; exact Vals.append ih (.cons r .nil)
theorem Vals.rep {xs:List V} {us:List Value} (h:Vals xs us):∀ k:Nat,Vals (aaf k xs).flatten (aaf k us).flatten
 | 0=>.nil
 | k + 1=>by
  rw [aba,aba,abA,abA]
  exact Vals.append h (Vals.rep h k)
theorem Kf {α:Type} (l:List α):l.eraseIdx (l.length - 1)=l.dropLast:=by
 induction l with
 | nil=>rfl
 | cons a r ih =>
  cases r with
  | nil=>rfl
  | cons b r =>
   have e:(a :: b :: r).length - 1=((b :: r).length - 1) + 1:=by
    have h1:(a :: b :: r).length=r.length + 2:=rfl
    have h2:(b :: r).length=r.length + 1:=rfl
    omega
   rw [e,List.eraseIdx_cons_succ,ih]
   all_goals rfl
theorem GX {α:Type}:∀ (l:List α) (i:Nat),(l.eraseIdx i).length<=l.length
 | [],_=>aaj _
 | _ :: _,0=>abO _
 | _ :: r,i + 1=>Nat.succ_le_succ (GX r i)
theorem GY (its:List Value):∀ (k:Nat) (acc:List Value),
  act (fun x1 x2=>x1 ++ x2) acc.toArray (aaf k its.toArray)=(acc ++ (aaf k its).flatten).toArray
 | 0,acc=>by simp
 | k + 1,acc=>by
  have e:acc.toArray ++ its.toArray=(acc ++ its).toArray:=by simp
  have e2:(acc ++ its) ++ (aaf k its).flatten=acc ++ (aaf (k + 1) its).flatten:=by
   rw [aba,abA,abn]
  rw [<- e2,<- GY its k (acc ++ its),<- e,aba,abk]
section
variable {X:Cx} {pins:List (Addr × Obj)} {σ:St} {H:Hp} {s:Shared} {l b:Addr} {xs ys zs:List V}
theorem Inv.lset {its its':List Value} {n:Nat} {f:Array Value->Array Value} {t':Nat} (I:Inv X pins σ H s) (hH:H l=some (.lst xs))
  (e:s.heap.get? l=some { cls:=.type "list",data:=.seq its.toArray n }) (hf:f its.toArray=its'.toArray) (hv:Vals ys its') (hz:ys.length<=sizeLine) :
  Inv X pins σ (upd H l (.lst ys)) { s with heap:=s.heap.update l (Obj.mapSeq f),toks:=t' }:=by
 have q:=PySem.IsL.update e f
 rw [hf] at q
 refine I.write (x:=l) (e:=l) (by rw [hH]; exact trivial) (.inl rfl) (fun b' u hb hu=>(Heap.get?_update_other s.heap (Obj.mapSeq f) (Ne.symm hb)).trans hu) ⟨_,q⟩ ?_
 exact ⟨hz,its',_,hv,q⟩
theorem Inv.lnew {its:List Value} {t':Nat} (I:Inv X pins σ H s) (hv:Vals ys its) (hz:ys.length<=sizeLine) :
  Inv X pins σ (upd H s.heap.objs.size (.lst ys)) { s with heap:=s.heap.push { cls:=.type "list",data:=.seq its.toArray },toks:=t' } :=
 I.laid (fun _ _ q=>Heap.get?_push_of_some _ q) (aaj _) ⟨hz,its,0,hv,Heap.get?_push_size _ rfl⟩
theorem Inv.fresh (I:Inv X pins σ H s):H s.heap.objs.size=none:=I.hok.fresh (aaj _)
theorem Inv.lstM (I:Inv X pins σ H s) (hH:H l=some (.lst xs)):xs.length<=sizeLine/\∃ (its:List Value) (n:Nat),Vals xs its/\xs.length=its.length/\s.heap.get? l=some { cls:=.type "list",data:=.seq its.toArray n }:=by
 obtain ⟨z,its,n,r,e⟩:=I.hok l _ hH
 exact ⟨z,its,n,r,r.length,e⟩
theorem HZ {n:Nat} (h:n<=sizeLine):Builtin.List.listTooLong n=false:=by
 unfold Builtin.List.listTooLong
 exact decide_eq_false (by omega)
end
section
variable {X:Cx}
noncomputable def Fd:V->List V->Hp->VK->Prop:=fun x vs H Q=>∃ l xs y,x=.ref l/\vs=[y]/\H l=some (.lst xs)/\xs.length < sizeLine/\Q .non (upd H l (.lst (xs ++ [y])))
theorem CO:MtM X "list.append" Fd:=by
 intro pins s σ H x vs v us Q I rx rv h
 obtain ⟨l,xs,y,rfl,rfl,hH,hz,q⟩:=h
 cases rx
 obtain ⟨u,rfl,ru⟩:=rv.one
 obtain ⟨z,its,n,r,hl,e⟩:=I.lstM hH
 refine call_meets F.slot_list_append ⟨_,e,rfl⟩ F.entry_list_append (F.args_list_append_2 _ _) (PySem.list_append l its.toArray n u (by rw [aap]; omega)) ⟨e,?_⟩
 refine ⟨.non,_,I.lset (its':=its ++ [u]) hH e (by simp) (r.append (.cons ru .nil)) ?_,rfl,q⟩
 rw [aal,aaT]
 omega
noncomputable def QE:V->List V->Hp->VK->Prop:=fun x vs H Q=>∃ l xs y,x=.ref l/\vs=[]/\H l=some (.lst xs)/\xs[xs.length - 1]?=some y/\Q y (upd H l (.lst xs.dropLast))
theorem QF:MtM X "list.pop" QE:=by
 intro pins s σ H x vs v us Q I rx rv h
 obtain ⟨l,xs,y,rfl,rfl,hH,hy,q⟩:=h
 cases rx
 have hus:=rv.zero
 subst hus
 obtain ⟨z,its,n,r,hl,e⟩:=I.lstM hH
 obtain ⟨u,hu,ru⟩:=r.get hy
 have hy':its.toArray[its.toArray.size - 1]?=some u:=by
  show its.toArray[its.length - 1]?=some u
  rw [<- Array.getElem?_toList,<- hl]
  exact hu
 refine call_meets F.slot_list_pop ⟨_,e,rfl⟩ F.entry_list_pop (F.args_list_pop_1 _) (MeetsSeq.list_pop_last l its.toArray n u hy' (by rw [aap]; omega)) ⟨e,?_⟩
 refine ⟨y,_,I.lset (its':=its.dropLast) hH e ?_ r.dropLast ?_,ru,q⟩
 ·show its.toArray.eraseIdxIfInBounds (its.toArray.size - 1)=its.dropLast.toArray
  rw [aap,abF,Kf]
 ·rw [List.length_dropLast]
  omega
noncomputable def Lj:V->List V->Hp->VK->Prop:=fun x vs H Q=>∃ l xs i k y,x=.ref l/\vs=[.int i]/\H l=some (.lst xs)/\-(2 ^ 63)<=i/\i < 2 ^ 63/\seqIndex? i xs.length=some k/\xs[k]?=some y/\Q y (upd H l (.lst (xs.eraseIdx k)))
theorem MF:MtM X "list.pop" Lj:=by
 intro pins s σ H x vs v us Q I rx rv h
 obtain ⟨l,xs,i,k,y,rfl,rfl,hH,h1,h2,hk,hy,q⟩:=h
 cases rx
 obtain ⟨u,rfl,ru⟩:=rv.one
 obtain ⟨t,rfl⟩:=ru
 obtain ⟨z,its,n,r,hl,e⟩:=I.lstM hH
 obtain ⟨w,hw,rw'⟩:=r.get hy
 refine call_meets F.slot_list_pop ⟨_,e,rfl⟩ F.entry_list_pop (F.args_list_pop_2 _ _)
  (MeetsSeq.list_pop_at l its.toArray n i t k w (fitsIndex_both h1 h2) (by rw [aap,<- hl]; exact hk) (by rw [<- Array.getElem?_toList]; exact hw) (by rw [aap]; omega)) ⟨e,?_⟩
 refine ⟨y,_,I.lset (its':=its.eraseIdx k) hH e ?_ (r.eraseIdx k) ?_,rw',q⟩
 ·show its.toArray.eraseIdxIfInBounds k=(its.eraseIdx k).toArray
  rw [abF]
 ·have:=GX xs k
  omega
noncomputable def Ia:V->List V->Hp->VK->Prop:=fun x vs H Q=>∃ l xs,x=.ref l/\vs=[]/\H l=some (.lst xs)/\Q .non (upd H l (.lst xs.reverse))
theorem Kg:MtM X "list.reverse" Ia:=by
 intro pins s σ H x vs v us Q I rx rv h
 obtain ⟨l,xs,rfl,rfl,hH,q⟩:=h
 cases rx
 have hus:=rv.zero
 subst hus
 obtain ⟨z,its,n,r,hl,e⟩:=I.lstM hH
 refine call_meets F.slot_list_reverse ⟨_,e,rfl⟩ F.entry_list_reverse (F.args_list_reverse_1 _) (AutoSeq1.list_reverse_list_0 l its.toArray n (by rw [aap]; omega)) ⟨e,?_⟩
 refine ⟨.non,_,I.lset (its':=its.reverse) hH e (by simp) r.reverse ?_,rfl,q⟩
 rw [List.length_reverse]
 omega
noncomputable def Lk:V->List V->Hp->VK->Prop:=fun x vs H Q=>∃ l xs,x=.ref l/\vs=[]/\H l=some (.lst xs)/\Q .non (upd H l (.lst []))
theorem MG:MtM X "list.clear" Lk:=by
 intro pins s σ H x vs v us Q I rx rv h
 obtain ⟨l,xs,rfl,rfl,hH,q⟩:=h
 cases rx
 have hus:=rv.zero
 subst hus
 obtain ⟨z,its,n,r,hl,e⟩:=I.lstM hH
 refine call_meets F.slot_list_clear ⟨_,e,rfl⟩ F.entry_list_clear (F.args_list_clear_1 _) (AutoSeq1.list_clear_list_0 l its.toArray n (by rw [aap]; omega)) ⟨e,?_⟩
 exact ⟨.non,_,I.lset (its':=[]) (ys:=[]) hH e rfl .nil (aaA _),rfl,q⟩
theorem Ot {α:Type} (xs:List α) (k:Nat):(aaf k xs).flatten.length=k * xs.length:=by
 induction k with
 | zero=>simp
 | succ k ih=>rw [aba,abA,aal,ih,acj,Nat.add_comm]
end
end L2
namespace Att
open PySem PySem.W PySem.Calls PyProof.Rows
theorem F2 {P:Params} {h:Heap}:∀ (ns:List Int) (vs:List Value),WellAll P h vs (ns.map WData.int)->IntsAre vs ns:=by
 intro ns
 induction ns with
 | nil =>
  intro vs w
  rw [aa0] at w
  cases w
  exact .nil
 | cons n ns ih =>
  intro vs w
  rw [aar] at w
  cases w with
  | cons a b =>
   cases a
   exact .cons _ _ (ih _ b)
theorem Ll {l:OpenLaw} {n:Nat} (hn:l.most=some n) {P:Params} {h:Heap} {args:List WData} {vals:List Value}
  (hpre:l.row.toRowW.claim.pre args=true) (hwl:WellAll P h vals args) :
  ∃ a vs ns,vals=[Value.ref a]/\args=[WData.list (ns.map WData.int)]/\h.get? a=some { cls:=.type "list",data:=.seq vs.toArray }/\IntsAre vs ns/\ns.length<=n:=by
 have hsh:WShape.hasAll [] args [.list .int]=true:=(pre_splitW hpre).1
 have hc:l.pre.holds [] { args:=args }=true:=(pre_splitW hpre).2
 obtain ⟨d,r,rfl,h1,h2⟩:=hasAllW_cons hsh
 obtain rfl:=hasAllW_nil h2
 obtain ⟨xs,rfl,h3⟩:=hasW_list h1
 obtain ⟨ns,rfl⟩:=items_int h3
 have hlen:ns.length<=n:=by
  unfold OpenLaw.pre at hc
  have h4:(WTm.not (.lt (.lit (.int (n:Int))) (.len (.arg 0)))).holds [] { args:=[.list (ns.map .int)] }=true:=by
   have h4:=(holds_andW hc).1
   rw [hn] at h4
   exact h4
  have h5:=condW_of h4 (w_not (w_lt w_lit (w_len_list (w_arg rfl))))
  rw [aae] at h5
  refine aa4 fun q=>?_
  have q':(n:Int) < ((ns.length:Nat):Int):=by omega
  first
   | (rw [decide_eq_true q'] at h5; exact absurd h5 (by decide))
   | (simp at h5; omega)
 cases hwl with
 | cons w1 w2 =>
  cases w2
  cases w1 with
  | list ho hall=>exact ⟨_,_,ns,rfl,rfl,ho,F2 ns _ hall,hlen⟩
theorem Lm (l:OpenLaw) (args:List WData):l.row.toRowW.claim.post args (.bool true) args=true :=
 postW_of (r:=l.row.toRowW) (X:=(true==true))
  (show WShape.has [] (.bool true) .bool=true by first | rfl | decide | simp [WShape.has,WShape.arms,WShape.armsAll])
  (show (WTm.eq .res (.lit (.bool true))).value [] { args:=args,res:=some (.bool true),after:=args }=some (.bool (true==true)) from w_eq_bool (w_res rfl) w_lit) rfl
theorem attach_call {l:OpenLaw} {n:Nat} {q:Program} {loose:List Str} {XP:(Str->Option Value)->Heap->Prop} {YP:World->Heap->Prop} {d:DefRec}
  (hn:l.most=some n) (hdf:d.params.defaults=[])
  (call:∀ (w:World) (s₀ s₁:Shared) (mg mb:Str->Option Value) (fa:Addr) (o:Obj) (pm cd doc:Value) (a:Addr) (vs:List Value) (ns:List Int),
   Ground q loose [] XP w s₀ mg mb s₁.heap->YP w s₁.heap ->
   s₁.heap.get? fa=some o->o.data=.func (docDef d.name d.params d.body d.scope pm cd doc)->s₁.heap.CodeRec cd d.name->mg d.name=some (.ref fa) ->
   s₁.heap.get? a=some { cls:=.type "list",data:=.seq vs.toArray }->IntsAre vs ns->ns.length<=n->s₁.gens=#[] ->
   codeAny (model l.prog w) callerA (.call (.ref fa) ⟨[.ref a],[]⟩) (fun r s'=>r=.ok (.ret (.bool true))/\OldK s₁.heap s'.heap/\s'.os=s₁.os/\AllBare s'.gens) s₁) :
  WalkO q loose XP YP l.row.toRowW d [] (fun f vs=>PySem.call f vs):=by
 intro w s₀ s₁ mg mb G Y fa o pm cd doc dV kV ho hd hcd hD hmg hg args vals as hpre hlay hrd hwl hlo
 obtain rfl:dV=.none:=Dflts.none hD hdf
 obtain rfl:kV=.none:=Dflts.noKw hD
 obtain ⟨a,vs,ns,rfl,rfl,hobj,hints,hlen⟩:=Ll hn hpre hwl
 refine enter_call (codeAny_mono (call w s₀ s₁ mg mb fa o pm cd doc a vs ns G Y ho (fd_plain hd) hcd hmg hobj hints hlen hg) fun r s' hq=>?_)
 obtain ⟨rfl,h2,h3,h4⟩:=hq
 exact ⟨.inl ⟨.bool true,.bool true,[],rfl,fun _=>rfl,.bool true,Lm l _,fun _=>⟨List.Pairwise.nil,fun _ hm=>(nomatch hm)⟩⟩,h2,h3,h4⟩
end Att
namespace L2
open PySem PySem.Spec PyProof.Rows
theorem GZ:∀ {vs:List Value} {ns:List Int},IntsAre vs ns->Vals (ns.map V.int) vs
 | _,_,.nil=>.nil
 | _,_,.cons n t h=>.cons ⟨t,rfl⟩ (GZ h)
noncomputable def MH (H:Hp):Prop:=∀ b,H b=none\/∃ o xs,H b=some (.frz o (.lst xs))
theorem MI {P:Program} {w:World} {K:PySem.W.Frag} {mg mb:Str->Option Value} {CX:CXT} {k:Nat} {fa a:Addr} {fd:FuncData} {x:Str} {sp:Sp} {s₁:Shared} {vs:List Value} {ns:List Int}
  (KX:K.In s₁.heap) (hns:s₁.heap.Ns mainGlobals mg) (hb:s₁.heap.Ns builtinsNs mb) (hbb:∀ x:Str,x ≠ "__name__" -> mb x=bootBuiltins x) (hlim:s₁.heap.NoLimit) (hg:s₁.gens=#[])
  (ha:s₁.heap.get? a=some { cls:=.type "list",data:=.seq vs.toArray }) (hi:IntsAre vs ns) (hl:ns.length<=sizeLine) (hr:Room k callerA)
  (F:∀ base:Heap,K.In base->base.Ns mainGlobals mg->FnOk P w K mg base CX k fa fd [x] sp) (hbind:∀ (s:Shared) (u:Value),BindsTo s fd ⟨[u],[]⟩ [(x,u)])
  (hsp:∀ H:Hp,MH H->SqL K H a (ns.map V.int)->sp [.ref a] H (fun v _=>v=.bl true) fun _ _ _=>False)
  (hCX:∀ H e s',CX [] H s₁ (fun _ _ _=>False) e s'->False) :
  codeAny (model P w) callerA (.call (.ref fa) ⟨[.ref a],[]⟩) (fun r s'=>r=.ok (.ret (.bool true))/\OldK s₁.heap s'.heap/\s'.os=s₁.os/\AllBare s'.gens) s₁:=by
 have rv:=GZ hi
 have lenV:=hi.length
 have core:∀ H:Hp,MH H->SqL K H a (ns.map V.int)->HOk P w H s₁.heap->(∀ b,H b ≠ none->b=a)->(H a ≠ none->K.lookup a=none) ->
   codeAny (model P w) callerA (.call (.ref fa) ⟨[.ref a],[]⟩) (fun r s'=>r=.ok (.ret (.bool true))/\OldK s₁.heap s'.heap/\s'.os=s₁.os/\AllBare s'.gens) s₁:=by
  intro H hO hS hok hA hK
  have base_of:∀ {b:Addr} {o:Obj},s₁.heap.get? b=some o->H b=none->(Eh s₁.heap H).get? b=some o:=fun e n=>Mp e n
  have noA:∀ {b:Addr} {o:Obj} {es:Array DictEntry} {ep:Nat},s₁.heap.get? b=some o->o.data=.dict es ep->H b=none:=fun {b o es ep} e d=>by
   cases q:H b with
   | none=>rfl
   | some u =>
    have e':b=a:=hA b (by rw [q]; simp)
    subst e'
    rw [ha] at e; cases e
    have d':Data.seq vs.toArray _=Data.dict es ep:=d
    cases d'
  have nsK:∀ {b:Addr} {m:Str->Option Value},s₁.heap.Ns b m->(Eh s₁.heap H).Ns b m:=fun {b m} ⟨o,es,ep,e,d,r⟩=>⟨o,es,ep,base_of e (noA e d),d,r⟩
  have hKb:K.In (Eh s₁.heap H):=fun b o e=>base_of (KX b o e) (by
   cases q:H b with
   | none=>rfl
   | some u =>
    have e':b=a:=hA b (by rw [q]; simp)
    subst e'
    rw [hK (by rw [q]; simp)] at e; cases e)
  have hM:Mod K mg (Eh s₁.heap H):=⟨hKb,nsK hns,⟨mb,nsK hb,hbb⟩,let ⟨mc,h1,h2⟩:=hlim; ⟨mc,nsK h1,h2⟩⟩
  have e0:Env0 P w K mg (Eh s₁.heap H) callerA [] s₁ H:=⟨rfl,hM,fun b o e=>Oh e,Nat.le_of_eq (KU _ _),trivial,fun b hb=>absurd (show b ∈ ([]:List Addr) from hb) (by simp),hok,.of_eq hg⟩
  refine codeAny_mono ((F _ hKb (nsK hns)).run callerA [] s₁ H ⟨[.ref a],[]⟩ [.ref a] [.ref a] _ _ hr e0 (hbind s₁ (.ref a)) (.cons rfl .nil) (hsp H hO hS)) fun r s' h=>?_
  cases r with
  | error e=>exact (hCX H e s' h).elim
  | ok fl =>
   cases fl with
   | next=>exact False.elim h
   | brk=>exact False.elim h
   | cont=>exact False.elim h
   | ret u =>
    obtain ⟨v,H',os,bare,un,hok',r',q⟩:=h
    have q':v=.bl true:=q
    subst q'
    obtain rfl:u=Value.bool true:=r'
    refine ⟨rfl,OldK.of_keep fun b o e=>?_,os,bare⟩
    cases q:H b with
    | none=>exact un.keep b o e q (by intro z; exact absurd (show b ∈ ([]:List Addr) from z) (by simp)) (by simp)
    | some u =>
     rcases hO b with z | ⟨ob,xs,z⟩
     ·rw [q] at z; cases z
     ·have z2:=un.frzs b ob _ z
      obtain ⟨e1,_⟩:=hok b _ z
      obtain ⟨e2,_⟩:=hok' b _ z2
      rw [e] at e1; cases e1
      exact e2
 cases hk:K.lookup a with
 | some o =>
  have e:=KX a o hk
  rw [ha] at e
  cases e
  refine core (fun _=>none) (fun _=>.inl rfl) (.inr ⟨_,vs.toArray,_,hk,rfl,rfl,rfl,by rw [aap,lenV]; exact hl,by simpa using rv⟩) (fun b u z=>by have z':(none:Option HO)=some u:=z; cases z') (fun b z=>absurd rfl z) fun z=>absurd rfl z
 | none =>
  refine core (fun b=>if b=a then some (.frz { cls:=.type "list",data:=.seq vs.toArray } (.lst (ns.map V.int))) else none) (fun b=>?_) (.inl (.inr ⟨{ cls:=.type "list",data:=.seq vs.toArray },if_pos rfl⟩)) (fun b u z=>?_) (fun b z=>?_) fun _=>hk
  ·by_cases hb:b=a
   ·exact .inr ⟨_,_,if_pos hb⟩
   ·exact .inl (if_neg hb)
  ·by_cases hb:b=a
   ·have z':=(if_pos hb).symm.trans z
    cases z'
    subst hb
    exact ⟨ha,by rw [aae]; exact hl,vs,_,rv,ha⟩
   ·have z':=(if_neg hb).symm.trans z
    cases z'
  ·by_cases hb:b=a
   ·exact hb
   ·exact absurd (if_neg hb) z
theorem Ou {l:PySem.W.OpenLaw} {n k:Nat} {q:Program} {loose:List Str} {XP:(Str->Option Value)->Heap->Prop} {YP:World->Heap->Prop} {d:DefRec} {K:Params->PySem.W.Frag} {CX:World->CXT} {sp:World->Sp} {x:Str}
  (hn:l.most=some n) (hn2:n<=sizeLine) (hdf:d.params.defaults=[]) (hr:Room k callerA)
  (hY:∀ (w:World) (h:Heap),YP w h->(K w.params).In h)
  (F:∀ (w:World) (mg:Str->Option Value) (fa:Addr) (h:Heap),(K w.params).In h->h.Ns mainGlobals mg->mg d.name=some (.ref fa) ->
   ∃ fd:FuncData,(∀ (s:Shared) (u:Value),BindsTo s fd ⟨[u],[]⟩ [(x,u)]) /\
    ∀ base:Heap,(K w.params).In base->base.Ns mainGlobals mg->FnOk l.prog w (K w.params) mg base (CX w) k fa fd [x] (sp w))
  (hsp:∀ (w:World) (H:Hp) (a:Addr) (ns:List Int),ns.length<=n->MH H->SqL (K w.params) H a (ns.map V.int)->sp w [.ref a] H (fun v _=>v=.bl true) fun _ _ _=>False)
  (hCX:∀ (w:World) (H:Hp) (s:Shared) (e:Value) (s':Shared),CX w [] H s (fun _ _ _=>False) e s'->False) :
  PySem.W.WalkO q loose XP YP l.row.toRowW d [] (fun f vs=>PySem.call f vs):=by
 refine Att.attach_call hn hdf fun w s₀ s₁ mg mb fa o pm cd doc a vs ns G Y ho hd hcd hmg hobj hints hlen hg=>?_
 have KX:=hY w _ Y
 obtain ⟨fd,hb,hF⟩:=F w mg fa _ KX G.T.g hmg
 exact MI KX G.T.g G.T.b G.T.builtins G.T.nolimit hg hobj hints (aao hlen hn2) hr hF hb (fun H hO hS=>hsp w H a ns hlen hO hS) fun H e s'=>hCX w H s₁ e s'
noncomputable def Bs (s:Stmt):Arguments:=match s with
 | .FunctionDef _ a _ _ _ _ _ _ _ _=>a
 | _=>{ posonlyargs:=[],args:=[],vararg:=none,kwonlyargs:=[],kw_defaults:=[],kwarg:=none,defaults:=[] }
noncomputable def Ax (s:Stmt):List Stmt:=match s with
 | .FunctionDef _ _ b _ _ _ _ _ _ _=>b
 | _=>[]
noncomputable def Ah (s:Stmt):Scope:=match s with
 | .FunctionDef _ _ _ _ _ _ sc _ _ _=>sc
 | _=>{ kind:=.function,names:=[],isGenerator:=false,isCoroutine:=false }
structure Fun (K:PySem.W.Frag) (x qual:Str) (st:Stmt) (f:Addr) (fd:FuncData):Prop where
 ex:∃ (oc:Value) (od:Option Addr) (kV doc pm:Value) (an:Option Addr) (cdv ct:Value) (osl:Array (Option Value)),
  fd=PySem.W.fnOf x qual (Bs st) (Ax st) (Ah st) .none kV doc pm an cdv ct/\K.lookup f=some ⟨oc,od,.func fd,osl⟩/\PySem.W.codeIn K cdv qual=true
 kp:PySem.W.keepIn K (.ref f)=true
section
variable {P:Program} {w:World} {K:PySem.W.Frag} {mg:Str->Option Value} {base:Heap}
theorem Fun.binds {x qual:Str} {st:Stmt} {f:Addr} {fd:FuncData} {ps:List Str} (F:Fun K x qual st f fd)
  (h:∀ (kV doc pm:Value) (an:Option Addr) (cdv ct:Value) (us:List Value),us.length=ps.length->bindArgs (PySem.W.fnOf x qual (Bs st) (Ax st) (Ah st) .none kV doc pm an cdv ct) ⟨us,[]⟩=pure (ps.zip us)):Binds K fd ps []:=by
 obtain ⟨oc,od,kV,doc,pm,an,cdv,ct,osl,rfl,lk,hcd⟩:=F.ex
 exact .all (h kV doc pm an cdv ct)
theorem Ln {x qual:Str} {st:Stmt} {f:Addr} {oc:Value} {od an:Option Addr} {osl:Array (Option Value)} {kV doc pm cdv ct:Value} (l:K.lookup f=some ⟨oc,od,.func (PySem.W.fnOf x qual (Bs st) (Ax st) (Ah st) .none kV doc pm an cdv ct),osl⟩)
  (c:PySem.W.codeIn K cdv qual=true) (k:PySem.W.keepIn K (.ref f)=true):Fun K x qual st f (PySem.W.fnOf x qual (Bs st) (Ax st) (Ah st) .none kV doc pm an cdv ct):=⟨⟨oc,od,kV,doc,pm,an,cdv,ct,osl,rfl,l,c⟩,k⟩
end
noncomputable def Same (H H':Hp):Prop:=∀ b o,H b=some o->H' b=some o
theorem Same.refl (H:Hp):Same H H:=fun _ _ h=>h
theorem Same.trans {H H1 H2:Hp} (a:Same H H1) (b:Same H1 H2):Same H H2:=fun c o h=>b c o (a c o h)
theorem Same.free {H H':Hp} (e:Same H H') {l:Addr} (h:H' l=Option.none):H l=Option.none:=by
 cases q:H l with
 | none=>rfl
 | some o =>
  rw [e l o q] at h
  cases h
theorem Same.seq {K:PySem.W.Frag} {H H':Hp} {a:Addr} {xs:List V} (e:Same H H') (h:SqL K H a xs):SqL K H' a xs:=by
 rcases h with (h | ⟨o,h⟩) | h
 ·exact .inl (.inl (e _ _ h))
 ·exact .inl (.inr ⟨o,e _ _ h⟩)
 ·exact .inr h
end L2
end
section
set_option maxHeartbeats 1000000
namespace L2
open PySem PySem.Spec PyProof.Rows PySem.W
section
variable {prog:Program} {w:World} {A:Around} {E:Value->Shared->Prop} {s:Shared} {K:Frag} {e C:Addr} {ox:Obj}
structure XCls (K:Frag) (C:Addr):Prop where
 ga:findIn K (.ref C) "__getattribute__" = some (some (.builtin "BaseException.__getattribute__"))
 gn:findIn K (.ref C) "__getattr__" = some none
 sb:subIn K (.ref C) (.type "BaseException")=some true
 cl:findIn K (.ref C) "__class__" = some (some (.builtin "object.__class__"))
 mo:mroIn K C (.type "object")=some true
 ty:typeIn K (.ref C)=some (.type "type")
 cc:(clsIn K C).isSome=true
noncomputable def XAt (e C:Addr) (h:Heap):Prop:=∃ oe,h.get? e=some oe/\oe.cls=.ref C
theorem XAt.type {M:Model} {h:Heap} (I:XAt e C h):Looks M h (typeOf (.ref e)) (.ref C):=by
 obtain ⟨oe,h1,h2⟩:=I
 exact h2 ▸ (Looks.ld h1).andThen .now
theorem QG {R:Result->Shared->Prop} (X:K.In s.heap) (I:XAt e C s.heap) (c:XCls K C) (h:R (.ok (.ret (.ref C))) s) :
  codeAny (model prog w) A (.call (.builtin "getset_descriptor.__get__") ⟨[.builtin "object.__class__",.ref e,.ref C],[]⟩) R s:=by
 obtain ⟨hh,g,d,t,os⟩:=s
 have hT5:(⟨hh,g,d,t,os⟩:Shared).TypeIs (.builtin "object.__class__") "getset_descriptor" := F.typeOf_object_class
 have L0:=I.type (M:=model prog w)
 have L1:=looks_mroIn (M:=model prog w) X c.mo
 refine codeAny_call_builtin F.slot_gs_get.plain F.entry_gs_get (F.slot_gs_get.check _ _ _ _ _ _ _ _ hT5 (F.args_gs_get _ _ _) ?_)
 repeat (any_goals (first | assumption | refine L0.at ?_ | refine L1.at ?_ | refine wpAny_bind (L0.at ?_) | refine wpAny_bind (L1.at ?_) | wp_step))
 refine ⟨Code.quiet_builtin _ (by decide +kernel),codeAny_builtin KF.entry_class ?_⟩
 unfold Builtin.«object.__class__» shownTypeOf
 repeat (any_goals (first | assumption | refine L0.at ?_ | refine wpAny_bind (L0.at ?_) | wp_step))
theorem Ov {tk:Tok} {R:Result->Shared->Prop} (X:K.In s.heap) (I:XAt e C s.heap) (c:XCls K C) (h:R (.ok (.ret (.ref C))) s) :
  codeAny (model prog w) A (.call (.builtin "BaseException.__getattribute__") ⟨[.ref e,.str "__class__" tk],[]⟩) R s:=by
 obtain ⟨hh,g,d,t,os⟩:=s
 have L0:=I.type (M:=model prog w)
 have LS:=looks_subIn (M:=model prog w) X c.sb
 have LI:Looks (model prog w) hh (isInstance (.ref e) (.type "BaseException")) true:=L0.andThen LS
 have LC:=looks_findIn (M:=model prog w) X c.cl
 refine codeAny_call_builtin (by decide +kernel) F.entry_bexc_ga ?_
 have hk:builtinKind "BaseException.__getattribute__" = some .slot:=by decide +kernel
 have hsplit:splitId "BaseException.__getattribute__" = some ("BaseException", "__getattribute__"):=by decide +kernel
 have ha:=F.args_bexc_ga (.ref e) (.str "__class__" tk)
 simp only [checkBuiltinCall,hk,hsplit]
 refine wpAny_bind (LI.at ?_)
 unfold argsOk at ha
 simp only [abu,aaY,if_false]
 refine wpAny_of_eq ha ?_
 have hT5:(⟨hh,g,d,t,os⟩:Shared).TypeIs (.builtin "object.__class__") "getset_descriptor" := F.typeOf_object_class
 have f5:=F.typeOf_object_class
 have f6:=F.slot_gs_get.lookup
 have f7:=F.slot_gs_set.lookup
 repeat (any_goals (first | assumption | refine L0.at ?_ | refine wpAny_bind (L0.at ?_) | refine LC.at ?_ | refine wpAny_bind (LC.at ?_) | wp_step))
 exact QG X I c (wpAny_pure h)
theorem Ow {Q:Option Value->Shared->Prop} (X:K.In s.heap) (I:XAt e C s.heap) (c:XCls K C) (h:Q (some (.ref C)) { s with toks:=s.toks + 1 }) :
  wpAny (model prog w) A (getAttr? (.ref e) "__class__") Q E s:=by
 obtain ⟨hh,g,d,t,os⟩:=s
 have L0:=I.type (M:=model prog w)
 have LG:=looks_findIn (M:=model prog w) X c.ga
 have LN:=looks_findIn (M:=model prog w) X c.gn
 have fb1:=F.excAttr_ValueError.ga.bind (.ref e)
 unfold getAttr? getAttrBy? getAttrBy
 repeat (first | refine wpAny_bind (L0.at ?_) | refine wpAny_bind (LG.at ?_) | refine wpAny_bind (LN.at ?_) | refine LN.at ?_ | wp_step)
 exact Ov (s:=⟨hh,g,d,t + 1,os⟩) X I c (handed_on rfl (wpAny_pure h))
theorem MJ (c:XCls K C):KitX K (.ref e) (.ref C) (XAt e C) where
 ty:=fun _ _ _ I=>I.type
 it:=fun M h X _=>by
  have hc:=c.cc
  unfold clsIn at hc
  split at hc
  ·rename_i ho
   intro A' Q' E' s' k q
   unfold isType loadHead
   exact wpAny_bind (wpAny_loadPart (k _ _ (X _ _ ho)) (wpAny_pure q))
  ·cases hc
 ne:=fun h tp dd its n sl X htp=>by
  refine Bool.eq_false_iff.mpr fun q=>?_
  have e:C=tp:=Value.ref.inj (beq_iff_eq.mp q)
  subst e
  have hc:=c.cc
  unfold clsIn at hc
  split at hc
  ·rename_i ho
   have z:=(X _ _ ho).symm.trans htp
   cases z
  ·cases hc
 ca:=fun X I k=>Ow X I c k
end
noncomputable def xO (a C:Addr):HO:=.ext (XAt a C)
noncomputable def dO (a:Addr):HO:=.ext (KitAt a "dict")
inductive TyX (K:Frag) (H:Hp):V->Value->Prop where
 | dct {a:Addr} (y:H a=some (dO a)):TyX K H (.ref a) (.type "dict")
 | of {x:V} {t:Value} (y:TyOf K H x t):TyX K H x t
 | exc {a C:Addr} (y:H a=some (xO a C)) (c:XCls K C):TyX K H (.ref a) (.ref C)
noncomputable def clV:V->Option Value
 | .ty n=>some (.type n)
 | .ref C=>some (.ref C)
 | _=>none
noncomputable def TQ (K:Frag):List V->Hp->VK->Prop:=fun xs H Q=>∃ x c cv t b,xs=[x,c]/\clV c=some cv/\TyX K H x t/\kitOne K t cv=some b/\Q (.bl b) H
theorem MK {X:Cx}:CI X (.builtin "isinstance") (TQ X.K):=by
 intro pins s σ H xs us Q I r h
 obtain ⟨x,c,cv,t,b,rfl,hc,ty,e,q⟩:=h
 obtain ⟨u,w',rfl,ru,rw'⟩:=Sq r
 have ec:w'=cv:=by
  cases c with
  | ty n=>cases hc; exact rw'
  | ref C=>cases hc; exact rw'
  | _=>cases hc
 subst ec
 have fin:∀ tk,EP X pins σ Q (.bool b) { s with toks:=tk }:=fun tk=>⟨.bl b,H,I.tok tk,rfl,q⟩
 cases ty with
 | @dct a y =>
  cases (show u=Value.ref a from ru)
  exact kia_one kitx_dict I.kIn (I.hok a _ y).1 e (fun z=>nomatch z) fin
 | of y=>exact Ld I ru y e fin
 | @exc a C y c =>
  cases (show u=Value.ref a from ru)
  exact kia_one (MJ c) I.kIn (I.hok a _ y).1 e (fun z=>nomatch z) fin
noncomputable def QH:TE:=fun _ H Q=>∀ a,H a=none->Q (.ref a) (upd H a (dO a))
theorem QI {X:Cx} {pos:Pos}:PE X (.Dict [] [] pos) QH:=fun pins s σ H Q I h =>
 wpAny_Dict_empty ⟨.ref s.heap.objs.size,_,I.laid (a:=s.heap.objs.size) (o:=dO s.heap.objs.size) (t':=s.toks) (fun _ _ q=>Heap.get?_push_of_some _ q) (aaj _) ⟨⟨_,Heap.get?_push_size _ rfl,rfl⟩,⟨_,Heap.get?_push_size _ rfl⟩,fun h1 h2 ⟨o,e1,e2⟩ k=>⟨o,k o e1,e2⟩⟩,rfl,h _ (I.hok.fresh (aaj _))⟩
noncomputable def QJ:V->List V->Hp->VK->Prop:=fun x xs H Q=>∃ (a:Addr) (bs:List Bool) (k:Bool),x=.ref a/\xs=[.bl k]/\Rd H a (.lst (bs.map V.bl))/\Q (.int ((bs.filter (·==k)).length:Nat)) H
theorem F3:∀ {bs:List Bool} {its:List Value},Vals (bs.map V.bl) its->its=bs.map Value.bool
 | [],its,h=>by cases h; rfl
 | C :: r,its,h=>by
  cases h with
  | cons h1 h2 =>
   rw [F3 (bs:=r) h2]
   cases (show _=Value.bool C from h1)
   rfl
theorem EH (k:Bool):∀ bs:List Bool,(bs.map Value.bool).countP (isBoolOf k)=(bs.filter (·==k)).length
 | []=>rfl
 | b :: r=>by
  rw [aar,List.countP_cons,EH k r,List.filter_cons]
  show _ + (if (b==k)=true then 1 else 0)=_
  cases b==k <;> simp
theorem ML {X:Cx}:MtR X "list.count" QJ:=by
 intro pins s σ H x xs v us Q I rx rv h
 obtain ⟨a,bs,k,rfl,rfl,hR,q⟩:=h
 cases rx
 obtain ⟨u,rfl,ru⟩:=rv.one
 cases (show u=Value.bool k from ru)
 obtain ⟨its,n,rel,dd,sl,ho⟩:∃ (its:List Value) (n:Nat),Vals (bs.map V.bl) its/\∃ dd sl,s.heap.get? a=some { cls:=.type "list",dict:=dd,data:=.seq its.toArray n,slots:=sl }:=by
  rcases hR with e | ⟨o,e⟩
  ·obtain ⟨_,its,n,r,e⟩:=I.hok a _ e
   exact ⟨its,n,r,_,_,e⟩
  ·obtain ⟨_,_,its,n,r,e⟩:=I.hok a _ e
   exact ⟨its,n,r,_,_,e⟩
 cases F3 rel
 refine call_meets PySem.F.slot_list_count ⟨_,ho,rfl⟩ PySem.F.entry_list_count (PySem.F.args_list_count_2 _ _) (PySem.SeqAt.list_countAt a _ n dd sl (.bool k) (isBoolOf k)) ⟨ho,fun y hy=>?_,?_⟩
 ·have:y ∈ bs.map Value.bool:=by simpa using hy
  obtain ⟨b,_,rfl⟩:=aaG.mp this
  exact PySem.SeqAt.EqAt.bool_bool b k
 ·show EP X pins σ Q (.int (((bs.map Value.bool).countP (isBoolOf k):Nat):Int) s.toks) _
  rw [EH]
  exact ⟨.int _,H,I.tok _,⟨_,rfl⟩,q⟩
theorem ObjOk.there {P:Program} {w:World} {H:Hp} {h:Heap} {a:Addr} {o:HO} (x:ObjOk P w H h a o):∃ ob,h.get? a=some ob:=by
 induction o with
 | lst xs=>obtain ⟨_,_,_,_,e⟩:=x; exact ⟨_,e⟩
 | tup xs=>obtain ⟨_,_,_,ob,e,_⟩:=x; exact ⟨_,e⟩
 | dK kvs=>obtain ⟨_,_,_,_,ob,_,_,e,_⟩:=x; exact ⟨_,e⟩
 | dT kvs=>obtain ⟨_,_,_,_,ob,_,_,e,_⟩:=x; exact ⟨_,e⟩
 | set S n=>obtain ⟨ob,_,_,_,e,_⟩:=x; exact ⟨_,e⟩
 | ins C dx fs=>obtain ⟨_,_,_,e,_⟩:=x; exact ⟨_,e⟩
 | own y=>exact x
 | xd fs=>obtain ⟨_,⟨od,_,_,e,_⟩,_⟩:=x; exact ⟨_,e⟩
 | rng lo hi=>obtain ⟨_,_,_,e⟩:=x; exact ⟨_,e⟩
 | frz ob u _=>exact ⟨_,x.1⟩
 | tbl ps=>exact ⟨_,x⟩
 | met f y=>exact ⟨_,x⟩
 | ext φ=>exact x.2.1
theorem HOk.hide {P:Program} {w:World} {H:Hp} {h:Heap} (x:HOk P w H h) {fs:List Addr} (hf:∀ b ∈ fs,H b=none):HOk P w H (hideAll h fs):=fun a o e =>
 (x a o e).stay (fun b u hb q=>hideAll_get _ q fun z=>by
  have n:=hf b z
  rcases hb with rfl | hb
  ·rw [n] at e; cases e
  ·rw [n] at hb; cases hb) (fun _ q=>q) fun _ _ q=>q
noncomputable def CXe (P:Program) (w:World):CXT:=fun outer H s E ev s'=>∃ (e:Addr) (cls a0:Value) (H':Hp) (B:Heap),ev=.ref e/\s'.os=s.os/\AllBare s'.gens/\Heap.FlyingW B outer e cls a0 s'.heap/\HOk P w H' B/\H' e=none /\
 (∀ b o,s.heap.get? b=some o->H b=none->b ∉ frs outer->B.get? b=some o)/\(∀ b o,s.heap.get? b=some o->H b=none->b ∈ frs outer->∃ sl,s'.heap.get? b=some { o with slots:=sl }) /\
 (∀ b o,s.heap.get? b=some o->H b=none->H' b=none)/\(∀ b o,s.heap.get? b=some o->b ∉ frs outer->∃ o',B.get? b=some o') /\
 (∀ b xs,H b=some (.tup xs)->H' b=some (.tup xs))/\(∀ b o u,H b=some (.frz o u)->H' b=some (.frz o u))/\(∀ b ps,H b=some (.tbl ps)->∃ more,H' b=some (.tbl (ps ++ more)))/\E cls none H'
noncomputable def Kh (X:Cx) (E:XK):Prop:=∀ (pins:List (Addr × Obj)) (σ:St) (H:Hp) (s:Shared) (h':Heap) (e C:Addr) (vs:List Value),Inv X pins σ H s->Heap.MadeExcOf s.heap h' e (.ref C) vs->E (.ref C) none H->X.xe (.ref e) { s with heap:=h' }
section
variable {P:Program} {w:World} {K:Frag} {mg:Str->Option Value} {base:Heap} {N:List Str} {qual:Str} {scope:Scope} {f:Addr} {cd:Value} {A:Around} {outer:List Env} {s₀:Shared} {H₀:Hp} {E E':XK}
theorem MM (hE:∀ c d H,E c d H->E' c d H):Kh (AM (CXe P w) P w K mg base N qual scope f cd A outer s₀ H₀ E') E:=by
 intro pins σ H s h' e C vs I hx he
 show wpAny _ _ (leaving _ (.ref e)) _ _ _
 have hfr:∀ env ∈ (AM (CXe P w) P w K mg base N qual scope f cd A outer s₀ H₀ E').stack,∀ b,env.frame=some b->b ∈ frs (AM (CXe P w) P w K mg base N qual scope f cd A outer s₀ H₀ E').stack:=fun env h b hb=>aay.mpr ⟨env,h,hb⟩
 have hB:=I.hok.hide I.stkFree
 have hff:=funFrames_hide I.stack hfr
 have en:H e=none:=by
  cases q:H e with
  | none=>rfl
  | some o=>obtain ⟨ob,z⟩:=(I.hok e o q).there; rw [hx.new] at z; cases z
 refine wpAny_leaves_madeW (base:=hideAll s.heap (frs (AM (CXe P w) P w K mg base N qual scope f cd A outer s₀ H₀ E').stack)) I.ok.frames rfl (fun b o q=>of_hideAll _ q) hff hx fun h2 t fl _ _ up=>?_
 have sub:∀ b ∈ frs outer,b ∈ frs (AM (CXe P w) P w K mg base N qual scope f cd A outer s₀ H₀ E').stack:=fun b hb=>by
  obtain ⟨env,h1,h2⟩:=aay.mp hb
  exact aay.mpr ⟨env,aaa _ h1,h2⟩
 have nloc:∀ b o,s₀.heap.get? b=some o->b ≠ s₀.heap.objs.size:=fun b o q z=>by
  have:=Heap.lt_size q
  exact aaL _ (z ▸ this)
 have nfr:∀ b o,s₀.heap.get? b=some o->b ∉ frs outer->b ∉ frs (AM (CXe P w) P w K mg base N qual scope f cd A outer s₀ H₀ E').stack:=fun b o q hb z=>by
  obtain ⟨env,h1,h2⟩:=aay.mp z
  rcases aah.mp h1 with rfl | h1
  ·exact nloc b o q (Option.some.inj h2).symm
  ·exact hb (aay.mpr ⟨env,h1,h2⟩)
 have nx:∀ b:Addr,b ∉ (AM (CXe P w) P w K mg base N qual scope f cd A outer s₀ H₀ E').ex:=fun b z=>absurd (show b ∈ ([]:List Addr) from z) (by simp)
 refine ⟨e,.ref C,.ref t,H,_,rfl,I.os,I.bare,fl,hB,en,fun b o q n hb=>hideAll_get _ (I.base.keep b o q n hb (nx b)) (nfr b o q hb),fun b o q n hb=>?_,fun b o q n=>I.base.free b o q n (nx b),fun b o q hb=>?_,I.base.tups,I.base.frzs,I.base.tbls,hE _ _ _ he⟩
 ·obtain ⟨sl,e1⟩:=I.base.slot b o q n hb (nx b)
  obtain ⟨⟨hn,o2,ho2,hnf⟩⟩:=And.intro (I.stack.mem (sub b hb)) trivial
  rw [e1] at ho2
  cases ho2
  obtain ⟨sl2,e2⟩:=up b _ (hx.keeps b _ e1) hnf
  exact ⟨sl2,e2⟩
 ·obtain ⟨o',e1⟩:=I.base.there b o q (nx b)
  exact ⟨o',hideAll_get _ e1 (nfr b o q hb)⟩
theorem Sv (hE:∀ c d H,E c d H->E' c d H):QA (CXe P w) (AM (CXe P w) P w K mg base N qual scope f cd A outer s₀ H₀ E') E:=by
 intro pins σ H s ev s' I h
 obtain ⟨e,cls,a0,H',B,rfl,ho,hg,fl,hok,en,keep,slot,free,there,tups,frzs,tbls,he⟩:=h
 show wpAny _ _ (leaving _ (.ref e)) _ _ _
 refine wpAny_leaves_onW (base:=B) I.ok.frames rfl fl fun h2 fl2 up=>?_
 have sub:∀ b ∈ frs outer,b ∈ frs (AM (CXe P w) P w K mg base N qual scope f cd A outer s₀ H₀ E').stack:=fun b hb=>by
  obtain ⟨env,h1,h2⟩:=aay.mp hb
  exact aay.mpr ⟨env,aaa _ h1,h2⟩
 have nfr:∀ b o,s₀.heap.get? b=some o->b ∉ frs outer->b ∉ frs (AM (CXe P w) P w K mg base N qual scope f cd A outer s₀ H₀ E').stack:=fun b o q hb z=>by
  obtain ⟨env,h1,h2⟩:=aay.mp z
  rcases aah.mp h1 with rfl | h1
  ·exact aaL _ ((Option.some.inj h2).symm ▸ Heap.lt_size q)
  ·exact hb (aay.mpr ⟨env,h1,h2⟩)
 have nx:∀ b:Addr,b ∉ (AM (CXe P w) P w K mg base N qual scope f cd A outer s₀ H₀ E').ex:=fun b z=>absurd (show b ∈ ([]:List Addr) from z) (by simp)
 have frNF:∀ b o,s'.heap.get? b=some o->b ∈ frs (AM (CXe P w) P w K mg base N qual scope f cd A outer s₀ H₀ E').stack->∃ sl,h2.get? b=some { o with slots:=sl }:=fun b o q hb=>by
  obtain ⟨hn,o2,ho2,hnf⟩:=fl.2.2.1.mem hb
  rw [q] at ho2
  cases ho2
  exact up b _ q hnf
 refine ⟨e,cls,a0,H',B,rfl,ho.trans I.os,hg,fl2,hok,en,fun b o q n hb=>keep b o (I.base.keep b o q n hb (nx b)) (I.base.free b o q n (nx b)) (nfr b o q hb),fun b o q n hb=>?_,
  fun b o q n=>?_,fun b o q hb=>?_,fun b xs q=>tups b xs (I.base.tups b xs q),fun b o u q=>frzs b o u (I.base.frzs b o u q),fun b ps q=>?_,hE _ _ _ he⟩
 ·obtain ⟨sl,e1⟩:=I.base.slot b o q n hb (nx b)
  obtain ⟨sl1,e2⟩:=slot b _ e1 (I.base.free b o q n (nx b)) (sub b hb)
  obtain ⟨sl2,e3⟩:=frNF b _ e2 (sub b hb)
  exact ⟨sl2,e3⟩
 ·obtain ⟨o',e1⟩:=I.base.there b o q (nx b)
  exact free b o' e1 (I.base.free b o q n (nx b))
 ·obtain ⟨o',e1⟩:=I.base.there b o q (nx b)
  exact there b o' e1 (nfr b o q hb)
 ·obtain ⟨m1,e1⟩:=I.base.tbls b ps q
  obtain ⟨m2,e2⟩:=tbls b _ e1
  exact ⟨m1 ++ m2,by rw [e2,Array.append_assoc]⟩
end
section
variable {X:Cx} {C:Addr} {x:Str} {e:Expr} {es:List Expr} {t:TA} {E:XK} {np cpos pos:Pos}
abbrev Gu:List Value:=[.type "ValueError",.type "Exception",.type "BaseException",.type "object"]
theorem QK {h:Heap} (KX:X.K.In h) (G:h.Ns mainGlobals X.mg) (B:∃ mb,h.Ns builtinsNs mb/\∀ x:Str,x ≠ "__name__" -> mb x=bootBuiltins x) (L:h.NoLimit) (hm:nsIn X.K mainGlobals x=some (some (.ref C))) (hC:excIn X.K C Gu "ValueError.__new__" = true) :
  OwnCls x C Gu "ValueError.__new__" X.mg h:=by
 obtain ⟨mb,Bn,hb⟩:=B
 obtain ⟨o,es,ep,ho,hd,hs,hf⟩:=id G
 have T:TopRead default (es.toList.filterMap fun d=>match d.key with | .str n _=>some n | _=>none) X.mg mb h:=⟨G,Bn,L,hb,fun y _ hy _ _ _=>by
  rw [<- hf y]
  unfold nsFind findBy
  rw [Option.map_eq_none_iff,Array.find?_eq_none]
  intro d hm hy2
  obtain ⟨n,tk,ek⟩:=hs d hm
  rw [ek] at hy2
  have en:n=y:=by simpa [Value.isStr] using hy2
  exact hy (aay.mpr ⟨d,by simpa using hm,by rw [ek,en]⟩)⟩
 exact own_of_in KX T hm hC
theorem MN (hw:Kh X E) (hc:X.calm=true) (hg:Gl X x) (hn:nsIn X.K mainGlobals x=some (some (.ref C))) (hC:excIn X.K C Gu "ValueError.__new__" = true) (ha:PA X (e :: es) t) (hd:(x==("__debug__" : Str))=false:=by decide)
  (he:starEach (e :: es) X.env=(false,eval e X.env) :: starEach es X.env:=by rfl) (hpl:(backTo cpos (starEach es X.env)).any (·.1)=false:=by rfl) :
  PS X (.Raise (some (.Call (.Name x np) (e :: es) [] cpos)) none pos) (fun D σ H=>t σ H fun vs H1=>vs.length<=sizeLine/\E (.ref C) none H1):=by
 intro pins s σ H D I h
 have O:=QK (X:=X) I.mod.kin I.mod.glob I.mod.blt I.mod.nolimit hn hC
 obtain ⟨bm,N',nm,q,bs,hdct,sn,sub,ab,col,dd,k0,k1,k2,k3,k5,mN,hCo,hN,hni,T⟩:=O.obj
 refine wpAny_Raise_call_subT (nm:=nm) (q:=q) (N:=N') (bs:=bs) (bm:=bm) (hdct:=hdct) (sn:=sn) (sub:=sub) (ab:=ab) (col:=col) (dd:=dd) (k0:=k0) (k1:=k1) (k2:=k2) (k3:=k3) (k5:=k5) PySem.F.excBase_ValueError (mN:=mN) (T.hasType rfl) (I.ok.hd hc) (by rw [he]; exact hpl) hni (Fb I hg O.bound ⟨rfl,?_⟩ hd)
 have h2:=ha cpos pins s σ H _ I h
 rw [he] at h2 ⊢
 exact Calls.evalArgs_plain (thn h2 fun us s1 ⟨vs,H1,I1,r,q⟩=>⟨rfl,r.length ▸ q.1,I1.bk _ _ hCo,hN.keeps I1.bk,T.keeps I1.bk,fun h' ex hx=>hw pins σ H1 s1 h' ex C us I1 hx q.2⟩)
end
noncomputable abbrev EXT:=St->XK
noncomputable def Dn (CX:CXT) (X:Cx) (E:EXT):Prop:=∀ (pins:List (Addr × Obj)) (σ:St) (H:Hp) (s:Shared) (e:Value) (s':Shared),Inv X pins σ H s->CX X.stack H s (E σ) e s'->X.xe e s'
noncomputable def Lo (sp:Sp) (dvs:List V) (E:EXT) (t:TA):TE:=fun σ H Q=>t σ H fun vs H1=>sp (vs ++ dvs) H1 Q (E σ)
section
variable {X:Cx} {CX:CXT} {k:Nat} {f:Addr} {fd:FuncData} {ps:List Str} {sp:Sp} {dvs:List V} {ds:List Value} {E:EXT} {x:Str} {p pos:Pos} {e:Expr} {es:List Expr} {t:TA}
theorem MO (F:FnOk X.prog X.w X.K X.mg X.base CX k f fd ps sp) (hr:Room k X.A) (hg:Gl X x) (hm:X.mg x=some (.ref f)) (hk:PySem.W.keepIn X.K (.ref f)=true) (hb:Binds X.K fd ps ds) (hd:Vals dvs ds) (hx:Dn CX X E)
  (ha:PA X (e :: es) t) (hdb:(x==("__debug__" : Str))=false:=by decide) (he:starEach (e :: es) X.env=(false,eval e X.env) :: starEach es X.env:=by rfl) (hpl:(backTo pos (starEach es X.env)).any (·.1)=false:=by rfl) :
  PE X (.Call (.Name x p) (e :: es) [] pos) (Lo sp dvs E t):=by
 intro pins s σ H Q I h
 refine wpAny_Call_Name_kw (Fb I hg hm ?_ hdb)
 refine PySem.W.callWith_K (h₀:=X.base) I.ok.mod.kin hk (thn (ha pos pins s σ H _ I h) fun us s1 ⟨vs,H1,I1,r,q⟩=>⟨I1.kIn,?_⟩) he hpl
 have r2:Vals (vs ++ dvs) (us ++ ds):=r.append hd
 have hl:(us ++ ds).length=ps.length:=r2.length ▸ F.len _ _ _ _ q
 refine wpAny_call (codeAny_mono (F.run X.A X.stack s1 H1 ⟨us,[]⟩ (us ++ ds) (vs ++ dvs) Q (E σ) hr I1.env0 (hb s1 us I1.kIn hl) r2 q) fun rr s' hq=>?_)
 rcases rr with ev | fl
 ·exact hx pins σ H1 s1 ev s' I1 hq
 ·cases fl with
  | ret u=>exact I1.after hq
  | next=>exact False.elim hq
  | brk=>exact False.elim hq
  | cont=>exact False.elim hq
end
noncomputable def Cx.inX (X:Cx) (e:Addr):Cx:={ X with A:=X.A.mark (some (.ref e)),calm:=false,xe:=fun _ _=>False }
theorem Cx.Ok.inX {X:Cx} (ok:X.Ok) (e:Addr):(X.inX e).Ok :=
 ⟨ok.mod,ok.kind,ok.glob,ok.blt,ok.above,ok.inj,ok.has,ok.cab,fun z=>(nomatch z),ok.frames,ok.stk,ok.exf,ok.bs,ok.bsz,ok.noex,ok.exfs,ok.funs,ok.frf⟩
theorem Inv.inX {X:Cx} {pins:List (Addr × Obj)} {σ:St} {H:Hp} {s:Shared} (I:Inv X pins σ H s) (e:Addr):Inv (X.inX e) pins σ H s:=⟨I.ok.inX e,I.os,I.bare,I.base,I.loc,I.cell,I.free,I.freeC,I.pin,I.hok,I.len⟩
theorem Inv.outX {X:Cx} {pins:List (Addr × Obj)} {σ:St} {H:Hp} {s:Shared} {e:Addr} (ok:X.Ok) (I:Inv (X.inX e) pins σ H s):Inv X pins σ H s:=⟨ok,I.os,I.bare,I.base,I.loc,I.cell,I.free,I.freeC,I.pin,I.hok,I.len⟩
noncomputable abbrev WT:=Value->Shared->Prop
noncomputable abbrev PT0:=List (Addr × Obj)
noncomputable def QL (K:Frag) (c:Value) (i:Nat) (tb:EXT->WT->PT0->TS) (th:Addr->TS) (te:TS):TS:=fun D σ H=>∀ (W:WT) (pn:PT0),
 tb (fun σ1 cls _ H1=>∃ C,cls=.ref C/\exmOne K (.ref C) c=some true/\∀ e,H1 e=none->th e { nx:=fun σ2 H2=>D.nx (σ2.set i none) H2,rt:=D.rt } (σ1.set i (some (.ref e))) (upd H1 e (xO e C))) W pn { D with nx:=te D } σ H
noncomputable abbrev Cx.inT (X:Cx) (W:Value->Shared->Prop) (pn:List (Addr × Obj)):Cx:={ X with xe:=W,pn:=pn }
theorem Cx.Ok.inT {X:Cx} (ok:X.Ok) (W:Value->Shared->Prop) (pn:List (Addr × Obj)):(X.inT W pn).Ok :=
 ⟨ok.mod,ok.kind,ok.glob,ok.blt,ok.above,ok.inj,ok.has,ok.cab,ok.hd,ok.frames,ok.stk,ok.exf,ok.bs,ok.bsz,ok.noex,ok.exfs,ok.funs,ok.frf⟩
theorem Inv.intoT {X:Cx} {pins:List (Addr × Obj)} {σ:St} {H:Hp} {s:Shared} (I:Inv X pins σ H s) (W:Value->Shared->Prop):Inv (X.inT W (X.pn ++ pins)) [] σ H s :=
 ⟨I.ok.inT W _,I.os,I.bare,I.base,I.loc,I.cell,I.free,I.freeC,fun p hp=>I.pin p (by rcases aac.mp hp with z | z; exact z; cases z),I.hok,I.len⟩
theorem Inv.outT {X:Cx} {pins pins':List (Addr × Obj)} {σ:St} {H:Hp} {s:Shared} {W:Value->Shared->Prop} (ok:X.Ok) (I:Inv (X.inT W (X.pn ++ pins)) pins' σ H s):Inv X pins σ H s :=
 ⟨ok,I.os,I.bare,I.base,I.loc,I.cell,I.free,I.freeC,fun p hp=>I.pin p (aat _ hp),I.hok,I.len⟩
section
variable {X:Cx} {pins:List (Addr × Obj)} {σ:St} {H:Hp} {s:Shared}
theorem Jz {M:Model} {A:Around} {E:Value->Shared->Prop} {i:Nat} {n:Str} {pos:Pos} {Q:Unit->Shared->Prop} (I:Inv X pins σ H s) (hN:X.N.Nodup) (hi:X.N[i]?=some n) (hk:X.env.kindOf n=some .local)
  (h:∀ s',Inv X pins (σ.set i none) H s'->Q () s'):wpAny M A (do bindName X.env n .none; unbindBehindTheSuite X.env n pos) Q E s:=by
 obtain ⟨m,hn,hl⟩:=id I.loc
 have hcls:(X.env.scope.kind==.class || (X.env.scope.kind==.module && X.env.locals != X.env.globals))=false:=by rw [I.ok.kind]; rfl
 obtain ⟨oL,_,_,hoL,_⟩:=id hn
 have ab:=I.ok.above
 refine wpAny_nameGoes_keeps hk hn hcls fun h' v hn' hs=>h _ ⟨I.ok,I.os,I.bare,⟨fun b o e n hb hx=>?_,fun b o e n hb hx=>?_,I.base.free,fun b o e hx=>?_,I.base.tups,I.base.frzs,I.base.tbls⟩,⟨_,hn',fun j y v' e1 e2 e3=>?_⟩,fun y c e=>?_,I.free,I.freeC,fun p hp=>?_,fun b ob e=>?_,by simpa using I.len⟩
 ·exact (hs.2 b (aax (aaq (Heap.lt_size e) ab))).trans (I.base.keep b o e n hb hx)
 ·obtain ⟨sl,e1⟩:=I.base.slot b o e n hb hx
  exact ⟨sl,(hs.2 b (aax (aaq (Heap.lt_size e) ab))).trans e1⟩
 ·obtain ⟨o',e1⟩:=I.base.there b o e hx
  exact ⟨o',(hs.2 b (aax (aaq (Heap.lt_size e) ab))).trans e1⟩
 ·have hj:j ≠ i:=fun z=>by
   subst z
   rw [List.getElem?_set] at e2
   split at e2
   ·split at e2 <;> cases e2
   ·rename_i z; exact z rfl
  rw [aav (Ne.symm hj)] at e2
  obtain ⟨u',r',q⟩:=hl j y v' e1 e2 e3
  refine ⟨u',r',?_⟩
  rcases q with ⟨k,e⟩ | ⟨k,c,e,z⟩
  ·refine .inl ⟨k,?_⟩
   have:y ≠ n:=fun e=>hj (FD hN e1 (e ▸ hi))
   simp [this,e]
  ·exact .inr ⟨k,c,e,z.sameBut hs (I.cne y c e)⟩
 ·obtain ⟨w',z⟩:=I.cell y c e
  exact ⟨w',z.sameBut hs (I.cne y c e)⟩
 ·obtain ⟨e,n,ne,nf,d⟩:=I.pin p hp
  exact ⟨(hs.2 p.1 ne).trans e,n,ne,nf,d⟩
 ·refine (I.hok b ob e).stay (fun c w' hc q=>(hs.2 c ?_).trans q) (fun _ q=>q) fun _ _ q=>q
  rintro rfl
  have hfree:=I.free
  rcases hc with rfl | hc
  ·rw [hfree] at e; cases e
  ·rw [hfree] at hc; cases hc
theorem Inv.landed {s':Shared} {h5 B:Heap} {e C:Addr} {a0:Value} {H':Hp} (I:Inv X pins σ H s) (hs:X.stack=X.env :: X.outer) (hf:X.env.frame=some X.env.locals) (ho:s'.os=s.os) (hg:AllBare s'.gens)
  (fl:Heap.FlyingW B X.stack e (.ref C) a0 h5) (up:s'.heap.UpToSlots h5) (fl0:Heap.FlyingW B X.stack e (.ref C) a0 s'.heap) (hok:HOk X.prog X.w H' B) (en:H' e=none)
  (keep:∀ b o,s.heap.get? b=some o->H b=none->b ∉ frs X.stack->B.get? b=some o) (slot:∀ b o,s.heap.get? b=some o->H b=none->b ∈ frs X.stack->∃ sl,s'.heap.get? b=some { o with slots:=sl })
  (free:∀ b o,s.heap.get? b=some o->H b=none->H' b=none) (there:∀ b o,s.heap.get? b=some o->b ∉ frs X.stack->∃ o',B.get? b=some o')
  (tups:∀ b xs,H b=some (.tup xs)->H' b=some (.tup xs)) (frzs:∀ b o u,H b=some (.frz o u)->H' b=some (.frz o u)) (tbls:∀ b ps,H b=some (.tbl ps)->∃ more,H' b=some (.tbl (ps ++ more))) {t':Nat} :
  Inv X pins σ (upd H' e (xO e C)) { s' with heap:=h5,toks:=t' }:=by
 have mem:∀ b,b ∈ frs X.stack ↔ b=X.env.locals\/b ∈ X.fs:=fun b=>by
  rw [hs]; unfold frs Cx.fs frs
  rw [aa6,hf]
  exact aah
 have frs5:∀ b o,s.heap.get? b=some o->H b=none->b ∈ frs X.stack->∃ sl,h5.get? b=some { o with slots:=sl }:=fun b o q n hb=>by
  obtain ⟨sl,e1⟩:=slot b o q n hb
  obtain ⟨_,o2,ho2,hnf⟩:=fl0.2.2.1.mem hb
  rw [e1] at ho2
  cases ho2
  obtain ⟨sl2,e2⟩:=up b _ e1 hnf
  exact ⟨sl2,e2⟩
 have nee:∀ b,b ∈ frs X.stack->b ≠ e:=fun b hb z=>by
  subst z
  obtain ⟨_,o2,ho2,hnf⟩:=fl.2.2.1.mem hb
  obtain ⟨oe,vs,h1,_,h2,_⟩:=fl.first
  rw [h1] at ho2
  cases ho2
  exact hnf vs h2
 have upne:∀ b o,H' b=some o->(upd H' e (xO e C)) b=some o:=fun b o q=>by rw [Af (fun z=>by subst z; rw [en] at q; cases q)]; exact q
 have neo:∀ b o,s.heap.get? b=some o->H b=none->b ≠ e:=fun b o q n=>by
  by_cases hb:b ∈ frs X.stack
  ·exact nee b hb
  ·intro z; subst z
   have:=keep b o q n hb
   rw [fl.2.1] at this; cases this
 obtain ⟨hh,g2,d2,t2,os2⟩:=s'
 obtain rfl:os2=s.os:=ho
 show Inv X pins σ _ { s with heap:=h5,gens:=g2,drawn:=d2,toks:=t' }
 refine I.step (h':=h5) (g':=g2) (d':=d2) (t':=t') (ch:=[]) (fun b z=>absurd z (by simp)) (fun b o hb hbf _ q n=>fl.1 b o (keep b o q n fun z=>?_)) (fun b o hb hbf _ q n=>frs5 b o q n ((mem b).mpr (.inr hbf))) (fun b o _ q n=>?_) (fun b o _ q=>?_)
  (fun b xs q=>upne b _ (tups b xs q)) (fun b o u q=>upne b _ (frzs b o u q)) (fun b ps q=>?_) (fun m hn=>?_) ?_ hg
 ·rcases (mem b).mp z with z | z
  ·exact hb z
  ·exact hbf z
 ·rw [Af (neo b o q n)]; exact free b o q n
 ·by_cases hb:b ∈ frs X.stack
  ·have n:H b=none:=I.stkFree b hb
   obtain ⟨sl,e2⟩:=frs5 b o q n hb
   exact ⟨_,e2⟩
  ·obtain ⟨o',e1⟩:=there b o q hb
   exact ⟨o',fl.1 b o' e1⟩
 ·obtain ⟨m2,e2⟩:=tbls b ps q
  exact ⟨m2,upne b _ e2⟩
 ·obtain ⟨oL,es,ep,hoL,hd,hk,hm⟩:=hn
  obtain ⟨sl,e2⟩:=frs5 _ _ hoL I.free ((mem _).mpr (.inl rfl))
  exact ⟨_,es,ep,e2,hd,hk,hm⟩
 ·intro b o q
  by_cases hb:b=e
  ·subst hb
   rw [Ak] at q
   cases q
   obtain ⟨oe,h1,h2⟩:=fl.there
   exact ⟨⟨oe,h1,h2⟩,⟨oe,h1⟩,fun h1 h2 ⟨o,e1,e2⟩ k=>⟨o,k o e1,e2⟩⟩
  ·rw [Af hb] at q
   refine (hok b o q).stay (fun c u _ z=>fl.1 c u z) (fun c z=>upne c _ z) fun c xs z=>upne c _ z
theorem QM {body suite orelse:List Stmt} {b₀:Stmt} {n x:Str} {np hpos pos:Pos} {i:Nat} {c:Value} {tb:EXT->WT->PT0->TS} {th:Addr->TS} {te:TS} (hc:X.calm=true) (hs:X.stack=X.env :: X.outer) (hf:X.env.frame=some X.env.locals)
  (hN:X.N.Nodup) (hi:X.N[i]?=some n) (hk:X.env.kindOf n=some .local) (hg:Gl X x) (hm:X.mg x=some c)
  (hb:∀ (E:EXT) (W:Value->Shared->Prop) (pn:List (Addr × Obj)),Dn (CXe X.prog X.w) (X.inT W pn) E->PSs (X.inT W pn) body (tb E W pn)) (hh:∀ e,PSs (X.inX e) (b₀ :: suite) (th e)) (ho:PSs X orelse te)
  (hd:(x==("__debug__" : Str))=false:=by decide) :
  PS X (.Try body [.ExceptHandler (some (.Name x np)) (some n) (b₀ :: suite) hpos] orelse [] pos) (QL X.K c i tb th te):=by
 intro pins s σ H D I h
 refine wpAny_Try_except ?_
 have I2:=I.intoT (W:=fun e s₁=>wpAny (model X.prog X.w) X.A (noteFrame e X.env) (fun _ s₂=>wpAny (model X.prog X.w) X.A (setFlight e none) (fun _ s₃=>wpAny (model X.prog X.w) X.A (handleBy e X.env [.ExceptHandler (some (.Name x np)) (some n) (b₀ :: suite) hpos]) (SP X pins D) X.xe s₃) X.xe s₂) X.xe s₁)
 refine thn (hb _ _ _ ?_ [] s σ H _ I2 (h _ _)) fun f s1 q=>?_
 ·intro pins' σ1 H1 s1 ev s' I1 hcx
  obtain ⟨e,cls,a0,H',B,rfl,hos,hgn,fl,hok,en,keep,slot,free,there,tups,frzs,tbls,C,rfl,hex,hth⟩:=hcx
  have J:Inv X pins σ1 H1 s1:=I1.outT I.ok
  have fl':Heap.FlyingW B (X.env :: X.outer) e (.ref C) a0 s'.heap:=hs ▸ fl
  refine wpAny_looks_onW (base:=B) (by rw [I.ok.frames,hs]) hf fl' fun h4 held up4=>?_
  refine wpAny_landsW held fun h5 fl5 up5=>?_
  have up45:=up4.trans up5
  have J5:=J.landed (s':=s') (h5:=h5) (t':=s'.toks) hs hf hos hgn (hs.symm ▸ fl5) up45 fl hok en keep slot free there tups frzs tbls
  refine wpAny_handleBy_cons (codeAny_handlers_test (Fb (X:=X.inX e) (J5.inX e) hg hm ?_ hd)) (by intro q; cases q)
  have LT:Looks (model X.prog X.w) h5 (typeOf (.ref e)) (.ref C):=XAt.type fl5.there
  refine (exm_one J5.kIn LT hex).here ?_
  refine codeAny_handlers_suite_as ?_
  refine lands_againW fl5 fun h6 fl6 up6=>?_
  have J6:=J.landed (s':=s') (h5:=h6) (t':=s'.toks) hs hf hos hgn (hs.symm ▸ fl6) (up45.trans up6) fl hok en keep slot free there tups frzs tbls
  refine Ei (X:=X.inX e) (v:=.ref e) (J6.inX e) hN hi (.inl hk) rfl (fun s7 J7=>?_) (.inr hk)
  refine wpAny_mono (hh e pins s7 _ _ _ J7 (hth e en)) (fun f s8 q8=>?_) fun _ _ z=>z.elim
  cases f with
  | next =>
   obtain ⟨σ2,H2,K2,q2⟩:=q8
   exact Jz (K2.outX I.ok) hN hi hk fun s9 K9=>⟨_,H2,K9,q2⟩
  | ret u =>
   obtain ⟨v,σ2,H2,K2,rv,q2⟩:=q8
   exact Jz (K2.outX I.ok) hN hi hk fun s9 K9=>⟨v,_,H2,K9,rv,q2⟩
  | brk =>
   obtain ⟨_,_,_,q2⟩:=q8
   exact False.elim q2
  | cont =>
   obtain ⟨_,_,_,q2⟩:=q8
   exact False.elim q2
 ·cases f with
  | next =>
   obtain ⟨σ2,H2,K2,q2⟩:=q
   exact ho pins s1 σ2 H2 D (K2.outT I.ok) q2
  | ret u =>
   obtain ⟨v,σ2,H2,K2,rv,q2⟩:=q
   exact ⟨v,σ2,H2,K2.outT I.ok,rv,q2⟩
  | brk =>
   obtain ⟨σ2,H2,K2,q2⟩:=q
   exact ⟨σ2,H2,K2.outT I.ok,q2⟩
  | cont =>
   obtain ⟨σ2,H2,K2,q2⟩:=q
   exact ⟨σ2,H2,K2.outT I.ok,q2⟩
end
noncomputable abbrev Gv (ifs:List Expr) (env:Env):Sem Bool:=forIn ifs true fun c r=>if r=true then do let ok <- isTrue c env (eval c env); pure (ForInStep.yield ok) else pure (ForInStep.yield r)
section
variable {prog:Program} {w:World} {A:Around} {R:Result->Shared->Prop} {s:Shared} {elt tg iter:Expr} {ifs:List Expr} {scope:Scope} {pos:Pos} {it acc:Value} {env:Env}
theorem EJ (I:Nat->Shared->Prop)
  (turn:∀ n s,I n s->wpAny (model prog w) A (pyNext it) (fun r s1=>match r with
   | none=>R (.ok .next) s1
   | some v=>wpAny (model prog w) A (letOwnedTupleGo tg it v) (fun _ s2=>wpAny (model prog w) A (assign tg env v) (fun _ s3=>wpAny (model prog w) A (Gv ifs env) (fun ok s4 =>
     if ok=true then wpAny (model prog w) A (eval elt env) (fun x s5=>wpAny (model prog w) A (call (.builtin "list.append") [acc,x]) (fun _ s6=>∃ m,m < n/\I m s6) (fun _ _=>False) s5) (fun _ _=>False) s4
     else ∃ m,m < n/\I m s4) (fun _ _=>False) s3) (fun _ _=>False) s2) (fun _ _=>False) s1) (fun _ _=>False) s) (n:Nat) (h:I n s) :
  codeAny (model prog w) A (.compLoop (.ListComp elt [⟨tg,iter,ifs,0⟩] scope pos) 0 it acc env) R s:=by
 refine codeAny_loop rfl I (fun k s' hk=>?_) n h
 show wpAny _ A ((compTurn (.ListComp elt [⟨tg,iter,ifs,0⟩] scope pos) 0 it acc env).onRaise (fun z=>do noteFrame z env; theTreesLotGoes z)) _ _ s'
 refine wpAny_noted ?_
 rw [compTurn_list]
 have no:∀ {Z:Value->Shared->Prop} (x:Value) (t:Shared),False->Z x t:=fun _ _ z=>z.elim
 refine wpAny_bind (wpAny_standAt ?_)
 refine wpAny_bind (wpAny_mono (turn k s' hk) (fun r s1 h1=>?_) no)
 rcases r with _ | v
 ·exact wpAny_pure h1
 ·refine wpAny_bind (wpAny_mono h1 (fun _ s2 h2=>?_) no)
  refine wpAny_bind (wpAny_mono h2 (fun _ s3 h3=>?_) no)
  refine wpAny_bind (wpAny_mono h3 (fun ok s4 h4=>?_) no)
  cases ok with
  | false=>exact wpAny_pure ⟨rfl,h4⟩
  | true =>
   refine wpAny_bind ?_
   refine wpAny_bind (wpAny_mono h4 (fun x s5 h5=>?_) no)
   exact wpAny_bind (wpAny_mono h5 (fun _ s6 h6=>wpAny_pure (wpAny_pure ⟨rfl,h6⟩)) no)
noncomputable def AH (env:Env) (names:List (Str × NameKind)) (cs:List (Str × Addr)):List (Str × Addr):=names.foldl (fun cs x=>if (x.2==NameKind.free)=true then (x.1,(env.cells.lookup x.1).getD 0) :: cs else cs) cs
theorem F5 {α β:Type} (f:α->β->Sem (ForInStep β)) (g:β->α->β):∀ (l:List α) (b:β),(∀ x ∈ l,∀ b,f x b=pure (ForInStep.yield (g b x)))->forIn l b f=pure (l.foldl g b)
 | [],b,_=>rfl
 | x :: l,b,h=>by
  rw [List.forIn_cons,h x (aab ..) b,abk]
  exact F5 f g l (g b x) fun y hy=>h y (aaa _ hy)
theorem El (h:∀ x ∈ scope.names,x.2=.free->(env.cells.lookup x.1).isSome=true):closureFor scope env=pure (AH env scope.names []):=by
 unfold closureFor AH
 dsimp only
 rw [F5 _ (fun cs x=>if (x.2==NameKind.free)=true then (x.1,(env.cells.lookup x.1).getD 0) :: cs else cs)]
 ·rfl
 ·rintro ⟨n,k⟩ hx cs
  by_cases hk:(k==NameKind.free)=true
  ·obtain ⟨c,hc⟩:=aaB.mp (h (n,k) hx (beq_iff_eq.mp hk))
   have hc':List.lookup n env.cells=some c:=hc
   dsimp only
   rw [if_pos hk,if_pos hk]
   unfold cellOf
   rw [hc']
   rfl
  ·dsimp only
   rw [if_neg hk,if_neg hk]
theorem An (h:∀ x ∈ scope.names,x.2=.free->(env.cells.lookup x.1).isSome=true) {x:Str} {c:Addr} (e:(AH env scope.names []).lookup x=some c):env.cells.lookup x=some c:=by
 have gen:∀ (l:List (Str × NameKind)) (cs:List (Str × Addr)),(∀ y ∈ l,y.2=.free->(env.cells.lookup y.1).isSome=true)->(∀ p ∈ cs,env.cells.lookup p.1=some p.2)->∀ p ∈ AH env l cs,env.cells.lookup p.1=some p.2:=by
  intro l
  induction l with
  | nil=>intro cs _ hc; exact hc
  | cons y l ih =>
   intro cs hl hc
   unfold AH
   rw [abk]
   refine ih _ (fun z hz=>hl z (aaa _ hz)) fun p hp=>?_
   split at hp
   ·rename_i hk
    rcases aah.mp hp with rfl | hp
    ·obtain ⟨c',hc'⟩:=aaB.mp (hl y (aab ..) (beq_iff_eq.mp hk))
     show env.cells.lookup y.1=some ((env.cells.lookup y.1).getD 0)
     rw [hc']; rfl
    ·exact hc p hp
   ·exact hc p hp
 exact gen scope.names [] h (fun p hp=>nomatch hp) (x,c) (PySem.mem_of_lookup e)
theorem BG {x:Str} {c:Addr} (hm:(x,NameKind.free) ∈ scope.names) (h:∀ x ∈ scope.names,x.2=.free->(env.cells.lookup x.1).isSome=true) (e:env.cells.lookup x=some c):(AH env scope.names []).lookup x=some c:=by
 have gen:∀ (l:List (Str × NameKind)) (cs:List (Str × Addr)),((x,NameKind.free) ∈ l\/∃ d,(x,d) ∈ cs)->∃ d,(x,d) ∈ AH env l cs:=by
  intro l
  induction l with
  | nil=>intro cs hc; rcases hc with z | z; cases z; exact z
  | cons y l ih =>
   intro cs hc
   unfold AH
   rw [abk]
   refine ih _ ?_
   rcases hc with hc | ⟨d,hc⟩
   ·rcases aah.mp hc with rfl | hc
    ·exact .inr ⟨_,by rw [if_pos (by rfl)]; exact aab ..⟩
    ·exact .inl hc
   ·refine .inr ⟨d,?_⟩
    split
    ·exact aaa _ hc
    ·exact hc
 obtain ⟨d,hd⟩:=gen scope.names [] (.inl hm)
 cases q:(AH env scope.names []).lookup x with
 | none =>
  rw [List.lookup_eq_none_iff] at q
  have:=q _ hd
  simp at this
 | some c'=>exact (An h q).symm.trans e ▸ rfl
end
structure Bk where
 (C:Addr)
 (fp:List Addr)
 (s:Shared)
 (H:Hp)
noncomputable abbrev Cx.blk (X:Cx) (scope:Scope) (C:Addr) (fp:List Addr) (N:List Str) (s:Shared) (H:Hp):Cx :=
 { X with N:=N,s₀:=s,H₀:=H,env:=compEnvC scope (AH X.env scope.names []) C X.env,outer:=X.stack,ex:=fp,fn:=fun _=>false,pn:=[],xe:=fun _ _=>False }
noncomputable def PTs (X:Cx) (ifs:List Expr) (t:TT):Prop :=
 ∀ (pins:List (Addr × Obj)) (s:Shared) (σ:St) (H:Hp) (Q:Bool->Hp->Prop),Inv X pins σ H s->t σ H Q->wpAny (model X.prog X.w) X.A (Gv ifs X.env) (TP X pins σ Q) X.xe s
noncomputable def F6:TT:=fun _ H Q=>Q true H
theorem Fe {X:Cx}:PTs X [] F6:=fun _ _ _ H _ I h=>wpAny_tests_nil ⟨H,I,h⟩
noncomputable def Ap (nl:Nat) (fr:List Nat) (σ:St):St:=aaf nl none ++ fr.map fun j=>(σ[j]?).join
noncomputable def F7 (nl:Nat) (fr:List Nat) (wi:TI) (gz:Bk->TG) (tcz:Bk->TT) (tez:Bk->TE):TE:=fun σ H Q=>wi σ H fun J H1=>∀ (z:Bk) (D:Addr),H1 D=none->∃ W:Nat->Nat->List V->Hp->Prop,(∃ m,W 0 m [] (upd H1 D (.lst [])))/\∀ i m acc H2,W i m acc H2 ->
 H2 D=some (.lst acc)/\((J.stop i H2/\Q (.ref D) H2)\/(J.go i H2/\∀ x H3,J.yld i H2 x H3->gz z x (Ap nl fr σ) H3 fun σ4 H4=>tcz z σ4 H4 fun b H5 =>
  if b=true then tez z σ4 H5 fun v H6=>H6 D=some (.lst acc)/\acc.length < sizeLine/\∃ m',m' < m/\W (i + 1) m' (acc ++ [v]) (upd H6 D (.lst (acc ++ [v]))) else ∃ m',m' < m/\W (i + 1) m' acc H5))
theorem Ox {X:Cx} {elt tg iter:Expr} {ifs:List Expr} {scope:Scope} {pos:Pos} {wi:TI} {gz:Bk->TG} {tcz:Bk->TT} {tez:Bk->TE} (loc:List Str) (fr:List Nat) (frn:List Str) (hc:X.calm=true) (hi:PI X tg iter wi)
  (hfr:∀ (j:Nat) (k:Nat) (x:Str),fr[j]?=some k->frn[j]?=some x->X.N[k]?=some x/\X.env.kindOf x=some .cell/\(x,NameKind.free) ∈ scope.names) (hln:frn.length=fr.length)
  (hcell:∀ y ∈ scope.names,y.2 ≠ .cell) (hkind:scope.kind=.function) (hnames:∀ y ∈ scope.names,y.2=.local->scope.names.lookup y.1=some .local) (hfree:∀ y ∈ scope.names,y.2=.free->X.env.kindOf y.1=some .cell)
  (hkin:∀ (x:Str),x ∈ frn->(relabel scope X.env).names.lookup x=some .cell) (hsc:X.env.scope.kind=.function)
  (hgk:∀ (z:Bk) (v:V) (σ:St) (H:Hp) (Q:St->Hp->Prop),gz z v σ H Q->gz z v σ H fun σ' H'=>Q σ' H'/\σ'.length=σ.length/\∀ i,loc.length<=i->σ'[i]?=σ[i]?)
  (hblk:∀ (z:Bk),PG (X.blk scope z.C z.fp (loc ++ frn) z.s z.H) tg (gz z)/\PTs (X.blk scope z.C z.fp (loc ++ frn) z.s z.H) ifs (tcz z)/\PE (X.blk scope z.C z.fp (loc ++ frn) z.s z.H) elt (tez z))
  (hs:∀ x,foldedSetIterable iter X.env x=pure x:=by intro _; rfl):PE X (.ListComp elt [⟨tg,iter,ifs,0⟩] scope pos) (F7 loc.length fr wi gz tcz tez):=by
 intro pins s σ H Q I h
 have hcs:∀ x ∈ scope.names,x.2=.free->(X.env.cells.lookup x.1).isSome=true:=fun x hx hf=>by
  obtain ⟨c,e⟩:=I.ok.has x.1 (.inl (hfree x hx hf))
  rw [e]; rfl
 rw [eval_ListComp]
 refine wpAny_comprehension_free (use:=none) rfl hs (El hcs) hkind hnames (thn (hi pins s σ H _ I h) fun v s1 h1=>thn h1 fun itv s2 h2=>?_)
 obtain ⟨it,fp,tn,J,H2,rfl,I2,T,st2,f2,q2⟩:=h2
 refine wpAny_newList (items:=[]) ?_ (by simp)
 have eD:H2 s2.heap.objs.size=none:=I2.hok.fresh (aaj _)
 have pk:∀ (o:Obj) b u,s2.heap.get? b=some u->(s2.heap.push o).get? b=some u:=fun o b u e=>Heap.get?_push_of_some _ e
 have I3:=I2.laid (a:=s2.heap.objs.size) (o:=.lst []) (t':=s2.toks) (h':=s2.heap.push { cls:=.type "list",data:=.seq ([]:List Value).toArray }) (pk _) (aaj _)
  ⟨aaA _,[],0,.nil,Heap.get?_push_size _ rfl⟩
 generalize hs3:(⟨s2.heap.push { cls:=.type "list",data:=.seq ([]:List Value).toArray },s2.gens,s2.drawn,s2.toks,s2.os⟩:Shared)=s3 at I3 ⊢
 have k3:∀ b u,s2.heap.get? b=some u->s3.heap.get? b=some u:=fun b u e=>by rw [<- hs3]; exact pk _ b u e
 have tk3:s3.os=s2.os/\s3.gens=s2.gens:=by rw [<- hs3]; exact ⟨rfl,rfl⟩
 have z3:s3.heap.objs.size=s2.heap.objs.size + 1:=by rw [<- hs3]; exact Heap.size_push ..
 refine wpAny_newFunctionEnv hcell (by intro y hy; simp at hy) (fun h4 hns hsb=>?_) hkind
 have k4:∀ b u,s3.heap.get? b=some u->h4.get? b=some u:=fun b u e=>hsb.extBut b u (aax (Heap.lt_size e)) (Heap.get?_push_of_some _ e)
 have fpl:∀ b ∈ fp,b < s2.heap.objs.size:=fun b hb=>by
  obtain ⟨o,e,_⟩:=T.obj 0 _ st2 b hb
  exact Heap.lt_size e
 obtain ⟨W,⟨m0,w0⟩,turn⟩:=q2 ⟨s3.heap.objs.size,fp,s3,upd H2 s2.heap.objs.size (.lst [])⟩ _ eD
 have ok4:(X.blk scope s3.heap.objs.size fp (loc ++ frn) s3 (upd H2 s2.heap.objs.size (.lst []))).Ok:=by
  refine ⟨I.ok.mod,hkind,I.ok.glob,I.ok.blt,aaj _,fun x y c e1 e2=>I.ok.inj x y c (An hcs e1) (An hcs e2),fun x hx=>?_,fun x c z=>(nomatch z),I.ok.hd,I.ok.frames,.inl rfl,fun b hb=>⟨?_,fun x c e=>(f2 b hb).2.2.2.2.1 x c (An hcs e)⟩,I3.bs,aao I.ok.bsz I3.sz,
   fun b o e hb=>?_,fun b hb z=>?_,I3.stack,I3.stkFree⟩
  ·have hm:(x,NameKind.free) ∈ scope.names:=by
    have:∃ k',(k'=NameKind.cell\/k'=NameKind.free)/\(relabel scope X.env).names.lookup x=some k':=by
     rcases hx with z | z
     ·exact ⟨_,.inl rfl,z⟩
     ·exact ⟨_,.inr rfl,z⟩
    obtain ⟨k',hk',z⟩:=this
    have zm:=PySem.mem_of_lookup z
    unfold relabel at zm
    obtain ⟨⟨n,k⟩,hn,e⟩:=aaG.mp zm
    dsimp only at e
    split at e
    ·rename_i hk
     cases e
     have:k=NameKind.free:=by
      cases k <;> first | rfl | (simp at hk)
     rw [<- this]; exact hn
    ·cases e
     rcases hk' with rfl | rfl
     ·exact absurd rfl (hcell _ hn)
     ·exact hn
   obtain ⟨c,e⟩:=I.ok.has x (.inl (hfree _ hm rfl))
   exact ⟨c,BG hm hcs e⟩
  ·have:=fpl b hb
   exact aax (by rw [z3]; exact abU this)
  ·rcases (f2 b hb).2.2.2.1 with z | z
   ·exact I.ok.noex b o e z
   ·exact absurd (aaq (Heap.lt_size (I.ok.bs b o e).1) z) (aaL _)
  ·have:=I2.stkSub b z
   rcases aah.mp this with rfl | y
   ·exact (f2 _ hb).2.1 rfl
   ·exact (f2 b hb).2.2.1 y
 have I4:Inv (X.blk scope s3.heap.objs.size fp (loc ++ frn) s3 (upd H2 s2.heap.objs.size (.lst []))) [] (Ap loc.length fr σ) (upd H2 s2.heap.objs.size (.lst [])) { s3 with heap:=h4,toks:=s3.toks + ([]:List (Str × Value)).length }:=by
  refine ⟨ok4,rfl,I3.bare,Un.kept k4,⟨_,hns,fun i x v e1 e2 e3=>?_⟩,fun x c e=>?_,I3.hok.fresh (aaj _),fun x c e=>I3.freeC x c (An hcs e),fun p hp=>(nomatch hp),I3.hok.kept k4,?_⟩
  ·unfold Ap at e2
   by_cases hi:i < loc.length
   ·rw [aaK (by simpa using hi),aaO] at e2
    split at e2 <;> cases e2
   ·rw [aaI (by simpa using hi),aaW,aau] at e2
    have e1':frn[i - loc.length]?=some x:=by
     have:(loc ++ frn)[i]?=some x:=e1
     rw [aaI (aa4 hi)] at this
     exact this
    cases ek:fr[i - loc.length]? with
    | none=>rw [ek] at e2; cases e2
    | some k =>
     rw [ek] at e2
     have e2':(σ[k]?).join=some v:=Option.some.inj e2
     have e2'':σ[k]?=some (some v):=by
      cases q:σ[k]? with
      | none=>rw [q] at e2'; cases e2'
      | some y=>rw [q] at e2'; exact congrArg some e2'
     obtain ⟨n1,n2,n3⟩:=hfr _ k x ek e1'
     obtain ⟨m,_,hl⟩:=I3.loc
     obtain ⟨u,ru,lk⟩:=hl k x v n1 e2'' (.inr (.inl n2))
     refine ⟨u,ru,.inr ⟨.inl (hkin x (aai e1')),?_⟩⟩
     rcases lk with ⟨z,_⟩ | ⟨_,c,ec,ic⟩
     ·rw [n2] at z; cases z
     ·obtain ⟨o,ho,hd⟩:=ic
      exact ⟨c,BG n3 hcs ec,o,k4 _ _ ho,hd⟩
  ·obtain ⟨v,o,ho,hd⟩:=I3.cell x c (An hcs e)
   exact ⟨v,o,k4 _ _ ho,hd⟩
  ·unfold Ap
   show _=(loc ++ frn).length
   rw [aal,aal,aaW,aae,hln]
 have stat:∀ {H':Hp},(∀ b ∈ fp,H' b=none)->∀ b ∈ fp,FpOk (X.blk scope s3.heap.objs.size fp (loc ++ frn) s3 (upd H2 s2.heap.objs.size (.lst []))) [] H' b:=fun hn b hb =>
  ⟨hn b hb,(ok4.exf b hb).1,ok4.exfs b hb,.inl hb,(ok4.exf b hb).2,fun p hp=>(nomatch hp)⟩
 have fp3:∀ b ∈ fp,(upd H2 s2.heap.objs.size (.lst [])) b=none:=fun b hb=>by
  rw [Af (aax (fpl b hb))]; exact (f2 b hb).1
 obtain ⟨pg,pt,pe⟩:=hblk ⟨s3.heap.objs.size,fp,s3,upd H2 s2.heap.objs.size (.lst [])⟩
 have st4:tn 0 h4:=T.keep 0 _ _ st2 fun b _ o e=>k4 b o (k3 b o e)
 have after:∀ {i:Nat} {H':Hp} {s':Shared} {acc:List V} {σ':St},Inv (X.blk scope s3.heap.objs.size fp (loc ++ frn) s3 (upd H2 s2.heap.objs.size (.lst []))) [] σ' H' s'->Q (.ref s2.heap.objs.size) H' ->
   compPost (model X.prog X.w) X.A X.xe none (EP X pins σ Q) (.ref s2.heap.objs.size) s3.heap.objs.size (.ok .next) s':=by
  intro i H' s' acc σ' I5 q
  obtain ⟨m,hn,_⟩:=I5.loc
  refine ⟨m,hn,fun h' hb=>?_⟩
  have same:∀ b o,s3.heap.get? b=some o->h'.get? b=s'.heap.get? b:=fun b o e=>hb.2 b (aax (Heap.lt_size e))
  have u:=I5.base
  have un:Un (frs X.stack) fp (upd H2 s2.heap.objs.size (.lst [])) H' s3.heap h':=⟨fun b o e n h1 h2=>(same b o e).trans (u.keep b o e n h1 h2),fun b o e n h1 h2=>by
    obtain ⟨sl,z⟩:=u.slot b o e n h1 h2
    exact ⟨sl,(same b o e).trans z⟩,u.free,fun b o e h1=>by
    obtain ⟨o',z⟩:=u.there b o e h1
    exact ⟨o',(same b o e).trans z⟩,u.tups,u.frzs,u.tbls⟩
  have hok:HOk X.prog X.w H' h':=fun b o e=>by
   have fC:H' s3.heap.objs.size=none:=I5.free
   refine (I5.hok b o e).stay (fun c w' hc z=>(hb.2 c ?_).trans z) (fun _ z=>z) fun _ _ z=>z
   rintro rfl
   rcases hc with rfl | hc
   ·rw [fC] at e; cases e
   ·rw [fC] at hc; cases hc
  exact ⟨.ref s2.heap.objs.size,H',I3.call' (s':={ s' with heap:=h' }) (ch:=fp) I5.os un hok I5.bare (fun b hb=>⟨(f2 b hb).2.2.2.1,(f2 b hb).2.1,(f2 b hb).2.2.2.2.1,(f2 b hb).2.2.2.2.2⟩),rfl,q⟩
 have loop:∀ s5:Shared,s5={ s3 with heap:=h4,toks:=s3.toks + ([]:List (Str × Value)).length } ->
   codeAny (model X.prog X.w) X.A (.compLoop (.ListComp elt [⟨tg,iter,ifs,0⟩] scope pos) 0 (.ref it) (.ref s2.heap.objs.size) (compEnvC scope (AH X.env scope.names []) s3.heap.objs.size X.env))
    (compPost (model X.prog X.w) X.A X.xe none (EP X pins σ Q) (.ref s2.heap.objs.size) s3.heap.objs.size) s5:=by
  rintro s5 rfl
  refine EJ (fun n s'=>∃ i acc H',Inv (X.blk scope s3.heap.objs.size fp (loc ++ frn) s3 (upd H2 s2.heap.objs.size (.lst []))) [] (Ap loc.length fr σ) H' s'/\tn i s'.heap/\(∀ b ∈ fp,H' b=none)/\W i n acc H') ?_ m0
   ⟨0,[],_,I4,st4,fp3,w0⟩
  rintro n s6 ⟨i,acc,H6,I6,st6,fr6,w6⟩
  obtain ⟨hD,alt⟩:=turn i n acc H6 w6
  rcases alt with ⟨stop,q⟩ | ⟨go,step⟩
  ·refine thn (T.done (X.blk scope s3.heap.objs.size fp (loc ++ frn) s3 (upd H2 s2.heap.objs.size (.lst []))) rfl rfl rfl hc i [] s6 _ H6 (fun _ _=>False) I6 (stat fr6) st6 stop) fun r s7 ⟨hr,I7⟩=>?_
   subst hr
   exact after (i:=i) (acc:=acc) I7 q
  ·refine thn (T.item (X.blk scope s3.heap.objs.size fp (loc ++ frn) s3 (upd H2 s2.heap.objs.size (.lst []))) rfl rfl rfl hc i [] s6 _ H6 (fun _ _=>False) I6 (stat fr6) st6 go) fun r s7 ⟨u,hr,h7⟩=>?_
   subst hr
   refine thn h7 fun _ s8 ⟨x,H8,I8,r8,y8,st8,fr8⟩=>?_
   have I8':=I8.pinned (stat fr8) (T.obj _ _ st8)
   have back:∀ {σ9:St} {H9:Hp} {s9:Shared},Inv (X.blk scope s3.heap.objs.size fp (loc ++ frn) s3 (upd H2 s2.heap.objs.size (.lst []))) ([] ++ Dm fp s8.heap) σ9 H9 s9->σ9.length=(Ap loc.length fr σ).length->(∀ i,loc.length<=i->σ9[i]?=(Ap loc.length fr σ)[i]?) ->
     Inv (X.blk scope s3.heap.objs.size fp (loc ++ frn) s3 (upd H2 s2.heap.objs.size (.lst []))) [] (Ap loc.length fr σ) H9 s9/\tn (i + 1) s9.heap/\(∀ b ∈ fp,H9 b=none):=by
    intro σ9 H9 s9 I9 hl hk
    refine ⟨(I9.unpinned).weak hl.symm fun j v ej=>?_,T.keep _ _ _ st8 fun b hb o e=>(I9.pin (b,o) (aag _ (aag _ (A5 hb e)))).1,fun b hb=>?_⟩
    ·by_cases hj:j < loc.length
     ·unfold Ap at ej
      rw [aaK (by simpa using hj),aaO] at ej
      split at ej <;> cases ej
     ·rw [hk j (aa4 hj)]; exact ej
    ·obtain ⟨o,e,d⟩:=T.obj _ _ st8 b hb
     exact (I9.pin (b,o) (aag _ (aag _ (A5 hb e)))).2.1
   refine thn (pg _ s8 _ H8 x u _ I8' r8 (hgk _ _ _ _ _ (step x H8 y8))) fun _ s9 ⟨σ9,H9,I9,q9,l9,k9⟩=>?_
   refine thn (pt _ s9 σ9 H9 _ I9 q9) fun ok s10 ⟨H10,I10,q10⟩=>?_
   cases ok with
   | false =>
    rw [if_neg (by decide)] at q10 ⊢
    obtain ⟨m',hm,w'⟩:=q10
    obtain ⟨b1,b2,b3⟩:=back I10 l9 k9
    exact ⟨m',hm,i + 1,acc,H10,b1,b2,b3,w'⟩
   | true =>
    rw [if_pos rfl] at q10 ⊢
    refine thn (pe _ s10 σ9 H10 _ I10 q10) fun y s11 ⟨v,H11,I11,r11,hD11,hz,m',hm,w'⟩=>?_
    refine thn (CO _ s11 σ9 H11 (.ref s2.heap.objs.size) [v] (.ref s2.heap.objs.size) [y] (fun _ H12=>W (i + 1) m' (acc ++ [v]) H12) I11 rfl (.cons r11 .nil) ⟨_,acc,v,rfl,rfl,hD11,hz,w'⟩) fun _ s12 ⟨_,H12,I12,_,w12⟩=>?_
    obtain ⟨b1,b2,b3⟩:=back I12 l9 k9
    exact ⟨m',hm,i + 1,_,H12,b1,b2,b3,w12⟩
 exact codeAny_compStart_list (loop _ rfl) (T.self X.A 0 _ _ _ st4 (loop _ rfl))
mutual
inductive RD (K:Frag) (H:Hp):V->PyData->Prop where
 | non:RD K H .non .none
 | bl (b:Bool):RD K H (.bl b) (.bool b)
 | int (i:Int):RD K H (.int i) (.int i)
 | str (x:Str):RD K H (.str x) (.str x)
 | lst {a:Addr} {xs:List V} {ds:List PyData} (h:SqL K H a xs) (r:RDs K H xs ds):RD K H (.ref a) (.list ds)
 | tup {a:Addr} {xs:List V} {ds:List PyData} (h:SqT K H a xs) (r:RDs K H xs ds):RD K H (.ref a) (.tuple ds)
inductive RDs (K:Frag) (H:Hp):List V->List PyData->Prop where
 | nil:RDs K H [] []
 | cons {x:V} {xs:List V} {d:PyData} {ds:List PyData} (h:RD K H x d) (r:RDs K H xs ds):RDs K H (x :: xs) (d :: ds)
end
section
variable {X:Cx} {pins:List (Addr × Obj)} {σ:St} {H:Hp} {s:Shared}
mutual
theorem RD.reads (I:Inv X pins σ H s):∀ {v:V} {d:PyData} {u:Value},RD X.K H v d->RelV v u->∃ as,Reads s.heap u d as
 | _,_,_,.non,r=>by cases (show _=Value.none from r); exact ⟨_,.none⟩
 | _,_,_,.bl b,r=>by cases (show _=Value.bool b from r); exact ⟨_,.bool b⟩
 | _,_,_,.int i,r=>by obtain ⟨t,q⟩:=(show ∃ t,_=Value.int i t from r); cases q; exact ⟨_,.int i t⟩
 | _,_,_,.str x,r=>by obtain ⟨t,q⟩:=(show ∃ t,_=Value.str x t from r); cases q; exact ⟨_,.str x t⟩
 | _,_,_,.lst (a:=a) h rs,r=>by
  cases (show _=Value.ref a from r)
  obtain ⟨its,rv,⟨o,n,hp,hc,_,hd⟩,_⟩:=I.list h
  obtain ⟨as,ra⟩:=RDs.reads I rs rv
  exact ⟨_,reads_list_at hp hc hd (by simpa using ra)⟩
 | _,_,_,.tup (a:=a) h rs,r=>by
  cases (show _=Value.ref a from r)
  obtain ⟨its,rv,⟨o,h1,h2,n,h3⟩,_⟩:=I.tuple h
  obtain ⟨as,ra⟩:=RDs.reads I rs rv
  exact ⟨_,reads_tuple_at h1 h2 h3 (by simpa using ra)⟩
theorem RDs.reads (I:Inv X pins σ H s):∀ {xs:List V} {ds:List PyData} {us:List Value},RDs X.K H xs ds->Vals xs us->∃ as,ReadsAll s.heap us ds as
 | _,_,_,.nil,.nil=>⟨_,.nil⟩
 | _,_,_,.cons h r,.cons q t=>by
  obtain ⟨as,e1⟩:=RD.reads I h q
  obtain ⟨bs,e2⟩:=RDs.reads I r t
  exact ⟨_,.cons e1 e2⟩
end
noncomputable def QN (K:Frag) (neg:Bool):R2:=fun x y H Q=>∃ d e,RD K H x d/\RD K H y e/\SeqAt.shaped d=true/\SeqAt.shaped e=true/\Q (.bl (if neg then !d.eqv e else d.eqv e)) H
theorem QO (hu:X.A.units + 64 < cLine):OpR X (compareOp .Eq) (QN X.K false):=by
 intro pins s σ H x y u w' Q I rx ry h
 obtain ⟨d,e,h1,h2,s1,s2,q⟩:=h
 obtain ⟨_,r1⟩:=h1.reads I rx
 obtain ⟨_,r2⟩:=h2.reads I ry
 exact eq_dataH r1 r2 s1 s2 hu ⟨.bl (d.eqv e),H,I,rfl,q⟩
theorem QP (hu:X.A.units + 64 < cLine):OpR X (compareOp .NotEq) (QN X.K true):=by
 intro pins s σ H x y u w' Q I rx ry h
 obtain ⟨d,e,h1,h2,s1,s2,q⟩:=h
 obtain ⟨_,r1⟩:=h1.reads I rx
 obtain ⟨_,r2⟩:=h2.reads I ry
 exact ne_dataH r1 r2 s1 s2 hu ⟨.bl (!d.eqv e),H,I,rfl,q⟩
noncomputable def Sw (K:Frag):List V->Hp->VK->Prop:=fun xs H Q=>∃ (l:Addr) (bs:List Bool),xs=[.ref l]/\SqL K H l (bs.map V.bl)/\Q (.bl (bs.all id)) H
theorem Gw (bs:List Bool):(abg bs.length).all (fun i=>bs.getD i false)=bs.all id:=by
 induction bs with
 | nil=>rfl
 | cons b r ih =>
  rw [aaS,ab4,aaE,aaE,ack,<- ih]
  rfl
theorem Lp (hc:X.calm=true):CI X (.builtin "all") (Sw X.K):=by
 intro pins s σ H xs us Q I r h
 obtain ⟨l,bs,rfl,hS,q⟩:=h
 obtain ⟨u,rfl,ru⟩:=DF r
 cases (show u=Value.ref l from ru)
 obtain ⟨its,rr,p,_⟩:=I.list hS
 have hl:its.length=bs.length:=by rw [<- rr.length,aae]
 refine call_all_walk (wpAny_pyIter_list p.isList ?_)
 have hne:l ≠ s.heap.objs.size:=(by obtain ⟨_,e,_⟩:=p.isList; exact aax (Heap.lt_size e))
 refine ⟨_,_,_,_,_,_,fun i=>bs.getD i false,rfl,Walks.list (A:=X.A.in1) (I.ok.hd hc) s.heap.objs.size l hne its.toArray,?_,?_,?_⟩
 ·exact ⟨⟨_,Heap.get?_push_size _ rfl,rfl,rfl⟩,p.isList.push _⟩
 ·intro i v s' Q' E' hP hQ'
  have hv:v=Value.bool (bs.getD i false):=by
   have hP':its[i]?=some v:=by simpa using hP
   have hi:i < its.length:=(aaC.mp hP').1
   have hx:(bs.map V.bl)[i]?=some (V.bl (bs.getD i false)):=by
    rw [aau,abv,aam (by omega)]
    rfl
   obtain ⟨u,e1,e2⟩:=rr.get hx
   rw [hP'] at e1
   cases e1
   exact e2
  subst hv
  exact wpAny_pure hQ'
 ·intro h' tk hk
  have e:(abg its.toArray.size).all (fun i=>bs.getD i false)=bs.all id:=by rw [aap,hl,Gw]
  rw [e]
  exact ⟨.bl _,H,I.kept (h':=h') (t':=tk) (fun b o e=>hk b o (fun hm=>by
   have hm':b=s.heap.objs.size:=by simpa using hm
   exact aaL _ (hm' ▸ Heap.lt_size e)) (Heap.get?_push_of_some _ e)),rfl,q⟩
end
section
variable {P:Program} {w:World} {K:Frag} {mg:Str->Option Value} {base:Heap}
theorem Fun.okX {x qual:Str} {st:Stmt} {f:Addr} {fd:FuncData} {N ps:List Str} {k:Nat} {sp:Sp} (F:Fun K x qual st f fd) (S:FnScope N ps (Ah st)) (len:∀ vs H Q E,sp vs H Q E->vs.length=ps.length)
  (hbody:∀ (f:Addr) (cdv:Value) (A:Around) (outer:List Env) (s:Shared) (H:Hp) (vs:List V) (Q:VK) (E:XK),Room k (A.deeper (envOfC qual (Ah st) s.heap.objs.size f cdv))->sp vs H Q E ->
   ∃ t,PSs (AM (CXe P w) P w K mg base N qual (Ah st) f cdv A outer s H E) (Ax st) t/\t { nx:=fun _ H'=>Q .non H',rt:=Q } (Au N vs) H):FnOk P w K mg base (CXe P w) (k + 1) f fd ps sp:=by
 obtain ⟨oc,od,kV,doc,pm,an,cdv,ct,osl,rfl,lk,hcd⟩:=F.ex
 exact Sr lk hcd S len fun A outer s H vs Q E hr hsp=>hbody f cdv A outer s H vs Q E hr hsp
noncomputable def Df (K:Frag) (mg:Str->Option Value) (x:Str) (st:Stmt) (ps:List Str):Prop:=∃ f fd,Fun K x x st f fd/\mg x=some (.ref f)/\Binds K fd ps []
noncomputable def Has (P:Program) (w:World) (K:Frag) (mg:Str->Option Value) (base:Heap) (x:Str) (k:Nat) (ps:List Str) (sp:Sp):Prop :=
 ∃ f fd,FnOk P w K mg base (CXe P w) k f fd ps sp/\mg x=some (.ref f)/\PySem.W.keepIn K (.ref f)=true/\Binds K fd ps []
theorem Sx {h:Heap} {x:Str} {st:Stmt} {ps:List Str} {f:Addr} {oc:Value} {od an:Option Addr} {osl:Array (Option Value)} {kV doc pm cdv ct:Value} (X:K.In h) (G:h.Ns mainGlobals mg) (a:nsIn K mainGlobals x=some (some (.ref f)))
  (l:K.lookup f=some ⟨oc,od,.func (PySem.W.fnOf x x (Bs st) (Ax st) (Ah st) .none kV doc pm an cdv ct),osl⟩) (c:PySem.W.codeIn K cdv x=true) (k:PySem.W.keepIn K (.ref f)=true)
  (hb:∀ (kV doc pm:Value) (an:Option Addr) (cdv ct:Value) (us:List Value),us.length=ps.length->bindArgs (PySem.W.fnOf x x (Bs st) (Ax st) (Ah st) .none kV doc pm an cdv ct) ⟨us,[]⟩=pure (ps.zip us)):Df K mg x st ps:=by
 have F:=Ln (st:=st) l c k
 exact ⟨f,_,F,mg_of X G a,F.binds hb⟩
end
section
variable {X:Cx} {k:Nat} {ps:List Str} {sp:Sp} {E:XK} {EX:EXT} {x:Str} {p pos:Pos} {e:Expr} {es:List Expr} {t:TA}
theorem Sy (F:Has X.prog X.w X.K X.mg X.base x k ps sp) (hr:Room k X.A) (hg:Gl X x) (hx:Dn (CXe X.prog X.w) X EX) (ha:PA X (e :: es) t) (hdb:(x==("__debug__" : Str))=false:=by decide)
  (he:starEach (e :: es) X.env=(false,eval e X.env) :: starEach es X.env:=by rfl) (hpl:(backTo pos (starEach es X.env)).any (·.1)=false:=by rfl):PE X (.Call (.Name x p) (e :: es) [] pos) (Lo sp [] EX t):=by
 obtain ⟨f,fd,F,m,kp,b⟩:=F
 exact MO F hr hg m kp b .nil hx ha hdb he hpl
end
theorem Same.new {H:Hp} {p:Addr} {o:HO} (h:H p=none):Same H (upd H p o):=fun b u e=>by rw [Af (BE e h)]; exact e
theorem Same.tup {K:Frag} {H H':Hp} {a:Addr} {xs:List V} (e:Same H H') (h:SqT K H a xs):SqT K H' a xs:=by
 rcases h with (h | ⟨o,h⟩) | h
 ·exact .inl (.inl (e _ _ h))
 ·exact .inl (.inr ⟨o,e _ _ h⟩)
 ·exact .inr h
mutual
theorem Same.rd {K:Frag} {H H':Hp} (e:Same H H'):∀ {x:V} {d:PyData},RD K H x d->RD K H' x d
 | _,_,.non=>.non
 | _,_,.bl b=>.bl b
 | _,_,.int i=>.int i
 | _,_,.str x=>.str x
 | _,_,.lst h r=>.lst (e.seq h) (Same.rds e r)
 | _,_,.tup h r=>.tup (e.tup h) (Same.rds e r)
theorem Same.rds {K:Frag} {H H':Hp} (e:Same H H'):∀ {xs:List V} {ds:List PyData},RDs K H xs ds->RDs K H' xs ds
 | _,_,.nil=>.nil
 | _,_,.cons h r=>.cons (Same.rd e h) (Same.rds e r)
end
theorem MP {X:Cx} {use:Option (Value->Sem Unit)} {R:Value->Shared->Prop} {ipos:Pos} {pins:List (Addr × Obj)} {s:Shared} {σ:St} {H:Hp} {Q:VK} {elt tg iter:Expr} {ifs:List Expr} {scope:Scope} {pos:Pos} {wi:TI} {gz:Bk->TG} {tcz:Bk->TT} {tez:Bk->TE} (loc:List Str) (fr:List Nat) (frn:List Str) (hc:X.calm=true) (hi:PI X tg iter wi)
  (hfr:∀ (j:Nat) (k:Nat) (x:Str),fr[j]?=some k->frn[j]?=some x->X.N[k]?=some x/\X.env.kindOf x=some .cell/\(x,NameKind.free) ∈ scope.names) (hln:frn.length=fr.length)
  (hcell:∀ y ∈ scope.names,y.2 ≠ .cell) (hkind:scope.kind=.function) (hnames:∀ y ∈ scope.names,y.2=.local->scope.names.lookup y.1=some .local) (hfree:∀ y ∈ scope.names,y.2=.free->X.env.kindOf y.1=some .cell)
  (hkin:∀ (x:Str),x ∈ frn->(relabel scope X.env).names.lookup x=some .cell) (hsc:X.env.scope.kind=.function)
  (hgk:∀ (z:Bk) (v:V) (σ:St) (H:Hp) (Q:St->Hp->Prop),gz z v σ H Q->gz z v σ H fun σ' H'=>Q σ' H'/\σ'.length=σ.length/\∀ i,loc.length<=i->σ'[i]?=σ[i]?)
  (hblk:∀ (z:Bk),PG (X.blk scope z.C z.fp (loc ++ frn) z.s z.H) tg (gz z)/\PTs (X.blk scope z.C z.fp (loc ++ frn) z.s z.H) ifs (tcz z)/\PE (X.blk scope z.C z.fp (loc ++ frn) z.s z.H) elt (tez z))
  (I:Inv X pins σ H s) (h:F7 loc.length fr wi gz tcz tez σ H Q)
  (haf:∀ (D C:Addr) (H':Hp) (s':Shared) (m:Str->Option Value),s'.heap.Ns C m->(∀ h',Heap.SameBut C s'.heap h'->Inv X pins σ H' { s' with heap:=h' }) ->
   (X.s₀.heap.objs.size<=C/\C ≠ X.env.locals/\(∀ x c,X.env.cells.lookup x=some c->c ≠ C)/\(∀ p ∈ X.pn ++ pins,p.1 ≠ C)/\H' C=none/\C ∉ frs X.stack)->Q (.ref D) H'->compPost (model X.prog X.w) X.A X.xe use R (.ref D) C (.ok .next) s')
  (hs:∀ x,foldedSetIterable iter X.env x=pure x):wpAny (model X.prog X.w) X.A (comprehension (.ListComp elt [⟨tg,iter,ifs,0⟩] scope pos) scope X.env ipos (newList []) false (eval iter X.env) use) R X.xe s:=by
 have hcs:∀ x ∈ scope.names,x.2=.free->(X.env.cells.lookup x.1).isSome=true:=fun x hx hf=>by
  obtain ⟨c,e⟩:=I.ok.has x.1 (.inl (hfree x hx hf))
  rw [e]; rfl
 refine wpAny_comprehension_free rfl hs (El hcs) hkind hnames (thn (hi pins s σ H _ I h) fun v s1 h1=>thn h1 fun itv s2 h2=>?_)
 obtain ⟨it,fp,tn,J,H2,rfl,I2,T,st2,f2,q2⟩:=h2
 refine wpAny_newList (items:=[]) ?_ (by simp)
 have eD:H2 s2.heap.objs.size=none:=I2.hok.fresh (aaj _)
 have pk:∀ (o:Obj) b u,s2.heap.get? b=some u->(s2.heap.push o).get? b=some u:=fun o b u e=>Heap.get?_push_of_some _ e
 have I3:=I2.laid (a:=s2.heap.objs.size) (o:=.lst []) (t':=s2.toks) (h':=s2.heap.push { cls:=.type "list",data:=.seq ([]:List Value).toArray }) (pk _) (aaj _)
  ⟨aaA _,[],0,.nil,Heap.get?_push_size _ rfl⟩
 generalize hs3:(⟨s2.heap.push { cls:=.type "list",data:=.seq ([]:List Value).toArray },s2.gens,s2.drawn,s2.toks,s2.os⟩:Shared)=s3 at I3 ⊢
 have k3:∀ b u,s2.heap.get? b=some u->s3.heap.get? b=some u:=fun b u e=>by rw [<- hs3]; exact pk _ b u e
 have tk3:s3.os=s2.os/\s3.gens=s2.gens:=by rw [<- hs3]; exact ⟨rfl,rfl⟩
 have z3:s3.heap.objs.size=s2.heap.objs.size + 1:=by rw [<- hs3]; exact Heap.size_push ..
 refine wpAny_newFunctionEnv hcell (by intro y hy; simp at hy) (fun h4 hns hsb=>?_) hkind
 have k4:∀ b u,s3.heap.get? b=some u->h4.get? b=some u:=fun b u e=>hsb.extBut b u (aax (Heap.lt_size e)) (Heap.get?_push_of_some _ e)
 have fpl:∀ b ∈ fp,b < s2.heap.objs.size:=fun b hb=>by
  obtain ⟨o,e,_⟩:=T.obj 0 _ st2 b hb
  exact Heap.lt_size e
 obtain ⟨W,⟨m0,w0⟩,turn⟩:=q2 ⟨s3.heap.objs.size,fp,s3,upd H2 s2.heap.objs.size (.lst [])⟩ _ eD
 have ok4:(X.blk scope s3.heap.objs.size fp (loc ++ frn) s3 (upd H2 s2.heap.objs.size (.lst []))).Ok:=by
  refine ⟨I.ok.mod,hkind,I.ok.glob,I.ok.blt,aaj _,fun x y c e1 e2=>I.ok.inj x y c (An hcs e1) (An hcs e2),fun x hx=>?_,fun x c z=>(nomatch z),I.ok.hd,I.ok.frames,.inl rfl,fun b hb=>⟨?_,fun x c e=>(f2 b hb).2.2.2.2.1 x c (An hcs e)⟩,I3.bs,aao I.ok.bsz I3.sz,
   fun b o e hb=>?_,fun b hb z=>?_,I3.stack,I3.stkFree⟩
  ·have hm:(x,NameKind.free) ∈ scope.names:=by
    have:∃ k',(k'=NameKind.cell\/k'=NameKind.free)/\(relabel scope X.env).names.lookup x=some k':=by
     rcases hx with z | z
     ·exact ⟨_,.inl rfl,z⟩
     ·exact ⟨_,.inr rfl,z⟩
    obtain ⟨k',hk',z⟩:=this
    have zm:=PySem.mem_of_lookup z
    unfold relabel at zm
    obtain ⟨⟨n,k⟩,hn,e⟩:=aaG.mp zm
    dsimp only at e
    split at e
    ·rename_i hk
     cases e
     have:k=NameKind.free:=by
      cases k <;> first | rfl | (simp at hk)
     rw [<- this]; exact hn
    ·cases e
     rcases hk' with rfl | rfl
     ·exact absurd rfl (hcell _ hn)
     ·exact hn
   obtain ⟨c,e⟩:=I.ok.has x (.inl (hfree _ hm rfl))
   exact ⟨c,BG hm hcs e⟩
  ·have:=fpl b hb
   exact aax (by rw [z3]; exact abU this)
  ·rcases (f2 b hb).2.2.2.1 with z | z
   ·exact I.ok.noex b o e z
   ·exact absurd (aaq (Heap.lt_size (I.ok.bs b o e).1) z) (aaL _)
  ·have:=I2.stkSub b z
   rcases aah.mp this with rfl | y
   ·exact (f2 _ hb).2.1 rfl
   ·exact (f2 b hb).2.2.1 y
 have I4:Inv (X.blk scope s3.heap.objs.size fp (loc ++ frn) s3 (upd H2 s2.heap.objs.size (.lst []))) [] (Ap loc.length fr σ) (upd H2 s2.heap.objs.size (.lst [])) { s3 with heap:=h4,toks:=s3.toks + ([]:List (Str × Value)).length }:=by
  refine ⟨ok4,rfl,I3.bare,Un.kept k4,⟨_,hns,fun i x v e1 e2 e3=>?_⟩,fun x c e=>?_,I3.hok.fresh (aaj _),fun x c e=>I3.freeC x c (An hcs e),fun p hp=>(nomatch hp),I3.hok.kept k4,?_⟩
  ·unfold Ap at e2
   by_cases hi:i < loc.length
   ·rw [aaK (by simpa using hi),aaO] at e2
    split at e2 <;> cases e2
   ·rw [aaI (by simpa using hi),aaW,aau] at e2
    have e1':frn[i - loc.length]?=some x:=by
     have:(loc ++ frn)[i]?=some x:=e1
     rw [aaI (aa4 hi)] at this
     exact this
    cases ek:fr[i - loc.length]? with
    | none=>rw [ek] at e2; cases e2
    | some k =>
     rw [ek] at e2
     have e2':(σ[k]?).join=some v:=Option.some.inj e2
     have e2'':σ[k]?=some (some v):=by
      cases q:σ[k]? with
      | none=>rw [q] at e2'; cases e2'
      | some y=>rw [q] at e2'; exact congrArg some e2'
     obtain ⟨n1,n2,n3⟩:=hfr _ k x ek e1'
     obtain ⟨m,_,hl⟩:=I3.loc
     obtain ⟨u,ru,lk⟩:=hl k x v n1 e2'' (.inr (.inl n2))
     refine ⟨u,ru,.inr ⟨.inl (hkin x (aai e1')),?_⟩⟩
     rcases lk with ⟨z,_⟩ | ⟨_,c,ec,ic⟩
     ·rw [n2] at z; cases z
     ·obtain ⟨o,ho,hd⟩:=ic
      exact ⟨c,BG n3 hcs ec,o,k4 _ _ ho,hd⟩
  ·obtain ⟨v,o,ho,hd⟩:=I3.cell x c (An hcs e)
   exact ⟨v,o,k4 _ _ ho,hd⟩
  ·unfold Ap
   show _=(loc ++ frn).length
   rw [aal,aal,aaW,aae,hln]
 have stat:∀ {H':Hp},(∀ b ∈ fp,H' b=none)->∀ b ∈ fp,FpOk (X.blk scope s3.heap.objs.size fp (loc ++ frn) s3 (upd H2 s2.heap.objs.size (.lst []))) [] H' b:=fun hn b hb =>
  ⟨hn b hb,(ok4.exf b hb).1,ok4.exfs b hb,.inl hb,(ok4.exf b hb).2,fun p hp=>(nomatch hp)⟩
 have fp3:∀ b ∈ fp,(upd H2 s2.heap.objs.size (.lst [])) b=none:=fun b hb=>by
  rw [Af (aax (fpl b hb))]; exact (f2 b hb).1
 obtain ⟨pg,pt,pe⟩:=hblk ⟨s3.heap.objs.size,fp,s3,upd H2 s2.heap.objs.size (.lst [])⟩
 have st4:tn 0 h4:=T.keep 0 _ _ st2 fun b _ o e=>k4 b o (k3 b o e)
 have after:∀ {i:Nat} {H':Hp} {s':Shared} {acc:List V} {σ':St},Inv (X.blk scope s3.heap.objs.size fp (loc ++ frn) s3 (upd H2 s2.heap.objs.size (.lst []))) [] σ' H' s'->Q (.ref s2.heap.objs.size) H' ->
   compPost (model X.prog X.w) X.A X.xe use R (.ref s2.heap.objs.size) s3.heap.objs.size (.ok .next) s':=by
  intro i H' s' acc σ' I5 q
  obtain ⟨m,hn,_⟩:=I5.loc
  refine haf s2.heap.objs.size s3.heap.objs.size H' s' m hn (fun h' hb=>?_) ⟨I3.sz,abG I3.lt,fun x c e z=>?_,fun p hp z=>?_,I5.free,fun z=>?_⟩ q
  ·have same:∀ b o,s3.heap.get? b=some o->h'.get? b=s'.heap.get? b:=fun b o e=>hb.2 b (aax (Heap.lt_size e))
   have u:=I5.base
   have un:Un (frs X.stack) fp (upd H2 s2.heap.objs.size (.lst [])) H' s3.heap h':=⟨fun b o e n h1 h2=>(same b o e).trans (u.keep b o e n h1 h2),fun b o e n h1 h2=>by
     obtain ⟨sl,z⟩:=u.slot b o e n h1 h2
     exact ⟨sl,(same b o e).trans z⟩,u.free,fun b o e h1=>by
     obtain ⟨o',z⟩:=u.there b o e h1
     exact ⟨o',(same b o e).trans z⟩,u.tups,u.frzs,u.tbls⟩
   have hok:HOk X.prog X.w H' h':=fun b o e=>by
    have fC:H' s3.heap.objs.size=none:=I5.free
    refine (I5.hok b o e).stay (fun c w' hc z=>(hb.2 c ?_).trans z) (fun _ z=>z) fun _ _ z=>z
    rintro rfl
    rcases hc with rfl | hc
    ·rw [fC] at e; cases e
    ·rw [fC] at hc; cases hc
   exact I3.call' (s':={ s' with heap:=h' }) (ch:=fp) I5.os un hok I5.bare (fun b hb=>⟨(f2 b hb).2.2.2.1,(f2 b hb).2.1,(f2 b hb).2.2.2.2.1,(f2 b hb).2.2.2.2.2⟩)
  ·obtain ⟨v,hcell⟩:=I3.cell x c e
   exact absurd (z ▸ hcell.lt) (aaL _)
  ·exact absurd (z ▸ Heap.lt_size (I3.pin p hp).1) (aaL _)
  ·rcases aah.mp (I3.stkSub _ z) with y | y
   ·exact absurd (y ▸ I3.lt) (aaL _)
   ·exact I3.nofs (aaj _) y
 have loop:∀ s5:Shared,s5={ s3 with heap:=h4,toks:=s3.toks + ([]:List (Str × Value)).length } ->
   codeAny (model X.prog X.w) X.A (.compLoop (.ListComp elt [⟨tg,iter,ifs,0⟩] scope pos) 0 (.ref it) (.ref s2.heap.objs.size) (compEnvC scope (AH X.env scope.names []) s3.heap.objs.size X.env))
    (compPost (model X.prog X.w) X.A X.xe use R (.ref s2.heap.objs.size) s3.heap.objs.size) s5:=by
  rintro s5 rfl
  refine EJ (fun n s'=>∃ i acc H',Inv (X.blk scope s3.heap.objs.size fp (loc ++ frn) s3 (upd H2 s2.heap.objs.size (.lst []))) [] (Ap loc.length fr σ) H' s'/\tn i s'.heap/\(∀ b ∈ fp,H' b=none)/\W i n acc H') ?_ m0
   ⟨0,[],_,I4,st4,fp3,w0⟩
  rintro n s6 ⟨i,acc,H6,I6,st6,fr6,w6⟩
  obtain ⟨hD,alt⟩:=turn i n acc H6 w6
  rcases alt with ⟨stop,q⟩ | ⟨go,step⟩
  ·refine thn (T.done (X.blk scope s3.heap.objs.size fp (loc ++ frn) s3 (upd H2 s2.heap.objs.size (.lst []))) rfl rfl rfl hc i [] s6 _ H6 (fun _ _=>False) I6 (stat fr6) st6 stop) fun r s7 ⟨hr,I7⟩=>?_
   subst hr
   exact after (i:=i) (acc:=acc) I7 q
  ·refine thn (T.item (X.blk scope s3.heap.objs.size fp (loc ++ frn) s3 (upd H2 s2.heap.objs.size (.lst []))) rfl rfl rfl hc i [] s6 _ H6 (fun _ _=>False) I6 (stat fr6) st6 go) fun r s7 ⟨u,hr,h7⟩=>?_
   subst hr
   refine thn h7 fun _ s8 ⟨x,H8,I8,r8,y8,st8,fr8⟩=>?_
   have I8':=I8.pinned (stat fr8) (T.obj _ _ st8)
   have back:∀ {σ9:St} {H9:Hp} {s9:Shared},Inv (X.blk scope s3.heap.objs.size fp (loc ++ frn) s3 (upd H2 s2.heap.objs.size (.lst []))) ([] ++ Dm fp s8.heap) σ9 H9 s9->σ9.length=(Ap loc.length fr σ).length->(∀ i,loc.length<=i->σ9[i]?=(Ap loc.length fr σ)[i]?) ->
     Inv (X.blk scope s3.heap.objs.size fp (loc ++ frn) s3 (upd H2 s2.heap.objs.size (.lst []))) [] (Ap loc.length fr σ) H9 s9/\tn (i + 1) s9.heap/\(∀ b ∈ fp,H9 b=none):=by
    intro σ9 H9 s9 I9 hl hk
    refine ⟨(I9.unpinned).weak hl.symm fun j v ej=>?_,T.keep _ _ _ st8 fun b hb o e=>(I9.pin (b,o) (aag _ (aag _ (A5 hb e)))).1,fun b hb=>?_⟩
    ·by_cases hj:j < loc.length
     ·unfold Ap at ej
      rw [aaK (by simpa using hj),aaO] at ej
      split at ej <;> cases ej
     ·rw [hk j (aa4 hj)]; exact ej
    ·obtain ⟨o,e,d⟩:=T.obj _ _ st8 b hb
     exact (I9.pin (b,o) (aag _ (aag _ (A5 hb e)))).2.1
   refine thn (pg _ s8 _ H8 x u _ I8' r8 (hgk _ _ _ _ _ (step x H8 y8))) fun _ s9 ⟨σ9,H9,I9,q9,l9,k9⟩=>?_
   refine thn (pt _ s9 σ9 H9 _ I9 q9) fun ok s10 ⟨H10,I10,q10⟩=>?_
   cases ok with
   | false =>
    rw [if_neg (by decide)] at q10 ⊢
    obtain ⟨m',hm,w'⟩:=q10
    obtain ⟨b1,b2,b3⟩:=back I10 l9 k9
    exact ⟨m',hm,i + 1,acc,H10,b1,b2,b3,w'⟩
   | true =>
    rw [if_pos rfl] at q10 ⊢
    refine thn (pe _ s10 σ9 H10 _ I10 q10) fun y s11 ⟨v,H11,I11,r11,hD11,hz,m',hm,w'⟩=>?_
    refine thn (CO _ s11 σ9 H11 (.ref s2.heap.objs.size) [v] (.ref s2.heap.objs.size) [y] (fun _ H12=>W (i + 1) m' (acc ++ [v]) H12) I11 rfl (.cons r11 .nil) ⟨_,acc,v,rfl,rfl,hD11,hz,w'⟩) fun _ s12 ⟨_,H12,I12,_,w12⟩=>?_
    obtain ⟨b1,b2,b3⟩:=back I12 l9 k9
    exact ⟨m',hm,i + 1,_,H12,b1,b2,b3,w12⟩
 exact codeAny_compStart_list (loop _ rfl) (T.self X.A 0 _ _ _ st4 (loop _ rfl))
theorem Inv.but {X:Cx} {pins:List (Addr × Obj)} {s:Shared} {σ:St} {H:Hp} {C:Addr} {h':Heap} (I:Inv X pins σ H s) (hC:X.s₀.heap.objs.size<=C/\C ≠ X.env.locals/\(∀ x c,X.env.cells.lookup x=some c->c ≠ C)/\(∀ p ∈ X.pn ++ pins,p.1 ≠ C)/\H C=none/\C ∉ frs X.stack)
  (hb:Heap.SameBut C s.heap h'):Inv X pins σ H { s with heap:=h' }:=by
 obtain ⟨h1,h2,h3,h4,h5,h6⟩:=hC
 have same:∀ b,b ∉ [C]->h'.get? b=s.heap.get? b:=fun b z=>hb.2 b (fun e=>z (by simp [e]))
 refine I.call' (s':={ s with heap:=h' }) (ch:=[C]) rfl ⟨fun b o e _ _ z=>(same b z).trans e,fun b o e _ _ z=>⟨o.slots,(same b z).trans e⟩,fun b o e n z=>n,fun b o e z=>⟨o,(same b z).trans e⟩,fun _ _ e=>e,fun _ _ _ e=>e,fun _ ps e=>⟨#[],by simpa using e⟩⟩ ?_ I.bare
  (fun b z=>by
   have:b=C:=by simpa using z
   subst this
   exact ⟨.inr h1,h2,h3,h4⟩)
 intro b o e
 refine (I.hok b o e).stay (fun c w' hc z=>(hb.2 c ?_).trans z) (fun _ z=>z) fun _ _ z=>z
 rintro rfl
 rcases hc with rfl | hc
 ·rw [h5] at e; cases e
 ·rw [h5] at hc; cases hc
theorem Ki {X:Cx} {elt tg iter:Expr} {ifs:List Expr} {scope:Scope} {pos spos py:Pos} {y:Str} {k:Nat} {wi:TI} {gz:Bk->TG} {tcz:Bk->TT} {tez:Bk->TE} (loc:List Str) (fr:List Nat) (frn:List Str) (hc:X.calm=true) (hi:PI X tg iter wi)
  (hfr:∀ (j:Nat) (k:Nat) (x:Str),fr[j]?=some k->frn[j]?=some x->X.N[k]?=some x/\X.env.kindOf x=some .cell/\(x,NameKind.free) ∈ scope.names) (hln:frn.length=fr.length)
  (hcell:∀ y ∈ scope.names,y.2 ≠ .cell) (hkind:scope.kind=.function) (hnames:∀ y ∈ scope.names,y.2=.local->scope.names.lookup y.1=some .local) (hfree:∀ y ∈ scope.names,y.2=.free->X.env.kindOf y.1=some .cell)
  (hkin:∀ (x:Str),x ∈ frn->(relabel scope X.env).names.lookup x=some .cell) (hsc:X.env.scope.kind=.function)
  (hgk:∀ (z:Bk) (v:V) (σ:St) (H:Hp) (Q:St->Hp->Prop),gz z v σ H Q->gz z v σ H fun σ' H'=>Q σ' H'/\σ'.length=σ.length/\∀ i,loc.length<=i->σ'[i]?=σ[i]?)
  (hblk:∀ (z:Bk),PG (X.blk scope z.C z.fp (loc ++ frn) z.s z.H) tg (gz z)/\PTs (X.blk scope z.C z.fp (loc ++ frn) z.s z.H) ifs (tcz z)/\PE (X.blk scope z.C z.fp (loc ++ frn) z.s z.H) elt (tez z))
  (hs:∀ x,foldedSetIterable iter X.env x=pure x) (hN:X.N.Nodup) (hk:X.N[k]?=some y) (hx:Loc X.env.scope y) (hf:X.fn y=true\/X.env.scope.names.lookup y=some .local)
  (hsw:swapsWith (.ListComp elt [⟨tg,iter,ifs,0⟩] scope pos) (some (.Name y py)) spos.line X.env=pure true) :
  PS X (.Assign [.Name y py] (.ListComp elt [⟨tg,iter,ifs,0⟩] scope pos) spos) (DZ (F7 loc.length fr wi gz tcz tez) (Cf k)):=by
 intro pins s σ H D I h
 rw [exec_Assign_Name_used _ _ _ _ hsw]
 refine wpAny_bind (wpAny_standAt (wpAny_bind ?_))
 show wpAny _ X.A (do let _ <- comprehension (.ListComp elt [⟨tg,iter,ifs,0⟩] scope pos) scope X.env _ (newList []) false (eval iter X.env) (some (assign (.Name y py) X.env))) _ _ s
 refine wpAny_bind (wpAny_mono (MP (R:=fun _ s'=>SP X pins D .next s') loc fr frn hc hi hfr hln hcell hkind hnames hfree hkin hsc hgk hblk I h (fun D' C H' s' m hn hI hC q=>?_) hs) (fun _ s' hq=>wpAny_pure (wpAny_pure hq)) fun _ _ e=>e)
 have I7:Inv X pins σ H' s':=hI s'.heap ⟨rfl,fun _ _=>rfl⟩
 refine wpAny_assign_Name (ED (v:=.ref D') I7 hN hk hx rfl (fun s8 I8 ⟨a,sb,ha⟩=>?_) hf)
 refine ⟨m,hn.sameBut sb ?_,fun h9 sb9=>⟨_,H',I8.but hC sb9,q⟩⟩
 rcases ha with rfl | ha
 ·exact hC.2.1
 ·exact fun z=>hC.2.2.1 _ _ ha z.symm
end L2
end
section
namespace L2
open PySem PySem.Spec PyProof.Rows PySem.W
section
variable {X:Cx}
noncomputable def QQ:V->List V->Hp->VK->Prop:=fun x xs H Q=>∃ (a:Addr) (ns:List Int) (v:Int) (j:Nat),x=.ref a/\xs=[.int v]/\Rd H a (.lst (ns.map V.int))/\(ns[j]?=some v/\∀ m,m < j->ns[m]? ≠ some v)/\Q (.int (j:Nat)) H
theorem DH:∀ {ns:List Int} {its:List Value},Vals (ns.map V.int) its->∀ (i:Nat) (y:Value),its[i]?=some y->∃ (x:Int) (t:Tok),ns[i]?=some x/\y=.int x t
 | [],its,h,i,y,e=>by cases h; simp at e
 | x :: r,its,h,i,y,e=>by
  cases h with
  | cons h1 h2 =>
   obtain ⟨t,rfl⟩:=h1
   cases i with
   | zero=>exact ⟨x,t,rfl,by simpa using e.symm⟩
   | succ i=>exact DH (ns:=r) h2 i y (by simpa using e)
theorem Ib:∀ {ns:List Int} {its:List Value},Vals (ns.map V.int) its->its.length=ns.length
 | [],its,h=>by cases h; rfl
 | x :: r,its,h=>by
  cases h with
  | cons h1 h2=>rw [aaS,aaS,Ib (ns:=r) h2]
noncomputable def Oy (k:Int):Value->Bool
 | .int a _=>a==k
 | _=>false
theorem MQ:MtR X "list.index" QQ:=by
 intro pins s σ H x xs v us Q I rx rv h
 obtain ⟨a,ns,k,j,rfl,rfl,hR,⟨hj,hno⟩,q⟩:=h
 cases rx
 obtain ⟨u,rfl,ru⟩:=rv.one
 obtain ⟨tu,rfl⟩:=ru
 obtain ⟨its,n,hz,rel,dd,sl,ho⟩:∃ (its:List Value) (n:Nat),(ns.map V.int).length<=sizeLine/\Vals (ns.map V.int) its/\∃ dd sl,s.heap.get? a=some { cls:=.type "list",dict:=dd,data:=.seq its.toArray n,slots:=sl }:=by
  rcases hR with e | ⟨o,e⟩
  ·obtain ⟨hz,its,n,r,e⟩:=I.hok a _ e
   exact ⟨its,n,hz,r,_,_,e⟩
  ·obtain ⟨_,hz,its,n,r,e⟩:=I.hok a _ e
   exact ⟨its,n,hz,r,_,_,e⟩
 have hl:=Ib rel
 have hjl:j < its.length:=by rw [hl]; exact (aaC.mp hj).1
 have hz:ns.length<=sizeLine:=by rwa [aae] at hz
 have hs:sizeLine=16777216:=rfl
 refine call_meets PySem.F.slot_list_index ⟨_,ho,rfl⟩ PySem.F.entry_list_index (PySem.F.args_list_index_2 _ _) (PySem.SeqAt.list_indexAt a _ n dd sl (.int k tu) (Oy k) j (by simpa using hjl) (by omega) ?_ ?_) ⟨ho,fun y hy=>?_,?_⟩
 ·obtain ⟨x,t,h1,h2⟩:=DH rel j its[j] (aam hjl)
  rw [hj] at h1
  cases h1
  rw [aca,h2]
  exact beq_self_eq_true k
 ·intro m hm hmj
  have hm:m < its.length:=by simpa using hm
  obtain ⟨x,t,h1,h2⟩:=DH rel m its[m] (aam hm)
  rw [aca,h2]
  show (x==k)=false
  rw [beq_eq_false_iff_ne]
  rintro rfl
  exact hno m hmj h1
 ·have:y ∈ its:=by simpa using hy
  obtain ⟨i,hi⟩:=abH this
  obtain ⟨x,t,_,rfl⟩:=DH rel i y hi
  exact PySem.SeqAt.EqAt.int_int x t k tu
 ·exact ⟨.int _,H,I.tok _,⟨_,rfl⟩,q⟩
noncomputable def FF (n:Nat) (i:Int):Nat:=if i < 0 then (i + (n:Int)).toNat else min i.toNat n
noncomputable def JA:V->List V->Hp->VK->Prop:=fun x vs H Q=>∃ l xs i y,x=.ref l/\vs=[.int i,y]/\H l=some (.lst xs)/\-(2 ^ 63)<=i/\i < 2 ^ 63/\xs.length < sizeLine/\Q .non (upd H l (.lst (xs.take (FF xs.length i) ++ y :: xs.drop (FF xs.length i))))
theorem Vals.tk {xs:List V} {us:List Value} (h:Vals xs us):∀ n,Vals (xs.take n) (us.take n)/\Vals (xs.drop n) (us.drop n):=by
 induction h with
 | nil=>intro n; cases n <;> exact ⟨.nil,.nil⟩
 | cons h1 h2 ih =>
  intro n
  cases n with
  | zero=>exact ⟨.nil,.cons h1 h2⟩
  | succ n=>exact ⟨.cons h1 (ih n).1,(ih n).2⟩
theorem Lq:MtM X "list.insert" JA:=by
 intro pins s σ H x vs v us Q I rx rv h
 obtain ⟨l,xs,i,y,rfl,rfl,hH,h1,h2,hz,q⟩:=h
 cases rx
 cases rv with
 | cons ra rb =>
  cases rb with
  | cons ru rc =>
   cases rc
   obtain ⟨t,rfl⟩:=ra
   rename_i u
   obtain ⟨z,its,n,r,hl,e⟩:=I.lstM hH
   refine call_meets PySem.F.slot_list_insert ⟨_,e,rfl⟩ PySem.F.entry_list_insert (PySem.F.args_list_insert_3 _ _ _) (PySem.AutoListH.list_insert_list_int_val_1 l its.toArray n i t u (by rw [fitsIndex_both h1 h2]; decide) (by rw [aap]; omega)) ⟨e,?_⟩
   refine ⟨.non,_,I.lset (its':=its.take (FF xs.length i) ++ u :: its.drop (FF xs.length i)) hH e ?_ ((r.tk _).1.append (.cons ru (r.tk _).2)) ?_,rfl,q⟩
   ·rw [hl]
    unfold FF
    simp
    generalize (if i < 0 then (i + (its.length:Int)).toNat else min i.toNat its.length)=k
    exact abe (by rw [aaN]; exact aaj _)
   ·rw [aal,aaS,aaQ,aaN]
    omega
end
theorem Oz {X:Cx} {pos p1 p2:Pos} {i j:Int} {k1 k2:Nat}:PE X (.Dict [some (.Constant (.int i) k1 p1)] [.Constant (.int j) k2 p2] pos) QH:=fun pins s σ H Q I h=>by
 refine wpAny_Dict_walk (knd:=intKind X.prog X.w) rfl rfl (by simp) (by simp) ?_
 refine pairTrees_cons_walk (wpAny_Constant_int (wpAny_Constant_int (pairTrees_nil_walk ?_)))
 refine ⟨[(i,_)],⟨intKind_is X.prog X.w i _,rfl,trivial⟩,Heap.DictOf.new (knd:=intKind X.prog X.w) s.heap,fun h' hd hs=>?_⟩
 obtain ⟨o,es,ep,e1,e2,e3,_⟩:=hd
 have hk:∀ b u,s.heap.get? b=some u->h'.get? b=some u:=fun b u q=>by
  have hb:b ≠ s.heap.objs.size:=aax (Heap.lt_size q)
  rw [hs.2 b hb]
  exact Heap.get?_push_of_some _ q
 refine ⟨.ref s.heap.objs.size,_,I.laid (a:=s.heap.objs.size) (o:=dO s.heap.objs.size) (t':=_) hk (aaj _) ⟨⟨o,e1,e2.1⟩,⟨o,e1⟩,fun h1 h2 ⟨o,e1,e2⟩ k=>⟨o,k o e1,e2⟩⟩,rfl,h _ (I.hok.fresh (aaj _))⟩
end L2
end
section
namespace L2
open PySem PySem.Spec PyProof PyProof.Rows PySem.W
section
variable {prog:Program} {w:World} {A:Around} {E:Value->Shared->Prop}
theorem Lr {it l:Addr} {items:Array Value} (hne:l ≠ it):∀ (n i:Nat) (s:Shared) (Q:List Value->Shared->Prop),s.heap.IsListIter it l i->s.heap.IsList l items->i + n<=items.size->(∀ h',h'.IsListIter it l (i + n)->Heap.SameBut it s.heap h'->Q ((items.toList.drop i).take n) { s with heap:=h' })->wpAny (model prog w) A (draw (.ref it) n) Q E s
 | 0,i,s,Q,hit,_,_,hQ=>wpAny_pure (by simpa using hQ s.heap hit (Heap.SameBut.refl ..))
 | n + 1,i,s,Q,hit,hl,hle,hQ=>by
  have hz:i < items.size:=by omega
  show wpAny _ _ (pyNext (.ref it) >>= _) Q E s; refine wpAny_bind (wpAny_pyNext_list_item hit hl (x:=items[i]) (by simp [hz]) fun h1 hit1 hs1=>?_)
  have hl1:h1.IsList l items:=by
   obtain ⟨o,e,c⟩:=hl
   exact ⟨o,(hs1.2 l hne).trans e,c⟩
  refine wpAny_bind (wpAny_holding (Lr hne n (i + 1) _ _ hit1 hl1 (by omega) fun h2 hit2 hs2=>wpAny_pure ?_))
  have hd:items.toList.drop i=items[i] :: items.toList.drop (i + 1):=by simp [aa7,hz]
  have:=hQ h2 (by rw [show i + (n + 1)=i + 1 + n by omega]; exact hit2) ⟨hs2.1.trans hs1.1,fun b hb=>(hs2.2 b hb).trans (hs1.2 b hb)⟩
  rw [hd,acf] at this; exact this
theorem OA {s:Shared} {l:Addr} {items:Array Value} {Q:List Value->Shared->Prop} (hh:A.handled=none) (hl:s.heap.IsList l items) (hQ:∀ h',Heap.ExtBut s.heap.objs.size s.heap h'->Q items.toList { s with heap:=h' }):wpAny (model prog w) A (unpackItems (.ref l) items.size none) Q E s:=by
 have hlt:l ≠ s.heap.objs.size:=by obtain ⟨o,ho,_⟩:=hl; exact aax (Heap.lt_size ho)
 unfold unpackItems notIterableAtAll
 refine wpAny_bind (wpAny_bind (wpAny_specialOf hl.typeIs slot_list_iter.lookup (wpAny_pure ?_)))
 simp only [aaY,if_false]; refine wpAny_bind (wpAny_holding (wpAny_pyIter_list hl ?_))
 have hl0:(s.heap.push { cls:=.type "list_iterator",data:=.fields #[.ref l,.int 0 0] }).IsList l items:=by
  obtain ⟨o,e,c⟩:=hl
  exact ⟨o,Heap.get?_push_of_some _ e,c⟩
 refine wpAny_bind (wpAny_holding (Lr hlt items.size 0 _ _ ⟨_,Heap.get?_push_size _ rfl,rfl,rfl⟩ hl0 (by omega) fun h1 hit1 hs1=>?_))
 have hall:List.take items.size (List.drop 0 items.toList)=items.toList:=by
  rw [ab7]; exact abe (by simp)
 rw [hall,if_neg (by simp)]
 have hl1:h1.IsList l items:=by
  obtain ⟨o,e,c⟩:=hl0
  exact ⟨o,(hs1.2 l hlt).trans e,c⟩
 refine wpAny_bind (wpAny_holding (wpAny_pyNext_list_end hh hit1 hl1 (by simp) fun h2 he2=>?_))
 simp only [Option.isSome_none,aaY,if_false]
 exact wpAny_pure (hQ h2 fun b o hb e=>he2 b o hb ((hs1.2 b hb).trans (Heap.get?_push_of_some _ e)))
end
section
variable {X:Cx} {pos:Pos}
noncomputable def QR (K:PySem.W.Frag) (n:Nat) (t:TGs):TG:=fun v σ H Q=>∃ a xs,v=.ref a/\SqL K H a xs/\xs.length=n/\t xs σ H Q
theorem QS {es:List Expr} {k:Nat} {t:TGs} {n:Nat} (hc:X.calm=true) (h:PGs X es t) (hn:(assignEach es X.env).length=n) (hst:(assignEach es X.env).findIdx? (·.1)=none):PG X (.Tuple es k pos) (QR X.K n t):=by
 intro pins s σ H v u Q I r hw
 obtain ⟨a,xs,rfl,hq,hl,hw⟩:=hw
 cases r
 obtain ⟨its,rv,pl,hz⟩:=I.list hq
 rw [assign_Tuple]
 refine wpAny_bind (wpAny_standAt ?_)
 unfold unpack
 rw [hst,hn,<- hl,rv.length,show its.length=its.toArray.size by simp]
 refine wpAny_bind (wpAny_holding (OA (I.ok.hd hc) pl.isList fun h' hx=>?_))
 have I1:Inv X pins σ H { s with heap:=h' }:=I.kept (t':=s.toks) fun b o e=>hx b o (aax (Heap.lt_size e)) e
 exact h pins _ σ H xs _ Q I1 (by simpa using rv) hw
end
end L2
end
section
namespace L2
open PySem PySem.Spec PyProof PyProof.Rows PySem.W PySem.Builtin PySem.Builtin.Str
noncomputable def Ic (z:Str) (lo hi:Option Int):Str:=⟨((z.cps.toList.drop (HT.sIx z.cps.toList.length 0 lo)).take (HT.sIx z.cps.toList.length z.cps.toList.length hi - HT.sIx z.cps.toList.length 0 lo)).toArray⟩
theorem MR (xs:Array Nat) (a n:Nat):(((abg n).map fun k=>a + k).filterMap (xs[·]?))=(xs.toList.drop a).take n:=by
 induction n generalizing a with
 | zero=>simp
 | succ n ih =>
  rw [ab4,aar,aaH,aa6]
  have e:((abg n).map ((fun k=>a + k) ∘ Nat.succ))=(abg n).map fun k=>(a + 1) + k:=abb fun k _=>by show a + (k + 1)=a + 1 + k; omega
  rw [e,ih (a + 1)]
  by_cases h:a < xs.size
  ·have h1:xs[a + 0]?=some xs[a]:=by simp [h]
   rw [h1]
   have h2:xs.toList.drop a=xs[a] :: xs.toList.drop (a + 1):=by simp [aa7,h]
   rw [h2,acf]
  ·have h1:xs[a + 0]?=none:=by simp; omega
   rw [h1]
   have h2:xs.toList.drop a=[]:=ab5 (by simpa using aa4 h)
   have h3:xs.toList.drop (a + 1)=[]:=ab5 (by simp; omega)
   rw [h2,h3]; simp
theorem MS (lo hi:Option Int) (n:Nat):strSliceIndices lo hi 1 n=(abg (HT.sIx n n hi - HT.sIx n 0 lo)).map fun k=>HT.sIx n 0 lo + k:=by
 obtain ⟨h1,h2,h3⟩:=EG lo hi n
 have e:strSliceIndices lo hi 1 n=sliceRange (sliceBounds lo hi none n).1 (sliceBounds lo hi none n).2.1 (sliceBounds lo hi none n).2.2:=rfl
 rw [e,h1,h2,h3]
 simp only [sliceRange_one]
theorem Kj (z:Str) (lo hi:Option Int):Txt.slice z lo hi=Ic z lo hi:=by
 have hl:z.cps.toList.length=z.length:=by simp [Str.length]
 unfold Txt.slice Ic
 rw [MS,MR,hl]
 split
 ·rename_i h
  have h:HT.sIx z.length z.length hi - HT.sIx z.length 0 lo=z.length:=by simpa using h
  have h1:=HT.sIx_le z.length z.length (aaj _) hi
  by_cases c:z.length=0
  ·have:z.cps.toList=[]:=abZ.mp (by rw [hl]; exact c)
   obtain ⟨a⟩:=z
   obtain ⟨l⟩:=a
   have:l=[]:=this
   subst this
   simp
  ·have h2:HT.sIx z.length 0 lo=0:=by omega
   rw [h,h2,ab7,abe (by rw [hl]; exact aaj _)]
 ·rfl
section
variable {X:Cx}
noncomputable def TR:V->Option Int->Option Int->Hp->VK->Prop:=fun x lo hi H Q=>∃ z,x=.str z/\z.length<=sizeLine/\Q (.str (Ic z lo hi)) H
theorem QT:SlR X TR:=by
 intro pins s σ H x v vl vu lo hi sl Q I rx hs pl pu h
 obtain ⟨z,rfl,hz,q⟩:=h
 obtain ⟨t,rfl⟩:=rx
 refine ⟨"str",_,PySem.F.slot_str_getitem.lookup,typeIs_str _ _ _,?_⟩
 rw [<- Kj] at q
 have key:∀ (l u:Option (Int × Tok)),vl=partValue l->vu=partValue u->l.map (·.1)=lo->u.map (·.1)=hi->wpAny (model X.prog X.w) X.A (getItem (.str z t) (.ref sl)) (EP X pins σ Q) X.xe s:=fun l u e1 e2 e3 e4=>by
  subst e1 e2 e3 e4
  refine wpAny_getItem_str_slice (l:=l) (u:=u) (st:=none) hs rfl ?_
  exact post_val_or_str ⟨aao (Txt.slice_le z _ _) hz,fun t' k=>⟨.str _,H,I.tok _,⟨_,rfl⟩,q⟩⟩
 cases pl with
 | none=>cases pu with
  | none=>exact key none none rfl rfl rfl rfl
  | int j tj=>exact key none (some (j,tj)) rfl rfl rfl rfl
 | int i ti=>cases pu with
  | none=>exact key (some (i,ti)) none rfl rfl rfl rfl
  | int j tj=>exact key (some (i,ti)) (some (j,tj)) rfl rfl rfl rfl
theorem Id:∀ {us:List Value} {ts:List Str},Vals (ts.map V.str) us->∃ l:List (Str × Tok),us=strValues l/\l.map (·.1)=ts
 | [],[],_=>⟨[],rfl,rfl⟩
 | u :: us,t :: ts,h=>by
  cases h with
  | cons a b =>
   obtain ⟨k,rfl⟩:=a
   obtain ⟨l,rfl,rfl⟩:=Id b
   exact ⟨(t,k) :: l,rfl,rfl⟩
 | _ :: _,[],h=>nomatch h
 | [],_ :: _,h=>nomatch h
noncomputable def Sz (K:Frag):V->List V->Hp->VK->Prop:=fun x vs H Q=>∃ (z:Str) (a:Addr) (ts:List Str),x=.str z/\vs=[.ref a]/\SqL K H a (ts.map V.str)/\JoinOk z ts=true/\Q (.str (Txt.join z ts)) H
theorem OB:MtR X "str.join" (Sz X.K):=by
 intro pins s σ H x vs v us Q I rx rv h
 obtain ⟨z,a,ts,rfl,rfl,hS,hok,q⟩:=h
 obtain ⟨t,rfl⟩:=rx
 obtain ⟨u,rfl,ru⟩:=rv.one
 cases (show u=Value.ref a from ru)
 obtain ⟨its,rr,p,_⟩:=I.list hS
 obtain ⟨l,rfl,rfl⟩:=Id rr
 unfold JoinOk at hok
 rw [abo] at hok
 exact call_meets PySem.F.slot_str_join (typeIs_str _ _ _) PySem.F.entry_str_join (PySem.F.args_str_join_2 _ _) (meets_str_join_list z t a l hok) ⟨p.isList,post_join l ⟨joinFit_length hok,fun t' k=>⟨.str _,H,I.tok _,⟨_,rfl⟩,q⟩⟩⟩
noncomputable def SA:List V->Hp->VK->Prop:=fun xs H Q=>∃ i:Int,xs=[.int i]/\i.natAbs.log2 < 1920/\Q (.str (Str.ofString (toString i))) H
theorem Ls:CI X (.type "str") SA:=by
 intro pins s σ H xs us Q I r h
 obtain ⟨i,rfl,hi,q⟩:=h
 obtain ⟨u,rfl,ru⟩:=DF r
 obtain ⟨t,rfl⟩:=ru
 exact PySem.P.str_of_int hi ⟨.str _,H,I.tok _,⟨_,rfl⟩,q⟩
end
noncomputable def Its (z:Str):It:=⟨fun i _=>i < z.cps.size,fun i H v H'=>H'=H/\∃ c,z.cps[i]?=some c/\v=.str ⟨#[c]⟩,fun i _=>z.cps.size<=i⟩
theorem MT {P:Program} {w:World} {K:PySem.W.Frag} {tg:Expr} (it:Addr) (z:Str) (t:Tok) (ty:String) (hty:ty = "str_ascii_iterator" \/ ty = "str_iterator")
  (W:∀ A':Around,A'.handled=none->Walks P w A' it [it] [it] z.cps.size (SignAt z) (fun i h=>h.IsStrIter it ty z t i)):Turn P w K tg (Its z) [it] it (fun i h=>h.IsStrIter it ty z t i) where
 mem:=by simp
 obj:=fun i h st b hb=>by
  have e:b=it:=by simpa using hb
  subst e
  obtain ⟨o,ho,c,d⟩:=st
  exact ⟨o,ho,fun v q=>by rw [d] at q; cases q⟩
 keep:=fun i h h' st k=>by
  obtain ⟨o,ho,r⟩:=st
  exact ⟨o,k it (by simp) o ho,r⟩
 item:=by
  intro X hP hw hK hc i pins s σ H E I hf st hg
  subst hP hw hK
  obtain ⟨f0,f1,f2,f3,f4,f5⟩:=hf it (by simp)
  have W:=W X.A (I.ok.hd hc)
  refine W.item i s _ _ hg st fun v h' tk hv st' kk=>?_
  obtain ⟨c,u,hcu,rfl⟩:=hv
  have I1:Inv X pins σ H { s with heap:=h',toks:=tk }:=I.turned (fun b o hb e=>kk b o (by simpa using hb) e) f0 f1 f3 f4 f5
  obtain ⟨o,eo,co,d⟩:=id st'
  rcases hty with rfl | rfl
  ·exact ⟨_,rfl,FZ (s:={ s with heap:=h',toks:=tk }) eo co d (by decide) ⟨.str ⟨#[c]⟩,H,I1,⟨u,rfl⟩,⟨rfl,c,hcu,rfl⟩,st',fun b hb=>(hf b hb).1⟩⟩
  ·exact ⟨_,rfl,FZ (s:={ s with heap:=h',toks:=tk }) eo co d (by decide) ⟨.str ⟨#[c]⟩,H,I1,⟨u,rfl⟩,⟨rfl,c,hcu,rfl⟩,st',fun b hb=>(hf b hb).1⟩⟩
 done:=by
  intro X hP hw hK hc i pins s σ H E I hf st hg
  subst hP hw hK
  obtain ⟨f0,f1,f2,f3,f4,f5⟩:=hf it (by simp)
  have hg:z.cps.size<=i:=hg
  have hx:z.cps[i]?=none:=by simp; omega
  rcases hty with rfl | rfl
  ·exact wpAny_pyNext_ascii_end (I.ok.hd hc) st hx fun h' eb=>⟨rfl,I.turned (t':=s.toks) (fun b o hb e=>eb b o hb e) f0 f1 f3 f4 f5⟩
  ·exact wpAny_pyNext_wide_end (I.ok.hd hc) st hx fun h' eb=>⟨rfl,I.turned (t':=s.toks) (fun b o hb e=>eb b o hb e) f0 f1 f3 f4 f5⟩
 self:=fun _ _ _ _ _ st h=>by
  rcases hty with rfl | rfl
  ·exact wpAny_pyIter_striter_ascii st h
  ·exact wpAny_pyIter_striter_wide st h
section
variable {X:Cx} {tg:Expr}
noncomputable def TU (tl:TE):TI:=fun σ H R=>tl σ H fun x H1=>∃ z,x=.str z/\R (Its z) H1
theorem QU {l:Expr} {tl:TE} (hl:PE X l tl):PI X tg l (TU tl):=by
 intro pins s σ H R I h
 refine thn (hl pins s σ H _ I h) fun v s1 ⟨x,H1,I1,r1,q1⟩=>?_
 obtain ⟨z,rfl,q⟩:=q1
 obtain ⟨t,rfl⟩:=r1
 have key:∀ (o:Obj) (ty:String) (hty:ty = "str_ascii_iterator" \/ ty = "str_iterator") (W:∀ A':Around,A'.handled=none->Walks X.prog X.w A' s1.heap.objs.size [s1.heap.objs.size] [s1.heap.objs.size] z.cps.size (SignAt z) (fun i h=>h.IsStrIter s1.heap.objs.size ty z t i)) (st:(s1.heap.push o).IsStrIter s1.heap.objs.size ty z t 0),PIE X pins σ tg R (.ref s1.heap.objs.size) { s1 with heap:=s1.heap.push o }:=fun o ty hty W st=>by
  refine ⟨s1.heap.objs.size,[s1.heap.objs.size],_,_,H1,rfl,I1.kept (t':=s1.toks) fun b o e=>Heap.get?_push_of_some _ e,MT _ z t ty hty W,st,fun b hb=>?_,q⟩
  have e:b=s1.heap.objs.size:=by simpa using hb
  subst e
  exact I1.fpOk (aaj _) (I1.hok.fresh (aaj _))
 cases ha:z.cps.all (· < 128)
 ·exact wpAny_pyIter_wide ha (key _ _ (.inr rfl) (fun A' hA=>Walks.strWide hA _ z t) ⟨_,Heap.get?_push_size _ rfl,rfl,rfl⟩)
 ·exact wpAny_pyIter_ascii ha (key _ _ (.inl rfl) (fun A' hA=>Walks.strAscii hA _ z t) ⟨_,Heap.get?_push_size _ rfl,rfl,rfl⟩)
noncomputable def SB:List V->Hp->VK->Prop:=fun xs H Q=>∃ z:Str,xs=[.str z]/\PySem.NumText.AllDigits z.cps.toList/\z.cps.toList ≠ []/\z.length<=640/\Q (.int ((PySem.NumText.digitsVal z.cps.toList:Nat):Int)) H
theorem Lu:CI X (.type "int") SB:=by
 intro pins s σ H xs us Q I r h
 obtain ⟨z,rfl,h1,h2,h3,q⟩:=h
 obtain ⟨u,rfl,ru⟩:=DF r
 obtain ⟨t,rfl⟩:=ru
 exact KIN.call_text (PySem.intText_digits h1 h2 (by omega)) h3 ⟨.int _,H,I.tok _,⟨_,rfl⟩,q⟩
theorem G0:∀ l:List (Str × Tok),Vals ((l.map (·.1)).map V.str) (strValues l)
 | []=>.nil
 | (x,t) :: r=>.cons ⟨t,rfl⟩ (G0 r)
noncomputable def QV:V->List V->Hp->VK->Prop:=fun x vs H Q=>∃ z y:Str,x=.str z/\vs=[.str y]/\y.length ≠ 0/\z.length<=sizeLine/\(Txt.split z y).length<=sizeLine/\∀ p,H p=none->Q (.ref p) (upd H p (.lst ((Txt.split z y).map V.str)))
theorem MU:MtR X "str.split" QV:=by
 intro pins s σ H x vs v us Q I rx rv h
 obtain ⟨z,y,rfl,rfl,hy,hz,hn,q⟩:=h
 obtain ⟨t,rfl⟩:=rx
 obtain ⟨u,rfl,ru⟩:=rv.one
 obtain ⟨t',rfl⟩:=ru
 have hy:(y.length==0)=false:=beq_eq_false_iff_ne.mpr hy
 have fin:∀ (l:List (Str × Tok)) (k:Nat),l.map (·.1)=Txt.split z y->EP X pins σ Q (.ref s.heap.objs.size) { s with heap:=s.heap.push { cls:=.type "list",data:=.seq (strValues l).toArray },toks:=k }:=fun l k hl=>by
  refine ⟨.ref s.heap.objs.size,_,I.laid (t':=k) (o:=.lst ((Txt.split z y).map V.str)) (fun b ob q=>Heap.get?_push_of_some _ q) (aaj _) ?_,rfl,q _ (I.hok.fresh (aaj _))⟩
  refine ⟨by rw [aae]; exact hn,strValues l,0,?_,Heap.get?_push_size _ rfl⟩
  rw [<- hl]
  exact G0 l
 cases h1:(decide (z.length < y.length) || decide (strKind z < strKind y))
 ·cases hf:(occurrences z y 0 z.length (z.length + 1)).isEmpty
  ·have e:Txt.split z y=partsBetween z (occurrences z y 0 z.length (z.length + 1)) y.length:=(if_neg (ne_true_of_eq_false h1)).trans (if_neg (ne_true_of_eq_false hf))
   refine call_meets PySem.F.slot_str_split (typeIs_str _ _ _) PySem.F.entry_str_split (PySem.F.args_str_split_2 _ _) (meets_str_split_sep z y t t' h1 hy hf hz (by rw [<- e]; exact hn)) ?_
   show wants (EP X pins σ Q) X.xe _ { s with toks:=_,heap:=s.heap.push { cls:=.type "list",data:=.seq (strsFrom s.toks (partsBetween z (occurrences z y 0 z.length (z.length + 1)) y.length)).toArray } }
   rw [strsFrom_eq]
   exact fin (numbered s.toks _) _ ((numbered_texts _ _).trans e.symm)
  ·have e:Txt.split z y=[z]:=(if_neg (ne_true_of_eq_false h1)).trans (if_pos hf)
   exact call_meets PySem.F.slot_str_split (typeIs_str _ _ _) PySem.F.entry_str_split (PySem.F.args_str_split_2 _ _) (meets_str_split_not_found z y t t' h1 hy hf) (fin [(z,t)] s.toks e.symm)
 ·have e:Txt.split z y=[z]:=if_pos h1
  exact call_meets PySem.F.slot_str_split (typeIs_str _ _ _) PySem.F.entry_str_split (PySem.F.args_str_split_2 _ _) (meets_str_split_cannot_occur z y t t' h1) (fin [(z,t)] s.toks e.symm)
theorem Ie (a:Array Nat):∀ (k:Nat) (acc:Array Nat),((aaf k a).foldl (· ++ ·) acc).size=acc.size + k * a.size
 | 0,acc=>by simp
 | k + 1,acc=>by
  rw [aba,abk,Ie a k,Array.size_append,acj]; omega
noncomputable def FG (n:Bool):CmpOp:=if n then .NotIn else .In
noncomputable def MV (n:Bool):R2:=fun x y H Q=>∃ (c:Nat) (z:Str),x=.str ⟨#[c]⟩/\y=.str z/\Q (.bl ((decide (c ∈ z.cps.toList)) != n)) H
theorem Lv (n:Bool):OpR X (compareOp (FG n)) (MV n):=by
 cases n with
 | false =>
  intro pins s σ H x y v u Q I rx ry h
  obtain ⟨c,z,rfl,rfl,q⟩:=h
  refine La pins s σ H _ _ v u Q I rx ry ⟨_,z,rfl,rfl,?_⟩
  rw [PySem.StrLaws.found_one]
  cases hd:decide (c ∈ z.cps.toList) <;> rw [hd] at q <;> exact q
 | true =>
  intro pins s σ H x y v u Q I rx ry h
  obtain ⟨c,z,rfl,rfl,q⟩:=h
  refine HQ pins s σ H _ _ v u Q I rx ry ⟨_,z,rfl,rfl,?_⟩
  rw [PySem.StrLaws.found_one]
  cases hd:decide (c ∈ z.cps.toList) <;> rw [hd] at q <;> exact q
noncomputable def SD:R2:=fun x y H Q=>∃ (z:Str) (k:Nat),x=.str z/\y=.int (k:Int)/\2<=k/\z.length ≠ 0/\z.length * k<=16777216/\Q (.str ⟨(aaf k z.cps).foldl (· ++ ·) #[]⟩) H
theorem OC:OpR X (binaryOp .Mult) SD:=by
 intro pins s σ H x y v u Q I rx ry h
 obtain ⟨z,k,rfl,rfl,hk,hz,hl,q⟩:=h
 obtain ⟨t,rfl⟩:=rx
 obtain ⟨t',rfl⟩:=ry
 have hz1:1<=z.length:=by omega
 have hkl:k<=16777216:=aao (by have:=acb k hz1; omega) hl
 have hzl:z.length<=16777216:=aao (by have:=Nat.mul_le_mul_left z.length (show 1<=k by omega); omega) hl
 refine PySem.P.mul_str (n:=(k:Int)) (by
  rw [decide_eq_false (by omega),decide_eq_false (by omega)]; rfl) (fun _ _=>?_) (fun _ _=>?_) ?_
 ·have:(z.length:Int)<=(2 ^ 63 - 1) / (k:Int):=by
   rw [Int.le_ediv_iff_mul_le (by omega)]
   have:((z.length * k:Nat):Int)<=16777216:=by omega
   rw [Int.natCast_mul] at this
   omega
  omega
 ·rw [abp]
  unfold PySem.Builtin.Str.tooLong
  rw [sizeLine_eq]
  exact decide_eq_false (by omega)
 ·rw [if_neg (by omega),if_neg (by
   rw [Bool.or_eq_true,not_or]
   exact ⟨by simp; omega,by simp; omega⟩),abp]
  refine ⟨?_,?_⟩
  ·show ((aaf k z.cps).foldl (· ++ ·) #[]).size<=sizeLine
   rw [Ie,sizeLine_eq]
   have:k * z.length=z.length * k:=Nat.mul_comm _ _
   show 0 + k * z.length<=_
   omega
  ·exact ⟨.str _,H,I.tok _,⟨_,rfl⟩,q⟩
end
end L2
end
section
namespace L2
open PySem PySem.Spec PyProof.Rows PySem.W
open AutoSeq1 (wpAny_loadPart')
theorem FpOk.upd {X:Cx} {pins:List (Addr × Obj)} {H:Hp} {c t:Addr} {o:HO} (h:FpOk X pins H c) (n:c ≠ t):FpOk X pins (upd H t o) c:=by
 obtain ⟨f0,f1,f2,f3,f4,f5⟩:=h
 exact ⟨by rw [Af n]; exact f0,f1,f2,f3,f4,f5⟩
end L2
end
section
set_option maxHeartbeats 1000000
namespace L2
open PySem PySem.Spec PyProof.Rows PySem.W
noncomputable def CXh (P:Program) (w:World) (L:Addr):CXT:=fun outer H s E ev s'=>∃ (e:Addr) (cls a0:Value) (H':Hp) (B:Heap),ev=.ref e/\s'.os=s.os/\AllBare s'.gens/\Heap.HeldW B outer e cls a0 L s'.heap/\HOk P w H' B/\H' e=none /\
 (∀ b o,s.heap.get? b=some o->H b=none->b ∉ frs outer->B.get? b=some o)/\(∀ b o,s.heap.get? b=some o->H b=none->b ∈ frs outer->∃ sl,s'.heap.get? b=some { o with slots:=sl }) /\
 (∀ b o,s.heap.get? b=some o->H b=none->H' b=none)/\(∀ b o,s.heap.get? b=some o->b ∉ frs outer->∃ o',B.get? b=some o') /\
 (∀ b xs,H b=some (.tup xs)->H' b=some (.tup xs))/\(∀ b o u,H b=some (.frz o u)->H' b=some (.frz o u))/\(∀ b ps,H b=some (.tbl ps)->∃ more,H' b=some (.tbl (ps ++ more)))/\E cls none H'
noncomputable def DI (X:Cx) (E:EXT):Prop:=∀ (pins:List (Addr × Obj)) (σ:St) (H:Hp) (s:Shared) (e:Value) (s':Shared),Inv X pins σ H s->CXh X.prog X.w X.env.locals X.stack H s (E σ) e s'->X.xe e s'
theorem Ig {M:Model} {A:Around} {E:Value->Shared->Prop} {s:Shared} {base:Heap} {env:Env} {outer:List Env} {L e:Addr} {cls a0:Value} {Q:Unit->Shared->Prop} (hf:env.frame=some L) (hd0:Heap.HeldW base (env :: outer) e cls a0 L s.heap)
  (hQ:∀ h',Heap.FlyingW base outer e cls a0 h'->s.heap.UpToSlots h'->Q () { s with heap:=h' }):wpAny M A (leaving env (.ref e)) Q E s:=by
 unfold leaving
 refine wpAny_bind (wpAny_noteFrame_againW hf hd0.2.2.2 (wpAny_landsW hd0 fun h1 fl up=>?_))
 obtain ⟨j1,j2,⟨_,_,j3⟩,j4⟩:=fl
 exact hQ h1 ⟨j1,j2,j3,j4⟩ up
section
variable {P:Program} {w:World} {K:Frag} {mg:Str->Option Value} {base:Heap} {N:List Str} {qual:Str} {scope:Scope} {f:Addr} {cd:Value} {A:Around} {outer:List Env} {s₀:Shared} {H₀:Hp} {E E':XK}
theorem QW (hE:∀ c d H,E c d H->E' c d H):DI (AM (CXe P w) P w K mg base N qual scope f cd A outer s₀ H₀ E') (fun _=>E):=by
 intro pins σ H s ev s' I h
 obtain ⟨e,cls,a0,H',B,rfl,ho,hg,fl,hok,en,keep,slot,free,there,tups,frzs,tbls,he⟩:=h
 show wpAny _ _ (leaving _ (.ref e)) _ _ _
 refine Ig (base:=B) rfl fl fun h2 fl2 up=>?_
 have sub:∀ b ∈ frs outer,b ∈ frs (AM (CXe P w) P w K mg base N qual scope f cd A outer s₀ H₀ E').stack:=fun b hb=>by
  obtain ⟨env,h1,h2⟩:=aay.mp hb
  exact aay.mpr ⟨env,aaa _ h1,h2⟩
 have nfr:∀ b o,s₀.heap.get? b=some o->b ∉ frs outer->b ∉ frs (AM (CXe P w) P w K mg base N qual scope f cd A outer s₀ H₀ E').stack:=fun b o q hb z=>by
  obtain ⟨env,h1,h2⟩:=aay.mp z
  rcases aah.mp h1 with rfl | h1
  ·exact aaL _ ((Option.some.inj h2).symm ▸ Heap.lt_size q)
  ·exact hb (aay.mpr ⟨env,h1,h2⟩)
 have nx:∀ b:Addr,b ∉ (AM (CXe P w) P w K mg base N qual scope f cd A outer s₀ H₀ E').ex:=fun b z=>absurd (show b ∈ ([]:List Addr) from z) (by simp)
 have frNF:∀ b o,s'.heap.get? b=some o->b ∈ frs (AM (CXe P w) P w K mg base N qual scope f cd A outer s₀ H₀ E').stack->∃ sl,h2.get? b=some { o with slots:=sl }:=fun b o q hb=>by
  obtain ⟨hn,o2,ho2,hnf⟩:=fl.2.2.1.mem hb
  rw [q] at ho2
  cases ho2
  exact up b _ q hnf
 refine ⟨e,cls,a0,H',B,rfl,ho.trans I.os,hg,fl2,hok,en,fun b o q n hb=>keep b o (I.base.keep b o q n hb (nx b)) (I.base.free b o q n (nx b)) (nfr b o q hb),fun b o q n hb=>?_,
  fun b o q n=>?_,fun b o q hb=>?_,fun b xs q=>tups b xs (I.base.tups b xs q),fun b o u q=>frzs b o u (I.base.frzs b o u q),fun b ps q=>?_,hE _ _ _ he⟩
 ·obtain ⟨sl,e1⟩:=I.base.slot b o q n hb (nx b)
  obtain ⟨sl1,e2⟩:=slot b _ e1 (I.base.free b o q n (nx b)) (sub b hb)
  obtain ⟨sl2,e3⟩:=frNF b _ e2 (sub b hb)
  exact ⟨sl2,e3⟩
 ·obtain ⟨o',e1⟩:=I.base.there b o q (nx b)
  exact free b o' e1 (I.base.free b o q n (nx b))
 ·obtain ⟨o',e1⟩:=I.base.there b o q (nx b)
  exact there b o' e1 (nfr b o q hb)
 ·obtain ⟨m1,e1⟩:=I.base.tbls b ps q
  obtain ⟨m2,e2⟩:=tbls b _ e1
  exact ⟨m1 ++ m2,by rw [e2,Array.append_assoc]⟩
end
structure Bx where
 (C:Addr)
 (fp:List Addr)
 (s:Shared)
 (H:Hp)
 (pins:List (Addr × Obj))
 (σ:St)
noncomputable def MW (X:Cx) (z:Bx):Prop:=Inv X z.pins z.σ z.H z.s/\z.C=z.s.heap.objs.size/\∀ b ∈ z.fp,(b ∈ X.ex\/X.s₀.heap.objs.size<=b)/\b ≠ X.env.locals/\(∀ x c,X.env.cells.lookup x=some c->c ≠ b)/\∀ p ∈ X.pn ++ z.pins,p.1 ≠ b
noncomputable def XB (X:Cx) (E:XK) (z:Bx) (ev:Value) (s':Shared):Prop:=∃ (H:Hp) (s:Shared) (m:Str->Option Value) (e:Addr) (cls a0:Value) (H':Hp) (B:Heap),Inv X z.pins z.σ H s/\s'.heap.Ns z.C m/\B.get? z.C=none/\z.C ∉ frs X.stack/\ev=.ref e/\s'.os=s.os/\AllBare s'.gens/\Heap.FlyingW B X.stack e cls a0 s'.heap/\HOk X.prog X.w H' B/\H' e=none /\
 (∀ b o,s.heap.get? b=some o->H b=none->b ∉ frs X.stack->B.get? b=some o)/\(∀ b o,s.heap.get? b=some o->H b=none->b ∈ frs X.stack->∃ sl,s'.heap.get? b=some { o with slots:=sl }) /\
 (∀ b o,s.heap.get? b=some o->H b=none->H' b=none)/\(∀ b o,s.heap.get? b=some o->b ∉ frs X.stack->∃ o',B.get? b=some o') /\
 (∀ b xs,H b=some (.tup xs)->H' b=some (.tup xs))/\(∀ b o u,H b=some (.frz o u)->H' b=some (.frz o u))/\(∀ b ps,H b=some (.tbl ps)->∃ more,H' b=some (.tbl (ps ++ more)))/\E cls none H'
noncomputable abbrev Cx.blkX (X:Cx) (scope:Scope) (z:Bx) (N:List Str) (EX:EXT):Cx :=
 { X with N:=N,s₀:=z.s,H₀:=z.H,env:=compEnvC scope (AH X.env scope.names []) z.C X.env,outer:=X.stack,ex:=z.fp,fn:=fun _=>false,pn:=[],xe:=fun e s'=>MW X z->XB X (EX z.σ) z e s' }
theorem OD {X:Cx} {scope:Scope} {N:List Str} {EX:EXT} {z:Bx} (G:MW X z) {pins':List (Addr × Obj)} {σ':St} {H':Hp} {s':Shared} (I5:Inv (X.blkX scope z N EX) pins' σ' H' s') :
  (∃ m,s'.heap.Ns z.C m)/\(∀ h',Heap.SameBut z.C s'.heap h'->Inv X z.pins z.σ H' { s' with heap:=h' })/\H' z.C=none/\z.C ∉ frs X.stack:=by
 obtain ⟨I3,eC,f2⟩:=G
 obtain ⟨m,hn,_⟩:=I5.loc
 refine ⟨⟨m,hn⟩,fun h' hb=>?_,I5.free,fun y=>?_⟩
 ·have same:∀ b o,z.s.heap.get? b=some o->h'.get? b=s'.heap.get? b:=fun b o e=>hb.2 b (by rw [eC]; exact aax (Heap.lt_size e))
  have u:=I5.base
  have un:Un (frs X.stack) z.fp z.H H' z.s.heap h':=⟨fun b o e n h1 h2=>(same b o e).trans (u.keep b o e n h1 h2),fun b o e n h1 h2=>by
    obtain ⟨sl,y⟩:=u.slot b o e n h1 h2
    exact ⟨sl,(same b o e).trans y⟩,u.free,fun b o e h1=>by
    obtain ⟨o',y⟩:=u.there b o e h1
    exact ⟨o',(same b o e).trans y⟩,u.tups,u.frzs,u.tbls⟩
  have hok:HOk X.prog X.w H' h':=fun b o e=>by
   have fC:H' z.C=none:=I5.free
   refine (I5.hok b o e).stay (fun c w' hc y=>(hb.2 c ?_).trans y) (fun _ y=>y) fun _ _ y=>y
   rintro rfl
   rcases hc with rfl | hc
   ·rw [fC] at e; cases e
   ·rw [fC] at hc; cases hc
  exact I3.call' (s':={ s' with heap:=h' }) (ch:=z.fp) I5.os un hok I5.bare f2
 ·rw [eC] at y
  rcases aah.mp (I3.stkSub _ y) with q | q
  ·exact absurd (q ▸ I3.lt) (aaL _)
  ·exact I3.nofs (aaj _) q
theorem G1 {h h' base:Heap}:∀ {l:List Env},(∀ b ∈ frs l,h'.get? b=h.get? b)->h.FunFrames base l->h'.FunFrames base l
 | [],_,_=>trivial
 | env :: rest,k,hl=>by
  obtain ⟨hk,⟨L,o,hf,hn,ho,hd⟩,hr⟩:=hl
  refine ⟨hk,⟨L,o,hf,hn,(k L ?_).trans ho,hd⟩,G1 (fun b hb=>k b ?_) hr⟩
  ·exact aay.mpr ⟨env,aab ..,hf⟩
  ·obtain ⟨e,h1,h2⟩:=aay.mp hb
   exact aay.mpr ⟨e,aaa _ h1,h2⟩
theorem FB {h base base':Heap} (k:∀ b,base.get? b=none->base'.get? b=none):∀ {l:List Env},h.FunFrames base l->h.FunFrames base' l
 | [],_=>trivial
 | env :: rest,hl=>by
  obtain ⟨hk,⟨L,o,hf,hn,ho,hd⟩,hr⟩:=hl
  exact ⟨hk,⟨L,o,hf,k L hn,ho,hd⟩,FB k hr⟩
theorem SE {X:Cx} {scope:Scope} {N:List Str} {EX:EXT} {z:Bx}:Dn (CXe X.prog X.w) (X.blkX scope z N EX) (fun _=>EX z.σ):=by
 intro pins' σ' H5 s5 ev s' I5 h G
 obtain ⟨⟨m,hm⟩,out,fC,nfr⟩:=OD G I5
 obtain ⟨e,cls,a0,H',B,rfl,ho,hg,fl,hok,en,keep,slot,free,there,tups,frzs,tbls,he⟩:=h
 obtain ⟨o,es,ep,hoC,r⟩:=hm
 have HC:H' z.C=none:=free _ o hoC fC
 have hid:∀ (h:Heap) b,b ≠ z.C->(hideAll h [z.C]).get? b=h.get? b:=fun h b hb=>by
  cases q:h.get? b with
  | some u=>exact hideAll_get _ q (by simpa using hb)
  | none =>
   cases q2:(hideAll h [z.C]).get? b with
   | none=>rfl
   | some u=>have:=of_hideAll _ q2; rw [q] at this; cases this
 have nC:∀ {b o},(hideAll s5.heap [z.C]).get? b=some o->b ≠ z.C:=fun q y=>by
  rw [y,hideAll_none _ (by simp)] at q; cases q
 have inB:∀ {b o},b ≠ z.C->B.get? b=some o->(hideAll B [z.C]).get? b=some o:=fun hb q=>(hid B _ hb).trans q
 have noB:∀ b,B.get? b=none->(hideAll B [z.C]).get? b=none:=fun b q=>by
  cases q2:(hideAll B [z.C]).get? b with
  | none=>rfl
  | some u=>have:=of_hideAll _ q2; rw [q] at this; cases this
 obtain ⟨f1,f2,f3,oe,vs,T,oT,ts,g1,g2,g3,g4,g5,g6⟩:=fl
 refine ⟨H5,{ s5 with heap:=hideAll s5.heap [z.C] },m,e,cls,a0,H',hideAll B [z.C],out _ ⟨hideAll_size _ _,fun b hb=>hid _ b hb⟩,⟨o,es,ep,f1 _ _ (keep _ _ hoC fC nfr),r⟩,hideAll_none _ (by simp),nfr,rfl,ho,hg,
  ⟨fun b o q=>f1 b o (of_hideAll _ q),noB e f2,FB noB f3,oe,vs,T,oT,ts,g1,g2,g3,g4,noB T g5,g6⟩,hok.hide (fun b hb=>by
   have:b=z.C:=by simpa using hb
   rw [this]; exact HC),en,fun b o q n hb=>inB (nC q) (keep b o (of_hideAll _ q) n hb),fun b o q n hb=>slot b o (of_hideAll _ q) n hb,fun b o q n=>free b o (of_hideAll _ q) n,fun b o q hb=>?_,tups,frzs,tbls,he⟩
 obtain ⟨o',y⟩:=there b o (of_hideAll _ q) hb
 exact ⟨o',inB (nC q) y⟩
theorem Ih {e:Value} {env env':Env} (h:env.frame=env'.frame):noteFrame e env=noteFrame e env':=by
 unfold noteFrame PySem.frameOf
 rw [h]
noncomputable def B7 (M:Model) (A:Around) (E:Value->Shared->Prop) (use:Option (Value->Sem Unit)) (Q:Value->Shared->Prop) (acc:Value) (cenv:Env) (r:Result) (s':Shared):Prop :=
 match r,use with
 | .ok _,none=>∃ m,s'.heap.Ns cenv.locals m/\∀ h',Heap.SameBut cenv.locals s'.heap h'->Q acc { s' with heap:=h' }
 | .ok _,some u=>wpAny M A (u acc) (fun _ s''=>∃ m,s''.heap.Ns cenv.locals m/\∀ h',Heap.SameBut cenv.locals s''.heap h'->Q .none { s'' with heap:=h' }) E s'
 | .error x,_=>∃ m,s'.heap.Ns cenv.locals m/\∀ h',Heap.SameBut cenv.locals s'.heap h'->wpAny M A (passOn "comprehension.variables-let-go" x cenv:Sem Value) (fun _ _=>False) E { s' with heap:=h' }
theorem Jl {M:Model} {A:Around} {E:Value->Shared->Prop} {use:Option (Value->Sem Unit)} {Q:Value->Shared->Prop} {acc:Value} {cenv:Env} {x:Value} {s':Shared} (h:∃ m,s'.heap.Ns cenv.locals m/\∀ h',Heap.SameBut cenv.locals s'.heap h'->wpAny M A (passOn "comprehension.variables-let-go" x cenv:Sem Value) (fun _ _=>False) E { s' with heap:=h' }):B7 M A E use Q acc cenv (.error x) s':=by
 cases use <;> exact h
theorem Kk {M:Model} {A:Around} {E:Value->Shared->Prop} {s:Shared} {env:Env} {e:Expr} {scope:Scope} {pos:Pos} {newAcc first:Sem Value} {g:Comprehension} {gs:List Comprehension} {cl:List (Str × Addr)} {use:Option (Value->Sem Unit)} {Q:Value->Shared->Prop}
  (hcl:clausesOf e=g :: gs) (hs:∀ x,foldedSetIterable g.iter env x=pure x) (hclos:closureFor scope env=pure cl) (hkind:scope.kind=.function) (hnames:∀ x ∈ scope.names,x.2=.local->scope.names.lookup x.1=some .local)
  (h:wpAny M A first (fun x s1=>wpAny M A (pyIter x) (fun it s2=>wpAny M A newAcc (fun acc s3=>wpAny M A (newFunctionEnv scope env.globals cl [] env.qual none .none (some env)) (fun cenv s4 =>
    codeAny M A (.compStart e 0 it acc { cenv with scope:=relabel scope env }) (B7 M A E use Q acc { cenv with scope:=relabel scope env }) s4) E s3) E s2) E s1) E s) :
  wpAny M A (comprehension e scope env pos newAcc false first use) Q E s:=by
 unfold comprehension
 rw [hclos,hcl]
 have pass:∀ {x:Value} {t:Shared},E x t->E x t:=fun y=>y
 refine wpAny_bind (wpAny_mono h (fun x s1 h1=>wpAny_bind (wpAny_standAt (wpAny_bind (wpAny_of_eq (hs x) (wpAny_bind (wpAny_holding (wpAny_mono h1 (fun it s2 h2 =>
  wpAny_standIf (wpAny_bind (wpAny_mono h2 (fun acc s3 h3=>wpAny_bind (wpAny_pure (wpAny_bind (wpAny_mono h3 (fun cenv s4 h4=>?_) fun _ _=>pass)))) fun _ _=>pass))) fun _ _=>pass))))))) fun _ _=>pass)
 dsimp only
 have v1:∀ x ∈ (scope.names.filter fun x=>(x.2==.local || x.2==.cell) && x.1 != (".0" : Str)).reverse,x.2=.local->Env.kindOf { cenv with scope:=relabel scope env } x.1=some .local:=fun x hx hl=>lookup_relabel_local (hnames x (ab0.mp (abr.mp hx)).1 hl)
 have v2:∀ x ∈ (scope.names.filter fun x=>(x.2==.local || x.2==.cell) && x.1 != (".0" : Str)).reverse.drop 1 ++ (scope.names.filter fun x=>(x.2==.local || x.2==.cell) && x.1 != (".0" : Str)).reverse.take 1,x.2=.local->Env.kindOf { cenv with scope:=relabel scope env } x.1=some .local:=fun x hx hl=>by
  rcases aac.mp hx with y | y
  ·exact v1 x (aaD y) hl
  ·exact v1 x (aaJ y) hl
 refine wpAny_holding (wpAny_bind (wpAny_attempt (wpAny_holding (wpAny_run (codeAny_mono h4 fun r t hr=>?_)))))
 cases r with
 | ok f =>
  cases use with
  | none =>
   obtain ⟨m,hn,q⟩:=hr
   exact wpAny_bind (wpAny_holding (wpAny_comp_letGo (cenv:={ cenv with scope:=relabel scope env }) hkind _ t m v1 hn fun h' m' _ y=>wpAny_pure (q h' y)))
  | some u =>
   refine wpAny_bind (wpAny_rule (wpAny_bind (wpAny_holding (wpAny_mono hr (fun _ t2 q=>?_) fun _ _=>pass))))
   obtain ⟨m,hn,q⟩:=q
   exact wpAny_bind (wpAny_comp_letGo (cenv:={ cenv with scope:=relabel scope env }) hkind _ t2 m v2 hn fun h' m' _ y=>wpAny_pure (q h' y))
 | error x =>
  have q:∃ m,t.heap.Ns cenv.locals m/\∀ h',Heap.SameBut cenv.locals t.heap h'->wpAny M A (passOn "comprehension.variables-let-go" x { cenv with scope:=relabel scope env }:Sem Value) (fun _ _=>False) E { t with heap:=h' }:=by cases use <;> exact hr
  obtain ⟨m,hn,q⟩:=q
  exact wpAny_bind (wpAny_holding (wpAny_comp_letGo (cenv:={ cenv with scope:=relabel scope env }) hkind _ t m v1 hn fun h' m' _ y=>wpAny_mono (q h' y) (fun _ _ f=>f.elim) fun _ _=>pass))
theorem MX {X:Cx} {EX:EXT} {z:Bx} {cenv:Env} {use:Option (Value->Sem Unit)} {R:Value->Shared->Prop} {acc x:Value} {s':Shared} (hp:DI X EX) (hs:X.stack=X.env :: X.outer) (hf:X.env.frame=some X.env.locals) (hce:cenv.frame=X.env.frame) (hcl:cenv.locals=z.C) (h:XB X (EX z.σ) z x s') :
  notedBy (model X.prog X.w) X.A cenv (fun x s''=>B7 (model X.prog X.w) X.A X.xe use R acc cenv (.error x) s'') x s':=by
 obtain ⟨H,s,m,e,cls,a0,H',B,I,hn,bC,nfr,rfl,ho,hg,fl,hok,en,keep,slot,free,there,tups,frzs,tbls,he⟩:=h
 unfold notedBy
 rw [Ih hce]
 refine wpAny_looks_onW (outer:=X.outer) (by rw [I.ok.frames,hs]) hf (by rw [<- hs]; exact fl) fun h1 hh up=>Jl ⟨m,by rw [hcl]; exact up.ns hn,fun h2 sb=>?_⟩
 rw [hcl] at sb
 rw [<- hs] at hh
 obtain ⟨k1,k2,k3,oe,vs,T,oT,ts,he1,hc1,hd,g1,hnT,hTe,hT,hdT,g3⟩:=hh
 have hn1:h1.Ns z.C m:=up.ns hn
 have nCe:∀ {b:Addr} {o:Obj} {vs:Array Value},h1.get? b=some o->o.data=.fields vs->b ≠ z.C:=fun {b o vs} q d y=>by
  obtain ⟨oc,es,ep,hoc,hdc,_⟩:=hn1
  rw [y,hoc] at q; cases q
  rw [hdc] at d; cases d
 have he2:h2.get? e=some oe:=(sb.2 e (nCe he1 hd)).trans he1
 have hT2:h2.get? T=some oT:=(sb.2 T (nCe hT hdT)).trans hT
 have hsz3:3 < ts.size:=(Array.getElem?_eq_some_iff.mp g3).1
 unfold PySem.passOn
 refine wpAny_bind (wpAny_field (s:={ s' with heap:=h2 }) he2 hd g1 ?_)
 rw [if_neg (show ¬ ((Value.ref T==Value.none)=true) from by simp)]
 refine wpAny_bind ?_
 unfold setFlight
 refine wpAny_bind (wpAny_field (s:={ s' with heap:=h2 }) he2 hd g1 ?_)
 rw [if_pos (show (Value.ref T != Value.none)=true from by simp),hce,hf]
 refine wpAny_setField (s:={ s' with heap:=h2 }) hT2 hdT hsz3 (wpAny_throw ?_)
 have other:∀ b,b ≠ T->(h2.update T (Obj.mapFields (·.setIfInBounds 3 ((some X.env.locals:Option Addr).elim Value.none fun f=>rawInt f)))).get? b=h2.get? b:=fun b hb=>Heap.get?_update_other _ _ (Ne.symm hb)
 have frT:∀ b ∈ frs X.stack,b ≠ T/\b ≠ z.C:=fun b hb=>⟨fun y=>by
   obtain ⟨_,o2,ho2,hnf⟩:=k3.mem hb
   rw [y,hT] at ho2; cases ho2; exact hnf ts hdT,fun y=>nfr (y ▸ hb)⟩
 refine hp z.pins z.σ H s (.ref e) _ I ⟨e,cls,a0,H',B,rfl,ho,hg,⟨fun b o q=>?_,k2,G1 (fun b hb=>(other b (frT b hb).1).trans (sb.2 b (frT b hb).2)) k3,oe,vs,T,_,_,(other e (Ne.symm hTe)).trans he2,hc1,hd,g1,hnT,hTe,Heap.get?_update_self _ hT2 (Obj.isFreed_of_fields (Obj.data_mapFields hdT _)),Obj.data_mapFields hdT _,?_⟩,hok,en,keep,fun b o q n hb=>?_,free,there,tups,frzs,tbls,he⟩
 ·have b1:b ≠ z.C:=fun y=>by rw [y,bC] at q; cases q
  have b2:b ≠ T:=fun y=>by rw [y,hnT] at q; cases q
  exact (other b b2).trans ((sb.2 b b1).trans (k1 b o q))
 ·simp [hsz3]
 ·obtain ⟨sl,e1⟩:=slot b o q n hb
  obtain ⟨_,o2,ho2,hnf⟩:=fl.2.2.1.mem hb
  rw [e1] at ho2
  cases ho2
  obtain ⟨sl2,e2⟩:=up b _ e1 hnf
  exact ⟨sl2,(other b (frT b hb).1).trans ((sb.2 b (frT b hb).2).trans e2)⟩
theorem Hb {prog:Program} {w:World} {A:Around} {R:Result->Shared->Prop} {s:Shared} {elt tg iter:Expr} {ifs:List Expr} {scope:Scope} {pos:Pos} {it acc:Value} {env:Env} (I:Nat->Shared->Prop) (Eb:Value->Shared->Prop) (hE:∀ x t,Eb x t->notedBy (model prog w) A env (fun x t=>R (.error x) t) x t)
  (turn:∀ n s,I n s->wpAny (model prog w) A (pyNext it) (fun r s1=>match r with
   | none=>R (.ok .next) s1
   | some v=>wpAny (model prog w) A (letOwnedTupleGo tg it v) (fun _ s2=>wpAny (model prog w) A (assign tg env v) (fun _ s3=>wpAny (model prog w) A (Gv ifs env) (fun ok s4 =>
     if ok=true then wpAny (model prog w) A (eval elt env) (fun x s5=>wpAny (model prog w) A (call (.builtin "list.append") [acc,x]) (fun _ s6=>∃ m,m < n/\I m s6) Eb s5) Eb s4
     else ∃ m,m < n/\I m s4) Eb s3) Eb s2) Eb s1) Eb s) (n:Nat) (h:I n s) :
  codeAny (model prog w) A (.compLoop (.ListComp elt [⟨tg,iter,ifs,0⟩] scope pos) 0 it acc env) R s:=by
 refine codeAny_loop rfl I (fun k s' hk=>?_) n h
 show wpAny _ A ((compTurn (.ListComp elt [⟨tg,iter,ifs,0⟩] scope pos) 0 it acc env).onRaise (fun z=>do noteFrame z env; theTreesLotGoes z)) _ _ s'
 refine wpAny_noted ?_
 rw [compTurn_list]
 refine wpAny_bind (wpAny_standAt ?_)
 refine wpAny_bind (wpAny_mono (turn k s' hk) (fun r s1 h1=>?_) hE)
 rcases r with _ | v
 ·exact wpAny_pure h1
 ·refine wpAny_bind (wpAny_mono h1 (fun _ s2 h2=>?_) hE)
  refine wpAny_bind (wpAny_mono h2 (fun _ s3 h3=>?_) hE)
  refine wpAny_bind (wpAny_mono h3 (fun ok s4 h4=>?_) hE)
  cases ok with
  | false=>exact wpAny_pure ⟨rfl,h4⟩
  | true =>
   refine wpAny_bind ?_
   refine wpAny_bind (wpAny_mono h4 (fun x s5 h5=>?_) hE)
   exact wpAny_bind (wpAny_mono h5 (fun _ s6 h6=>wpAny_pure (wpAny_pure ⟨rfl,h6⟩)) hE)
noncomputable def EK (nl:Nat) (fr:List Nat) (wi:TI) (gz:Bx->TG) (tcz:Bx->TT) (tez:Bx->TE):TE:=fun σ H Q=>wi σ H fun J H1=>∀ (z:Bx) (D:Addr),z.σ=σ->H1 D=none->∃ W:Nat->Nat->List V->Hp->Prop,(∃ m,W 0 m [] (upd H1 D (.lst [])))/\∀ i m acc H2,W i m acc H2 ->
 H2 D=some (.lst acc)/\((J.stop i H2/\Q (.ref D) H2)\/(J.go i H2/\∀ x H3,J.yld i H2 x H3->gz z x (Ap nl fr σ) H3 fun σ4 H4=>tcz z σ4 H4 fun b H5 =>
  if b=true then tez z σ4 H5 fun v H6=>H6 D=some (.lst acc)/\acc.length < sizeLine/\∃ m',m' < m/\W (i + 1) m' (acc ++ [v]) (upd H6 D (.lst (acc ++ [v]))) else ∃ m',m' < m/\W (i + 1) m' acc H5))
theorem G2 {X:Cx} {EX:EXT} {use:Option (Value->Sem Unit)} {R:Value->Shared->Prop} {ipos:Pos} {pins:List (Addr × Obj)} {s:Shared} {σ:St} {H:Hp} {Q:VK} {elt tg iter:Expr} {ifs:List Expr} {scope:Scope} {pos:Pos} {wi:TI} {gz:Bx->TG} {tcz:Bx->TT} {tez:Bx->TE} (loc:List Str) (fr:List Nat) (frn:List Str) (hc:X.calm=true) (hp:DI X EX) (hst:X.stack=X.env :: X.outer) (hfm:X.env.frame=some X.env.locals) (hi:PI X tg iter wi)
  (hfr:∀ (j:Nat) (k:Nat) (x:Str),fr[j]?=some k->frn[j]?=some x->X.N[k]?=some x/\X.env.kindOf x=some .cell/\(x,NameKind.free) ∈ scope.names) (hln:frn.length=fr.length)
  (hcell:∀ y ∈ scope.names,y.2 ≠ .cell) (hkind:scope.kind=.function) (hnames:∀ y ∈ scope.names,y.2=.local->scope.names.lookup y.1=some .local) (hfree:∀ y ∈ scope.names,y.2=.free->X.env.kindOf y.1=some .cell)
  (hkin:∀ (x:Str),x ∈ frn->(relabel scope X.env).names.lookup x=some .cell) (hsc:X.env.scope.kind=.function)
  (hgk:∀ (z:Bx) (v:V) (σ:St) (H:Hp) (Q:St->Hp->Prop),gz z v σ H Q->gz z v σ H fun σ' H'=>Q σ' H'/\σ'.length=σ.length/\∀ i,loc.length<=i->σ'[i]?=σ[i]?)
  (hblk:∀ (z:Bx),PG (X.blkX scope z (loc ++ frn) EX) tg (gz z)/\PTs (X.blkX scope z (loc ++ frn) EX) ifs (tcz z)/\PE (X.blkX scope z (loc ++ frn) EX) elt (tez z))
  (I:Inv X pins σ H s) (h:EK loc.length fr wi gz tcz tez σ H Q)
  (haf:∀ (D C:Addr) (H':Hp) (s':Shared) (m:Str->Option Value),s'.heap.Ns C m->(∀ h',Heap.SameBut C s'.heap h'->Inv X pins σ H' { s' with heap:=h' }) ->
   (X.s₀.heap.objs.size<=C/\C ≠ X.env.locals/\(∀ x c,X.env.cells.lookup x=some c->c ≠ C)/\(∀ p ∈ X.pn ++ pins,p.1 ≠ C)/\H' C=none/\C ∉ frs X.stack)->Q (.ref D) H'->B7 (model X.prog X.w) X.A X.xe use R (.ref D) (compEnvC scope (AH X.env scope.names []) C X.env) (.ok .next) s')
  (hs:∀ x,foldedSetIterable iter X.env x=pure x):wpAny (model X.prog X.w) X.A (comprehension (.ListComp elt [⟨tg,iter,ifs,0⟩] scope pos) scope X.env ipos (newList []) false (eval iter X.env) use) R X.xe s:=by
 have hcs:∀ x ∈ scope.names,x.2=.free->(X.env.cells.lookup x.1).isSome=true:=fun x hx hf=>by
  obtain ⟨c,e⟩:=I.ok.has x.1 (.inl (hfree x hx hf))
  rw [e]; rfl
 refine Kk rfl hs (El hcs) hkind hnames (thn (hi pins s σ H _ I h) fun v s1 h1=>thn h1 fun itv s2 h2=>?_)
 obtain ⟨it,fp,tn,J,H2,rfl,I2,T,st2,f2,q2⟩:=h2
 refine wpAny_newList (items:=[]) ?_ (by simp)
 have eD:H2 s2.heap.objs.size=none:=I2.hok.fresh (aaj _)
 have pk:∀ (o:Obj) b u,s2.heap.get? b=some u->(s2.heap.push o).get? b=some u:=fun o b u e=>Heap.get?_push_of_some _ e
 have I3:=I2.laid (a:=s2.heap.objs.size) (o:=.lst []) (t':=s2.toks) (h':=s2.heap.push { cls:=.type "list",data:=.seq ([]:List Value).toArray }) (pk _) (aaj _)
  ⟨aaA _,[],0,.nil,Heap.get?_push_size _ rfl⟩
 generalize hs3:(⟨s2.heap.push { cls:=.type "list",data:=.seq ([]:List Value).toArray },s2.gens,s2.drawn,s2.toks,s2.os⟩:Shared)=s3 at I3 ⊢
 have k3:∀ b u,s2.heap.get? b=some u->s3.heap.get? b=some u:=fun b u e=>by rw [<- hs3]; exact pk _ b u e
 have tk3:s3.os=s2.os/\s3.gens=s2.gens:=by rw [<- hs3]; exact ⟨rfl,rfl⟩
 have z3:s3.heap.objs.size=s2.heap.objs.size + 1:=by rw [<- hs3]; exact Heap.size_push ..
 refine wpAny_newFunctionEnv hcell (by intro y hy; simp at hy) (fun h4 hns hsb=>?_) hkind
 have k4:∀ b u,s3.heap.get? b=some u->h4.get? b=some u:=fun b u e=>hsb.extBut b u (aax (Heap.lt_size e)) (Heap.get?_push_of_some _ e)
 have fpl:∀ b ∈ fp,b < s2.heap.objs.size:=fun b hb=>by
  obtain ⟨o,e,_⟩:=T.obj 0 _ st2 b hb
  exact Heap.lt_size e
 obtain ⟨W,⟨m0,w0⟩,turn⟩:=q2 ⟨s3.heap.objs.size,fp,s3,upd H2 s2.heap.objs.size (.lst []),pins,σ⟩ _ rfl eD
 have ok4:(X.blkX scope ⟨s3.heap.objs.size,fp,s3,upd H2 s2.heap.objs.size (.lst []),pins,σ⟩ (loc ++ frn) EX).Ok:=by
  refine ⟨I.ok.mod,hkind,I.ok.glob,I.ok.blt,aaj _,fun x y c e1 e2=>I.ok.inj x y c (An hcs e1) (An hcs e2),fun x hx=>?_,fun x c z=>(nomatch z),I.ok.hd,I.ok.frames,.inl rfl,fun b hb=>⟨?_,fun x c e=>(f2 b hb).2.2.2.2.1 x c (An hcs e)⟩,I3.bs,aao I.ok.bsz I3.sz,
   fun b o e hb=>?_,fun b hb z=>?_,I3.stack,I3.stkFree⟩
  ·have hm:(x,NameKind.free) ∈ scope.names:=by
    have:∃ k',(k'=NameKind.cell\/k'=NameKind.free)/\(relabel scope X.env).names.lookup x=some k':=by
     rcases hx with z | z
     ·exact ⟨_,.inl rfl,z⟩
     ·exact ⟨_,.inr rfl,z⟩
    obtain ⟨k',hk',z⟩:=this
    have zm:=PySem.mem_of_lookup z
    unfold relabel at zm
    obtain ⟨⟨n,k⟩,hn,e⟩:=aaG.mp zm
    dsimp only at e
    split at e
    ·rename_i hk
     cases e
     have:k=NameKind.free:=by
      cases k <;> first | rfl | (simp at hk)
     rw [<- this]; exact hn
    ·cases e
     rcases hk' with rfl | rfl
     ·exact absurd rfl (hcell _ hn)
     ·exact hn
   obtain ⟨c,e⟩:=I.ok.has x (.inl (hfree _ hm rfl))
   exact ⟨c,BG hm hcs e⟩
  ·have:=fpl b hb
   exact aax (by rw [z3]; exact abU this)
  ·rcases (f2 b hb).2.2.2.1 with z | z
   ·exact I.ok.noex b o e z
   ·exact absurd (aaq (Heap.lt_size (I.ok.bs b o e).1) z) (aaL _)
  ·have:=I2.stkSub b z
   rcases aah.mp this with rfl | y
   ·exact (f2 _ hb).2.1 rfl
   ·exact (f2 b hb).2.2.1 y
 have I4:Inv (X.blkX scope ⟨s3.heap.objs.size,fp,s3,upd H2 s2.heap.objs.size (.lst []),pins,σ⟩ (loc ++ frn) EX) [] (Ap loc.length fr σ) (upd H2 s2.heap.objs.size (.lst [])) { s3 with heap:=h4,toks:=s3.toks + ([]:List (Str × Value)).length }:=by
  refine ⟨ok4,rfl,I3.bare,Un.kept k4,⟨_,hns,fun i x v e1 e2 e3=>?_⟩,fun x c e=>?_,I3.hok.fresh (aaj _),fun x c e=>I3.freeC x c (An hcs e),fun p hp=>(nomatch hp),I3.hok.kept k4,?_⟩
  ·unfold Ap at e2
   by_cases hi:i < loc.length
   ·rw [aaK (by simpa using hi),aaO] at e2
    split at e2 <;> cases e2
   ·rw [aaI (by simpa using hi),aaW,aau] at e2
    have e1':frn[i - loc.length]?=some x:=by
     have:(loc ++ frn)[i]?=some x:=e1
     rw [aaI (aa4 hi)] at this
     exact this
    cases ek:fr[i - loc.length]? with
    | none=>rw [ek] at e2; cases e2
    | some k =>
     rw [ek] at e2
     have e2':(σ[k]?).join=some v:=Option.some.inj e2
     have e2'':σ[k]?=some (some v):=by
      cases q:σ[k]? with
      | none=>rw [q] at e2'; cases e2'
      | some y=>rw [q] at e2'; exact congrArg some e2'
     obtain ⟨n1,n2,n3⟩:=hfr _ k x ek e1'
     obtain ⟨m,_,hl⟩:=I3.loc
     obtain ⟨u,ru,lk⟩:=hl k x v n1 e2'' (.inr (.inl n2))
     refine ⟨u,ru,.inr ⟨.inl (hkin x (aai e1')),?_⟩⟩
     rcases lk with ⟨z,_⟩ | ⟨_,c,ec,ic⟩
     ·rw [n2] at z; cases z
     ·obtain ⟨o,ho,hd⟩:=ic
      exact ⟨c,BG n3 hcs ec,o,k4 _ _ ho,hd⟩
  ·obtain ⟨v,o,ho,hd⟩:=I3.cell x c (An hcs e)
   exact ⟨v,o,k4 _ _ ho,hd⟩
  ·unfold Ap
   show _=(loc ++ frn).length
   rw [aal,aal,aaW,aae,hln]
 have stat:∀ {H':Hp},(∀ b ∈ fp,H' b=none)->∀ b ∈ fp,FpOk (X.blkX scope ⟨s3.heap.objs.size,fp,s3,upd H2 s2.heap.objs.size (.lst []),pins,σ⟩ (loc ++ frn) EX) [] H' b:=fun hn b hb =>
  ⟨hn b hb,(ok4.exf b hb).1,ok4.exfs b hb,.inl hb,(ok4.exf b hb).2,fun p hp=>(nomatch hp)⟩
 have fp3:∀ b ∈ fp,(upd H2 s2.heap.objs.size (.lst [])) b=none:=fun b hb=>by
  rw [Af (aax (fpl b hb))]; exact (f2 b hb).1
 obtain ⟨pg,pt,pe⟩:=hblk ⟨s3.heap.objs.size,fp,s3,upd H2 s2.heap.objs.size (.lst []),pins,σ⟩
 have st4:tn 0 h4:=T.keep 0 _ _ st2 fun b _ o e=>k4 b o (k3 b o e)
 have after:∀ {i:Nat} {H':Hp} {s':Shared} {acc:List V} {σ':St},Inv (X.blkX scope ⟨s3.heap.objs.size,fp,s3,upd H2 s2.heap.objs.size (.lst []),pins,σ⟩ (loc ++ frn) EX) [] σ' H' s'->Q (.ref s2.heap.objs.size) H' ->
   B7 (model X.prog X.w) X.A X.xe use R (.ref s2.heap.objs.size) (compEnvC scope (AH X.env scope.names []) s3.heap.objs.size X.env) (.ok .next) s':=by
  intro i H' s' acc σ' I5 q
  obtain ⟨m,hn,_⟩:=I5.loc
  refine haf s2.heap.objs.size s3.heap.objs.size H' s' m hn (fun h' hb=>?_) ⟨I3.sz,abG I3.lt,fun x c e z=>?_,fun p hp z=>?_,I5.free,fun z=>?_⟩ q
  ·have same:∀ b o,s3.heap.get? b=some o->h'.get? b=s'.heap.get? b:=fun b o e=>hb.2 b (aax (Heap.lt_size e))
   have u:=I5.base
   have un:Un (frs X.stack) fp (upd H2 s2.heap.objs.size (.lst [])) H' s3.heap h':=⟨fun b o e n h1 h2=>(same b o e).trans (u.keep b o e n h1 h2),fun b o e n h1 h2=>by
     obtain ⟨sl,z⟩:=u.slot b o e n h1 h2
     exact ⟨sl,(same b o e).trans z⟩,u.free,fun b o e h1=>by
     obtain ⟨o',z⟩:=u.there b o e h1
     exact ⟨o',(same b o e).trans z⟩,u.tups,u.frzs,u.tbls⟩
   have hok:HOk X.prog X.w H' h':=fun b o e=>by
    have fC:H' s3.heap.objs.size=none:=I5.free
    refine (I5.hok b o e).stay (fun c w' hc z=>(hb.2 c ?_).trans z) (fun _ z=>z) fun _ _ z=>z
    rintro rfl
    rcases hc with rfl | hc
    ·rw [fC] at e; cases e
    ·rw [fC] at hc; cases hc
   exact I3.call' (s':={ s' with heap:=h' }) (ch:=fp) I5.os un hok I5.bare (fun b hb=>⟨(f2 b hb).2.2.2.1,(f2 b hb).2.1,(f2 b hb).2.2.2.2.1,(f2 b hb).2.2.2.2.2⟩)
  ·obtain ⟨v,hcell⟩:=I3.cell x c e
   exact absurd (z ▸ hcell.lt) (aaL _)
  ·exact absurd (z ▸ Heap.lt_size (I3.pin p hp).1) (aaL _)
  ·rcases aah.mp (I3.stkSub _ z) with y | y
   ·exact absurd (y ▸ I3.lt) (aaL _)
   ·exact I3.nofs (aaj _) y
 have loop:∀ s5:Shared,s5={ s3 with heap:=h4,toks:=s3.toks + ([]:List (Str × Value)).length } ->
   codeAny (model X.prog X.w) X.A (.compLoop (.ListComp elt [⟨tg,iter,ifs,0⟩] scope pos) 0 (.ref it) (.ref s2.heap.objs.size) (compEnvC scope (AH X.env scope.names []) s3.heap.objs.size X.env))
    (B7 (model X.prog X.w) X.A X.xe use R (.ref s2.heap.objs.size) (compEnvC scope (AH X.env scope.names []) s3.heap.objs.size X.env)) s5:=by
  rintro s5 rfl
  have G:MW X ⟨s3.heap.objs.size,fp,s3,upd H2 s2.heap.objs.size (.lst []),pins,σ⟩:=⟨I3,rfl,fun b hb=>⟨(f2 b hb).2.2.2.1,(f2 b hb).2.1,(f2 b hb).2.2.2.2.1,(f2 b hb).2.2.2.2.2⟩⟩
  refine Hb (Eb:=(X.blkX scope ⟨s3.heap.objs.size,fp,s3,upd H2 s2.heap.objs.size (.lst []),pins,σ⟩ (loc ++ frn) EX).xe) (hE:=fun x t h=>MX hp hst hfm rfl rfl (h G)) (fun n s'=>∃ i acc H',Inv (X.blkX scope ⟨s3.heap.objs.size,fp,s3,upd H2 s2.heap.objs.size (.lst []),pins,σ⟩ (loc ++ frn) EX) [] (Ap loc.length fr σ) H' s'/\tn i s'.heap/\(∀ b ∈ fp,H' b=none)/\W i n acc H') ?_ m0
   ⟨0,[],_,I4,st4,fp3,w0⟩
  rintro n s6 ⟨i,acc,H6,I6,st6,fr6,w6⟩
  obtain ⟨hD,alt⟩:=turn i n acc H6 w6
  rcases alt with ⟨stop,q⟩ | ⟨go,step⟩
  ·refine thn (T.done (X.blkX scope ⟨s3.heap.objs.size,fp,s3,upd H2 s2.heap.objs.size (.lst []),pins,σ⟩ (loc ++ frn) EX) rfl rfl rfl hc i [] s6 _ H6 _ I6 (stat fr6) st6 stop) fun r s7 ⟨hr,I7⟩=>?_
   subst hr
   exact after (i:=i) (acc:=acc) I7 q
  ·refine thn (T.item (X.blkX scope ⟨s3.heap.objs.size,fp,s3,upd H2 s2.heap.objs.size (.lst []),pins,σ⟩ (loc ++ frn) EX) rfl rfl rfl hc i [] s6 _ H6 _ I6 (stat fr6) st6 go) fun r s7 ⟨u,hr,h7⟩=>?_
   subst hr
   refine thn h7 fun _ s8 ⟨x,H8,I8,r8,y8,st8,fr8⟩=>?_
   have I8':=I8.pinned (stat fr8) (T.obj _ _ st8)
   have back:∀ {σ9:St} {H9:Hp} {s9:Shared},Inv (X.blkX scope ⟨s3.heap.objs.size,fp,s3,upd H2 s2.heap.objs.size (.lst []),pins,σ⟩ (loc ++ frn) EX) ([] ++ Dm fp s8.heap) σ9 H9 s9->σ9.length=(Ap loc.length fr σ).length->(∀ i,loc.length<=i->σ9[i]?=(Ap loc.length fr σ)[i]?) ->
     Inv (X.blkX scope ⟨s3.heap.objs.size,fp,s3,upd H2 s2.heap.objs.size (.lst []),pins,σ⟩ (loc ++ frn) EX) [] (Ap loc.length fr σ) H9 s9/\tn (i + 1) s9.heap/\(∀ b ∈ fp,H9 b=none):=by
    intro σ9 H9 s9 I9 hl hk
    refine ⟨(I9.unpinned).weak hl.symm fun j v ej=>?_,T.keep _ _ _ st8 fun b hb o e=>(I9.pin (b,o) (aag _ (aag _ (A5 hb e)))).1,fun b hb=>?_⟩
    ·by_cases hj:j < loc.length
     ·unfold Ap at ej
      rw [aaK (by simpa using hj),aaO] at ej
      split at ej <;> cases ej
     ·rw [hk j (aa4 hj)]; exact ej
    ·obtain ⟨o,e,d⟩:=T.obj _ _ st8 b hb
     exact (I9.pin (b,o) (aag _ (aag _ (A5 hb e)))).2.1
   refine thn (pg _ s8 _ H8 x u _ I8' r8 (hgk _ _ _ _ _ (step x H8 y8))) fun _ s9 ⟨σ9,H9,I9,q9,l9,k9⟩=>?_
   refine thn (pt _ s9 σ9 H9 _ I9 q9) fun ok s10 ⟨H10,I10,q10⟩=>?_
   cases ok with
   | false =>
    rw [if_neg (by decide)] at q10 ⊢
    obtain ⟨m',hm,w'⟩:=q10
    obtain ⟨b1,b2,b3⟩:=back I10 l9 k9
    exact ⟨m',hm,i + 1,acc,H10,b1,b2,b3,w'⟩
   | true =>
    rw [if_pos rfl] at q10 ⊢
    refine thn (pe _ s10 σ9 H10 _ I10 q10) fun y s11 ⟨v,H11,I11,r11,hD11,hz,m',hm,w'⟩=>?_
    refine thn (CO _ s11 σ9 H11 (.ref s2.heap.objs.size) [v] (.ref s2.heap.objs.size) [y] (fun _ H12=>W (i + 1) m' (acc ++ [v]) H12) I11 rfl (.cons r11 .nil) ⟨_,acc,v,rfl,rfl,hD11,hz,w'⟩) fun _ s12 ⟨_,H12,I12,_,w12⟩=>?_
    obtain ⟨b1,b2,b3⟩:=back I12 l9 k9
    exact ⟨m',hm,i + 1,_,H12,b1,b2,b3,w12⟩
 exact codeAny_compStart_list (loop _ rfl) (T.self X.A 0 _ _ _ st4 (loop _ rfl))
theorem Jm {X:Cx} {EX:EXT} {elt tg iter:Expr} {ifs:List Expr} {scope:Scope} {pos spos py:Pos} {y:Str} {k:Nat} {wi:TI} {gz:Bx->TG} {tcz:Bx->TT} {tez:Bx->TE} (loc:List Str) (fr:List Nat) (frn:List Str) (hc:X.calm=true) (hp:DI X EX) (hst:X.stack=X.env :: X.outer) (hfm:X.env.frame=some X.env.locals) (hi:PI X tg iter wi)
  (hfr:∀ (j:Nat) (k:Nat) (x:Str),fr[j]?=some k->frn[j]?=some x->X.N[k]?=some x/\X.env.kindOf x=some .cell/\(x,NameKind.free) ∈ scope.names) (hln:frn.length=fr.length)
  (hcell:∀ y ∈ scope.names,y.2 ≠ .cell) (hkind:scope.kind=.function) (hnames:∀ y ∈ scope.names,y.2=.local->scope.names.lookup y.1=some .local) (hfree:∀ y ∈ scope.names,y.2=.free->X.env.kindOf y.1=some .cell)
  (hkin:∀ (x:Str),x ∈ frn->(relabel scope X.env).names.lookup x=some .cell) (hsc:X.env.scope.kind=.function)
  (hgk:∀ (z:Bx) (v:V) (σ:St) (H:Hp) (Q:St->Hp->Prop),gz z v σ H Q->gz z v σ H fun σ' H'=>Q σ' H'/\σ'.length=σ.length/\∀ i,loc.length<=i->σ'[i]?=σ[i]?)
  (hblk:∀ (z:Bx),PG (X.blkX scope z (loc ++ frn) EX) tg (gz z)/\PTs (X.blkX scope z (loc ++ frn) EX) ifs (tcz z)/\PE (X.blkX scope z (loc ++ frn) EX) elt (tez z))
  (hs:∀ x,foldedSetIterable iter X.env x=pure x) (hN:X.N.Nodup) (hk:X.N[k]?=some y) (hx:Loc X.env.scope y) (hf:X.fn y=true\/X.env.scope.names.lookup y=some .local)
  (hsw:swapsWith (.ListComp elt [⟨tg,iter,ifs,0⟩] scope pos) (some (.Name y py)) spos.line X.env=pure true) :
  PS X (.Assign [.Name y py] (.ListComp elt [⟨tg,iter,ifs,0⟩] scope pos) spos) (DZ (EK loc.length fr wi gz tcz tez) (Cf k)):=by
 intro pins s σ H D I h
 rw [exec_Assign_Name_used _ _ _ _ hsw]
 refine wpAny_bind (wpAny_standAt (wpAny_bind ?_))
 show wpAny _ X.A (do let _ <- comprehension (.ListComp elt [⟨tg,iter,ifs,0⟩] scope pos) scope X.env _ (newList []) false (eval iter X.env) (some (assign (.Name y py) X.env))) _ _ s
 refine wpAny_bind (wpAny_mono (G2 (EX:=EX) (R:=fun _ s'=>SP X pins D .next s') loc fr frn hc hp hst hfm hi hfr hln hcell hkind hnames hfree hkin hsc hgk hblk I h (fun D' C H' s' m hn hI hC q=>?_) hs) (fun _ s' hq=>wpAny_pure (wpAny_pure hq)) fun _ _ e=>e)
 have I7:Inv X pins σ H' s':=hI s'.heap ⟨rfl,fun _ _=>rfl⟩
 refine wpAny_assign_Name (ED (v:=.ref D') I7 hN hk hx rfl (fun s8 I8 ⟨a,sb,ha⟩=>?_) hf)
 refine ⟨m,hn.sameBut sb ?_,fun h9 sb9=>⟨_,H',I8.but hC sb9,q⟩⟩
 rcases ha with rfl | ha
 ·exact hC.2.1
 ·exact fun z=>hC.2.2.1 _ _ ha z.symm
theorem MY {X:Cx} {EX:EXT} {elt tg iter:Expr} {ifs:List Expr} {scope:Scope} {pos:Pos} {wi:TI} {gz:Bx->TG} {tcz:Bx->TT} {tez:Bx->TE} (loc:List Str) (fr:List Nat) (frn:List Str) (hc:X.calm=true) (hp:DI X EX) (hst:X.stack=X.env :: X.outer) (hfm:X.env.frame=some X.env.locals) (hi:PI X tg iter wi)
  (hfr:∀ (j:Nat) (k:Nat) (x:Str),fr[j]?=some k->frn[j]?=some x->X.N[k]?=some x/\X.env.kindOf x=some .cell/\(x,NameKind.free) ∈ scope.names) (hln:frn.length=fr.length)
  (hcell:∀ y ∈ scope.names,y.2 ≠ .cell) (hkind:scope.kind=.function) (hnames:∀ y ∈ scope.names,y.2=.local->scope.names.lookup y.1=some .local) (hfree:∀ y ∈ scope.names,y.2=.free->X.env.kindOf y.1=some .cell)
  (hkin:∀ (x:Str),x ∈ frn->(relabel scope X.env).names.lookup x=some .cell) (hsc:X.env.scope.kind=.function)
  (hgk:∀ (z:Bx) (v:V) (σ:St) (H:Hp) (Q:St->Hp->Prop),gz z v σ H Q->gz z v σ H fun σ' H'=>Q σ' H'/\σ'.length=σ.length/\∀ i,loc.length<=i->σ'[i]?=σ[i]?)
  (hblk:∀ (z:Bx),PG (X.blkX scope z (loc ++ frn) EX) tg (gz z)/\PTs (X.blkX scope z (loc ++ frn) EX) ifs (tcz z)/\PE (X.blkX scope z (loc ++ frn) EX) elt (tez z))
  (hs:∀ x,foldedSetIterable iter X.env x=pure x):PE X (.ListComp elt [⟨tg,iter,ifs,0⟩] scope pos) (EK loc.length fr wi gz tcz tez):=by
 intro pins s σ H Q I h
 rw [eval_ListComp]
 exact G2 (EX:=EX) (use:=none) loc fr frn hc hp hst hfm hi hfr hln hcell hkind hnames hfree hkin hsc hgk hblk I h (fun D C H' s' m hn hI _ q=>⟨m,hn,fun h' hb=>⟨.ref D,H',hI h' hb,rfl,q⟩⟩) hs
end L2
end
section
namespace L2
open PySem PySem.Spec PyProof.Rows
theorem EM {M:Model} {Γ:PySem.Ctx} {p:Pos} {t:Sem Fin} {fs:List Frame} {s s':Shared} {e:End} (h:Runs M Γ p t fs s e s'):s.toks<=s'.toks:=by
 induction h with
 | done | raise | yield=>exact aaj _
 | again _ _ ih | rule _ ih | «at» _ ih | load _ _ ih | update _ _ ih | loadIfAlive _ ih | point _ ih | alloc _ ih | ask _ ih | choose _ _ ih | os _ ih | handled _ ih | genState _ _ ih | stack _ ih | thread _ ih | newGen _ ih | callSusp _ ih | resumeJustStarted _ _ _ ih | resumeThrowFresh _ _ ih | resumeRunning _ _ ih | resumeFinished _ _ ih | segSuspOut _ _ ih=>exact ih
 | fresh _ ih=>exact aao (abO _) ih
 | call _ _ i1 i2=>exact aao i1 i2
 | resumeFresh _ _ _ _ i1 i2 | resumeSuspended _ _ _ _ i1 i2=>exact aao i1 i2
 | segRet _ _ i1 i2 | segGen _ _ i1 i2=>exact aao i1 i2
 | segSuspGen _ _ _ _ i1 i2=>exact aao i1 i2
theorem Kl {M:Model} {Γ:PySem.Ctx} {p:Pos} {g:Nat} {r:Resume} {s s':Shared} {res:GenResult} (h:Wakes M Γ p g r s res s'):s.toks<=s'.toks:=by
 unfold Wakes at h
 split at h
 ·exact h.elim
 ·split at h
  ·obtain ⟨e1,s1,h1,_,_,rfl⟩:=h
   have h2:=EM h1
   exact h2
  ·obtain ⟨_,rfl⟩:=h; exact aaj _
  ·obtain ⟨_,rfl⟩:=h; exact aaj _
 ·obtain ⟨e1,s1,h1,_,_,rfl⟩:=h
  have h2:=EM h1
  exact h2
 ·obtain ⟨_,rfl⟩:=h; exact aaj _
 ·obtain ⟨_,rfl⟩:=h; exact aaj _
theorem OE {α:Type} {M:Model} {Γ:PySem.Ctx} (t:Sem α) {Q:α->Pos->Shared->Prop} {E:Value->Pos->Shared->Prop} (n:Nat):∀ (p:Pos) (s:Shared),n<=s.toks->Sem.wp M Γ t Q E p s->Sem.wp M Γ t (fun a p' s'=>n<=s'.toks/\Q a p' s') E p s:=by
 induction t with
 | pure x=>exact fun p s hn h=>⟨hn,h⟩
 | raise v=>exact fun p s hn h=>h
 | unsupported | finish | yield | fork | await | register=>exact fun p s hn h=>h
 | rule _ k ih | loadIfAlive _ k ih | point _ k ih | ask k ih | handled _ k ih | stack k ih | thread k ih=>exact fun p s hn h=>ih _ _ _ hn h
 | «at» _ k ih=>exact fun p s hn h=>ih _ _ _ hn h
 | alloc _ k ih | os _ _ k ih | newGen _ k ih=>exact fun p s hn h=>ih _ _ _ hn h
 | fresh k ih=>exact fun p s hn h=>ih _ _ _ (Nat.le_succ_of_le hn) h
 | load a _ k ih | genState a k ih=>exact fun p s hn ⟨o,ho,h⟩=>⟨o,ho,ih _ _ _ hn h⟩
 | update a _ f k ih | choose _ _ k ih=>exact fun p s hn ⟨ha,h⟩=>⟨ha,ih _ _ _ hn h⟩
 | call c h g l k ih=>exact fun p s hn ⟨r,s1,hr,hw⟩=>⟨r,s1,hr,ih _ _ _ (aao hn (EM hr)) hw⟩
 | resume g r l k ih=>exact fun p s hn ⟨res,s1,hw,h⟩=>⟨res,s1,hw,ih _ _ _ (aao hn (Kl hw)) h⟩
theorem BH {α:Type} {M:Model} {A:Around} {t:Sem α} {Q:α->Shared->Prop} {E:Value->Shared->Prop} {s:Shared} (h:wpAny M A t Q E s):wpAny M A t (fun a s'=>s.toks<=s'.toks/\Q a s') E s :=
 fun Γ p hΓ=>OE t s.toks p s (aaj _) (h Γ p hΓ)
noncomputable def PEk (X:Cx) (e:Expr) (t:TE):Prop :=
 ∀ (pins:List (Addr × Obj)) (s:Shared) (σ:St) (H:Hp) (Q:VK),Inv X pins σ H s->0 < s.toks->t σ H Q->wpAny (model X.prog X.w) X.A (eval e X.env) (EP X pins σ Q) X.xe s
noncomputable def PAk (X:Cx) (es:List Expr) (t:TA):Prop :=
 ∀ (pos:Pos) (pins:List (Addr × Obj)) (s:Shared) (σ:St) (H:Hp) (Q:List V->Hp->Prop),Inv X pins σ H s->0 < s.toks->t σ H Q->wpAny (model X.prog X.w) X.A (spliced (backTo pos (starEach es X.env))) (AP X pins σ Q) X.xe s
noncomputable def PEp (X:Cx) (e:Expr) (t:TE):Prop :=
 ∀ (pins:List (Addr × Obj)) (s:Shared) (σ:St) (H:Hp) (Q:VK),Inv X pins σ H s->t σ H Q->wpAny (model X.prog X.w) X.A (eval e X.env) (fun v s'=>0 < s'.toks/\EP X pins σ Q v s') X.xe s
noncomputable def PAp (X:Cx) (es:List Expr) (t:TA):Prop :=
 ∀ (pos:Pos) (pins:List (Addr × Obj)) (s:Shared) (σ:St) (H:Hp) (Q:List V->Hp->Prop),Inv X pins σ H s->t σ H Q->wpAny (model X.prog X.w) X.A (spliced (backTo pos (starEach es X.env))) (fun us s'=>0 < s'.toks/\AP X pins σ Q us s') X.xe s
section
variable {X:Cx} {a b e o:Expr} {es:List Expr} {ta tb te to:TE} {t:TA} {pos:Pos}
theorem PE.k (h:PE X e te):PEk X e te:=fun pins s σ H Q I _ q=>h pins s σ H Q I q
theorem JB:PAk X [] HS:=fun po pins s σ H Q I _ q=>BQ po pins s σ H Q I q
theorem Em (ha:PEk X e te) (hr:PAk X es t) (hs:starEach (e :: es) X.env=(false,eval e X.env) :: starEach es X.env:=by rfl):PAk X (e :: es) (C7 te t):=by
 intro pos pins s σ H Q I hk h
 rw [hs]
 show wpAny _ _ (spliced ((false,eval e X.env) :: backTo pos (starEach es X.env))) _ _ s
 refine Calls.spliced_cons (thn (BH (ha pins s σ H _ I hk h)) fun u s1 ⟨le,x,H1,I1,r1,q1⟩=>?_)
 exact thn (hr pos pins s1 σ H1 _ I1 (aaq hk le) q1) fun us s2 ⟨xs,H2,I2,r2,q2⟩=>⟨x :: xs,H2,I2,.cons r1 r2,q2⟩
theorem MZ (ha:PEp X e te) (hr:PAk X es t) (hs:starEach (e :: es) X.env=(false,eval e X.env) :: starEach es X.env:=by rfl):PAp X (e :: es) (C7 te t):=by
 intro pos pins s σ H Q I h
 rw [hs]
 show wpAny _ _ (spliced ((false,eval e X.env) :: backTo pos (starEach es X.env))) _ _ s
 refine Calls.spliced_cons (thn (ha pins s σ H _ I h) fun u s1 ⟨hk,x,H1,I1,r1,q1⟩=>?_)
 exact thn (BH (hr pos pins s1 σ H1 _ I1 hk q1)) fun us s2 ⟨le,xs,H2,I2,r2,q2⟩=>⟨aaq hk le,x :: xs,H2,I2,.cons r1 r2,q2⟩
theorem Lx {pins:List (Addr × Obj)} {s1:Shared} {σ:St} {H1:Hp} {Q:VK} {us:List Value} {xs:List V} (I1:Inv X pins σ H1 s1) (r:Vals xs us) (z:xs.length<=sizeLine) (q:∀ p,H1 p=none->Q (.ref p) (upd H1 p (.lst xs))) :
  EP X pins σ Q (.ref s1.heap.objs.size) { s1 with heap:=s1.heap.push { cls:=.type "list",data:=.seq us.toArray } }:=by
 have hf:H1 s1.heap.objs.size=none:=I1.hok.fresh (aaj _)
 refine ⟨.ref s1.heap.objs.size,upd H1 s1.heap.objs.size (.lst xs),I1.laid (t':=s1.toks) (fun b u e=>Heap.get?_push_of_some _ e) (aaj _) ?_,rfl,q _ hf⟩
 exact ⟨z,us,0,r,Heap.get?_push_size _ rfl⟩
theorem OF (h:PAk X es t):PEk X (.List es pos) (Gq t):=by
 intro pins s σ H Q I hk hq
 exact wpAny_List_spliced (thn (h pos pins s σ H _ I hk hq) fun us s1 ⟨xs,H1,I1,r,z,q⟩=>⟨by rw [<- r.length]; exact z,Lx I1 r z q⟩)
theorem OG (h:PAp X es t):PEp X (.List es pos) (Gq t):=by
 intro pins s σ H Q I hq
 exact wpAny_List_spliced (thn (h pos pins s σ H _ I hq) fun us s1 ⟨hk,xs,H1,I1,r,z,q⟩=>⟨by rw [<- r.length]; exact z,hk,Lx I1 r z q⟩)
theorem QX {op:Operator} {r:R2} (ho:OpR X (binaryOp op) r) (ha:PE X a ta) (hb:PEk X b tb):PEk X (.BinOp a op b pos) (tOp r ta tb):=by
 intro pins s σ H Q I hk h
 refine wpAny_BinOp (thn (BH (ha pins s σ H _ I h)) fun v s1 ⟨le,x,H1,I1,r1,q1⟩=>?_)
 refine thn (hb pins s1 σ H1 _ I1 (aaq hk le) q1) fun u s2 ⟨y,H2,I2,r2,q2⟩=>?_
 exact ho pins s2 σ H2 x y v u Q I2 r1 r2 q2
theorem QY {op:Operator} {r:R2} {x:Str} {j:Nat} {p2:Pos} (ho:OpR X (binaryOp op) r) (ha:PE X a ta):PEp X (.BinOp a op (.Constant (.str x) j p2) pos) (tOp r ta (tC (.str x))):=by
 intro pins s σ H Q I h
 refine wpAny_BinOp (thn (ha pins s σ H _ I h) fun v s1 ⟨y,H1,I1,r1,q1⟩=>?_)
 refine Calls.Constant_str ?_
 exact thn (BH (ho pins { s1 with toks:=s1.toks + 1 } σ H1 y (.str x) v (.str x s1.toks) Q (I1.tok _) r1 ⟨_,rfl⟩ q1)) fun w s2 ⟨le,q⟩=>⟨aaq (Nat.succ_pos _) le,q⟩
theorem QZ {r:R2} (hr:IxR X r) (ha:PEk X a ta) (hb:PE X b tb) (hs:Gs b):PEk X (.Subscript a b pos) (tOp r ta tb):=by
 intro pins s σ H Q I hk h
 refine Subscript_ (thn (ha pins s σ H _ I hk h) fun v s1 ⟨x,H1,I1,r1,q1⟩=>?_)
 refine thn (hb pins s1 σ H1 _ I1 q1) fun u s2 ⟨y,H2,I2,r2,q2⟩=>?_
 exact hr a b pins s2 σ H2 x y v u Q I2 r1 r2 q2 (hs _ _)
noncomputable def Km (to:TE) (x y:Str):TE:=fun σ H Q=>to σ H fun v H1=>∃ z:Str,v=.str z/\z.length<=1048576/\Q (.str (Txt.replace z x y)) H1
theorem Gx {x y:Str} {j1 j2:Nat} {p1 p2 apos cpos:Pos} (ho:PE X o to) (hbase:attributeBase o "replace" X.env (eval o X.env)=eval o X.env) (hline:(apos.endLine==cpos.line)=true) (hxy:(x==y)=false) (hy:y.length<=14) :
  PEk X (.Call (.Attribute o "replace" apos) [.Constant (.str x) j1 p1,.Constant (.str y) j2 p2] [] cpos) (Km to x y):=by
 intro pins s σ H Q I hk h
 refine wpAny_Call_method_late hbase (by rfl) hline rfl (thn (BH (ho pins s σ H _ I h)) fun v s1 ⟨le,w,H1,I1,r1,z,ez,hz,q⟩=>?_)
 subst ez
 obtain ⟨t,rfl⟩:=r1
 have hk1:0 < s1.toks:=aaq hk le
 refine ⟨"str",_,PySem.F.plainAttrs_str,PySem.F.slot_str_replace,PySem.F.type_str_replace,typeIs_str _ _ _,(fun _ e=>nomatch e),?_⟩
 refine Calls.callWith_builtin rfl (Calls.evalArgs_plain ?_)
 show wpAny _ _ (spliced [(false,eval (.Constant (.str x) j1 p1) X.env),(false,eval (.Constant (.str y) j2 p2) X.env)]) _ _ s1
 refine Calls.spliced_cons (Calls.Constant_str (Calls.spliced_cons (Calls.Constant_str (Calls.spliced_nil ?_))))
 exact SC.replaceW (abG hk1) (Nat.succ_ne_zero _) (aax (Nat.lt_succ_self _)) hxy hz hy fun t' k=>⟨.str _,H1,(I1.tok (s1.toks + 1 + 1)).tok k,⟨_,rfl⟩,q⟩
theorem OH {i:Nat} {x:Str} {p1 p2 p3:Pos} {f:Expr} {tf:TE} (hN:X.N.Nodup) (hi:X.N[i]?=some x) (hx:Loc X.env.scope x) (he:PEp X e te) (hs:swapsWith e (some (.Name x p1)) p2.line X.env=pure false) (hf:X.fn x=true\/X.env.scope.names.lookup x=some .local) (hr:PEk X f tf) :
  PSs X [.Assign [.Name x p1] e p2,.Return (some f) p3] (Mr (DZ te (Cf i)) (Mv tf)):=by
 intro pins s σ H D I h
 refine wpAny_execs_cons (wpAny_Assign_Name (thn (he pins s σ H _ I h) fun v s1 ⟨hk,y,H1,I1,r1,q1⟩=>?_) hs)
 refine thn (BH (Ei (Q:=fun _ s2=>Inv X pins (σ.set i (some y)) H1 s2) I1 hN hi hx r1 (fun s2 I2=>I2) hf)) fun _ s2 ⟨le,I2⟩=>?_
 refine wpAny_execs_cons (wpAny_Return_some (thn (hr pins s2 _ H1 _ I2 (aaq hk le) q1) fun v s3 ⟨z,H3,I3,r3,q3⟩=>?_))
 exact ⟨z,_,H3,I3,r3,q3⟩
end
end L2
end
section
namespace Pu
open PySem (Str)
inductive D where
 | non
 | bl (b:Bool)
 | int (i:Int)
 | str (x:Str)
 | tup (ds:List D)
 | lst (ds:List D)
 | exn (c:Nat)
inductive Res (α:Type) where
 | ok (a:α)
 | exc (c:Nat)
 | bad
namespace Res
noncomputable def bind {α β:Type}:Res α->(α->Res β)->Res β
 | .ok a,f=>f a
 | .exc c,_=>.exc c
 | .bad,_=>.bad
@[simp] theorem bind_ok {α β:Type} (a:α) (f:α->Res β):(Res.ok a).bind f=f a:=rfl
@[simp] theorem bind_exc {α β:Type} (c:Nat) (f:α->Res β):(Res.exc c:Res α).bind f=.exc c:=rfl
@[simp] theorem bind_bad {α β:Type} (f:α->Res β):(Res.bad:Res α).bind f=.bad:=rfl
theorem bind_eq_ok {α β:Type} {r:Res α} {f:α->Res β} {b:β} (h:r.bind f=.ok b):∃ a,r=.ok a/\f a=.ok b:=by
 cases r <;> simp_all
end Res
mutual
noncomputable def D.eqv:D->D->Bool
 | .non,.non=>true
 | .bl a,.bl b=>a==b
 | .bl a,.int j=>(if a then 1 else 0)==j
 | .int i,.bl b=>i==(if b then 1 else 0)
 | .int i,.int j=>i==j
 | .str x,.str y=>x==y
 | .lst xs,.lst ys=>D.eqvs xs ys
 | .tup xs,.tup ys=>D.eqvs xs ys
 | _,_=>false
noncomputable def D.eqvs:List D->List D->Bool
 | [],[]=>true
 | x :: xs,y :: ys=>D.eqv x y && D.eqvs xs ys
 | _,_=>false
end
noncomputable def D.shp:Nat->D->Bool
 | _,.non=>true
 | _,.bl _=>true
 | _,.int _=>true
 | _,.str x=>x.cps.all (· < 0x110000)
 | 0,.tup _=>false
 | 0,.lst _=>false
 | n + 1,.tup ds=>ds.all (D.shp n)
 | n + 1,.lst ds=>ds.all (D.shp n)
 | _,.exn _=>false
noncomputable abbrev LIM:Nat:=16777216
noncomputable abbrev Fr:=List (Option D)
structure Fn where
 name:Str
 ar:Nat
 lv:Nat
 dep:Nat
 den:List D->Res D
set_option genSizeOf false
set_option genSizeOfSpec false
set_option genInjectivity false
inductive B2 where
 | add | sub | mul | fdiv | mod | pow
 deriving DecidableEq
inductive C2 where
 | lt | le | gt | ge | eq | ne | inn | nin
 deriving DecidableEq
inductive Kd where
 | int | bool | str | list | tuple | dict | verr | cls (n:Nat)
 deriving DecidableEq
inductive Bi where
 | len | int | tupleL | all | str | lenS | intS
 deriving DecidableEq
inductive Mt where
 | count | index
 deriving DecidableEq
inductive Tg where
 | nm (i:Nat)
 | tp (is:List Nat)
 deriving DecidableEq
mutual
inductive E where
 | nm (i:Nat)
 | cN
 | cB (b:Bool)
 | cI (i:Int)
 | cS (x:Str)
 | gl (x:Str) (d:D)
 | tup (es:Es)
 | lst (es:Es)
 | bin (o:B2) (a b:E)
 | neg (a:E)
 | not (a:E)
 | cmp (o:C2) (a b:E)
 | chain (o o':C2) (a b c:E)
 | isN (n:Bool) (a:E)
 | bo (and:Bool) (es:Es)
 | ifx (c a b:E)
 | ix (a i:E)
 | ixS (a i:E)
 | ixL (a i:E)
 | ixC (a i:E)
 | slT (a lo hi:E)
 | joi (a b:E)
 | spl (a b:E)
 | inT (n:Bool) (a b:E)
 | rep (x:Str) (n:Nat)
 | slc (a lo hi:E)
 | call (f:Fn) (es:Es)
 | bi (b:Bi) (es:Es)
 | dct
 | isi (a:E) (k:Kd)
 | mt (m:Mt) (a:E) (es:Es)
 | comp0 (nl:Nat) (fr:List Nat) (tg:Tg) (it:It) (elt:E)
 | compX (nl:Nat) (fr:List Nat) (tg:Tg) (it:It) (elt:E)
inductive Es where
 | nil
 | cons (e:E) (r:Es)
inductive It where
 | seq (e:E)
 | seqL (e:E)
 | r1 (a:E)
 | chs (e:E)
end
noncomputable def get (δ:Fr) (i:Nat):Res D:=match δ[i]? with
 | some (some d)=>.ok d
 | _=>.bad
noncomputable def on1:List D->(D->Res D)->Res D
 | [a],f=>f a
 | _,_=>.bad
noncomputable def on2:List D->(D->D->Res D)->Res D
 | [a,b],f=>f a b
 | _,_=>.bad
noncomputable def on3:List D->(D->D->D->Res D)->Res D
 | [a,b,c],f=>f a b c
 | _,_=>.bad
noncomputable def CZ:D->(Int->Res D)->Res D
 | .int i,f=>f i
 | _,_=>.bad
noncomputable def Bz (a b:D) (f:Int->Int->Res D):Res D:=CZ a fun i=>CZ b fun j=>f i j
noncomputable def Do:D->(List D->Res D)->Res D
 | .lst ds,f=>f ds
 | .tup ds,f=>f ds
 | _,_=>.bad
noncomputable def Kn:D->D->Res D
 | .int i,.int j=>.ok (.int (i + j))
 | .lst a,.lst b=>if a.length + b.length<=LIM then .ok (.lst (a ++ b)) else .bad
 | .str a,.str b=>if a.length + b.length<=LIM then .ok (.str (a ++ b)) else .bad
 | _,_=>.bad
noncomputable def Ko:D->D->Res D
 | .int i,.int j=>if (-(2 ^ 64) < i/\i < 2 ^ 64)\/(-(2 ^ 64) < j/\j < 2 ^ 64) then .ok (.int (i * j)) else if i.natAbs < 2 ^ 400/\j.natAbs < 2 ^ 400 then .ok (.int (i * j)) else .bad
 | .lst a,.int k=>if -(2 ^ 63)<=k/\k < 2 ^ 63/\a.length * k.toNat<=LIM then .ok (.lst (aaf k.toNat a).flatten) else .bad
 | _,_=>.bad
noncomputable def b2:B2->D->D->Res D
 | .add,a,b=>Kn a b
 | .sub,a,b=>Bz a b fun i j=>.ok (.int (i - j))
 | .mul,a,b=>Ko a b
 | .fdiv,a,b=>Bz a b fun i j=>if 0 < j/\j < 2 ^ 200 then .ok (.int (i / j)) else .bad
 | .mod,a,b=>Bz a b fun i j=>if 0 < j then .ok (.int (i % j)) else .bad
 | .pow,a,b=>Bz a b fun i j=>if 0<=j/\j<=1000000/\i.natAbs < 2 ^ 64 then .ok (.int (i ^ j.toNat)) else .bad
noncomputable def D.scal:D->Bool
 | .non | .bl _ | .int _ | .str _=>true
 | _=>false
noncomputable def inD (x:D) (ys:List D):Res Bool:=if D.shp 8 x && ys.all (D.shp 8) then .ok (ys.any fun y=>D.eqv y x) else .bad
noncomputable def c2:C2->D->D->Res D
 | .lt,a,b=>Bz a b fun i j=>.ok (.bl (decide (i < j)))
 | .le,a,b=>Bz a b fun i j=>.ok (.bl (decide (i<=j)))
 | .gt,a,b=>Bz a b fun i j=>.ok (.bl (decide (j < i)))
 | .ge,a,b=>Bz a b fun i j=>.ok (.bl (decide (j<=i)))
 | .eq,x,y=>if D.shp 8 x && D.shp 8 y then .ok (.bl (D.eqv x y)) else .bad
 | .ne,x,y=>if D.shp 8 x && D.shp 8 y then .ok (.bl (!D.eqv x y)) else .bad
 | .inn,x,y=>Do y fun ys=>(inD x ys).bind fun b=>.ok (.bl b)
 | .nin,x,y=>Do y fun ys=>(inD x ys).bind fun b=>.ok (.bl !b)
noncomputable def ixN (n:Nat) (i:Int):Option Nat:=if 0<=i then (if i < n then some i.toNat else none) else if -(n:Int)<=i then some (i + n).toNat else none
noncomputable def atD (ds:List D) (i:Int):Res D:=match (ixN ds.length i).bind (fun j=>ds[j]?) with
 | some d=>.ok d
 | none=>.bad
noncomputable def ixD:D->D->Res D
 | .lst ds,.int i=>atD ds i
 | .tup ds,.int i=>atD ds i
 | _,_=>.bad
noncomputable def D0:D->D->Res D
 | .lst ds,.int i=>atD ds i
 | _,_=>.bad
noncomputable def EN:D->D->Res D
 | .tup ds,.int i=>atD ds i
 | _,_=>.bad
noncomputable def sIx (n d:Nat):Option Int->Nat
 | none=>d
 | some v=>(if v < 0 then max (v + (n:Int)) 0 else min v (n:Int)).toNat
noncomputable def cut {α:Type} (xs:List α) (lo hi:Option Int):List α:=(xs.drop (sIx xs.length 0 lo)).take (sIx xs.length xs.length hi - sIx xs.length 0 lo)
noncomputable def CJ:D->Res (Option Int)
 | .int i=>.ok (some i)
 | _=>.bad
noncomputable def Bw (n:Bool) (r:Res D):Res (Option Int):=if n then .ok none else r.bind CJ
noncomputable def E.isCN:E->Bool
 | .cN=>true
 | _=>false
noncomputable def Bf:D->Option Int->Option Int->Res D
 | .lst ds,lo,hi=>.ok (.lst (cut ds lo hi))
 | .tup ds,lo,hi=>if ds.all D.scal=true/\¬ (sIx ds.length 0 lo=0/\sIx ds.length ds.length hi=ds.length) then .ok (.tup (cut ds lo hi)) else .bad
 | _,_,_=>.bad
noncomputable def BW:D->Res Bool
 | .non=>.ok false
 | .bl b=>.ok b
 | .int i=>.ok (i != 0)
 | .lst ds=>.ok (!ds.isEmpty)
 | .tup ds=>.ok (!ds.isEmpty)
 | _=>.bad
noncomputable def isa (c d:Nat):Bool:=c==d || d==0
noncomputable def dI:D->Bool
 | .int _=>true
 | .bl _=>true
 | _=>false
noncomputable def dB:D->Bool
 | .bl _=>true
 | _=>false
noncomputable def dS:D->Bool
 | .str _=>true
 | _=>false
noncomputable def dL:D->Bool
 | .lst _=>true
 | _=>false
noncomputable def dT':D->Bool
 | .tup _=>true
 | _=>false
noncomputable def dD:D->Bool
 | .exn c=>c==999
 | _=>false
noncomputable def dX:D->(Nat->Bool)->Res Bool
 | .exn c,f=>if c==999 then .bad else .ok (f c)
 | _,_=>.bad
noncomputable def Cg (d:D):Kd->Res Bool
 | .int=>.ok (dI d)
 | .bool=>.ok (dB d)
 | .str=>.ok (dS d)
 | .list=>.ok (dL d)
 | .tuple=>.ok (dT' d)
 | .dict=>.ok (dD d)
 | .verr=>dX d fun _=>true
 | .cls n=>dX d fun c=>isa c n
noncomputable def Dp:List D->Option (List Int)
 | []=>some []
 | .int i :: r=>(Dp r).map (i :: ·)
 | _=>none
noncomputable def Ay:List D->Option (List Bool)
 | []=>some []
 | .bl i :: r=>(Ay r).map (i :: ·)
 | _=>none
noncomputable def B5 {α:Type}:Option α->Res α
 | some a=>.ok a
 | none=>.bad
noncomputable def DJ:D->(List Int->Res D)->Res D
 | .lst ds,f=>(B5 (Dp ds)).bind f
 | _,_=>.bad
noncomputable def Ch:D->(List Bool->Res D)->Res D
 | .lst ds,f=>(B5 (Ay ds)).bind f
 | _,_=>.bad
noncomputable def Eo:D->(List D->Res D)->Res D
 | .lst ds,f=>f ds
 | _,_=>.bad
noncomputable def Ep:D->Res D
 | .int i=>.ok (.int i)
 | .bl b=>.ok (.int (if b then 1 else 0))
 | _=>.bad
noncomputable def biD:Bi->List D->Res D
 | .len,ds=>on1 ds fun d=>Do d fun ds=>.ok (.int ds.length)
 | .int,ds=>on1 ds Ep
 | .tupleL,ds=>on1 ds fun d=>Eo d fun ds=>.ok (.tup ds)
 | .all,ds=>on1 ds fun d=>Ch d fun bs=>.ok (.bl (bs.all id))
 | .str,ds=>on1 ds fun d=>CZ d fun i=>if i.natAbs < 1606938044258990275541962092341162602522202993782792835301376 then .ok (.str (Str.ofString (toString i))) else .bad
 | .lenS,ds=>on1 ds fun d=>match d with
  | .str z=>if z.length<=LIM then .ok (.int (z.length:Nat)) else .bad
  | _=>.bad
 | .intS,ds=>on1 ds fun d=>match d with
  | .str z=>if (z.cps.toList.all fun c=>decide (48<=c) && decide (c<=57))=true/\z.cps.toList ≠ []/\z.length<=640 then .ok (.int ((z.cps.toList.foldl (fun acc c=>acc * 10 + (c - 48)) 0:Nat):Int)) else .bad
  | _=>.bad
noncomputable def FH (v:Int):List Int->Option Nat
 | []=>none
 | x :: r=>if x=v then some 0 else (FH v r).map (· + 1)
noncomputable def Q0:D->D->Res D
 | .str z,.str y=>if y.length ≠ 0/\z.length<=LIM/\(PySem.Txt.split z y).length<=LIM then .ok (.lst ((PySem.Txt.split z y).map .str)) else .bad
 | _,_=>.bad
noncomputable def FI (n:Bool):D->D->Res D
 | .str x,.str y=>match x.cps.toList with
  | [c]=>.ok (.bl ((decide (c ∈ y.cps.toList)) != n))
  | _=>.bad
 | _,_=>.bad
noncomputable def Gy (z:Str) (k:Nat):Str:=⟨(aaf k z.cps).foldl (· ++ ·) #[]⟩
noncomputable def DK (z:Str):List D:=z.cps.toList.map fun c=>.str ⟨#[c]⟩
noncomputable def M0:D->Res (List D)
 | .str z=>if z.length<=LIM then .ok (DK z) else .bad
 | _=>.bad
noncomputable def chD:D->D->Res D
 | .str z,.int i=>if z.length<=LIM then (match (ixN z.cps.toList.length i).bind (fun j=>z.cps.toList[j]?) with
  | some c=>.ok (.str ⟨#[c]⟩)
  | none=>.bad) else .bad
 | _,_=>.bad
noncomputable def M1 (z:Str) (lo hi:Option Int):Str:=⟨(cut z.cps.toList lo hi).toArray⟩
noncomputable def Ff:D->Option Int->Option Int->Res D
 | .str z,lo,hi=>if z.length<=LIM then .ok (.str (M1 z lo hi)) else .bad
 | _,_,_=>.bad
noncomputable def Ci:List D->Option (List Str)
 | []=>some []
 | .str i :: r=>(Ci r).map (i :: ·)
 | _=>none
noncomputable def Ii:D->D->Res D
 | .str z,.lst ds=>(B5 (Ci ds)).bind fun ts=>if ts.foldl (fun n t=>n + t.length + z.length) 0<=LIM then .ok (.str (Str.join z ts)) else .bad
 | _,_=>.bad
noncomputable def mtD:Mt->D->List D->Res D
 | .count,.lst ds,[.bl k]=>(B5 (Ay ds)).bind fun bs=>.ok (.int ((bs.filter (·==k)).length:Int))
 | .index,.lst ds,[.int v]=>(B5 (Dp ds)).bind fun ns=>(B5 (FH v ns)).bind fun j=>.ok (.int (j:Nat))
 | _,_,_=>.bad
noncomputable def EO:List Nat->List D->Fr->Option Fr
 | [],[],δ=>some δ
 | i :: is,d :: ds,δ=>EO is ds (δ.set i (some d))
 | _,_,_=>none
noncomputable def Bg:Tg->D->Fr->Option Fr
 | .nm i,d,δ=>some (δ.set i (some d))
 | .tp is,.tup ds,δ=>EO is ds δ
 | .tp is,.lst ds,δ=>EO is ds δ
 | _,_,_=>none
noncomputable def AR (f:D->Res (Option D)):List D->Res (List D)
 | []=>.ok []
 | d :: ds=>match f d with
  | .ok o=>(AR f ds).bind fun r=>.ok (match o with | some x=>x :: r | none=>r)
  | _=>.bad
noncomputable def BI (f:D->Res D):List D->Res (List D)
 | []=>.ok []
 | d :: ds=>(f d).bind fun x=>(BI f ds).bind fun r=>.ok (x :: r)
noncomputable def blk (nl:Nat) (fr:List Nat) (δ:Fr):Fr:=aaf nl none ++ fr.map fun j=>(δ[j]?).join
noncomputable def Az (a b:Int):List D:=(abg (b - a).toNat).map fun (i:Nat)=>D.int (a + i)
noncomputable def CK:D->Res (List D)
 | .lst ds=>.ok ds
 | .tup ds=>.ok ds
 | _=>.bad
noncomputable def Cj:D->Res (List D)
 | .lst ds=>.ok ds
 | _=>.bad
noncomputable def EQ (i:Int):Bool:=decide (-(2 ^ 62)<=i) && decide (i < 2 ^ 62)
noncomputable def Q1:D->D->Res (List D)
 | .int a,.int b=>if EQ a && EQ b && decide ((b - a).toNat<=LIM) then .ok (Az a b) else .bad
 | _,_=>.bad
mutual
noncomputable def ev:E->Fr->Res D
 | .nm i,δ=>get δ i
 | .cN,_=>.ok .non
 | .cB b,_=>.ok (.bl b)
 | .cI i,_=>.ok (.int i)
 | .cS x,_=>.ok (.str x)
 | .gl _ d,_=>.ok d
 | .tup es,δ=>(evs es δ).bind fun ds=>.ok (.tup ds)
 | .lst es,δ=>(evs es δ).bind fun ds=>.ok (.lst ds)
 | .bin o a b,δ=>(ev a δ).bind fun x=>(ev b δ).bind fun y=>b2 o x y
 | .neg a,δ=>(ev a δ).bind fun x=>match x with | .int i=>.ok (.int (-i)) | _=>.bad
 | .not a,δ=>(ev a δ).bind fun x=>match x with | .bl b=>.ok (.bl !b) | _=>.bad
 | .cmp o a b,δ=>(ev a δ).bind fun x=>(ev b δ).bind fun y=>c2 o x y
 | .chain o o' a b c,δ=>(ev a δ).bind fun x=>(ev b δ).bind fun y=>(c2 o x y).bind fun r=>match r with
  | .bl true=>(ev c δ).bind fun z=>c2 o' y z
  | .bl false=>.ok (.bl false)
  | _=>.bad
 | .isN n a,δ=>(ev a δ).bind fun x=>.ok (.bl (match x with | .non=>!n | _=>n))
 | .bo k es,δ=>evBo k es δ
 | .ifx c a b,δ=>((ev c δ).bind BW).bind fun t=>if t then ev a δ else ev b δ
 | .ix a i,δ=>(ev a δ).bind fun x=>(ev i δ).bind fun y=>ixD x y
 | .ixS a i,δ=>((ev a δ).bind fun x=>(ev i δ).bind fun y=>ixD x y).bind fun d=>if D.scal d=true then .ok d else .bad
 | .ixL a i,δ=>(ev a δ).bind fun x=>(ev i δ).bind fun y=>D0 x y
 | .ixC a i,δ=>(ev a δ).bind fun x=>(ev i δ).bind fun y=>chD x y
 | .slT a lo hi,δ=>(ev a δ).bind fun x=>(Bw lo.isCN (ev lo δ)).bind fun l=>(Bw hi.isCN (ev hi δ)).bind fun h=>Ff x l h
 | .spl a b,δ=>(ev a δ).bind fun x=>if dS x=true then (ev b δ).bind fun y=>Q0 x y else .bad
 | .inT n a b,δ=>(ev a δ).bind fun x=>(ev b δ).bind fun y=>FI n x y
 | .rep x n,_=>if 2<=n/\x.length ≠ 0/\x.length * n<=LIM then .ok (.str (Gy x n)) else .bad
 | .joi a b,δ=>(ev a δ).bind fun x=>if dS x=true then (ev b δ).bind fun y=>Ii x y else .bad
 | .slc a lo hi,δ=>(ev a δ).bind fun x=>(Bw lo.isCN (ev lo δ)).bind fun l=>(Bw hi.isCN (ev hi δ)).bind fun h=>Bf x l h
 | .call f es,δ=>(evs es δ).bind fun ds=>f.den ds
 | .bi b es,δ=>(evs es δ).bind fun ds=>biD b ds
 | .dct,_=>.ok (.exn 999)
 | .isi a k,δ=>(ev a δ).bind fun x=>(Cg x k).bind fun b=>.ok (.bl b)
 | .mt m a es,δ=>(ev a δ).bind fun x=>if dL x=true then (evs es δ).bind fun ds=>mtD m x ds else .bad
 | .comp0 nl fr tg it elt,δ=>(evI it δ).bind fun ds=>(AR (fun d=>match Bg tg d (blk nl fr δ) with
   | some δ'=>(ev elt δ').bind fun x=>.ok (some x)
   | none=>.bad) ds).bind fun r=>.ok (.lst r)
 | .compX nl fr tg it elt,δ=>(evI it δ).bind fun ds=>(BI (fun d=>match Bg tg d (blk nl fr δ) with
   | some δ'=>ev elt δ'
   | none=>.bad) ds).bind fun r=>.ok (.lst r)
noncomputable def evs:Es->Fr->Res (List D)
 | .nil,_=>.ok []
 | .cons e r,δ=>(ev e δ).bind fun x=>(evs r δ).bind fun xs=>.ok (x :: xs)
noncomputable def evBo (k:Bool):Es->Fr->Res D
 | .nil,_=>.bad
 | .cons e .nil,δ=>ev e δ
 | .cons e (.cons e' r),δ=>(ev e δ).bind fun x=>match x with
  | .bl c=>if c=k then evBo k (.cons e' r) δ else .ok (.bl c)
  | _=>.bad
noncomputable def evI:It->Fr->Res (List D)
 | .seq e,δ=>(ev e δ).bind CK
 | .seqL e,δ=>(ev e δ).bind Cj
 | .r1 a,δ=>(ev a δ).bind fun x=>Q1 (.int 0) x
 | .chs e,δ=>(ev e δ).bind M0
end
noncomputable def tv (e:E) (δ:Fr):Res Bool:=(ev e δ).bind BW
inductive Um where
 | append | extend | insert | pop | popAt | clear | reverse
 deriving DecidableEq
mutual
inductive S where
 | asg (x:Nat) (k:Nat) (e:E)
 | dem (x:Nat) (k:Nat)
 | dead (x:Nat)
 | asgT (xs:List Nat) (e:E)
 | mut (x:Nat) (path:List (Bool × E)) (m:Um) (es:Es)
 | expr (e:E)
 | iff (c:E) (a b:Ss)
 | wh (c:E) (b:Ss)
 | for_ (tg:Tg) (it:It) (b:Ss)
 | ret (e:E)
 | retL (es:Es)
 | raise (c:Nat) (es:Es)
 | try_ (b:Ss) (c:Nat) (i:Nat) (h:Ss) (e:Ss)
inductive Ss where
 | nil
 | cons (s:S) (r:Ss)
 | reps (x l:Nat) (ix:E)
end
inductive Out where
 | nxt (δ:Fr)
 | ret (d:D)
 | exc (c:Nat) (δ:Fr)
 | bad
noncomputable def evP:List (Bool × E)->Fr->Res (List (Bool × Int))
 | [],_=>.ok []
 | (t,e) :: r,δ=>match ev e δ with
  | .ok (.int i)=>(evP r δ).bind fun is=>.ok ((t,i) :: is)
  | _=>.bad
noncomputable def Bh (f:List D->Option (List D)):List (Bool × Int)->D->Option D
 | [],.lst ds=>(f ds).map D.lst
 | (false,i) :: r,.lst ds=>(ixN ds.length i).bind fun j=>(ds[j]?).bind fun d=>(Bh f r d).map fun d'=>.lst (ds.set j d')
 | (true,i) :: r,.tup ds=>(ixN ds.length i).bind fun j=>(ds[j]?).bind fun d=>(Bh f r d).map fun d'=>.tup (ds.set j d')
 | _,_=>none
noncomputable def ER (n:Nat) (i:Int):Nat:=(if i < 0 then max (i + (n:Int)) 0 else min i (n:Int)).toNat
noncomputable def un1 {α:Type}:List D->(D->Option α)->Option α
 | [d],f=>f d
 | _,_=>none
noncomputable def un0 {α:Type}:List D->Option α->Option α
 | [],r=>r
 | _,_=>none
noncomputable def SF (ds:List D):D->Option (List D)
 | .lst es=>if ds.length + es.length<=LIM then some (ds ++ es) else none
 | _=>none
noncomputable def N2 (ds:List D):List D->Option (List D)
 | [.int i,d]=>if ds.length < LIM/\-(2 ^ 63)<=i/\i < 2 ^ 63 then some (ds.take (ER ds.length i) ++ d :: ds.drop (ER ds.length i)) else none
 | _=>none
noncomputable def JC (ds:List D):D->Option (List D)
 | .int i=>if -(2 ^ 63)<=i/\i < 2 ^ 63 then (ixN ds.length i).map fun j=>ds.eraseIdx j else none
 | _=>none
noncomputable def umD:Um->List D->List D->Option (List D)
 | .append,es,ds=>un1 es fun d=>if ds.length < LIM then some (ds ++ [d]) else none
 | .extend,es,ds=>un1 es (SF ds)
 | .insert,es,ds=>N2 ds es
 | .pop,es,ds=>un0 es (if ds=[] then none else some ds.dropLast)
 | .popAt,es,ds=>un1 es (JC ds)
 | .clear,es,_=>un0 es (some [])
 | .reverse,es,ds=>un0 es (some ds.reverse)
noncomputable def upd (δ:Fr) (x:Nat) (f:D->Option D):Out:=match δ[x]? with
 | some (some d)=>match f d with
  | some d'=>.nxt (δ.set x (some d'))
  | none=>.bad
 | _=>.bad
noncomputable def Res.out {α:Type} (r:Res α) (δ:Fr) (f:α->Out):Out:=match r with
 | .ok a=>f a
 | .exc c=>.exc c δ
 | .bad=>.bad
@[simp] theorem Res.out_ok {α:Type} (a:α) (δ:Fr) (f:α->Out):(Res.ok a).out δ f=f a:=rfl
@[simp] theorem Res.out_exc {α:Type} (c:Nat) (δ:Fr) (f:α->Out):(Res.exc c:Res α).out δ f=.exc c δ:=rfl
@[simp] theorem Res.out_bad {α:Type} (δ:Fr) (f:α->Out):(Res.bad:Res α).out δ f=.bad:=rfl
noncomputable def Out.then (o:Out) (f:Fr->Out):Out:=match o with
 | .nxt δ=>f δ
 | .ret d=>.ret d
 | .exc c δ=>.exc c δ
 | .bad=>.bad
@[simp] theorem Out.then_nxt (δ:Fr) (f:Fr->Out):(Out.nxt δ).then f=f δ:=rfl
@[simp] theorem Out.then_ret (d:D) (f:Fr->Out):(Out.ret d).then f=.ret d:=rfl
@[simp] theorem Out.then_exc (c:Nat) (δ:Fr) (f:Fr->Out):(Out.exc c δ).then f=.exc c δ:=rfl
@[simp] theorem Out.then_bad (f:Fr->Out):Out.bad.then f=.bad:=rfl
noncomputable def F8 (c:Fr->Res Bool) (b:Fr->Out):Nat->Fr->Out
 | 0,_=>.bad
 | n + 1,δ=>(c δ).out δ fun t=>if t then (b δ).then (F8 c b n) else .nxt δ
noncomputable def AN (tg:Tg) (b:Fr->Out):List D->Fr->Out
 | [],δ=>.nxt δ
 | d :: ds,δ=>match Bg tg d δ with
  | some δ'=>(b δ').then (AN tg b ds)
  | none=>.bad
noncomputable def FU:Nat:=1073741824
noncomputable def AI (z:Str):List Str:=[z ++ (":" : Str),(":" : Str) ++ z,PySem.Txt.replace z ":" "::",PySem.Txt.replace z ":" " "]
noncomputable def BO (z:Str):Str:=PySem.Txt.replace z " " ":"
noncomputable def Hm:Res D->(D->Res D)->Out
 | .ok (.str z),f=>if z.length<=1048576 then (match f (.lst ((AI z).map .str)) with
  | .ok (.int n)=>match atD ((AI z ++ [BO z]).map .str) n with
   | .ok d=>.ret d
   | _=>.bad
  | _=>.bad) else .bad
 | _,_=>.bad
mutual
noncomputable def ex:S->Fr->Out
 | .dem _ _,δ=>.nxt δ
 | .dead _,δ=>.nxt δ
 | .asg x _ e,δ=>(ev e δ).out δ fun d=>.nxt (δ.set x (some d))
 | .asgT xs e,δ=>(ev e δ).out δ fun d=>match Bg (.tp xs) d δ with
  | some δ'=>.nxt δ'
  | none=>.bad
 | .mut x p m es,δ=>match evP p δ,evs es δ with
  | .ok q,.ok ds=>upd δ x (Bh (umD m ds) q)
  | _,_=>.bad
 | .expr e,δ=>(ev e δ).out δ fun _=>.nxt δ
 | .iff c a b,δ=>(tv c δ).out δ fun t=>if t then exs a δ else exs b δ
 | .wh c b,δ=>F8 (tv c) (exs b) FU δ
 | .for_ tg it b,δ=>(evI it δ).out δ fun ds=>AN tg (exs b) ds δ
 | .ret e,δ=>(ev e δ).out δ fun d=>.ret d
 | .retL es,δ=>(evs es δ).out δ fun ds=>.ret (.lst ds)
 | .raise c es,δ=>(evs es δ).out δ fun _=>.exc c δ
 | .try_ b c i h e,δ=>match exs b δ with
  | .nxt δ'=>exs e δ'
  | .ret d=>.ret d
  | .exc n δ'=>if isa n c && !(n==c) then (match exs h (δ'.set i (some (.exn n))) with
   | .nxt δ2=>.nxt (δ2.set i none)
   | .ret d=>.ret d
   | _=>.bad) else .bad
  | .bad=>.bad
noncomputable def exs:Ss->Fr->Out
 | .nil,δ=>.nxt δ
 | .cons s r,δ=>(ex s δ).then (exs r)
 | .reps x l ix,δ=>Hm (get δ l) fun d=>ev ix (δ.set x (some d))
end
noncomputable def Au (n:Nat) (ds:List D):Fr:=ds.map some ++ aaf (n - ds.length) none
noncomputable def run (n:Nat) (b:Ss) (ds:List D):Res D:=match exs b (Au n ds) with
 | .nxt _=>.ok .non
 | .ret d=>.ok d
 | .exc c _=>.exc c
 | .bad=>.bad
end Pu
end
section
namespace Pu
open PySem PySem.W L2
inductive T where
 | non
 | bl (b:Bool)
 | int (i:Int)
 | str (x:Str)
 | tup (a:Addr) (ts:List T)
 | lst (a:Addr) (ts:List T)
 | exn (a:Addr) (c:Nat)
noncomputable def T.val:T->V
 | .non=>.non
 | .bl b=>.bl b
 | .int i=>.int i
 | .str x=>.str x
 | .tup a _=>.ref a
 | .lst a _=>.ref a
 | .exn a _=>.ref a
mutual
noncomputable def T.dat:T->D
 | .non=>.non
 | .bl b=>.bl b
 | .int i=>.int i
 | .str x=>.str x
 | .tup _ ts=>.tup (T.dats ts)
 | .lst _ ts=>.lst (T.dats ts)
 | .exn _ c=>.exn c
noncomputable def T.dats:List T->List D
 | []=>[]
 | t :: r=>t.dat :: T.dats r
end
theorem T.dats_map:∀ ts:List T,T.dats ts=ts.map T.dat
 | []=>rfl
 | t :: r=>by simp [T.dats,T.dats_map r]
structure Px where
 K:Frag
 cl:Nat->Addr
 has:Nat->Bool
noncomputable def exO (p:Px) (a:Addr) (c:Nat):HO:=if c=999 then dO a else xO a (p.cl c)
theorem Q2 {p:Px} {a:Addr} {c:Nat} (vs:List V):exO p a c ≠ .lst vs:=by
 unfold exO
 split
 ·intro e; cases e
 ·intro e; cases e
mutual
noncomputable def T.Ok (p:Px) (H:Hp):T->Prop
 | .tup a ts=>H a=some (.tup (ts.map T.val))/\T.Oks p H ts
 | .lst a ts=>Rd H a (.lst (ts.map T.val))/\T.Oks p H ts
 | .exn a c=>H a=some (exO p a c)/\(c=999\/p.has c=true)
 | .non=>True
 | .bl _=>True
 | .int _=>True
 | .str _=>True
noncomputable def T.Oks (p:Px) (H:Hp):List T->Prop
 | []=>True
 | t :: r=>t.Ok p H/\T.Oks p H r
noncomputable def T.adr:T->Nat->List Addr
 | .tup _ ts,k=>T.adrs ts k
 | .lst _ _,0=>[]
 | .lst a ts,k + 1=>a :: T.adrs ts k
 | .non,_=>[]
 | .bl _,_=>[]
 | .int _,_=>[]
 | .str _,_=>[]
 | .exn _ _,_=>[]
noncomputable def T.adrs:List T->Nat->List Addr
 | [],_=>[]
 | t :: r,k=>t.adr k ++ T.adrs r k
noncomputable def T.rest:T->Nat->List Addr
 | .tup _ ts,k=>T.rests ts k
 | .lst a ts,0=>a :: T.rests ts 0
 | .lst _ ts,k + 1=>T.rests ts k
 | .non,_=>[]
 | .bl _,_=>[]
 | .int _,_=>[]
 | .str _,_=>[]
 | .exn _ _,_=>[]
noncomputable def T.rests:List T->Nat->List Addr
 | [],_=>[]
 | t :: r,k=>t.rest k ++ T.rests r k
end
theorem T.ind {P:T->Prop} (h0:P .non) (h1:∀ b,P (.bl b)) (h2:∀ i,P (.int i)) (h3:∀ x,P (.str x)) (h4:∀ a ts,(∀ t ∈ ts,P t)->P (.tup a ts)) (h5:∀ a ts,(∀ t ∈ ts,P t)->P (.lst a ts)) (h6:∀ a c,P (.exn a c)):∀ t,P t
 | .non=>h0
 | .bl b=>h1 b
 | .int i=>h2 i
 | .str x=>h3 x
 | .tup a ts=>h4 a ts fun t h=>T.ind h0 h1 h2 h3 h4 h5 h6 t
 | .lst a ts=>h5 a ts fun t h=>T.ind h0 h1 h2 h3 h4 h5 h6 t
 | .exn a c=>h6 a c
termination_by t=>t
theorem T.oks_iff {p:Px} {H:Hp}:∀ {ts:List T},T.Oks p H ts ↔ ∀ t ∈ ts,t.Ok p H
 | []=>by simp [T.Oks]
 | t :: r=>by simp [T.Oks,T.oks_iff (ts:=r)]
theorem T.mem_adrs {a:Addr} {k:Nat}:∀ {ts:List T},a ∈ T.adrs ts k ↔ ∃ t ∈ ts,a ∈ t.adr k
 | []=>by simp [T.adrs]
 | t :: r=>by simp [T.adrs,T.mem_adrs (ts:=r)]
theorem T.mem_rests {a:Addr} {k:Nat}:∀ {ts:List T},a ∈ T.rests ts k ↔ ∃ t ∈ ts,a ∈ t.rest k
 | []=>by simp [T.rests]
 | t :: r=>by simp [T.rests,T.mem_rests (ts:=r)]
theorem T.adrs_append {k:Nat}:∀ {ts us:List T},T.adrs (ts ++ us) k=T.adrs ts k ++ T.adrs us k
 | [],us=>by simp [T.adrs]
 | t :: r,us=>by simp [T.adrs,T.adrs_append (ts:=r)]
theorem T.rests_append {k:Nat}:∀ {ts us:List T},T.rests (ts ++ us) k=T.rests ts k ++ T.rests us k
 | [],us=>by simp [T.rests]
 | t :: r,us=>by simp [T.rests,T.rests_append (ts:=r)]
theorem T.adr_zero:∀ t:T,t.adr 0=[]:=by
 refine T.ind rfl (fun _=>rfl) (fun _=>rfl) (fun _=>rfl) (fun a ts ih=>?_) (fun _ _ _=>by simp [T.adr]) (fun _ _=>rfl)
 simp only [T.adr]
 refine aa8.mpr fun b hb=>?_
 obtain ⟨t,ht,h⟩:=T.mem_adrs.mp hb
 rw [ih t ht] at h; cases h
theorem T.adrs_zero (ts:List T):T.adrs ts 0=[]:=by
 refine aa8.mpr fun b hb=>?_
 obtain ⟨t,ht,h⟩:=T.mem_adrs.mp hb
 rw [T.adr_zero] at h; cases h
theorem T.all_iff {a:Addr}:∀ (t:T) (k:Nat),a ∈ t.rest 0 ↔ a ∈ t.adr k\/a ∈ t.rest k:=by
 refine T.ind (by simp [T.rest,T.adr]) (by simp [T.rest,T.adr]) (by simp [T.rest,T.adr]) (by simp [T.rest,T.adr]) (fun b ts ih k=>?_) (fun b ts ih k=>?_) (by simp [T.rest,T.adr])
 ·simp only [T.rest,T.adr,T.mem_rests,T.mem_adrs]
  constructor
  ·rintro ⟨t,ht,h⟩
   rcases (ih t ht k).mp h with h | h
   ·exact .inl ⟨t,ht,h⟩
   ·exact .inr ⟨t,ht,h⟩
  ·rintro (⟨t,ht,h⟩ | ⟨t,ht,h⟩)
   ·exact ⟨t,ht,(ih t ht k).mpr (.inl h)⟩
   ·exact ⟨t,ht,(ih t ht k).mpr (.inr h)⟩
 ·cases k with
  | zero=>simp [T.adr]
  | succ k =>
   simp only [T.rest,T.adr,T.mem_rests,T.mem_adrs,aah]
   constructor
   ·rintro (h | ⟨t,ht,h⟩)
    ·exact .inl (.inl h)
    rcases (ih t ht k).mp h with h | h
    ·exact .inl (.inr ⟨t,ht,h⟩)
    ·exact .inr ⟨t,ht,h⟩
   ·rintro ((h | ⟨t,ht,h⟩) | ⟨t,ht,h⟩)
    ·exact .inl h
    ·exact .inr ⟨t,ht,(ih t ht k).mpr (.inl h)⟩
    ·exact .inr ⟨t,ht,(ih t ht k).mpr (.inr h)⟩
theorem T.alls_iff {a:Addr} (ts:List T) (k:Nat):a ∈ T.rests ts 0 ↔ a ∈ T.adrs ts k\/a ∈ T.rests ts k:=by
 simp only [T.mem_rests,T.mem_adrs]
 constructor
 ·rintro ⟨t,ht,h⟩
  rcases (T.all_iff t k).mp h with h | h
  ·exact .inl ⟨t,ht,h⟩
  ·exact .inr ⟨t,ht,h⟩
 ·rintro (⟨t,ht,h⟩ | ⟨t,ht,h⟩)
  ·exact ⟨t,ht,(T.all_iff t k).mpr (.inl h)⟩
  ·exact ⟨t,ht,(T.all_iff t k).mpr (.inr h)⟩
theorem T.rest_le {a:Addr}:∀ (t:T) {j j':Nat},j<=j'->a ∈ t.rest j'->a ∈ t.rest j:=by
 refine T.ind (by simp [T.rest]) (by simp [T.rest]) (by simp [T.rest]) (by simp [T.rest]) (fun b ts ih j j' hj h=>?_) (fun b ts ih j j' hj h=>?_) (by simp [T.rest])
 ·simp only [T.rest,T.mem_rests] at h ⊢
  obtain ⟨t,ht,h⟩:=h
  exact ⟨t,ht,ih t ht hj h⟩
 ·cases j' with
  | zero=>cases Nat.le_zero.mp hj; exact h
  | succ j' =>
   simp only [T.rest,T.mem_rests] at h
   obtain ⟨t,ht,h⟩:=h
   cases j with
   | zero=>exact aaa _ (T.mem_rests.mpr ⟨t,ht,ih t ht (aaA _) h⟩)
   | succ j=>exact T.mem_rests.mpr ⟨t,ht,ih t ht (ab6 hj) h⟩
theorem T.adr_le {a:Addr}:∀ (t:T) {j j':Nat},j<=j'->a ∈ t.adr j->a ∈ t.adr j':=by
 refine T.ind (by simp [T.adr]) (by simp [T.adr]) (by simp [T.adr]) (by simp [T.adr]) (fun b ts ih j j' hj h=>?_) (fun b ts ih j j' hj h=>?_) (by simp [T.adr])
 ·simp only [T.adr,T.mem_adrs] at h ⊢
  obtain ⟨t,ht,h⟩:=h
  exact ⟨t,ht,ih t ht hj h⟩
 ·cases j with
  | zero=>simp [T.adr] at h
  | succ j =>
   cases j' with
   | zero=>omega
   | succ j' =>
    simp only [T.adr,aah,T.mem_adrs] at h ⊢
    rcases h with h | ⟨t,ht,h⟩
    ·exact .inl h
    ·exact .inr ⟨t,ht,ih t ht (ab6 hj) h⟩
noncomputable def T.Nd (t:T) (k:Nat):Prop:=(t.adr k).Nodup/\∀ a ∈ t.rest k,a ∉ t.adr k
noncomputable def T.Nds (ts:List T) (k:Nat):Prop:=(T.adrs ts k).Nodup/\∀ a ∈ T.rests ts k,a ∉ T.adrs ts k
theorem T.nd_zero (t:T):t.Nd 0:=by unfold T.Nd; rw [T.adr_zero]; exact ⟨List.nodup_nil,fun _ _ h=>nomatch h⟩
theorem T.nds_zero (ts:List T):T.Nds ts 0:=by unfold T.Nds; rw [T.adrs_zero]; exact ⟨List.nodup_nil,fun _ _ h=>nomatch h⟩
theorem T.nds_cons {t:T} {r:List T} {k:Nat}:T.Nds (t :: r) k ↔ t.Nd k/\T.Nds r k/\(∀ a ∈ t.adr k,a ∉ T.rests r 0)/\(∀ a ∈ T.adrs r k,a ∉ t.rest 0):=by
 unfold T.Nds T.Nd
 simp only [T.adrs,T.rests,acp,aac]
 constructor
 ·rintro ⟨⟨n1,n2,n3⟩,h⟩
  refine ⟨⟨n1,fun a ha hb=>h a (.inl ha) (.inl hb)⟩,⟨n2,fun a ha hb=>h a (.inr ha) (.inr hb)⟩,fun a ha hb=>?_,fun a ha hb=>?_⟩
  ·rcases (T.alls_iff r k).mp hb with q | q
   ·exact n3 a ha a q rfl
   ·exact h a (.inr q) (.inl ha)
  ·rcases (T.all_iff t k).mp hb with q | q
   ·exact n3 a q a ha rfl
   ·exact h a (.inl q) (.inr ha)
 ·rintro ⟨⟨n1,h1⟩,⟨n2,h2⟩,c1,c2⟩
  refine ⟨⟨n1,n2,fun a ha b hb e=>?_⟩,fun a ha hb=>?_⟩
  ·subst e
   exact c1 a ha ((T.alls_iff r k).mpr (.inl hb))
  ·rcases ha with ha | ha <;> rcases hb with hb | hb
   ·exact h1 a ha hb
   ·exact c2 a hb ((T.all_iff t k).mpr (.inr ha))
   ·exact c1 a hb ((T.alls_iff r k).mpr (.inr ha))
   ·exact h2 a ha hb
theorem T.nd_down:∀ (t:T) {k:Nat},t.Nd (k + 1)->t.Nd k:=by
 have lists:∀ (ts:List T),(∀ t ∈ ts,∀ {k:Nat},t.Nd (k + 1)->t.Nd k)->∀ {k:Nat},T.Nds ts (k + 1)->T.Nds ts k:=by
  intro ts
  induction ts with
  | nil=>intro _ k _; exact ⟨by simp [T.adrs],by simp [T.rests]⟩
  | cons t r ih =>
   intro h k n
   obtain ⟨n1,n2,c1,c2⟩:=T.nds_cons.mp n
   exact T.nds_cons.mpr ⟨h t (aab ..) n1,ih (fun u hu=>h u (aaa _ hu)) n2,fun a ha=>c1 a (T.adr_le t (abO k) ha),fun a ha=>c2 a (by
    obtain ⟨u,hu,hq⟩:=T.mem_adrs.mp ha
    exact T.mem_adrs.mpr ⟨u,hu,T.adr_le u (abO k) hq⟩)⟩
 refine T.ind (fun _=>by simp [T.Nd,T.adr]) (fun _ _=>by simp [T.Nd,T.adr]) (fun _ _=>by simp [T.Nd,T.adr]) (fun _ _=>by simp [T.Nd,T.adr]) (fun a ts ih k n=>?_) (fun a ts ih k n=>?_) (fun _ _ _=>by simp [T.Nd,T.adr])
 ·exact lists ts ih n
 ·cases k with
  | zero=>exact T.nd_zero _
  | succ k =>
   obtain ⟨n1,n2⟩:=n
   simp only [T.adr,T.rest,aaF] at n1 n2
   have:=lists ts ih (k:=k) ⟨n1.2,fun b hb hc=>n2 b hb (aaa _ hc)⟩
   refine ⟨?_,?_⟩
   ·simp only [T.adr,aaF]
    refine ⟨fun h=>n1.1 ?_,this.1⟩
    obtain ⟨u,hu,hq⟩:=T.mem_adrs.mp h
    exact T.mem_adrs.mpr ⟨u,hu,T.adr_le u (abO k) hq⟩
   ·intro b hb hc
    simp only [T.adr,T.rest,aah] at hb hc
    rcases hc with rfl | hc
    ·have h0:=(T.alls_iff ts (k + 1)).mp ((T.alls_iff ts k).mpr (.inr hb))
     rcases h0 with h0 | h0
     ·exact n1.1 h0
     ·exact n2 b h0 (aab ..)
    ·exact this.2 b hb hc
theorem T.nd_le (t:T) {k k':Nat} (h:k<=k') (n:t.Nd k'):t.Nd k:=by
 induction k' with
 | zero=>cases Nat.le_zero.mp h; exact n
 | succ k' ih =>
  rcases abW k (k' + 1) with q | q
  ·exact ih (Nat.le_of_lt_succ q) (T.nd_down t n)
  ·cases abI h q; exact n
theorem T.nds_le {ts:List T} {k k':Nat} (h:k<=k') (n:T.Nds ts k'):T.Nds ts k:=by
 have:=T.nd_le (.tup 0 ts) h (k':=k') n
 exact this
theorem T.Ok.keep' {p:Px} {H H':Hp}:∀ (t:T),(∀ a u,H a=some u->(a ∈ t.rest 0\/∀ vs,u ≠ .lst vs)->H' a=some u)->t.Ok p H->t.Ok p H':=by
 refine T.ind (P:=fun t=>(∀ a u,H a=some u->(a ∈ t.rest 0\/∀ vs,u ≠ .lst vs)->H' a=some u)->t.Ok p H->t.Ok p H') (fun _ h=>h) (fun _ _ h=>h) (fun _ _ h=>h) (fun _ _ h=>h) (fun a ts ih k h=>?_) (fun a ts ih k h=>?_) (fun a c k h=>?_)
 ·obtain ⟨h1,h2⟩:=h
  refine ⟨k _ _ h1 (.inr fun vs e=>nomatch e),T.oks_iff.mpr fun t ht=>ih t ht (fun b u e q=>k b u e ?_) (T.oks_iff.mp h2 t ht)⟩
  rcases q with q | q
  ·exact .inl (T.mem_rests.mpr ⟨t,ht,q⟩)
  ·exact .inr q
 ·obtain ⟨h1,h2⟩:=h
  refine ⟨?_,T.oks_iff.mpr fun t ht=>ih t ht (fun b u e q=>k b u e ?_) (T.oks_iff.mp h2 t ht)⟩
  ·rcases h1 with h1 | ⟨o,h1⟩
   ·exact .inl (k _ _ h1 (.inl (aab ..)))
   ·exact .inr ⟨o,k _ _ h1 (.inl (aab ..))⟩
  ·rcases q with q | q
   ·exact .inl (aaa _ (T.mem_rests.mpr ⟨t,ht,q⟩))
   ·exact .inr q
 ·exact ⟨k _ _ h.1 (.inr Q2),h.2⟩
theorem T.Ok.keep {p:Px} {H H':Hp} {t:T} (k:∀ a u,H a=some u->(a ∈ t.rest 0\/∀ vs,u ≠ .lst vs)->H' a=some u) (h:t.Ok p H):t.Ok p H':=T.Ok.keep' t k h
theorem T.Ok.same {p:Px} {H H':Hp} {t:T} (s:Same H H') (h:t.Ok p H):t.Ok p H':=h.keep fun a u e _=>s a u e
theorem T.Oks.same {p:Px} {H H':Hp} {ts:List T} (s:Same H H') (h:T.Oks p H ts):T.Oks p H' ts:=T.oks_iff.mpr fun t ht=>(T.oks_iff.mp h t ht).same s
theorem T.Ok.at' {p:Px} {H:Hp} {a:Addr}:∀ (t:T),t.Ok p H->a ∈ t.rest 0->∃ vs,Rd H a (.lst vs):=by
 refine T.ind (P:=fun t=>t.Ok p H->a ∈ t.rest 0->∃ vs,Rd H a (.lst vs)) (fun _ h=>nomatch h) (fun _ _ h=>nomatch h) (fun _ _ h=>nomatch h) (fun _ _ h=>nomatch h) (fun b ts ih k h=>?_) (fun b ts ih k h=>?_) (fun _ _ _ h=>nomatch h)
 ·obtain ⟨t,ht,q⟩:=T.mem_rests.mp h
  exact ih t ht (T.oks_iff.mp k.2 t ht) q
 ·rcases aah.mp h with rfl | h
  ·exact ⟨_,k.1⟩
  ·obtain ⟨t,ht,q⟩:=T.mem_rests.mp h
   exact ih t ht (T.oks_iff.mp k.2 t ht) q
theorem T.Ok.at {p:Px} {H:Hp} {a:Addr} {t:T} (h:t.Ok p H) (m:a ∈ t.rest 0):∃ vs,Rd H a (.lst vs):=T.Ok.at' t h m
theorem OI {H:Hp} {a:Addr} {u:HO} (h:Rd H a u):H a ≠ none:=by
 rcases h with h | ⟨o,h⟩ <;> rw [h] <;> simp
theorem T.Ok.dom {p:Px} {H:Hp} {a:Addr} {t:T} (h:t.Ok p H) (m:a ∈ t.rest 0):H a ≠ none:=by
 obtain ⟨vs,r⟩:=h.at m
 exact OI r
theorem T.Ok.domk {p:Px} {H:Hp} {a:Addr} {t:T} {k:Nat} (h:t.Ok p H) (m:a ∈ t.adr k):H a ≠ none:=h.dom ((T.all_iff t k).mpr (.inl m))
end Pu
end
section
namespace Pu
open PySem PySem.Spec PyProof.Rows PySem.W L2
noncomputable def gj (c:Bool) (x:Nat × Nat):Option (Nat × Nat):=if c then some x else none
mutual
noncomputable def jk (tn:List Nat):E->Option (Nat × Nat)
 | .nm i=>match tn[i]? with
  | some j=>gj (decide (j < 90)) (j,0)
  | none=>none
 | .cN=>some (0,9)
 | .cB _=>some (0,9)
 | .cI _=>some (0,9)
 | .cS _=>some (0,9)
 | .gl _ d=>gj (D.scal d) (0,9)
 | .tup es=>jks tn es
 | .lst es=>(jks tn es).bind fun x=>some (if x.1=0 then (0,x.2 + 1) else (x.1 + 1,0))
 | .bin _ a b=>(jk tn a).bind fun x=>(jk tn b).bind fun y=>gj (decide (x.1<=1) && decide (y.1<=1)) (0,1)
 | .neg a=>(jk tn a).bind fun _=>some (0,9)
 | .not a=>(jk tn a).bind fun _=>some (0,9)
 | .cmp _ a b=>(jk tn a).bind fun _=>(jk tn b).bind fun _=>some (0,9)
 | .chain _ _ a b c=>(jk tn a).bind fun _=>(jk tn b).bind fun _=>(jk tn c).bind fun _=>some (0,9)
 | .isN _ a=>(jk tn a).bind fun _=>some (0,9)
 | .bo _ es=>jks tn es
 | .ifx c a b=>(jk tn c).bind fun _=>(jk tn a).bind fun x=>(jk tn b).bind fun y=>some (max x.1 y.1,if max x.1 y.1=0 then min x.2 y.2 else 0)
 | .ix a i=>(jk tn a).bind fun x=>(jk tn i).bind fun _=>gj (decide (x.1=0)) (0,0)
 | .ixS a i=>(jk tn a).bind fun x=>(jk tn i).bind fun _=>gj (decide (x.1=0)) (0,9)
 | .ixL a i=>(jk tn a).bind fun x=>(jk tn i).bind fun _=>some (x.1 - 1,0)
 | .ixC a i=>(jk tn a).bind fun _=>(jk tn i).bind fun _=>some (0,9)
 | .slT a lo hi=>(jk tn a).bind fun _=>(jk tn lo).bind fun _=>(jk tn hi).bind fun _=>some (0,9)
 | .joi a b=>(jk tn a).bind fun _=>(jk tn b).bind fun _=>some (0,9)
 | .spl a b=>(jk tn a).bind fun _=>(jk tn b).bind fun _=>some (0,1)
 | .inT _ a b=>(jk tn a).bind fun _=>(jk tn b).bind fun _=>some (0,9)
 | .rep _ _=>some (0,9)
 | .slc a lo hi=>(jk tn a).bind fun x=>(jk tn lo).bind fun _=>(jk tn hi).bind fun _=>gj (decide (x.1<=1)) (0,1)
 | .call f es=>(jks tn es).bind fun x=>gj (decide (x.1=0)) (0,f.dep)
 | .bi b es=>(jks tn es).bind fun x=>match b with
  | .tupleL=>gj (decide (x.1<=1)) (0,0)
  | _=>some (0,9)
 | .dct=>some (0,9)
 | .isi a _=>(jk tn a).bind fun _=>some (0,9)
 | .mt _ a es=>(jk tn a).bind fun _=>(jks tn es).bind fun _=>some (0,9)
 | .comp0 nl fr _ it elt=>(jkI tn it).bind fun _=>(jk (aaf nl 0 ++ fr.map fun j=>tn.getD j 99) elt).bind fun x=>gj (decide (x.1=0)) (0,x.2 + 1)
 | .compX nl fr _ it elt=>(jkI tn it).bind fun _=>(jk (aaf nl 0 ++ fr.map fun j=>tn.getD j 99) elt).bind fun x=>gj (decide (x.1=0)) (0,x.2 + 1)
noncomputable def jks (tn:List Nat):Es->Option (Nat × Nat)
 | .nil=>some (0,9)
 | .cons e r=>(jk tn e).bind fun x=>(jks tn r).bind fun y=>some (max x.1 y.1,if max x.1 y.1=0 then min x.2 y.2 else 0)
noncomputable def jkI (tn:List Nat):It->Option Nat
 | .seq e=>(jk tn e).bind fun x=>if x.1=0 then some 0 else none
 | .seqL e=>(jk tn e).bind fun x=>if x.1<=1 then some x.1 else none
 | .r1 a=>(jk tn a).bind fun _=>some 0
 | .chs e=>(jk tn e).bind fun _=>some 0
end
noncomputable abbrev St:=L2.St
noncomputable abbrev Ft:=List (Option T)
noncomputable def vτ (τ:Ft):St:=τ.map (Option.map T.val)
noncomputable def dτ (τ:Ft):Fr:=τ.map (Option.map T.dat)
noncomputable def Fok (p:Px) (tn:List Nat) (τ:Ft) (H:Hp):Prop:=∀ (i:Nat) (t:T) (j:Nat),τ[i]?=some (some t)->tn[i]?=some j->j < 90->t.Ok p H
noncomputable def Sh (tn:List Nat) (τ:Ft) (a:Addr):Prop:=∃ (i:Nat) (t:T) (j:Nat),τ[i]?=some (some t)/\tn[i]?=some j/\j < 90/\a ∈ t.rest j
theorem Fok.same {p:Px} {tn:List Nat} {τ:Ft} {H H':Hp} (h:Fok p tn τ H) (s:Same H H'):Fok p tn τ H':=fun i t j e e' l=>(h i t j e e' l).same s
theorem Fok.dom {p:Px} {tn:List Nat} {τ:Ft} {H:Hp} (h:Fok p tn τ H) {a:Addr} (s:Sh tn τ a):H a ≠ none:=by
 obtain ⟨i,t,j,e,e',l,m⟩:=s
 exact (h i t j e e' l).dom (T.rest_le t (aaA j) m)
theorem B8 {τ:Ft} {i:Nat} {t:T} (h:τ[i]?=some (some t)):(vτ τ)[i]?=some (some t.val):=by simp [vτ,h]
theorem Cy {τ:Ft} {i:Nat} {d:D} (h:get (dτ τ) i=.ok d):∃ t,τ[i]?=some (some t)/\t.dat=d:=by
 unfold get dτ at h
 rw [aau] at h
 cases q:τ[i]? with
 | none=>rw [q] at h; cases h
 | some o =>
  rw [q] at h
  cases o with
  | none=>cases h
  | some t=>exact ⟨t,rfl,by simpa using h⟩
structure Rs (p:Px) (B:Addr->Prop) (H H':Hp) (j k:Nat) (t:T):Prop where
 same:Same H H'
 ok:t.Ok p H'
 src:∀ a ∈ t.rest j,H a=none\/B a
 new:∀ a ∈ t.adr k,H a=none/\∃ vs,H' a=some (.lst vs)
 nd:t.Nd k
structure RsL (p:Px) (B:Addr->Prop) (H H':Hp) (j k:Nat) (ts:List T):Prop where
 same:Same H H'
 ok:T.Oks p H' ts
 src:∀ a ∈ T.rests ts j,H a=none\/B a
 new:∀ a ∈ T.adrs ts k,H a=none/\∃ vs,H' a=some (.lst vs)
 nd:T.Nds ts k
theorem Rs.back {p:Px} {B:Addr->Prop} {H H1 H2:Hp} {j k:Nat} {t:T} (r:Rs p B H1 H2 j k t) (s:Same H H1):Rs p B H H2 j k t :=
 ⟨s.trans r.same,r.ok,fun a m=>(r.src a m).imp s.free id,fun a m=>⟨s.free (r.new a m).1,(r.new a m).2⟩,r.nd⟩
theorem Rs.fwd {p:Px} {B:Addr->Prop} {H H1 H2:Hp} {j k:Nat} {t:T} (r:Rs p B H H1 j k t) (s:Same H1 H2):Rs p B H H2 j k t :=
 ⟨r.same.trans s,r.ok.same s,r.src,fun a m=>⟨(r.new a m).1,let ⟨vs,e⟩:=(r.new a m).2; ⟨vs,s _ _ e⟩⟩,r.nd⟩
theorem Rs.le {p:Px} {B:Addr->Prop} {H H1:Hp} {j k j' k':Nat} {t:T} (r:Rs p B H H1 j k t) (hj:j<=j') (hk:k'<=k):Rs p B H H1 j' k' t :=
 ⟨r.same,r.ok,fun a m=>r.src a (T.rest_le t hj m),fun a m=>r.new a (T.adr_le t hk m),T.nd_le t hk r.nd⟩
theorem RsL.back {p:Px} {B:Addr->Prop} {H H1 H2:Hp} {j k:Nat} {t:List T} (r:RsL p B H1 H2 j k t) (s:Same H H1):RsL p B H H2 j k t :=
 ⟨s.trans r.same,r.ok,fun a m=>(r.src a m).imp s.free id,fun a m=>⟨s.free (r.new a m).1,(r.new a m).2⟩,r.nd⟩
noncomputable def T.sc:T->Bool
 | .non=>true
 | .bl _=>true
 | .int _=>true
 | .str _=>true
 | _=>false
theorem Rs.scal {p:Px} {B:Addr->Prop} {H H':Hp} {j k:Nat} {t:T} (s:Same H H') (h:t.sc=true):Rs p B H H' j k t:=by
 cases t <;> first | exact ⟨s,trivial,by simp [T.rest],by simp [T.adr],by simp [T.Nd,T.adr]⟩ | cases h
noncomputable def Lg {α:Type} (p:Px) (EX:EXT) (σ:St) (r:Res α) (H:Hp) (Kc:α->Prop):Prop:=match r with
 | .ok a=>Kc a
 | .exc c=>p.has c=true->∀ H',Same H H'->EX σ (.ref (p.cl c)) none H'
 | .bad=>False
theorem Lg.bind {α β:Type} {p:Px} {EX:EXT} {σ:St} {r:Res α} {f:α->Res β} {H:Hp} {Kc:β->Prop} (h:Lg p EX σ (r.bind f) H Kc):Lg p EX σ r H fun a=>Lg p EX σ (f a) H Kc:=by
 cases r <;> exact h
theorem Lg.mono {α:Type} {p:Px} {EX:EXT} {σ:St} {r:Res α} {H H1:Hp} {Kc Kc':α->Prop} (h:Lg p EX σ r H Kc) (s:Same H H1) (m:∀ a,r=.ok a->Kc a->Kc' a):Lg p EX σ r H1 Kc':=by
 cases r with
 | ok a=>exact m a rfl h
 | exc c=>exact fun hc H' s'=>h hc H' (s.trans s')
 | bad=>exact h
theorem Lg.guard {α:Type} {p:Px} {EX:EXT} {σ:St} {c:Prop} [Decidable c] {r:Res α} {H:Hp} {Kc:α->Prop} (h:Lg p EX σ (if c then r else .bad) H Kc):c/\Lg p EX σ r H Kc:=by
 split at h
 ·exact ⟨‹_›,h⟩
 ·exact nE h
noncomputable abbrev KE (p:Px) (B:Addr->Prop) (H:Hp) (j k:Nat) (Q:VK):D->Prop:=fun d=>∀ t H',t.dat=d->Rs p B H H' j k t->Q t.val H'
noncomputable abbrev KL (p:Px) (B:Addr->Prop) (H:Hp) (j k:Nat) (Q:List V->Hp->Prop):List D->Prop:=fun ds=>∀ ts H',T.dats ts=ds->RsL p B H H' j k ts->Q (ts.map T.val) H'
noncomputable def lE (p:Px) (EX:EXT) (tn:List Nat) (e:E):TE:=fun σ H Q=>∃ τ,σ=vτ τ/\Fok p tn τ H/\∃ j k,jk tn e=some (j,k)/\Lg p EX σ (ev e (dτ τ)) H (KE p (Sh tn τ) H j k Q)
noncomputable def lEs (p:Px) (EX:EXT) (tn:List Nat) (es:Es):TA:=fun σ H Q=>∃ τ,σ=vτ τ/\Fok p tn τ H/\∃ j k,jks tn es=some (j,k)/\Lg p EX σ (evs es (dτ τ)) H (KL p (Sh tn τ) H j k Q)
noncomputable def lT (p:Px) (EX:EXT) (tn:List Nat) (e:E):TT:=fun σ H Q=>∃ τ,σ=vτ τ/\Fok p tn τ H/\(jk tn e).isSome=true/\Lg p EX σ (tv e (dτ τ)) H fun b=>∀ H',Same H H'->Q b H'
theorem PE.mono {X:Cx} {e:Expr} {t t':TE} (h:PE X e t) (m:∀ σ H Q,t' σ H Q->t σ H Q):PE X e t':=fun pins s σ H Q I q=>h pins s σ H Q I (m _ _ _ q)
theorem PT.mono {X:Cx} {e:Expr} {t t':TT} (h:PT X e t) (m:∀ σ H Q,t' σ H Q->t σ H Q):PT X e t':=fun pins s σ H Q I q=>h pins s σ H Q I (m _ _ _ q)
theorem PA.mono {X:Cx} {e:List Expr} {t t':TA} (h:PA X e t) (m:∀ σ H Q,t' σ H Q->t σ H Q):PA X e t':=fun pos pins s σ H Q I q=>h pos pins s σ H Q I (m _ _ _ q)
section
variable {p:Px} {EX:EXT} {tn:List Nat} {X:Cx} {pos:Pos}
theorem CL {c:Bool} {x:Nat × Nat} {j k:Nat} (h:gj c x=some (j,k)):c=true/\x=(j,k):=by
 unfold gj at h
 split at h
 ·exact ⟨‹_›,Option.some.inj h⟩
 ·cases h
theorem l1 {x:E} {β:Type} {f:D->Res β} {τ:Ft} {H:Hp} {Kc:β->Prop} {Q:VK} {ja ka:Nat} (hF:Fok p tn τ H) (hj:jk tn x=some (ja,ka)) (h:Lg p EX (vτ τ) ((ev x (dτ τ)).bind f) H Kc)
  (m:∀ d t H1,t.dat=d->Rs p (Sh tn τ) H H1 ja ka t->Lg p EX (vτ τ) (f d) H Kc->Q t.val H1):lE p EX tn x (vτ τ) H Q :=
 ⟨τ,rfl,hF,ja,ka,hj,h.bind.mono (Same.refl _) fun d _ hd t H1 ht R=>m d t H1 ht R hd⟩
theorem l2 {x:E} {β:Type} {f:D->Res β} {τ:Ft} {H H1:Hp} {Kc:β->Prop} {Q:VK} {ja ka:Nat} (hF:Fok p tn τ H) (s:Same H H1) (hj:jk tn x=some (ja,ka)) (h:Lg p EX (vτ τ) ((ev x (dτ τ)).bind f) H Kc)
  (m:∀ d t H2,t.dat=d->Rs p (Sh tn τ) H1 H2 ja ka t->Lg p EX (vτ τ) (f d) H Kc->Q t.val H2):lE p EX tn x (vτ τ) H1 Q :=
 ⟨τ,rfl,hF.same s,ja,ka,hj,h.bind.mono s fun d _ hd t H2 ht R=>m d t H2 ht R hd⟩
theorem Q3 {i:Nat} {x:Str} (hN:X.N[i]?=some x) (hv:Vis X.env.scope x) (hd:(x==("__debug__" : Str))=false) (hcd:(x==("__classdict__" : Str))=false):PE X (.Name x pos) (lE p EX tn (.nm i)):=by
 refine PE.mono (CN hN hv hd hcd) fun σ H Q h=>?_
 obtain ⟨τ,rfl,hF,j,k,hj,h⟩:=h
 simp only [jk] at hj
 split at hj
 ·rename_i j' hj'
  obtain ⟨hlt,e⟩:=CL hj
  cases e
  simp only [ev] at h
  cases q:get (dτ τ) i with
  | ok d =>
   rw [q] at h
   obtain ⟨t,ht,e⟩:=Cy q
   exact ⟨t.val,B8 ht,h t H e ⟨Same.refl _,hF i t j ht hj' (of_decide_eq_true hlt),fun a m=>.inr ⟨i,t,j,ht,hj',of_decide_eq_true hlt,m⟩,by rw [T.adr_zero]; simp,T.nd_zero t⟩⟩
  | exc c=>rw [q] at h; unfold get at q; split at q <;> cases q
  | bad=>rw [q] at h; exact h.elim
 ·cases hj
theorem F9 {e:Expr} {x:E} {t:T} (hp:PE X e (tC t.val)) (hs:t.sc=true) (he:∀ δ,ev x δ=.ok t.dat):PE X e (lE p EX tn x):=by
 refine PE.mono hp fun σ H Q h=>?_
 obtain ⟨τ,rfl,hF,j,k,hj,h⟩:=h
 rw [he] at h
 exact h t H rfl (Rs.scal (Same.refl _) hs)
theorem OJ {B:Addr->Prop} {H H1 H2:Hp} {j1 k1 j2 k2:Nat} {t:T} {ts:List T} (hB:∀ a,B a->H a ≠ none) (r:Rs p B H H1 j1 k1 t) (q:RsL p B H1 H2 j2 k2 ts):RsL p B H H2 (max j1 j2) (if max j1 j2=0 then min k1 k2 else 0) (t :: ts):=by
 have r2:=r.fwd q.same
 refine ⟨r2.same,⟨r2.ok,q.ok⟩,fun a m=>?_,fun a m=>?_,?_⟩
 ·simp only [T.rests,aac] at m
  rcases m with m | m
  ·exact r.src a (T.rest_le t (Nat.le_max_left ..) m)
  ·obtain ⟨u,hu,m⟩:=T.mem_rests.mp m
   exact (q.src a (T.mem_rests.mpr ⟨u,hu,T.rest_le u (Nat.le_max_right ..) m⟩)).imp r.same.free id
 ·split at m
  ·simp only [T.adrs,aac] at m
   rcases m with m | m
   ·exact r2.new a (T.adr_le t (aaX ..) m)
   ·obtain ⟨u,hu,m⟩:=T.mem_adrs.mp m
    have z:=q.new a (T.mem_adrs.mpr ⟨u,hu,T.adr_le u (aaR ..) m⟩)
    exact ⟨r.same.free z.1,z.2⟩
  ·rw [T.adrs_zero] at m; cases m
 ·split
  ·rename_i hz
   have h1:j1=0:=by omega
   have h2:j2=0:=by omega
   subst h1 h2
   refine T.nds_cons.mpr ⟨T.nd_le t (aaX ..) r.nd,T.nds_le (aaR ..) q.nd,fun a m m'=>?_,fun a m m'=>?_⟩
   ·have m1:=T.adr_le t (aaX k1 k2) m
    rcases q.src a m' with z | z
    ·exact r.ok.domk m1 z
    ·exact hB a z (r.new a m1).1
   ·obtain ⟨u,hu,m⟩:=T.mem_adrs.mp m
    exact r.ok.dom m' (q.new a (T.mem_adrs.mpr ⟨u,hu,T.adr_le u (aaR ..) m⟩)).1
  ·exact T.nds_zero _
theorem M2:PA X [] (lEs p EX tn .nil):=by
 refine PA.mono BQ fun σ H Q h=>?_
 obtain ⟨τ,rfl,hF,j,k,hj,h⟩:=h
 exact h [] H rfl ⟨Same.refl _,trivial,by simp [T.rests],by simp [T.adrs],by simp [T.Nds,T.adrs]⟩
theorem Ly {e:Expr} {es:List Expr} {x:E} {xs:Es} (he:PE X e (lE p EX tn x)) (hes:PA X es (lEs p EX tn xs)) (hs:starEach (e :: es) X.env=(false,eval e X.env) :: starEach es X.env):PA X (e :: es) (lEs p EX tn (.cons x xs)):=by
 refine PA.mono (A7 he hes hs) fun σ H Q h=>?_
 obtain ⟨τ,rfl,hF,j,k,hj,h⟩:=h
 simp only [jks] at hj
 obtain ⟨⟨j1,k1⟩,h1,hj⟩:=bS hj
 obtain ⟨⟨j2,k2⟩,h2,hj⟩:=bS hj
 cases hj
 simp only [evs] at h
 refine l1 hF h1 h fun d t H1 ht R h=>?_
 refine ⟨τ,rfl,hF.same R.same,j2,k2,h2,h.bind.mono R.same fun ds _ hd ts H2 hts R2=>?_⟩
 exact hd (t :: ts) H2 (by simp [T.dats,ht,hts]) (OJ (fun a=>hF.dom) R R2)
end
section
variable {p:Px} {EX:EXT} {tn:List Nat} {X:Cx} {pos:Pos}
theorem Lz {B:Addr->Prop} {H H1:Hp} {j k:Nat} {a:Addr} {ts:List T} (r:RsL p B H H1 j k ts) (hn:H1 a=none):Rs p B H (L2.upd H1 a (.tup (ts.map T.val))) j k (.tup a ts):=by
 have s:=Same.new (o:=.tup (ts.map T.val)) hn
 exact ⟨r.same.trans s,⟨Ak,r.ok.same s⟩,r.src,fun b m=>⟨(r.new b m).1,let ⟨vs,e⟩:=(r.new b m).2; ⟨vs,s _ _ e⟩⟩,r.nd⟩
theorem LA {B:Addr->Prop} {H H1:Hp} {j k:Nat} {a:Addr} {ts:List T} (r:RsL p B H H1 j k ts) (hn:H1 a=none) :
  Rs p B H (L2.upd H1 a (.lst (ts.map T.val))) (if j=0 then 0 else j + 1) (if j=0 then k + 1 else 0) (.lst a ts):=by
 have s:=Same.new (o:=.lst (ts.map T.val)) hn
 have ha:H a=none:=r.same.free hn
 refine ⟨r.same.trans s,⟨.inl Ak,r.ok.same s⟩,fun b m=>?_,fun b m=>?_,?_⟩
 ·split at m
  ·rename_i e
   subst e
   simp only [T.rest,aah] at m
   rcases m with rfl | m
   ·exact .inl ha
   ·exact r.src b m
  ·exact r.src b m
 ·split at m
  ·simp only [T.adr,aah] at m
   rcases m with rfl | m
   ·exact ⟨ha,_,Ak⟩
   ·exact ⟨(r.new b m).1,let ⟨vs,e⟩:=(r.new b m).2; ⟨vs,s _ _ e⟩⟩
  ·rw [T.adr_zero] at m; cases m
 ·split
  ·rename_i e
   subst e
   have out:a ∉ T.rests ts 0:=fun m=>by
    obtain ⟨t,ht,m⟩:=T.mem_rests.mp m
    exact (T.oks_iff.mp r.ok t ht).dom m hn
   refine ⟨?_,fun b m m'=>?_⟩
   ·simp only [T.adr,aaF]
    exact ⟨fun m=>out ((T.alls_iff ts k).mpr (.inl m)),r.nd.1⟩
   ·simp only [T.adr,T.rest,aah] at m m'
    rcases m' with rfl | m'
    ·exact out ((T.alls_iff ts k).mpr (.inr m))
    ·exact r.nd.2 b m m'
  ·exact T.nd_zero _
theorem Ac:∀ ts:List T,(T.dats ts).length=ts.length:=fun ts=>by rw [T.dats_map,aae]
noncomputable def Es.len:Es->Nat
 | .nil=>0
 | .cons _ r=>r.len + 1
theorem BJ:∀ (es:Es) (δ:Fr) (ds:List D),evs es δ=.ok ds->ds.length=es.len
 | .nil,δ,ds,h=>by simp only [evs] at h; cases h; rfl
 | .cons e r,δ,ds,h=>by
  simp only [evs] at h
  obtain ⟨x,_,h⟩:=Res.bind_eq_ok h
  obtain ⟨xs,h2,h⟩:=Res.bind_eq_ok h
  cases h
  rw [aaS,BJ r δ xs h2,Es.len]
theorem OK {es:List Expr} {xs:Es} {k1:Nat} (h:PA X es (lEs p EX tn xs)) (hl:xs.len<=1000):PE X (.Tuple es k1 pos) (lE p EX tn (.tup xs)):=by
 refine PE.mono (Qz h) fun σ H Q h=>?_
 obtain ⟨τ,rfl,hF,j,k,hj,h⟩:=h
 simp only [ev] at h
 refine ⟨τ,rfl,hF,j,k,hj,h.bind.mono (Same.refl _) fun ds e hd ts H1 hts R=>⟨?_,fun a ha=>hd (.tup a ts) _ (by simp [T.dat,hts]) (Lz R ha)⟩⟩
 have:=BJ _ _ _ e
 rw [aae,<- Ac,hts,this]
 exact aao hl (by decide)
theorem OL {es:List Expr} {xs:Es} (h:PA X es (lEs p EX tn xs)) (hl:xs.len<=1000):PE X (.List es pos) (lE p EX tn (.lst xs)):=by
 refine PE.mono (Le h) fun σ H Q h=>?_
 obtain ⟨τ,rfl,hF,j,k,hj,h⟩:=h
 simp only [jk] at hj
 obtain ⟨⟨j1,k1⟩,h1,hj⟩:=bS hj
 simp only [ev] at h
 refine ⟨τ,rfl,hF,j1,k1,h1,h.bind.mono (Same.refl _) fun ds e hd ts H1 hts R=>⟨?_,fun a ha=>hd (.lst a ts) _ (by simp [T.dat,hts]) ?_⟩⟩
 ·have:=BJ _ _ _ e
  rw [aae,<- Ac,hts,this]
  exact aao hl (by decide)
 ·have q:=LA R ha
  have hj:=Option.some.inj hj
  by_cases z:j1=0
  ·subst z; simp only [if_true] at q; simp at hj; obtain ⟨rfl,rfl⟩:=hj; exact q
  ·simp only [if_neg z] at q; simp [z] at hj; obtain ⟨rfl,rfl⟩:=hj; exact q
noncomputable def Kp:B2->Operator
 | .add=>.Add
 | .sub=>.Sub
 | .mul=>.Mult
 | .fdiv=>.FloorDiv
 | .mod=>.Mod
 | .pow=>.Pow
theorem Inv.lstR {pins:List (Addr × Obj)} {σ:St} {H:Hp} {s:Shared} {l:Addr} {xs:List V} (I:Inv X pins σ H s) (hH:Rd H l (.lst xs)):xs.length<=sizeLine/\∃ (its:List Value) (n:Nat),Vals xs its/\xs.length=its.length/\s.heap.get? l=some { cls:=.type "list",data:=.seq its.toArray n }:=by
 obtain ⟨z,its,n,r,e⟩:=hH.ok I.hok
 exact ⟨z,its,n,r,r.length,e⟩
noncomputable def Kq:R2:=fun x y H Q=>∃ l b xs zs,x=.ref l/\y=.ref b/\Rd H l (.lst xs)/\Rd H b (.lst zs)/\xs.length + zs.length<=sizeLine/\∀ q,H q=none->Q (.ref q) (L2.upd H q (.lst (xs ++ zs)))
theorem JD:OpR X (binaryOp .Add) Kq:=by
 intro pins s σ H x y v u Q I rx ry h
 obtain ⟨l,b,xs,zs,rfl,rfl,hH,hB,hz,q⟩:=h
 cases rx
 cases ry
 obtain ⟨z,its,n,r,hl,e⟩:=Inv.lstR I hH
 obtain ⟨z2,its2,n2,r2,hl2,e2⟩:=Inv.lstR I hB
 refine PySem.P.add_list e e2 ?_ (by rw [aap,aap]; omega)
 have ea:its.toArray ++ its2.toArray=(its ++ its2).toArray:=by simp
 rw [ea]
 exact ⟨.ref _,_,I.lnew (t':=s.toks) (r.append r2) (by rw [aal]; omega),rfl,q _ I.fresh⟩
noncomputable def N3:R2:=fun x y H Q=>∃ l k xs,x=.ref l/\y=.int k/\Rd H l (.lst xs)/\-(2 ^ 63)<=k/\k < 2 ^ 63/\xs.length * k.toNat<=sizeLine /\
 ∀ q,H q=none->Q (.ref q) (L2.upd H q (.lst (aaf k.toNat xs).flatten))
noncomputable def N4 (_ j:Int):Prop:=0 < j/\j < 2 ^ 200
theorem M3:OpR X (binaryOp .FloorDiv) (rI N4 fun i j=>.int (i / j)):=opI fun i j _ _ _ _ _ hc q=>by
 have e:i / j=i.fdiv j:=(Int.fdiv_eq_ediv_of_nonneg _ (Int.le_of_lt hc.1)).symm
 rw [e] at q
 refine floordiv_int (by have:=hc.1; omega) q (.inl (PyProof.noPylong_of_log2 ?_))
 have h1:j.natAbs < 2 ^ 200:=by
  have e1:(j.natAbs:Int)=j:=Int.natAbs_of_nonneg (Int.le_of_lt hc.1)
  have e2:(j.natAbs:Int) < ((2 ^ 200:Nat):Int):=by rw [e1]; exact hc.2
  exact Int.ofNat_lt.mp e2
 have:j.natAbs.log2 < 200:=by
  refine (acr (by have:=hc.1; omega)).mpr h1
 omega
theorem OM:OpR X (binaryOp .Mult) N3:=by
 intro pins s σ H x y v u Q I rx ry h
 obtain ⟨l,k,xs,rfl,rfl,hH,h1,h2,hz,q⟩:=h
 cases rx
 obtain ⟨t,rfl⟩:=ry
 obtain ⟨z,its,n,r,hl,e⟩:=Inv.lstR I hH
 have hlen:its.toArray.size * k.toNat<=sizeLine:=by rw [aap,<- hl]; exact hz
 have hcap:¬ its.toArray.size * k.toNat > (2 ^ 63 - 1) / 8:=by
  have:(sizeLine:Nat)<=(2 ^ 63 - 1) / 8:=by decide
  omega
 have hfit:¬ (!Builtin.List.listFitsIndex k)=true:=by
  rw [fitsIndex_both h1 h2]
  exact abj
 have hlong:¬ Builtin.List.listTooLong (its.toArray.size * k.toNat)=true:=by
  rw [HZ hlen]
  exact abj
 have hnew:act (fun x1 x2=>x1 ++ x2) #[] (aaf (if its.toArray.isEmpty=true then 0 else k.toNat) its.toArray)=(aaf k.toNat its).flatten.toArray:=by
  have f0:∀ m:Nat,act (fun x1 x2=>x1 ++ x2) #[] (aaf m its.toArray)=(aaf m its).flatten.toArray:=fun m=>by
   have:=GY its m []
   rw [aa2] at this
   exact this
  rw [f0]
  cases its with
  | nil=>simp
  | cons a r'=>rw [if_neg (by simp)]
 refine wpAny_binaryOp_repeat_ref (T := "list") (U := "int") (by decide) ⟨_,e,rfl⟩ (fun s'=>typeIs_int s' k t) noFill_list_mul F.fills_int_mul F.slot_int_rmul repeat_list F.slot_int_index.lookup
  (call_meets F.slot_int_rmul (typeIs_int s k t) F.entry_int_rmul (F.args_int_rmul_2 _ _) (int___rmul___int_list k t l its.toArray n)
   ⟨e,rfl,⟨_,e,rfl⟩,call_meets F.slot_list_mul ⟨_,e,rfl⟩ F.entry_list_mul (F.args_list_mul_2 _ _) (AutoListH.list___mul___list_int_3 l its.toArray n k t hfit hcap hlong) ⟨e,?_⟩⟩)
 rw [hnew]
 exact ⟨.ref _,_,I.lnew (t':=s.toks) (r.rep k.toNat) (by rw [Ot,Nat.mul_comm]; exact hz),rfl,q _ I.fresh⟩
noncomputable def CMulB (i j:Int):Prop:=CMul i j\/(i.natAbs < 2 ^ 400/\j.natAbs < 2 ^ 400)
theorem JE {k:Int} (h:k.natAbs < 2 ^ 400):Builtin.Int.intBits k<=400:=by
 unfold Builtin.Int.intBits
 split
 ·exact aaA _
 ·have:k.natAbs.log2 < 400:=by
   rcases acl k.natAbs with h0 | hp
   ·rw [h0]; decide
   ·exact (acr (abG hp)).mpr h
  omega
theorem CMulB.ok {i j:Int} (h:CMulB i j):IntMulOk i j:=by
 rcases h with h | ⟨h1,h2⟩
 ·exact h.ok
 ·have b1:=JE h1
  have b2:=JE h2
  have:Builtin.Int.intTooBig (Builtin.Int.intBits i + Builtin.Int.intBits j)=false:=by
   unfold Builtin.Int.intTooBig bitsLine
   exact decide_eq_false (by omega)
  unfold IntMulOk
  rw [this]
  simp
theorem ON:OpR X (binaryOp .Mult) (rI CMulB fun i j=>.int (i * j)):=opI fun _ _ _ _ _ _ _ hc q=>mul_int q hc.ok
noncomputable def Q4:B2->R2
 | .add=>fun x y H Q=>rI0 (fun i j=>.int (i + j)) x y H Q\/(Kq x y H Q\/∃ i j,x=.str i/\y=.str j/\i.length + j.length<=sizeLine/\Q (.str (i ++ j)) H)
 | .sub=>rI0 fun i j=>.int (i - j)
 | .mul=>fun x y H Q=>rI CMulB (fun i j=>.int (i * j)) x y H Q\/N3 x y H Q
 | .fdiv=>rI N4 fun i j=>.int (i / j)
 | .mod=>rI (fun _ j=>0 < j) fun i j=>.int (i % j)
 | .pow=>rI Qs fun i j=>.int (i ^ j.toNat)
theorem OP:∀ o:B2,OpR X (binaryOp (Kp o)) (Q4 o)
 | .add=>Qt.or (JD.or Ej)
 | .sub=>Qu
 | .mul=>ON.or OM
 | .fdiv=>M3
 | .mod=>Qv
 | .pow=>Qw
theorem Rs.elems {B:Addr->Prop} {H H1:Hp} {j k:Nat} {a:Addr} {ts:List T} (r:Rs p B H H1 j k (.lst a ts)) (hj:j<=1):∀ b ∈ T.rests ts 0,H b=none\/B b:=fun b m=>by
 refine r.src b (T.rest_le _ hj (j':=1) ?_)
 exact m
theorem Ga {B:Addr->Prop} {H H1:Hp} {a:Addr} {ts:List T} (s:Same H H1) (ok:T.Oks p H1 ts) (src:∀ b ∈ T.rests ts 0,H b=none\/B b) (hn:H1 a=none):Rs p B H (L2.upd H1 a (.lst (ts.map T.val))) 0 1 (.lst a ts):=by
 have:=LA (j:=0) (k:=0) (p:=p) (B:=B) (H:=H) (a:=a) (ts:=ts) ⟨s,ok,src,by rw [T.adrs_zero]; simp,T.nds_zero ts⟩ hn
 exact this
theorem JF {t:T} {f:Int->Res D} {Q:Res D->Prop} (hb:¬ Q .bad) (h:Q (CZ t.dat f)):∃ i,t=.int i/\Q (f i):=by
 cases t with
 | int i=>exact ⟨i,rfl,h⟩
 | _=>exact absurd h hb
theorem B9 {t u:T} {f:Int->Int->Res D} {Q:Res D->Prop} (hb:¬ Q .bad) (h:Q (Bz t.dat u.dat f)):∃ i j,t=.int i/\u=.int j/\Q (f i j):=by
 obtain ⟨i,rfl,h⟩:=JF (t:=t) hb h
 obtain ⟨j,rfl,h⟩:=JF (t:=u) hb h
 exact ⟨i,j,rfl,rfl,h⟩
theorem OQ {t u:T} {Q:Res D->Prop} (hb:¬ Q .bad) (h:Q (Kn t.dat u.dat)):(∃ i j,t=.int i/\u=.int j/\Q (.ok (.int (i + j))))\/(∃ x y,t=.str x/\u=.str y/\Q (Kn (.str x) (.str y)))\/∃ a ts b us,t=.lst a ts/\u=.lst b us/\Q (Kn (.lst (T.dats ts)) (.lst (T.dats us))):=by
 cases t with
 | int i =>
  cases u with
  | int j=>exact .inl ⟨i,j,rfl,rfl,h⟩
  | _=>exact absurd h hb
 | str x =>
  cases u with
  | str y=>exact .inr (.inl ⟨x,y,rfl,rfl,h⟩)
  | _=>exact absurd h hb
 | lst a ts =>
  cases u with
  | lst b us=>exact .inr (.inr ⟨a,ts,b,us,rfl,rfl,h⟩)
  | _=>exact absurd h hb
 | _=>exact absurd h hb
theorem OR {t u:T} {Q:Res D->Prop} (hb:¬ Q .bad) (h:Q (Ko t.dat u.dat)):(∃ i j,t=.int i/\u=.int j/\Q (Ko (.int i) (.int j)))\/∃ a ts k,t=.lst a ts/\u=.int k/\Q (Ko (.lst (T.dats ts)) (.int k)):=by
 cases t with
 | int i =>
  cases u with
  | int j=>exact .inl ⟨i,j,rfl,rfl,h⟩
  | _=>exact absurd h hb
 | lst a ts =>
  cases u with
  | int k=>exact .inr ⟨a,ts,k,rfl,rfl,h⟩
  | _=>exact absurd h hb
 | _=>exact absurd h hb
theorem SH {B:Addr->Prop} {H H2:Hp} {ja jb ka kb:Nat} {t u:T} {o:B2} {σ:St} {Q:VK} (r:Rs p B H H2 ja ka t) (r':Rs p B H H2 jb kb u) (ha:ja<=1) (hb:jb<=1) (h:Lg p EX σ (b2 o t.dat u.dat) H (KE p B H 0 1 Q)):Q4 o t.val u.val H2 Q:=by
 have sc:∀ w:T,w.sc=true->Rs p B H H2 0 1 w:=fun w hw=>Rs.scal r.same hw
 cases o with
 | add =>
  rcases OQ (Q:=fun r=>Lg p EX σ r H _) id h with ⟨i,j,rfl,rfl,h⟩ | ⟨x,y,rfl,rfl,h⟩ | ⟨a,ts,b,us,rfl,rfl,h⟩
  ·exact .inl ⟨_,_,rfl,rfl,h (.int _) H2 rfl (sc _ rfl)⟩
  ·obtain ⟨hl,h⟩:=h.guard
   exact .inr (.inr ⟨_,_,rfl,rfl,hl,h (.str _) H2 rfl (sc _ rfl)⟩)
  ·skip
   obtain ⟨hl,h⟩:=h.guard
   ·refine .inr (.inl ⟨a,b,_,_,rfl,rfl,r.ok.1,r'.ok.1,?_,fun q hq=>?_⟩)
    ·rw [aae,aae,<- Ac,<- Ac]; exact hl
    ·rw [<- aan]
     refine h (.lst q (ts ++ us)) _ (by simp [T.dat,T.dats_map]) (Ga r.same (T.oks_iff.mpr fun w hw=>?_) (fun c m=>?_) hq)
     ·rcases aac.mp hw with hw | hw
      ·exact T.oks_iff.mp r.ok.2 w hw
      ·exact T.oks_iff.mp r'.ok.2 w hw
     ·rw [T.rests_append,aac] at m
      rcases m with m | m
      ·exact r.elems ha c m
      ·exact r'.elems hb c m
 | sub =>
  obtain ⟨i,j,rfl,rfl,h⟩:=B9 (Q:=fun r=>Lg p EX σ r H _) id h
  exact ⟨_,_,rfl,rfl,h (.int _) H2 rfl (sc _ rfl)⟩
 | mul =>
  rcases OR (Q:=fun r=>Lg p EX σ r H _) id h with ⟨i,j,rfl,rfl,h⟩ | ⟨a,ts,k,rfl,rfl,h⟩
  ·by_cases c:(-(2 ^ 64) < i/\i < 2 ^ 64)\/(-(2 ^ 64) < j/\j < 2 ^ 64)
   ·have h:Lg p EX σ (if (-(2 ^ 64) < i/\i < 2 ^ 64)\/(-(2 ^ 64) < j/\j < 2 ^ 64) then Res.ok (D.int (i * j)) else if i.natAbs < 2 ^ 400/\j.natAbs < 2 ^ 400 then .ok (.int (i * j)) else .bad) H _:=h
    rw [if_pos c] at h
    exact .inl ⟨_,_,rfl,rfl,.inl c,h (.int _) H2 rfl (sc _ rfl)⟩
   ·have h:Lg p EX σ (if (-(2 ^ 64) < i/\i < 2 ^ 64)\/(-(2 ^ 64) < j/\j < 2 ^ 64) then Res.ok (D.int (i * j)) else if i.natAbs < 2 ^ 400/\j.natAbs < 2 ^ 400 then .ok (.int (i * j)) else .bad) H _:=h
    rw [if_neg c] at h
    obtain ⟨hl,h⟩:=h.guard
    exact .inl ⟨_,_,rfl,rfl,.inr hl,h (.int _) H2 rfl (sc _ rfl)⟩
  ·skip
   obtain ⟨⟨h1,h2,h3⟩,h⟩:=h.guard
   ·refine .inr ⟨a,k,_,rfl,rfl,r.ok.1,h1,h2,?_,fun q hq=>?_⟩
    ·rw [aae,<- Ac]; exact h3
    ·have e:(aaf k.toNat (ts.map T.val)).flatten=(aaf k.toNat ts).flatten.map T.val:=by
      rw [List.map_flatten,abf]
     rw [e]
     refine h (.lst q (aaf k.toNat ts).flatten) _ ?_ (Ga r.same (T.oks_iff.mpr fun w hw=>?_) (fun c m=>?_) hq)
     ·rw [T.dat,T.dats_map,T.dats_map,List.map_flatten,abf]
     ·obtain ⟨l,hl,hw⟩:=abX.mp hw
      rw [(abz.mp hl).2] at hw
      exact T.oks_iff.mp r.ok.2 w hw
     ·obtain ⟨w,hw,m⟩:=T.mem_rests.mp m
      obtain ⟨l,hl,hw⟩:=abX.mp hw
      rw [(abz.mp hl).2] at hw
      exact r.elems ha c (T.mem_rests.mpr ⟨w,hw,m⟩)
 | fdiv =>
  obtain ⟨i,j,rfl,rfl,h⟩:=B9 (Q:=fun r=>Lg p EX σ r H _) id h
  obtain ⟨hl,h⟩:=h.guard
  exact ⟨_,_,rfl,rfl,hl,h (.int _) H2 rfl (sc _ rfl)⟩
 | mod =>
  obtain ⟨i,j,rfl,rfl,h⟩:=B9 (Q:=fun r=>Lg p EX σ r H _) id h
  obtain ⟨hl,h⟩:=h.guard
  exact ⟨_,_,rfl,rfl,hl,h (.int _) H2 rfl (sc _ rfl)⟩
 | pow =>
  obtain ⟨i,j,rfl,rfl,h⟩:=B9 (Q:=fun r=>Lg p EX σ r H _) id h
  obtain ⟨hl,h⟩:=h.guard
  exact ⟨_,_,rfl,rfl,hl,h (.int _) H2 rfl (sc _ rfl)⟩
theorem OS {a b:Expr} {x y:E} {o:B2} (ha:PE X a (lE p EX tn x)) (hb:PE X b (lE p EX tn y)):PE X (.BinOp a (Kp o) b pos) (lE p EX tn (.bin o x y)):=by
 refine PE.mono (J4 (OP o) ha hb) fun σ H Q h=>?_
 obtain ⟨τ,rfl,hF,j,k,hj,h⟩:=h
 simp only [jk] at hj
 obtain ⟨⟨j1,k1⟩,h1,hj⟩:=bS hj
 obtain ⟨⟨j2,k2⟩,h2,hj⟩:=bS hj
 obtain ⟨hc,e⟩:=CL hj
 cases e
 simp only [aak,decide_eq_true_eq] at hc
 simp only [ev] at h
 refine l1 hF h1 h fun d t H1 ht R h=>l2 hF R.same h2 h fun d' t' H2 ht' R' h=>?_
 subst ht ht'
 exact SH (R.fwd R'.same) (R'.back R.same) hc.1 hc.2 h
end
mutual
noncomputable def D.py:D->PyData
 | .non=>.none
 | .bl b=>.bool b
 | .int i=>.int i
 | .str x=>.str x
 | .tup ds=>.tuple (D.pys ds)
 | .lst ds=>.list (D.pys ds)
 | .exn _=>.none
noncomputable def D.pys:List D->List PyData
 | []=>[]
 | d :: r=>d.py :: D.pys r
end
theorem D.ind {P:D->Prop} (h0:P .non) (h1:∀ b,P (.bl b)) (h2:∀ i,P (.int i)) (h3:∀ x,P (.str x)) (h4:∀ ts,(∀ t ∈ ts,P t)->P (.tup ts)) (h5:∀ ts,(∀ t ∈ ts,P t)->P (.lst ts)) (h6:∀ c,P (.exn c)):∀ t,P t
 | .non=>h0
 | .bl b=>h1 b
 | .int i=>h2 i
 | .str x=>h3 x
 | .tup ts=>h4 ts fun t h=>D.ind h0 h1 h2 h3 h4 h5 h6 t
 | .lst ts=>h5 ts fun t h=>D.ind h0 h1 h2 h3 h4 h5 h6 t
 | .exn c=>h6 c
termination_by t=>t
theorem AY {n c:Nat}:D.shp n (.exn c)=false:=by cases n <;> rfl
theorem Db {n:Nat} {ds:List D} (h:D.shp n (.tup ds)=true):∃ m,n=m + 1/\∀ d ∈ ds,D.shp m d=true:=by
 cases n with
 | zero=>cases h
 | succ m=>exact ⟨m,rfl,by simpa [D.shp] using h⟩
theorem Dc {n:Nat} {ds:List D} (h:D.shp n (.lst ds)=true):∃ m,n=m + 1/\∀ d ∈ ds,D.shp m d=true:=by
 cases n with
 | zero=>cases h
 | succ m=>exact ⟨m,rfl,by simpa [D.shp] using h⟩
theorem Ij:∀ (d e:D) (n m:Nat),d.shp n=true->e.shp m=true->d.eqv e=d.py.eqv e.py:=by
 have lists:∀ (ds:List D),(∀ d ∈ ds,∀ (e:D) (n m:Nat),d.shp n=true->e.shp m=true->d.eqv e=d.py.eqv e.py)->∀ (es:List D) (n m:Nat),(∀ d ∈ ds,d.shp n=true)->(∀ e ∈ es,e.shp m=true)->D.eqvs ds es=PyData.eqvAll (D.pys ds) (D.pys es):=by
  intro ds
  induction ds with
  | nil=>intro _ es n m _ _; cases es <;> simp [D.eqvs,D.pys,PyData.eqvAll]
  | cons d r ih =>
   intro h es n m h1 h2
   cases es with
   | nil=>simp [D.eqvs,D.pys,PyData.eqvAll]
   | cons e s =>
    simp only [D.eqvs,D.pys,PyData.eqvAll]
    rw [h d (aab ..) e n m (h1 d (aab ..)) (h2 e (aab ..)),ih (fun x hx=>h x (aaa _ hx)) s n m (fun x hx=>h1 x (aaa _ hx)) (fun x hx=>h2 x (aaa _ hx))]
 refine D.ind ?_ ?_ ?_ ?_ ?_ ?_ ?_
 ·intro e n m _ h; cases e <;> simp [D.eqv,D.py,PyData.eqv,AY] at h ⊢
 ·intro b e n m _ h; cases e <;> simp [D.eqv,D.py,PyData.eqv,AY] at h ⊢
 ·intro b e n m _ h; cases e <;> simp [D.eqv,D.py,PyData.eqv,AY] at h ⊢
 ·intro b e n m _ h; cases e <;> simp [D.eqv,D.py,PyData.eqv,AY] at h ⊢
 ·intro ds ih e n m h1 h2
  cases e with
  | tup es =>
   obtain ⟨n',_,h1⟩:=Db h1
   obtain ⟨m',_,h2⟩:=Db h2
   simp only [D.eqv,D.py,PyData.eqv]
   exact lists ds ih es n' m' h1 h2
  | exn c=>rw [AY] at h2; cases h2
  | _=>simp [D.eqv,D.py,PyData.eqv]
 ·intro ds ih e n m h1 h2
  cases e with
  | lst es =>
   obtain ⟨n',_,h1⟩:=Dc h1
   obtain ⟨m',_,h2⟩:=Dc h2
   simp only [D.eqv,D.py,PyData.eqv]
   exact lists ds ih es n' m' h1 h2
  | exn c=>rw [AY] at h2; cases h2
  | _=>simp [D.eqv,D.py,PyData.eqv]
 ·intro c e n m h; rw [AY] at h; cases h
theorem Gz:∀ (d:D) (n:Nat),d.shp n=true->d.py.canLay0=true/\d.py.depth<=n:=by
 have lists:∀ (ds:List D),(∀ d ∈ ds,∀ (n:Nat),d.shp n=true->d.py.canLay0=true/\d.py.depth<=n)->∀ n,(∀ d ∈ ds,d.shp n=true)->PyData.canLayAll0 (D.pys ds)=true/\PyData.depthAll (D.pys ds)<=n:=by
  intro ds
  induction ds with
  | nil=>intro _ n _; simp [D.pys,PyData.canLayAll0,PyData.depthAll]
  | cons d r ih =>
   intro h n h1
   obtain ⟨a1,a2⟩:=h d (aab ..) n (h1 d (aab ..))
   obtain ⟨b1,b2⟩:=ih (fun x hx=>h x (aaa _ hx)) n (fun x hx=>h1 x (aaa _ hx))
   simp only [D.pys,PyData.canLayAll0,PyData.depthAll,a1,b1,ace,true_and]
   omega
 refine D.ind ?_ ?_ ?_ ?_ ?_ ?_ ?_
 ·intro n h; simp [D.py,PyData.canLay0,PyData.depth]
 ·intro b n h; simp [D.py,PyData.canLay0,PyData.depth]
 ·intro b n h; simp [D.py,PyData.canLay0,PyData.depth]
 ·intro x n h
  simp only [D.py,PyData.canLay0,PyData.depth,aaA,and_true]
  cases n <;> exact h
 ·intro ds ih n h
  obtain ⟨m,rfl,h'⟩:=Db h
  have:=lists ds ih m h'
  simp only [D.py,PyData.canLay0,PyData.depth]
  exact ⟨this.1,by omega⟩
 ·intro ds ih n h
  obtain ⟨m,rfl,h'⟩:=Dc h
  have:=lists ds ih m h'
  simp only [D.py,PyData.canLay0,PyData.depth]
  exact ⟨this.1,by omega⟩
 ·intro c n h; rw [AY] at h; cases h
theorem DL {d:D} (h:d.shp 8=true):SeqAt.shaped d.py=true:=by
 obtain ⟨h1,h2⟩:=Gz d 8 h
 unfold SeqAt.shaped
 rw [h1,aa1]
 exact decide_eq_true (by omega)
theorem Fg {p:Px} {H:Hp}:∀ (t:T) (n:Nat),t.Ok p H->t.dat.shp n=true->RD p.K H t.val t.dat.py:=by
 have lists:∀ (ts:List T),(∀ t ∈ ts,∀ n,t.Ok p H->t.dat.shp n=true->RD p.K H t.val t.dat.py)->∀ n,T.Oks p H ts->(∀ d ∈ T.dats ts,d.shp n=true)->RDs p.K H (ts.map T.val) (D.pys (T.dats ts)):=by
  intro ts
  induction ts with
  | nil=>intro _ _ _ _; exact .nil
  | cons t r ih =>
   intro h n ok hs
   exact .cons (h t (aab ..) n ok.1 (hs _ (by simp [T.dats]))) (ih (fun u hu=>h u (aaa _ hu)) n ok.2 (fun d hd=>hs d (by simp [T.dats,hd])))
 refine T.ind (fun _ _ _=>.non) (fun b _ _ _=>.bl b) (fun i _ _ _=>.int i) (fun x _ _ _=>.str x) (fun a ts ih n ok h=>?_) (fun a ts ih n ok h=>?_) (fun a c n ok h=>?_)
 ·obtain ⟨m,rfl,h'⟩:=Db h
  exact .tup (SqT.of ok.1) (lists ts ih m ok.2 h')
 ·obtain ⟨m,rfl,h'⟩:=Dc h
  exact .lst (.inl ok.1) (lists ts ih m ok.2 h')
 ·rw [T.dat,AY] at h; cases h
theorem Gb {H:Hp} {a:Addr} {xs ys:List V} (h:Rd H a (.lst xs)) (h':Rd H a (.lst ys)):xs=ys:=by
 rcases h with h | ⟨o,h⟩ <;> rcases h' with h' | ⟨o',h'⟩ <;> rw [h] at h' <;> cases h' <;> rfl
theorem T.det {p:Px} {H:Hp}:∀ (t u:T) (n m:Nat),t.Ok p H->u.Ok p H->t.dat.shp n=true->u.dat.shp m=true->t.val=u.val->t.dat=u.dat:=by
 have lists:∀ (ts:List T),(∀ t ∈ ts,∀ (u:T) (n m:Nat),t.Ok p H->u.Ok p H->t.dat.shp n=true->u.dat.shp m=true->t.val=u.val->t.dat=u.dat)->∀ (us:List T) (n m:Nat),T.Oks p H ts->T.Oks p H us ->
   (∀ d ∈ T.dats ts,d.shp n=true)->(∀ d ∈ T.dats us,d.shp m=true)->ts.map T.val=us.map T.val->T.dats ts=T.dats us:=by
  intro ts
  induction ts with
  | nil=>intro _ us n m _ _ _ _ e; cases us with | nil=>rfl | cons u r=>simp at e
  | cons t r ih =>
   intro h us n m o1 o2 s1 s2 e
   cases us with
   | nil=>simp at e
   | cons u q =>
    simp only [aar,List.cons.injEq] at e
    simp only [T.dats,List.cons.injEq]
    exact ⟨h t (aab ..) u n m o1.1 o2.1 (s1 _ (by simp [T.dats])) (s2 _ (by simp [T.dats])) e.1,ih (fun x hx=>h x (aaa _ hx)) q n m o1.2 o2.2 (fun d hd=>s1 d (by simp [T.dats,hd])) (fun d hd=>s2 d (by simp [T.dats,hd])) e.2⟩
 refine T.ind ?_ ?_ ?_ ?_ ?_ ?_ ?_
 ·intro u n m _ _ _ _ e; cases u <;> first | rfl | cases e
 ·intro b u n m _ _ _ _ e; cases u <;> first | (cases e; rfl) | cases e
 ·intro b u n m _ _ _ _ e; cases u <;> first | (cases e; rfl) | cases e
 ·intro b u n m _ _ _ _ e; cases u <;> first | (cases e; rfl) | cases e
 ·intro a ts ih u n m o1 o2 s1 s2 e
  cases u with
  | tup b us =>
   cases e
   obtain ⟨n',_,s1⟩:=Db s1
   obtain ⟨m',_,s2⟩:=Db s2
   have q:=o1.1.symm.trans o2.1
   simp only [Option.some.injEq,HO.tup.injEq] at q
   simp only [T.dat,lists ts ih us n' m' o1.2 o2.2 s1 s2 q]
  | lst b us =>
   cases e
   have h1:=o1.1
   rcases o2.1 with h | ⟨_,h⟩ <;> rw [h] at h1 <;> cases h1
  | exn b c=>rw [T.dat,AY] at s2; cases s2
  | _=>cases e
 ·intro a ts ih u n m o1 o2 s1 s2 e
  cases u with
  | tup b us =>
   cases e
   have h1:=o2.1
   rcases o1.1 with h | ⟨_,h⟩ <;> rw [h] at h1 <;> cases h1
  | lst b us =>
   cases e
   obtain ⟨n',_,s1⟩:=Dc s1
   obtain ⟨m',_,s2⟩:=Dc s2
   have q:=Gb o1.1 o2.1
   simp only [T.dat,lists ts ih us n' m' o1.2 o2.2 s1 s2 q]
  | exn b c=>rw [T.dat,AY] at s2; cases s2
  | _=>cases e
 ·intro a c u n m _ _ h; rw [T.dat,AY] at h; cases h
section
variable {p:Px} {EX:EXT} {tn:List Nat} {X:Cx} {pos:Pos}
theorem Fh (hK:X.K=p.K) {pins:List (Addr × Obj)} {σ:St} {H:Hp} {s:Shared} {A:Around} (I:Inv X pins σ H s) {t u:T} {x y:Value} (hu:A.units + 60 < cLine) (o1:t.Ok p H) (o2:u.Ok p H) (s1:t.dat.shp 8=true) (s2:u.dat.shp 8=true) (r1:RelV t.val x) (r2:RelV u.val y) :
  SeqAt.EqAt A s x y (t.dat.eqv u.dat):=by
 intro prog w E Q hQ
 obtain ⟨as,q1⟩:=RD.reads (X:=X) I (hK ▸ Fg t 8 o1 s1) r1
 obtain ⟨bs,q2⟩:=RD.reads (X:=X) I (hK ▸ Fg u 8 o2 s2) r2
 obtain ⟨c1,d1⟩:=Gz _ 8 s1
 obtain ⟨c2,d2⟩:=Gz _ 8 s2
 refine PySem.SeqAt.eqBoolOverData prog w A E s x y _ _ as bs Q q1 q2 c1 c2 (by omega) ?_
 rw [<- Ij _ _ 8 8 s1 s2]
 exact hQ
noncomputable def eqS (us:List T) (t:T) (y:Value):Bool:=@decide (∃ u ∈ us,RelV u.val y/\u.dat.eqv t.dat=true) (Classical.propDecidable _)
theorem ES {H:Hp} {us:List T} {t u:T} {y:Value} (ok:T.Oks p H us) (sh:∀ w ∈ us,w.dat.shp 8=true) (hu:u ∈ us) (r:RelV u.val y):eqS us t y=u.dat.eqv t.dat:=by
 unfold eqS
 cases e:u.dat.eqv t.dat with
 | true=>exact @decide_eq_true _ (Classical.propDecidable _) ⟨u,hu,r,e⟩
 | false =>
  refine @decide_eq_false _ (Classical.propDecidable _) ?_
  rintro ⟨w,hw,r',e'⟩
  rw [T.det w u 8 8 (T.oks_iff.mp ok w hw) (T.oks_iff.mp ok u hu) (sh w hw) (sh u hu) (RelV.inj r' r)] at e'
  rw [e] at e'; cases e'
theorem D5 {H:Hp} {us:List T} {t:T} (ok:T.Oks p H us) (sh:∀ w ∈ us,w.dat.shp 8=true):∀ (ws:List T) (ys:List Value),(∀ w ∈ ws,w ∈ us)->Vals (ws.map T.val) ys->ys.any (eqS us t)=ws.any fun w=>w.dat.eqv t.dat
 | [],_,_,.nil=>rfl
 | w :: ws,_,h,.cons r q=>by
  rw [abQ,abQ,ES ok sh (h w (aab ..)) r,D5 ok sh ws _ (fun x hx=>h x (aaa _ hx)) q]
theorem Dq:∀ {ws:List T} {ys:List Value} {y:Value},Vals (ws.map T.val) ys->y ∈ ys->∃ w ∈ ws,RelV w.val y
 | [],_,y,.nil,h=>nomatch h
 | w :: ws,_,y,.cons r q,h=>by
  rcases aah.mp h with rfl | h
  ·exact ⟨w,aab ..,r⟩
  ·obtain ⟨w',hw,r'⟩:=Dq q h
   exact ⟨w',aaa _ hw,r'⟩
noncomputable def Kr (p:Px) (neg:Bool):R2:=fun x y H Q=>∃ (t:T) (a:Addr) (us:List T),x=t.val/\y=.ref a/\(Rd H a (.lst (us.map T.val))\/H a=some (.tup (us.map T.val)))/\T.Oks p H us/\t.Ok p H/\t.dat.shp 8=true/\(∀ w ∈ us,w.dat.shp 8=true) /\
 Q (.bl (if neg then !(us.any fun w=>w.dat.eqv t.dat) else us.any fun w=>w.dat.eqv t.dat)) H
theorem Q5 (hK:X.K=p.K) (hu:X.A.units + 64 < cLine):OpR X (compareOp .In) (Kr p false):=by
 intro pins s σ H x y v u Q I rx ry h
 obtain ⟨t,a,us,rfl,rfl,hq,ok,o1,s1,s2,q⟩:=h
 cases ry
 rcases hq with hq | hq
 ·obtain ⟨its,r,pl,hz⟩:=I.list (.inl hq)
  refine SeqAt.in_listAt (eqS us t) pl.isList (fun w hw=>?_) ⟨.bl _,H,I,rfl,?_⟩
  ·obtain ⟨w',hw',r'⟩:=Dq r (by simpa using hw)
   rw [ES ok s2 hw' r']
   exact Fh hK I (by show X.A.units + 1 + 60 < cLine; omega) (T.oks_iff.mp ok w' hw') o1 (s2 w' hw') s1 r' rx
  ·rw [show its.toArray.any (eqS us t)=its.any (eqS us t) by simp,D5 ok s2 us its (fun _ h=>h) r]
   exact q
 ·obtain ⟨its,r,pl,hz⟩:=I.tuple (SqT.of hq)
  refine SeqAt.in_tupleAt (eqS us t) pl (fun w hw=>?_) ⟨.bl _,H,I,rfl,?_⟩
  ·obtain ⟨w',hw',r'⟩:=Dq r (by simpa using hw)
   rw [ES ok s2 hw' r']
   exact Fh hK I (by show X.A.units + 1 + 60 < cLine; omega) (T.oks_iff.mp ok w' hw') o1 (s2 w' hw') s1 r' rx
  ·rw [show its.toArray.any (eqS us t)=its.any (eqS us t) by simp,D5 ok s2 us its (fun _ h=>h) r]
   exact q
theorem LB (hK:X.K=p.K) (hu:X.A.units + 64 < cLine):OpR X (compareOp .NotIn) (Kr p true):=by
 intro pins s σ H x y v u Q I rx ry h
 obtain ⟨t,a,us,rfl,rfl,hq,ok,o1,s1,s2,q⟩:=h
 cases ry
 rcases hq with hq | hq
 ·obtain ⟨its,r,pl,hz⟩:=I.list (.inl hq)
  refine SeqAt.notIn_listAt (eqS us t) pl.isList (fun w hw=>?_) ⟨.bl _,H,I,rfl,?_⟩
  ·obtain ⟨w',hw',r'⟩:=Dq r (by simpa using hw)
   rw [ES ok s2 hw' r']
   exact Fh hK I (by show X.A.units + 1 + 60 < cLine; omega) (T.oks_iff.mp ok w' hw') o1 (s2 w' hw') s1 r' rx
  ·rw [show its.toArray.any (eqS us t)=its.any (eqS us t) by simp,D5 ok s2 us its (fun _ h=>h) r]
   exact q
 ·obtain ⟨its,r,pl,hz⟩:=I.tuple (SqT.of hq)
  refine SeqAt.notIn_tupleAt (eqS us t) pl (fun w hw=>?_) ⟨.bl _,H,I,rfl,?_⟩
  ·obtain ⟨w',hw',r'⟩:=Dq r (by simpa using hw)
   rw [ES ok s2 hw' r']
   exact Fh hK I (by show X.A.units + 1 + 60 < cLine; omega) (T.oks_iff.mp ok w' hw') o1 (s2 w' hw') s1 r' rx
  ·rw [show its.toArray.any (eqS us t)=its.any (eqS us t) by simp,D5 ok s2 us its (fun _ h=>h) r]
   exact q
end
section
variable {p:Px} {EX:EXT} {tn:List Nat} {X:Cx} {pos:Pos}
noncomputable def AO:C2->CmpOp
 | .lt=>.Lt
 | .le=>.LtE
 | .gt=>.Gt
 | .ge=>.GtE
 | .eq=>.Eq
 | .ne=>.NotEq
 | .inn=>.In
 | .nin=>.NotIn
noncomputable def Q6 (p:Px) (neg:Bool):R2:=fun x y H Q=>∃ t u:T,x=t.val/\y=u.val/\t.Ok p H/\u.Ok p H/\t.dat.shp 8=true/\u.dat.shp 8=true/\Q (.bl (if neg then !t.dat.eqv u.dat else t.dat.eqv u.dat)) H
noncomputable def Ik (p:Px):C2->R2
 | .lt=>rI0 fun i j=>.bl (decide (i < j))
 | .le=>rI0 fun i j=>.bl (decide (i<=j))
 | .gt=>rI0 fun i j=>.bl (decide (j < i))
 | .ge=>rI0 fun i j=>.bl (decide (j<=i))
 | .eq=>Q6 p false
 | .ne=>Q6 p true
 | .inn=>Kr p false
 | .nin=>Kr p true
theorem Dd (hK:X.K=p.K) (hu:X.A.units + 64 < cLine):∀ o:C2,OpR X (compareOp (AO o)) (Ik p o)
 | .lt=>Sl
 | .le=>Sm
 | .gt=>Sn
 | .ge=>So
 | .eq=>by
  intro pins s σ H x y v u Q I rx ry h
  obtain ⟨t,w,rfl,rfl,o1,o2,s1,s2,q⟩:=h
  refine QO hu pins s σ H _ _ v u Q I rx ry ⟨_,_,hK ▸ Fg t 8 o1 s1,hK ▸ Fg w 8 o2 s2,DL s1,DL s2,?_⟩
  rw [<- Ij _ _ 8 8 s1 s2]; exact q
 | .ne=>by
  intro pins s σ H x y v u Q I rx ry h
  obtain ⟨t,w,rfl,rfl,o1,o2,s1,s2,q⟩:=h
  refine QP hu pins s σ H _ _ v u Q I rx ry ⟨_,_,hK ▸ Fg t 8 o1 s1,hK ▸ Fg w 8 o2 s2,DL s1,DL s2,?_⟩
  rw [<- Ij _ _ 8 8 s1 s2]; exact q
 | .inn=>Q5 hK hu
 | .nin=>LB hK hu
theorem Il {t:T}:∀ us:List T,((T.dats us).any fun y=>D.eqv y t.dat)=us.any fun w=>w.dat.eqv t.dat
 | []=>rfl
 | u :: r=>by simp [T.dats,Il r]
theorem Im {f:D->Bool}:∀ {us:List T},(T.dats us).all f=true->∀ w ∈ us,f w.dat=true
 | [],_,w,h=>nomatch h
 | u :: r,h,w,hw=>by
  simp only [T.dats,aaE,aak] at h
  rcases aah.mp hw with rfl | hw
  ·exact h.1
  ·exact Im h.2 w hw
theorem Hn {β:Type} {t:T} {us:List T} {σ:St} {H:Hp} {f:Bool->Res β} {Kc:β->Prop} (h:Lg p EX σ ((inD t.dat (T.dats us)).bind f) H Kc):t.dat.shp 8=true/\(∀ w ∈ us,w.dat.shp 8=true)/\Lg p EX σ (f (us.any fun w=>w.dat.eqv t.dat)) H Kc:=by
 have h:=h.bind
 unfold inD at h
 obtain ⟨hc,h⟩:=h.guard
 rw [aak] at hc
 rw [Il] at h
 exact ⟨hc.1,fun w hw=>Im hc.2 w hw,h⟩
theorem Ks {B:Addr->Prop} {H H2:Hp} {ja jb ka kb:Nat} {t u:T} {o:C2} {σ:St} {Kc:D->Prop} {Q:VK} (r:Rs p B H H2 ja ka t) (r':Rs p B H H2 jb kb u) (h:Lg p EX σ (c2 o t.dat u.dat) H Kc) (hQ:∀ b,Kc (.bl b)->Q (.bl b) H2):Ik p o t.val u.val H2 Q:=by
 cases o with
 | lt =>
  obtain ⟨i,j,rfl,rfl,h⟩:=B9 (Q:=fun r=>Lg p EX σ r H Kc) id h
  exact ⟨_,_,rfl,rfl,hQ _ h⟩
 | le =>
  obtain ⟨i,j,rfl,rfl,h⟩:=B9 (Q:=fun r=>Lg p EX σ r H Kc) id h
  exact ⟨_,_,rfl,rfl,hQ _ h⟩
 | gt =>
  obtain ⟨i,j,rfl,rfl,h⟩:=B9 (Q:=fun r=>Lg p EX σ r H Kc) id h
  exact ⟨_,_,rfl,rfl,hQ _ h⟩
 | ge =>
  obtain ⟨i,j,rfl,rfl,h⟩:=B9 (Q:=fun r=>Lg p EX σ r H Kc) id h
  exact ⟨_,_,rfl,rfl,hQ _ h⟩
 | eq =>
  simp only [c2] at h
  obtain ⟨hc,h⟩:=h.guard
  rw [aak] at hc
  exact ⟨t,u,rfl,rfl,r.ok,r'.ok,hc.1,hc.2,hQ _ h⟩
 | ne =>
  simp only [c2] at h
  obtain ⟨hc,h⟩:=h.guard
  rw [aak] at hc
  exact ⟨t,u,rfl,rfl,r.ok,r'.ok,hc.1,hc.2,hQ _ h⟩
 | inn =>
  cases u <;> first | exact nE h | skip
  ·obtain ⟨s1,s2,h⟩:=Hn h
   exact ⟨t,_,_,rfl,rfl,.inr r'.ok.1,r'.ok.2,r.ok,s1,s2,hQ _ h⟩
  ·obtain ⟨s1,s2,h⟩:=Hn h
   exact ⟨t,_,_,rfl,rfl,.inl r'.ok.1,r'.ok.2,r.ok,s1,s2,hQ _ h⟩
 | nin =>
  cases u <;> first | exact nE h | skip
  ·obtain ⟨s1,s2,h⟩:=Hn h
   exact ⟨t,_,_,rfl,rfl,.inr r'.ok.1,r'.ok.2,r.ok,s1,s2,hQ _ h⟩
  ·obtain ⟨s1,s2,h⟩:=Hn h
   exact ⟨t,_,_,rfl,rfl,.inl r'.ok.1,r'.ok.2,r.ok,s1,s2,hQ _ h⟩
theorem KE.bl {B:Addr->Prop} {H H2:Hp} {j k:Nat} {Q:VK} {b:Bool} (s:Same H H2) (h:KE p B H j k Q (.bl b)):Q (.bl b) H2:=h (.bl b) H2 rfl (Rs.scal s rfl)
theorem Q7 {x y:E} {o:C2} {τ:Ft} {H:Hp} {Kc:D->Prop} {Q:VK} {j1 k1 j2 k2:Nat} (hF:Fok p tn τ H) (h1:jk tn x=some (j1,k1)) (h2:jk tn y=some (j2,k2))
  (h:Lg p EX (vτ τ) ((ev x (dτ τ)).bind fun a=>(ev y (dτ τ)).bind fun b=>c2 o a b) H Kc) (hQ:∀ b H2,Same H H2->Kc (.bl b)->Q (.bl b) H2):tOp (Ik p o) (lE p EX tn x) (lE p EX tn y) (vτ τ) H Q:=by
 refine l1 hF h1 h fun d t H1 ht R h=>l2 hF R.same h2 h fun d' t' H2 ht' R' h=>?_
 subst ht ht'
 exact Ks (R.fwd R'.same) (R'.back R.same) h fun b hb=>hQ b H2 (R.same.trans R'.same) hb
theorem OT (hK:X.K=p.K) (hu:X.A.units + 64 < cLine) {a b:Expr} {x y:E} {o:C2} (ha:PE X a (lE p EX tn x)) (hb:PE X b (lE p EX tn y)) (hm:behindInMarks (AO o) b=false):PE X (.Compare a [AO o] [b] pos) (lE p EX tn (.cmp o x y)):=by
 refine PE.mono (Jw (Dd hK hu o) ha hb hm) fun σ H Q h=>?_
 obtain ⟨τ,rfl,hF,j,k,hj,h⟩:=h
 simp only [jk] at hj
 obtain ⟨⟨j1,k1⟩,h1,hj⟩:=bS hj
 obtain ⟨⟨j2,k2⟩,h2,hj⟩:=bS hj
 simp only [ev] at h
 exact Q7 hF h1 h2 h fun b H2 s hb=>KE.bl s hb
theorem M4 (hK:X.K=p.K) (hu:X.A.units + 64 < cLine) {a b:Expr} {x y:E} {o:C2} (ha:PE X a (lE p EX tn x)) (hb:PE X b (lE p EX tn y)) (hm:behindInMarks (AO o) b=false):PT X (.Compare a [AO o] [b] pos) (lT p EX tn (.cmp o x y)):=by
 refine PT.mono (Jx (Dd hK hu o) ha hb hm) fun σ H Q h=>?_
 obtain ⟨τ,rfl,hF,hj,h⟩:=h
 obtain ⟨q,hj⟩:=aaB.mp hj
 simp only [jk] at hj
 obtain ⟨⟨j1,k1⟩,h1,hj⟩:=bS hj
 obtain ⟨⟨j2,k2⟩,h2,hj⟩:=bS hj
 simp only [tv,ev] at h
 exact Q7 hF h1 h2 h.bind fun b H2 s hb=>⟨b,rfl,hb H2 s⟩
theorem LD {x y z:E} {o o':C2} {τ:Ft} {H:Hp} {Kc:D->Prop} {Q:VK} {j1 k1 j2 k2 j3 k3:Nat} (hF:Fok p tn τ H) (h1:jk tn x=some (j1,k1)) (h2:jk tn y=some (j2,k2)) (h3:jk tn z=some (j3,k3))
  (h:Lg p EX (vτ τ) (ev (.chain o o' x y z) (dτ τ)) H Kc) (hQ:∀ b H2,Same H H2->Kc (.bl b)->Q (.bl b) H2):HR (Ik p o) (Ik p o') (lE p EX tn x) (lE p EX tn y) (lE p EX tn z) (vτ τ) H Q:=by
 simp only [ev] at h
 refine l1 hF h1 h fun d t H1 ht R h=>l2 hF R.same h2 h fun d' t' H2 ht' R' h=>?_
 subst ht ht'
 refine Ks (R.fwd R'.same) (R'.back R.same) h.bind fun b h=>⟨b,rfl,?_⟩
 have s2:=R.same.trans R'.same
 cases b with
 | false=>exact hQ false H2 s2 h
 | true =>
  refine l2 hF s2 h3 h fun d'' t'' H3 ht'' R'' h=>?_
  subst ht''
  exact Ks ((R'.back R.same).fwd R''.same) (R''.back s2) h fun b hb=>hQ b H3 (s2.trans R''.same) hb
theorem LE (hK:X.K=p.K) (hu:X.A.units + 64 < cLine) {a b c:Expr} {x y z:E} {o o':C2} (ha:PE X a (lE p EX tn x)) (hb:PE X b (lE p EX tn y)) (hc:PE X c (lE p EX tn z)) (hm:lastMarks [AO o,AO o'] [b,c]=false):PE X (.Compare a [AO o,AO o'] [b,c] pos) (lE p EX tn (.chain o o' x y z)):=by
 refine PE.mono (MA (Dd hK hu o) (Dd hK hu o') ha hb hc hm) fun σ H Q h=>?_
 obtain ⟨τ,rfl,hF,j,k,hj,h⟩:=h
 simp only [jk] at hj
 obtain ⟨⟨j1,k1⟩,h1,hj⟩:=bS hj
 obtain ⟨⟨j2,k2⟩,h2,hj⟩:=bS hj
 obtain ⟨⟨j3,k3⟩,h3,hj⟩:=bS hj
 exact LD hF h1 h2 h3 h fun b H2 s hb=>KE.bl s hb
theorem Kt (hK:X.K=p.K) (hu:X.A.units + 64 < cLine) {a b c:Expr} {x y z:E} {o o':C2} (ha:PE X a (lE p EX tn x)) (hb:PE X b (lE p EX tn y)) (hc:PE X c (lE p EX tn z)) (hm:lastMarks [AO o,AO o'] [b,c]=false):PT X (.Compare a [AO o,AO o'] [b,c] pos) (lT p EX tn (.chain o o' x y z)):=by
 refine PT.mono (MB (Dd hK hu o) (Dd hK hu o') ha hb hc hm) fun σ H Q h=>?_
 obtain ⟨τ,rfl,hF,hj,h⟩:=h
 obtain ⟨q,hj⟩:=aaB.mp hj
 simp only [jk] at hj
 obtain ⟨⟨j1,k1⟩,h1,hj⟩:=bS hj
 obtain ⟨⟨j2,k2⟩,h2,hj⟩:=bS hj
 obtain ⟨⟨j3,k3⟩,h3,hj⟩:=bS hj
 unfold tv at h
 exact LD hF h1 h2 h3 h.bind fun b H2 s hb=>⟨b,rfl,hb H2 s⟩
theorem OU {t:T}:decide (t.val=V.non)=(match t.dat with | .non=>true | _=>false):=by
 cases t <;> rfl
theorem Q8 {x:E} {n:Bool} {τ:Ft} {H:Hp} {Kc:D->Prop} {Q:VK} {j1 k1:Nat} (hF:Fok p tn τ H) (h1:jk tn x=some (j1,k1)) (h:Lg p EX (vτ τ) (ev (.isN n x) (dτ τ)) H Kc) (hQ:∀ b H2,Same H H2->Kc (.bl b)->Q (.bl b) H2) :
  lE p EX tn x (vτ τ) H fun v H1=>Q (.bl (if n then !decide (v=.non) else decide (v=.non))) H1:=by
 simp only [ev] at h
 refine l1 hF h1 h fun d t H1 ht R h=>?_
 subst ht
 refine hQ _ H1 R.same ?_
 have h:Kc (.bl (match t.dat with | .non=>!n | _=>n)):=h
 rw [OU]
 cases n <;> cases t <;> exact h
theorem OV {a:Expr} {x:E} {n:Bool} {j pos'} (ha:PE X a (lE p EX tn x)):PE X (.Compare a [if n then .IsNot else .Is] [.Constant .none j pos'] pos) (lE p EX tn (.isN n x)):=by
 have key:∀ σ H Q,lE p EX tn (.isN n x) σ H Q->lE p EX tn x σ H fun v H1=>Q (.bl (if n then !decide (v=.non) else decide (v=.non))) H1:=by
  intro σ H Q h
  obtain ⟨τ,rfl,hF,j,k,hj,h⟩:=h
  simp only [jk] at hj
  obtain ⟨⟨j1,k1⟩,h1,hj⟩:=bS hj
  exact Q8 hF h1 h fun b H2 s hb=>KE.bl s hb
 cases n with
 | true=>exact PE.mono (KZ (Ju ha)) fun σ H Q h=>key σ H Q h
 | false=>exact PE.mono (KZ (KY ha)) fun σ H Q h=>key σ H Q h
theorem M5 {a:Expr} {x:E} {n:Bool} {j pos'} (ha:PE X a (lE p EX tn x)):PT X (.Compare a [if n then .IsNot else .Is] [.Constant .none j pos'] pos) (lT p EX tn (.isN n x)):=by
 have key:∀ σ H Q,lT p EX tn (.isN n x) σ H Q->lE p EX tn x σ H fun v H1=>∃ c,V.bl (if n then !decide (v=.non) else decide (v=.non))=V.bl c/\Q c H1:=by
  intro σ H Q h
  obtain ⟨τ,rfl,hF,hj,h⟩:=h
  obtain ⟨q,hj⟩:=aaB.mp hj
  simp only [jk] at hj
  obtain ⟨⟨j1,k1⟩,h1,hj⟩:=bS hj
  unfold tv at h
  exact Q8 (Q:=fun v H1=>∃ c,v=V.bl c/\Q c H1) hF h1 h.bind fun b H2 s hb=>⟨b,rfl,hb H2 s⟩
 cases n with
 | true=>exact PT.mono (K0 (Ju ha)) fun σ H Q h=>key σ H Q h
 | false=>exact PT.mono (K0 (KY ha)) fun σ H Q h=>key σ H Q h
end
section
variable {p:Px} {EX:EXT} {tn:List Nat} {X:Cx} {pos:Pos}
theorem OW {a:Expr} {x:E} (ha:PE X a (lE p EX tn x)):PE X (.UnaryOp .USub a pos) (lE p EX tn (.neg x)):=by
 refine PE.mono (Sk Qx ha) fun σ H Q h=>?_
 obtain ⟨τ,rfl,hF,j,k,hj,h⟩:=h
 simp only [jk] at hj
 obtain ⟨⟨j1,k1⟩,h1,hj⟩:=bS hj
 simp only [ev] at h
 refine l1 hF h1 h fun d t H1 ht R h=>?_
 subst ht
 cases t <;> simp only [T.dat] at h
 all_goals first | exact nE h | exact ⟨_,rfl,h (.int _) H1 rfl (Rs.scal R.same rfl)⟩
theorem OX {a:Expr} {x:E} (ha:PE X a (lE p EX tn x)):PE X (.UnaryOp .Not a pos) (lE p EX tn (.not x)):=by
 refine PE.mono (Qk ha) fun σ H Q h=>?_
 obtain ⟨τ,rfl,hF,j,k,hj,h⟩:=h
 simp only [jk] at hj
 obtain ⟨⟨j1,k1⟩,h1,hj⟩:=bS hj
 simp only [ev] at h
 refine l1 hF h1 h fun d t H1 ht R h=>?_
 subst ht
 cases t <;> simp only [T.dat] at h
 all_goals first | exact nE h | exact ⟨_,rfl,h (.bl _) H1 rfl (Rs.scal R.same rfl)⟩
theorem M6 {H:Hp} {t:T} {σ:St} {H0:Hp} {Kc:Bool->Prop} (hK:X.K=p.K) (ok:t.Ok p H) (h:Lg p EX σ (BW t.dat) H0 Kc):∃ b,MC X.K t.val H b/\Kc b:=by
 cases t <;> simp only [T.dat,BW] at h
 ·exact ⟨false,rfl,h⟩
 ·exact ⟨_,rfl,h⟩
 ·exact ⟨_,rfl,h⟩
 ·exact nE h
 ·rename_i a ts
  refine ⟨_,.inr (.inl ⟨_,SqT.of ok.1,rfl⟩),?_⟩
  have h:Kc (!(T.dats ts).isEmpty):=h
  cases ts <;> exact h
 ·rename_i a ts
  refine ⟨_,.inl ⟨_,.inl ok.1,rfl⟩,?_⟩
  have h:Kc (!(T.dats ts).isEmpty):=h
  cases ts <;> exact h
 ·exact nE h
noncomputable def Io:Expr->Bool
 | .UnaryOp .Not _ _=>false
 | .BoolOp _ _ _=>false
 | .IfExp _ _ _ _=>false
 | .Compare _ _ _ _=>false
 | _=>true
theorem LF {a:Expr} {env:Env} (h:Io a=true):∀ whole,isTrue a env whole=(do let v <- whole; standAt a.pos; holding [v] (truthy v)):=by
 intro whole
 cases a with
 | UnaryOp o x q=>cases o <;> first | rfl | cases h
 | BoolOp _ _ _=>cases h
 | IfExp _ _ _ _=>cases h
 | Compare _ _ _ _=>cases h
 | _=>rfl
theorem Ku (hK:X.K=p.K) {a:Expr} {x:E} (ha:PE X a (lE p EX tn x)) (hp:Io a=true):PT X a (lT p EX tn x):=by
 refine PT.mono (MD ha (LF hp)) fun σ H Q h=>?_
 obtain ⟨τ,rfl,hF,hj,h⟩:=h
 obtain ⟨⟨j,k⟩,hj⟩:=aaB.mp hj
 refine l1 hF hj h fun d t H1 ht R h=>?_
 subst ht
 obtain ⟨b,tb,hb⟩:=M6 (X:=X) hK R.ok h
 exact ⟨b,tb,hb H1 R.same⟩
theorem M7 {a:Expr} {x:E} (ha:PT X a (lT p EX tn x)):PT X (.UnaryOp .Not a pos) (lT p EX tn (.not x)):=by
 refine PT.mono (Qh ha) fun σ H Q h=>?_
 obtain ⟨τ,rfl,hF,hj,h⟩:=h
 obtain ⟨q,hj⟩:=aaB.mp hj
 simp only [jk] at hj
 obtain ⟨⟨j1,k1⟩,h1,hj⟩:=bS hj
 refine ⟨τ,rfl,hF,by rw [h1]; rfl,?_⟩
 unfold tv at h ⊢
 simp only [ev] at h
 cases q:ev x (dτ τ) with
 | ok d =>
  rw [q] at h
  simp only [Res.bind_ok] at h ⊢
  cases d <;> simp only [Res.bind_bad] at h
  all_goals first | exact nE h | exact h
 | exc c=>rw [q] at h; exact h
 | bad=>rw [q] at h; exact h
theorem Q9 {a:Expr} {x:E} {k0:Bool} (ha:PE X a (lE p EX tn x)):PE X (.BoolOp (if k0 then .And else .Or) [a] pos) (lE p EX tn (.bo k0 (.cons x .nil))):=by
 refine PE.mono (Qi ha) fun σ H Q h=>?_
 obtain ⟨τ,rfl,hF,j,k,hj,h⟩:=h
 simp only [jk,jks] at hj
 obtain ⟨⟨j1,k1⟩,h1,hj⟩:=bS hj
 simp only [ev,evBo] at h
 have hj:=Option.some.inj hj
 refine ⟨τ,rfl,hF,j1,k1,h1,h.mono (Same.refl _) fun d _ hd t H' ht R=>hd t H' ht (R.le ?_ ?_)⟩
 ·simp at hj; omega
 ·simp at hj
  obtain ⟨h1,h2⟩:=hj
  rw [<- h2]
  split
  ·exact aaX ..
  ·exact aaA _
theorem OY {a b:Expr} {rest:List Expr} {x y:E} {r:Es} {k0:Bool} (ha:PE X a (lE p EX tn x)) (hb:PE X (.BoolOp (if k0 then .And else .Or) (b :: rest) pos) (lE p EX tn (.bo k0 (.cons y r)))) :
  PE X (.BoolOp (if k0 then .And else .Or) (a :: b :: rest) pos) (lE p EX tn (.bo k0 (.cons x (.cons y r)))):=by
 have key:∀ σ H Q,lE p EX tn (.bo k0 (.cons x (.cons y r))) σ H Q->lE p EX tn x σ H fun v H1=>∃ c,v=.bl c/\if c=k0 then lE p EX tn (.bo k0 (.cons y r)) σ H1 Q else Q (.bl c) H1:=by
  intro σ H Q h
  obtain ⟨τ,rfl,hF,j,k,hj,h⟩:=h
  simp only [jk,jks] at hj
  obtain ⟨⟨j1,k1⟩,h1,hj⟩:=bS hj
  obtain ⟨⟨j2,k2⟩,h2,hj⟩:=bS hj
  have hj:=Option.some.inj hj
  simp only [Prod.mk.injEq] at hj
  simp only [ev,evBo] at h
  refine l1 hF h1 h fun d t H1 ht R h=>?_
  subst ht
  cases t <;> simp only [T.dat] at h
  all_goals first | exact nE h | skip
  rename_i c
  refine ⟨c,rfl,?_⟩
  by_cases z:c=k0
  ·rw [if_pos z] at h ⊢
   refine ⟨τ,rfl,hF.same R.same,j2,k2,by simp only [jk,jks]; exact h2,?_⟩
   simp only [ev]
   refine h.mono R.same fun d _ hd t H' ht R'=>hd t H' ht ((R'.back R.same).le (by omega) ?_)
   rw [<- hj.2]
   split
   ·exact aaR ..
   ·exact aaA _
  ·rw [if_neg z] at h ⊢
   exact h (.bl c) H1 rfl (Rs.scal R.same rfl)
 cases k0 with
 | true =>
  refine PE.mono (Qj ha hb) fun σ H Q h=>?_
  refine (show ∀ (A B:VK),(∀ v H,A v H->B v H)->lE p EX tn x σ H A->lE p EX tn x σ H B from ?_) _ _ ?_ (key σ H Q h)
  ·rintro A B m ⟨τ,e,hF,j,k,hj,h⟩
   exact ⟨τ,e,hF,j,k,hj,h.mono (Same.refl _) fun d _ hd t H' ht R=>m _ _ (hd t H' ht R)⟩
  ·rintro v H1 ⟨c,rfl,h⟩
   exact ⟨c,rfl,by cases c <;> simpa using h⟩
 | false =>
  refine PE.mono (Se ha hb) fun σ H Q h=>?_
  refine (show ∀ (A B:VK),(∀ v H,A v H->B v H)->lE p EX tn x σ H A->lE p EX tn x σ H B from ?_) _ _ ?_ (key σ H Q h)
  ·rintro A B m ⟨τ,e,hF,j,k,hj,h⟩
   exact ⟨τ,e,hF,j,k,hj,h.mono (Same.refl _) fun d _ hd t H' ht R=>m _ _ (hd t H' ht R)⟩
  ·rintro v H1 ⟨c,rfl,h⟩
   exact ⟨c,rfl,by cases c <;> simpa using h⟩
theorem OZ {a:Expr} {x:E} {k0:Bool} (ha:PT X a (lT p EX tn x)):PW X (.BoolOp (if k0 then .And else .Or) [a] pos) (lT p EX tn (.bo k0 (.cons x .nil))):=by
 have key:∀ σ H Q,lT p EX tn (.bo k0 (.cons x .nil)) σ H Q->lT p EX tn x σ H Q:=by
  rintro σ H Q ⟨τ,rfl,hF,hj,h⟩
  refine ⟨τ,rfl,hF,?_,by simpa only [tv,ev,evBo] using h⟩
  obtain ⟨q,hj⟩:=aaB.mp hj
  simp only [jk,jks] at hj
  obtain ⟨⟨j1,k1⟩,h1,hj⟩:=bS hj
  rw [h1]; rfl
 cases k0 with
 | true=>exact fun wh pins s σ H Q I h=>Oj ha wh pins s σ H Q I (key σ H Q h)
 | false=>exact fun wh pins s σ H Q I h=>Qf ha wh pins s σ H Q I (key σ H Q h)
theorem M8 {a b:Expr} {rest:List Expr} {x y:E} {r:Es} {k0:Bool} (ha:PT X a (lT p EX tn x)) (hb:PW X (.BoolOp (if k0 then .And else .Or) (b :: rest) pos) (lT p EX tn (.bo k0 (.cons y r)))) :
  PW X (.BoolOp (if k0 then .And else .Or) (a :: b :: rest) pos) (lT p EX tn (.bo k0 (.cons x (.cons y r)))):=by
 have key:∀ σ H Q,lT p EX tn (.bo k0 (.cons x (.cons y r))) σ H Q->lT p EX tn x σ H fun c H1=>if c=k0 then lT p EX tn (.bo k0 (.cons y r)) σ H1 Q else Q c H1:=by
  rintro σ H Q ⟨τ,rfl,hF,hj,h⟩
  obtain ⟨q,hj⟩:=aaB.mp hj
  simp only [jk,jks] at hj
  obtain ⟨⟨j1,k1⟩,h1,hj⟩:=bS hj
  obtain ⟨⟨j2,k2⟩,h2,hj⟩:=bS hj
  refine ⟨τ,rfl,hF,by rw [h1]; rfl,?_⟩
  simp only [tv,ev,evBo] at h ⊢
  cases q:ev x (dτ τ) with
  | ok d =>
   rw [q] at h
   simp only [Res.bind_ok] at h ⊢
   cases d <;> simp only [Res.bind_bad] at h
   all_goals first | exact nE h | skip
   rename_i c
   show ∀ H',Same H H'->if c=k0 then _ else _
   intro H' s
   by_cases z:c=k0
   ·rw [if_pos z] at h ⊢
    refine ⟨τ,rfl,hF.same s,by simp only [jk,jks]; rw [h2]; rfl,?_⟩
    simp only [tv,ev]
    exact h.mono s fun b _ hb H2 s2=>hb H2 (s.trans s2)
   ·rw [if_neg z] at h ⊢
    exact h H' s
  | exc c=>rw [q] at h; exact h
  | bad=>rw [q] at h; exact h
 have mon:∀ (σ:St) (H:Hp) (A B:Bool->Hp->Prop),(∀ v H,A v H->B v H)->lT p EX tn x σ H A->lT p EX tn x σ H B:=by
  rintro σ H A B m ⟨τ,e,hF,hj,h⟩
  exact ⟨τ,e,hF,hj,h.mono (Same.refl _) fun b _ hb H' s=>m _ _ (hb H' s)⟩
 cases k0 with
 | true=>exact fun wh pins s σ H Q I h=>Qg ha hb wh pins s σ H Q I (mon _ _ _ _ (fun c H1 h=>by cases c <;> simpa using h) (key σ H Q h))
 | false=>exact fun wh pins s σ H Q I h=>Sa ha hb wh pins s σ H Q I (mon _ _ _ _ (fun c H1 h=>by cases c <;> simpa using h) (key σ H Q h))
theorem O0 {c a b:Expr} {x y z:E} (hc:PT X c (lT p EX tn x)) (ha:PE X a (lE p EX tn y)) (hb:PE X b (lE p EX tn z)):PE X (.IfExp c a b pos) (lE p EX tn (.ifx x y z)):=by
 refine PE.mono (Mq hc ha hb) fun σ H Q h=>?_
 obtain ⟨τ,rfl,hF,j,k,hj,h⟩:=h
 simp only [jk] at hj
 obtain ⟨⟨j1,k1⟩,h1,hj⟩:=bS hj
 obtain ⟨⟨j2,k2⟩,h2,hj⟩:=bS hj
 obtain ⟨⟨j3,k3⟩,h3,hj⟩:=bS hj
 have hj:=Option.some.inj hj
 simp only [Prod.mk.injEq] at hj
 simp only [ev] at h
 have hk2:k<=k2:=by rw [<- hj.2]; split; exact aaX ..; exact aaA _
 have hk3:k<=k3:=by rw [<- hj.2]; split; exact aaR ..; exact aaA _
 refine ⟨τ,rfl,hF,by rw [h1]; rfl,h.bind.mono (Same.refl _) fun t _ ht H' s=>?_⟩
 cases t with
 | true =>
  rw [if_pos rfl] at ht ⊢
  exact ⟨τ,rfl,hF.same s,j2,k2,h2,ht.mono s fun d _ hd t H2 ht R=>hd t H2 ht ((R.back s).le (by omega) hk2)⟩
 | false =>
  rw [if_neg (by decide)] at ht ⊢
  exact ⟨τ,rfl,hF.same s,j3,k3,h3,ht.mono s fun d _ hd t H2 ht R=>hd t H2 ht ((R.back s).le (by omega) hk3)⟩
end
section
variable {p:Px} {EX:EXT} {tn:List Nat} {X:Cx} {pos:Pos}
theorem Ip (n:Nat) (i:Int):L2.ixN n i=ixN n i:=rfl
theorem Ho {ts:List T} {i:Int} {σ:St} {H:Hp} {Kc:D->Prop} (h:Lg p EX σ (atD (T.dats ts) i) H Kc):∃ t ∈ ts,atI (ts.map T.val) i=some t.val/\Kc t.dat:=by
 unfold atD at h
 rw [Ac] at h
 cases q:ixN ts.length i with
 | none=>rw [q] at h; exact nE h
 | some j =>
  rw [q] at h
  simp only [aaZ] at h
  rw [T.dats_map,aau] at h
  cases e:ts[j]? with
  | none=>rw [e] at h; exact nE h
  | some t =>
   rw [e] at h
   refine ⟨t,aai e,?_,h⟩
   unfold atI
   rw [aae,Ip,q]
   show (ts.map T.val)[j]?=_
   rw [aau,e]; rfl
theorem Rs.sub {B:Addr->Prop} {H H1:Hp} {j k j':Nat} {t u:T} (r:Rs p B H H1 j k t) (ok:u.Ok p H1) (h:∀ a ∈ u.rest j',a ∈ t.rest j):Rs p B H H1 j' 0 u :=
 ⟨r.same,ok,fun a m=>r.src a (h a m),by rw [T.adr_zero]; simp,T.nd_zero u⟩
noncomputable def AA:Expr->Bool
 | .Slice _ _ _ _=>false
 | _=>true
theorem CP {b:Expr} (h:AA b=true):Gs b:=by
 intro o i
 cases b <;> first | rfl | cases h
theorem Ra (hK:X.K=p.K):IxR X (fun x y H Q=>Ke X.K x y H Q\/QC X.K x y H Q):=Fc.or Lh
theorem LH (hK:X.K=p.K) {a b:Expr} {x y:E} (ha:PE X a (lE p EX tn x)) (hb:PE X b (lE p EX tn y)) (hp:AA b=true):PE X (.Subscript a b pos) (lE p EX tn (.ix x y)):=by
 refine PE.mono (Hl (Ra hK) ha hb (CP hp)) fun σ H Q h=>?_
 obtain ⟨τ,rfl,hF,j,k,hj,h⟩:=h
 simp only [jk] at hj
 obtain ⟨⟨j1,k1⟩,h1,hj⟩:=bS hj
 obtain ⟨⟨j2,k2⟩,h2,hj⟩:=bS hj
 obtain ⟨hc,e⟩:=CL hj
 cases e
 have hc:=of_decide_eq_true hc
 subst hc
 simp only [ev] at h
 refine l1 hF h1 h fun d t H1 ht R h=>l2 hF R.same h2 h fun d' t' H2 ht' R' h=>?_
 subst ht ht'
 have R:=R.fwd R'.same
 cases t <;> cases t' <;> simp only [T.dat,ixD] at h
 all_goals first | exact nE h | skip
 ·obtain ⟨u,hu,e,h⟩:=Ho h
  exact .inr ⟨_,_,_,_,rfl,rfl,SqT.of R.ok.1,e,h u H2 rfl (R.sub (T.oks_iff.mp R.ok.2 u hu) fun b m=>T.mem_rests.mpr ⟨u,hu,m⟩)⟩
 ·obtain ⟨u,hu,e,h⟩:=Ho h
  exact .inl ⟨_,_,_,_,rfl,rfl,.inl R.ok.1,e,h u H2 rfl (R.sub (T.oks_iff.mp R.ok.2 u hu) fun b m=>aaa _ (T.mem_rests.mpr ⟨u,hu,m⟩))⟩
theorem O4 {a b:Expr} {x y:E} (ha:PE X a (lE p EX tn x)) (hb:PE X b (lE p EX tn y)) (hp:AA b=true):PE X (.Subscript a b pos) (lE p EX tn (.ixL x y)):=by
 refine PE.mono (Hl Fc ha hb (CP hp)) fun σ H Q h=>?_
 obtain ⟨τ,rfl,hF,j,k,hj,h⟩:=h
 simp only [jk] at hj
 obtain ⟨⟨j1,k1⟩,h1,hj⟩:=bS hj
 obtain ⟨⟨j2,k2⟩,h2,hj⟩:=bS hj
 have hj:=Option.some.inj hj
 simp only [Prod.mk.injEq] at hj
 obtain ⟨rfl,rfl⟩:=hj
 simp only [ev] at h
 refine l1 hF h1 h fun d t H1 ht R h=>l2 hF R.same h2 h fun d' t' H2 ht' R' h=>?_
 subst ht ht'
 have R:=R.fwd R'.same
 cases t <;> cases t' <;> simp only [T.dat,D0] at h
 all_goals first | exact nE h | skip
 obtain ⟨u,hu,e,h⟩:=Ho h
 refine ⟨_,_,_,_,rfl,rfl,.inl R.ok.1,e,h u H2 rfl (R.sub (T.oks_iff.mp R.ok.2 u hu) fun b m=>?_)⟩
 cases j1 with
 | zero=>exact aaa _ (T.mem_rests.mpr ⟨u,hu,m⟩)
 | succ j1=>exact T.mem_rests.mpr ⟨u,hu,m⟩
theorem D6 (n d:Nat) (o:Option Int):HT.sIx n d o=sIx n d o:=by
 cases o with
 | none=>rfl
 | some v=>exact Int.ofNat_inj.mp (by rw [<- HT.clip_eq v n d]; unfold sIx; simp only; split <;> omega)
theorem JG {α β:Type} (f:α->β) (xs:List α) (lo hi:Option Int):(cut xs lo hi).map f=cut (xs.map f) lo hi:=by
 unfold cut; rw [abw,abx,aae]
theorem JH (ts:List T) (lo hi:Option Int):EF (ts.map T.val) lo hi=(cut ts lo hi).map T.val:=by
 unfold EF cut
 rw [abw,abx,aae,D6,D6]
theorem Fi {α:Type} {xs:List α} {lo hi:Option Int} {x:α} (h:x ∈ cut xs lo hi):x ∈ xs:=aaD (aaJ h)
noncomputable def lO (p:Px) (EX:EXT) (tn:List Nat) (e:E):TO:=fun σ H Q=>∃ τ,σ=vτ τ/\Fok p tn τ H/\(jk tn e).isSome=true/\Lg p EX σ (Bw e.isCN (ev e (dτ τ))) H fun o=>∀ H',Same H H'->Q o H'
theorem DM:PO X none (lO p EX tn .cN):=by
 intro pins s σ H Q I h
 obtain ⟨τ,rfl,hF,hj,h⟩:=h
 exact Op pins s _ H Q I (h H (Same.refl _))
theorem DN {e:Expr} {x:E} (he:PE X e (lE p EX tn x)) (hx:x.isCN=false):PO X (some e) (lO p EX tn x):=by
 intro pins s σ H Q I h
 obtain ⟨τ,rfl,hF,hj,h⟩:=h
 obtain ⟨⟨j,k⟩,hj⟩:=aaB.mp hj
 unfold Bw at h
 rw [hx,if_neg (by decide)] at h
 refine Oq he pins s _ H Q I (l1 hF hj h fun d t H1 ht R h=>?_)
 subst ht
 cases t <;> simp only [T.dat,CJ] at h
 all_goals first | exact nE h | exact ⟨_,rfl,h H1 R.same⟩
theorem JI:∀ {ts:List T},(T.dats ts).all D.scal=true->∀ t ∈ ts,t.sc=true
 | [],_,t,h=>nomatch h
 | u :: r,h,t,ht=>by
  simp only [T.dats,aaE,aak] at h
  rcases aah.mp ht with rfl | ht
  ·cases t <;> first | rfl | cases h.1
  ·exact JI h.2 t ht
theorem O5 {t:T} {j:Nat} (h:t.sc=true):t.rest j=[]:=by cases t <;> first | rfl | cases h
theorem Rb {t:T} {j:Nat} (h:t.sc=true):t.adr j=[]:=by cases t <;> first | rfl | cases h
theorem Iq {ts:List T} {j:Nat} (h:∀ t ∈ ts,t.sc=true):T.rests ts j=[]:=by
 refine aa8.mpr fun b hb=>?_
 obtain ⟨t,ht,q⟩:=T.mem_rests.mp hb
 rw [O5 (h t ht)] at q; cases q
theorem JJ {ts:List T} {j:Nat} (h:∀ t ∈ ts,t.sc=true):T.adrs ts j=[]:=by
 refine aa8.mpr fun b hb=>?_
 obtain ⟨t,ht,q⟩:=T.mem_adrs.mp hb
 rw [Rb (h t ht)] at q; cases q
theorem M9 {B:Addr->Prop} {H H1:Hp} {j k:Nat} {a:Addr} {ts:List T} (s:Same H H1) (ok:(T.tup a ts).Ok p H1) (h:∀ t ∈ ts,t.sc=true):Rs p B H H1 j k (.tup a ts) :=
 ⟨s,ok,by simp only [T.rest]; rw [Iq h]; simp,by simp only [T.adr]; rw [JJ h]; simp,by unfold T.Nd; simp only [T.adr,T.rest]; rw [Iq h,JJ h]; simp⟩
theorem O6 {a:Expr} {lo hi:Option Expr} {p2:Pos} {x y z:E} (ha:PE X a (lE p EX tn x)) (hl:PO X lo (lO p EX tn y)) (hh:PO X hi (lO p EX tn z)):PE X (.Subscript a (.Slice lo hi none p2) pos) (lE p EX tn (.slc x y z)):=by
 refine PE.mono (HV (Os.or QB) ha hl hh) fun σ H Q h=>?_
 obtain ⟨τ,rfl,hF,j,k,hj,h⟩:=h
 simp only [jk] at hj
 obtain ⟨⟨j1,k1⟩,h1,hj⟩:=bS hj
 obtain ⟨q2,h2,hj⟩:=bS hj
 obtain ⟨q3,h3,hj⟩:=bS hj
 obtain ⟨hc,e⟩:=CL hj
 cases e
 have hc:=of_decide_eq_true hc
 simp only [ev] at h
 refine l1 hF h1 h fun d t H1 ht R h=>?_
 subst ht
 refine ⟨τ,rfl,hF.same R.same,by rw [h2]; rfl,h.bind.mono R.same fun l _ h H2 s2=>?_⟩
 refine ⟨τ,rfl,hF.same (R.same.trans s2),by rw [h3]; rfl,h.bind.mono (R.same.trans s2) fun u _ h H3 s3=>?_⟩
 have R:=R.fwd (s2.trans s3)
 cases t with
 | tup b ts =>
  simp only [T.dat,Bf] at h
  obtain ⟨⟨g1,g2⟩,h⟩:=h.guard
  refine .inr ⟨b,_,rfl,SqT.of R.ok.1,?_,fun q hq=>?_⟩
  ·rw [aae,D6,D6,<- Ac]; exact g2
  ·rw [JH]
   have sn:=Same.new (o:=.tup ((cut ts l u).map T.val)) hq
   refine h (.tup q (cut ts l u)) _ (by simp only [T.dat,T.dats_map,JG]) (M9 (R.same.trans sn) ⟨Ak,T.oks_iff.mpr fun w hw=>((T.oks_iff.mp R.ok.2 w (Fi hw))).same sn⟩ fun w hw=>JI g1 w (Fi hw))
 | lst b ts =>
  simp only [T.dat,Bf] at h
  refine .inl ⟨b,_,rfl,.inl R.ok.1,fun q hq=>?_⟩
  rw [JH]
  refine h (.lst q (cut ts l u)) _ (by simp only [T.dat,T.dats_map,JG]) (Ga R.same (T.oks_iff.mpr fun w hw=>T.oks_iff.mp R.ok.2 w (Fi hw)) (fun c m=>?_) hq)
  obtain ⟨w,hw,m⟩:=T.mem_rests.mp m
  exact R.elems hc c (T.mem_rests.mpr ⟨w,Fi hw,m⟩)
 | _=>exact nE h
theorem O7 (z:Str) (lo hi:Option Int):Ic z lo hi=M1 z lo hi:=by
 unfold Ic M1 cut
 rw [D6,D6]
theorem O8 {a b:Expr} {x y:E} (ha:PE X a (lE p EX tn x)) (hb:PE X b (lE p EX tn y)) (hp:AA b=true):PE X (.Subscript a b pos) (lE p EX tn (.ixC x y)):=by
 refine PE.mono (Hl QD ha hb (CP hp)) fun σ H Q h=>?_
 obtain ⟨τ,rfl,hF,j,k,hj,h⟩:=h
 simp only [jk] at hj
 obtain ⟨⟨j1,k1⟩,h1,hj⟩:=bS hj
 obtain ⟨⟨j2,k2⟩,h2,hj⟩:=bS hj
 cases hj
 simp only [ev] at h
 refine l1 hF h1 h fun d t H1 ht R h=>l2 hF R.same h2 h fun d' t' H2 ht' R' h=>?_
 subst ht ht'
 cases t with
 | str z =>
  cases t' with
  | int i =>
   simp only [T.dat,chD] at h
   by_cases c:z.length<=LIM
   ·rw [if_pos c] at h
    cases q:(ixN z.cps.toList.length i).bind (fun j=>z.cps.toList[j]?) with
    | none=>rw [q] at h; exact nE h
    | some u =>
     rw [q] at h
     exact ⟨z,i,u,rfl,rfl,by rw [sizeLine_eq]; exact c,q,h (.str _) H2 rfl (Rs.scal (R.same.trans R'.same) rfl)⟩
   ·rw [if_neg c] at h; exact nE h
  | _=>exact nE h
 | _=>exact nE h
theorem O9 {a:Expr} {lo hi:Option Expr} {p2:Pos} {x y z:E} (ha:PE X a (lE p EX tn x)) (hl:PO X lo (lO p EX tn y)) (hh:PO X hi (lO p EX tn z)):PE X (.Subscript a (.Slice lo hi none p2) pos) (lE p EX tn (.slT x y z)):=by
 refine PE.mono (HV QT ha hl hh) fun σ H Q h=>?_
 obtain ⟨τ,rfl,hF,j,k,hj,h⟩:=h
 simp only [jk] at hj
 obtain ⟨⟨j1,k1⟩,h1,hj⟩:=bS hj
 obtain ⟨q2,h2,hj⟩:=bS hj
 obtain ⟨q3,h3,hj⟩:=bS hj
 cases hj
 simp only [ev] at h
 refine l1 hF h1 h fun d t H1 ht R h=>?_
 subst ht
 refine ⟨τ,rfl,hF.same R.same,by rw [h2]; rfl,h.bind.mono R.same fun l _ h H2 s2=>?_⟩
 refine ⟨τ,rfl,hF.same (R.same.trans s2),by rw [h3]; rfl,h.bind.mono (R.same.trans s2) fun u _ h H3 s3=>?_⟩
 cases t with
 | str z =>
  simp only [T.dat,Ff] at h
  obtain ⟨g,h⟩:=h.guard
  refine ⟨z,rfl,by rw [sizeLine_eq]; exact g,?_⟩
  rw [O7]
  exact h (.str _) H3 rfl (Rs.scal (R.same.trans (s2.trans s3)) rfl)
 | _=>exact nE h
theorem SI {n:Bool} {t u:T} {σ:St} {H H2:Hp} {Kc:D->Prop} {Q:VK} (h:Lg p EX σ (FI n t.dat u.dat) H Kc) (hQ:∀ b,Kc (.bl b)->Q (.bl b) H2):MV n t.val u.val H2 Q:=by
 cases t with
 | str x =>
  cases u with
  | str y =>
   have h:Lg p EX σ (match x.cps.toList with | [c]=>.ok (.bl ((decide (c ∈ y.cps.toList)) != n)) | _=>.bad) H Kc:=h
   obtain ⟨⟨l⟩⟩:=x
   match l,h with
   | [c],h=>exact ⟨c,y,rfl,rfl,hQ _ h⟩
   | [],h=>exact nE h
   | _ :: _ :: _,h=>exact nE h
  | _=>exact nE h
 | _=>cases u <;> exact nE h
theorem lin {x y:E} {n:Bool} {τ:Ft} {H:Hp} {Kc:D->Prop} {Q:VK} {j1 k1 j2 k2:Nat} (hF:Fok p tn τ H) (h1:jk tn x=some (j1,k1)) (h2:jk tn y=some (j2,k2))
  (h:Lg p EX (vτ τ) ((ev x (dτ τ)).bind fun a=>(ev y (dτ τ)).bind fun b=>FI n a b) H Kc) (hQ:∀ b H2,Same H H2->Kc (.bl b)->Q (.bl b) H2):tOp (MV n) (lE p EX tn x) (lE p EX tn y) (vτ τ) H Q:=by
 refine l1 hF h1 h fun d t H1 ht R h=>l2 hF R.same h2 h fun d' t' H2 ht' R' h=>?_
 subst ht ht'
 exact SI h fun b hb=>hQ b H2 (R.same.trans R'.same) hb
theorem Pa {a b:Expr} {x y:E} {n:Bool} (ha:PE X a (lE p EX tn x)) (hb:PE X b (lE p EX tn y)) (hm:behindInMarks (FG n) b=false):PE X (.Compare a [FG n] [b] pos) (lE p EX tn (.inT n x y)):=by
 refine PE.mono (Jw (Lv n) ha hb hm) fun σ H Q h=>?_
 obtain ⟨τ,rfl,hF,j,k,hj,h⟩:=h
 simp only [jk] at hj
 obtain ⟨⟨j1,k1⟩,h1,hj⟩:=bS hj
 obtain ⟨⟨j2,k2⟩,h2,hj⟩:=bS hj
 simp only [ev] at h
 exact lin hF h1 h2 h fun b H2 s hb=>KE.bl s hb
theorem Na {a b:Expr} {x y:E} {n:Bool} (ha:PE X a (lE p EX tn x)) (hb:PE X b (lE p EX tn y)) (hm:behindInMarks (FG n) b=false):PT X (.Compare a [FG n] [b] pos) (lT p EX tn (.inT n x y)):=by
 refine PT.mono (Jx (Lv n) ha hb hm) fun σ H Q h=>?_
 obtain ⟨τ,rfl,hF,hj,h⟩:=h
 obtain ⟨q,hj⟩:=aaB.mp hj
 simp only [jk] at hj
 obtain ⟨⟨j1,k1⟩,h1,hj⟩:=bS hj
 obtain ⟨⟨j2,k2⟩,h2,hj⟩:=bS hj
 simp only [tv,ev] at h
 exact lin hF h1 h2 h.bind fun b H2 s hb=>⟨b,rfl,hb H2 s⟩
theorem Pb {z:Str} {n:Nat} {j1 j2:Nat} {p1 p2:Pos}:PE X (.BinOp (.Constant (.str z) j1 p1) .Mult (.Constant (.int n) j2 p2) pos) (lE p EX tn (.rep z n)):=by
 refine PE.mono (J4 OC HM KW) fun σ H Q h=>?_
 obtain ⟨τ,rfl,hF,j,k,hj,h⟩:=h
 simp only [jk] at hj
 cases hj
 simp only [ev] at h
 obtain ⟨⟨g1,g2,g3⟩,h⟩:=h.guard
 exact ⟨z,n,rfl,rfl,g1,g2,g3,h (.str _) H rfl (Rs.scal (Same.refl _) rfl)⟩
end
theorem Pc {n:Nat} (h:n < 1606938044258990275541962092341162602522202993782792835301376):n.log2 < 1920:=by
 by_cases c:n=0
 ·subst c; decide
 ·have e:(1606938044258990275541962092341162602522202993782792835301376:Nat)=2 ^ 200:=by decide +kernel
  have:=(acr c).mpr (e ▸ h)
  omega
noncomputable def spF (p:Px) (F:Fn):Sp:=fun vs H Q E=>∃ ts:List T,vs=ts.map T.val/\T.Oks p H ts/\ts.length=F.ar/\match F.den (T.dats ts) with
 | .ok d=>∀ t H',t.dat=d->Rs p (fun a=>a ∈ T.rests ts 0) H H' 0 F.dep t->Q t.val H'
 | .exc c=>p.has c=true->∀ H',Same H H'->E (.ref (p.cl c)) none H'
 | .bad=>False
noncomputable def Nb (p:Px) (X:Cx) (F:Fn):Prop:=∃ ps:List Str,ps.length=F.ar/\Has X.prog X.w X.K X.mg X.base F.name F.lv ps (spF p F)
noncomputable def spM (p:Px) (F:Fn):Sp:=fun vs H Q _=>∃ (t:T) (ts:List T),vs=t.val :: ts.map T.val/\t.Ok p H/\T.Oks p H ts/\ts.length + 1=F.ar/\t.Nd 2/\(∀ b ∈ t.adr 2,(∃ ws,H b=some (.lst ws))/\b ∉ T.rests ts 0)/\∃ d,F.den (t.dat :: T.dats ts)=.ok d /\
 ∀ (t':T) (H':Hp),t'.dat=d->t'.val=t.val->t'.Ok p H'->t'.Nd 2->(∀ b u,H b=some u->b ∉ t.adr 2->H' b=some u)->(∀ b ∈ t'.adr 2,(b ∈ t.adr 2\/H b=none)/\∃ ws,H' b=some (.lst ws))->Q .non H'
noncomputable def Rc (p:Px) (X:Cx) (F:Fn):Prop:=∃ ps:List Str,ps.length=F.ar/\Has X.prog X.w X.K X.mg X.base F.name F.lv ps (spM p F)
noncomputable def Ai:Expr->Bool
 | .Starred _ _=>false
 | _=>true
theorem Ad {e:Expr} {es:List Expr} {env:Env} (h:Ai e=true):starEach (e :: es) env=(false,eval e env) :: starEach es env:=by
 cases e <;> first | rfl | cases h
theorem AJ {pos:Pos} {env:Env}:∀ {es:List Expr},es.all Ai=true->(backTo pos (starEach es env)).any (·.1)=false
 | [],_=>rfl
 | e :: es,h=>by
  rw [aaE,aak] at h
  rw [Ad h.1]
  have ih:=AJ (pos:=pos) (env:=env) h.2
  unfold backTo at ih ⊢
  rw [aar,abQ,ih]; rfl
section
variable {p:Px} {EX:EXT} {tn:List Nat} {X:Cx} {pos np:Pos}
theorem Nc {F:Fn} {e:Expr} {es:List Expr} {x:E} {xs:Es} (hx:Dn (CXe X.prog X.w) X EX) (hF:Nb p X F) (hr:Room F.lv X.A) (hg:Gl X F.name) (hdb:(F.name==("__debug__" : Str))=false) (ha:PA X (e :: es) (lEs p EX tn (.cons x xs))) (hst:(e :: es).all Ai=true) (hl:(Es.cons x xs).len=F.ar) :
  PE X (.Call (.Name F.name np) (e :: es) [] pos) (lE p EX tn (.call F (.cons x xs))):=by
 obtain ⟨ps,hps,hF⟩:=hF
 rw [aaE,aak] at hst
 refine PE.mono (Sy hF hr hg hx ha hdb (Ad hst.1) (AJ hst.2)) fun σ H Q h=>?_
 obtain ⟨τ,rfl,hFr,j,k,hj,h⟩:=h
 simp only [jk] at hj
 obtain ⟨⟨j1,k1⟩,h1,hj⟩:=bS hj
 obtain ⟨hc,e⟩:=CL hj
 cases e
 have hc:j1=0:=of_decide_eq_true hc
 subst hc
 simp only [ev] at h
 refine ⟨τ,rfl,hFr,0,k1,h1,h.bind.mono (Same.refl _) fun ds e hd ts H1 hts R=>?_⟩
 show spF p F (ts.map T.val ++ []) H1 Q (EX (vτ τ))
 rw [aaP]
 refine ⟨ts,rfl,R.ok,?_,?_⟩
 ·rw [<- Ac,hts,BJ _ _ _ e,hl]
 ·rw [hts]
  cases q:F.den ds with
  | ok d =>
   rw [q] at hd
   intro t H' ht R'
   refine hd t H' ht ⟨R.same.trans R'.same,R'.ok,fun a m=>?_,fun a m=>⟨R.same.free (R'.new a m).1,(R'.new a m).2⟩,R'.nd⟩
   rcases R'.src a m with z | z
   ·exact .inl (R.same.free z)
   ·exact R.src a z
  | exc c =>
   rw [q] at hd
   exact fun hc H' s=>hd hc H' (R.same.trans s)
  | bad=>rw [q] at hd; exact hd
theorem Cz {b:Bi} {e:Expr} {es:List Expr} {x:E} {xs:Es} {ex:Expr} {r:List V->Hp->VK->Prop} (hp:PE X ex (tCB r (lEs p EX tn (.cons x xs))))
  (hr:∀ (B:Addr->Prop) (H H1:Hp) (j1 k1 j k:Nat) (ts:List T) (σ:St) (Q:VK),RsL p B H H1 j1 k1 ts->(match b with | .tupleL=>gj (decide (j1<=1)) (0,0) | _=>some (0,9))=some (j,k) ->
   Lg p EX σ (biD b (T.dats ts)) H (KE p B H j k Q)->r (ts.map T.val) H1 Q):PE X ex (lE p EX tn (.bi b (.cons x xs))):=by
 refine PE.mono hp fun σ H Q h=>?_
 obtain ⟨τ,rfl,hFr,j,k,hj,h⟩:=h
 simp only [jk] at hj
 obtain ⟨⟨j1,k1⟩,h1,hj⟩:=bS hj
 simp only [ev] at h
 refine ⟨τ,rfl,hFr,j1,k1,h1,h.bind.mono (Same.refl _) fun ds e hd ts H1 hts R=>?_⟩
 subst hts
 exact hr (Sh tn τ) H H1 j1 k1 j k ts _ Q R hj hd
theorem Pd {B:Addr->Prop} {H H1:Hp} {a:Addr} {ts:List T} (s:Same H H1) (ok:T.Oks p H1 ts) (src:∀ b ∈ T.rests ts 0,H b=none\/B b) (hn:H1 a=none):Rs p B H (L2.upd H1 a (.tup (ts.map T.val))) 0 0 (.tup a ts) :=
 Lz ⟨s,ok,src,by rw [T.adrs_zero]; simp,T.nds_zero ts⟩ hn
theorem ET:∀ {ts:List T} {bs:List Bool},Ay (T.dats ts)=some bs->ts.map T.val=bs.map V.bl
 | [],bs,h=>by simp [T.dats,Ay] at h; subst h; rfl
 | t :: r,bs,h=>by
  cases t <;> simp only [T.dats,T.dat,Ay] at h
  all_goals first | cases h | skip
  obtain ⟨bs',h1,rfl⟩:=aas.mp h
  simp [T.val,ET h1]
section
variable {e:Expr} {es:List Expr} {x:E} {xs:Es} (hg:∀ y:Str,y ∈ (["len", "min", "max", "abs", "int", "list", "tuple", "all", "any", "sum", "sorted", "isinstance", "str", "range", "enumerate", "zip", "reversed"]:List Str)->X.mg y=none)
 (ha:PA X (e :: es) (lEs p EX tn (.cons x xs))) (hst:(e :: es).all Ai=true)
include hg ha hst
theorem Pe (hgl:Gl X "len"):PE X (.Call (.Name "len" np) (e :: es) [] pos) (lE p EX tn (.bi .len (.cons x xs))):=by
 rw [aaE,aak] at hst
 refine Cz (es:=es) (e:=e) (Ek HW hgl (hg _ (by simp)) PySem.boot_len ha (by decide) (by decide) (Ad hst.1) (AJ hst.2)) fun B H H1 j1 k1 j k ts σ Q R hj h=>?_
 rcases ts with _ | ⟨t,_ | ⟨u,r⟩⟩
 ·exact nE h
 ·cases t with
  | lst a us=>exact ⟨a,_,rfl,.inl (.inl R.ok.1.1),by have:=h (.int _) H1 rfl (Rs.scal R.same rfl); rw [Ac,<- aae (f:=T.val)] at this; exact this⟩
  | tup a us=>exact ⟨a,_,rfl,.inr (SqT.of R.ok.1.1),by have:=h (.int _) H1 rfl (Rs.scal R.same rfl); rw [Ac,<- aae (f:=T.val)] at this; exact this⟩
  | _=>exact nE h
 ·exact nE h
theorem Pf (hgl:Gl X "int"):PE X (.Call (.Name "int" np) (e :: es) [] pos) (lE p EX tn (.bi .int (.cons x xs))):=by
 rw [aaE,aak] at hst
 refine Cz (es:=es) (e:=e) (DG Lb hgl (hg _ (by simp)) (by decide +kernel) ha (by decide) (by decide) (Ad hst.1) (AJ hst.2)) fun B H H1 j1 k1 j k ts σ Q R hj h=>?_
 rcases ts with _ | ⟨t,_ | ⟨u,r⟩⟩
 ·exact nE h
 ·cases t with
  | int i=>exact .inl ⟨i,rfl,h (.int _) H1 rfl (Rs.scal R.same rfl)⟩
  | bl b=>exact .inr ⟨b,rfl,h (.int _) H1 rfl (Rs.scal R.same rfl)⟩
  | _=>exact nE h
 ·exact nE h
theorem Kv (hgl:Gl X "tuple"):PE X (.Call (.Name "tuple" np) (e :: es) [] pos) (lE p EX tn (.bi .tupleL (.cons x xs))):=by
 rw [aaE,aak] at hst
 refine Cz (es:=es) (e:=e) (DG Ha hgl (hg _ (by simp)) (by decide +kernel) ha (by decide) (by decide) (Ad hst.1) (AJ hst.2)) fun B H H1 j1 k1 j k ts σ Q R hj h=>?_
 obtain ⟨hc,ej⟩:=CL hj
 cases ej
 have hc:j1<=1:=of_decide_eq_true hc
 rcases ts with _ | ⟨t,_ | ⟨u,r⟩⟩
 ·exact nE h
 ·cases t with
  | lst a us=>exact ⟨a,_,rfl,.inl ⟨.inl R.ok.1.1,fun l hl=>h (.tup l us) _ rfl (Pd R.same R.ok.1.2 (fun c m=>R.src c (by
    simp only [T.rests,aaP]
    exact T.rest_le (.lst a us) hc (j':=1) m)) hl)⟩⟩
  | _=>exact nE h
 ·exact nE h
theorem Pg (hcm:X.calm=true) (hgl:Gl X "all"):PE X (.Call (.Name "all" np) (e :: es) [] pos) (lE p EX tn (.bi .all (.cons x xs))):=by
 rw [aaE,aak] at hst
 refine Cz (es:=es) (e:=e) (Ek (Lp hcm) hgl (hg _ (by simp)) (by decide +kernel) ha (by decide) (by decide) (Ad hst.1) (AJ hst.2)) fun B H H1 j1 k1 j k ts σ Q R hj h=>?_
 rcases ts with _ | ⟨t,_ | ⟨u,r⟩⟩
 ·exact nE h
 ·cases t with
  | lst a us =>
   have h:Lg p EX σ ((B5 (Ay (T.dats us))).bind _) H (KE p B H j k Q):=h
   cases q:Ay (T.dats us) with
   | none=>rw [q] at h; exact nE h
   | some bs =>
    rw [q] at h
    exact ⟨a,bs,rfl,.inl (ET q ▸ R.ok.1.1),h (.bl _) H1 rfl (Rs.scal R.same rfl)⟩
  | _=>exact nE h
 ·exact nE h
end
end
section
variable {p:Px} {EX:EXT} {tn:List Nat} {X:Cx} {pos np:Pos}
section
variable {e:Expr} {es:List Expr} {x:E} {xs:Es} (hg:∀ y:Str,y ∈ (["len", "min", "max", "abs", "int", "list", "tuple", "all", "any", "sum", "sorted", "isinstance", "str", "range", "enumerate", "zip", "reversed"]:List Str)->X.mg y=none)
 (ha:PA X (e :: es) (lEs p EX tn (.cons x xs))) (hst:(e :: es).all Ai=true)
include hg ha hst
theorem Ph (hgl:Gl X "str"):PE X (.Call (.Name "str" np) (e :: es) [] pos) (lE p EX tn (.bi .str (.cons x xs))):=by
 rw [aaE,aak] at hst
 refine Cz (es:=es) (e:=e) (DG Ls hgl (hg _ (by simp)) (by decide +kernel) ha (by decide) (by decide) (Ad hst.1) (AJ hst.2)) fun B H H1 j1 k1 j k ts σ Q R hj h=>?_
 rcases ts with _ | ⟨t,_ | ⟨u,r⟩⟩
 ·exact nE h
 ·cases t with
  | int i =>
   have h:Lg p EX σ (if i.natAbs < 1606938044258990275541962092341162602522202993782792835301376 then Res.ok (D.str (Str.ofString (toString i))) else .bad) H (KE p B H j k Q):=h
   by_cases c:i.natAbs < 1606938044258990275541962092341162602522202993782792835301376
   ·rw [if_pos c] at h
    exact ⟨i,rfl,Pc c,h (.str _) H1 rfl (Rs.scal R.same rfl)⟩
   ·rw [if_neg c] at h; exact nE h
  | _=>exact nE h
 ·exact nE h
theorem Nf (hgl:Gl X "len"):PE X (.Call (.Name "len" np) (e :: es) [] pos) (lE p EX tn (.bi .lenS (.cons x xs))):=by
 rw [aaE,aak] at hst
 refine Cz (es:=es) (e:=e) (Ek HX hgl (hg _ (by simp)) PySem.boot_len ha (by decide) (by decide) (Ad hst.1) (AJ hst.2)) fun B H H1 j1 k1 j k ts σ Q R hj h=>?_
 rcases ts with _ | ⟨t,_ | ⟨u,r⟩⟩
 ·exact nE h
 ·cases t with
  | str z =>
   have h:Lg p EX σ (if z.length<=LIM then Res.ok (D.int (z.length:Nat)) else .bad) H (KE p B H j k Q):=h
   by_cases c:z.length<=LIM
   ·rw [if_pos c] at h
    exact ⟨z,rfl,by rw [sizeLine_eq]; exact c,h (.int _) H1 rfl (Rs.scal R.same rfl)⟩
   ·rw [if_neg c] at h; exact nE h
  | _=>exact nE h
 ·exact nE h
theorem Ng (hgl:Gl X "int"):PE X (.Call (.Name "int" np) (e :: es) [] pos) (lE p EX tn (.bi .intS (.cons x xs))):=by
 rw [aaE,aak] at hst
 refine Cz (es:=es) (e:=e) (DG Lu hgl (hg _ (by simp)) (by decide +kernel) ha (by decide) (by decide) (Ad hst.1) (AJ hst.2)) fun B H H1 j1 k1 j k ts σ Q R hj h=>?_
 rcases ts with _ | ⟨t,_ | ⟨u,r⟩⟩
 ·exact nE h
 ·cases t with
  | str z =>
   have h:Lg p EX σ (if (z.cps.toList.all fun c=>decide (48<=c) && decide (c<=57))=true/\z.cps.toList ≠ []/\z.length<=640 then Res.ok (D.int ((z.cps.toList.foldl (fun acc c=>acc * 10 + (c - 48)) 0:Nat):Int)) else .bad) H (KE p B H j k Q):=h
   by_cases c:(z.cps.toList.all fun c=>decide (48<=c) && decide (c<=57))=true/\z.cps.toList ≠ []/\z.length<=640
   ·rw [if_pos c] at h
    refine ⟨z,rfl,fun d hd=>?_,c.2.1,c.2.2,h (.int _) H1 rfl (Rs.scal R.same rfl)⟩
    have:=aaw.mp c.1 d hd
    rw [aak] at this
    exact ⟨of_decide_eq_true this.1,of_decide_eq_true this.2⟩
   ·rw [if_neg c] at h; exact nE h
  | _=>exact nE h
 ·exact nE h
end
end
structure ItOk (p:Px) (B:Addr->Prop) (H H1:Hp) (J:L2.It) (us:List T) (j:Nat) (ds:List D):Prop where
 same:Same H H1
 ok:T.Oks p H1 us
 src:∀ a ∈ T.rests us j,H a=none\/B a
 len:ds.length<=sizeLine
 go:∀ (i:Nat) (H':Hp),T.Oks p H' us->i < ds.length->J.go i H'
 stop:∀ (i:Nat) (H':Hp),T.Oks p H' us->ds.length<=i->J.stop i H'
 yld:∀ (i:Nat) (H':Hp) (v:V) (H'':Hp) (d:D),T.Oks p H' us->ds[i]?=some d->J.yld i H' v H''->Same H' H''/\∃ t:T,t.val=v/\t.dat=d/\t.Ok p H''/\(∀ a ∈ t.rest 0,a ∈ T.rests us 0)/\∀ a ∈ t.rest 0,H a=none\/B a
noncomputable def lI (p:Px) (EX:EXT) (tn:List Nat) (it:It):TI:=fun σ H R=>∃ τ,σ=vτ τ/\Fok p tn τ H/\∃ j,jkI tn it=some j/\Lg p EX σ (evI it (dτ τ)) H fun ds=>∀ J us H1,ItOk p (Sh tn τ) H H1 J us j ds->R J H1
theorem PI.mono {X:Cx} {tg e:Expr} {t t':TI} (h:PI X tg e t) (m:∀ σ H Q,t' σ H Q->t σ H Q):PI X tg e t':=fun pins s σ H Q I q=>h pins s σ H Q I (m _ _ _ q)
section
variable {p:Px} {EX:EXT} {tn:List Nat} {X:Cx} {pos np:Pos} {tg:Expr}
theorem Er {ts:List T} {i:Nat} {d:D} (h:(T.dats ts)[i]?=some d):∃ t,ts[i]?=some t/\t.dat=d:=by
 rw [T.dats_map,aau] at h
 obtain ⟨t,h1,h2⟩:=aas.mp h
 exact ⟨t,h1,h2⟩
theorem EU (hK:X.K=p.K) {B:Addr->Prop} {H H1:Hp} {j k:Nat} {a:Addr} {ts:List T} (r:Rs p B H H1 j k (.lst a ts)) (hj:j<=1) (hl:ts.length<=sizeLine):ItOk p B H H1 (Itl X.K a) [.lst a ts] j (T.dats ts) where
 same:=r.same
 ok:=⟨r.ok,trivial⟩
 src:=fun b m=>r.src b (by simpa [T.rests] using m)
 len:=by rw [Ac]; exact hl
 go:=fun i H' ok h=>by
  rw [Ac] at h
  exact ⟨_,(ts.map T.val)[i]'(by simpa using h),.inl ok.1.1,by simp [h]⟩
 stop:=fun i H' ok h=>⟨_,.inl ok.1.1,by simpa [Ac] using h⟩
 yld:=fun i H' v H'' d ok h y=>by
  obtain ⟨rfl,y⟩:=y
  obtain ⟨t,ht,e⟩:=Er h
  have:=y _ (.inl ok.1.1)
  rw [aau,ht] at this
  refine ⟨Same.refl _,t,Option.some.inj this,e,T.oks_iff.mp ok.1.2 t (aai ht),fun b m=>by simp only [T.rests,T.rest,aaP]; exact aaa _ (T.mem_rests.mpr ⟨t,aai ht,m⟩),fun b m=>r.elems hj b (T.mem_rests.mpr ⟨t,aai ht,m⟩)⟩
theorem Nh {B:Addr->Prop} {H H1:Hp} {k:Nat} {a:Addr} {ts:List T} (r:Rs p B H H1 0 k (.tup a ts)) (hl:ts.length<=sizeLine):ItOk p B H H1 (Itt X.K a) [.tup a ts] 0 (T.dats ts) where
 same:=r.same
 ok:=⟨r.ok,trivial⟩
 src:=fun b m=>r.src b (by simpa [T.rests] using m)
 len:=by rw [Ac]; exact hl
 go:=fun i H' ok h=>by
  rw [Ac] at h
  exact ⟨_,(ts.map T.val)[i]'(by simpa using h),SqT.of ok.1.1,by simp [h]⟩
 stop:=fun i H' ok h=>⟨_,SqT.of ok.1.1,by simpa [Ac] using h⟩
 yld:=fun i H' v H'' d ok h y=>by
  obtain ⟨rfl,y⟩:=y
  obtain ⟨t,ht,e⟩:=Er h
  have:=y _ (SqT.of ok.1.1)
  rw [aau,ht] at this
  refine ⟨Same.refl _,t,Option.some.inj this,e,T.oks_iff.mp ok.1.2 t (aai ht),fun b m=>by simp only [T.rests,T.rest,aaP]; exact T.mem_rests.mpr ⟨t,aai ht,m⟩,fun b m=>r.src b (T.mem_rests.mpr ⟨t,aai ht,m⟩)⟩
noncomputable def TV (K:Frag) (tl:TE):TI:=fun σ H R=>tl σ H fun x H1=>∃ a,x=.ref a/\((∃ xs,SqL K H1 a xs/\(xs.length<=sizeLine->R (Itl K a) H1))\/(∃ xs,SqT K H1 a xs/\(xs.length<=sizeLine->R (Itt K a) H1)))
theorem Ir {l:Expr} {tl:TE} (hl:PE X l tl):PI X tg l (TV X.K tl):=by
 intro pins s σ H R I h
 refine thn (hl pins s σ H _ I h) fun v s1 ⟨x,H1,I1,r1,q1⟩=>?_
 obtain ⟨a,e,q1⟩:=q1
 subst e
 cases r1
 rcases q1 with ⟨xs,hq,q⟩ | ⟨xs,hq,q⟩
 ·obtain ⟨its,rv,pl,hz⟩:=I1.list hq
  refine wpAny_pyIter_list pl.isList ?_
  refine ⟨s1.heap.objs.size,[s1.heap.objs.size],_,_,H1,rfl,I1.kept (t':=s1.toks) fun b o e=>Heap.get?_push_of_some _ e,K4 a _,⟨_,Heap.get?_push_size _ rfl,rfl,rfl⟩,fun b hb=>?_,q hz⟩
  have e:b=s1.heap.objs.size:=by simpa using hb
  subst e
  exact I1.fpOk (aaj _) (I1.hok.fresh (aaj _))
 ·obtain ⟨its,rv,pl,hz⟩:=I1.tuple hq
  refine wpAny_pyIter_tuple (show s1.heap.IsTuple a its.toArray from pl) ?_
  refine ⟨s1.heap.objs.size,[s1.heap.objs.size],_,_,H1,rfl,I1.kept (t':=s1.toks) fun b o e=>Heap.get?_push_of_some _ e,J2 a _,⟨_,Heap.get?_push_size _ rfl,rfl,rfl⟩,fun b hb=>?_,q hz⟩
  have e:b=s1.heap.objs.size:=by simpa using hb
  subst e
  exact I1.fpOk (aaj _) (I1.hok.fresh (aaj _))
theorem Ni (hK:X.K=p.K) {e:Expr} {x:E} (he:PE X e (lE p EX tn x)):PI X tg e (lI p EX tn (.seq x)):=by
 refine PI.mono (Ir he) fun σ H R h=>?_
 obtain ⟨τ,rfl,hF,j,hj,h⟩:=h
 simp only [jkI] at hj
 obtain ⟨⟨j1,k1⟩,h1,hj⟩:=bS hj
 split at hj
 ·rename_i z
  cases hj
  have z:j1=0:=z
  subst z
  simp only [evI] at h
  refine l1 hF h1 h fun d t H1 ht r h=>?_
  subst ht
  cases t with
  | lst a ts=>exact ⟨a,rfl,.inl ⟨_,.inl r.ok.1,fun hz=>h _ _ _ (EU hK r (by omega) (by simpa using hz))⟩⟩
  | tup a ts=>exact ⟨a,rfl,.inr ⟨_,SqT.of r.ok.1,fun hz=>h _ _ _ (Nh r (by simpa using hz))⟩⟩
  | _=>exact nE h
 ·cases hj
theorem LJ (hK:X.K=p.K) {e:Expr} {x:E} (he:PE X e (lE p EX tn x)):PI X tg e (lI p EX tn (.seqL x)):=by
 refine PI.mono (Ir he) fun σ H R h=>?_
 obtain ⟨τ,rfl,hF,j,hj,h⟩:=h
 simp only [jkI] at hj
 obtain ⟨⟨j1,k1⟩,h1,hj⟩:=bS hj
 split at hj
 ·rename_i z
  cases hj
  simp only [evI] at h
  refine l1 hF h1 h fun d t H1 ht r h=>?_
  subst ht
  cases t with
  | lst a ts=>exact ⟨a,rfl,.inl ⟨_,.inl r.ok.1,fun hz=>h _ _ _ (EU hK r z (by simpa using hz))⟩⟩
  | _=>exact nE h
 ·cases hj
theorem Nj {B:Addr->Prop} {H H1:Hp} {z:Str} (s:Same H H1) (hl:z.length<=LIM):ItOk p B H H1 (Its z) [] 0 (DK z) where
 same:=s
 ok:=trivial
 src:=fun c m=>nomatch m
 len:=by unfold DK; rw [aae]; exact hl
 go:=fun i H' _ h=>by unfold DK at h; rw [aae] at h; exact h
 stop:=fun i H' _ h=>by unfold DK at h; rw [aae] at h; exact h
 yld:=fun i H' v H'' d _ h y=>by
  obtain ⟨rfl,c,hc,rfl⟩:=y
  unfold DK at h
  rw [aau] at h
  obtain ⟨n,h1,h2⟩:=aas.mp h
  have e:z.cps.toList[i]?=some c:=by simpa using hc
  rw [e] at h1
  cases h1
  exact ⟨Same.refl _,.str ⟨#[c]⟩,rfl,h2,trivial,by simp [T.rest],by simp [T.rest]⟩
theorem Nk {e:Expr} {x:E} (he:PE X e (lE p EX tn x)):PI X tg e (lI p EX tn (.chs x)):=by
 refine PI.mono (QU he) fun σ H R h=>?_
 obtain ⟨τ,rfl,hF,j,hj,h⟩:=h
 simp only [jkI] at hj
 obtain ⟨⟨j1,k1⟩,h1,hj⟩:=bS hj
 cases hj
 simp only [evI] at h
 refine l1 hF h1 h fun d t H1 ht r h=>?_
 subst ht
 cases t with
 | str z =>
  have h:Lg p EX (vτ τ) (if z.length<=LIM then Res.ok (DK z) else .bad) H _:=h
  by_cases c:z.length<=LIM
  ·rw [if_pos c] at h
   exact ⟨z,rfl,h _ _ _ (Nj r.same c)⟩
  ·rw [if_neg c] at h; exact nE h
 | _=>exact nE h
theorem Kw {B:Addr->Prop} {H H1:Hp} {a b:Int} (s:Same H H1) (hl:(b - a).toNat<=LIM):ItOk p B H H1 (Itr a (b - a).toNat) [] 0 (Az a b) where
 same:=s
 ok:=trivial
 src:=fun c m=>nomatch m
 len:=by unfold Az; rw [aae,abB]; exact hl
 go:=fun i H' _ h=>by unfold Az at h; rw [aae,abB] at h; exact h
 stop:=fun i H' _ h=>by unfold Az at h; rw [aae,abB] at h; exact h
 yld:=fun i H' v H'' d _ h y=>by
  obtain ⟨rfl,rfl⟩:=y
  unfold Az at h
  rw [aau] at h
  obtain ⟨n,h1,h2⟩:=aas.mp h
  have:n=i:=by
   obtain ⟨_,e⟩:=aaC.mp h1
   simpa using e.symm
  subst this
  exact ⟨Same.refl _,.int (a + n),rfl,h2,trivial,by simp [T.rest],by simp [T.rest]⟩
theorem Nl {i:Int} (h:EQ i=true):-(2 ^ 62)<=i/\i < 2 ^ 62:=by
 unfold EQ at h
 rw [aak] at h
 exact ⟨of_decide_eq_true h.1,of_decide_eq_true h.2⟩
theorem Pi {e:Expr} {x:E} (he:PE X e (lE p EX tn x)) (hst:Ai e=true) (hg:Gl X "range") (hm:X.mg "range" = none):PI X tg (.Call (.Name "range" np) [e] [] pos) (lI p EX tn (.r1 x)):=by
 refine PI.mono (K5 hg hm (A7 he BQ (Ad hst)) (Ad hst)) fun σ H R h=>?_
 obtain ⟨τ,rfl,hF,j,hj,h⟩:=h
 simp only [jkI] at hj
 obtain ⟨⟨j1,k1⟩,h1,hj⟩:=bS hj
 cases hj
 simp only [evI] at h
 refine l1 hF h1 h fun d t H1 ht r h=>?_
 subst ht
 cases t with
 | int b =>
  obtain ⟨hc,h⟩:=Lg.guard (r:=.ok (Az 0 b)) h
  rw [aak,aak] at hc
  obtain ⟨h3,h4⟩:=Nl hc.1.2
  have hl:=of_decide_eq_true hc.2
  have:=h _ _ _ (Kw (p:=p) r.same hl)
  rw [Int.sub_zero] at this
  exact ⟨b,rfl,h3,h4,this⟩
 | _=>exact nE h
end
noncomputable def Bt:List Nat->List T->Ft->Option Ft
 | [],[],τ=>some τ
 | i :: is,t :: ts,τ=>Bt is ts (τ.set i (some t))
 | _,_,_=>none
noncomputable def BR:Tg->T->Ft->Option Ft
 | .nm i,t,τ=>some (τ.set i (some t))
 | .tp is,.tup _ ts,τ=>Bt is ts τ
 | .tp is,.lst _ ts,τ=>Bt is ts τ
 | _,_,_=>none
theorem De (τ:Ft) (i:Nat) (t:T):dτ (τ.set i (some t))=(dτ τ).set i (some t.dat):=by unfold dτ; rw [abJ]; rfl
theorem Dg (τ:Ft) (i:Nat) (t:T):vτ (τ.set i (some t))=(vτ τ).set i (some t.val):=by unfold vτ; rw [abJ]; rfl
theorem Gc:∀ (is:List Nat) (ts:List T) (τ:Ft),EO is (T.dats ts) (dτ τ)=(Bt is ts τ).map dτ
 | [],[],τ=>rfl
 | [],t :: ts,τ=>rfl
 | i :: is,[],τ=>rfl
 | i :: is,t :: ts,τ=>by simp only [T.dats,EO,Bt]; rw [<- De,Gc is ts]
theorem DP (g:Tg) (t:T) (τ:Ft):Bg g t.dat (dτ τ)=(BR g t τ).map dτ:=by
 cases g with
 | nm i=>simp only [Bg,BR,aa3,De]
 | tp is=>cases t <;> first | rfl | exact Gc is _ τ
noncomputable def BS:List Nat->TGs
 | []=>Qm
 | i :: r=>N0 (Cf i) (BS r)
noncomputable def lG (K:Frag):Tg->TG
 | .nm i=>Cf i
 | .tp is=>fun v σ H Q=>Qn K is.length (BS is) v σ H Q\/QR K is.length (BS is) v σ H Q
theorem EV {H:Hp} {Q:L2.St->Hp->Prop}:∀ {is:List Nat} {ts:List T} {τ τ':Ft},Bt is ts τ=some τ'->Q (vτ τ') H->BS is (ts.map T.val) (vτ τ) H Q
 | [],[],τ,τ',h,q=>by cases h; exact ⟨rfl,q⟩
 | [],t :: ts,τ,τ',h,q=>by cases h
 | i :: is,[],τ,τ',h,q=>by cases h
 | i :: is,t :: ts,τ,τ',h,q=>by
  refine ⟨t.val,ts.map T.val,rfl,?_⟩
  show BS is (ts.map T.val) ((vτ τ).set i (some t.val)) H Q
  rw [<- Dg]
  exact EV (τ:=τ.set i (some t)) h q
theorem D1:∀ {is:List Nat} {ts:List T} {τ τ':Ft},Bt is ts τ=some τ'->ts.length=is.length
 | [],[],τ,τ',h=>rfl
 | [],t :: ts,τ,τ',h=>by cases h
 | i :: is,[],τ,τ',h=>by cases h
 | i :: is,t :: ts,τ,τ',h=>by simp [D1 (is:=is) (ts:=ts) (τ:=τ.set i (some t)) h]
theorem Hq {K:Frag} {p:Px} {H:Hp} {g:Tg} {t:T} {τ τ':Ft} {Q:L2.St->Hp->Prop} (ok:t.Ok p H) (h:BR g t τ=some τ') (q:Q (vτ τ') H):lG K g t.val (vτ τ) H Q:=by
 cases g with
 | nm i =>
  cases h
  show Q ((vτ τ).set i (some t.val)) H
  rw [<- Dg]; exact q
 | tp is =>
  cases t with
  | tup a ts=>exact .inl ⟨a,ts.map T.val,rfl,SqT.of ok.1,by rw [aae]; exact D1 h,EV h q⟩
  | lst a ts=>exact .inr ⟨a,ts.map T.val,rfl,.inl ok.1,by rw [aae]; exact D1 h,EV h q⟩
  | _=>cases h
noncomputable def Tg.sl:Tg->List Nat
 | .nm i=>[i]
 | .tp is=>is
theorem D2 {n:Nat} {H:Hp} {Q:L2.St->Hp->Prop}:∀ {is:List Nat} {vs:List V} {σ:L2.St},(∀ i ∈ is,i < n)->BS is vs σ H Q->BS is vs σ H fun σ' H'=>Q σ' H'/\σ'.length=σ.length/\∀ i,n<=i->σ'[i]?=σ[i]?
 | [],vs,σ,_,h=>by obtain ⟨e,q⟩:=h; exact ⟨e,q,rfl,fun _ _=>rfl⟩
 | i :: is,vs,σ,hi,h=>by
  obtain ⟨v,r,e,h⟩:=h
  refine ⟨v,r,e,?_⟩
  have h2:=D2 (n:=n) (is:=is) (σ:=σ.set i (some v)) (fun j hj=>hi j (aaa _ hj)) h
  have mono:∀ {is:List Nat} {vs:List V} {σ:L2.St} {H:Hp} {A B:L2.St->Hp->Prop},(∀ s h,A s h->B s h)->BS is vs σ H A->BS is vs σ H B:=by
   intro is
   induction is with
   | nil=>intro vs σ H A B m h; exact ⟨h.1,m _ _ h.2⟩
   | cons i is ih =>
    intro vs σ H A B m h
    obtain ⟨v,r,e,h⟩:=h
    exact ⟨v,r,e,ih m h⟩
  refine mono (fun s h q=>⟨q.1,by rw [q.2.1,aaU],fun k hk=>?_⟩) h2
  rw [q.2.2 k hk,aav (by have:=hi i (aab ..); omega)]
theorem Fj {K:Frag} {n:Nat} {g:Tg} (hg:∀ i ∈ g.sl,i < n) {v:V} {σ:L2.St} {H:Hp} {Q:L2.St->Hp->Prop} (h:lG K g v σ H Q):lG K g v σ H fun σ' H'=>Q σ' H'/\σ'.length=σ.length/\∀ i,n<=i->σ'[i]?=σ[i]?:=by
 cases g with
 | nm i=>exact ⟨h,by rw [aaU],fun k hk=>by rw [aav (by have:=hg i (aaz.mpr rfl); omega)]⟩
 | tp is =>
  rcases h with ⟨a,xs,e,s,l,h⟩ | ⟨a,xs,e,s,l,h⟩
  ·exact .inl ⟨a,xs,e,s,l,D2 hg h⟩
  ·exact .inr ⟨a,xs,e,s,l,D2 hg h⟩
theorem D3 {P:Option T->Prop}:∀ {is:List Nat} {ts:List T} {τ τ':Ft},Bt is ts τ=some τ'->(∀ t ∈ ts,P (some t))->∀ i o,τ'[i]?=some o->P o\/(i ∉ is/\τ[i]?=some o)
 | [],[],τ,τ',h,_,i,o,e=>by cases h; exact .inr ⟨by simp,e⟩
 | [],t :: ts,τ,τ',h,_,_,_,_=>by cases h
 | i :: is,[],τ,τ',h,_,_,_,_=>by cases h
 | i :: is,t :: ts,τ,τ',h,hp,j,o,e=>by
  rcases D3 (P:=P) (is:=is) (ts:=ts) (τ:=τ.set i (some t)) h (fun u hu=>hp u (aaa _ hu)) j o e with q | ⟨q1,q2⟩
  ·exact .inl q
  ·by_cases z:i=j
   ·subst z
    rw [abi ] at q2
    cases w:τ[i]? with
    | none=>rw [w] at q2; cases q2
    | some x =>
     rw [w] at q2
     have:o=some t:=by simpa using q2.symm
     subst this
     exact .inl (hp t (aab ..))
   ·rw [aav z] at q2
    refine .inr ⟨?_,q2⟩
    intro m
    rcases aah.mp m with rfl | m
    ·exact z rfl
    ·exact q1 m
theorem Et {P:Option T->Prop} {g:Tg} {t:T} {τ τ':Ft} (h:BR g t τ=some τ') (hp:P (some t)) (hp':∀ a ts,(t=.tup a ts\/t=.lst a ts)->∀ u ∈ ts,P (some u)) (i:Nat) (o:Option T) (e:τ'[i]?=some o):P o\/(i ∉ g.sl/\τ[i]?=some o):=by
 cases g with
 | nm k =>
  cases h
  by_cases z:k=i
  ·subst z
   rw [abi] at e
   cases w:τ[k]? with
   | none=>rw [w] at e; cases e
   | some x =>
    rw [w] at e
    have:o=some t:=by simpa using e.symm
    subst this; exact .inl hp
  ·rw [aav z] at e
   exact .inr ⟨by simpa [Tg.sl] using fun q=>z q.symm,e⟩
 | tp is =>
  cases t with
  | tup a ts=>exact D3 (P:=P) h (fun u hu=>hp' a ts (.inl rfl) u hu) i o e
  | lst a ts=>exact D3 (P:=P) h (fun u hu=>hp' a ts (.inr rfl) u hu) i o e
  | _=>cases h
theorem D7:∀ {is:List Nat} {ts:List T} {τ τ':Ft},Bt is ts τ=some τ'->τ'.length=τ.length
 | [],[],τ,τ',h=>by cases h; rfl
 | [],t :: ts,τ,τ',h=>by cases h
 | i :: is,[],τ,τ',h=>by cases h
 | i :: is,t :: ts,τ,τ',h=>by rw [D7 (is:=is) (ts:=ts) (τ:=τ.set i (some t)) h,aaU]
theorem Hc {g:Tg} {t:T} {τ τ':Ft} (h:BR g t τ=some τ'):τ'.length=τ.length:=by
 cases g with
 | nm k=>cases h; rw [aaU]
 | tp is=>cases t <;> first | cases h | exact D7 h
noncomputable def EW (nl:Nat) (fr:List Nat) (τ:Ft):Ft:=aaf nl none ++ fr.map fun j=>(τ[j]?).join
theorem JK (nl:Nat) (fr:List Nat) (τ:Ft):dτ (EW nl fr τ)=blk nl fr (dτ τ):=by
 unfold dτ EW blk
 rw [aan,abf,aaH]
 congr 1
 refine abb fun j _=>?_
 simp only [Function.comp,aau]
 cases τ[j]? with
 | none=>rfl
 | some o=>rfl
theorem JL (nl:Nat) (fr:List Nat) (τ:Ft):vτ (EW nl fr τ)=Ap nl fr (vτ τ):=by
 unfold vτ EW Ap
 rw [aan,abf,aaH]
 congr 1
 refine abb fun j _=>?_
 simp only [Function.comp,aau]
 cases τ[j]? with
 | none=>rfl
 | some o=>rfl
noncomputable abbrev tnB (nl:Nat) (fr:List Nat) (tn:List Nat):List Nat:=aaf nl 0 ++ fr.map fun j=>tn.getD j 99
theorem Fk {nl:Nat} {fr:List Nat} {tn:List Nat} {τ:Ft} {i:Nat} {t:T} {j:Nat} (h:(EW nl fr τ)[i]?=some (some t)) (hj:(tnB nl fr tn)[i]?=some j) (hlt:j < 90):∃ k:Nat,τ[k]?=some (some t)/\tn[k]?=some j:=by
 unfold EW at h
 unfold tnB at hj
 by_cases hi:i < nl
 ·rw [aaK (by simpa using hi),aaO] at h
  split at h <;> cases h
 ·rw [aaI (by simpa using hi),aaW,aau] at h hj
  obtain ⟨k,e1,e2⟩:=aas.mp h
  rw [e1] at hj
  have e3:tn.getD k 99=j:=by simpa using hj
  refine ⟨k,?_,?_⟩
  ·cases w:τ[k]? with
   | none=>rw [w] at e2; cases e2
   | some o=>rw [w] at e2; exact congrArg some e2
  ·rw [abv] at e3
   cases w:tn[k]? with
   | none=>rw [w] at e3; simp at e3; omega
   | some x=>rw [w] at e3; exact congrArg some e3
theorem T.nds_append {ts us:List T} {k:Nat} (h1:T.Nds ts k) (h2:T.Nds us k) (c1:∀ a ∈ T.adrs ts k,a ∉ T.rests us 0) (c2:∀ a ∈ T.adrs us k,a ∉ T.rests ts 0):T.Nds (ts ++ us) k:=by
 unfold T.Nds
 rw [T.adrs_append,T.rests_append]
 refine ⟨acp.mpr ⟨h1.1,h2.1,fun a ha b hb e=>?_⟩,fun a ha hb=>?_⟩
 ·subst e; exact c1 a ha ((T.alls_iff us k).mpr (.inl hb))
 ·rcases aac.mp ha with ha | ha <;> rcases aac.mp hb with hb | hb
  ·exact h1.2 a ha hb
  ·exact c2 a hb ((T.alls_iff ts k).mpr (.inr ha))
  ·exact c1 a hb ((T.alls_iff us k).mpr (.inr ha))
  ·exact h2.2 a ha hb
theorem EY {f:D->Res (Option D)}:∀ (ds:List D) (c:Nat),AR f ds ≠ .exc c
 | [],c=>by simp [AR]
 | d :: ds,c=>by
  simp only [AR]
  cases f d with
  | ok o =>
   simp only
   cases q:AR f ds with
   | ok r=>simp
   | exc c'=>exact absurd q (EY ds c')
   | bad=>simp
  | exc c'=>simp
  | bad=>simp
theorem Jn {f:D->Res (Option D)} {d:D} {ds r:List D} (h:AR f (d :: ds)=.ok r):∃ o r',f d=.ok o/\AR f ds=.ok r'/\r=o.toList ++ r':=by
 simp only [AR] at h
 cases q:f d with
 | ok o =>
  rw [q] at h
  obtain ⟨r',h1,h2⟩:=Res.bind_eq_ok h
  cases h2
  refine ⟨o,r',rfl,h1,?_⟩
  cases o <;> rfl
 | exc c=>rw [q] at h; cases h
 | bad=>rw [q] at h; cases h
noncomputable abbrev EX0:EXT:=fun _ _ _ _=>False
section
variable {p:Px} {EX:EXT} {tn:List Nat} {X:Cx} {pos np:Pos}
theorem Pj {K:Frag} {nl:Nat} {fr:List Nat} {g:Tg} {it:It} {k:Nat} {f:D->Res (Option D)} {tc:TT} {elt:E} {τ:Ft} {H:Hp} {Q:VK} {ji:Nat} (hF:Fok p tn τ H) (hji:jkI tn it=some ji) (hg:∀ i ∈ g.sl,i < nl) (hk:jk (tnB nl fr tn) elt=some (0,k))
  (hf:∀ (d:D) (o:Option D),f d=.ok o->∃ δ',Bg g d (blk nl fr (dτ τ))=some δ'/\∀ (τ4:Ft) (H3:Hp) (N:Bool->Hp->Prop),dτ τ4=δ'->Fok p (tnB nl fr tn) τ4 H3 ->
   (∀ b H5,Same H3 H5->(match o with | none=>b=false | some x=>b=true/\ev elt δ'=.ok x)->N b H5)->tc (vτ τ4) H3 N)
  (h:Lg p EX (vτ τ) ((evI it (dτ τ)).bind fun ds=>(AR f ds).bind fun r=>.ok (.lst r)) H (KE p (Sh tn τ) H 0 (k + 1) Q)) :
  F7 nl fr (lI p EX tn it) (fun _=>lG K g) (fun _=>tc) (fun _=>lE p EX0 (tnB nl fr tn) elt) (vτ τ) H Q:=by
 refine ⟨τ,rfl,hF,ji,hji,h.bind.mono (Same.refl _) fun ds _ hd J us H1 IT=>?_⟩
 cases q:AR f ds with
 | exc c=>exact absurd q (EY ds c)
 | bad=>rw [q] at hd; exact nE hd
 | ok r =>
 rw [q] at hd
 have hd:KE p (Sh tn τ) H 0 (k + 1) Q (.lst r):=hd
 intro z D hD
 have hDH:H D=none:=IT.same.free hD
 refine ⟨fun i m acc H2=>m=ds.length - i/\i<=ds.length/\∃ (ts:List T) (r':List Pu.D),acc=ts.map T.val/\AR f (ds.drop i)=.ok r'/\T.dats ts ++ r'=r/\ts.length<=i/\H2 D=some (.lst acc)/\(∀ a u,a ≠ D->H1 a=some u->H2 a=some u) /\
  T.Oks p H2 ts/\(∀ a ∈ T.rests ts 0,(H a=none\/Sh tn τ a)/\a ≠ D)/\(∀ a ∈ T.adrs ts k,H1 a=none/\∃ vs,H2 a=some (.lst vs))/\T.Nds ts k,⟨ds.length,by simp,aaA _,[],r,rfl,by simpa using q,rfl,aaj _,Ak,fun a u n e=>by rw [Af n]; exact e,trivial,by simp [T.rests],by simp [T.adrs],by simp [T.Nds,T.adrs]⟩,?_⟩
 rintro i m acc H2 ⟨rfl,hi,ts,r',rfl,hr,hc,hts,hD2,kp,ok,src,new,nd⟩
 refine ⟨hD2,?_⟩
 have s2:Same H H2:=fun a u e=>kp a u (fun z=>by rw [z,hDH] at e; cases e) (IT.same a u e)
 have usok:T.Oks p H2 us:=T.oks_iff.mpr fun u hu=>(T.oks_iff.mp IT.ok u hu).keep fun a w e _=>kp a w (fun z=>by rw [z,hD] at e; cases e) e
 have out:D ∉ T.rests ts 0:=fun m=>(src D m).2 rfl
 rcases abW i ds.length with hlt | hge
 ·refine .inr ⟨IT.go i H2 usok hlt,fun x H3 y=>?_⟩
  have hdi:ds[i]?=some ds[i]:=aam hlt
  obtain ⟨s3,t,rfl,ht,tok,tus,tsrc⟩:=IT.yld i H2 x H3 ds[i] usok hdi y
  have hdrop:ds.drop i=ds[i] :: ds.drop (i + 1):=aa7 hlt
  rw [hdrop] at hr
  obtain ⟨o,r'',hfo,hr'',rfl⟩:=Jn hr
  obtain ⟨δ',hasg,hev⟩:=hf _ o hfo
  rw [<- ht,<- JK,DP] at hasg
  obtain ⟨τ4,h4,hδ⟩:=aas.mp hasg
  have sH3:Same H H3:=s2.trans s3
  have tusD:∀ a ∈ t.rest 0,a ≠ D:=fun a m z=>by
   obtain ⟨w,hw,m⟩:=T.mem_rests.mp (tus a m)
   exact (T.oks_iff.mp IT.ok w hw).dom m (z ▸ hD)
  have slot:∀ (n:Nat) (w:T),τ4[n]?=some (some w)->(w.Ok p H3/\∀ a ∈ w.rest 0,(H a=none\/Sh tn τ a)/\a ≠ D/\H1 a ≠ none)\/(n ∉ g.sl/\(EW nl fr τ)[n]?=some (some w)):=by
   intro n w e
   refine (Et (P:=fun o=>∀ w,o=some w->(w.Ok p H3/\∀ a ∈ w.rest 0,(H a=none\/Sh tn τ a)/\a ≠ D/\H1 a ≠ none)) h4 (fun w e=>?_) (fun a ts' e u hu w e'=>?_) n (some w) e).imp (fun q=>q w rfl) id
   ·cases e
    refine ⟨tok,fun a m=>⟨tsrc a m,tusD a m,fun z=>?_⟩⟩
    obtain ⟨w',hw',m'⟩:=T.mem_rests.mp (tus a m)
    exact (T.oks_iff.mp IT.ok w' hw').dom m' z
   ·cases e'
    have sub:∀ b ∈ u.rest 0,b ∈ t.rest 0:=fun b m=>by
     rcases e with rfl | rfl
     ·exact T.mem_rests.mpr ⟨u,hu,m⟩
     ·exact aaa _ (T.mem_rests.mpr ⟨u,hu,m⟩)
    have uok:u.Ok p H3:=by
     rcases e with rfl | rfl
     ·exact T.oks_iff.mp tok.2 u hu
     ·exact T.oks_iff.mp tok.2 u hu
    refine ⟨uok,fun b m=>?_⟩
    have m:=sub b m
    refine ⟨tsrc b m,tusD b m,fun z=>?_⟩
    obtain ⟨w',hw',m'⟩:=T.mem_rests.mp (tus b m)
    exact (T.oks_iff.mp IT.ok w' hw').dom m' z
  have F4:Fok p (tnB nl fr tn) τ4 H3:=fun n w j e ej hj=>by
   rcases slot n w e with q | ⟨_,q⟩
   ·exact q.1
   ·obtain ⟨k',e1,e2⟩:=Fk q ej hj
    exact (hF k' w j e1 e2 hj).same sH3
  have S4:∀ a,Sh (tnB nl fr tn) τ4 a->(H a=none\/Sh tn τ a)/\a ≠ D/\H1 a ≠ none:=by
   rintro a ⟨n,w,j,e,ej,hj,m⟩
   rcases slot n w e with q | ⟨_,q⟩
   ·exact q.2 a (T.rest_le w (aaA j) m)
   ·obtain ⟨k',e1,e2⟩:=Fk q ej hj
    have sh:Sh tn τ a:=⟨k',w,j,e1,e2,hj,m⟩
    have hd:=hF.dom sh
    exact ⟨.inr sh,fun z=>hd (z ▸ hDH),fun z=>hd (IT.same.free z)⟩
  rw [<- JL]
  refine Hq tok h4 (hev τ4 H3 _ hδ F4 fun b H5 s5 hb=>?_)
  have s25:Same H2 H5:=s3.trans s5
  cases o with
  | none =>
   subst hb
   rw [if_neg (by decide)]
   refine ⟨ds.length - (i + 1),by omega,rfl,hlt,ts,r'',rfl,hr'',?_,by omega,s25 _ _ hD2,fun a u n e=>s25 _ _ (kp a u n e),ok.same s25,src,fun a m=>⟨(new a m).1,let ⟨vs,e⟩:=(new a m).2; ⟨vs,s25 _ _ e⟩⟩,nd⟩
   simpa using hc
  | some xo =>
   obtain ⟨rfl,he⟩:=hb
   rw [if_pos rfl]
   refine ⟨τ4,rfl,F4.same s5,0,k,hk,?_⟩
   rw [hδ,he]
   intro t' H6 ht' R
   have s26:Same H2 H6:=s25.trans R.same
   have hD6:H6 D=some (.lst (ts.map T.val)):=s26 _ _ hD2
   refine ⟨hD6,by rw [aae]; exact acm hts (aaq hlt IT.len),ds.length - (i + 1),by omega,rfl,hlt,ts ++ [t'],r'',by simp,hr'',?_,by simp; omega,Ak,fun a u n e=>by rw [Af n]; exact s26 _ _ (kp a u n e),?_,?_,?_,?_⟩
   ·rw [T.dats_map,aan,<- T.dats_map]
    simpa [ht'] using hc
   ·-- all of them stand
    have tD:∀ a ∈ t'.rest 0,a ≠ D:=fun a m z=>by
     rcases R.src a m with q | q
     ·rw [z,s25 _ _ hD2] at q; cases q
     ·exact (S4 a q).2.1 z
    refine T.oks_iff.mpr fun w hw=>?_
    have kk:(∀ a ∈ w.rest 0,a ≠ D)->w.Ok p H6->w.Ok p (L2.upd H6 D (.lst (ts.map T.val ++ [t'.val]))):=fun hne hok=>hok.keep fun a u e hq=>by
     rw [Af ?_]; exact e
     rintro rfl
     rcases hq with hq | hq
     ·exact hne a hq rfl
     ·rw [hD6] at e
      exact hq _ (Option.some.inj e).symm
    rcases aac.mp hw with hw | hw
    ·exact kk (fun a m=>(src a (T.mem_rests.mpr ⟨w,hw,m⟩)).2) ((T.oks_iff.mp ok w hw).same s26)
    ·cases aaz.mp hw
     exact kk tD R.ok
   ·intro a m
    rw [T.rests_append,aac] at m
    rcases m with m | m
    ·exact src a m
    ·have m:a ∈ t'.rest 0:=by simpa [T.rests] using m
     rcases R.src a m with q | q
     ·exact ⟨.inl (sH3.trans s5 |>.free q),fun z=>by rw [z,s25 _ _ hD2] at q; cases q⟩
     ·exact ⟨(S4 a q).1,(S4 a q).2.1⟩
   ·intro a m
    rw [T.adrs_append,aac] at m
    rcases m with m | m
    ·obtain ⟨n1,vs,e⟩:=new a m
     have aD:a ≠ D:=fun z=>out (by rw [<- z]; exact (T.alls_iff ts k).mpr (.inl m))
     refine ⟨n1,vs,?_⟩
     rw [Af aD]
     exact s26 _ _ e
    ·have m:a ∈ t'.adr k:=by simpa [T.adrs] using m
     obtain ⟨n1,vs,e⟩:=R.new a m
     have aD:a ≠ D:=fun z=>by rw [z,s25 _ _ hD2] at n1; cases n1
     refine ⟨?_,vs,by rw [Af aD]; exact e⟩
     cases w:H1 a with
     | none=>rfl
     | some u=>rw [s25 _ _ (kp a u aD w)] at n1; cases n1
   ·refine T.nds_append nd (T.nds_cons.mpr ⟨R.nd,by simp [T.Nds,T.adrs],by simp [T.rests],by simp [T.adrs]⟩) (fun a m m'=>?_) (fun a m m'=>?_)
    ·have m':a ∈ t'.rest 0:=by simpa [T.rests] using m'
     rcases R.src a m' with q | q
     ·obtain ⟨_,vs,e⟩:=new a m
      rw [s25 _ _ e] at q; cases q
     ·exact (S4 a q).2.2 (new a m).1
    ·have m:a ∈ t'.adr k:=by simpa [T.adrs] using m
     obtain ⟨w,hw,m'⟩:=T.mem_rests.mp m'
     exact ((T.oks_iff.mp ok w hw).same s25).dom m' (R.new a m).1
 ·have hil:i=ds.length:=abI hi hge
  refine .inl ⟨IT.stop i H2 usok hge,hd (.lst D ts) H2 ?_ ⟨s2,⟨.inl hD2,ok⟩,fun a m=>?_,fun a m=>?_,?_,fun a m m'=>?_⟩⟩
  ·subst hil
   rw [abE] at hr
   simp only [AR] at hr
   cases hr
   simp only [T.dat,aaP] at hc ⊢
   rw [hc]
  ·simp only [T.rest,aah] at m
   rcases m with rfl | m
   ·exact .inl hDH
   ·exact (src a m).1
  ·simp only [T.adr,aah] at m
   rcases m with rfl | m
   ·exact ⟨hDH,_,hD2⟩
   ·exact ⟨IT.same.free (new a m).1,(new a m).2⟩
  ·simp only [T.adr,aaF]
   exact ⟨fun m=>out ((T.alls_iff ts k).mpr (.inl m)),nd.1⟩
  ·simp only [T.adr,T.rest,aah] at m m'
   rcases m' with rfl | m'
   ·exact out ((T.alls_iff ts k).mpr (.inr m))
   ·exact nd.2 a m m'
theorem Nm {K:Frag} {nl:Nat} {fr:List Nat} {g:Tg} {it:It} {k:Nat} {elt:E} {τ:Ft} {H:Hp} {Q:VK} {ji:Nat} (hF:Fok p tn τ H) (hji:jkI tn it=some ji) (hg:∀ i ∈ g.sl,i < nl) (hk:jk (tnB nl fr tn) elt=some (0,k))
  (h:Lg p EX (vτ τ) ((evI it (dτ τ)).bind fun ds=>(BI (fun d=>match Bg g d (blk nl fr (dτ τ)) with | some δ'=>ev elt δ' | none=>.bad) ds).bind fun r=>.ok (.lst r)) H (KE p (Sh tn τ) H 0 (k + 1) Q)) :
  EK nl fr (lI p EX tn it) (fun _=>lG K g) (fun _=>F6) (fun z=>lE p (fun _=>EX z.σ) (tnB nl fr tn) elt) (vτ τ) H Q:=by
 obtain ⟨f,hf⟩:∃ f:D->Res D,f=fun d=>match Bg g d (blk nl fr (dτ τ)) with | some δ'=>ev elt δ' | none=>.bad:=⟨_,rfl⟩
 rw [<- hf] at h
 refine ⟨τ,rfl,hF,ji,hji,h.bind.mono (Same.refl _) fun ds _ hd J us H1 IT=>?_⟩
 intro z D hzσ hD
 have hDH:H D=none:=IT.same.free hD
 refine ⟨fun i m acc H2=>m=ds.length - i/\i<=ds.length/\∃ (ts:List T),acc=ts.map T.val/\Lg p EX (vτ τ) ((BI f (ds.drop i)).bind fun r'=>.ok (.lst (T.dats ts ++ r'))) H (KE p (Sh tn τ) H 0 (k + 1) Q)/\ts.length<=i/\H2 D=some (.lst acc)/\(∀ a u,a ≠ D->H1 a=some u->H2 a=some u) /\
  T.Oks p H2 ts/\(∀ a ∈ T.rests ts 0,(H a=none\/Sh tn τ a)/\a ≠ D)/\(∀ a ∈ T.adrs ts k,H1 a=none/\∃ vs,H2 a=some (.lst vs))/\T.Nds ts k,⟨ds.length,by simp,aaA _,[],rfl,by simpa [T.dats] using hd,aaj _,Ak,fun a u n e=>by rw [Af n]; exact e,trivial,by simp [T.rests],by simp [T.adrs],by simp [T.Nds,T.adrs]⟩,?_⟩
 rintro i m acc H2 ⟨rfl,hi,ts,rfl,hr,hts,hD2,kp,ok,src,new,nd⟩
 refine ⟨hD2,?_⟩
 have s2:Same H H2:=fun a u e=>kp a u (fun z=>by rw [z,hDH] at e; cases e) (IT.same a u e)
 have usok:T.Oks p H2 us:=T.oks_iff.mpr fun u hu=>(T.oks_iff.mp IT.ok u hu).keep fun a w e _=>kp a w (fun z=>by rw [z,hD] at e; cases e) e
 have out:D ∉ T.rests ts 0:=fun m=>(src D m).2 rfl
 rcases abW i ds.length with hlt | hge
 ·refine .inr ⟨IT.go i H2 usok hlt,fun x H3 y=>?_⟩
  have hdi:ds[i]?=some ds[i]:=aam hlt
  obtain ⟨s3,t,rfl,ht,tok,tus,tsrc⟩:=IT.yld i H2 x H3 ds[i] usok hdi y
  have hdrop:ds.drop i=ds[i] :: ds.drop (i + 1):=aa7 hlt
  rw [hdrop] at hr
  simp only [BI] at hr
  have hr:Lg p EX (vτ τ) ((f ds[i]).bind fun x=>(BI f (ds.drop (i + 1))).bind fun r=>.ok (.lst (T.dats ts ++ x :: r))) H (KE p (Sh tn τ) H 0 (k + 1) Q):=by
   cases q:f ds[i] with
   | ok x =>
    rw [q] at hr
    cases q2:BI f (ds.drop (i + 1)) with
    | ok r=>rw [q2] at hr; exact hr
    | exc c=>rw [q2] at hr; exact hr
    | bad=>rw [q2] at hr; exact hr
   | exc c=>rw [q] at hr; exact hr
   | bad=>rw [q] at hr; exact hr
  have hr:=hr.bind
  obtain ⟨δ',hasg,hfe⟩:∃ δ',Bg g ds[i] (blk nl fr (dτ τ))=some δ'/\f ds[i]=ev elt δ':=by
   rw [hf] at hr ⊢
   cases q:Bg g ds[i] (blk nl fr (dτ τ)) with
   | none=>simp only [q] at hr; exact nE hr
   | some δ'=>exact ⟨δ',rfl,by simp only [q]⟩
  rw [hfe] at hr
  rw [<- ht,<- JK,DP] at hasg
  obtain ⟨τ4,h4,hδ⟩:=aas.mp hasg
  have sH3:Same H H3:=s2.trans s3
  have tusD:∀ a ∈ t.rest 0,a ≠ D:=fun a m z=>by
   obtain ⟨w,hw,m⟩:=T.mem_rests.mp (tus a m)
   exact (T.oks_iff.mp IT.ok w hw).dom m (z ▸ hD)
  have slot:∀ (n:Nat) (w:T),τ4[n]?=some (some w)->(w.Ok p H3/\∀ a ∈ w.rest 0,(H a=none\/Sh tn τ a)/\a ≠ D/\H1 a ≠ none)\/(n ∉ g.sl/\(EW nl fr τ)[n]?=some (some w)):=by
   intro n w e
   refine (Et (P:=fun o=>∀ w,o=some w->(w.Ok p H3/\∀ a ∈ w.rest 0,(H a=none\/Sh tn τ a)/\a ≠ D/\H1 a ≠ none)) h4 (fun w e=>?_) (fun a ts' e u hu w e'=>?_) n (some w) e).imp (fun q=>q w rfl) id
   ·cases e
    refine ⟨tok,fun a m=>⟨tsrc a m,tusD a m,fun z=>?_⟩⟩
    obtain ⟨w',hw',m'⟩:=T.mem_rests.mp (tus a m)
    exact (T.oks_iff.mp IT.ok w' hw').dom m' z
   ·cases e'
    have sub:∀ b ∈ u.rest 0,b ∈ t.rest 0:=fun b m=>by
     rcases e with rfl | rfl
     ·exact T.mem_rests.mpr ⟨u,hu,m⟩
     ·exact aaa _ (T.mem_rests.mpr ⟨u,hu,m⟩)
    have uok:u.Ok p H3:=by
     rcases e with rfl | rfl
     ·exact T.oks_iff.mp tok.2 u hu
     ·exact T.oks_iff.mp tok.2 u hu
    refine ⟨uok,fun b m=>?_⟩
    have m:=sub b m
    refine ⟨tsrc b m,tusD b m,fun z=>?_⟩
    obtain ⟨w',hw',m'⟩:=T.mem_rests.mp (tus b m)
    exact (T.oks_iff.mp IT.ok w' hw').dom m' z
  have F4:Fok p (tnB nl fr tn) τ4 H3:=fun n w j e ej hj=>by
   rcases slot n w e with q | ⟨_,q⟩
   ·exact q.1
   ·obtain ⟨k',e1,e2⟩:=Fk q ej hj
    exact (hF k' w j e1 e2 hj).same sH3
  have S4:∀ a,Sh (tnB nl fr tn) τ4 a->(H a=none\/Sh tn τ a)/\a ≠ D/\H1 a ≠ none:=by
   rintro a ⟨n,w,j,e,ej,hj,m⟩
   rcases slot n w e with q | ⟨_,q⟩
   ·exact q.2 a (T.rest_le w (aaA j) m)
   ·obtain ⟨k',e1,e2⟩:=Fk q ej hj
    have sh:Sh tn τ a:=⟨k',w,j,e1,e2,hj,m⟩
    have hd:=hF.dom sh
    exact ⟨.inr sh,fun z=>hd (z ▸ hDH),fun z=>hd (IT.same.free z)⟩
  rw [<- JL]
  refine Hq tok h4 ?_
  simp only [F6,↓reduceIte]
  refine ⟨τ4,rfl,F4,0,k,hk,?_⟩
  rw [hδ]
  cases he:ev elt δ' with
  | exc c =>
   rw [he] at hr
   intro hc H' sx
   show EX z.σ (.ref (p.cl c)) none H'
   rw [hzσ]
   exact hr hc H' (sH3.trans sx)
  | bad=>rw [he] at hr; exact nE hr
  | ok xo =>
   rw [he] at hr
   intro t' H6 ht' R
   have s26:Same H2 H6:=s3.trans R.same
   have hD6:H6 D=some (.lst (ts.map T.val)):=s26 _ _ hD2
   refine ⟨hD6,by rw [aae]; exact acm hts (aaq hlt IT.len),ds.length - (i + 1),by omega,rfl,hlt,ts ++ [t'],by simp,?_,by simp; omega,Ak,fun a u n e=>by rw [Af n]; exact s26 _ _ (kp a u n e),?_,?_,?_,?_⟩
   ·have e1:T.dats (ts ++ [t'])=T.dats ts ++ [xo]:=by
     rw [T.dats_map,aan,<- T.dats_map]; simp [ht']
    rw [e1]
    simp only [abn,aaV,aa2]
    exact hr
   ·have tD:∀ a ∈ t'.rest 0,a ≠ D:=fun a m z=>by
     rcases R.src a m with q | q
     ·rw [z,s3 _ _ hD2] at q; cases q
     ·exact (S4 a q).2.1 z
    refine T.oks_iff.mpr fun w hw=>?_
    have kk:(∀ a ∈ w.rest 0,a ≠ D)->w.Ok p H6->w.Ok p (L2.upd H6 D (.lst (ts.map T.val ++ [t'.val]))):=fun hne hok=>hok.keep fun a u e hq=>by
     rw [Af ?_]; exact e
     rintro rfl
     rcases hq with hq | hq
     ·exact hne a hq rfl
     ·rw [hD6] at e
      exact hq _ (Option.some.inj e).symm
    rcases aac.mp hw with hw | hw
    ·exact kk (fun a m=>(src a (T.mem_rests.mpr ⟨w,hw,m⟩)).2) ((T.oks_iff.mp ok w hw).same s26)
    ·cases aaz.mp hw
     exact kk tD R.ok
   ·intro a m
    rw [T.rests_append,aac] at m
    rcases m with m | m
    ·exact src a m
    ·have m:a ∈ t'.rest 0:=by simpa [T.rests] using m
     rcases R.src a m with q | q
     ·exact ⟨.inl (sH3.free q),fun z=>by rw [z,s3 _ _ hD2] at q; cases q⟩
     ·exact ⟨(S4 a q).1,(S4 a q).2.1⟩
   ·intro a m
    rw [T.adrs_append,aac] at m
    rcases m with m | m
    ·obtain ⟨n1,vs,e⟩:=new a m
     have aD:a ≠ D:=fun z=>out (by rw [<- z]; exact (T.alls_iff ts k).mpr (.inl m))
     refine ⟨n1,vs,?_⟩
     rw [Af aD]
     exact s26 _ _ e
    ·have m:a ∈ t'.adr k:=by simpa [T.adrs] using m
     obtain ⟨n1,vs,e⟩:=R.new a m
     have aD:a ≠ D:=fun z=>by rw [z,s3 _ _ hD2] at n1; cases n1
     refine ⟨?_,vs,by rw [Af aD]; exact e⟩
     cases w:H1 a with
     | none=>rfl
     | some u=>rw [s3 _ _ (kp a u aD w)] at n1; cases n1
   ·refine T.nds_append nd (T.nds_cons.mpr ⟨R.nd,by simp [T.Nds,T.adrs],by simp [T.rests],by simp [T.adrs]⟩) (fun a m m'=>?_) (fun a m m'=>?_)
    ·have m':a ∈ t'.rest 0:=by simpa [T.rests] using m'
     rcases R.src a m' with q | q
     ·obtain ⟨_,vs,e⟩:=new a m
      rw [s3 _ _ e] at q; cases q
     ·exact (S4 a q).2.2 (new a m).1
    ·have m:a ∈ t'.adr k:=by simpa [T.adrs] using m
     obtain ⟨w,hw,m'⟩:=T.mem_rests.mp m'
     exact ((T.oks_iff.mp ok w hw).same s3).dom m' (R.new a m).1
 ·have hil:i=ds.length:=abI hi hge
  subst hil
  rw [abE] at hr
  have hr:KE p (Sh tn τ) H 0 (k + 1) Q (.lst (T.dats ts ++ [])):=hr
  rw [aaP] at hr
  refine .inl ⟨IT.stop _ H2 usok hge,hr (.lst D ts) H2 rfl ⟨s2,⟨.inl hD2,ok⟩,fun a m=>?_,fun a m=>?_,?_,fun a m m'=>?_⟩⟩
  ·simp only [T.rest,aah] at m
   rcases m with rfl | m
   ·exact .inl hDH
   ·exact (src a m).1
  ·simp only [T.adr,aah] at m
   rcases m with rfl | m
   ·exact ⟨hDH,_,hD2⟩
   ·exact ⟨IT.same.free (new a m).1,(new a m).2⟩
  ·simp only [T.adr,aaF]
   exact ⟨fun m=>out ((T.alls_iff ts k).mpr (.inl m)),nd.1⟩
  ·simp only [T.adr,T.rest,aah] at m m'
   rcases m' with rfl | m'
   ·exact out ((T.alls_iff ts k).mpr (.inr m))
   ·exact nd.2 a m m'
structure ScOk (X:Cx) (scope:Scope) (loc:List Str) (fr:List Nat) (frn:List Str):Prop where
 hfr:∀ (j:Nat) (k:Nat) (x:Str),fr[j]?=some k->frn[j]?=some x->X.N[k]?=some x/\X.env.kindOf x=some .cell/\(x,NameKind.free) ∈ scope.names
 hln:frn.length=fr.length
 hcell:∀ y ∈ scope.names,y.2 ≠ .cell
 hkind:scope.kind=.function
 hnames:∀ y ∈ scope.names,y.2=.local->scope.names.lookup y.1=some .local
 hfree:∀ y ∈ scope.names,y.2=.free->X.env.kindOf y.1=some .cell
 hkin:∀ (x:Str),x ∈ frn->(relabel scope X.env).names.lookup x=some .cell
 hsc:X.env.scope.kind=.function
theorem Iu {K:Frag} {nl:Nat} {fr:List Nat} {g:Tg} {it:It} {elt:E} {σ:L2.St} {H:Hp} {Q:VK} (hg:∀ i ∈ g.sl,i < nl) (h:lE p EX tn (.comp0 nl fr g it elt) σ H Q):F7 nl fr (lI p EX tn it) (fun _=>lG K g) (fun _=>F6) (fun _=>lE p EX0 (tnB nl fr tn) elt) σ H Q:=by
 obtain ⟨τ,rfl,hF,j,k,hj,h⟩:=h
 simp only [jk] at hj
 obtain ⟨ji,h1,hj⟩:=bS hj
 obtain ⟨⟨j2,k2⟩,h2,hj⟩:=bS hj
 obtain ⟨hc,e⟩:=CL hj
 cases e
 have hc:j2=0:=of_decide_eq_true hc
 subst hc
 simp only [ev] at h
 refine Pj hF h1 hg h2 (fun d o e=>?_) h
 split at e
 ·rename_i δ' hd
  obtain ⟨x,e1,e2⟩:=Res.bind_eq_ok e
  cases e2
  exact ⟨δ',hd,fun τ4 H3 N _ _ hN=>hN true H3 (Same.refl _) ⟨rfl,e1⟩⟩
 ·cases e
theorem Iv {K:Frag} {nl:Nat} {fr:List Nat} {g:Tg} {it:It} {elt:E} {σ:L2.St} {H:Hp} {Q:VK} (hg:∀ i ∈ g.sl,i < nl) (h:lE p EX tn (.compX nl fr g it elt) σ H Q):EK nl fr (lI p EX tn it) (fun _=>lG K g) (fun _=>F6) (fun z=>lE p (fun _=>EX z.σ) (tnB nl fr tn) elt) σ H Q:=by
 obtain ⟨τ,rfl,hF,j,k,hj,h⟩:=h
 simp only [jk] at hj
 obtain ⟨ji,h1,hj⟩:=bS hj
 obtain ⟨⟨j2,k2⟩,h2,hj⟩:=bS hj
 obtain ⟨hc,e⟩:=CL hj
 cases e
 have hc:j2=0:=of_decide_eq_true hc
 subst hc
 simp only [ev] at h
 exact Nm hF h1 hg h2 h
theorem LK {elt tg iter:Expr} {scope:Scope} {loc:List Str} {fr:List Nat} {frn:List Str} {g:Tg} {it:It} {x:E} (hc:X.calm=true) (S:ScOk X scope loc fr frn) (hi:PI X tg iter (lI p EX tn it)) (hg:∀ i ∈ g.sl,i < loc.length)
  (hb:∀ z:Bk,PG (X.blk scope z.C z.fp (loc ++ frn) z.s z.H) tg (lG X.K g)/\PE (X.blk scope z.C z.fp (loc ++ frn) z.s z.H) elt (lE p EX0 (tnB loc.length fr tn) x)) (hs:∀ y,foldedSetIterable iter X.env y=pure y) :
  PE X (.ListComp elt [⟨tg,iter,[],0⟩] scope pos) (lE p EX tn (.comp0 loc.length fr g it x)) :=
 PE.mono (Ox loc fr frn hc hi S.hfr S.hln S.hcell S.hkind S.hnames S.hfree S.hkin S.hsc (fun _ _ _ _ _ h=>Fj hg h) (fun z=>⟨(hb z).1,Fe,(hb z).2⟩) hs) fun σ H Q h=>Iu hg h
theorem LL {elt tg iter:Expr} {scope:Scope} {loc:List Str} {fr:List Nat} {frn:List Str} {g:Tg} {it:It} {x:E} (hc:X.calm=true) (hp:DI X EX/\X.stack=X.env :: X.outer/\X.env.frame=some X.env.locals) (S:ScOk X scope loc fr frn) (hi:PI X tg iter (lI p EX tn it)) (hg:∀ i ∈ g.sl,i < loc.length)
  (hb:∀ z:Bx,PG (X.blkX scope z (loc ++ frn) EX) tg (lG X.K g)/\PE (X.blkX scope z (loc ++ frn) EX) elt (lE p (fun _=>EX z.σ) (tnB loc.length fr tn) x)) (hs:∀ y,foldedSetIterable iter X.env y=pure y) :
  PE X (.ListComp elt [⟨tg,iter,[],0⟩] scope pos) (lE p EX tn (.compX loc.length fr g it x)) :=
 PE.mono (MY loc fr frn hc hp.1 hp.2.1 hp.2.2 hi S.hfr S.hln S.hcell S.hkind S.hnames S.hfree S.hkin S.hsc (fun _ _ _ _ _ h=>Fj hg h) (fun z=>⟨(hb z).1,Fe,(hb z).2⟩) hs) fun σ H Q h=>Iv hg h
theorem PS.mono {X:Cx} {st:Stmt} {t t':TS} (h:PS X st t) (m:∀ D σ H,t' D σ H->t D σ H):PS X st t':=fun pins s σ H D I q=>h pins s σ H D I (m _ _ _ q)
theorem Ky {elt tg iter:Expr} {scope:Scope} {loc:List Str} {fr:List Nat} {frn:List Str} {g:Tg} {it:It} {x:E} {y:Str} {k:Nat} {py spos:Pos} (hc:X.calm=true) (S:ScOk X scope loc fr frn) (hi:PI X tg iter (lI p EX tn it)) (hg:∀ i ∈ g.sl,i < loc.length)
  (hb:∀ z:Bk,PG (X.blk scope z.C z.fp (loc ++ frn) z.s z.H) tg (lG X.K g)/\PE (X.blk scope z.C z.fp (loc ++ frn) z.s z.H) elt (lE p EX0 (tnB loc.length fr tn) x)) (hs:∀ y,foldedSetIterable iter X.env y=pure y)
  (hN:X.N.Nodup) (hk:X.N[k]?=some y) (hx:Loc X.env.scope y) (hf:X.fn y=true\/X.env.scope.names.lookup y=some .local) (hsw:swapsWith (.ListComp elt [⟨tg,iter,[],0⟩] scope pos) (some (.Name y py)) spos.line X.env=pure true) :
  PS X (.Assign [.Name y py] (.ListComp elt [⟨tg,iter,[],0⟩] scope pos) spos) (DZ (lE p EX tn (.comp0 loc.length fr g it x)) (Cf k)) :=
 PS.mono (Ki loc fr frn hc hi S.hfr S.hln S.hcell S.hkind S.hnames S.hfree S.hkin S.hsc (fun _ _ _ _ _ h=>Fj hg h) (fun z=>⟨(hb z).1,Fe,(hb z).2⟩) hs hN hk hx hf hsw) fun D σ H h=>Iu hg h
theorem Kz {elt tg iter:Expr} {scope:Scope} {loc:List Str} {fr:List Nat} {frn:List Str} {g:Tg} {it:It} {x:E} {y:Str} {k:Nat} {py spos:Pos} (hc:X.calm=true) (hp:DI X EX/\X.stack=X.env :: X.outer/\X.env.frame=some X.env.locals) (S:ScOk X scope loc fr frn) (hi:PI X tg iter (lI p EX tn it)) (hg:∀ i ∈ g.sl,i < loc.length)
  (hb:∀ z:Bx,PG (X.blkX scope z (loc ++ frn) EX) tg (lG X.K g)/\PE (X.blkX scope z (loc ++ frn) EX) elt (lE p (fun _=>EX z.σ) (tnB loc.length fr tn) x)) (hs:∀ y,foldedSetIterable iter X.env y=pure y)
  (hN:X.N.Nodup) (hk:X.N[k]?=some y) (hx:Loc X.env.scope y) (hf:X.fn y=true\/X.env.scope.names.lookup y=some .local) (hsw:swapsWith (.ListComp elt [⟨tg,iter,[],0⟩] scope pos) (some (.Name y py)) spos.line X.env=pure true) :
  PS X (.Assign [.Name y py] (.ListComp elt [⟨tg,iter,[],0⟩] scope pos) spos) (DZ (lE p EX tn (.compX loc.length fr g it x)) (Cf k)) :=
 PS.mono (Jm loc fr frn hc hp.1 hp.2.1 hp.2.2 hi S.hfr S.hln S.hcell S.hkind S.hnames S.hfree S.hkin S.hsc (fun _ _ _ _ _ h=>Fj hg h) (fun z=>⟨(hb z).1,Fe,(hb z).2⟩) hs hN hk hx hf hsw) fun D σ H h=>Iv hg h
end
structure CkC where
 N:List Str
 sc:Scope
 fn:Bool
 rz:Bool
 cm:Bool
noncomputable def Bv (sc:Scope) (x:Str):Bool:=match sc.names.lookup x with
 | some .local=>true
 | some .cell=>true
 | some .free=>true
 | _=>false
noncomputable def CA (c:CkC) (x:Str):Bool:=match c.sc.names.lookup x with
 | some .local=>true
 | some .cell=>c.fn
 | _=>false
noncomputable def glB (sc:Scope) (x:Str):Bool:=match sc.names.lookup x with
 | some .globalImplicit=>true
 | _=>false
noncomputable def AB (x:Str):Bool:=!(x==("__debug__" : Str)) && !(x==("__classdict__" : Str))
noncomputable def DQ (scope outer:Scope):Scope :=
 { scope with names:=scope.names.map fun (n,k)=>if (k==.free && outer.kind==.function && outer.names.lookup n==some .cell) then (n,.cell) else (n,k) }
theorem FJ (scope:Scope) (env:Env):relabel scope env=DQ scope env.scope:=rfl
noncomputable def EZ:List Str:=["len", "min", "max", "abs", "int", "list", "tuple", "all", "any", "sum", "sorted", "isinstance", "str", "range", "enumerate", "zip", "reversed"]
noncomputable def ckG (c:CkC):Tg->Expr->Bool
 | .nm i,.Name x _=>(c.N[i]?==some x) && CA c x
 | .tp is,.Tuple es _ _=>ckGs c is es && c.cm
 | _,_=>false
where ckGs (c:CkC):List Nat->List Expr->Bool
 | [],[]=>true
 | i :: is,.Name x _ :: es=>(c.N[i]?==some x) && CA c x && ckGs c is es
 | _,_=>false
noncomputable def scB (c:CkC) (scope:Scope) (loc:List Str) (fr:List Nat) (frn:List Str):Bool :=
 decide (frn.length=fr.length) && ((fr.zip frn).all fun q=>(c.N[q.1]?==some q.2) && (c.sc.names.lookup q.2==some .cell) && scope.names.contains (q.2,NameKind.free)) &&
 (scope.names.all fun y=>(y.2 != .cell) && (y.2 != .local || scope.names.lookup y.1==some .local) && (y.2 != .free || c.sc.names.lookup y.1==some .cell)) && (scope.kind==.function) && (c.sc.kind==.function) &&
 (frn.all fun x=>(DQ scope c.sc).names.lookup x==some .cell) && decide (loc ++ frn).Nodup
noncomputable def Fl (c:CkC) (fr:List Nat):List Str:=fr.map fun j=>c.N.getD j ""
noncomputable def DR:Expr->List Str
 | .Name x _=>[x]
 | .Tuple es _ _=>es.filterMap fun | .Name x _=>some x | _=>none
 | _=>[]
noncomputable def Hr:Expr->Bool
 | .Dict [] [] _=>true
 | .Dict [some (.Constant (.int _) _ _)] [.Constant (.int _) _ _] _=>true
 | _=>false
theorem Nn {e:Expr} (h:Hr e=true):(∃ p,e=.Dict [] [] p)\/∃ i k p1 j k2 p2 p,e=.Dict [some (.Constant (.int i) k p1)] [.Constant (.int j) k2 p2] p:=by
 unfold Hr at h
 split at h
 ·exact .inl ⟨_,rfl⟩
 ·exact .inr ⟨_,_,_,_,_,_,_,rfl⟩
 ·cases h
noncomputable def BX:Expr->Bool
 | .Set _ _ _=>false
 | _=>true
noncomputable def FK:List Str:=["RoomError", "BadShape", "NoNode", "NoPage", "NotRooms", "NotATree", "BadRoom", "Unlike", "BadScale", "BadStore", "BadName", "BadLength", "Twice", "Full", "NoThing", "NoDeed", "NoLine"]
noncomputable def Ar (n:Nat):Str:=FK.getD n "RoomError"
theorem KA (n:Nat):(Ar n==("__debug__" : Str))=false:=by
 have h:∀ x ∈ FK,(x==("__debug__" : Str))=false:=by decide
 unfold Ar
 rw [abv]
 cases q:FK[n]? with
 | none=>decide
 | some x=>exact h x (aai q)
noncomputable def GA:Kd->String
 | .int => "int"
 | .bool => "bool"
 | .str => "str"
 | .list => "list"
 | .tuple => "tuple"
 | .dict => "dict"
 | .verr => "ValueError"
 | .cls _ => ""
noncomputable def D8:Kd->Str
 | .cls n=>Ar n
 | k=>Str.ofString (GA k)
noncomputable def No (c:CkC) (k:Kd):Expr->Bool
 | .Name x _=>(x==D8 k) && glB c.sc x
 | _=>false
noncomputable def nmB:Expr->Bool
 | .Name _ _=>true
 | _=>false
noncomputable def Re:Expr->Bool
 | .Constant _ _ _=>true
 | _=>false
noncomputable def KB:Expr->Bool
 | .Name _ _=>true
 | .Subscript _ _ _=>true
 | _=>false
noncomputable def LM:Bi->Str
 | .len => "len"
 | .int => "int"
 | .tupleL => "tuple"
 | .all => "all"
 | .str => "str"
 | .lenS => "len"
 | .intS => "int"
noncomputable def Rf:Bi->Bool
 | _=>true
noncomputable def Iw:Bi->Bool
 | .len=>true
 | .int=>true
 | .tupleL=>true
 | _=>false
mutual
noncomputable def E.tst:E->Bool
 | .ifx _ _ _=>false
 | .not a=>a.tst
 | .bo _ es=>es.tsts
 | _=>true
noncomputable def Es.tsts:Es->Bool
 | .nil=>true
 | .cons e r=>e.tst && r.tsts
end
noncomputable def Fm (gens:List Comprehension) (f:Expr->Expr->List Expr->Bool):Bool:=match gens with
 | [⟨tg,iter,ifs,n⟩]=>decide (n=0) && f tg iter ifs
 | _=>false
theorem C9 {gens:List Comprehension} {f:Expr->Expr->List Expr->Bool} (h:Fm gens f=true):∃ tg iter ifs,gens=[⟨tg,iter,ifs,0⟩]/\f tg iter ifs=true:=by
 unfold Fm at h
 split at h
 ·rw [aak] at h
  cases of_decide_eq_true h.1
  exact ⟨_,_,_,rfl,h.2⟩
 ·cases h
noncomputable def LO:Expr->Bool
 | .Constant .none _ _=>true
 | _=>false
noncomputable def CQ (b:Bool) (f:Expr->Bool):Option Expr->Bool
 | none=>b
 | some l=>!b && f l
mutual
noncomputable def ckE (c:CkC):E->Expr->Bool
 | .nm i,.Name x _=>(c.N[i]?==some x) && Bv c.sc x && AB x
 | .cN,.Constant .none _ _=>true
 | .cB b,.Constant (.bool b') _ _=>b==b'
 | .cI i,.Constant (.int i') _ _=>i==i'
 | .cS x,.Constant (.str x') _ _=>x==x'
 | .gl x d,.Name y _=>(x==y) && glB c.sc y && AB y && D.scal d
 | .tup es,.Tuple xs _ _=>ckEs c es xs && decide (es.len<=1000)
 | .lst es,.List xs _=>ckEs c es xs && decide (es.len<=1000)
 | .bin o a b,.BinOp l op r _=>(op==Kp o) && ckE c a l && ckE c b r
 | .neg a,.UnaryOp .USub l _=>ckE c a l
 | .not a,.UnaryOp .Not l _=>ckE c a l
 | .cmp o a b,.Compare l [op] [r] _=>(op==AO o) && ckE c a l && ckE c b r && BX r
 | .chain o o' a b d,.Compare l [op,op'] [r,r'] _=>(op==AO o) && (op'==AO o') && ckE c a l && ckE c b r && ckE c d r' && BX r'
 | .isN n a,.Compare l [op] [r] _=>(op==if n then .IsNot else .Is) && LO r && ckE c a l
 | .bo k es,.BoolOp op xs _=>(op==if k then .And else .Or) && ckEs c es xs
 | .ifx t a b,.IfExp t' a' b' _=>ckE c t t' && t.tst && ckE c a a' && ckE c b b'
 | .ix a i,.Subscript a' i' _=>ckE c a a' && ckE c i i' && AA i'
 | .ixS a i,.Subscript a' i' _=>ckE c a a' && ckE c i i' && AA i'
 | .ixL a i,.Subscript a' i' _=>ckE c a a' && ckE c i i' && AA i'
 | .ixC a i,.Subscript a' i' _=>ckE c a a' && ckE c i i' && AA i'
 | .slT a lo hi,.Subscript a' (.Slice lo' hi' none _) _=>ckE c a a' && CQ lo.isCN (ckE c lo) lo' && CQ hi.isCN (ckE c hi) hi'
 | .joi a b,.Call (.Attribute o name ap) [e] [] cp=>(name==("join" : Str)) && ckE c a o && Re o && ckE c b e && Ai e && (ap.endLine==cp.line)
 | .spl a b,.Call (.Attribute o name ap) [e] [] cp=>(name==("split" : Str)) && ckE c a o && KB o && ckE c b e && Ai e && (ap.endLine==cp.line)
 | .inT n a b,.Compare l [op] [r] _=>(op==L2.FG n) && ckE c a l && ckE c b r && BX r
 | .rep x n,.BinOp (.Constant (.str x') _ _) .Mult (.Constant (.int n') _ _) _=>(x==x') && (n'==(n:Int))
 | .slc a lo hi,.Subscript a' (.Slice lo' hi' none _) _=>ckE c a a' && CQ lo.isCN (ckE c lo) lo' && CQ hi.isCN (ckE c hi) hi'
 | .call f es,.Call (.Name x _) xs [] _=>(x==f.name) && glB c.sc x && AB x && ckEs c es xs && decide (es.len=f.ar) && decide (0 < es.len) && c.cm
 | .bi b es,.Call (.Name x _) xs [] _=>(x==LM b) && glB c.sc x && Rf b && ckEs c es xs && decide (0 < es.len) && (c.cm || Iw b)
 | .dct,e=>Hr e
 | .mt .count a es,.Call (.Attribute o name ap) xs [] cp=>(name==("count" : Str)) && ckE c a o && KB o && ckEs c es xs && decide (es.len=1) && (ap.endLine==cp.line)
 | .mt .index a es,.Call (.Attribute o name ap) xs [] cp=>(name==("index" : Str)) && ckE c a o && nmB o && ckEs c es xs && decide (es.len=1) && (ap.endLine==cp.line)
 | .isi a k,.Call (.Name x _) [l,r] [] _=>(x==("isinstance" : Str)) && glB c.sc x && ckE c a l && No c k r && Ai l
 | .comp0 nl fr g it elt,.ListComp elt' gens scope _=>Fm gens fun tg iter ifs=>c.cm && ifs.isEmpty && scB c scope (DR tg) fr (Fl c fr) && decide (nl=(DR tg).length) && (g.sl.all fun i=>decide (i < nl)) && ckI c tg it iter && BX iter &&
   ckG ⟨DR tg ++ Fl c fr,DQ scope c.sc,false,false,c.cm⟩ g tg && ckE ⟨DR tg ++ Fl c fr,DQ scope c.sc,false,false,c.cm⟩ elt elt'
 | .compX nl fr g it elt,.ListComp elt' gens scope _=>Fm gens fun tg iter ifs=>c.rz && c.cm && ifs.isEmpty && scB c scope (DR tg) fr (Fl c fr) && decide (nl=(DR tg).length) && (g.sl.all fun i=>decide (i < nl)) && ckI c tg it iter && BX iter &&
   ckG ⟨DR tg ++ Fl c fr,DQ scope c.sc,false,false,c.cm⟩ g tg && ckE ⟨DR tg ++ Fl c fr,DQ scope c.sc,false,false,c.cm⟩ elt elt'
 | _,_=>false
noncomputable def ckEs (c:CkC):Es->List Expr->Bool
 | .nil,[]=>true
 | .cons e r,x :: xs=>ckE c e x && Ai x && ckEs c r xs
 | _,_=>false
noncomputable def ckI (c:CkC) (tg:Expr):It->Expr->Bool
 | .seq e,x=>ckE c e x
 | .seqL e,x=>ckE c e x
 | .r1 a,.Call (.Name x _) [l] [] _=>(x==("range" : Str)) && glB c.sc x && ckE c a l && Ai l
 | .chs a,e=>ckE c a e
 | _,_=>false
end
inductive Nd1 where
 | fn (F:Fn)
 | fm (F:Fn)
 | cl (n:Nat)
 | rs (n:Nat)
 | gl (x:Str) (d:D)
mutual
noncomputable def E.need:E->List Nd1
 | .nm _=>[]
 | .cN=>[]
 | .cB _=>[]
 | .cI _=>[]
 | .cS _=>[]
 | .gl x d=>[.gl x d]
 | .tup es=>es.need
 | .lst es=>es.need
 | .bin _ a b=>a.need ++ b.need
 | .neg a=>a.need
 | .not a=>a.need
 | .cmp _ a b=>a.need ++ b.need
 | .chain _ _ a b c=>a.need ++ (b.need ++ c.need)
 | .isN _ a=>a.need
 | .bo _ es=>es.need
 | .ifx c a b=>c.need ++ (a.need ++ b.need)
 | .ix a i=>a.need ++ i.need
 | .ixS a i=>a.need ++ i.need
 | .ixL a i=>a.need ++ i.need
 | .ixC a i=>a.need ++ i.need
 | .slT a lo hi=>a.need ++ (lo.need ++ hi.need)
 | .joi a b=>a.need ++ b.need
 | .spl a b=>a.need ++ b.need
 | .inT _ a b=>a.need ++ b.need
 | .rep _ _=>[]
 | .slc a lo hi=>a.need ++ (lo.need ++ hi.need)
 | .call f es=>.fn f :: es.need
 | .bi _ es=>es.need
 | .dct=>[]
 | .isi a k=>(match k with | .cls n=>[.cl n] | _=>[]) ++ a.need
 | .mt _ a es=>a.need ++ es.need
 | .comp0 _ _ _ it elt=>it.need ++ elt.need
 | .compX _ _ _ it elt=>it.need ++ elt.need
noncomputable def Es.need:Es->List Nd1
 | .nil=>[]
 | .cons e r=>e.need ++ r.need
noncomputable def It.need:It->List Nd1
 | .seq e=>e.need
 | .seqL e=>e.need
 | .r1 a=>a.need
 | .chs e=>e.need
end
noncomputable def dT:D->T
 | .bl b=>.bl b
 | .int i=>.int i
 | .str x=>.str x
 | _=>.non
theorem Rg {d:D} (h:D.scal d=true):(dT d).dat=d/\(dT d).sc=true:=by cases d <;> first | exact ⟨rfl,rfl⟩ | cases h
noncomputable def NeedOk (p:Px) (lv:Nat) (X:Cx):Nd1->Prop
 | .fn F=>F.lv<=lv/\Nb p X F
 | .fm F=>F.lv<=lv/\Rc p X F
 | .cl n=>p.has n=true/\X.mg (Ar n)=some (.ref (p.cl n))
 | .rs n=>p.has n=true/\nsIn X.K mainGlobals (Ar n)=some (some (.ref (p.cl n)))/\excIn X.K (p.cl n) Gu "ValueError.__new__" = true
 | .gl x d=>∃ u,X.mg x=some u/\RelV (dT d).val u
structure Kx (p:Px):Prop where
 no:p.has 999=false
 x:∀ c,p.has c=true->XCls p.K (p.cl c)
 kb:∀ c,p.has c=true->∀ T ∈ (["int", "bool", "str", "list", "tuple", "dict"]:List String),kitOne p.K (.ref (p.cl c)) (.type T)=some false
 kv:∀ c,p.has c=true->kitOne p.K (.ref (p.cl c)) (.type "ValueError")=some true
 kc:∀ c d,p.has c=true->p.has d=true->kitOne p.K (.ref (p.cl c)) (.ref (p.cl d))=some (isa c d)
structure Ct (p:Px) (c:CkC) (lv:Nat) (X:Cx) (EX:EXT):Prop where
 K:X.K=p.K
 N:X.N=c.N
 sc:X.env.scope=c.sc
 nd:X.N.Nodup
 calm:c.cm=true->X.calm=true
 room:c.cm=true->Room lv X.A
 un:X.A.units + 64 < cLine
 blt:∀ y ∈ EZ,X.mg y=none
 bt:∀ y ∈ (["bool", "dict", "ValueError"]:List Str),X.mg y=none
 pass:Dn (CXe X.prog X.w) X EX
 fn:c.fn=true->∀ x,X.fn x=true
 kx:Kx p
 ph:c.rz=true->DI X EX/\X.stack=X.env :: X.outer/\X.env.frame=some X.env.locals
section
variable {p:Px} {c:CkC} {lv:Nat} {X:Cx} {EX:EXT} {tn:List Nat} {pos np:Pos}
theorem Ct.gl (C:Ct p c lv X EX) {x:Str} (h:glB c.sc x=true):Gl X x:=by
 unfold glB at h
 show X.env.scope.names.lookup x=_
 rw [C.sc]
 split at h
 ·assumption
 ·cases h
theorem Ct.vis (C:Ct p c lv X EX) {x:Str} (h:Bv c.sc x=true):Vis X.env.scope x:=by
 unfold Bv at h
 unfold Vis
 rw [C.sc]
 split at h
 ·exact .inl ‹_›
 ·exact .inr (.inl ‹_›)
 ·exact .inr (.inr ‹_›)
 ·cases h
theorem Ct.loc (C:Ct p c lv X EX) {x:Str} (h:CA c x=true):L2.Loc X.env.scope x/\(X.fn x=true\/X.env.scope.names.lookup x=some .local):=by
 unfold CA at h
 unfold L2.Loc
 rw [C.sc]
 split at h
 ·rename_i e; exact ⟨.inl e,.inr e⟩
 ·rename_i e; exact ⟨.inr e,.inl (C.fn h x)⟩
 ·cases h
theorem AZ {x:Str} (h:AB x=true):(x==("__debug__" : Str))=false/\(x==("__classdict__" : Str))=false:=by
 unfold AB at h
 rw [aak,abo,abo] at h
 exact h
theorem Ct.hu (C:Ct p c lv X EX):X.A.units + 64 < cLine:=C.un
theorem N5 (C:Ct p c lv X EX):∀ {is:List Nat} {es:List Expr},ckG.ckGs c is es=true->PGs X es (BS is)/\(assignEach es X.env).length=is.length/\(assignEach es X.env).findIdx? (·.1)=none
 | [],[],_=>⟨Om,rfl,rfl⟩
 | [],e :: es,h=>nF h
 | i :: is,[],h=>nF h
 | i :: is,e :: es,h=>by
  cases e with
  | Name x q =>
   have h:((c.N[i]?==some x) && CA c x && ckG.ckGs c is es)=true:=h
   rw [aak,aak] at h
   obtain ⟨⟨h1,h2⟩,h3⟩:=h
   obtain ⟨a1,a2,a3⟩:=N5 C h3
   obtain ⟨l1,l2⟩:=C.loc h2
   refine ⟨Mw (Jv C.nd (by rw [C.N]; exact beq_iff_eq.mp h1) l1 l2) a1 rfl,?_,?_⟩
   ·show (assignEach es X.env).length + 1=_; rw [a2]; rfl
   ·show List.findIdx? (·.1) ((false,_) :: assignEach es X.env)=none
    rw [List.findIdx?_cons,a3]; rfl
  | _=>exact nF h
theorem FL (C:Ct p c lv X EX) {g:Tg} {e:Expr} (h:ckG c g e=true):PG X e (lG X.K g):=by
 cases g with
 | nm i =>
  cases e with
  | Name x q =>
   have h:((c.N[i]?==some x) && CA c x)=true:=h
   rw [aak] at h
   obtain ⟨l1,l2⟩:=C.loc h.2
   exact Jv C.nd (by rw [C.N]; exact beq_iff_eq.mp h.1) l1 l2
  | _=>exact nF h
 | tp is =>
  cases e with
  | Tuple es k q =>
   rw [show ckG c (.tp is) (.Tuple es k q)=(ckG.ckGs c is es && c.cm) from rfl,aak] at h
   obtain ⟨a1,a2,a3⟩:=N5 C h.1
   intro pins s σ H v u Q I r hw
   rcases hw with hw | hw
   ·exact Qo (C.calm h.2) a1 a2 a3 pins s σ H v u Q I r hw
   ·exact QS (C.calm h.2) a1 a2 a3 pins s σ H v u Q I r hw
  | _=>exact nF h
theorem JM {α β:Type} {xs:List α} {ys:List β} {j:Nat} {a:α} {b:β} (h1:xs[j]?=some a) (h2:ys[j]?=some b):(a,b) ∈ xs.zip ys:=by
 have:(xs.zip ys)[j]?=some (a,b):=by rw [List.getElem?_zip_eq_some]; exact ⟨h1,h2⟩
 exact aai this
theorem Ht (C:Ct p c lv X EX) {scope:Scope} {loc:List Str} {fr:List Nat} {frn:List Str} (h:scB c scope loc fr frn=true):ScOk X scope loc fr frn/\(loc ++ frn).Nodup:=by
 unfold scB at h
 simp only [aak,decide_eq_true_eq,aaw,beq_iff_eq,bne_iff_ne,Bool.or_eq_true] at h
 obtain ⟨⟨⟨⟨⟨⟨h1,h2⟩,h3⟩,h4⟩,h5⟩,h6⟩,h7⟩:=h
 refine ⟨⟨fun j k x e1 e2=>?_,h1,fun y hy=>(h3 y hy).1.1,h4,fun y hy e=>?_,fun y hy e=>?_,fun x hx=>?_,by rw [C.sc]; exact h5⟩,h7⟩
 ·obtain ⟨⟨q1,q2⟩,q3⟩:=h2 (k,x) (JM e1 e2)
  refine ⟨by rw [C.N]; exact q1,?_,by simpa using q3⟩
  show X.env.scope.names.lookup x=_
  rw [C.sc]; exact q2
 ·rcases (h3 y hy).1.2 with q | q
  ·exact absurd e q
  ·exact q
 ·rcases (h3 y hy).2 with q | q
  ·exact absurd e q
  ·show X.env.scope.names.lookup y.1=_
   rw [C.sc]; exact q
 ·rw [FJ,C.sc]; exact h6 x hx
theorem Ct.blk (C:Ct p c lv X EX) {scope:Scope} {N:List Str} (hN:N.Nodup) (z:Bk):Ct p ⟨N,DQ scope c.sc,false,false,c.cm⟩ lv (X.blk scope z.C z.fp N z.s z.H) EX0 where
 K:=C.K
 N:=rfl
 sc:=by show relabel scope X.env=_; rw [FJ,C.sc]
 nd:=hN
 calm:=C.calm
 room:=C.room
 un:=C.un
 blt:=C.blt
 bt:=C.bt
 pass:=fun _ _ _ _ _ _ _ h=>by
  obtain ⟨_,_,_,_,_,_,_,_,_,_,_,_,_,_,_,_,_,_,z⟩:=h
  exact z.elim
 fn:=fun z=>nomatch z
 kx:=C.kx
 ph:=fun z=>nomatch z
theorem Ct.blkX (C:Ct p c lv X EX) {scope:Scope} {N:List Str} (hN:N.Nodup) (z:Bx):Ct p ⟨N,DQ scope c.sc,false,false,c.cm⟩ lv (X.blkX scope z N EX) (fun _=>EX z.σ) where
 K:=C.K
 N:=rfl
 sc:=by show relabel scope X.env=_; rw [FJ,C.sc]
 nd:=hN
 calm:=C.calm
 room:=C.room
 un:=C.un
 blt:=C.blt
 bt:=C.bt
 pass:=SE
 fn:=fun z=>nomatch z
 kx:=C.kx
 ph:=fun z=>nomatch z
theorem NeedOk.blkX {scope:Scope} {N:List Str} {z:Bx} {n:Nd1} (h:NeedOk p lv X n):NeedOk p lv (X.blkX scope z N EX) n:=by
 cases n <;> exact h
theorem NeedOk.blk {scope:Scope} {N:List Str} {z:Bk} {n:Nd1} (h:NeedOk p lv X n):NeedOk p lv (X.blk scope z.C z.fp N z.s z.H) n:=by
 cases n <;> exact h
theorem CB {e:Expr} {env:Env} (h:BX e=true):∀ y,foldedSetIterable e env y=pure y:=by
 intro y
 cases e <;> first | rfl | cases h
theorem BK {op:CmpOp} {e:Expr} (h:BX e=true):behindInMarks op e=false:=by
 cases e <;> first | rfl | cases h
end
section
variable {p:Px} {c:CkC} {lv:Nat} {X:Cx} {EX:EXT} {tn:List Nat} {pos np:Pos}
theorem Am (C:Ct p c lv X EX) {e:Expr} {x:E} (h:PE X e (lE p EX tn x)) (hp:Io e=true):PE X e (lE p EX tn x)/\(x.tst=true->PT X e (lT p EX tn x)):=⟨h,fun _=>Ku C.K h hp⟩
noncomputable def kdV (p:Px):Kd->Value
 | .cls n=>.ref (p.cl n)
 | k=>.type (GA k)
noncomputable def KC (p:Px):Kd->Prop
 | .cls n=>p.has n=true
 | _=>True
theorem Rh (C:Ct p c lv X EX) {H:Hp} {t:T} (ok:t.Ok p H):∃ ty,TyX X.K H t.val ty/\∀ k b,Cg t.dat k=.ok b->KC p k->kitOne X.K ty (kdV p k)=some b:=by
 cases t with
 | non=>exact ⟨_,.of .non,fun k b h _=>by cases k <;> cases h <;> rfl⟩
 | bl x=>exact ⟨_,.of (.bl x),fun k b h _=>by cases k <;> cases h <;> rfl⟩
 | int x=>exact ⟨_,.of (.int x),fun k b h _=>by cases k <;> cases h <;> rfl⟩
 | str x=>exact ⟨_,.of (.str x),fun k b h _=>by cases k <;> cases h <;> rfl⟩
 | tup a ts=>exact ⟨_,.of (.tup ok.1),fun k b h _=>by cases k <;> cases h <;> rfl⟩
 | lst a ts =>
  rcases ok.1 with e | ⟨o,e⟩
  ·exact ⟨_,.of (.lst e),fun k b h _=>by cases k <;> cases h <;> rfl⟩
  ·exact ⟨_,.of (.frz e),fun k b h _=>by cases k <;> cases h <;> rfl⟩
 | exn a n =>
  by_cases hn:n=999
  ·subst hn
   refine ⟨_,.dct (by rw [ok.1]; rfl),fun k b h _=>?_⟩
   cases k <;> cases h <;> rfl
  ·have hs:=ok.2.resolve_left hn
   have hn':(n==999)=false:=beq_eq_false_iff_ne.mpr hn
   refine ⟨_,.exc (by rw [ok.1]; unfold exO; rw [if_neg hn]) (C.K ▸ C.kx.x n hs),fun k b h hh=>?_⟩
   rw [C.K]
   have kb:=C.kx.kb n hs
   cases k with
   | verr =>
    have h:(if (n==999)=true then Res.bad else Res.ok true)=Res.ok b:=h
    rw [hn',if_neg (by decide)] at h
    cases h; exact C.kx.kv n hs
   | cls m =>
    have h:(if (n==999)=true then Res.bad else Res.ok (isa n m))=Res.ok b:=h
    rw [hn',if_neg (by decide)] at h
    cases h; exact C.kx.kc n m hs hh
   | dict =>
    have h:Res.ok (n==999)=Res.ok b:=h
    rw [hn'] at h
    cases h; exact kb _ (by decide)
   | _=>cases h; exact kb _ (by decide)
theorem Pk (C:Ct p c lv X EX) {l r:Expr} {x:E} {k:Kd} {v:V} {cv:Value} (hl:PE X l (lE p EX tn x)) (hr:PE X r (tC v)) (hst:Ai l=true) (hst':Ai r=true) (hgl:Gl X "isinstance") (hcv:clV v=some cv)
  (hk:∀ (H:Hp) (t:T) (b:Bool),t.Ok p H->Cg t.dat k=.ok b->∃ ty,TyX X.K H t.val ty/\kitOne X.K ty cv=some b):PE X (.Call (.Name "isinstance" np) [l,r] [] pos) (lE p EX tn (.isi x k)):=by
 refine PE.mono (Ek MK hgl (C.blt _ (by simp [EZ])) (by decide +kernel) (A7 hl (A7 hr BQ (Ad hst')) (Ad hst)) (by decide) (by decide) (Ad hst) (AJ (by simp [hst']))) fun σ H Q h=>?_
 obtain ⟨τ,rfl,hF,j,k',hj,h⟩:=h
 simp only [jk] at hj
 obtain ⟨⟨j1,k1⟩,h1,hj⟩:=bS hj
 simp only [ev] at h
 refine l1 hF h1 h fun d t H1 ht R h=>?_
 subst ht
 cases q:Cg t.dat k with
 | ok b =>
  rw [q] at h
  obtain ⟨ty,h2,h3⟩:=hk H1 t b R.ok q
  exact ⟨t.val,v,cv,ty,b,rfl,hcv,h2,h3,h (.bl b) H1 rfl (Rs.scal R.same rfl)⟩
 | exc n =>
  rw [q] at h
  cases t with
  | exn a c =>
   have hx:∀ f,dX (T.exn a c).dat f ≠ .exc n:=fun f e=>by
    unfold T.dat dX at e
    split at e <;> simp_all
    split at e <;> cases e
   cases k with
   | verr=>exact absurd (show dX (T.exn a c).dat (fun _=>true)=.exc n from q) (hx _)
   | cls m=>exact absurd (show dX (T.exn a c).dat (fun c=>isa c m)=.exc n from q) (hx _)
   | _=>cases q
  | _=>cases k <;> cases q
 | bad=>rw [q] at h; exact nE h
theorem Ri (C:Ct p c lv X EX) {k:Kd} {r:Expr} (h:No c k r=true) (hn:∀ n,k=.cls n->NeedOk p lv X (.cl n)):∃ v cv,PE X r (tC v)/\clV v=some cv/\Ai r=true/\∀ (H:Hp) (t:T) (b:Bool),t.Ok p H->Cg t.dat k=.ok b->∃ ty,TyX X.K H t.val ty/\kitOne X.K ty cv=some b:=by
 cases r with
 | Name x q =>
  have h:((x==D8 k) && glB c.sc x)=true:=h
  rw [aak,beq_iff_eq] at h
  obtain ⟨rfl,h⟩:=h
  have fin:KC p k->∀ (H:Hp) (t:T) (b:Bool),t.Ok p H->Cg t.dat k=.ok b->∃ ty,TyX X.K H t.val ty/\kitOne X.K ty (kdV p k)=some b:=fun hk H t b ok e=>let ⟨ty,a,f⟩:=Rh C ok; ⟨ty,a,f _ _ e hk⟩
  have key:(∃ n,k=.cls n)\/(KC p k/\kdV p k=.type (GA k)/\X.mg (D8 k)=none/\bootBuiltins (D8 k)=some (.type (GA k))/\D8 k ≠ "__name__" /\ (D8 k==("__debug__" : Str))=false):=by
   cases k with
   | cls n=>exact .inl ⟨n,rfl⟩
   | bool=>exact .inr ⟨trivial,rfl,C.bt _ (by decide),by decide +kernel,by decide,by decide⟩
   | dict=>exact .inr ⟨trivial,rfl,C.bt _ (by decide),by decide +kernel,by decide,by decide⟩
   | verr=>exact .inr ⟨trivial,rfl,C.bt _ (by decide),by decide +kernel,by decide,by decide⟩
   | _=>exact .inr ⟨trivial,rfl,C.blt _ (by decide),by decide +kernel,by decide,by decide⟩
  rcases key with ⟨n,rfl⟩ | ⟨k1,k2,k3,k4,k5,k6⟩
  ·obtain ⟨h1,h2⟩:=hn n rfl
   exact ⟨.ref (p.cl n),.ref (p.cl n),Jt (C.gl h) h2 rfl (KA n),rfl,rfl,fin h1⟩
  ·exact ⟨.ty (GA k),.type (GA k),Oi (C.gl h) k3 k4 rfl k5 k6,rfl,rfl,k2 ▸ fin k1⟩
 | _=>exact nF h
theorem Pl {pos:Pos}:PE X (.Dict [] [] pos) (lE p EX tn .dct):=by
 refine PE.mono QI fun σ H Q h=>?_
 obtain ⟨τ,rfl,hF,j,k,hj,h⟩:=h
 intro a ha
 have sm:Same H (L2.upd H a (dO a)):=fun a' u e=>by
  rw [L2.Af (fun z=>by subst z; rw [ha] at e; cases e)]; exact e
 exact h (.exn a 999) _ rfl ⟨sm,⟨L2.Ak ..,.inl rfl⟩,by simp [T.rest],by simp [T.adr],by simp [T.Nd,T.adr]⟩
theorem Np {pos p1 p2:Pos} {i j:Int} {k1 k2:Nat}:PE X (.Dict [some (.Constant (.int i) k1 p1)] [.Constant (.int j) k2 p2] pos) (lE p EX tn .dct):=by
 refine PE.mono Oz fun σ H Q h=>?_
 obtain ⟨τ,rfl,hF,j,k,hj,h⟩:=h
 intro a ha
 have sm:Same H (L2.upd H a (dO a)):=fun a' u e=>by
  rw [L2.Af (fun z=>by subst z; rw [ha] at e; cases e)]; exact e
 exact h (.exn a 999) _ rfl ⟨sm,⟨L2.Ak ..,.inl rfl⟩,by simp [T.rest],by simp [T.adr],by simp [T.Nd,T.adr]⟩
theorem Ix:∀ {ts:List T} {bs:List Bool},Ay (T.dats ts)=some bs->ts.map T.val=bs.map V.bl
 | [],bs,h=>by cases h; rfl
 | t :: r,bs,h=>by
  cases t with
  | bl b =>
   have h:(Ay (T.dats r)).map (b :: ·)=some bs:=h
   obtain ⟨cs,h1,rfl⟩:=aas.mp h
   rw [aar,aar,Ix h1]; rfl
  | _=>cases h
theorem G3 {e o:Expr} {x y:E} {ap cp:Pos} (hl:PE X o (lE p EX tn x)) (hb:attributeBase o "count" X.env (eval o X.env)=eval o X.env) (he:PE X e (lE p EX tn y)) (hst:Ai e=true) (h3:(ap.endLine==cp.line)=true):PE X (.Call (.Attribute o "count" ap) [e] [] cp) (lE p EX tn (.mt .count x (.cons y .nil))):=by
 refine PE.mono (C8 PySem.F.plainAttrs_list PySem.F.slot_list_count PySem.F.type_list_count ML hl (A7 he BQ (Ad hst)) hb (by rw [Ad hst]; rfl) h3 (Ad hst) rfl) fun σ H Q h=>?_
 obtain ⟨τ,rfl,hF,j,k',hj,h⟩:=h
 simp only [jk,jks] at hj
 obtain ⟨⟨j1,k1⟩,h1,hj⟩:=bS hj
 obtain ⟨⟨j2,k2⟩,h2,hj⟩:=bS hj
 obtain ⟨⟨j3,k3⟩,h3',_⟩:=bS h2
 simp only [ev,evs] at h
 refine l1 hF h1 h fun d t H1 ht R h=>?_
 subst ht
 cases t with
 | lst a ts =>
  refine ⟨.inl ⟨rfl,_,.inl R.ok.1⟩,?_⟩
  rw [show dL (T.lst a ts).dat=true from rfl,if_pos rfl] at h
  rw [show (((ev y (dτ τ)).bind fun x=>(Res.ok []).bind fun xs=>Res.ok (x :: xs)).bind fun ds=>mtD .count (T.lst a ts).dat ds)=(ev y (dτ τ)).bind fun d2=>mtD .count (T.lst a ts).dat [d2] from by cases ev y (dτ τ) <;> rfl] at h
  refine l2 hF R.same h3' h fun d2 t2 H2 ht2 R2 h=>?_
  subst ht2
  cases t2 with
  | bl k =>
   have h:Lg p EX (vτ τ) ((B5 (Ay (T.dats ts))).bind fun bs=>Res.ok (D.int ((bs.filter (·==k)).length:Int))) H (KE p (Sh tn τ) H j k' Q):=h
   cases q:Ay (T.dats ts) with
   | none=>rw [q] at h; exact nE h
   | some bs =>
    rw [q] at h
    have okl:=(R.ok.same R2.same).1
    rw [Ix q] at okl
    exact ⟨a,bs,k,rfl,rfl,okl,h (.int _) H2 rfl (Rs.scal (R.same.trans R2.same) rfl)⟩
  | _=>exact nE h
 | _=>exact nE h
theorem Iy:∀ {ts:List T} {ns:List Int},Dp (T.dats ts)=some ns->ts.map T.val=ns.map V.int
 | [],ns,h=>by cases h; rfl
 | t :: r,ns,h=>by
  cases t with
  | int b =>
   have h:(Dp (T.dats r)).map (b :: ·)=some ns:=h
   obtain ⟨cs,h1,rfl⟩:=aas.mp h
   rw [aar,aar,Iy h1]; rfl
  | _=>cases h
theorem JN {v:Int}:∀ {ns:List Int} {j:Nat},FH v ns=some j->ns[j]?=some v/\∀ m,m < j->ns[m]? ≠ some v
 | [],j,h=>nomatch h
 | x :: r,j,h=>by
  rw [FH] at h
  split at h
  ·rename_i c
   cases h
   exact ⟨by rw [c]; rfl,fun m hm=>absurd hm (by omega)⟩
  ·rename_i c
   obtain ⟨i,h1,rfl⟩:=aas.mp h
   obtain ⟨h2,h3⟩:=JN h1
   refine ⟨by simpa using h2,fun m hm=>?_⟩
   cases m with
   | zero=>intro z; cases z; exact c rfl
   | succ m =>
    have:=h3 m (by omega)
    simpa using this
theorem JO:∀ {ts:List T} {ns:List Str},Ci (T.dats ts)=some ns->ts.map T.val=ns.map V.str
 | [],ns,h=>by cases h; rfl
 | t :: r,ns,h=>by
  cases t with
  | str b =>
   have h:(Ci (T.dats r)).map (b :: ·)=some ns:=h
   obtain ⟨cs,h1,rfl⟩:=aas.mp h
   rw [aar,aar,JO h1]; rfl
  | _=>cases h
theorem G4 (z:Str):∀ (ts:List Str) (x:Str),(⟨ts.foldl (fun acc p=>acc ++ z.cps ++ p.cps) x.cps⟩:Str)=Str.join z (x :: ts)
 | [],x=>rfl
 | y :: r,x=>by
  have ih:=G4 z r (x ++ z ++ y)
  have e:Str.join z ((x ++ z ++ y) :: r)=x ++ z ++ Str.join z (y :: r):=by
   cases r with
   | nil=>rfl
   | cons a b =>
    show (x ++ z ++ y) ++ z ++ Str.join z (a :: b)=x ++ z ++ (y ++ z ++ Str.join z (a :: b))
    show (⟨_⟩:Str)=⟨_⟩
    congr 1
    show ((x.cps ++ z.cps ++ y.cps) ++ z.cps) ++ (Str.join z (a :: b)).cps=(x.cps ++ z.cps) ++ ((y.cps ++ z.cps) ++ (Str.join z (a :: b)).cps)
    simp only [Array.append_assoc]
  exact ih.trans e
theorem Pm (z:Str) (ts:List Str):Txt.join z ts=Str.join z ts:=by
 cases ts with
 | nil=>rfl
 | cons x r=>exact G4 z r x
theorem Pn {e o:Expr} {x y:E} {ap cp:Pos} (hl:PE X o (lE p EX tn x)) (hb:attributeBase o "join" X.env (eval o X.env)=eval o X.env) (he:PE X e (lE p EX tn y)) (hst:Ai e=true) (h3:(ap.endLine==cp.line)=true):PE X (.Call (.Attribute o "join" ap) [e] [] cp) (lE p EX tn (.joi x y)):=by
 refine PE.mono (C8 PySem.F.plainAttrs_str PySem.F.slot_str_join PySem.F.type_str_join OB hl (A7 he BQ (Ad hst)) hb (by rw [Ad hst]; rfl) h3 (Ad hst) rfl) fun σ H Q h=>?_
 obtain ⟨τ,rfl,hF,j,k',hj,h⟩:=h
 simp only [jk] at hj
 obtain ⟨⟨j1,k1⟩,h1,hj⟩:=bS hj
 obtain ⟨⟨j2,k2⟩,h2,hj⟩:=bS hj
 simp only [ev] at h
 refine l1 hF h1 h fun d t H1 ht R h=>?_
 subst ht
 cases t with
 | str z =>
  refine ⟨rfl,?_⟩
  rw [show dS (T.str z).dat=true from rfl,if_pos rfl] at h
  refine l2 hF R.same h2 h fun d2 t2 H2 ht2 R2 h=>?_
  subst ht2
  cases t2 with
  | lst a ts =>
   have h:Lg p EX (vτ τ) ((B5 (Ci (T.dats ts))).bind fun ns=>if ns.foldl (fun n t=>n + t.length + z.length) 0<=LIM then .ok (.str (Str.join z ns)) else .bad) H (KE p (Sh tn τ) H j k' Q):=h
   cases q:Ci (T.dats ts) with
   | none=>rw [q] at h; exact nE h
   | some ns =>
    rw [q] at h
    have h:Lg p EX (vτ τ) (if ns.foldl (fun n t=>n + t.length + z.length) 0<=LIM then .ok (.str (Str.join z ns)) else .bad) H (KE p (Sh tn τ) H j k' Q):=h
    by_cases c:ns.foldl (fun n t=>n + t.length + z.length) 0<=LIM
    ·rw [if_pos c] at h
     have okl:=R2.ok.1
     rw [JO q] at okl
     refine ⟨z,a,ns,rfl,rfl,.inl okl,?_,?_⟩
     ·unfold JoinOk PySem.Builtin.Str.tooLong
      rw [sizeLine_eq]
      simp only [List.foldl_toArray,abo,decide_eq_false_iff_not,Nat.not_lt]
      exact c
     ·rw [Pm]
      exact h (.str _) H2 rfl (Rs.scal (R.same.trans R2.same) rfl)
    ·rw [if_neg c] at h; exact nE h
  | _=>exact nE h
 | _=>exact nE h
theorem LP (l:List Str):T.dats (l.map T.str)=l.map D.str:=by
 rw [T.dats_map,aaH]; rfl
theorem JP {e o:Expr} {x y:E} {ap cp:Pos} (hl:PE X o (lE p EX tn x)) (hb:attributeBase o "split" X.env (eval o X.env)=eval o X.env) (he:PE X e (lE p EX tn y)) (hst:Ai e=true) (h3:(ap.endLine==cp.line)=true):PE X (.Call (.Attribute o "split" ap) [e] [] cp) (lE p EX tn (.spl x y)):=by
 refine PE.mono (C8 PySem.F.plainAttrs_str PySem.F.slot_str_split PySem.F.type_str_split MU hl (A7 he BQ (Ad hst)) hb (by rw [Ad hst]; rfl) h3 (Ad hst) rfl) fun σ H Q h=>?_
 obtain ⟨τ,rfl,hF,j,k',hj,h⟩:=h
 simp only [jk] at hj
 obtain ⟨⟨j1,k1⟩,h1,hj⟩:=bS hj
 obtain ⟨⟨j2,k2⟩,h2,hj⟩:=bS hj
 cases hj
 simp only [ev] at h
 refine l1 hF h1 h fun d t H1 ht R h=>?_
 subst ht
 cases t with
 | str z =>
  refine ⟨rfl,?_⟩
  rw [show dS (T.str z).dat=true from rfl,if_pos rfl] at h
  refine l2 hF R.same h2 h fun d2 t2 H2 ht2 R2 h=>?_
  subst ht2
  cases t2 with
  | str y =>
   have h:Lg p EX (vτ τ) (if y.length ≠ 0/\z.length<=LIM/\(PySem.Txt.split z y).length<=LIM then .ok (.lst ((PySem.Txt.split z y).map .str)) else .bad) H (KE p (Sh tn τ) H 0 1 Q):=h
   obtain ⟨⟨g1,g2,g3⟩,h⟩:=h.guard
   refine ⟨z,y,rfl,rfl,g1,by rw [sizeLine_eq]; exact g2,by rw [sizeLine_eq]; exact g3,fun q hq=>?_⟩
   have e:(PySem.Txt.split z y).map V.str=((PySem.Txt.split z y).map T.str).map T.val:=by rw [aaH]; rfl
   rw [e]
   refine h (.lst q ((PySem.Txt.split z y).map T.str)) _ (by simp only [T.dat]; rw [LP]) (Ga (R.same.trans R2.same) (T.oks_iff.mpr fun w hw=>?_) (fun c m=>?_) hq)
   ·obtain ⟨u,_,rfl⟩:=aaG.mp hw; trivial
   ·obtain ⟨w,hw,m⟩:=T.mem_rests.mp m
    obtain ⟨u,_,rfl⟩:=aaG.mp hw
    simp [T.rest] at m
  | _=>exact nE h
 | _=>exact nE h
theorem LQ {e:Expr} {x y:E} {ap cp pz:Pos} {z:Str} (hl:PE X (.Name z pz) (lE p EX tn x)) (he:PE X e (lE p EX tn y)) (hst:Ai e=true) (h3:(ap.endLine==cp.line)=true):PE X (.Call (.Attribute (.Name z pz) "index" ap) [e] [] cp) (lE p EX tn (.mt .index x (.cons y .nil))):=by
 refine PE.mono (C8 PySem.F.plainAttrs_list PySem.F.slot_list_index PySem.F.type_list_index MQ hl (A7 he BQ (Ad hst)) rfl (by rw [Ad hst]; rfl) h3 (Ad hst) rfl) fun σ H Q h=>?_
 obtain ⟨τ,rfl,hF,j,k',hj,h⟩:=h
 simp only [jk,jks] at hj
 obtain ⟨⟨j1,k1⟩,h1,hj⟩:=bS hj
 obtain ⟨⟨j2,k2⟩,h2,hj⟩:=bS hj
 obtain ⟨⟨j3,k3⟩,h3',_⟩:=bS h2
 simp only [ev,evs] at h
 refine l1 hF h1 h fun d t H1 ht R h=>?_
 subst ht
 cases t with
 | lst a ts =>
  refine ⟨.inl ⟨rfl,_,.inl R.ok.1⟩,?_⟩
  rw [show dL (T.lst a ts).dat=true from rfl,if_pos rfl] at h
  rw [show (((ev y (dτ τ)).bind fun x=>(Res.ok []).bind fun xs=>Res.ok (x :: xs)).bind fun ds=>mtD .index (T.lst a ts).dat ds)=(ev y (dτ τ)).bind fun d2=>mtD .index (T.lst a ts).dat [d2] from by cases ev y (dτ τ) <;> rfl] at h
  refine l2 hF R.same h3' h fun d2 t2 H2 ht2 R2 h=>?_
  subst ht2
  cases t2 with
  | int v =>
   have h:Lg p EX (vτ τ) ((B5 (Dp (T.dats ts))).bind fun ns=>(B5 (FH v ns)).bind fun j=>Res.ok (D.int (j:Nat))) H (KE p (Sh tn τ) H j k' Q):=h
   cases q:Dp (T.dats ts) with
   | none=>rw [q] at h; exact nE h
   | some ns =>
    rw [q] at h
    have h:Lg p EX (vτ τ) ((B5 (FH v ns)).bind fun j=>Res.ok (D.int (j:Nat))) H (KE p (Sh tn τ) H j k' Q):=h
    cases q2:FH v ns with
    | none=>rw [q2] at h; exact nE h
    | some i =>
     rw [q2] at h
     have okl:=(R.ok.same R2.same).1
     rw [Iy q] at okl
     exact ⟨a,ns,v,i,rfl,rfl,okl,JN q2,h (.int _) H2 rfl (Rs.scal (R.same.trans R2.same) rfl)⟩
  | _=>exact nE h
 | _=>exact nE h
theorem Po {e:Expr} {a i:E} (h:PE X e (lE p EX tn (.ix a i))):PE X e (lE p EX tn (.ixS a i)):=by
 refine PE.mono h fun σ H Q hq=>?_
 obtain ⟨τ,rfl,hF,j,k,hj,hq⟩:=hq
 simp only [jk] at hj
 obtain ⟨⟨j1,k1⟩,h1,hj⟩:=bS hj
 obtain ⟨⟨j2,k2⟩,h2,hj⟩:=bS hj
 obtain ⟨hc,ej⟩:=CL hj
 cases ej
 refine ⟨τ,rfl,hF,0,0,by simp only [jk,h1,h2,aaZ]; unfold gj; rw [if_pos hc],?_⟩
 rw [show ev (.ixS a i) (dτ τ)=(ev (.ix a i) (dτ τ)).bind fun d=>if D.scal d=true then .ok d else .bad by rw [ev,ev]] at hq
 refine hq.bind.mono (Same.refl _) fun d _ h t H1 ht R=>?_
 subst ht
 obtain ⟨hs,h⟩:=Lg.guard h
 exact h t H1 rfl (Rs.scal R.same (by cases t <;> first | rfl | cases hs))
end
end Pu
end
section
set_option maxHeartbeats 1000000
namespace Pu
open PySem PySem.Spec PyProof.Rows PySem.W L2
theorem Aa {a b:Bool} (h:(a && b)=true):a=true/\b=true:=aak _ _ |>.mp h
theorem Aj {p:Px} {lv:Nat} {X:Cx} {a b:List Nd1} (h:∀ n ∈ a ++ b,NeedOk p lv X n):(∀ n ∈ a,NeedOk p lv X n)/\∀ n ∈ b,NeedOk p lv X n:=⟨fun n m=>h n (aat _ m),fun n m=>h n (aag _ m)⟩
theorem Ck {c:CkC}:∀ {es:Es} {xs:List Expr},ckEs c es xs=true->xs.all Ai=true/\xs.length=es.len
 | .nil,[],_=>⟨rfl,rfl⟩
 | .nil,x :: xs,h=>nF h
 | .cons e r,[],h=>nF h
 | .cons e r,x :: xs,h=>by
  have h:(ckE c e x && Ai x && ckEs c r xs)=true:=h
  obtain ⟨h,h3⟩:=Aa h
  obtain ⟨h1,h2⟩:=Aa h
  obtain ⟨a,b⟩:=Ck h3
  exact ⟨by rw [aaE,h2,a]; rfl,by rw [aaS,b,Es.len]⟩
mutual
theorem snd {p:Px} {lv:Nat}:∀ (x:E) {c:CkC} {X:Cx} {EX:EXT} {tn:List Nat} (C:Ct p c lv X EX) (e:Expr),(∀ n ∈ x.need,NeedOk p lv X n)->ckE c x e=true->PE X e (lE p EX tn x)/\(x.tst=true->PT X e (lT p EX tn x))
 | .nm i,c,X,EX,tn,C,e,hn,h=>by
  cases e with
  | Name y q =>
   have h:((c.N[i]?==some y) && Bv c.sc y && AB y)=true:=h
   obtain ⟨h,h3⟩:=Aa h
   obtain ⟨h1,h2⟩:=Aa h
   obtain ⟨d1,d2⟩:=AZ h3
   exact Am C (Q3 (by rw [C.N]; exact beq_iff_eq.mp h1) (C.vis h2) d1 d2) rfl
  | _=>exact nF h
 | .cN,c,X,EX,tn,C,e,hn,h=>by
  cases e with
  | Constant k j q =>
   cases k with
   | none=>exact Am C (F9 (t:=.non) Qe rfl (fun _=>rfl)) rfl
   | _=>exact nF h
  | _=>exact nF h
 | .cB b,c,X,EX,tn,C,e,hn,h=>by
  cases e with
  | Constant k j q =>
   cases k with
   | bool b' =>
    cases beq_iff_eq.mp (show (b==b')=true from h)
    exact Am C (F9 (t:=.bl b) R8 rfl (fun _=>rfl)) rfl
   | _=>exact nF h
  | _=>exact nF h
 | .cI b,c,X,EX,tn,C,e,hn,h=>by
  cases e with
  | Constant k j q =>
   cases k with
   | int b' =>
    cases beq_iff_eq.mp (show (b==b')=true from h)
    exact Am C (F9 (t:=.int b) KW rfl (fun _=>rfl)) rfl
   | _=>exact nF h
  | _=>exact nF h
 | .cS b,c,X,EX,tn,C,e,hn,h=>by
  cases e with
  | Constant k j q =>
   cases k with
   | str b' =>
    cases beq_iff_eq.mp (show (b==b')=true from h)
    exact Am C (F9 (t:=.str b) HM rfl (fun _=>rfl)) rfl
   | _=>exact nF h
  | _=>exact nF h
 | .gl y d,c,X,EX,tn,C,e,hn,h=>by
  cases e with
  | Name y' q =>
   have h:((y==y') && glB c.sc y' && AB y' && D.scal d)=true:=h
   obtain ⟨h,h4⟩:=Aa h
   obtain ⟨h,h3⟩:=Aa h
   obtain ⟨h1,h2⟩:=Aa h
   cases beq_iff_eq.mp h1
   obtain ⟨u,m,r⟩:=hn (.gl y d) (aaz.mpr rfl)
   obtain ⟨e1,e2⟩:=Rg h4
   exact Am C (F9 (t:=dT d) (Jt (C.gl h2) m r (AZ h3).1) e2 (fun _=>by rw [e1]; rfl)) rfl
  | _=>exact nF h
 | .tup es,c,X,EX,tn,C,e,hn,h=>by
  cases e with
  | Tuple xs k q =>
   obtain ⟨h1,h2⟩:=Aa (show (ckEs c es xs && decide (es.len<=1000))=true from h)
   exact Am C (OK (sndA es C xs hn h1).1 (of_decide_eq_true h2)) rfl
  | _=>exact nF h
 | .lst es,c,X,EX,tn,C,e,hn,h=>by
  cases e with
  | List xs q =>
   obtain ⟨h1,h2⟩:=Aa (show (ckEs c es xs && decide (es.len<=1000))=true from h)
   exact Am C (OL (sndA es C xs hn h1).1 (of_decide_eq_true h2)) rfl
  | _=>exact nF h
 | .bin o a b,c,X,EX,tn,C,e,hn,h=>by
  cases e with
  | BinOp l op r q =>
   obtain ⟨h,h3⟩:=Aa (show ((op==Kp o) && ckE c a l && ckE c b r)=true from h)
   obtain ⟨h1,h2⟩:=Aa h
   cases beq_iff_eq.mp h1
   obtain ⟨n1,n2⟩:=Aj hn
   exact Am C (OS (snd a C l n1 h2).1 (snd b C r n2 h3).1) rfl
  | _=>exact nF h
 | .neg a,c,X,EX,tn,C,e,hn,h=>by
  cases e with
  | UnaryOp o l q =>
   cases o with
   | USub=>exact Am C (OW (snd a C l hn h).1) rfl
   | _=>exact nF h
  | _=>exact nF h
 | .not a,c,X,EX,tn,C,e,hn,h=>by
  cases e with
  | UnaryOp o l q =>
   cases o with
   | Not =>
    obtain ⟨h1,h2⟩:=snd a C (tn:=tn) l hn h
    exact ⟨OX h1,fun ht=>M7 (h2 ht)⟩
   | _=>exact nF h
  | _=>exact nF h
 | .cmp o a b,c,X,EX,tn,C,e,hn,h=>by
  cases e with
  | Compare l ops rs q =>
   match ops,rs,h with
   | [op],[r],h =>
    obtain ⟨h,h4⟩:=Aa (show ((op==AO o) && ckE c a l && ckE c b r && BX r)=true from h)
    obtain ⟨h,h3⟩:=Aa h
    obtain ⟨h1,h2⟩:=Aa h
    cases beq_iff_eq.mp h1
    obtain ⟨n1,n2⟩:=Aj hn
    have A:=(snd a C (tn:=tn) l n1 h2).1
    have B:=(snd b C (tn:=tn) r n2 h3).1
    exact ⟨OT C.K C.hu A B (BK h4),fun _=>M4 C.K C.hu A B (BK h4)⟩
   | [],_,h=>exact nF h
   | [_],[],h=>exact nF h
   | [_],_ :: _ :: _,h=>exact nF h
   | _ :: _ :: _,_,h=>exact nF h
  | _=>exact nF h
 | .chain o o' a b d,c,X,EX,tn,C,e,hn,h=>by
  cases e with
  | Compare l ops rs q =>
   match ops,rs,h with
   | [op,op'],[r,r'],h =>
    obtain ⟨h,h6⟩:=Aa (show ((op==AO o) && (op'==AO o') && ckE c a l && ckE c b r && ckE c d r' && BX r')=true from h)
    obtain ⟨h,h5⟩:=Aa h
    obtain ⟨h,h4⟩:=Aa h
    obtain ⟨h,h3⟩:=Aa h
    obtain ⟨h1,h2⟩:=Aa h
    cases beq_iff_eq.mp h1
    cases beq_iff_eq.mp h2
    obtain ⟨n1,n2⟩:=Aj hn
    obtain ⟨n2,n3⟩:=Aj n2
    have A:=(snd a C (tn:=tn) l n1 h3).1
    have B:=(snd b C (tn:=tn) r n2 h4).1
    have D:=(snd d C (tn:=tn) r' n3 h5).1
    exact ⟨LE C.K C.hu A B D (BK h6),fun _=>Kt C.K C.hu A B D (BK h6)⟩
   | [],_,h=>exact nF h
   | [_],_,h=>exact nF h
   | [_,_],[],h=>exact nF h
   | [_,_],[_],h=>exact nF h
   | [_,_],_ :: _ :: _ :: _,h=>exact nF h
   | _ :: _ :: _ :: _,_,h=>exact nF h
  | _=>exact nF h
 | .isN n a,c,X,EX,tn,C,e,hn,h=>by
  cases e with
  | Compare l ops rs q =>
   match ops,rs,h with
   | [op],[r],h =>
    obtain ⟨h,h3⟩:=Aa (show ((op==if n then .IsNot else .Is) && LO r && ckE c a l)=true from h)
    obtain ⟨h1,h2⟩:=Aa h
    cases beq_iff_eq.mp h1
    have A:=(snd a C (tn:=tn) l hn h3).1
    cases r with
    | Constant k j q' =>
     cases k with
     | none=>exact ⟨OV A,fun _=>M5 A⟩
     | _=>cases h2
    | _=>cases h2
   | [],_,h=>exact nF h
   | [_],[],h=>exact nF h
   | [_],_ :: _ :: _,h=>exact nF h
   | _ :: _ :: _,_,h=>exact nF h
  | _=>exact nF h
 | .bo k es,c,X,EX,tn,C,e,hn,h=>by
  cases e with
  | BoolOp op xs q =>
   obtain ⟨h1,h2⟩:=Aa (show ((op==if k then .And else .Or) && ckEs c es xs)=true from h)
   cases beq_iff_eq.mp h1
   obtain ⟨a1,a2⟩:=(sndA es C (tn:=tn) xs hn h2).2 k q
   exact ⟨a1,fun ht=>(a2 ht).pt⟩
  | _=>exact nF h
 | .ifx t a b,c,X,EX,tn,C,e,hn,h=>by
  cases e with
  | IfExp t' a' b' q =>
   obtain ⟨h,h4⟩:=Aa (show (ckE c t t' && t.tst && ckE c a a' && ckE c b b')=true from h)
   obtain ⟨h,h3⟩:=Aa h
   obtain ⟨h1,h2⟩:=Aa h
   obtain ⟨n1,n2⟩:=Aj hn
   obtain ⟨n2,n3⟩:=Aj n2
   exact ⟨O0 ((snd t C t' n1 h1).2 h2) (snd a C a' n2 h3).1 (snd b C b' n3 h4).1,fun z=>nomatch z⟩
  | _=>exact nF h
 | .ix a i,c,X,EX,tn,C,e,hn,h=>by
  cases e with
  | Subscript l r q =>
   obtain ⟨h,h3⟩:=Aa (show (ckE c a l && ckE c i r && AA r)=true from h)
   obtain ⟨h1,h2⟩:=Aa h
   obtain ⟨n1,n2⟩:=Aj hn
   exact Am C (LH C.K (snd a C l n1 h1).1 (snd i C r n2 h2).1 h3) rfl
  | _=>exact nF h
 | .ixS a i,c,X,EX,tn,C,e,hn,h=>by
  cases e with
  | Subscript l r q =>
   obtain ⟨h,h3⟩:=Aa (show (ckE c a l && ckE c i r && AA r)=true from h)
   obtain ⟨h1,h2⟩:=Aa h
   obtain ⟨n1,n2⟩:=Aj hn
   exact Am C (Po (LH C.K (snd a C l n1 h1).1 (snd i C r n2 h2).1 h3)) rfl
  | _=>exact nF h
 | .ixL a i,c,X,EX,tn,C,e,hn,h=>by
  cases e with
  | Subscript l r q =>
   obtain ⟨h,h3⟩:=Aa (show (ckE c a l && ckE c i r && AA r)=true from h)
   obtain ⟨h1,h2⟩:=Aa h
   obtain ⟨n1,n2⟩:=Aj hn
   exact Am C (O4 (snd a C l n1 h1).1 (snd i C r n2 h2).1 h3) rfl
  | _=>exact nF h
 | .ixC a i,c,X,EX,tn,C,e,hn,h=>by
  cases e with
  | Subscript l r q =>
   obtain ⟨h,h3⟩:=Aa (show (ckE c a l && ckE c i r && AA r)=true from h)
   obtain ⟨h1,h2⟩:=Aa h
   obtain ⟨n1,n2⟩:=Aj hn
   exact Am C (O8 (snd a C l n1 h1).1 (snd i C r n2 h2).1 h3) rfl
  | _=>exact nF h
 | .slT a lo hi,c,X,EX,tn,C,e,hn,h=>by
  cases e with
  | Subscript l r q =>
   cases r with
   | Slice lo' hi' st q2 =>
    cases st with
    | none =>
     obtain ⟨h,h3⟩:=Aa (show (ckE c a l && CQ lo.isCN (ckE c lo) lo' && CQ hi.isCN (ckE c hi) hi')=true from h)
     obtain ⟨h1,h2⟩:=Aa h
     obtain ⟨n1,n2⟩:=Aj hn
     obtain ⟨n2,n3⟩:=Aj n2
     have cn:∀ {y:E},y.isCN=true->y=.cN:=fun {y} z=>by cases y <;> first | rfl | cases z
     have P1:PO X lo' (lO p EX tn lo):=by
      cases lo' with
      | none=>cases cn h2; exact DM
      | some l' =>
       obtain ⟨g1,g2⟩:=Aa h2
       exact DN (snd lo C l' n2 g2).1 (by simpa using g1)
     have P2:PO X hi' (lO p EX tn hi):=by
      cases hi' with
      | none=>cases cn h3; exact DM
      | some l' =>
       obtain ⟨g1,g2⟩:=Aa h3
       exact DN (snd hi C l' n3 g2).1 (by simpa using g1)
     exact Am C (O9 (snd a C l n1 h1).1 P1 P2) rfl
    | some _=>exact nF h
   | _=>exact nF h
  | _=>exact nF h
 | .spl a b,c,X,EX,tn,C,e,hn,h=>by
  cases e with
  | Call f xs ks cp =>
   cases f with
   | Attribute o name ap =>
    cases ks with
    | nil =>
     match xs,h with
     | [e],h =>
      obtain ⟨h,h6⟩:=Aa (show ((name==("split" : Str)) && ckE c a o && KB o && ckE c b e && Ai e && (ap.endLine==cp.line))=true from h)
      obtain ⟨h,h5⟩:=Aa h
      obtain ⟨h,h4⟩:=Aa h
      obtain ⟨h,h3⟩:=Aa h
      obtain ⟨h1,h2⟩:=Aa h
      cases beq_iff_eq.mp h1
      obtain ⟨n1,n2⟩:=Aj hn
      have A:=(snd a C (tn:=tn) o n1 h2).1
      cases o with
      | Name _ _=>exact Am C (JP A rfl (snd b C (tn:=tn) e n2 h4).1 h5 h6) rfl
      | Subscript _ _ _=>exact Am C (JP A rfl (snd b C (tn:=tn) e n2 h4).1 h5 h6) rfl
      | _=>exact nF h3
     | [],h=>exact nF h
     | _ :: _ :: _,h=>exact nF h
    | cons _ _ =>
     match xs,h with
     | [],h=>exact nF h
     | [_],h=>exact nF h
     | _ :: _ :: _,h=>exact nF h
   | _ =>
    match xs,h with
    | [],h=>exact nF h
    | [_],h=>exact nF h
    | _ :: _ :: _,h=>exact nF h
  | _=>exact nF h
 | .inT n a b,c,X,EX,tn,C,e,hn,h=>by
  cases e with
  | Compare l ops rs q =>
   match ops,rs,h with
   | [op],[r],h =>
    obtain ⟨h,h4⟩:=Aa (show ((op==L2.FG n) && ckE c a l && ckE c b r && BX r)=true from h)
    obtain ⟨h,h3⟩:=Aa h
    obtain ⟨h1,h2⟩:=Aa h
    cases beq_iff_eq.mp h1
    obtain ⟨n1,n2⟩:=Aj hn
    have A:=(snd a C (tn:=tn) l n1 h2).1
    have B:=(snd b C (tn:=tn) r n2 h3).1
    exact ⟨Pa A B (BK h4),fun _=>Na A B (BK h4)⟩
   | [],_,h=>exact nF h
   | [_],[],h=>exact nF h
   | [_],_ :: _ :: _,h=>exact nF h
   | _ :: _ :: _,_,h=>exact nF h
  | _=>exact nF h
 | .rep x n,c,X,EX,tn,C,e,hn,h=>by
  cases e with
  | BinOp l op r q =>
   cases l with
   | Constant k j q1 =>
    cases k with
    | str x' =>
     cases op with
     | Mult =>
      cases r with
      | Constant k j q2 =>
       cases k with
       | int n' =>
        obtain ⟨h1,h2⟩:=Aa (show ((x==x') && (n'==(n:Int)))=true from h)
        cases beq_iff_eq.mp h1
        cases beq_iff_eq.mp h2
        exact Am C Pb rfl
       | _=>exact nF h
      | _=>exact nF h
     | _=>exact nF h
    | _=>exact nF h
   | _=>exact nF h
  | _=>exact nF h
 | .joi a b,c,X,EX,tn,C,e,hn,h=>by
  cases e with
  | Call f xs ks cp =>
   cases f with
   | Attribute o name ap =>
    cases ks with
    | nil =>
     match xs,h with
     | [e],h =>
      obtain ⟨h,h6⟩:=Aa (show ((name==("join" : Str)) && ckE c a o && Re o && ckE c b e && Ai e && (ap.endLine==cp.line))=true from h)
      obtain ⟨h,h5⟩:=Aa h
      obtain ⟨h,h4⟩:=Aa h
      obtain ⟨h,h3⟩:=Aa h
      obtain ⟨h1,h2⟩:=Aa h
      cases beq_iff_eq.mp h1
      obtain ⟨n1,n2⟩:=Aj hn
      have A:=(snd a C (tn:=tn) o n1 h2).1
      cases o with
      | Constant _ _ _=>exact Am C (Pn A rfl (snd b C (tn:=tn) e n2 h4).1 h5 h6) rfl
      | _=>exact nF h3
     | [],h=>exact nF h
     | _ :: _ :: _,h=>exact nF h
    | cons _ _ =>
     match xs,h with
     | [],h=>exact nF h
     | [_],h=>exact nF h
     | _ :: _ :: _,h=>exact nF h
   | _ =>
    match xs,h with
    | [],h=>exact nF h
    | [_],h=>exact nF h
    | _ :: _ :: _,h=>exact nF h
  | _=>exact nF h
 | .slc a lo hi,c,X,EX,tn,C,e,hn,h=>by
  cases e with
  | Subscript l r q =>
   cases r with
   | Slice lo' hi' st q2 =>
    cases st with
    | none =>
     obtain ⟨h,h3⟩:=Aa (show (ckE c a l && CQ lo.isCN (ckE c lo) lo' && CQ hi.isCN (ckE c hi) hi')=true from h)
     obtain ⟨h1,h2⟩:=Aa h
     obtain ⟨n1,n2⟩:=Aj hn
     obtain ⟨n2,n3⟩:=Aj n2
     have cn:∀ {y:E},y.isCN=true->y=.cN:=fun {y} z=>by cases y <;> first | rfl | cases z
     have P1:PO X lo' (lO p EX tn lo):=by
      cases lo' with
      | none=>cases cn h2; exact DM
      | some l' =>
       obtain ⟨g1,g2⟩:=Aa h2
       exact DN (snd lo C l' n2 g2).1 (by simpa using g1)
     have P2:PO X hi' (lO p EX tn hi):=by
      cases hi' with
      | none=>cases cn h3; exact DM
      | some l' =>
       obtain ⟨g1,g2⟩:=Aa h3
       exact DN (snd hi C l' n3 g2).1 (by simpa using g1)
     exact Am C (O6 (snd a C l n1 h1).1 P1 P2) rfl
    | some _=>exact nF h
   | _=>exact nF h
  | _=>exact nF h
 | .call f es,c,X,EX,tn,C,e,hn,h=>by
  cases e with
  | Call fn xs ks q =>
   cases fn with
   | Name y q' =>
    cases ks with
    | nil =>
     obtain ⟨h,h7⟩:=Aa (show ((y==f.name) && glB c.sc y && AB y && ckEs c es xs && decide (es.len=f.ar) && decide (0 < es.len) && c.cm)=true from h)
     obtain ⟨h,h6⟩:=Aa h
     obtain ⟨h,h5⟩:=Aa h
     obtain ⟨h,h4⟩:=Aa h
     obtain ⟨h,h3⟩:=Aa h
     obtain ⟨h1,h2⟩:=Aa h
     cases beq_iff_eq.mp h1
     obtain ⟨s1,s2⟩:=Ck h4
     obtain ⟨f1,f2⟩:=hn (.fn f) (aab ..)
     have A:=(sndA es C (tn:=tn) xs (fun n m=>hn n (aaa _ m)) h4).1
     cases es with
     | nil=>cases of_decide_eq_true h6
     | cons e1 r1 =>
      cases xs with
      | nil=>cases s2
      | cons x1 xr=>exact Am C (Nc C.pass f2 ((C.room h7).mono f1) (C.gl h2) (AZ h3).1 A s1 (of_decide_eq_true h5)) rfl
    | cons _ _=>exact nF h
   | _=>exact nF h
  | _=>exact nF h
 | .bi b es,c,X,EX,tn,C,e,hn,h=>by
  cases e with
  | Call fn xs ks q =>
   cases fn with
   | Name y q' =>
    cases ks with
    | nil =>
     obtain ⟨h,h6⟩:=Aa (show ((y==LM b) && glB c.sc y && Rf b && ckEs c es xs && decide (0 < es.len) && (c.cm || Iw b))=true from h)
     obtain ⟨h,h5⟩:=Aa h
     obtain ⟨h,h4⟩:=Aa h
     obtain ⟨h,h3⟩:=Aa h
     obtain ⟨h1,h2⟩:=Aa h
     cases beq_iff_eq.mp h1
     obtain ⟨s1,s2⟩:=Ck h4
     have A:=(sndA es C (tn:=tn) xs hn h4).1
     cases es with
     | nil=>cases of_decide_eq_true h5
     | cons e1 r1 =>
      cases xs with
      | nil=>cases s2
      | cons x1 xr =>
       refine Am C ?_ rfl
       cases b with
       | len=>exact Pe C.blt A s1 (C.gl h2)
       | int=>exact Pf C.blt A s1 (C.gl h2)
       | tupleL=>exact Kv C.blt A s1 (C.gl h2)
       | all=>exact Pg C.blt A s1 (C.calm (by rw [show Iw .all=false from rfl,Bool.or_false] at h6; exact h6)) (C.gl h2)
       | str=>exact Ph C.blt A s1 (C.gl h2)
       | lenS=>exact Nf C.blt A s1 (C.gl h2)
       | intS=>exact Ng C.blt A s1 (C.gl h2)
    | cons _ _=>exact nF h
   | _=>exact nF h
  | _=>exact nF h
 | .isi a k,c,X,EX,tn,C,e,hn,h=>by
  cases e with
  | Call fn xs ks q =>
   cases fn with
   | Name y q' =>
    match xs,ks,h with
    | [l,r],[],h =>
     obtain ⟨h,h5⟩:=Aa (show ((y==("isinstance" : Str)) && glB c.sc y && ckE c a l && No c k r && Ai l)=true from h)
     obtain ⟨h,h4⟩:=Aa h
     obtain ⟨h,h3⟩:=Aa h
     obtain ⟨h1,h2⟩:=Aa h
     cases beq_iff_eq.mp h1
     obtain ⟨n1,n2⟩:=Aj hn
     obtain ⟨v,cv,e1,e2,e3,e4⟩:=Ri C h4 (fun n e=>n1 _ (by subst e; exact aaz.mpr rfl))
     exact Am C (Pk C (snd a C l n2 h3).1 e1 h5 e3 (C.gl h2) e2 e4) rfl
    | [],_,h=>exact nF h
    | [_],_,h=>exact nF h
    | _ :: _ :: _ :: _,_,h=>exact nF h
    | [_,_],_ :: _,h=>exact nF h
   | _=>exact nF h
  | _=>exact nF h
 | .dct,c,X,EX,tn,C,e,hn,h=>by
  rcases Nn (show Hr e=true by cases e <;> exact h) with ⟨p,rfl⟩ | ⟨i,k,p1,j,k2,p2,p,rfl⟩
  ·exact Am C Pl rfl
  ·exact Am C Np rfl
 | .mt m a es,c,X,EX,tn,C,e,hn,h=>by
  cases m with
  | index =>
   cases e with
   | Call f xs ks cp =>
    cases f with
    | Attribute o name ap =>
     cases ks with
     | nil =>
      obtain ⟨h,h6⟩:=Aa (show ((name==("index" : Str)) && ckE c a o && nmB o && ckEs c es xs && decide (es.len=1) && (ap.endLine==cp.line))=true from h)
      obtain ⟨h,h5⟩:=Aa h
      obtain ⟨h,h4⟩:=Aa h
      obtain ⟨h,h3⟩:=Aa h
      obtain ⟨h1,h2⟩:=Aa h
      cases beq_iff_eq.mp h1
      obtain ⟨n1,n2⟩:=Aj hn
      have A:=(snd a C (tn:=tn) o n1 h2).1
      cases o with
      | Name z pz =>
       match es,xs,h4,h5,n2 with
       | .cons y .nil,[e],h4,_,n2 =>
        obtain ⟨g,_⟩:=Aa (show (ckE c y e && Ai e && ckEs c .nil [])=true from h4)
        obtain ⟨g1,g2⟩:=Aa g
        exact Am C (LQ A (snd y C (tn:=tn) e (fun n m=>n2 n (aat _ m)) g1).1 g2 h6) rfl
       | .cons y .nil,[],h4,_,_=>exact nF h4
       | .cons y .nil,_ :: _ :: _,h4,_,_ =>
        obtain ⟨_,g⟩:=Aa h4
        exact nF g
       | .nil,_,_,h5,_=>cases of_decide_eq_true h5
       | .cons _ (.cons _ _),_,_,h5,_=>exact absurd (of_decide_eq_true h5) (by simp [Es.len])
      | _=>exact nF h3
     | cons _ _=>exact nF h
    | _=>exact nF h
   | _=>exact nF h
  | count =>
   cases e with
   | Call f xs ks cp =>
    cases f with
    | Attribute o name ap =>
     cases ks with
     | nil =>
      obtain ⟨h,h6⟩:=Aa (show ((name==("count" : Str)) && ckE c a o && KB o && ckEs c es xs && decide (es.len=1) && (ap.endLine==cp.line))=true from h)
      obtain ⟨h,h5⟩:=Aa h
      obtain ⟨h,h4⟩:=Aa h
      obtain ⟨h,h3⟩:=Aa h
      obtain ⟨h1,h2⟩:=Aa h
      cases beq_iff_eq.mp h1
      obtain ⟨n1,n2⟩:=Aj hn
      have A:=(snd a C (tn:=tn) o n1 h2).1
      cases o with
      | Name z pz =>
       match es,xs,h4,h5,n2 with
       | .cons y .nil,[e],h4,_,n2 =>
        obtain ⟨g,_⟩:=Aa (show (ckE c y e && Ai e && ckEs c .nil [])=true from h4)
        obtain ⟨g1,g2⟩:=Aa g
        exact Am C (G3 A rfl (snd y C (tn:=tn) e (fun n m=>n2 n (aat _ m)) g1).1 g2 h6) rfl
       | .cons y .nil,[],h4,_,_=>exact nF h4
       | .cons y .nil,_ :: _ :: _,h4,_,_ =>
        obtain ⟨_,g⟩:=Aa h4
        exact nF g
       | .nil,_,_,h5,_=>cases of_decide_eq_true h5
       | .cons _ (.cons _ _),_,_,h5,_=>exact absurd (of_decide_eq_true h5) (by simp [Es.len])
      | Subscript z1 z2 z3 =>
       match es,xs,h4,h5,n2 with
       | .cons y .nil,[e],h4,_,n2 =>
        obtain ⟨g,_⟩:=Aa (show (ckE c y e && Ai e && ckEs c .nil [])=true from h4)
        obtain ⟨g1,g2⟩:=Aa g
        exact Am C (G3 A rfl (snd y C (tn:=tn) e (fun n m=>n2 n (aat _ m)) g1).1 g2 h6) rfl
       | .cons y .nil,[],h4,_,_=>exact nF h4
       | .cons y .nil,_ :: _ :: _,h4,_,_ =>
        obtain ⟨_,g⟩:=Aa h4
        exact nF g
       | .nil,_,_,h5,_=>cases of_decide_eq_true h5
       | .cons _ (.cons _ _),_,_,h5,_=>exact absurd (of_decide_eq_true h5) (by simp [Es.len])
      | _=>exact nF h3
     | cons _ _=>exact nF h
    | _=>exact nF h
   | _=>exact nF h
 | .comp0 nl fr g it elt,c,X,EX,tn,C,e,hn,h=>by
  cases e with
  | ListComp elt' gens scope q =>
   obtain ⟨tg,iter,ifs,rfl,h⟩:=C9 h
   obtain ⟨h,h7⟩:=Aa h
   obtain ⟨h,h6⟩:=Aa h
   obtain ⟨h,h5⟩:=Aa h
   obtain ⟨h,h4⟩:=Aa h
   obtain ⟨h,h3⟩:=Aa h
   obtain ⟨h,h2⟩:=Aa h
   obtain ⟨h,h1⟩:=Aa h
   obtain ⟨hcm,h0⟩:=Aa h
   cases ifs with
   | cons _ _=>cases h0
   | nil =>
   have h2:=of_decide_eq_true h2
   subst h2
   obtain ⟨S,nd⟩:=Ht C h1
   obtain ⟨n1,n2⟩:=Aj hn
   refine Am C (LK (C.calm hcm) S (sndI it C iter n1 h4) (fun i hi=>of_decide_eq_true (aaw.mp h3 i hi)) (fun z=>⟨?_,?_⟩) (CB h5)) rfl
   ·exact FL (C.blk nd z) h6
   ·exact (snd elt (C.blk nd z) elt' (fun n m=>(n2 n m).blk) h7).1
  | _=>exact nF h
 | .compX nl fr g it elt,c,X,EX,tn,C,e,hn,h=>by
  cases e with
  | ListComp elt' gens scope q =>
   obtain ⟨tg,iter,ifs,rfl,h⟩:=C9 h
   obtain ⟨h,h7⟩:=Aa h
   obtain ⟨h,h6⟩:=Aa h
   obtain ⟨h,h5⟩:=Aa h
   obtain ⟨h,h4⟩:=Aa h
   obtain ⟨h,h3⟩:=Aa h
   obtain ⟨h,h2⟩:=Aa h
   obtain ⟨h,h1⟩:=Aa h
   obtain ⟨h,h0⟩:=Aa h
   obtain ⟨hrz,hcm⟩:=Aa h
   cases ifs with
   | cons _ _=>cases h0
   | nil =>
   have h2:=of_decide_eq_true h2
   subst h2
   obtain ⟨S,nd⟩:=Ht C h1
   obtain ⟨n1,n2⟩:=Aj hn
   refine Am C (LL (C.calm hcm) (C.ph hrz) S (sndI it C iter n1 h4) (fun i hi=>of_decide_eq_true (aaw.mp h3 i hi)) (fun z=>⟨?_,?_⟩) (CB h5)) rfl
   ·exact FL (C.blkX nd z) h6
   ·exact (snd elt (C.blkX nd z) elt' (fun n m=>(n2 n m).blkX) h7).1
  | _=>exact nF h
theorem sndA {p:Px} {lv:Nat}:∀ (es:Es) {c:CkC} {X:Cx} {EX:EXT} {tn:List Nat} (C:Ct p c lv X EX) (xs:List Expr),(∀ n ∈ es.need,NeedOk p lv X n)->ckEs c es xs=true ->
  PA X xs (lEs p EX tn es)/\∀ (k:Bool) (q:Pos),PE X (.BoolOp (if k then .And else .Or) xs q) (lE p EX tn (.bo k es))/\(es.tsts=true->PW X (.BoolOp (if k then .And else .Or) xs q) (lT p EX tn (.bo k es)))
 | .nil,c,X,EX,tn,C,xs,hn,h=>by
  cases xs with
  | nil =>
   refine ⟨M2,fun k q=>⟨fun pins s σ H Q I h=>?_,fun _ wh pins s σ H Q I h=>?_⟩⟩
   ·obtain ⟨τ,rfl,hF,j,k',hj,h⟩:=h
    simp only [ev,evBo] at h
    exact nE h
   ·obtain ⟨τ,rfl,hF,hj,h⟩:=h
    simp only [tv,ev,evBo] at h
    exact nE h
  | cons _ _=>exact nF h
 | .cons e r,c,X,EX,tn,C,xs,hn,h=>by
  cases xs with
  | nil=>exact nF h
  | cons x xs =>
   obtain ⟨h,h3⟩:=Aa (show (ckE c e x && Ai x && ckEs c r xs)=true from h)
   obtain ⟨h1,h2⟩:=Aa h
   obtain ⟨n1,n2⟩:=Aj hn
   obtain ⟨A1,A2⟩:=snd e C (tn:=tn) x n1 h1
   obtain ⟨B1,B2⟩:=sndA r C (tn:=tn) xs n2 h3
   refine ⟨Ly A1 B1 (Ad h2),fun k q=>?_⟩
   cases r with
   | nil =>
    cases xs with
    | nil=>exact ⟨Q9 A1,fun z=>OZ (A2 (Aa (show (e.tst && true)=true from z)).1)⟩
    | cons _ _=>exact nF h3
   | cons e' r' =>
    cases xs with
    | nil=>exact nF h3
    | cons x' xs' =>
     obtain ⟨C1,C2⟩:=B2 k q
     exact ⟨OY A1 C1,fun z=>let ⟨z1,z2⟩:=Aa (show (e.tst && (Es.cons e' r').tsts)=true from z); M8 (A2 z1) (C2 z2)⟩
theorem sndI {p:Px} {lv:Nat}:∀ (it:It) {c:CkC} {X:Cx} {EX:EXT} {tn:List Nat} {tg:Expr} (C:Ct p c lv X EX) (e:Expr),(∀ n ∈ it.need,NeedOk p lv X n)->ckI c tg it e=true->PI X tg e (lI p EX tn it)
 | .seq a,c,X,EX,tn,tg,C,e,hn,h=>Ni C.K (snd a C e hn h).1
 | .seqL a,c,X,EX,tn,tg,C,e,hn,h=>LJ C.K (snd a C e hn h).1
 | .r1 a,c,X,EX,tn,tg,C,e,hn,h=>by
  cases e with
  | Call fn xs ks q =>
   cases fn with
   | Name y q' =>
    match xs,ks,h with
    | [l],[],h =>
     obtain ⟨h,h4⟩:=Aa (show ((y==("range" : Str)) && glB c.sc y && ckE c a l && Ai l)=true from h)
     obtain ⟨h,h3⟩:=Aa h
     obtain ⟨h1,h2⟩:=Aa h
     cases beq_iff_eq.mp h1
     exact Pi (snd a C l hn h3).1 h4 (C.gl h2) (C.blt _ (by simp [EZ]))
    | [],_,h=>exact nF h
    | _ :: _ :: _,_,h=>exact nF h
    | [_],_ :: _,h=>exact nF h
   | _=>exact nF h
  | _=>exact nF h
 | .chs a,c,X,EX,tn,tg,C,e,hn,h=>Nk (snd a C (tn:=tn) e hn (show ckE c a e=true from by cases e <;> exact h)).1
end
end Pu
end
section
namespace Pu
open PySem PySem.Spec PyProof.Rows PySem.W L2
inductive Md where
 | sh
 | ow (k:Nat)
 | br (k:Nat)
 | dead
 deriving DecidableEq
noncomputable abbrev Ms:=List Md
noncomputable def Md.tn:Md->Nat
 | .sh=>0
 | .ow k=>k
 | .br k=>k
 | .dead=>99
noncomputable def Md.le:Md->Md->Bool
 | _,.dead=>true
 | .sh,.sh=>true
 | .ow _,.sh=>true
 | .ow k,.ow k'=>decide (0 < k'/\k'<=k)
 | .br k,.br k'=>decide (k=k')
 | _,_=>false
noncomputable def Md.small:Md->Bool
 | .ow k=>decide (0 < k/\k < 90)
 | .br k=>decide (k < 90)
 | _=>true
noncomputable def Md.meet (a b:Md):Md:=if a=b then a else match a,b with
 | .ow k,.ow k'=>if 0 < min k k' then .ow (min k k') else .sh
 | .ow _,.sh=>.sh
 | .sh,.ow _=>.sh
 | _,_=>.dead
noncomputable def tnM (m:Ms):List Nat:=m.map Md.tn
theorem AC {m:Ms} {i j:Nat} (h:(tnM m)[i]?=some j):∃ d,m[i]?=some d/\d.tn=j:=by
 unfold tnM at h
 rw [aau] at h
 exact aas.mp h
theorem At {m:Ms} {i:Nat} {d:Md} (h:m[i]?=some d):(tnM m)[i]?=some d.tn:=by
 unfold tnM; rw [aau,h]; rfl
noncomputable def Own (m:Ms) (τ:Ft) (a:Addr):Prop:=∃ (i:Nat) (t:T) (k:Nat),τ[i]?=some (some t)/\m[i]?=some (.ow k)/\a ∈ t.adr k
noncomputable def Md.low:Md->Nat
 | .sh=>0
 | .ow _=>0
 | .br k=>k
 | .dead=>99
structure Sf (p:Px) (H0:Hp) (A0:Addr->Prop) (m:Ms) (τ:Ft) (H:Hp):Prop where
 len:τ.length=m.length
 small:∀ d ∈ m,d.small=true
 same:Same H0 H
 ok:Fok p (tnM m) τ H
 own:∀ (i:Nat) (t:T) (k:Nat) (a:Addr),τ[i]?=some (some t)->m[i]?=some (.ow k)->a ∈ t.adr k->H0 a=none/\∃ vs,H a=some (.lst vs)
 src:∀ a,Sh (tnM m) τ a->H0 a=none\/A0 a
 nd:∀ (i:Nat) (t:T) (k:Nat),τ[i]?=some (some t)->m[i]?=some (.ow k)->t.Nd k
 sep:∀ (i j:Nat) (t u:T) (k:Nat) (d:Md),i ≠ j->τ[i]?=some (some t)->m[i]?=some (.ow k)->τ[j]?=some (some u)->m[j]?=some d->d ≠ .dead->∀ a ∈ t.adr k,a ∉ u.rest d.low
 top:∀ (i j:Nat) (t u:T) (k k2:Nat),τ[i]?=some (some t)->m[i]?=some (.ow k)->τ[j]?=some (some u)->m[j]?=some (.br k2)->∀ a ts,t=.lst a ts->a ∉ u.rest 0
section
variable {p:Px} {H0:Hp} {A0:Addr->Prop} {m m':Ms} {τ:Ft} {H H':Hp}
theorem Sf.at (S:Sf p H0 A0 m τ H) {i:Nat} {t:T} {d:Md} (e:τ[i]?=some (some t)) (h:m[i]?=some d) (hd:d ≠ .dead):t.Ok p H:=by
 refine S.ok i t d.tn e (At h) ?_
 have:=S.small d (aai h)
 cases d with
 | sh=>exact (by decide:(0:Nat) < 90)
 | ow k=>exact (of_decide_eq_true this).2
 | br k=>exact of_decide_eq_true this
 | dead=>exact absurd rfl hd
theorem Sf.ownOk (S:Sf p H0 A0 m τ H) {a:Addr} (o:Own m τ a):H0 a=none/\∃ vs,H a=some (.lst vs):=by
 obtain ⟨i,t,k,e,h,q⟩:=o
 exact S.own i t k a e h q
theorem Sf.disj (S:Sf p H0 A0 m τ H) {a:Addr} (o:Own m τ a):¬ Sh (tnM m) τ a:=by
 rintro ⟨j,u,jj,e',h',l,q'⟩
 obtain ⟨i,t,k,e,h,q⟩:=o
 obtain ⟨d,hd,rfl⟩:=AC h'
 have hdd:d ≠ .dead:=fun z=>by subst z; exact absurd l (by decide)
 by_cases z:i=j
 ·subst z
  rw [h] at hd; cases hd
  rw [e] at e'
  cases e'
  exact (S.nd i _ k e h).2 a q' q
 ·refine S.sep i j t u k d z e h e' hd hdd a q (T.rest_le u ?_ q')
  cases d <;> simp [Md.low,Md.tn]
theorem Sf.grow (S:Sf p H0 A0 m τ H) (s:Same H H'):Sf p H0 A0 m τ H' :=
 ⟨S.len,S.small,S.same.trans s,S.ok.same s,fun i t k a e h q=>⟨(S.own i t k a e h q).1,let ⟨vs,z⟩:=(S.own i t k a e h q).2; ⟨vs,s _ _ z⟩⟩,S.src,S.nd,S.sep,S.top⟩
noncomputable def leM (m m':Ms):Bool:=decide (m.length=m'.length) && (m.zip m').all fun q=>q.1.le q.2
theorem CD (h:leM m m'=true) {i:Nat} {d':Md} (e:m'[i]?=some d'):∃ d,m[i]?=some d/\d.le d'=true:=by
 unfold leM at h
 obtain ⟨h1,h2⟩:=Aa h
 have h1:=of_decide_eq_true h1
 have hi:i < m.length:=by
  rw [h1]; exact (aaC.mp e).1
 refine ⟨m[i],aam hi,aaw.mp h2 (m[i],d') (JM (aam hi) e)⟩
theorem FM {m:Ms} (h:∀ d ∈ m,d.small=true):leM m m=true:=by
 unfold leM
 simp only [decide_true,aa1]
 refine aaw.mpr fun q hq=>?_
 obtain ⟨i,hi,e⟩:=abh hq
 have hi':i < m.length:=by simpa using hi
 have hs:=h m[i] (abt hi')
 have:q=(m[i],m[i]):=by rw [<- e]; simp
 rw [this]
 generalize m[i]=d at hs
 cases d <;> simp_all [Md.le,Md.small]
theorem Sf.weak (S:Sf p H0 A0 m τ H) (h:leM m m'=true):Sf p H0 A0 m' τ H:=by
 have hl:m.length=m'.length:=of_decide_eq_true (Aa (show (decide (m.length=m'.length) && _)=true from h)).1
 have shd:∀ a,Sh (tnM m') τ a->Sh (tnM m) τ a\/Own m τ a:=by
  rintro a ⟨i,t,j,e,ej,l,q⟩
  obtain ⟨d',hd',rfl⟩:=AC ej
  obtain ⟨d,hd,le⟩:=CD h hd'
  have sm:=S.small d (aai hd)
  cases d' with
  | dead=>exact absurd l (by decide)
  | sh =>
   cases d with
   | sh=>exact .inl ⟨i,t,0,e,At hd,by decide,q⟩
   | ow k =>
    rcases (T.all_iff t k).mp q with z | z
    ·exact .inr ⟨i,t,k,e,hd,z⟩
    ·exact .inl ⟨i,t,k,e,At hd,(of_decide_eq_true sm).2,z⟩
   | _=>cases le
  | ow k' =>
   cases d with
   | ow k =>
    rcases (T.all_iff t k).mp (T.rest_le t (aaA _) q) with z | z
    ·exact .inr ⟨i,t,k,e,hd,z⟩
    ·exact .inl ⟨i,t,k,e,At hd,(of_decide_eq_true sm).2,z⟩
   | _=>cases le
  | br k' =>
   cases d with
   | br k =>
    have:k=k':=of_decide_eq_true le
    subst this
    exact .inl ⟨i,t,k,e,At hd,of_decide_eq_true sm,q⟩
   | _=>cases le
 have ownd:∀ {i:Nat} {k':Nat},m'[i]?=some (.ow k')->∃ k,m[i]?=some (.ow k)/\k'<=k:=by
  intro i k' hd'
  obtain ⟨d,hd,le⟩:=CD h hd'
  cases d with
  | ow k=>exact ⟨k,hd,(of_decide_eq_true le).2⟩
  | _=>cases le
 refine ⟨S.len.trans hl,fun d' hd'=>?_,S.same,fun i t j e ej l=>?_,fun i t k' a e hk q=>?_,fun a sh=>?_,fun i t k' e hk=>?_,fun i j t u k' d' ne e hk e' hd' nd a q=>?_,fun i j t u k' k2 e hk e' hd' a ts z=>?_⟩
 ·obtain ⟨i,hi,rfl⟩:=abh hd'
  obtain ⟨d,hd,le⟩:=CD h (aam hi)
  have sm:=S.small d (aai hd)
  generalize m'[i]=d' at le
  cases d' <;> cases d <;> simp_all [Md.le,Md.small] <;> omega
 ·obtain ⟨d',hd',rfl⟩:=AC ej
  obtain ⟨d,hd,le⟩:=CD h hd'
  refine S.at e hd fun z=>?_
  subst z
  cases d' <;> first | exact absurd l (by decide) | cases le
 ·obtain ⟨k,hd,le⟩:=ownd hk
  exact S.own i t k a e hd (T.adr_le t le q)
 ·rcases shd a sh with z | z
  ·exact S.src a z
  ·exact .inl (S.ownOk z).1
 ·obtain ⟨k,hd,le⟩:=ownd hk
  exact T.nd_le t le (S.nd i t k e hd)
 ·obtain ⟨k,hd,le⟩:=ownd hk
  obtain ⟨d,hdj,lj⟩:=CD h hd'
  have hdd:d ≠ .dead:=fun z=>by subst z; cases d' <;> first | exact nd rfl | cases lj
  refine fun q'=>S.sep i j t u k d ne e hd e' hdj hdd a (T.adr_le t le q) (T.rest_le u ?_ q')
  cases d' <;> cases d <;> first | exact aaA _ | (cases lj; done) | exact absurd rfl nd | skip
  exact Nat.le_of_eq (of_decide_eq_true lj)
 ·obtain ⟨k,hd,le⟩:=ownd hk
  obtain ⟨d,hdj,lj⟩:=CD h hd'
  cases d with
  | br k3=>exact S.top i j t u k k3 e hd e' hdj a ts z
  | _=>cases lj
structure Stp (m m':Ms) (wr:List Nat) (τ τ':Ft) (H H':Hp):Prop where
 keep:∀ a u,H a=some u->¬ Own m τ a->H' a=some u
 grow:∀ a,Own m' τ' a->Own m τ a\/H a=none
 wr:∀ i,i ∉ wr->τ'[i]?=τ[i]?
theorem Own.weak (h:leM m m'=true) {a:Addr} (o:Own m' τ a):Own m τ a:=by
 obtain ⟨i,t,k,e,hk,q⟩:=o
 obtain ⟨d,hd,le⟩:=CD h hk
 cases d with
 | ow k2=>exact ⟨i,t,k2,e,hd,T.adr_le t (of_decide_eq_true le).2 q⟩
 | _=>cases le
theorem Stp.refl (wr:List Nat) (h:leM m m'=true) (s:Same H H'):Stp m m' wr τ τ H H':=⟨fun a u e _=>s a u e,fun a o=>.inl (o.weak h),fun _ _=>rfl⟩
theorem Stp.trans {m1 m2 m3:Ms} {w1 w2:List Nat} {τ1 τ2 τ3:Ft} {H1 H2 H3:Hp} (a:Stp m1 m2 w1 τ1 τ2 H1 H2) (b:Stp m2 m3 w2 τ2 τ3 H2 H3):Stp m1 m3 (w1 ++ w2) τ1 τ3 H1 H3:=by
 refine ⟨fun x u e n=>b.keep x u (a.keep x u e n) fun o=>?_,fun x o=>?_,fun i hi=>?_⟩
 ·rcases a.grow x o with z | z
  ·exact n z
  ·rw [e] at z; cases z
 ·rcases b.grow x o with z | z
  ·exact a.grow x z
  ·cases q:H1 x with
   | none=>exact .inr rfl
   | some u =>
    refine .inl (Classical.byContradiction fun n=>?_)
    rw [a.keep x u q n] at z; cases z
 ·rw [b.wr i (fun h=>hi (aag _ h)),a.wr i (fun h=>hi (aat _ h))]
theorem Stp.mono {w1 w2:List Nat} {τ':Ft} (a:Stp m m' w1 τ τ' H H') (h:∀ i ∈ w1,i ∈ w2):Stp m m' w2 τ τ' H H':=⟨a.keep,a.grow,fun i hi=>a.wr i fun q=>hi (h i q)⟩
end
noncomputable def mdK (k:Nat):Md:=if k=0 then .sh else .ow k
theorem E0 {k k':Nat} (h:mdK k=.ow k'):k'=k/\k ≠ 0:=by unfold mdK at h; split at h <;> simp_all
theorem Rj {k k':Nat} (h:mdK k=.br k'):False:=by unfold mdK at h; split at h <;> simp_all
section
variable {p:Px} {H0:Hp} {A0:Addr->Prop} {m m':Ms} {τ:Ft} {H H1:Hp}
theorem Ab {α:Type} {l:List α} {x i:Nat} {v w:α} (h:(l.set x v)[i]?=some w):(i=x/\w=v)\/(i ≠ x/\l[i]?=some w):=by
 by_cases z:x=i
 ·subst z
  rw [abi] at h
  cases q:l[x]? with
  | none=>rw [q] at h; cases h
  | some y =>
   rw [q] at h
   exact .inl ⟨rfl,by simpa using h.symm⟩
 ·rw [aav z] at h
  exact .inr ⟨fun e=>z e.symm,h⟩
theorem LR {x k ke:Nat} {t:T} (S:Sf p H0 A0 m τ H) (R:Rs p (Sh (tnM m) τ) H H1 0 ke t) (hk:k<=ke) (hx:x < m.length) (h90:k < 90):Sf p H0 A0 (m.set x (mdK k)) (τ.set x (some t)) H1/\Stp m (m.set x (mdK k)) [x] τ (τ.set x (some t)) H H1:=by
 have S1:=S.grow R.same
 have dom:∀ {i:Nat} {u:T} {d:Md},τ[i]?=some (some u)->m[i]?=some d->d ≠ .dead->∀ a ∈ u.rest 0,H a ≠ none:=fun e hd nd a q=>(S.at e hd nd).dom q
 have tnew:∀ a ∈ t.adr k,H a=none:=fun a q=>(R.new a (T.adr_le t hk q)).1
 have town:∀ a,Own m τ a->a ∉ t.rest 0:=fun a o q=>by
  rcases R.src a q with z | z
  ·obtain ⟨_,vs,e⟩:=S.ownOk o
   rw [e] at z; cases z
  ·exact S.disj o z
 have owns:∀ a,Own (m.set x (mdK k)) (τ.set x (some t)) a->a ∈ t.adr k\/Own m τ a:=by
  rintro a ⟨i,u,k',e,hk',q⟩
  rcases Ab e with ⟨rfl,e2⟩ | ⟨ne,e⟩
  ·cases e2
   rcases Ab hk' with ⟨_,z⟩ | ⟨z,_⟩
   ·obtain ⟨rfl,_⟩:=E0 z.symm
    exact .inl q
   ·exact absurd rfl z
  ·rcases Ab hk' with ⟨z,_⟩ | ⟨_,z⟩
   ·exact absurd z ne
   ·exact .inr ⟨i,u,k',e,z,q⟩
 refine ⟨⟨by rw [aaU,aaU]; exact S.len,fun d hd=>?_,S1.same,fun i u j e ej l=>?_,fun i u k' a e hk' q=>?_,fun a sh=>?_,fun i u k' e hk'=>?_,fun i j u w k' d ne e hk' e' hd nd a q=>?_,fun i j u w k' k2 e hk' e' hd a ts z=>?_⟩,
  fun a u e _=>R.same a u e,fun a o=>?_,fun i hi=>?_⟩
 ·rcases abV hd with z | z
  ·exact S.small d z
  ·subst z
   unfold mdK
   split
   ·rfl
   ·exact decide_eq_true ⟨by omega,h90⟩
 ·obtain ⟨d,hd,rfl⟩:=AC ej
  rcases Ab e with ⟨rfl,e2⟩ | ⟨ne,e⟩
  ·cases e2; exact R.ok
  ·rcases Ab hd with ⟨z,_⟩ | ⟨_,z⟩
   ·exact absurd z ne
   ·exact S1.ok i u _ e (At z) l
 ·rcases Ab e with ⟨rfl,e2⟩ | ⟨ne,e⟩
  ·cases e2
   rcases Ab hk' with ⟨_,z⟩ | ⟨z,_⟩
   ·obtain ⟨rfl,_⟩:=E0 z.symm
    have:=R.new a (T.adr_le _ hk q)
    exact ⟨S.same.free this.1,this.2⟩
   ·exact absurd rfl z
  ·rcases Ab hk' with ⟨z,_⟩ | ⟨_,z⟩
   ·exact absurd z ne
   ·exact S1.own i u k' a e z q
 ·obtain ⟨i,u,j,e,ej,l,q⟩:=sh
  obtain ⟨d,hd,rfl⟩:=AC ej
  rcases Ab e with ⟨rfl,e2⟩ | ⟨ne,e⟩
  ·cases e2
   rcases R.src a (T.rest_le _ (aaA _) q) with z | z
   ·exact .inl (S.same.free z)
   ·exact S.src a z
  ·rcases Ab hd with ⟨z,_⟩ | ⟨_,z⟩
   ·exact absurd z ne
   ·exact S.src a ⟨i,u,_,e,At z,l,q⟩
 ·rcases Ab e with ⟨rfl,e2⟩ | ⟨ne,e⟩
  ·cases e2
   rcases Ab hk' with ⟨_,z⟩ | ⟨z,_⟩
   ·obtain ⟨rfl,_⟩:=E0 z.symm
    exact T.nd_le _ hk R.nd
   ·exact absurd rfl z
  ·rcases Ab hk' with ⟨z,_⟩ | ⟨_,z⟩
   ·exact absurd z ne
   ·exact S.nd i u k' e z
 ·rcases Ab e with ⟨rfl,e2⟩ | ⟨n1,e1⟩
  ·cases e2
   rcases Ab hk' with ⟨_,z⟩ | ⟨z,_⟩
   ·obtain ⟨rfl,_⟩:=E0 z.symm
    rcases Ab e' with ⟨z',_⟩ | ⟨n2,e3⟩
    ·exact absurd z'.symm ne
    ·rcases Ab hd with ⟨z',_⟩ | ⟨_,hd3⟩
     ·exact absurd z' n2
     ·exact fun q'=>dom e3 hd3 nd a (T.rest_le w (aaA _) q') (tnew a q)
   ·exact absurd rfl z
  ·rcases Ab hk' with ⟨z,_⟩ | ⟨_,hk3⟩
   ·exact absurd z n1
   ·rcases Ab e' with ⟨z4,e2⟩ | ⟨n2,e3⟩
    ·cases e2
     exact fun q'=>town a ⟨i,u,k',e1,hk3,q⟩ (T.rest_le _ (aaA _) q')
    ·rcases Ab hd with ⟨z,_⟩ | ⟨_,hd3⟩
     ·exact absurd z n2
     ·exact S.sep i j u w k' d ne e1 hk3 e3 hd3 nd a q
 ·rcases Ab hd with ⟨_,z'⟩ | ⟨n2,hd3⟩
  ·exact (Rj z'.symm).elim
  ·rcases Ab e' with ⟨z',_⟩ | ⟨_,e3⟩
   ·exact absurd z' n2
   ·rcases Ab e with ⟨z4,e2⟩ | ⟨n1,e1⟩
    ·cases e2
     rcases Ab hk' with ⟨_,z'⟩ | ⟨z',_⟩
     ·obtain ⟨z5,hk0⟩:=E0 z'.symm
      subst z
      have mem:a ∈ (T.lst a ts).adr k:=by
       cases k with
       | zero=>exact absurd rfl hk0
       | succ n=>exact aab ..
      exact fun q'=>dom e3 hd3 (by intro c; cases c) a q' (tnew a mem)
     ·exact absurd z4 z'
    ·rcases Ab hk' with ⟨z',_⟩ | ⟨_,hk3⟩
     ·exact absurd z' n1
     ·exact S.top i j u w k' k2 e1 hk3 e3 hd3 a ts z
 ·rcases owns a o with z | z
  ·exact .inr (tnew a z)
  ·exact .inl z
 ·rw [aav (fun z=>hi (by simp [z]))]
noncomputable def Ae (m:Ms) (is:List Nat) (d:Md):Ms:=is.foldl (fun m i=>m.set i d) m
theorem BY (d:Md):∀ (is:List Nat) (m:Ms),(Ae m is d).length=m.length
 | [],m=>rfl
 | i :: is,m=>by show (Ae (m.set i d) is d).length=_; rw [BY d is,aaU]
theorem Da {d d':Md}:∀ {is:List Nat} {m:Ms} {i:Nat},(Ae m is d)[i]?=some d'->(i ∈ is/\d'=d)\/(i ∉ is/\m[i]?=some d')
 | [],m,i,h=>.inr ⟨by simp,h⟩
 | j :: is,m,i,h=>by
  rcases Da (is:=is) (m:=m.set j d) h with ⟨z1,z2⟩ | ⟨z1,z2⟩
  ·exact .inl ⟨aaa _ z1,z2⟩
  ·rcases Ab z2 with ⟨rfl,e⟩ | ⟨ne,e⟩
   ·exact .inl ⟨aab ..,e⟩
   ·exact .inr ⟨fun q=>by rcases aah.mp q with q | q; exact ne q; exact z1 q,e⟩
theorem E1:∀ {is:List Nat} {ts:List T} {τ τ':Ft} {i:Nat},Bt is ts τ=some τ'->i ∉ is->τ'[i]?=τ[i]?
 | [],[],τ,τ',i,h,_=>by cases h; rfl
 | [],t :: ts,τ,τ',i,h,_=>by cases h
 | j :: is,[],τ,τ',i,h,_=>by cases h
 | j :: is,t :: ts,τ,τ',i,h,hi=>by
  rw [E1 (is:=is) (ts:=ts) (τ:=τ.set j (some t)) h (fun q=>hi (aaa _ q)),aav (fun z=>hi (by simp [z]))]
theorem Jo {g:Tg} {t:T} {τ τ':Ft} {i:Nat} (h:BR g t τ=some τ') (hi:i ∉ g.sl):τ'[i]?=τ[i]?:=by
 cases g with
 | nm k=>cases h; rw [aav (fun z=>hi (by simp [Tg.sl,z]))]
 | tp is=>cases t <;> first | cases h | exact E1 h hi
theorem Pp {is:List Nat} {τ':Ft} (S:Sf p H0 A0 m τ H) (s:Same H H1) (hlen:τ'.length=τ.length) (hin:∀ (i:Nat) (u:T),i ∈ is->τ'[i]?=some (some u)->u.Ok p H1/\∀ a ∈ u.rest 0,(H0 a=none\/A0 a)/\¬ Own m τ a) (hout:∀ i,i ∉ is->τ'[i]?=τ[i]?) :
  Sf p H0 A0 (Ae m is .sh) τ' H1/\Stp m (Ae m is .sh) is τ τ' H H1:=by
 have S1:=S.grow s
 have Am:∀ {i:Nat} {u:T} {d:Md},τ'[i]?=some (some u)->(Ae m is .sh)[i]?=some d->(d=.sh/\u.Ok p H1/\∀ a ∈ u.rest 0,(H0 a=none\/A0 a)/\¬ Own m τ a)\/(τ[i]?=some (some u)/\m[i]?=some d):=by
  intro i u d e hd
  rcases Da hd with ⟨z1,z2⟩ | ⟨z1,z2⟩
  ·exact .inl ⟨z2,hin i u z1 e⟩
  ·exact .inr ⟨(hout i z1) ▸ e,z2⟩
 have town:∀ {u:T},(∀ a ∈ u.rest 0,(H0 a=none\/A0 a)/\¬ Own m τ a)->∀ a,Own m τ a->a ∉ u.rest 0:=fun src a o q=>(src a q).2 o
 refine ⟨⟨by rw [hlen,BY]; exact S.len,fun d hd=>?_,S1.same,fun i u j e ej l=>?_,fun i u k' a e hk' q=>?_,fun a sh=>?_,fun i u k' e hk'=>?_,fun i j u w k' d ne e hk' e' hd nd a q=>?_,fun i j u w k' k2 e hk' e' hd a ts z=>?_⟩,
  fun a u e _=>s a u e,fun a o=>?_,fun i hi=>hout i hi⟩
 ·obtain ⟨i,hi,rfl⟩:=abh hd
  rcases Da (aam hi) with ⟨_,z⟩ | ⟨_,z⟩
  ·rw [z]; rfl
  ·exact S.small _ (aai z)
 ·obtain ⟨d,hd,rfl⟩:=AC ej
  rcases Am e hd with ⟨_,q,_⟩ | ⟨q1,q2⟩
  ·exact q
  ·exact S1.ok i u _ q1 (At q2) l
 ·rcases Am e hk' with ⟨z,_⟩ | ⟨q1,q2⟩
  ·cases z
  ·exact S1.own i u k' a q1 q2 q
 ·obtain ⟨i,u,j,e,ej,l,q⟩:=sh
  obtain ⟨d,hd,rfl⟩:=AC ej
  rcases Am e hd with ⟨_,_,q'⟩ | ⟨q1,q2⟩
  ·exact (q' a (T.rest_le u (aaA _) q)).1
  ·exact S.src a ⟨i,u,_,q1,At q2,l,q⟩
 ·rcases Am e hk' with ⟨z,_⟩ | ⟨q1,q2⟩
  ·cases z
  ·exact S.nd i u k' q1 q2
 ·rcases Am e hk' with ⟨z,_⟩ | ⟨q1,q2⟩
  ·cases z
  ·rcases Am e' hd with ⟨_,_,q'⟩ | ⟨q3,q4⟩
   ·exact fun q5=>town q' a ⟨i,u,k',q1,q2,q⟩ (T.rest_le w (aaA _) q5)
   ·exact S.sep i j u w k' d ne q1 q2 q3 q4 nd a q
 ·rcases Am e hk' with ⟨z,_⟩ | ⟨q1,q2⟩
  ·cases z
  ·rcases Am e' hd with ⟨z',_⟩ | ⟨q3,q4⟩
   ·cases z'
   ·exact S.top i j u w k' k2 q1 q2 q3 q4 a ts z
 ·obtain ⟨i,u,k',e,hk',q⟩:=o
  rcases Am e hk' with ⟨z,_⟩ | ⟨q1,q2⟩
  ·cases z
  ·exact .inl ⟨i,u,k',q1,q2,q⟩
theorem Sf.fine (S:Sf p H0 A0 m τ H) {a:Addr} (h:H a=none\/Sh (tnM m) τ a):(H0 a=none\/A0 a)/\¬ Own m τ a:=by
 rcases h with z | z
 ·refine ⟨.inl (S.same.free z),fun o=>?_⟩
  obtain ⟨_,vs,e⟩:=S.ownOk o
  rw [e] at z; cases z
 ·exact ⟨S.src a z,fun o=>S.disj o z⟩
theorem LU {g:Tg} {t:T} {τ':Ft} (S:Sf p H0 A0 m τ H) (s:Same H H1) (ok:t.Ok p H1) (src:∀ a ∈ t.rest 0,(H0 a=none\/A0 a)/\¬ Own m τ a) (h:BR g t τ=some τ'):Sf p H0 A0 (Ae m g.sl .sh) τ' H1/\Stp m (Ae m g.sl .sh) g.sl τ τ' H H1:=by
 refine Pp S s (Hc h) (fun i u hi e=>?_) (fun i hi=>Jo h hi)
 rcases Et (P:=fun o=>∀ w,o=some w->w.Ok p H1/\∀ a ∈ w.rest 0,(H0 a=none\/A0 a)/\¬ Own m τ a) h (fun w e=>by cases e; exact ⟨ok,src⟩)
   (fun a ts e u hu w e'=>by
    cases e'
    rcases e with e | e
    ·subst e
     exact ⟨T.oks_iff.mp ok.2 u hu,fun b q=>src b (T.mem_rests.mpr ⟨u,hu,q⟩)⟩
    ·subst e
     exact ⟨T.oks_iff.mp ok.2 u hu,fun b q=>src b (aaa _ (T.mem_rests.mpr ⟨u,hu,q⟩))⟩) i (some u) e with q | ⟨q,_⟩
 ·exact q u rfl
 ·exact absurd hi q
theorem SJ {g:Tg} {t:T} {τ':Ft} (S:Sf p H0 A0 m τ H) (s:Same H H1) (ok:t.Ok p H1) (src:∀ a ∈ t.rest 0,H a=none\/Sh (tnM m) τ a) (h:BR g t τ=some τ'):Sf p H0 A0 (Ae m g.sl .sh) τ' H1/\Stp m (Ae m g.sl .sh) g.sl τ τ' H H1 :=
 LU S s ok (fun a q=>S.fine (src a q)) h
end
noncomputable def Av:List (Bool × Int)->T->Option T
 | [],t=>some t
 | (false,i) :: r,.lst _ ts=>(ixN ts.length i).bind fun j=>(ts[j]?).bind fun t=>Av r t
 | (true,i) :: r,.tup _ ts=>(ixN ts.length i).bind fun j=>(ts[j]?).bind fun t=>Av r t
 | _,_=>none
noncomputable def Dr (s:T):List (Bool × Int)->T->Option T
 | [],_=>some s
 | (false,i) :: r,.lst a ts=>(ixN ts.length i).bind fun j=>(ts[j]?).bind fun t=>(Dr s r t).map fun t'=>.lst a (ts.set j t')
 | (true,i) :: r,.tup a ts=>(ixN ts.length i).bind fun j=>(ts[j]?).bind fun t=>(Dr s r t).map fun t'=>.tup a (ts.set j t')
 | _,_=>none
noncomputable def lnP:List (Bool × Int)->Nat
 | []=>0
 | (false,_) :: r=>lnP r + 1
 | (true,_) :: r=>lnP r
theorem DS {α:Type} {l:List α} {j:Nat} {x:α} (h:l[j]?=some x):∃ l1 l2,l=l1 ++ x :: l2/\∀ y,l.set j y=l1 ++ y :: l2:=by
 obtain ⟨hj,e⟩:=aaC.mp h
 refine ⟨l.take j,l.drop (j + 1),?_,fun y=>?_⟩
 ·rw [<- e,List.getElem_cons_drop,ab8]
 ·rw [List.set_eq_take_append_cons_drop,if_pos hj]
theorem Dh {l1 l2:List T} {c:T} {k:Nat}:T.Nds (l1 ++ c :: l2) k ↔ T.Nds (l1 ++ l2) k/\c.Nd k/\(∀ a ∈ c.adr k,a ∉ T.rests (l1 ++ l2) 0)/\(∀ a ∈ T.adrs (l1 ++ l2) k,a ∉ c.rest 0):=by
 induction l1 with
 | nil =>
  rw [aa2,aa2,T.nds_cons]
  exact ⟨fun ⟨a,b,c,d⟩=>⟨b,a,c,d⟩,fun ⟨b,a,c,d⟩=>⟨a,b,c,d⟩⟩
 | cons x l1 ih =>
  rw [aaV,aaV,T.nds_cons,T.nds_cons,ih]
  simp only [T.rests_append,T.adrs_append,T.rests,T.adrs,aac,not_or]
  constructor
  ·rintro ⟨h1,⟨h2,h3,h4,h5⟩,h6,h7⟩
   refine ⟨⟨h1,h2,fun a q=>⟨(h6 a q).1,(h6 a q).2.2⟩,fun a q=>h7 a ?_⟩,h3,fun a q=>⟨fun z=>h7 a (.inr (.inl q)) z,h4 a q⟩,fun a q=>?_⟩
   ·rcases q with q | q
    ·exact .inl q
    ·exact .inr (.inr q)
   ·rcases q with q | q
    ·exact (h6 a q).2.1
    ·exact h5 a q
  ·rintro ⟨⟨h1,h2,h6,h7⟩,h3,h4,h5⟩
   refine ⟨h1,⟨h2,h3,fun a q=>(h4 a q).2,fun a q=>h5 a (.inr q)⟩,fun a q=>⟨(h6 a q).1,h5 a (.inl q),(h6 a q).2⟩,fun a q=>?_⟩
   rcases q with q | q | q
   ·exact h7 a (.inl q)
   ·exact (h4 a q).1
   ·exact h7 a (.inr q)
section
variable {p:Px}
theorem Ds:∀ (q:List (Bool × Int)) {t s:T} {k:Nat},Av q t=some s->lnP q<=k->(∀ b ∈ s.rest 0,b ∈ t.rest 0)/\(∀ b ∈ s.adr (k - lnP q),b ∈ t.adr k)
 | [],t,s,k,h,_=>by cases h; exact ⟨fun b q=>q,fun b q=>q⟩
 | (false,i) :: r,.lst a ts,s,k,h,hl=>by
  simp only [Av] at h
  obtain ⟨j,_,h⟩:=bS h
  obtain ⟨c,hc,h⟩:=bS h
  cases k with
  | zero=>simp [lnP] at hl
  | succ k =>
   obtain ⟨h1,h2⟩:=Ds r (k:=k) h (by simp [lnP] at hl; exact hl)
   refine ⟨fun b q=>aaa _ (T.mem_rests.mpr ⟨c,aai hc,h1 b q⟩),fun b q=>aaa _ (T.mem_adrs.mpr ⟨c,aai hc,h2 b ?_⟩)⟩
   have:k + 1 - lnP ((false,i) :: r)=k - lnP r:=by simp only [lnP]; omega
   rw [this] at q; exact q
 | (true,i) :: r,.tup a ts,s,k,h,hl=>by
  simp only [Av] at h
  obtain ⟨j,_,h⟩:=bS h
  obtain ⟨c,hc,h⟩:=bS h
  obtain ⟨h1,h2⟩:=Ds r (k:=k) h hl
  exact ⟨fun b q=>T.mem_rests.mpr ⟨c,aai hc,h1 b q⟩,fun b q=>T.mem_adrs.mpr ⟨c,aai hc,h2 b q⟩⟩
 | (false,i) :: r,.tup a ts,s,k,h,_=>by cases h
 | (true,i) :: r,.lst a ts,s,k,h,_=>by cases h
 | (b,i) :: r,.non,s,k,h,_=>by cases b <;> cases h
 | (b,i) :: r,.bl _,s,k,h,_=>by cases b <;> cases h
 | (b,i) :: r,.int _,s,k,h,_=>by cases b <;> cases h
 | (b,i) :: r,.str _,s,k,h,_=>by cases b <;> cases h
 | (b,i) :: r,.exn _ _,s,k,h,_=>by cases b <;> cases h
theorem LV {l1 l2:List T} {c c':T} {k:Nat} {F N:Addr->Prop} (hFN:∀ b,F b->N b) (nds:T.Nds (l1 ++ c :: l2) k) (nd':c'.Nd k) (hA:∀ b ∈ c'.adr k,b ∈ c.adr k\/F b) (hB:∀ b ∈ c'.rest k,b ∈ c.rest k\/N b) (hF:∀ b,F b->b ∉ T.rests (l1 ++ c :: l2) 0) (hN:∀ b,N b->b ∉ T.adrs (l1 ++ c :: l2) k) :
  T.Nds (l1 ++ c' :: l2) k/\(∀ b ∈ T.adrs (l1 ++ c' :: l2) k,b ∈ T.adrs (l1 ++ c :: l2) k\/F b)/\(∀ b ∈ T.rests (l1 ++ c' :: l2) k,b ∈ T.rests (l1 ++ c :: l2) k\/N b):=by
 obtain ⟨m1,m2,m3,m4⟩:=Dh.mp nds
 have inm:∀ b,b ∈ T.rests (l1 ++ l2) 0->b ∈ T.rests (l1 ++ c :: l2) 0:=fun b q=>by
  simp only [T.rests_append,T.rests,aac] at q ⊢
  rcases q with q | q
  ·exact .inl q
  ·exact .inr (.inr q)
 have ina:∀ b,b ∈ T.adrs (l1 ++ l2) k->b ∈ T.adrs (l1 ++ c :: l2) k:=fun b q=>by
  simp only [T.adrs_append,T.adrs,aac] at q ⊢
  rcases q with q | q
  ·exact .inl q
  ·exact .inr (.inr q)
 have cm:∀ b,b ∈ c.adr k->b ∈ T.adrs (l1 ++ c :: l2) k:=fun b q=>by
  simp only [T.adrs_append,T.adrs,aac]
  exact .inr (.inl q)
 refine ⟨Dh.mpr ⟨m1,nd',fun b q q'=>?_,fun b q q'=>?_⟩,fun b q=>?_,fun b q=>?_⟩
 ·rcases hA b q with z | z
  ·exact m3 b z q'
  ·exact hF b z (inm b q')
 ·rcases (T.all_iff c' k).mp q' with z | z
  ·rcases hA b z with y | y
   ·exact m4 b q ((T.all_iff c k).mpr (.inl y))
   ·exact hN b (hFN b y) (ina b q)
  ·rcases hB b z with y | y
   ·exact m4 b q ((T.all_iff c k).mpr (.inr y))
   ·exact hN b y (ina b q)
 ·simp only [T.adrs_append,T.adrs,aac] at q ⊢
  rcases q with q | q | q
  ·exact .inl (.inl q)
  ·exact (hA b q).imp (fun z=>.inr (.inl z)) id
  ·exact .inl (.inr (.inr q))
 ·simp only [T.rests_append,T.rests,aac] at q ⊢
  rcases q with q | q | q
  ·exact .inl (.inl q)
  ·exact (hB b q).imp (fun z=>.inr (.inl z)) id
  ·exact .inl (.inr (.inr q))
theorem CF {H H':Hp} {a:Addr} {t:T} (hkeep:∀ b w,H b=some w->b ≠ a->H' b=some w) (hpl:∃ vs,H a=some (.lst vs)) (ok:t.Ok p H) (hn:a ∉ t.rest 0):t.Ok p H':=by
 refine ok.keep fun b w e q=>hkeep b w e fun z=>?_
 subst z
 rcases q with q | q
 ·exact hn q
 ·obtain ⟨vs,z⟩:=hpl
  rw [z] at e
  exact q vs (Option.some.inj e).symm
theorem Iz {H H':Hp} {a:Addr} {ts us:List T} {F N:Addr->Prop} (hkeep:∀ b w,H b=some w->b ≠ a->H' b=some w) (hpl:∃ vs,H a=some (.lst vs)) (hs:(T.lst a us).Ok p H') (hFN:∀ b,F b->N b) :
  ∀ (q:List (Bool × Int)) {t:T} {k:Nat},Av q t=some (.lst a ts)->lnP q < k->t.Nd k->t.Ok p H->(∀ b,F b->b ∉ t.rest 0)->(∀ b,N b->b ∉ t.adr k)->(∀ b ∈ T.adrs us (k - 1 - lnP q),b ∈ T.adrs ts (k - 1 - lnP q)\/F b) ->
   (∀ b ∈ T.rests us (k - 1 - lnP q),b ∈ T.rests ts (k - 1 - lnP q)\/N b)->T.Nds us (k - 1 - lnP q) ->
   ∃ t',Dr (.lst a us) q t=some t'/\t'.val=t.val/\t'.Ok p H'/\t'.Nd k/\(∀ b ∈ t'.adr k,b ∈ t.adr k\/F b)/\(∀ b ∈ t'.rest k,b ∈ t.rest k\/N b)
 | [],t,k,h,hl,nd,ok,hF,hN,hA,hB,hnd=>by
  cases h
  cases k with
  | zero=>cases hl
  | succ k =>
   have e:k + 1 - 1 - lnP []=k:=by simp [lnP]
   rw [e] at hA hB hnd
   obtain ⟨n1,n2⟩:=nd
   simp only [T.adr,aaF] at n1
   refine ⟨_,rfl,rfl,hs,⟨?_,fun b m m'=>?_⟩,fun b m=>?_,fun b m=>hB b m⟩
   ·simp only [T.adr,aaF]
    refine ⟨fun m=>?_,hnd.1⟩
    rcases hA a m with z | z
    ·exact n1.1 z
    ·exact hF a z (aab ..)
   ·simp only [T.adr,T.rest,aah] at m m'
    rcases m' with rfl | m'
    ·rcases hB b m with z | z
     ·exact n2 b z (aab ..)
     ·exact hN b z (aab ..)
    ·exact hnd.2 b m m'
   ·simp only [T.adr,aah] at m ⊢
    rcases m with m | m
    ·exact .inl (.inl m)
    ·exact (hA b m).imp .inr id
 | (false,i) :: r,.lst b0 cs,k,h,hl,nd,ok,hF,hN,hA,hB,hnd=>by
  simp only [Av] at h
  obtain ⟨j,hj,h⟩:=bS h
  obtain ⟨c,hc,h⟩:=bS h
  cases k with
  | zero=>cases hl
  | succ k =>
   have hl':lnP r < k:=by simp only [lnP] at hl; omega
   have e:k + 1 - 1 - lnP ((false,i) :: r)=k - 1 - lnP r:=by simp only [lnP]; omega
   rw [e] at hA hB hnd
   obtain ⟨n1,n2⟩:=nd
   simp only [T.adr,T.rest,aaF] at n1 n2
   have nds:T.Nds cs k:=⟨n1.2,fun x hx hy=>n2 x hx (aaa _ hy)⟩
   have hcm:=aai hc
   obtain ⟨l1,l2,e1,e2⟩:=DS hc
   rw [e1] at nds
   obtain ⟨m1,m2,m3,m4⟩:=Dh.mp nds
   obtain ⟨ain,aad⟩:=Ds r (k:=k) h (by omega)
   have aadr:a ∈ c.adr k:=aad a (by
    have:k - lnP r=(k - lnP r - 1) + 1:=by omega
    rw [this]; exact aab ..)
   obtain ⟨c',p1,p2,p3,p4,p5,p6⟩:=Iz hkeep hpl hs hFN r h hl' m2 (T.oks_iff.mp ok.2 c hcm) (fun b f q=>hF b f (aaa _ (T.mem_rests.mpr ⟨c,hcm,q⟩))) (fun b n q=>hN b n (aaa _ (T.mem_adrs.mpr ⟨c,hcm,q⟩))) hA hB hnd
   obtain ⟨q1,q2,q3⟩:=LV hFN nds p4 p5 p6 (fun b f q=>hF b f (aaa _ (by rw [e1]; exact q))) (fun b n q=>hN b n (aaa _ (by rw [e1]; exact q)))
   have ab:b0 ≠ a:=fun z=>n1.1 (by rw [z,T.mem_adrs]; exact ⟨c,hcm,aadr⟩)
   have hv:(l1 ++ c' :: l2).map T.val=cs.map T.val:=by rw [e1]; simp [p2]
   refine ⟨.lst b0 (l1 ++ c' :: l2),by simp only [Dr,hj,aaZ,hc,p1,aa3,e2],rfl,⟨?_,T.oks_iff.mpr fun w hw=>?_⟩,⟨?_,fun b m m'=>?_⟩,fun b m=>?_,fun b m=>?_⟩
   ·rw [hv]
    rcases ok.1 with z | ⟨o,z⟩
    ·exact .inl (hkeep _ _ z ab)
    ·exact .inr ⟨o,hkeep _ _ z ab⟩
   ·rcases aac.mp hw with hw | hw
    ·refine CF hkeep hpl (T.oks_iff.mp ok.2 w (by rw [e1]; exact aat _ hw)) fun q=>m3 a aadr ?_
     rw [T.rests_append]; exact aat _ (T.mem_rests.mpr ⟨w,hw,q⟩)
    ·rcases aah.mp hw with rfl | hw
     ·exact p3
     ·refine CF hkeep hpl (T.oks_iff.mp ok.2 w (by rw [e1]; exact aag _ (aaa _ hw))) fun q=>m3 a aadr ?_
      rw [T.rests_append]; exact aag _ (T.mem_rests.mpr ⟨w,hw,q⟩)
   ·simp only [T.adr,aaF]
    refine ⟨fun m=>?_,q1.1⟩
    rcases q2 b0 m with z | z
    ·exact n1.1 (by rw [e1]; exact z)
    ·exact hF b0 z (aab ..)
   ·simp only [T.adr,T.rest,aah] at m m'
    rcases m' with rfl | m'
    ·rcases q3 b m with z | z
     ·exact n2 b (by rw [e1]; exact z) (aab ..)
     ·exact hN b z (aab ..)
    ·exact q1.2 b m m'
   ·simp only [T.adr,aah] at m ⊢
    rcases m with m | m
    ·exact .inl (.inl m)
    ·rw [e1]; exact (q2 b m).imp .inr id
   ·simp only [T.rest] at m ⊢
    rw [e1]; exact q3 b m
 | (true,i) :: r,.tup b0 cs,k,h,hl,nd,ok,hF,hN,hA,hB,hnd=>by
  simp only [Av] at h
  obtain ⟨j,hj,h⟩:=bS h
  obtain ⟨c,hc,h⟩:=bS h
  have hl':lnP r < k:=hl
  have nds:T.Nds cs k:=nd
  have hcm:=aai hc
  obtain ⟨l1,l2,e1,e2⟩:=DS hc
  rw [e1] at nds
  obtain ⟨m1,m2,m3,m4⟩:=Dh.mp nds
  obtain ⟨ain,aad⟩:=Ds r (k:=k) h (by omega)
  have aadr:a ∈ c.adr k:=aad a (by
   have:k - lnP r=(k - lnP r - 1) + 1:=by omega
   rw [this]; exact aab ..)
  obtain ⟨c',p1,p2,p3,p4,p5,p6⟩:=Iz hkeep hpl hs hFN r h hl' m2 (T.oks_iff.mp ok.2 c hcm) (fun b f q=>hF b f (T.mem_rests.mpr ⟨c,hcm,q⟩)) (fun b n q=>hN b n (T.mem_adrs.mpr ⟨c,hcm,q⟩)) hA hB hnd
  obtain ⟨q1,q2,q3⟩:=LV hFN nds p4 p5 p6 (fun b f q=>hF b f (by rw [T.rest,e1]; exact q)) (fun b n q=>hN b n (by rw [T.adr,e1]; exact q))
  have ab:b0 ≠ a:=fun z=>by
   obtain ⟨vs,y⟩:=hpl
   have:=ok.1
   rw [z,y] at this; cases this
  have hv:(l1 ++ c' :: l2).map T.val=cs.map T.val:=by rw [e1]; simp [p2]
  refine ⟨.tup b0 (l1 ++ c' :: l2),by simp only [Dr,hj,aaZ,hc,p1,aa3,e2],rfl,⟨?_,T.oks_iff.mpr fun w hw=>?_⟩,q1,fun b m=>?_,fun b m=>?_⟩
  ·rw [hv]; exact hkeep _ _ ok.1 ab
  ·rcases aac.mp hw with hw | hw
   ·refine CF hkeep hpl (T.oks_iff.mp ok.2 w (by rw [e1]; exact aat _ hw)) fun q=>m3 a aadr ?_
    rw [T.rests_append]; exact aat _ (T.mem_rests.mpr ⟨w,hw,q⟩)
   ·rcases aah.mp hw with rfl | hw
    ·exact p3
    ·refine CF hkeep hpl (T.oks_iff.mp ok.2 w (by rw [e1]; exact aag _ (aaa _ hw))) fun q=>m3 a aadr ?_
     rw [T.rests_append]; exact aag _ (T.mem_rests.mpr ⟨w,hw,q⟩)
  ·simp only [T.adr] at m ⊢
   rw [e1]; exact q2 b m
  ·simp only [T.rest] at m ⊢
   rw [e1]; exact q3 b m
 | (false,i) :: r,.tup a ts,k,h,_,_,_,_,_,_,_,_=>by cases h
 | (true,i) :: r,.lst a ts,k,h,_,_,_,_,_,_,_,_=>by cases h
 | (b,i) :: r,.non,k,h,_,_,_,_,_,_,_,_=>by cases b <;> cases h
 | (b,i) :: r,.bl _,k,h,_,_,_,_,_,_,_,_=>by cases b <;> cases h
 | (b,i) :: r,.int _,k,h,_,_,_,_,_,_,_,_=>by cases b <;> cases h
 | (b,i) :: r,.str _,k,h,_,_,_,_,_,_,_,_=>by cases b <;> cases h
 | (b,i) :: r,.exn _ _,k,h,_,_,_,_,_,_,_,_=>by cases b <;> cases h
end
theorem Ge:∀ (q:List (Bool × Int)) {t s:T} {k:Nat},Av q t=some s->lnP q<=k->t.Nd k->s.Nd (k - lnP q)
 | [],t,s,k,h,_,n=>by cases h; exact n
 | (false,i) :: r,.lst a ts,s,k,h,hl,n=>by
  simp only [Av] at h
  obtain ⟨j,_,h⟩:=bS h
  obtain ⟨c,hc,h⟩:=bS h
  cases k with
  | zero=>simp [lnP] at hl
  | succ k =>
   obtain ⟨n1,n2⟩:=n
   simp only [T.adr,T.rest,aaF] at n1 n2
   have nds:T.Nds ts k:=⟨n1.2,fun x hx hy=>n2 x hx (aaa _ hy)⟩
   obtain ⟨l1,l2,e1,_⟩:=DS hc
   rw [e1] at nds
   have:=Ge r (k:=k) h (by simp [lnP] at hl; exact hl) (Dh.mp nds).2.1
   have e:k + 1 - lnP ((false,i) :: r)=k - lnP r:=by simp only [lnP]; omega
   rw [e]; exact this
 | (true,i) :: r,.tup a ts,s,k,h,hl,n=>by
  simp only [Av] at h
  obtain ⟨j,_,h⟩:=bS h
  obtain ⟨c,hc,h⟩:=bS h
  have nds:T.Nds ts k:=n
  obtain ⟨l1,l2,e1,_⟩:=DS hc
  rw [e1] at nds
  exact Ge r (k:=k) h hl (Dh.mp nds).2.1
 | (false,i) :: r,.tup a ts,s,k,h,_,_=>by cases h
 | (true,i) :: r,.lst a ts,s,k,h,_,_=>by cases h
 | (b,i) :: r,.non,s,k,h,_,_=>by cases b <;> cases h
 | (b,i) :: r,.bl _,s,k,h,_,_=>by cases b <;> cases h
 | (b,i) :: r,.int _,s,k,h,_,_=>by cases b <;> cases h
 | (b,i) :: r,.str _,s,k,h,_,_=>by cases b <;> cases h
 | (b,i) :: r,.exn _ _,s,k,h,_,_=>by cases b <;> cases h
theorem IA (ts:List T) (j:Nat) (t:T):T.dats (ts.set j t)=(T.dats ts).set j t.dat:=by rw [T.dats_map,T.dats_map,abJ]
theorem GB {f:List D->Option (List D)}:∀ (q:List (Bool × Int)) {t:T} {d':D},Bh f q t.dat=some d'->∃ a ts ds',Av q t=some (.lst a ts)/\f (T.dats ts)=some ds'/\∀ us t',T.dats us=ds'->Dr (.lst a us) q t=some t'->t'.dat=d'
 | [],t,d',h=>by
  cases t with
  | lst a ts =>
   simp only [T.dat,Bh] at h
   obtain ⟨ds',h1,rfl⟩:=aas.mp h
   exact ⟨a,ts,ds',rfl,h1,fun us t' e1 e2=>by cases e2; simp [T.dat,e1]⟩
  | _=>cases h
 | (b,i) :: r,t,d',h=>by
  cases b with
  | false =>
   cases t with
   | lst a ts =>
    simp only [T.dat,Bh,Ac] at h
    obtain ⟨j,hj,h⟩:=bS h
    obtain ⟨d,hd,h⟩:=bS h
    obtain ⟨d2,h1,rfl⟩:=aas.mp h
    obtain ⟨c,hc,rfl⟩:=Er hd
    obtain ⟨a',ts',ds',s1,s2,s3⟩:=GB r h1
    refine ⟨a',ts',ds',by simp only [Av,hj,aaZ,hc,s1],s2,fun us t' e1 e2=>?_⟩
    simp only [Dr,hj,aaZ,hc] at e2
    obtain ⟨c',e3,rfl⟩:=aas.mp e2
    simp only [T.dat,IA,s3 us c' e1 e3]
   | _=>cases h
  | true =>
   cases t with
   | tup a ts =>
    simp only [T.dat,Bh,Ac] at h
    obtain ⟨j,hj,h⟩:=bS h
    obtain ⟨d,hd,h⟩:=bS h
    obtain ⟨d2,h1,rfl⟩:=aas.mp h
    obtain ⟨c,hc,rfl⟩:=Er hd
    obtain ⟨a',ts',ds',s1,s2,s3⟩:=GB r h1
    refine ⟨a',ts',ds',by simp only [Av,hj,aaZ,hc,s1],s2,fun us t' e1 e2=>?_⟩
    simp only [Dr,hj,aaZ,hc] at e2
    obtain ⟨c',e3,rfl⟩:=aas.mp e2
    simp only [T.dat,IA,s3 us c' e1 e3]
   | _=>cases h
section
variable {p:Px} {H0:Hp} {A0:Addr->Prop} {m m1:Ms} {τ:Ft} {H H1:Hp}
theorem LW {x k:Nat} {t:T} {q:List (Bool × Int)} {a:Addr} {ts us:List T} {F N:Addr->Prop} (S:Sf p H0 A0 m τ H) (s:Same H H1) (hx:τ[x]?=some (some t)) (hm:m[x]?=some (.ow k)) (hq:Av q t=some (.lst a ts)) (hl:lnP q < k) (hus:T.Oks p H1 us) (hFN:∀ b,F b->N b)
  (hA:∀ b ∈ T.adrs us (k - 1 - lnP q),b ∈ T.adrs ts (k - 1 - lnP q)\/F b) (hB:∀ b ∈ T.rests us (k - 1 - lnP q),b ∈ T.rests ts (k - 1 - lnP q)\/N b) (hnd:T.Nds us (k - 1 - lnP q))
  (f0:∀ b,F b->b ∉ t.rest 0) (f1:∀ b,F b->H0 b=none/\∃ vs,H1 b=some (.lst vs)) (f4:∀ b,F b->Own m τ b\/H b=none) (n0:∀ b,N b->b ∉ t.adr k) (n1:∀ b,N b->H0 b=none\/A0 b)
  (hlen:m1.length=m.length) (hmx:m1[x]?=some (.ow k)) (hmo:∀ (j:Nat) (d:Md),j ≠ x->m1[j]?=some d->d ≠ .dead->m[j]?=some d/\(q ≠ []->∀ k2,d ≠ .br k2))
  (f2:∀ (j:Nat) (u:T) (d:Md),j ≠ x->τ[j]?=some (some u)->m1[j]?=some d->d ≠ .dead->∀ b,F b->b ∉ u.rest d.low) (n2:∀ (i:Nat) (u:T) (k':Nat),i ≠ x->τ[i]?=some (some u)->m1[i]?=some (.ow k')->∀ b,N b->b ∉ u.adr k') :
  ∃ t',Dr (.lst a us) q t=some t'/\t'.val=t.val/\Sf p H0 A0 m1 (τ.set x (some t')) (L2.upd H1 a (.lst (us.map T.val)))/\Stp m m1 [x] τ (τ.set x (some t')) H (L2.upd H1 a (.lst (us.map T.val))):=by
 have S1:=S.grow s
 obtain ⟨ain,aad⟩:=Ds q (k:=k) hq (by omega)
 have ek:k - lnP q=(k - 1 - lnP q) + 1:=by omega
 have aadr:a ∈ t.adr k:=aad a (by rw [ek]; exact aab ..)
 have arest:a ∈ t.rest 0:=(T.all_iff t k).mpr (.inl aadr)
 have nds:=Ge q hq (by omega:lnP q<=k) (S.nd x t k hx hm)
 rw [ek] at nds
 obtain ⟨nd1,nd2⟩:=nds
 simp only [T.adr,T.rest,aaF] at nd1 nd2
 have hpl:∃ vs,H1 a=some (.lst vs):=(S1.own x t k a hx hm aadr).2
 have hkeep:∀ b w,H1 b=some w->b ≠ a->L2.upd H1 a (.lst (us.map T.val)) b=some w:=fun b w e n=>by rw [Af n]; exact e
 have aus:a ∉ T.rests us 0:=fun z=>by
  rcases (T.alls_iff us (k - 1 - lnP q)).mp z with z | z
  ·rcases hA a z with y | y
   ·exact nd1.1 y
   ·exact f0 a y arest
  ·rcases hB a z with y | y
   ·exact nd2 a y (aab ..)
   ·exact n0 a y aadr
 have hs:(T.lst a us).Ok p (L2.upd H1 a (.lst (us.map T.val))):=⟨.inl Ak,T.oks_iff.mpr fun u hu=>CF hkeep hpl (T.oks_iff.mp hus u hu) fun z=>aus (T.mem_rests.mpr ⟨u,hu,z⟩)⟩
 obtain ⟨t',p1,p2,p3,p4,p5,p6⟩:=Iz hkeep hpl hs hFN q hq hl (S.nd x t k hx hm) (S1.at hx hm (by intro c; cases c)) f0 n0 hA hB hnd
 have all':∀ b ∈ t'.rest 0,b ∈ t.rest 0\/N b:=fun b z=>by
  rcases (T.all_iff t' k).mp z with z | z
  ·exact (p5 b z).imp (fun y=>(T.all_iff t k).mpr (.inl y)) (hFN b)
  ·exact (p6 b z).imp (fun y=>(T.all_iff t k).mpr (.inr y)) id
 have sm0:0 < k/\k < 90:=of_decide_eq_true (S.small _ (aai hm))
 have sm:=sm0.2
 have other:∀ {j:Nat} {u:T} {d:Md},j ≠ x->τ[j]?=some (some u)->m1[j]?=some d->d ≠ .dead->u.Ok p (L2.upd H1 a (.lst (us.map T.val))):=by
  intro j u d ne e hd nd
  obtain ⟨h1,h2⟩:=hmo j d ne hd nd
  refine CF hkeep hpl (S1.at e h1 nd) ?_
  cases d with
  | sh=>exact S.sep x j t u k _ (Ne.symm ne) hx hm e h1 nd a aadr
  | ow k2=>exact S.sep x j t u k _ (Ne.symm ne) hx hm e h1 nd a aadr
  | br k2 =>
   cases q with
   | nil =>
    cases hq
    exact S.top x j _ u k k2 hx hm e h1 a ts rfl
   | cons _ _=>exact absurd rfl (h2 (by simp) k2)
  | dead=>exact absurd rfl nd
 refine ⟨t',p1,p2,⟨by rw [aaU,hlen]; exact S.len,fun d hd=>?_,fun b u e=>?_,fun i u j e ej l=>?_,fun i u k' b e hk' z=>?_,fun b sh=>?_,fun i u k' e hk'=>?_,fun i j u w k' d ne e hk' e' hd nd b z=>?_,fun i j u w k' k2 e hk' e' hd b cs z=>?_⟩,
  fun b u e n=>?_,fun b o=>?_,fun i hi=>?_⟩
 ·obtain ⟨i,hi,rfl⟩:=abh hd
  by_cases z:i=x
  ·subst z
   rw [aam hi] at hmx
   rw [Option.some.inj hmx]
   exact decide_eq_true sm0
  ·by_cases y:m1[i]=.dead
   ·rw [y]; rfl
   ·exact S.small _ (aai (hmo i _ z (aam hi) y).1)
 ·rw [Af (fun z=>by
   have:=(S.own x t k a hx hm aadr).1
   rw [z] at e
   rw [this] at e; cases e)]
  exact S1.same b u e
 ·obtain ⟨d,hd,rfl⟩:=AC ej
  rcases Ab e with ⟨rfl,e2⟩ | ⟨ne,e1⟩
  ·cases e2; exact p3
  ·exact other ne e1 hd (fun z=>by subst z; exact absurd l (by decide))
 ·rcases Ab e with ⟨rfl,e2⟩ | ⟨ne,e1⟩
  ·cases e2
   rw [hmx] at hk'
   cases hk'
   rcases p5 b z with y | y
   ·obtain ⟨y1,vs,y2⟩:=S1.own i t k b hx hm y
    by_cases w:b=a
    ·subst w; exact ⟨y1,_,Ak⟩
    ·exact ⟨y1,vs,hkeep _ _ y2 w⟩
   ·obtain ⟨y1,vs,y2⟩:=f1 b y
    exact ⟨y1,vs,hkeep _ _ y2 fun w=>f0 b y (w ▸ arest)⟩
  ·obtain ⟨h1,_⟩:=hmo i _ ne hk' (by intro c; cases c)
   obtain ⟨y1,vs,y2⟩:=S1.own i u k' b e1 h1 z
   exact ⟨y1,vs,hkeep _ _ y2 fun w=>S.sep x i t u k _ (Ne.symm ne) hx hm e1 h1 (by intro c; cases c) a aadr (w ▸ (T.all_iff u k').mpr (.inl z))⟩
 ·obtain ⟨i,u,j,e,ej,l,z⟩:=sh
  obtain ⟨d,hd,rfl⟩:=AC ej
  rcases Ab e with ⟨rfl,e2⟩ | ⟨ne,e1⟩
  ·cases e2
   rw [hmx] at hd
   cases hd
   rcases p6 b z with y | y
   ·exact S.src b ⟨i,t,k,hx,At hm,sm,y⟩
   ·exact n1 b y
  ·obtain ⟨h1,_⟩:=hmo i _ ne hd (fun z=>by subst z; exact absurd l (by decide))
   exact S.src b ⟨i,u,_,e1,At h1,l,z⟩
 ·rcases Ab e with ⟨rfl,e2⟩ | ⟨ne,e1⟩
  ·cases e2
   rw [hmx] at hk'
   cases hk'
   exact p4
  ·exact S.nd i u k' e1 (hmo i _ ne hk' (by intro c; cases c)).1
 ·rcases Ab e with ⟨rfl,e2⟩ | ⟨ne1,e1⟩
  ·cases e2
   rw [hmx] at hk'
   cases hk'
   rcases Ab e' with ⟨z',_⟩ | ⟨ne2,e3⟩
   ·exact absurd z'.symm ne
   ·rcases p5 b z with y | y
    ·exact S.sep i j t w k d ne hx hm e3 (hmo j d ne2 hd nd).1 nd b y
    ·exact f2 j w d ne2 e3 hd nd b y
  ·obtain ⟨h1,_⟩:=hmo i _ ne1 hk' (by intro c; cases c)
   rcases Ab e' with ⟨z',e2⟩ | ⟨ne2,e3⟩
   ·cases e2
    subst z'
    rw [hmx] at hd
    cases hd
    intro y
    rcases all' b y with y | y
    ·exact S.sep i j u t k' _ ne e1 h1 hx hm (by intro c; cases c) b z y
    ·exact n2 i u k' ne1 e1 hk' b y z
   ·exact S.sep i j u w k' d ne e1 h1 e3 (hmo j d ne2 hd nd).1 nd b z
 ·have ne2:j ≠ x:=fun y=>by subst y; rw [hmx] at hd; cases hd
  rcases Ab e' with ⟨y,_⟩ | ⟨_,e3⟩
  ·exact absurd y ne2
  obtain ⟨h3,h4⟩:=hmo j _ ne2 hd (by intro c; cases c)
  rcases Ab e with ⟨rfl,e2⟩ | ⟨ne1,e1⟩
  ·cases e2
   rw [hmx] at hk'
   cases hk'
   cases q with
   | nil =>
    cases hq
    cases p1
    cases z
    exact S.top i j _ w k k2 hx hm e3 h3 _ ts rfl
   | cons _ _=>exact absurd rfl (h4 (by simp) k2)
  ·exact S.top i j u w k' k2 e1 (hmo i _ ne1 hk' (by intro c; cases c)).1 e3 h3 b cs z
 ·rw [Af (show b ≠ a from fun z=>n ⟨x,t,k,hx,hm,by rw [z]; exact aadr⟩)]
  exact s b u e
 ·obtain ⟨i,u,k',e,hk',z⟩:=o
  rcases Ab e with ⟨rfl,e2⟩ | ⟨ne,e1⟩
  ·cases e2
   rw [hmx] at hk'
   cases hk'
   rcases p5 b z with y | y
   ·exact .inl ⟨i,t,k,hx,hm,y⟩
   ·exact f4 b y
  ·exact .inl ⟨i,u,k',e1,(hmo i _ ne hk' (by intro c; cases c)).1,z⟩
 ·rw [aav (fun z=>hi (by simp [z]))]
end
structure Zx where
 p:Px
 H0:Hp
 A0:Addr->Prop
 EX:EXT
 mx:Ms
 dep:Nat
noncomputable def Um.kind:Um->Nat
 | .append=>1
 | .insert=>3
 | .extend=>2
 | _=>0
mutual
noncomputable def wrS:S->List Nat
 | .asg x _ _=>[x]
 | .dem _ _=>[]
 | .dead _=>[]
 | .asgT xs _=>xs
 | .mut x _ _ _=>[x]
 | .expr _=>[]
 | .iff _ a b=>wrSs a ++ wrSs b
 | .wh _ b=>wrSs b
 | .for_ g _ b=>g.sl ++ wrSs b
 | .ret _=>[]
 | .retL _=>[]
 | .raise _ _=>[]
 | .try_ b _ i h e=>wrSs b ++ (i :: (wrSs h ++ wrSs e))
noncomputable def wrSs:Ss->List Nat
 | .nil=>[]
 | .cons s r=>wrS s ++ wrSs r
 | .reps x _ _=>[x]
end
noncomputable def SK (a b:Ms):Ms:=List.zipWith Md.meet a b
noncomputable def Fo:Option Ms->Option Ms->Option Ms
 | none,b=>b
 | a,none=>a
 | some a,some b=>some (SK a b)
noncomputable def Hu (i:Nat):Option Ms->Option Ms
 | some m=>some (m.set i .dead)
 | none=>none
noncomputable def okJ:Option Ms->Option Ms->Bool
 | some a,some r=>leM a r
 | none,_=>true
 | some _,none=>false
noncomputable def It.nmOf:It->Option Nat
 | .seqL (.nm x)=>some x
 | _=>none
noncomputable def rk (m:Ms) (e:E):Option Nat:=match e with
 | .nm i=>match m[i]? with
  | some (.ow k)=>some k
  | some .sh=>some 0
  | _=>none
 | e=>(jk (tnM m) e).bind fun x=>if x.1=0 then some x.2 else none
noncomputable def Hv (m:Ms):E->Option (Nat × Nat)
 | .nm i=>match m[i]? with
  | some (.ow k)=>some (i,k)
  | _=>none
 | _=>none
theorem Nq {m:Ms} {e:E} {i k:Nat} (h:Hv m e=some (i,k)):e=.nm i/\m[i]?=some (.ow k):=by
 unfold Hv at h
 split at h
 ·split at h
  ·cases h; exact ⟨rfl,‹_›⟩
  ·cases h
 ·cases h
noncomputable def rkT (m:Ms):List Nat->Es->Option Nat
 | _,.nil=>some 9
 | I,.cons e r=>match Hv m e with
  | some (i,k)=>if i ∈ I then none else (rkT m (i :: I) r).bind fun k2=>some (min k k2)
  | none=>(jk (tnM m) e).bind fun c=>if c.1=0 then (rkT m I r).bind fun k2=>some (min c.2 k2) else none
noncomputable def BT (m:Ms):Ms:=m.map fun d=>match d with
 | .br _=>.dead
 | d=>d
noncomputable def D9 (m:Ms):List (Bool × E)->Bool
 | []=>true
 | (_,e) :: r=>(jk (tnM m) e).isSome && D9 m r
noncomputable def lnE:List (Bool × E)->Nat
 | []=>0
 | (false,_) :: r=>lnE r + 1
 | (true,_) :: r=>lnE r
noncomputable def Es.mvOf (m:Ms):Es->Option (Nat × Nat)
 | .cons (.nm y) .nil=>match m[y]? with
  | some (.ow k)=>some (y,k)
  | _=>none
 | _=>none
mutual
noncomputable def msS (mx:Ms) (dep:Nat):S->Ms->Option (Option Ms)
 | .asg x k e,m=>(jk (tnM m) e).bind fun c=>if c.1=0/\k<=c.2/\x < m.length/\k < 90/\leM m mx=true then some (some (m.set x (mdK k))) else none
 | .dem x k,m=>if leM m (m.set x (mdK k))=true then some (some (m.set x (mdK k))) else none
 | .dead x,m=>if leM m (m.set x .dead)=true then some (some (m.set x .dead)) else none
 | .asgT xs e,m=>(jk (tnM m) e).bind fun c=>if c.1=0/\leM m mx=true then some (some (Ae m xs .sh)) else none
 | .mut x p u es,m=>match m[x]? with
  | some (.ow k)=>if lnE p < k/\D9 m p=true/\leM m mx=true then (match es.mvOf m with
    | some (y,ky)=>if u=.append/\y ≠ x/\k - 1 - lnE p<=ky/\p.isEmpty=true then some (some (m.set y (.br ky))) else none
    | none=>(jks (tnM m) es).bind fun c=>if (c.1=0\/(u=.extend/\c.1<=1))/\(k - 1 - lnE p=0\/(u.kind=1/\k - 1 - lnE p<=c.2)\/(u.kind=2/\k - lnE p<=c.2)\/u.kind=0) then some (some (if p.isEmpty then m else BT m)) else none) else none
  | _=>none
 | .expr e,m=>(jk (tnM m) e).bind fun _=>if leM m mx=true then some (some m) else none
 | .iff c a b,m=>(jk (tnM m) c).bind fun _=>if leM m mx=true then (msSs mx dep a m).bind fun ra=>(msSs mx dep b m).bind fun rb=>if okJ ra (Fo ra rb)=true/\okJ rb (Fo ra rb)=true then some (Fo ra rb) else none
  else none
 | .wh c b,m=>(jk (tnM m) c).bind fun _=>if leM m mx=true then (msSs mx dep b m).bind fun r=>match r with
   | none=>some (some m)
   | some mb=>if leM mb m=true then some (some m) else none
  else none
 | .for_ g it b,m=>(jkI (tnM m) it).bind fun j=>if leM m mx=true/\leM m (Ae m g.sl .dead)=true/\(j=0\/∃ x,it.nmOf=some x/\x ∉ wrSs b/\x ∉ g.sl) then (msSs mx dep b (Ae (Ae m g.sl .dead) g.sl .sh)).bind fun r=>match r with
   | none=>some (some (Ae m g.sl .dead))
   | some mb=>if leM mb (Ae m g.sl .dead)=true then some (some (Ae m g.sl .dead)) else none
  else none
 | .ret e,m=>(rk m e).bind fun k=>if dep<=k/\leM m mx=true then some none else none
 | .retL es,m=>(rkT m [] es).bind fun k=>if dep<=k + 1/\leM m mx=true then some none else none
 | .raise _ es,m=>(jks (tnM m) es).bind fun _=>if leM m mx=true then some none else none
 | .try_ b _ i h e,m=>if i < m.length/\leM m (Ae m (wrSs b) .dead)=true then (msSs (Ae m (wrSs b) .dead) dep b m).bind fun rb =>
   (msSs (aaf m.length .dead) dep h ((Ae m (wrSs b) .dead).set i .sh)).bind fun rh =>
    (match rb with
     | none=>some none
     | some m1=>msSs mx dep e m1).bind fun re=>if okJ re (Fo re (Hu i rh))=true/\okJ (Hu i rh) (Fo re (Hu i rh))=true then some (Fo re (Hu i rh)) else none
  else none
noncomputable def msSs (mx:Ms) (dep:Nat):Ss->Ms->Option (Option Ms)
 | .nil,m=>some (some m)
 | .cons s r,m=>(msS mx dep s m).bind fun o=>match o with
  | none=>some none
  | some m1=>msSs mx dep r m1
 | .reps x l ix,m=>(jk (tnM (m.set x .dead)) ix).bind fun _=>if x ≠ l/\x < m.length then some none else none
end
noncomputable def lOut (Z:Zx) (m:Ms) (r:Option Ms) (w:List Nat) (o:Out) (τ:Ft) (H:Hp) (D:Ends):Prop:=match o with
 | .nxt δ'=>∀ (m':Ms) (τ':Ft) (H':Hp),r=some m'->dτ τ'=δ'->Sf Z.p Z.H0 Z.A0 m' τ' H'->Stp m m' w τ τ' H H'->D.nx (vτ τ') H'
 | .ret d=>∀ (t:T) (H':Hp),t.dat=d->Rs Z.p Z.A0 Z.H0 H' 0 Z.dep t->D.rt t.val H'
 | .exc c δ'=>Z.p.has c=true->∀ (τ':Ft) (H':Hp),dτ τ'=δ'->Sf Z.p Z.H0 Z.A0 Z.mx τ' H'->Stp m Z.mx w τ τ' H H'->Z.EX (vτ τ') (.ref (Z.p.cl c)) none H'
 | .bad=>False
noncomputable def lS (Z:Zx) (s:S):TS:=fun D σ H=>∃ τ m r,σ=vτ τ/\Sf Z.p Z.H0 Z.A0 m τ H/\msS Z.mx Z.dep s m=some r/\lOut Z m r (wrS s) (ex s (dτ τ)) τ H D
noncomputable def lSs (Z:Zx) (s:Ss):TS:=fun D σ H=>∃ τ m r,σ=vτ τ/\Sf Z.p Z.H0 Z.A0 m τ H/\msSs Z.mx Z.dep s m=some r/\lOut Z m r (wrSs s) (exs s (dτ τ)) τ H D
theorem PSs.mono {X:Cx} {st:List Stmt} {t t':TS} (h:PSs X st t) (m:∀ D σ H,t' D σ H->t D σ H):PSs X st t':=fun pins s σ H D I q=>h pins s σ H D I (m _ _ _ q)
section
variable {Z:Zx} {m:Ms} {r:Option Ms} {w:List Nat} {τ:Ft} {H:Hp} {D:Ends} {X:Cx} {pos:Pos}
theorem lOut.lg {α:Type} {q:Res α} {f:α->Out} (S:Sf Z.p Z.H0 Z.A0 m τ H) (hm:leM m Z.mx=true) (h:lOut Z m r w (q.out (dτ τ) f) τ H D):Lg Z.p Z.EX (vτ τ) q H fun a=>lOut Z m r w (f a) τ H D:=by
 cases q with
 | ok a=>exact h
 | exc c=>exact fun hc H' s=>h hc τ H' rfl ((S.weak hm).grow s) (Stp.refl w hm s)
 | bad=>exact h
theorem Al {c:Prop} [Decidable c] {α:Type} {x y:α} (h:(if c then some x else none)=some y):c/\x=y:=by
 split at h
 ·exact ⟨‹_›,Option.some.inj h⟩
 ·cases h
theorem Rk {x k:Nat} {e:E} {σ:L2.St} (h:lS Z (.asg x k e) D σ H):∃ τ m,σ=vτ τ/\Sf Z.p Z.H0 Z.A0 m τ H/\DZ (lE Z.p Z.EX (tnM m) e) (Cf x) D σ H:=by
 obtain ⟨τ,m,r,rfl,S,hr,h⟩:=h
 simp only [msS] at hr
 obtain ⟨⟨j1,k1⟩,h1,hr⟩:=bS hr
 obtain ⟨⟨c1,c2,c3,c4,c5⟩,rfl⟩:=Al hr
 have c1:j1=0:=c1
 subst c1
 refine ⟨τ,m,rfl,S,τ,rfl,S.ok,0,k1,h1,?_⟩
 simp only [ex] at h
 refine (h.lg S c5).mono (Same.refl _) fun d _ h t H1 ht R=>?_
 subst ht
 obtain ⟨S2,P2⟩:=LR S R c2 c3 c4
 show D.nx ((vτ τ).set x (some t.val)) H1
 rw [<- Dg]
 exact h _ _ H1 rfl (De τ x t) S2 P2
end
theorem KD {m:Ms} {i:Nat} {d:Md} (h:(BT m)[i]?=some d):(d=.dead)\/(m[i]?=some d/\∀ k2,d ≠ .br k2):=by
 unfold BT at h
 rw [aau] at h
 obtain ⟨d',h1,h2⟩:=aas.mp h
 cases d' with
 | br k=>exact .inl h2.symm
 | sh=>cases h2; exact .inr ⟨h1,by simp⟩
 | ow k=>cases h2; exact .inr ⟨h1,by simp⟩
 | dead=>exact .inl h2.symm
theorem LX {m:Ms} {i k:Nat} (h:m[i]?=some (.ow k)):(BT m)[i]?=some (.ow k):=by
 unfold BT; rw [aau,h]; rfl
section
variable {p:Px} {H0:Hp} {A0:Addr->Prop} {m:Ms} {τ:Ft} {H H1:Hp}
theorem Rl {x k:Nat} {t:T} {q:List (Bool × Int)} {a:Addr} {ts us es:List T} (S:Sf p H0 A0 m τ H) (s:Same H H1) (hx:τ[x]?=some (some t)) (hm:m[x]?=some (.ow k)) (hq:Av q t=some (.lst a ts)) (hl:lnP q < k) (hus:T.Oks p H1 us)
  (hA:∀ b ∈ T.adrs us (k - 1 - lnP q),b ∈ T.adrs ts (k - 1 - lnP q)\/b ∈ T.adrs es (k - 1 - lnP q)) (hB:∀ b ∈ T.rests us (k - 1 - lnP q),b ∈ T.rests ts (k - 1 - lnP q)\/b ∈ T.rests es 0)
  (hnd:T.Nds ts (k - 1 - lnP q)->(∀ b ∈ T.adrs es (k - 1 - lnP q),b ∉ T.rests ts 0)->(∀ b ∈ T.adrs ts (k - 1 - lnP q),b ∉ T.rests es 0)->T.Nds us (k - 1 - lnP q))
  (src:∀ b ∈ T.rests es 0,H b=none\/Sh (tnM m) τ b) (new:∀ b ∈ T.adrs es (k - 1 - lnP q),H b=none/\∃ vs,H1 b=some (.lst vs)) :
  ∃ t',Dr (.lst a us) q t=some t'/\t'.val=t.val/\Sf p H0 A0 (if q.isEmpty then m else BT m) (τ.set x (some t')) (L2.upd H1 a (.lst (us.map T.val)))/\Stp m (if q.isEmpty then m else BT m) [x] τ (τ.set x (some t')) H (L2.upd H1 a (.lst (us.map T.val))):=by
 have dom:∀ {j:Nat} {u:T} {d:Md},τ[j]?=some (some u)->m[j]?=some d->d ≠ .dead->∀ b ∈ u.rest 0,H b ≠ none:=fun e hd nd b z=>(S.at e hd nd).dom z
 obtain ⟨ain,aad⟩:=Ds q (k:=k) hq (by omega)
 have ek:k - lnP q=(k - 1 - lnP q) + 1:=by omega
 have nds:=Ge q hq (by omega:lnP q<=k) (S.nd x t k hx hm)
 rw [ek] at nds aad
 have ndt:T.Nds ts (k - 1 - lnP q):=by
  obtain ⟨n1,n2⟩:=nds
  simp only [T.adr,T.rest,aaF] at n1 n2
  exact ⟨n1.2,fun b z y=>n2 b z (aaa _ y)⟩
 have hxd:∀ b ∈ t.rest 0,H b ≠ none:=dom hx hm (by intro c; cases c)
 have notOwn:∀ b ∈ T.rests es 0,¬ Own m τ b:=fun b z o=>by
  rcases src b z with y | y
  ·obtain ⟨_,vs,e⟩:=S.ownOk o
   rw [e] at y; cases y
  ·exact S.disj o y
 have hm1:∀ (j:Nat) (d:Md),(if q.isEmpty then m else BT m)[j]?=some d->d ≠ .dead->m[j]?=some d/\(q ≠ []->∀ k2,d ≠ .br k2):=by
  intro j d hd nd
  cases q with
  | nil=>exact ⟨hd,fun z=>absurd rfl z⟩
  | cons z r =>
   rcases KD hd with y | ⟨y1,y2⟩
   ·exact absurd y nd
   ·exact ⟨y1,fun _=>y2⟩
 refine LW (F:=fun b=>b ∈ T.adrs es (k - 1 - lnP q)) (N:=fun b=>b ∈ T.rests es 0) S s hx hm hq hl hus (fun b z=>(T.alls_iff es _).mpr (.inl z)) hA hB ?_ (fun b z y=>hxd b y (new b z).1) (fun b z=>⟨S.same.free (new b z).1,(new b z).2⟩) (fun b z=>.inr (new b z).1)
  (fun b z y=>notOwn b z ⟨x,t,k,hx,hm,y⟩) (fun b z=>?_) ?_ ?_ (fun j d _ hd nd=>hm1 j d hd nd) (fun j u d ne e hd nd b z y=>?_) (fun i u k' ne e hk b z y=>?_)
 ·refine hnd ndt (fun b z y=>?_) (fun b z y=>?_)
  ·exact hxd b (ain b (aaa _ y)) (new b z).1
  ·exact notOwn b y ⟨x,t,k,hx,hm,aad b (aaa _ z)⟩
 ·rcases src b z with y | y
  ·exact .inl (S.same.free y)
  ·exact S.src b y
 ·split
  ·rfl
  ·unfold BT; rw [aae]
 ·split
  ·exact hm
  ·exact LX hm
 ·exact dom e (hm1 j d hd nd).1 nd b (T.rest_le u (aaA _) y) (new b z).1
 ·exact notOwn b z ⟨i,u,k',e,(hm1 i _ hk (by intro c; cases c)).1,y⟩
theorem IB {ts:List T} {e:T} {k:Nat} (ne:e.Nd k) (h1:T.Nds ts k) (h2:∀ b ∈ T.adrs [e] k,b ∉ T.rests ts 0) (h3:∀ b ∈ T.adrs ts k,b ∉ T.rests [e] 0):T.Nds (ts ++ [e]) k :=
 T.nds_append h1 (T.nds_cons.mpr ⟨ne,by simp [T.Nds,T.adrs],by simp [T.rests],by simp [T.adrs]⟩) h3 h2
theorem Nr {ts us:List T} {k:Nat} (h:us.Perm ts) (n:T.Nds ts k):T.Nds us k:=by
 induction h with
 | nil=>exact n
 | cons x _ ih =>
  rename_i l1 l2 hp
  obtain ⟨a,b,c,d⟩:=T.nds_cons.mp n
  refine T.nds_cons.mpr ⟨a,ih b,fun z hz y=>c z hz ?_,fun z hz=>d z ?_⟩
  ·obtain ⟨w,hw,q⟩:=T.mem_rests.mp y
   exact T.mem_rests.mpr ⟨w,hp.mem_iff.mp hw,q⟩
  ·obtain ⟨w,hw,q⟩:=T.mem_adrs.mp hz
   exact T.mem_adrs.mpr ⟨w,hp.mem_iff.mp hw,q⟩
 | swap x y l =>
  obtain ⟨a,b,c,d⟩:=T.nds_cons.mp n
  obtain ⟨a2,b2,c2,d2⟩:=T.nds_cons.mp b
  simp only [T.rests,T.adrs,aac,not_or] at c d
  refine T.nds_cons.mpr ⟨a2,T.nds_cons.mpr ⟨a,b2,fun z hz=>(c z hz).2,fun z hz=>d z (.inr hz)⟩,fun z hz=>?_,fun z hz=>?_⟩
  ·simp only [T.rests,aac,not_or]
   exact ⟨d z (.inl hz),c2 z hz⟩
  ·simp only [T.adrs,aac] at hz
   rcases hz with hz | hz
   ·exact (c z hz).1
   ·exact d2 z hz
 | trans _ _ i1 i2=>exact i1 (i2 n)
theorem JQ {ts us:List T} {k:Nat} (h:us.Sublist ts) (n:T.Nds ts k):T.Nds us k:=by
 induction h with
 | slnil=>exact n
 | cons x _ ih=>exact ih (T.nds_cons.mp n).2.1
 | cons_cons x hs ih =>
  rename_i l1 l2
  obtain ⟨a,b,c,d⟩:=T.nds_cons.mp n
  refine T.nds_cons.mpr ⟨a,ih b,fun z hz y=>c z hz ?_,fun z hz=>d z ?_⟩
  ·obtain ⟨w,hw,q⟩:=T.mem_rests.mp y
   exact T.mem_rests.mpr ⟨w,hs.subset hw,q⟩
  ·obtain ⟨w,hw,q⟩:=T.mem_adrs.mp hz
   exact T.mem_adrs.mpr ⟨w,hs.subset hw,q⟩
end
theorem G5:∀ (q:List (Bool × E)) (δ:Fr) (c:Nat),evP q δ ≠ .exc c
 | [],δ,c=>by simp [evP]
 | (t,e) :: r,δ,c=>by
  simp only [evP]
  split
  ·cases h:evP r δ with
   | ok is=>simp
   | exc c'=>exact absurd h (G5 r δ c')
   | bad=>simp
  ·simp
theorem IC:∀ (q:List (Bool × E)) {δ:Fr} {b:Bool} {e:E} {is:List (Bool × Int)},evP (q ++ [(b,e)]) δ=.ok is->∃ js i,evP q δ=.ok js/\ev e δ=.ok (.int i)/\is=js ++ [(b,i)]
 | [],δ,b,e,is,h=>by
  simp only [aa2,evP] at h
  split at h
  ·rename_i i he
   simp only [Res.bind_ok] at h
   cases h
   exact ⟨[],i,rfl,he,rfl⟩
  ·cases h
 | (t,e') :: r,δ,b,e,is,h=>by
  simp only [aaV,evP] at h
  split at h
  ·rename_i i' he'
   obtain ⟨js',h1,h2⟩:=Res.bind_eq_ok h
   cases h2
   obtain ⟨js,i,h3,h4,rfl⟩:=IC r h1
   exact ⟨(t,i') :: js,i,by simp only [evP,he',h3,Res.bind_ok],h4,rfl⟩
  ·cases h
theorem E2:∀ (q:List (Bool × Int)) {t s':T} {b:Bool} {i:Int},Av (q ++ [(b,i)]) t=some s'->∃ s,Av q t=some s/\Av [(b,i)] s=some s'
 | [],t,s',b,i,h=>⟨t,rfl,h⟩
 | (c,j) :: r,t,s',b,i,h=>by
  cases c with
  | false =>
   cases t with
   | lst a ts =>
    simp only [aaV,Av] at h ⊢
    obtain ⟨n,h1,h⟩:=bS h
    obtain ⟨u,h2,h⟩:=bS h
    obtain ⟨s,h3,h4⟩:=E2 r h
    exact ⟨s,by rw [h1]; simp only [aaZ]; rw [h2]; exact h3,h4⟩
   | _=>cases h
  | true =>
   cases t with
   | tup a ts =>
    simp only [aaV,Av] at h ⊢
    obtain ⟨n,h1,h⟩:=bS h
    obtain ⟨u,h2,h⟩:=bS h
    obtain ⟨s,h3,h4⟩:=E2 r h
    exact ⟨s,by rw [h1]; simp only [aaZ]; rw [h2]; exact h3,h4⟩
   | _=>cases h
theorem Fp {p:Px} {H:Hp}:∀ (q:List (Bool × Int)) {t s:T},t.Ok p H->Av q t=some s->s.Ok p H
 | [],t,s,ok,h=>by cases h; exact ok
 | (c,j) :: r,t,s,ok,h=>by
  cases c with
  | false =>
   cases t with
   | lst a ts =>
    simp only [Av] at h
    obtain ⟨n,h1,h⟩:=bS h
    obtain ⟨u,h2,h⟩:=bS h
    exact Fp r (T.oks_iff.mp ok.2 u (aai h2)) h
   | _=>cases h
  | true =>
   cases t with
   | tup a ts =>
    simp only [Av] at h
    obtain ⟨n,h1,h⟩:=bS h
    obtain ⟨u,h2,h⟩:=bS h
    exact Fp r (T.oks_iff.mp ok.2 u (aai h2)) h
   | _=>cases h
theorem Pq {b:Bool} {i:Int} {s s':T} (h:Av [(b,i)] s=some s'):(∃ a ts,s=.lst a ts/\atI (ts.map T.val) i=some s'.val)\/(∃ a ts,s=.tup a ts/\atI (ts.map T.val) i=some s'.val):=by
 cases b with
 | false =>
  cases s with
  | lst a ts =>
   simp only [Av] at h
   obtain ⟨n,h1,h⟩:=bS h
   obtain ⟨u,h2,h⟩:=bS h
   cases h
   refine .inl ⟨a,ts,rfl,?_⟩
   unfold atI
   rw [aae,Ip,h1]
   show (ts.map T.val)[n]?=_
   rw [aau,h2]; rfl
  | _=>cases h
 | true =>
  cases s with
  | tup a ts =>
   simp only [Av] at h
   obtain ⟨n,h1,h⟩:=bS h
   obtain ⟨u,h2,h⟩:=bS h
   cases h
   refine .inr ⟨a,ts,rfl,?_⟩
   unfold atI
   rw [aae,Ip,h1]
   show (ts.map T.val)[n]?=_
   rw [aau,h2]; rfl
  | _=>cases h
noncomputable def N6 (tn:List Nat) (q:List (Bool × E)):Prop:=∀ e ∈ q,(jk tn e.2).isSome=true
noncomputable def lPl (p:Px) (EX:EXT) (tn:List Nat) (x:Nat) (q:List (Bool × E)):TE:=fun σ H Q=>∃ τ t is s,σ=vτ τ/\Fok p tn τ H/\N6 tn q/\τ[x]?=some (some t)/\t.Ok p H/\evP q (dτ τ)=.ok is/\Av is t=some s/\∀ H',Same H H'->Q s.val H'
noncomputable def FN (c:CkC) (x:Nat):List (Bool × E)->Expr->Bool
 | [],.Name y _=>(c.N[x]?==some y) && Bv c.sc y && AB y
 | (_,e) :: r,.Subscript o i _=>FN c x r o && ckE c e i && AA i
 | _,_=>false
section
variable {p:Px} {c:CkC} {lv:Nat} {X:Cx} {EX:EXT} {tn:List Nat} {pos np:Pos}
theorem N7 (C:Ct p c lv X EX) {x:Nat}:∀ {rp:List (Bool × E)} {o:Expr},(∀ e ∈ rp,∀ n ∈ e.2.need,NeedOk p lv X n)->FN c x rp o=true->PE X o (lPl p EX tn x rp.reverse)
 | [],o,hn,h=>by
  cases o with
  | Name y q =>
   obtain ⟨h,h3⟩:=Aa (show ((c.N[x]?==some y) && Bv c.sc y && AB y)=true from h)
   obtain ⟨h1,h2⟩:=Aa h
   obtain ⟨d1,d2⟩:=AZ h3
   refine PE.mono (CN (by rw [C.N]; exact beq_iff_eq.mp h1) (C.vis h2) d1 d2) fun σ H Q h=>?_
   obtain ⟨τ,t,is,s,rfl,hF,_,ht,ok,e,hs,hq⟩:=h
   simp only [List.reverse_nil,evP] at e
   cases e
   cases hs
   exact ⟨_,B8 ht,hq H (Same.refl _)⟩
  | _=>exact nF h
 | (b,e) :: rp,o,hn,h=>by
  cases o with
  | Subscript o' i q =>
   obtain ⟨h,h3⟩:=Aa (show (FN c x rp o' && ckE c e i && AA i)=true from h)
   obtain ⟨h1,h2⟩:=Aa h
   have A:=N7 C (rp:=rp) (o:=o') (fun e he=>hn e (aaa _ he)) h1
   have B:=(snd e C (tn:=tn) i (hn (b,e) (aab ..)) h2).1
   refine PE.mono (Hl (Fc.or Lh) A B (CP h3)) fun σ H Q h=>?_
   rw [abT] at h
   obtain ⟨τ,t,is,s,rfl,hF,hj,ht,ok,ev1,hs,hq⟩:=h
   obtain ⟨js,n,e1,e2,rfl⟩:=IC _ ev1
   obtain ⟨s1,hs1,hs2⟩:=E2 _ hs
   refine ⟨τ,t,js,s1,rfl,hF,fun e he=>hj e (aat _ he),ht,ok,e1,hs1,fun H1 sm=>?_⟩
   obtain ⟨⟨j,k⟩,hj'⟩:=aaB.mp (hj (b,e) (aag _ (aaz.mpr rfl)))
   refine ⟨τ,rfl,hF.same sm,j,k,hj',?_⟩
   rw [e2]
   intro t2 H2 ht2 R
   have hv:t2.val=.int n:=by cases t2 <;> simp [T.dat] at ht2 <;> simp [T.val,ht2]
   rw [hv]
   have ok1:=(Fp _ ok hs1).same (sm.trans R.same)
   rcases Pq hs2 with ⟨a,ts,rfl,at1⟩ | ⟨a,ts,rfl,at1⟩
   ·exact .inl ⟨a,_,n,_,rfl,rfl,.inl ok1.1,at1,hq H2 (sm.trans R.same)⟩
   ·exact .inr ⟨a,_,n,_,rfl,rfl,SqT.of ok1.1,at1,hq H2 (sm.trans R.same)⟩
  | _=>exact nF h
theorem E3 {m:Ms}:∀ {q:List (Bool × E)},D9 m q=true->N6 (tnM m) q
 | [],_=>fun e he=>nomatch he
 | (b,e) :: r,h=>by
  obtain ⟨h1,h2⟩:=Aa (show ((jk (tnM m) e).isSome && D9 m r)=true from h)
  intro e' he
  rcases aah.mp he with rfl | he
  ·exact h1
  ·exact E3 h2 e' he
theorem LY:∀ {q:List (Bool × E)} {δ:Fr} {is:List (Bool × Int)},evP q δ=.ok is->lnP is=lnE q/\is.isEmpty=q.isEmpty
 | [],δ,is,h=>by simp only [evP] at h; cases h; exact ⟨rfl,rfl⟩
 | (b,e) :: r,δ,is,h=>by
  simp only [evP] at h
  split at h
  ·obtain ⟨js,h1,h2⟩:=Res.bind_eq_ok h
   cases h2
   have:=(LY h1).1
   cases b <;> simp [lnP,lnE,this]
  ·cases h
theorem Pr {δ:Fr} {x:Nat} {f:D->Option D} {Z:Zx} {m:Ms} {r:Option Ms} {w:List Nat} {τ:Ft} {H:Hp} {En:Ends} (h:lOut Z m r w (upd (dτ τ) x f) τ H En):∃ t d',τ[x]?=some (some t)/\f t.dat=some d'/\lOut Z m r w (.nxt ((dτ τ).set x (some d'))) τ H En:=by
 unfold upd at h
 cases q:(dτ τ)[x]? with
 | none=>rw [q] at h; exact nE h
 | some o =>
  rw [q] at h
  cases o with
  | none=>exact nE h
  | some d =>
   have:get (dτ τ) x=.ok d:=by unfold get; rw [q]
   obtain ⟨t,ht,rfl⟩:=Cy this
   simp only at h
   cases q2:f t.dat with
   | none=>rw [q2] at h; exact nE h
   | some d'=>rw [q2] at h; exact ⟨t,d',ht,q2,h⟩
end
theorem E4 {α β:Type} (f:α->β):∀ (l:List α) (i:Nat),(l.eraseIdx i).map f=(l.map f).eraseIdx i
 | [],_=>rfl
 | _ :: _,0=>rfl
 | a :: l,i + 1=>by simp [E4 f l i]
theorem Nt {τ:Ft} {x:Nat} {t t':T} (h:τ[x]?=some (some t)) (e:t'.val=t.val):vτ (τ.set x (some t'))=vτ τ:=by
 rw [Dg,e]
 refine List.ext_getElem? fun i=>?_
 by_cases z:x=i
 ·subst z
  rw [abi,B8 h]; rfl
 ·rw [aav z]
theorem Nu {H:Hp} {a:Addr} {vs:List V} (h:Rd H a (.lst vs)) (hp:∃ ws,H a=some (.lst ws)):H a=some (.lst vs):=by
 obtain ⟨ws,e⟩:=hp
 rw [e,Gb h (.inl e)]
section
variable {Z:Zx} {m:Ms} {r:Option Ms} {w:List Nat} {τ:Ft} {H:Hp} {D:Ends} {X:Cx} {pos:Pos} {σ:L2.St}
theorem JR {K:Frag} {H:Hp} {a:Addr} {vs:List V} (h:H a=some (.lst vs)):tyV K "list" (.ref a) H:=.inl ⟨rfl,_,SqL.of h⟩
theorem ID {x:Nat} {q:List (Bool × E)} {u:Um} {es:Es} {k:Nat} (S:Sf Z.p Z.H0 Z.A0 m τ H) (hmx:m[x]?=some (.ow k)) (c2:lnE q < k) (c4:D9 m q=true) (h:lOut Z m r [x] (ex (.mut x q u es) (dτ τ)) τ H D) :
  ∃ t is ds a ts ds',τ[x]?=some (some t)/\evP q (dτ τ)=.ok is/\evs es (dτ τ)=.ok ds/\Av is t=some (.lst a ts)/\lnP is=lnE q/\is.isEmpty=q.isEmpty/\umD u ds (T.dats ts)=some ds' /\
   (∀ H3,Same H H3->H3 a=some (.lst (ts.map T.val))/\T.Oks Z.p H3 ts/\a ∈ t.adr k) /\
   (∀ us m' H3 t',T.dats us=ds'->r=some m'->Dr (.lst a us) is t=some t'->t'.val=t.val->Sf Z.p Z.H0 Z.A0 m' (τ.set x (some t')) (L2.upd H3 a (.lst (us.map T.val)))->Stp m m' [x] τ (τ.set x (some t')) H (L2.upd H3 a (.lst (us.map T.val)))->D.nx (vτ τ) (L2.upd H3 a (.lst (us.map T.val)))):=by
 simp only [ex] at h
 cases ep:evP q (dτ τ) with
 | exc c=>exact absurd ep (G5 _ _ _)
 | bad=>rw [ep] at h; exact nE h
 | ok is =>
 rw [ep] at h
 cases ee:evs es (dτ τ) with
 | exc c=>rw [ee] at h; exact nE h
 | bad=>rw [ee] at h; exact nE h
 | ok ds =>
 rw [ee] at h
 simp only at h
 obtain ⟨t,d',ht,hu,h⟩:=Pr (δ:=dτ τ) h
 obtain ⟨a,ts,ds',hs,hf,hd'⟩:=GB is hu
 obtain ⟨l1,l2⟩:=LY ep
 refine ⟨t,is,ds,a,ts,ds',ht,rfl,rfl,hs,l1,l2,hf,fun H3 sH3=>?_,fun us m' H3 t' e1 e2 p1 p2 S4 P4=>?_⟩
 ·have S3:=S.grow sH3
  have hl:lnP is < k:=by rw [l1]; exact c2
  have aadr:a ∈ t.adr k:=(Ds is (k:=k) hs (by omega)).2 a (by
   have:k - lnP is=(k - lnP is - 1) + 1:=by omega
   rw [this]; exact aab ..)
  have okt:=Fp _ (S3.at ht hmx (by intro c; cases c)) hs
  exact ⟨Nu okt.1 (S3.own x t k a ht hmx aadr).2,okt.2,aadr⟩
 ·have:=h m' _ _ e2 (by rw [De,hd' us t' e1 p1]) S4 P4
  rw [Nt ht p2] at this
  exact this
noncomputable def rUm:Um->V->List V->Hp->VK->Prop
 | .append=>Fd
 | .extend=>fun x vs H Q=>∃ l b xs zs,x=.ref l/\vs=[.ref b]/\H l=some (.lst xs)/\Rd H b (.lst zs)/\xs.length + zs.length<=sizeLine/\Q .non (L2.upd H l (.lst (xs ++ zs)))
 | .pop=>QE
 | .popAt=>Lj
 | .clear=>Lk
 | .reverse=>Ia
 | .insert=>JA
noncomputable def Nv:V->List V->Hp->VK->Prop:=fun x vs H Q=>∃ l b xs zs,x=.ref l/\vs=[.ref b]/\H l=some (.lst xs)/\Rd H b (.lst zs)/\xs.length + zs.length<=sizeLine/\Q .non (L2.upd H l (.lst (xs ++ zs)))
end
section
variable {X:Cx}
theorem KG:MtM X "list.extend" Nv:=by
 intro pins s σ H x vs v us Q I rx rv h
 obtain ⟨l,b,xs,zs,rfl,rfl,hH,hB,hz,q⟩:=h
 cases rx
 obtain ⟨u,rfl,ru⟩:=rv.one
 cases ru
 obtain ⟨z,its,n,r,hl,e⟩:=I.lstM hH
 obtain ⟨z2,its2,n2,r2,hl2,e2⟩:=Inv.lstR I hB
 have hsz:its.toArray.size + its2.toArray.size<=sizeLine:=by rw [aap,aap]; omega
 have hlong:¬ (!its.toArray.isEmpty && Builtin.List.listTooLong (its.toArray.size + its2.toArray.size))=true:=by
  rw [HZ hsz,Bool.and_false]
  exact abj
 refine call_meets F.slot_list_extend ⟨_,e,rfl⟩ F.entry_list_extend (F.args_list_extend_2 _ _)
  (AutoSeq1.list_extend_list_list_0 l its.toArray n b its2.toArray n2 hlong (by rw [aap]; omega) (by omega)) ⟨e,e2,?_⟩
 refine ⟨.non,_,I.lset (its':=its ++ its2) hH e (by simp) (r.append r2) ?_,rfl,q⟩
 rw [aal]
 omega
end
section
variable {Z:Zx} {m:Ms} {r:Option Ms} {w:List Nat} {τ:Ft} {H:Hp} {D:Ends} {X:Cx} {pos:Pos} {σ:L2.St}
theorem Ps {x:Nat} {q:List (Bool × E)} {u:Um} {es:Es} {k:Nat} (hK:X.K=Z.p.K) (S:Sf Z.p Z.H0 Z.A0 m τ H) (hmx:m[x]?=some (.ow k)) (c2:lnE q < k) (c4:D9 m q=true) {j1 k1:Nat} (h1:jks (tnM m) es=some (j1,k1))
  (hc:(j1=0\/(u=.extend/\j1<=1))/\(k - 1 - lnE q=0\/(u.kind=1/\k - 1 - lnE q<=k1)\/(u.kind=2/\k - lnE q<=k1)\/u.kind=0)) (hr:r=some (if q.isEmpty then m else BT m)) (h:lOut Z m r [x] (ex (.mut x q u es) (dτ τ)) τ H D) :
  lPl Z.p Z.EX (tnM m) x q (vτ τ) H fun v H1=>tyV X.K "list" v H1/\lEs Z.p Z.EX (tnM m) es (vτ τ) H1 fun vs H2=>rUm u v vs H2 fun _ H3=>D.nx (vτ τ) H3:=by
 obtain ⟨t,is,ds,a,ts,ds',ht,ep,ee,hs,l1,l2,hf,hpl,hnx⟩:=ID S hmx c2 c4 h
 subst hr
 refine ⟨τ,t,is,.lst a ts,rfl,S.ok,E3 c4,ht,S.at ht hmx (by intro c; cases c),ep,hs,fun H1 s1=>⟨JR (hpl H1 s1).1,?_⟩⟩
 refine ⟨τ,rfl,S.ok.same s1,j1,k1,h1,?_⟩
 rw [ee]
 intro tes H2 hte R
 subst hte
 have s2:Same H H2:=s1.trans R.same
 obtain ⟨p0,okt,aadr⟩:=hpl H2 s2
 have hl:lnP is < k:=by rw [l1]; exact c2
 have fin:∀ us es',T.dats us=ds'->T.Oks Z.p H2 us->(∀ b ∈ T.adrs us (k - 1 - lnP is),b ∈ T.adrs ts (k - 1 - lnP is)\/b ∈ T.adrs es' (k - 1 - lnP is))->(∀ b ∈ T.rests us (k - 1 - lnP is),b ∈ T.rests ts (k - 1 - lnP is)\/b ∈ T.rests es' 0) ->
   (T.Nds ts (k - 1 - lnP is)->(∀ b ∈ T.adrs es' (k - 1 - lnP is),b ∉ T.rests ts 0)->(∀ b ∈ T.adrs ts (k - 1 - lnP is),b ∉ T.rests es' 0)->T.Nds us (k - 1 - lnP is))->(∀ b ∈ T.rests es' 0,H b=none\/Sh (tnM m) τ b)->(∀ b ∈ T.adrs es' (k - 1 - lnP is),H b=none/\∃ vs,H2 b=some (.lst vs)) ->
   D.nx (vτ τ) (L2.upd H2 a (.lst (us.map T.val))):=by
  intro us es' e1 e2 e3 e4 e5 e6 e7
  obtain ⟨t',p1,p2,S4,P4⟩:=Rl (us:=us) (es:=es') S s2 ht hmx hs hl e2 e3 e4 e5 e6 e7
  rw [l2] at S4 P4
  exact hnx us _ H2 t' e1 rfl p1 p2 S4 P4
 have hz:ts.length<=sizeLine\/True:=.inr trivial
 cases u with
 | append =>
  rcases tes with _ | ⟨te,_ | ⟨te2,ter⟩⟩
  ·cases hf
  ·simp only [T.dats,umD] at hf
   obtain ⟨hlt,rfl⟩:=Al hf
   have hj:j1=0:=by
    rcases hc.1 with z | ⟨z,_⟩
    ·exact z
    ·cases z
   subst hj
   have hk1:k - 1 - lnP is<=k1\/k - 1 - lnP is=0:=by
    rw [l1]
    rcases hc.2 with z | ⟨_,z⟩ | ⟨z,_⟩ | z
    ·exact .inr z
    ·exact .inl z
    ·cases z
    ·cases z
   refine ⟨a,_,te.val,rfl,rfl,p0,by rw [aae,<- Ac]; exact hlt,?_⟩
   have:=fin (ts ++ [te]) [te] (by rw [T.dats_map,aan,<- T.dats_map]; rfl) (T.oks_iff.mpr fun w hw=>by
     rcases aac.mp hw with z | z
     ·exact T.oks_iff.mp okt w z
     ·exact T.oks_iff.mp R.ok w z)
    (fun b z=>by rw [T.adrs_append,aac] at z; exact z) (fun b z=>by
     rw [T.rests_append,aac] at z
     refine z.imp id fun z=>?_
     simp only [T.rests,aaP] at z ⊢
     exact T.rest_le te (aaA _) z)
    (fun n1 n2 n3=>IB (by
     rcases hk1 with z | z
     ·exact (T.nds_le z R.nd:T.Nds [te] _) |> fun w=>(T.nds_cons.mp w).1
     ·rw [z]; exact T.nd_zero te) n1 n2 n3)
    (fun b z=>(R.src b z).imp s1.free id) (fun b z=>by
     rcases hk1 with y | y
     ·obtain ⟨w,hw,z⟩:=T.mem_adrs.mp z
      have:=R.new b (T.mem_adrs.mpr ⟨w,hw,T.adr_le w y z⟩)
      exact ⟨s1.free this.1,this.2⟩
     ·rw [y,T.adrs_zero] at z; cases z)
   rw [aan] at this
   exact this
  ·have:umD .append (T.dats (te :: te2 :: ter)) (T.dats ts)=none:=rfl
   rw [this] at hf; cases hf
 | extend =>
  rcases tes with _ | ⟨te,_ | ⟨te2,ter⟩⟩
  ·cases hf
  ·cases te with
   | lst b0 es' =>
    simp only [T.dats,T.dat,umD] at hf
    obtain ⟨hlt,rfl⟩:=Al hf
    have hj:j1<=1:=by
     rcases hc.1 with z | ⟨_,z⟩
     ·omega
     ·exact z
    have hk1:k - 1 - lnP is + 1<=k1\/k - 1 - lnP is=0:=by
     rw [l1]
     rcases hc.2 with z | ⟨z,_⟩ | ⟨_,z⟩ | z
     ·exact .inr z
     ·cases z
     ·exact .inl (by omega)
     ·cases z
    refine ⟨a,b0,_,_,rfl,rfl,p0,R.ok.1.1,by rw [aae,aae,<- Ac,<- Ac]; exact hlt,?_⟩
    have nde:T.Nds es' (k - 1 - lnP is):=by
     rcases hk1 with z | z
     ·obtain ⟨n1,n2⟩:=(T.nds_cons.mp (T.nds_le z R.nd)).1
      simp only [T.adr,T.rest,aaF] at n1 n2
      exact ⟨n1.2,fun b y w=>n2 b y (aaa _ w)⟩
     ·rw [z]; exact T.nds_zero _
    have:=fin (ts ++ es') es' (by rw [T.dats_map,aan,<- T.dats_map,<- T.dats_map]) (T.oks_iff.mpr fun w hw=>by
      rcases aac.mp hw with z | z
      ·exact T.oks_iff.mp okt w z
      ·exact T.oks_iff.mp R.ok.1.2 w z)
     (fun b z=>by rw [T.adrs_append,aac] at z; exact z) (fun b z=>by
      rw [T.rests_append,aac] at z
      refine z.imp id fun z=>?_
      obtain ⟨w,hw,z2⟩:=T.mem_rests.mp z
      exact T.mem_rests.mpr ⟨w,hw,T.rest_le w (aaA _) z2⟩)
     (fun n1 n2 n3=>T.nds_append n1 nde n3 n2)
     (fun b z=>(R.src b (by
      simp only [T.rests,aaP]
      exact T.rest_le (.lst b0 es') hj (j':=1) z)).imp s1.free id) (fun b z=>by
      rcases hk1 with y | y
      ·have:=R.new b (T.mem_adrs.mpr ⟨.lst b0 es',aaz.mpr rfl,T.adr_le (.lst b0 es') y (aaa _ z)⟩)
       exact ⟨s1.free this.1,this.2⟩
      ·rw [y,T.adrs_zero] at z; cases z)
    rw [aan] at this
    exact this
   | _=>cases hf
  ·have:umD .extend (T.dats (te :: te2 :: ter)) (T.dats ts)=none:=rfl
   rw [this] at hf; cases hf
 | insert =>
  rcases tes with _ | ⟨te1,_ | ⟨te,_ | ⟨te3,ter⟩⟩⟩
  ·cases hf
  ·cases te1 <;> cases hf
  ·cases te1 with
   | int i =>
    simp only [T.dats,T.dat,umD,N2] at hf
    obtain ⟨hlt,rfl⟩:=Al hf
    have hj:j1=0:=by
     rcases hc.1 with z | ⟨z,_⟩
     ·exact z
     ·cases z
    subst hj
    have hk0:k - 1 - lnP is=0:=by
     rw [l1]
     rcases hc.2 with z | ⟨z,_⟩ | ⟨z,_⟩ | z
     ·exact z
     ·cases z
     ·cases z
     ·cases z
    have hlen:(T.dats ts).length=(ts.map T.val).length:=by rw [Ac,aae]
    have hpos:ER (T.dats ts).length i=L2.FF (ts.map T.val).length i:=by
     rw [hlen]
     unfold ER L2.FF
     split <;> omega
    refine ⟨a,_,i,te.val,rfl,rfl,p0,hlt.2.1,hlt.2.2,by rw [<- hlen]; exact hlt.1,?_⟩
    rw [<- hpos]
    generalize ER (T.dats ts).length i=n at *
    have:=fin (ts.take n ++ te :: ts.drop n) [te] (by rw [T.dats_map,T.dats_map,aan,aar,abw,abx]) (T.oks_iff.mpr fun w hw=>by
      rcases aac.mp hw with z | z
      ·exact T.oks_iff.mp okt w (aaJ z)
      ·rcases aah.mp z with rfl | z
       ·exact T.oks_iff.mp R.ok w (by simp)
       ·exact T.oks_iff.mp okt w (aaD z))
     (fun b z=>by rw [hk0,T.adrs_zero] at z; cases z) (fun b z=>by
      rw [hk0] at z ⊢
      obtain ⟨w,hw,z2⟩:=T.mem_rests.mp z
      rcases aac.mp hw with y | y
      ·exact .inl (T.mem_rests.mpr ⟨w,aaJ y,z2⟩)
      ·rcases aah.mp y with rfl | y
       ·exact .inr (T.mem_rests.mpr ⟨w,aaz.mpr rfl,z2⟩)
       ·exact .inl (T.mem_rests.mpr ⟨w,aaD y,z2⟩))
     (fun _ _ _=>by rw [hk0]; exact T.nds_zero _)
     (fun b z=>(R.src b (by
      obtain ⟨w,hw,z2⟩:=T.mem_rests.mp z
      exact T.mem_rests.mpr ⟨w,aaa _ hw,z2⟩)).imp s1.free id) (fun b z=>by rw [hk0,T.adrs_zero] at z; cases z)
    rw [aan,aar,abw,abx] at this
    exact this
   | _=>cases hf
  ·have:umD .insert (T.dats (te1 :: te :: te3 :: ter)) (T.dats ts)=none:=by cases te1 <;> rfl
   rw [this] at hf; cases hf
 | pop =>
  rcases tes with _ | ⟨te,ter⟩
  ·simp only [T.dats,umD] at hf
   split at hf
   ·cases hf
   ·rename_i hne
    cases hf
    have hlen:0 < ts.length:=by
     rcases acl ts.length with z | z
     ·exact absurd (by rw [List.eq_nil_of_length_eq_zero z]; rfl) hne
     ·exact z
    refine ⟨a,_,(ts.map T.val)[(ts.map T.val).length - 1]'(by simp; omega),rfl,rfl,p0,aam (by simp; omega),?_⟩
    have:=fin ts.dropLast [] (by rw [T.dats_map,T.dats_map,acq]) (T.oks_iff.mpr fun w hw=>T.oks_iff.mp okt w (abK _ hw))
     (fun b z=>by
      obtain ⟨w,hw,z2⟩:=T.mem_adrs.mp z
      exact .inl (T.mem_adrs.mpr ⟨w,abK _ hw,z2⟩)) (fun b z=>by
      obtain ⟨w,hw,z2⟩:=T.mem_rests.mp z
      exact .inl (T.mem_rests.mpr ⟨w,abK _ hw,z2⟩))
     (fun n1 _ _=>JQ (List.dropLast_sublist ts) n1) (fun b z=>nomatch z) (fun b z=>nomatch z)
    rw [acq] at this
    exact this
  ·have:umD .pop (T.dats (te :: ter)) (T.dats ts)=none:=rfl
   rw [this] at hf; cases hf
 | popAt =>
  rcases tes with _ | ⟨te,_ | ⟨te2,ter⟩⟩
  ·cases hf
  ·cases te with
   | int i =>
    simp only [T.dats,T.dat,umD,un1,JC] at hf
    split at hf
    ·rename_i hb
     obtain ⟨j,hj,rfl⟩:=aas.mp hf
     rw [Ac] at hj
     obtain ⟨q1,q2,_,_⟩:=L2.Jy (n:=ts.length) (i:=i) (j:=j) hj
     refine ⟨a,_,i,j,(ts.map T.val)[j]'(by simpa using q2),rfl,rfl,p0,hb.1,hb.2,by rw [aae]; exact q1,aam (by simpa using q2),?_⟩
     have sub:∀ w ∈ ts.eraseIdx j,w ∈ ts:=fun w hw=>(ab9 ts j).subset hw
     have:=fin (ts.eraseIdx j) [] (by rw [T.dats_map,T.dats_map,E4]) (T.oks_iff.mpr fun w hw=>T.oks_iff.mp okt w (sub w hw))
      (fun b z=>by
       obtain ⟨w,hw,z2⟩:=T.mem_adrs.mp z
       exact .inl (T.mem_adrs.mpr ⟨w,sub w hw,z2⟩)) (fun b z=>by
       obtain ⟨w,hw,z2⟩:=T.mem_rests.mp z
       exact .inl (T.mem_rests.mpr ⟨w,sub w hw,z2⟩))
      (fun n1 _ _=>JQ (ab9 ts j) n1) (fun b z=>nomatch z) (fun b z=>nomatch z)
     rw [E4] at this
     exact this
    ·cases hf
   | _=>cases hf
  ·have:umD .popAt (T.dats (te :: te2 :: ter)) (T.dats ts)=none:=rfl
   rw [this] at hf; cases hf
 | clear =>
  rcases tes with _ | ⟨te,ter⟩
  ·cases hf
   refine ⟨a,_,rfl,rfl,p0,?_⟩
   exact fin [] [] rfl trivial (fun b z=>nomatch z) (fun b z=>nomatch z) (fun n1 _ _=>by simp [T.Nds,T.adrs]) (fun b z=>nomatch z) (fun b z=>nomatch z)
  ·have:umD .clear (T.dats (te :: ter)) (T.dats ts)=none:=rfl
   rw [this] at hf; cases hf
 | reverse =>
  rcases tes with _ | ⟨te,ter⟩
  ·cases hf
   refine ⟨a,_,rfl,rfl,p0,?_⟩
   have:=fin ts.reverse [] (by rw [T.dats_map,T.dats_map,List.map_reverse]) (T.oks_iff.mpr fun w hw=>T.oks_iff.mp okt w (abr.mp hw))
    (fun b z=>by
     obtain ⟨w,hw,z2⟩:=T.mem_adrs.mp z
     exact .inl (T.mem_adrs.mpr ⟨w,abr.mp hw,z2⟩)) (fun b z=>by
     obtain ⟨w,hw,z2⟩:=T.mem_rests.mp z
     exact .inl (T.mem_rests.mpr ⟨w,abr.mp hw,z2⟩))
    (fun n1 _ _=>Nr (List.reverse_perm ts) n1) (fun b z=>nomatch z) (fun b z=>nomatch z)
   rw [List.map_reverse] at this
   exact this
  ·have:umD .reverse (T.dats (te :: ter)) (T.dats ts)=none:=rfl
   rw [this] at hf; cases hf
end
section
variable {p:Px} {H0:Hp} {A0:Addr->Prop} {m:Ms} {τ:Ft} {H H1:Hp}
theorem SL {y ky:Nat} {ty:T} (S:Sf p H0 A0 (m.set y .dead) τ H) (hy:τ[y]?=some (some ty)) (hm:y < m.length) (h90:ky < 90) (ok:ty.Ok p H) (src:∀ a ∈ ty.rest ky,H0 a=none\/A0 a)
  (sep:∀ (i:Nat) (t:T) (k:Nat),τ[i]?=some (some t)->(m.set y .dead)[i]?=some (.ow k)->∀ a ∈ t.adr k,a ∉ ty.rest ky) (top:∀ (i:Nat) (t:T) (k:Nat),τ[i]?=some (some t)->(m.set y .dead)[i]?=some (.ow k)->∀ a ts,t=.lst a ts->a ∉ ty.rest 0):Sf p H0 A0 (m.set y (.br ky)) τ H:=by
 have back:∀ {i:Nat} {d:Md},(m.set y (.br ky))[i]?=some d->(i=y/\d=.br ky)\/(i ≠ y/\(m.set y .dead)[i]?=some d):=by
  intro i d h
  rcases Ab h with z | ⟨z1,z2⟩
  ·exact .inl z
  ·exact .inr ⟨z1,by rw [aav (Ne.symm z1)]; exact z2⟩
 have ow':∀ {i k:Nat},(m.set y (.br ky))[i]?=some (.ow k)->(m.set y .dead)[i]?=some (.ow k):=by
  intro i k h
  rcases back h with ⟨_,z⟩ | ⟨_,z⟩
  ·cases z
  ·exact z
 refine ⟨by have:=S.len; rw [aaU] at this ⊢; exact this,fun d hd=>?_,S.same,fun i t j e ej l=>?_,fun i t k a e hk q=>S.own i t k a e (ow' hk) q,fun a sh=>?_,fun i t k e hk=>S.nd i t k e (ow' hk),fun i j t u k d ne e hk e' hd nd a q=>?_,fun i j t u k k2 e hk e' hd a ts z=>?_⟩
 ·obtain ⟨i,hi,rfl⟩:=abh hd
  rcases back (aam hi) with ⟨_,z⟩ | ⟨_,z⟩
  ·rw [z]; exact decide_eq_true h90
  ·exact S.small _ (aai z)
 ·obtain ⟨d,hd,rfl⟩:=AC ej
  rcases back hd with ⟨rfl,z⟩ | ⟨_,z⟩
  ·rw [hy] at e; cases e; exact ok
  ·exact S.ok i t _ e (At z) l
 ·obtain ⟨i,t,j,e,ej,l,q⟩:=sh
  obtain ⟨d,hd,rfl⟩:=AC ej
  rcases back hd with ⟨rfl,z⟩ | ⟨_,z⟩
  ·rw [hy] at e; cases e; subst z; exact src a q
  ·exact S.src a ⟨i,t,_,e,At z,l,q⟩
 ·rcases back hd with ⟨rfl,z⟩ | ⟨_,z⟩
  ·rw [hy] at e'; cases e'; subst z; exact sep i t k e (ow' hk) a q
  ·exact S.sep i j t u k d ne e (ow' hk) e' z nd a q
 ·rcases back hd with ⟨rfl,z'⟩ | ⟨_,z'⟩
  ·rw [hy] at e'; cases e'; exact top i t k e (ow' hk) a ts z
  ·exact S.top i j t u k k2 e (ow' hk) e' z' a ts z
theorem Pt {x y k ky:Nat} {ty:T} {a:Addr} {ts:List T} (S:Sf p H0 A0 m τ H) (s:Same H H1) (hx:τ[x]?=some (some (.lst a ts))) (hm:m[x]?=some (.ow k)) (hy:τ[y]?=some (some ty)) (hmy:m[y]?=some (.ow ky)) (hne:y ≠ x) (hk:k - 1<=ky) :
  Sf p H0 A0 (m.set y (.br ky)) (τ.set x (some (.lst a (ts ++ [ty])))) (L2.upd H1 a (.lst ((ts ++ [ty]).map T.val)))/\Stp m (m.set y (.br ky)) [x] τ (τ.set x (some (.lst a (ts ++ [ty])))) H (L2.upd H1 a (.lst ((ts ++ [ty]).map T.val))):=by
 have S1:=S.grow s
 have sm:0 < k/\k < 90:=of_decide_eq_true (S.small _ (aai hm))
 have smy:0 < ky/\ky < 90:=of_decide_eq_true (S.small _ (aai hmy))
 have no:∀ {k0:Nat},Md.ow k0 ≠ .dead:=by intro k0 c; cases c
 have hyl:y < m.length:=(aaC.mp hmy).1
 have sxy:∀ b ∈ (T.lst a ts).adr k,b ∉ ty.rest 0:=S.sep x y _ ty k _ (Ne.symm hne) hx hm hy hmy no
 have syx:∀ b ∈ ty.adr ky,b ∉ (T.lst a ts).rest 0:=S.sep y x ty _ ky _ hne hy hmy hx hm no
 obtain ⟨k',rfl⟩:∃ k',k=k' + 1:=⟨k - 1,by omega⟩
 have aadr:a ∈ (T.lst a ts).adr (k' + 1):=aab ..
 have ndx:=S.nd x _ _ hx hm
 have ndt:T.Nds ts k':=by
  obtain ⟨n1,n2⟩:=ndx
  simp only [T.adr,T.rest,aaF] at n1 n2
  exact ⟨n1.2,fun b z y=>n2 b z (aaa _ y)⟩
 have hk':k'<=ky:=by omega
 have okx:=S1.at hx hm no
 have oky:=S1.at hy hmy no
 have e0:k' + 1 - 1 - lnP []=k':=by simp [lnP]
 obtain ⟨t',p1,p2,S2,P2⟩:=LW (F:=fun b=>b ∈ ty.adr k') (N:=fun b=>b ∈ ty.rest 0) (m1:=m.set y .dead) (us:=ts ++ [ty]) (q:=[]) S s hx hm rfl (by simp [lnP])
  (T.oks_iff.mpr fun w hw=>by
   rcases aac.mp hw with z | z
   ·exact T.oks_iff.mp okx.2 w z
   ·cases aaz.mp z; exact oky)
  (fun b z=>(T.all_iff ty k').mpr (.inl z))
  (by
   rw [e0]
   intro b z
   rw [T.adrs_append,aac] at z
   exact z.imp id fun z=>by simpa [T.adrs] using z)
  (by
   rw [e0]
   intro b z
   rw [T.rests_append,aac] at z
   exact z.imp id fun z=>T.rest_le ty (aaA k') (by simpa [T.rests] using z))
  (by
   rw [e0]
   exact IB (T.nd_le ty hk' (S.nd y ty ky hy hmy)) ndt (fun b z w=>syx b (T.adr_le ty hk' (by simpa [T.adrs] using z)) (aaa _ w)) (fun b z w=>sxy b (aaa _ z) (by simpa [T.rests] using w)))
  (fun b z=>syx b (T.adr_le ty hk' z)) (fun b z=>S1.own y ty ky b hy hmy (T.adr_le ty hk' z)) (fun b z=>.inl ⟨y,ty,ky,hy,hmy,T.adr_le ty hk' z⟩) (fun b z w=>sxy b w z)
  (fun b z=>by
   rcases (T.all_iff ty ky).mp z with w | w
   ·exact .inl (S.own y ty ky b hy hmy w).1
   ·exact S.src b ⟨y,ty,ky,hy,At hmy,smy.2,w⟩)
  (by rw [aaU]) (by rw [aav hne]; exact hm)
  (fun j d ne hd nd=>by
   rcases Ab hd with ⟨_,z⟩ | ⟨_,z⟩
   ·exact absurd z nd
   ·exact ⟨z,fun w=>absurd rfl w⟩)
  (fun j u d ne e hd nd b z=>by
   rcases Ab hd with ⟨_,w⟩ | ⟨w,hd⟩
   ·exact absurd w nd
   ·exact S.sep y j ty u ky d (Ne.symm w) hy hmy e hd nd b (T.adr_le ty hk' z))
  (fun i u k2 ne e hk2 b z w=>by
   rcases Ab hk2 with ⟨_,w'⟩ | ⟨w',hk2⟩
   ·cases w'
   ·exact S.sep i y u ty k2 _ w' e hk2 hy hmy no b w z)
 cases p1
 have hy':(τ.set x (some (.lst a (ts ++ [ty]))))[y]?=some (some ty):=by rw [aav (Ne.symm hne)]; exact hy
 have atop:a ∉ ty.rest 0:=sxy a aadr
 refine ⟨SL S2 hy' hyl smy.2 ?_ (fun b z=>S.src b ⟨y,ty,ky,hy,At hmy,smy.2,z⟩) (fun i t k2 e hk2 b z w=>?_) (fun i t k2 e hk2 b cs z=>?_),P2.keep,fun b o=>P2.grow b ?_,P2.wr⟩
 ·refine CF (H:=H1) (fun b w e n=>by rw [Af n]; exact e) (S1.own x _ _ a hx hm aadr).2 oky atop
 ·rcases Ab e with ⟨rfl,e2⟩ | ⟨n1,e1⟩
  ·cases e2
   rcases Ab hk2 with ⟨w',_⟩ | ⟨_,hk2⟩
   ·exact hne w'.symm
   ·rw [hm] at hk2
    cases hk2
    simp only [T.adr,T.adrs_append,T.adrs,aah,aac,aaP] at z
    rcases z with rfl | z | z
    ·exact atop (T.rest_le ty (aaA _) w)
    ·exact sxy b (aaa _ z) (T.rest_le ty (aaA _) w)
    ·exact (S.nd y ty ky hy hmy).2 b w (T.adr_le ty hk' z)
  ·rcases Ab hk2 with ⟨_,w'⟩ | ⟨w',hk2⟩
   ·cases w'
   ·exact S.sep i y t ty k2 _ w' e1 hk2 hy hmy no b z (T.rest_le ty (aaA _) w)
 ·rcases Ab e with ⟨rfl,e2⟩ | ⟨n1,e1⟩
  ·cases e2
   cases z
   exact atop
  ·rcases Ab hk2 with ⟨_,w'⟩ | ⟨w',hk2⟩
   ·cases w'
   ·subst z
    have:=of_decide_eq_true (S.small _ (aai hk2))
    refine S.sep i y _ ty k2 _ w' e1 hk2 hy hmy no b ?_
    obtain ⟨k3,rfl⟩:∃ k3,k2=k3 + 1:=⟨k2 - 1,by omega⟩
    exact aab ..
 ·obtain ⟨i,t,k2,e,hk2,z⟩:=o
  refine ⟨i,t,k2,e,?_,z⟩
  rcases Ab hk2 with ⟨_,w'⟩ | ⟨w',hk2⟩
  ·cases w'
  ·rw [aav (Ne.symm w')]; exact hk2
end
section
variable {Z:Zx} {m:Ms} {r:Option Ms} {τ:Ft} {H:Hp} {D:Ends} {X:Cx}
theorem Rm {x y k ky:Nat} (S:Sf Z.p Z.H0 Z.A0 m τ H) (hmx:m[x]?=some (.ow k)) (hmy:m[y]?=some (.ow ky)) (hne:y ≠ x) (hk:k - 1<=ky) (hr:r=some (m.set y (.br ky))) (h:lOut Z m r [x] (ex (.mut x [] .append (.cons (.nm y) .nil)) (dτ τ)) τ H D) :
  lPl Z.p Z.EX (tnM m) x [] (vτ τ) H fun v H1=>tyV X.K "list" v H1/\(C7 (Dl y) HS) (vτ τ) H1 fun vs H2=>Fd v vs H2 fun _ H3=>D.nx (vτ τ) H3:=by
 have sm:0 < k/\k < 90:=of_decide_eq_true (S.small _ (aai hmx))
 obtain ⟨t,is,ds,a,ts,ds',ht,ep,ee,hs,l1,l2,hf,hpl,hnx⟩:=ID S hmx (by simp [lnE]; omega) rfl h
 cases ep
 cases hs
 subst hr
 simp only [evs,ev] at ee
 obtain ⟨d,e1,ee⟩:=Res.bind_eq_ok ee
 cases ee
 obtain ⟨ty,hy,rfl⟩:=Cy e1
 simp only [umD] at hf
 obtain ⟨hlt,rfl⟩:=Al hf
 refine ⟨τ,_,[],.lst a ts,rfl,S.ok,E3 rfl,ht,S.at ht hmx (by intro c; cases c),rfl,rfl,fun H1 s1=>⟨JR (hpl H1 s1).1,?_⟩⟩
 refine ⟨ty.val,B8 hy,?_⟩
 show Fd (.ref a) [ty.val] H1 (fun _ H3=>D.nx (vτ τ) H3)
 refine ⟨a,_,ty.val,rfl,rfl,(hpl H1 s1).1,by rw [aae,<- Ac]; exact hlt,?_⟩
 obtain ⟨S2,P2⟩:=Pt S s1 ht hmx hy hmy hne hk
 have:=hnx (ts ++ [ty]) _ H1 _ (by rw [T.dats_map,aan,<- T.dats_map]; rfl) rfl rfl rfl S2 P2
 rw [aan] at this
 exact this
end
section
variable {Z:Zx} {m:Ms} {r:Option Ms} {w:List Nat} {τ:Ft} {H:Hp} {D:Ends} {X:Cx} {pos:Pos} {σ:L2.St}
theorem Pv {K:Frag} {xs:List Nat} {e:E} (h:lS Z (.asgT xs e) D σ H):∃ m,DZ (lE Z.p Z.EX (tnM m) e) (lG K (.tp xs)) D σ H:=by
 obtain ⟨τ,m,r,rfl,S,hr,h⟩:=h
 refine ⟨m,?_⟩
 simp only [msS] at hr
 obtain ⟨⟨j1,k1⟩,h1,hr⟩:=bS hr
 obtain ⟨⟨c1,c2⟩,rfl⟩:=Al hr
 have c1:j1=0:=c1
 subst c1
 simp only [ex] at h
 refine ⟨τ,rfl,S.ok,0,k1,h1,(h.lg S c2).mono (Same.refl _) fun d _ h t H1 ht R=>?_⟩
 subst ht
 rw [DP] at h
 cases q:BR (.tp xs) t τ with
 | none=>rw [q] at h; exact nE h
 | some τ' =>
  rw [q] at h
  obtain ⟨S2,P2⟩:=SJ S R.same R.ok R.src q
  exact Hq R.ok q (h _ τ' H1 rfl rfl S2 P2)
theorem Pw {e:E} (h:lS Z (.expr e) D σ H):∃ m,NZ (lE Z.p Z.EX (tnM m) e) D σ H:=by
 obtain ⟨τ,m,r,rfl,S,hr,h⟩:=h
 refine ⟨m,?_⟩
 simp only [msS] at hr
 obtain ⟨⟨j1,k1⟩,h1,hr⟩:=bS hr
 obtain ⟨c2,rfl⟩:=Al hr
 simp only [ex] at h
 exact ⟨τ,rfl,S.ok,j1,k1,h1,(h.lg S c2).mono (Same.refl _) fun d _ h t H1 ht R=>h m τ H1 rfl rfl (S.grow R.same) (Stp.refl _ (FM S.small) R.same)⟩
theorem Nw {c:Nat} {es:Es} (h:lS Z (.raise c es) D σ H):∃ m,lEs Z.p Z.EX (tnM m) es σ H fun vs H1=>vs.length=es.len/\(Z.p.has c=true->Z.EX σ (.ref (Z.p.cl c)) none H1):=by
 obtain ⟨τ,m,r,rfl,S,hr,h⟩:=h
 refine ⟨m,?_⟩
 simp only [msS] at hr
 obtain ⟨⟨j1,k1⟩,h1,hr⟩:=bS hr
 obtain ⟨c2,rfl⟩:=Al hr
 simp only [ex] at h
 refine ⟨τ,rfl,S.ok,j1,k1,h1,(h.lg S c2).mono (Same.refl _) fun ds e h ts H1 hts R=>⟨?_,fun hc=>h hc τ H1 rfl ((S.weak c2).grow R.same) (Stp.refl _ c2 R.same)⟩⟩
 rw [aae,<- Ac,hts,BJ _ _ _ e]
theorem Ro {e:E} (h:lS Z (.ret e) D σ H):(∃ (i:Nat) (t:T),e=.nm i/\σ[i]?=some (some t.val)/\D.rt t.val H)\/∃ m,lE Z.p Z.EX (tnM m) e σ H D.rt:=by
 obtain ⟨τ,m,r,rfl,S,hr,h⟩:=h
 simp only [msS] at hr
 obtain ⟨k,hk,hr⟩:=bS hr
 obtain ⟨⟨c1,c2⟩,rfl⟩:=Al hr
 simp only [ex] at h
 have gen:∀ j,(jk (tnM m) e=some (j,k))->j=0->∃ m,lE Z.p Z.EX (tnM m) e (vτ τ) H D.rt:=by
  intro j hj hz
  subst hz
  refine ⟨m,τ,rfl,S.ok,0,k,hj,(h.lg S c2).mono (Same.refl _) fun d _ h t H1 ht R=>h t H1 ht ⟨S.same.trans R.same,R.ok,fun a q=>?_,fun a q=>?_,T.nd_le t c1 R.nd⟩⟩
  ·rcases R.src a q with z | z
   ·exact .inl (S.same.free z)
   ·exact S.src a z
  ·have:=R.new a (T.adr_le t c1 q)
   exact ⟨S.same.free this.1,this.2⟩
 by_cases hnm:∃ i,e=.nm i
 ·obtain ⟨i,rfl⟩:=hnm
  simp only [rk] at hk
  cases q:get (dτ τ) i with
  | exc c=>unfold get at q; split at q <;> cases q
  | bad=>simp only [ev,q] at h; exact nE h
  | ok d =>
   obtain ⟨t,ht,rfl⟩:=Cy q
   simp only [ev,q] at h
   refine .inl ⟨i,t,rfl,B8 ht,h t H rfl ?_⟩
   split at hk
   ·rename_i k0 hm
    cases hk
    have sm:0 < k/\k < 90:=of_decide_eq_true (S.small _ (aai hm))
    refine ⟨S.same,S.at ht hm (by intro c; cases c),fun a z=>?_,fun a z=>S.own i t k a ht hm (T.adr_le t c1 z),T.nd_le t c1 (S.nd i t k ht hm)⟩
    rcases (T.all_iff t k).mp z with y | y
    ·exact .inl (S.own i t k a ht hm y).1
    ·exact S.src a ⟨i,t,k,ht,At hm,sm.2,y⟩
   ·rename_i hm
    cases hk
    have c1:Z.dep=0:=by omega
    rw [c1]
    exact ⟨S.same,S.at ht hm (by intro c; cases c),fun a z=>S.src a ⟨i,t,0,ht,At hm,by decide,z⟩,by rw [T.adr_zero]; simp,T.nd_zero t⟩
   ·cases hk
 ·refine .inr ?_
  have:rk m e=(jk (tnM m) e).bind fun x=>if x.1=0 then some x.2 else none:=by
   cases e <;> first | rfl | exact absurd ⟨_,rfl⟩ hnm
  rw [this] at hk
  obtain ⟨⟨j1,k1⟩,h1,hk⟩:=bS hk
  obtain ⟨z,rfl⟩:=Al hk
  exact gen j1 h1 z
theorem lOut.weak {r1 r2:Option Ms} {w1 w2:List Nat} {o:Out} (h:lOut Z m r2 w2 o τ H D) (hj:okJ r1 r2=true) (hw:∀ i ∈ w1,i ∈ w2):lOut Z m r1 w1 o τ H D:=by
 cases o with
 | nxt δ' =>
  intro m' τ' H' e1 e2 S P
  subst e1
  cases r2 with
  | none=>cases hj
  | some m2=>exact h m2 τ' H' rfl e2 (S.weak hj) ⟨P.keep,fun a o=>P.grow a (o.weak hj),fun i hi=>P.wr i fun q=>hi (hw i q)⟩
 | ret d=>exact h
 | exc c δ'=>exact fun hc τ' H' e S P=>h hc τ' H' e S (P.mono hw)
 | bad=>exact h
theorem Rp {c:E} {a b:Ss} (h:lS Z (.iff c a b) D σ H):∃ m,Ql (lT Z.p Z.EX (tnM m) c) (lSs Z a) (lSs Z b) D σ H:=by
 obtain ⟨τ,m,r,rfl,S,hr,h⟩:=h
 refine ⟨m,?_⟩
 simp only [msS] at hr
 obtain ⟨⟨j1,k1⟩,h1,hr⟩:=bS hr
 split at hr
 ·rename_i c2
  obtain ⟨ra,h2,hr⟩:=bS hr
  obtain ⟨rb,h3,hr⟩:=bS hr
  obtain ⟨⟨c3,c4⟩,rfl⟩:=Al hr
  simp only [ex] at h
  refine ⟨τ,rfl,S.ok,by rw [h1]; rfl,(h.lg S c2).mono (Same.refl _) fun t _ h H1 s1=>?_⟩
  have S1:=S.grow s1
  have shift:∀ {o:Out} {r0:Option Ms} {w0:List Nat},lOut Z m r0 w0 o τ H D->lOut Z m r0 w0 o τ H1 D:=by
   intro o r0 w0 h
   cases o with
   | nxt δ'=>exact fun m' τ' H' e1 e2 S P=>h m' τ' H' e1 e2 S ⟨fun a u e n=>P.keep a u (s1 a u e) n,fun a o=>(P.grow a o).imp id s1.free,P.wr⟩
   | ret d=>exact h
   | exc c δ'=>exact fun hc τ' H' e S P=>h hc τ' H' e S ⟨fun a u e n=>P.keep a u (s1 a u e) n,fun a o=>(P.grow a o).imp id s1.free,P.wr⟩
   | bad=>exact h
  cases t with
  | true =>
   rw [if_pos rfl] at h
   show (if true=true then lSs Z a D (vτ τ) H1 else lSs Z b D (vτ τ) H1)
   rw [if_pos rfl]
   exact ⟨τ,m,ra,rfl,S1,h2,shift (h.weak c3 fun i hi=>aat _ hi)⟩
  | false =>
   rw [if_neg (by decide)] at h
   show (if false=true then lSs Z a D (vτ τ) H1 else lSs Z b D (vτ τ) H1)
   rw [if_neg (by decide)]
   exact ⟨τ,m,rb,rfl,S1,h3,shift (h.weak c4 fun i hi=>aag _ hi)⟩
 ·cases hr
theorem lOut.shift {H1:Hp} {o:Out} (s1:Same H H1) (h:lOut Z m r w o τ H D):lOut Z m r w o τ H1 D:=by
 cases o with
 | nxt δ'=>exact fun m' τ' H' e1 e2 S P=>h m' τ' H' e1 e2 S ⟨fun a u e n=>P.keep a u (s1 a u e) n,fun a o=>(P.grow a o).imp id s1.free,P.wr⟩
 | ret d=>exact h
 | exc c δ'=>exact fun hc τ' H' e S P=>h hc τ' H' e S ⟨fun a u e n=>P.keep a u (s1 a u e) n,fun a o=>(P.grow a o).imp id s1.free,P.wr⟩
 | bad=>exact h
theorem lOut.after {m1:Ms} {τ1:Ft} {H1:Hp} {w1 w2:List Nat} {o:Out} (P:Stp m m1 w1 τ τ1 H H1) (hw1:∀ i ∈ w1,i ∈ w) (hw2:∀ i ∈ w2,i ∈ w) (h:lOut Z m r w o τ H D):lOut Z m1 r w2 o τ1 H1 D:=by
 cases o with
 | nxt δ'=>exact fun m' τ' H' e1 e2 S Q=>h m' τ' H' e1 e2 S ((P.trans Q).mono fun i hi=>by
   rcases aac.mp hi with z | z
   ·exact hw1 i z
   ·exact hw2 i z)
 | ret d=>exact h
 | exc c δ'=>exact fun hc τ' H' e S Q=>h hc τ' H' e S ((P.trans Q).mono fun i hi=>by
   rcases aac.mp hi with z | z
   ·exact hw1 i z
   ·exact hw2 i z)
 | bad=>exact h
theorem Rq {s:S} {rest:Ss} (h:lSs Z (.cons s rest) D σ H):lS Z s { D with nx:=lSs Z rest D } σ H:=by
 obtain ⟨τ,m,r,rfl,S,hr,h⟩:=h
 simp only [msSs] at hr
 obtain ⟨r1,h1,hr⟩:=bS hr
 refine ⟨τ,m,r1,rfl,S,h1,?_⟩
 simp only [exs] at h
 cases q:ex s (dτ τ) with
 | nxt δ' =>
  rw [q] at h
  intro m' τ' H' e1 e2 S' P
  subst e1
  simp only at hr
  refine ⟨τ',m',r,rfl,S',hr,?_⟩
  rw [e2]
  exact h.after P (fun i hi=>aat _ hi) (fun i hi=>aag _ hi)
 | ret d=>rw [q] at h; exact h
 | exc c δ' =>
  rw [q] at h
  exact fun hc τ' H' e S' P=>h hc τ' H' e S' (P.mono fun i hi=>aat _ hi)
 | bad=>rw [q] at h; exact h
theorem Rr (h:lSs Z .nil D σ H):D.nx σ H:=by
 obtain ⟨τ,m,r,rfl,S,hr,h⟩:=h
 cases hr
 exact h m τ H rfl rfl S (Stp.refl _ (FM S.small) (Same.refl _))
theorem Py {s:S} {rest:Ss} (hs:(∃ x k,s=.dem x k)\/(∃ x,s=.dead x)) (h:lSs Z (.cons s rest) D σ H):lSs Z rest D σ H:=by
 obtain ⟨τ,m,r,rfl,S,hr,h⟩:=h
 simp only [msSs] at hr
 obtain ⟨r1,h1,hr⟩:=bS hr
 rcases hs with ⟨x,k,rfl⟩ | ⟨x,rfl⟩
 ·simp only [msS] at h1
  obtain ⟨c,rfl⟩:=Al h1
  refine ⟨τ,_,r,rfl,S.weak c,hr,?_⟩
  simp only [exs,ex,Out.then_nxt] at h
  exact h.after (w1:=[]) (Stp.refl _ c (Same.refl _)) (fun i hi=>nomatch hi) (fun i hi=>aag _ hi)
 ·simp only [msS] at h1
  obtain ⟨c,rfl⟩:=Al h1
  refine ⟨τ,_,r,rfl,S.weak c,hr,?_⟩
  simp only [exs,ex,Out.then_nxt] at h
  exact h.after (w1:=[]) (Stp.refl _ c (Same.refl _)) (fun i hi=>nomatch hi) (fun i hi=>aag _ hi)
end
section
variable {Z:Zx} {m:Ms} {r:Option Ms} {w:List Nat} {τ:Ft} {H:Hp} {D:Ends} {X:Cx} {pos:Pos} {σ:L2.St}
theorem SM {c:E} {b:Ss} (h:lS Z (.wh c b) D σ H):∃ m,K3 (lT Z.p Z.EX (tnM m) c) (lSs Z b) D σ H:=by
 obtain ⟨τ,m,r,rfl,S,hr,h⟩:=h
 refine ⟨m,?_⟩
 simp only [msS] at hr
 obtain ⟨⟨j1,k1⟩,h1,hr⟩:=bS hr
 split at hr
 ·rename_i c2
  obtain ⟨rb,h2,hr⟩:=bS hr
  have hrb:r=some m/\okJ rb (some m)=true:=by
   cases rb with
   | none=>exact ⟨(Option.some.inj hr).symm,rfl⟩
   | some mb =>
    obtain ⟨z,e⟩:=Al hr
    exact ⟨e.symm,z⟩
  obtain ⟨rfl,hj⟩:=hrb
  simp only [ex] at h
  refine ⟨fun n σ H'=>∃ τ',σ=vτ τ'/\Sf Z.p Z.H0 Z.A0 m τ' H'/\Stp m m (wrSs b) τ τ' H H'/\lOut Z m (some m) (wrSs b) (F8 (tv c) (exs b) n (dτ τ')) τ H D,⟨FU,τ,rfl,S,Stp.refl _ (FM S.small) (Same.refl _),h⟩,?_⟩
  rintro n σ' H' ⟨τ',rfl,S',P',h'⟩
  cases n with
  | zero=>exact nE h'
  | succ n =>
   simp only [F8] at h'
   have hb:=h'.after (w:=wrSs b) (w1:=wrSs b) (w2:=wrSs b) P' (fun _ z=>z) (fun _ z=>z)
   refine ⟨τ',rfl,S'.ok,by rw [h1]; rfl,(hb.lg S' c2).mono (Same.refl _) fun t et hb2 H1 s1=>?_⟩
   rw [et] at h'
   simp only [Res.out_ok] at h'
   cases t with
   | false =>
    show (if false=true then _ else D.nx (vτ τ') H1)
    rw [if_neg (by decide)]
    rw [if_neg (by decide)] at h'
    exact h' m τ' H1 rfl rfl (S'.grow s1) ⟨fun a u e n=>s1 _ _ (P'.keep a u e n),P'.grow,P'.wr⟩
   | true =>
    rw [if_pos rfl] at h' hb2
    show (if true=true then _ else _)
    rw [if_pos rfl]
    refine ⟨fun σ2 H2=>∃ τ2,σ2=vτ τ2/\Sf Z.p Z.H0 Z.A0 m τ2 H2/\Stp m m (wrSs b) τ τ2 H H2/\lOut Z m (some m) (wrSs b) (F8 (tv c) (exs b) n (dτ τ2)) τ H D,fun σ2 H2 q=>⟨n,Nat.lt_succ_self n,q⟩,?_⟩
    refine ⟨τ',m,rb,rfl,S'.grow s1,h2,?_⟩
    have hb3:=hb2.shift s1
    have P1:Stp m m (wrSs b) τ τ' H H1:=⟨fun a u e n=>s1 _ _ (P'.keep a u e n),P'.grow,P'.wr⟩
    cases q:exs b (dτ τ') with
    | nxt δ2 =>
     rw [q] at h'
     intro m' τ2 H2 e1 e2 S2 P2
     subst e1
     have hle:leM m' m=true:=hj
     refine ⟨τ2,rfl,S2.weak hle,((P1.trans P2).mono (w2:=wrSs b) (fun i hi=>by simpa using hi)) |> fun P3=>⟨P3.keep,fun a o=>P3.grow a (Own.weak hle o),P3.wr⟩,?_⟩
     rw [e2]; exact h'
    | ret d=>rw [q] at hb3; exact hb3
    | exc c' δ'=>rw [q] at hb3; exact hb3
    | bad=>rw [q] at hb3; exact hb3
 ·cases hr
theorem Stp.lesser {m1 m2:Ms} {τ':Ft} {H':Hp} (h:leM m1 m2=true) (P:Stp m m1 w τ τ' H H'):Stp m m2 w τ τ' H H':=⟨P.keep,fun a o=>P.grow a (Own.weak h o),P.wr⟩
theorem IE {K:Frag} {g:Tg} {b:Ss} {J:L2.It} {us:List T} {ds:List Pu.D} {j:Nat} {H1:Hp} {rb:Option Ms} (S:Sf Z.p Z.H0 Z.A0 m τ H) (IT:ItOk Z.p (Sh (tnM m) τ) H H1 J us j ds) (hd:leM m (Ae m g.sl .dead)=true)
  (h2:msSs Z.mx Z.dep b (Ae (Ae m g.sl .dead) g.sl .sh)=some rb) (hj:okJ rb (some (Ae m g.sl .dead))=true)
  (per:∀ (τ':Ft) (H':Hp),Sf Z.p Z.H0 Z.A0 (Ae m g.sl .dead) τ' H'->Stp m (Ae m g.sl .dead) (g.sl ++ wrSs b) τ τ' H1 H'->T.Oks Z.p H' us)
  (h:lOut Z m (some (Ae m g.sl .dead)) (g.sl ++ wrSs b) (AN g (exs b) ds (dτ τ)) τ H1 D) :
  ∃ W:Nat->Nat->L2.St->Hp->Prop,(∃ n,W 0 n (vτ τ) H1)/\∀ i n σ H,W i n σ H->(J.stop i H/\D.nx σ H)\/(J.go i H/\∃ N:L2.St->Hp->Prop,(∀ σ' H',N σ' H'->∃ n',n' < n/\W (i + 1) n' σ' H')/\∀ x H',J.yld i H x H'->lG K g x σ H' fun σ2 H2=>lSs Z b { D with nx:=N,ct:=N,bk:=D.nx } σ2 H2):=by
 have S1:=S.grow IT.same
 have fineU:∀ a,(H a=none\/Sh (tnM m) τ a)->(Z.H0 a=none\/Z.A0 a)/\¬ Own m τ a:=fun a q=>S.fine q
 refine ⟨fun i n σ H'=>n=ds.length - i/\i<=ds.length/\∃ τ',σ=vτ τ'/\Sf Z.p Z.H0 Z.A0 (Ae m g.sl .dead) τ' H'/\Stp m (Ae m g.sl .dead) (g.sl ++ wrSs b) τ τ' H1 H'/\lOut Z m (some (Ae m g.sl .dead)) (g.sl ++ wrSs b) (AN g (exs b) (ds.drop i) (dτ τ')) τ H1 D,
  ⟨ds.length,by simp,aaA _,τ,rfl,S1.weak hd,Stp.refl _ hd (Same.refl _),by simpa using h⟩,?_⟩
 rintro i n σ' H' ⟨rfl,hi,τ',rfl,S',P',h'⟩
 have usok:=per τ' H' S' P'
 rcases abW i ds.length with hlt | hge
 ·have hdi:ds[i]?=some ds[i]:=aam hlt
  rw [aa7 hlt] at h'
  simp only [AN] at h'
  refine .inr ⟨IT.go i H' usok hlt,fun σ2 H2=>∃ τ2,σ2=vτ τ2/\Sf Z.p Z.H0 Z.A0 (Ae m g.sl .dead) τ2 H2/\Stp m (Ae m g.sl .dead) (g.sl ++ wrSs b) τ τ2 H1 H2/\lOut Z m (some (Ae m g.sl .dead)) (g.sl ++ wrSs b) (AN g (exs b) (ds.drop (i + 1)) (dτ τ2)) τ H1 D,
   fun σ2 H2 q=>⟨ds.length - (i + 1),by omega,rfl,hlt,q⟩,fun x H'' y=>?_⟩
  obtain ⟨s2,t,rfl,ht,tok,tus,tsrc⟩:=IT.yld i H' x H'' ds[i] usok hdi y
  rw [<- ht,DP] at h'
  cases q:BR g t τ' with
  | none=>rw [q] at h'; exact nE h'
  | some τ2 =>
   rw [q] at h'
   simp only [aa3] at h'
   have src:∀ a ∈ t.rest 0,(Z.H0 a=none\/Z.A0 a)/\¬ Own (Ae m g.sl .dead) τ' a:=fun a z=>by
    refine ⟨(fineU a (tsrc a z)).1,fun o=>?_⟩
    rcases P'.grow a o with w | w
    ·exact (fineU a (tsrc a z)).2 w
    ·obtain ⟨v,hv,z2⟩:=T.mem_rests.mp (tus a z)
     exact (T.oks_iff.mp IT.ok v hv).dom z2 w
   obtain ⟨S2,P2⟩:=LU S' s2 tok src q
   refine Hq tok q ⟨τ2,_,rb,rfl,S2,h2,?_⟩
   have P3:=P'.trans P2
   have h3:=h'.after (w:=g.sl ++ wrSs b) (w2:=wrSs b) P3 (fun i hi=>by
    simp only [aac] at hi ⊢
    rcases hi with (hi | hi) | hi
    ·exact .inl hi
    ·exact .inr hi
    ·exact .inl hi) (fun i hi=>aag _ hi)
   cases e:exs b (dτ τ2) with
   | nxt δ3 =>
    rw [e] at h'
    intro m' τ3 H3 e1 e2 S3 P4
    subst e1
    have hle:leM m' (Ae m g.sl .dead)=true:=hj
    refine ⟨τ3,rfl,S3.weak hle,Stp.lesser hle ((P3.trans P4).mono fun i hi=>?_),?_⟩
    ·simp only [aac] at hi ⊢
     rcases hi with ((hi | hi) | hi) | hi
     ·exact .inl hi
     ·exact .inr hi
     ·exact .inl hi
     ·exact .inr hi
    ·rw [e2]; exact h'
   | ret d=>rw [e] at h3; exact h3
   | exc c' δ'=>rw [e] at h3; exact h3
   | bad=>rw [e] at h3; exact h3
 ·refine .inl ⟨IT.stop i H' usok hge,?_⟩
  have hil:i=ds.length:=abI hi hge
  subst hil
  rw [abE] at h'
  exact h' _ τ' H' rfl rfl S' P'
theorem Rt {K:Frag} {g:Tg} {it:It} {b:Ss} (h:lS Z (.for_ g it b) D σ H):(∃ m,Qq (lI Z.p Z.EX (tnM m) it) (lG K g) (lSs Z b) D σ H) \/
  (∃ x,it=.seqL (.nm x)/\∃ v a xs,σ[x]?=some (some v)/\v=.ref a/\SqL X.K H a xs/\(X.K=Z.p.K->xs.length<=sizeLine->∃ W:Nat->Nat->L2.St->Hp->Prop,(∃ n,W 0 n σ H)/\∀ i n σ H,W i n σ H->((Itl X.K a).stop i H/\D.nx σ H)\/((Itl X.K a).go i H/\∃ N:L2.St->Hp->Prop,(∀ σ' H',N σ' H'->∃ n',n' < n/\W (i + 1) n' σ' H') /\
   ∀ x H',(Itl X.K a).yld i H x H'->lG K g x σ H' fun σ2 H2=>lSs Z b { D with nx:=N,ct:=N,bk:=D.nx } σ2 H2))):=by
 obtain ⟨τ,m,r,rfl,S,hr,h⟩:=h
 simp only [msS] at hr
 obtain ⟨j,h1,hr⟩:=bS hr
 split at hr
 ·rename_i c
  obtain ⟨c1,c2,c3⟩:=c
  obtain ⟨rb,h2,hr⟩:=bS hr
  have hrb:r=some (Ae m g.sl .dead)/\okJ rb (some (Ae m g.sl .dead))=true:=by
   cases rb with
   | none=>exact ⟨(Option.some.inj hr).symm,rfl⟩
   | some mb =>
    obtain ⟨z,e⟩:=Al hr
    exact ⟨e.symm,z⟩
  obtain ⟨rfl,hj⟩:=hrb
  simp only [ex] at h
  by_cases z:j=0
  ·subst z
   refine .inl ⟨m,τ,rfl,S.ok,0,h1,(h.lg S c1).mono (Same.refl _) fun ds _ h J us H1 IT=>?_⟩
   refine IE S IT c2 h2 hj (fun τ' H' S' P'=>?_) (h.shift IT.same)
   have S1:=S.grow IT.same
   refine T.oks_iff.mpr fun u hu=>(T.oks_iff.mp IT.ok u hu).keep fun a w e q=>P'.keep a w e fun o=>?_
   rcases q with q | q
   ·exact (S.fine (IT.src a (T.mem_rests.mpr ⟨u,hu,q⟩))).2 o
   ·obtain ⟨_,vs,e2⟩:=S1.ownOk o
    rw [e2] at e
    exact q vs (Option.some.inj e).symm
  ·rcases c3 with c3 | ⟨x,c3,c4,c5⟩
   ·exact absurd c3 z
   ·have hit:it=.seqL (.nm x):=by
     unfold It.nmOf at c3
     split at c3
     ·cases c3; rfl
     ·cases c3
    subst hit
    refine .inr ⟨x,rfl,?_⟩
    have hlg:=h.lg S c1
    cases q:get (dτ τ) x with
    | exc c=>unfold get at q; split at q <;> cases q
    | bad=>simp only [evI,ev,q,Res.bind_bad] at hlg; exact nE hlg
    | ok d =>
     obtain ⟨t,ht,rfl⟩:=Cy q
     simp only [evI,ev,q,Res.bind_ok] at hlg
     cases t with
     | lst a ts =>
      simp only [jkI] at h1
      obtain ⟨⟨j1,k1⟩,h3,h1⟩:=bS h1
      obtain ⟨hj1,e1⟩:=Al h1
      have e1:j1=j:=e1
      subst e1
      simp only [jk] at h3
      split at h3
      ·rename_i j' hj'
       obtain ⟨hlt,e⟩:=CL h3
       cases e
       have okt:=S.ok x _ j1 ht hj' (of_decide_eq_true hlt)
       refine ⟨_,a,ts.map T.val,B8 ht,rfl,.inl okt.1,fun hK hz=>?_⟩
       have R:Rs Z.p (Sh (tnM m) τ) H H j1 0 (.lst a ts):=⟨Same.refl _,okt,fun b m'=>.inr ⟨x,_,j1,ht,hj',of_decide_eq_true hlt,m'⟩,by rw [T.adr_zero]; simp,T.nd_zero _⟩
       refine IE S (EU hK R hj1 (by simpa using hz)) c2 h2 hj (fun τ' H' S' P'=>?_) hlg
       obtain ⟨d,hd,ed⟩:=AC hj'
       have hdd:d ≠ .dead:=fun w=>by subst w; subst ed; exact absurd (of_decide_eq_true hlt) (by decide)
       have hx':(Ae m g.sl .dead)[x]?=some d:=by
        have hlen:x < (Ae m g.sl .dead).length:=by rw [BY]; exact (aaC.mp hd).1
        rcases Da (aam hlen) with ⟨w,_⟩ | ⟨_,w⟩
        ·exact absurd w c5
        ·rw [aam hlen]
         rw [hd] at w
         exact w.symm
       refine ⟨S'.at (i:=x) (by rw [P'.wr x (fun w=>by rcases aac.mp w with w | w; exact c5 w; exact c4 w)]; exact ht) hx' hdd,trivial⟩
      ·cases h3
     | _=>exact nE hlg
 ·cases hr
end
section
variable {p:Px} {H0:Hp} {A0:Addr->Prop} {m:Ms} {τ:Ft} {H H1:Hp}
theorem JS {x:Nat} {s:Option T} (S:Sf p H0 A0 m τ H):Sf p H0 A0 (m.set x .dead) (τ.set x s) H:=by
 have back:∀ {i:Nat} {u:T} {d:Md},d ≠ .dead->(τ.set x s)[i]?=some (some u)->(m.set x .dead)[i]?=some d->τ[i]?=some (some u)/\m[i]?=some d:=by
  intro i u d nd e h
  rcases Ab h with ⟨_,z⟩ | ⟨z1,z2⟩
  ·exact absurd z nd
  ·rcases Ab e with ⟨z,_⟩ | ⟨_,e⟩
   ·exact absurd z z1
   ·exact ⟨e,z2⟩
 have no:∀ {k:Nat},Md.ow k ≠ .dead:=by intro k c; cases c
 have nb:∀ {k:Nat},Md.br k ≠ .dead:=by intro k c; cases c
 have lt:∀ {d:Md},d.tn < 90->d ≠ .dead:=fun l z=>by subst z; exact absurd l (by decide)
 refine ⟨by rw [aaU,aaU]; exact S.len,fun d hd=>?_,S.same,fun i t j e ej l=>?_,fun i t k a e hk q=>?_,fun a sh=>?_,fun i t k e hk=>?_,fun i j t u k d ne e hk e' hd nd a q=>?_,fun i j t u k k2 e hk e' hd a ts z=>?_⟩
 ·rcases abV hd with z | z
  ·exact S.small d z
  ·subst z; rfl
 ·obtain ⟨d,hd,rfl⟩:=AC ej
  obtain ⟨q1,q2⟩:=back (lt l) e hd
  exact S.ok i t _ q1 (At q2) l
 ·obtain ⟨q1,q2⟩:=back no e hk
  exact S.own i t k a q1 q2 q
 ·obtain ⟨i,t,j,e,ej,l,q⟩:=sh
  obtain ⟨d,hd,rfl⟩:=AC ej
  obtain ⟨q1,q2⟩:=back (lt l) e hd
  exact S.src a ⟨i,t,_,q1,At q2,l,q⟩
 ·obtain ⟨q1,q2⟩:=back no e hk
  exact S.nd i t k q1 q2
 ·obtain ⟨q1,q2⟩:=back no e hk
  obtain ⟨q3,q4⟩:=back nd e' hd
  exact S.sep i j t u k d ne q1 q2 q3 q4 nd a q
 ·obtain ⟨q1,q2⟩:=back no e hk
  obtain ⟨q3,q4⟩:=back nb e' hd
  exact S.top i j t u k k2 q1 q2 q3 q4 a ts z
end
theorem Ru {p:Px} (kx:Kx p) {k n:Nat} (hk:p.has k=true) (hn:p.has n=true) (h:isa k n=true) (ne:k ≠ n):exmOne p.K (.ref (p.cl k)) (.ref (p.cl n))=some true:=by
 have k1:=kx.kc k n hk hn
 have k2:=kx.kc n k hn hk
 rw [h] at k1
 have hf:isa n k=false:=by
  unfold isa at h ⊢
  have e1:(k==n)=false:=beq_eq_false_iff_ne.mpr ne
  rw [e1,abR,beq_iff_eq] at h
  subst h
  rw [Bool.or_eq_false_iff]
  exact ⟨beq_eq_false_iff_ne.mpr (Ne.symm ne),beq_eq_false_iff_ne.mpr ne⟩
 rw [hf] at k2
 have hne:p.cl n ≠ p.cl k:=fun z=>by
  rw [z] at k2
  unfold kitOne at k2
  rw [if_pos (by simp)] at k2
  cases k2
 unfold exmOne
 rw [if_pos (by rw [(kx.x n hn).sb]; rfl)]
 unfold kitOne at k1
 rw [if_neg (fun z=>hne (by
  have:=eq_of_beq z
  injection this with this
  exact this.symm))] at k1
 exact k1
theorem Nx (τ:Ft) (i:Nat):vτ (τ.set i none)=(vτ τ).set i none:=by unfold vτ; rw [abJ]; rfl
theorem Ny (τ:Ft) (i:Nat):dτ (τ.set i none)=(dτ τ).set i none:=by unfold dτ; rw [abJ]; rfl
section
variable {Z:Zx} {m:Ms} {r:Option Ms} {w:List Nat} {τ:Ft} {H:Hp} {D:Ends} {σ:L2.St}
theorem Nz {i:Nat}:Stp m (m.set i .dead) [i] τ (τ.set i none) H H:=by
 refine ⟨fun a u e _=>e,fun a o=>?_,fun j hj=>by rw [aav (fun z=>hj (by simp [z]))]⟩
 obtain ⟨j,u,k',e,hk,q⟩:=o
 rcases Ab hk with ⟨_,z⟩ | ⟨z1,z2⟩
 ·cases z
 ·rcases Ab e with ⟨z,_⟩ | ⟨_,e⟩
  ·exact absurd z z1
  ·exact .inl ⟨j,u,k',e,z2,q⟩
theorem Rv {K:Frag} {b h e:Ss} {n i:Nat} (hK:K=Z.p.K) (kx:Kx Z.p) (hn:Z.p.has n=true) (hq:lS Z (.try_ b n i h e) D σ H):∃ mb mh,QL K (.ref (Z.p.cl n)) i (fun E _ _=>lSs { Z with EX:=E,mx:=mb } b) (fun _=>lSs { Z with EX:=EX0,mx:=mh } h) (lSs Z e) D σ H:=by
 obtain ⟨τ,m,r,rfl,S,hr,hq⟩:=hq
 simp only [msS] at hr
 split at hr
 ·rename_i cc
  obtain ⟨c1,c2⟩:=cc
  obtain ⟨rb,h1,hr⟩:=bS hr
  obtain ⟨rh,h2,hr⟩:=bS hr
  obtain ⟨re,h3,hr⟩:=bS hr
  obtain ⟨⟨c3,c4⟩,rfl⟩:=Al hr
  refine ⟨Ae m (wrSs b) .dead,aaf m.length .dead,fun W pn=>⟨τ,m,rb,rfl,S,h1,?_⟩⟩
  simp only [ex] at hq
  cases q:exs b (dτ τ) with
  | bad=>rw [q] at hq; exact hq
  | ret d=>rw [q] at hq; exact hq
  | nxt δ1 =>
   rw [q] at hq
   intro m1 τ1 H1 em e2 S1 P1
   subst em e2
   refine ⟨τ1,m1,re,rfl,S1,h3,?_⟩
   exact ((show lOut Z m _ _ (exs e (dτ τ1)) τ H D from hq).weak (w1:=wrS (.try_ b n i h e)) c3 (fun _ z=>z)).after P1 (fun j hj=>aat _ hj) (fun j hj=>aag _ (aaa _ (aag _ hj)))
  | exc k δ1 =>
   rw [q] at hq
   intro hk τ1 H1 e2 S1 P1
   subst e2
   simp only at hq
   by_cases cc:(isa k n && !(k==n))=true
   ·rw [if_pos cc] at hq
    obtain ⟨i1,i2⟩:=Aa cc
    have ne:k ≠ n:=by simpa using i2
    refine ⟨_,rfl,hK ▸ Ru kx hk hn i1 ne,fun a ha=>?_⟩
    have hl:i < (Ae m (wrSs b) .dead).length:=by rw [BY]; exact c1
    have sm:Same H1 (L2.upd H1 a (xO a (Z.p.cl k))):=fun a' u e=>by
     rw [L2.Af (fun z=>by subst z; rw [ha] at e; cases e)]; exact e
    have R:Rs Z.p (Sh (tnM (Ae m (wrSs b) .dead)) τ1) H1 (L2.upd H1 a (xO a (Z.p.cl k))) 0 0 (.exn a k):=⟨sm,⟨by rw [L2.Ak]; unfold exO; rw [if_neg (fun z=>by rw [z,kx.no] at hk; cases hk)],.inr hk⟩,by simp [T.rest],by simp [T.adr],by simp [T.Nd,T.adr]⟩
    obtain ⟨S2,P2⟩:=LR S1 R (aaj 0) hl (by decide)
    have e0:mdK 0=.sh:=rfl
    rw [e0] at S2 P2
    refine ⟨τ1.set i (some (.exn a k)),_,rh,by rw [Dg]; rfl,S2,h2,?_⟩
    rw [De]
    cases q2:exs h ((dτ τ1).set i (some (.exn k))) with
    | bad=>rw [show (T.exn a k).dat=.exn k from rfl,q2]; rw [q2] at hq; exact hq
    | exc _ _=>rw [show (T.exn a k).dat=.exn k from rfl,q2]; rw [q2] at hq; exact nE hq
    | ret d=>rw [show (T.exn a k).dat=.exn k from rfl,q2]; rw [q2] at hq; exact hq
    | nxt δ2 =>
     rw [show (T.exn a k).dat=.exn k from rfl,q2]
     rw [q2] at hq
     intro m2 τ2 H2 em e3 S3 P3
     subst em e3
     have hw:=(show lOut Z m _ _ (.nxt ((dτ τ2).set i none)) τ H D from hq).weak (w1:=wrS (.try_ b n i h e)) c4 (fun _ z=>z)
     have:=hw (m2.set i .dead) (τ2.set i none) H2 rfl (Ny τ2 i) (JS S3) ((((P1.trans P2).trans P3).trans Nz).mono fun j hj=>?_)
     ·rw [Nx] at this
      exact this
     ·rcases aac.mp hj with hj | hj
      ·rcases aac.mp hj with hj | hj
       ·rcases aac.mp hj with hj | hj
        ·exact aat _ hj
        ·rw [aaz.mp hj]; exact aag _ (aab ..)
       ·exact aag _ (aaa _ (aat _ hj))
      ·rw [aaz.mp hj]; exact aag _ (aab ..)
   ·rw [if_neg cc] at hq; exact nE hq
 ·cases hr
end
noncomputable def OwnN (m:Ms) (τ:Ft) (I:List Nat) (a:Addr):Prop:=∃ (i:Nat) (t:T) (k:Nat),i ∉ I/\τ[i]?=some (some t)/\m[i]?=some (.ow k)/\a ∈ t.adr k
structure RO (p:Px) (m:Ms) (τ:Ft) (I:List Nat) (k:Nat) (H H':Hp) (ts:List T):Prop where
 same:Same H H'
 ok:T.Oks p H' ts
 src:∀ a ∈ T.rests ts 0,H a=none\/Sh (tnM m) τ a\/OwnN m τ I a
 new:∀ a ∈ T.adrs ts k,(H a=none/\∃ vs,H' a=some (.lst vs))\/OwnN m τ I a
 nd:T.Nds ts k
section
variable {p:Px} {H0:Hp} {A0:Addr->Prop} {m:Ms} {τ:Ft} {H H1 H2:Hp}
theorem OwnN.own {I:List Nat} {a:Addr} (h:OwnN m τ I a):Own m τ a:=let ⟨i,t,k,_,e,q,z⟩:=h; ⟨i,t,k,e,q,z⟩
theorem Rw {I:List Nat} {k:Nat}:RO p m τ I k H H []:=⟨Same.refl _,trivial,by simp [T.rests],by simp [T.adrs],by simp [T.Nds,T.adrs]⟩
theorem Rx {I:List Nat} {i k k2:Nat} {t:T} {ts:List T} (S:Sf p H0 A0 m τ H) (ht:τ[i]?=some (some t)) (hm:m[i]?=some (.ow k)) (hi:i ∉ I) (r:RO p m τ (i :: I) k2 H H2 ts):RO p m τ I (min k k2) H H2 (t :: ts):=by
 have no:∀ {k:Nat},Md.ow k ≠ .dead:=by intro k c; cases c
 have okt:=S.at ht hm no
 have mono:∀ {a:Addr},OwnN m τ (i :: I) a->OwnN m τ I a:=fun ⟨j,u,kj,n,e,q,z⟩=>⟨j,u,kj,fun w=>n (aaa _ w),e,q,z⟩
 have sm:0 < k/\k < 90:=of_decide_eq_true (S.small _ (aai hm))
 refine ⟨r.same,⟨okt.same r.same,r.ok⟩,fun a q=>?_,fun a q=>?_,T.nds_cons.mpr ⟨T.nd_le t (aaX ..) (S.nd i t k ht hm),T.nds_le (aaR ..) r.nd,fun a q q'=>?_,fun a q q'=>?_⟩⟩
 ·simp only [T.rests,aac] at q
  rcases q with q | q
  ·rcases (T.all_iff t k).mp q with z | z
   ·exact .inr (.inr ⟨i,t,k,hi,ht,hm,z⟩)
   ·exact .inr (.inl ⟨i,t,k,ht,At hm,sm.2,z⟩)
  ·rcases r.src a q with z | z | z
   ·exact .inl z
   ·exact .inr (.inl z)
   ·exact .inr (.inr (mono z))
 ·simp only [T.adrs,aac] at q
  rcases q with q | q
  ·exact .inr ⟨i,t,k,hi,ht,hm,T.adr_le t (aaX ..) q⟩
  ·obtain ⟨u,hu,q⟩:=T.mem_adrs.mp q
   exact (r.new a (T.mem_adrs.mpr ⟨u,hu,T.adr_le u (aaR ..) q⟩)).imp id mono
 ·have q1:=T.adr_le t (aaX k k2) q
  have o:Own m τ a:=⟨i,t,k,ht,hm,q1⟩
  rcases r.src a q' with z | z | ⟨j,u,kj,n,e,w,z⟩
  ·obtain ⟨_,vs,e⟩:=S.ownOk o
   rw [e] at z; cases z
  ·exact S.disj o z
  ·have ne:i ≠ j:=fun y=>n (by rw [y]; exact aab ..)
   exact S.sep i j t u k _ ne ht hm e w no a q1 ((T.all_iff u kj).mpr (.inl z))
 ·obtain ⟨u,hu,q⟩:=T.mem_adrs.mp q
  rcases r.new a (T.mem_adrs.mpr ⟨u,hu,T.adr_le u (aaR ..) q⟩) with z | ⟨j,u,kj,n,e,w,z⟩
  ·exact okt.dom q' z.1
  ·have ne:j ≠ i:=fun y=>n (by rw [y]; exact aab ..)
   exact S.sep j i u t kj _ ne e w ht hm no a z q'
theorem Ry {I:List Nat} {k k2:Nat} {t:T} {ts:List T} (S:Sf p H0 A0 m τ H) (R:Rs p (Sh (tnM m) τ) H H1 0 k t) (r:RO p m τ I k2 H1 H2 ts):RO p m τ I (min k k2) H H2 (t :: ts):=by
 have R2:=R.fwd r.same
 refine ⟨R2.same,⟨R2.ok,r.ok⟩,fun a q=>?_,fun a q=>?_,T.nds_cons.mpr ⟨T.nd_le t (aaX ..) R.nd,T.nds_le (aaR ..) r.nd,fun a q q'=>?_,fun a q q'=>?_⟩⟩
 ·simp only [T.rests,aac] at q
  rcases q with q | q
  ·exact (R.src a q).imp id .inl
  ·exact (r.src a q).imp R.same.free id
 ·simp only [T.adrs,aac] at q
  rcases q with q | q
  ·exact .inl (R2.new a (T.adr_le t (aaX ..) q))
  ·obtain ⟨u,hu,q⟩:=T.mem_adrs.mp q
   exact (r.new a (T.mem_adrs.mpr ⟨u,hu,T.adr_le u (aaR ..) q⟩)).imp (fun z=>⟨R.same.free z.1,z.2⟩) id
 ·have n1:=R.new a (T.adr_le t (aaX ..) q)
  rcases r.src a q' with z | z | z
  ·obtain ⟨vs,e⟩:=n1.2
   rw [e] at z; cases z
  ·exact S.ok.dom z n1.1
  ·obtain ⟨_,vs,e⟩:=S.ownOk z.own
   rw [n1.1] at e; cases e
 ·obtain ⟨u,hu,q⟩:=T.mem_adrs.mp q
  rcases r.new a (T.mem_adrs.mpr ⟨u,hu,T.adr_le u (aaR ..) q⟩) with z | z
  ·exact R.ok.dom q' z.1
  ·rcases R.src a q' with y | y
   ·obtain ⟨_,vs,e⟩:=S.ownOk z.own
    rw [e] at y; cases y
   ·exact S.disj z.own y
end
noncomputable def lRO (Z:Zx) (m:Ms) (τ:Ft) (I:List Nat) (es:Es):TA:=fun σ H Q=>σ=vτ τ/\Sf Z.p Z.H0 Z.A0 m τ H/\∃ k,rkT m I es=some k/\Lg Z.p Z.EX σ (evs es (dτ τ)) H (fun ds=>∀ ts H',T.dats ts=ds->RO Z.p m τ I k H H' ts->Q (ts.map T.val) H')
section
variable {Z:Zx} {m:Ms} {τ:Ft} {H:Hp} {D:Ends} {σ:L2.St}
theorem Rz {p:Px} {H1:Hp} {a:Addr} {ts:List T} {k:Nat} (hn:H1 a=none) (ok:T.Oks p H1 ts) (nd:T.Nds ts k):(T.lst a ts).Nd (k + 1):=by
 have out:a ∉ T.rests ts 0:=fun m=>by
  obtain ⟨t,ht,m⟩:=T.mem_rests.mp m
  exact (T.oks_iff.mp ok t ht).dom m hn
 refine ⟨?_,fun b m m'=>?_⟩
 ·simp only [T.adr,aaF]
  exact ⟨fun m=>out ((T.alls_iff ts k).mpr (.inl m)),nd.1⟩
 ·simp only [T.adr,T.rest,aah] at m m'
  rcases m' with rfl | m'
  ·exact out ((T.alls_iff ts k).mpr (.inr m))
  ·exact nd.2 b m m'
theorem Pz {es:Es} (hl:es.len<=1000) (h:lS Z (.retL es) D σ H):∃ m τ,Gq (lRO Z m τ [] es) σ H D.rt:=by
 obtain ⟨τ,m,r,rfl,S,hr,h⟩:=h
 simp only [msS] at hr
 obtain ⟨k,hk,hr⟩:=bS hr
 obtain ⟨⟨c1,c2⟩,rfl⟩:=Al hr
 simp only [ex] at h
 refine ⟨m,τ,rfl,S,k,hk,(h.lg S c2).mono (Same.refl _) fun ds e h ts H1 hts R=>⟨?_,fun a ha=>?_⟩⟩
 ·have:=BJ _ _ _ e
  rw [aae,<- Ac,hts,this]
  exact aao hl (by decide)
 ·have sm:Same H1 (L2.upd H1 a (.lst (ts.map T.val))):=fun a' u e=>by
   rw [L2.Af (fun z=>by subst z; rw [ha] at e; cases e)]; exact e
  have hf:=R.same.free ha
  refine h (.lst a ts) _ (by simp [T.dat,hts]) ⟨S.same.trans (R.same.trans sm),⟨.inl (L2.Ak ..),R.ok.same sm⟩,fun b q=>?_,fun b q=>?_,?_⟩
  ·simp only [T.rest,aah] at q
   rcases q with rfl | q
   ·exact .inl (S.same.free hf)
   ·rcases R.src b q with z | z | z
    ·exact .inl (S.same.free z)
    ·exact S.src b z
    ·exact .inl (S.ownOk z.own).1
  ·have q:=T.adr_le (.lst a ts) c1 q
   simp only [T.adr,aah] at q
   rcases q with rfl | q
   ·exact ⟨S.same.free hf,_,L2.Ak ..⟩
   ·rcases R.new b q with ⟨z,vs,e⟩ | z
    ·exact ⟨S.same.free z,vs,sm _ _ e⟩
    ·obtain ⟨z1,vs,e⟩:=S.ownOk z.own
     exact ⟨z1,vs,sm _ _ (R.same _ _ e)⟩
  ·exact T.nd_le _ c1 (Rz ha R.ok R.nd)
end
section
variable {Z:Zx} {D:Ends} {X:Cx} {σ:L2.St} {H:Hp}
noncomputable def lOA (Z:Zx) (m m1:Ms) (w:List Nat) (y:Nat) (o:Out) (τ:Ft) (H:Hp) (D:Ends):Prop:=match o with
 | .nxt δ'=>∀ (τ':Ft) (H':Hp) (a:Addr) (ts ts':List T),dτ τ'=δ'->τ[y]?=some (some (.lst a ts))->τ'[y]?=some (some (.lst a ts'))->Sf Z.p Z.H0 Z.A0 m1 τ' H'->Stp m m1 w τ τ' H H'->D.nx (vτ τ') H'
 | o=>lOut Z m (some m1) w o τ H D
theorem lOA.lg {α:Type} {m m1:Ms} {w:List Nat} {τ:Ft} {y:Nat} {q:Res α} {f:α->Out} (S:Sf Z.p Z.H0 Z.A0 m τ H) (hm:leM m Z.mx=true) (h:lOA Z m m1 w y (q.out (dτ τ) f) τ H D):Lg Z.p Z.EX (vτ τ) q H fun a=>lOA Z m m1 w y (f a) τ H D:=by
 cases q with
 | ok a=>exact h
 | exc c=>exact fun hc H' s=>h hc τ H' rfl ((S.weak hm).grow s) (Stp.refl w hm s)
 | bad=>exact h
theorem lOA.shift {H1:Hp} {m m1:Ms} {w:List Nat} {τ:Ft} {y:Nat} {o:Out} (s1:Same H H1) (h:lOA Z m m1 w y o τ H D):lOA Z m m1 w y o τ H1 D:=by
 cases o with
 | nxt δ'=>exact fun τ' H' a ts ts' e1 e2 e3 S P=>h τ' H' a ts ts' e1 e2 e3 S ⟨fun a u e n=>P.keep a u (s1 a u e) n,fun a o=>(P.grow a o).imp id s1.free,P.wr⟩
 | ret d=>exact h
 | exc c δ'=>exact fun hc τ' H' e S P=>h hc τ' H' e S ⟨fun a u e n=>P.keep a u (s1 a u e) n,fun a o=>(P.grow a o).imp id s1.free,P.wr⟩
 | bad=>exact h
noncomputable def vals (σ:L2.St):List Nat->Option (List V)
 | []=>some []
 | i :: r=>match σ[i]? with
  | some (some v)=>(vals σ r).map (v :: ·)
  | _=>none
noncomputable def rS:R2:=fun x y H Q=>∃ i j,x=.str i/\y=.str j/\i.length + j.length<=sizeLine/\Q (.str (i ++ j)) H
noncomputable def SN (X:Cx) (p:Px) (EX:EXT) (tn:List Nat) (x l:Nat) (ix:E):TS:=Mr (DZ (Gq (C7 (tOp rS (Dl l) (tC (.str ":"))) (C7 (tOp rS (tC (.str ":")) (Dl l)) (C7 (Km (Dl l) ":" "::") (C7 (Km (Dl l) ":" " ") HS))))) (Cf x)) (Mv (tOp (Ke X.K) (tOp Kq (Dl x) (Gq (C7 (Km (Dl l) " " ":") HS))) (lE p EX tn ix)))
theorem PB {x l:Nat} {ix:E} (h:lSs Z (.reps x l ix) D σ H):∃ m:Ms,SN X Z.p Z.EX (tnM (m.set x .dead)) x l ix D σ H:=by
 obtain ⟨τ,m,r,rfl,S,hr,h⟩:=h
 simp only [msSs] at hr
 obtain ⟨⟨j1,k1⟩,hj1,hr⟩:=bS hr
 obtain ⟨⟨hxl,hxm⟩,hr⟩:=Al hr
 cases hr
 have h:lOut Z m none [x] (Hm (get (dτ τ) l) fun d=>ev ix ((dτ τ).set x (some d))) τ H D:=h
 cases q:get (dτ τ) l with
 | exc c=>rw [q] at h; exact nE h
 | bad=>rw [q] at h; exact nE h
 | ok d0 =>
  rw [q] at h
  obtain ⟨t0,ht0,hd0⟩:=Cy q
  cases t0 with
  | str z =>
   subst hd0
   have h:lOut Z m none [x] (if z.length<=1048576 then (match ev ix ((dτ τ).set x (some (.lst ((AI z).map .str)))) with
    | .ok (.int n)=>match atD ((AI z ++ [BO z]).map .str) n with
     | .ok d=>.ret d
     | _=>.bad
    | _=>.bad) else .bad) τ H D:=h
   split at h
   ·rename_i hz
    have hv:(vτ τ)[l]?=some (some (.str z)):=B8 ht0
    have lx:x < (vτ τ).length:=by unfold vτ; rw [aae,S.len]; exact hxm
    have hz2:z.length + (":" : Str).length<=sizeLine:=by
     rw [sizeLine_eq]; show z.length + 1<=_; omega
    have hz3:(":" : Str).length + z.length<=sizeLine:=by
     rw [sizeLine_eq]; show 1 + z.length<=_; omega
    refine ⟨m,.str z,hv,z, ":",rfl,rfl,hz2,.str z,hv, ":",z,rfl,rfl,hz3,.str z,hv,z,rfl,hz,.str z,hv,z,rfl,hz,by rw [sizeLine_eq]; show 4<=_; omega,fun p1 hp1=>?_⟩
    refine ⟨.ref p1,abD lx,.str z,(aav hxl).trans hv,z,rfl,hz,by rw [sizeLine_eq]; show 1<=_; omega,fun p2 hp2=>?_⟩
    have ne12:p1 ≠ p2:=fun e=>by
     subst e
     rw [L2.Ak] at hp2; cases hp2
    refine ⟨p1,p2,_,_,rfl,rfl,.inl ((L2.Af ne12).trans L2.Ak),.inl L2.Ak,by rw [sizeLine_eq]; show 4 + 1<=_; omega,fun p3 hp3=>?_⟩
    generalize hH1:L2.upd H p1 _=H1 at *
    generalize hH2:L2.upd H1 p2 _=H2 at *
    have s1:Same H H1:=by rw [<- hH1]; exact Same.new hp1
    have s2:Same H1 H2:=by rw [<- hH2]; exact Same.new hp2
    obtain ⟨τ1,hτ1⟩:∃ τ1,τ1=τ.set x (some (.lst p1 ((AI z).map T.str))):=⟨_,rfl⟩
    obtain ⟨H3,hH3⟩:∃ H3,H3=L2.upd H2 p3 (.lst (((AI z ++ [BO z]).map T.str).map T.val)):=⟨_,rfl⟩
    have s3:Same H2 H3:=by rw [hH3]; exact Same.new hp3
    have hp3':H3 p3=some (.lst (((AI z ++ [BO z]).map T.str).map T.val)):=by rw [hH3]; exact L2.Ak
    have S1:Sf Z.p Z.H0 Z.A0 (m.set x .dead) τ1 H3:=by rw [hτ1]; exact (JS S).grow ((s1.trans s2).trans s3)
    have ed:dτ τ1=(dτ τ).set x (some (.lst ((AI z).map .str))):=by
     rw [hτ1,De]
     show (dτ τ).set x (some (.lst (T.dats ((AI z).map T.str))))=_
     rw [T.dats_map,aaH]; rfl
    have ev1:(vτ τ).set x (some (.ref p1))=vτ τ1:=by rw [hτ1,Dg]; rfl
    show lE Z.p Z.EX (tnM (m.set x .dead)) ix ((vτ τ).set x (some (.ref p1))) (L2.upd H2 p3 (.lst (((AI z ++ [BO z]).map T.str).map T.val))) fun i H4=>Ke X.K (.ref p3) i H4 D.rt
    rw [<- hH3,ev1]
    refine ⟨τ1,rfl,S1.ok,j1,k1,hj1,?_⟩
    rw [ed]
    cases qe:ev ix ((dτ τ).set x (some (.lst ((AI z).map .str)))) with
    | exc c=>rw [qe] at h; exact nE h
    | bad=>rw [qe] at h; exact nE h
    | ok d =>
     rw [qe] at h
     cases d with
     | int n =>
      have h:lOut Z m none [x] (match atD ((AI z ++ [BO z]).map .str) n with
       | .ok d=>.ret d
       | _=>.bad) τ H D:=h
      intro t H4 ht R
      have hvt:t.val=.int n:=by cases t <;> simp [T.dat] at ht <;> simp [T.val,ht]
      cases qa:atD ((AI z ++ [BO z]).map .str) n with
      | exc c=>rw [qa] at h; exact nE h
      | bad=>rw [qa] at h; exact nE h
      | ok d' =>
       rw [qa] at h
       have eL:(AI z ++ [BO z]).map Pu.D.str=T.dats ((AI z ++ [BO z]).map T.str):=by rw [T.dats_map,aaH]; rfl
       rw [eL] at qa
       obtain ⟨u,hu,hat,hk⟩:=Ho (p:=Z.p) (EX:=Z.EX) (σ:=vτ τ) (H:=H) (Kc:=fun d=>d=d') (show Lg Z.p Z.EX (vτ τ) (atD (T.dats ((AI z ++ [BO z]).map T.str)) n) H _ by rw [qa]; exact rfl)
       obtain ⟨w,_,rfl⟩:=aaG.mp hu
       exact ⟨p3,_,n,_,rfl,hvt,SqL.of (R.same _ _ hp3'),hat,h (.str w) H4 hk (Rs.scal (S1.same.trans R.same) rfl)⟩
     | _=>exact nE h
   ·exact nE h
  | _=>subst hd0; exact nE h
end
noncomputable def Eu:List (Bool × E)->List Nd1
 | []=>[]
 | (_,e) :: r=>e.need ++ Eu r
mutual
noncomputable def S.need:S->List Nd1
 | .asg _ _ e=>e.need
 | .dem _ _=>[]
 | .dead _=>[]
 | .asgT _ e=>e.need
 | .mut _ q _ es=>Eu q ++ es.need
 | .expr e=>e.need
 | .iff c a b=>c.need ++ (a.need ++ b.need)
 | .wh c b=>c.need ++ b.need
 | .for_ _ it b=>it.need ++ b.need
 | .ret e=>e.need
 | .retL es=>es.need
 | .raise c es=>.rs c :: es.need
 | .try_ b c _ h e=>.cl c :: (b.need ++ (h.need ++ e.need))
noncomputable def Ss.need:Ss->List Nd1
 | .nil=>[]
 | .cons s r=>s.need ++ r.need
 | .reps _ _ ix=>ix.need
end
noncomputable def IF:Um->Str
 | .append => "append"
 | .extend => "extend"
 | .insert => "insert"
 | .pop => "pop"
 | .popAt => "pop"
 | .clear => "clear"
 | .reverse => "reverse"
noncomputable def NA:Um->Nat->Bool
 | .append,n=>decide (n=1)
 | .extend,n=>decide (n=1)
 | .popAt,n=>decide (n=1)
 | .insert,n=>decide (n=2)
 | _,n=>decide (n=0)
noncomputable def Ea:Expr->Bool
 | .ListComp _ _ _ _=>false
 | .SetComp _ _ _ _=>false
 | .DictComp _ _ _ _ _=>false
 | _=>true
noncomputable def E5:Expr->Bool
 | .Tuple _ _ _=>false
 | _=>true
noncomputable def IG (c:CkC):List Expr->Bool
 | [.Name x _,.Name y _]=>(c.sc.names.lookup x==some .cell) || (c.sc.names.lookup y==some .cell)
 | _=>false
noncomputable def IH:Expr->Bool
 | .Call _ _ _ _=>false
 | _=>true
noncomputable def two:Expr->Option (Expr × Expr)
 | .Tuple es _ _=>match es with
  | [a,b]=>some (a,b)
  | _=>none
 | _=>none
noncomputable def nmOf:Expr->Option (Str × Pos)
 | .Name x p=>some (x,p)
 | _=>none
noncomputable def II:List ExceptHandler->List Stmt->Option (Str × Str × List Stmt)
 | [.ExceptHandler (some (.Name x _)) (some y) h _],[]=>some (x,y,h)
 | _,_=>none
theorem PD {hs:List ExceptHandler} {fin h:List Stmt} {x y:Str} (e:II hs fin=some (x,y,h)):∃ p1 p2,hs=[.ExceptHandler (some (.Name x p1)) (some y) h p2]/\fin=[]:=by
 unfold II at e
 split at e
 ·cases e; exact ⟨_,_,rfl,rfl⟩
 ·cases e
noncomputable def Fq:Expr->Option (Str × Pos)
 | .Name x p=>some (x,p)
 | _=>none
theorem Dt {e:Expr} {x:Str} {p:Pos} (h:Fq e=some (x,p)):e=.Name x p:=by cases e <;> cases h <;> rfl
noncomputable def NB:Expr->Option (List Expr × Pos)
 | .List es p=>some (es,p)
 | _=>none
theorem JT {e:Expr} {es:List Expr} {p:Pos} (h:NB e=some (es,p)):e=.List es p:=by cases e <;> cases h <;> rfl
noncomputable def RA:Expr->Option (Expr × Expr × Pos)
 | .Subscript o i p=>some (o,i,p)
 | _=>none
theorem PF {e o i:Expr} {p:Pos} (h:RA e=some (o,i,p)):e=.Subscript o i p:=by cases e <;> cases h <;> rfl
noncomputable def KH:Expr->Option (Expr × Operator × Expr × Pos)
 | .BinOp a o b p=>some (a,o,b,p)
 | _=>none
theorem GC {e a b:Expr} {o:Operator} {p:Pos} (h:KH e=some (a,o,b,p)):e=.BinOp a o b p:=by cases e <;> cases h <;> rfl
noncomputable def Hw:Operator->Bool
 | .Add=>true
 | _=>false
theorem FO {o:Operator} (h:Hw o=true):o=.Add:=by cases o <;> first | rfl | cases h
noncomputable def RB:Expr->Option (Expr × Str × Pos)
 | .Attribute o n p=>some (o,n,p)
 | _=>none
theorem PH {e o:Expr} {n:Str} {p:Pos} (h:RB e=some (o,n,p)):e=.Attribute o n p:=by cases e <;> cases h <;> rfl
noncomputable def IJ:Expr->Option (Const × Nat × Pos)
 | .Constant c j p=>some (c,j,p)
 | _=>none
theorem Fs {e:Expr} {c:Const} {j:Nat} {p:Pos} (h:IJ e=some (c,j,p)):e=.Constant c j p:=by cases e <;> cases h <;> rfl
noncomputable def IK:Const->Option Str
 | .str x=>some x
 | _=>none
theorem Fu {c:Const} {x:Str} (h:IK c=some x):c=.str x:=by cases c <;> cases h <;> rfl
noncomputable def RC:Expr->Option (Expr × List Expr × List Keyword × Pos)
 | .Call f xs ks p=>some (f,xs,ks,p)
 | _=>none
theorem PJ {e f:Expr} {xs:List Expr} {ks:List Keyword} {p:Pos} (h:RC e=some (f,xs,ks,p)):e=.Call f xs ks p:=by cases e <;> cases h <;> rfl
noncomputable def RE:Stmt->Option (List Expr × Expr × Pos)
 | .Assign ts e p=>some (ts,e,p)
 | _=>none
theorem PK {st:Stmt} {ts:List Expr} {e:Expr} {p:Pos} (h:RE st=some (ts,e,p)):st=.Assign ts e p:=by cases st <;> cases h <;> rfl
noncomputable def RF:Stmt->Option (Option Expr × Pos)
 | .Return e p=>some (e,p)
 | _=>none
theorem PL {st:Stmt} {e:Option Expr} {p:Pos} (h:RF st=some (e,p)):st=.Return e p:=by cases st <;> cases h <;> rfl
noncomputable def NC {α:Type}:List α->Option α
 | [a]=>some a
 | _=>none
theorem JU {α:Type} {l:List α} {a:α} (h:NC l=some a):l=[a]:=by
 cases l with
 | nil=>cases h
 | cons x r=>cases r <;> cases h <;> rfl
noncomputable def ND {α:Type}:List α->Option (α × α)
 | [a,b]=>some (a,b)
 | _=>none
theorem JV {α:Type} {l:List α} {a b:α} (h:ND l=some (a,b)):l=[a,b]:=by
 cases l with
 | nil=>cases h
 | cons x r=>cases r with
  | nil=>cases h
  | cons y r=>cases r <;> cases h <;> rfl
noncomputable def N8 {α:Type}:List α->Option (α × α × α × α)
 | [a,b,c,d]=>some (a,b,c,d)
 | _=>none
theorem NE {α:Type} {l:List α} {a b c d:α} (h:N8 l=some (a,b,c,d)):l=[a,b,c,d]:=by
 cases l with
 | nil=>cases h
 | cons x r=>cases r with
  | nil=>cases h
  | cons y r=>cases r with
   | nil=>cases h
   | cons z r=>cases r with
    | nil=>cases h
    | cons w r=>cases r <;> cases h <;> rfl
noncomputable def Rows (st:Stmt) (a b y f a2 b2:Str) (es:List Expr) (k:Nat) (q:Pos) (e:Expr):Prop:=∃ p1 p2 p3 p4 p5 p6 p7 p8 p9 p10 p11,es=[.Name a p1,.Name b p2]/\st=.For (.Tuple [.Name a p1,.Name b p2] k q) (.Call (.Name f p4) [.Name y p3,e] [] p5) [.Assign [.Subscript (.Name a2 p6) (.Slice none none none p7) p8] (.Name b2 p9) p10] [] p11
noncomputable def IL (e:Expr):Option (Str × Str × Str × Pos × Pos) :=
 (RC e).bind fun c=>(RB c.1).bind fun o=>(Fq o.1).bind fun l=>(ND c.2.1).bind fun uv=>(IJ uv.1).bind fun u=>(IK u.1).bind fun a=>(IJ uv.2).bind fun v=>(IK v.1).bind fun b =>
 if c.2.2.1.isEmpty && (o.2.1==("replace" : Str)) then some (l.1,a,b,o.2.2,c.2.2.2) else none
noncomputable def TW (e:Expr) (l a b:Str) (ap cp:Pos):Prop:=∃ p1 j1 p2 j2 p3,e=.Call (.Attribute (.Name l p1) "replace" ap) [.Constant (.str a) j1 p2,.Constant (.str b) j2 p3] [] cp
theorem GD {e:Expr} {l a b:Str} {ap cp:Pos} (h:IL e=some (l,a,b,ap,cp)):TW e l a b ap cp:=by
 unfold IL at h
 obtain ⟨c,g1,h⟩:=bS h
 obtain ⟨o,g2,h⟩:=bS h
 obtain ⟨l',g3,h⟩:=bS h
 obtain ⟨uv,g4,h⟩:=bS h
 obtain ⟨u,g5,h⟩:=bS h
 obtain ⟨a',g6,h⟩:=bS h
 obtain ⟨v,g7,h⟩:=bS h
 obtain ⟨b',g8,h⟩:=bS h
 obtain ⟨hc,h⟩:=Al h
 simp only [aak,List.isEmpty_iff,beq_iff_eq] at hc
 obtain ⟨k1,k2⟩:=hc
 have E:=PJ g1
 rw [PH g2,Dt g3,JV g4,Fs g5,Fu g6,Fs g7,Fu g8,k1,k2] at E
 clear g1 g2 g3 g4 g5 g6 g7 g8 k1 k2
 cases h
 exact ⟨_,_,_,_,_,E⟩
noncomputable def Du (sts:List Stmt):Option (Str × Str × Expr) :=
 (ND sts).bind fun ss=>(RE ss.1).bind fun g=>(NC g.1).bind fun t=>(Fq t).bind fun f=>(NB g.2.1).bind fun es=>(N8 es.1).bind fun q =>
 (KH q.1).bind fun b1=>(Fq b1.1).bind fun l1=>(IJ b1.2.2.1).bind fun s1=>(IK s1.1).bind fun t1 =>
 (KH q.2.1).bind fun b2=>(IJ b2.1).bind fun s2=>(IK s2.1).bind fun t2=>(Fq b2.2.2.1).bind fun l2 =>
 (IL q.2.2.1).bind fun r3=>(IL q.2.2.2).bind fun r4 =>
 (RF ss.2).bind fun rt=>rt.1.bind fun re=>(RA re).bind fun sb=>(KH sb.1).bind fun b5=>(Fq b5.1).bind fun f2=>(NB b5.2.2.1).bind fun es5=>(NC es5.1).bind fun q5=>(IL q5).bind fun r5 =>
 if (l2.1==l1.1) && (r3.1==l1.1) && (r4.1==l1.1) && (r5.1==l1.1) && (f2.1==f.1) && (t1==(":" : Str)) && (t2==(":" : Str)) && (r3.2.1==(":" : Str)) && (r3.2.2.1==("::" : Str)) && (r4.2.1==(":" : Str)) && (r4.2.2.1==(" " : Str)) && (r5.2.1==(" " : Str)) && (r5.2.2.1==(":" : Str))
  && (r3.2.2.2.1.endLine==r3.2.2.2.2.line) && (r4.2.2.2.1.endLine==r4.2.2.2.2.line) && (r5.2.2.2.1.endLine==r5.2.2.2.2.line) && Hw b1.2.1 && Hw b2.2.1 && Hw b5.2.1 then some (f.1,l1.1,sb.2.1) else none
noncomputable def TX (sts:List Stmt) (f l:Str) (ix:Expr):Prop:=∃ p1 p2 p3 p4 p5 p6 p7 p8 p9 p10 p11 p12 p13 p14 p15 p16 p17 p18 p19 p20 p21 p22 p23 ap3 cp3 ap4 cp4 ap5 cp5 j1 j2 j3 j4 j5 j6 j7 j8,
  sts=[.Assign [.Name f p1] (.List [.BinOp (.Name l p2) .Add (.Constant (.str ":") j1 p3) p4,.BinOp (.Constant (.str ":") j2 p5) .Add (.Name l p6) p7,.Call (.Attribute (.Name l p8) "replace" ap3) [.Constant (.str ":") j3 p9,.Constant (.str "::") j4 p10] [] cp3,.Call (.Attribute (.Name l p11) "replace" ap4) [.Constant (.str ":") j5 p12,.Constant (.str " ") j6 p13] [] cp4] p14) p15,
   .Return (some (.Subscript (.BinOp (.Name f p16) .Add (.List [.Call (.Attribute (.Name l p17) "replace" ap5) [.Constant (.str " ") j7 p18,.Constant (.str ":") j8 p19] [] cp5] p20) p21) ix p22)) p23]/\(ap3.endLine==cp3.line)=true/\(ap4.endLine==cp4.line)=true/\(ap5.endLine==cp5.line)=true
theorem LZ {sts:List Stmt} {f l:Str} {ix:Expr} (h:Du sts=some (f,l,ix)):TX sts f l ix:=by
 unfold Du at h
 obtain ⟨z,g1,h⟩:=bS h
 obtain ⟨a,g2,h⟩:=bS h
 obtain ⟨t,g3,h⟩:=bS h
 obtain ⟨f',g4,h⟩:=bS h
 obtain ⟨es,g5,h⟩:=bS h
 obtain ⟨q,g6,h⟩:=bS h
 obtain ⟨b1,g7,h⟩:=bS h
 obtain ⟨l1,g8,h⟩:=bS h
 obtain ⟨s1,g9,h⟩:=bS h
 obtain ⟨t1,g10,h⟩:=bS h
 obtain ⟨b2,g11,h⟩:=bS h
 obtain ⟨s2,g12,h⟩:=bS h
 obtain ⟨t2,g13,h⟩:=bS h
 obtain ⟨l2,g14,h⟩:=bS h
 obtain ⟨⟨l3,x3,y3,ap3,cp3⟩,g15,h⟩:=bS h
 obtain ⟨⟨l4,x4,y4,ap4,cp4⟩,g16,h⟩:=bS h
 obtain ⟨rt,g17,h⟩:=bS h
 obtain ⟨re,g18,h⟩:=bS h
 obtain ⟨sb,g19,h⟩:=bS h
 obtain ⟨b5,g20,h⟩:=bS h
 obtain ⟨f2,g21,h⟩:=bS h
 obtain ⟨es5,g22,h⟩:=bS h
 obtain ⟨q5,g23,h⟩:=bS h
 obtain ⟨⟨l5,x5,y5,ap5,cp5⟩,g24,h⟩:=bS h
 obtain ⟨hc,h⟩:=Al h
 simp only [aak,beq_iff_eq] at hc
 obtain ⟨⟨⟨⟨⟨⟨⟨⟨⟨⟨⟨⟨⟨⟨⟨⟨⟨⟨k1,k2⟩,k3⟩,k4⟩,k5⟩,k6⟩,k7⟩,k8⟩,k9⟩,k10⟩,k11⟩,k12⟩,k13⟩,m1⟩,m2⟩,m3⟩,i1⟩,i2⟩,i3⟩:=hc
 obtain ⟨w1,w2,w3,w4,w5,e15⟩:=GD g15
 obtain ⟨v1,v2,v3,v4,v5,e16⟩:=GD g16
 obtain ⟨u1,u2,u3,u4,u5,e24⟩:=GD g24
 have E:=JV g1
 rw [PK g2,JU g3,Dt g4,JT g5,NE g6,GC g7,Dt g8,Fs g9,Fu g10,GC g11,Fs g12,Fu g13,Dt g14,e15,e16,PL g17,g18,PF g19,GC g20,Dt g21,JT g22,JU g23,e24,FO i1,FO i2,FO i3,k1,k2,k3,k4,k5,k6,k7,k8,k9,k10,k11,k12,k13] at E
 clear g1 g2 g3 g4 g5 g6 g7 g8 g9 g10 g11 g12 g13 g14 g15 g16 g17 g18 g19 g20 g21 g22 g23 g24 k1 k2 k3 k4 k5 k6 k7 k8 k9 k10 k11 k12 k13 i1 i2 i3 e15 e16 e24
 cases h
 exact ⟨_,_,_,_,_,_,_,_,_,_,_,_,_,_,_,_,_,_,_,_,_,_,_,_,_,_,_,_,_,_,_,_,_,_,_,_,_,E,beq_iff_eq.mpr m1,beq_iff_eq.mpr m2,beq_iff_eq.mpr m3⟩
mutual
noncomputable def ckS (c:CkC):S->Stmt->Bool
 | .asg x _ e,.Assign [.Name y _] e' _=>(c.N[x]?==some y) && CA c y && ckE c e e'
 | .asgT xs e,.Assign [.Tuple ts k q] e' _=>ckG c (.tp xs) (.Tuple ts k q) && ckE c e e' && (E5 e' || IG c ts)
 | .mut x q u es,.Expr (.Call (.Attribute o name ap) xs [] cp) _=>FN c x q.reverse o && (name==IF u) && ckEs c es xs && (ap.endLine==cp.line) && IH o && decide (es.len < 20) && NA u es.len
 | .expr e,.Expr e' _=>ckE c e e' && Ea e'
 | .iff t a b,.If t' a' b' _=>ckE c t t' && t.tst && ckSs c a a' && ckSs c b b'
 | .wh t b,.While t' b' [] _=>ckE c t t' && t.tst && ckSs c b b' && c.rz
 | .for_ g it b,.For tg it' b' [] _=>ckG c g tg && ckI c tg it it' && BX it' && ckSs c b b' && c.rz && c.cm
 | .ret e,.Return (some e') _=>ckE c e e'
 | .retL es,.Return (some (.List xs _)) _=>ckEs c es xs && decide (es.len<=1000)
 | .raise n es,.Raise (some (.Call (.Name x _) xs [] _)) none _=>(x==Ar n) && glB c.sc x && AB x && ckEs c es xs && decide (0 < es.len) && decide (es.len<=1000) && c.rz && c.cm
 | .try_ b n i h e,.Try b' hs e' fin _=>match II hs fin with
  | some (x,y,h')=>(x==Ar n) && glB c.sc x && AB x && (c.N[i]?==some y) && (c.sc.names.lookup y==some .local) && c.rz && c.cm && !h'.isEmpty && ckSs { c with rz:=false } b b' && ckSs { c with rz:=false,cm:=false } h h' && ckSs c e e'
  | none=>false
 | _,_=>false
noncomputable def ckSs (c:CkC):Ss->List Stmt->Bool
 | .nil,[]=>true
 | .cons (.dem _ _) r,st=>ckSs c r st
 | .cons (.dead _) r,st=>ckSs c r st
 | .cons s r,x :: xs=>ckS c s x && ckSs c r xs
 | .reps x l ix,sts=>match Du sts with
  | some (f,ln,ix')=>(c.N[x]?==some f) && CA c f && (c.N[l]?==some ln) && Bv c.sc ln && AB ln && Bv c.sc f && AB f && ckE c ix ix' && AA ix'
  | none=>false
 | _,_=>false
end
structure Cs (Z:Zx) (c:CkC) (lv:Nat) (X:Cx) (E:XK):Prop where
 ct:Ct Z.p c lv X Z.EX
 ex:c.rz=true->Z.EX=fun _=>E
 xw:c.rz=true->Kh X E
 po:c.rz=true->PassesOwn (model X.prog X.w) X.A X.env X.xe
 kind:c.sc.kind=.function
 stk:X.stack=X.env :: X.outer
 frm:X.env.frame=some X.env.locals
section
variable {Z:Zx} {c:CkC} {lv:Nat} {X:Cx} {E:XK} {pos:Pos}
theorem Ev {e:Expr} {t:Option Expr} {n:Nat} {env:Env} (h:Ea e=true):swapsWith e t n env=pure false:=by
 cases e <;> first | rfl | cases h
theorem Jp {q:List (Bool × Pu.E)}:∀ e ∈ q,∀ n ∈ e.2.need,n ∈ Eu q:=by
 induction q with
 | nil=>intro e he; cases he
 | cons a q ih =>
  intro e he n hn
  obtain ⟨b,e0⟩:=a
  rcases aah.mp he with rfl | he
  ·exact aat _ hn
  ·exact aag _ (ih e he n hn)
theorem NF (C:Cs Z c lv X E) {x k:Nat} {e:Pu.E} {y:Str} {py:Pos} {e':Expr} (hn:∀ n ∈ e.need,NeedOk Z.p lv X n) (h1:(c.N[x]?==some y)=true) (h2:CA c y=true) (h3:ckE c e e'=true):PS X (.Assign [.Name y py] e' pos) (lS Z (.asg x k e)):=by
 have hN:X.N[x]?=some y:=by rw [C.ct.N]; exact beq_iff_eq.mp h1
 obtain ⟨l1,l2⟩:=C.ct.loc h2
 intro pins s σ H D I h
 obtain ⟨τ,m,rfl,S,h⟩:=Rk h
 by_cases hc:Ea e'=true
 ·exact K1 C.ct.nd hN l1 (snd e C.ct (tn:=tnM m) e' hn h3).1 (Ev hc) l2 pins s _ H D I h
 ·cases e' with
  | ListComp elt' gens scope q =>
   have hsw:∃ b:Bool,swapsWith (.ListComp elt' gens scope q) (some (.Name y py)) pos.line X.env=pure b:=⟨_,rfl⟩
   obtain ⟨b,hsw⟩:=hsw
   cases b with
   | false=>exact K1 C.ct.nd hN l1 (snd e C.ct (tn:=tnM m) _ hn h3).1 hsw l2 pins s _ H D I h
   | true =>
    cases e with
    | comp0 nl fr g it elt =>
     obtain ⟨tg,iter,ifs,rfl,h3⟩:=C9 h3
     obtain ⟨h3,g7⟩:=Aa h3
     obtain ⟨h3,g6⟩:=Aa h3
     obtain ⟨h3,g5⟩:=Aa h3
     obtain ⟨h3,g4⟩:=Aa h3
     obtain ⟨h3,g3⟩:=Aa h3
     obtain ⟨h3,g2⟩:=Aa h3
     obtain ⟨h3,g1⟩:=Aa h3
     obtain ⟨gc,g0⟩:=Aa h3
     cases ifs with
     | cons _ _=>cases g0
     | nil =>
     have g2:=of_decide_eq_true g2
     subst g2
     obtain ⟨Sc,nd⟩:=Ht C.ct g1
     obtain ⟨n1,n2⟩:=Aj hn
     refine Ky (C.ct.calm gc) Sc (sndI it C.ct (tn:=tnM m) iter n1 g4) (fun i hi=>of_decide_eq_true (aaw.mp g3 i hi)) (fun z=>⟨?_,?_⟩) (CB g5) C.ct.nd hN l1 l2 hsw pins s _ H D I h
     ·exact FL (C.ct.blk nd z) g6
     ·exact (snd elt (C.ct.blk nd z) elt' (fun n m=>(n2 n m).blk) g7).1
    | compX nl fr g it elt =>
     obtain ⟨tg,iter,ifs,rfl,h3⟩:=C9 h3
     obtain ⟨h3,g7⟩:=Aa h3
     obtain ⟨h3,g6⟩:=Aa h3
     obtain ⟨h3,g5⟩:=Aa h3
     obtain ⟨h3,g4⟩:=Aa h3
     obtain ⟨h3,g3⟩:=Aa h3
     obtain ⟨h3,g2⟩:=Aa h3
     obtain ⟨h3,g1⟩:=Aa h3
     obtain ⟨h3,g0⟩:=Aa h3
     obtain ⟨gr,gc⟩:=Aa h3
     cases ifs with
     | cons _ _=>cases g0
     | nil =>
     have g2:=of_decide_eq_true g2
     subst g2
     obtain ⟨Sc,nd⟩:=Ht C.ct g1
     obtain ⟨n1,n2⟩:=Aj hn
     refine Kz (C.ct.calm gc) (C.ct.ph gr) Sc (sndI it C.ct (tn:=tnM m) iter n1 g4) (fun i hi=>of_decide_eq_true (aaw.mp g3 i hi)) (fun z=>⟨?_,?_⟩) (CB g5) C.ct.nd hN l1 l2 hsw pins s _ H D I h
     ·exact FL (C.ct.blkX nd z) g6
     ·exact (snd elt (C.ct.blkX nd z) elt' (fun n m=>(n2 n m).blkX) g7).1
    | mt m _ _=>cases m <;> exact nF h3
    | _=>exact nF h3
  | SetComp _ _ _ _ =>
   cases e with
   | mt m _ _=>cases m <;> exact nF h3
   | _=>exact nF h3
  | DictComp _ _ _ _ _ =>
   cases e with
   | mt m _ _=>cases m <;> exact nF h3
   | _=>exact nF h3
  | _=>exact absurd rfl hc
theorem L3 {ts:List Expr} {k:Nat} {q:Pos} {e':Expr} {env:Env} (h:E5 e'=true):swappedStores [.Tuple ts k q] e' env=pure none:=by
 cases e' <;> first | rfl | cases h
theorem NG (x:Str) (p:Pos):(Expr.Name x p).pos=p:=rfl
theorem L4 {x y:Str} {px py q:Pos} {k:Nat} {e':Expr} {env:Env} (h:env.kindOf x=some .cell\/env.kindOf y=some .cell):swappedStores [.Tuple [.Name x px,.Name y py] k q] e' env=pure none:=by
 cases e' with
 | Tuple vs k2 q2 =>
  have key:([Expr.Name x px,.Name y py].filterMap fun | .Name id pos=>(if env.kindOf id==some .local && pos.line==px.line then some id else none) | _=>none).length ≠ 2:=by
   rcases h with h | h <;> simp only [aa6,List.filterMap_nil,h] <;> simp <;> split <;> simp
  have key2:(([Expr.Name x px,.Name y py].filterMap fun | .Name id pos=>(if env.kindOf id==some .local && pos.line==px.line then some id else none) | _=>none).length != 2)=true:=by simpa using key
  unfold swappedStores
  simp only [aaS,ab2,List.head?_cons,aa3,Option.getD_some,NG,acn,Nat.reduceAdd,key2,aco,if_true,pure_bind]
  split
  ·rfl
  ·split
   ·rfl
   ·exact if_pos (abM.mpr (.inl key2))
 | _=>rfl
theorem NH {c:CkC} {ts:List Expr} {k:Nat} {q:Pos} {e':Expr} {env:Env} (hs:env.scope=c.sc) (h:(E5 e' || IG c ts)=true):swappedStores [.Tuple ts k q] e' env=pure none:=by
 rcases abM.mp h with h | h
 ·exact L3 h
 ·unfold IG at h
  split at h
  ·refine L4 ?_
   rw [abM,beq_iff_eq,beq_iff_eq,<- hs] at h
   exact h
  ·cases h
theorem NI {ts:List Expr} {k:Nat} {q:Pos} {e':Expr} {env:Env} {n:Nat}:swapsWithSole [.Tuple ts k q] e' n env=pure false:=by
 cases e' <;> rfl
theorem L5 (C:Cs Z c lv X E) {xs:List Nat} {e:Pu.E} {ts:List Expr} {k:Nat} {q:Pos} {e':Expr} (hn:∀ n ∈ e.need,NeedOk Z.p lv X n) (h1:ckG c (.tp xs) (.Tuple ts k q)=true) (h2:ckE c e e'=true) (h3:(E5 e' || IG c ts)=true):PS X (.Assign [.Tuple ts k q] e' pos) (lS Z (.asgT xs e)):=by
 intro pins s σ H D I h
 obtain ⟨m,h⟩:=Pv (K:=X.K) h
 exact Qp (snd e C.ct (tn:=tnM m) e' hn h2).1 (FL C.ct h1) NI (NH C.ct.sc h3) rfl pins s σ H D I h
theorem L6 (C:Cs Z c lv X E) {e:Pu.E} {e':Expr} (hn:∀ n ∈ e.need,NeedOk Z.p lv X n) (h1:ckE c e e'=true) (h2:Ea e'=true):PS X (.Expr e' pos) (lS Z (.expr e)):=by
 intro pins s σ H D I h
 obtain ⟨m,h⟩:=Pw h
 exact BF (snd e C.ct (tn:=tnM m) e' hn h1).1 (Ev h2) pins s σ H D I h
theorem FP {p:Px} {EX:EXT} {tn:List Nat} {K:Frag} {u:V->List V->Hp->VK->Prop} {x:Nat} {q:List (Bool × Pu.E)} {σ:L2.St} {H:Hp} {Q:Hp->Prop} (h:lPl p EX tn x q σ H fun v H1=>tyV K "list" v H1/\lEs p EX tn .nil σ H1 fun vs H2=>u v vs H2 fun _ H3=>Q H3) :
  lPl p EX tn x q σ H fun v H1=>tyV K "list" v H1/\u v [] H1 fun _ H3=>Q H3:=by
 obtain ⟨τ,t,is,s,e1,e2,e3,e4,e5,e6,e7,h⟩:=h
 refine ⟨τ,t,is,s,e1,e2,e3,e4,e5,e6,e7,fun H' s'=>?_⟩
 obtain ⟨h1,τ2,rfl,hF,j,k,hj,h2⟩:=h H' s'
 exact ⟨h1,h2 [] H' rfl ⟨Same.refl _,trivial,by simp [T.rests],by simp [T.adrs],by simp [T.Nds,T.adrs]⟩⟩
theorem L7 {x:Nat} {rp:List (Bool × Pu.E)} {o:Expr} {name:Str} {env:Env} (h:FN c x rp o=true):attributeBase o name env (eval o env)=eval o env:=by
 cases rp with
 | nil=>cases o <;> first | rfl | exact nF h
 | cons a r=>obtain ⟨b,e⟩:=a; cases o <;> first | rfl | exact nF h
theorem NJ (C:Cs Z c lv X E) {x:Nat} {q:List (Bool × Pu.E)} {u:Um} {es:Es} {o:Expr} {xs:List Expr} {ap cp:Pos} (n1:∀ n ∈ Eu q,NeedOk Z.p lv X n) (n2:∀ n ∈ es.need,NeedOk Z.p lv X n)
  (h1:FN c x q.reverse o=true) (h2:ckEs c es xs=true) (h3:(ap.endLine==cp.line)=true) (h5:NA u es.len=true):PS X (.Expr (.Call (.Attribute o (IF u) ap) xs [] cp) pos) (lS Z (.mut x q u es)):=by
 intro pins s σ H D I h
 obtain ⟨τ,m,r,rfl,S,hr,h⟩:=h
 have A:PE X o (lPl Z.p Z.EX (tnM m) x q):=by
  have A:=N7 C.ct (tn:=tnM m) (x:=x) (rp:=q.reverse) (o:=o) (fun e he n hn=>n1 n (Jp e (abr.mp he) n hn)) h1
  rwa [List.reverse_reverse] at A
 have hb:∀ name:Str,attributeBase o name X.env (eval o X.env)=eval o X.env:=fun name=>L7 h1
 obtain ⟨st,sl⟩:=Ck h2
 simp only [msS] at hr
 split at hr
 ·rename_i k hmx
  split at hr
  ·rename_i hc
   obtain ⟨c1,c2,c3⟩:=hc
   cases hmv:es.mvOf m with
   | some yk =>
    obtain ⟨y,ky⟩:=yk
    rw [hmv] at hr
    obtain ⟨⟨d1,d2,d3,d4⟩,rfl⟩:=Al hr
    subst d1
    have hq:q=[]:=by cases q with | nil=>rfl | cons _ _=>cases d4
    subst hq
    have hes:es=.cons (.nm y) .nil/\m[y]?=some (.ow ky):=by
     unfold Es.mvOf at hmv
     split at hmv
     ·split at hmv
      ·cases hmv; exact ⟨rfl,‹_›⟩
      ·cases hmv
     ·cases hmv
    obtain ⟨rfl,hmy⟩:=hes
    cases xs with
    | nil=>cases sl
    | cons a xr =>
     cases xr with
     | cons _ _=>cases sl
     | nil =>
      obtain ⟨g,_⟩:=Aa (show (ckE c (.nm y) a && Ai a && ckEs c .nil [])=true from h2)
      obtain ⟨g1,g2⟩:=Aa g
      cases a with
      | Name z pz =>
       obtain ⟨g,g5⟩:=Aa (show ((c.N[y]?==some z) && Bv c.sc z && AB z)=true from g1)
       obtain ⟨g3,g4⟩:=Aa g
       obtain ⟨e1,e2⟩:=AZ g5
       have hv:PE X (.Name z pz) (Dl y):=CN (by rw [C.ct.N]; exact beq_iff_eq.mp g3) (C.ct.vis g4) e1 e2
       refine BF (C8 PySem.F.plainAttrs_list PySem.F.slot_list_append PySem.F.type_list_append CO A (A7 hv BQ rfl) (hb _) rfl h3 rfl rfl) rfl pins s _ H D I ?_
       exact Rm (X:=X) S hmx hmy d2 (by simpa [lnE] using d3) rfl h
      | _=>exact nF g1
   | none =>
    rw [hmv] at hr
    obtain ⟨⟨j1,k1⟩,g1,hr⟩:=bS hr
    obtain ⟨hcc,rfl⟩:=Al hr
    have B:=(sndA es C.ct (tn:=tnM m) xs n2 h2).1
    have M:=Ps (X:=X) C.ct.K S hmx c1 c2 g1 hcc rfl h
    have one:∀ {y:Expr},Ai y=true->((backTo cp (starEach [y] X.env)).all (fun x=>!x.1) && (backToKw cp (keywordEach [] X.env)).all (fun x=>x.1.isSome) && decide ([y].length + ([]:List Keyword).length + (if ([]:List Keyword).isEmpty then 0 else 1) < 30))=true:=by
     intro y hy
     rw [Ad hy]; rfl
    cases u with
    | append =>
     have h5:es.len=1:=of_decide_eq_true h5
     match xs,sl,st with
     | [y],_,st =>
      have hy:Ai y=true:=by simpa using st
      exact BF (C8 PySem.F.plainAttrs_list PySem.F.slot_list_append PySem.F.type_list_append CO A B (hb _) (one hy) h3 (Ad hy) rfl) rfl pins s _ H D I M
     | [],sl,_=>rw [h5] at sl; cases sl
     | _ :: _ :: _,sl,_=>rw [h5] at sl; cases sl
    | extend =>
     have h5:es.len=1:=of_decide_eq_true h5
     match xs,sl,st with
     | [y],_,st =>
      have hy:Ai y=true:=by simpa using st
      exact BF (C8 PySem.F.plainAttrs_list PySem.F.slot_list_extend PySem.F.type_list_extend KG A B (hb _) (one hy) h3 (Ad hy) rfl) rfl pins s _ H D I M
     | [],sl,_=>rw [h5] at sl; cases sl
     | _ :: _ :: _,sl,_=>rw [h5] at sl; cases sl
    | popAt =>
     have h5:es.len=1:=of_decide_eq_true h5
     match xs,sl,st with
     | [y],_,st =>
      have hy:Ai y=true:=by simpa using st
      exact BF (C8 PySem.F.plainAttrs_list PySem.F.slot_list_pop PySem.F.type_list_pop MF A B (hb _) (one hy) h3 (Ad hy) rfl) rfl pins s _ H D I M
     | [],sl,_=>rw [h5] at sl; cases sl
     | _ :: _ :: _,sl,_=>rw [h5] at sl; cases sl
    | insert =>
     have h5:es.len=2:=of_decide_eq_true h5
     match xs,sl,st with
     | [y,y'],_,st =>
      have hy:Ai y=true/\Ai y'=true:=by simpa using st
      exact BF (C8 PySem.F.plainAttrs_list PySem.F.slot_list_insert PySem.F.type_list_insert Lq A B (hb _) (by rw [Ad hy.1,Ad hy.2]; rfl) h3 (Ad hy.1) (by rw [Ad hy.2]; rfl)) rfl pins s _ H D I M
     | [],sl,_=>rw [h5] at sl; cases sl
     | [_],sl,_=>rw [h5] at sl; cases sl
     | _ :: _ :: _ :: _,sl,_=>rw [h5] at sl; cases sl
    | pop =>
     have h5:es.len=0:=of_decide_eq_true h5
     rw [h5] at sl
     cases xs with
     | cons _ _=>cases sl
     | nil =>
      cases es with
      | cons _ _=>cases h5
      | nil =>
       refine BF (HY PySem.F.plainAttrs_list PySem.F.slot_list_pop PySem.F.type_list_pop QF A (hb _) h3) rfl pins s _ H D I ?_
       exact FP M
    | clear =>
     have h5:es.len=0:=of_decide_eq_true h5
     rw [h5] at sl
     cases xs with
     | cons _ _=>cases sl
     | nil =>
      cases es with
      | cons _ _=>cases h5
      | nil =>
       refine BF (HY PySem.F.plainAttrs_list PySem.F.slot_list_clear PySem.F.type_list_clear MG A (hb _) h3) rfl pins s _ H D I ?_
       exact FP M
    | reverse =>
     have h5:es.len=0:=of_decide_eq_true h5
     rw [h5] at sl
     cases xs with
     | cons _ _=>cases sl
     | nil =>
      cases es with
      | cons _ _=>cases h5
      | nil =>
       refine BF (HY PySem.F.plainAttrs_list PySem.F.slot_list_reverse PySem.F.type_list_reverse Kg A (hb _) h3) rfl pins s _ H D I ?_
       exact FP M
  ·cases hr
 ·cases hr
end
section
variable {Z:Zx} {c:CkC} {lv:Nat} {X:Cx} {E:XK} {pos:Pos}
theorem NK (C:Cs Z c lv X E) {e:Pu.E} {e':Expr} (hn:∀ n ∈ e.need,NeedOk Z.p lv X n) (h1:ckE c e e'=true):PS X (.Return (some e') pos) (lS Z (.ret e)):=by
 intro pins s σ H D I h
 rcases Ro h with ⟨i,t,rfl,hs,hq⟩ | ⟨m,h⟩
 ·cases e' with
  | Name y q =>
   obtain ⟨g,h3⟩:=Aa (show ((c.N[i]?==some y) && Bv c.sc y && AB y)=true from h1)
   obtain ⟨h1,h2⟩:=Aa g
   obtain ⟨d1,d2⟩:=AZ h3
   exact HP (CN (by rw [C.ct.N]; exact beq_iff_eq.mp h1) (C.ct.vis h2) d1 d2) pins s σ H D I ⟨_,hs,hq⟩
  | _=>exact nF h1
 ·exact HP (snd e C.ct (tn:=tnM m) e' hn h1).1 pins s σ H D I h
theorem KI (C:Cs Z c lv X E) {n:Nat} {es:Es} {xs:List Expr} {np cp:Pos} (hn:∀ n ∈ es.need,NeedOk Z.p lv X n) (hr:NeedOk Z.p lv X (.rs n)) (h1:glB c.sc (Ar n)=true) (h2:AB (Ar n)=true) (h3:ckEs c es xs=true) (h4:0 < es.len) (h5:es.len<=1000) (hrz:c.rz=true) (hcm:c.cm=true) :
  PS X (.Raise (some (.Call (.Name (Ar n) np) xs [] cp)) none pos) (lS Z (.raise n es)):=by
 intro pins s σ H D I h
 obtain ⟨m,h⟩:=Nw h
 obtain ⟨r1,r2,r3⟩:=hr
 obtain ⟨s1,s2⟩:=Ck h3
 have A:=(sndA es C.ct (tn:=tnM m) xs hn h3).1
 cases xs with
 | nil=>rw [<- s2] at h4; cases h4
 | cons x xr =>
  rw [aaE,aak] at s1
  refine MN (C.xw hrz) (C.ct.calm hcm) (C.ct.gl h1) r2 r3 A (AZ h2).1 (Ad s1.1) (AJ s1.2) pins s σ H D I ?_
  obtain ⟨τ,e,hF,j,k,hj,h⟩:=h
  refine ⟨τ,e,hF,j,k,hj,h.mono (Same.refl _) fun ds _ hd ts H1 ht R=>?_⟩
  obtain ⟨q1,q2⟩:=hd ts H1 ht R
  refine ⟨by rw [q1]; exact aao h5 (by decide),?_⟩
  have:=q2 r1
  rw [C.ex hrz] at this
  exact this
end
section
variable {Z:Zx} {c:CkC} {lv:Nat} {X:Cx} {E:XK} {pos:Pos}
theorem KJ (C:Cs Z c lv X E) {m:Ms} {τ:Ft}:∀ (es:Es) {I:List Nat} (xs:List Expr),(∀ n ∈ es.need,NeedOk Z.p lv X n)->ckEs c es xs=true->PA X xs (lRO Z m τ I es)
 | .nil,I,xs,hn,h=>by
  cases xs with
  | nil =>
   refine PA.mono BQ fun σ H Q h=>?_
   obtain ⟨rfl,S,k,hk,h⟩:=h
   exact h [] H rfl Rw
  | cons _ _=>exact nF h
 | .cons e r,I,xs,hn,h=>by
  cases xs with
  | nil=>exact nF h
  | cons x xs =>
   obtain ⟨h,h3⟩:=Aa (show (ckE c e x && Ai x && ckEs c r xs)=true from h)
   obtain ⟨h1,h2⟩:=Aa h
   obtain ⟨n1,n2⟩:=Aj hn
   cases q:Hv m e with
   | some ik =>
    obtain ⟨i,k⟩:=ik
    obtain ⟨rfl,hm⟩:=Nq q
    cases x with
    | Name y py =>
     obtain ⟨g,g3⟩:=Aa (show ((c.N[i]?==some y) && Bv c.sc y && AB y)=true from h1)
     obtain ⟨g1,g2⟩:=Aa g
     obtain ⟨d1,d2⟩:=AZ g3
     refine PA.mono (A7 (CN (by rw [C.ct.N]; exact beq_iff_eq.mp g1) (C.ct.vis g2) d1 d2) (KJ C (m:=m) (τ:=τ) r (I:=i :: I) xs n2 h3) (Ad h2)) fun σ H Q h=>?_
     obtain ⟨rfl,S,k0,hk,h⟩:=h
     rw [rkT,q] at hk
     simp only at hk
     split at hk
     ·cases hk
     ·rename_i hi
      obtain ⟨k2,hk2,hk⟩:=bS hk
      cases hk
      simp only [evs,ev] at h
      cases q2:get (dτ τ) i with
      | exc c=>unfold get at q2; split at q2 <;> cases q2
      | bad=>rw [q2] at h; exact nE h
      | ok d =>
       obtain ⟨t,ht,rfl⟩:=Cy q2
       rw [q2,Res.bind_ok] at h
       refine ⟨_,B8 ht,rfl,S,k2,hk2,h.bind.mono (Same.refl _) fun ds _ h ts H1 hts R=>?_⟩
       exact h (t :: ts) H1 (by simp [T.dats,hts]) (Rx S ht hm hi R)
    | _=>exact nF h1
   | none =>
    refine PA.mono (A7 (snd e C.ct (tn:=tnM m) x n1 h1).1 (KJ C (m:=m) (τ:=τ) r (I:=I) xs n2 h3) (Ad h2)) fun σ H Q h=>?_
    obtain ⟨rfl,S,k0,hk,h⟩:=h
    rw [rkT,q] at hk
    simp only at hk
    obtain ⟨⟨j1,k1⟩,hj,hk⟩:=bS hk
    split at hk
    ·rename_i hz
     have hz:j1=0:=hz
     subst hz
     obtain ⟨k2,hk2,hk⟩:=bS hk
     cases hk
     simp only [evs] at h
     refine l1 S.ok hj h fun d t H1 ht R h=>?_
     subst ht
     refine ⟨rfl,S.grow R.same,k2,hk2,h.bind.mono R.same fun ds _ h ts H2 hts R2=>?_⟩
     exact h (t :: ts) H2 (by simp [T.dats,hts]) (Ry S R R2)
    ·cases hk
end
section
variable {Z:Zx} {c:CkC} {lv:Nat} {X:Cx} {E:XK} {pos:Pos}
theorem NL (C:Cs Z c lv X E) (hcm:X.calm=true) {b h e:Ss} {n i:Nat} {y:Str} {b' e' hr:List Stmt} {b0:Stmt} {p1 p2:Pos} (nC:NeedOk Z.p lv X (.cl n)) (hi:X.N[i]?=some y) (hl:c.sc.names.lookup y=some .local) (hg:Gl X (Ar n)) (hd:(Ar n==("__debug__" : Str))=false)
  (B:∀ (EX:EXT) (W:WT) (pn:PT0),Dn (CXe X.prog X.w) (X.inT W pn) EX->∀ mx,PSs (X.inT W pn) b' (lSs { Z with EX:=EX,mx:=mx } b)) (S:∀ a mx,PSs (X.inX a) (b0 :: hr) (lSs { Z with EX:=EX0,mx:=mx } h)) (O:PSs X e' (lSs Z e)) :
  PS X (.Try b' [.ExceptHandler (some (.Name (Ar n) p1)) (some y) (b0 :: hr) p2] e' [] pos) (lS Z (.try_ b n i h e)):=by
 intro pins s σ H D I hq
 obtain ⟨mb,mh,q⟩:=Rv (K:=X.K) C.ct.K C.ct.kx nC.1 hq
 have hk:X.env.kindOf y=some .local:=by
  show X.env.scope.names.lookup y=_
  rw [C.ct.sc]; exact hl
 exact QM hcm C.stk C.frm C.ct.nd hi hk hg nC.2 (fun E W pn hp=>B E W pn hp mb) (fun a=>S a mh) O hd pins s σ H D I q
end
section
variable {Z:Zx} {c:CkC} {lv:Nat} {X:Cx} {E:XK} {pos:Pos}
theorem NM (C:Cs Z c lv X E) {x l:Nat} {ix:Pu.E} {st:List Stmt} {f ln:Str} {ix':Expr} (hn:∀ n ∈ ix.need,NeedOk Z.p lv X n) (w0:Du st=some (f,ln,ix'))
  (h:((c.N[x]?==some f) && CA c f && (c.N[l]?==some ln) && Bv c.sc ln && AB ln && Bv c.sc f && AB f && ckE c ix ix' && AA ix')=true):PSs X st (lSs Z (.reps x l ix)):=by
 obtain ⟨h,h9⟩:=Aa h
 obtain ⟨h,h8⟩:=Aa h
 obtain ⟨h,h7⟩:=Aa h
 obtain ⟨h,h6⟩:=Aa h
 obtain ⟨h,h5⟩:=Aa h
 obtain ⟨h,h4⟩:=Aa h
 obtain ⟨h,h3⟩:=Aa h
 obtain ⟨h1,h2⟩:=Aa h
 obtain ⟨p1,p2,p3,p4,p5,p6,p7,p8,p9,p10,p11,p12,p13,p14,p15,p16,p17,p18,p19,p20,p21,p22,p23,ap3,cp3,ap4,cp4,ap5,cp5,j1,j2,j3,j4,j5,j6,j7,j8,rfl,g1,g2,g3⟩:=LZ w0
 have hN:X.N[x]?=some f:=by rw [C.ct.N]; exact beq_iff_eq.mp h1
 have hL:X.N[l]?=some ln:=by rw [C.ct.N]; exact beq_iff_eq.mp h3
 obtain ⟨l1,l2⟩:=C.ct.loc h2
 obtain ⟨d1,d2⟩:=AZ h5
 obtain ⟨d3,d4⟩:=AZ h7
 have vl:∀ {q:Pos},PE X (.Name ln q) (Dl l):=fun {q}=>CN hL (C.ct.vis h4) d1 d2
 have vx:∀ {q:Pos},PE X (.Name f q) (Dl x):=fun {q}=>CN hN (C.ct.vis h6) d3 d4
 intro pins s σ H D I q
 obtain ⟨m,q⟩:=PB (X:=X) q
 refine OH C.ct.nd hN l1 (OG (MZ (QY Ej vl) (Em (PE.k (J4 Ej HM vl)) (Em (Gx vl rfl g1 (by decide) (by decide)) (Em (Gx vl rfl g2 (by decide) (by decide)) JB))))) (Ev rfl) l2
  (QZ Fc (QX JD vx (OF (Em (Gx vl rfl g3 (by decide) (by decide)) JB))) (snd ix C.ct (tn:=tnM (m.set x .dead)) ix' hn h8).1 (CP h9)) pins s σ H D I q
end
mutual
theorem TY {Z:Zx} {c:CkC} {lv:Nat} {X:Cx} {E:XK} (C:Cs Z c lv X E):∀ (s:S) (st:Stmt),(∀ n ∈ s.need,NeedOk Z.p lv X n)->ckS c s st=true->PS X st (lS Z s)
 | .asg x k e,st,hn,h=>by
  cases st with
  | Assign ts e' q =>
   match ts,h with
   | [t],h =>
    cases t with
    | Name y py =>
     obtain ⟨h,h3⟩:=Aa (show ((c.N[x]?==some y) && CA c y && ckE c e e')=true from h)
     obtain ⟨h1,h2⟩:=Aa h
     exact NF C hn h1 h2 h3
    | _=>exact nF h
   | [],h=>exact nF h
   | t :: _ :: _,h=>cases t <;> exact nF h
  | _=>exact nF h
 | .dem _ _,st,hn,h=>by cases st <;> exact nF h
 | .dead _,st,hn,h=>by cases st <;> exact nF h
 | .asgT xs e,st,hn,h=>by
  cases st with
  | Assign ts e' q =>
   match ts,h with
   | [t],h =>
    cases t with
    | Tuple es k py =>
     obtain ⟨h,h3⟩:=Aa (show (ckG c (.tp xs) (.Tuple es k py) && ckE c e e' && (E5 e' || IG c es))=true from h)
     obtain ⟨h1,h2⟩:=Aa h
     exact L5 C hn h1 h2 h3
    | _=>exact nF h
   | [],h=>exact nF h
   | t :: _ :: _,h=>cases t <;> exact nF h
  | _=>exact nF h
 | .mut x q u es,st,hn,h=>by
  cases st with
  | Expr v q2 =>
   cases v with
   | Call f xs ks cp =>
    cases f with
    | Attribute o name ap =>
     cases ks with
     | nil =>
      obtain ⟨h,h8⟩:=Aa (show (FN c x q.reverse o && (name==IF u) && ckEs c es xs && (ap.endLine==cp.line) && IH o && decide (es.len < 20) && NA u es.len)=true from h)
      obtain ⟨h,h7⟩:=Aa h
      obtain ⟨h,h5⟩:=Aa h
      obtain ⟨h,h4⟩:=Aa h
      obtain ⟨h,h3⟩:=Aa h
      obtain ⟨h1,h2⟩:=Aa h
      cases beq_iff_eq.mp h2
      obtain ⟨n1,n2⟩:=Aj hn
      exact NJ C n1 n2 h1 h3 h4 h8
     | cons _ _=>exact nF h
    | _=>exact nF h
   | _=>exact nF h
  | _=>exact nF h
 | .expr e,st,hn,h=>by
  cases st with
  | Expr v q2 =>
   obtain ⟨h1,h2⟩:=Aa (show (ckE c e v && Ea v)=true from h)
   exact L6 C hn h1 h2
  | _=>exact nF h
 | .iff t a b,st,hn,h=>by
  cases st with
  | If t' a' b' q =>
   obtain ⟨h,h4⟩:=Aa (show (ckE c t t' && t.tst && ckSs c a a' && ckSs c b b')=true from h)
   obtain ⟨h,h3⟩:=Aa h
   obtain ⟨h1,h2⟩:=Aa h
   obtain ⟨n1,n2⟩:=Aj hn
   obtain ⟨n2,n3⟩:=Aj n2
   intro pins s σ H D I h
   obtain ⟨m,h⟩:=Rp h
   exact Si ((snd t C.ct (tn:=tnM m) t' n1 h1).2 h2) (sndSs C a a' n2 h3) (sndSs C b b' n3 h4) pins s σ H D I h
  | _=>exact nF h
 | .wh t b,st,hn,h=>by
  cases st with
  | While t' b' el q =>
   cases el with
   | nil =>
    obtain ⟨h,hrz⟩:=Aa (show (ckE c t t' && t.tst && ckSs c b b' && c.rz)=true from h)
    obtain ⟨h,h3⟩:=Aa h
    obtain ⟨h1,h2⟩:=Aa h
    obtain ⟨n1,n2⟩:=Aj hn
    intro pins s σ H D I h
    obtain ⟨m,h⟩:=SM h
    exact Mx (C.po hrz) ((snd t C.ct (tn:=tnM m) t' n1 h1).2 h2) (sndSs C b b' n2 h3) pins s σ H D I h
   | cons _ _=>exact nF h
  | _=>exact nF h
 | .for_ g it b,st,hn,h=>by
  cases st with
  | For tg it' b' el q =>
   cases el with
   | nil =>
    obtain ⟨h,hcm⟩:=Aa (show (ckG c g tg && ckI c tg it it' && BX it' && ckSs c b b' && c.rz && c.cm)=true from h)
    obtain ⟨h,hrz⟩:=Aa h
    obtain ⟨h,h4⟩:=Aa h
    obtain ⟨h,h3⟩:=Aa h
    obtain ⟨h1,h2⟩:=Aa h
    obtain ⟨n1,n2⟩:=Aj hn
    have B:=sndSs C b b' n2 h4
    intro pins s σ H D I h
    rcases Rt (K:=X.K) (X:=X) h with ⟨m,h⟩ | ⟨x,rfl,v,a,xs,e1,rfl,sq,hW⟩
    ·exact K7 (C.po hrz) (C.ct.calm hcm) (sndI it C.ct (tn:=tnM m) it' n1 h2) (FL C.ct h1) B (CB h3) pins s σ H D I h
    ·cases it' with
     | Name y q' =>
      obtain ⟨g,g3⟩:=Aa (show ((c.N[x]?==some y) && Bv c.sc y && AB y)=true from h2)
      obtain ⟨g1,g2⟩:=Aa g
      obtain ⟨d1,d2⟩:=AZ g3
      refine K7 (C.po hrz) (C.ct.calm hcm) (Ir (CN (by rw [C.ct.N]; exact beq_iff_eq.mp g1) (C.ct.vis g2) d1 d2)) (FL C.ct h1) B (CB h3) pins s σ H D I ?_
      exact ⟨_,e1,a,rfl,.inl ⟨xs,sq,hW C.ct.K⟩⟩
     | _=>exact nF h2
   | cons _ _=>exact nF h
  | _=>exact nF h
 | .ret e,st,hn,h=>by
  cases st with
  | Return v q =>
   cases v with
   | some e'=>exact NK C hn h
   | none=>exact nF h
  | _=>exact nF h
 | .retL es,st,hn,h=>by
  cases st with
  | Return v q =>
   cases v with
   | none=>exact nF h
   | some e' =>
    cases e' with
    | List xs p2 =>
     obtain ⟨h1,h2⟩:=Aa (show (ckEs c es xs && decide (es.len<=1000))=true from h)
     intro pins s σ H D I hq
     obtain ⟨m,τ,hq⟩:=Pz (of_decide_eq_true h2) hq
     exact HP (Le (KJ C es xs hn h1)) pins s σ H D I hq
    | _=>exact nF h
  | _=>exact nF h
 | .raise n es,st,hn,h=>by
  cases st with
  | Raise v w q =>
   cases v with
   | none=>exact nF h
   | some v =>
    cases v with
    | Call f xs ks cp =>
     cases f with
     | Name x np =>
      cases ks with
      | nil =>
       cases w with
       | none =>
        obtain ⟨h,hcm⟩:=Aa (show ((x==Ar n) && glB c.sc x && AB x && ckEs c es xs && decide (0 < es.len) && decide (es.len<=1000) && c.rz && c.cm)=true from h)
        obtain ⟨h,hrz⟩:=Aa h
        obtain ⟨h,h6⟩:=Aa h
        obtain ⟨h,h5⟩:=Aa h
        obtain ⟨h,h4⟩:=Aa h
        obtain ⟨h,h3⟩:=Aa h
        obtain ⟨h1,h2⟩:=Aa h
        cases beq_iff_eq.mp h1
        exact KI C (fun n m=>hn n (aaa _ m)) (hn _ (aab ..)) h2 h3 h4 (of_decide_eq_true h5) (of_decide_eq_true h6) hrz hcm
       | some _=>exact nF h
      | cons _ _=>exact nF h
     | _=>exact nF h
    | _=>exact nF h
  | _=>exact nF h
 | .try_ b n i h e,st,hn,hck=>by
  cases st with
  | Try b' hs e' fin q =>
   have hck:(match II hs fin with
    | some (x,y,h')=>(x==Ar n) && glB c.sc x && AB x && (c.N[i]?==some y) && (c.sc.names.lookup y==some .local) && c.rz && c.cm && !h'.isEmpty && ckSs { c with rz:=false } b b' && ckSs { c with rz:=false,cm:=false } h h' && ckSs c e e'
    | none=>false)=true:=hck
   cases hh:II hs fin with
   | none=>rw [hh] at hck; cases hck
   | some w =>
    obtain ⟨x,y,h'⟩:=w
    rw [hh] at hck
    obtain ⟨p1,p2,rfl,rfl⟩:=PD hh
    obtain ⟨hck,g10⟩:=Aa hck
    obtain ⟨hck,g9⟩:=Aa hck
    obtain ⟨hck,g8⟩:=Aa hck
    obtain ⟨hck,g7⟩:=Aa hck
    obtain ⟨hck,gcm⟩:=Aa hck
    obtain ⟨hck,g6⟩:=Aa hck
    obtain ⟨hck,g5⟩:=Aa hck
    obtain ⟨hck,g4⟩:=Aa hck
    obtain ⟨hck,g3⟩:=Aa hck
    obtain ⟨g1,g2⟩:=Aa hck
    cases beq_iff_eq.mp g1
    have nC:NeedOk Z.p lv X (.cl n):=hn _ (aab ..)
    have hn':∀ k ∈ b.need ++ (h.need ++ e.need),NeedOk Z.p lv X k:=fun k m=>hn k (aaa _ m)
    obtain ⟨n1,n2⟩:=Aj hn'
    obtain ⟨n2,n3⟩:=Aj n2
    cases h' with
    | nil=>cases g7
    | cons b0 hr =>
     refine NL C (C.ct.calm gcm) nC (by rw [C.ct.N]; exact beq_iff_eq.mp g4) (beq_iff_eq.mp g5) (C.ct.gl g2) (AZ g3).1 (fun EX W pn hp mx=>?_) (fun a mx=>?_) (sndSs C e e' n3 g10)
     ·exact sndSs (Z:={ Z with EX:=EX,mx:=_ }) (c:={ c with rz:=false }) (X:=X.inT W pn) (E:=E) ⟨⟨C.ct.K,C.ct.N,C.ct.sc,C.ct.nd,C.ct.calm,C.ct.room,C.ct.un,C.ct.blt,C.ct.bt,hp,C.ct.fn,C.ct.kx,(fun z=>nomatch z)⟩,(fun z=>nomatch z),(fun z=>nomatch z),(fun z=>nomatch z),C.kind,C.stk,C.frm⟩ b b' n1 g8
     ·refine sndSs (Z:={ Z with EX:=EX0,mx:=_ }) (c:={ c with rz:=false,cm:=false }) (X:=X.inX a) (E:=E) ⟨⟨C.ct.K,C.ct.N,C.ct.sc,C.ct.nd,(fun z=>nomatch z),(fun z=>nomatch z),C.ct.un,C.ct.blt,C.ct.bt,?_,C.ct.fn,C.ct.kx,(fun z=>nomatch z)⟩,(fun z=>nomatch z),(fun z=>nomatch z),(fun z=>nomatch z),C.kind,C.stk,C.frm⟩ h (b0 :: hr) n2 g9
      intro _ _ _ _ _ _ _ hx
      obtain ⟨_,_,_,_,_,_,_,_,_,_,_,_,_,_,_,_,_,_,z⟩:=hx
      exact z.elim
  | _=>exact nF hck
theorem sndSs {Z:Zx} {c:CkC} {lv:Nat} {X:Cx} {E:XK} (C:Cs Z c lv X E):∀ (s:Ss) (st:List Stmt),(∀ n ∈ s.need,NeedOk Z.p lv X n)->ckSs c s st=true->PSs X st (lSs Z s)
 | .nil,st,hn,h=>by
  cases st with
  | nil=>exact fun pins s σ H D I h=>Ol pins s σ H D I (Rr h)
  | cons _ _=>exact nF h
 | .cons s r,st,hn,h=>by
  obtain ⟨n1,n2⟩:=Aj hn
  have skip:(∃ x k,s=.dem x k)\/(∃ x,s=.dead x)->ckSs c r st=true->PSs X st (lSs Z (.cons s r)):=fun hs h=>PSs.mono (sndSs C r st n2 h) fun D σ H q=>Py hs q
  by_cases hd:(∃ x k,s=.dem x k)\/(∃ x,s=.dead x)
  ·refine skip hd ?_
   rcases hd with ⟨x,k,rfl⟩ | ⟨x,rfl⟩
   ·exact h
   ·exact h
  ·cases st with
   | nil=>cases s <;> first | exact nF h | exact absurd (.inl ⟨_,_,rfl⟩) hd | exact absurd (.inr ⟨_,rfl⟩) hd
   | cons x xs =>
    have h:(ckS c s x && ckSs c r xs)=true:=by
     cases s <;> first | exact h | exact absurd (.inl ⟨_,_,rfl⟩) hd | exact absurd (.inr ⟨_,rfl⟩) hd
    obtain ⟨h1,h2⟩:=Aa h
    exact PSs.mono (Mu (TY C s x n1 h1) (sndSs C r xs n2 h2)) fun D σ H q=>Rq q
 | .reps x l ix,st,hn,h=>by
  cases w0:Du st with
  | none =>
   have h:(match Du st with | some (f,ln,ix')=>(c.N[x]?==some f) && CA c f && (c.N[l]?==some ln) && Bv c.sc ln && AB ln && Bv c.sc f && AB f && ckE c ix ix' && AA ix' | none=>false)=true:=by
    cases st <;> exact h
   rw [w0] at h; cases h
  | some w =>
   obtain ⟨f,ln,ix'⟩:=w
   have h:(match Du st with | some (f,ln,ix')=>(c.N[x]?==some f) && CA c f && (c.N[l]?==some ln) && Bv c.sc ln && AB ln && Bv c.sc f && AB f && ckE c ix ix' && AA ix' | none=>false)=true:=by
    cases st <;> exact h
   rw [w0] at h
   exact NM C hn w0 h
end
structure Lw where
 p:Px
 P:Program
 w:World
 mg:Str->Option Value
 base:Heap
structure Lw.Ok (L:Lw):Prop where
 blt:∀ y ∈ EZ,L.mg y=none
 bt:∀ y ∈ (["bool", "dict", "ValueError"]:List Str),L.mg y=none
 kx:Kx L.p
noncomputable def NN (L:Lw) (F:Fn):Prop:=∃ ps:List Str,ps.length=F.ar/\Has L.P L.w L.p.K L.mg L.base F.name F.lv ps (spF L.p F)
noncomputable def SO (L:Lw) (F:Fn):Prop:=∃ ps:List Str,ps.length=F.ar/\Has L.P L.w L.p.K L.mg L.base F.name F.lv ps (spM L.p F)
noncomputable def NeedG (L:Lw) (lv:Nat):Nd1->Prop
 | .fn F=>F.lv<=lv/\NN L F
 | .fm F=>F.lv<=lv/\SO L F
 | .cl n=>L.p.has n=true/\L.mg (Ar n)=some (.ref (L.p.cl n))
 | .rs n=>L.p.has n=true/\nsIn L.p.K mainGlobals (Ar n)=some (some (.ref (L.p.cl n)))/\excIn L.p.K (L.p.cl n) Gu "ValueError.__new__" = true
 | .gl x d=>∃ u,L.mg x=some u/\RelV (dT d).val u
noncomputable def AllN (f:Nd1->Prop):List Nd1->Prop
 | []=>True
 | n :: r=>f n/\AllN f r
theorem AllN.mem {f:Nd1->Prop}:∀ {l:List Nd1},AllN f l->∀ n ∈ l,f n
 | [],_,n,h=>by cases h
 | m :: r,h,n,hn=>by
  rcases aah.mp hn with rfl | hn
  ·exact h.1
  ·exact AllN.mem h.2 n hn
noncomputable def AX (name:Str) (ar lv dep n:Nat) (body:Ss):Fn:=⟨name,ar,lv,dep,fun ds=>if ds.length=ar then run n body ds else .bad⟩
theorem AS {x:Str} {ar lv dep n:Nat} {b:Ss} {ds:List D} (h:ds.length=ar):(AX x ar lv dep n b).den ds=run n b ds:=if_pos h
noncomputable def m0 (ar n:Nat):Ms:=aaf ar .sh ++ aaf (n - ar) .dead
noncomputable def τ0 (n:Nat) (ts:List T):Ft:=ts.map some ++ aaf (n - ts.length) none
theorem vτ0 (N:List Str) (ts:List T):vτ (τ0 N.length ts)=L2.Au N (ts.map T.val):=by
 unfold vτ τ0 L2.Au
 rw [aan,aaH,aaH,abf,aae]
 rfl
theorem dτ0 (n:Nat) (ts:List T):dτ (τ0 n ts)=Pu.Au n (T.dats ts):=by
 unfold dτ τ0 Pu.Au
 rw [aan,aaH,T.dats_map,aaH,abf,aae]
 rfl
theorem IM {ar n i:Nat} {d:Md} (h:(m0 ar n)[i]?=some d):(i < ar/\d=.sh)\/(ar<=i/\d=.dead):=by
 unfold m0 at h
 by_cases hi:i < ar
 ·rw [aaK (by simpa using hi),aaO,if_pos hi] at h
  exact .inl ⟨hi,(Option.some.inj h).symm⟩
 ·rw [aaI (by simpa using hi),aaO] at h
  split at h
  ·exact .inr ⟨aa4 hi,(Option.some.inj h).symm⟩
  ·cases h
theorem JW {n i:Nat} {ts:List T} {t:T} (h:(τ0 n ts)[i]?=some (some t)):t ∈ ts:=by
 unfold τ0 at h
 have:=aai h
 rw [aac] at this
 rcases this with z | z
 ·obtain ⟨u,hu,e⟩:=aaG.mp z
  cases e; exact hu
 ·have:=(abz.mp z).2; cases this
theorem JX {p:Px} {H:Hp}:∀ {ts:List T},T.Oks p H ts->∀ t ∈ ts,t.Ok p H
 | [],_,t,h=>by cases h
 | u :: r,h,t,ht=>by
  rcases aah.mp ht with rfl | ht
  ·exact h.1
  ·exact JX h.2 t ht
theorem sf0 {p:Px} {H:Hp} {ts:List T} {n ar:Nat} (ok:T.Oks p H ts) (hl:ts.length=ar) (hn:ar<=n):Sf p H (fun a=>a ∈ T.rests ts 0) (m0 ar n) (τ0 n ts) H:=by
 have noOw:∀ {i k:Nat},(m0 ar n)[i]? ≠ some (.ow k):=fun {i k} h=>by
  rcases IM h with ⟨_,z⟩ | ⟨_,z⟩ <;> cases z
 refine ⟨?_,fun d hd=>?_,Same.refl _,fun i t j h1 h2 h3=>JX ok t (JW h1),fun i t k a h1 h2=>absurd h2 noOw,?_,fun i t k h1 h2=>absurd h2 noOw,fun i j t u k d h0 h1 h2=>absurd h2 noOw,fun i j t u k k2 h1 h2=>absurd h2 noOw⟩
 ·unfold τ0 m0
  simp [hl]
 ·obtain ⟨i,hi⟩:=abH hd
  rcases IM hi with ⟨_,rfl⟩ | ⟨_,rfl⟩ <;> rfl
 ·rintro a ⟨i,t,j,h1,h2,h3,h4⟩
  obtain ⟨d,h5,rfl⟩:=AC h2
  right
  refine T.mem_rests.mpr ⟨t,JW h1,?_⟩
  rcases IM h5 with ⟨_,rfl⟩ | ⟨_,rfl⟩
  ·exact h4
  ·exact absurd h3 (by decide)
theorem NeedG.to {L:Lw} {lv:Nat} {n:Nd1} (h:NeedG L lv n) {X:Cx} (e1:X.prog=L.P) (e2:X.w=L.w) (e3:X.K=L.p.K) (e4:X.mg=L.mg) (e5:X.base=L.base):NeedOk L.p lv X n:=by
 cases n with
 | fn F =>
  refine ⟨h.1,?_⟩
  unfold Nb
  rw [e1,e2,e3,e4,e5]
  exact h.2
 | fm F =>
  refine ⟨h.1,?_⟩
  unfold Rc
  rw [e1,e2,e3,e4,e5]
  exact h.2
 | cl n=>show _/\_; rw [e4]; exact h
 | rs n=>show _/\_/\_; rw [e3]; exact h
 | gl x d=>show ∃ u,_; rw [e4]; exact h
theorem L8 {L:Lw} (O:L.Ok) {x:Str} {st:Stmt} {N ps:List Str} {ar lv dep:Nat} {body:Ss} {f:Addr} {fd:FuncData} (D:Fun L.p.K x x st f fd) (S:FnScope N ps (Ah st)) (har:ps.length=ar)
  (hck:ckSs ⟨N,Ah st,true,true,true⟩ body (Ax st)=true) (hms:(msSs (aaf N.length .dead) dep body (m0 ar N.length)).isSome=true) (hn:AllN (NeedG L lv) body.need):FnOk L.P L.w L.p.K L.mg L.base (CXe L.P L.w) (lv + 1) f fd ps (spF L.p (AX x ar (lv + 1) dep N.length body)):=by
 have hpl:ps.length<=N.length:=by have:=congrArg aaM S.pre; rw [aaQ] at this; omega
 refine Fun.okX D S (fun vs H Q E h=>?_) fun f cdv A outer s H vs Q E hr hsp=>?_
 ·obtain ⟨ts,rfl,_,h,_⟩:=h
  rw [aae,h]; exact har.symm
 ·obtain ⟨ts,rfl,ok,hl,h⟩:=hsp
  have hl:ts.length=ar:=hl
  obtain ⟨r,hr'⟩:=aaB.mp hms
  let Z:Zx:=⟨L.p,H,fun a=>a ∈ T.rests ts 0,fun _=>E,aaf N.length .dead,dep⟩
  have C:Cs Z ⟨N,Ah st,true,true,true⟩ lv (AM (CXe L.P L.w) L.P L.w L.p.K L.mg L.base N x (Ah st) f cdv A outer s H E) E:=by
   refine ⟨⟨rfl,rfl,rfl,S.nd,fun _=>rfl,fun _=>hr,hr.units,O.blt,O.bt,?_,fun _ _=>rfl,O.kx,fun _=>⟨QW fun _ _ _ h=>h,rfl,rfl⟩⟩,fun _=>rfl,fun _=>MM fun _ _ _ h=>h,fun _=>PassesOwn.leaving,S.kind,rfl,rfl⟩
   intro pins σ H' s' e s'' I h
   exact Sv (fun _ _ _ h=>h) pins σ H' s' e s'' I h
  refine ⟨_,sndSs C body (Ax st) (fun n hnm=>(hn.mem n hnm).to rfl rfl rfl rfl rfl) hck,τ0 N.length ts,m0 ar N.length,r,(vτ0 N ts).symm,sf0 ok hl (by omega),hr',?_⟩
  have h:match (if (T.dats ts).length=ar then run N.length body (T.dats ts) else .bad) with
   | .ok d=>∀ t H',t.dat=d->Rs L.p (fun a=>a ∈ T.rests ts 0) H H' 0 dep t->Q t.val H'
   | .exc c=>L.p.has c=true->∀ H',Same H H'->E (.ref (L.p.cl c)) none H'
   | .bad=>False:=h
  rw [if_pos (by rw [T.dats_map,aae]; exact hl)] at h
  unfold run at h
  rw [dτ0]
  cases q:exs body (Pu.Au N.length (T.dats ts)) with
  | nxt δ =>
   rw [q] at h
   intro m' τ' H' e1 e2 S' P'
   exact h .non H' rfl (Rs.scal S'.same rfl)
  | ret d =>
   rw [q] at h
   exact h
  | exc c δ =>
   rw [q] at h
   intro hc τ' H' e S' P'
   exact h hc H' S'.same
  | bad=>rw [q] at h; exact h.elim
theorem PM {L:Lw} (O:L.Ok) {x:Str} {st:Stmt} {N ps:List Str} {ar lv dep:Nat} {body:Ss} (D:Df L.p.K L.mg x st ps) (S:FnScope N ps (Ah st)) (har:ps.length=ar)
  (hck:ckSs ⟨N,Ah st,true,true,true⟩ body (Ax st)=true) (hms:(msSs (aaf N.length .dead) dep body (m0 ar N.length)).isSome=true) (hn:AllN (NeedG L lv) body.need):NN L (AX x ar (lv + 1) dep N.length body):=by
 obtain ⟨f,fd,F,m,b⟩:=D
 exact ⟨ps,har,f,fd,L8 O F S har hck hms hn,m,F.kp,b⟩
noncomputable def TZ:Value->Bool
 | .type x=>x == "list"
 | _=>false
noncomputable def noL (K:Frag):Bool:=K.all fun e=>!TZ e.2.cls
theorem L9 {a:Addr} {o:Obj}:∀ {K:Frag},K.lookup a=some o->(a,o) ∈ K
 | [],h=>by cases h
 | (b,u) :: r,h=>by
  by_cases e:a=b
  ·subst e
   rw [List.lookup_cons_self] at h
   cases h
   exact aab
  ·have:(a==b)=false:=by simpa using e
   rw [List.lookup_cons,this] at h
   exact aaa _ (L9 h)
theorem RG {K:Frag} (h:noL K=true) {a:Addr} {o:Obj} (e:K.lookup a=some o):o.cls ≠ .type "list" := fun z=>by
 have:=aaw.mp h (a,o) (L9 e)
 rw [z] at this
 cases this
noncomputable def spL (K:Frag):Sp:=fun vs H Q E=>∃ (a:Addr) (ns:List Int),vs=[.ref a]/\ns.length<=63/\SqL K H a (ns.map V.int)/\∀ H',Q (.bl true) H'
theorem IN:∀ ns:List Int,(ns.map T.int).map T.val=ns.map V.int
 | []=>rfl
 | n :: r=>by rw [aar,aar,aar,IN r]; rfl
theorem IO:∀ ns:List Int,T.dats (ns.map T.int)=ns.map D.int
 | []=>rfl
 | n :: r=>by rw [aar,aar,T.dats,IO r]; rfl
theorem JY {p:Px} {H:Hp}:∀ ns:List Int,T.Oks p H (ns.map T.int)
 | []=>trivial
 | n :: r=>⟨trivial,JY r⟩
theorem RH {P:Program} {w:World} {K:Frag} {mg:Str->Option Value} {base:Heap} {p:Px} {F:Fn} {f:Addr} {fd:FuncData} {ps:List Str} (hF:FnOk P w K mg base (CXe P w) F.lv f fd ps (spF p F)) (hp:p.K=K) (ha:F.ar=1) (hK:noL K=true)
  (hd:∀ ns:List Int,ns.length<=63->F.den [.lst (ns.map .int)]=.ok (.bl true)):FnOk P w K mg base (CXe P w) F.lv f fd ps (spL K):=by
 refine hF.imp fun vs H Q E h=>?_
 obtain ⟨a,ns,rfl,hl,hS,q⟩:=h
 have hR:Rd H a (.lst (ns.map V.int)):=by
  rcases hS with h | ⟨o,its,n,e,c,_⟩
  ·exact h
  ·exact absurd c (RG hK e)
 refine ⟨[.lst a (ns.map T.int)],rfl,⟨⟨by rw [IN]; exact hR,JY ns⟩,trivial⟩,ha.symm,?_⟩
 have e:T.dats [T.lst a (ns.map T.int)]=[.lst (ns.map .int)]:=by
  show [D.lst (T.dats (ns.map T.int))]=_
  rw [IO]
 rw [e,hd ns hl]
 intro t H' ht R
 cases t <;> first | cases ht | skip
 exact q H'
theorem SQ {l:PySem.W.OpenLaw} {k:Nat} {q:Program} {loose:List Str} {XP:(Str->Option Value)->Heap->Prop} {YP:World->Heap->Prop} {d:DefRec} {K:Params->PySem.W.Frag} {x:Str} (hn:l.most=some 63) (hdf:d.params.defaults=[]) (hr:Room k callerA)
  (hY:∀ (w:World) (h:Heap),YP w h->(K w.params).In h)
  (F:∀ (w:World) (mg:Str->Option Value) (fa:Addr) (h:Heap),(K w.params).In h->h.Ns mainGlobals mg->mg d.name=some (.ref fa) ->
   ∃ fd:FuncData,(∀ (s:Shared) (u:Value),BindsTo s fd ⟨[u],[]⟩ [(x,u)])/\∀ base:Heap,(K w.params).In base->base.Ns mainGlobals mg->FnOk l.prog w (K w.params) mg base (CXe l.prog w) k fa fd [x] (spL (K w.params))) :
  PySem.W.WalkO q loose XP YP l.row.toRowW d [] (fun f vs=>PySem.call f vs) :=
 L2.Ou (n:=63) (k:=k) (x:=x) (CX:=fun w=>CXe l.prog w) (sp:=fun w=>spL (K w.params)) hn (by decide) hdf hr hY F (fun _ _ a ns hl _ hS=>⟨a,ns,rfl,hl,hS,fun _=>rfl⟩) fun w H s e s' h=>by
  obtain ⟨_,_,_,_,_,_,_,_,_,_,_,_,_,_,_,_,_,_,z⟩:=h
  exact z
noncomputable def Bj (K:Frag) (x:Str) (st:Stmt):Prop:=∃ (f:Addr) (oc:Value) (od an:Option Addr) (sl:Array (Option Value)) (kV dc pm cd ct:Value),nsIn K mainGlobals x=some (some (.ref f))/\K.lookup f=some ⟨oc,od,.func (fnOf x x (Bs st) (Ax st) (Ah st) .none kV dc pm an cd ct),sl⟩/\codeIn K cd x=true/\keepIn K (.ref f)=true
theorem BP {K:Frag} {x:Str} {st:Stmt} {f:Addr} {oc:Value} {od an:Option Addr} {sl:Array (Option Value)} {kV dc pm cd ct:Value} (a:nsIn K mainGlobals x=some (some (.ref f))) (l:K.lookup f=some ⟨oc,od,.func (fnOf x x (Bs st) (Ax st) (Ah st) .none kV dc pm an cd ct),sl⟩) (c:codeIn K cd x=true) (k:keepIn K (.ref f)=true):Bj K x st:=⟨f,oc,od,an,sl,kV,dc,pm,cd,ct,a,l,c,k⟩
theorem AT {K:Frag} {h:Heap} {mg:Str->Option Value} {x:Str} {st:Stmt} {ps:List Str} (X:K.In h) (G:h.Ns mainGlobals mg) (t:Bj K x st) (hb:∀ (kV doc pm:Value) (an:Option Addr) (cdv ct:Value) (us:List Value),us.length=ps.length->bindArgs (fnOf x x (Bs st) (Ax st) (Ah st) .none kV doc pm an cdv ct) ⟨us,[]⟩=pure (ps.zip us)):Df K mg x st ps:=by
 obtain ⟨f,oc,od,an,sl,kV,dc,pm,cd,ct,a,l,c,k⟩:=t
 exact Sx X G a l c k hb
theorem ba1 {fd:FuncData} {a0:Str} (h:∀ u0:Value,bindArgs fd ⟨[u0],[]⟩=pure [(a0,u0)]):∀ us:List Value,us.length=([a0]:List Str).length->bindArgs fd ⟨us,[]⟩=pure (([a0]:List Str).zip us)
 | [u0],_=>h u0
theorem ba2 {fd:FuncData} {a0 a1:Str} (h:∀ u0 u1:Value,bindArgs fd ⟨[u0,u1],[]⟩=pure [(a0,u0),(a1,u1)]):∀ us:List Value,us.length=([a0,a1]:List Str).length->bindArgs fd ⟨us,[]⟩=pure (([a0,a1]:List Str).zip us)
 | [u0,u1],_=>h u0 u1
theorem ba3 {fd:FuncData} {a0 a1 a2:Str} (h:∀ u0 u1 u2:Value,bindArgs fd ⟨[u0,u1,u2],[]⟩=pure [(a0,u0),(a1,u1),(a2,u2)]):∀ us:List Value,us.length=([a0,a1,a2]:List Str).length->bindArgs fd ⟨us,[]⟩=pure (([a0,a1,a2]:List Str).zip us)
 | [u0,u1,u2],_=>h u0 u1 u2
structure ClsF (K:Frag) (x:Str) (C:Addr):Prop where
 q:nsIn K mainGlobals x=some (some (.ref C))
 x:XCls K C
 t:∀ T ∈ (["int", "bool", "str", "list", "tuple", "dict"]:List String),kitOne K (.ref C) (.type T)=some false
 v:kitOne K (.ref C) (.type "ValueError")=some true
theorem KK {K:Frag} {x:Str} {C:Addr} {cd:ClassData} (q:nsIn K mainGlobals x=some (some (.ref C)))
  (ga:findIn K (.ref C) "__getattribute__" = some (some (.builtin "BaseException.__getattribute__"))) (gn:findIn K (.ref C) "__getattr__" = some none) (sb:subIn K (.ref C) (.type "BaseException")=some true)
  (cl:findIn K (.ref C) "__class__" = some (some (.builtin "object.__class__"))) (mo:mroIn K C (.type "object")=some true) (ty:typeIn K (.ref C)=some (.type "type")) (cc:clsIn K C=some cd)
  (t1:kitOne K (.ref C) (.type "int")=some false) (t2:kitOne K (.ref C) (.type "bool")=some false) (t3:kitOne K (.ref C) (.type "str")=some false) (t4:kitOne K (.ref C) (.type "list")=some false) (t5:kitOne K (.ref C) (.type "tuple")=some false) (t6:kitOne K (.ref C) (.type "dict")=some false)
  (v:kitOne K (.ref C) (.type "ValueError")=some true):ClsF K x C:=by
 refine ⟨q,⟨ga,gn,sb,cl,mo,ty,by rw [cc]; rfl⟩,fun T hT=>?_,v⟩
 simp only [aah,abd,or_false] at hT
 rcases hT with rfl | rfl | rfl | rfl | rfl | rfl <;> assumption
noncomputable abbrev Cs':=List (Nat × Addr)
noncomputable def clA:Cs'->Nat->Addr
 | [],_=>0
 | (c,a) :: r,n=>if n=c then a else clA r n
noncomputable def Bl:Cs'->Nat->Bool
 | [],_=>false
 | (c,_) :: r,n=>n==c || Bl r n
noncomputable def AllC {α:Type} (f:α->Prop):List α->Prop
 | []=>True
 | q :: r=>f q/\AllC f r
theorem AllC.mem {α:Type} {f:α->Prop}:∀ {l:List α},AllC f l->∀ n ∈ l,f n
 | [],_,n,h=>by cases h
 | m :: r,h,n,hn=>by
  rcases aah.mp hn with rfl | hn
  ·exact h.1
  ·exact AllC.mem h.2 n hn
theorem CG:∀ {cs:Cs'} {n:Nat},Bl cs n=true->(n,clA cs n) ∈ cs
 | [],n,h=>by cases h
 | (c,a) :: r,n,h=>by
  unfold Bl at h
  unfold clA
  by_cases e:n=c
  ·subst e; rw [if_pos rfl]; exact aab
  ·rw [if_neg e]
   have:(n==c)=false:=by simpa using e
   rw [this,abR] at h
   exact aaa _ (CG h)
theorem SR {K:Frag} {cs:Cs'} (h9:Bl cs 999=false) (h:AllC (fun q=>ClsF K (Ar q.1) q.2) cs) (y:AllC (fun q=>AllC (fun r=>kitOne K (.ref q.2) (.ref r.2)=some (isa q.1 r.1)) cs) cs):Kx ⟨K,clA cs,Bl cs⟩ :=
 ⟨h9,fun c hc=>(h.mem _ (CG hc)).x,fun c hc=>(h.mem _ (CG hc)).t,fun c hc=>(h.mem _ (CG hc)).v,fun c d hc hd=>(y.mem _ (CG hc)).mem _ (CG hd)⟩
theorem ST {K:Frag} {P:Program} {w:World} {mg:Str->Option Value} {base h:Heap} {cs:Cs'} (h9:Bl cs 999=false) (X:K.In h) (G:h.Ns mainGlobals mg) (nb:AllC (fun y=>nsIn K mainGlobals y=some none) (EZ ++ (["bool", "dict", "ValueError"]:List Str))) (hc:AllC (fun q=>ClsF K (Ar q.1) q.2) cs) (y:AllC (fun q=>AllC (fun r=>kitOne K (.ref q.2) (.ref r.2)=some (isa q.1 r.1)) cs) cs):Lw.Ok ⟨⟨K,clA cs,Bl cs⟩,P,w,mg,base⟩ :=
 ⟨fun z hz=>mg_none_of X G (nb.mem z (aat _ hz)),fun z hz=>mg_none_of X G (nb.mem z (aag _ hz)),SR h9 hc y⟩
noncomputable def dfB (N:List Str) (ps:List Str) (st:Stmt) (b:Ss) (dep:Nat):Bool :=
 decide ((Ah st).kind=.function) && !(Ah st).isCoroutine && !(Ah st).isGenerator && decide N.Nodup && decide (N.take ps.length=ps) && ps.all (fun x=>decide ((Ah st).names.lookup x=some .local\/(Ah st).names.lookup x=some .cell)) && (Ah st).names.all (fun y=>decide (y.2 ≠ .free)) && ckSs ⟨N,Ah st,true,true,true⟩ b (Ax st) && (msSs (aaf N.length .dead) dep b (m0 ps.length N.length)).isSome
theorem Ec {N ps:List Str} {st:Stmt} {b:Ss} {dep:Nat} (h:dfB N ps st b dep=true):FnScope N ps (Ah st)/\ckSs ⟨N,Ah st,true,true,true⟩ b (Ax st)=true/\(msSs (aaf N.length .dead) dep b (m0 ps.length N.length)).isSome=true:=by
 unfold dfB at h
 simp only [aak,decide_eq_true_eq,aaw,abo] at h
 obtain ⟨⟨⟨⟨⟨⟨⟨⟨h1,h2⟩,h3⟩,h4⟩,h5⟩,h6⟩,h7⟩,h8⟩,h9⟩:=h
 exact ⟨⟨h1,h2,h3,h4,h5,h6,h7⟩,h8,h9⟩
theorem AU {L:Lw} (O:L.Ok) {x:Str} {st:Stmt} {N ps:List Str} {lv dep:Nat} {b:Ss} (D:Df L.p.K L.mg x st ps) (h:dfB N ps st b dep=true) (hn:AllN (NeedG L lv) b.need):NN L (AX x ps.length (lv + 1) dep N.length b) :=
 PM O D (Ec h).1 rfl (Ec h).2.1 (Ec h).2.2 hn
theorem PN {l:PySem.W.OpenLaw} {w:World} {K:Frag} {h:Heap} {mg:Str->Option Value} {fa:Addr} {cs:Cs'} {x:Str} {st:Stmt} {N:List Str} {lv dep:Nat} {b:Ss} (X:K.In h) (G:h.Ns mainGlobals mg) (hfa:mg "law" = some (.ref fa)) (t:Bj K "law" st) (hck:dfB N [x] st b dep=true)
  (hb:∀ (kV dc pm:Value) (an:Option Addr) (cd ct:Value) (s:Shared) (v:Value),BindsTo s (fnOf "law" "law" (Bs st) (Ax st) (Ah st) .none kV dc pm an cd ct) ⟨[v],[]⟩ [(x,v)])
  (O:∀ base:Heap,Lw.Ok ⟨⟨K,clA cs,Bl cs⟩,l.prog,w,mg,base⟩) (hn:∀ base:Heap,AllN (NeedG ⟨⟨K,clA cs,Bl cs⟩,l.prog,w,mg,base⟩ lv) b.need) (nl:noL K=true)
  (hden:∀ ns:List Int,ns.length<=63->(AX "law" 1 (lv + 1) dep N.length b).den [.lst (ns.map .int)]=.ok (.bl true)) :
  ∃ fd:FuncData,(∀ (s:Shared) (v:Value),BindsTo s fd ⟨[v],[]⟩ [(x,v)])/\∀ base:Heap,K.In base->base.Ns mainGlobals mg->FnOk l.prog w K mg base (CXe l.prog w) (lv + 1) fa fd [x] (spL K):=by
 obtain ⟨f,oc,od,an,sl,kV,dc,pm,cd,ct,a,l',c,k⟩:=t
 have e:=hfa.symm.trans (mg_of X G a)
 cases e
 refine ⟨_,hb kV dc pm an cd ct,fun base _ _=>?_⟩
 exact RH (F:=AX "law" 1 (lv + 1) dep N.length b) (L8 (L:=⟨⟨K,clA cs,Bl cs⟩,l.prog,w,mg,base⟩) (O base) (Ln (st:=st) l' c k) (Ec hck).1 rfl (Ec hck).2.1 (Ec hck).2.2 (hn base)) rfl rfl nl hden
end Pu
end
namespace Pu
open PySem PySem.Spec PyProof.Rows PySem.W L2
noncomputable def CM:Ss :=
 (.cons (.iff (.not (.chain .le .le (.cI 1) (.bi .lenS (.cons (.nm 0) .nil)) (.gl "MOST_FIGURES" (.int 20))))
 (.cons (.ret (.cB false))
 .nil)
 .nil)
 (.cons (.iff (.not (.bi .all (.cons (.comp0 1 [] (.nm 0) (.chs (.nm 0)) (.inT false (.nm 0) (.gl "FIGURES" (.str "0123456789")))) .nil)))
 (.cons (.ret (.cB false))
 .nil)
 .nil)
 (.cons (.ret (.bo false (.cons (.cmp .eq (.nm 0) (.cS "0")) (.cons (.cmp .ne (.ixC (.nm 0) (.cI 0)) (.cS "0")) .nil))))
 .nil)))
noncomputable def Dv:Fn:=AX "is_number" 1 1 9 1 CM
theorem IP (ds:List D) (h:ds.length=1):Dv.den ds=run 1 CM ds:=AS h
noncomputable def Bq:Ss :=
 (.cons (.iff (.not (.call Dv (.cons (.nm 0) .nil)))
 (.cons (.raise 16 (.cons (.cS "this is no number") .nil))
 .nil)
 .nil)
 (.cons (.ret (.bi .intS (.cons (.nm 0) .nil)))
 .nil))
noncomputable def A8:Fn:=AX "read_number" 1 2 9 1 Bq
theorem Ed (ds:List D) (h:ds.length=1):A8.den ds=run 1 Bq ds:=AS h
noncomputable def BA:Ss :=
 (.cons (.iff (.not (.isi (.nm 0) .str))
 (.cons (.raise 16 (.cons (.cS "this is no text") .nil))
 .nil)
 .nil)
 .nil)
noncomputable def BZ:Fn:=AX "check_text" 1 1 9 1 BA
theorem Ez (ds:List D) (h:ds.length=1):BZ.den ds=run 1 BA ds:=AS h
noncomputable def BB:Ss :=
 (.cons (.asg 1 1 (.spl (.nm 0) (.cS ":")))
 (.cons (.iff (.cmp .ne (.bi .len (.cons (.nm 1) .nil)) (.cI 3))
 (.cons (.raise 16 (.cons (.cS "this writes no tuple of three numbers") .nil))
 .nil)
 .nil)
 (.cons (.ret (.tup (.cons (.call A8 (.cons (.ixL (.nm 1) (.cI 0)) .nil)) (.cons (.call A8 (.cons (.ixL (.nm 1) (.cI 1)) .nil)) (.cons (.call A8 (.cons (.ixL (.nm 1) (.cI 2)) .nil)) .nil)))))
 .nil)))
noncomputable def A3:Fn:=AX "read_entry" 1 3 9 2 BB
theorem EB (ds:List D) (h:ds.length=1):A3.den ds=run 2 BB ds:=AS h
noncomputable def BC:Ss :=
 (.cons (.expr (.call BZ (.cons (.nm 0) .nil)))
 (.cons (.iff (.cmp .eq (.nm 0) (.gl "NOTHING" (.str "-")))
 (.cons (.ret (.lst .nil))
 .nil)
 .nil)
 (.cons (.ret (.compX 1 [] (.nm 0) (.seq (.spl (.nm 0) (.cS " "))) (.call A3 (.cons (.nm 0) .nil))))
 .nil)))
noncomputable def Br:Fn:=AX "read_paper" 1 4 9 1 BC
theorem EC (ds:List D) (h:ds.length=1):Br.den ds=run 1 BC ds:=AS h
noncomputable def C3:Ss :=
 (.cons (.asg 2 0 (.bin .mod (.bin .add (.bin .add (.bin .mul (.nm 2) (.cI 48271)) (.bin .mod (.nm 3) (.cI 1000003))) (.cI 1)) (.cI 2147483647)))
 .nil)
noncomputable def Cl:Ss :=
 (.cons (.iff (.cmp .lt (.nm 1) (.bi .len (.cons (.nm 0) .nil)))
 (.cons (.ret (.ix (.nm 0) (.nm 1)))
 .nil)
 .nil)
 (.cons (.asg 2 0 (.cI 5))
 (.cons (.for_ (.nm 3) (.seq (.slc (.nm 0) .cN (.cI 63)))
 C3)
 (.cons (.ret (.bin .mod (.bin .add (.nm 2) (.bin .mul (.cI 7919) (.nm 1))) (.cI 1000003)))
 .nil))))
noncomputable def BU:Fn:=AX "_law_cell" 2 1 0 4 Cl
theorem Jq (ds:List D) (h:ds.length=2):BU.den ds=run 4 Cl ds:=AS h
noncomputable def B0:Ss :=
 (.cons (.asg 2 0 (.bin .mod (.bin .pow (.bin .add (.bin .add (.bin .mod (.nm 0) (.cI 2147483629)) (.bin .mul (.cI 1013) (.nm 1))) (.cI 7919)) (.cI 3)) (.cI 2147483647)))
 (.cons (.asg 3 0 (.bin .mod (.bin .add (.bin .add (.bin .mul (.nm 2) (.cI 40699)) (.bin .mul (.bin .mul (.cI 3793) (.nm 1)) (.nm 1))) (.cI 11)) (.cI 2147483399)))
 (.cons (.ret (.bin .fdiv (.nm 3) (.cI 101)))
 .nil)))
noncomputable def BL:Fn:=AX "_law_mix" 2 1 1 4 B0
theorem GE (ds:List D) (h:ds.length=2):BL.den ds=run 4 B0 ds:=AS h
noncomputable def Aq:Ss :=
 (.cons (.iff (.cmp .lt (.nm 3) (.bin .pow (.cI 10) (.cI 18)))
 (.cons (.mut 5 [] .append (.cons (.bin .mod (.call BL (.cons (.nm 3) (.cons (.nm 6) .nil))) (.ix (.nm 2) (.nm 6))) .nil))
 .nil)
 (.cons (.iff (.cmp .gt (.nm 4) (.cI 0))
 (.cons (.mut 5 [] .append (.cons (.bin .mod (.nm 4) (.ix (.nm 2) (.nm 6))) .nil))
 (.cons (.asg 4 0 (.bin .fdiv (.nm 4) (.ix (.nm 2) (.nm 6))))
 .nil))
 (.cons (.asg 7 0 (.call BU (.cons (.nm 0) (.cons (.bin .mod (.bin .add (.bin .add (.nm 1) (.cI 1)) (.nm 6)) (.cI 63)) .nil))))
 (.cons (.mut 5 [] .append (.cons (.bin .mod (.call BL (.cons (.nm 7) (.cons (.nm 6) .nil))) (.ix (.nm 2) (.nm 6))) .nil))
 .nil)))
 .nil))
 .nil)
noncomputable def B3:Ss :=
 (.cons (.asg 3 0 (.call BU (.cons (.nm 0) (.cons (.nm 1) .nil))))
 (.cons (.asg 4 0 (.nm 3))
 (.cons (.asg 5 2 (.lst .nil))
 (.cons (.for_ (.nm 6) (.r1 (.bi .len (.cons (.nm 2) .nil)))
 Aq)
 (.cons (.ret (.nm 5))
 .nil)))))
noncomputable def A9:Fn:=AX "_law_row" 3 2 2 8 B3
theorem GF (ds:List D) (h:ds.length=3):A9.den ds=run 8 B3 ds:=AS h
noncomputable def FC:Ss :=
 (.cons (.ret (.bo true (.cons (.isi (.nm 0) .int) (.cons (.not (.isi (.nm 0) .bool)) .nil))))
 .nil)
noncomputable def Ba:Fn:=AX "_law_whole" 1 1 9 1 FC
noncomputable def Aw:Ss :=
 (.cons (.iff (.inT true (.nm 1) (.cS "0123456789"))
 (.cons (.ret .cN)
 .nil)
 .nil)
 .nil)
noncomputable def Cm:Ss :=
 (.cons (.iff (.bo false (.cons (.not (.chain .le .le (.cI 1) (.bi .lenS (.cons (.nm 0) .nil)) (.cI 20))) (.cons (.bo true (.cons (.cmp .eq (.ixC (.nm 0) (.cI 0)) (.cS "0")) (.cons (.cmp .gt (.bi .lenS (.cons (.nm 0) .nil)) (.cI 1)) .nil))) .nil)))
 (.cons (.ret .cN)
 .nil)
 .nil)
 (.cons (.for_ (.nm 1) (.chs (.nm 0))
 Aw)
 (.cons (.ret (.bi .intS (.cons (.nm 0) .nil)))
 .nil)))
noncomputable def A4:Fn:=AX "_law_number" 1 1 9 2 Cm
theorem Hd (ds:List D) (h:ds.length=1):A4.den ds=run 2 Cm ds:=AS h
noncomputable def By:Ss :=
 (.cons (.asg 2 2 (.lst (.cons (.cS "05") (.cons (.cS "+5") (.cons (.cS "-5") (.cons (.cS "1_0") (.cons (.cS "1.0") (.cons (.cS "") (.cons (.cS "00") (.cons (.cS "-") (.cons (.cS "x") (.cons (.cS "5x") (.cons (.rep "1" 21) (.cons (.rep "9" 20) (.cons (.bin .add (.cS "1") (.rep "0" 18)) .nil)))))))))))))))
 (.cons (.dem 2 1)
 (.cons (.asg 2 0 (.bin .add (.nm 2) (.lst (.cons (.bin .add (.bin .add (.cS "1") (.rep "0" 17)) (.cS "1")) (.cons (.bin .add (.bin .add (.cS "1") (.rep "0" 18)) (.cS "1")) (.cons (.cS "/") (.cons (.cS ":") (.cons (.cS "0x1") (.cons (.cS "1e3") (.cons (.cS "1,0") .nil))))))))))
 (.cons (.asg 3 0 (.cS " !#$&'()*+,-./0123456789:;<=>?@ABCDEFGHIJKLMNOPQRSTUVWXYZ[]^_`abcdefghijklmnopqrstuvwxyz{|}~"))
 (.cons (.asg 3 0 (.bin .add (.bin .add (.nm 3) (.cS "\"")) (.cS "\\")))
 (.cons (.asg 4 0 (.bin .mod (.ix (.nm 1) (.cI 1)) (.bin .add (.bi .lenS (.cons (.nm 0) .nil)) (.cI 1))))
 (.cons (.asg 5 1 (.spl (.nm 0) (.cS " ")))
 (.cons (.asg 6 0 (.bin .mod (.ix (.nm 1) (.cI 1)) (.bi .len (.cons (.nm 5) .nil))))
 (.cons (.iff (.cmp .eq (.ix (.nm 1) (.cI 0)) (.cI 0))
 (.cons (.ret (.bin .add (.bin .add (.slT (.nm 0) .cN (.nm 4)) (.ixC (.nm 3) (.bin .mod (.ix (.nm 1) (.cI 2)) (.cI 94)))) (.slT (.nm 0) (.nm 4) .cN)))
 .nil)
 .nil)
 (.cons (.iff (.cmp .eq (.ix (.nm 1) (.cI 0)) (.cI 1))
 (.cons (.ret (.bin .add (.slT (.nm 0) .cN (.nm 4)) (.slT (.nm 0) (.bin .add (.nm 4) (.cI 1)) .cN)))
 .nil)
 .nil)
 (.cons (.iff (.cmp .eq (.ix (.nm 1) (.cI 0)) (.cI 2))
 (.cons (.ret (.bin .add (.bin .add (.slT (.nm 0) .cN (.nm 4)) (.ixC (.nm 3) (.bin .mod (.ix (.nm 1) (.cI 2)) (.cI 94)))) (.slT (.nm 0) (.bin .add (.nm 4) (.cI 1)) .cN)))
 .nil)
 .nil)
 (.cons (.iff (.cmp .eq (.ix (.nm 1) (.cI 0)) (.cI 3))
 (.cons (.ret (.ix (.lst (.cons (.bin .add (.cS " ") (.nm 0)) (.cons (.bin .add (.nm 0) (.cS " ")) (.cons (.joi (.cS "  ") (.nm 5)) (.cons (.bin .add (.nm 0) (.cS " -")) (.cons (.bin .add (.cS "- ") (.nm 0)) (.cons (.bin .add (.nm 0) (.cS " /")) .nil))))))) (.bin .mod (.ix (.nm 1) (.cI 2)) (.cI 6))))
 .nil)
 .nil)
 (.cons (.iff (.cmp .eq (.ix (.nm 1) (.cI 0)) (.cI 4))
 (.cons (.ret (.joi (.cS " ") (.bin .add (.bin .add (.slc (.nm 5) .cN (.nm 6)) (.lst (.cons (.ix (.nm 2) (.bin .mod (.ix (.nm 1) (.cI 2)) (.cI 20))) .nil))) (.slc (.nm 5) (.bin .add (.nm 6) (.cI 1)) .cN))))
 .nil)
 .nil)
 (.cons (.iff (.cmp .eq (.ix (.nm 1) (.cI 0)) (.cI 5))
 (.cons (.ret (.joi (.cS " ") (.bin .add (.slc (.nm 5) .cN (.nm 6)) (.slc (.nm 5) (.bin .add (.nm 6) (.cI 1)) .cN))))
 .nil)
 .nil)
 (.cons (.iff (.cmp .eq (.ix (.nm 1) (.cI 0)) (.cI 6))
 (.cons (.ret (.joi (.cS " ") (.bin .add (.bin .add (.slc (.nm 5) .cN (.nm 6)) (.lst (.cons (.ixL (.nm 5) (.nm 6)) .nil))) (.slc (.nm 5) (.nm 6) .cN))))
 .nil)
 .nil)
 (.cons (.ret (.ix (.lst (.cons (.cS "") (.cons (.cS " ") (.cons (.cS "-") (.cons (.cS "--") (.cons (.cS "- -") (.cons (.cS "0") (.cons (.cS "/") (.cons (.cS " / ") (.cons (.cS "- / -") (.cons (.cS "0 / 0") (.cons (.cS ":") (.cons (.cS "0:0:0") .nil))))))))))))) (.bin .mod (.ix (.nm 1) (.cI 2)) (.cI 12))))
 .nil))))))))))))))))
noncomputable def B6:Fn:=AX "_law_bent_line" 2 1 0 7 By
theorem FQ (ds:List D) (h:ds.length=2):B6.den ds=run 7 By ds:=AS h
noncomputable def AV:Ss :=
 (.cons (.asg 3 2 (.comp0 1 [] (.nm 0) (.seq (.spl (.nm 2) (.cS ":"))) (.call A4 (.cons (.nm 0) .nil))))
 (.cons (.iff (.bo false (.cons (.cmp .ne (.bi .len (.cons (.nm 3) .nil)) (.cI 3)) (.cons (.cmp .inn .cN (.nm 3)) .nil)))
 (.cons (.ret .cN)
 .nil)
 .nil)
 (.cons (.dem 3 1)
 (.cons (.mut 1 [] .append (.cons (.bi .tupleL (.cons (.nm 3) .nil)) .nil))
 .nil))))
noncomputable def B4:Ss :=
 (.cons (.iff (.cmp .eq (.nm 0) (.cS "-"))
 (.cons (.ret (.lst .nil))
 .nil)
 .nil)
 (.cons (.asg 1 2 (.lst .nil))
 (.cons (.dem 1 1)
 (.cons (.for_ (.nm 2) (.seq (.spl (.nm 0) (.cS " ")))
 AV)
 (.cons (.ret (.nm 1))
 .nil)))))
noncomputable def Bb:Fn:=AX "_law_due" 1 2 1 4 B4
theorem GG (ds:List D) (h:ds.length=1):Bb.den ds=run 4 B4 ds:=AS h
noncomputable def Bc:Ss :=
 (.cons (.try_ (.cons (.asg 1 2 (.call Br (.cons (.nm 0) .nil)))
 .nil)
 0 2
 (.cons (.asg 3 2 (.lst (.cons (.isi (.nm 2) (.cls 6)) (.cons (.isi (.nm 2) (.cls 2)) .nil))))
 (.cons (.ret (.ixS (.lst (.cons (.cS "odd") (.cons (.cS "refused") .nil))) (.bi .int (.cons (.bo true (.cons (.isi (.nm 2) (.cls 16)) (.cons (.isi (.nm 2) .verr) (.cons (.cmp .eq (.mt .count (.nm 3) (.cons (.cB true) .nil)) (.cI 0)) .nil)))) .nil))))
 .nil))
 .nil)
 (.cons (.retL (.cons (.nm 1) .nil))
 .nil))
noncomputable def Ao:Fn:=AX "_law_read" 1 5 3 4 Bc
theorem DT (ds:List D) (h:ds.length=1):Ao.den ds=run 4 Bc ds:=AS h
noncomputable def AK:Ss :=
 (.cons (.iff (.bo false (.cons (.not (.isi (.nm 2) .tuple)) (.cons (.not (.bi .all (.cons (.comp0 1 [] (.nm 0) (.seq (.nm 2)) (.call Ba (.cons (.nm 0) .nil))) .nil))) .nil)))
 (.cons (.ret (.cB false))
 .nil)
 .nil)
 .nil)
noncomputable def A6:Ss :=
 (.cons (.iff (.isN false (.nm 1))
 (.cons (.ret (.cmp .eq (.nm 0) (.cS "refused")))
 .nil)
 .nil)
 (.cons (.iff (.bo false (.cons (.not (.isi (.nm 0) .list)) (.cons (.not (.isi (.ix (.nm 0) (.cI 0)) .list)) (.cons (.cmp .ne (.ix (.nm 0) (.cI 0)) (.nm 1)) .nil))))
 (.cons (.ret (.cB false))
 .nil)
 .nil)
 (.cons (.for_ (.nm 2) (.seq (.ix (.nm 0) (.cI 0)))
 AK)
 (.cons (.ret (.cB true))
 .nil))))
noncomputable def AD:Fn:=AX "_law_alike" 2 2 9 3 A6
theorem Dw (ds:List D) (h:ds.length=2):AD.den ds=run 3 A6 ds:=AS h
noncomputable def Cn:Ss :=
 (.cons (.asg 2 1 (.spl (.nm 0) (.cS ":")))
 (.cons (.asg 3 0 (.bin .mod (.ix (.nm 1) (.cI 1)) (.bi .len (.cons (.nm 2) .nil))))
 (.cons (.iff (.cmp .eq (.ix (.nm 1) (.cI 0)) (.cI 0))
 (.cons (.ret (.joi (.cS ":") (.bin .add (.bin .add (.slc (.nm 2) .cN (.nm 3)) (.lst (.cons (.cS "") .nil))) (.slc (.nm 2) (.nm 3) .cN))))
 .nil)
 .nil)
 (.cons (.iff (.cmp .eq (.ix (.nm 1) (.cI 0)) (.cI 1))
 (.cons (.ret (.bin .add (.bin .add (.joi (.cS ":") (.slc (.nm 2) .cN (.nm 3))) (.cS " ")) (.joi (.cS ":") (.slc (.nm 2) (.nm 3) .cN))))
 .nil)
 .nil)
 (.cons (.iff (.cmp .eq (.ix (.nm 1) (.cI 0)) (.cI 2))
 (.cons (.ret (.joi (.cS ":") (.bin .add (.bin .add (.slc (.nm 2) .cN (.nm 3)) (.lst (.cons (.bin .add (.cS "0") (.ixL (.nm 2) (.nm 3))) .nil))) (.slc (.nm 2) (.bin .add (.nm 3) (.cI 1)) .cN))))
 .nil)
 .nil)
 (.reps 4 0 (.bin .mod (.ix (.nm 1) (.cI 1)) (.cI 5))))))))
noncomputable def C4:Fn:=AX "_law_colons" 2 1 1 5 Cn
theorem He (ds:List D) (h:ds.length=2):C4.den ds=run 5 Cn ds:=AS h
noncomputable def BD:Ss :=
 (.cons (.asgT [4,5,6,7] (.slc (.nm 1) (.bin .add (.cI 1) (.bin .mul (.cI 4) (.nm 3))) (.bin .add (.cI 5) (.bin .mul (.cI 4) (.nm 3)))))
 (.cons (.asg 8 0 (.tup (.cons (.nm 5) (.cons (.nm 6) (.cons (.ix (.lst (.cons (.bin .mod (.nm 7) (.cI 1000)) (.cons (.nm 7) .nil))) (.bin .mod (.nm 4) (.cI 2))) .nil)))))
 (.cons (.iff (.cmp .eq (.nm 4) (.cI 2))
 (.cons (.asg 8 0 (.tup (.cons (.nm 7) (.cons (.bin .fdiv (.nm 7) (.cI 7)) (.cons (.cI 0) .nil)))))
 .nil)
 .nil)
 (.cons (.mut 2 [] .append (.cons (.joi (.cS ":") (.comp0 1 [] (.nm 0) (.seq (.nm 8)) (.bi .str (.cons (.nm 0) .nil)))) .nil))
 .nil))))
noncomputable def AW:Ss :=
 (.cons (.iff (.not (.call AD (.cons (.call Ao (.cons (.nm 12) .nil)) (.cons (.call Bb (.cons (.nm 12) .nil)) .nil))))
 (.cons (.ret (.cB false))
 .nil)
 .nil)
 .nil)
noncomputable def Co:Ss :=
 (.cons (.asg 10 0 (.call B6 (.cons (.nm 9) (.cons (.call A9 (.cons (.nm 0) (.cons (.bin .add (.cI 10) (.nm 3)) (.cons (.lst (.cons (.cI 8) (.cons (.bin .pow (.cI 10) (.cI 4)) (.cons (.cI 94) .nil)))) .nil)))) .nil))))
 (.cons (.asg 11 1 (.call C4 (.cons (.nm 9) (.cons (.call A9 (.cons (.nm 0) (.cons (.bin .add (.cI 30) (.nm 3)) (.cons (.lst (.cons (.cI 4) (.cons (.cI 200) .nil))) .nil)))) .nil))))
 (.cons (.dem 11 0)
 (.cons (.for_ (.nm 12) (.seq (.lst (.cons (.nm 9) (.cons (.nm 10) (.cons (.nm 11) .nil)))))
 AW)
 .nil))))
noncomputable def Cp:Ss :=
 (.cons (.iff (.cmp .ne (.call Ao (.cons (.nm 13) .nil)) (.cS "refused"))
 (.cons (.ret (.cB false))
 .nil)
 .nil)
 .nil)
noncomputable def DU:Ss :=
 (.cons (.asg 1 2 (.call A9 (.cons (.nm 0) (.cons (.cI 0) (.cons (.bin .add (.lst (.cons (.cI 31) .nil)) (.bin .mul (.lst (.cons (.cI 3) (.cons (.cI 9) (.cons (.cI 200) (.cons (.bin .pow (.cI 10) (.cI 20)) .nil))))) (.cI 30))) .nil)))))
 (.cons (.asg 2 2 (.lst .nil))
 (.cons (.dem 1 1)
 (.cons (.for_ (.nm 3) (.r1 (.ixL (.nm 1) (.cI 0)))
 BD)
 (.cons (.asg 9 0 (.ifx (.cmp .ne (.nm 2) (.lst .nil)) (.joi (.cS " ") (.nm 2)) (.cS "-")))
 (.cons (.for_ (.nm 3) (.r1 (.cI 10))
 Co)
 (.cons (.for_ (.nm 13) (.seq (.lst (.cons .cN (.cons (.cI 5) (.cons (.cB true) (.cons (.lst (.cons (.nm 9) .nil)) (.cons (.tup (.cons (.nm 9) .nil)) (.cons .dct (.cons (.lst .nil) (.cons (.tup (.cons (.cI 0) (.cons (.cI 0) (.cons (.cI 0) .nil)))) (.cons (.lst (.cons (.tup (.cons (.cI 0) (.cons (.cI 0) (.cons (.cI 0) .nil)))) .nil)) .nil)))))))))))
 Cp)
 (.cons (.asg 14 2 (.call Ao (.cons (.nm 9) .nil)))
 (.cons (.mut 14 [(false,(.cI 0))] .append (.cons (.tup (.cons (.cI 0) (.cons (.cI 0) (.cons (.cI 0) .nil)))) .nil))
 (.cons (.ret (.call AD (.cons (.call Ao (.cons (.nm 9) .nil)) (.cons (.call Bb (.cons (.nm 9) .nil)) .nil))))
 .nil))))))))))
noncomputable def Ew:Fn:=AX "law" 1 6 9 15 DU
theorem KM (ds:List D) (h:ds.length=1):Ew.den ds=run 15 DU ds:=AS h
end Pu
section
namespace Pu
open PySem
theorem Ca {tg:Tg} {b:Fr->Out} (P:Nat->Fr->Prop):∀ {ds:List D} {δ:Fr} (n:Nat),P n δ->(∀ i d δ,ds[i]?=some d->P (n + i) δ->∃ δ' δ'',Bg tg d δ=some δ'/\b δ'=.nxt δ''/\P (n + i + 1) δ'')->∃ δ',AN tg b ds δ=.nxt δ'/\P (n + ds.length) δ'
 | [],δ,n,h0,_=>⟨δ,rfl,h0⟩
 | d :: ds,δ,n,h0,hs=>by
  obtain ⟨δ',δ'',e1,e2,h1⟩:=hs 0 d δ rfl h0
  obtain ⟨δ3,e3,h3⟩:=Ca P (ds:=ds) (δ:=δ'') (n + 1) h1 fun i d δ hd hP=>by
   have:=hs (i + 1) d δ (by simpa using hd) (by rw [show n + (i + 1)=n + 1 + i by omega]; exact hP)
   rw [show n + (i + 1) + 1=n + 1 + i + 1 by omega] at this
   exact this
  refine ⟨δ3,?_,by rw [aaS,show n + (ds.length + 1)=n + 1 + ds.length by omega]; exact h3⟩
  unfold AN
  rw [e1]
  show (b δ').then _=_
  rw [e2]
  exact e3
theorem Cq (i j:Int):b2 .add (.int i) (.int j)=.ok (.int (i + j)):=rfl
theorem CS (i j:Int):b2 .sub (.int i) (.int j)=.ok (.int (i - j)):=rfl
theorem Bu (i j:Int) (h1:-(18446744073709551616) < i) (h2:i < 18446744073709551616):b2 .mul (.int i) (.int j)=.ok (.int (i * j)):=by
 show (if _ then _ else _)=_; rw [if_pos (.inl ⟨h1,h2⟩)]
theorem BM (i j:Int) (h1:-(18446744073709551616) < j) (h2:j < 18446744073709551616):b2 .mul (.int i) (.int j)=.ok (.int (i * j)):=by
 show (if _ then _ else _)=_; rw [if_pos (.inr ⟨h1,h2⟩)]
theorem Cr (i j:Int) (h1:0 < j):b2 .mod (.int i) (.int j)=.ok (.int (i % j)):=by
 show (if _ then _ else _)=_; rw [if_pos h1]
theorem BN (i j:Int) (h1:0 < j) (h2:j < 1606938044258990275541962092341162602522202993782792835301376):b2 .fdiv (.int i) (.int j)=.ok (.int (i / j)):=by
 show (if _ then _ else _)=_; rw [if_pos ⟨h1,h2⟩]
theorem CT (i j:Int) (h1:0<=j) (h2:j<=1000000) (h3:i.natAbs < 18446744073709551616):b2 .pow (.int i) (.int j)=.ok (.int (i ^ j.toNat)):=by
 show (if _ then _ else _)=_; rw [if_pos ⟨h1,h2,h3⟩]
theorem DV (i j:Int):c2 .lt (.int i) (.int j)=.ok (.bl (decide (i < j))):=rfl
theorem DW (i j:Int):c2 .le (.int i) (.int j)=.ok (.bl (decide (i<=j))):=rfl
theorem DX (i j:Int):c2 .gt (.int i) (.int j)=.ok (.bl (decide (j < i))):=rfl
theorem DY (i j:Int):c2 .ge (.int i) (.int j)=.ok (.bl (decide (j<=i))):=rfl
theorem CU (i j:Int):c2 .eq (.int i) (.int j)=.ok (.bl (i==j)):=rfl
theorem CV (i j:Int):c2 .ne (.int i) (.int j)=.ok (.bl (!(i==j))):=rfl
theorem Dx (d:D) (r:Fr):get (some d :: r) 0=.ok d:=rfl
theorem Dy (o:Option D) (r:Fr) (i:Nat):get (o :: r) (i + 1)=get r i:=by
 unfold get; rw [aa5]
theorem AE {n:Nat} {b:Ss} {ds:List D} {d:D} (h:exs b (Pu.Au n ds)=.ret d):run n b ds=.ok d:=by
 unfold run; rw [h]
theorem Di {n:Nat} {b:Ss} {ds:List D} {c:Nat} {δ:Fr} (h:exs b (Pu.Au n ds)=.exc c δ):run n b ds=.exc c:=by
 unfold run; rw [h]
noncomputable def E6 (c k:Int):Int:=((((c % 2147483629 + 1013 * k + 7919) ^ 3 % 2147483647) * 40699 + 3793 * k * k + 11) % 2147483399) / 101
theorem JZ (c k:Int) (hk0:0<=k) (hk:k<=100000):BL.den [.int c,.int k]=.ok (.int (E6 c k)):=by
 have h1:0<=c % 2147483629:=abL _ (by decide)
 have h2:c % 2147483629 < 2147483629:=abP _ (by decide)
 have h3:(c % 2147483629 + 1013 * k + 7919).natAbs < 18446744073709551616:=by omega
 have h4:-(18446744073709551616) < k:=by omega
 have h5:k < 18446744073709551616:=by omega
 rw [GE _ rfl]
 simp [run,B0,exs,ex,ev,evs,get,Cq,Bu,BM,Cr,BN,CT,Pu.Au,h3,h4,h5,E6]
theorem KN {ns:List Int} {d:D} (h:d ∈ ns.map D.int):∃ x,d=.int x:=by
 obtain ⟨x,_,e⟩:=aaG.mp h
 exact ⟨x,e.symm⟩
theorem KO {ns:List Int} {d:D} {lo hi:Option Int} {i:Nat} (h:(cut (ns.map D.int) lo hi)[i]?=some d):∃ x,d=.int x:=by
 have:=aai h
 unfold cut at this
 exact KN (aaD (aaJ this))
theorem IQ {ns:List Int} {i:Int} (h0:0<=i) (h1:i < ns.length):∃ x,ns[i.toNat]?=some x/\atD (ns.map D.int) i=.ok (.int x):=by
 have hl:i.toNat < ns.length:=by omega
 refine ⟨ns[i.toNat],aam hl,?_⟩
 unfold atD ixN
 rw [aae,if_pos h0,if_pos h1]
 simp [hl]
theorem IR (ns:List Int) (p:Int) (hp:0<=p):∃ i,BU.den [.lst (ns.map .int),.int p]=.ok (.int i):=by
 rw [Jq _ rfl]
 by_cases h:p < ns.length
 ·obtain ⟨x,_,e⟩:=IQ hp h
  refine ⟨x,?_⟩
  simp -implicitDefEqProofs [run,exs,ex,ev,evs,evI,evBo,tv,get,BW,Cq,CS,Bu,BM,Cr,BN,CT,DV,DW,DX,DY,CU,CV,Pu.Au,biD,ixD,D0,EN,evP,upd,Bh,umD,CK,Cj,Cg,Bw,CJ,E.isCN,Bf,on1,on2,on3,CZ,Bz,DJ,Ch,Eo,Do,Ep,dI,dB,dS,dL,dT',un1,un0,Cl,h,e]
 ·obtain ⟨δ',e,s,o,rfl⟩:=Ca (tg:=.nm 3) (b:=exs C3) (fun _ δ=>∃ (s:Int) (o:Option D),δ=[some (.lst (ns.map .int)),some (.int p),some (.int s),o]) (ds:=cut (ns.map D.int) none (some 63)) (δ:=[some (.lst (ns.map .int)),some (.int p),some (.int 5),none]) 0 ⟨5,none,rfl⟩ (by
   rintro i d δ hd ⟨s,o,rfl⟩
   obtain ⟨x,rfl⟩:=KO hd
   refine ⟨_,_,rfl,?_,(s * 48271 + x % 1000003 + 1) % 2147483647,some (.int x),rfl⟩
   simp -implicitDefEqProofs [run,exs,ex,ev,evs,evI,evBo,tv,get,BW,Cq,CS,Bu,BM,Cr,BN,CT,DV,DW,DX,DY,CU,CV,Pu.Au,biD,ixD,D0,EN,evP,upd,Bh,umD,CK,Cj,Cg,Bw,CJ,E.isCN,Bf,on1,on2,on3,CZ,Bz,DJ,Ch,Eo,Do,Ep,dI,dB,dS,dL,dT',un1,un0,C3])
  refine ⟨(s + 7919 * p) % 1000003,?_⟩
  simp -implicitDefEqProofs [run,exs,ex,ev,evs,evI,evBo,tv,get,BW,Cq,CS,Bu,BM,Cr,BN,CT,DV,DW,DX,DY,CU,CV,Pu.Au,biD,ixD,D0,EN,evP,upd,Bh,umD,CK,Cj,Cg,Bw,CJ,E.isCN,Bf,on1,on2,on3,CZ,Bz,DJ,Ch,Eo,Do,Ep,dI,dB,dS,dL,dT',un1,un0,Cl,h,e]
theorem Ex {a b:Int} {i:Nat} {d:D} (h:(Az a b)[i]?=some d):d=.int (a + i)/\(i:Int) < b - a:=by
 unfold Az at h
 rw [aau] at h
 obtain ⟨j,hj,e⟩:=aas.mp h
 obtain ⟨h1,h2⟩:=aaC.mp hj
 rw [List.getElem_range] at h2
 subst h2
 rw [abB] at h1
 exact ⟨e.symm,by omega⟩
theorem Gf (a b:Int):(Az a b).length=(b - a).toNat:=by unfold Az; simp
theorem GH {a b:Int} (h1:-1000000<=a) (h2:a<=1000000) (h3:-1000000<=b) (h4:b<=1000000):Q1 (.int a) (.int b)=.ok (Az a b):=by
 show (if _ then _ else _)=_
 rw [if_pos]
 unfold EQ LIM
 simp -implicitDefEqProofs only [aak,decide_eq_true_eq]
 omega
theorem PP {ns:List Int} {i:Nat} {x:Int} (h:ns[i]?=some x):atD (ns.map D.int) (i:Int)=.ok (.int x):=by
 have hl:=(aaC.mp h).1
 obtain ⟨y,e1,e2⟩:=IQ (ns:=ns) (i:=(i:Int)) (by omega) (by omega)
 rw [abp,h] at e1
 cases e1
 exact e2
theorem IS:b2 .pow (.int 10) (.int 18)=.ok (.int 1000000000000000000):=by
 rw [CT _ _ (by decide) (by decide) (by decide)]; rfl
theorem IU:b2 .pow (.int 10) (.int 59)=.ok (.int 100000000000000000000000000000000000000000000000000000000000):=by
 rw [CT _ _ (by decide) (by decide) (by decide)]; rfl
theorem Dz (ds:List D) (d:D) (h:ds.length < 16777216):umD .append [d] ds=some (ds ++ [d]):=by
 show (if _ then _ else _)=_
 exact if_pos h
section
variable {ns S xs:List Int} {p c left:Int} {i:Nat} {s:Int} {o2:Option D} (hs:0 < s) (hat:atD (S.map D.int) (i:Int)=.ok (.int s)) (hi:i<=1000) (hx:xs.length<=1000)
include hs hat hi hx
theorem SU (h1:c < 1000000000000000000) :
  exs Aq [some (.lst (ns.map .int)),some (.int p),some (.lst (S.map .int)),some (.int c),some (.int left),some (.lst (xs.map .int)),some (.int i),o2]=.nxt [some (.lst (ns.map .int)),some (.int p),some (.lst (S.map .int)),some (.int c),some (.int left),some (.lst ((xs ++ [E6 c i % s]).map .int)),some (.int i),o2]:=by
 have hmx:=JZ c i (by omega) (by omega)
 have hap:=Dz (xs.map D.int) (.int (E6 c i % s)) (by rw [aae]; omega)
 simp -implicitDefEqProofs only [Aq,exs,ex,tv,ev,evs,evI,evBo,Dx,Dy,Res.bind_ok,Res.out_ok,Out.then_nxt,Out.then_ret,aa9,aa5,IS,IU,Cq,CS,Bu,BM,Cr,BN,DV,DW,DX,DY,CU,CV,BW,decide_true,decide_false,if_true,if_false,aaY,abl,abu,abq,evP,ixD,D0,EN,upd,Bh,aa3,acd,aan,abN,biD,CK,Cj,Cg,on1,on2,on3,CZ,Bz,DJ,Ch,Eo,Do,Ep,dI,dB,dS,dL,dT',un1,un0,Bw,CJ,E.isCN,Bf,reduceCtorEq,Int.reduceLT,Int.reduceLE,Int.reduceNeg,Int.reduceBEq,h1,hmx,hat,hs,hap]
theorem SV (h1:¬ c < 1000000000000000000) (h2:0 < left) (h3:s < 1606938044258990275541962092341162602522202993782792835301376) :
  exs Aq [some (.lst (ns.map .int)),some (.int p),some (.lst (S.map .int)),some (.int c),some (.int left),some (.lst (xs.map .int)),some (.int i),o2]=.nxt [some (.lst (ns.map .int)),some (.int p),some (.lst (S.map .int)),some (.int c),some (.int (left / s)),some (.lst ((xs ++ [left % s]).map .int)),some (.int i),o2]:=by
 have hap:=Dz (xs.map D.int) (.int (left % s)) (by rw [aae]; omega)
 simp -implicitDefEqProofs only [Aq,exs,ex,tv,ev,evs,evI,evBo,Dx,Dy,Res.bind_ok,Res.out_ok,Out.then_nxt,Out.then_ret,aa9,aa5,IS,IU,Cq,CS,Bu,BM,Cr,BN,DV,DW,DX,DY,CU,CV,BW,decide_true,decide_false,if_true,if_false,aaY,abl,abu,abq,evP,ixD,D0,EN,upd,Bh,aa3,acd,aan,abN,biD,CK,Cj,Cg,on1,on2,on3,CZ,Bz,DJ,Ch,Eo,Do,Ep,dI,dB,dS,dL,dT',un1,un0,Bw,CJ,E.isCN,Bf,reduceCtorEq,Int.reduceLT,Int.reduceLE,Int.reduceNeg,Int.reduceBEq,h1,h2,h3,hat,hs,hap]
theorem SW (h1:¬ c < 1000000000000000000) (h2:¬ 0 < left) {q:Int} (hq:BU.den [.lst (ns.map .int),.int ((p + 1 + i) % 63)]=.ok (.int q)) :
  exs Aq [some (.lst (ns.map .int)),some (.int p),some (.lst (S.map .int)),some (.int c),some (.int left),some (.lst (xs.map .int)),some (.int i),o2]=.nxt [some (.lst (ns.map .int)),some (.int p),some (.lst (S.map .int)),some (.int c),some (.int left),some (.lst ((xs ++ [E6 q i % s]).map .int)),some (.int i),some (.int q)]:=by
 have hmx:=JZ q i (by omega) (by omega)
 have hap:=Dz (xs.map D.int) (.int (E6 q i % s)) (by rw [aae]; omega)
 simp -implicitDefEqProofs only [Aq,exs,ex,tv,ev,evs,evI,evBo,Dx,Dy,Res.bind_ok,Res.out_ok,Out.then_nxt,Out.then_ret,aa9,aa5,IS,IU,Cq,CS,Bu,BM,Cr,BN,DV,DW,DX,DY,CU,CV,BW,decide_true,decide_false,if_true,if_false,aaY,abl,abu,abq,evP,ixD,D0,EN,upd,Bh,aa3,acd,aan,abN,biD,CK,Cj,Cg,on1,on2,on3,CZ,Bz,DJ,Ch,Eo,Do,Ep,dI,dB,dS,dL,dT',un1,un0,Bw,CJ,E.isCN,Bf,reduceCtorEq,Int.reduceLT,Int.reduceLE,Int.reduceNeg,Int.reduceBEq,h1,h2,hq,hmx,hat,hs,hap,Int.reduceLT]
end
theorem GI (ns:List Int) (p:Int) (hp:0<=p) (S:List Int) (hl:S.length<=1000) (hS:∀ s ∈ S,0 < s/\s < 1606938044258990275541962092341162602522202993782792835301376) :
  ∃ xs:List Int,A9.den [.lst (ns.map .int),.int p,.lst (S.map .int)]=.ok (.lst (xs.map .int))/\xs.length=S.length/\∀ (j:Nat) (x s:Int),xs[j]?=some x->S[j]?=some s->0<=x/\x < s:=by
 obtain ⟨c,hc⟩:=IR ns p hp
 obtain ⟨δ',e,left,xs,o1,o2,rfl,hx,hb⟩:=Ca (tg:=.nm 6) (b:=exs Aq) (fun i δ=>∃ (left:Int) (xs:List Int) (o1 o2:Option D),δ=[some (.lst (ns.map .int)),some (.int p),some (.lst (S.map .int)),some (.int c),some (.int left),some (.lst (xs.map .int)),o1,o2]/\xs.length=i/\∀ (j:Nat) (x s:Int),xs[j]?=some x->S[j]?=some s->0<=x/\x < s)
  (ds:=Az 0 (S.length:Int)) (δ:=[some (.lst (ns.map .int)),some (.int p),some (.lst (S.map .int)),some (.int c),some (.int c),some (.lst []),none,none]) 0 ⟨c,[],none,none,rfl,rfl,by simp⟩ (by
   rintro i d δ hd ⟨left,xs,o1,o2,rfl,hx,hb⟩
   obtain ⟨rfl,hi⟩:=Ex hd
   have hx:xs.length=i:=by omega
   have hi':i < S.length:=by omega
   have hs:S[i]?=some S[i]:=aam hi'
   have hsp:=hS S[i] (abt hi')
   have hat:=PP hs
   generalize S[i]=s at hs hsp hat
   have fin:∀ z:Int,0<=z->z < s->∀ (j:Nat) (x s:Int),(xs ++ [z])[j]?=some x->S[j]?=some s->0<=x/\x < s:=by
    intro z h0 h1 j x s e1 e2
    by_cases hj:j < xs.length
    ·rw [aaK hj] at e1
     exact hb j x s e1 e2
    ·rw [aaI (by omega)] at e1
     have:j=i:=by
      have:=(aaC.mp e1).1
      simp at this; omega
     subst this
     rw [hx,Nat.sub_self] at e1
     rw [hs] at e2
     cases e2; cases e1
     exact ⟨h0,h1⟩
   have md:∀ y:Int,0<=y % s/\y % s < s:=fun y=>⟨abL _ (by omega),abP _ hsp.1⟩
   have hz:(0:Int) + (i:Int)=(i:Int):=by omega
   rw [hz]
   have len:∀ z:Int,(xs ++ [z]).length=0 + i + 1:=fun z=>by rw [aal,hx]; simp
   by_cases h1:c < 1000000000000000000
   ·exact ⟨_,_,rfl,SU hsp.1 hat (by omega) (by omega) h1,left,xs ++ [E6 c i % s],some (.int i),o2,rfl,len _,fin _ (md _).1 (md _).2⟩
   ·by_cases h2:0 < left
    ·exact ⟨_,_,rfl,SV hsp.1 hat (by omega) (by omega) h1 h2 hsp.2,left / s,xs ++ [left % s],some (.int i),o2,rfl,len _,fin _ (md _).1 (md _).2⟩
    ·obtain ⟨q,hq⟩:=IR ns ((p + 1 + i) % 63) (abL _ (by decide))
     exact ⟨_,_,rfl,SW hsp.1 hat (by omega) (by omega) h1 h2 hq,left,xs ++ [E6 q i % s],some (.int i),some (.int q),rfl,len _,fin _ (md _).1 (md _).2⟩)
 refine ⟨xs,?_,by rw [hx,Gf]; omega,hb⟩
 have hr:=GH (a:=0) (b:=(S.length:Int)) (by omega) (by omega) (by omega) (by omega)
 refine (GF _ rfl).trans (AE ?_)
 simp -implicitDefEqProofs only [Pu.Au,aaM,aaf,aaV,aa2,B3,exs,ex,tv,ev,evs,evI,evBo,Dx,Dy,Res.bind_ok,Res.out_ok,Out.then_nxt,Out.then_ret,aa9,aa5,IS,IU,Cq,CS,Bu,BM,Cr,BN,DV,DW,DX,DY,CU,CV,BW,decide_true,decide_false,if_true,if_false,aaY,abl,abu,abq,evP,ixD,D0,EN,upd,Bh,aa3,acd,aan,abN,biD,CK,Cj,Cg,on1,on2,on3,CZ,Bz,DJ,Ch,Eo,Do,Ep,dI,dB,dS,dL,dT',un1,un0,Bw,CJ,E.isCN,Bf,reduceCtorEq,Int.reduceLT,Int.reduceLE,Int.reduceNeg,Int.reduceBEq,hc,aae,hr,e]
theorem Ma (i:Int):Ba.den [.int i]=.ok (.bl true):=rfl
theorem at0 (a b:D):atD [a,b] 0=.ok a:=rfl
theorem at1 (a b:D):atD [a,b] 1=.ok b:=rfl
theorem G6 {f:D->Res (Option D)} {g:D->Option D}:∀ {ds:List D},(∀ d ∈ ds,f d=.ok (g d))->AR f ds=.ok (ds.filterMap g)
 | [],_=>rfl
 | d :: ds,h=>by
  unfold AR
  rw [h d aab,G6 (ds:=ds) fun x hx=>h x (aaa _ hx)]
  show Res.ok _=_
  rw [aa6]
  cases g d <;> rfl
theorem Ey {nl:Nat} {fr:List Nat} {tg:Tg} {it:It} {elt:E} {δ:Fr} {ds:List D} {g:D->D} (hi:evI it δ=.ok ds) (h:∀ d ∈ ds,∃ δ',Bg tg d (blk nl fr δ)=some δ'/\ev elt δ'=.ok (g d)):ev (.comp0 nl fr tg it elt) δ=.ok (.lst (ds.map g)):=by
 rw [ev,hi,Res.bind_ok,G6 (g:=fun d=>some (g d)) (fun d hd=>by
  obtain ⟨δ',e1,e2⟩:=h d hd
  rw [e1]
  show (ev elt δ').bind _=_
  rw [e2]; rfl),Res.bind_ok,List.filterMap_eq_map']
theorem KP {b:Int} {d:D} (h:d ∈ Az 0 b):∃ i:Nat,d=.int i/\(i:Int) < b:=by
 obtain ⟨i,hi⟩:=abH h
 obtain ⟨rfl,h⟩:=Ex hi
 exact ⟨i,by rw [Int.zero_add],by omega⟩
theorem Bd (a b:List D) (h:a.length + b.length<=16777216):b2 .add (.lst a) (.lst b)=.ok (.lst (a ++ b)):=by
 show (if _ then _ else _)=_
 exact if_pos h
noncomputable def cnt (p f i:Nat):Nat:=(p + f ^ i - 1) / f ^ i
structure Hs (p f h:Nat):Prop where
 one:cnt p f h=1
 more:∀ i,i < h->1 < cnt p f i
noncomputable def mx (b:Nat->Bool):Nat->Nat
 | 0=>0
 | l + 1=>if b (l + 1) then l + 1 else mx b l
end Pu
end
section
open Pu
local macro_rules | `(tactic| simp_arith [$xs,*] $[at $h:ident]?)=>`(tactic| simp -implicitDefEqProofs only [Pu.Au,aaM,aaf,aaV,aa2,↓reduceIte,acn,Nat.reduceAdd,Nat.reduceSub,Int.cast_ofNat_Int,Int.reduceAdd,Int.reduceSub,Int.reduceMul,at0,at1,beq_self_eq_true,ace,abS,aa1,abc,Bool.and_false,exs,ex,tv,ev,evs,evI,evBo,Dx,Dy,Res.bind_ok,Res.out_ok,Out.then_nxt,Out.then_ret,aa9,aa5,IS,IU,Cq,CS,Bu,BM,Cr,BN,DV,DW,DX,DY,CU,CV,BW,decide_true,decide_false,if_true,if_false,aaY,abl,abu,abq,evP,ixD,D0,EN,upd,Bh,aa3,acd,aan,abN,biD,CK,Cj,Cg,on1,on2,on3,CZ,Bz,DJ,Ch,Eo,Do,Ep,dI,dB,dS,dL,dT',un1,un0,Bw,CJ,E.isCN,Bf,reduceCtorEq,Int.reduceLT,Int.reduceLE,Int.reduceNeg,Int.reduceBEq,$xs,*] $[at $h:ident]?)
namespace Pu
open PySem
noncomputable def lvD (p f h:Nat):List Nat:=(abg (h + 1)).map (cnt p f)
mutual
theorem IV:∀ {n:Nat} {d:D},D.shp n d=true->D.eqv d d=true
 | _,.non,_=>by simp [D.eqv]
 | _,.bl b,_=>by simp [D.eqv]
 | _,.int i,_=>by simp [D.eqv]
 | _,.str x,_=>by simp [D.eqv]
 | n + 1,.tup ds,h=>by rw [D.eqv]; exact eqvs_refl (n:=n) h
 | n + 1,.lst ds,h=>by rw [D.eqv]; exact eqvs_refl (n:=n) h
 | 0,.tup ds,h=>by cases h
 | 0,.lst ds,h=>by cases h
 | _,.exn _,h=>by simp [D.shp] at h
theorem eqvs_refl:∀ {n:Nat} {ds:List D},ds.all (D.shp n)=true->D.eqvs ds ds=true
 | _,[],_=>by simp [D.eqvs]
 | n,d :: ds,h=>by
  rw [aaE,aak] at h
  rw [D.eqvs,IV h.1,eqvs_refl h.2]; rfl
end
theorem KQ (d:D) (h:D.shp 8 d=true):c2 .ne d d=.ok (.bl false):=by
 show (if _ then _ else _)=_
 rw [h,IV h]; rfl
structure Sp (p f h:Nat):Prop where
 hf:2<=f
 hf8:f<=8
 hp:p<=200
 hh:h<=8
 hs:p=0\/Hs p f h
noncomputable def tl (tr:List (List Int)) (l j:Nat):Int:=(tr.getD l []).getD j 0
noncomputable def Dim (tr:List (List Int)) (p f h:Nat):Prop:=tr.map aaM=lvD p f h
theorem T0 {xs:List D} {i:Nat} (h:i < xs.length):atD xs (i:Int)=.ok xs[i]:=by
 unfold atD ixN
 rw [if_pos (by omega),if_pos (by omega)]
 simp [h]
theorem Cb {y:Int} {n:Nat} (hn:0 < n):∃ k:Nat,k < n/\y % (n:Int)=k:=by
 have h1:=abL y (show (n:Int) ≠ 0 by omega)
 have h2:=abP y (show 0 < (n:Int) by omega)
 exact ⟨(y % (n:Int)).toNat,by omega,by omega⟩
noncomputable def tx (l:List Nat):Str:=⟨l.toArray⟩
theorem E7 (a b:List Nat):tx a ++ tx b=tx (a ++ b):=by
 show (⟨a.toArray ++ b.toArray⟩:Str)=⟨(a ++ b).toArray⟩
 rw [List.append_toArray]
theorem Be (a:List Nat):(tx a).length=a.length:=rfl
theorem IW (a:List Nat):(tx a).cps.toList=a:=rfl
theorem GJ (a b:List Nat) (h:a.length + b.length<=16777216):b2 .add (.str (tx a)) (.str (tx b))=.ok (.str (tx (a ++ b))):=by
 show (if (tx a).length + (tx b).length<=LIM then Res.ok (D.str (tx a ++ tx b)) else .bad)=_
 rw [if_pos (by rw [Be,Be]; exact h),E7]
theorem DA:(" " : Str)=tx [32]:=by rw [Str.ofString_eq_toList]; rfl
theorem T3:(" / " : Str)=tx [32,47,32]:=by rw [Str.ofString_eq_toList]; rfl
theorem DB:(":" : Str)=tx [58]:=by rw [Str.ofString_eq_toList]; rfl
theorem NO:("" : Str)=tx []:=by rw [Str.ofString_eq_toList]; rfl
theorem IX:("-" : Str)=tx [45]:=by rw [Str.ofString_eq_toList]; rfl
noncomputable def Cu (n:Nat):List Nat:=(Nat.toDigits 10 n).map Char.toNat
theorem Mb {d:Nat} (h:d < 10):(Nat.digitChar d).toNat=48 + d:=by
 have:d=0\/d=1\/d=2\/d=3\/d=4\/d=5\/d=6\/d=7\/d=8\/d=9:=by omega
 rcases this with rfl | rfl | rfl | rfl | rfl | rfl | rfl | rfl | rfl | rfl <;> rfl
theorem Ee {n:Nat} (h:n < 10):Cu n=[48 + n]:=by
 unfold Cu
 rw [Nat.toDigits_of_lt_base h,aar,aa0,Mb h]
theorem Fv {n:Nat} (h:10<=n):Cu n=Cu (n / 10) ++ [48 + n % 10]:=by
 unfold Cu
 rw [Nat.toDigits_of_base_le (by decide) h,aan,aar,aa0,Mb (Nat.mod_lt _ (by decide))]
theorem NP (n:Nat):Str.ofString (toString (n:Int))=tx (Cu n):=by
 rw [Str.ofString_eq_toList]
 show (⟨((String.ofList (Nat.toDigits 10 n)).toList.map Char.toNat).toArray⟩:Str)=_
 rw [String.toList_ofList]
 rfl
theorem FR:∀ (k n:Nat),1<=k->n < 10 ^ k->1<=(Cu n).length/\(Cu n).length<=k
 | 0,n,h,_=>absurd h (by decide)
 | k + 1,n,_,h=>by
  by_cases c:n < 10
  ·rw [Ee c]; simp
  ·rw [Fv (by omega),aal]
   have hk:1<=k:=by
    cases k with
    | zero=>omega
    | succ k=>omega
   have:=FR k (n / 10) hk (by rw [Nat.pow_succ] at h; omega)
   simp; omega
theorem Fw:∀ (n:Nat),∀ c ∈ Cu n,c < 58
 | n=>by
  by_cases c:n < 10
  ·rw [Ee c]
   intro x hx
   simp at hx; omega
  ·rw [Fv (by omega)]
   intro x hx
   rcases aac.mp hx with hx | hx
   ·exact Fw (n / 10) x hx
   ·simp at hx; omega
theorem PQ {n:Nat} (h:n < 10 ^ 50):biD .str [.int (n:Int)]=.ok (.str (tx (Cu n))):=by
 rw [<- NP]
 show (if (n:Int).natAbs < _ then Res.ok (D.str (Str.ofString (toString (n:Int)))) else .bad)=_
 rw [if_pos (by rw [Int.natAbs_natCast]; exact Nat.lt_trans h (by decide))]
noncomputable def jo (sep:List Nat):List (List Nat)->List Nat
 | []=>[]
 | x :: r=>x ++ r.flatMap (sep ++ ·)
theorem GK (sep:List Nat):∀ ts:List (List Nat),(ts.flatMap (sep ++ ·)).drop sep.length=jo sep ts
 | []=>by simp [jo]
 | x :: r=>by
  rw [abC,abn,List.drop_left]; rfl
theorem Fx (sep:List Nat):∀ ts:List (List Nat),Str.join (tx sep) (ts.map tx)=tx (jo sep ts)
 | []=>rfl
 | [x]=>by show tx x=tx (x ++ []); rw [aaP]
 | x :: y :: r=>by
  have ih:=Fx sep (y :: r)
  show tx x ++ tx sep ++ Str.join (tx sep) ((y :: r).map tx)=_
  rw [ih,E7,E7]
  congr 1
  show x ++ sep ++ (y ++ r.flatMap (sep ++ ·))=x ++ ((sep ++ y) ++ r.flatMap (sep ++ ·))
  simp only [abn]
theorem IY:∀ ts:List (List Nat),Ci (ts.map fun t=>D.str (tx t))=some (ts.map tx)
 | []=>rfl
 | t :: r=>by
  rw [aar,Ci,IY r]; rfl
theorem IZ (sep:List Nat):∀ (ts:List (List Nat)) (n:Nat),(ts.map tx).foldl (fun n t=>n + t.length + (tx sep).length) n=n + (ts.flatMap (sep ++ ·)).length
 | [],n=>by simp
 | t :: r,n=>by
  rw [aar,abk,IZ sep r,abC,aal,aal,Be,Be]; omega
theorem Fy (sep:List Nat) (ts:List (List Nat)) (h:(ts.flatMap (sep ++ ·)).length<=16777216):Ii (.str (tx sep)) (.lst (ts.map fun t=>D.str (tx t)))=.ok (.str (tx (jo sep ts))):=by
 show (B5 (Ci (ts.map fun t=>D.str (tx t)))).bind _=_
 rw [IY]
 show (if (ts.map tx).foldl (fun n t=>n + t.length + (tx sep).length) 0<=LIM then Res.ok (D.str (Str.join (tx sep) (ts.map tx))) else .bad)=_
 rw [if_pos (by rw [IZ,acn]; exact h),Fx]
noncomputable def gI (r:Int):List Nat:=Cu r.toNat
noncomputable def Gd (r:Int):Prop:=0<=r/\r < 10000000000000000000000000
noncomputable def Okt (t:List Nat):Prop:=∀ c ∈ t,c < 1114112
noncomputable def fl (sep:List Nat) (ts:List (List Nat)):List Nat:=ts.flatMap (sep ++ ·)
theorem N9 {r:Int} (h:Gd r):r.toNat < 10 ^ 25:=by
 obtain ⟨h1,h2⟩:=h
 have:(10:Nat) ^ 25=10000000000000000000000000:=by decide
 omega
theorem Gg {r:Int} (h:Gd r):1<=(gI r).length/\(gI r).length<=25:=FR 25 _ (by decide) (N9 h)
theorem SX (r:Int):Okt (gI r):=fun c hc=>by have:=Fw r.toNat c hc; omega
theorem RI {r:Int} (h:Gd r):biD .str [.int r]=.ok (.str (tx (gI r))):=by
 have:=PQ (n:=r.toNat) (Nat.lt_trans (N9 h) (by decide))
 rw [acg h.1] at this
 exact this
theorem PR (sep:List Nat) (t:List Nat) (ts:List (List Nat)):fl sep (t :: ts)=sep ++ t ++ fl sep ts:=by
 unfold fl; rw [abC]
theorem Gh {sep:List Nat} {B:Nat}:∀ {ts:List (List Nat)},(∀ t ∈ ts,t.length<=B)->(fl sep ts).length<=ts.length * (sep.length + B)
 | [],_=>by simp [fl]
 | t :: r,h=>by
  have ih:=Gh (sep:=sep) (B:=B) (ts:=r) fun x hx=>h x (aaa _ hx)
  have:=h t aab
  rw [PR,aal,aal,aaS,acj]
  omega
theorem SY {sep:List Nat} (hs:Okt sep) {ts:List (List Nat)} (h:∀ t ∈ ts,Okt t):Okt (fl sep ts):=fun c hc=>by
 obtain ⟨t,ht,hc⟩:=List.mem_flatMap.mp hc
 rcases aac.mp hc with hc | hc
 ·exact hs c hc
 ·exact h t ht c hc
theorem Gi {sep:List Nat} (hs:Okt sep) {ts:List (List Nat)} (h:∀ t ∈ ts,Okt t):Okt (jo sep ts):=fun c hc=>by
 rw [<- GK] at hc
 exact SY hs h c (aaD hc)
theorem RJ {sep:List Nat} {B:Nat} {ts:List (List Nat)} (h:∀ t ∈ ts,t.length<=B):(jo sep ts).length<=ts.length * (sep.length + B):=by
 rw [<- GK,aaN]
 have:=Gh (sep:=sep) h
 unfold fl at this
 omega
theorem Ef {t:List Nat} (h:Okt t) (k:Nat):D.shp k (.str (tx t))=true:=by
 have e:(tx t).cps.all (· < 0x110000)=true:=by
  unfold tx
  rw [List.all_toArray,aaw]
  intro c hc
  exact decide_eq_true (h c hc)
 cases k <;> exact e
theorem I0 (a b:List Nat):(tx a==tx b)=(a==b):=by
 rw [ab3,beq_iff_eq,beq_iff_eq]
 constructor
 ·intro h
  have:=congrArg (fun z:Str=>z.cps.toList) h
  exact this
 ·intro h; rw [h]
theorem Mc {a b:List Nat} (ha:Okt a) (hb:Okt b):c2 .ne (.str (tx a)) (.str (tx b))=.ok (.bl (!(a==b))):=by
 show (if D.shp 8 (.str (tx a)) && D.shp 8 (.str (tx b)) then Res.ok (D.bl (!(tx a==tx b))) else .bad)=_
 rw [Ef ha,Ef hb,I0]; rfl
theorem RK {a:List Nat} (ha:Okt a):c2 .eq (.str (tx a)) (.str (tx a))=.ok (.bl true):=by
 show (if D.shp 8 (.str (tx a)) && D.shp 8 (.str (tx a)) then Res.ok (D.bl (tx a==tx a)) else .bad)=_
 rw [Ef ha,I0,beq_self_eq_true]; rfl
theorem CW:Okt [32]:=fun c hc=>by simp at hc; omega
theorem E8:Okt [58]:=fun c hc=>by simp at hc; omega
theorem Me:Okt [45]:=fun c hc=>by simp at hc; omega
theorem T4 {rs:List Int} (h:∀ r ∈ rs,Gd r):∀ t ∈ rs.map gI,t.length<=25:=fun t ht=>by
 obtain ⟨r,hr,rfl⟩:=aaG.mp ht
 exact (Gg (h r hr)).2
noncomputable def dgt (c:Nat):Bool:=decide (48<=c) && decide (c<=57)
noncomputable def dv (l:List Nat):Nat:=l.foldl (fun acc c=>acc * 10 + (c - 48)) 0
noncomputable def isN (l:List Nat):Bool:=decide (1<=l.length/\l.length<=20) && (l.all dgt && (l==[48] || !(l.head?==some 48)))
theorem KR:("0" : Str)=tx [48]:=by rw [Str.ofString_eq_toList]; rfl
theorem T5:("0123456789" : Str)=tx [48,49,50,51,52,53,54,55,56,57]:=by rw [Str.ofString_eq_toList]; rfl
theorem Gj:Okt [48]:=fun c hc=>by simp at hc; omega
theorem Ja {a b:List Nat} (ha:Okt a) (hb:Okt b):c2 .eq (.str (tx a)) (.str (tx b))=.ok (.bl (a==b)):=by
 show (if D.shp 8 (.str (tx a)) && D.shp 8 (.str (tx b)) then Res.ok (D.bl (tx a==tx b)) else .bad)=_
 rw [Ef ha,Ef hb,I0]; rfl
theorem Jb {l:List Nat} (h:l.length<=16777216):biD .lenS [.str (tx l)]=.ok (.int (l.length:Nat)):=by
 show (if (tx l).length<=LIM then Res.ok (D.int ((tx l).length:Nat)) else .bad)=_
 rw [if_pos (by rw [Be]; exact h),Be]
theorem Mf {l:List Nat} (h1:l.all dgt=true) (h2:l ≠ []) (h3:l.length<=640):biD .intS [.str (tx l)]=.ok (.int (dv l:Nat)):=by
 show (if ((tx l).cps.toList.all fun c=>decide (48<=c) && decide (c<=57))=true/\(tx l).cps.toList ≠ []/\(tx l).length<=640 then Res.ok (D.int (((tx l).cps.toList.foldl (fun acc c=>acc * 10 + (c - 48)) 0:Nat):Int)) else .bad)=_
 rw [if_pos ⟨h1,h2,h3⟩]; rfl
theorem Mg (n:Bool) (c:Nat):FI n (.str (tx [c])) (.str "0123456789")=.ok (.bl (dgt c != n)):=by
 rw [T5]
 show Res.ok (D.bl ((decide (c ∈ [48,49,50,51,52,53,54,55,56,57])) != n))=_
 have e:decide (c ∈ [48,49,50,51,52,53,54,55,56,57])=dgt c:=by
  unfold dgt
  rw [<- Bool.decide_and,decide_eq_decide]
  simp only [aah,abd,or_false]
  omega
 rw [e]
theorem Oa {l:List Nat} (h:l.length<=16777216):M0 (.str (tx l))=.ok (l.map fun c=>D.str (tx [c])):=by
 show (if (tx l).length<=LIM then Res.ok (DK (tx l)) else .bad)=_
 rw [if_pos (by rw [Be]; exact h)]; rfl
theorem RL {c:Nat} {r:List Nat} (h:(c :: r).length<=16777216):chD (.str (tx (c :: r))) (.int 0)=.ok (.str (tx [c])):=by
 show (if (tx (c :: r)).length<=LIM then (match (ixN (c :: r).length 0).bind (fun j=>(c :: r)[j]?) with | some c=>Res.ok (D.str ⟨#[c]⟩) | none=>.bad) else .bad)=_
 rw [if_pos (by rw [Be]; exact h)]
 unfold ixN
 rw [if_pos (by omega),if_pos (by simp)]
 rfl
theorem GL {α:Type} (g:α->Bool):∀ xs:List α,Ay (xs.map fun x=>D.bl (g x))=some (xs.map g)
 | []=>rfl
 | x :: r=>by rw [aar,Ay,GL g r]; rfl
theorem Hf {l:List Nat} (ok:Okt l) (hl:l.length<=16777216):Dv.den [.str (tx l)]=.ok (.bl (isN l)):=by
 have h1:=Jb hl
 have hg:=Oa hl
 have hc:=Ey (nl:=1) (fr:=[]) (tg:=.nm 0) (it:=.chs (.nm 0)) (elt:=.inT false (.nm 0) (.gl "FIGURES" (.str "0123456789"))) (δ:=[some (.str (tx l))]) (ds:=l.map fun c=>D.str (tx [c])) (g:=fun d=>match d with | .str z=>.bl (z.cps.toList.all dgt) | d=>d) (by
   rw [evI]
   show (Res.ok (D.str (tx l))).bind M0=_
   exact hg) (fun d hd=>by
  obtain ⟨c,_,rfl⟩:=aaG.mp hd
  refine ⟨[some (.str (tx [c]))],rfl,?_⟩
  have e:=Mg false c
  have e2:ev (.inT false (.nm 0) (.gl "FIGURES" (.str "0123456789"))) [some (.str (tx [c]))]=FI false (.str (tx [c])) (.str "0123456789"):=rfl
  rw [e2,e]
  show Res.ok (D.bl (dgt c != false))=Res.ok (D.bl (dgt c && true))
  cases dgt c <;> rfl)
 rw [aaH] at hc
 have hm:(l.map ((fun d=>match d with | .str z=>D.bl (z.cps.toList.all dgt) | d=>d) ∘ fun c=>D.str (tx [c])))=l.map fun c=>D.bl (dgt c):=abb fun c _=>by
  show D.bl (dgt c && true)=_
  rw [abS]
 rw [hm] at hc
 have h5:biD .all [.lst (l.map fun c=>D.bl (dgt c))]=.ok (.bl (l.all dgt)):=by
  show (B5 (Ay (l.map fun c=>D.bl (dgt c)))).bind (fun bs=>Res.ok (D.bl (bs.all id)))=_
  rw [GL]
  show Res.ok (D.bl ((l.map dgt).all id))=_
  rw [ack]; rfl
 refine (IP _ rfl).trans (AE ?_)
 unfold isN
 clear hm hg
 generalize hE:E.comp0 1 [] (.nm 0) (.chs (.nm 0)) (.inT false (.nm 0) (.gl "FIGURES" (.str "0123456789")))=EE at *
 rw [CM,hE]
 have eL:∀ δ,ev (.bi .lenS (.cons (.nm 0) .nil)) (some (D.str (tx l)) :: δ)=.ok (.int (l.length:Nat)):=fun δ=>h1
 have eA:ev (.bi .all (.cons EE .nil)) [some (.str (tx l))]=.ok (.bl (l.all dgt)):=by
  show ((ev EE [some (.str (tx l))]).bind fun x=>(Res.ok []).bind fun xs=>Res.ok (x :: xs)).bind (fun ds=>biD .all ds)=_
  rw [hc]; exact h5
 have eA':ev (.not (.bi .all (.cons EE .nil))) [some (.str (tx l))]=.ok (.bl (!(l.all dgt))):=by
  rw [ev,eA]; rfl
 clear hc hE eA
 generalize hL:E.bi .lenS (.cons (.nm 0) .nil)=EL at *
 generalize hT:E.not (.bi .all (.cons EE .nil))=NT at *
 by_cases c1:1<=l.length/\l.length<=20
 ·obtain ⟨c,r,rfl⟩:∃ c r,l=c :: r:=by
   cases l with
   | nil=>exact absurd c1.1 (by decide)
   | cons c r=>exact ⟨c,r,rfl⟩
  have h0:=RL hl
  have q1:=Ja ok Gj
  have q2:=Mc (a:=[c]) (b:=[48]) (fun x hx=>ok x (by simp at hx; simp [hx])) Gj
  rw [<- KR] at q1 q2
  rw [decide_eq_true c1,aa1]
  have d1:(1:Int)<=((c :: r).length:Nat):=by omega
  have d2:(((c :: r).length:Nat):Int)<=20:=by omega
  have ehd:([c]==[48])=((c :: r).head?==some 48):=by
   show ([c]==[48])=(some c==some 48)
   rw [ab3,beq_iff_eq,beq_iff_eq]
   simp
  rw [ehd] at q2
  cases ca:(c :: r).all dgt with
  | false =>
   rw [ca] at eA'
   have eA':ev NT [some (.str (tx (c :: r)))]=.ok (.bl true):=eA'
   rw [abc]
   generalize (((c :: r).length:Nat):Int)=LN at *
   generalize tx (c :: r)=T at *
   simp_arith [eL,d1,d2,eA']
  | true =>
   rw [ca] at eA'
   have eA':ev NT [some (.str (tx (c :: r)))]=.ok (.bl false):=eA'
   rw [aa1]
   generalize (((c :: r).length:Nat):Int)=LN at *
   generalize ((c :: r).head?==some 48)=HB at *
   generalize ((c :: r)==[48])=ZB at *
   generalize tx (c :: r)=T at *
   generalize tx [c]=C at *
   cases ZB <;> cases HB
   ·simp_arith [eL,d1,d2,eA',q1,h0,q2,abR]
   ·simp_arith [eL,d1,d2,eA',q1,h0,q2,abR]
   ·simp_arith [eL,d1,d2,eA',q1,aco]
   ·simp_arith [eL,d1,d2,eA',q1,aco]
 ·rw [decide_eq_false c1,abc]
  by_cases cc:1<=l.length
  ·have d1:(1:Int)<=(l.length:Nat):=by omega
   have d2:¬ ((l.length:Nat):Int)<=20:=by omega
   generalize ((l.length:Nat):Int)=LN at *
   generalize tx l=T at *
   simp_arith [eL,d1,d2]
  ·have d1:¬ (1:Int)<=(l.length:Nat):=by omega
   generalize ((l.length:Nat):Int)=LN at *
   generalize tx l=T at *
   simp_arith [eL,d1]
theorem RM {l:List Nat} (h:isN l=true):(1<=l.length/\l.length<=20)/\l.all dgt=true/\(l==[48] || !(l.head?==some 48))=true:=by
 unfold isN at h
 rw [aak,aak,decide_eq_true_eq] at h
 exact h
theorem Cv {l:List Nat} (ok:Okt l) (hl:l.length<=16777216):A8.den [.str (tx l)]=if isN l=true then .ok (.int (dv l:Nat)) else .exc 16:=by
 have h1:=Hf ok hl
 by_cases c:isN l=true
 ·rw [if_pos c]
  rw [c] at h1
  obtain ⟨⟨g1,g2⟩,g3,_⟩:=RM c
  have h2:=Mf g3 (fun z=>by subst z; exact absurd g1 (by decide)) (by omega)
  have h2:ev (.bi .intS (.cons (.nm 0) .nil)) [some (.str (tx l))]=.ok (.int (dv l:Nat)):=h2
  refine (Ed _ rfl).trans (AE ?_)
  generalize hI:E.bi .intS (.cons (.nm 0) .nil)=EI at *
  rw [Bq,hI]
  generalize tx l=T at *
  simp_arith [h1,h2]
 ·rw [if_neg c]
  have c:isN l=false:=by simpa using c
  rw [c] at h1
  generalize tx l=T at *
  refine (Ed _ rfl).trans (Di (δ:=[some (.str T)]) ?_)
  simp_arith [Bq,h1,Out.then_exc]
theorem Jc (T:D):∀ (l:List Nat) (o1:Option D),∃ p1,AN (.nm 1) (exs Aw) (l.map fun c=>D.str (tx [c])) [some T,o1]=if l.all dgt=true then .nxt [some T,p1] else .ret .non
 | [],o1=>⟨o1,rfl⟩
 | c :: r,o1=>by
  obtain ⟨p1,ih⟩:=Jc T r (some (.str (tx [c])))
  refine ⟨p1,?_⟩
  rw [aar,AN]
  show (exs Aw [some T,some (.str (tx [c]))]).then _=_
  have e:=Mg true c
  cases cd:dgt c with
  | true =>
   rw [cd] at e
   have e:FI true (.str (tx [c])) (.str "0123456789")=.ok (.bl false):=e
   have st:exs Aw [some T,some (.str (tx [c]))]=.nxt [some T,some (.str (tx [c]))]:=by
    generalize tx [c]=C at *
    simp_arith [Aw,e]
   rw [st,Out.then_nxt,ih,aaE,cd,aa1]
  | false =>
   rw [cd] at e
   have e:FI true (.str (tx [c])) (.str "0123456789")=.ok (.bl true):=e
   have st:exs Aw [some T,some (.str (tx [c]))]=.ret .non:=by
    generalize tx [c]=C at *
    simp_arith [Aw,e]
   rw [st,Out.then_ret,aaE,cd,abc]
   rfl
theorem GM {l:List Nat} (ok:Okt l) (hl:l.length<=16777216):A4.den [.str (tx l)]=.ok (if isN l=true then .int (dv l:Nat) else .non):=by
 have h1:=Jb hl
 have eL:∀ δ,ev (.bi .lenS (.cons (.nm 0) .nil)) (some (D.str (tx l)) :: δ)=.ok (.int (l.length:Nat)):=fun δ=>h1
 have eI:∀ δ,l.all dgt=true->l ≠ []->l.length<=640->ev (.bi .intS (.cons (.nm 0) .nil)) (some (D.str (tx l)) :: δ)=.ok (.int (dv l:Nat)):=fun δ a b c=>Mf a b c
 have hg:=Oa hl
 obtain ⟨p1,hlo⟩:=Jc (.str (tx l)) l none
 refine (Hd _ rfl).trans (AE ?_)
 rw [Cm]
 by_cases c1:1<=l.length/\l.length<=20
 ·obtain ⟨c,r,rfl⟩:∃ c r,l=c :: r:=by
   cases l with
   | nil=>exact absurd c1.1 (by decide)
   | cons c r=>exact ⟨c,r,rfl⟩
  have h0:=RL hl
  have q2:=Ja (a:=[c]) (b:=[48]) (fun x hx=>ok x (by simp at hx; simp [hx])) Gj
  rw [<- KR] at q2
  have d1:(1:Int)<=((c :: r).length:Nat):=by omega
  have d2:(((c :: r).length:Nat):Int)<=20:=by omega
  have ehd:([c]==[48])=decide (c=48):=by
   rw [ab3,beq_iff_eq,decide_eq_true_eq]; simp
  rw [ehd] at q2
  have eN:isN (c :: r)=((c :: r).all dgt && !(decide (c=48) && decide (1 < (c :: r).length))):=by
   unfold isN
   rw [decide_eq_true c1,aa1]
   congr 1
   by_cases z:c=48
   ·subst z
    cases r with
    | nil=>rfl
    | cons x y =>
     rw [decide_eq_true rfl,decide_eq_true (by simp)]
     show ((48 :: x :: y==[48]) || !(some 48==some 48))=false
     rw [beq_self_eq_true,beq_eq_false_iff_ne.mpr (by simp)]; rfl
   ·rw [decide_eq_false z]
    show ((c :: r==[48]) || !(some c==some 48))=true
    rw [show (some c==some 48)=false from beq_eq_false_iff_ne.mpr (fun h=>z (Option.some.inj h))]
    simp
  have ei:=fun h=>eI [p1] h (by simp) (by omega)
  generalize hI:E.bi .intS (.cons (.nm 0) .nil)=EI at *
  generalize hL:E.bi .lenS (.cons (.nm 0) .nil)=EL at *
  rw [eN]
  by_cases z:c=48/\1 < (c :: r).length
  ·have z2:(1:Int) < ((c :: r).length:Nat):=by omega
   rw [decide_eq_true z.1,decide_eq_true z.2,if_neg (by simp)]
   rw [decide_eq_true z.1] at q2
   clear hlo hg ei eN
   generalize (((c :: r).length:Nat):Int)=LN at *
   generalize tx (c :: r)=T at *
   generalize tx [c]=C at *
   simp_arith [eL,d1,d2,h0,q2,z2]
  ·have e0:(decide (c=48) && decide (1 < (c :: r).length))=false:=by
    rw [<- Bool.decide_and]; exact decide_eq_false z
   rw [e0,abq,abS]
   cases ca:(c :: r).all dgt with
   | true =>
    rw [ca,if_pos rfl] at hlo
    have ei:=ei ca
    rw [if_pos rfl]
    clear eN eI
    by_cases z1:c=48
    ·rw [decide_eq_true z1] at q2
     have z2:¬ (1:Int) < ((c :: r).length:Nat):=by omega
     generalize (((c :: r).length:Nat):Int)=LN at *
     generalize ((dv (c :: r):Nat):Int)=V at *
     generalize (c :: r).map (fun c=>D.str (tx [c]))=SG at *
     generalize tx (c :: r)=T at *
     generalize tx [c]=C at *
     simp_arith [eL,d1,d2,h0,q2,z2,hg,hlo,ei]
    ·rw [decide_eq_false z1] at q2
     generalize (((c :: r).length:Nat):Int)=LN at *
     generalize ((dv (c :: r):Nat):Int)=V at *
     generalize (c :: r).map (fun c=>D.str (tx [c]))=SG at *
     generalize tx (c :: r)=T at *
     generalize tx [c]=C at *
     simp_arith [eL,d1,d2,h0,q2,hg,hlo,ei]
   | false =>
    rw [ca,if_neg (by decide)] at hlo
    rw [if_neg (by decide)]
    clear eN eI ei
    by_cases z1:c=48
    ·rw [decide_eq_true z1] at q2
     have z2:¬ (1:Int) < ((c :: r).length:Nat):=by omega
     generalize (((c :: r).length:Nat):Int)=LN at *
     generalize (c :: r).map (fun c=>D.str (tx [c]))=SG at *
     generalize tx (c :: r)=T at *
     generalize tx [c]=C at *
     simp_arith [eL,d1,d2,h0,q2,z2,hg,hlo]
    ·rw [decide_eq_false z1] at q2
     generalize (((c :: r).length:Nat):Int)=LN at *
     generalize (c :: r).map (fun c=>D.str (tx [c]))=SG at *
     generalize tx (c :: r)=T at *
     generalize tx [c]=C at *
     simp_arith [eL,d1,d2,h0,q2,hg,hlo]
 ·have eN:isN l=false:=by unfold isN; rw [decide_eq_false c1,abc]
  rw [eN,if_neg (by decide)]
  clear eI hlo hg
  generalize hL:E.bi .lenS (.cons (.nm 0) .nil)=EL at *
  by_cases cc:1<=l.length
  ·have d1:(1:Int)<=(l.length:Nat):=by omega
   have d2:¬ ((l.length:Nat):Int)<=20:=by omega
   generalize ((l.length:Nat):Int)=LN at *
   generalize tx l=T at *
   simp_arith [eL,d1,d2]
  ·have d1:¬ (1:Int)<=(l.length:Nat):=by omega
   generalize ((l.length:Nat):Int)=LN at *
   generalize tx l=T at *
   simp_arith [eL,d1]
noncomputable def sp (l sep:List Nat):List (List Nat):=(Txt.split (tx l) (tx sep)).map fun z=>z.cps.toList
theorem SZ (z:Str):tx z.cps.toList=z:=by
 obtain ⟨a⟩:=z
 show (⟨a.toList.toArray⟩:Str)=⟨a⟩
 rw [Array.toArray_toList]
theorem Jd (l sep:List Nat):(sp l sep).map tx=Txt.split (tx l) (tx sep):=by
 unfold sp
 rw [aaH]
 exact (abb fun z _=>SZ z).trans (List.map_id _)
theorem RN (z:Str) (i j:Nat):(∀ c ∈ (Builtin.Str.strSub z i j).cps.toList,c ∈ z.cps.toList)/\(Builtin.Str.strSub z i j).cps.toList.length<=z.cps.toList.length:=by
 have e:(Builtin.Str.strSub z i j).cps.toList=(z.cps.toList.drop i).take (j - i):=by
  unfold Builtin.Str.strSub
  simp
 rw [e]
 refine ⟨fun c hc=>aaD (aaJ hc),?_⟩
 rw [aaQ,aaN]; omega
theorem Bm (l sep:List Nat):(∀ w ∈ sp l sep,(∀ c ∈ w,c ∈ l)/\w.length<=l.length)/\(sp l sep).length<=l.length + 2/\sp l sep ≠ []:=by
 have key:Txt.split (tx l) (tx sep)=[tx l]\/∃ cuts:List Nat,cuts.length<=l.length + 1/\Txt.split (tx l) (tx sep)=Builtin.Str.partsBetween (tx l) cuts (tx sep).length:=by
  unfold Txt.split
  split
  ·exact .inl rfl
  ·split
   ·exact .inl rfl
   ·exact .inr ⟨_,StrLaws.occ_length_le _ _ _ _ _,rfl⟩
 unfold sp
 rcases key with e | ⟨cuts,hc,e⟩
 ·rw [e]
  refine ⟨fun w hw=>?_,by simp,by simp⟩
  simp only [aar,aa0,aaz] at hw
  rw [hw,IW]
  exact ⟨fun c hc=>hc,aaj _⟩
 ·rw [e]
  refine ⟨fun w hw=>?_,?_,?_⟩
  ·obtain ⟨z,hz,rfl⟩:=aaG.mp hw
   unfold Builtin.Str.partsBetween at hz
   obtain ⟨⟨i,j⟩,_,rfl⟩:=aaG.mp hz
   exact RN (tx l) i j
  ·rw [aae,length_partsBetween]; omega
  ·intro h
   have:=congrArg aaM h
   rw [aae,length_partsBetween] at this
   simp at this
theorem Dj {l sep:List Nat} (hs:sep ≠ []) (hl:l.length<=1000000):Q0 (.str (tx l)) (.str (tx sep))=.ok (.lst ((sp l sep).map fun w=>D.str (tx w))):=by
 have h1:=(Bm l sep).2.1
 have h2:(Txt.split (tx l) (tx sep)).length=(sp l sep).length:=by unfold sp; rw [aae]
 have e:(sp l sep).map (fun w=>D.str (tx w))=(Txt.split (tx l) (tx sep)).map D.str:=by rw [<- Jd,aaH]; rfl
 rw [e]
 refine if_pos ⟨?_,?_,?_⟩
 ·rw [Be]; exact fun z=>hs (abZ.mp z)
 ·rw [Be]; show l.length<=16777216; omega
 ·rw [h2]; show _<=16777216; omega
theorem Gk {l sep:List Nat} (h:Okt l):∀ w ∈ sp l sep,Okt w:=fun w hw c hc=>h c (((Bm l sep).1 w hw).1 c hc)
theorem RP {l sep:List Nat} (h:l.length<=1000000):∀ w ∈ sp l sep,w.length<=1000000:=fun w hw=>aao ((Bm l sep).1 w hw).2 h
theorem Mh {F:D->Res D} {p:D->Bool} {g:D->D} {c:Nat}:∀ {ds:List D},(∀ d ∈ ds,F d=if p d=true then .ok (g d) else .exc c)->BI F ds=if ds.all p=true then .ok (ds.map g) else .exc c
 | [],_=>rfl
 | d :: ds,h=>by
  have h1:=h d (aab ..)
  have h2:=Mh (ds:=ds) fun e he=>h e (aaa _ he)
  rw [BI,h1,h2,aaE]
  by_cases c1:p d=true
  ·rw [if_pos c1,c1,aa1,Res.bind_ok]
   by_cases c2:ds.all p=true
   ·rw [if_pos c2,if_pos c2]; rfl
   ·rw [if_neg c2,if_neg c2]; rfl
  ·have e:(p d && ds.all p)=false:=by
    rw [show p d=false by simpa using c1]; rfl
   rw [if_neg c1,e]
   rfl
theorem NQ {nl:Nat} {fr:List Nat} {tg:Tg} {it:It} {elt:E} {δ:Fr} {ds:List D} {p:D->Bool} {g:D->D} {c:Nat} (hi:evI it δ=.ok ds) (h:∀ d ∈ ds,∃ δ',Bg tg d (blk nl fr δ)=some δ'/\ev elt δ'=if p d=true then .ok (g d) else .exc c) :
  ev (.compX nl fr tg it elt) δ=if ds.all p=true then .ok (.lst (ds.map g)) else .exc c:=by
 rw [ev,hi,Res.bind_ok,Mh (p:=p) (g:=g) (c:=c) (fun d hd=>by
  obtain ⟨δ',h1,h2⟩:=h d hd
  rw [h1]; exact h2)]
 by_cases c2:ds.all p=true
 ·rw [if_pos c2,if_pos c2]; rfl
 ·rw [if_neg c2,if_neg c2]; rfl
noncomputable def nz (ws:List (List Nat)):List Int:=ws.map fun w=>(dv w:Int)
structure Tx (l:List Nat):Prop where
 ok:Okt l
 len:l.length<=1000000
theorem Tx.part {l sep w:List Nat} (h:Tx l) (hw:w ∈ sp l sep):Tx w:=⟨Gk h.ok w hw,RP h.len w hw⟩
noncomputable def AL (w:List Nat):D:=if isN w=true then .int (dv w:Nat) else .non
theorem NR {ws:List (List Nat)} (h:ws.all isN=true):ws.map AL=(nz ws).map D.int:=by
 unfold nz
 rw [aaH]
 apply abb
 intro w hw
 exact if_pos (aaw.mp h w hw)
theorem RQ (l:List Nat):BZ.den [.str (tx l)]=.ok .non:=by
 refine (Ez _ rfl).trans ?_
 generalize tx l=T
 simp_arith [run,BA]
theorem S0:atD [D.str "odd",D.str "refused"] 1=.ok (.str "refused"):=rfl
theorem RS:("refused" : Str)=tx [114,101,102,117,115,101,100]:=by rw [Str.ofString_eq_toList]; rfl
theorem Je:Okt [114,101,102,117,115,101,100]:=fun c hc=>by simp at hc; omega
theorem S5:c2 .eq (.str "refused") (.str "refused")=.ok (.bl true):=by rw [RS]; exact RK Je
theorem S6:c2 .ne (.str "refused") (.str "refused")=.ok (.bl false):=by
 rw [RS,Mc Je Je]; simp
theorem RT (d:D):atD [d] 0=.ok d:=rfl
theorem Jf (l sep:List Nat):((sp l sep).map aaM).sum<=l.length:=by
 have one:∀ P:List Str,P=[tx l]->((P.map fun z=>z.cps.toList).map aaM).sum<=l.length:=fun P e=>by
  subst e
  simp [IW]
 unfold sp
 unfold Txt.split
 split
 ·exact one _ rfl
 ·split
  ·exact one _ rfl
  ·have h1:=StrLaws.glued_between_self (tx l) (tx sep) ((tx l).length + 1)
   have h2:=size_glued (tx sep) (Builtin.Str.partsBetween (tx l) (Builtin.Str.occurrences (tx l) (tx sep) 0 (tx l).length ((tx l).length + 1)) (tx sep).length)
   rw [h1] at h2
   rw [aaH]
   have e:(aaM ∘ fun z:Str=>z.cps.toList)=fun z=>z.length:=by
    funext z
    show z.cps.toList.length=z.cps.size
    simp
   rw [e]
   have h3:(tx l).length=l.length:=rfl
   omega
theorem Gm (sep:List Nat):∀ ts:List (List Nat),(ts.flatMap (sep ++ ·)).length=ts.length * sep.length + (ts.map aaM).sum
 | []=>by simp
 | t :: ts=>by
  rw [abC,aal,Gm sep ts,aal,aar,aby,aaS,Nat.add_mul]
  omega
theorem Jg (sep:List Nat) (ts:List (List Nat)):(jo sep ts).length<=ts.length * sep.length + (ts.map aaM).sum:=by
 rw [<- GK,aaN,Gm]
 omega
theorem Hx {sep:List Nat} (hs:Okt sep) (h8:sep.length<=3) {ts:List (List Nat)} (ok:∀ w ∈ ts,Okt w) (hb:ts.length * sep.length + (ts.map aaM).sum<=1000000):∃ u,Tx u/\Ii (.str (tx sep)) (.lst (ts.map fun t=>D.str (tx t)))=.ok (.str (tx u)):=by
 refine ⟨jo sep ts,⟨Gi hs ok,aao (Jg sep ts) hb⟩,Fy sep ts ?_⟩
 rw [Gm]
 exact aao hb (by decide)
theorem G7 {α:Type} (t:List α) (k:Nat):cut t none (some (k:Int))=t.take k:=by
 unfold cut sIx
 simp only [ab7,Nat.sub_zero]
 rw [if_neg (by omega)]
 by_cases c:k<=t.length
 ·rw [show (min (k:Int) (t.length:Int)).toNat=k by omega]
 ·rw [show (min (k:Int) (t.length:Int)).toNat=t.length by omega,List.take_length,abe (by omega)]
theorem G8 {α:Type} (t:List α) (k:Nat):cut t (some (k:Int)) none=t.drop k:=by
 unfold cut sIx
 simp only
 rw [if_neg (by omega)]
 by_cases c:k<=t.length
 ·rw [show (min (k:Int) (t.length:Int)).toNat=k by omega,abe (by rw [aaN]; omega)]
 ·rw [show (min (k:Int) (t.length:Int)).toNat=t.length by omega,abE,List.drop_of_length_le (by omega)]; simp
theorem GN {t:List Nat} (h:t.length<=16777216) (k:Nat):Ff (.str (tx t)) none (some (k:Int))=.ok (.str (tx (t.take k))):=by
 have e:Ff (.str (tx t)) none (some (k:Int))=.ok (.str (tx (cut t none (some (k:Int))))):=if_pos h
 rw [e,G7]
theorem E9 {t:List Nat} (h:t.length<=16777216) (k:Nat):Ff (.str (tx t)) (some (k:Int)) none=.ok (.str (tx (t.drop k))):=by
 have e:Ff (.str (tx t)) (some (k:Int)) none=.ok (.str (tx (cut t (some (k:Int)) none))):=if_pos h
 rw [e,G8]
theorem Dk (ws:List (List Nat)) (k:Nat):Bf (.lst (ws.map fun w=>D.str (tx w))) none (some (k:Int))=.ok (.lst ((ws.take k).map fun w=>D.str (tx w))):=by
 show Res.ok (D.lst (cut _ none (some (k:Int))))=_
 rw [G7,abw]
theorem Cc (ws:List (List Nat)) (k:Nat):Bf (.lst (ws.map fun w=>D.str (tx w))) (some (k:Int)) none=.ok (.lst ((ws.drop k).map fun w=>D.str (tx w))):=by
 show Res.ok (D.lst (cut _ (some (k:Int)) none))=_
 rw [G8,abx]
theorem AF {a b:List Nat} (ha:Okt a) (hb:Okt b):Okt (a ++ b):=fun c hc=>by
 rcases aac.mp hc with h | h
 ·exact ha c h
 ·exact hb c h
theorem FS {a:List Nat} (ha:Okt a) (k:Nat):Okt (a.take k):=fun c hc=>ha c (aaJ hc)
theorem FT {a:List Nat} (ha:Okt a) (k:Nat):Okt (a.drop k):=fun c hc=>ha c (aaD hc)
theorem Mi {l:List Nat} (hl:l.length<=16777216) {k:Nat} (h:k < l.length):∃ c,c ∈ l/\chD (.str (tx l)) (.int (k:Int))=.ok (.str (tx [c])):=by
 refine ⟨l[k],abt h,?_⟩
 have e:chD (.str (tx l)) (.int (k:Int))=(match (ixN l.length (k:Int)).bind (fun j=>l[j]?) with | some c=>Res.ok (D.str ⟨#[c]⟩) | none=>.bad):=if_pos hl
 rw [e]
 have e2:(ixN l.length (k:Int)).bind (fun j=>l[j]?)=some l[k]:=by
  unfold ixN
  rw [if_pos (by omega),if_pos (by omega),abp]
  exact aam h
 rw [e2]
 rfl
theorem Gn {ws:List (List Nat)} {k:Nat} (h:k < ws.length):∃ w,w ∈ ws/\atD (ws.map fun w=>D.str (tx w)) (k:Int)=.ok (.str (tx w)):=by
 refine ⟨ws[k],abt h,?_⟩
 unfold atD ixN
 rw [if_pos (by omega),if_pos (by simp; omega),abp]
 show (match (ws.map fun w=>D.str (tx w))[k]? with | some d=>Res.ok d | none=>.bad)=_
 rw [aau,aam h]; rfl
noncomputable def DC:List (List Nat):=[[48,53],[43,53],[45,53],[49,95,48],[49,46,48],[],[48,48],[45],[120],[53,120],aaf 21 49,aaf 20 57,49 :: aaf 18 48]
noncomputable def DD:List (List Nat):=[49 :: (aaf 17 48 ++ [49]),49 :: (aaf 18 48 ++ [49]),[47],[58],[48,120,49],[49,101,51],[49,44,48]]
noncomputable def C5:List Nat:=(" !#$&'()*+,-./0123456789:;<=>?@ABCDEFGHIJKLMNOPQRSTUVWXYZ[]^_`abcdefghijklmnopqrstuvwxyz{|}~".toList).map Char.toNat
noncomputable def oE1:Es:=.cons (.cS "05") (.cons (.cS "+5") (.cons (.cS "-5") (.cons (.cS "1_0") (.cons (.cS "1.0") (.cons (.cS "") (.cons (.cS "00") (.cons (.cS "-") (.cons (.cS "x") (.cons (.cS "5x") (.cons (.rep "1" 21) (.cons (.rep "9" 20) (.cons (.bin .add (.cS "1") (.rep "0" 18)) .nil))))))))))))
noncomputable def oE2:Es:=.cons (.bin .add (.bin .add (.cS "1") (.rep "0" 17)) (.cS "1")) (.cons (.bin .add (.bin .add (.cS "1") (.rep "0" 18)) (.cS "1")) (.cons (.cS "/") (.cons (.cS ":") (.cons (.cS "0x1") (.cons (.cS "1e3") (.cons (.cS "1,0") .nil))))))
theorem Fa (c n:Nat) (h1:2<=n) (h2:n<=100) (δ:Fr):ev (.rep (tx [c]) n) δ=.ok (.str (Gy (tx [c]) n)):=if_pos ⟨h1,by rw [Be]; simp,by rw [Be]; show 1 * n<=16777216; omega⟩
theorem s_1:("1" : Str)=tx [49]:=by rw [Str.ofString_eq_toList]; rfl
theorem s_9:("9" : Str)=tx [57]:=by rw [Str.ofString_eq_toList]; rfl
theorem s_0:("0" : Str)=tx [48]:=by rw [Str.ofString_eq_toList]; rfl
theorem S7:Gy (tx [49]) 21=tx (aaf 21 49):=rfl
theorem S8:Gy (tx [57]) 20=tx (aaf 20 57):=rfl
theorem Ob:Gy (tx [48]) 18=tx (aaf 18 48):=rfl
theorem S9:Gy (tx [48]) 17=tx (aaf 17 48):=rfl
theorem PU (δ:Fr):evs oE1 δ=.ok (DC.map fun w=>D.str (tx w)):=by
 have a:=Fa 49 21 (by decide) (by decide) δ
 have b:=Fa 57 20 (by decide) (by decide) δ
 have c:=Fa 48 18 (by decide) (by decide) δ
 have e:=GJ [49] (aaf 18 48) (by decide)
 rw [S7] at a
 rw [S8] at b
 rw [Ob] at c
 rw [<- s_1] at a e
 rw [<- s_9] at b
 rw [<- s_0] at c
 have q1:("05" : Str)=tx [48,53]:=by rw [Str.ofString_eq_toList]; rfl
 have q2:("+5" : Str)=tx [43,53]:=by rw [Str.ofString_eq_toList]; rfl
 have q3:("-5" : Str)=tx [45,53]:=by rw [Str.ofString_eq_toList]; rfl
 have q4:("1_0" : Str)=tx [49,95,48]:=by rw [Str.ofString_eq_toList]; rfl
 have q5:("1.0" : Str)=tx [49,46,48]:=by rw [Str.ofString_eq_toList]; rfl
 have q7:("00" : Str)=tx [48,48]:=by rw [Str.ofString_eq_toList]; rfl
 have q9:("x" : Str)=tx [120]:=by rw [Str.ofString_eq_toList]; rfl
 have q10:("5x" : Str)=tx [53,120]:=by rw [Str.ofString_eq_toList]; rfl
 unfold oE1 DC
 rw [q1,q2,q3,q4,q5,NO,q7,IX,q9,q10]
 simp_arith [a,b,c,e]
 rfl
theorem PV (δ:Fr):evs oE2 δ=.ok (DD.map fun w=>D.str (tx w)):=by
 have b:=Fa 48 17 (by decide) (by decide) δ
 have c:=Fa 48 18 (by decide) (by decide) δ
 have e:=GJ [49] (aaf 18 48) (by decide)
 have e2:=GJ ([49] ++ aaf 18 48) [49] (by decide)
 have e3:=GJ [49] (aaf 17 48) (by decide)
 have e4:=GJ ([49] ++ aaf 17 48) [49] (by decide)
 rw [S9] at b
 rw [Ob] at c
 rw [<- s_1] at e e2 e3 e4
 rw [<- s_0] at b c
 have q5:("/" : Str)=tx [47]:=by rw [Str.ofString_eq_toList]; rfl
 have q7:("0x1" : Str)=tx [48,120,49]:=by rw [Str.ofString_eq_toList]; rfl
 have q9:("1e3" : Str)=tx [49,101,51]:=by rw [Str.ofString_eq_toList]; rfl
 have q10:("1,0" : Str)=tx [49,44,48]:=by rw [Str.ofString_eq_toList]; rfl
 unfold oE2 DD
 rw [q5,DB,q7,q9,q10]
 generalize tx ([49] ++ aaf 18 48)=A at *
 generalize tx ([49] ++ aaf 17 48)=B at *
 simp_arith [b,c,e,e2,e3,e4]
 rfl
theorem Cd:∀ w ∈ DC ++ DD,Okt w/\w.length<=30:=by
 have k:(DC ++ DD).all (fun w=>w.all (fun c=>decide (c < 1114112)) && decide (w.length<=30))=true:=by decide
 intro w hw
 have:=aaw.mp k w hw
 rw [aak,aaw] at this
 exact ⟨fun c hc=>of_decide_eq_true (this.1 c hc),of_decide_eq_true this.2⟩
theorem Ce:(DC ++ DD).length=20:=by decide
theorem T6:(" !#$&'()*+,-./0123456789:;<=>?@ABCDEFGHIJKLMNOPQRSTUVWXYZ[]^_`abcdefghijklmnopqrstuvwxyz{|}~" : Str)=tx C5:=by rw [Str.ofString_eq_toList]; rfl
theorem NS:(C5 ++ [34] ++ [92]).length=94/\Okt (C5 ++ [34] ++ [92]):=by
 have k:(C5 ++ [34] ++ [92]).all (fun c=>decide (c < 1114112))=true:=by decide
 exact ⟨by decide,fun c hc=>of_decide_eq_true (aaw.mp k c hc)⟩
noncomputable def AQ (k:Int) (e:E) (r:Ss):Ss:=.cons (.iff (.cmp .eq (.ix (.nm 1) (.cI 0)) (.cI k)) (.cons (.ret e) .nil) .nil) r
theorem BV {k y0:Int} {e:E} {r:Ss} {F:Fr} {d:D} (h0:ev (.ix (.nm 1) (.cI 0)) F=.ok (.int y0)) (h:y0=k) (he:ev e F=.ok d):exs (AQ k e r) F=.ret d:=by
 have q:(y0==k)=true:=by rw [h]; exact beq_self_eq_true _
 generalize hI:E.ix (.nm 1) (.cI 0)=I at *
 unfold AQ
 rw [hI]
 simp_arith [h0,q,he]
theorem Ag {k y0:Int} {e:E} {r:Ss} {F:Fr} (h0:ev (.ix (.nm 1) (.cI 0)) F=.ok (.int y0)) (h:y0 ≠ k):exs (AQ k e r) F=exs r F:=by
 have q:(y0==k)=false:=by rw [beq_eq_false_iff_ne]; exact h
 generalize hI:E.ix (.nm 1) (.cI 0)=I at *
 unfold AQ
 rw [hI]
 simp_arith [h0,q]
noncomputable def Hy:E:=.bin .add (.bin .add (.slT (.nm 0) .cN (.nm 4)) (.ixC (.nm 3) (.bin .mod (.ix (.nm 1) (.cI 2)) (.cI 94)))) (.slT (.nm 0) (.nm 4) .cN)
noncomputable def Hz:E:=.bin .add (.slT (.nm 0) .cN (.nm 4)) (.slT (.nm 0) (.bin .add (.nm 4) (.cI 1)) .cN)
noncomputable def HA:E:=.bin .add (.bin .add (.slT (.nm 0) .cN (.nm 4)) (.ixC (.nm 3) (.bin .mod (.ix (.nm 1) (.cI 2)) (.cI 94)))) (.slT (.nm 0) (.bin .add (.nm 4) (.cI 1)) .cN)
noncomputable def HD:E:=.ix (.lst (.cons (.bin .add (.cS " ") (.nm 0)) (.cons (.bin .add (.nm 0) (.cS " ")) (.cons (.joi (.cS "  ") (.nm 5)) (.cons (.bin .add (.nm 0) (.cS " -")) (.cons (.bin .add (.cS "- ") (.nm 0)) (.cons (.bin .add (.nm 0) (.cS " /")) .nil))))))) (.bin .mod (.ix (.nm 1) (.cI 2)) (.cI 6))
noncomputable def HE:E:=.joi (.cS " ") (.bin .add (.bin .add (.slc (.nm 5) .cN (.nm 6)) (.lst (.cons (.ix (.nm 2) (.bin .mod (.ix (.nm 1) (.cI 2)) (.cI 20))) .nil))) (.slc (.nm 5) (.bin .add (.nm 6) (.cI 1)) .cN))
noncomputable def HF:E:=.joi (.cS " ") (.bin .add (.slc (.nm 5) .cN (.nm 6)) (.slc (.nm 5) (.bin .add (.nm 6) (.cI 1)) .cN))
noncomputable def HG:E:=.joi (.cS " ") (.bin .add (.bin .add (.slc (.nm 5) .cN (.nm 6)) (.lst (.cons (.ixL (.nm 5) (.nm 6)) .nil))) (.slc (.nm 5) (.nm 6) .cN))
noncomputable def HH:E:=.ix (.lst (.cons (.cS "") (.cons (.cS " ") (.cons (.cS "-") (.cons (.cS "--") (.cons (.cS "- -") (.cons (.cS "0") (.cons (.cS "/") (.cons (.cS " / ") (.cons (.cS "- / -") (.cons (.cS "0 / 0") (.cons (.cS ":") (.cons (.cS "0:0:0") .nil))))))))))))) (.bin .mod (.ix (.nm 1) (.cI 2)) (.cI 12))
theorem Mj:By =
 .cons (.asg 2 2 (.lst oE1))
 (.cons (.dem 2 1)
 (.cons (.asg 2 0 (.bin .add (.nm 2) (.lst oE2)))
 (.cons (.asg 3 0 (.cS " !#$&'()*+,-./0123456789:;<=>?@ABCDEFGHIJKLMNOPQRSTUVWXYZ[]^_`abcdefghijklmnopqrstuvwxyz{|}~"))
 (.cons (.asg 3 0 (.bin .add (.bin .add (.nm 3) (.cS "\"")) (.cS "\\")))
 (.cons (.asg 4 0 (.bin .mod (.ix (.nm 1) (.cI 1)) (.bin .add (.bi .lenS (.cons (.nm 0) .nil)) (.cI 1))))
 (.cons (.asg 5 1 (.spl (.nm 0) (.cS " ")))
 (.cons (.asg 6 0 (.bin .mod (.ix (.nm 1) (.cI 1)) (.bi .len (.cons (.nm 5) .nil))))
 (AQ 0 Hy (AQ 1 Hz (AQ 2 HA (AQ 3 HD (AQ 4 HE (AQ 5 HF (AQ 6 HG (.cons (.ret HH) .nil))))))))))))))):=rfl
theorem i31 (a b c:D):atD [a,b,c] 1=.ok b:=rfl
theorem i32 (a b c:D):atD [a,b,c] 2=.ok c:=rfl
theorem Bo {a b:List Nat} (h:a.length + b.length<=1000000):b2 .add (.str (tx a)) (.str (tx b))=.ok (.str (tx (a ++ b))):=GJ a b (aao h (by decide))
theorem Bp (ws:List (List Nat)) (k:Nat):((ws.take k).map aaM).sum + ((ws.drop k).map aaM).sum=(ws.map aaM).sum:=by
 have:=congrArg (fun l=>(l.map aaM).sum) (ab8 k ws)
 simp only [aan,abm] at this
 exact this
theorem J0 {ws:List (List Nat)} {w:List Nat} (h:w ∈ ws):w.length<=(ws.map aaM).sum:=by
 induction ws with
 | nil=>cases h
 | cons a r ih =>
  rw [aar,aby]
  rcases aah.mp h with rfl | h
  ·omega
  ·have:=ih h; omega
section
variable {t O S:List Nat} {Od ws:List (List Nat)} {a k:Nat} {y0 y1 y2:Int} (ht:Okt t) (hl:t.length<=200000) (ha:a<=t.length) (hS:S.length=94) (oS:Okt S) (hO:Od.length=20) (oO:∀ w ∈ Od,Okt w/\w.length<=30) (hw:ws.length<=200002) (hsum:(ws.map aaM).sum<=200000) (ow:∀ w ∈ ws,Okt w) (hk:k < ws.length)
include ht hl ha hS oS hO oO hw hsum ow hk
noncomputable def F92 (t S:List Nat) (Od ws:List (List Nat)) (a k:Nat) (y0 y1 y2:Int):Fr:=[some (.str (tx t)),some (.lst [.int y0,.int y1,.int y2]),some (.lst (Od.map fun w=>D.str (tx w))),some (.str (tx S)),some (.int a),some (.lst (ws.map fun w=>D.str (tx w))),some (.int k)]
theorem Ta:∃ u,Tx u/\ev Hy (F92 t S Od ws a k y0 y1 y2)=.ok (.str (tx u)):=by
 obtain ⟨j,hj,ej⟩:=Cb (y:=y2) (n:=94) (by omega)
 have ej:y2 % 94=(j:Int):=ej
 obtain ⟨c,hc,ec⟩:=Mi (l:=S) (by rw [hS]; decide) (k:=j) (by omega)
 have c1:=GN (t:=t) (aao hl (by decide)) a
 have c2:=E9 (t:=t) (aao hl (by decide)) a
 have a1:=Bo (a:=t.take a) (b:=[c]) (by simp; omega)
 have a2:=Bo (a:=t.take a ++ [c]) (b:=t.drop a) (by simp; omega)
 refine ⟨_,⟨AF (AF (FS ht a) (fun x hx=>by rw [aaz.mp hx]; exact oS c hc)) (FT ht a),by simp; omega⟩,?_⟩
 have z:=i32
 unfold F92
 generalize tx t=T at *
 generalize tx S=SS at *
 generalize tx [c]=CC at *
 generalize tx (t.take a)=T1 at *
 generalize tx (t.drop a)=T2 at *
 simp_arith [Hy,c1,c2,z,ej,ec,a1,a2]
theorem Tb:∃ u,Tx u/\ev Hz (F92 t S Od ws a k y0 y1 y2)=.ok (.str (tx u)):=by
 have c1:=GN (t:=t) (aao hl (by decide)) a
 have c2:=E9 (t:=t) (aao hl (by decide)) (a + 1)
 rw [show ((a + 1:Nat):Int)=(a:Int) + 1 by omega] at c2
 have a1:=Bo (a:=t.take a) (b:=t.drop (a + 1)) (by simp; omega)
 refine ⟨_,⟨AF (FS ht a) (FT ht (a + 1)),by simp; omega⟩,?_⟩
 unfold F92
 generalize tx t=T at *
 generalize tx (t.take a)=T1 at *
 generalize tx (t.drop (a + 1))=T2 at *
 simp_arith [Hz,c1,c2,a1]
theorem Tc:∃ u,Tx u/\ev HA (F92 t S Od ws a k y0 y1 y2)=.ok (.str (tx u)):=by
 obtain ⟨j,hj,ej⟩:=Cb (y:=y2) (n:=94) (by omega)
 have ej:y2 % 94=(j:Int):=ej
 obtain ⟨c,hc,ec⟩:=Mi (l:=S) (by rw [hS]; decide) (k:=j) (by omega)
 have c1:=GN (t:=t) (aao hl (by decide)) a
 have c2:=E9 (t:=t) (aao hl (by decide)) (a + 1)
 rw [show ((a + 1:Nat):Int)=(a:Int) + 1 by omega] at c2
 have a1:=Bo (a:=t.take a) (b:=[c]) (by simp; omega)
 have a2:=Bo (a:=t.take a ++ [c]) (b:=t.drop (a + 1)) (by simp; omega)
 refine ⟨_,⟨AF (AF (FS ht a) (fun x hx=>by rw [aaz.mp hx]; exact oS c hc)) (FT ht (a + 1)),by simp; omega⟩,?_⟩
 have z:=i32
 unfold F92
 generalize tx t=T at *
 generalize tx S=SS at *
 generalize tx [c]=CC at *
 generalize tx (t.take a)=T1 at *
 generalize tx (t.drop (a + 1))=T2 at *
 simp_arith [HA,c1,c2,z,ej,ec,a1,a2]
theorem Td:∃ u,Tx u/\ev HD (F92 t S Od ws a k y0 y1 y2)=.ok (.str (tx u)):=by
 obtain ⟨j,hj,ej⟩:=Cb (y:=y2) (n:=6) (by omega)
 have ej:y2 % 6=(j:Int):=ej
 have q1:("  " : Str)=tx [32,32]:=by rw [Str.ofString_eq_toList]; rfl
 have q2:(" -" : Str)=tx [32,45]:=by rw [Str.ofString_eq_toList]; rfl
 have q3:("- " : Str)=tx [45,32]:=by rw [Str.ofString_eq_toList]; rfl
 have q4:(" /" : Str)=tx [32,47]:=by rw [Str.ofString_eq_toList]; rfl
 have o1:Okt [32,32]:=fun c hc=>by simp at hc; omega
 have o2:Okt [32,45]:=fun c hc=>by simp at hc; omega
 have o3:Okt [45,32]:=fun c hc=>by simp at hc; omega
 have o4:Okt [32,47]:=fun c hc=>by simp at hc; omega
 have a1:=Bo (a:=[32]) (b:=t) (by simp; omega)
 have a2:=Bo (a:=t) (b:=[32]) (by simp; omega)
 have a3:=Bo (a:=t) (b:=[32,45]) (by simp; omega)
 have a4:=Bo (a:=[45,32]) (b:=t) (by simp; omega)
 have a5:=Bo (a:=t) (b:=[32,47]) (by simp; omega)
 obtain ⟨u,hu,ju⟩:=Hx o1 (by simp) ow (by simp; omega)
 have hsel:∃ v,Tx v/\atD [D.str (tx ([32] ++ t)),.str (tx (t ++ [32])),.str (tx u),.str (tx (t ++ [32,45])),.str (tx ([45,32] ++ t)),.str (tx (t ++ [32,47]))] (j:Int)=.ok (.str (tx v)):=by
  have:j=0\/j=1\/j=2\/j=3\/j=4\/j=5:=by omega
  rcases this with rfl | rfl | rfl | rfl | rfl | rfl
  ·exact ⟨_,⟨AF CW ht,by simp; omega⟩,rfl⟩
  ·exact ⟨_,⟨AF ht CW,by simp; omega⟩,rfl⟩
  ·exact ⟨_,hu,rfl⟩
  ·exact ⟨_,⟨AF ht o2,by simp; omega⟩,rfl⟩
  ·exact ⟨_,⟨AF o3 ht,by simp; omega⟩,rfl⟩
  ·exact ⟨_,⟨AF ht o4,by simp; omega⟩,rfl⟩
 obtain ⟨v,hv,sv⟩:=hsel
 refine ⟨v,hv,?_⟩
 have z:=i32
 have ds:dS (.str (tx [32,32]))=true:=rfl
 unfold F92 HD
 rw [q1,q2,q3,q4,DA]
 clear hsum ow hw hk
 generalize tx ([32] ++ t)=U1 at *
 generalize tx (t ++ [32])=U2 at *
 generalize tx (t ++ [32,45])=U3 at *
 generalize tx ([45,32] ++ t)=U4 at *
 generalize tx (t ++ [32,47])=U5 at *
 generalize tx [32,32]=X1 at *
 generalize tx [32]=X2 at *
 generalize tx [32,45]=X3 at *
 generalize tx [45,32]=X4 at *
 generalize tx [32,47]=X5 at *
 generalize tx t=T at *
 generalize (ws.map fun w=>D.str (tx w))=W at *
 simp_arith [a1,a2,a3,a4,a5,ds,ju,z,ej,sv]
theorem Te:∃ u,Tx u/\ev HF (F92 t S Od ws a k y0 y1 y2)=.ok (.str (tx u)):=by
 have c1:=Dk ws k
 have c2:=Cc ws (k + 1)
 rw [show ((k + 1:Nat):Int)=(k:Int) + 1 by omega] at c2
 have s1:=Bp ws k
 have s2:=Bp ws (k + 1)
 have ad:=Bd ((ws.take k).map fun w=>D.str (tx w)) ((ws.drop (k + 1)).map fun w=>D.str (tx w)) (by simp; omega)
 rw [<- aan] at ad
 obtain ⟨u,hu,ju⟩:=Hx (ts:=ws.take k ++ ws.drop (k + 1)) CW (by simp) (fun w hw=>by
  rcases aac.mp hw with h | h
  ·exact ow w (aaJ h)
  ·exact ow w (aaD h)) (by rw [aan,abm]; simp only [aal,aaQ,aaN,aaT]; omega)
 refine ⟨u,hu,?_⟩
 have ds:dS (.str (tx [32]))=true:=rfl
 unfold F92 HF
 rw [DA]
 clear hsum ow hw hk s1 s2
 generalize tx [32]=X2 at *
 generalize ((ws.take k ++ ws.drop (k + 1)).map fun w=>D.str (tx w))=W4 at *
 generalize ((ws.take k).map fun w=>D.str (tx w))=W1 at *
 generalize ((ws.drop (k + 1)).map fun w=>D.str (tx w))=W2 at *
 generalize (ws.map fun w=>D.str (tx w))=W at *
 simp_arith [-Bf,c1,c2,ad,ds,ju]
theorem Tf:∃ u,Tx u/\ev HE (F92 t S Od ws a k y0 y1 y2)=.ok (.str (tx u)):=by
 obtain ⟨j,hj,ej⟩:=Cb (y:=y2) (n:=20) (by omega)
 have ej:y2 % 20=(j:Int):=ej
 obtain ⟨o,ho,eo⟩:=Gn (ws:=Od) (k:=j) (by omega)
 obtain ⟨oo,ol⟩:=oO o ho
 have c1:=Dk ws k
 have c2:=Cc ws (k + 1)
 rw [show ((k + 1:Nat):Int)=(k:Int) + 1 by omega] at c2
 have s1:=Bp ws k
 have s2:=Bp ws (k + 1)
 have ad:=Bd ((ws.take k).map fun w=>D.str (tx w)) ([o].map fun w=>D.str (tx w)) (by simp; omega)
 rw [<- aan] at ad
 have ad2:=Bd ((ws.take k ++ [o]).map fun w=>D.str (tx w)) ((ws.drop (k + 1)).map fun w=>D.str (tx w)) (by simp; omega)
 rw [<- aan] at ad2
 obtain ⟨u,hu,ju⟩:=Hx (ts:=ws.take k ++ [o] ++ ws.drop (k + 1)) CW (by simp) (fun w hw=>by
  rcases aac.mp hw with h | h
  ·rcases aac.mp h with h | h
   ·exact ow w (aaJ h)
   ·rw [aaz.mp h]; exact oo
  ·exact ow w (aaD h)) (by simp only [aan,abm,aar,aa0,aby,abY,aal,aaQ,aaN,aaT]; omega)
 refine ⟨u,hu,?_⟩
 have ds:dS (.str (tx [32]))=true:=rfl
 have z:=i32
 have ad:b2 .add (.lst ((ws.take k).map fun w=>D.str (tx w))) (.lst [D.str (tx o)])=_:=ad
 unfold F92 HE
 rw [DA]
 clear hsum ow hw hk s1 s2
 generalize tx [32]=X2 at *
 generalize ((ws.take k ++ [o] ++ ws.drop (k + 1)).map fun w=>D.str (tx w))=W4 at *
 generalize ((ws.take k ++ [o]).map fun w=>D.str (tx w))=W3 at *
 generalize ((ws.take k).map fun w=>D.str (tx w))=W1 at *
 generalize ((ws.drop (k + 1)).map fun w=>D.str (tx w))=W2 at *
 generalize (ws.map fun w=>D.str (tx w))=W at *
 generalize (Od.map fun w=>D.str (tx w))=OO at *
 generalize D.str (tx o)=DO at *
 simp_arith [-Bf,c1,c2,z,ej,eo,ad,ad2,ds,ju]
theorem Th:∃ u,Tx u/\ev HG (F92 t S Od ws a k y0 y1 y2)=.ok (.str (tx u)):=by
 obtain ⟨o,ho,eo⟩:=Gn hk
 have oo:=ow o ho
 have ol:=J0 ho
 have c1:=Dk ws k
 have c2:=Cc ws k
 have s1:=Bp ws k
 have ad:=Bd ((ws.take k).map fun w=>D.str (tx w)) ([o].map fun w=>D.str (tx w)) (by simp; omega)
 rw [<- aan] at ad
 have ad2:=Bd ((ws.take k ++ [o]).map fun w=>D.str (tx w)) ((ws.drop k).map fun w=>D.str (tx w)) (by simp; omega)
 rw [<- aan] at ad2
 obtain ⟨u,hu,ju⟩:=Hx (ts:=ws.take k ++ [o] ++ ws.drop k) CW (by simp) (fun w hw=>by
  rcases aac.mp hw with h | h
  ·rcases aac.mp h with h | h
   ·exact ow w (aaJ h)
   ·rw [aaz.mp h]; exact oo
  ·exact ow w (aaD h)) (by simp only [aan,abm,aar,aa0,aby,abY,aal,aaQ,aaN,aaT]; omega)
 refine ⟨u,hu,?_⟩
 have ds:dS (.str (tx [32]))=true:=rfl
 have ad:b2 .add (.lst ((ws.take k).map fun w=>D.str (tx w))) (.lst [D.str (tx o)])=_:=ad
 unfold F92 HG
 rw [DA]
 clear hsum ow hw hk s1
 generalize tx [32]=X2 at *
 generalize ((ws.take k ++ [o] ++ ws.drop k).map fun w=>D.str (tx w))=W4 at *
 generalize ((ws.take k ++ [o]).map fun w=>D.str (tx w))=W3 at *
 generalize ((ws.take k).map fun w=>D.str (tx w))=W1 at *
 generalize ((ws.drop k).map fun w=>D.str (tx w))=W2 at *
 generalize (ws.map fun w=>D.str (tx w))=W at *
 generalize D.str (tx o)=DO at *
 simp_arith [-Bf,c1,c2,eo,ad,ad2,ds,ju]
theorem Ti:∃ u,Tx u/\ev HH (F92 t S Od ws a k y0 y1 y2)=.ok (.str (tx u)):=by
 obtain ⟨j,hj,ej⟩:=Cb (y:=y2) (n:=12) (by omega)
 have ej:y2 % 12=(j:Int):=ej
 have q4:("--" : Str)=tx [45,45]:=by rw [Str.ofString_eq_toList]; rfl
 have q5:("- -" : Str)=tx [45,32,45]:=by rw [Str.ofString_eq_toList]; rfl
 have q7:("/" : Str)=tx [47]:=by rw [Str.ofString_eq_toList]; rfl
 have q9:("- / -" : Str)=tx [45,32,47,32,45]:=by rw [Str.ofString_eq_toList]; rfl
 have q10:("0 / 0" : Str)=tx [48,32,47,32,48]:=by rw [Str.ofString_eq_toList]; rfl
 have q12:("0:0:0" : Str)=tx [48,58,48,58,48]:=by rw [Str.ofString_eq_toList]; rfl
 have hsel:∃ v,Tx v/\atD ([[],[32],[45],[45,45],[45,32,45],[48],[47],[32,47,32],[45,32,47,32,45],[48,32,47,32,48],[58],[48,58,48,58,48]].map fun w=>D.str (tx w)) (j:Int)=.ok (.str (tx v)):=by
  obtain ⟨v,hv,e⟩:=Gn (ws:=[[],[32],[45],[45,45],[45,32,45],[48],[47],[32,47,32],[45,32,47,32,45],[48,32,47,32,48],[58],[48,58,48,58,48]]) (k:=j) (by simpa using hj)
  refine ⟨v,?_,e⟩
  have key:([[],[32],[45],[45,45],[45,32,45],[48],[47],[32,47,32],[45,32,47,32,45],[48,32,47,32,48],[58],[48,58,48,58,48]]:List (List Nat)).all (fun w=>w.all (fun c=>decide (c < 1114112)) && decide (w.length<=30))=true:=by decide
  have:=aaw.mp key v hv
  rw [aak,aaw] at this
  exact ⟨fun c hc=>of_decide_eq_true (this.1 c hc),aao (of_decide_eq_true this.2) (by decide)⟩
 obtain ⟨v,hv,sv⟩:=hsel
 refine ⟨v,hv,?_⟩
 have z:=i32
 have sv:atD [D.str (tx []),D.str (tx [32]),D.str (tx [45]),D.str (tx [45,45]),D.str (tx [45,32,45]),D.str (tx [48]),D.str (tx [47]),D.str (tx [32,47,32]),D.str (tx [45,32,47,32,45]),D.str (tx [48,32,47,32,48]),D.str (tx [58]),D.str (tx [48,58,48,58,48])] (j:Int)=.ok (.str (tx v)):=sv
 unfold F92 HH
 rw [NO,DA,IX,q4,q5,KR,q7,T3,q9,q10,DB,q12]
 simp_arith [z,ej,sv]
end
theorem RU {t:List Nat} (ht:Okt t) (hl:t.length<=200000) {y0 y1 y2:Int} (b0:0<=y0/\y0 < 8):∃ u,Tx u/\B6.den [.str (tx t),.lst [.int y0,.int y1,.int y2]]=.ok (.str (tx u)):=by
 have T:Tx t:=⟨ht,by omega⟩
 obtain ⟨a,ha,ea⟩:=Cb (y:=y1) (n:=t.length + 1) (by omega)
 rw [show ((t.length + 1:Nat):Int)=(t.length:Int) + 1 by omega] at ea
 have hsp:=Dj (sep:=[32]) (by simp) T.len
 obtain ⟨g1,g2,g3⟩:=Bm t [32]
 have gs:=Jf t [32]
 have go:∀ w ∈ sp t [32],Okt w:=Gk ht
 obtain ⟨ws,hws⟩:∃ ws,ws=sp t [32]:=⟨_,rfl⟩
 rw [<- hws] at hsp g2 g3 gs go
 have hwl:0 < ws.length:=ach.mpr g3
 obtain ⟨k,hk,ek⟩:=Cb (y:=y1) hwl
 have o1:=fun δ=>PU δ
 have o2:=fun δ=>PV δ
 have ad:=Bd (DC.map fun w=>D.str (tx w)) (DD.map fun w=>D.str (tx w)) (by decide)
 rw [<- aan] at ad
 have q1:("\"" : Str)=tx [34]:=by rw [Str.ofString_eq_toList]; rfl
 have q2:("\\" : Str)=tx [92]:=by rw [Str.ofString_eq_toList]; rfl
 have a1:=Bo (a:=C5) (b:=[34]) (by decide)
 have a2:=Bo (a:=C5 ++ [34]) (b:=[92]) (by decide)
 have hlen:=Jb (l:=t) (by omega)
 have z1:=i31
 have p1:0 < (t.length:Int) + 1:=by omega
 have p2:0 < (ws.length:Int):=by omega
 have l1:(((ws.map fun w=>D.str (tx w)).length:Nat):Int)=(ws.length:Int):=by rw [aae]
 have hlen':∀ r,ev (.bi .lenS (.cons (.nm 0) .nil)) (some (.str (tx t)) :: r)=.ok (.int (t.length:Nat)):=fun r=>hlen
 have hd:dS (.str (tx t))=true:=rfl
 have pro:∀ R:Ss,exs (.cons (.asg 2 2 (.lst oE1)) (.cons (.dem 2 1) (.cons (.asg 2 0 (.bin .add (.nm 2) (.lst oE2))) (.cons (.asg 3 0 (.cS " !#$&'()*+,-./0123456789:;<=>?@ABCDEFGHIJKLMNOPQRSTUVWXYZ[]^_`abcdefghijklmnopqrstuvwxyz{|}~")) (.cons (.asg 3 0 (.bin .add (.bin .add (.nm 3) (.cS "\"")) (.cS "\\"))) (.cons (.asg 4 0 (.bin .mod (.ix (.nm 1) (.cI 1)) (.bin .add (.bi .lenS (.cons (.nm 0) .nil)) (.cI 1)))) (.cons (.asg 5 1 (.spl (.nm 0) (.cS " "))) (.cons (.asg 6 0 (.bin .mod (.ix (.nm 1) (.cI 1)) (.bi .len (.cons (.nm 5) .nil)))) R)))))))) [some (.str (tx t)),some (.lst [.int y0,.int y1,.int y2]),none,none,none,none,none]=exs R (F92 t (C5 ++ [34] ++ [92]) (DC ++ DD) ws a k y0 y1 y2):=fun R=>by
  rw [T6,q1,q2,DA]
  unfold F92
  clear hlen hws g1 gs go
  generalize hL:E.bi .lenS (.cons (.nm 0) .nil)=L at *
  generalize oE1=OE1 at *
  generalize oE2=OE2 at *
  generalize tx (C5 ++ [34] ++ [92])=S3 at *
  generalize tx (C5 ++ [34])=S2 at *
  generalize tx C5=S1 at *
  generalize tx [34]=X1 at *
  generalize tx [92]=X2 at *
  generalize tx [32]=X3 at *
  generalize ((DC ++ DD).map fun w=>D.str (tx w))=O3 at *
  generalize (DC.map fun w=>D.str (tx w))=O1 at *
  generalize (DD.map fun w=>D.str (tx w))=O2 at *
  generalize (ws.map fun w=>D.str (tx w))=W at *
  generalize tx t=T at *
  simp_arith [o1,o2,ad,a1,a2,z1,hlen',p1,ea,hd,hsp,l1,p2,ek]
 have hS:=NS
 have h0:ev (.ix (.nm 1) (.cI 0)) (F92 t (C5 ++ [34] ++ [92]) (DC ++ DD) ws a k y0 y1 y2)=.ok (.int y0):=rfl
 have A:=fun (q:∀ {e:E} {u:List Nat},True)=>trivial
 have hw:ws.length<=200002:=by omega
 have hs:(ws.map aaM).sum<=200000:=by omega
 have fin:∃ u,Tx u/\exs (AQ 0 Hy (AQ 1 Hz (AQ 2 HA (AQ 3 HD (AQ 4 HE (AQ 5 HF (AQ 6 HG (.cons (.ret HH) .nil)))))))) (F92 t (C5 ++ [34] ++ [92]) (DC ++ DD) ws a k y0 y1 y2)=.ret (.str (tx u)):=by
  have:y0=0\/y0=1\/y0=2\/y0=3\/y0=4\/y0=5\/y0=6\/y0=7:=by omega
  have ha:a<=t.length:=by omega
  rcases this with c | c | c | c | c | c | c | c
  ·obtain ⟨u,hu,e⟩:=Ta (y0:=y0) (y1:=y1) (y2:=y2) ht hl ha hS.1 hS.2 Ce Cd hw hs go hk
   exact ⟨u,hu,BV h0 c e⟩
  ·obtain ⟨u,hu,e⟩:=Tb (y0:=y0) (y1:=y1) (y2:=y2) ht hl ha hS.1 hS.2 Ce Cd hw hs go hk
   exact ⟨u,hu,by rw [Ag h0 (by omega)]; exact BV h0 c e⟩
  ·obtain ⟨u,hu,e⟩:=Tc (y0:=y0) (y1:=y1) (y2:=y2) ht hl ha hS.1 hS.2 Ce Cd hw hs go hk
   exact ⟨u,hu,by rw [Ag h0 (by omega),Ag h0 (by omega)]; exact BV h0 c e⟩
  ·obtain ⟨u,hu,e⟩:=Td (y0:=y0) (y1:=y1) (y2:=y2) ht hl ha hS.1 hS.2 Ce Cd hw hs go hk
   exact ⟨u,hu,by rw [Ag h0 (by omega),Ag h0 (by omega),Ag h0 (by omega)]; exact BV h0 c e⟩
  ·obtain ⟨u,hu,e⟩:=Tf (y0:=y0) (y1:=y1) (y2:=y2) ht hl ha hS.1 hS.2 Ce Cd hw hs go hk
   exact ⟨u,hu,by rw [Ag h0 (by omega),Ag h0 (by omega),Ag h0 (by omega),Ag h0 (by omega)]; exact BV h0 c e⟩
  ·obtain ⟨u,hu,e⟩:=Te (y0:=y0) (y1:=y1) (y2:=y2) ht hl ha hS.1 hS.2 Ce Cd hw hs go hk
   exact ⟨u,hu,by rw [Ag h0 (by omega),Ag h0 (by omega),Ag h0 (by omega),Ag h0 (by omega),Ag h0 (by omega)]; exact BV h0 c e⟩
  ·obtain ⟨u,hu,e⟩:=Th (y0:=y0) (y1:=y1) (y2:=y2) ht hl ha hS.1 hS.2 Ce Cd hw hs go hk
   exact ⟨u,hu,by rw [Ag h0 (by omega),Ag h0 (by omega),Ag h0 (by omega),Ag h0 (by omega),Ag h0 (by omega),Ag h0 (by omega)]; exact BV h0 c e⟩
  ·obtain ⟨u,hu,e⟩:=Ti (y0:=y0) (y1:=y1) (y2:=y2) ht hl ha hS.1 hS.2 Ce Cd hw hs go hk
   refine ⟨u,hu,?_⟩
   rw [Ag h0 (by omega),Ag h0 (by omega),Ag h0 (by omega),Ag h0 (by omega),Ag h0 (by omega),Ag h0 (by omega),Ag h0 (by omega)]
   rw [exs,ex,e]; rfl
 obtain ⟨u,hu,e⟩:=fin
 refine ⟨u,hu,(FQ _ rfl).trans (AE ?_)⟩
 rw [Mj]
 exact (pro _).trans e
noncomputable def CH (w:List Nat):Bool:=decide ((sp w [58]).length=3) && (sp w [58]).all isN
noncomputable def As (w:List Nat):D:=.tup ((sp w [58]).map fun x=>.int (dv x:Nat))
theorem PX {α:Type} {xs:List α} (h:xs.length=3):∃ a b c,xs=[a,b,c]:=by
 match xs,h with
 | [a,b,c],_=>exact ⟨a,b,c,rfl⟩
theorem PY {w:List Nat} (h:Tx w):A3.den [.str (tx w)]=if CH w=true then .ok (As w) else .exc 16:=by
 have hsp:=Dj (sep:=[58]) (by simp) h.len
 have hd:dS (.str (tx w))=true:=rfl
 have hp:=fun x hx=>h.part (sep:=[58]) (w:=x) hx
 unfold CH As
 generalize sp w [58]=ps at *
 by_cases c3:ps.length=3
 ·obtain ⟨a,b,c,rfl⟩:=PX c3
  have ha:=Cv (hp a (by simp)).ok (aao (hp a (by simp)).len (by decide))
  have hb:=Cv (hp b (by simp)).ok (aao (hp b (by simp)).len (by decide))
  have hc:=Cv (hp c (by simp)).ok (aao (hp c (by simp)).len (by decide))
  have i0:atD [D.str (tx a),D.str (tx b),D.str (tx c)] 0=.ok (.str (tx a)):=rfl
  have i1:atD [D.str (tx a),D.str (tx b),D.str (tx c)] 1=.ok (.str (tx b)):=rfl
  have i2:atD [D.str (tx a),D.str (tx b),D.str (tx c)] 2=.ok (.str (tx c)):=rfl
  have n3:c2 .ne (.int 3) (.int 3)=.ok (.bl false):=rfl
  simp only [aar,aa0] at hsp
  refine (EB _ rfl).trans ?_
  have e:∀ (x y z:Bool),(decide ([a,b,c].length=3) && [a,b,c].all isN)=(isN a && (isN b && isN c)):=fun _ _ _=>by simp [List.all]
  rw [e true true true]
  rw [BB,DB]
  clear hp h e
  generalize tx w=W at *
  generalize tx [58]=C at *
  cases q1:isN a <;> cases q2:isN b <;> cases q3:isN c <;> rw [q1] at ha <;> rw [q2] at hb <;> rw [q3] at hc <;> simp only [aaY,if_false,if_true] at ha hb hc
  all_goals first
   | (refine AE ?_
      simp only [abS,ace,if_true,aar,aa0]
      simp_arith [hd,hsp,n3,i0,i1,i2,ha,hb,hc]
      done)
   | (refine Di (δ:=[some (.str W),some (.lst [.str (tx a),.str (tx b),.str (tx c)])]) ?_
      simp_arith [hd,hsp,n3,i0,i1,i2,ha,hb,hc,Res.bind_exc,Res.out_exc,Out.then_exc]
      done)
 ·rw [decide_eq_false c3,abc,if_neg (by decide)]
  have n3:c2 .ne (.int ((ps.length:Nat):Int)) (.int 3)=.ok (.bl true):=by
   have:((ps.length:Int)==3)=false:=by rw [beq_eq_false_iff_ne]; omega
   show Res.ok (D.bl (!((ps.length:Int)==3)))=_
   rw [this]; rfl
  have hl:((ps.map fun w=>D.str (tx w)).length:Int)=(ps.length:Int):=by rw [aae]
  refine (EB _ rfl).trans (Di (δ:=[some (.str (tx w)),some (.lst (ps.map fun w=>D.str (tx w)))]) ?_)
  rw [BB,DB]
  generalize (ps.map fun w=>D.str (tx w))=P at *
  generalize tx w=W at *
  generalize tx [58]=C at *
  simp_arith [hd,hsp,hl,n3,Res.out_exc,Out.then_exc]
theorem RV {l:List Nat} (h:Tx l):c2 .eq (.str (tx l)) (.str "-")=.ok (.bl (l==[45])):=by
 rw [IX]; exact Ja h.ok Me
noncomputable def GO (l:List Nat):D:=.lst ((sp l [32]).map As)
noncomputable def DE (l:List Nat):Bool:=(sp l [32]).all CH
theorem PZ {l:List Nat} (h:Tx l):Br.den [.str (tx l)]=if (l==[45])=true then .ok (.lst []) else if DE l=true then .ok (GO l) else .exc 16:=by
 have hsp:=Dj (sep:=[32]) (by simp) h.len
 have hc:=NQ (nl:=1) (fr:=[]) (tg:=.nm 0) (it:=.seq (.spl (.nm 0) (.cS " "))) (elt:=.call A3 (.cons (.nm 0) .nil)) (δ:=[some (.str (tx l))]) (ds:=(sp l [32]).map fun w=>D.str (tx w)) (p:=fun d=>match d with | .str z=>CH z.cps.toList | _=>false) (g:=fun d=>match d with | .str z=>As z.cps.toList | d=>d) (c:=16) (by
   rw [DA]
   have hd:dS (.str (tx l))=true:=rfl
   generalize tx l=T at *
   simp_arith [hd,hsp]) (fun d hd=>by
  obtain ⟨w,hw,rfl⟩:=aaG.mp hd
  refine ⟨[some (.str (tx w))],rfl,?_⟩
  have:=PY (h.part hw)
  show ev (.call A3 (.cons (.nm 0) .nil)) [some (.str (tx w))]=if CH w=true then .ok (As w) else .exc 16
  rw [<- this]
  rfl)
 have e1:((sp l [32]).map fun w=>D.str (tx w)).all (fun d=>match d with | .str z=>CH z.cps.toList | _=>false)=DE l:=by
  unfold DE
  rw [ack]; rfl
 have e2:D.lst (((sp l [32]).map fun w=>D.str (tx w)).map (fun d=>match d with | .str z=>As z.cps.toList | d=>d))=GO l:=by
  unfold GO
  rw [aaH]; rfl
 rw [e1,e2] at hc
 have ht:=RQ l
 have hq:=RV h
 refine (EC _ rfl).trans ?_
 generalize hE:E.compX 1 [] (.nm 0) (.seq (.spl (.nm 0) (.cS " "))) (.call A3 (.cons (.nm 0) .nil))=EE at *
 rw [BC,hE]
 generalize (l==[45])=b at *
 generalize DE l=k at *
 generalize GO l=dd at *
 generalize tx l=L at *
 cases b with
 | true =>
  rw [if_pos rfl]
  refine AE ?_
  simp_arith [ht,hq]
 | false =>
  rw [if_neg (by decide)]
  cases k with
  | true =>
   rw [if_pos rfl] at hc ⊢
   refine AE ?_
   simp_arith [ht,hq,hc]
  | false =>
   rw [if_neg (by decide)] at hc ⊢
   refine Di (δ:=[some (.str L)]) ?_
   simp_arith [ht,hq,hc,Res.out_exc,Out.then_exc]
theorem Tj (ps:List (List Nat)):c2 .inn .non (.lst (ps.map AL))=.ok (.bl (!ps.all isN)):=by
 have e:c2 .inn .non (.lst (ps.map AL))=(inD .non (ps.map AL)).bind fun b=>.ok (.bl b):=rfl
 rw [e]
 unfold inD
 have e1:(ps.map AL).all (D.shp 8)=true:=by
  rw [aaw]
  intro d hd
  obtain ⟨w,_,rfl⟩:=aaG.mp hd
  unfold AL
  split <;> rfl
 rw [if_pos (by rw [e1]; rfl)]
 show Res.ok (D.bl _)=_
 congr 2
 rw [List.any_map]
 clear e e1
 induction ps with
 | nil=>rfl
 | cons w ps ih =>
  rw [abQ,aaE,ih]
  show (D.eqv (AL w) .non || !ps.all isN)=_
  unfold AL
  by_cases c:isN w=true
  ·rw [if_pos c,c]
   simp [D.eqv]
  ·rw [if_neg c,show isN w=false by simpa using c]
   simp [D.eqv]
theorem P0 {w:List Nat} (h:(sp w [58]).all isN=true):As w=.tup ((sp w [58]).map AL):=by
 rw [NR h]
 unfold As nz
 rw [aaH]; rfl
theorem RW {w:List Nat} (h:Tx w) (T:D) (acc:List D) (hl:acc.length<=1000010) (o3:Option D):∃ p3,exs AV [some T,some (.lst acc),some (.str (tx w)),o3]=if CH w=true then .nxt [some T,some (.lst (acc ++ [As w])),some (.str (tx w)),p3] else .ret .non:=by
 have hsp:=Dj (sep:=[58]) (by simp) h.len
 have hc:=Ey (nl:=1) (fr:=[]) (tg:=.nm 0) (it:=.seq (.spl (.nm 2) (.cS ":"))) (elt:=.call A4 (.cons (.nm 0) .nil)) (δ:=[some T,some (.lst acc),some (.str (tx w)),o3]) (ds:=(sp w [58]).map fun w=>D.str (tx w)) (g:=fun d=>match d with | .str z=>AL z.cps.toList | d=>d) (by
   rw [DB]
   have hd:dS (.str (tx w))=true:=rfl
   generalize tx w=T at *
   simp_arith [hd,hsp]) (fun d hd=>by
  obtain ⟨x,hx,rfl⟩:=aaG.mp hd
  have t:=h.part hx
  refine ⟨[some (.str (tx x))],rfl,?_⟩
  have:=GM t.ok (aao t.len (by decide))
  show ev (.call A4 (.cons (.nm 0) .nil)) [some (.str (tx x))]=.ok (AL x)
  unfold AL
  rw [<- this]
  rfl)
 have e2:((sp w [58]).map fun w=>D.str (tx w)).map (fun d=>match d with | .str z=>AL z.cps.toList | d=>d)=(sp w [58]).map AL:=by
  rw [aaH]; rfl
 rw [e2] at hc
 have hn:=Tj (sp w [58])
 have hev:=P0 (w:=w)
 have hlen:((((sp w [58]).map AL).length:Nat):Int)=((sp w [58]).length:Int):=by rw [aae]
 unfold CH
 generalize sp w [58]=ps at *
 refine ⟨some (.lst (ps.map AL)),?_⟩
 generalize hC:E.comp0 1 [] (.nm 0) (.seq (.spl (.nm 2) (.cS ":"))) (.call A4 (.cons (.nm 0) .nil))=C at *
 rw [AV,hC]
 by_cases c3:ps.length=3
 ·have n3:((ps.length:Int)==3)=true:=by rw [c3]; rfl
  rw [decide_eq_true c3,aa1]
  cases q:ps.all isN with
  | true =>
   rw [q] at hn
   have hev:=hev q
   have hap:=Dz acc (.tup (ps.map AL)) (by omega)
   rw [hev,if_pos rfl]
   clear hev hsp
   generalize ps.map AL=P at *
   simp_arith [hc,hlen,n3,hn,hap]
  | false =>
   rw [q] at hn
   rw [if_neg (by decide)]
   clear hev hsp
   generalize ps.map AL=P at *
   simp_arith [hc,hlen,n3,hn]
 ·have n3:((ps.length:Int)==3)=false:=by rw [beq_eq_false_iff_ne]; omega
  rw [decide_eq_false c3,abc,if_neg (by decide)]
  clear hev hsp
  generalize ps.map AL=P at *
  simp_arith [hc,hlen,n3,hn]
theorem Mk (T:D):∀ (ws:List (List Nat)) (acc:List D) (o2 o3:Option D),acc.length + ws.length<=1000010->(∀ w ∈ ws,Tx w)->∃ p2 p3,AN (.nm 2) (exs AV) (ws.map fun w=>D.str (tx w)) [some T,some (.lst acc),o2,o3]=if ws.all CH=true then .nxt [some T,some (.lst (acc ++ ws.map As)),p2,p3] else .ret .non
 | [],acc,o2,o3,_,_=>⟨o2,o3,by rw [List.all_nil,if_pos rfl,aa0,aa0,aaP]; rfl⟩
 | w :: ws,acc,o2,o3,hl,ht=>by
  rw [aaS] at hl
  obtain ⟨q3,e⟩:=RW (ht w (aab ..)) T acc (by omega) o3
  obtain ⟨p2,p3,ih⟩:=Mk T ws (acc ++ [As w]) (some (.str (tx w))) q3 (by rw [aal,aaT]; omega) (fun x hx=>ht x (aaa _ hx))
  refine ⟨p2,p3,?_⟩
  rw [aar,AN]
  show (exs AV [some T,some (.lst acc),some (.str (tx w)),o3]).then _=_
  rw [e,aaE]
  cases q:CH w with
  | true =>
   rw [if_pos rfl,Out.then_nxt,ih,aa1,abn]
   rfl
  | false=>rfl
theorem Tk {l:List Nat} (h:Tx l):Bb.den [.str (tx l)]=.ok (if (l==[45])=true then .lst [] else if DE l=true then GO l else .non):=by
 have hsp:=Dj (sep:=[32]) (by simp) h.len
 have hq:=RV h
 obtain ⟨g1,g2,g3⟩:=Bm l [32]
 have hl:=h.len
 obtain ⟨p2,p3,e⟩:=Mk (.str (tx l)) (sp l [32]) [] none none (by show 0 + _<=_; omega) (fun w hw=>h.part hw)
 rw [aa2] at e
 have hd:dS (.str (tx l))=true:=rfl
 unfold DE GO
 refine (GG _ rfl).trans (AE ?_)
 rw [B4,DA]
 clear g1 g2 g3
 generalize (l==[45])=b at *
 generalize (sp l [32]).map As=V at *
 generalize ((sp l [32]).map fun w=>D.str (tx w))=W at *
 generalize tx l=L at *
 generalize tx [32]=C at *
 cases b with
 | true =>
  rw [if_pos rfl]
  simp_arith [hq]
 | false =>
  rw [if_neg (by decide)]
  cases k:(sp l [32]).all CH with
  | true =>
   rw [k,if_pos rfl] at e
   rw [if_pos rfl]
   simp_arith [hq,hd,hsp,e]
  | false =>
   rw [k,if_neg (by decide)] at e
   rw [if_neg (by decide)]
   simp_arith [hq,hd,hsp,e]
theorem Tl:mtD .count (.lst [.bl false,.bl false]) [.bl true]=.ok (.int 0):=rfl
theorem RX {d x:D} (h:Br.den [d]=.ok x):Ao.den [d]=.ok (.lst [x]):=by
 refine (DT _ rfl).trans (AE ?_)
 simp_arith [Bc,h]
theorem RY {d:D} (h:Br.den [d]=.exc 16):Ao.den [d]=.ok (.str "refused"):=by
 have i1:(isa 16 0 && !(16==0))=true:=rfl
 have h9:((16:Nat)==999)=false:=rfl
 have j1:isa 16 6=false:=rfl
 have j2:isa 16 2=false:=rfl
 have j4:isa 16 16=true:=rfl
 have hs:D.scal (.str "refused")=true:=rfl
 have z1:((0:Int)==0)=true:=rfl
 have o:=S0
 have c:=Tl
 refine (DT _ rfl).trans (AE ?_)
 simp_arith [Bc,z1,h,Res.out_exc,Out.then_exc,i1,dX,h9,j1,j2,j4,c,o,hs]
theorem T7 {d:D} (h:dS d=false):Ao.den [d]=.ok (.str "refused"):=by
 have hc:BZ.den [d]=.exc 16:=by
  refine (Ez _ rfl).trans (Di (δ:=[some d]) ?_)
  cases d with
  | str z=>cases h
  | _=>simp_arith [BA,h,Res.out_exc,Out.then_exc]
 refine RY ((EC _ rfl).trans (Di (δ:=[some d]) ?_))
 simp_arith [BC,hc,Res.out_exc,Out.then_exc]
theorem P5:AD.den [.str "refused",.non]=.ok (.bl true):=by
 have h:=S5
 refine (Dw _ rfl).trans (AE ?_)
 simp_arith [A6,h]
theorem Tm (A B:D) (w:List Nat) (o2:Option D):exs AK [some A,some B,some (As w)]=.nxt [some A,some B,some (As w)]:=by
 unfold As
 have hc:=Ey (nl:=1) (fr:=[]) (tg:=.nm 0) (it:=.seq (.nm 2)) (elt:=.call Ba (.cons (.nm 0) .nil)) (δ:=[some A,some B,some (.tup ((sp w [58]).map fun x=>D.int (dv x:Nat)))]) (ds:=(sp w [58]).map fun x=>D.int (dv x:Nat)) (g:=fun _=>.bl true) (by
   generalize ((sp w [58]).map fun x=>D.int (dv x:Nat))=P
   simp_arith []) (fun d hd=>by
  obtain ⟨x,hx,rfl⟩:=aaG.mp hd
  refine ⟨[some (.int (dv x:Nat))],rfl,?_⟩
  have:=Ma (dv x:Nat)
  simp_arith [this])
 have ha:biD .all [.lst (((sp w [58]).map fun x=>D.int (dv x:Nat)).map fun _=>D.bl true)]=.ok (.bl true):=by
  have e:(((sp w [58]).map fun x=>D.int (dv x:Nat)).map fun _=>D.bl true)=(sp w [58]).map fun x=>D.bl ((fun _=>true) x):=by rw [aaH]; rfl
  rw [e]
  show (B5 (Ay ((sp w [58]).map fun x=>D.bl ((fun _=>true) x)))).bind (fun bs=>Res.ok (D.bl (bs.all id)))=_
  rw [GL (fun _=>true)]
  show Res.ok (D.bl _)=_
  congr 2
  induction sp w [58] with
  | nil=>rfl
  | cons a r ih=>simp
 have hEA:ev (.bi .all (.cons (.comp0 1 [] (.nm 0) (.seq (.nm 2)) (.call Ba (.cons (.nm 0) .nil))) .nil)) [some A,some B,some (.tup ((sp w [58]).map fun x=>D.int (dv x:Nat)))]=.ok (.bl true):=by
  show ((ev (.comp0 1 [] (.nm 0) (.seq (.nm 2)) (.call Ba (.cons (.nm 0) .nil))) [some A,some B,some (.tup ((sp w [58]).map fun x=>D.int (dv x:Nat)))]).bind fun d=>(Res.ok []).bind fun ds=>.ok (d :: ds)).bind (biD .all)=_
  rw [hc,Res.bind_ok,Res.bind_ok,Res.bind_ok]
  exact ha
 generalize hE:E.bi .all (.cons (.comp0 1 [] (.nm 0) (.seq (.nm 2)) (.call Ba (.cons (.nm 0) .nil))) .nil)=EA at *
 rw [AK,hE]
 clear hc ha
 generalize ((sp w [58]).map fun x=>D.int (dv x:Nat))=P at *
 simp_arith [hEA]
theorem Oc (A B:D):∀ (ws:List (List Nat)) (o2:Option D),∃ p2,AN (.nm 2) (exs AK) (ws.map As) [some A,some B,o2]=.nxt [some A,some B,p2]
 | [],o2=>⟨o2,rfl⟩
 | w :: ws,o2=>by
  obtain ⟨p2,ih⟩:=Oc A B ws (some (As w))
  refine ⟨p2,?_⟩
  rw [aar,AN]
  show (exs AK [some A,some B,some (As w)]).then _=_
  rw [Tm A B w o2,Out.then_nxt]
  exact ih
theorem Tn (ws:List (List Nat)):D.shp 8 (.lst (ws.map As))=true:=by
 show (ws.map As).all (D.shp 7)=true
 rw [aaw]
 intro d hd
 obtain ⟨w,_,rfl⟩:=aaG.mp hd
 show ((sp w [58]).map fun x=>D.int (dv x:Nat)).all (D.shp 6)=true
 rw [aaw]
 intro d hd
 obtain ⟨v,_,rfl⟩:=aaG.mp hd
 rfl
theorem RZ (ws:List (List Nat)):AD.den [.lst [.lst (ws.map As)],.lst (ws.map As)]=.ok (.bl true):=by
 have hs:=KQ (.lst (ws.map As)) (Tn ws)
 obtain ⟨p2,e⟩:=Oc (.lst [.lst (ws.map As)]) (.lst (ws.map As)) ws none
 have a:=RT
 refine (Dw _ rfl).trans (AE ?_)
 generalize ws.map As=R at *
 simp_arith [A6,a,hs,e]
theorem Oe {l:List Nat} (h:Tx l):∃ r du,Ao.den [.str (tx l)]=.ok r/\Bb.den [.str (tx l)]=.ok du/\AD.den [r,du]=.ok (.bl true)/\((l==[45] || DE l)=true->∃ ws:List (List Nat),r=.lst [.lst (ws.map As)]/\ws.length<=1000002):=by
 have h1:=PZ h
 have h2:=Tk h
 have hl:=h.len
 cases b:(l==[45]) with
 | true =>
  rw [b,if_pos rfl] at h1 h2
  exact ⟨_,_,RX h1,h2,RZ [],fun _=>⟨[],rfl,by simp⟩⟩
 | false =>
  rw [b,if_neg (by decide)] at h1 h2
  cases k:DE l with
  | true =>
   rw [k,if_pos rfl] at h1 h2
   exact ⟨_,_,RX h1,h2,RZ _,fun _=>⟨sp l [32],rfl,by have:=(Bm l [32]).2.1; omega⟩⟩
  | false =>
   rw [k,if_neg (by decide)] at h1 h2
   exact ⟨_,_,RY h1,h2,P5,fun z=>by simp at z⟩
theorem Of {c:Nat}:∀ {a b x y:List Nat},c ∉ a->c ∉ b->a ++ c :: x=b ++ c :: y->a=b/\x=y
 | [],[],x,y,_,_,h=>⟨rfl,by simpa using h⟩
 | [],b0 :: b,x,y,_,hb,h=>by
  simp only [aa2,aaV,List.cons.injEq] at h
  exact absurd (h.1 ▸ aab ..) hb
 | a0 :: a,[],x,y,ha,_,h=>by
  simp only [aa2,aaV,List.cons.injEq] at h
  exact absurd (h.1 ▸ aab ..) ha
 | a0 :: a,b0 :: b,x,y,ha,hb,h=>by
  simp only [aaV,List.cons.injEq] at h
  obtain ⟨e1,e2⟩:=Of (fun z=>ha (aaa _ z)) (fun z=>hb (aaa _ z)) h.2
  exact ⟨by rw [h.1,e1],e2⟩
theorem Eg (s x:List Nat):jo s [x]=x:=by show x ++ []=x; exact aaP _
theorem CY (c:Nat) (x y:List Nat) (r:List (List Nat)):jo [c] (x :: y :: r)=x ++ c :: jo [c] (y :: r):=by
 show x ++ ([c] ++ y ++ r.flatMap ([c] ++ ·))=x ++ c :: (y ++ r.flatMap ([c] ++ ·))
 simp
theorem Ml {c:Nat}:∀ {ps qs:List (List Nat)},ps ≠ []->qs ≠ []->(∀ p ∈ ps,c ∉ p)->(∀ q ∈ qs,c ∉ q)->jo [c] ps=jo [c] qs->ps=qs
 | [],_,h,_,_,_,_=>absurd rfl h
 | _,[],_,h,_,_,_=>absurd rfl h
 | [p],[q],_,_,_,_,h=>by rw [Eg,Eg] at h; rw [h]
 | [p],q :: q2 :: qs,_,_,hp,_,h=>by
  rw [Eg,CY] at h
  exact absurd (by rw [h]; simp) (hp p (aab ..))
 | p :: p2 :: ps,[q],_,_,_,hq,h=>by
  rw [Eg,CY] at h
  exact absurd (by rw [<- h]; simp) (hq q (aab ..))
 | p :: p2 :: ps,q :: q2 :: qs,_,_,hp,hq,h=>by
  rw [CY,CY] at h
  obtain ⟨e1,e2⟩:=Of (hp p (aab ..)) (hq q (aab ..)) h
  rw [e1,Ml (by simp) (by simp) (fun x hx=>hp x (aaa _ hx)) (fun x hx=>hq x (aaa _ hx)) e2]
theorem R0 {a b:List Nat} (h:tx a=tx b):a=b:=by
 have:=congrArg (fun z:Str=>z.cps.toList) h
 simpa [IW] using this
theorem To (l:List Nat) (c:Nat):jo [c] (sp l [c])=l:=by
 have h:=StrLaws.join_split (tx l) (tx [c])
 rw [<- Jd,Fx] at h
 exact R0 h
theorem P6 (l:List Nat) (c:Nat):∀ p ∈ sp l [c],c ∉ p:=fun p hp=>by
 unfold sp at hp
 obtain ⟨z,hz,rfl⟩:=aaG.mp hp
 exact StrLaws.split_free (tx l) c z hz
theorem Og {c:Nat} {ws:List (List Nat)} (h:ws ≠ []) (hf:∀ w ∈ ws,c ∉ w):sp (jo [c] ws) [c]=ws :=
 Ml (Bm _ _).2.2 h (P6 _ c) hf (To _ c)
theorem Jh (t z:List Nat) (c:Nat):Txt.replace (tx t) (tx [c]) (tx z)=tx (jo z (sp t [c])):=by
 have h:=StrLaws.replace_one (tx t) (tx z) c
 have e:(⟨#[c]⟩:Str)=tx [c]:=rfl
 rw [e] at h
 rw [h,<- Jd,Fx]
theorem FV {t z:List Nat} (ht:Okt t) (hz:Okt z) (hl:t.length<=20000) (hzl:z.length<=2) (c:Nat):Tx (jo z (sp t [c])):=by
 refine ⟨Gi hz (Gk ht),aao (Jg z _) ?_⟩
 have h1:=(Bm t [c]).2.1
 have h2:=Jf t [c]
 have h3:(sp t [c]).length * z.length<=20002 * 2:=Nat.mul_le_mul (by omega) hzl
 omega
theorem J1:∀ (n:Nat),∀ c ∈ Cu n,48<=c:=by
 intro n
 induction n using Nat.strongRecOn with
 | _ n ih =>
  intro c hc
  by_cases h:n < 10
  ·rw [Ee h] at hc
   simp at hc; omega
  ·rw [Fv (by omega)] at hc
   rcases aac.mp hc with z | z
   ·exact ih (n / 10) (by omega) c z
   ·simp at z; omega
theorem P7:∀ (n:Nat),1<=n->∃ x r,Cu n=x :: r/\x ≠ 48:=by
 intro n
 induction n using Nat.strongRecOn with
 | _ n ih =>
  intro h1
  by_cases h:n < 10
  ·exact ⟨48 + n,[],Ee h,by omega⟩
  ·obtain ⟨x,r,e,hx⟩:=ih (n / 10) (by omega) (by omega)
   exact ⟨x,r ++ [48 + n % 10],by rw [Fv (by omega),e]; rfl,hx⟩
theorem Ji {r:Int} (h0:0<=r) (h:r < 100000000000000000000):isN (gI r)=true:=by
 unfold gI
 have hl:=FR 20 r.toNat (by decide) (by
  have e:(10:Nat) ^ 20=100000000000000000000:=by decide
  rw [e]; omega)
 have hd:(Cu r.toNat).all dgt=true:=by
  rw [aaw]
  intro c hc
  have h1:=J1 _ c hc
  have h2:=Fw _ c hc
  unfold dgt
  rw [decide_eq_true h1,decide_eq_true (by omega)]; rfl
 unfold isN
 rw [decide_eq_true hl,hd,aa1,aa1]
 by_cases z:r.toNat=0
 ·rw [z,Ee (by decide)]; rfl
 ·obtain ⟨x,r',e,hx⟩:=P7 r.toNat (by omega)
  rw [e]
  have:(some x==some 48)=false:=by simp [hx]
  rw [List.head?_cons,this]
  simp
theorem R1 {r:Int} {c:Nat} (h:c ∈ gI r):48<=c/\c < 58:=⟨J1 _ c h,Fw _ c h⟩
theorem R3 {t:List Nat} (ht:Okt t) (hl:t.length<=20000) (y:Int):∃ u,Tx u/\atD ((AI (tx t) ++ [BO (tx t)]).map D.str) (y % 5)=.ok (.str (tx u)):=by
 have dc:("::" : Str)=tx [58,58]:=by rw [Str.ofString_eq_toList]; rfl
 have odc:Okt [58,58]:=fun c hc=>by simp at hc; omega
 have e:(AI (tx t) ++ [BO (tx t)]).map D.str=[.str (tx (t ++ [58])),.str (tx ([58] ++ t)),.str (tx (jo [58,58] (sp t [58]))),.str (tx (jo [32] (sp t [58]))),.str (tx (jo [58] (sp t [32])))]:=by
  unfold AI BO
  rw [DB,DA,dc,Jh,Jh,Jh,E7,E7]
  rfl
 rw [e]
 have:y % 5=0\/y % 5=1\/y % 5=2\/y % 5=3\/y % 5=4:=by omega
 rcases this with h | h | h | h | h <;> rw [h]
 ·exact ⟨t ++ [58],⟨AF ht E8,by rw [aal]; show _ + 1<=_; omega⟩,rfl⟩
 ·exact ⟨[58] ++ t,⟨AF E8 ht,by rw [aal]; show 1 + _<=_; omega⟩,rfl⟩
 ·exact ⟨_,FV ht odc hl (by decide) 58,rfl⟩
 ·exact ⟨_,FV ht CW hl (by decide) 58,rfl⟩
 ·exact ⟨_,FV ht E8 hl (by decide) 32,rfl⟩
noncomputable def HI:E:=.joi (.cS ":") (.bin .add (.bin .add (.slc (.nm 2) .cN (.nm 3)) (.lst (.cons (.cS "") .nil))) (.slc (.nm 2) (.nm 3) .cN))
noncomputable def HJ:E:=.bin .add (.bin .add (.joi (.cS ":") (.slc (.nm 2) .cN (.nm 3))) (.cS " ")) (.joi (.cS ":") (.slc (.nm 2) (.nm 3) .cN))
noncomputable def HK:E:=.joi (.cS ":") (.bin .add (.bin .add (.slc (.nm 2) .cN (.nm 3)) (.lst (.cons (.bin .add (.cS "0") (.ixL (.nm 2) (.nm 3))) .nil))) (.slc (.nm 2) (.bin .add (.nm 3) (.cI 1)) .cN))
theorem Jr:Cn=.cons (.asg 2 1 (.spl (.nm 0) (.cS ":"))) (.cons (.asg 3 0 (.bin .mod (.ix (.nm 1) (.cI 1)) (.bi .len (.cons (.nm 2) .nil)))) (AQ 0 HI (AQ 1 HJ (AQ 2 HK (.reps 4 0 (.bin .mod (.ix (.nm 1) (.cI 1)) (.cI 5))))))):=rfl
noncomputable def F93 (t:List Nat) (ws:List (List Nat)) (k:Nat) (y0 y1:Int):Fr:=[some (.str (tx t)),some (.lst [.int y0,.int y1]),some (.lst (ws.map fun w=>D.str (tx w))),some (.int k),none]
theorem HL {ts:List (List Nat)} (ok:∀ w ∈ ts,Okt w) {B:Nat} (hb:ts.length + (ts.map aaM).sum<=B) (hB:B<=1000000):Okt (jo [58] ts)/\(jo [58] ts).length<=B/\Ii (.str (tx [58])) (.lst (ts.map fun t=>D.str (tx t)))=.ok (.str (tx (jo [58] ts))):=by
 have h:=Jg [58] ts
 simp only [aaT,Nat.mul_one] at h
 refine ⟨Gi E8 ok,by omega,Fy [58] ts ?_⟩
 rw [Gm]
 simp only [aaT,Nat.mul_one]
 exact aao hb (aao hB (by decide))
section
variable {t:List Nat} {ws:List (List Nat)} {k:Nat} {y0 y1:Int} (hw:ws.length<=20002) (hsum:(ws.map aaM).sum<=20000) (ow:∀ w ∈ ws,Okt w) (hk:k < ws.length)
include hw hsum ow hk
theorem Tp:∃ u,Tx u/\ev HI (F93 t ws k y0 y1)=.ok (.str (tx u)):=by
 have c1:=Dk ws k
 have c2:=Cc ws k
 have s1:=Bp ws k
 have ad:=Bd ((ws.take k).map fun w=>D.str (tx w)) ([[]].map fun w=>D.str (tx w)) (by simp; omega)
 rw [<- aan] at ad
 have ad2:=Bd ((ws.take k ++ [[]]).map fun w=>D.str (tx w)) ((ws.drop k).map fun w=>D.str (tx w)) (by simp; omega)
 rw [<- aan] at ad2
 obtain ⟨g1,g2,ju⟩:=HL (ts:=ws.take k ++ [[]] ++ ws.drop k) (fun w hw=>by
  rcases aac.mp hw with h | h
  ·rcases aac.mp h with h | h
   ·exact ow w (aaJ h)
   ·rw [aaz.mp h]; exact fun c hc=>nomatch hc
  ·exact ow w (aaD h)) (B:=100000) (by simp only [aan,abm,aar,aa0,aby,abY,aal,aaQ,aaN,aaT,ab2]; omega) (by decide)
 refine ⟨_,⟨g1,by omega⟩,?_⟩
 have ds:dS (.str (tx [58]))=true:=rfl
 have ad:b2 .add (.lst ((ws.take k).map fun w=>D.str (tx w))) (.lst [D.str (tx [])])=_:=ad
 unfold F93 HI
 rw [DB,NO]
 clear hsum ow hw hk s1 g1 g2
 generalize tx (jo [58] (ws.take k ++ [[]] ++ ws.drop k))=U at *
 generalize tx [58]=X2 at *
 generalize ((ws.take k ++ [[]] ++ ws.drop k).map fun w=>D.str (tx w))=W4 at *
 generalize ((ws.take k ++ [[]]).map fun w=>D.str (tx w))=W3 at *
 generalize ((ws.take k).map fun w=>D.str (tx w))=W1 at *
 generalize ((ws.drop k).map fun w=>D.str (tx w))=W2 at *
 generalize (ws.map fun w=>D.str (tx w))=W at *
 generalize tx []=X0 at *
 simp_arith [-Bf,c1,c2,ad,ad2,ds,ju]
theorem Tq:∃ u,Tx u/\ev HJ (F93 t ws k y0 y1)=.ok (.str (tx u)):=by
 have c1:=Dk ws k
 have c2:=Cc ws k
 have s1:=Bp ws k
 obtain ⟨g1,g2,j1⟩:=HL (ts:=ws.take k) (fun w hw=>ow w (aaJ hw)) (B:=100000) (by rw [aaQ]; omega) (by decide)
 obtain ⟨g3,g4,j2⟩:=HL (ts:=ws.drop k) (fun w hw=>ow w (aaD hw)) (B:=100000) (by rw [aaN]; omega) (by decide)
 generalize jo [58] (ws.take k)=A at *
 generalize jo [58] (ws.drop k)=B at *
 have a1:=Bo (a:=A) (b:=[32]) (by show _ + 1<=_; omega)
 have a2:=Bo (a:=A ++ [32]) (b:=B) (by rw [aal]; show _ + 1 + _<=_; omega)
 refine ⟨A ++ [32] ++ B,⟨AF (AF g1 CW) g3,by rw [aal,aal]; show _ + 1 + _<=_; omega⟩,?_⟩
 have ds:dS (.str (tx [58]))=true:=rfl
 unfold F93 HJ
 rw [DB,DA]
 clear hsum ow hw hk s1 g1 g2 g3 g4
 generalize tx (A ++ [32] ++ B)=U2 at *
 generalize tx (A ++ [32])=U1 at *
 generalize tx A=TA at *
 generalize tx B=TB at *
 generalize tx [58]=X2 at *
 generalize tx [32]=X3 at *
 generalize ((ws.take k).map fun w=>D.str (tx w))=W1 at *
 generalize ((ws.drop k).map fun w=>D.str (tx w))=W2 at *
 generalize (ws.map fun w=>D.str (tx w))=W at *
 simp_arith [-Bf,c1,c2,a1,a2,ds,j1,j2]
theorem Tr:∃ u,Tx u/\ev HK (F93 t ws k y0 y1)=.ok (.str (tx u)):=by
 obtain ⟨o,ho,eo⟩:=Gn hk
 have oo:=ow o ho
 have ol:=J0 ho
 have a0:=Bo (a:=[48]) (b:=o) (by show 1 + _<=_; omega)
 have c1:=Dk ws k
 have c2:=Cc ws (k + 1)
 rw [show ((k + 1:Nat):Int)=(k:Int) + 1 by omega] at c2
 have s1:=Bp ws k
 have s2:=Bp ws (k + 1)
 have ad:=Bd ((ws.take k).map fun w=>D.str (tx w)) ([[48] ++ o].map fun w=>D.str (tx w)) (by simp; omega)
 rw [<- aan] at ad
 have ad2:=Bd ((ws.take k ++ [[48] ++ o]).map fun w=>D.str (tx w)) ((ws.drop (k + 1)).map fun w=>D.str (tx w)) (by simp; omega)
 rw [<- aan] at ad2
 obtain ⟨g1,g2,ju⟩:=HL (ts:=ws.take k ++ [[48] ++ o] ++ ws.drop (k + 1)) (fun w hw=>by
  rcases aac.mp hw with h | h
  ·rcases aac.mp h with h | h
   ·exact ow w (aaJ h)
   ·rw [aaz.mp h]; exact AF Gj oo
  ·exact ow w (aaD h)) (B:=100000) (by simp only [aan,abm,aar,aa0,aby,abY,aal,aaQ,aaN,aaT,ab2]; omega) (by decide)
 refine ⟨_,⟨g1,by omega⟩,?_⟩
 have ds:dS (.str (tx [58]))=true:=rfl
 have ad:b2 .add (.lst ((ws.take k).map fun w=>D.str (tx w))) (.lst [D.str (tx ([48] ++ o))])=_:=ad
 unfold F93 HK
 rw [DB,KR]
 clear hsum ow hw hk s1 s2 g1 g2
 generalize tx (jo [58] (ws.take k ++ [[48] ++ o] ++ ws.drop (k + 1)))=U at *
 generalize tx [58]=X2 at *
 generalize ((ws.take k ++ [[48] ++ o] ++ ws.drop (k + 1)).map fun w=>D.str (tx w))=W4 at *
 generalize ((ws.take k ++ [[48] ++ o]).map fun w=>D.str (tx w))=W3 at *
 generalize ((ws.take k).map fun w=>D.str (tx w))=W1 at *
 generalize ((ws.drop (k + 1)).map fun w=>D.str (tx w))=W2 at *
 generalize (ws.map fun w=>D.str (tx w))=W at *
 generalize tx ([48] ++ o)=OO at *
 generalize tx [48]=X0 at *
 generalize tx o=O1 at *
 simp_arith [-Bf,c1,c2,eo,a0,ad,ad2,ds,ju]
end
theorem NU {z:Str} {f:D->Res D} {n:Int} {d:D} (hz:z.length<=1048576) (hf:f (.lst ((AI z).map .str))=.ok (.int n)) (ha:atD ((AI z ++ [BO z]).map .str) n=.ok d):Hm (.ok (.str z)) f=.ret d:=by
 show (if z.length<=1048576 then (match f (.lst ((AI z).map .str)) with
  | .ok (.int n)=>match atD ((AI z ++ [BO z]).map .str) n with
   | .ok d=>Out.ret d
   | _=>.bad
  | _=>.bad) else .bad)=_
 rw [if_pos hz,hf]
 show (match atD ((AI z ++ [BO z]).map .str) n with
  | .ok d=>Out.ret d
  | _=>.bad)=_
 rw [ha]
theorem NV {t:List Nat} (ht:Okt t) (hl:t.length<=20000) {y0 y1:Int} (b0:0<=y0/\y0 < 4):∃ u,Tx u/\C4.den [.str (tx t),.lst [.int y0,.int y1]]=.ok (.str (tx u)):=by
 have T:Tx t:=⟨ht,by omega⟩
 have hsp:=Dj (sep:=[58]) (by simp) T.len
 obtain ⟨g1,g2,g3⟩:=Bm t [58]
 have gs:=Jf t [58]
 have go:∀ w ∈ sp t [58],Okt w:=Gk ht
 obtain ⟨ur,hur,er⟩:=R3 ht hl y1
 obtain ⟨ws,hws⟩:∃ ws,ws=sp t [58]:=⟨_,rfl⟩
 rw [<- hws] at hsp g2 g3 gs go
 have hwl:0 < ws.length:=ach.mpr g3
 obtain ⟨k,hk,ek⟩:=Cb (y:=y1) hwl
 have p2:0 < (ws.length:Int):=by omega
 have l1:(((ws.map fun w=>D.str (tx w)).length:Nat):Int)=(ws.length:Int):=by rw [aae]
 have hd:dS (.str (tx t))=true:=rfl
 have z1:atD [D.int y0,D.int y1] 1=.ok (.int y1):=rfl
 have pro:∀ R:Ss,exs (.cons (.asg 2 1 (.spl (.nm 0) (.cS ":"))) (.cons (.asg 3 0 (.bin .mod (.ix (.nm 1) (.cI 1)) (.bi .len (.cons (.nm 2) .nil)))) R)) [some (.str (tx t)),some (.lst [.int y0,.int y1]),none,none,none]=exs R (F93 t ws k y0 y1):=fun R=>by
  rw [DB]
  unfold F93
  clear hws g1 gs go er
  generalize (ws.map fun w=>D.str (tx w))=W at *
  generalize tx t=TT at *
  generalize tx [58]=C at *
  simp_arith [hd,hsp,z1,l1,p2,ek]
 have h0:ev (.ix (.nm 1) (.cI 0)) (F93 t ws k y0 y1)=.ok (.int y0):=rfl
 have hw:ws.length<=20002:=by omega
 have hs:(ws.map aaM).sum<=20000:=by omega
 have fin:∃ u,Tx u/\exs (AQ 0 HI (AQ 1 HJ (AQ 2 HK (.reps 4 0 (.bin .mod (.ix (.nm 1) (.cI 1)) (.cI 5)))))) (F93 t ws k y0 y1)=.ret (.str (tx u)):=by
  have:y0=0\/y0=1\/y0=2\/y0=3:=by omega
  rcases this with c | c | c | c
  ·obtain ⟨u,hu,e⟩:=Tp (t:=t) (y0:=y0) (y1:=y1) hw hs go hk
   exact ⟨u,hu,BV h0 c e⟩
  ·obtain ⟨u,hu,e⟩:=Tq (t:=t) (y0:=y0) (y1:=y1) hw hs go hk
   exact ⟨u,hu,by rw [Ag h0 (by omega)]; exact BV h0 c e⟩
  ·obtain ⟨u,hu,e⟩:=Tr (t:=t) (y0:=y0) (y1:=y1) hw hs go hk
   exact ⟨u,hu,by rw [Ag h0 (by omega),Ag h0 (by omega)]; exact BV h0 c e⟩
  ·refine ⟨ur,hur,?_⟩
   rw [Ag h0 (by omega),Ag h0 (by omega),Ag h0 (by omega)]
   have hix:ev (.bin .mod (.ix (.nm 1) (.cI 1)) (.cI 5)) [some (.str (tx t)),some (.lst [.int y0,.int y1]),some (.lst (ws.map fun w=>D.str (tx w))),some (.int k),some (.lst ((AI (tx t)).map .str))]=.ok (.int (y1 % 5)):=by
    generalize (AI (tx t)).map D.str=R
    generalize tx t=TT
    simp_arith [z1]
   show Hm (.ok (.str (tx t))) (fun d=>ev (.bin .mod (.ix (.nm 1) (.cI 1)) (.cI 5)) [some (.str (tx t)),some (.lst [.int y0,.int y1]),some (.lst (ws.map fun w=>D.str (tx w))),some (.int k),some d])=_
   exact NU (by rw [Be]; omega) hix er
 obtain ⟨u,hu,e⟩:=fin
 refine ⟨u,hu,(He _ rfl).trans (AE ?_)⟩
 rw [Jr]
 exact (pro _).trans e
noncomputable def S93:List Int:=31 :: (aaf 30 [3,9,200,100000000000000000000]).flatten
theorem Fz:S93.length=121:=by decide
theorem Mm:∀ s ∈ S93,0 < s/\s<=100000000000000000000:=by
 intro s hs
 unfold S93 at hs
 rcases aah.mp hs with rfl | hs
 ·decide
 ·obtain ⟨l,h1,h2⟩:=abX.mp hs
  obtain ⟨_,rfl⟩:=abz.mp h1
  simp only [aah,abd,or_false] at h2
  rcases h2 with rfl | rfl | rfl | rfl <;> decide
theorem R4:b2 .pow (.int 10) (.int 20)=.ok (.int 100000000000000000000):=by
 rw [CT _ _ (by decide) (by decide) (by decide)]; rfl
theorem Ts (a:List D) (k:Int) (h:-(2 ^ 63)<=k/\k < 2 ^ 63/\a.length * k.toNat<=16777216):b2 .mul (.lst a) (.int k)=Res.ok (D.lst (aaf k.toNat a).flatten):=if_pos h
theorem R5:b2 .mul (.lst [.int 3,.int 9,.int 200,.int 100000000000000000000]) (.int 30)=Res.ok (D.lst ((aaf 30 [(3:Int),9,200,100000000000000000000]).flatten.map D.int)) :=
 (Ts _ 30 ⟨by decide,by decide,by decide⟩).trans rfl
theorem NW (xs:List D) {a b:Nat} (hab:a<=b) (hb:b<=xs.length):cut xs (some (a:Int)) (some (b:Int))=(xs.drop a).take (b - a):=by
 have e1:sIx xs.length 0 (some (a:Int))=a:=by
  show (if (a:Int) < 0 then _ else _:Int).toNat=_
  rw [if_neg (by omega)]; omega
 have e2:sIx xs.length xs.length (some (b:Int))=b:=by
  show (if (b:Int) < 0 then _ else _:Int).toNat=_
  rw [if_neg (by omega)]; omega
 unfold cut
 rw [e1,e2]
theorem P8 {ys:List Int} {a:Nat} (h:a + 4<=ys.length):∃ p q r s,p ∈ ys/\q ∈ ys/\r ∈ ys/\s ∈ ys/\cut (ys.map D.int) (some (a:Int)) (some ((a + 4:Nat):Int))=[.int p,.int q,.int r,.int s]:=by
 rw [NW _ (by omega) (by rw [aae]; exact h),<- abx,<- abw,Nat.add_sub_cancel_left]
 have hl:(ys.drop a).length=ys.length - a:=aaN
 have hm:∀ x ∈ ys.drop a,x ∈ ys:=fun x hx=>aaD hx
 generalize ys.drop a=zs at *
 match zs,hl,hm with
 | p :: q :: r :: s :: t,_,hm=>exact ⟨p,q,r,s,hm _ (by simp),hm _ (by simp),hm _ (by simp),hm _ (by simp),rfl⟩
 | [],hl,_=>simp at hl; omega
 | [_],hl,_=>simp at hl; omega
 | [_,_],hl,_=>simp at hl; omega
 | [_,_,_],hl,_=>simp at hl; omega
noncomputable def N20 (r:Int):Prop:=0<=r/\r < 100000000000000000000
theorem N20.gd {r:Int} (h:N20 r):Gd r:=⟨h.1,by have:=h.2; omega⟩
noncomputable def Cw (a b c:Int):List Nat:=jo [58] [gI a,gI b,gI c]
noncomputable def Wd (w:List Nat):Prop:=∃ a b c,N20 a/\N20 b/\N20 c/\w=Cw a b c
theorem T8 (r:Int):58 ∉ gI r:=fun h=>by have:=(R1 h).2; omega
theorem NX (r:Int):32 ∉ gI r:=fun h=>by have:=(R1 h).1; omega
theorem Wd.en {w:List Nat} (h:Wd w):CH w=true:=by
 obtain ⟨a,b,c,ha,hb,hc,rfl⟩:=h
 have e:sp (Cw a b c) [58]=[gI a,gI b,gI c]:=Og (by simp) (fun x hx=>by
  simp only [aah,abd,or_false] at hx
  rcases hx with rfl | rfl | rfl <;> exact T8 _)
 unfold CH
 rw [e]
 simp only [aaE,List.all_nil,Ji ha.1 ha.2,Ji hb.1 hb.2,Ji hc.1 hc.2]
 rfl
theorem Wd.free {w:List Nat} (h:Wd w):32 ∉ w:=by
 obtain ⟨a,b,c,ha,hb,hc,rfl⟩:=h
 unfold Cw
 rw [CY,CY,Eg]
 intro z
 simp only [aac,aah] at z
 rcases z with z | z | z | z | z
 ·exact NX _ z
 ·cases z
 ·exact NX _ z
 ·cases z
 ·exact NX _ z
theorem Wd.facts {w:List Nat} (h:Wd w):Okt w/\w.length<=77:=by
 obtain ⟨a,b,c,ha,hb,hc,rfl⟩:=h
 refine ⟨Gi E8 (fun x hx=>?_),?_⟩
 ·simp only [aah,abd,or_false] at hx
  rcases hx with rfl | rfl | rfl <;> exact SX _
 ·unfold Cw
  rw [CY,CY,Eg]
  simp only [aal,aaS]
  have h1:=Gg ha.gd
  have h2:=Gg hb.gd
  have h3:=Gg hc.gd
  omega
theorem Mn {a b c:Int} (ha:N20 a) (hb:N20 b) (hc:N20 c) {δ:Fr} (hi:get δ 8=.ok (.tup [.int a,.int b,.int c])):ev (.joi (.cS ":") (.comp0 1 [] (.nm 0) (.seq (.nm 8)) (.bi .str (.cons (.nm 0) .nil)))) δ=.ok (.str (tx (Cw a b c))):=by
 have hg:∀ x ∈ [a,b,c],Gd x:=fun x hx=>by
  simp only [aah,abd,or_false] at hx
  rcases hx with rfl | rfl | rfl
  ·exact ha.gd
  ·exact hb.gd
  ·exact hc.gd
 have hi':evI (.seq (.nm 8)) δ=.ok ([a,b,c].map D.int):=by
  show (get δ 8).bind CK=_
  rw [hi]; rfl
 have hC:=Ey (nl:=1) (fr:=[]) (tg:=.nm 0) (it:=.seq (.nm 8)) (elt:=.bi .str (.cons (.nm 0) .nil)) (δ:=δ) (ds:=[a,b,c].map D.int) (g:=fun d=>match d with | .int r=>.str (tx (gI r)) | d=>d) hi' (fun d hd=>by
  obtain ⟨r,hr,rfl⟩:=aaG.mp hd
  exact ⟨[some (.int r)],rfl,RI (hg r hr)⟩)
 have e:([a,b,c].map D.int).map (fun d=>match d with | .int r=>D.str (tx (gI r)) | d=>d)=([a,b,c].map gI).map fun t=>D.str (tx t):=by
  rw [aaH,aaH]; rfl
 rw [e] at hC
 have hj:=Fy [58] ([a,b,c].map gI) (by
  have h1:=Gh (sep:=[58]) (T4 hg)
  rw [aae] at h1
  unfold fl at h1
  have:([58]:List Nat).length=1:=rfl
  rw [this] at h1
  have h2:[a,b,c].length=3:=rfl
  rw [h2] at h1
  omega)
 have ds:dS (.str (tx [58]))=true:=rfl
 unfold Cw
 have hj:Ii (.str (tx [58])) (.lst (([a,b,c].map gI).map fun t=>D.str (tx t)))=.ok (.str (tx (jo [58] [gI a,gI b,gI c]))):=hj
 clear hi hi' hg e
 generalize hE:E.comp0 1 [] (.nm 0) (.seq (.nm 8)) (.bi .str (.cons (.nm 0) .nil))=C at *
 rw [DB]
 generalize (([a,b,c].map gI).map fun t=>D.str (tx t))=L at *
 generalize tx [58]=X at *
 generalize tx (jo [58] [gI a,gI b,gI c])=J at *
 simp_arith [ds,hC,hj]
theorem T9 {ys:List Int} (hy:∀ y ∈ ys,0<=y/\y < 100000000000000000000) {k:Nat} (hk:1 + 4 * k + 4<=ys.length) (ws:List (List Nat)) (hl:ws.length<=1000) (o0 o4 o5 o6 o7 o8 o9 o10 o11 o12 o13 o14:Option D):∃ (w:List Nat) (p4 p5 p6 p7 p8:Option D),Wd w/\exs BD [o0,some (.lst (ys.map .int)),some (.lst (ws.map fun w=>D.str (tx w))),some (.int k),o4,o5,o6,o7,o8,o9,o10,o11,o12,o13,o14]=.nxt [o0,some (.lst (ys.map .int)),some (.lst ((ws ++ [w]).map fun w=>D.str (tx w))),some (.int k),p4,p5,p6,p7,p8,o9,o10,o11,o12,o13,o14]:=by
 obtain ⟨kd,lv,pl,nu,h1,h2,h3,h4,hc⟩:=P8 (ys:=ys) (a:=1 + 4 * k) hk
 have e1:1 + 4 * (k:Int)=((1 + 4 * k:Nat):Int):=by omega
 have e2:5 + 4 * (k:Int)=((1 + 4 * k + 4:Nat):Int):=by omega
 rw [<- e1,<- e2] at hc
 have b1:=hy _ h1
 have b2':=hy _ h2
 have b3:=hy _ h3
 have b4:=hy _ h4
 have as4:∀ (a b c d:D) (δ:Fr),Bg (.tp [4,5,6,7]) (.lst [a,b,c,d]) δ=some ((((δ.set 4 (some a)).set 5 (some b)).set 6 (some c)).set 7 (some d)):=fun a b c d δ=>rfl
 obtain ⟨v,hv,gv⟩:∃ v:Int,atD [.int (nu % 1000),.int nu] (kd % 2)=.ok (.int v)/\N20 v:=by
  have:kd % 2=0\/kd % 2=1:=by omega
  rcases this with h | h <;> rw [h]
  ·exact ⟨nu % 1000,rfl,by unfold N20; omega⟩
  ·exact ⟨nu,rfl,by unfold N20; omega⟩
 have l2:(0:Int) < 2:=by decide
 have l7:(0:Int) < 7:=by decide
 have l7':(7:Int) < 1606938044258990275541962092341162602522202993782792835301376:=by decide
 have l1000:(0:Int) < 1000:=by decide
 have m4:b2 .mul (.int 4) (.int (k:Int))=.ok (.int (4 * (k:Int))):=Bu _ _ (by decide) (by decide)
 have hm:∀ w:List Nat,(ws ++ [w]).map (fun w=>D.str (tx w))=ws.map (fun w=>D.str (tx w)) ++ [.str (tx w)]:=fun w=>by rw [aan]; rfl
 generalize hJ:E.joi (.cS ":") (.comp0 1 [] (.nm 0) (.seq (.nm 8)) (.bi .str (.cons (.nm 0) .nil)))=J at *
 by_cases c:kd=2
 ·have c':(kd==2)=true:=beq_iff_eq.mpr c
  have n1:N20 nu:=b4
  have n2:N20 (nu / 7):=by unfold N20; omega
  have n3:N20 0:=by unfold N20; omega
  have hw:∀ δ:Fr,get δ 8=.ok (.tup [.int nu,.int (nu / 7),.int 0])->ev J δ=.ok (.str (tx (Cw nu (nu / 7) 0))):=fun δ h=>by rw [<- hJ]; exact Mn n1 n2 n3 h
  have hap:=Dz (ws.map fun w=>D.str (tx w)) (.str (tx (Cw nu (nu / 7) 0))) (by rw [aae]; omega)
  refine ⟨Cw nu (nu / 7) 0,some (.int kd),some (.int lv),some (.int pl),some (.int nu),some (.tup [.int nu,.int (nu / 7),.int 0]),⟨_,_,_,n1,n2,n3,rfl⟩,?_⟩
  rw [hm,BD,hJ]
  have hw2:=fun (a0 a1 a2 a3 a4 a5 a6 a7 a9 a10 a11 a12 a13 a14:Option D)=>hw [a0,a1,a2,a3,a4,a5,a6,a7,some (.tup [.int nu,.int (nu / 7),.int 0]),a9,a10,a11,a12,a13,a14] rfl
  clear hm hy e1 e2 hw
  generalize tx (Cw nu (nu / 7) 0)=WW at *
  generalize (ws.map fun w=>D.str (tx w))=X at *
  generalize ys.map D.int=Y at *
  simp_arith [m4,hc,as4,l2,l7,l7',l1000,hv,c',hw2,hap]
 ·have c':(kd==2)=false:=beq_eq_false_iff_ne.mpr c
  have n1:N20 lv:=b2'
  have n2:N20 pl:=b3
  have hw:∀ δ:Fr,get δ 8=.ok (.tup [.int lv,.int pl,.int v])->ev J δ=.ok (.str (tx (Cw lv pl v))):=fun δ h=>by rw [<- hJ]; exact Mn n1 n2 gv h
  have hap:=Dz (ws.map fun w=>D.str (tx w)) (.str (tx (Cw lv pl v))) (by rw [aae]; omega)
  refine ⟨Cw lv pl v,some (.int kd),some (.int lv),some (.int pl),some (.int nu),some (.tup [.int lv,.int pl,.int v]),⟨_,_,_,n1,n2,gv,rfl⟩,?_⟩
  rw [hm,BD,hJ]
  have hw2:=fun (a0 a1 a2 a3 a4 a5 a6 a7 a9 a10 a11 a12 a13 a14:Option D)=>hw [a0,a1,a2,a3,a4,a5,a6,a7,some (.tup [.int lv,.int pl,.int v]),a9,a10,a11,a12,a13,a14] rfl
  clear hm hy e1 e2 hw
  generalize tx (Cw lv pl v)=WW at *
  generalize (ws.map fun w=>D.str (tx w))=X at *
  generalize ys.map D.int=Y at *
  simp_arith [m4,hc,as4,l2,l7,l7',l1000,hv,c',hw2,hap]
theorem R6 {ws:List (List Nat)} (h:∀ w ∈ ws,Wd w) (hl:ws.length<=30):∃ g:List Nat,Okt g/\g.length<=20000/\(g==[45] || DE g)=true/\∀ (o0 o1 o3 o4 o5 o6 o7 o8 o9 o10 o11 o12 o13 o14:Option D),ev (.ifx (.cmp .ne (.nm 2) (.lst .nil)) (.joi (.cS " ") (.nm 2)) (.cS "-")) [o0,o1,some (.lst (ws.map fun w=>D.str (tx w))),o3,o4,o5,o6,o7,o8,o9,o10,o11,o12,o13,o14]=.ok (.str (tx g)):=by
 have ok:∀ w ∈ ws,Okt w:=fun w hw=>(h w hw).facts.1
 have hb:∀ w ∈ ws,w.length<=77:=fun w hw=>(h w hw).facts.2
 by_cases c:ws=[]
 ·subst c
  refine ⟨[45],Me,by decide,rfl,fun _ _ _ _ _ _ _ _ _ _ _ _ _ _=>?_⟩
  have hn:c2 .ne (.lst []) (.lst [])=.ok (.bl false):=rfl
  rw [IX,aa0]
  generalize tx [45]=M
  simp_arith [hn]
 ·have hfl:=Gh (sep:=[32]) hb
  have hjl:=RJ (sep:=[32]) hb
  have e1:([32]:List Nat).length=1:=rfl
  rw [e1] at hfl hjl
  have h30:ws.length * (1 + 77)<=30 * (1 + 77):=acb _ hl
  have hj:=Fy [32] ws (by unfold fl at hfl; omega)
  refine ⟨jo [32] ws,Gi CW ok,by omega,?_,fun _ _ _ _ _ _ _ _ _ _ _ _ _ _=>?_⟩
  ·have e:sp (jo [32] ws) [32]=ws:=Og c fun w hw=>(h w hw).free
   have:DE (jo [32] ws)=true:=by
    unfold DE
    rw [e,aaw]
    exact fun w hw=>(h w hw).en
   rw [this,Bool.or_true]
  ·have hn:c2 .ne (.lst (ws.map fun w=>D.str (tx w))) (.lst [])=.ok (.bl true):=by
    have es:D.shp 8 (.lst (ws.map fun w=>D.str (tx w)))=true:=by
     show (ws.map fun w=>D.str (tx w)).all (D.shp 7)=true
     rw [aaw]
     intro d hd
     obtain ⟨w,hw,rfl⟩:=aaG.mp hd
     exact Ef (ok w hw) 7
    show (if (D.shp 8 (.lst (ws.map fun w=>D.str (tx w))) && D.shp 8 (.lst []))=true then Res.ok (D.bl (!D.eqv (.lst (ws.map fun w=>D.str (tx w))) (.lst []))) else .bad)=_
    rw [es]
    cases ws with
    | nil=>exact absurd rfl c
    | cons a r=>rfl
   have ds:dS (.str (tx [32]))=true:=rfl
   rw [DA,IX]
   clear ok hb h hfl hjl
   generalize tx [45]=M
   generalize tx (jo [32] ws)=J at *
   generalize tx [32]=X at *
   generalize (ws.map fun w=>D.str (tx w))=W at *
   simp_arith [hn,ds,hj]
section
variable {ns:List Int} {g:List Nat} (hg:Okt g) (hgl:g.length<=20000)
include hg hgl
theorem KS {u:List Nat} (hu:Tx u) (o0 o1 o2 o3 o4 o5 o6 o7 o8 o9 o10 o11 o13 o14:Option D):exs AW [o0,o1,o2,o3,o4,o5,o6,o7,o8,o9,o10,o11,some (.str (tx u)),o13,o14]=.nxt [o0,o1,o2,o3,o4,o5,o6,o7,o8,o9,o10,o11,some (.str (tx u)),o13,o14]:=by
 obtain ⟨r,du,h1,h2,h3,_⟩:=Oe hu
 generalize tx u=U at *
 simp_arith [AW,h1,h2,h3]
theorem Tt (k:Nat) (o1 o2 o4 o5 o6 o7 o8 o10 o11 o12 o13 o14:Option D):∃ p10 p11 p12,exs Co [some (.lst (ns.map .int)),o1,o2,some (.int k),o4,o5,o6,o7,o8,some (.str (tx g)),o10,o11,o12,o13,o14]=.nxt [some (.lst (ns.map .int)),o1,o2,some (.int k),o4,o5,o6,o7,o8,some (.str (tx g)),p10,p11,p12,o13,o14]:=by
 obtain ⟨ys,hrow,hyl,hyb⟩:=GI ns (10 + (k:Int)) (by omega) [8,10000,94] (by decide) (by decide)
 obtain ⟨y0,y1,y2,rfl⟩:∃ a b c,ys=[a,b,c]:=by
  match ys,hyl with
  | [a,b,c],_=>exact ⟨a,b,c,rfl⟩
 have b0:=hyb 0 y0 _ rfl rfl
 simp only [abN] at hrow
 obtain ⟨zs,hrow2,hzl,hzb⟩:=GI ns (30 + (k:Int)) (by omega) [4,200] (by decide) (by decide)
 obtain ⟨z0,z1,rfl⟩:∃ a b,zs=[a,b]:=by
  match zs,hzl with
  | [a,b],_=>exact ⟨a,b,rfl⟩
 have c0:=hzb 0 z0 _ rfl rfl
 simp only [abN] at hrow2
 obtain ⟨u,hu,hbent⟩:=RU hg (by omega) (y0:=y0) (y1:=y1) (y2:=y2) b0
 obtain ⟨v,hv,hcol⟩:=NV hg hgl (y0:=z0) (y1:=z1) c0
 have hG:Tx g:=⟨hg,by omega⟩
 have p4:b2 .pow (.int 10) (.int 4)=.ok (.int 10000):=by
  rw [CT _ _ (by decide) (by decide) (by decide)]; rfl
 have e1:=KS hg hgl hG (some (.lst (ns.map .int))) o1 o2 (some (.int k)) o4 o5 o6 o7 o8 (some (.str (tx g))) (some (.str (tx u))) (some (.str (tx v))) o13 o14
 have e2:=KS hg hgl hu (some (.lst (ns.map .int))) o1 o2 (some (.int k)) o4 o5 o6 o7 o8 (some (.str (tx g))) (some (.str (tx u))) (some (.str (tx v))) o13 o14
 have e3:=KS hg hgl hv (some (.lst (ns.map .int))) o1 o2 (some (.int k)) o4 o5 o6 o7 o8 (some (.str (tx g))) (some (.str (tx u))) (some (.str (tx v))) o13 o14
 have hf:AN (.nm 12) (exs AW) [.str (tx g),.str (tx u),.str (tx v)] [some (.lst (ns.map .int)),o1,o2,some (.int k),o4,o5,o6,o7,o8,some (.str (tx g)),some (.str (tx u)),some (.str (tx v)),o12,o13,o14]=.nxt [some (.lst (ns.map .int)),o1,o2,some (.int k),o4,o5,o6,o7,o8,some (.str (tx g)),some (.str (tx u)),some (.str (tx v)),some (.str (tx v)),o13,o14]:=by
  rw [AN]
  show (exs AW [some (.lst (ns.map .int)),o1,o2,some (.int k),o4,o5,o6,o7,o8,some (.str (tx g)),some (.str (tx u)),some (.str (tx v)),some (.str (tx g)),o13,o14]).then _=_
  rw [e1,Out.then_nxt,AN]
  show (exs AW [some (.lst (ns.map .int)),o1,o2,some (.int k),o4,o5,o6,o7,o8,some (.str (tx g)),some (.str (tx u)),some (.str (tx v)),some (.str (tx u)),o13,o14]).then _=_
  rw [e2,Out.then_nxt,AN]
  show (exs AW [some (.lst (ns.map .int)),o1,o2,some (.int k),o4,o5,o6,o7,o8,some (.str (tx g)),some (.str (tx u)),some (.str (tx v)),some (.str (tx v)),o13,o14]).then _=_
  rw [e3,Out.then_nxt,AN]
 refine ⟨some (.str (tx u)),some (.str (tx v)),some (.str (tx v)),?_⟩
 rw [Co]
 clear e1 e2 e3 hyl hyb hzl hzb
 generalize (ns.map D.int)=Ns at *
 generalize D.str (tx g)=G at *
 generalize D.str (tx u)=U at *
 generalize D.str (tx v)=V at *
 simp_arith [p4,hrow,hrow2,hbent,hcol,hf]
theorem Tu {d:D} (hd:dS d=false) (o0 o1 o2 o3 o4 o5 o6 o7 o8 o9 o10 o11 o12 o14:Option D):exs Cp [o0,o1,o2,o3,o4,o5,o6,o7,o8,o9,o10,o11,o12,some d,o14]=.nxt [o0,o1,o2,o3,o4,o5,o6,o7,o8,o9,o10,o11,o12,some d,o14]:=by
 have h:=T7 hd
 have hne:=S6
 simp_arith [Cp,h,hne]
end
theorem P9:∀ ns:List Int,ns.length<=63->Ew.den [.lst (ns.map .int)]=.ok (.bl true):=by
 intro ns _
 obtain ⟨ys,hrow,hyl,hyb⟩:=GI ns 0 (by decide) S93 (by rw [Fz]; decide) (fun s hs=>by have:=Mm s hs; omega)
 rw [Fz] at hyl
 have hy:∀ y ∈ ys,0<=y/\y < 100000000000000000000:=fun y hy=>by
  obtain ⟨j,hj,rfl⟩:=List.mem_iff_getElem.mp hy
  have hs:S93[j]?=some (S93[j]'(by rw [Fz]; omega)):=aam _
  have h1:=hyb j _ _ (aam hj) hs
  have h2:=Mm _ (abt (by rw [Fz]; omega:j < S93.length))
  omega
 obtain ⟨n,hn,ea⟩:∃ n:Nat,n<=30/\atD (ys.map D.int) 0=.ok (.int n):=by
  have h0:0 < ys.length:=by omega
  have e0:ys[0]?=some ys[0]:=aam h0
  have h1:=hyb 0 _ 31 e0 rfl
  refine ⟨ys[0].toNat,by omega,?_⟩
  have:=T0 (xs:=ys.map D.int) (i:=0) (by rw [aae]; exact h0)
  rw [List.getElem_map] at this
  rw [acg h1.1]
  exact this
 have hr:=GH (a:=0) (b:=(n:Int)) (by omega) (by omega) (by omega) (by omega)
 have hr10:=GH (a:=0) (b:=10) (by omega) (by omega) (by omega) (by omega)
 obtain ⟨δ',e1,ws,p3,p4,p5,p6,p7,p8,rfl,hl,hw⟩:=Ca (tg:=.nm 3) (b:=exs BD) (fun i δ=>∃ (ws:List (List Nat)) (p3 p4 p5 p6 p7 p8:Option D),δ=[some (.lst (ns.map .int)),some (.lst (ys.map .int)),some (.lst (ws.map fun w=>D.str (tx w))),p3,p4,p5,p6,p7,p8,none,none,none,none,none,none]/\ws.length=i/\∀ w ∈ ws,Wd w) (ds:=Az 0 (n:Int)) (δ:=[some (.lst (ns.map .int)),some (.lst (ys.map .int)),some (.lst []),none,none,none,none,none,none,none,none,none,none,none,none]) 0 ⟨[],none,none,none,none,none,none,rfl,rfl,fun w hw=>nomatch hw⟩ (by
  rintro i d δ hd ⟨ws,p3,p4,p5,p6,p7,p8,rfl,hl,hw⟩
  obtain ⟨rfl,hi⟩:=Ex hd
  rw [Int.zero_add]
  obtain ⟨w,q4,q5,q6,q7,q8,gw,st⟩:=T9 hy (k:=i) (by omega) ws (by omega) (some (.lst (ns.map .int))) p4 p5 p6 p7 p8 none none none none none none
  refine ⟨_,_,rfl,st,ws ++ [w],some (.int i),q4,q5,q6,q7,q8,rfl,by rw [aal,hl]; rfl,fun x hx=>?_⟩
  rcases aac.mp hx with hx | hx
  ·exact hw x hx
  ·rw [aaz.mp hx]; exact gw)
 have hl:ws.length<=30:=by
  rw [hl]
  have:=Gf 0 (n:Int)
  omega
 obtain ⟨g,hg,hgl,hok,eg⟩:=R6 hw hl
 have eg:=eg (some (.lst (ns.map .int))) (some (.lst (ys.map .int))) p3 p4 p5 p6 p7 p8 none none none none none none
 obtain ⟨δ',e2,q3,q10,q11,q12,rfl⟩:=Ca (tg:=.nm 3) (b:=exs Co) (fun _ δ=>∃ q3 q10 q11 q12,δ=[some (.lst (ns.map .int)),some (.lst (ys.map .int)),some (.lst (ws.map fun w=>D.str (tx w))),q3,p4,p5,p6,p7,p8,some (.str (tx g)),q10,q11,q12,none,none]) (ds:=Az 0 10) (δ:=[some (.lst (ns.map .int)),some (.lst (ys.map .int)),some (.lst (ws.map fun w=>D.str (tx w))),p3,p4,p5,p6,p7,p8,some (.str (tx g)),none,none,none,none,none]) 0 ⟨p3,none,none,none,rfl⟩ (by
  rintro i d δ hd ⟨q3,q10,q11,q12,rfl⟩
  obtain ⟨j,rfl,_⟩:=KP (aai hd)
  obtain ⟨p10,p11,p12,e⟩:=Tt (ns:=ns) hg hgl j (some (.lst (ys.map .int))) (some (.lst (ws.map fun w=>D.str (tx w)))) p4 p5 p6 p7 p8 q10 q11 q12 none none
  exact ⟨_,_,rfl,e,some (.int j),p10,p11,p12,rfl⟩)
 obtain ⟨δ',e3,q13,rfl⟩:=Ca (tg:=.nm 13) (b:=exs Cp) (fun _ δ=>∃ q13,δ=[some (.lst (ns.map .int)),some (.lst (ys.map .int)),some (.lst (ws.map fun w=>D.str (tx w))),q3,p4,p5,p6,p7,p8,some (.str (tx g)),q10,q11,q12,q13,none]) (ds:=[.non,.int 5,.bl true,.lst [.str (tx g)],.tup [.str (tx g)],.exn 999,.lst [],.tup [.int 0,.int 0,.int 0],.lst [.tup [.int 0,.int 0,.int 0]]]) (δ:=[some (.lst (ns.map .int)),some (.lst (ys.map .int)),some (.lst (ws.map fun w=>D.str (tx w))),q3,p4,p5,p6,p7,p8,some (.str (tx g)),q10,q11,q12,none,none]) 0 ⟨none,rfl⟩ (by
  rintro i d δ hd ⟨q13,rfl⟩
  have hds:dS d=false:=by
   have:=aai hd
   simp only [aah,abd,or_false] at this
   rcases this with rfl | rfl | rfl | rfl | rfl | rfl | rfl | rfl | rfl <;> rfl
  exact ⟨_,_,rfl,Tu hg hgl hds _ _ _ _ _ _ _ _ _ _ _ _ _ _,some d,rfl⟩)
 obtain ⟨r,du,h1,h2,h3,hcase⟩:=Oe (l:=g) ⟨hg,by omega⟩
 obtain ⟨vs,rfl,hvl⟩:=hcase hok
 have hu:Bh (umD .append [.tup [.int 0,.int 0,.int 0]]) [(false,0)] (.lst [.lst (vs.map As)])=some (.lst [.lst (vs.map As ++ [.tup [.int 0,.int 0,.int 0]])]):=by
  have:=Dz (vs.map As) (.tup [.int 0,.int 0,.int 0]) (by rw [aae]; omega)
  show (Bh (umD .append [.tup [.int 0,.int 0,.int 0]]) [] (.lst (vs.map As))).map _=_
  rw [Bh,this]; rfl
 have hs:=R5
 have p2:=R4
 have ha:=Bd [.int 31] ((aaf 30 [(3:Int),9,200,100000000000000000000]).flatten.map D.int) (by decide)
 have ha:b2 .add (.lst [.int 31]) (.lst ((aaf 30 [(3:Int),9,200,100000000000000000000]).flatten.map D.int))=.ok (.lst (S93.map .int)):=ha
 refine (KM _ rfl).trans (AE ?_)
 generalize hI:E.ifx (.cmp .ne (.nm 2) (.lst .nil)) (.joi (.cS " ") (.nm 2)) (.cS "-")=I at *
 rw [DU,hI]
 clear hcase hg hgl hy hyb hw hok hyl hl hvl
 generalize (aaf 30 [(3:Int),9,200,100000000000000000000]).flatten.map D.int=RR at *
 generalize S93.map D.int=SS at *
 generalize (ns.map D.int)=Ns at *
 generalize ys.map D.int=Y at *
 generalize (ws.map fun w=>D.str (tx w))=W at *
 generalize D.str (tx g)=G at *
 generalize vs.map As=V at *
 generalize Az 0 10=R10 at *
 generalize Az 0 (n:Int)=Rn at *
 simp_arith [p2,hs,ha,hrow,ea,hr,e1,eg,hr10,e2,e3,h1,hu,-Bh,h2,h3]
end Pu
end
namespace Pu
open PySem PySem.Spec PyProof.Rows PySem.W L2
noncomputable def top (i:Nat):Stmt:=PySem.Challenge.pw_ullage_k93_papers_read.main.body.getD i (.Pass ⟨0,0,0,0⟩)
theorem Jj:dfB ["word"] ["word"] (top 9) CM 9=true:=by decide +kernel
theorem GP:dfB ["word"] ["word"] (top 10) Bq 9=true:=by decide +kernel
theorem Hg:dfB ["line"] ["line"] (top 11) BA 9=true:=by decide +kernel
theorem Hh:dfB ["word", "words"] ["word"] (top 13) BB 9=true:=by decide +kernel
theorem Hi:dfB ["line"] ["line"] (top 12) BC 9=true:=by decide +kernel
theorem Js:dfB ["_law_script", "_law_place", "_law_seed", "_law_cell_here"] ["_law_script", "_law_place"] (top 15) Cl 0=true:=by decide +kernel
theorem GQ:dfB ["_law_cell_here", "_law_k", "_law_one", "_law_two"] ["_law_cell_here", "_law_k"] (top 16) B0 1=true:=by decide +kernel
theorem GR:dfB ["_law_script", "_law_place", "_law_sizes", "_law_cell_here", "_law_left", "_law_some", "_law_k", "_law_other"] ["_law_script", "_law_place", "_law_sizes"] (top 17) B3 2=true:=by decide +kernel
theorem Jk:dfB ["_law_thing"] ["_law_thing"] (top 18) FC 9=true:=by decide +kernel
theorem Hj:dfB ["_law_word", "_law_sign"] ["_law_word"] (top 19) Cm 9=true:=by decide +kernel
theorem FW:dfB ["_law_line", "_law_some", "_law_odd", "_law_signs", "_law_at", "_law_words", "_law_which"] ["_law_line", "_law_some"] (top 20) By 0=true:=by decide +kernel
theorem GS:dfB ["_law_line", "_law_found", "_law_word", "_law_numbers"] ["_law_line"] (top 21) B4 1=true:=by decide +kernel
theorem Go:dfB ["_law_line", "_law_found", "e", "_law_others"] ["_law_line"] (top 22) Bc 3=true:=by decide +kernel
theorem FX:dfB ["_law_found", "_law_due_here", "_law_row_here"] ["_law_found", "_law_due_here"] (top 23) A6 9=true:=by decide +kernel
theorem Hk:dfB ["_law_line", "_law_some", "_law_parts", "_law_which", "_law_found"] ["_law_line", "_law_some"] (top 24) Cn 1=true:=by decide +kernel
theorem KT:dfB ["_law_script", "_law_some", "_law_words", "_law_k", "_law_kind", "_law_level", "_law_at", "_law_number_here", "_law_row_here", "_law_good", "_law_bent", "_law_other", "_law_one", "_law_thing", "_law_found"] ["_law_script"] (top 25) DU 9=true:=by decide +kernel
set_option maxHeartbeats 0 in
theorem R7 {l:PySem.W.OpenLaw} {w:World} {K:PySem.W.Frag} {h:Heap} {mg:Str->Option Value} {fa:Addr} {C0 C2 C6 C16:Addr} {gv0:Value} {gv1:Value} {gv2:Value} (X:K.In h) (G:h.Ns mainGlobals mg) (hfa:mg "law" = some (.ref fa)) (t0:Bj K "is_number" (top 9)) (t1:Bj K "read_number" (top 10)) (t2:Bj K "check_text" (top 11)) (t3:Bj K "read_entry" (top 13)) (t4:Bj K "read_paper" (top 12)) (t5:Bj K "_law_cell" (top 15)) (t6:Bj K "_law_mix" (top 16)) (t7:Bj K "_law_row" (top 17)) (t8:Bj K "_law_whole" (top 18)) (t9:Bj K "_law_number" (top 19)) (t10:Bj K "_law_bent_line" (top 20)) (t11:Bj K "_law_due" (top 21)) (t12:Bj K "_law_read" (top 22)) (t13:Bj K "_law_alike" (top 23)) (t14:Bj K "_law_colons" (top 24)) (t15:Bj K "law" (top 25)) (n_len:nsIn K mainGlobals "len" = some none) (n_min:nsIn K mainGlobals "min" = some none) (n_max:nsIn K mainGlobals "max" = some none) (n_abs:nsIn K mainGlobals "abs" = some none) (n_int:nsIn K mainGlobals "int" = some none) (n_list:nsIn K mainGlobals "list" = some none) (n_tuple:nsIn K mainGlobals "tuple" = some none) (n_all:nsIn K mainGlobals "all" = some none) (n_any:nsIn K mainGlobals "any" = some none) (n_sum:nsIn K mainGlobals "sum" = some none) (n_sorted:nsIn K mainGlobals "sorted" = some none) (n_isinstance:nsIn K mainGlobals "isinstance" = some none) (n_str:nsIn K mainGlobals "str" = some none) (n_range:nsIn K mainGlobals "range" = some none) (n_enumerate:nsIn K mainGlobals "enumerate" = some none) (n_zip:nsIn K mainGlobals "zip" = some none) (n_reversed:nsIn K mainGlobals "reversed" = some none) (n_bool:nsIn K mainGlobals "bool" = some none) (n_dict:nsIn K mainGlobals "dict" = some none) (n_ValueError:nsIn K mainGlobals "ValueError" = some none) (c0:ClsF K "RoomError" C0) (c2:ClsF K "NoNode" C2) (c6:ClsF K "BadRoom" C6) (c16:ClsF K "NoLine" C16) (e16:excIn K C16 Gu "ValueError.__new__" = true) (y0_0:kitOne K (.ref C0) (.ref C0)=some true) (y0_2:kitOne K (.ref C0) (.ref C2)=some false) (y0_6:kitOne K (.ref C0) (.ref C6)=some false) (y0_16:kitOne K (.ref C0) (.ref C16)=some false) (y2_0:kitOne K (.ref C2) (.ref C0)=some true) (y2_2:kitOne K (.ref C2) (.ref C2)=some true) (y2_6:kitOne K (.ref C2) (.ref C6)=some false) (y2_16:kitOne K (.ref C2) (.ref C16)=some false) (y6_0:kitOne K (.ref C6) (.ref C0)=some true) (y6_2:kitOne K (.ref C6) (.ref C2)=some false) (y6_6:kitOne K (.ref C6) (.ref C6)=some true) (y6_16:kitOne K (.ref C6) (.ref C16)=some false) (y16_0:kitOne K (.ref C16) (.ref C0)=some true) (y16_2:kitOne K (.ref C16) (.ref C2)=some false) (y16_6:kitOne K (.ref C16) (.ref C6)=some false) (y16_16:kitOne K (.ref C16) (.ref C16)=some true) (gq0:PySem.W.nsIn K mainGlobals "MOST_FIGURES" = some (some gv0)) (rq0:RelV (dT (.int 20)).val gv0) (gq1:PySem.W.nsIn K mainGlobals "FIGURES" = some (some gv1)) (rq1:RelV (dT (.str "0123456789")).val gv1) (gq2:PySem.W.nsIn K mainGlobals "NOTHING" = some (some gv2)) (rq2:RelV (dT (.str "-")).val gv2) (nl:noL K=true)
  (hden:∀ ns:List Int,ns.length<=63->Ew.den [.lst (ns.map .int)]=.ok (.bl true)) :
  ∃ fd:FuncData,(∀ (s:Shared) (v:Value),BindsTo s fd ⟨[v],[]⟩ [("_law_script",v)])/\∀ base:Heap,K.In base->base.Ns mainGlobals mg->FnOk l.prog w K mg base (CXe l.prog w) 6 fa fd ["_law_script"] (spL K):=by
 have O:∀ base:Heap,Lw.Ok ⟨⟨K,clA [(0,C0),(2,C2),(6,C6),(16,C16)],Bl [(0,C0),(2,C2),(6,C6),(16,C16)]⟩,l.prog,w,mg,base⟩:=fun base=>ST rfl X G ⟨n_len,n_min,n_max,n_abs,n_int,n_list,n_tuple,n_all,n_any,n_sum,n_sorted,n_isinstance,n_str,n_range,n_enumerate,n_zip,n_reversed,n_bool,n_dict,n_ValueError,trivial⟩ ⟨c0,c2,c6,c16,trivial⟩ ⟨⟨y0_0,y0_2,y0_6,y0_16,trivial⟩,⟨y2_0,y2_2,y2_6,y2_16,trivial⟩,⟨y6_0,y6_2,y6_6,y6_16,trivial⟩,⟨y16_0,y16_2,y16_6,y16_16,trivial⟩,trivial⟩
 refine PN (cs:=[(0,C0),(2,C2),(6,C6),(16,C16)]) (lv:=5) X G hfa t15 KT (fun _ _ _ _ _ _ s v=>.of_eq rfl) O (fun base=>?_) nl hden
 have cl0:=(⟨rfl,PySem.W.mg_of X G c0.q⟩:NeedG ⟨⟨K,clA [(0,C0),(2,C2),(6,C6),(16,C16)],Bl [(0,C0),(2,C2),(6,C6),(16,C16)]⟩,l.prog,w,mg,base⟩ 0 (.cl 0))
 have cl2:=(⟨rfl,PySem.W.mg_of X G c2.q⟩:NeedG ⟨⟨K,clA [(0,C0),(2,C2),(6,C6),(16,C16)],Bl [(0,C0),(2,C2),(6,C6),(16,C16)]⟩,l.prog,w,mg,base⟩ 0 (.cl 2))
 have cl6:=(⟨rfl,PySem.W.mg_of X G c6.q⟩:NeedG ⟨⟨K,clA [(0,C0),(2,C2),(6,C6),(16,C16)],Bl [(0,C0),(2,C2),(6,C6),(16,C16)]⟩,l.prog,w,mg,base⟩ 0 (.cl 6))
 have rs16:=(⟨rfl,c16.q,e16⟩:NeedG ⟨⟨K,clA [(0,C0),(2,C2),(6,C6),(16,C16)],Bl [(0,C0),(2,C2),(6,C6),(16,C16)]⟩,l.prog,w,mg,base⟩ 0 (.rs 16))
 have cl16:=(⟨rfl,PySem.W.mg_of X G c16.q⟩:NeedG ⟨⟨K,clA [(0,C0),(2,C2),(6,C6),(16,C16)],Bl [(0,C0),(2,C2),(6,C6),(16,C16)]⟩,l.prog,w,mg,base⟩ 0 (.cl 16))
 have gl0:=(⟨_,PySem.W.mg_of X G gq0,rq0⟩:NeedG ⟨⟨K,clA [(0,C0),(2,C2),(6,C6),(16,C16)],Bl [(0,C0),(2,C2),(6,C6),(16,C16)]⟩,l.prog,w,mg,base⟩ 0 (.gl "MOST_FIGURES" (.int 20)))
 have gl1:=(⟨_,PySem.W.mg_of X G gq1,rq1⟩:NeedG ⟨⟨K,clA [(0,C0),(2,C2),(6,C6),(16,C16)],Bl [(0,C0),(2,C2),(6,C6),(16,C16)]⟩,l.prog,w,mg,base⟩ 0 (.gl "FIGURES" (.str "0123456789")))
 have gl2:=(⟨_,PySem.W.mg_of X G gq2,rq2⟩:NeedG ⟨⟨K,clA [(0,C0),(2,C2),(6,C6),(16,C16)],Bl [(0,C0),(2,C2),(6,C6),(16,C16)]⟩,l.prog,w,mg,base⟩ 0 (.gl "NOTHING" (.str "-")))
 have h_is_number:=AU (lv:=0) (O base) (AT X G t0 fun _ _ _ _ _ _=>ba1 fun _=>rfl) Jj ⟨gl0,gl1,trivial⟩
 have h_read_number:=AU (lv:=1) (O base) (AT X G t1 fun _ _ _ _ _ _=>ba1 fun _=>rfl) GP ⟨⟨by decide,h_is_number⟩,rs16,trivial⟩
 have h_check_text:=AU (lv:=0) (O base) (AT X G t2 fun _ _ _ _ _ _=>ba1 fun _=>rfl) Hg ⟨rs16,trivial⟩
 have h_read_entry:=AU (lv:=2) (O base) (AT X G t3 fun _ _ _ _ _ _=>ba1 fun _=>rfl) Hh ⟨rs16,⟨by decide,h_read_number⟩,⟨by decide,h_read_number⟩,⟨by decide,h_read_number⟩,trivial⟩
 have h_read_paper:=AU (lv:=3) (O base) (AT X G t4 fun _ _ _ _ _ _=>ba1 fun _=>rfl) Hi ⟨⟨by decide,h_check_text⟩,gl2,⟨by decide,h_read_entry⟩,trivial⟩
 have h_law_cell:=AU (lv:=0) (O base) (AT X G t5 fun _ _ _ _ _ _=>ba2 fun _ _=>rfl) Js trivial
 have h_law_mix_k11:=AU (lv:=0) (O base) (AT X G t6 fun _ _ _ _ _ _=>ba2 fun _ _=>rfl) GQ trivial
 have h_law_row_k11:=AU (lv:=1) (O base) (AT X G t7 fun _ _ _ _ _ _=>ba3 fun _ _ _=>rfl) GR ⟨⟨by decide,h_law_cell⟩,⟨by decide,h_law_mix_k11⟩,⟨by decide,h_law_cell⟩,⟨by decide,h_law_mix_k11⟩,trivial⟩
 have h_law_whole:=AU (lv:=0) (O base) (AT X G t8 fun _ _ _ _ _ _=>ba1 fun _=>rfl) Jk trivial
 have h_law_number:=AU (lv:=0) (O base) (AT X G t9 fun _ _ _ _ _ _=>ba1 fun _=>rfl) Hj trivial
 have h_law_bent_line:=AU (lv:=0) (O base) (AT X G t10 fun _ _ _ _ _ _=>ba2 fun _ _=>rfl) FW trivial
 have h_law_due_k93:=AU (lv:=1) (O base) (AT X G t11 fun _ _ _ _ _ _=>ba1 fun _=>rfl) GS ⟨⟨by decide,h_law_number⟩,trivial⟩
 have h_law_read_k93:=AU (lv:=4) (O base) (AT X G t12 fun _ _ _ _ _ _=>ba1 fun _=>rfl) Go ⟨cl0,⟨by decide,h_read_paper⟩,cl6,cl2,cl16,trivial⟩
 have h_law_alike_k93:=AU (lv:=1) (O base) (AT X G t13 fun _ _ _ _ _ _=>ba2 fun _ _=>rfl) FX ⟨⟨by decide,h_law_whole⟩,trivial⟩
 have h_law_colons:=AU (lv:=0) (O base) (AT X G t14 fun _ _ _ _ _ _=>ba2 fun _ _=>rfl) Hk trivial
 exact ⟨⟨by decide,h_law_row_k11⟩,⟨by decide,h_law_bent_line⟩,⟨by decide,h_law_row_k11⟩,⟨by decide,h_law_colons⟩,⟨by decide,h_law_row_k11⟩,⟨by decide,h_law_alike_k93⟩,⟨by decide,h_law_read_k93⟩,⟨by decide,h_law_due_k93⟩,⟨by decide,h_law_read_k93⟩,⟨by decide,h_law_read_k93⟩,⟨by decide,h_law_alike_k93⟩,⟨by decide,h_law_read_k93⟩,⟨by decide,h_law_due_k93⟩,trivial⟩
end Pu
open PySem PySem.W PyProof.Rows
noncomputable def PySem.W.Fast.tw4823931294643015787:Nat:=0
noncomputable def PySem.W.Fast.tw825305884964917416:Nat:=0
noncomputable def PySem.W.Fast.tw1918464305288618982:Nat:=0
noncomputable def PySem.W.Fast.tw5699191364996768120:Nat:=0
noncomputable def PySem.W.Fast.tw15890816770856225416:Nat:=0
noncomputable def PySem.W.Fast.tw5883269272506873613:Nat:=0
noncomputable def PySem.W.Fast.tw7659299699078625938:Nat:=0
noncomputable def PySem.W.Fast.tw8384155294737065989:Nat:=0
noncomputable def PySem.W.Fast.tw10248376501362519752:Nat:=0
noncomputable def PySem.W.Fast.tw9851351223236004874:Nat:=0
noncomputable def PySem.W.Fast.tw13449679973282405966:Nat:=0
noncomputable def PySem.W.Fast.tw11275594097544991690:Nat:=0
noncomputable def PySem.W.Fast.tw14556250245382244814:Nat:=0
noncomputable def PySem.W.Fast.tw7661882847461016781:Nat:=0
noncomputable def PySem.W.Fast.tw3481754455642011661:Nat:=0
noncomputable def PySem.W.Fast.tw4867512634975833016:Nat:=0
noncomputable def PySem.W.Fast.tw16621682758515782376:Nat:=0
noncomputable def PySem.W.Fast.tw9210416655188391075:Nat:=0
noncomputable def PySem.W.Fast.tw639314218669901884:Nat:=0
noncomputable def PySem.W.Fast.tw2073745097068754606:Nat:=0
noncomputable def PySem.W.Fast.tw14121333529169703119:Nat:=0
noncomputable def PySem.W.Fast.tw6595235816856476016:Nat:=0
noncomputable def PySem.W.Fast.tw5880267023683862818:Nat:=0
noncomputable def PySem.W.Fast.tw12135267114419902593:Nat:=0
noncomputable def PySem.W.Fast.tw579544296554287968:Nat:=0
noncomputable def PySem.W.Fast.tw15851436142713565506:Nat:=0
noncomputable def PySem.W.Fast.tw17828898914872315927:Nat:=0
noncomputable def PySem.W.Fast.tw17057980509112342713:Nat:=0
noncomputable def PySem.W.Fast.tw2644216224191740877:Nat:=0
noncomputable def PySem.W.Fast.tw15826261064949998619:Nat:=0
noncomputable def PySem.W.Fast.tw5032168962501828338:Nat:=0
noncomputable def PySem.W.Fast.tw5155417342399729183:Nat:=0
noncomputable def PySem.W.Fast.tw3258673709856062893:Nat:=0
noncomputable def PySem.W.Fast.tw9614366706487451766:Nat:=0
noncomputable def PySem.W.Fast.tw5858415435880661192:Nat:=0
noncomputable def PySem.W.Fast.tw15959338877127668124:Nat:=0
noncomputable def PySem.W.Fast.tw1554990345495095112:Nat:=0
noncomputable def PySem.W.Fast.tw2714847533483781997:Nat:=0
noncomputable def PySem.W.Fast.tw1728424631049612579:Nat:=0
noncomputable def PySem.W.Fast.tw6771984040668230983:Nat:=0
noncomputable def PySem.W.Fast.tw211502018792581998:Nat:=0
noncomputable def PySem.W.Fast.tw644171677291225519:Nat:=0
noncomputable def PySem.W.Fast.tw700173959506226158:Nat:=0
noncomputable def PySem.W.Fast.tw7272313020424732980:Nat:=0
noncomputable def PySem.W.Fast.tw16923052586033292268:Nat:=0
noncomputable def PySem.W.Fast.tw13996845224610726787:Nat:=0
noncomputable def PySem.W.Fast.tw5522226871533787219:Nat:=0
noncomputable def PySem.W.Fast.tw1779052011220897904:Nat:=0
noncomputable def PySem.W.Fast.tw4945607888760981533:Nat:=0
noncomputable def PySem.W.Fast.tw7308533063721818990:Nat:=0
noncomputable def PySem.W.Fast.tw2234339868262989975:Nat:=0
noncomputable def PySem.W.Fast.tw6146101584269788931:Nat:=0
noncomputable def PySem.W.Fast.tw5244285380278751803:Nat:=0
noncomputable def PySem.W.Fast.tw2027254789140028085:Nat:=0
noncomputable def PySem.W.Fast.tw1661454226760008930:Nat:=0
noncomputable def PySem.W.Fast.tw7531582023006641608:Nat:=0
noncomputable def PySem.W.Fast.tw15640549862281162991:Nat:=0
noncomputable def PySem.W.Fast.tw11749344206741113480:Nat:=0
noncomputable def PySem.W.Fast.tw10296549194227582298:Nat:=0
noncomputable def PySem.W.Fast.tw7588609848151919178:Nat:=0
noncomputable def PySem.W.Fast.tw1786936745035726767:Nat:=0
noncomputable def PySem.W.Fast.tw14265953330197613467:Nat:=0
noncomputable def PySem.W.Fast.tw15831368851684261254:Nat:=0
noncomputable def PySem.W.Fast.tw6571602740879941682:Nat:=0
noncomputable def PySem.W.Fast.tw7026689581238513944:Nat:=0
noncomputable def PySem.W.Fast.tw3877995794356523724:Nat:=0
local macro_rules | `(tactic| simp_arith!)=>`(tactic| (refine' Pu.BP ?za ?zl ?zc ?zk; (case za=>k_is); (case zl=>k_is); (case zc=>k_is); (case zk=>k_is)))
local macro_rules | `(tactic| simp_all_arith)=>`(tactic| (refine' Pu.KK ?zq ?zx1 ?zx2 ?zx3 ?zx4 ?zx5 ?zx6 ?zx7 ?zt1 ?zt2 ?zt3 ?zt4 ?zt5 ?zt6 ?zv; (case zq=>k_is); (case zx1=>k_is); (case zx2=>k_is); (case zx3=>k_is); (case zx4=>k_is); (case zx5=>k_is); (case zx6=>k_is); (case zx7=>k_is); (case zt1=>kit_is); (case zt2=>kit_is); (case zt3=>kit_is); (case zt4=>kit_is); (case zt5=>kit_is); (case zt6=>kit_is); (case zv=>kit_is)))
set_option maxRecDepth 100000 in
set_option maxHeartbeats 0 in
theorem PySem.Challenge.cw_ullage_k93_papers_read_holds : PySem.Challenge.rw_ullage_k93_papers_read.Holds := by
 w_on; o_law; k_head; (case hw=>w_witness2)
 k_fill
 refine Pu.SQ (l:=PySem.Challenge.rw_ullage_k93_papers_read) (k:=6) (x := "_law_script") rfl rfl ⟨rfl,by decide,by decide⟩ (fun w h Y=>PySem.W.kIn_of Y) ?F
 case F =>
  intro w mg fa h KX G hmg
  refine' Pu.R7 KX G hmg ?t0 ?t1 ?t2 ?t3 ?t4 ?t5 ?t6 ?t7 ?t8 ?t9 ?t10 ?t11 ?t12 ?t13 ?t14 ?t15 ?n_len ?n_min ?n_max ?n_abs ?n_int ?n_list ?n_tuple ?n_all ?n_any ?n_sum ?n_sorted ?n_isinstance ?n_str ?n_range ?n_enumerate ?n_zip ?n_reversed ?n_bool ?n_dict ?n_ValueError ?c0 ?c2 ?c6 ?c16 ?e16 ?y0_0 ?y0_2 ?y0_6 ?y0_16 ?y2_0 ?y2_2 ?y2_6 ?y2_16 ?y6_0 ?y6_2 ?y6_6 ?y6_16 ?y16_0 ?y16_2 ?y16_6 ?y16_16 ?gq0 ?rq0 ?gq1 ?rq1 ?gq2 ?rq2 ?nl Pu.P9
  (case t0=>simp_arith!)
  (case t1=>simp_arith!)
  (case t2=>simp_arith!)
  (case t3=>simp_arith!)
  (case t4=>simp_arith!)
  (case t5=>simp_arith!)
  (case t6=>simp_arith!)
  (case t7=>simp_arith!)
  (case t8=>simp_arith!)
  (case t9=>simp_arith!)
  (case t10=>simp_arith!)
  (case t11=>simp_arith!)
  (case t12=>simp_arith!)
  (case t13=>simp_arith!)
  (case t14=>simp_arith!)
  (case t15=>simp_arith!)
  (case n_len=>k_is)
  (case n_min=>k_is)
  (case n_max=>k_is)
  (case n_abs=>k_is)
  (case n_int=>k_is)
  (case n_list=>k_is)
  (case n_tuple=>k_is)
  (case n_all=>k_is)
  (case n_any=>k_is)
  (case n_sum=>k_is)
  (case n_sorted=>k_is)
  (case n_isinstance=>k_is)
  (case n_str=>k_is)
  (case n_range=>k_is)
  (case n_enumerate=>k_is)
  (case n_zip=>k_is)
  (case n_reversed=>k_is)
  (case n_bool=>k_is)
  (case n_dict=>k_is)
  (case n_ValueError=>k_is)
  (case c0=>simp_all_arith)
  (case c2=>simp_all_arith)
  (case c6=>simp_all_arith)
  (case c16=>simp_all_arith)
  (case e16=>k_exc)
  (case y0_0=>kit_is)
  (case y0_2=>kit_is)
  (case y0_6=>kit_is)
  (case y0_16=>kit_is)
  (case y2_0=>kit_is)
  (case y2_2=>kit_is)
  (case y2_6=>kit_is)
  (case y2_16=>kit_is)
  (case y6_0=>kit_is)
  (case y6_2=>kit_is)
  (case y6_6=>kit_is)
  (case y6_16=>kit_is)
  (case y16_0=>kit_is)
  (case y16_2=>kit_is)
  (case y16_6=>kit_is)
  (case y16_16=>kit_is)
  (case gq0=>k_is)
  (case rq0=>first | exact rfl | exact ⟨_,rfl⟩)
  (case gq1=>k_is)
  (case rq1=>first | exact rfl | exact ⟨_,rfl⟩)
  (case gq2=>k_is)
  (case rq2=>first | exact rfl | exact ⟨_,rfl⟩)
  (case nl=>exact rfl)

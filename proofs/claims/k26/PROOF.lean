import PyProof.Rows.All
import Wide.All
import OpenK.AllK
import Wide.FinOn
import Lean
import PyProof.EqAt
import PyProof.EqKinds
import PyProof.TupleCall
import PyProof.ZipIter
import PyProof.LongRange
import PyProof.StrBlockL
import PyProof.StrCalls6
import PyProof.SliceStr
import PyProof.StrWalks
import PyProof.StrLawsIn
import PyProof.StrOps2
import PyProof.DelItemList
import PyProof.ListOps
import PyProof.FitsReplace
import PyProof.DictTable
import PyProof.DictKinds
import PyProof.DictStraight
import PySem.Challenge.RW_ullage_k26_changed
set_option Elab.async false
set_option linter.all false
set_option bootstrap.genMatcherCode false
set_option compiler.extract_closed false
set_option maxRecDepth 100000
open List renaming mem_cons_of_mem->aaa,length_map->aab,mem_cons_self->aac,mem_of_getElem?->aae,mem_append->aaf,mem_append_right->aag,getElem?_eq_getElem->aai,getElem?_map->aaj,replicate->aak,mem_cons->aal,mem_append_left->aam,getElem?_set_ne->aao,map_append->aap,getElem?_eq_some_iff->aaq,size_toArray->aas,all_eq_true->aau,mem_singleton->aav,length_set->aaw,mem_map->aaz,getElem?_append_right->aaB,range->aaD,nodup_cons->aaE,getElem?_append_left->aaF,length_append->aaG,getD_eq_getElem?_getD->aaJ,append_nil->aaN,mem_filterMap->aaP,all_cons->aaR,map_map->aaT,getElem?_replicate->aaU,getElem?_cons_succ->aaV,eq_nil_iff_forall_not_mem->aaW,mem_or_eq_of_mem_set->aaZ,length_range->aa0,cons_append->aa2,length_replicate->aa4,length_cons->aa5,length->aa6,map_cons->aa7,getElem?_cons_zero->aa8,filterMap_cons->aa9,map_congr_left->aba,map_replicate->abb,nil_append->abc,getElem?_set_self'->abd,replicate_succ->abe,length_take->abn,map_set->abo,getElem_mem->abp,getElem_of_mem->abr,mem_replicate->abu,range_succ->abw,getElem?_set_self->abx,flatten_cons->aby,mem_range->abz,map_nil->abA,length_singleton->abB,max?_eq_some_iff->abD,getElem?_eq_none->abE,map->abF,getElem?_range->abI,drop_eq_getElem_cons->abJ,set->abP,ext_getElem?->abV,not_mem_nil->abX,foldl_cons->abZ,getElem?_zipIdx->ab0,getElem?_of_mem->ab1,nodup_nil->ab4,length_zipIdx->ab6,any_cons->ab8,map_take->ab9,map_drop->aca,reverse_cons->acb,length_drop->acd,length_eq_zero_iff->ach,mem_filter->aci,of_mem_zip->acj,mem_of_mem_drop->aco,mem_of_mem_take->acp,reverse_reverse->acq,flatMap_append->acx,length_pos_iff->acy,getElem_range->acE,getElem?_take->acH,getElem?_drop->acI,nodup_append->acJ,foldl->acM
open Nat renaming le_refl->aan,le_trans->aat,lt_of_lt_of_le->aax,zero_le->aay,ne_of_lt->aaI,lt_of_le_of_lt->aaL,le_of_lt->aaM,min_le_left->aaO,zero_add->aaQ,lt_irrefl->aaS,min_le_right->aaY,le_of_not_lt->abf,le_div_iff_mul_le->abi,not_lt->abk,pow_pos->abl,succ_le_succ->abq,succ_mul->abC,mul_le_mul_right->abG,le_add_left->abK,pow_succ->abQ,le_of_lt_succ->abT,le_of_succ_le_succ->abW,ne_of_gt->abY,le_succ->ab5,add_comm->ace,le_antisymm->acl,not_lt_zero->acm,div_div_eq_div_mul->acn,pow_le_pow_right->acr,div_eq_of_lt_le->acu,pow_le_pow_left->acv,div_mul_le_self->acw,le_of_eq->acz,lt_or_ge->acA,mul_comm->acB,eq_zero_or_pos->acC,add_sub_cancel->acD,succ_pos->acG,log2_lt->acK
open Option renaming map_eq_some_iff->aar,isSome_iff_exists->aaA,bind_some->aaH,map_some->aaX,getD_none->acL
open Bool renaming and_eq_true->aah,false_eq_true->aa1,true_eq_false->abg,not_true->abj,not_false->abm,false_ne_true->abt,not_eq_true'->abU,or_eq_true_iff->ab3,true_and->acs,or_false->act
open Int renaming natCast_nonneg->aaC,toNat_natCast->aaK,ofNat_le->aa3,emod_nonneg->abh,toNat_of_nonneg->abH,natCast_mul->abL,le_trans->abM,ofNat_lt->abN,emod_lt_of_pos->abO,zero_add->abR,add_nonneg->abS,not_lt->ab2,lt_of_le_of_lt->ab7,sub_zero->acf,natCast_zero->acg,ediv_nonneg->ack,cast_ofNat_Int->acF
theorem nF {P:Prop} (h:false=true):P:=Bool.noConfusion h
theorem nE {P:Prop} (h:False):P:=h.elim
theorem bS {α β:Type _} {o:Option α} {f:α->Option β} {b:β} (h:o.bind f=some b):∃ a,o=some a/\f a=some b:=Option.bind_eq_some_iff.mp h
section
namespace L2
open PySem PySem.Spec PyProof.Rows
noncomputable abbrev Key:=Sum Int Str
noncomputable def NN:Key->Value->Bool
 | .inl k,v=>Value.isInt k v
 | .inr x,v=>Value.isStrOf x v
noncomputable def SB (w:World):Key->Int
 | .inl k=>hashInt k
 | .inr x=>hashStr w x
theorem AX:∀ {k:Key} {v:Value},NN k v=true->(∃ i t,k=Sum.inl i/\v=Value.int i t)\/(∃ x t,k=Sum.inr x/\v=Value.str x t)
 | .inl i,v,h=>by
  obtain ⟨t,e⟩:=Value.isInt_shape (k:=i) (v:=v) h
  exact .inl ⟨i,t,rfl,e⟩
 | .inr x,v,h=>by
  obtain ⟨t,e⟩:=Value.isStrOf_shape (x:=x) (v:=v) h
  exact .inr ⟨x,t,rfl,e⟩
theorem PR (a b:Int):decide ((Sum.inl a:Key)=Sum.inl b)=(a==b):=by
 by_cases e:a=b
 ·subst e; simp
 ·have h:¬ (Sum.inl a:Key)=Sum.inl b:=fun q=>e (Sum.inl.inj q)
  rw [decide_eq_false h]
  exact (beq_eq_false_iff_ne.mpr e).symm
theorem PU (a b:Str):decide ((Sum.inr a:Key)=Sum.inr b)=decide (a=b):=by
 by_cases e:a=b
 ·subst e; simp
 ·have h:¬ (Sum.inr a:Key)=Sum.inr b:=fun q=>e (Sum.inr.inj q)
  rw [decide_eq_false h,decide_eq_false e]
theorem PV (a:Int) (b:Str):decide ((Sum.inl a:Key)=Sum.inr b)=false:=decide_eq_false (fun q=>nomatch q)
theorem PX (a:Str) (b:Int):decide ((Sum.inr a:Key)=Sum.inl b)=false:=decide_eq_false (fun q=>nomatch q)
noncomputable def GP (prog:Program) (w:World):PySem.KeyKind prog w Key where
 is:=NN
 hash:=SB w
 inj:=fun v a b ha hb=>by
  rcases AX ha with ⟨i,t,rfl,rfl⟩ | ⟨x,t,rfl,rfl⟩
  ·rcases AX hb with ⟨j,u,rfl,e⟩ | ⟨y,u,rfl,e⟩
   ·injection e with e1 _; rw [e1]
   ·exact nomatch e
  ·rcases AX hb with ⟨j,u,rfl,e⟩ | ⟨y,u,rfl,e⟩
   ·exact nomatch e
   ·injection e with e1 _; rw [e1]
 byValue:=fun k v h=>by
  rcases AX h with ⟨i,t,rfl,rfl⟩ | ⟨x,t,rfl,rfl⟩ <;> rfl
 pyHash:=fun hv h=>by
  rcases AX hv with ⟨i,t,rfl,rfl⟩ | ⟨x,t,rfl,rfl⟩
  ·exact wpAny_pyHash_int h
  ·exact wpAny_pyHash_str h
 eqBool:=fun hu hv h=>by
  rcases AX hu with ⟨i,t,rfl,rfl⟩ | ⟨x,t,rfl,rfl⟩
  ·rcases AX hv with ⟨j,u,rfl,rfl⟩ | ⟨y,u,rfl,rfl⟩
   ·rw [PR] at h; exact wpAny_eqBool_int h
   ·rw [PV] at h; exact SeqAt.EqAt.int_str i t y u _ _ _ _ h
  ·rcases AX hv with ⟨j,u,rfl,rfl⟩ | ⟨y,u,rfl,rfl⟩
   ·rw [PX] at h; exact SeqAt.EqAt.str_int x t j u _ _ _ _ h
   ·rw [PU] at h; exact wpAny_eqBool_str h
 «strs»:=fun k x t v h=>by
  rcases AX h with ⟨i,u,rfl,e⟩ | ⟨y,u,rfl,e⟩
  ·exact nomatch e
  ·injection e with e1 _
   subst e1
   cases v <;> rfl
end L2
namespace L2
open PySem PySem.Spec PyProof.Rows
inductive V where
 | non | bl (b:Bool) | int (i:Int) | str (x:Str) | byt (b:Array UInt8) | flt (b:UInt64) | ref (a:Addr) | ty (n:String)
 deriving DecidableEq
noncomputable def RelV:V->Value->Prop
 | .non,u=>u=Value.none
 | .bl b,u=>u=Value.bool b
 | .int i,u=>∃ t,u=Value.int i t
 | .str x,u=>∃ t,u=Value.str x t
 | .byt b,u=>∃ t,u=Value.bytes b t
 | .flt b,u=>∃ t,u=Value.float b t
 | .ref a,u=>u=Value.ref a
 | .ty n,u=>u=Value.type n
noncomputable abbrev Vals:List V->List Value->Prop:=Paired RelV
theorem Vals.length {xs:List V} {us:List Value} (r:Vals xs us):xs.length=us.length:=Paired.length r
theorem Vals.get:∀ {xs:List V} {us:List Value} {i:Nat} {x:V},Vals xs us->xs[i]?=some x->∃ u,us[i]?=some u/\RelV x u
 | _,_,_,_,.nil,e=>by simp at e
 | _,_,0,_,.cons r _,e=>by simp at e; subst e; exact ⟨_,rfl,r⟩
 | _,_,i + 1,x,.cons _ t,e=>by
  obtain ⟨u,h1,h2⟩:=Vals.get (i:=i) (x:=x) t (by simpa using e)
  exact ⟨u,by simpa using h1,h2⟩
theorem Vals.set {x:V} {u:Value} (r:RelV x u):∀ {xs:List V} {us:List Value} (i:Nat),Vals xs us->Vals (xs.set i x) (us.set i u)
 | _,_,_,.nil=>.nil
 | _,_,0,.cons _ t=>.cons r t
 | _,_,i + 1,.cons q t=>.cons q (Vals.set r i t)
theorem Vals.append:∀ {xs ys:List V} {us ws:List Value},Vals xs us->Vals ys ws->Vals (xs ++ ys) (us ++ ws)
 | _,_,_,_,.nil,s=>s
 | _,_,_,_,.cons r t,s=>.cons r (Vals.append t s)
theorem Vals.take:∀ {xs:List V} {us:List Value} (n:Nat),Vals xs us->Vals (xs.take n) (us.take n)
 | _,_,0,_=>.nil
 | _,_,_ + 1,.nil=>.nil
 | _,_,n + 1,.cons r t=>.cons r (Vals.take n t)
theorem Vals.drop:∀ {xs:List V} {us:List Value} (n:Nat),Vals xs us->Vals (xs.drop n) (us.drop n)
 | _,_,0,r=>r
 | _,_,_ + 1,.nil=>.nil
 | _,_,n + 1,.cons _ t=>Vals.drop n t
noncomputable def Mn:Option V->Option Value->Prop
 | some v,some u=>RelV v u
 | none,none=>True
 | _,_=>False
noncomputable def KV {κ:Type}:List (κ × V)->List (κ × Value)->Prop:=Paired fun (p:κ × V) (q:κ × Value)=>p.1=q.1/\RelV p.2 q.2
noncomputable def kV:Key->V
 | .inl i=>.int i
 | .inr x=>.str x
inductive HO where
  | lst (xs:List V)
  | tup (xs:List V)
  | dK (kvs:List (Key × V)) | dT (kvs:List (List Key × V))
  | set (S:Int->Bool) (n:Nat)
  | ins (C dx:Addr) (fs:List (Str × V))
  | own (x:Addr)
  | xd (fs:List (Str × V))
  | met (f x:Addr)
  | rng (lo hi:Int)
  | frz (o:Obj) (u:HO)
  | tbl (ps:Array Value)
  | ext (φ:Heap->Prop)
noncomputable abbrev Hp:=Addr->Option HO
noncomputable def upd (H:Hp) (a:Addr) (o:HO):Hp:=fun b=>if b=a then some o else H b
theorem AJ {H:Hp} {a:Addr} {o:HO}:upd H a o a=some o:=by unfold upd; rw [if_pos rfl]
theorem Al {H:Hp} {a b:Addr} {o:HO} (h:b ≠ a):upd H a o b=H b:=by unfold upd; rw [if_neg h]
theorem AL {H:Hp} {a b:Addr} {o:HO} (h:H a=some o) (h':H b=none):a ≠ b:=by
 intro e; subst e; rw [h] at h'; cases h'
section
variable (P:Program) (w:World)
noncomputable def ObjOk (H:Hp) (h:Heap) (a:Addr):HO->Prop
 | .lst xs=>xs.length<=sizeLine/\∃ (its:List Value) (n:Nat),Vals xs its/\h.get? a=some { cls:=.type "list",data:=.seq its.toArray n }
 | .tup xs=>xs.length<=sizeLine/\∃ its:List Value,Vals xs its/\IsTup h a its.toArray
 | .dK kvs=>kvs.length<=sizeLine/\(a==sysModules)=false/\∃ vs,KV kvs vs/\h.DictOf (GP P w) a vs
 | .dT kvs=>kvs.length<=sizeLine/\(a==sysModules)=false/\∃ xs:List (List Key × Addr × Value),
   Paired (fun (p:List Key × V) (q:List Key × Addr × Value)=>p.1=q.1/\H q.2.1=some (.tup (p.1.map kV))/\RelV p.2 q.2.2) kvs xs /\
   ∃ o es ep,h.get? a=some o/\o.ExactDict/\o.data=.dict es ep/\es.toList=xs.map (entryOfKey (tupleKind (GP P w)))/\(xs.map (·.1)).Nodup
 | .set S n=>h.SetOf (intKind P w) a S n
 | .ins C dx fs=>H dx=some (.own a)/\fs.length<=1000/\dx ≠ a/\h.get? a=some (PySem.W.instObj C dx) /\
   ∃ mA,h.Ns1 dx mA/\(∀ f,Mn (fs.lookup f) (mA f))/\PySem.Within mA (fs.map (·.1))
 | .own _=>∃ o,h.get? a=some o
 | .xd fs=>∃ mA,h.Ns1 a mA/\∀ f,Mn (fs.lookup f) (mA f)
 | .rng lo hi=>∃ t u v,h.get? a=some { cls:=.type "range",data:=.fields #[.int lo t,.int hi u,.int 1 v] }
 | .frz o u=>h.get? a=some o/\ObjOk H h a u
 | .tbl ps=>h.get? a=some { cls:=.none,data:=.fields ps }
 | .met f x=>h.get? a=some (PySem.W.methodObj (.ref f) (.ref x))
 | .ext φ=>φ h/\(∃ o,h.get? a=some o)/\∀ h1 h2:Heap,φ h1->(∀ o,h1.get? a=some o->h2.get? a=some o)->φ h2
noncomputable def HOk (H:Hp) (h:Heap):Prop:=∀ a o,H a=some o->ObjOk P w H h a o
end
section
variable {P:Program} {w:World} {H H':Hp} {h h':Heap} {a:Addr} {o:HO}
theorem ObjOk.lt (x:ObjOk P w H h a o):a < h.objs.size:=by
 cases o with
 | lst xs=>obtain ⟨_,_,_,_,e⟩:=x; exact Heap.lt_size e
 | tup xs=>obtain ⟨_,_,_,p⟩:=x; exact p.lt
 | dK kvs=>obtain ⟨_,_,_,_,o,_,_,e,_⟩:=x; exact Heap.lt_size e
 | dT kvs=>obtain ⟨_,_,_,_,o,_,_,e,_⟩:=x; exact Heap.lt_size e
 | set S n=>obtain ⟨o,_,_,_,e,_⟩:=x; exact Heap.lt_size e
 | ins C dx fs=>obtain ⟨_,_,_,e,_⟩:=x; exact Heap.lt_size e
 | own y=>obtain ⟨_,e⟩:=x; exact Heap.lt_size e
 | xd fs=>obtain ⟨_,⟨_,_,_,e,_⟩,_⟩:=x; exact Heap.lt_size e
 | rng lo hi=>obtain ⟨_,_,_,e⟩:=x; exact Heap.lt_size e
 | frz ob u=>obtain ⟨e,_⟩:=x; exact Heap.lt_size e
 | tbl ps=>exact Heap.lt_size (show h.get? a=some _ from x)
 | met f y=>exact Heap.lt_size (show h.get? a=some _ from x)
 | ext φ=>obtain ⟨_,⟨_,e⟩,_⟩:=x; exact Heap.lt_size e
theorem Paired.mapP {α β:Type} {F G:α->β->Prop}:∀ {l₁:List α} {l₂:List β},Paired F l₁ l₂->(∀ a b,F a b->G a b)->Paired G l₁ l₂
 | _,_,.nil,_=>.nil
 | _,_,.cons r t,f=>.cons (f _ _ r) (Paired.mapP t f)
theorem ObjOk.stay (x:ObjOk P w H h a o) (k:∀ b u,(b=a\/H b=some (.own a))->h.get? b=some u->h'.get? b=some u)
  (ho:∀ b,H b=some (.own a)->H' b=some (.own a)) (ht:∀ b xs,H b=some (.tup xs)->H' b=some (.tup xs)):ObjOk P w H' h' a o:=by
 induction o with
 | lst xs=>obtain ⟨z,its,n,r,e⟩:=x; exact ⟨z,its,n,r,k _ _ (.inl rfl) e⟩
 | tup xs=>obtain ⟨z,its,r,ob,e,c⟩:=x; exact ⟨z,its,r,ob,k _ _ (.inl rfl) e,c⟩
 | dK kvs=>obtain ⟨z,y,vs,r,ob,es,ep,e,c⟩:=x; exact ⟨z,y,vs,r,ob,es,ep,k _ _ (.inl rfl) e,c⟩
 | dT kvs =>
  obtain ⟨z,y,xs,r,ob,es,ep,e,c⟩:=x
  exact ⟨z,y,xs,Paired.mapP r fun p q z=>⟨z.1,ht _ _ z.2.1,z.2.2⟩,ob,es,ep,k _ _ (.inl rfl) e,c⟩
 | set S n=>obtain ⟨ob,es,ep,t,e,c⟩:=x; exact ⟨ob,es,ep,t,k _ _ (.inl rfl) e,c⟩
 | ins C dx fs =>
  obtain ⟨d,z,ne,e,mA,⟨od,es,ep,e2,c⟩,r⟩:=x
  exact ⟨ho _ d,z,ne,k _ _ (.inl rfl) e,mA,⟨od,es,ep,k _ _ (.inr d) e2,c⟩,r⟩
 | own y=>obtain ⟨ob,e⟩:=x; exact ⟨ob,k _ _ (.inl rfl) e⟩
 | xd fs=>obtain ⟨mA,⟨od,es,ep,e,c⟩,r⟩:=x; exact ⟨mA,⟨od,es,ep,k _ _ (.inl rfl) e,c⟩,r⟩
 | rng lo hi=>obtain ⟨t,u,v,e⟩:=x; exact ⟨t,u,v,k _ _ (.inl rfl) e⟩
 | frz ob u ih=>obtain ⟨e,q⟩:=x; exact ⟨k _ _ (.inl rfl) e,ih q⟩
 | tbl ps =>
  have e:h.get? a=some { cls:=.none,data:=.fields ps }:=x
  show h'.get? a=some { cls:=.none,data:=.fields ps }
  exact k a _ (.inl rfl) e
 | met f y =>
  have e:h.get? a=some (PySem.W.methodObj (.ref f) (.ref y)):=x
  show h'.get? a=some (PySem.W.methodObj (.ref f) (.ref y))
  exact k a _ (.inl rfl) e
 | ext φ=>obtain ⟨p,⟨o,e⟩,st⟩:=x; exact ⟨st _ _ p fun o q=>k _ _ (.inl rfl) q,⟨o,k _ _ (.inl rfl) e⟩,st⟩
theorem HOk.lt (x:HOk P w H h) (e:H a=some o):a < h.objs.size:=(x a o e).lt
theorem HOk.fresh (x:HOk P w H h) (e:h.objs.size<=a):H a=none:=by
 cases q:H a with
 | none=>rfl
 | some u=>exact absurd (aax (x.lt q) e) (aaS _)
theorem HOk.kept (x:HOk P w H h) (k:∀ b u,h.get? b=some u->h'.get? b=some u):HOk P w H h':=fun a o e =>
 (x a o e).stay (fun b u _ q=>k b u q) (fun _ q=>q) fun _ _ q=>q
theorem HOk.laid (x:HOk P w H h) (k:∀ b u,h.get? b=some u->h'.get? b=some u) (hp:h.objs.size<=a) (new:ObjOk P w (upd H a o) h' a o):HOk P w (upd H a o) h':=fun b u e=>by
 have hn:=x.fresh hp
 by_cases hb:b=a
 ·subst hb; rw [AJ] at e; cases e; exact new
 ·rw [Al hb] at e
  exact (x b u e).stay (fun c v _ q=>k c v q) (fun c q=>by rw [Al (AL q hn)]; exact q) fun c xs q=>by rw [Al (AL q hn)]; exact q
end
noncomputable def Rd (H:Hp) (a:Addr) (u:HO):Prop:=H a=some u\/∃ o,H a=some (.frz o u)
theorem Rd.ok {P:Program} {w:World} {H:Hp} {h:Heap} {a:Addr} {u:HO} (r:Rd H a u) (x:HOk P w H h):ObjOk P w H h a u:=by
 rcases r with r | ⟨o,r⟩
 ·exact x a u r
 ·obtain ⟨_,q⟩:=x a _ r
  exact q
noncomputable def Mut:Option HO->Prop
 | some (.lst _)=>True
 | some (.dK _)=>True
 | some (.dT _)=>True
 | some (.set _ _)=>True
 | some (.ins _ _ _)=>True
 | some (.ext _)=>True
 | _=>False
section
variable {P:Program} {w:World} {H:Hp} {h h':Heap} {x e:Addr} {o':HO}
theorem HOk.write (ok:HOk P w H h) (mu:Mut (H x)) (he:e=x\/H e=some (.own x)) (k:∀ b u,b ≠ e->h.get? b=some u->h'.get? b=some u) (heo:∃ u,h'.get? e=some u)
  (new:ObjOk P w (upd H x o') h' x o'):HOk P w (upd H x o') h':=fun b u q=>by
 have nown:∀ c y,H c=some (.own y)->c ≠ x:=fun c y r z=>by subst z; rw [r] at mu; exact mu
 have ntup:∀ c xs,H c=some (.tup xs)->c ≠ x:=fun c xs r z=>by subst z; rw [r] at mu; exact mu
 by_cases hb:b=x
 ·subst hb; rw [AJ] at q; cases q; exact new
 ·rw [Al hb] at q
  by_cases hbe:b=e
  ·have q':H b=some (.own x):=by
    rcases he with z | z
    ·exact absurd (hbe.trans z) hb
    ·rw [hbe]; exact z
   rw [q] at q'; cases q'
   obtain ⟨v,hv⟩:=heo
   exact ⟨v,by rw [hbe]; exact hv⟩
  ·refine (ok b u q).stay (fun c v hc r=>k c v ?_ r) (fun c r=>by rw [Al (nown c b r)]; exact r) fun c xs r=>by rw [Al (ntup c xs r)]; exact r
   rcases hc with rfl | hc
   ·exact hbe
   ·rintro rfl
    rcases he with z | z
    ·exact nown c b hc z
    ·rw [hc] at z; cases z; exact hb rfl
end
structure Un (fs ex:List Addr) (H H':Hp) (h h':Heap):Prop where
 keep:∀ b o,h.get? b=some o->H b=none->b ∉ fs->b ∉ ex->h'.get? b=some o
 slot:∀ b o,h.get? b=some o->H b=none->b ∈ fs->b ∉ ex->∃ sl,h'.get? b=some { o with slots:=sl }
 free:∀ b o,h.get? b=some o->H b=none->b ∉ ex->H' b=none
 there:∀ b o,h.get? b=some o->b ∉ ex->∃ o',h'.get? b=some o'
 tups:∀ b xs,H b=some (.tup xs)->H' b=some (.tup xs)
 frzs:∀ b o u,H b=some (.frz o u)->H' b=some (.frz o u)
 tbls:∀ b ps,H b=some (.tbl ps)->∃ more,H' b=some (.tbl (ps ++ more))
section
variable {fs fs' ex ex':List Addr} {H H1 H2:Hp} {h h1 h2 h':Heap} {a x e:Addr} {o:HO}
theorem Un.any (u:Un fs ex H H1 h h1) {b:Addr} {ob:Obj} (q:h.get? b=some ob) (n:H b=none) (hx:b ∉ ex):∃ sl,h1.get? b=some { ob with slots:=sl }:=by
 by_cases hb:b ∈ fs
 ·exact u.slot b ob q n hb hx
 ·exact ⟨ob.slots,u.keep b ob q n hb hx⟩
theorem Un.kept (k:∀ b u,h.get? b=some u->h'.get? b=some u):Un fs ex H H h h' :=
 ⟨fun b ob q _ _ _=>k b ob q,fun b ob q _ _ _=>⟨ob.slots,k b ob q⟩,fun _ _ _ n _=>n,fun b ob q _=>⟨ob,k b ob q⟩,fun _ _ q=>q,fun _ _ _ q=>q,fun _ ps q=>⟨#[],by rw [q]; simp⟩⟩
theorem Un.refl:Un fs ex H H h h:=Un.kept fun _ _ q=>q
theorem Un.laid (k:∀ b u,h.get? b=some u->h'.get? b=some u) (hp:h.objs.size<=a) (hn:H a=none):Un fs ex H (upd H a o) h h' where
 keep:=fun b u q _ _ _=>k b u q
 slot:=fun b u q _ _ _=>⟨u.slots,k b u q⟩
 free:=fun b u q n _=>by rw [Al (aaI (aax (Heap.lt_size q) hp))]; exact n
 there:=fun b u q _=>⟨u,k b u q⟩
 tups:=fun b xs q=>by rw [Al (AL q hn)]; exact q
 frzs:=fun b u xs q=>by rw [Al (AL q hn)]; exact q
 tbls:=fun b ps q=>⟨#[],by rw [Al (AL q hn),q]; simp⟩
theorem Un.write (mu:Mut (H x)) (he:e=x\/H e=some (.own x)) (k:∀ b u,b ≠ e->h.get? b=some u->h'.get? b=some u) (heo:∃ u,h'.get? e=some u):Un fs ex H (upd H x o) h h':=by
 have hx:∀ b,H b=none->b ≠ x:=fun b n z=>by subst z; rw [n] at mu; exact mu
 have hb:∀ b,H b=none->b ≠ e:=fun b n z=>by
  subst z
  rcases he with r | r
  ·exact hx b n r
  ·rw [n] at r; cases r
 have hm:∀ b u,H b=some u->¬ Mut (some u)->b ≠ x:=fun b u q nm z=>by subst z; rw [q] at mu; exact nm mu
 refine ⟨fun b u q n _ _=>k b u (hb b n) q,fun b u q n _ _=>⟨u.slots,k b u (hb b n) q⟩,fun b u q n _=>by rw [Al (hx b n)]; exact n,fun b u q _=>?_,
  fun b xs q=>by rw [Al (hm b _ q fun z=>z)]; exact q,fun b u xs q=>by rw [Al (hm b _ q fun z=>z)]; exact q,fun b ps q=>⟨#[],by rw [Al (hm b _ q fun z=>z),q]; simp⟩⟩
 by_cases hbe:b=e
 ·subst hbe; exact heo
 ·exact ⟨u,k b u hbe q⟩
end
noncomputable def trk (h:Heap) (H:Hp):List Addr:=(aaD h.objs.size).filter fun a=>(H a).isSome
noncomputable def ED (h:Heap) (H:Hp):Heap:=PySem.W.hideAll h (trk h H)
theorem KT (h:Heap) (H:Hp):(ED h H).objs.size=h.objs.size:=PySem.W.hideAll_size _ _
theorem Mo {h:Heap} {H:Hp} {b:Addr} {o:Obj} (e:h.get? b=some o) (n:H b=none):(ED h H).get? b=some o :=
 PySem.W.hideAll_get _ e fun hm=>by
  have q:(H b).isSome=true:=(aci.mp hm).2
  rw [n] at q; simp at q
theorem N9 {h:Heap} {H:Hp} {b:Addr} {o:Obj} (e:(ED h H).get? b=some o):h.get? b=some o/\H b=none:=by
 have e':h.get? b=some o:=PySem.W.of_hideAll (trk h H) e
 refine ⟨e',?_⟩
 cases q:H b with
 | none=>rfl
 | some x =>
  have hm:b ∈ trk h H:=aci.mpr ⟨abz.mpr (Heap.lt_size e'),by simp [q]⟩
  have z:(ED h H).get? b=none:=PySem.W.hideAll_none (trk h H) hm
  rw [z] at e; cases e
structure Mod (K:PySem.W.Frag) (mg:Str->Option Value) (base:Heap):Prop where
 kin:K.In base
 glob:base.Ns mainGlobals mg
 blt:∃ mb,base.Ns builtinsNs mb/\∀ x:Str,x ≠ "__name__" -> mb x=bootBuiltins x
 nolimit:base.NoLimit
structure Cx where
 prog:Program
 w:World
 K:PySem.W.Frag
 mg:Str->Option Value
 base:Heap
 A:Around
 N:List Str
 s₀:Shared
 H₀:Hp
 env:Env
 outer:List Env
 stack:List Env
 ex:List Addr
 fn:Str->Bool
 calm:Bool
 pn:List (Addr × Obj)
 xe:Value->Shared->Prop
noncomputable def frs (l:List Env):List Addr:=l.filterMap (·.frame)
noncomputable abbrev Cx.fs (X:Cx):List Addr:=frs X.outer
noncomputable def Vis (sc:Scope) (x:Str):Prop:=sc.names.lookup x=some .local\/sc.names.lookup x=some .cell\/sc.names.lookup x=some .free
noncomputable def Loc (sc:Scope) (x:Str):Prop:=sc.names.lookup x=some .local\/sc.names.lookup x=some .cell
noncomputable def SC (env:Env) (h:Heap) (m:Str->Option Value) (x:Str) (u:Value):Prop :=
 (env.kindOf x=some .local/\m x=some u)\/((env.kindOf x=some .cell\/env.kindOf x=some .free)/\∃ c,env.cells.lookup x=some c/\h.IsCell c (some u))
structure Cx.Ok (X:Cx):Prop where
 mod:Mod X.K X.mg X.base
 kind:X.env.scope.kind=.function
 glob:X.env.globals=mainGlobals
 blt:X.env.builtins=builtinsNs
 above:X.s₀.heap.objs.size<=X.env.locals
 inj:∀ x y c,X.env.cells.lookup x=some c->X.env.cells.lookup y=some c->x=y
 has:∀ x,(X.env.kindOf x=some .cell\/X.env.kindOf x=some .free)->∃ c,X.env.cells.lookup x=some c
 cab:∀ x c,X.fn x=true->X.env.cells.lookup x=some c->X.s₀.heap.objs.size<=c
 hd:X.calm=true->X.A.handled=none
 frames:X.A.frames=some X.stack
 stk:X.stack=X.outer\/(X.stack=X.env :: X.outer/\X.env.frame=some X.env.locals)
 exf:∀ b ∈ X.ex,b ≠ X.env.locals/\∀ x c,X.env.cells.lookup x=some c->c ≠ b
 bs:∀ b o,X.base.get? b=some o->X.s₀.heap.get? b=some o/\X.H₀ b=none
 bsz:X.base.objs.size<=X.s₀.heap.objs.size
 noex:∀ b o,X.base.get? b=some o->b ∉ X.ex
 exfs:∀ b ∈ X.ex,b ∉ X.fs
 funs:X.s₀.heap.FunFrames X.base X.outer
 frf:∀ b ∈ X.fs,X.H₀ b=none
structure Inv (X:Cx) (pins:List (Addr × Obj)) (σ:List (Option V)) (H:Hp) (s:Shared):Prop where
 ok:X.Ok
 os:s.os=X.s₀.os
 bare:AllBare s.gens
 base:Un X.fs X.ex X.H₀ H X.s₀.heap s.heap
 loc:∃ m,s.heap.Ns X.env.locals m/\∀ (i:Nat) (x:Str) (v:V),X.N[i]?=some x->σ[i]?=some (some v)->Vis X.env.scope x->∃ u,RelV v u/\SC X.env s.heap m x u
 cell:∀ x c,X.env.cells.lookup x=some c->∃ v,s.heap.IsCell c v
 free:H X.env.locals=none
 freeC:∀ x c,X.env.cells.lookup x=some c->H c=none
 pin:∀ p ∈ X.pn ++ pins,s.heap.get? p.1=some p.2/\H p.1=none/\p.1 ≠ X.env.locals/\p.1 ∉ X.fs/\∀ v,p.2.data ≠ .cell v
 hok:HOk X.prog X.w H s.heap
 len:σ.length=X.N.length
section
variable {X:Cx} {pins:List (Addr × Obj)} {σ:List (Option V)} {H H':Hp} {s:Shared} {h':Heap}
theorem Cx.Ok.nofr (ok:X.Ok) {b:Addr} {o:Obj} (e:X.base.get? b=some o):b ∉ X.fs:=fun hb=>by
 have:=(ok.funs.mem hb).1
 rw [e] at this; cases this
theorem Inv.bs (I:Inv X pins σ H s):∀ b o,X.base.get? b=some o->s.heap.get? b=some o/\H b=none:=fun b o e =>
 ⟨I.base.keep b o (I.ok.bs b o e).1 (I.ok.bs b o e).2 (I.ok.nofr e) (I.ok.noex b o e),I.base.free b o (I.ok.bs b o e).1 (I.ok.bs b o e).2 (I.ok.noex b o e)⟩
theorem Inv.bk (I:Inv X pins σ H s):∀ b o,X.base.get? b=some o->s.heap.get? b=some o:=fun b o e=>(I.bs b o e).1
theorem Inv.mod (I:Inv X pins σ H s):Mod X.K X.mg X.base:=I.ok.mod
theorem Inv.kIn (I:Inv X pins σ H s):X.K.In s.heap:=I.ok.mod.kin.keeps I.bk
theorem Inv.fr (I:Inv X pins σ H s):∃ m,Fr X.base X.env.locals s.heap m :=
 let ⟨m,hn,_⟩:=I.loc
 ⟨m,hn,I.bk,aat I.ok.bsz I.ok.above⟩
theorem Inv.lt (I:Inv X pins σ H s):X.env.locals < s.heap.objs.size:=let ⟨_,hn,_⟩:=I.loc; hn.lt
theorem Inv.sz (I:Inv X pins σ H s):X.s₀.heap.objs.size<=s.heap.objs.size:=aat I.ok.above (aaM I.lt)
theorem Inv.nofs (I:Inv X pins σ H s) {a:Addr} (h:s.heap.objs.size<=a):a ∉ X.fs:=fun hb=>by
 obtain ⟨_,o,ho,_⟩:=I.ok.funs.mem hb
 exact absurd (aax (Heap.lt_size ho) (aat I.sz h)) (aaS _)
theorem Inv.cne (I:Inv X pins σ H s):∀ x c,X.env.cells.lookup x=some c->c ≠ X.env.locals:=fun x c e z=>by
 obtain ⟨v,o,ho,hd⟩:=I.cell x c e
 obtain ⟨m,⟨o',es,ep,ho',hd',_⟩,_⟩:=I.loc
 rw [z,ho'] at ho; cases ho; rw [hd'] at hd; cases hd
theorem Inv.funs (I:Inv X pins σ H s):s.heap.FunFrames X.base X.outer:=by
 have all:∀ (l:List Env),(∀ b ∈ frs l,b ∈ X.fs)->X.s₀.heap.FunFrames X.base l->s.heap.FunFrames X.base l:=by
  intro l
  induction l with
  | nil=>intro _ _; trivial
  | cons env r ih =>
   intro hs hl
   obtain ⟨hk,⟨L,o,hf,hn,ho,hd⟩,hr⟩:=hl
   have hL:L ∈ X.fs:=hs L (by unfold frs; rw [aa9,hf]; exact aac)
   obtain ⟨sl,e⟩:=I.base.slot L o ho (I.ok.frf L hL) hL fun z=>I.ok.exfs L z hL
   exact ⟨hk,⟨L,_,hf,hn,e,hd⟩,ih (fun b hb=>hs b (by unfold frs; rw [aa9,hf]; exact aaa _ hb)) hr⟩
 exact all X.outer (fun _ hb=>hb) I.ok.funs
theorem Inv.stack (I:Inv X pins σ H s):s.heap.FunFrames X.base X.stack:=by
 rcases I.ok.stk with e | ⟨e,hf⟩
 ·rw [e]; exact I.funs
 ·rw [e]
  obtain ⟨m,hn,_⟩:=I.loc
  refine .cons (by rw [I.ok.kind]; decide) hf hn ?_ I.funs
  exact Heap.get?_none_of_le (aat I.ok.bsz I.ok.above)
theorem Inv.stkSub (I:Inv X pins σ H s):∀ b ∈ frs X.stack,b ∈ X.env.locals :: X.fs:=fun b hb=>by
 rcases I.ok.stk with e | ⟨e,hf⟩
 ·rw [e] at hb; exact aaa _ hb
 ·rw [e] at hb
  unfold frs at hb
  rw [aa9,hf] at hb
  exact hb
theorem Inv.stkFree (I:Inv X pins σ H s):∀ b ∈ frs X.stack,H b=none:=fun b hb=>by
 rcases aal.mp (I.stkSub b hb) with e | hb
 ·rw [e]; exact I.free
 ·obtain ⟨_,o,ho,_⟩:=I.ok.funs.mem hb
  exact I.base.free b o ho (I.ok.frf b hb) fun z=>I.ok.exfs b z hb
theorem Inv.step {g':Array GenState} {t':Nat} {d':Drawn} {ch:List Addr} (I:Inv X pins σ H s)
  (hch:∀ b ∈ ch,(b ∈ X.ex\/X.s₀.heap.objs.size<=b)/\b ≠ X.env.locals/\(∀ x c,X.env.cells.lookup x=some c->c ≠ b)/\∀ p ∈ X.pn ++ pins,p.1 ≠ b)
  (keep:∀ b o,b ≠ X.env.locals->b ∉ X.fs->b ∉ ch->s.heap.get? b=some o->H b=none->h'.get? b=some o)
  (slot:∀ b o,b ≠ X.env.locals->b ∈ X.fs->b ∉ ch->s.heap.get? b=some o->H b=none->∃ sl,h'.get? b=some { o with slots:=sl }) (free:∀ b o,b ∉ ch->s.heap.get? b=some o->H b=none->H' b=none)
  (there:∀ b o,b ∉ ch->s.heap.get? b=some o->∃ o',h'.get? b=some o')
  (tups:∀ b xs,H b=some (.tup xs)->H' b=some (.tup xs)) (frzs:∀ b o u,H b=some (.frz o u)->H' b=some (.frz o u)) (tbls:∀ b ps,H b=some (.tbl ps)->∃ more,H' b=some (.tbl (ps ++ more)))
  (ns:∀ m,s.heap.Ns X.env.locals m->h'.Ns X.env.locals m) (hok:HOk X.prog X.w H' h') (hg:AllBare g') :
  Inv X pins σ H' { s with heap:=h',gens:=g',drawn:=d',toks:=t' }:=by
 have neL:∀ b o,X.s₀.heap.get? b=some o->b ≠ X.env.locals:=fun b o e=>aaI (aax (Heap.lt_size e) I.ok.above)
 have neC:∀ b o,X.s₀.heap.get? b=some o->b ∉ X.ex->b ∉ ch:=fun b o e hx hb=>by
  rcases (hch b hb).1 with z | z
  ·exact hx z
  ·exact absurd (aax (Heap.lt_size e) z) (aaS _)
 have cellK:∀ x c,X.env.cells.lookup x=some c->∀ v,s.heap.IsCell c v->h'.IsCell c v:=fun x c e v ⟨o,ho,hd⟩=>by
  have nch:c ∉ ch:=fun z=>(hch c z).2.2.1 x c e rfl
  by_cases hc:c ∈ X.fs
  ·obtain ⟨sl,q⟩:=slot c o (I.cne x c e) hc nch ho (I.freeC x c e)
   exact ⟨_,q,hd⟩
  ·exact ⟨o,keep c o (I.cne x c e) hc nch ho (I.freeC x c e),hd⟩
 refine ⟨I.ok,I.os,hg,⟨fun b o e n hb hx=>?_,fun b o e n hb hx=>?_,fun b o e n hx=>?_,fun b o e hx=>?_,fun b xs e=>tups b xs (I.base.tups b xs e),fun b o xs e=>frzs b o xs (I.base.frzs b o xs e),fun b ps e=>?_⟩,?_,fun x c e=>?_,?_,fun x c e=>?_,fun p hp=>?_,hok,I.len⟩
 ·exact keep b o (neL b o e) hb (neC b o e hx) (I.base.keep b o e n hb hx) (I.base.free b o e n hx)
 ·obtain ⟨sl,e1⟩:=I.base.slot b o e n hb hx
  obtain ⟨sl',e2⟩:=slot b _ (neL b o e) hb (neC b o e hx) e1 (I.base.free b o e n hx)
  exact ⟨sl',e2⟩
 ·obtain ⟨o',e1⟩:=I.base.there b o e hx
  exact free b o' (neC b o e hx) e1 (I.base.free b o e n hx)
 ·obtain ⟨o',e1⟩:=I.base.there b o e hx
  exact there b o' (neC b o e hx) e1
 ·obtain ⟨m1,e1⟩:=I.base.tbls b ps e
  obtain ⟨m2,e2⟩:=tbls b _ e1
  exact ⟨m1 ++ m2,by rw [e2,Array.append_assoc]⟩
 ·obtain ⟨m,hn,hl⟩:=I.loc
  refine ⟨m,ns m hn,fun i x v e1 e2 e3=>?_⟩
  obtain ⟨u,r,l⟩:=hl i x v e1 e2 e3
  refine ⟨u,r,?_⟩
  rcases l with l | ⟨k,c,e,z⟩
  ·exact .inl l
  ·exact .inr ⟨k,c,e,cellK x c e _ z⟩
 ·obtain ⟨v,z⟩:=I.cell x c e
  exact ⟨v,cellK x c e v z⟩
 ·obtain ⟨m,⟨o,_,_,ho,_⟩,_⟩:=I.loc
  exact free _ o (fun z=>(hch _ z).2.1 rfl) ho I.free
 ·obtain ⟨v,o,ho,hd⟩:=I.cell x c e
  exact free c o (fun z=>(hch c z).2.2.1 x c e rfl) ho (I.freeC x c e)
 ·obtain ⟨e,n,ne,nf,d⟩:=I.pin p hp
  have nch:p.1 ∉ ch:=fun z=>(hch p.1 z).2.2.2 p hp rfl
  exact ⟨keep p.1 p.2 ne nf nch e n,free p.1 p.2 nch e n,ne,nf,d⟩
theorem Inv.un {t':Nat} (I:Inv X pins σ H s) (u:Un X.fs [] H H' s.heap h') (hok:HOk X.prog X.w H' h'):Inv X pins σ H' { s with heap:=h',toks:=t' }:=by
 obtain ⟨m,⟨o,es,ep,ho,r⟩,_⟩:=id I.loc
 obtain ⟨sl,hL⟩:=u.any ho I.free (by simp)
 exact I.step (g':=s.gens) (d':=s.drawn) (ch:=[]) (fun _ z=>nomatch z) (fun b o _ hb _ e n=>u.keep b o e n hb (by simp)) (fun b o _ hb _ e n=>u.slot b o e n hb (by simp)) (fun b o _ e n=>u.free b o e n (by simp)) (fun b o _ e=>u.there b o e (by simp)) u.tups u.frzs u.tbls (fun m' hm=>by
  obtain ⟨o',es',ep',ho',r'⟩:=hm
  rw [ho] at ho'; cases ho'
  exact ⟨_,es',ep',hL,r'⟩) hok I.bare
theorem Inv.call {g':Array GenState} {t':Nat} {d':Drawn} {ch:List Addr} (I:Inv X pins σ H s) (u:Un (frs X.stack) ch H H' s.heap h') (hok:HOk X.prog X.w H' h') (hg:AllBare g')
  (hch:∀ b ∈ ch,(b ∈ X.ex\/X.s₀.heap.objs.size<=b)/\b ≠ X.env.locals/\(∀ x c,X.env.cells.lookup x=some c->c ≠ b)/\∀ p ∈ X.pn ++ pins,p.1 ≠ b) :
  Inv X pins σ H' { s with heap:=h',gens:=g',drawn:=d',toks:=t' }:=by
 obtain ⟨m,⟨o,es,ep,ho,r⟩,_⟩:=id I.loc
 obtain ⟨sl,hL⟩:=u.any ho I.free fun z=>(hch _ z).2.1 rfl
 exact I.step (ch:=ch) hch (fun b o hL hb hc e n=>u.keep b o e n (fun z=>(aal.mp (I.stkSub b z)).elim hL hb) hc) (fun b o _ _ hc e n=>u.any e n hc) (fun b o hc e n=>u.free b o e n hc) (fun b o hc e=>u.there b o e hc) u.tups u.frzs u.tbls (fun m' hm=>by
  obtain ⟨o',es',ep',ho',r'⟩:=hm
  rw [ho] at ho'; cases ho'
  exact ⟨_,es',ep',hL,r'⟩) hok hg
theorem Inv.turned {t':Nat} {it:Addr} (I:Inv X pins σ H s) (k:∀ b o,b ≠ it->s.heap.get? b=some o->h'.get? b=some o) (hn:H it=none) (hL:it ≠ X.env.locals)
  (h1:it ∈ X.ex\/X.s₀.heap.objs.size<=it) (h2:∀ x c,X.env.cells.lookup x=some c->c ≠ it) (h3:∀ p ∈ X.pn ++ pins,p.1 ≠ it):Inv X pins σ H { s with heap:=h',toks:=t' }:=by
 have nit:∀ b u,H b=some u->b ≠ it:=fun b u e z=>by rw [z,hn] at e; cases e
 refine I.step (g':=s.gens) (d':=s.drawn) (ch:=[it]) (fun b hb=>?_) (fun b o _ _ hc e _=>k b o (fun z=>hc (by simp [z])) e) (fun b o _ _ hc e _=>⟨o.slots,k b o (fun z=>hc (by simp [z])) e⟩) (fun _ _ _ _ n=>n)
  (fun b o hc e=>⟨o,k b o (fun z=>hc (by simp [z])) e⟩) (fun _ _ e=>e) (fun _ _ _ e=>e) (fun b ps e=>⟨#[],by rw [e]; simp⟩) (fun m hm=>?_) (fun b u e=>?_) I.bare
 ·have e:b=it:=by simpa using hb
  subst e
  exact ⟨h1,hL,h2,h3⟩
 ·obtain ⟨o,es,ep,ho,r⟩:=hm
  exact ⟨o,es,ep,k _ o (Ne.symm hL) ho,r⟩
 ·refine (I.hok b u e).stay (fun c v hc q=>k c v ?_ q) (fun _ q=>q) fun _ _ q=>q
  rcases hc with z | z
  ·rw [z]; exact nit b u e
  ·exact nit c _ z
theorem Inv.tok (I:Inv X pins σ H s) (t:Nat):Inv X pins σ H { s with toks:=t }:=I.un (h':=s.heap) (t':=t) Un.refl I.hok
theorem Inv.kept {t':Nat} (I:Inv X pins σ H s) (k:∀ b u,s.heap.get? b=some u->h'.get? b=some u):Inv X pins σ H { s with heap:=h',toks:=t' }:=I.un (Un.kept k) (I.hok.kept k)
theorem Inv.laid {a:Addr} {o:HO} {t':Nat} (I:Inv X pins σ H s) (k:∀ b u,s.heap.get? b=some u->h'.get? b=some u) (hp:s.heap.objs.size<=a) (new:ObjOk X.prog X.w (upd H a o) h' a o) :
  Inv X pins σ (upd H a o) { s with heap:=h',toks:=t' }:=I.un (Un.laid k hp (I.hok.fresh hp)) (I.hok.laid k hp new)
theorem Inv.write {x e:Addr} {o:HO} {t':Nat} (I:Inv X pins σ H s) (mu:Mut (H x)) (he:e=x\/H e=some (.own x)) (k:∀ b u,b ≠ e->s.heap.get? b=some u->h'.get? b=some u) (heo:∃ u,h'.get? e=some u)
  (new:ObjOk X.prog X.w (upd H x o) h' x o):Inv X pins σ (upd H x o) { s with heap:=h',toks:=t' }:=I.un (Un.write mu he k heo) (I.hok.write mu he k heo new)
theorem Inv.weak {σ':List (Option V)} (I:Inv X pins σ H s) (hl:σ'.length=σ.length) (w:∀ (i:Nat) v,σ'[i]?=some (some v)->σ[i]?=some (some v)):Inv X pins σ' H s :=
 ⟨I.ok,I.os,I.bare,I.base,let ⟨m,hn,hl'⟩:=I.loc; ⟨m,hn,fun i x v e1 e2 e3=>hl' i x v e1 (w i v e2) e3⟩,I.cell,I.free,I.freeC,I.pin,I.hok,hl.trans I.len⟩
theorem Inv.pins_of {pins':List (Addr × Obj)} (I:Inv X pins σ H s) (h:∀ p ∈ pins',s.heap.get? p.1=some p.2/\H p.1=none/\p.1 ≠ X.env.locals/\p.1 ∉ X.fs/\∀ v,p.2.data ≠ .cell v):Inv X pins' σ H s :=
 ⟨I.ok,I.os,I.bare,I.base,I.loc,I.cell,I.free,I.freeC,fun p hp=>(aaf.mp hp).elim (fun z=>I.pin p (aam _ z)) (h p),I.hok,I.len⟩
theorem F0 {N:List Str} (hN:N.Nodup) {i j:Nat} {x:Str} (a:N[i]?=some x) (b:N[j]?=some x):i=j:=by
 obtain ⟨h1,e1⟩:=aaq.mp a
 obtain ⟨h2,e2⟩:=aaq.mp b
 exact (List.getElem_inj hN).mp (e1.trans e2.symm)
theorem Hc {M:Model} {A:Around} {E:Value->Shared->Prop} {i:Nat} {x:Str} {v:V} {u:Value} {Q:Unit->Shared->Prop} (I:Inv X pins σ H s) (hN:X.N.Nodup) (hi:X.N[i]?=some x) (hx:Loc X.env.scope x) (r:RelV v u)
  (h:∀ s',Inv X pins (σ.set i (some v)) H s'->(∃ a,Heap.SameBut a s.heap s'.heap/\(a=X.env.locals\/X.env.cells.lookup x=some a))->Q () s') (hf:X.fn x=true\/X.env.scope.names.lookup x=some .local:=by first | exact .inl rfl | exact .inr rfl | assumption):wpAny M A (storeName X.env x u) Q E s:=by
 obtain ⟨m,hn,hl⟩:=id I.loc
 have hcls:(X.env.scope.kind==.class || (X.env.scope.kind==.module && X.env.locals != X.env.globals))=false:=by rw [I.ok.kind]; rfl
 have hiσ:i < σ.length:=by rw [I.len]; exact (aaq.mp hi).1
 have cne:=I.cne
 have tracked:∀ {a:Addr} {h':Heap},(∃ o,s.heap.get? a=some o/\H a=none)->Heap.SameBut a s.heap h'->HOk X.prog X.w H h':=fun {a h'} ha hs b ob e=>by
  obtain ⟨_,_,hfree⟩:=ha
  refine (I.hok b ob e).stay (fun c w' hc q=>(hs.2 c ?_).trans q) (fun _ q=>q) fun _ _ q=>q
  rintro rfl
  rcases hc with rfl | hc
  ·rw [hfree] at e; cases e
  ·rw [hfree] at hc; cases hc
 rcases hx with hk | hk
 ·refine wpAny_storeName_local hk hn (fun h' hn' hs=>?_) hcls
  obtain ⟨oL,_,_,hoL,_⟩:=id hn
  refine h _ ⟨I.ok,I.os,I.bare,⟨fun b o e n hb hx=>?_,fun b o e n hb hx=>?_,I.base.free,fun b o e hx=>?_,I.base.tups,I.base.frzs,I.base.tbls⟩,⟨_,hn',fun j y v' e1 e2 e3=>?_⟩,fun y c e=>?_,I.free,I.freeC,fun p hp=>?_,tracked ⟨oL,hoL,I.free⟩ hs,by simpa using I.len⟩ ⟨_,hs,.inl rfl⟩
  ·exact (hs.2 b (aaI (aax (Heap.lt_size e) I.ok.above))).trans (I.base.keep b o e n hb hx)
  ·obtain ⟨sl,e1⟩:=I.base.slot b o e n hb hx
   exact ⟨sl,(hs.2 b (aaI (aax (Heap.lt_size e) I.ok.above))).trans e1⟩
  ·obtain ⟨o',e1⟩:=I.base.there b o e hx
   exact ⟨o',(hs.2 b (aaI (aax (Heap.lt_size e) I.ok.above))).trans e1⟩
  ·by_cases hj:j=i
   ·subst hj
    rw [hi] at e1; cases e1
    rw [abx hiσ] at e2
    cases e2
    exact ⟨u,r,.inl ⟨hk,by simp⟩⟩
   ·rw [aao (Ne.symm hj)] at e2
    obtain ⟨u',r',q⟩:=hl j y v' e1 e2 e3
    refine ⟨u',r',?_⟩
    rcases q with ⟨k,e⟩ | ⟨k,c,e,z⟩
    ·refine .inl ⟨k,?_⟩
     have:y ≠ x:=fun e=>hj (F0 hN e1 (e ▸ hi))
     simp [this,e]
    ·exact .inr ⟨k,c,e,z.sameBut hs (cne y c e)⟩
  ·obtain ⟨w',z⟩:=I.cell y c e
   exact ⟨w',z.sameBut hs (cne y c e)⟩
  ·obtain ⟨e,n,ne,nf,d⟩:=I.pin p hp
   exact ⟨(hs.2 p.1 ne).trans e,n,ne,nf,d⟩
 ·have hfn:X.fn x=true:=by
   rcases hf with z | z
   ·exact z
   ·rw [z] at hk; cases hk
  obtain ⟨c,hc⟩:=I.ok.has x (.inl hk)
  obtain ⟨w',z⟩:=I.cell x c hc
  refine wpAny_storeName_cell I.ok.kind hk hc z (fun h' hc' hs=>?_)
  obtain ⟨oc,hoc,hocd⟩:=id z
  refine h { s with heap:=h' } ⟨I.ok,I.os,I.bare,⟨fun b o e n hb hx=>?_,fun b o e n hb hx=>?_,I.base.free,fun b o e hx=>?_,I.base.tups,I.base.frzs,I.base.tbls⟩,⟨m,hn.sameBut hs (Ne.symm (cne x c hc)),fun j y v' e1 e2 e3=>?_⟩,fun y c' e=>?_,I.free,I.freeC,fun p hp=>?_,tracked ⟨oc,hoc,I.freeC x c hc⟩ hs,by simpa using I.len⟩ ⟨c,hs,.inr hc⟩
  ·exact (hs.2 b (aaI (aax (Heap.lt_size e) (I.ok.cab x c hfn hc)))).trans (I.base.keep b o e n hb hx)
  ·obtain ⟨sl,e1⟩:=I.base.slot b o e n hb hx
   exact ⟨sl,(hs.2 b (aaI (aax (Heap.lt_size e) (I.ok.cab x c hfn hc)))).trans e1⟩
  ·obtain ⟨o',e1⟩:=I.base.there b o e hx
   exact ⟨o',(hs.2 b (aaI (aax (Heap.lt_size e) (I.ok.cab x c hfn hc)))).trans e1⟩
  ·by_cases hj:j=i
   ·subst hj
    rw [hi] at e1; cases e1
    rw [abx hiσ] at e2
    cases e2
    exact ⟨u,r,.inr ⟨.inl hk,c,hc,hc'⟩⟩
   ·rw [aao (Ne.symm hj)] at e2
    obtain ⟨u',r',q⟩:=hl j y v' e1 e2 e3
    refine ⟨u',r',?_⟩
    rcases q with q | ⟨k,c',e,z'⟩
    ·exact .inl q
    ·refine .inr ⟨k,c',e,z'.sameBut hs ?_⟩
     rintro rfl
     exact hj (F0 hN e1 (I.ok.inj _ _ _ e hc ▸ hi))
  ·by_cases hcc:c'=c
   ·subst hcc; exact ⟨_,hc'⟩
   ·obtain ⟨w2,z2⟩:=I.cell y c' e
    exact ⟨w2,z2.sameBut hs hcc⟩
  ·obtain ⟨e,n,ne,nf,d⟩:=I.pin p hp
   refine ⟨(hs.2 p.1 ?_).trans e,n,ne,nf,d⟩
   intro q
   rw [q,hoc] at e
   have q':oc=p.2:=Option.some.inj e
   exact d w' (by rw [<- q']; exact hocd)
theorem F1 {M:Model} {A:Around} {E:Value->Shared->Prop} {i:Nat} {x:Str} {v:V} {u:Value} {Q:Unit->Shared->Prop} (I:Inv X pins σ H s) (hN:X.N.Nodup) (hi:X.N[i]?=some x) (hx:Loc X.env.scope x) (r:RelV v u)
  (h:∀ s',Inv X pins (σ.set i (some v)) H s'->Q () s') (hf:X.fn x=true\/X.env.scope.names.lookup x=some .local:=by first | exact .inl rfl | exact .inr rfl | assumption):wpAny M A (storeName X.env x u) Q E s :=
 Hc I hN hi hx r (fun s' I' _=>h s' I') hf
theorem Inv.call' {s':Shared} {ch:List Addr} (I:Inv X pins σ H s) (ho:s'.os=s.os) (u:Un (frs X.stack) ch H H' s.heap s'.heap) (hok:HOk X.prog X.w H' s'.heap) (hg:AllBare s'.gens)
  (hch:∀ b ∈ ch,(b ∈ X.ex\/X.s₀.heap.objs.size<=b)/\b ≠ X.env.locals/\(∀ x c,X.env.cells.lookup x=some c->c ≠ b)/\∀ p ∈ X.pn ++ pins,p.1 ≠ b):Inv X pins σ H' s':=by
 obtain ⟨h',g',d',t',o'⟩:=s'
 have e:o'=s.os:=ho
 subst e
 exact I.call (g':=g') (t':=t') (d':=d') u hok hg hch
end
noncomputable abbrev XK:=Value->Option Addr->Hp->Prop
noncomputable abbrev St:=List (Option V)
noncomputable abbrev VK:=V->Hp->Prop
noncomputable abbrev TE:=St->Hp->VK->Prop
noncomputable abbrev TT:=St->Hp->(Bool->Hp->Prop)->Prop
noncomputable abbrev TA:=St->Hp->(List V->Hp->Prop)->Prop
structure Ends where
 nx:St->Hp->Prop
 rt:VK
 bk:St->Hp->Prop:=fun _ _=>False
 ct:St->Hp->Prop:=fun _ _=>False
noncomputable abbrev TS:=Ends->St->Hp->Prop
noncomputable def EP (X:Cx) (pins:List (Addr × Obj)) (σ:St) (Q:VK) (u:Value) (s':Shared):Prop:=∃ v H',Inv X pins σ H' s'/\RelV v u/\Q v H'
noncomputable def TP (X:Cx) (pins:List (Addr × Obj)) (σ:St) (Q:Bool->Hp->Prop) (b:Bool) (s':Shared):Prop:=∃ H',Inv X pins σ H' s'/\Q b H'
noncomputable def AP (X:Cx) (pins:List (Addr × Obj)) (σ:St) (Q:List V->Hp->Prop) (us:List Value) (s':Shared):Prop:=∃ vs H',Inv X pins σ H' s'/\Vals vs us/\Q vs H'
noncomputable def SP (X:Cx) (pins:List (Addr × Obj)) (D:Ends) (f:Flow) (s':Shared):Prop :=
 match f with
 | .next=>∃ σ' H',Inv X pins σ' H' s'/\D.nx σ' H'
 | .brk=>∃ σ' H',Inv X pins σ' H' s'/\D.bk σ' H'
 | .cont=>∃ σ' H',Inv X pins σ' H' s'/\D.ct σ' H'
 | .ret u=>∃ v σ' H',Inv X pins σ' H' s'/\RelV v u/\D.rt v H'
noncomputable def PE (X:Cx) (e:Expr) (t:TE):Prop :=
 ∀ (pins:List (Addr × Obj)) (s:Shared) (σ:St) (H:Hp) (Q:VK),Inv X pins σ H s->t σ H Q->wpAny (model X.prog X.w) X.A (eval e X.env) (EP X pins σ Q) X.xe s
noncomputable def PT (X:Cx) (e:Expr) (t:TT):Prop :=
 ∀ (pins:List (Addr × Obj)) (s:Shared) (σ:St) (H:Hp) (Q:Bool->Hp->Prop),Inv X pins σ H s->t σ H Q->wpAny (model X.prog X.w) X.A (isTrue e X.env (eval e X.env)) (TP X pins σ Q) X.xe s
noncomputable def PW (X:Cx) (e:Expr) (t:TT):Prop :=
 ∀ (whole:Sem Value) (pins:List (Addr × Obj)) (s:Shared) (σ:St) (H:Hp) (Q:Bool->Hp->Prop),Inv X pins σ H s->t σ H Q->wpAny (model X.prog X.w) X.A (isTrue e X.env whole) (TP X pins σ Q) X.xe s
theorem PW.pt {X:Cx} {e:Expr} {t:TT} (h:PW X e t):PT X e t:=h _
noncomputable def PA (X:Cx) (es:List Expr) (t:TA):Prop :=
 ∀ (pos:Pos) (pins:List (Addr × Obj)) (s:Shared) (σ:St) (H:Hp) (Q:List V->Hp->Prop),Inv X pins σ H s->t σ H Q->wpAny (model X.prog X.w) X.A (spliced (backTo pos (starEach es X.env))) (AP X pins σ Q) X.xe s
noncomputable def PS (X:Cx) (st:Stmt) (t:TS):Prop :=
 ∀ (pins:List (Addr × Obj)) (s:Shared) (σ:St) (H:Hp) (D:Ends),Inv X pins σ H s->t D σ H->wpAny (model X.prog X.w) X.A (exec st X.env) (SP X pins D) X.xe s
noncomputable def PSs (X:Cx) (st:List Stmt) (t:TS):Prop :=
 ∀ (pins:List (Addr × Obj)) (s:Shared) (σ:St) (H:Hp) (D:Ends),Inv X pins σ H s->t D σ H->wpAny (model X.prog X.w) X.A (execs st X.env) (SP X pins D) X.xe s
theorem thn {α:Type} {t:Sem α} {Q Q':α->Shared->Prop} {M:Model} {A:Around} {E:Value->Shared->Prop} {s:Shared} (h:wpAny M A t Q E s) (hQ:∀ a s,Q a s->Q' a s):wpAny M A t Q' E s:=wpAny_mono h hQ fun _ _ x=>x
section
variable {X:Cx}
theorem bin {a b:Expr} {ta tb:TE} (ha:PE X a ta) (hb:PE X b tb) {pins:List (Addr × Obj)} {s:Shared} {σ:St} {H:Hp} {R:V->V->Hp->Prop} (I:Inv X pins σ H s) (h:ta σ H fun x H1=>tb σ H1 fun y H2=>R x y H2)
  {α:Type} {Q:α->Shared->Prop} {f:Value->Value->Sem α}
  (hf:∀ v u s2 x y H2,Inv X pins σ H2 s2->RelV x v->RelV y u->R x y H2->wpAny (model X.prog X.w) X.A (f v u) Q X.xe s2) :
  wpAny (model X.prog X.w) X.A (eval a X.env) (fun v s₁=>wpAny (model X.prog X.w) X.A (eval b X.env) (fun u s₂=>wpAny (model X.prog X.w) X.A (f v u) Q X.xe s₂) X.xe s₁) X.xe s:=by
 refine thn (ha pins s σ H _ I h) fun v s1 ⟨x,H1,I1,r1,q1⟩=>?_
 refine thn (hb pins s1 σ H1 _ I1 q1) fun u s2 ⟨y,H2,I2,r2,q2⟩=>?_
 exact hf v u s2 x y H2 I2 r1 r2 q2
noncomputable def Mp (i:Nat):TE:=fun σ H Q=>∃ v,σ[i]?=some (some v)/\Q v H
noncomputable def tC (v:V):TE:=fun _ H Q=>Q v H
theorem DU {i:Nat} {x:Str} {pos:Pos} (hN:X.N[i]?=some x) (hv:Vis X.env.scope x) (hd:(x==("__debug__" : Str))=false:=by decide) (hcd:(x==("__classdict__" : Str))=false:=by decide):PE X (.Name x pos) (Mp i):=by
 intro pins s σ H Q I h
 obtain ⟨v,e,h⟩:=h
 obtain ⟨m,hn,hl⟩:=I.loc
 obtain ⟨u,r,l⟩:=hl i x v hN e hv
 have fin:EP X pins σ Q u s:=⟨v,H,I,r,h⟩
 rcases l with ⟨hk,hm⟩ | ⟨hk,c,hc,hcell⟩
 ·exact wpAny_Name (wpAny_loadName_local I.ok.kind hk hn hm fin) hd
 ·rcases hk with hk | hk
  ·exact wpAny_Name (wpAny_loadName_cell I.ok.kind hk hc hcell fin) hd
  ·exact wpAny_Name (wpAny_loadName_free I.ok.kind hk hc hcell fin hcd) hd
theorem PY {i j pos}:PE X (.Constant (.int i) j pos) (tC (.int i)):=fun _ _ _ H _ I h=>wpAny_Constant_int ⟨.int i,H,I.tok _,⟨_,rfl⟩,h⟩
theorem RK {b j pos}:PE X (.Constant (.bool b) j pos) (tC (.bl b)):=fun _ _ _ H _ I h=>Constant_bool ⟨.bl b,H,I,rfl,h⟩
theorem PZ {j pos}:PE X (.Constant .none j pos) (tC .non):=fun _ _ _ H _ I h=>Constant_none ⟨.non,H,I,rfl,h⟩
theorem P0 {x j pos}:PE X (.Constant (.str x) j pos) (tC (.str x)):=fun _ _ _ H _ I h=>Calls.Constant_str ⟨.str x,H,I.tok _,⟨_,rfl⟩,h⟩
noncomputable def Gl (X:Cx) (x:Str):Prop:=X.env.kindOf x=some .globalImplicit
theorem Fq {E:Value->Shared->Prop} {pins:List (Addr × Obj)} {s:Shared} {σ:St} {H:Hp} {x:Str} {u:Value} {pos:Pos} {Q:Value->Shared->Prop} (I:Inv X pins σ H s) (hg:Gl X x) (hm:X.mg x=some u) (h:Q u s)
  (hd:(x==("__debug__" : Str))=false:=by decide):wpAny (model X.prog X.w) X.A (eval (.Name x pos) X.env) Q E s :=
 Calls.Name_function_global I.ok.kind hg (Calls.loadGlobal_global (by rw [I.ok.glob]; exact I.mod.glob.keeps I.bk) hm h) hd
theorem DV {E:Value->Shared->Prop} {pins:List (Addr × Obj)} {s:Shared} {σ:St} {H:Hp} {x:Str} {u:Value} {pos:Pos} {Q:Value->Shared->Prop} (I:Inv X pins σ H s) (hg:Gl X x) (hm:X.mg x=none) (hv:bootBuiltins x=some u) (h:Q u s)
  (hn:x ≠ "__name__" := by decide) (hd:(x==("__debug__" : Str))=false:=by decide):wpAny (model X.prog X.w) X.A (eval (.Name x pos) X.env) Q E s:=by
 obtain ⟨mb,h1,h2⟩:=I.mod.blt
 exact Calls.Name_function_global I.ok.kind hg (Calls.loadGlobal_builtin (by rw [I.ok.glob]; exact I.mod.glob.keeps I.bk) hm (by rw [I.ok.blt]; exact h1.keeps I.bk) ((h2 x hn).trans hv) h) hd
theorem Jn {x:Str} {v:V} {u:Value} {pos:Pos} (hg:Gl X x) (hm:X.mg x=some u) (r:RelV v u) (hd:(x==("__debug__" : Str))=false:=by decide):PE X (.Name x pos) (tC v) :=
 fun _ _ _ H _ I h=>Fq I hg hm ⟨v,H,I,r,h⟩ hd
theorem Oa {x:Str} {v:V} {u:Value} {pos:Pos} (hg:Gl X x) (hm:X.mg x=none) (hv:bootBuiltins x=some u) (r:RelV v u) (hn:x ≠ "__name__" := by decide) (hd:(x==("__debug__" : Str))=false:=by decide):PE X (.Name x pos) (tC v) :=
 fun _ _ _ H _ I h=>DV I hg hm hv ⟨v,H,I,r,h⟩ hn hd
variable {a b:Expr} {ta tb:TE} {pos:Pos}
noncomputable def PC (X:Cx) (op:CmpOp) (a b:Expr) (t:TE):Prop :=
 ∀ (pins:List (Addr × Obj)) (s:Shared) (σ:St) (H:Hp) (Q:VK),Inv X pins σ H s->t σ H Q ->
  wpAny (model X.prog X.w) X.A (eval a X.env) (fun v s₁=>wpAny (model X.prog X.w) X.A (eval b X.env) (fun u s₂=>wpAny (model X.prog X.w) X.A (compareOp op v u) (EP X pins σ Q) X.xe s₂) X.xe s₁) X.xe s
theorem HE (b:Expr) {op:CmpOp} (h:op ≠ .In) (h2:op ≠ .NotIn):behindInMarks op b=false:=by
 have e1:(op==CmpOp.In)=false:=by cases op <;> first | rfl | exact absurd rfl h
 have e2:(op==CmpOp.NotIn)=false:=by cases op <;> first | rfl | exact absurd rfl h2
 cases b <;> simp [behindInMarks,e1,e2]
noncomputable def SD (ta:TE):TE:=fun σ H Q=>ta σ H fun x H1=>Q (.bl (decide (x=.non))) H1
noncomputable def RL (ta:TE):TE:=fun σ H Q=>ta σ H fun x H1=>Q (.bl (!decide (x=.non))) H1
theorem RelV.none_iff {x:V} {v:Value} (r:RelV x v):(v==Value.none)=decide (x=.non):=by
 cases x with
 | non=>cases r; rfl
 | bl _=>cases r; rfl
 | int _=>obtain ⟨t,rfl⟩:=r; rfl
 | str _=>obtain ⟨t,rfl⟩:=r; rfl
 | byt _=>obtain ⟨t,rfl⟩:=r; rfl
 | flt _=>obtain ⟨t,rfl⟩:=r; rfl
 | ref _=>cases r; rfl
 | ty _=>cases r; rfl
theorem KU {j pos'} (ha:PE X a ta):PC X .Is a (.Constant .none j pos') (SD ta):=by
 intro pins s σ H Q I h
 refine thn (ha pins s σ H _ I h) fun v s1 ⟨x,H1,I1,r1,q1⟩=>?_
 exact Constant_none (is_none_gen ⟨.bl _,H1,I1,by rw [r1.none_iff]; rfl,q1⟩)
theorem Jo {j pos'} (ha:PE X a ta):PC X .IsNot a (.Constant .none j pos') (RL ta):=by
 intro pins s σ H Q I h
 refine thn (ha pins s σ H _ I h) fun v s1 ⟨x,H1,I1,r1,q1⟩=>?_
 exact Constant_none (isnot_none_gen ⟨.bl _,H1,I1,by rw [r1.none_iff]; rfl,q1⟩)
noncomputable def tB (t:TE):TT:=fun σ H Q=>t σ H fun x H1=>∃ c,x=.bl c/\Q c H1
theorem KW {op:CmpOp} {t:TE} (h:PC X op a b t) (h1:behindInMarks op b=false:=by first | exact HE _ (by decide) (by decide) | rfl):PE X (.Compare a [op] [b] pos) t:=fun pins s σ H Q I hw=>wpAny_Compare1 (h pins s σ H Q I hw) h1
theorem KY {op:CmpOp} {t:TE} (h:PC X op a b t) (h1:behindInMarks op b=false:=by first | exact HE _ (by decide) (by decide) | rfl):PT X (.Compare a [op] [b] pos) (tB t):=by
 intro pins s σ H Q I hw
 refine wpAny_isTrue_Compare1 (thn (h pins s σ H _ I hw) fun v s1 h1=>thn h1 fun u s2 h2=>thn h2 fun c s3 ⟨x,H1,I1,r1,q1⟩=>?_) h1
 obtain ⟨d,rfl,q⟩:=q1
 cases r1
 exact wpAny_truthy_bool ⟨H1,I1,q⟩
theorem P5 {e:Expr} {t:TE} (h:PE X e t) (he:∀ whole,isTrue e X.env whole=(do let v <- whole; standAt e.pos; holding [v] (truthy v)):=by intro _; rfl):PT X e (tB t):=by
 intro pins s σ H Q I hw
 refine isTrue_plain (thn (h pins s σ H _ I hw) fun v s1 ⟨x,H1,I1,r1,q1⟩=>?_) (he _)
 obtain ⟨d,rfl,q⟩:=q1
 cases r1
 exact wpAny_truthy_bool ⟨H1,I1,q⟩
variable {tA tB':TT} {rest:List Expr}
noncomputable def SE (t u:TT):TT:=fun σ H Q=>t σ H fun c H1=>if c=true then u σ H1 Q else Q false H1
noncomputable def tOr (t u:TT):TT:=fun σ H Q=>t σ H fun c H1=>if c=true then Q true H1 else u σ H1 Q
noncomputable def SF (t:TT):TT:=fun σ H Q=>t σ H fun c H1=>Q (!c) H1
theorem Ob (ha:PT X a tA):PW X (.BoolOp .And [a] pos) tA:=by
 intro wh pins s σ H Q I h
 refine isTrue_and (thn (ha pins s σ H Q I h) fun c s1 e=>?_)
 cases c with
 | true=>exact isTrue_and_nil e
 | false=>exact e
theorem P6 (ha:PT X a tA):PW X (.BoolOp .Or [a] pos) tA:=by
 intro wh pins s σ H Q I h
 refine isTrue_or (thn (ha pins s σ H Q I h) fun c s1 e=>?_)
 cases c with
 | false=>exact isTrue_or_nil e
 | true=>exact e
theorem P7 (ha:PT X a tA) (hb:PW X (.BoolOp .And (b :: rest) pos) tB'):PW X (.BoolOp .And (a :: b :: rest) pos) (SE tA tB'):=by
 intro wh pins s σ H Q I h
 refine isTrue_and (thn (ha pins s σ H _ I h) fun c s1 ⟨H1,I1,q1⟩=>?_)
 cases c with
 | true=>exact hb wh pins s1 σ H1 Q I1 q1
 | false=>exact ⟨H1,I1,q1⟩
theorem RM (ha:PT X a tA) (hb:PW X (.BoolOp .Or (b :: rest) pos) tB'):PW X (.BoolOp .Or (a :: b :: rest) pos) (tOr tA tB'):=by
 intro wh pins s σ H Q I h
 refine isTrue_or (thn (ha pins s σ H _ I h) fun c s1 ⟨H1,I1,q1⟩=>?_)
 cases c with
 | true=>exact ⟨H1,I1,q1⟩
 | false=>exact hb wh pins s1 σ H1 Q I1 q1
theorem KZ (ha:PT X a tA):PT X (.UnaryOp .Not a pos) (SF tA):=by
 intro pins s σ H Q I h
 exact isTrue_not (ha pins s σ H (fun c H1=>Q (!c) H1) I h)
noncomputable def RN (ta tb:TE):TE:=fun σ H Q=>ta σ H fun x H1=>∃ c,x=.bl c/\if c=true then tb σ H1 Q else Q (.bl false) H1
noncomputable def SG (ta tb:TE):TE:=fun σ H Q=>ta σ H fun x H1=>∃ c,x=.bl c/\if c=true then Q (.bl true) H1 else tb σ H1 Q
noncomputable def RP (ta:TE):TE:=fun σ H Q=>ta σ H fun x H1=>∃ c,x=.bl c/\Q (.bl (!c)) H1
theorem P8 {op} {t:TE} (h:PE X a t):PE X (.BoolOp op [a] pos) t:=fun pins s σ H Q I hw=>BoolOp_one (h pins s σ H Q I hw)
theorem P9 (ha:PE X a ta) (hb:PE X (.BoolOp .And (b :: rest) pos) tb):PE X (.BoolOp .And (a :: b :: rest) pos) (RN ta tb):=by
 intro pins s σ H Q I h
 refine BoolOp_and (thn (ha pins s σ H _ I h) fun v s1 ⟨x,H1,I1,r1,q1⟩=>?_)
 obtain ⟨c,rfl,q1⟩:=q1
 cases r1
 refine wpAny_truthy_bool ?_
 cases c with
 | true=>exact hb pins s1 σ H1 Q I1 q1
 | false=>exact ⟨.bl false,H1,I1,rfl,q1⟩
theorem RQ (ha:PE X a ta) (hb:PE X (.BoolOp .Or (b :: rest) pos) tb):PE X (.BoolOp .Or (a :: b :: rest) pos) (SG ta tb):=by
 intro pins s σ H Q I h
 refine BoolOp_or (thn (ha pins s σ H _ I h) fun v s1 ⟨x,H1,I1,r1,q1⟩=>?_)
 obtain ⟨c,rfl,q1⟩:=q1
 cases r1
 refine wpAny_truthy_bool ?_
 cases c with
 | false=>exact hb pins s1 σ H1 Q I1 q1
 | true=>exact ⟨.bl true,H1,I1,rfl,q1⟩
theorem Qa (ha:PE X a ta):PE X (.UnaryOp .Not a pos) (RP ta):=by
 intro pins s σ H Q I h
 refine UnaryOp_ (thn (ha pins s σ H _ I h) fun v s1 ⟨x,H1,I1,r1,q1⟩=>?_)
 obtain ⟨c,rfl,q1⟩:=q1
 cases r1
 exact not_of (wpAny_truthy_bool ⟨.bl (!c),H1,I1,rfl,q1⟩)
end
noncomputable def SqL (K:PySem.W.Frag) (H:Hp) (a:Addr) (xs:List V):Prop :=
 Rd H a (.lst xs) \/
  ∃ (o:Obj) (its:Array Value) (n:Nat),K.lookup a=some o/\o.cls=.type "list" /\ o.dict=none/\o.data=.seq its n/\its.size<=sizeLine/\Vals xs its.toList
noncomputable def SqT (K:PySem.W.Frag) (H:Hp) (a:Addr) (xs:List V):Prop :=
 Rd H a (.tup xs) \/
  ∃ (o:Obj) (its:Array Value) (n:Nat),K.lookup a=some o/\o.cls=.type "tuple" /\ o.data=.seq its n/\its.size<=sizeLine/\Vals xs its.toList
noncomputable def SH:Value->Option V
 | .none=>some .non
 | .bool b=>some (.bl b)
 | .int i _=>some (.int i)
 | .str x _=>some (.str x)
 | .bytes b _=>some (.byt b)
 | .float b _=>some (.flt b)
 | .ref a=>some (.ref a)
 | .type n=>some (.ty n)
 | _=>none
theorem RelV.abs {x:V} {u:Value} (r:RelV x u):SH u=some x:=by
 cases x with
 | non=>cases r; rfl
 | bl _=>cases r; rfl
 | int _=>obtain ⟨t,rfl⟩:=r; rfl
 | str _=>obtain ⟨t,rfl⟩:=r; rfl
 | byt _=>obtain ⟨t,rfl⟩:=r; rfl
 | flt _=>obtain ⟨t,rfl⟩:=r; rfl
 | ref _=>cases r; rfl
 | ty _=>cases r; rfl
theorem RelV.inj {x y:V} {u:Value} (r:RelV x u) (q:RelV y u):x=y:=Option.some.inj (r.abs.symm.trans q.abs)
theorem Vals.inj:∀ {xs ys:List V} {us:List Value},Vals xs us->Vals ys us->xs=ys
 | _,_,_,.nil,.nil=>rfl
 | _,_,_,.cons r t,.cons r' t'=>by rw [r.inj r',Vals.inj t t']
section
variable {X:Cx} {pins:List (Addr × Obj)} {σ:St} {H:Hp} {s:Shared} {a:Addr} {xs ys:List V}
theorem SqL.of {K:PySem.W.Frag} (h:H a=some (.lst xs)):SqL K H a xs:=.inl (.inl h)
theorem SqT.of {K:PySem.W.Frag} (h:H a=some (.tup xs)):SqT K H a xs:=.inl (.inl h)
theorem Inv.list (I:Inv X pins σ H s) (h:SqL X.K H a xs):∃ its:List Value,Vals xs its/\PlainL s.heap a its.toArray/\xs.length<=sizeLine:=by
 rcases h with h | ⟨o,its,n,hk,hc,hd,hs,hz,r⟩
 ·obtain ⟨z,its,n,r,e⟩:=h.ok I.hok
  exact ⟨its,r,⟨_,n,e,rfl,rfl,rfl⟩,z⟩
 ·refine ⟨its.toList,r,⟨o,n,I.kIn a o hk,hc,hd,by simpa using hs⟩,?_⟩
  have e:=r.length
  simp only [Array.length_toList] at e
  omega
theorem Inv.tuple (I:Inv X pins σ H s) (h:SqT X.K H a xs):∃ its:List Value,Vals xs its/\IsTup s.heap a its.toArray/\xs.length<=sizeLine:=by
 rcases h with h | ⟨o,its,n,hk,hc,hs,hz,r⟩
 ·obtain ⟨z,its,r,p⟩:=h.ok I.hok
  exact ⟨its,r,p,z⟩
 ·refine ⟨its.toList,r,⟨o,I.kIn a o hk,hc,n,by simpa using hs⟩,?_⟩
  have e:=r.length
  simp only [Array.length_toList] at e
  omega
theorem Inv.list_inj (I:Inv X pins σ H s) (h:SqL X.K H a xs) (h':SqL X.K H a ys):xs=ys:=by
 obtain ⟨its,r,⟨o,n,e,_,_,d⟩,_⟩:=I.list h
 obtain ⟨its',r',⟨o',n',e',_,_,d'⟩,_⟩:=I.list h'
 rw [e] at e'; cases e'
 rw [d] at d'
 injection d' with d1 _
 have:its=its':=by simpa using congrArg Array.toList d1
 subst this
 exact r.inj r'
theorem Inv.tuple_inj (I:Inv X pins σ H s) (h:SqT X.K H a xs) (h':SqT X.K H a ys):xs=ys:=by
 obtain ⟨its,r,⟨o,e,_,n,d⟩,_⟩:=I.tuple h
 obtain ⟨its',r',⟨o',e',_,n',d'⟩,_⟩:=I.tuple h'
 rw [e] at e'; cases e'
 rw [d] at d'
 injection d' with d1 _
 have:its=its':=by simpa using congrArg Array.toList d1
 subst this
 exact r.inj r'
end
section
variable {X:Cx} {st:Stmt} {rest:List Stmt} {t u:TS} {e:Expr} {te:TE} {pos:Pos}
noncomputable def RR:TS:=fun D σ H=>D.nx σ H
noncomputable def SI (t u:TS):TS:=fun D σ H=>t { D with nx:=u D } σ H
theorem Jp:PSs X [] RR:=fun _ _ σ H _ I h=>wpAny_execs_nil ⟨σ,H,I,h⟩
theorem Mq (h1:PS X st t) (h2:PSs X rest u):PSs X (st :: rest) (SI t u):=by
 intro pins s σ H D I h
 refine wpAny_execs_cons (thn (h1 pins s σ H { D with nx:=u D } I h) fun f s1 q=>?_)
 cases f with
 | next =>
  obtain ⟨σ',H',I',q⟩:=q
  exact h2 pins s1 σ' H' D I' q
 | ret v=>exact q
 | brk=>exact q
 | cont=>exact q
theorem Inv.quiet {pins:List (Addr × Obj)} {σ:St} {H:Hp} {s:Shared} (I:Inv X pins σ H s):interactive X.env=false:=by simp [interactive,I.ok.kind]
noncomputable def NO (te:TE):TS:=fun D σ H=>te σ H fun _ H1=>D.nx σ H1
theorem Er (he:PE X e te) (hs:swapsWith e none pos.line X.env=pure false:=by rfl):PS X (.Expr e pos) (NO te):=by
 intro pins s σ H D I h
 exact wpAny_Expr_any (thn (he pins s σ H _ I h) fun v s1 ⟨x,H1,I1,r1,q1⟩=>⟨σ,H1,I1,q1⟩) I.quiet hs
noncomputable def SJ (te:TE):TS:=fun D σ H=>te σ H D.rt
theorem Gi (he:PE X e te):PS X (.Return (some e) pos) (SJ te):=by
 intro pins s σ H D I h
 exact wpAny_Return_some (thn (he pins s σ H _ I h) fun v s1 ⟨x,H1,I1,r1,q1⟩=>⟨x,σ,H1,I1,r1,q1⟩)
noncomputable def Qb (c:TT) (t u:TS):TS:=fun D σ H=>c σ H fun b H1=>if b=true then t D σ H1 else u D σ H1
theorem NP {c:Expr} {a b:List Stmt} {tc:TT} (hc:PT X c tc) (ha:PSs X a t) (hb:PSs X b u):PS X (.If c a b pos) (Qb tc t u):=by
 intro pins s σ H D I h
 refine wpAny_If (thn (hc pins s σ H _ I h) fun d s1 ⟨H1,I1,q1⟩=>?_)
 cases d with
 | true=>exact ha pins s1 σ H1 D I1 q1
 | false=>exact hb pins s1 σ H1 D I1 q1
end
noncomputable abbrev TG:=V->St->Hp->(St->Hp->Prop)->Prop
noncomputable abbrev TGs:=List V->St->Hp->(St->Hp->Prop)->Prop
noncomputable def PG (X:Cx) (target:Expr) (t:TG):Prop :=
 ∀ (pins:List (Addr × Obj)) (s:Shared) (σ:St) (H:Hp) (v:V) (u:Value) (Q:St->Hp->Prop),Inv X pins σ H s->RelV v u->t v σ H Q ->
  wpAny (model X.prog X.w) X.A (assign target X.env u) (fun _ s'=>∃ σ' H',Inv X pins σ' H' s'/\Q σ' H') X.xe s
noncomputable def PGs (X:Cx) (ts:List Expr) (t:TGs):Prop :=
 ∀ (pins:List (Addr × Obj)) (s:Shared) (σ:St) (H:Hp) (vs:List V) (us:List Value) (Q:St->Hp->Prop),Inv X pins σ H s->Vals vs us->t vs σ H Q ->
  wpAny (model X.prog X.w) X.A (assignInOrder ((assignEach ts X.env).map (·.2)) us) (fun _ s'=>∃ σ' H',Inv X pins σ' H' s'/\Q σ' H') X.xe s
noncomputable abbrev Mr:=V->V->V->Hp->(Hp->Prop)->Prop
noncomputable def Qc (X:Cx) (t:Mr):Prop :=
 ∀ (pins:List (Addr × Obj)) (s:Shared) (σ:St) (H:Hp) (o i v:V) (ov iv u:Value) (Q:Hp->Prop),Inv X pins σ H s->RelV o ov->RelV i iv->RelV v u->t o i v H Q ->
  wpAny (model X.prog X.w) X.A (setItem ov iv u) (fun _ s'=>∃ H',Inv X pins σ H' s'/\Q H') X.xe s
section
variable {X:Cx} {pos:Pos}
noncomputable def D8 (i:Nat):TG:=fun v σ H Q=>Q (σ.set i (some v)) H
theorem Jq {i:Nat} {x:Str} (hN:X.N.Nodup) (hi:X.N[i]?=some x) (hx:Loc X.env.scope x) (hf:X.fn x=true\/X.env.scope.names.lookup x=some .local:=by first | exact .inl rfl | exact .inr rfl | assumption):PG X (.Name x pos) (D8 i):=by
 intro pins s σ H v u Q I r h
 exact wpAny_assign_Name (F1 I hN hi hx r (fun s' I'=>⟨_,H,I',h⟩) hf)
noncomputable def Qd:TGs:=fun vs σ H Q=>vs=[]/\Q σ H
noncomputable def NQ (t:TG) (u:TGs):TGs:=fun vs σ H Q=>∃ v r,vs=v :: r/\t v σ H fun σ' H'=>u r σ' H' Q
theorem Oc:PGs X [] Qd:=by
 intro pins s σ H vs us Q I r h
 obtain ⟨e,h⟩:=h
 subst e
 cases r
 exact assignInOrder_nil ⟨σ,H,I,h⟩
theorem Mt {e:Expr} {es:List Expr} {t:TG} {u:TGs} (h1:PG X e t) (h2:PGs X es u)
  (hs:(assignEach (e :: es) X.env).map (·.2)=assign e X.env :: (assignEach es X.env).map (·.2):=by rfl):PGs X (e :: es) (NQ t u):=by
 intro pins s σ H vs us Q I r h
 obtain ⟨v,vr,e1,h⟩:=h
 subst e1
 cases r with
 | cons r rr =>
  rw [hs]
  refine assignInOrder_cons (thn (h1 pins s σ H _ _ _ I r h) fun _ s1 ⟨σ1,H1,I1,q1⟩=>?_)
  exact h2 pins s1 σ1 H1 _ _ Q I1 rr q1
noncomputable def Qe (K:PySem.W.Frag) (n:Nat) (t:TGs):TG:=fun v σ H Q=>∃ a xs,v=.ref a/\SqT K H a xs/\xs.length=n/\t xs σ H Q
theorem Qf {es:List Expr} {k:Nat} {t:TGs} {n:Nat} (hc:X.calm=true) (h:PGs X es t)
  (hn:(assignEach es X.env).length=n:=by rfl) (hst:(assignEach es X.env).findIdx? (·.1)=none:=by rfl):PG X (.Tuple es k pos) (Qe X.K n t):=by
 intro pins s σ H v u Q I r hw
 obtain ⟨a,xs,e1,hq,hl,hw⟩:=hw
 subst e1
 cases r
 obtain ⟨its,rv,ht,hz⟩:=I.tuple hq
 refine assign_Tuple_tuple (I.ok.hd hc) ht (by simp [hn,<- hl,rv.length]) hst fun h' hx=>?_
 have I1:Inv X pins σ H { s with heap:=h' }:=I.kept (t':=s.toks) fun b o e=>hx b o (aaI (Heap.lt_size e)) e
 exact h pins _ σ H xs _ Q I1 (by simpa using rv) hw
noncomputable def Qg (to ti:TE) (t:Mr):TG:=fun v σ H Q=>to σ H fun o H1=>ti σ H1 fun i H2=>t o i v H2 fun H3=>Q σ H3
theorem Qh {o i:Expr} {to ti:TE} {t:Mr} (ho:PE X o to) (hi:PE X i ti) (hs:Qc X t)
  (ha:∀ v,assign (.Subscript o i pos) X.env v=(do
   let ov <- holding [v] (eval o X.env)
   let iv <- holding [v,ov] (eval i X.env)
   standAt pos
   holding [v,ov,iv] (setItem ov iv v)
   release [v,ov,iv] []):=by intro _; rfl):PG X (.Subscript o i pos) (Qg to ti t):=by
 intro pins s σ H v u Q I r h
 rw [ha]
 refine wpAny_bind (wpAny_holding (thn (ho pins s σ H _ I h) fun ov s1 ⟨x,H1,I1,r1,q1⟩=>?_))
 refine wpAny_bind (wpAny_holding (thn (hi pins s1 σ H1 _ I1 q1) fun iv s2 ⟨y,H2,I2,r2,q2⟩=>?_))
 refine wpAny_bind (wpAny_standAt (wpAny_bind (wpAny_holding (thn (hs pins s2 σ H2 x y v ov iv u _ I2 r1 r2 r q2) fun _ s3 ⟨H3,I3,q3⟩=>?_))))
 exact wpAny_release ⟨σ,H3,I3,q3⟩
noncomputable def EV (te:TE) (g:TG):TS:=fun D σ H=>te σ H fun x H1=>g x σ H1 D.nx
theorem K0 {tg e:Expr} {te:TE} {g:TG} (he:PE X e te) (hg:PG X tg g) (hs:swapsWithSole [tg] e pos.line X.env=pure false:=by rfl) (hw:swappedStores [tg] e X.env=pure none:=by rfl)
  (h1:(assignEach [tg] X.env).map (·.2)=[assign tg X.env]:=by rfl):PS X (.Assign [tg] e pos) (EV te g):=by
 intro pins s σ H D I h
 refine wpAny_Assign_stores (thn (he pins s σ H _ I h) fun v s1 ⟨x,H1,I1,r1,q1⟩=>?_) hs hw
 rw [h1]
 exact thn (hg pins s1 σ H1 x v _ I1 r1 q1) fun _ s2 q=>q
theorem K1 {i:Nat} {x:Str} {e:Expr} {te:TE} {pos':Pos} (hN:X.N.Nodup) (hi:X.N[i]?=some x) (hx:Loc X.env.scope x) (he:PE X e te) (hs:swapsWith e (some (.Name x pos')) pos.line X.env=pure false:=by rfl) (hf:X.fn x=true\/X.env.scope.names.lookup x=some .local:=by first | exact .inl rfl | exact .inr rfl | assumption) :
  PS X (.Assign [.Name x pos'] e pos) (EV te (D8 i)):=by
 intro pins s σ H D I h
 refine wpAny_Assign_Name (thn (he pins s σ H _ I h) fun v s1 ⟨y,H1,I1,r1,q1⟩=>?_) hs
 exact F1 I1 hN hi hx r1 (fun s2 I2=>⟨_,H1,I2,q1⟩) hf
end
section
variable {X:Cx} {pos:Pos}
noncomputable def K3 (c:TT) (tb:TS):TS:=fun D σ H=>∃ W:Nat->St->Hp->Prop,(∃ m,W m σ H)/\∀ m σ H,W m σ H ->
 c σ H fun b H1=>if b=true then ∃ N:St->Hp->Prop,(∀ σ' H',N σ' H'->∃ m',m' < m/\W m' σ' H')/\tb { D with nx:=N,ct:=N,bk:=D.nx } σ H1 else D.nx σ H1
theorem Mu {c:Expr} {body:List Stmt} {tc:TT} {tb:TS} (hp:PassesOwn (model X.prog X.w) X.A X.env X.xe) (hc:PT X c tc) (hb:PSs X body tb):PS X (.While c body [] pos) (K3 tc tb):=by
 intro pins s σ H D I h
 obtain ⟨W,⟨m0,w0⟩,turn⟩:=h
 refine wpAny_While (codeAny_whileLoop (fun n s'=>∃ σ' H',Inv X pins σ' H' s'/\W n σ' H') ?_ m0 ⟨σ,H,I,w0⟩)
 rintro n s1 ⟨σ1,H1,I1,w1⟩
 refine wpAny_passesOwn hp (thn (hc pins s1 σ1 H1 _ I1 (turn n σ1 H1 w1)) fun b s2 ⟨H2,I2,q2⟩=>?_)
 cases b with
 | true =>
  obtain ⟨N,hN,q2⟩:=q2
  rw [if_pos rfl]
  refine wpAny_passesOwn hp (thn (hb pins s2 σ1 H2 _ I2 q2) fun f s3 q3=>?_)
  cases f with
  | next =>
   obtain ⟨σ3,H3,I3,n3⟩:=q3
   obtain ⟨m',hm,w3⟩:=hN σ3 H3 n3
   exact ⟨m',hm,σ3,H3,I3,w3⟩
  | cont =>
   obtain ⟨σ3,H3,I3,n3⟩:=q3
   obtain ⟨m',hm,w3⟩:=hN σ3 H3 n3
   exact ⟨m',hm,σ3,H3,I3,w3⟩
  | brk=>exact q3
  | ret v=>exact q3
 | false =>
  rw [if_neg abt]
  exact wpAny_execs_nil ⟨σ1,H2,I2,q2⟩
end
structure It where
 go:Nat->Hp->Prop
 yld:Nat->Hp->V->Hp->Prop
 stop:Nat->Hp->Prop
noncomputable def FpOk (X:Cx) (pins:List (Addr × Obj)) (H:Hp) (b:Addr):Prop :=
 H b=none/\b ≠ X.env.locals/\b ∉ X.fs/\(b ∈ X.ex\/X.s₀.heap.objs.size<=b)/\(∀ x c,X.env.cells.lookup x=some c->c ≠ b)/\∀ p ∈ X.pn ++ pins,p.1 ≠ b
theorem Inv.fpOk {X:Cx} {pins:List (Addr × Obj)} {σ:St} {H H':Hp} {s:Shared} {b:Addr} (I:Inv X pins σ H s) (hb:s.heap.objs.size<=b) (hn:H' b=none):FpOk X pins H' b:=by
 refine ⟨hn,abY (aax I.lt hb),I.nofs hb,.inr (aat I.sz hb),fun x c e z=>?_,fun p hp z=>?_⟩
 ·obtain ⟨v,q⟩:=I.cell x c e
  exact absurd (aax q.lt (by rw [z]; exact hb)) (aaS _)
 ·exact absurd (aax (Heap.lt_size (I.pin p hp).1) (by rw [z]; exact hb)) (aaS _)
structure Turn (P:Program) (w:World) (K:PySem.W.Frag) (tg:Expr) (J:It) (fp:List Addr) (it:Addr) (tn:Nat->Heap->Prop):Prop where
 mem:it ∈ fp
 obj:∀ i h,tn i h->∀ b ∈ fp,∃ o,h.get? b=some o/\∀ v,o.data ≠ .cell v
 keep:∀ i h h',tn i h->(∀ b ∈ fp,∀ o,h.get? b=some o->h'.get? b=some o)->tn i h'
 item:∀ (X:Cx),X.prog=P->X.w=w->X.K=K->X.calm=true->∀ (i:Nat) (pins:List (Addr × Obj)) (s:Shared) (σ:St) (H:Hp) (E:Value->Shared->Prop),Inv X pins σ H s->(∀ b ∈ fp,FpOk X pins H b)->tn i s.heap->J.go i H ->
  wpAny (model P w) X.A (pyNext (.ref it)) (fun r s1=>∃ u,r=some u /\
   wpAny (model P w) X.A (letOwnedTupleGo tg (.ref it) u) (fun _ s2=>∃ x H',Inv X pins σ H' s2/\RelV x u/\J.yld i H x H'/\tn (i + 1) s2.heap/\∀ b ∈ fp,H' b=none) E s1) E s
 done:∀ (X:Cx),X.prog=P->X.w=w->X.K=K->X.calm=true->∀ (i:Nat) (pins:List (Addr × Obj)) (s:Shared) (σ:St) (H:Hp) (E:Value->Shared->Prop),Inv X pins σ H s->(∀ b ∈ fp,FpOk X pins H b)->tn i s.heap->J.stop i H ->
  wpAny (model P w) X.A (pyNext (.ref it)) (fun r s1=>r=none/\Inv X pins σ H s1) E s
 self:∀ (A:Around) (i:Nat) (s:Shared) (Q:Value->Shared->Prop) (E:Value->Shared->Prop),tn i s.heap->Q (.ref it) s->wpAny (model P w) A (pyIter (.ref it)) Q E s
noncomputable abbrev TI:=St->Hp->(It->Hp->Prop)->Prop
noncomputable def PIE (X:Cx) (pins:List (Addr × Obj)) (σ:St) (tg:Expr) (R:It->Hp->Prop) (itv:Value) (s2:Shared):Prop :=
 ∃ (it:Addr) (fp:List Addr) (tn:Nat->Heap->Prop) (J:It) (H':Hp),itv=.ref it/\Inv X pins σ H' s2/\Turn X.prog X.w X.K tg J fp it tn/\tn 0 s2.heap/\(∀ b ∈ fp,FpOk X pins H' b)/\R J H'
noncomputable def PI (X:Cx) (tg iter:Expr) (wi:TI):Prop :=
 ∀ (pins:List (Addr × Obj)) (s:Shared) (σ:St) (H:Hp) (R:It->Hp->Prop),Inv X pins σ H s->wi σ H R ->
  wpAny (model X.prog X.w) X.A (eval iter X.env) (fun v s1=>wpAny (model X.prog X.w) X.A (pyIter v) (PIE X pins σ tg R) X.xe s1) X.xe s
theorem Hx {M:Model} {A:Around} {E:Value->Shared->Prop} {s:Shared} {tg:Expr} {it:Addr} {u:Value} {o:Obj} {n:String} {vs:Array Value} {Q:Unit->Shared->Prop} (ho:s.heap.get? it=some o) (hc:o.cls=.type n) (hd:o.data=.fields vs)
  (hn:["enumerate", "zip", "dict_itemiterator", "dict_reverseitemiterator", "odict_iterator", "itertools.zip_longest", "itertools.pairwise"].contains n=false) (hQ:Q () s):wpAny M A (letOwnedTupleGo tg (.ref it) u) Q E s:=by
 unfold letOwnedTupleGo
 cases tg <;> first
  | exact wpAny_pure hQ
  | (cases u <;> first
    | exact wpAny_pure hQ
    | (refine wpAny_bind (wpAny_load ho ?_)
       rw [hc,hd]
       show wpAny M A (if (["enumerate", "zip", "dict_itemiterator", "dict_reverseitemiterator", "odict_iterator", "itertools.zip_longest", "itertools.pairwise"].contains n && vs[0]?==some (rawInt _))=true then _ else _) Q E s
       rw [if_neg (by intro h; rw [hn,Bool.false_and] at h; cases h)]
       exact wpAny_pure hQ))
noncomputable def Itl (K:PySem.W.Frag) (a:Addr):It :=
 ⟨fun i H=>∃ xs x,SqL K H a xs/\xs[i]?=some x,fun i H x H'=>H'=H/\∀ xs,SqL K H a xs->xs[i]?=some x,fun i H=>∃ xs,SqL K H a xs/\xs.length<=i⟩
noncomputable def Itt (K:PySem.W.Frag) (a:Addr):It :=
 ⟨fun i H=>∃ xs x,SqT K H a xs/\xs[i]?=some x,fun i H x H'=>H'=H/\∀ xs,SqT K H a xs->xs[i]?=some x,fun i H=>∃ xs,SqT K H a xs/\xs.length<=i⟩
noncomputable def Itr (lo:Int) (n:Nat):It:=⟨fun i _=>i < n,fun i H x H'=>H'=H/\x=.int (lo + i),fun i _=>n<=i⟩
theorem K4 {P:Program} {w:World} {K:PySem.W.Frag} {tg:Expr} (a it:Addr):Turn P w K tg (Itl K a) [it] it (fun i h=>h.IsListIter it a i) where
 mem:=by simp
 obj:=fun i h st b hb=>by
  have e:b=it:=by simpa using hb
  subst e
  obtain ⟨o,e,c,d⟩:=st
  exact ⟨o,e,fun v z=>by rw [d] at z; cases z⟩
 keep:=fun i h h' st k=>st.at fun o e=>k it (by simp) o e
 item:=by
  intro X hP hw hK hc i pins s σ H E I hf st hg
  subst hP hw hK
  obtain ⟨xs,x,hq,hx⟩:=hg
  obtain ⟨its,rv,p,hz⟩:=I.list hq
  obtain ⟨u,hu,ru⟩:=rv.get hx
  obtain ⟨f0,f1,f2,f3,f4,f5⟩:=hf it (by simp)
  refine wpAny_pyNext_list_item st p.isList (x:=u) (by simpa using hu) fun h' st' sb=>?_
  have I1:Inv X pins σ H { s with heap:=h' }:=I.turned (t':=s.toks) (fun b o hb e=>(sb.2 b hb).trans e) f0 f1 f3 f4 f5
  obtain ⟨o,e,c,d⟩:=id st'
  exact ⟨u,rfl,Hx (s:={ s with heap:=h' }) e c d (by decide) ⟨x,H,I1,ru,⟨rfl,fun ys hy=>by rw [I.list_inj hy hq]; exact hx⟩,st',fun b hb=>(hf b hb).1⟩⟩
 done:=by
  intro X hP hw hK hc i pins s σ H E I hf st hg
  subst hP hw hK
  obtain ⟨xs,hq,hx⟩:=hg
  obtain ⟨its,rv,p,hz⟩:=I.list hq
  obtain ⟨f0,f1,f2,f3,f4,f5⟩:=hf it (by simp)
  have hl:=rv.length
  exact wpAny_pyNext_list_end (I.ok.hd hc) st p.isList (by simp; omega) fun h' eb=>⟨rfl,I.turned (t':=s.toks) (fun b o hb e=>eb b o hb e) f0 f1 f3 f4 f5⟩
 self:=fun _ _ _ _ _ st h=>wpAny_pyIter_listiter st h
theorem JY {P:Program} {w:World} {K:PySem.W.Frag} {tg:Expr} (a it:Addr):Turn P w K tg (Itt K a) [it] it (fun i h=>h.IsTupleIter it a i) where
 mem:=by simp
 obj:=fun i h st b hb=>by
  have e:b=it:=by simpa using hb
  subst e
  obtain ⟨o,e,c,d⟩:=st
  exact ⟨o,e,fun v z=>by rw [d] at z; cases z⟩
 keep:=fun i h h' st k=>st.at fun o e=>k it (by simp) o e
 item:=by
  intro X hP hw hK hc i pins s σ H E I hf st hg
  subst hP hw hK
  obtain ⟨xs,x,hq,hx⟩:=hg
  obtain ⟨its,rv,p,hz⟩:=I.tuple hq
  obtain ⟨u,hu,ru⟩:=rv.get hx
  obtain ⟨f0,f1,f2,f3,f4,f5⟩:=hf it (by simp)
  refine wpAny_pyNext_tuple_item st (show s.heap.IsTuple a its.toArray from p) (x:=u) (by simpa using hu) fun h' st' sb=>?_
  have I1:Inv X pins σ H { s with heap:=h' }:=I.turned (t':=s.toks) (fun b o hb e=>(sb.2 b hb).trans e) f0 f1 f3 f4 f5
  obtain ⟨o,e,c,d⟩:=id st'
  exact ⟨u,rfl,Hx (s:={ s with heap:=h' }) e c d (by decide) ⟨x,H,I1,ru,⟨rfl,fun ys hy=>by rw [I.tuple_inj hy hq]; exact hx⟩,st',fun b hb=>(hf b hb).1⟩⟩
 done:=by
  intro X hP hw hK hc i pins s σ H E I hf st hg
  subst hP hw hK
  obtain ⟨xs,hq,hx⟩:=hg
  obtain ⟨its,rv,p,hz⟩:=I.tuple hq
  obtain ⟨f0,f1,f2,f3,f4,f5⟩:=hf it (by simp)
  have hl:=rv.length
  exact wpAny_pyNext_tuple_end (I.ok.hd hc) st (show s.heap.IsTuple a its.toArray from p) (by simp; omega) fun h' eb=>⟨rfl,I.turned (t':=s.toks) (fun b o hb e=>eb b o hb e) f0 f1 f3 f4 f5⟩
 self:=fun _ _ _ _ _ st h=>wpAny_pyIter_tupleiter st h
theorem JZ {P:Program} {w:World} {K:PySem.W.Frag} {tg:Expr} (it:Addr) (lo:Int) (n:Nat):Turn P w K tg (Itr lo n) [it] it (fun i h=>IsRangeIter h it (lo + (i:Nat) * 1) ((n:Int) - (i:Nat)) 1) where
 mem:=by simp
 obj:=fun i h st b hb=>by
  have e:b=it:=by simpa using hb
  subst e
  exact ⟨_,st,fun v z=>by
   have z':Data.fields _=Data.cell v:=z
   cases z'⟩
 keep:=fun i h h' st k=>k it (by simp) _ st
 item:=by
  intro X hP hw hK hc i pins s σ H E I hf st hg
  subst hP hw hK
  obtain ⟨f0,f1,f2,f3,f4,f5⟩:=hf it (by simp)
  have W:=Walks.range (prog:=X.prog) (w:=X.w) (I.ok.hd hc) it lo 1 n
  refine W.item i s _ _ hg st fun v h' tk hv st' kk=>?_
  obtain ⟨t,rfl⟩:=hv
  have I1:Inv X pins σ H { s with heap:=h',toks:=tk }:=I.turned (fun b o hb e=>kk b o (by simpa using hb) e) f0 f1 f3 f4 f5
  refine ⟨_,rfl,Hx (s:={ s with heap:=h',toks:=tk }) (n := "range_iterator") st' rfl rfl (by decide) ⟨.int (lo + i),H,I1,⟨t,?_⟩,⟨rfl,rfl⟩,st',fun b hb=>(hf b hb).1⟩⟩
  rw [Int.mul_one]
 done:=by
  intro X hP hw hK hc i pins s σ H E I hf st hg
  subst hP hw hK
  obtain ⟨f0,f1,f2,f3,f4,f5⟩:=hf it (by simp)
  exact wpAny_pyNext_range_end (I.ok.hd hc) st (by have:n<=i:=hg; omega) fun h' eb=>⟨rfl,I.turned (t':=s.toks) (fun b o hb e=>eb b o hb e) f0 f1 f3 f4 f5⟩
 self:=fun _ _ _ _ _ st h=>wpAny_pyIter_rangeiter st h
section
variable {X:Cx} {tg:Expr}
theorem HF {pins:List (Addr × Obj)} {σ:St} {H:Hp} {s:Shared} {R:It->Hp->Prop} {E:Value->Shared->Prop} {lo hi:Int} {t u v:Tok} {tk:Nat} (I:Inv X pins σ H s) (h1:-(2 ^ 62)<=lo) (h2:lo < 2 ^ 62) (h3:-(2 ^ 62)<=hi) (h4:hi < 2 ^ 62)
  (q:R (Itr lo (hi - lo).toNat) H):wpAny (model X.prog X.w) X.A (pyIter (.ref s.heap.objs.size)) (PIE X pins σ tg R) E { s with heap:=s.heap.push { cls:=.type "range",data:=.fields #[.int lo t,.int hi u,.int 1 v] },toks:=tk }:=by
 refine wpAny_pyIter_range (IsRange.new ..) (small_one h1 h2 h3 h4) ?_
 have I1:Inv X pins σ H { s with heap:=s.heap.push { cls:=.type "range",data:=.fields #[.int lo t,.int hi u,.int 1 v] },toks:=tk }:=I.kept fun b o e=>Heap.get?_push_of_some _ e
 refine ⟨(s.heap.push { cls:=.type "range",data:=.fields #[.int lo t,.int hi u,.int 1 v] }).objs.size,[(s.heap.push { cls:=.type "range",data:=.fields #[.int lo t,.int hi u,.int 1 v] }).objs.size],_,_,H,rfl,
  I1.kept (t':=tk) fun b o e=>Heap.get?_push_of_some _ e,JZ _ lo (hi - lo).toNat,?_,fun b hb=>?_,q⟩
 ·have e1:lo + ((0:Nat):Int) * 1=lo:=by simp
  have e2:(((hi - lo).toNat:Nat):Int) - ((0:Nat):Int)=Builtin.Range.rangeSize lo hi 1:=by rw [rangeSize_one]; split <;> omega
  show IsRangeIter _ _ (lo + ((0:Nat):Int) * 1) ((((hi - lo).toNat:Nat):Int) - ((0:Nat):Int)) 1
  rw [e1,e2]
  exact Heap.get?_push_size _ rfl
 ·have e:b=(s.heap.push { cls:=.type "range",data:=.fields #[.int lo t,.int hi u,.int 1 v] }).objs.size:=by simpa using hb
  subst e
  exact I1.fpOk (aan _) (I1.hok.fresh (aan _))
noncomputable def RS (ta:TA):TI:=fun σ H R=>ta σ H fun vs H1=>∃ j:Int,vs=[.int j]/\-(2 ^ 62)<=j/\j < 2 ^ 62/\R (Itr 0 j.toNat) H1
noncomputable def RT (ta:TA):TI:=fun σ H R=>ta σ H fun vs H1=>∃ i j:Int,vs=[.int i,.int j]/\(-(2 ^ 62)<=i/\i < 2 ^ 62/\-(2 ^ 62)<=j/\j < 2 ^ 62)/\R (Itr i (j - i).toNat) H1
theorem K5 {a:Expr} {ta:TA} {p pos:Pos} (hg:Gl X "range") (hm:X.mg "range" = none) (ha:PA X [a] ta) (hs:starEach [a] X.env=[(false,eval a X.env)]:=by rfl):PI X tg (.Call (.Name "range" p) [a] [] pos) (RS ta):=by
 intro pins s σ H R I h
 refine Call_ (DV I hg hm boot_range (PyProof.Rows.callWith_type1 (thn (ha pos pins s σ H _ I h) fun us s1 ⟨vs,H1,I1,r1,q1⟩=>?_) hs rfl))
 obtain ⟨j,e,q1,q2,q⟩:=q1
 subst e
 cases r1 with
 | cons r rr =>
  cases rr
  obtain ⟨t,rfl⟩:=r
  exact call_range_1 (HF I1 (by omega) (by omega) q1 q2 (by simpa using q))
theorem K6 {a b:Expr} {ta:TA} {p pos:Pos} (hg:Gl X "range") (hm:X.mg "range" = none) (ha:PA X [a,b] ta) (hs:starEach [a,b] X.env=[(false,eval a X.env),(false,eval b X.env)]:=by rfl) (hs2:starEach [b] X.env=[(false,eval b X.env)]:=by rfl) :
  PI X tg (.Call (.Name "range" p) [a,b] [] pos) (RT ta):=by
 intro pins s σ H R I h
 refine Call_ (DV I hg hm boot_range (PyProof.Rows.callWith_type1 (thn (ha pos pins s σ H _ I h) fun us s1 ⟨vs,H1,I1,r1,q1⟩=>?_) (by rw [hs,hs2]) (by rw [hs2]; rfl)))
 obtain ⟨i,j,e,⟨q1,q2,q3,q4⟩,q⟩:=q1
 subst e
 cases r1 with
 | cons r rr =>
  cases rr with
  | cons r' rr =>
   cases rr
   obtain ⟨t,rfl⟩:=r
   obtain ⟨t',rfl⟩:=r'
   exact call_range_2 (HF I1 q1 q2 q3 q4 q)
noncomputable def Qi (wi:TI) (g:TG) (tb:TS):TS:=fun D σ H=>wi σ H fun J H1=>∃ W:Nat->Nat->St->Hp->Prop,(∃ m,W 0 m σ H1)/\∀ i m σ H,W i m σ H ->
 (J.stop i H/\D.nx σ H)\/(J.go i H/\∃ N:St->Hp->Prop,(∀ σ' H',N σ' H'->∃ m',m' < m/\W (i + 1) m' σ' H')/\∀ x H',J.yld i H x H'->g x σ H' fun σ2 H2=>tb { D with nx:=N,ct:=N,bk:=D.nx } σ2 H2)
noncomputable def Et (fp:List Addr) (h:Heap):List (Addr × Obj):=fp.filterMap fun b=>(h.get? b).map fun o=>(b,o)
theorem BV {fp:List Addr} {h:Heap} {b:Addr} {o:Obj} (hb:b ∈ fp) (e:h.get? b=some o):(b,o) ∈ Et fp h:=aaP.mpr ⟨b,hb,by rw [e]; rfl⟩
theorem K7 {fp:List Addr} {h:Heap} {p:Addr × Obj} (hp:p ∈ Et fp h):p.1 ∈ fp/\h.get? p.1=some p.2:=by
 obtain ⟨b,hb,e⟩:=aaP.mp hp
 cases q:h.get? b with
 | none=>rw [q] at e; cases e
 | some o =>
  rw [q] at e
  have e':(b,o)=p:=Option.some.inj e
  subst e'
  exact ⟨hb,q⟩
theorem Inv.pinned {pins:List (Addr × Obj)} {σ:St} {H:Hp} {s:Shared} {fp:List Addr} (I:Inv X pins σ H s) (hf:∀ b ∈ fp,FpOk X pins H b) (ho:∀ b ∈ fp,∃ o,s.heap.get? b=some o/\∀ v,o.data ≠ .cell v):Inv X (pins ++ Et fp s.heap) σ H s :=
 I.pins_of fun p hp=>(aaf.mp hp).elim (fun z=>I.pin p (aag _ z)) fun z=>by
  obtain ⟨hb,e⟩:=K7 z
  obtain ⟨f0,f1,f2,_⟩:=hf p.1 hb
  obtain ⟨o,e',d⟩:=ho p.1 hb
  rw [e] at e'; cases e'
  exact ⟨e,f0,f1,f2,d⟩
theorem Inv.unpinned {pins pl:List (Addr × Obj)} {σ:St} {H:Hp} {s:Shared} (I:Inv X (pins ++ pl) σ H s):Inv X pins σ H s:=I.pins_of fun p hp=>I.pin p (aag _ (aam _ hp))
theorem K8 {iter:Expr} {body:List Stmt} {wi:TI} {g:TG} {tb:TS} {pos:Pos} (hp:PassesOwn (model X.prog X.w) X.A X.env X.xe) (hc:X.calm=true) (hi:PI X tg iter wi) (hg:PG X tg g) (hb:PSs X body tb)
  (hs:∀ x,foldedSetIterable iter X.env x=pure x:=by intro _; rfl):PS X (.For tg iter body [] pos) (Qi wi g tb):=by
 intro pins s σ H D I h
 refine wpAny_For (thn (hi pins s σ H _ I h) fun v s1 h1=>thn h1 fun itv s2 h2=>?_) hs
 obtain ⟨it,fp,tn,J,H2,e,I2,T,st2,f2,W,⟨m0,w0⟩,turn⟩:=h2
 subst e
 have stat:∀ {H':Hp},(∀ b ∈ fp,H' b=none)->∀ b ∈ fp,FpOk X pins H' b:=fun hn b hb=>⟨hn b hb,(f2 b hb).2⟩
 refine codeAny_forLoop_any (fun n s'=>∃ i σ' H',Inv X pins σ' H' s'/\tn i s'.heap/\(∀ b ∈ fp,H' b=none)/\W i n σ' H') ?_ m0 ⟨0,σ,H2,I2,st2,fun b hb=>(f2 b hb).1,w0⟩
 rintro n s3 ⟨i,σ3,H3,I3,st3,fr3,w3⟩
 rcases turn i n σ3 H3 w3 with ⟨stop,qn⟩ | ⟨go,N,hN,step⟩
 ·refine wpAny_passesOwn hp (thn (T.done X rfl rfl rfl hc i pins s3 σ3 H3 X.xe I3 (stat fr3) st3 stop) fun r s4 ⟨hr,I4⟩=>?_)
  subst hr
  exact wpAny_execs_nil ⟨σ3,H3,I4,qn⟩
 ·refine wpAny_passesOwn hp (thn (T.item X rfl rfl rfl hc i pins s3 σ3 H3 X.xe I3 (stat fr3) st3 go) fun r s4 ⟨u,hr,h4⟩=>?_)
  subst hr
  refine wpAny_passesOwn hp (thn h4 fun _ s5 ⟨x,H5,I5,r5,y5,st5,fr5⟩=>?_)
  have I5':=I5.pinned (stat fr5) (T.obj _ _ st5)
  refine wpAny_passesOwn hp (thn (hg _ s5 σ3 H5 x u _ I5' r5 (step x H5 y5)) fun _ s6 ⟨σ6,H6,I6,q6⟩=>?_)
  refine wpAny_passesOwn hp (thn (hb _ s6 σ6 H6 _ I6 q6) fun f s7 q7=>?_)
  have again:∀ {σ7:St} {H7:Hp},Inv X (pins ++ Et fp s5.heap) σ7 H7 s7->N σ7 H7->∃ m,m < n/\∃ i σ' H',Inv X pins σ' H' s7/\tn i s7.heap/\(∀ b ∈ fp,H' b=none)/\W i m σ' H':=fun {σ7 H7} I7 n7=>by
   obtain ⟨m',hm,w7⟩:=hN σ7 H7 n7
   refine ⟨m',hm,i + 1,σ7,H7,I7.unpinned,T.keep _ _ _ st5 fun b hb o e=>(I7.pin (b,o) (aag _ (aag _ (BV hb e)))).1,fun b hb=>?_,w7⟩
   obtain ⟨o,e,d⟩:=T.obj _ _ st5 b hb
   exact (I7.pin (b,o) (aag _ (aag _ (BV hb e)))).2.1
  cases f with
  | next=>obtain ⟨σ7,H7,I7,n7⟩:=q7; exact again I7 n7
  | cont=>obtain ⟨σ7,H7,I7,n7⟩:=q7; exact again I7 n7
  | brk=>obtain ⟨σ7,H7,I7,q7⟩:=q7; exact ⟨σ7,H7,I7.unpinned,q7⟩
  | ret v=>obtain ⟨x7,σ7,H7,I7,r7,q7⟩:=q7; exact ⟨x7,σ7,H7,I7.unpinned,r7,q7⟩
end
noncomputable abbrev R2:=V->V->Hp->VK->Prop
noncomputable def OpR (X:Cx) (f:Value->Value->Sem Value) (r:R2):Prop :=
 ∀ (pins:List (Addr × Obj)) (s:Shared) (σ:St) (H:Hp) (x y:V) (v u:Value) (Q:VK),Inv X pins σ H s->RelV x v->RelV y u->r x y H Q ->
  wpAny (model X.prog X.w) X.A (f v u) (EP X pins σ Q) X.xe s
noncomputable def UnR (X:Cx) (f:Value->Sem Value) (r:V->Hp->VK->Prop):Prop :=
 ∀ (pins:List (Addr × Obj)) (s:Shared) (σ:St) (H:Hp) (x:V) (v:Value) (Q:VK),Inv X pins σ H s->RelV x v->r x H Q ->
  wpAny (model X.prog X.w) X.A (f v) (EP X pins σ Q) X.xe s
noncomputable def DA (X:Cx) (f:Value) (r:List V->Hp->VK->Prop):Prop :=
 ∀ (pins:List (Addr × Obj)) (s:Shared) (σ:St) (H:Hp) (xs:List V) (us:List Value) (Q:VK),Inv X pins σ H s->Vals xs us->r xs H Q ->
  wpAny (model X.prog X.w) X.A (call f us) (EP X pins σ Q) X.xe s
noncomputable def SK (X:Cx) (r:V->Hp->(Bool->Hp->Prop)->Prop):Prop :=
 ∀ (pins:List (Addr × Obj)) (s:Shared) (σ:St) (H:Hp) (x:V) (v:Value) (Q:Bool->Hp->Prop),Inv X pins σ H s->RelV x v->r x H Q ->
  wpAny (model X.prog X.w) X.A (truthy v) (TP X pins σ Q) X.xe s
noncomputable def tOp (r:R2) (ta tb:TE):TE:=fun σ H Q=>ta σ H fun x H1=>tb σ H1 fun y H2=>r x y H2 Q
noncomputable def tUn (r:V->Hp->VK->Prop) (ta:TE):TE:=fun σ H Q=>ta σ H fun x H1=>r x H1 Q
noncomputable def rI (C:Int->Int->Prop) (g:Int->Int->V):R2:=fun x y H Q=>∃ i j,x=.int i/\y=.int j/\C i j/\Q (g i j) H
noncomputable def rI0 (g:Int->Int->V):R2:=fun x y H Q=>∃ i j,x=.int i/\y=.int j/\Q (g i j) H
noncomputable def rU (g:Int->V):V->Hp->VK->Prop:=fun x H Q=>∃ i,x=.int i/\Q (g i) H
section
variable {X:Cx} {a b c:Expr} {ta tb tc:TE} {pos:Pos}
theorem Mv (ha:PE X a ta) (hb:PE X b tb) {pins:List (Addr × Obj)} {s:Shared} {σ:St} {H:Hp} {R:V->V->Hp->Prop} (I:Inv X pins σ H s)
  (h:ta σ H fun x H1=>tb σ H1 fun y H2=>R x y H2) {Q:Value->Shared->Prop} {f:Value->Value->Sem Value}
  (hf:∀ v u s2 x y H2,Inv X pins σ H2 s2->RelV x v->RelV y u->R x y H2->wpAny (model X.prog X.w) X.A (f v u) Q X.xe s2) :
  wpAny (model X.prog X.w) X.A (eval a X.env) (fun v s₁=>wpAny (model X.prog X.w) X.A (eval b X.env) (fun u s₂=>wpAny (model X.prog X.w) X.A (f v u) Q X.xe s₂) X.xe s₁) X.xe s:=by
 refine thn (ha pins s σ H _ I h) fun v s1 ⟨x,H1,I1,r1,q1⟩=>?_
 refine thn (hb pins s1 σ H1 _ I1 q1) fun u s2 ⟨y,H2,I2,r2,q2⟩=>?_
 exact hf v u s2 x y H2 I2 r1 r2 q2
theorem RU {op:Operator} {r:R2} (ho:OpR X (binaryOp op) r) (ha:PE X a ta) (hb:PE X b tb):PE X (.BinOp a op b pos) (tOp r ta tb):=by
 intro pins s σ H Q I h
 exact wpAny_BinOp (Mv ha hb I h fun v u s2 x y H2 I2 rx ry q=>ho pins s2 σ H2 x y v u Q I2 rx ry q)
theorem RV {op:UnaryOp} {r:V->Hp->VK->Prop} (ho:UnR X (unaryOp op) r) (ha:PE X a ta):PE X (.UnaryOp op a pos) (tUn r ta):=by
 intro pins s σ H Q I h
 exact UnaryOp_ (thn (ha pins s σ H _ I h) fun v s1 ⟨x,H1,I1,r1,q1⟩=>ho pins s1 σ H1 x v Q I1 r1 q1)
theorem opI {f:Value->Value->Sem Value} {C:Int->Int->Prop} {g:Int->Int->Int}
  (rule:∀ (i j:Int) (t u:Tok) (s:Shared) (Q:Value->Shared->Prop) (E:Value->Shared->Prop),C i j->Q (.int (g i j) s.toks) { s with toks:=s.toks + 1 }->wpAny (model X.prog X.w) X.A (f (.int i t) (.int j u)) Q E s) :
  OpR X f (rI C fun i j=>.int (g i j)):=by
 intro pins s σ H x y v u Q I rx ry h
 obtain ⟨i,j,rfl,rfl,hc,q⟩:=h
 obtain ⟨t,rfl⟩:=rx
 obtain ⟨t',rfl⟩:=ry
 exact rule i j t t' s _ _ hc ⟨.int (g i j),H,I.tok _,⟨_,rfl⟩,q⟩
theorem Qj {f:Value->Value->Sem Value} {g:Int->Int->Int}
  (rule:∀ (i j:Int) (t u:Tok) (s:Shared) (Q:Value->Shared->Prop) (E:Value->Shared->Prop),Q (.int (g i j) s.toks) { s with toks:=s.toks + 1 }->wpAny (model X.prog X.w) X.A (f (.int i t) (.int j u)) Q E s) :
  OpR X f (rI0 fun i j=>.int (g i j)):=by
 intro pins s σ H x y v u Q I rx ry h
 obtain ⟨i,j,rfl,rfl,q⟩:=h
 obtain ⟨t,rfl⟩:=rx
 obtain ⟨t',rfl⟩:=ry
 exact rule i j t t' s _ _ ⟨.int (g i j),H,I.tok _,⟨_,rfl⟩,q⟩
theorem J0 {f:Value->Value->Sem Value} {g:Int->Int->Bool}
  (rule:∀ (i j:Int) (t u:Tok) (s:Shared) (Q:Value->Shared->Prop) (E:Value->Shared->Prop),Q (.bool (g i j)) s->wpAny (model X.prog X.w) X.A (f (.int i t) (.int j u)) Q E s) :
  OpR X f (rI0 fun i j=>.bl (g i j)):=by
 intro pins s σ H x y v u Q I rx ry h
 obtain ⟨i,j,rfl,rfl,q⟩:=h
 obtain ⟨t,rfl⟩:=rx
 obtain ⟨t',rfl⟩:=ry
 exact rule i j t t' s _ _ ⟨.bl (g i j),H,I,rfl,q⟩
noncomputable def Qk (i j:Int):Prop:=0<=j/\j<=1000000/\i.natAbs < 2 ^ 64
noncomputable def CMul (i j:Int):Prop:=(-(2 ^ 64) < i/\i < 2 ^ 64)\/(-(2 ^ 64) < j/\j < 2 ^ 64)
theorem CMul.ok {i j:Int} (h:CMul i j):IntMulOk i j:=by
 rcases h with ⟨h1,h2⟩ | ⟨h1,h2⟩
 ·exact .of_left (intBits_le_64 h1 h2)
 ·exact .of_right (intBits_le_64 h1 h2)
theorem Ql:OpR X (binaryOp .Add) (rI0 fun i j=>.int (i + j)):=Qj fun _ _ _ _ _ _ _ q=>add_int q
theorem Qm:OpR X (binaryOp .Sub) (rI0 fun i j=>.int (i - j)):=Qj fun _ _ _ _ _ _ _ q=>sub_int q
theorem Qn:OpR X (binaryOp .Mod) (rI (fun _ j=>0 < j) fun i j=>.int (i % j)):=opI fun i j _ _ _ _ _ hc q=>by
 have h1:(0:Int) < j:=hc
 exact mod_int' (by omega) (by rw [Int.fmod_eq_emod_of_nonneg i (by omega)]; exact q)
theorem Qo:OpR X (binaryOp .Pow) (rI Qk fun i j=>.int (i ^ j.toNat)):=opI fun _ _ _ _ _ _ _ hc q=>pow_int_small hc.1 hc.2.1 hc.2.2 q
theorem unI {f:Value->Sem Value} {g:Int->Int}
  (rule:∀ (i:Int) (t:Tok) (s:Shared) (Q:Value->Shared->Prop) (E:Value->Shared->Prop),Q (.int (g i) s.toks) { s with toks:=s.toks + 1 }->wpAny (model X.prog X.w) X.A (f (.int i t)) Q E s) :
  UnR X f (rU fun i=>.int (g i)):=by
 intro pins s σ H x v Q I rx h
 obtain ⟨i,rfl,q⟩:=h
 obtain ⟨t,rfl⟩:=rx
 exact rule i t s _ _ ⟨.int (g i),H,I.tok _,⟨_,rfl⟩,q⟩
theorem Qp:UnR X (unaryOp .USub) (rU fun i=>.int (-i)):=unI fun _ _ _ _ _ q=>neg_int q
end
section
variable {X:Cx} {a b c:Expr} {ta tb tc:TE} {pos:Pos}
theorem RW:OpR X (compareOp .Lt) (rI0 fun i j=>.bl (decide (i < j))):=J0 fun _ _ _ _ _ _ _ q=>lt_int q
theorem RX:OpR X (compareOp .LtE) (rI0 fun i j=>.bl (decide (i<=j))):=J0 fun _ _ _ _ _ _ _ q=>le_int q
theorem RY:OpR X (compareOp .Gt) (rI0 fun i j=>.bl (decide (j < i))):=J0 fun _ _ _ _ _ _ _ q=>gt_int q
theorem RZ:OpR X (compareOp .GtE) (rI0 fun i j=>.bl (decide (j<=i))):=J0 fun _ _ _ _ _ _ _ q=>ge_int q
theorem OpR.or {f:Value->Value->Sem Value} {r r':R2} (h:OpR X f r) (h':OpR X f r'):OpR X f (fun x y H Q=>r x y H Q\/r' x y H Q):=by
 intro pins s σ H x y v u Q I rx ry q
 rcases q with q | q
 ·exact h pins s σ H x y v u Q I rx ry q
 ·exact h' pins s σ H x y v u Q I rx ry q
theorem Od {op:CmpOp} {r:R2} (ho:OpR X (compareOp op) r) (ha:PE X a ta) (hb:PE X b tb) (hm:behindInMarks op b=false):PE X (.Compare a [op] [b] pos) (tOp r ta tb):=by
 intro pins s σ H Q I h
 exact wpAny_Compare1 (Mv ha hb I h fun v u s2 x y H2 I2 rx ry q=>ho pins s2 σ H2 x y v u Q I2 rx ry q) hm
noncomputable def NR (t:TE):TT:=fun σ H Q=>t σ H fun x H'=>∃ k,x=.bl k/\Q k H'
theorem Oe {op:CmpOp} {r:R2} (ho:OpR X (compareOp op) r) (ha:PE X a ta) (hb:PE X b tb) (hm:behindInMarks op b=false):PT X (.Compare a [op] [b] pos) (NR (tOp r ta tb)):=by
 intro pins s σ H Q I h
 refine wpAny_isTrue_Compare1 (thn (ha pins s σ H _ I h) fun v s1 ⟨x,H1,I1,r1,q1⟩=>thn (hb pins s1 σ H1 _ I1 q1) fun u s2 ⟨y,H2,I2,r2,q2⟩ =>
  thn (ho pins s2 σ H2 x y v u _ I2 r1 r2 q2) fun c s3 ⟨z,H3,I3,r3,k,e,q3⟩=>?_) hm
 subst e
 cases r3
 exact wpAny_truthy_bool ⟨H3,I3,q3⟩
noncomputable def HG (r r':R2) (ta tb tc:TE):TE:=fun σ H Q=>ta σ H fun x H1=>tb σ H1 fun y H2=>r x y H2 fun z H3=>∃ k,z=.bl k /\
 (if k=true then tc σ H3 fun w' H4=>r' y w' H4 Q else Q (.bl false) H3)
theorem Mw {op op':CmpOp} {r r':R2} (ho:OpR X (compareOp op) r) (ho':OpR X (compareOp op') r') (ha:PE X a ta) (hb:PE X b tb) (hc:PE X c tc)
  (hm:lastMarks [op,op'] [b,c]=false:=by with_unfolding_all rfl):PE X (.Compare a [op,op'] [b,c] pos) (HG r r' ta tb tc):=by
 intro pins s σ H Q I h
 refine Compare_chain (thn (ha pins s σ H _ I h) fun v s1 ⟨x,H1,I1,r1,q1⟩=>chain_link (thn (hb pins s1 σ H1 _ I1 q1) fun u s2 ⟨y,H2,I2,r2,q2⟩ =>
  thn (ho pins s2 σ H2 x y v u _ I2 r1 r2 q2) fun d s3 ⟨z,H3,I3,r3,k,e,q3⟩=>?_)) hm
 subst e
 cases r3
 refine wpAny_truthy_bool ?_
 cases k with
 | false=>exact ite_ff ⟨.bl false,H3,I3,rfl,q3⟩
 | true=>exact ite_tt (chain_last (thn (hc pins s3 σ H3 _ I3 q3) fun w' s4 ⟨z',H4,I4,r4,q4⟩=>ho' pins s4 σ H4 y z' u w' Q I4 r2 r4 q4))
theorem Mx {op op':CmpOp} {r r':R2} (ho:OpR X (compareOp op) r) (ho':OpR X (compareOp op') r') (ha:PE X a ta) (hb:PE X b tb) (hc:PE X c tc)
  (hm:lastMarks [op,op'] [b,c]=false:=by with_unfolding_all rfl):PT X (.Compare a [op,op'] [b,c] pos) (NR (HG r r' ta tb tc)):=by
 intro pins s σ H Q I h
 refine isTrue_chain (thn (ha pins s σ H _ I h) fun v s1 ⟨x,H1,I1,r1,q1⟩=>test_link (thn (hb pins s1 σ H1 _ I1 q1) fun u s2 ⟨y,H2,I2,r2,q2⟩ =>
  thn (ho pins s2 σ H2 x y v u _ I2 r1 r2 q2) fun d s3 ⟨z,H3,I3,r3,k,e,q3⟩=>?_)) hm
 subst e
 cases r3
 refine wpAny_truthy_bool ?_
 cases k with
 | false =>
  obtain ⟨k',e',q'⟩:=q3
  cases e'
  exact ite_ff ⟨H3,I3,q'⟩
 | true =>
  refine ite_tt (test_last (thn (hc pins s3 σ H3 _ I3 q3) fun w' s4 ⟨z',H4,I4,r4,q4⟩=>thn (ho' pins s4 σ H4 y z' u w' _ I4 r2 r4 q4) fun d' s5 ⟨z2,H5,I5,r5,k2,e2,q5⟩=>?_))
  subst e2
  cases r5
  exact wpAny_truthy_bool ⟨H5,I5,q5⟩
noncomputable def My (K:PySem.W.Frag) (x:V) (H:Hp) (k:Bool):Prop :=
 match x with
 | .non=>k=false
 | .bl b=>k=b
 | .int i=>k=(i != 0)
 | .str y=>y.length<=sizeLine/\k=((y.length:Int) != 0)
 | .byt y=>y.size<=sizeLine/\k=((y.size:Int) != 0)
 | .ref p=>(∃ xs,SqL K H p xs/\k=!xs.isEmpty)\/(∃ xs,SqT K H p xs/\k=!xs.isEmpty)\/∃ kvs,H p=some (.dK kvs)/\k=!kvs.isEmpty
 | _=>False
theorem J1 {κ:Type} {kvs:List (κ × V)} {vs:List (κ × Value)} (r:KV kvs vs):(!vs.isEmpty)=!kvs.isEmpty:=by
 cases r <;> rfl
theorem Gj {xs:List V} {its:List Value} (r:Vals xs its):(!its.toArray.isEmpty)=!xs.isEmpty:=by
 cases r <;> simp
theorem EW:(sizeLine:Nat) < 2 ^ 63:=by rw [sizeLine_eq]; decide
theorem Qq:SK X (fun x H Q=>∃ k,My X.K x H k/\Q k H):=by
 intro pins s σ H x v Q I rx h
 obtain ⟨k,e,q⟩:=h
 have hl:=EW
 have hs:sizeLine=16777216:=sizeLine_eq
 cases x with
 | non =>
  cases rx
  have e':k=false:=e
  subst e'
  exact truthy_none ⟨H,I,q⟩
 | bl b =>
  cases rx
  have e':k=b:=e
  subst e'
  exact wpAny_truthy_bool ⟨H,I,q⟩
 | int i =>
  obtain ⟨t,rfl⟩:=rx
  have e':k=(i != 0):=e
  subst e'
  exact PySem.P.truthy_int ⟨H,I,q⟩
 | str y =>
  obtain ⟨t,rfl⟩:=rx
  obtain ⟨hy,e'⟩:y.length<=sizeLine/\k=((y.length:Int) != 0):=e
  subst e'
  exact PySem.P.truthy_str (by omega) ⟨H,I.tok _,q⟩
 | byt y =>
  obtain ⟨t,rfl⟩:=rx
  obtain ⟨hy,e'⟩:y.size<=sizeLine/\k=((y.size:Int) != 0):=e
  subst e'
  exact PySem.W.truthy_bytes (by omega) ⟨H,I.tok _,q⟩
 | ref p =>
  cases rx
  have e':(∃ xs,SqL X.K H p xs/\k=!xs.isEmpty)\/(∃ xs,SqT X.K H p xs/\k=!xs.isEmpty)\/∃ kvs,H p=some (.dK kvs)/\k=!kvs.isEmpty:=e
  rcases e' with ⟨xs,hx,e'⟩ | ⟨xs,hx,e'⟩ | ⟨kvs,hx,e'⟩
  ·subst e'
   obtain ⟨its,r,pl,hz⟩:=I.list hx
   have hlen:=r.length
   exact wpAny_truthy_list pl.isList (by simp only [aas]; omega) ⟨H,I.tok _,by rw [Gj r]; exact q⟩
  ·subst e'
   obtain ⟨its,r,pl,hz⟩:=I.tuple hx
   have hlen:=r.length
   exact truthy_tuple pl (by simp only [aas]; omega) ⟨H,I.tok _,by rw [Gj r]; exact q⟩
  ·subst e'
   obtain ⟨hz,hS,vs,r,m⟩:kvs.length<=sizeLine/\(p==sysModules)=false/\∃ vs,KV kvs vs/\s.heap.DictOf (GP X.prog X.w) p vs:=I.hok p _ hx
   have hlen:kvs.length=vs.length:=Paired.length r
   exact wpAny_truthy_dict hS m (by omega) ⟨H,I.tok _,by rw [J1 r]; exact q⟩
 | _=>exact nE e
theorem Mz (ha:PE X a ta) (he:∀ whole,isTrue a X.env whole=(do let v <- whole; standAt a.pos; holding [v] (truthy v))) :
  PT X a (fun σ H Q=>ta σ H fun x H'=>∃ k,My X.K x H' k/\Q k H'):=by
 intro pins s σ H Q I h
 exact isTrue_plain (thn (ha pins s σ H _ I h) fun v s1 ⟨x,H1,I1,r1,q1⟩=>Qq pins s1 σ H1 x v Q I1 r1 q1) (he _)
theorem J2:OpR X (binaryOp .Add) (fun x y H Q=>∃ i j,x=.str i/\y=.str j/\i.length + j.length<=sizeLine/\Q (.str (i ++ j)) H):=by
 intro pins s σ H x y v u Q I rx ry h
 obtain ⟨i,j,rfl,rfl,hz,q⟩:=h
 obtain ⟨t,rfl⟩:=rx
 obtain ⟨t',rfl⟩:=ry
 exact add_str (fun t' tk=>⟨.str (i ++ j),H,I.tok _,⟨_,rfl⟩,q⟩) hz
theorem Gk {x:V} {us:List Value} (r:Vals [x] us):∃ u,us=[u]/\RelV x u:=by
 cases r with
 | cons r1 r2=>cases r2; exact ⟨_,rfl,r1⟩
theorem J3 {x y:V} {us:List Value} (r:Vals [x,y] us):∃ u w',us=[u,w']/\RelV x u/\RelV y w':=by
 cases r with
 | cons r1 r2 =>
  cases r2 with
  | cons r3 r4=>cases r4; exact ⟨_,_,rfl,r1,r3⟩
theorem La (hc:X.calm=true):DA X (.builtin "max") (fun xs H Q=>∃ i j,xs=[.int i,.int j]/\Q (.int (if j > i then j else i)) H):=by
 intro pins s σ H xs us Q I r h
 obtain ⟨i,j,rfl,q⟩:=h
 obtain ⟨u,w',rfl,⟨t,rfl⟩,⟨t',rfl⟩⟩:=J3 r
 refine max_two_ints (I.ok.hd hc) fun h' tk k=>⟨_,H,I.kept k,?_,q⟩
 by_cases hj:j > i
 ·rw [if_pos hj,if_pos hj]; exact ⟨_,rfl⟩
 ·rw [if_neg hj,if_neg hj]; exact ⟨_,rfl⟩
theorem Lb (hc:X.calm=true):DA X (.builtin "min") (fun xs H Q=>∃ i j,xs=[.int i,.int j]/\Q (.int (if j < i then j else i)) H):=by
 intro pins s σ H xs us Q I r h
 obtain ⟨i,j,rfl,q⟩:=h
 obtain ⟨u,w',rfl,⟨t,rfl⟩,⟨t',rfl⟩⟩:=J3 r
 refine min_two_ints (I.ok.hd hc) fun h' tk k=>⟨_,H,I.kept k,?_,q⟩
 by_cases hj:j < i
 ·rw [if_pos hj,if_pos hj]; exact ⟨_,rfl⟩
 ·rw [if_neg hj,if_neg hj]; exact ⟨_,rfl⟩
theorem Lc:DA X (.type "int") (fun xs H Q=>(∃ i,xs=[.int i]/\Q (.int i) H)\/∃ k,xs=[.bl k]/\Q (.int (if k then 1 else 0)) H):=by
 intro pins s σ H xs us Q I r h
 rcases h with ⟨i,rfl,q⟩ | ⟨k,rfl,q⟩
 ·obtain ⟨u,rfl,t,rfl⟩:=Gk r
  exact call_int_int ⟨.int i,H,I,⟨_,rfl⟩,q⟩
 ·obtain ⟨u,rfl,r1⟩:=Gk r
  cases r1
  exact call_int_bool ⟨.int (if k then 1 else 0),H,I.tok _,⟨_,rfl⟩,q⟩
end
structure ObjM (h:Heap) (x dx C:Addr) (mA:Str->Option Value):Prop where
 obj:h.get? x=some (PySem.W.instObj C dx)
 ns:h.Ns1 dx mA
 ne:dx ≠ x
theorem Ld {h:Heap} {dx:Addr} {mA:Str->Option Value} (n:h.Ns1 dx mA):∃ od,h.get? dx=some od/\∀ name,PySem.W.lookIn name od=some (mA name):=by
 obtain ⟨o,es,ep,ho,hd,hk,_,hm⟩:=n
 refine ⟨o,ho,fun name=>?_⟩
 have e:=hm name
 unfold nsFind findBy at e
 rw [<- Array.find?_toList] at e
 unfold PySem.W.lookIn
 rw [hd]
 dsimp only
 split
 ·rename_i y q
  rw [q] at e
  exact congrArg some e
 ·rename_i q
  rw [q] at e
  have a:es.toList.any (·.refKey)=false:=by
   rw [List.any_eq_false]
   intro y hy
   obtain ⟨z,t,hkey⟩:=hk y (Array.mem_toList_iff.mp hy)
   simp [DictEntry.refKey,hkey]
  have a':¬ es.toList.any (·.refKey)=true:=by rw [a]; exact abt
  rw [if_neg a']
  exact congrArg some e
theorem ObjM.look {h:Heap} {x dx C:Addr} {mA:Str->Option Value} (I:ObjM h x dx C mA):∃ od,PySem.W.InstAt h x (PySem.W.instObj C dx) C (some od)/\∀ name,PySem.W.lookIn name od=some (mA name) :=
 let ⟨od,ho,hl⟩:=Ld I.ns
 ⟨od,⟨I.obj,rfl,rfl,ho⟩,hl⟩
section
variable {P:Program} {w:World} {H H':Hp} {h h':Heap} {a C dx:Addr} {fs fs':List (Str × V)}
theorem Of (hok:HOk P w H h) (e:H a=some (.ins C dx fs)):∃ mA,ObjM h a dx C mA/\(∀ f,Mn (fs.lookup f) (mA f))/\PySem.Within mA (fs.map (·.1))/\fs.length<=1000/\H dx=some (.own a):=by
 obtain ⟨d,z,ne,ob,mA,n,r,q⟩:=(show ObjOk P w H h a (.ins C dx fs) from hok a _ e)
 exact ⟨mA,⟨ob,n,ne⟩,r,q,z,d⟩
end
structure Cls (K:PySem.W.Frag) (C:Addr):Prop where
 pg:PySem.W.plainGet K C Str.empty=true
 hd:PySem.W.hasDictIn K C=true
 po:PySem.W.plainOver K C=true
 sa:PySem.W.findIn K (.ref C) "__setattr__" = some (some (.builtin "object.__setattr__"))
theorem Cls.get {K:PySem.W.Frag} {C:Addr} (c:Cls K C) (f:Str):PySem.W.plainGet K C f=true:=c.pg
section
variable {X:Cx} {pins:List (Addr × Obj)} {σ:St} {H:Hp} {s:Shared} {A:Around} {E:Value->Shared->Prop} {Q:Value->Shared->Prop} {c:Value} {b:Bool}
inductive TyOf (K:PySem.W.Frag) (H:Hp):V->Value->Prop where
 | non:TyOf K H .non (.type "NoneType")
 | bl (x:Bool):TyOf K H (.bl x) (.type "bool")
 | int (i:Int):TyOf K H (.int i) (.type "int")
 | str (x:Str):TyOf K H (.str x) (.type "str")
 | flt (x:UInt64):TyOf K H (.flt x) (.type "float")
 | lst {a:Addr} {xs:List V} (e:H a=some (.lst xs)):TyOf K H (.ref a) (.type "list")
 | frz {a:Addr} {o:Obj} {xs:List V} (e:H a=some (.frz o (.lst xs))):TyOf K H (.ref a) (.type "list")
 | tup {a:Addr} {xs:List V} (e:H a=some (.tup xs)):TyOf K H (.ref a) (.type "tuple")
 | dK {a:Addr} {kvs:List (Key × V)} (e:H a=some (.dK kvs)):TyOf K H (.ref a) (.type "dict")
 | dT {a:Addr} {kvs:List (List Key × V)} (e:H a=some (.dT kvs)):TyOf K H (.ref a) (.type "dict")
 | ins {a C dx:Addr} {fs:List (Str × V)} (e:H a=some (.ins C dx fs)) (cl:Cls K C) (ha:PySem.W.findIn K (.ref C) "__class__" = some (some (.builtin "object.__class__")))
   (hn:PySem.W.specialIn K (.builtin "object.__class__") "__get__" = some (some (.builtin "getset_descriptor.__get__"))) (htk:PySem.W.takesIn K (.builtin "object.__class__")=some true)
   (hm:PySem.W.mroIn K C (.type "object")=some true):TyOf K H (.ref a) (.ref C)
theorem Le {x:V} {u t:Value} (I:Inv X pins σ H s) (rx:RelV x u) (ty:TyOf X.K H x t) (e:PySem.W.kitOne X.K t c=some b) (h:∀ tk,Q (.bool b) { s with toks:=tk }) :
  wpAny (model X.prog X.w) A (call (.builtin "isinstance") [u,c]) Q E s:=by
 cases ty with
 | non=>cases (show u=Value.none from rx); exact PySem.W.kia_one PySem.W.kitx_none I.kIn True.intro e (fun z=>nomatch z) h
 | bl y=>cases (show u=Value.bool y from rx); exact PySem.W.kia_one PySem.W.kitx_bool I.kIn True.intro e (fun z=>nomatch z) h
 | int i=>obtain ⟨t,q⟩:=(show ∃ t,u=Value.int i t from rx); cases q; exact PySem.W.kia_one PySem.W.kitx_int I.kIn True.intro e (fun z=>nomatch z) h
 | str y=>obtain ⟨t,q⟩:=(show ∃ t,u=Value.str y t from rx); cases q; exact PySem.W.kia_one PySem.W.kitx_str I.kIn True.intro e (fun z=>nomatch z) h
 | flt y=>obtain ⟨t,q⟩:=(show ∃ t,u=Value.float y t from rx); cases q; exact PySem.W.kia_one PySem.W.kitx_float I.kIn True.intro e (fun z=>nomatch z) h
 | @lst a xs ea =>
  cases (show u=Value.ref a from rx)
  obtain ⟨_,_,n,_,h1⟩:=(show ObjOk X.prog X.w H s.heap a (.lst xs) from I.hok a _ ea)
  exact PySem.W.kia_one PySem.W.kitx_list I.kIn ⟨_,h1,rfl⟩ e (fun z=>nomatch z) h
 | @frz a ob xs ea =>
  cases (show u=Value.ref a from rx)
  obtain ⟨_,_,_,n,_,h1⟩:=(show ObjOk X.prog X.w H s.heap a (.frz ob (.lst xs)) from I.hok a _ ea)
  exact PySem.W.kia_one PySem.W.kitx_list I.kIn ⟨_,h1,rfl⟩ e (fun z=>nomatch z) h
 | @tup a xs ea =>
  cases (show u=Value.ref a from rx)
  obtain ⟨_,_,_,p⟩:=(show ObjOk X.prog X.w H s.heap a (.tup xs) from I.hok a _ ea)
  obtain ⟨o,h1,h2,_⟩:=p
  exact PySem.W.kia_one PySem.W.kitx_tuple I.kIn ⟨o,h1,h2⟩ e (fun z=>nomatch z) h
 | @dK a kvs ea =>
  cases (show u=Value.ref a from rx)
  obtain ⟨_,_,vs,_,p⟩:=(show ObjOk X.prog X.w H s.heap a (.dK kvs) from I.hok a _ ea)
  obtain ⟨o,es,ep,h1,h2,_⟩:=p
  exact PySem.W.kia_one PySem.W.kitx_dict I.kIn ⟨o,h1,h2.1⟩ e (fun z=>nomatch z) h
 | @dT a kvs ea =>
  cases (show u=Value.ref a from rx)
  obtain ⟨_,_,xs,_,o,es,ep,h1,h2,_⟩:=(show ObjOk X.prog X.w H s.heap a (.dT kvs) from I.hok a _ ea)
  exact PySem.W.kia_one PySem.W.kitx_dict I.kIn ⟨o,h1,h2.1⟩ e (fun z=>nomatch z) h
 | @ins a C dx fs ea cl ha hn htk hm =>
  cases (show u=Value.ref a from rx)
  obtain ⟨mA,O,_⟩:=Of I.hok ea
  obtain ⟨od,J,_⟩:=O.look
  exact PySem.W.kia_one (PySem.W.kitx_own (cl.get _) cl.hd ha hn htk hm) I.kIn J e (fun z=>nomatch z) h
end
structure Room (k:Nat) (A:Around):Prop where
 hd:A.handled=none
 dp:A.depth + 3 * k + 5 < recursionLimit
 un:A.units + 16 * k + 200 < cLine
theorem Room.mono {j k:Nat} {A:Around} (r:Room k A) (h:j<=k):Room j A:=⟨r.hd,by have:=r.dp; omega,by have:=r.un; omega⟩
theorem Room.deeper {k:Nat} {A:Around} (r:Room (k + 1) A) (env:Env):Room k (A.deeper env) :=
 ⟨r.hd,by have:=r.dp; show A.depth + 1 + 3 * k + 5 < _; omega,by have:=r.un; show A.units + 3 + 16 * k + 200 < _; omega⟩
theorem Room.depth {k:Nat} {A:Around} (r:Room k A):A.depth < recursionLimit:=by have:=r.dp; omega
theorem Room.units {k:Nat} {A:Around} (r:Room k A):A.units + 64 < cLine:=by have:=r.un; omega
noncomputable def Qr:TA:=fun _ H Q=>Q [] H
noncomputable def NS (ta:TE) (tr:TA):TA:=fun σ H Q=>ta σ H fun x H1=>tr σ H1 fun xs H2=>Q (x :: xs) H2
section
variable {X:Cx} {e:Expr} {es:List Expr} {te:TE} {t:TA} {pos:Pos}
theorem CB:PA X [] Qr:=fun _ _ _ _ H Q I h=>Calls.spliced_nil ⟨[],H,I,.nil,h⟩
theorem AV (ha:PE X e te) (hr:PA X es t) (hs:starEach (e :: es) X.env=(false,eval e X.env) :: starEach es X.env:=by rfl):PA X (e :: es) (NS te t):=by
 intro pos pins s σ H Q I h
 rw [hs]
 show wpAny _ _ (spliced ((false,eval e X.env) :: backTo pos (starEach es X.env))) _ _ s
 refine Calls.spliced_cons (thn (ha pins s σ H _ I h) fun u s1 ⟨x,H1,I1,r1,q1⟩=>?_)
 exact thn (hr pos pins s1 σ H1 _ I1 q1) fun us s2 ⟨xs,H2,I2,r2,q2⟩=>⟨x :: xs,H2,I2,.cons r1 r2,q2⟩
noncomputable def Qs (t:TA):TE:=fun σ H Q=>t σ H fun xs H1=>xs.length<=sizeLine/\∀ p,H1 p=none->Q (.ref p) (upd H1 p (.tup xs))
noncomputable def SL (t:TA):TE:=fun σ H Q=>t σ H fun xs H1=>xs.length<=sizeLine/\∀ p,H1 p=none->Q (.ref p) (upd H1 p (.lst xs))
theorem Lf {x1} (h:PA X es t):PE X (.Tuple es x1 pos) (Qs t):=by
 intro pins s σ H Q I hq
 refine wpAny_Tuple_spliced (thn (h pos pins s σ H _ I hq) fun us s1 ⟨xs,H1,I1,r,z,q⟩=>⟨by rw [<- r.length]; exact z,?_⟩)
 have hf:H1 s1.heap.objs.size=none:=I1.hok.fresh (aan _)
 refine ⟨.ref s1.heap.objs.size,upd H1 s1.heap.objs.size (.tup xs),I1.laid (t':=s1.toks) (fun b u e=>Heap.get?_push_of_some _ e) (aan _) ?_,rfl,q _ hf⟩
 exact ⟨z,us,r,⟨_,Heap.get?_push_size _ rfl,rfl,_,rfl⟩⟩
theorem Qt (h:PA X es t):PE X (.List es pos) (SL t):=by
 intro pins s σ H Q I hq
 refine wpAny_List_spliced (thn (h pos pins s σ H _ I hq) fun us s1 ⟨xs,H1,I1,r,z,q⟩=>⟨by rw [<- r.length]; exact z,?_⟩)
 have hf:H1 s1.heap.objs.size=none:=I1.hok.fresh (aan _)
 refine ⟨.ref s1.heap.objs.size,upd H1 s1.heap.objs.size (.lst xs),I1.laid (t':=s1.toks) (fun b u e=>Heap.get?_push_of_some _ e) (aan _) ?_,rfl,q _ hf⟩
 exact ⟨z,us,0,r,Heap.get?_push_size _ rfl⟩
end
noncomputable abbrev Sp:=List V->Hp->VK->XK->Prop
noncomputable abbrev CXT:=List Env->Hp->Shared->XK->Value->Shared->Prop
structure Env0 (P:Program) (w:World) (K:PySem.W.Frag) (mg:Str->Option Value) (base:Heap) (A:Around) (outer:List Env) (s:Shared) (H:Hp):Prop where
 frames:A.frames=some outer
 mod:Mod K mg base
 bs:∀ b o,base.get? b=some o->s.heap.get? b=some o/\H b=none
 bsz:base.objs.size<=s.heap.objs.size
 funs:s.heap.FunFrames base outer
 frf:∀ b ∈ frs outer,H b=none
 hok:HOk P w H s.heap
 bare:AllBare s.gens
noncomputable def CE (outer:List Env) (P:Program) (w:World) (H:Hp) (s:Shared) (Q:VK) (u:Value) (s':Shared):Prop :=
 ∃ v H',s'.os=s.os/\AllBare s'.gens/\Un (frs outer) [] H H' s.heap s'.heap/\HOk P w H' s'.heap/\RelV v u/\Q v H'
noncomputable def CR (CX:CXT) (outer:List Env) (P:Program) (w:World) (H:Hp) (s:Shared) (Q:VK) (E:XK) (r:Result) (s':Shared):Prop :=
 match r with
 | .ok (.ret u)=>CE outer P w H s Q u s'
 | .ok _=>False
 | .error e=>CX outer H s E e s'
structure FnOk (P:Program) (w:World) (K:PySem.W.Frag) (mg:Str->Option Value) (base:Heap) (CX:CXT) (k:Nat) (f:Addr) (fd:FuncData) (ps:List Str) (sp:Sp):Prop where
 len:∀ vs H Q E,sp vs H Q E->vs.length=ps.length
 run:∀ (A:Around) (outer:List Env) (s:Shared) (H:Hp) (args:Args) (us:List Value) (vs:List V) (Q:VK) (E:XK),Room k A->Env0 P w K mg base A outer s H->BindsTo s fd args (ps.zip us)->Vals vs us->sp vs H Q E ->
  codeAny (model P w) A (.call (.ref f) args) (CR CX outer P w H s Q E) s
theorem FnOk.imp {P:Program} {w:World} {K:PySem.W.Frag} {mg:Str->Option Value} {base:Heap} {CX:CXT} {k:Nat} {f:Addr} {fd:FuncData} {ps:List Str} {sp sp':Sp} (F:FnOk P w K mg base CX k f fd ps sp)
  (h:∀ vs H Q E,sp' vs H Q E->sp vs H Q E):FnOk P w K mg base CX k f fd ps sp' :=
 ⟨fun vs H Q E q=>F.len vs H Q E (h _ _ _ _ q),fun A outer s H args us vs Q E hr he hb hv hs=>F.run A outer s H args us vs Q E hr he hb hv (h _ _ _ _ hs)⟩
section
variable {X:Cx} {pins:List (Addr × Obj)} {σ:St} {H:Hp} {s s':Shared}
theorem Inv.env0 (I:Inv X pins σ H s):Env0 X.prog X.w X.K X.mg X.base X.A X.stack s H :=
 ⟨I.ok.frames,I.ok.mod,I.bs,aat I.ok.bsz I.sz,I.stack,I.stkFree,I.hok,I.bare⟩
theorem Inv.after {Q:VK} {u:Value} (I:Inv X pins σ H s) (h:CE X.stack X.prog X.w H s Q u s'):EP X pins σ Q u s':=by
 obtain ⟨v,H',os,bare,un,hok,r,q⟩:=h
 obtain ⟨hh,g,d,t,os'⟩:=s'
 obtain rfl:os'=s.os:=os
 exact ⟨v,H',I.call (h':=hh) (g':=g) (d':=d) (t':=t) (ch:=[]) un hok bare (fun b z=>absurd z (by simp)),r,q⟩
end
noncomputable def Binds (K:PySem.W.Frag) (fd:FuncData) (ps:List Str) (ds:List Value):Prop :=
 ∀ (s:Shared) (us:List Value),K.In s.heap->(us ++ ds).length=ps.length->BindsTo s fd ⟨us,[]⟩ (ps.zip (us ++ ds))
theorem Binds.all {K:PySem.W.Frag} {fd:FuncData} {ps:List Str} (h:∀ us:List Value,us.length=ps.length->bindArgs fd ⟨us,[]⟩=pure (ps.zip us)):Binds K fd ps []:=fun s us _ hl=>by
 rw [aaN] at hl ⊢
 exact .of_eq (h us hl)
noncomputable def Qu (CX:CXT) (X:Cx) (E:XK):Prop:=∀ (pins:List (Addr × Obj)) (σ:St) (H:Hp) (s:Shared) (e:Value) (s':Shared),Inv X pins σ H s->CX X.stack H s E e s'->X.xe e s'
structure FnScope (N P:List Str) (sc:Scope):Prop where
 kind:sc.kind=.function
 co:sc.isCoroutine=false
 gen:sc.isGenerator=false
 nd:N.Nodup
 pre:N.take P.length=P
 par:∀ x ∈ P,sc.names.lookup x=some .local\/sc.names.lookup x=some .cell
 nofree:∀ y ∈ sc.names,y.2 ≠ .free
theorem Hd {kindOf:Str->Option NameKind} {x:Str}:∀ {binds:List (Str × Value)} {m:Str->Option Value},(∀ v,(x,v) ∉ binds)->bindL kindOf binds m x=m x
 | [],_,_=>rfl
 | (n,v) :: r,m,h=>by
  unfold bindL
  rw [Hd fun w hw=>h w (aaa _ hw)]
  split
  ·have:x ≠ n:=by rintro rfl; exact h v aac
   simp [this]
  ·rfl
theorem He {kindOf:Str->Option NameKind} {x:Str}:∀ {binds:List (Str × Value)} {m:Str->Option Value},(∀ v,(x,v) ∉ binds)->bindC kindOf binds m x=m x
 | [],_,_=>rfl
 | (n,v) :: r,m,h=>by
  unfold bindC
  rw [He fun w hw=>h w (aaa _ hw)]
  split
  ·rfl
  ·have:x ≠ n:=by rintro rfl; exact h v aac
   simp [this]
theorem Hf {kindOf:Str->Option NameKind} {x:Str} {v:Value}:∀ {P:List Str} {vs:List Value} {i:Nat} {m:Str->Option Value},P.Nodup->P[i]?=some x->vs[i]?=some v->kindOf x=some .local ->
  bindL kindOf (P.zip vs) m x=some v
 | [],_,_,_,_,h,_,_=>by simp at h
 | _ :: _,[],_,_,_,_,h,_=>by simp at h
 | p :: P,w :: vs,0,m,nd,h1,h2,hk=>by
  simp at h1 h2; subst h1; subst h2
  show bindL kindOf ((p,w) :: P.zip vs) m p=_
  unfold bindL
  rw [Hd fun v hv=>(aaE.mp nd).1 (acj hv).1,if_pos hk]
  simp
 | p :: P,w :: vs,i + 1,m,nd,h1,h2,hk=>by
  show bindL kindOf ((p,w) :: P.zip vs) m x=_
  unfold bindL
  exact Hf (i:=i) (aaE.mp nd).2 (by simpa using h1) (by simpa using h2) hk
theorem Hg {kindOf:Str->Option NameKind} {x:Str} {v:Value}:∀ {P:List Str} {vs:List Value} {i:Nat} {m:Str->Option Value},P.Nodup->P[i]?=some x->vs[i]?=some v->kindOf x ≠ some .local ->
  bindC kindOf (P.zip vs) m x=some v
 | [],_,_,_,_,h,_,_=>by simp at h
 | _ :: _,[],_,_,_,_,h,_=>by simp at h
 | p :: P,w :: vs,0,m,nd,h1,h2,hk=>by
  simp at h1 h2; subst h1; subst h2
  show bindC kindOf ((p,w) :: P.zip vs) m p=_
  unfold bindC
  rw [He fun v hv=>(aaE.mp nd).1 (acj hv).1,if_neg hk]
  simp
 | p :: P,w :: vs,i + 1,m,nd,h1,h2,hk=>by
  show bindC kindOf ((p,w) :: P.zip vs) m x=_
  unfold bindC
  exact Hg (i:=i) (aaE.mp nd).2 (by simpa using h1) (by simpa using h2) hk
noncomputable def AB (N:List Str) (vs:List V):St:=vs.map some ++ aak (N.length - vs.length) none
noncomputable def Bm (CX:CXT) (P:Program) (w:World) (K:PySem.W.Frag) (mg:Str->Option Value) (base:Heap) (N:List Str) (qual:Str) (scope:Scope) (f:Addr) (cd:Value) (A:Around) (outer:List Env) (s:Shared) (H:Hp) (E:XK):Cx where
 prog:=P
 w:=w
 K:=K
 mg:=mg
 base:=base
 A:=A.deeper (envOfC qual scope s.heap.objs.size f cd)
 N:=N
 s₀:=s
 H₀:=H
 env:=envOfC qual scope s.heap.objs.size f cd
 outer:=outer
 stack:=envOfC qual scope s.heap.objs.size f cd :: outer
 ex:=[]
 calm:=true
 fn:=fun _=>true
 pn:=[]
 xe:=fun e s'=>wpAny (model P w) (A.deeper (envOfC qual scope s.heap.objs.size f cd)) (leaving (envOfC qual scope s.heap.objs.size f cd) e) (fun _ s''=>CX outer H s E e s'') (fun e' s''=>CX outer H s E e' s'') s'
theorem HI {sc:Scope} {n:Nat} {x:Str} (h:sc.names.lookup x=some .cell):∃ c,(cellsFrom n sc.names []).lookup x=some c:=by
 have q:=PySem.W.cellsFrom_some sc.names n [] (.inl h)
 exact aaA.mp q
theorem Lh {CX:CXT} {P:Program} {w:World} {K:PySem.W.Frag} {mg:Str->Option Value} {base:Heap} {N ps:List Str} {qual:Str} {scope:Scope} {f:Addr} {cd:Value} {A:Around} {outer:List Env} {s s1:Shared} {H:Hp} {E:XK} {us:List Value} {vs:List V}
  (S:FnScope N ps scope) (hd:A.handled=none) (e0:Env0 P w K mg base A outer s H) (hl:vs.length=ps.length) (r:Vals vs us)
  (x:InCallC s s.heap.objs.size (bindL (envOfC qual scope s.heap.objs.size f cd).kindOf (ps.zip us) fun _=>none) (cellsFrom (s.heap.objs.size + 1) scope.names []) (bindC (envOfC qual scope s.heap.objs.size f cd).kindOf (ps.zip us) fun _=>none) s1) :
  Inv (Bm CX P w K mg base N qual scope f cd A outer s H E) [] (AB N vs) H s1:=by
 have hpl:ps.length<=N.length:=by have:=congrArg aa6 S.pre; rw [abn] at this; omega
 obtain ⟨h1,tk,rfl,hk⟩:=x.done
 have noA:∀ b:Addr,b ∉ (Bm CX P w K mg base N qual scope f cd A outer s H E).ex:=fun b z=>absurd (show b ∈ ([]:List Addr) from z) (by simp)
 refine ⟨⟨e0.mod,S.kind,rfl,rfl,aan _,fun y z c h1 h2=>?_,fun y hy=>?_,fun y c _ h=>?_,fun _=>hd,Around.frames_deeper e0.frames,.inr ⟨rfl,rfl⟩,fun b z=>absurd z (noA b),e0.bs,e0.bsz,fun b _ _=>noA b,fun b z=>absurd z (noA b),e0.funs,e0.frf⟩,
  rfl,e0.bare,Un.kept hk,⟨_,x.toInCall.ns,fun i y v h1 h2 h3=>?_⟩,fun y c h=>⟨_,x.cell y c h⟩,e0.hok.fresh (aan _),fun y c h=>?_,fun p hp=>absurd (show p ∈ ([]:List (Addr × Obj)) from hp) (by simp),e0.hok.kept hk,?_⟩
 ·exact name_of_addr x.apart (PySem.mem_of_lookup h1) (PySem.mem_of_lookup h2)
 ·have hy:scope.names.lookup y=some .cell\/scope.names.lookup y=some .free:=hy
  rcases hy with hy | hy
  ·exact HI hy
  ·exact absurd rfl (S.nofree _ (PySem.mem_of_lookup hy))
 ·exact aaM (x.above y c (PySem.mem_of_lookup h))
 ·have hi:i < vs.length:=by
   unfold AB at h2
   by_cases hi:i < vs.length
   ·exact hi
   ·rw [aaB (by simpa using hi)] at h2
    rw [aaU] at h2
    split at h2 <;> cases h2
  have ha:vs[i]?=some v:=by
   unfold AB at h2
   rw [aaF (by simpa using hi),aaj] at h2
   cases e:vs[i]? with
   | none=>rw [e] at h2; cases h2
   | some a=>rw [e] at h2; cases h2; rfl
  obtain ⟨u,hu,rv⟩:=r.get ha
  have hp:ps[i]?=some y:=by
   rw [<- S.pre,List.getElem?_take_of_lt (by omega)]; exact h1
  have ndP:ps.Nodup:=by rw [<- S.pre]; exact S.nd.sublist (List.take_sublist _ _)
  refine ⟨u,rv,?_⟩
  rcases S.par y (aae hp) with k | k
  ·exact .inl ⟨k,Hf ndP hp hu k⟩
  ·obtain ⟨c,e⟩:=HI (n:=s.heap.objs.size + 1) k
   refine .inr ⟨.inl k,c,e,?_⟩
   have q:=x.cell y c e
   rw [Hg ndP hp hu (by show scope.names.lookup y ≠ _; rw [k]; decide)] at q
   exact q
 ·exact e0.hok.fresh (aaM (x.above y c (PySem.mem_of_lookup h)))
 ·unfold AB
  show _=N.length
  rw [aaG,aab,aa4]
  omega
theorem R0 {CX:CXT} {P:Program} {w:World} {K:PySem.W.Frag} {mg:Str->Option Value} {base:Heap} {k:Nat} {f:Addr} {name qual:Str} {params:Arguments} {body:List Stmt} {scope:Scope} {dV kV doc pm cdv ct oc:Value} {an od:Option Addr}
  {osl:Array (Option Value)} {N ps:List Str} {sp:Sp} (lk:K.lookup f=some ⟨oc,od,.func (PySem.W.fnOf name qual params body scope dV kV doc pm an cdv ct),osl⟩) (hcd:PySem.W.codeIn K cdv qual=true) (S:FnScope N ps scope)
  (len:∀ vs H Q E,sp vs H Q E->vs.length=ps.length)
  (hbody:∀ (A:Around) (outer:List Env) (s:Shared) (H:Hp) (vs:List V) (Q:VK) (E:XK),Room k (A.deeper (envOfC qual scope s.heap.objs.size f cdv))->sp vs H Q E ->
   ∃ t,PSs (Bm CX P w K mg base N qual scope f cdv A outer s H E) body t/\t { nx:=fun _ H'=>Q .non H',rt:=Q } (AB N vs) H) :
  FnOk P w K mg base CX (k + 1) f (PySem.W.fnOf name qual params body scope dV kV doc pm an cdv ct) ps sp:=by
 refine ⟨len,fun A outer s H args us vs Q E hr e0 hb r hsp=>?_⟩
 have hl:=len _ _ _ _ hsp
 have KX:K.In s.heap:=e0.mod.kin.keeps fun b o e=>(e0.bs b o e).1
 have lim:s.heap.NoLimit:=e0.mod.nolimit.keeps fun b o e=>(e0.bs b o e).1
 have hkind:∀ y ∈ ps.zip us,scope.names.lookup y.1=some .local\/(scope.names.lookup y.1=some .cell/\((cellsFrom (s.heap.objs.size + 1) scope.names []).lookup y.1).isSome=true):=fun ⟨n,v⟩ hy=>by
  rcases S.par n (acj hy).1 with q | q
  ·exact .inl q
  ·exact .inr ⟨q,PySem.W.cellsFrom_some _ _ _ (.inl q)⟩
 refine codeAny_call_function hr.depth (KX _ _ lk) rfl S.co S.gen rfl (PySem.W.codeRec_of KX hcd) (hb _ _ _ _ ?_)
 refine wpAny_newFunctionEnv_cells S.kind hkind fun env he s1 x=>?_
 subst he
 refine ⟨lim.keeps x.toInCall.keep,codeAny_func ?_⟩
 obtain ⟨t,ht,hq⟩:=hbody A outer s H vs Q E (hr.deeper _) hsp
 have I:Inv (Bm CX P w K mg base N qual scope f cdv A outer s H E) [] (AB N vs) H s1:=Lh S hr.hd e0 hl r x
 refine wpAny_mono (ht [] s1 (AB N vs) H _ I hq) (fun fl s' hs=>?_) fun e s' hs=>hs
 have fin:∀ {σ':St} {H':Hp} {v:V} {u:Value},Inv (Bm CX P w K mg base N qual scope f cdv A outer s H E) [] σ' H' s'->RelV v u->Q v H'->CE outer P w H s Q u s' :=
  fun {σ' H' v u} J rv q=>⟨v,H',J.os,J.bare,J.base,J.hok,rv,q⟩
 cases fl with
 | ret u =>
  obtain ⟨v,σ',H',J,rv,q⟩:=hs
  exact fin J rv q
 | next =>
  obtain ⟨σ',H',J,q⟩:=hs
  exact fin (v:=V.non) (u:=Value.none) J rfl q
 | brk =>
  obtain ⟨_,_,_,q⟩:=hs
  exact False.elim q
 | cont =>
  obtain ⟨_,_,_,q⟩:=hs
  exact False.elim q
section
variable {X:Cx} {x:Str} {p pos:Pos} {e:Expr} {es:List Expr} {t:TA} {id T:String} {r:List V->Hp->VK->Prop}
noncomputable def tCB (r:List V->Hp->VK->Prop) (t:TA):TE:=fun σ H Q=>t σ H fun vs H1=>r vs H1 Q
theorem DW (hc:DA X (.builtin id) r) (hg:Gl X x) (hm:X.mg x=none) (hv:bootBuiltins x=some (.builtin id)) (ha:PA X (e :: es) t) (hn:x ≠ "__name__" := by decide) (hdb:(x==("__debug__" : Str))=false:=by decide)
  (he:starEach (e :: es) X.env=(false,eval e X.env) :: starEach es X.env:=by rfl) (hpl:(backTo pos (starEach es X.env)).any (·.1)=false:=by rfl):PE X (.Call (.Name x p) (e :: es) [] pos) (tCB r t):=by
 intro pins s σ H Q I h
 refine wpAny_Call_Name_kw (DV I hg hm hv ?_ hn hdb)
 exact PyProof.Rows.callWith_builtin1 (thn (ha pos pins s σ H _ I h) fun us s1 ⟨vs,H1,I1,r1,q1⟩=>hc pins s1 σ H1 vs us Q I1 r1 q1) he hpl
theorem Hh (hc:DA X (.type T) r) (hg:Gl X x) (hm:X.mg x=none) (hv:bootBuiltins x=some (.type T)) (ha:PA X (e :: es) t) (hn:x ≠ "__name__" := by decide) (hdb:(x==("__debug__" : Str))=false:=by decide)
  (he:starEach (e :: es) X.env=(false,eval e X.env) :: starEach es X.env:=by rfl) (hpl:(backTo pos (starEach es X.env)).any (·.1)=false:=by rfl):PE X (.Call (.Name x p) (e :: es) [] pos) (tCB r t):=by
 intro pins s σ H Q I h
 refine wpAny_Call_Name_kw (DV I hg hm hv ?_ hn hdb)
 exact PyProof.Rows.callWith_type1 (thn (ha pos pins s σ H _ I h) fun us s1 ⟨vs,H1,I1,r1,q1⟩=>hc pins s1 σ H1 vs us Q I1 r1 q1) he hpl
end
end L2
namespace HT
open PySem PyProof.Rows
section
variable {prog:Program} {w:World} {A:Around} {E:Value->Shared->Prop} {s:Shared}
noncomputable def sIx (n d:Nat):Option Int->Nat
 | none=>d
 | some v=>if v < 0 then (v + (n:Int)).toNat else min v.toNat n
theorem Qv (n d:Nat) (hd:d<=n) (o:Option Int):sIx n d o<=n:=by
 cases o with
 | none=>exact hd
 | some v =>
  show (if v < 0 then (v + (n:Int)).toNat else min v.toNat n)<=n
  by_cases hv:v < 0
  ·rw [if_pos hv]; omega
  ·rw [if_neg hv]; exact aaY _ _
theorem clip_eq (v:Int) (n d:Nat):(if v < 0 then max (v + (n:Int)) 0 else min v (n:Int))=((sIx n d (some v):Nat):Int):=by
 show (if v < 0 then max (v + (n:Int)) 0 else min v (n:Int))=(((if v < 0 then (v + (n:Int)).toNat else min v.toNat n):Nat):Int)
 by_cases hv:v < 0
 ·simp only [if_pos hv]; omega
 ·simp only [if_neg hv]; omega
theorem J4 (lo hi:Option Int) (n:Nat):Builtin.Slice.sliceAdjust lo hi 1 (n:Int)=(((sIx n 0 lo:Nat):Int),((sIx n n hi:Nat):Int)):=by
 have h1:¬ ((1:Int) < 0):=by omega
 unfold Builtin.Slice.sliceAdjust
 simp only [h1,if_false]
 refine Prod.ext ?_ ?_
 ·cases lo with
  | none=>rfl
  | some v=>exact clip_eq v n 0
 ·cases hi with
  | none=>rfl
  | some v=>exact clip_eq v n n
theorem J8 (i j:Nat):Builtin.Slice.slicePlaces (i:Int) (j:Int) 1=j - i:=by
 unfold Builtin.Slice.slicePlaces
 have h1:(1:Int) > 0:=by omega
 simp only [h1,if_true,Int.ediv_one]
 split <;> omega
theorem Gm {v:Value} {o:Option Int} {Q:Option Int->Shared->Prop} (p:IsPart v o) (h:Q o s):wpAny (model prog w) A (Builtin.Slice.slicePartIndex v) Q E s:=by
 cases p with
 | none=>exact slicePart_none h
 | int i t=>exact slicePart_int h
theorem F2 {sl:Addr} {vl vu:Value} {lo hi:Option Int} {n:Nat} {Q:Int × Int × Nat->Shared->Prop} (hs:s.heap.IsSliceOf sl vl vu .none) (pl:IsPart vl lo) (pu:IsPart vu hi)
  (h:Q (((sIx n 0 lo:Nat):Int),1,sIx n n hi - sIx n 0 lo) s):wpAny (model prog w) A (Builtin.Slice.sliceApplied (.ref sl) (pure (n:Int))) Q E s:=by
 obtain ⟨os,hos,hcs,hds⟩:=id hs
 unfold Builtin.Slice.sliceApplied Builtin.Slice.sliceFields
 refine wpAny_bind (wpAny_bind (wpAny_field hos hds (x:=vl) rfl (wpAny_bind (wpAny_field hos hds (x:=vu) rfl (wpAny_bind (wpAny_field hos hds (x:=.none) rfl (wpAny_pure ?_)))))))
 refine wpAny_bind (slicePart_none ?_)
 show wpAny _ _ (if ((1:Int)==0)=true then _ else _) _ _ s
 rw [if_neg (by decide)]
 refine wpAny_bind (Gm pl (wpAny_bind (Gm pu (wpAny_bind (wpAny_pure ?_)))))
 show wpAny _ _ (match Builtin.Slice.sliceAdjust lo hi 1 (n:Int) with | (lo,hi)=>pure (lo,(1:Int),Builtin.Slice.slicePlaces lo hi 1)) _ _ s
 rw [J4 lo hi n]
 show wpAny _ _ (pure (((sIx n 0 lo:Nat):Int),(1:Int),Builtin.Slice.slicePlaces ((sIx n 0 lo:Nat):Int) ((sIx n n hi:Nat):Int) 1)) _ _ s
 rw [J8]
 exact wpAny_pure h
theorem MA (xs:Array Value) (i k:Nat):((aaD k).filterMap fun (m:Nat)=>xs[((i:Int) + (m:Int) * 1).toNat]?).toArray=((xs.toList.drop i).take k).toArray:=by
 have e:(fun (m:Nat)=>xs[((i:Int) + (m:Int) * 1).toNat]?)=fun m=>xs[i + m]?:=by
  funext m
  have:((i:Int) + (m:Int) * 1).toNat=i + m:=by omega
  rw [this]
 rw [e]
 have:=pick_run xs i k
 rw [List.filterMap_map] at this
 have e2:((fun x=>xs[x]?) ∘ fun x=>i + x)=fun m=>xs[i + m]?:=rfl
 rw [e2] at this
 rw [this]
theorem getItem_tuple_cut {t sl:Addr} {items:Array Value} {vl vu:Value} {lo hi:Option Int} {Q:Value->Shared->Prop} (ht:IsTup s.heap t items) (hs:s.heap.IsSliceOf sl vl vu .none) (pl:IsPart vl lo) (pu:IsPart vu hi)
  (hw:¬ (sIx items.size 0 lo=0/\sIx items.size items.size hi=items.size))
  (h:Q (.ref s.heap.objs.size) { s with heap:=s.heap.push { cls:=.type "tuple",data:=.seq ((items.toList.drop (sIx items.size 0 lo)).take (sIx items.size items.size hi - sIx items.size 0 lo)).toArray } })
  (hsz:items.size<=sizeLine):wpAny (model prog w) A (getItem (.ref t) (.ref sl)) Q E s:=by
 have htake:sizeOk (.seq ((items.toList.drop (sIx items.size 0 lo)).take (sIx items.size items.size hi - sIx items.size 0 lo)).toArray):=by
  show ((items.toList.drop (sIx items.size 0 lo)).take (sIx items.size items.size hi - sIx items.size 0 lo)).toArray.size<=sizeLine
  rw [aas,abn,acd,Array.length_toList]
  omega
 have hj:sIx items.size items.size hi<=items.size:=Qv _ _ (aan _) hi
 obtain ⟨os,hos,hcs,hds⟩:=id hs
 have hTs:s.TypeIs (.ref sl) "slice" := ⟨os,hos,hcs⟩
 unfold getItem
 try with_reducible refine wpAny_holding ?_
 first | refine wpAny_bind (wpAny_pure ?_) | skip
 refine wpAny_bind (wpAny_sequenceKey ht.typeIs (by decide) ?_)
 refine wpAny_bind (wpAny_callSpecial?_slot (name:=Str.ofString "__getitem__") ht.typeIs PyProof.Rows.slot_tuple_getitem
  (wpAny_call_entry PyProof.Rows.slot_tuple_getitem ht.typeIs entry_tuple_getitem ?_ (args_tuple_getitem _ _)))
 show wpAny _ _ (Builtin.Tuple.tupleItemsOf (.ref t) >>= _) _ _ s
 refine wpAny_bind (tupleItemsOf_ ht ?_)
 refine wpAny_bind (wpAny_typeOf hTs ?_)
 rw [if_pos (by decide)]
 refine wpAny_bind (F2 hs pl pu ?_)
 have hno:¬ ((((sIx items.size 0 lo:Nat):Int)==0 && (1:Int)==1 && (sIx items.size items.size hi - sIx items.size 0 lo)==items.size)=true):=by
  intro q
  rw [aah,aah] at q
  have q1:((sIx items.size 0 lo:Nat):Int)=0:=eq_of_beq q.1.1
  have q2:sIx items.size items.size hi - sIx items.size 0 lo=items.size:=eq_of_beq q.2
  exact hw ⟨by omega,by omega⟩
 show wpAny _ _ (if (((sIx items.size 0 lo:Nat):Int)==0 && (1:Int)==1 && (sIx items.size items.size hi - sIx items.size 0 lo)==items.size)=true then _ else _) _ _ s
 rw [if_neg hno,MA]
 first
  | exact wpAny_bind (m:=Builtin.Tuple.tupleExact _) (wpAny_newObj_type (wpAny_pure ⟨_,rfl,wpAny_pure h⟩) htake)
  | exact wpAny_bind (m:=Builtin.Tuple.tupleExact _) (wpAny_newObj_type (wpAny_bind (wpAny_pure (wpAny_pure ⟨_,rfl,wpAny_pure h⟩))) htake)
  | exact wpAny_bind (wpAny_bind (m:=Builtin.Tuple.tupleExact _) (wpAny_newObj_type (wpAny_pure (wpAny_pure ⟨_,rfl,wpAny_pure h⟩)) htake))
  | exact wpAny_bind (wpAny_bind (m:=Builtin.Tuple.tupleExact _) (wpAny_newObj_type (wpAny_pure ⟨_,rfl,wpAny_pure h⟩) htake))
end
end HT
namespace L2
open PySem PySem.Spec PyProof.Rows
noncomputable abbrev TO:=St->Hp->(Option Int->Hp->Prop)->Prop
noncomputable def PO (X:Cx) (e:Option Expr) (t:TO):Prop :=
 ∀ (pins:List (Addr × Obj)) (s:Shared) (σ:St) (H:Hp) (Q:Option Int->Hp->Prop),Inv X pins σ H s->t σ H Q ->
  wpAny (model X.prog X.w) X.A (evalPart e X.env) (fun u s'=>∃ o H',Inv X pins σ H' s'/\IsPart u o/\Q o H') X.xe s
noncomputable def Og:TO:=fun _ H Q=>Q none H
noncomputable def R1 (t:TE):TO:=fun σ H Q=>t σ H fun x H1=>∃ i,x=.int i/\Q (some i) H1
theorem J9 {ns:List Int}:∀ {us:List Value},Vals (ns.map V.int) us->IntsAre us ns:=by
 induction ns with
 | nil=>intro us r; rw [abA] at r; cases r; exact .nil
 | cons n ns ih =>
  intro us r
  rw [aa7] at r
  cases r with
  | cons r1 r2 =>
   obtain ⟨t,e⟩:=r1
   subst e
   exact .cons n t (ih r2)
section
variable {X:Cx} {e:Expr} {te:TE} {lo hi:Option Expr} {tl th:TO} {pos p2:Pos}
theorem Oh:PO X none Og:=by
 intro pins s σ H Q I h
 rw [evalPart_none]
 exact wpAny_pure ⟨none,H,I,.none,h⟩
theorem Oi (h:PE X e te):PO X (some e) (R1 te):=by
 intro pins s σ H Q I hw
 rw [evalPart_some]
 refine thn (h pins s σ H _ I hw) fun u s1 ⟨x,H1,I1,r1,q1⟩=>?_
 obtain ⟨i,rfl,q⟩:=q1
 obtain ⟨t,rfl⟩:=r1
 exact ⟨some i,H1,I1,.int i t,q⟩
noncomputable def SlR (X:Cx) (r:V->Option Int->Option Int->Hp->VK->Prop):Prop :=
 ∀ (pins:List (Addr × Obj)) (s:Shared) (σ:St) (H:Hp) (x:V) (v vl vu:Value) (lo hi:Option Int) (sl:Addr) (Q:VK),Inv X pins σ H s->RelV x v->s.heap.IsSliceOf sl vl vu .none->IsPart vl lo->IsPart vu hi->r x lo hi H Q ->
  ∃ T id,typeLookup (.type T) "__getitem__" = pure (some (.builtin id))/\s.TypeIs v T/\wpAny (model X.prog X.w) X.A (getItem v (.ref sl)) (EP X pins σ Q) X.xe s
theorem SlR.or {r r':V->Option Int->Option Int->Hp->VK->Prop} (h:SlR X r) (h':SlR X r'):SlR X (fun x lo hi H Q=>r x lo hi H Q\/r' x lo hi H Q):=by
 intro pins s σ H x v vl vu lo hi sl Q I rx hs pl pu q
 rcases q with q | q
 ·exact h pins s σ H x v vl vu lo hi sl Q I rx hs pl pu q
 ·exact h' pins s σ H x v vl vu lo hi sl Q I rx hs pl pu q
noncomputable def tSl (r:V->Option Int->Option Int->Hp->VK->Prop) (te:TE) (tl th:TO):TE:=fun σ H Q=>te σ H fun x H1=>tl σ H1 fun l H2=>th σ H2 fun u H3=>r x l u H3 Q
theorem MB {r:V->Option Int->Option Int->Hp->VK->Prop} (hr:SlR X r) (he:PE X e te) (hl:PO X lo tl) (hu:PO X hi th):PE X (.Subscript e (.Slice lo hi none p2) pos) (tSl r te tl th):=by
 intro pins s σ H Q I h
 refine Subscript_ (thn (he pins s σ H _ I h) fun v s1 ⟨x,H1,I1,r1,q1⟩=>?_)
 refine wpAny_Slice (thn (hl pins s1 σ H1 _ I1 q1) fun vl s2 ⟨l,H2,I2,pl,q2⟩=>thn (hu pins s2 σ H2 _ I2 q2) fun vu s3 ⟨u,H3,I3,pu,q3⟩=>?_)
 rw [evalPart_none]
 refine wpAny_pure ?_
 have I4:Inv X pins σ H3 { s3 with heap:=s3.heap.push { cls:=.type "slice",data:=.fields #[vl,vu,.none] } }:=I3.kept (t':=s3.toks) fun b ob q=>Heap.get?_push_of_some _ q
 obtain ⟨T,id,hT,ht,hg⟩:=hr pins { s3 with heap:=s3.heap.push { cls:=.type "slice",data:=.fields #[vl,vu,.none] } } σ H3 x v vl vu l u s3.heap.objs.size Q I4 r1 (Heap.IsSliceOf.new ..) pl pu q3
 show wpAny (model X.prog X.w) X.A (subscriptTail e (.Slice lo hi none p2) v (.ref s3.heap.objs.size)) (EP X pins σ Q) X.xe { s3 with heap:=s3.heap.push { cls:=.type "slice",data:=.fields #[vl,vu,.none] } }
 exact tail_any (ops:=[.ref s3.heap.objs.size,v]) ht hT hg (by with_unfolding_all rfl)
noncomputable def EY (xs:List V) (lo hi:Option Int):List V:=(xs.drop (HT.sIx xs.length 0 lo)).take (HT.sIx xs.length xs.length hi - HT.sIx xs.length 0 lo)
theorem FS (xs:List V) (lo hi:Option Int):(EY xs lo hi).length<=xs.length:=by
 unfold EY
 rw [abn,acd]
 omega
noncomputable def SM (K:PySem.W.Frag):V->Option Int->Option Int->Hp->VK->Prop:=fun x lo hi H Q=>∃ a xs,x=.ref a/\SqT K H a xs /\
 ¬ (HT.sIx xs.length 0 lo=0/\HT.sIx xs.length xs.length hi=xs.length)/\∀ p,H p=none->Q (.ref p) (upd H p (.tup (EY xs lo hi)))
theorem Qw:SlR X (SM X.K):=by
 intro pins s σ H x v vl vu lo hi sl Q I rx hs pl pu h
 obtain ⟨a,xs,rfl,hx,hw,q⟩:=h
 cases rx
 obtain ⟨its,r,ht,hz⟩:=I.tuple hx
 have hlen:its.toArray.size=xs.length:=by rw [aas]; exact r.length.symm
 refine ⟨"tuple",_,PyProof.Rows.slot_tuple_getitem.lookup,ht.typeIs,?_⟩
 refine HT.getItem_tuple_cut ht hs pl pu (by rw [hlen]; exact hw) ?_ (by rw [hlen]; exact hz)
 rw [hlen]
 refine ⟨.ref s.heap.objs.size,_,I.laid (t':=s.toks) (o:=.tup (EY xs lo hi)) (fun b ob q=>Heap.get?_push_of_some _ q) (aan _) ?_,rfl,q _ (I.hok.fresh (aan _))⟩
 exact ⟨aat (FS xs lo hi) hz,_,(r.drop (HT.sIx xs.length 0 lo)).take (HT.sIx xs.length xs.length hi - HT.sIx xs.length 0 lo),IsTup.new _ _⟩
end
noncomputable def ixN (n:Nat) (i:Int):Option Nat:=if 0<=i then (if i < n then some i.toNat else none) else if -(n:Int)<=i then some (i + n).toNat else none
noncomputable def atI {α:Type} (xs:List α) (i:Int):Option α:=(ixN xs.length i).bind fun j=>xs[j]?
theorem Jr {n:Nat} {i:Int} {j:Nat} (h:ixN n i=some j):seqIndex? i n=some j/\j < n/\-(n:Int)<=i/\i < n:=by
 unfold ixN at h
 by_cases h0:0<=i
 ·rw [if_pos h0] at h
  by_cases h1:i < n
  ·rw [if_pos h1] at h
   have e:i.toNat=j:=Option.some.inj h
   exact ⟨by rw [seqIndex_of h0 h1,e],by omega,by omega,h1⟩
  ·rw [if_neg h1] at h; cases h
 ·rw [if_neg h0] at h
  by_cases h1:-(n:Int)<=i
  ·rw [if_pos h1] at h
   have e:(i + n).toNat=j:=Option.some.inj h
   exact ⟨by rw [seqIndex_neg (by omega) h1,e],by omega,h1,by omega⟩
  ·rw [if_neg h1] at h; cases h
theorem Js {α:Type} {xs:List α} {i:Int} {v:α} (h:atI xs i=some v):∃ j,seqIndex? i xs.length=some j/\xs[j]?=some v/\j < xs.length/\-(xs.length:Int)<=i/\i < xs.length:=by
 unfold atI at h
 cases e:ixN xs.length i with
 | none=>rw [e] at h; cases h
 | some j =>
  rw [e] at h
  obtain ⟨h1,h2,h3,h4⟩:=Jr e
  exact ⟨j,h1,h,h2,h3,h4⟩
noncomputable def Jt (b:Expr):Prop:=∀ o i,subscripted b false o i=operate [o,i] (getItem o i)
noncomputable def IxR (X:Cx) (r:R2):Prop :=
 ∀ (value slice:Expr) (pins:List (Addr × Obj)) (s:Shared) (σ:St) (H:Hp) (x y:V) (v u:Value) (Q:VK),Inv X pins σ H s->RelV x v->RelV y u->r x y H Q ->
  subscripted slice false v u=operate [v,u] (getItem v u)->wpAny (model X.prog X.w) X.A (subscriptTail value slice v u) (EP X pins σ Q) X.xe s
noncomputable def MtR (X:Cx) (id:String) (r:V->List V->Hp->VK->Prop):Prop :=
 ∀ (pins:List (Addr × Obj)) (s:Shared) (σ:St) (H:Hp) (x:V) (xs:List V) (v:Value) (us:List Value) (Q:VK),Inv X pins σ H s->RelV x v->Vals xs us->r x xs H Q ->
  wpAny (model X.prog X.w) X.A (call (.builtin id) (v :: us)) (EP X pins σ Q) X.xe s
section
variable {X:Cx} {a b:Expr} {ta tb:TE} {pos:Pos}
theorem IxR.or {r r':R2} (h:IxR X r) (h':IxR X r'):IxR X (fun x y H Q=>r x y H Q\/r' x y H Q):=by
 intro value slice pins s σ H x y v u Q I rx ry q hs
 rcases q with q | q
 ·exact h value slice pins s σ H x y v u Q I rx ry q hs
 ·exact h' value slice pins s σ H x y v u Q I rx ry q hs
theorem Gn {r:R2} (hr:IxR X r) (ha:PE X a ta) (hb:PE X b tb) (hs:Jt b):PE X (.Subscript a b pos) (tOp r ta tb):=by
 intro pins s σ H Q I h
 exact Subscript_ (Mv ha hb I h fun v u s2 x y H2 I2 rx ry q=>hr a b pins s2 σ H2 x y v u Q I2 rx ry q (hs _ _))
noncomputable def Qx (K:PySem.W.Frag):R2:=fun x y H Q=>∃ p xs i v,x=.ref p/\y=.int i/\SqL K H p xs/\atI xs i=some v/\Q v H
noncomputable def Qy (K:PySem.W.Frag):R2:=fun x y H Q=>∃ p xs i v,x=.ref p/\y=.int i/\SqT K H p xs/\atI xs i=some v/\Q v H
theorem Fs:IxR X (Qx X.K):=by
 intro value slice pins s σ H x y v u Q I rx ry h hs
 obtain ⟨p,xs,i,z,rfl,rfl,hq,he,q⟩:=h
 cases rx
 obtain ⟨t,rfl⟩:=ry
 obtain ⟨its,r,pl,hz⟩:=I.list hq
 obtain ⟨j,h1,h2,h3,h4,h5⟩:=Js he
 obtain ⟨w,ew,rw'⟩:=r.get h2
 have hl:=r.length
 have hn:=EW
 have fin:EP X pins σ Q w s:=⟨z,H,I,rw',q⟩
 by_cases h0:0<=i
 ·have hj:i.toNat=j:=by
   rw [seqIndex_of h0 h5] at h1
   exact Option.some.inj h1
  exact item_listR pl.isList h0 (by omega) (by rw [hj]; simpa using ew) fin hs
 ·have hj:(i + (its.toArray.size:Int)).toNat=j:=by
   rw [seqIndex_neg (by omega) h4] at h1
   rw [aas,<- hl]
   exact Option.some.inj h1
  exact subscriptTail_builtinR (x:=w) pl.isList.typeIs slot_list_getitem.lookup
   (wpAny_getItem_list_neg (Q:=fun r s'=>r=w/\EP X pins σ Q r s') pl.isList (by omega) (by rw [aas] <;> omega) (by omega) (by rw [hj]; simpa using ew) ⟨rfl,fin⟩) hs
theorem HJ:IxR X (Qy X.K):=by
 intro value slice pins s σ H x y v u Q I rx ry h hs
 obtain ⟨p,xs,i,z,rfl,rfl,hq,he,q⟩:=h
 cases rx
 obtain ⟨t,rfl⟩:=ry
 obtain ⟨its,r,pl,hz⟩:=I.tuple hq
 obtain ⟨j,h1,h2,h3,h4,h5⟩:=Js he
 obtain ⟨w,ew,rw'⟩:=r.get h2
 have hl:=r.length
 have hn:=EW
 have fin:EP X pins σ Q w s:=⟨z,H,I,rw',q⟩
 exact subscriptTail_builtinR (x:=w) pl.typeIs slot_tuple_getitem.lookup
  (getItem_tuple (j:=j) (Q:=fun r s'=>r=w/\EP X pins σ Q r s') pl (by omega) (by omega) (by rw [aas,<- hl]; exact h1) (by simpa using ew) ⟨rfl,fin⟩) hs
theorem Ka (its:List Value) (n j:Nat) (u:Value):Obj.mapSeq (·.setIfInBounds j u) { cls:=.type "list",data:=.seq its.toArray n }={ cls:=.type "list",data:=.seq (its.set j u).toArray n }:=by
 simp [Obj.mapSeq]
theorem Inv.lst {pins:List (Addr × Obj)} {σ:St} {H:Hp} {s:Shared} {p:Addr} {xs:List V} (I:Inv X pins σ H s) (h:H p=some (.lst xs)) :
  ∃ (its:List Value) (n:Nat),Vals xs its/\s.heap.get? p=some { cls:=.type "list",data:=.seq its.toArray n }/\xs.length<=sizeLine:=by
 obtain ⟨z,its,n,r,e⟩:=I.hok p _ h
 exact ⟨its,n,r,e,z⟩
theorem Inv.lstUpd {pins:List (Addr × Obj)} {σ:St} {H:Hp} {s:Shared} {p:Addr} {xs ys:List V} {its its':List Value} {n n':Nat} {f:Obj->Obj} (I:Inv X pins σ H s) (h:H p=some (.lst xs))
  (ho:s.heap.get? p=some { cls:=.type "list",data:=.seq its.toArray n }) (hf:f { cls:=.type "list",data:=.seq its.toArray n }={ cls:=.type "list",data:=.seq its'.toArray n' }) (r:Vals ys its') (hz:ys.length<=sizeLine) (t:Nat) :
  Inv X pins σ (upd H p (.lst ys)) { s with heap:=s.heap.update p f,toks:=t }:=by
 have e:(s.heap.update p f).get? p=some { cls:=.type "list",data:=.seq its'.toArray n' }:=by
  rw [Heap.get?_update_self f ho (by rw [hf] <;> rfl),hf]
 refine I.write (x:=p) (e:=p) (by rw [h]; trivial) (.inl rfl) (fun b u hb q=>(Heap.get?_update_other _ _ (Ne.symm hb)).trans q) ⟨_,e⟩ ?_
 exact ⟨hz,its',n',r,e⟩
noncomputable def NT:V->V->V->Hp->(Hp->Prop)->Prop:=fun o i v H Q=>∃ p xs k j,o=.ref p/\i=.int k/\H p=some (.lst xs)/\ixN xs.length k=some j/\Q (upd H p (.lst (xs.set j v)))
theorem MC:Qc X NT:=by
 intro pins s σ H o i v ov iv u Q I ro ri rv h
 obtain ⟨p,xs,k,j,rfl,rfl,hp,hj,q⟩:=h
 cases ro
 obtain ⟨t,rfl⟩:=ri
 obtain ⟨its,n,r,ho,hz⟩:=I.lst hp
 obtain ⟨h1,h2,h3,h4⟩:=Jr hj
 have hl:=r.length
 have hn:=EW
 have I':Inv X pins σ (upd H p (.lst (xs.set j v))) { s with heap:=s.heap.update p (Obj.mapSeq (·.setIfInBounds j u)) } :=
  I.lstUpd hp ho (Ka its n j u) (r.set rv j) (by rw [aaw]; exact hz) s.toks
 by_cases h0:0<=k
 ·have hk:k.toNat=j:=by
   rw [seqIndex_of h0 h4] at h1
   exact Option.some.inj h1
  exact PySem.W.ki_setAt ho h0 (by omega) (by rw [aas,<- hl]; exact h4) (by rw [hk]; exact ⟨_,I',q⟩)
 ·have hk:(k + (its.toArray.size:Int)).toNat=j:=by
   rw [seqIndex_neg (by omega) h3] at h1
   rw [aas,<- hl]
   exact Option.some.inj h1
  exact PySem.W.ki_setBack ho (by omega) (by rw [aas,<- hl]; exact h3) (by omega) (by rw [hk]; exact ⟨_,I',q⟩)
theorem HK (lo hi:Option Int) (n:Nat):(sliceBounds lo hi none n).1=((HT.sIx n 0 lo:Nat):Int)/\(sliceBounds lo hi none n).2.1=((HT.sIx n n hi:Nat):Int)/\(sliceBounds lo hi none n).2.2=1:=by
 refine ⟨?_,?_,rfl⟩
 ·cases lo with
  | none=>simp [sliceBounds,HT.sIx]
  | some i =>
   simp only [sliceBounds,HT.sIx,acL,show (1:Int) > 0 by decide,if_true]
   by_cases h:i < 0
   ·simp only [h,if_true] <;> omega
   ·simp only [h,if_false] <;> omega
 ·cases hi with
  | none=>simp [sliceBounds,HT.sIx]
  | some i =>
   simp only [sliceBounds,HT.sIx,acL,show (1:Int) > 0 by decide,if_true]
   by_cases h:i < 0
   ·simp only [h,if_true] <;> omega
   ·simp only [h,if_false] <;> omega
theorem Hr (its:List Value) (lo hi:Option Int):slicePick its.toArray lo hi none=((its.drop (HT.sIx its.length 0 lo)).take (HT.sIx its.length its.length hi - HT.sIx its.length 0 lo)).toArray:=by
 obtain ⟨h1,h2,h3⟩:=HK lo hi its.toArray.size
 unfold slicePick
 rw [h1,h2,h3]
 simp only [sliceRange_one,pick_run,aas] <;> rfl
noncomputable def SN (K:PySem.W.Frag):V->Option Int->Option Int->Hp->VK->Prop:=fun x lo hi H Q=>∃ a xs,x=.ref a/\SqL K H a xs/\∀ p,H p=none->Q (.ref p) (upd H p (.lst (EY xs lo hi)))
theorem Oj:SlR X (SN X.K):=by
 intro pins s σ H x v vl vu lo hi sl Q I rx hs pl pu h
 obtain ⟨a,xs,rfl,hx,q⟩:=h
 cases rx
 obtain ⟨its,r,ht,hz⟩:=I.list hx
 have hlen:=r.length
 refine ⟨"list",_,slot_list_getitem.lookup,ht.isList.typeIs,?_⟩
 refine wpAny_getItem_list_slice ht.isList hs pl pu .none (by simp) ?_ (by rw [aas] <;> omega)
 rw [Hr,<- hlen]
 refine ⟨.ref s.heap.objs.size,_,I.laid (t':=s.toks) (o:=.lst (EY xs lo hi)) (fun b ob q=>Heap.get?_push_of_some _ q) (aan _) ?_,rfl,q _ (I.hok.fresh (aan _))⟩
 exact ⟨aat (FS xs lo hi) hz,_,0,(r.drop (HT.sIx xs.length 0 lo)).take (HT.sIx xs.length xs.length hi - HT.sIx xs.length 0 lo),Heap.get?_push_size _ rfl⟩
theorem HL:DA X (.builtin "len") (fun xs H Q=>∃ p ys,xs=[.ref p]/\(SqL X.K H p ys\/SqT X.K H p ys)/\Q (.int ys.length) H):=by
 intro pins s σ H xs us Q I r h
 obtain ⟨p,ys,rfl,hq,q⟩:=h
 obtain ⟨u,rfl,rx⟩:=Gk r
 cases rx
 have hn:=EW
 rcases hq with hq | hq
 ·obtain ⟨its,r',pl,hz⟩:=I.list hq
  have hlen:=r'.length
  exact Calls.call_len_list pl.isList (by simp only [aas] <;> omega) ⟨.int ys.length,H,I.tok _,⟨s.toks + 1,by rw [aas,hlen]⟩,q⟩
 ·obtain ⟨its,r',pl,hz⟩:=I.tuple hq
  have hlen:=r'.length
  exact len_tuple pl (by simp only [aas] <;> omega) ⟨.int ys.length,H,I.tok _,⟨s.toks + 1,by rw [aas,hlen]⟩,q⟩
theorem HM:DA X (.type "list") (fun xs H Q=>∃ p ys,xs=[.ref p]/\(SqL X.K H p ys\/SqT X.K H p ys)/\∀ l,H l=none->Q (.ref l) (upd H l (.lst ys))):=by
 intro pins s σ H xs us Q I r h
 obtain ⟨p,ys,rfl,hq,q⟩:=h
 obtain ⟨u,rfl,rx⟩:=Gk r
 cases rx
 have fin:∀ (its:List Value),Vals ys its->ys.length<=sizeLine->∀ (h':Heap) (c':Nat),(∀ b o',s.heap.get? b=some o'->h'.get? b=some o') ->
   h'.get? s.heap.objs.size=some { cls:=.type "list",dict:=none,data:=.seq its.toArray c',slots:=#[] }->EP X pins σ Q (.ref s.heap.objs.size) { s with heap:=h' }:=fun its r' hz h' c' kp e =>
  ⟨.ref s.heap.objs.size,_,I.laid (t':=s.toks) kp (aan _) (show ObjOk X.prog X.w _ h' _ (.lst ys) from ⟨hz,its,c',r',e⟩),rfl,q _ (I.hok.fresh (aan _))⟩
 rcases hq with hq | hq
 ·obtain ⟨its,r',pl,hz⟩:=I.list hq
  have hlen:=r'.length
  obtain ⟨o,ho,hc,n,hd⟩:=pl.isList
  exact call_list_seq p (.inl rfl) ho hc hd (fun h' c' kp e=>fin its r' hz h' c' kp e) (by simp only [aas] <;> omega)
 ·obtain ⟨its,r',pl,hz⟩:=I.tuple hq
  have hlen:=r'.length
  obtain ⟨o,ho,hc,n,hd⟩:=pl
  exact call_list_seq p (.inr rfl) ho hc hd (fun h' c' kp e=>fin its r' hz h' c' kp e) (by simp only [aas] <;> omega)
noncomputable def tyV (K:PySem.W.Frag) (T:String) (x:V) (H:Hp):Prop:=match x with
 | .str _=>T = "str"
 | .int _=>T = "int"
 | .ref p=>(T = "list" /\ ∃ xs,SqL K H p xs)\/(T = "tuple" /\ ∃ o,K.lookup p=some o/\o.cls=.type "tuple" /\ o.dict=none) \/
   (T = "dict" /\ ((∃ kvs,H p=some (.dK kvs))\/∃ kvs,H p=some (.dT kvs)))\/(T = "set" /\ ∃ S n,H p=some (.set S n))
 | _=>False
theorem Li {pins:List (Addr × Obj)} {σ:St} {H:Hp} {s:Shared} {T:String} {x:V} {v:Value} (I:Inv X pins σ H s) (r:RelV x v) (ty:tyV X.K T x H) :
  s.TypeIs v T/\∀ a,v=.ref a->∃ ob,s.heap.get? a=some ob/\ob.dict=none:=by
 cases x with
 | str z =>
  obtain ⟨t,rfl⟩:=r
  cases (show T = "str" from ty)
  exact ⟨typeIs_str s z t,fun _ e=>nomatch e⟩
 | int i =>
  obtain ⟨t,rfl⟩:=r
  cases (show T = "int" from ty)
  exact ⟨typeIs_int s i t,fun _ e=>nomatch e⟩
 | ref p =>
  cases r
  rcases ty with ⟨rfl,xs,hq⟩ | ⟨rfl,o,hk,hc,hd⟩ | ⟨rfl,hk⟩ | ⟨rfl,S,n,hk⟩
  ·obtain ⟨its,_,pl,_⟩:=I.list hq
   refine ⟨pl.isList.typeIs,fun a e=>?_⟩
   cases e
   obtain ⟨o,n,e,c,hd,_⟩:=pl
   exact ⟨o,e,hd⟩
  ·refine ⟨⟨o,I.kIn p o hk,hc⟩,fun a e=>?_⟩
   cases e
   exact ⟨o,I.kIn _ o hk,hd⟩
  ·have z:∃ o,s.heap.get? p=some o/\o.ExactDict:=by
    rcases hk with ⟨kvs,hk⟩ | ⟨kvs,hk⟩
    ·obtain ⟨_,_,_,_,o,_,_,e,ex,_⟩:=I.hok p _ hk
     exact ⟨o,e,ex⟩
    ·obtain ⟨_,_,_,_,o,_,_,e,ex,_⟩:=I.hok p _ hk
     exact ⟨o,e,ex⟩
   obtain ⟨o,e,ex⟩:=z
   refine ⟨⟨o,e,ex.1⟩,fun a e2=>?_⟩
   cases e2
   exact ⟨o,e,ex.2.1⟩
  ·obtain ⟨o,_,_,_,e,ex,_⟩:=I.hok p _ hk
   refine ⟨⟨o,e,ex.1⟩,fun a e2=>?_⟩
   cases e2
   exact ⟨o,e,ex.2.1⟩
 | _=>exact False.elim ty
noncomputable def SO (K:PySem.W.Frag) (T:String) (r:V->List V->Hp->VK->Prop) (to:TE):TE:=fun σ H Q=>to σ H fun x H1=>tyV K T x H1/\r x [] H1 Q
noncomputable def tBM (K:PySem.W.Frag) (T:String) (r:V->List V->Hp->VK->Prop) (to:TE) (t:TA):TE:=fun σ H Q=>to σ H fun x H1=>tyV K T x H1/\t σ H1 fun xs H2=>r x xs H2 Q
variable {o e:Expr} {es:List Expr} {to:TE} {t:TA} {name:Str} {apos cpos:Pos} {T id:String} {r:V->List V->Hp->VK->Prop}
theorem Qz (pa:PlainAttrs T) (slot:Slot T name id) (hty:typeOf (.builtin id)=pure (.type "method_descriptor")) (hm:MtR X id r) (ho:PE X o to)
  (hbase:attributeBase o name X.env (eval o X.env)=eval o X.env:=by rfl) (hline:(apos.endLine==cpos.line)=true:=by rfl):PE X (.Call (.Attribute o name apos) [] [] cpos) (SO X.K T r to):=by
 intro pins s σ H Q I h
 refine wpAny_Call_method0_late hbase hline (thn (ho pins s σ H _ I h) fun v s1 ⟨x,H1,I1,r1,ty,q1⟩=>?_)
 obtain ⟨h1,h2⟩:=Li I1 r1 ty
 exact ⟨T,id,pa,slot,hty,h1,h2,Calls.callWith_builtin rfl (PySem.evalArgs_none (hm pins s1 σ H1 x [] v [] Q I1 r1 .nil q1))⟩
theorem Kb (pa:PlainAttrs T) (slot:Slot T name id) (hty:typeOf (.builtin id)=pure (.type "method_descriptor")) (hm:MtR X id r) (ho:PE X o to) (ha:PA X (e :: es) t)
  (hbase:attributeBase o name X.env (eval o X.env)=eval o X.env:=by rfl)
  (hfew:((backTo cpos (starEach (e :: es) X.env)).all (fun x=>!x.1) && (backToKw cpos (keywordEach [] X.env)).all (fun x=>x.1.isSome)
   && decide ((e :: es).length + ([]:List Keyword).length + (if ([]:List Keyword).isEmpty then 0 else 1) < 30))=true:=by rfl)
  (hline:(apos.endLine==cpos.line)=true:=by rfl) (hs:starEach (e :: es) X.env=(false,eval e X.env) :: starEach es X.env:=by rfl) (hplain:(backTo cpos (starEach es X.env)).any (·.1)=false:=by rfl) :
  PE X (.Call (.Attribute o name apos) (e :: es) [] cpos) (tBM X.K T r to t):=by
 intro pins s σ H Q I h
 refine wpAny_Call_method_late hbase hfew hline rfl (thn (ho pins s σ H _ I h) fun v s1 ⟨x,H1,I1,r1,ty,q1⟩=>?_)
 obtain ⟨h1,h2⟩:=Li I1 r1 ty
 refine ⟨T,id,pa,slot,hty,h1,h2,?_⟩
 have hA:=ha cpos pins s1 σ H1 _ I1 q1
 rw [hs] at hA ⊢
 refine Calls.callWith_builtin (by show (false || (backTo cpos (starEach es X.env)).any (·.1))=false; rw [hplain] <;> rfl) (Calls.evalArgs_plain ?_)
 exact thn hA fun us s2 ⟨vs,H2,I2,r2,q2⟩=>hm pins s2 σ H2 x vs v us Q I2 r1 r2 q2
/- xs.append(e),list.index on a module's tuple .. are MtR facts of 06m -/
end
noncomputable def MtM (X:Cx) (id:String) (r:V->List V->Hp->VK->Prop):Prop :=
 ∀ (pins:List (Addr × Obj)) (s:Shared) (σ:St) (H:Hp) (x:V) (xs:List V) (v:Value) (us:List Value) (Q:VK),Inv X pins σ H s->RelV x v->Vals xs us->r x xs H Q ->
  wpAny (model X.prog X.w) X.A (call (.builtin id) (v :: us)) (EP X pins σ Q) X.xe s
theorem Vals.one:∀ {x:V} {us:List Value},Vals [x] us->∃ u,us=[u]/\RelV x u
 | _,_,.cons r .nil=>⟨_,rfl,r⟩
theorem Vals.zero:∀ {us:List Value},Vals [] us->us=[]
 | _,.nil=>rfl
theorem Vals.dropLast {xs:List V} {us:List Value} (h:Vals xs us):Vals xs.dropLast us.dropLast:=by
 induction h with
 | nil=>exact .nil
 | cons r t ih =>
  cases t with
  | nil=>exact .nil
  | cons q t'=>exact .cons r ih
theorem Vals.eraseIdx:∀ {xs:List V} {us:List Value} (i:Nat),Vals xs us->Vals (xs.eraseIdx i) (us.eraseIdx i)
 | _,_,_,.nil=>.nil
 | _,_,0,.cons _ t=>t
 | _,_,i + 1,.cons r t=>.cons r (Vals.eraseIdx i t)
theorem Vals.reverse {xs:List V} {us:List Value} (h:Vals xs us):Vals xs.reverse us.reverse:=by
 induction h with
 | nil=>exact .nil
 | cons r t ih=>rw [acb,acb]; exact Vals.append ih (.cons r .nil)
theorem Vals.rep {xs:List V} {us:List Value} (h:Vals xs us):∀ k:Nat,Vals (aak k xs).flatten (aak k us).flatten
 | 0=>.nil
 | k + 1=>by
  rw [abe,abe,aby,aby]
  exact Vals.append h (Vals.rep h k)
theorem Hi (its:List Value):∀ (k:Nat) (acc:List Value),
  acM (fun x1 x2=>x1 ++ x2) acc.toArray (aak k its.toArray)=(acc ++ (aak k its).flatten).toArray
 | 0,acc=>by simp
 | k + 1,acc=>by
  have e:acc.toArray ++ its.toArray=(acc ++ its).toArray:=by simp
  have e2:(acc ++ its) ++ (aak k its).flatten=acc ++ (aak (k + 1) its).flatten:=by
   rw [abe,aby,List.append_assoc]
  rw [<- e2,<- Hi its k (acc ++ its),<- e,abe,abZ]
section
variable {X:Cx} {pins:List (Addr × Obj)} {σ:St} {H:Hp} {s:Shared} {l b:Addr} {xs ys zs:List V}
theorem Inv.lset {its its':List Value} {n:Nat} {f:Array Value->Array Value} {t':Nat} (I:Inv X pins σ H s) (hH:H l=some (.lst xs))
  (e:s.heap.get? l=some { cls:=.type "list",data:=.seq its.toArray n }) (hf:f its.toArray=its'.toArray) (hv:Vals ys its') (hz:ys.length<=sizeLine) :
  Inv X pins σ (upd H l (.lst ys)) { s with heap:=s.heap.update l (Obj.mapSeq f),toks:=t' }:=by
 have q:=PySem.IsL.update e f
 rw [hf] at q
 refine I.write (x:=l) (e:=l) (by rw [hH]; exact trivial) (.inl rfl) (fun b' u hb hu=>(Heap.get?_update_other s.heap (Obj.mapSeq f) (Ne.symm hb)).trans hu) ⟨_,q⟩ ?_
 exact ⟨hz,its',_,hv,q⟩
theorem Inv.lnew {its:List Value} {t':Nat} (I:Inv X pins σ H s) (hv:Vals ys its) (hz:ys.length<=sizeLine) :
  Inv X pins σ (upd H s.heap.objs.size (.lst ys)) { s with heap:=s.heap.push { cls:=.type "list",data:=.seq its.toArray },toks:=t' } :=
 I.laid (fun _ _ q=>Heap.get?_push_of_some _ q) (aan _) ⟨hz,its,0,hv,Heap.get?_push_size _ rfl⟩
theorem Inv.fresh (I:Inv X pins σ H s):H s.heap.objs.size=none:=I.hok.fresh (aan _)
theorem Inv.lstM (I:Inv X pins σ H s) (hH:H l=some (.lst xs)):xs.length<=sizeLine/\∃ (its:List Value) (n:Nat),Vals xs its/\xs.length=its.length/\s.heap.get? l=some { cls:=.type "list",data:=.seq its.toArray n }:=by
 obtain ⟨z,its,n,r,e⟩:=I.hok l _ hH
 exact ⟨z,its,n,r,r.length,e⟩
theorem HN {n:Nat} (h:n<=sizeLine):Builtin.List.listTooLong n=false:=by
 unfold Builtin.List.listTooLong
 exact decide_eq_false (by omega)
end
section
variable {X:Cx}
noncomputable def Fu:V->List V->Hp->VK->Prop:=fun x vs H Q=>∃ l xs y,x=.ref l/\vs=[y]/\H l=some (.lst xs)/\xs.length < sizeLine/\Q .non (upd H l (.lst (xs ++ [y])))
theorem D9:MtM X "list.append" Fu:=by
 intro pins s σ H x vs v us Q I rx rv h
 obtain ⟨l,xs,y,rfl,rfl,hH,hz,q⟩:=h
 cases rx
 obtain ⟨u,rfl,ru⟩:=rv.one
 obtain ⟨z,its,n,r,hl,e⟩:=I.lstM hH
 refine call_meets F.slot_list_append ⟨_,e,rfl⟩ F.entry_list_append (F.args_list_append_2 _ _) (PySem.list_append l its.toArray n u (by rw [aas]; omega)) ⟨e,?_⟩
 refine ⟨.non,_,I.lset (its':=its ++ [u]) hH e (by simp) (r.append (.cons ru .nil)) ?_,rfl,q⟩
 rw [aaG,abB]
 omega
noncomputable def Lj:V->List V->Hp->VK->Prop:=fun x vs H Q=>∃ l xs,x=.ref l/\vs=[]/\H l=some (.lst xs)/\Q .non (upd H l (.lst []))
theorem MD:MtM X "list.clear" Lj:=by
 intro pins s σ H x vs v us Q I rx rv h
 obtain ⟨l,xs,rfl,rfl,hH,q⟩:=h
 cases rx
 have hus:=rv.zero
 subst hus
 obtain ⟨z,its,n,r,hl,e⟩:=I.lstM hH
 refine call_meets F.slot_list_clear ⟨_,e,rfl⟩ F.entry_list_clear (F.args_list_clear_1 _) (AutoSeq1.list_clear_list_0 l its.toArray n (by rw [aas]; omega)) ⟨e,?_⟩
 exact ⟨.non,_,I.lset (its':=[]) (ys:=[]) hH e rfl .nil (aay _),rfl,q⟩
theorem Ol {α:Type} (xs:List α) (k:Nat):(aak k xs).flatten.length=k * xs.length:=by
 induction k with
 | zero=>simp
 | succ k ih=>rw [abe,aby,aaG,ih,abC,ace]
end
end L2
namespace Att
open PySem PySem.W PySem.Calls PyProof.Rows
theorem Go {P:Params} {h:Heap}:∀ (ns:List Int) (vs:List Value),WellAll P h vs (ns.map WData.int)->IntsAre vs ns:=by
 intro ns
 induction ns with
 | nil =>
  intro vs w
  rw [abA] at w
  cases w
  exact .nil
 | cons n ns ih =>
  intro vs w
  rw [aa7] at w
  cases w with
  | cons a b =>
   cases a
   exact .cons _ _ (ih _ b)
theorem Lk {l:OpenLaw} {n:Nat} (hn:l.most=some n) {P:Params} {h:Heap} {args:List WData} {vals:List Value}
  (hpre:l.row.toRowW.claim.pre args=true) (hwl:WellAll P h vals args) :
  ∃ a vs ns,vals=[Value.ref a]/\args=[WData.list (ns.map WData.int)]/\h.get? a=some { cls:=.type "list",data:=.seq vs.toArray }/\IntsAre vs ns/\ns.length<=n:=by
 have hsh:WShape.hasAll [] args [.list .int]=true:=(pre_splitW hpre).1
 have hc:l.pre.holds [] { args:=args }=true:=(pre_splitW hpre).2
 obtain ⟨d,r,rfl,h1,h2⟩:=hasAllW_cons hsh
 obtain rfl:=hasAllW_nil h2
 obtain ⟨xs,rfl,h3⟩:=hasW_list h1
 obtain ⟨ns,rfl⟩:=items_int h3
 have hlen:ns.length<=n:=by
  unfold OpenLaw.pre at hc
  have h4:(WTm.not (.lt (.lit (.int (n:Int))) (.len (.arg 0)))).holds [] { args:=[.list (ns.map .int)] }=true:=by
   have h4:=(holds_andW hc).1
   rw [hn] at h4
   exact h4
  have h5:=condW_of h4 (w_not (w_lt w_lit (w_len_list (w_arg rfl))))
  rw [aab] at h5
  refine abf fun q=>?_
  have q':(n:Int) < ((ns.length:Nat):Int):=by omega
  first
   | (rw [decide_eq_true q'] at h5; exact absurd h5 (by decide))
   | (simp at h5; omega)
 cases hwl with
 | cons w1 w2 =>
  cases w2
  cases w1 with
  | list ho hall=>exact ⟨_,_,ns,rfl,rfl,ho,Go ns _ hall,hlen⟩
theorem Ll (l:OpenLaw) (args:List WData):l.row.toRowW.claim.post args (.bool true) args=true :=
 postW_of (r:=l.row.toRowW) (X:=(true==true))
  (show WShape.has [] (.bool true) .bool=true by first | rfl | decide | simp [WShape.has,WShape.arms,WShape.armsAll])
  (show (WTm.eq .res (.lit (.bool true))).value [] { args:=args,res:=some (.bool true),after:=args }=some (.bool (true==true)) from w_eq_bool (w_res rfl) w_lit) rfl
theorem attach_call {l:OpenLaw} {n:Nat} {q:Program} {loose:List Str} {XP:(Str->Option Value)->Heap->Prop} {YP:World->Heap->Prop} {d:DefRec}
  (hn:l.most=some n) (hdf:d.params.defaults=[])
  (call:∀ (w:World) (s₀ s₁:Shared) (mg mb:Str->Option Value) (fa:Addr) (o:Obj) (pm cd doc:Value) (a:Addr) (vs:List Value) (ns:List Int),
   Ground q loose [] XP w s₀ mg mb s₁.heap->YP w s₁.heap ->
   s₁.heap.get? fa=some o->o.data=.func (docDef d.name d.params d.body d.scope pm cd doc)->s₁.heap.CodeRec cd d.name->mg d.name=some (.ref fa) ->
   s₁.heap.get? a=some { cls:=.type "list",data:=.seq vs.toArray }->IntsAre vs ns->ns.length<=n->s₁.gens=#[] ->
   codeAny (model l.prog w) callerA (.call (.ref fa) ⟨[.ref a],[]⟩) (fun r s'=>r=.ok (.ret (.bool true))/\OldK s₁.heap s'.heap/\s'.os=s₁.os/\AllBare s'.gens) s₁) :
  WalkO q loose XP YP l.row.toRowW d [] (fun f vs=>PySem.call f vs):=by
 intro w s₀ s₁ mg mb G Y fa o pm cd doc dV kV ho hd hcd hD hmg hg args vals as hpre hlay hrd hwl hlo
 obtain rfl:dV=.none:=Dflts.none hD hdf
 obtain rfl:kV=.none:=Dflts.noKw hD
 obtain ⟨a,vs,ns,rfl,rfl,hobj,hints,hlen⟩:=Lk hn hpre hwl
 refine enter_call (codeAny_mono (call w s₀ s₁ mg mb fa o pm cd doc a vs ns G Y ho (fd_plain hd) hcd hmg hobj hints hlen hg) fun r s' hq=>?_)
 obtain ⟨rfl,h2,h3,h4⟩:=hq
 exact ⟨.inl ⟨.bool true,.bool true,[],rfl,fun _=>rfl,.bool true,Ll l _,fun _=>⟨List.Pairwise.nil,fun _ hm=>(nomatch hm)⟩⟩,h2,h3,h4⟩
end Att
namespace L2
open PySem PySem.Spec PyProof.Rows
theorem Hj:∀ {vs:List Value} {ns:List Int},IntsAre vs ns->Vals (ns.map V.int) vs
 | _,_,.nil=>.nil
 | _,_,.cons n t h=>.cons ⟨t,rfl⟩ (Hj h)
noncomputable def ME (H:Hp):Prop:=∀ b,H b=none\/∃ o xs,H b=some (.frz o (.lst xs))
theorem MF {P:Program} {w:World} {K:PySem.W.Frag} {mg mb:Str->Option Value} {CX:CXT} {k:Nat} {fa a:Addr} {fd:FuncData} {x:Str} {sp:Sp} {s₁:Shared} {vs:List Value} {ns:List Int}
  (KX:K.In s₁.heap) (hns:s₁.heap.Ns mainGlobals mg) (hb:s₁.heap.Ns builtinsNs mb) (hbb:∀ x:Str,x ≠ "__name__" -> mb x=bootBuiltins x) (hlim:s₁.heap.NoLimit) (hg:s₁.gens=#[])
  (ha:s₁.heap.get? a=some { cls:=.type "list",data:=.seq vs.toArray }) (hi:IntsAre vs ns) (hl:ns.length<=sizeLine) (hr:Room k callerA)
  (F:∀ base:Heap,K.In base->base.Ns mainGlobals mg->FnOk P w K mg base CX k fa fd [x] sp) (hbind:∀ (s:Shared) (u:Value),BindsTo s fd ⟨[u],[]⟩ [(x,u)])
  (hsp:∀ H:Hp,ME H->SqL K H a (ns.map V.int)->sp [.ref a] H (fun v _=>v=.bl true) fun _ _ _=>False)
  (hCX:∀ H e s',CX [] H s₁ (fun _ _ _=>False) e s'->False) :
  codeAny (model P w) callerA (.call (.ref fa) ⟨[.ref a],[]⟩) (fun r s'=>r=.ok (.ret (.bool true))/\OldK s₁.heap s'.heap/\s'.os=s₁.os/\AllBare s'.gens) s₁:=by
 have rv:=Hj hi
 have lenV:=hi.length
 have core:∀ H:Hp,ME H->SqL K H a (ns.map V.int)->HOk P w H s₁.heap->(∀ b,H b ≠ none->b=a)->(H a ≠ none->K.lookup a=none) ->
   codeAny (model P w) callerA (.call (.ref fa) ⟨[.ref a],[]⟩) (fun r s'=>r=.ok (.ret (.bool true))/\OldK s₁.heap s'.heap/\s'.os=s₁.os/\AllBare s'.gens) s₁:=by
  intro H hO hS hok hA hK
  have base_of:∀ {b:Addr} {o:Obj},s₁.heap.get? b=some o->H b=none->(ED s₁.heap H).get? b=some o:=fun e n=>Mo e n
  have noA:∀ {b:Addr} {o:Obj} {es:Array DictEntry} {ep:Nat},s₁.heap.get? b=some o->o.data=.dict es ep->H b=none:=fun {b o es ep} e d=>by
   cases q:H b with
   | none=>rfl
   | some u =>
    have e':b=a:=hA b (by rw [q]; simp)
    subst e'
    rw [ha] at e; cases e
    have d':Data.seq vs.toArray _=Data.dict es ep:=d
    cases d'
  have nsK:∀ {b:Addr} {m:Str->Option Value},s₁.heap.Ns b m->(ED s₁.heap H).Ns b m:=fun {b m} ⟨o,es,ep,e,d,r⟩=>⟨o,es,ep,base_of e (noA e d),d,r⟩
  have hKb:K.In (ED s₁.heap H):=fun b o e=>base_of (KX b o e) (by
   cases q:H b with
   | none=>rfl
   | some u =>
    have e':b=a:=hA b (by rw [q]; simp)
    subst e'
    rw [hK (by rw [q]; simp)] at e; cases e)
  have hM:Mod K mg (ED s₁.heap H):=⟨hKb,nsK hns,⟨mb,nsK hb,hbb⟩,let ⟨mc,h1,h2⟩:=hlim; ⟨mc,nsK h1,h2⟩⟩
  have e0:Env0 P w K mg (ED s₁.heap H) callerA [] s₁ H:=⟨rfl,hM,fun b o e=>N9 e,acz (KT _ _),trivial,fun b hb=>absurd (show b ∈ ([]:List Addr) from hb) (by simp),hok,.of_eq hg⟩
  refine codeAny_mono ((F _ hKb (nsK hns)).run callerA [] s₁ H ⟨[.ref a],[]⟩ [.ref a] [.ref a] _ _ hr e0 (hbind s₁ (.ref a)) (.cons rfl .nil) (hsp H hO hS)) fun r s' h=>?_
  cases r with
  | error e=>exact (hCX H e s' h).elim
  | ok fl =>
   cases fl with
   | next=>exact False.elim h
   | brk=>exact False.elim h
   | cont=>exact False.elim h
   | ret u =>
    obtain ⟨v,H',os,bare,un,hok',r',q⟩:=h
    have q':v=.bl true:=q
    subst q'
    obtain rfl:u=Value.bool true:=r'
    refine ⟨rfl,OldK.of_keep fun b o e=>?_,os,bare⟩
    cases q:H b with
    | none=>exact un.keep b o e q (by intro z; exact absurd (show b ∈ ([]:List Addr) from z) (by simp)) (by simp)
    | some u =>
     rcases hO b with z | ⟨ob,xs,z⟩
     ·rw [q] at z; cases z
     ·have z2:=un.frzs b ob _ z
      obtain ⟨e1,_⟩:=hok b _ z
      obtain ⟨e2,_⟩:=hok' b _ z2
      rw [e] at e1; cases e1
      exact e2
 cases hk:K.lookup a with
 | some o =>
  have e:=KX a o hk
  rw [ha] at e
  cases e
  refine core (fun _=>none) (fun _=>.inl rfl) (.inr ⟨_,vs.toArray,_,hk,rfl,rfl,rfl,by rw [aas,lenV]; exact hl,by simpa using rv⟩) (fun b u z=>by have z':(none:Option HO)=some u:=z; cases z') (fun b z=>absurd rfl z) fun z=>absurd rfl z
 | none =>
  refine core (fun b=>if b=a then some (.frz { cls:=.type "list",data:=.seq vs.toArray } (.lst (ns.map V.int))) else none) (fun b=>?_) (.inl (.inr ⟨{ cls:=.type "list",data:=.seq vs.toArray },if_pos rfl⟩)) (fun b u z=>?_) (fun b z=>?_) fun _=>hk
  ·by_cases hb:b=a
   ·exact .inr ⟨_,_,if_pos hb⟩
   ·exact .inl (if_neg hb)
  ·by_cases hb:b=a
   ·have z':=(if_pos hb).symm.trans z
    cases z'
    subst hb
    exact ⟨ha,by rw [aab]; exact hl,vs,_,rv,ha⟩
   ·have z':=(if_neg hb).symm.trans z
    cases z'
  ·by_cases hb:b=a
   ·exact hb
   ·exact absurd (if_neg hb) z
theorem Om {l:PySem.W.OpenLaw} {n k:Nat} {q:Program} {loose:List Str} {XP:(Str->Option Value)->Heap->Prop} {YP:World->Heap->Prop} {d:DefRec} {K:Params->PySem.W.Frag} {CX:World->CXT} {sp:World->Sp} {x:Str}
  (hn:l.most=some n) (hn2:n<=sizeLine) (hdf:d.params.defaults=[]) (hr:Room k callerA)
  (hY:∀ (w:World) (h:Heap),YP w h->(K w.params).In h)
  (F:∀ (w:World) (mg:Str->Option Value) (fa:Addr) (h:Heap),(K w.params).In h->h.Ns mainGlobals mg->mg d.name=some (.ref fa) ->
   ∃ fd:FuncData,(∀ (s:Shared) (u:Value),BindsTo s fd ⟨[u],[]⟩ [(x,u)]) /\
    ∀ base:Heap,(K w.params).In base->base.Ns mainGlobals mg->FnOk l.prog w (K w.params) mg base (CX w) k fa fd [x] (sp w))
  (hsp:∀ (w:World) (H:Hp) (a:Addr) (ns:List Int),ns.length<=n->ME H->SqL (K w.params) H a (ns.map V.int)->sp w [.ref a] H (fun v _=>v=.bl true) fun _ _ _=>False)
  (hCX:∀ (w:World) (H:Hp) (s:Shared) (e:Value) (s':Shared),CX w [] H s (fun _ _ _=>False) e s'->False) :
  PySem.W.WalkO q loose XP YP l.row.toRowW d [] (fun f vs=>PySem.call f vs):=by
 refine Att.attach_call hn hdf fun w s₀ s₁ mg mb fa o pm cd doc a vs ns G Y ho hd hcd hmg hobj hints hlen hg=>?_
 have KX:=hY w _ Y
 obtain ⟨fd,hb,hF⟩:=F w mg fa _ KX G.T.g hmg
 exact MF KX G.T.g G.T.b G.T.builtins G.T.nolimit hg hobj hints (aat hlen hn2) hr hF hb (fun H hO hS=>hsp w H a ns hlen hO hS) fun H e s'=>hCX w H s₁ e s'
noncomputable def BJ (s:Stmt):Arguments:=match s with
 | .FunctionDef _ a _ _ _ _ _ _ _ _=>a
 | _=>{ posonlyargs:=[],args:=[],vararg:=none,kwonlyargs:=[],kw_defaults:=[],kwarg:=none,defaults:=[] }
noncomputable def Aw (s:Stmt):List Stmt:=match s with
 | .FunctionDef _ _ b _ _ _ _ _ _ _=>b
 | _=>[]
noncomputable def Af (s:Stmt):Scope:=match s with
 | .FunctionDef _ _ _ _ _ _ sc _ _ _=>sc
 | _=>{ kind:=.function,names:=[],isGenerator:=false,isCoroutine:=false }
structure Fun (K:PySem.W.Frag) (x qual:Str) (st:Stmt) (f:Addr) (fd:FuncData):Prop where
 ex:∃ (oc:Value) (od:Option Addr) (kV doc pm:Value) (an:Option Addr) (cdv ct:Value) (osl:Array (Option Value)),
  fd=PySem.W.fnOf x qual (BJ st) (Aw st) (Af st) .none kV doc pm an cdv ct/\K.lookup f=some ⟨oc,od,.func fd,osl⟩/\PySem.W.codeIn K cdv qual=true
 kp:PySem.W.keepIn K (.ref f)=true
section
variable {P:Program} {w:World} {K:PySem.W.Frag} {mg:Str->Option Value} {base:Heap}
theorem Fun.binds {x qual:Str} {st:Stmt} {f:Addr} {fd:FuncData} {ps:List Str} (F:Fun K x qual st f fd)
  (h:∀ (kV doc pm:Value) (an:Option Addr) (cdv ct:Value) (us:List Value),us.length=ps.length->bindArgs (PySem.W.fnOf x qual (BJ st) (Aw st) (Af st) .none kV doc pm an cdv ct) ⟨us,[]⟩=pure (ps.zip us)):Binds K fd ps []:=by
 obtain ⟨oc,od,kV,doc,pm,an,cdv,ct,osl,rfl,lk,hcd⟩:=F.ex
 exact .all (h kV doc pm an cdv ct)
theorem Lm {x qual:Str} {st:Stmt} {f:Addr} {oc:Value} {od an:Option Addr} {osl:Array (Option Value)} {kV doc pm cdv ct:Value} (l:K.lookup f=some ⟨oc,od,.func (PySem.W.fnOf x qual (BJ st) (Aw st) (Af st) .none kV doc pm an cdv ct),osl⟩)
  (c:PySem.W.codeIn K cdv qual=true) (k:PySem.W.keepIn K (.ref f)=true):Fun K x qual st f (PySem.W.fnOf x qual (BJ st) (Aw st) (Af st) .none kV doc pm an cdv ct):=⟨⟨oc,od,kV,doc,pm,an,cdv,ct,osl,rfl,l,c⟩,k⟩
end
noncomputable def Same (H H':Hp):Prop:=∀ b o,H b=some o->H' b=some o
theorem Same.refl (H:Hp):Same H H:=fun _ _ h=>h
theorem Same.trans {H H1 H2:Hp} (a:Same H H1) (b:Same H1 H2):Same H H2:=fun c o h=>b c o (a c o h)
theorem Same.free {H H':Hp} (e:Same H H') {l:Addr} (h:H' l=Option.none):H l=Option.none:=by
 cases q:H l with
 | none=>rfl
 | some o =>
  rw [e l o q] at h
  cases h
theorem Same.seq {K:PySem.W.Frag} {H H':Hp} {a:Addr} {xs:List V} (e:Same H H') (h:SqL K H a xs):SqL K H' a xs:=by
 rcases h with (h | ⟨o,h⟩) | h
 ·exact .inl (.inl (e _ _ h))
 ·exact .inl (.inr ⟨o,e _ _ h⟩)
 ·exact .inr h
end L2
end
section
set_option maxHeartbeats 1000000
namespace L2
open PySem PySem.Spec PyProof.Rows PySem.W
section
variable {prog:Program} {w:World} {A:Around} {E:Value->Shared->Prop} {s:Shared} {K:Frag} {e C:Addr} {ox:Obj}
structure XCls (K:Frag) (C:Addr):Prop where
 ga:findIn K (.ref C) "__getattribute__" = some (some (.builtin "BaseException.__getattribute__"))
 gn:findIn K (.ref C) "__getattr__" = some none
 sb:subIn K (.ref C) (.type "BaseException")=some true
 cl:findIn K (.ref C) "__class__" = some (some (.builtin "object.__class__"))
 mo:mroIn K C (.type "object")=some true
 ty:typeIn K (.ref C)=some (.type "type")
 cc:(clsIn K C).isSome=true
noncomputable def XAt (e C:Addr) (h:Heap):Prop:=∃ oe,h.get? e=some oe/\oe.cls=.ref C
theorem XAt.type {M:Model} {h:Heap} (I:XAt e C h):Looks M h (typeOf (.ref e)) (.ref C):=by
 obtain ⟨oe,h1,h2⟩:=I
 exact h2 ▸ (Looks.ld h1).andThen .now
theorem QA {R:Result->Shared->Prop} (X:K.In s.heap) (I:XAt e C s.heap) (c:XCls K C) (h:R (.ok (.ret (.ref C))) s) :
  codeAny (model prog w) A (.call (.builtin "getset_descriptor.__get__") ⟨[.builtin "object.__class__",.ref e,.ref C],[]⟩) R s:=by
 obtain ⟨hh,g,d,t,os⟩:=s
 have hT5:(⟨hh,g,d,t,os⟩:Shared).TypeIs (.builtin "object.__class__") "getset_descriptor" := F.typeOf_object_class
 have L0:=I.type (M:=model prog w)
 have L1:=looks_mroIn (M:=model prog w) X c.mo
 refine codeAny_call_builtin F.slot_gs_get.plain F.entry_gs_get (F.slot_gs_get.check _ _ _ _ _ _ _ _ hT5 (F.args_gs_get _ _ _) ?_)
 repeat (any_goals (first | assumption | refine L0.at ?_ | refine L1.at ?_ | refine wpAny_bind (L0.at ?_) | refine wpAny_bind (L1.at ?_) | wp_step))
 refine ⟨Code.quiet_builtin _ (by decide +kernel),codeAny_builtin KF.entry_class ?_⟩
 unfold Builtin.«object.__class__» shownTypeOf
 repeat (any_goals (first | assumption | refine L0.at ?_ | refine wpAny_bind (L0.at ?_) | wp_step))
theorem On {tk:Tok} {R:Result->Shared->Prop} (X:K.In s.heap) (I:XAt e C s.heap) (c:XCls K C) (h:R (.ok (.ret (.ref C))) s) :
  codeAny (model prog w) A (.call (.builtin "BaseException.__getattribute__") ⟨[.ref e,.str "__class__" tk],[]⟩) R s:=by
 obtain ⟨hh,g,d,t,os⟩:=s
 have L0:=I.type (M:=model prog w)
 have LS:=looks_subIn (M:=model prog w) X c.sb
 have LI:Looks (model prog w) hh (isInstance (.ref e) (.type "BaseException")) true:=L0.andThen LS
 have LC:=looks_findIn (M:=model prog w) X c.cl
 refine codeAny_call_builtin (by decide +kernel) F.entry_bexc_ga ?_
 have hk:builtinKind "BaseException.__getattribute__" = some .slot:=by decide +kernel
 have hsplit:splitId "BaseException.__getattribute__" = some ("BaseException", "__getattribute__"):=by decide +kernel
 have ha:=F.args_bexc_ga (.ref e) (.str "__class__" tk)
 simp only [checkBuiltinCall,hk,hsplit]
 refine wpAny_bind (LI.at ?_)
 unfold argsOk at ha
 simp only [abj,aa1,if_false]
 refine wpAny_of_eq ha ?_
 have hT5:(⟨hh,g,d,t,os⟩:Shared).TypeIs (.builtin "object.__class__") "getset_descriptor" := F.typeOf_object_class
 have f5:=F.typeOf_object_class
 have f6:=F.slot_gs_get.lookup
 have f7:=F.slot_gs_set.lookup
 repeat (any_goals (first | assumption | refine L0.at ?_ | refine wpAny_bind (L0.at ?_) | refine LC.at ?_ | refine wpAny_bind (LC.at ?_) | wp_step))
 exact QA X I c (wpAny_pure h)
theorem Oo {Q:Option Value->Shared->Prop} (X:K.In s.heap) (I:XAt e C s.heap) (c:XCls K C) (h:Q (some (.ref C)) { s with toks:=s.toks + 1 }) :
  wpAny (model prog w) A (getAttr? (.ref e) "__class__") Q E s:=by
 obtain ⟨hh,g,d,t,os⟩:=s
 have L0:=I.type (M:=model prog w)
 have LG:=looks_findIn (M:=model prog w) X c.ga
 have LN:=looks_findIn (M:=model prog w) X c.gn
 have fb1:=F.excAttr_ValueError.ga.bind (.ref e)
 unfold getAttr? getAttrBy? getAttrBy
 repeat (first | refine wpAny_bind (L0.at ?_) | refine wpAny_bind (LG.at ?_) | refine wpAny_bind (LN.at ?_) | refine LN.at ?_ | wp_step)
 exact On (s:=⟨hh,g,d,t + 1,os⟩) X I c (handed_on rfl (wpAny_pure h))
theorem MG (c:XCls K C):KitX K (.ref e) (.ref C) (XAt e C) where
 ty:=fun _ _ _ I=>I.type
 it:=fun M h X _=>by
  have hc:=c.cc
  unfold clsIn at hc
  split at hc
  ·rename_i ho
   intro A' Q' E' s' k q
   unfold isType loadHead
   exact wpAny_bind (wpAny_loadPart (k _ _ (X _ _ ho)) (wpAny_pure q))
  ·cases hc
 ne:=fun h tp dd its n sl X htp=>by
  refine Bool.eq_false_iff.mpr fun q=>?_
  have e:C=tp:=Value.ref.inj (beq_iff_eq.mp q)
  subst e
  have hc:=c.cc
  unfold clsIn at hc
  split at hc
  ·rename_i ho
   have z:=(X _ _ ho).symm.trans htp
   cases z
  ·cases hc
 ca:=fun X I k=>Oo X I c k
end
noncomputable def xO (a C:Addr):HO:=.ext (XAt a C)
noncomputable def dO (a:Addr):HO:=.ext (KitAt a "dict")
inductive TyX (K:Frag) (H:Hp):V->Value->Prop where
 | dct {a:Addr} (y:H a=some (dO a)):TyX K H (.ref a) (.type "dict")
 | of {x:V} {t:Value} (y:TyOf K H x t):TyX K H x t
 | exc {a C:Addr} (y:H a=some (xO a C)) (c:XCls K C):TyX K H (.ref a) (.ref C)
noncomputable def clV:V->Option Value
 | .ty n=>some (.type n)
 | .ref C=>some (.ref C)
 | _=>none
noncomputable def SQ (K:Frag):List V->Hp->VK->Prop:=fun xs H Q=>∃ x c cv t b,xs=[x,c]/\clV c=some cv/\TyX K H x t/\kitOne K t cv=some b/\Q (.bl b) H
theorem MH {X:Cx}:DA X (.builtin "isinstance") (SQ X.K):=by
 intro pins s σ H xs us Q I r h
 obtain ⟨x,c,cv,t,b,rfl,hc,ty,e,q⟩:=h
 obtain ⟨u,w',rfl,ru,rw'⟩:=J3 r
 have ec:w'=cv:=by
  cases c with
  | ty n=>cases hc; exact rw'
  | ref C=>cases hc; exact rw'
  | _=>cases hc
 subst ec
 have fin:∀ tk,EP X pins σ Q (.bool b) { s with toks:=tk }:=fun tk=>⟨.bl b,H,I.tok tk,rfl,q⟩
 cases ty with
 | @dct a y =>
  cases (show u=Value.ref a from ru)
  exact kia_one kitx_dict I.kIn (I.hok a _ y).1 e (fun z=>nomatch z) fin
 | of y=>exact Le I ru y e fin
 | @exc a C y c =>
  cases (show u=Value.ref a from ru)
  exact kia_one (MG c) I.kIn (I.hok a _ y).1 e (fun z=>nomatch z) fin
theorem ObjOk.there {P:Program} {w:World} {H:Hp} {h:Heap} {a:Addr} {o:HO} (x:ObjOk P w H h a o):∃ ob,h.get? a=some ob:=by
 induction o with
 | lst xs=>obtain ⟨_,_,_,_,e⟩:=x; exact ⟨_,e⟩
 | tup xs=>obtain ⟨_,_,_,ob,e,_⟩:=x; exact ⟨_,e⟩
 | dK kvs=>obtain ⟨_,_,_,_,ob,_,_,e,_⟩:=x; exact ⟨_,e⟩
 | dT kvs=>obtain ⟨_,_,_,_,ob,_,_,e,_⟩:=x; exact ⟨_,e⟩
 | set S n=>obtain ⟨ob,_,_,_,e,_⟩:=x; exact ⟨_,e⟩
 | ins C dx fs=>obtain ⟨_,_,_,e,_⟩:=x; exact ⟨_,e⟩
 | own y=>exact x
 | xd fs=>obtain ⟨_,⟨od,_,_,e,_⟩,_⟩:=x; exact ⟨_,e⟩
 | rng lo hi=>obtain ⟨_,_,_,e⟩:=x; exact ⟨_,e⟩
 | frz ob u _=>exact ⟨_,x.1⟩
 | tbl ps=>exact ⟨_,x⟩
 | met f y=>exact ⟨_,x⟩
 | ext φ=>exact x.2.1
theorem HOk.hide {P:Program} {w:World} {H:Hp} {h:Heap} (x:HOk P w H h) {fs:List Addr} (hf:∀ b ∈ fs,H b=none):HOk P w H (hideAll h fs):=fun a o e =>
 (x a o e).stay (fun b u hb q=>hideAll_get _ q fun z=>by
  have n:=hf b z
  rcases hb with rfl | hb
  ·rw [n] at e; cases e
  ·rw [n] at hb; cases hb) (fun _ q=>q) fun _ _ q=>q
noncomputable def CXe (P:Program) (w:World):CXT:=fun outer H s E ev s'=>∃ (e:Addr) (cls a0:Value) (H':Hp) (B:Heap),ev=.ref e/\s'.os=s.os/\AllBare s'.gens/\Heap.FlyingW B outer e cls a0 s'.heap/\HOk P w H' B/\H' e=none /\
 (∀ b o,s.heap.get? b=some o->H b=none->b ∉ frs outer->B.get? b=some o)/\(∀ b o,s.heap.get? b=some o->H b=none->b ∈ frs outer->∃ sl,s'.heap.get? b=some { o with slots:=sl }) /\
 (∀ b o,s.heap.get? b=some o->H b=none->H' b=none)/\(∀ b o,s.heap.get? b=some o->b ∉ frs outer->∃ o',B.get? b=some o') /\
 (∀ b xs,H b=some (.tup xs)->H' b=some (.tup xs))/\(∀ b o u,H b=some (.frz o u)->H' b=some (.frz o u))/\(∀ b ps,H b=some (.tbl ps)->∃ more,H' b=some (.tbl (ps ++ more)))/\E cls none H'
noncomputable def Ke (X:Cx) (E:XK):Prop:=∀ (pins:List (Addr × Obj)) (σ:St) (H:Hp) (s:Shared) (h':Heap) (e C:Addr) (vs:List Value),Inv X pins σ H s->Heap.MadeExcOf s.heap h' e (.ref C) vs->E (.ref C) none H->X.xe (.ref e) { s with heap:=h' }
section
variable {P:Program} {w:World} {K:Frag} {mg:Str->Option Value} {base:Heap} {N:List Str} {qual:Str} {scope:Scope} {f:Addr} {cd:Value} {A:Around} {outer:List Env} {s₀:Shared} {H₀:Hp} {E E':XK}
theorem HP (hE:∀ c d H,E c d H->E' c d H):Ke (Bm (CXe P w) P w K mg base N qual scope f cd A outer s₀ H₀ E') E:=by
 intro pins σ H s h' e C vs I hx he
 show wpAny _ _ (leaving _ (.ref e)) _ _ _
 have hfr:∀ env ∈ (Bm (CXe P w) P w K mg base N qual scope f cd A outer s₀ H₀ E').stack,∀ b,env.frame=some b->b ∈ frs (Bm (CXe P w) P w K mg base N qual scope f cd A outer s₀ H₀ E').stack:=fun env h b hb=>aaP.mpr ⟨env,h,hb⟩
 have hB:=I.hok.hide I.stkFree
 have hff:=funFrames_hide I.stack hfr
 have en:H e=none:=by
  cases q:H e with
  | none=>rfl
  | some o=>obtain ⟨ob,z⟩:=(I.hok e o q).there; rw [hx.new] at z; cases z
 refine wpAny_leaves_madeW (base:=hideAll s.heap (frs (Bm (CXe P w) P w K mg base N qual scope f cd A outer s₀ H₀ E').stack)) I.ok.frames rfl (fun b o q=>of_hideAll _ q) hff hx fun h2 t fl _ _ up=>?_
 have sub:∀ b ∈ frs outer,b ∈ frs (Bm (CXe P w) P w K mg base N qual scope f cd A outer s₀ H₀ E').stack:=fun b hb=>by
  obtain ⟨env,h1,h2⟩:=aaP.mp hb
  exact aaP.mpr ⟨env,aaa _ h1,h2⟩
 have nloc:∀ b o,s₀.heap.get? b=some o->b ≠ s₀.heap.objs.size:=fun b o q z=>by
  have:=Heap.lt_size q
  exact aaS _ (z ▸ this)
 have nfr:∀ b o,s₀.heap.get? b=some o->b ∉ frs outer->b ∉ frs (Bm (CXe P w) P w K mg base N qual scope f cd A outer s₀ H₀ E').stack:=fun b o q hb z=>by
  obtain ⟨env,h1,h2⟩:=aaP.mp z
  rcases aal.mp h1 with rfl | h1
  ·exact nloc b o q (Option.some.inj h2).symm
  ·exact hb (aaP.mpr ⟨env,h1,h2⟩)
 have nx:∀ b:Addr,b ∉ (Bm (CXe P w) P w K mg base N qual scope f cd A outer s₀ H₀ E').ex:=fun b z=>absurd (show b ∈ ([]:List Addr) from z) (by simp)
 refine ⟨e,.ref C,.ref t,H,_,rfl,I.os,I.bare,fl,hB,en,fun b o q n hb=>hideAll_get _ (I.base.keep b o q n hb (nx b)) (nfr b o q hb),fun b o q n hb=>?_,fun b o q n=>I.base.free b o q n (nx b),fun b o q hb=>?_,I.base.tups,I.base.frzs,I.base.tbls,hE _ _ _ he⟩
 ·obtain ⟨sl,e1⟩:=I.base.slot b o q n hb (nx b)
  obtain ⟨⟨hn,o2,ho2,hnf⟩⟩:=And.intro (I.stack.mem (sub b hb)) trivial
  rw [e1] at ho2
  cases ho2
  obtain ⟨sl2,e2⟩:=up b _ (hx.keeps b _ e1) hnf
  exact ⟨sl2,e2⟩
 ·obtain ⟨o',e1⟩:=I.base.there b o q (nx b)
  exact ⟨o',hideAll_get _ e1 (nfr b o q hb)⟩
theorem NU (hE:∀ c d H,E c d H->E' c d H):Qu (CXe P w) (Bm (CXe P w) P w K mg base N qual scope f cd A outer s₀ H₀ E') E:=by
 intro pins σ H s ev s' I h
 obtain ⟨e,cls,a0,H',B,rfl,ho,hg,fl,hok,en,keep,slot,free,there,tups,frzs,tbls,he⟩:=h
 show wpAny _ _ (leaving _ (.ref e)) _ _ _
 refine wpAny_leaves_onW (base:=B) I.ok.frames rfl fl fun h2 fl2 up=>?_
 have sub:∀ b ∈ frs outer,b ∈ frs (Bm (CXe P w) P w K mg base N qual scope f cd A outer s₀ H₀ E').stack:=fun b hb=>by
  obtain ⟨env,h1,h2⟩:=aaP.mp hb
  exact aaP.mpr ⟨env,aaa _ h1,h2⟩
 have nfr:∀ b o,s₀.heap.get? b=some o->b ∉ frs outer->b ∉ frs (Bm (CXe P w) P w K mg base N qual scope f cd A outer s₀ H₀ E').stack:=fun b o q hb z=>by
  obtain ⟨env,h1,h2⟩:=aaP.mp z
  rcases aal.mp h1 with rfl | h1
  ·exact aaS _ ((Option.some.inj h2).symm ▸ Heap.lt_size q)
  ·exact hb (aaP.mpr ⟨env,h1,h2⟩)
 have nx:∀ b:Addr,b ∉ (Bm (CXe P w) P w K mg base N qual scope f cd A outer s₀ H₀ E').ex:=fun b z=>absurd (show b ∈ ([]:List Addr) from z) (by simp)
 have frNF:∀ b o,s'.heap.get? b=some o->b ∈ frs (Bm (CXe P w) P w K mg base N qual scope f cd A outer s₀ H₀ E').stack->∃ sl,h2.get? b=some { o with slots:=sl }:=fun b o q hb=>by
  obtain ⟨hn,o2,ho2,hnf⟩:=fl.2.2.1.mem hb
  rw [q] at ho2
  cases ho2
  exact up b _ q hnf
 refine ⟨e,cls,a0,H',B,rfl,ho.trans I.os,hg,fl2,hok,en,fun b o q n hb=>keep b o (I.base.keep b o q n hb (nx b)) (I.base.free b o q n (nx b)) (nfr b o q hb),fun b o q n hb=>?_,
  fun b o q n=>?_,fun b o q hb=>?_,fun b xs q=>tups b xs (I.base.tups b xs q),fun b o u q=>frzs b o u (I.base.frzs b o u q),fun b ps q=>?_,hE _ _ _ he⟩
 ·obtain ⟨sl,e1⟩:=I.base.slot b o q n hb (nx b)
  obtain ⟨sl1,e2⟩:=slot b _ e1 (I.base.free b o q n (nx b)) (sub b hb)
  obtain ⟨sl2,e3⟩:=frNF b _ e2 (sub b hb)
  exact ⟨sl2,e3⟩
 ·obtain ⟨o',e1⟩:=I.base.there b o q (nx b)
  exact free b o' e1 (I.base.free b o q n (nx b))
 ·obtain ⟨o',e1⟩:=I.base.there b o q (nx b)
  exact there b o' e1 (nfr b o q hb)
 ·obtain ⟨m1,e1⟩:=I.base.tbls b ps q
  obtain ⟨m2,e2⟩:=tbls b _ e1
  exact ⟨m1 ++ m2,by rw [e2,Array.append_assoc]⟩
end
section
variable {X:Cx} {C:Addr} {x:Str} {e:Expr} {es:List Expr} {t:TA} {E:XK} {np cpos pos:Pos}
abbrev EE:List Value:=[.type "ValueError",.type "Exception",.type "BaseException",.type "object"]
theorem QB {h:Heap} (KX:X.K.In h) (G:h.Ns mainGlobals X.mg) (B:∃ mb,h.Ns builtinsNs mb/\∀ x:Str,x ≠ "__name__" -> mb x=bootBuiltins x) (L:h.NoLimit) (hm:nsIn X.K mainGlobals x=some (some (.ref C))) (hC:excIn X.K C EE "ValueError.__new__" = true) :
  OwnCls x C EE "ValueError.__new__" X.mg h:=by
 obtain ⟨mb,Bn,hb⟩:=B
 obtain ⟨o,es,ep,ho,hd,hs,hf⟩:=id G
 have T:TopRead default (es.toList.filterMap fun d=>match d.key with | .str n _=>some n | _=>none) X.mg mb h:=⟨G,Bn,L,hb,fun y _ hy _ _ _=>by
  rw [<- hf y]
  unfold nsFind findBy
  rw [Option.map_eq_none_iff,Array.find?_eq_none]
  intro d hm hy2
  obtain ⟨n,tk,ek⟩:=hs d hm
  rw [ek] at hy2
  have en:n=y:=by simpa [Value.isStr] using hy2
  exact hy (aaP.mpr ⟨d,by simpa using hm,by rw [ek,en]⟩)⟩
 exact own_of_in KX T hm hC
theorem MI (hw:Ke X E) (hc:X.calm=true) (hg:Gl X x) (hn:nsIn X.K mainGlobals x=some (some (.ref C))) (hC:excIn X.K C EE "ValueError.__new__" = true) (ha:PA X (e :: es) t) (hd:(x==("__debug__" : Str))=false:=by decide)
  (he:starEach (e :: es) X.env=(false,eval e X.env) :: starEach es X.env:=by rfl) (hpl:(backTo cpos (starEach es X.env)).any (·.1)=false:=by rfl) :
  PS X (.Raise (some (.Call (.Name x np) (e :: es) [] cpos)) none pos) (fun D σ H=>t σ H fun vs H1=>vs.length<=sizeLine/\E (.ref C) none H1):=by
 intro pins s σ H D I h
 have O:=QB (X:=X) I.mod.kin I.mod.glob I.mod.blt I.mod.nolimit hn hC
 obtain ⟨bm,N',nm,q,bs,hdct,sn,sub,ab,col,dd,k0,k1,k2,k3,k5,mN,hCo,hN,hni,T⟩:=O.obj
 refine wpAny_Raise_call_subT (nm:=nm) (q:=q) (N:=N') (bs:=bs) (bm:=bm) (hdct:=hdct) (sn:=sn) (sub:=sub) (ab:=ab) (col:=col) (dd:=dd) (k0:=k0) (k1:=k1) (k2:=k2) (k3:=k3) (k5:=k5) PySem.F.excBase_ValueError (mN:=mN) (T.hasType rfl) (I.ok.hd hc) (by rw [he]; exact hpl) hni (Fq I hg O.bound ⟨rfl,?_⟩ hd)
 have h2:=ha cpos pins s σ H _ I h
 rw [he] at h2 ⊢
 exact Calls.evalArgs_plain (thn h2 fun us s1 ⟨vs,H1,I1,r,q⟩=>⟨rfl,r.length ▸ q.1,I1.bk _ _ hCo,hN.keeps I1.bk,T.keeps I1.bk,fun h' ex hx=>hw pins σ H1 s1 h' ex C us I1 hx q.2⟩)
end
noncomputable abbrev EXT:=St->XK
noncomputable def DX (CX:CXT) (X:Cx) (E:EXT):Prop:=∀ (pins:List (Addr × Obj)) (σ:St) (H:Hp) (s:Shared) (e:Value) (s':Shared),Inv X pins σ H s->CX X.stack H s (E σ) e s'->X.xe e s'
noncomputable def Ln (sp:Sp) (dvs:List V) (E:EXT) (t:TA):TE:=fun σ H Q=>t σ H fun vs H1=>sp (vs ++ dvs) H1 Q (E σ)
section
variable {X:Cx} {CX:CXT} {k:Nat} {f:Addr} {fd:FuncData} {ps:List Str} {sp:Sp} {dvs:List V} {ds:List Value} {E:EXT} {x:Str} {p pos:Pos} {e:Expr} {es:List Expr} {t:TA}
theorem MJ (F:FnOk X.prog X.w X.K X.mg X.base CX k f fd ps sp) (hr:Room k X.A) (hg:Gl X x) (hm:X.mg x=some (.ref f)) (hk:PySem.W.keepIn X.K (.ref f)=true) (hb:Binds X.K fd ps ds) (hd:Vals dvs ds) (hx:DX CX X E)
  (ha:PA X (e :: es) t) (hdb:(x==("__debug__" : Str))=false:=by decide) (he:starEach (e :: es) X.env=(false,eval e X.env) :: starEach es X.env:=by rfl) (hpl:(backTo pos (starEach es X.env)).any (·.1)=false:=by rfl) :
  PE X (.Call (.Name x p) (e :: es) [] pos) (Ln sp dvs E t):=by
 intro pins s σ H Q I h
 refine wpAny_Call_Name_kw (Fq I hg hm ?_ hdb)
 refine PySem.W.callWith_K (h₀:=X.base) I.ok.mod.kin hk (thn (ha pos pins s σ H _ I h) fun us s1 ⟨vs,H1,I1,r,q⟩=>⟨I1.kIn,?_⟩) he hpl
 have r2:Vals (vs ++ dvs) (us ++ ds):=r.append hd
 have hl:(us ++ ds).length=ps.length:=r2.length ▸ F.len _ _ _ _ q
 refine wpAny_call (codeAny_mono (F.run X.A X.stack s1 H1 ⟨us,[]⟩ (us ++ ds) (vs ++ dvs) Q (E σ) hr I1.env0 (hb s1 us I1.kIn hl) r2 q) fun rr s' hq=>?_)
 rcases rr with ev | fl
 ·exact hx pins σ H1 s1 ev s' I1 hq
 ·cases fl with
  | ret u=>exact I1.after hq
  | next=>exact False.elim hq
  | brk=>exact False.elim hq
  | cont=>exact False.elim hq
end
noncomputable def Cx.inX (X:Cx) (e:Addr):Cx:={ X with A:=X.A.mark (some (.ref e)),calm:=false,xe:=fun _ _=>False }
theorem Cx.Ok.inX {X:Cx} (ok:X.Ok) (e:Addr):(X.inX e).Ok :=
 ⟨ok.mod,ok.kind,ok.glob,ok.blt,ok.above,ok.inj,ok.has,ok.cab,fun z=>(nomatch z),ok.frames,ok.stk,ok.exf,ok.bs,ok.bsz,ok.noex,ok.exfs,ok.funs,ok.frf⟩
theorem Inv.inX {X:Cx} {pins:List (Addr × Obj)} {σ:St} {H:Hp} {s:Shared} (I:Inv X pins σ H s) (e:Addr):Inv (X.inX e) pins σ H s:=⟨I.ok.inX e,I.os,I.bare,I.base,I.loc,I.cell,I.free,I.freeC,I.pin,I.hok,I.len⟩
theorem Inv.outX {X:Cx} {pins:List (Addr × Obj)} {σ:St} {H:Hp} {s:Shared} {e:Addr} (ok:X.Ok) (I:Inv (X.inX e) pins σ H s):Inv X pins σ H s:=⟨ok,I.os,I.bare,I.base,I.loc,I.cell,I.free,I.freeC,I.pin,I.hok,I.len⟩
noncomputable abbrev WT:=Value->Shared->Prop
noncomputable abbrev PT0:=List (Addr × Obj)
noncomputable def QC (K:Frag) (c:Value) (i:Nat) (tb:EXT->WT->PT0->TS) (th:Addr->TS) (te:TS):TS:=fun D σ H=>∀ (W:WT) (pn:PT0),
 tb (fun σ1 cls _ H1=>∃ C,cls=.ref C/\exmOne K (.ref C) c=some true/\∀ e,H1 e=none->th e { nx:=fun σ2 H2=>D.nx (σ2.set i none) H2,rt:=D.rt } (σ1.set i (some (.ref e))) (upd H1 e (xO e C))) W pn { D with nx:=te D } σ H
noncomputable abbrev Cx.inT (X:Cx) (W:Value->Shared->Prop) (pn:List (Addr × Obj)):Cx:={ X with xe:=W,pn:=pn }
theorem Cx.Ok.inT {X:Cx} (ok:X.Ok) (W:Value->Shared->Prop) (pn:List (Addr × Obj)):(X.inT W pn).Ok :=
 ⟨ok.mod,ok.kind,ok.glob,ok.blt,ok.above,ok.inj,ok.has,ok.cab,ok.hd,ok.frames,ok.stk,ok.exf,ok.bs,ok.bsz,ok.noex,ok.exfs,ok.funs,ok.frf⟩
theorem Inv.intoT {X:Cx} {pins:List (Addr × Obj)} {σ:St} {H:Hp} {s:Shared} (I:Inv X pins σ H s) (W:Value->Shared->Prop):Inv (X.inT W (X.pn ++ pins)) [] σ H s :=
 ⟨I.ok.inT W _,I.os,I.bare,I.base,I.loc,I.cell,I.free,I.freeC,fun p hp=>I.pin p (by rcases aaf.mp hp with z | z; exact z; cases z),I.hok,I.len⟩
theorem Inv.outT {X:Cx} {pins pins':List (Addr × Obj)} {σ:St} {H:Hp} {s:Shared} {W:Value->Shared->Prop} (ok:X.Ok) (I:Inv (X.inT W (X.pn ++ pins)) pins' σ H s):Inv X pins σ H s :=
 ⟨ok,I.os,I.bare,I.base,I.loc,I.cell,I.free,I.freeC,fun p hp=>I.pin p (aam _ hp),I.hok,I.len⟩
section
variable {X:Cx} {pins:List (Addr × Obj)} {σ:St} {H:Hp} {s:Shared}
theorem Ju {M:Model} {A:Around} {E:Value->Shared->Prop} {i:Nat} {n:Str} {pos:Pos} {Q:Unit->Shared->Prop} (I:Inv X pins σ H s) (hN:X.N.Nodup) (hi:X.N[i]?=some n) (hk:X.env.kindOf n=some .local)
  (h:∀ s',Inv X pins (σ.set i none) H s'->Q () s'):wpAny M A (do bindName X.env n .none; unbindBehindTheSuite X.env n pos) Q E s:=by
 obtain ⟨m,hn,hl⟩:=id I.loc
 have hcls:(X.env.scope.kind==.class || (X.env.scope.kind==.module && X.env.locals != X.env.globals))=false:=by rw [I.ok.kind]; rfl
 obtain ⟨oL,_,_,hoL,_⟩:=id hn
 have ab:=I.ok.above
 refine wpAny_nameGoes_keeps hk hn hcls fun h' v hn' hs=>h _ ⟨I.ok,I.os,I.bare,⟨fun b o e n hb hx=>?_,fun b o e n hb hx=>?_,I.base.free,fun b o e hx=>?_,I.base.tups,I.base.frzs,I.base.tbls⟩,⟨_,hn',fun j y v' e1 e2 e3=>?_⟩,fun y c e=>?_,I.free,I.freeC,fun p hp=>?_,fun b ob e=>?_,by simpa using I.len⟩
 ·exact (hs.2 b (aaI (aax (Heap.lt_size e) ab))).trans (I.base.keep b o e n hb hx)
 ·obtain ⟨sl,e1⟩:=I.base.slot b o e n hb hx
  exact ⟨sl,(hs.2 b (aaI (aax (Heap.lt_size e) ab))).trans e1⟩
 ·obtain ⟨o',e1⟩:=I.base.there b o e hx
  exact ⟨o',(hs.2 b (aaI (aax (Heap.lt_size e) ab))).trans e1⟩
 ·have hj:j ≠ i:=fun z=>by
   subst z
   rw [List.getElem?_set] at e2
   split at e2
   ·split at e2 <;> cases e2
   ·rename_i z; exact z rfl
  rw [aao (Ne.symm hj)] at e2
  obtain ⟨u',r',q⟩:=hl j y v' e1 e2 e3
  refine ⟨u',r',?_⟩
  rcases q with ⟨k,e⟩ | ⟨k,c,e,z⟩
  ·refine .inl ⟨k,?_⟩
   have:y ≠ n:=fun e=>hj (F0 hN e1 (e ▸ hi))
   simp [this,e]
  ·exact .inr ⟨k,c,e,z.sameBut hs (I.cne y c e)⟩
 ·obtain ⟨w',z⟩:=I.cell y c e
  exact ⟨w',z.sameBut hs (I.cne y c e)⟩
 ·obtain ⟨e,n,ne,nf,d⟩:=I.pin p hp
  exact ⟨(hs.2 p.1 ne).trans e,n,ne,nf,d⟩
 ·refine (I.hok b ob e).stay (fun c w' hc q=>(hs.2 c ?_).trans q) (fun _ q=>q) fun _ _ q=>q
  rintro rfl
  have hfree:=I.free
  rcases hc with rfl | hc
  ·rw [hfree] at e; cases e
  ·rw [hfree] at hc; cases hc
theorem Inv.landed {s':Shared} {h5 B:Heap} {e C:Addr} {a0:Value} {H':Hp} (I:Inv X pins σ H s) (hs:X.stack=X.env :: X.outer) (hf:X.env.frame=some X.env.locals) (ho:s'.os=s.os) (hg:AllBare s'.gens)
  (fl:Heap.FlyingW B X.stack e (.ref C) a0 h5) (up:s'.heap.UpToSlots h5) (fl0:Heap.FlyingW B X.stack e (.ref C) a0 s'.heap) (hok:HOk X.prog X.w H' B) (en:H' e=none)
  (keep:∀ b o,s.heap.get? b=some o->H b=none->b ∉ frs X.stack->B.get? b=some o) (slot:∀ b o,s.heap.get? b=some o->H b=none->b ∈ frs X.stack->∃ sl,s'.heap.get? b=some { o with slots:=sl })
  (free:∀ b o,s.heap.get? b=some o->H b=none->H' b=none) (there:∀ b o,s.heap.get? b=some o->b ∉ frs X.stack->∃ o',B.get? b=some o')
  (tups:∀ b xs,H b=some (.tup xs)->H' b=some (.tup xs)) (frzs:∀ b o u,H b=some (.frz o u)->H' b=some (.frz o u)) (tbls:∀ b ps,H b=some (.tbl ps)->∃ more,H' b=some (.tbl (ps ++ more))) {t':Nat} :
  Inv X pins σ (upd H' e (xO e C)) { s' with heap:=h5,toks:=t' }:=by
 have mem:∀ b,b ∈ frs X.stack ↔ b=X.env.locals\/b ∈ X.fs:=fun b=>by
  rw [hs]; unfold frs Cx.fs frs
  rw [aa9,hf]
  exact aal
 have frs5:∀ b o,s.heap.get? b=some o->H b=none->b ∈ frs X.stack->∃ sl,h5.get? b=some { o with slots:=sl }:=fun b o q n hb=>by
  obtain ⟨sl,e1⟩:=slot b o q n hb
  obtain ⟨_,o2,ho2,hnf⟩:=fl0.2.2.1.mem hb
  rw [e1] at ho2
  cases ho2
  obtain ⟨sl2,e2⟩:=up b _ e1 hnf
  exact ⟨sl2,e2⟩
 have nee:∀ b,b ∈ frs X.stack->b ≠ e:=fun b hb z=>by
  subst z
  obtain ⟨_,o2,ho2,hnf⟩:=fl.2.2.1.mem hb
  obtain ⟨oe,vs,h1,_,h2,_⟩:=fl.first
  rw [h1] at ho2
  cases ho2
  exact hnf vs h2
 have upne:∀ b o,H' b=some o->(upd H' e (xO e C)) b=some o:=fun b o q=>by rw [Al (fun z=>by subst z; rw [en] at q; cases q)]; exact q
 have neo:∀ b o,s.heap.get? b=some o->H b=none->b ≠ e:=fun b o q n=>by
  by_cases hb:b ∈ frs X.stack
  ·exact nee b hb
  ·intro z; subst z
   have:=keep b o q n hb
   rw [fl.2.1] at this; cases this
 obtain ⟨hh,g2,d2,t2,os2⟩:=s'
 obtain rfl:os2=s.os:=ho
 show Inv X pins σ _ { s with heap:=h5,gens:=g2,drawn:=d2,toks:=t' }
 refine I.step (h':=h5) (g':=g2) (d':=d2) (t':=t') (ch:=[]) (fun b z=>absurd z (by simp)) (fun b o hb hbf _ q n=>fl.1 b o (keep b o q n fun z=>?_)) (fun b o hb hbf _ q n=>frs5 b o q n ((mem b).mpr (.inr hbf))) (fun b o _ q n=>?_) (fun b o _ q=>?_)
  (fun b xs q=>upne b _ (tups b xs q)) (fun b o u q=>upne b _ (frzs b o u q)) (fun b ps q=>?_) (fun m hn=>?_) ?_ hg
 ·rcases (mem b).mp z with z | z
  ·exact hb z
  ·exact hbf z
 ·rw [Al (neo b o q n)]; exact free b o q n
 ·by_cases hb:b ∈ frs X.stack
  ·have n:H b=none:=I.stkFree b hb
   obtain ⟨sl,e2⟩:=frs5 b o q n hb
   exact ⟨_,e2⟩
  ·obtain ⟨o',e1⟩:=there b o q hb
   exact ⟨o',fl.1 b o' e1⟩
 ·obtain ⟨m2,e2⟩:=tbls b ps q
  exact ⟨m2,upne b _ e2⟩
 ·obtain ⟨oL,es,ep,hoL,hd,hk,hm⟩:=hn
  obtain ⟨sl,e2⟩:=frs5 _ _ hoL I.free ((mem _).mpr (.inl rfl))
  exact ⟨_,es,ep,e2,hd,hk,hm⟩
 ·intro b o q
  by_cases hb:b=e
  ·subst hb
   rw [AJ] at q
   cases q
   obtain ⟨oe,h1,h2⟩:=fl.there
   exact ⟨⟨oe,h1,h2⟩,⟨oe,h1⟩,fun h1 h2 ⟨o,e1,e2⟩ k=>⟨o,k o e1,e2⟩⟩
  ·rw [Al hb] at q
   refine (hok b o q).stay (fun c u _ z=>fl.1 c u z) (fun c z=>upne c _ z) fun c xs z=>upne c _ z
theorem QD {body suite orelse:List Stmt} {b₀:Stmt} {n x:Str} {np hpos pos:Pos} {i:Nat} {c:Value} {tb:EXT->WT->PT0->TS} {th:Addr->TS} {te:TS} (hc:X.calm=true) (hs:X.stack=X.env :: X.outer) (hf:X.env.frame=some X.env.locals)
  (hN:X.N.Nodup) (hi:X.N[i]?=some n) (hk:X.env.kindOf n=some .local) (hg:Gl X x) (hm:X.mg x=some c)
  (hb:∀ (E:EXT) (W:Value->Shared->Prop) (pn:List (Addr × Obj)),DX (CXe X.prog X.w) (X.inT W pn) E->PSs (X.inT W pn) body (tb E W pn)) (hh:∀ e,PSs (X.inX e) (b₀ :: suite) (th e)) (ho:PSs X orelse te)
  (hd:(x==("__debug__" : Str))=false:=by decide) :
  PS X (.Try body [.ExceptHandler (some (.Name x np)) (some n) (b₀ :: suite) hpos] orelse [] pos) (QC X.K c i tb th te):=by
 intro pins s σ H D I h
 refine wpAny_Try_except ?_
 have I2:=I.intoT (W:=fun e s₁=>wpAny (model X.prog X.w) X.A (noteFrame e X.env) (fun _ s₂=>wpAny (model X.prog X.w) X.A (setFlight e none) (fun _ s₃=>wpAny (model X.prog X.w) X.A (handleBy e X.env [.ExceptHandler (some (.Name x np)) (some n) (b₀ :: suite) hpos]) (SP X pins D) X.xe s₃) X.xe s₂) X.xe s₁)
 refine thn (hb _ _ _ ?_ [] s σ H _ I2 (h _ _)) fun f s1 q=>?_
 ·intro pins' σ1 H1 s1 ev s' I1 hcx
  obtain ⟨e,cls,a0,H',B,rfl,hos,hgn,fl,hok,en,keep,slot,free,there,tups,frzs,tbls,C,rfl,hex,hth⟩:=hcx
  have J:Inv X pins σ1 H1 s1:=I1.outT I.ok
  have fl':Heap.FlyingW B (X.env :: X.outer) e (.ref C) a0 s'.heap:=hs ▸ fl
  refine wpAny_looks_onW (base:=B) (by rw [I.ok.frames,hs]) hf fl' fun h4 held up4=>?_
  refine wpAny_landsW held fun h5 fl5 up5=>?_
  have up45:=up4.trans up5
  have J5:=J.landed (s':=s') (h5:=h5) (t':=s'.toks) hs hf hos hgn (hs.symm ▸ fl5) up45 fl hok en keep slot free there tups frzs tbls
  refine wpAny_handleBy_cons (codeAny_handlers_test (Fq (X:=X.inX e) (J5.inX e) hg hm ?_ hd)) (by intro q; cases q)
  have LT:Looks (model X.prog X.w) h5 (typeOf (.ref e)) (.ref C):=XAt.type fl5.there
  refine (exm_one J5.kIn LT hex).here ?_
  refine codeAny_handlers_suite_as ?_
  refine lands_againW fl5 fun h6 fl6 up6=>?_
  have J6:=J.landed (s':=s') (h5:=h6) (t':=s'.toks) hs hf hos hgn (hs.symm ▸ fl6) (up45.trans up6) fl hok en keep slot free there tups frzs tbls
  refine F1 (X:=X.inX e) (v:=.ref e) (J6.inX e) hN hi (.inl hk) rfl (fun s7 J7=>?_) (.inr hk)
  refine wpAny_mono (hh e pins s7 _ _ _ J7 (hth e en)) (fun f s8 q8=>?_) fun _ _ z=>z.elim
  cases f with
  | next =>
   obtain ⟨σ2,H2,K2,q2⟩:=q8
   exact Ju (K2.outX I.ok) hN hi hk fun s9 K9=>⟨_,H2,K9,q2⟩
  | ret u =>
   obtain ⟨v,σ2,H2,K2,rv,q2⟩:=q8
   exact Ju (K2.outX I.ok) hN hi hk fun s9 K9=>⟨v,_,H2,K9,rv,q2⟩
  | brk =>
   obtain ⟨_,_,_,q2⟩:=q8
   exact False.elim q2
  | cont =>
   obtain ⟨_,_,_,q2⟩:=q8
   exact False.elim q2
 ·cases f with
  | next =>
   obtain ⟨σ2,H2,K2,q2⟩:=q
   exact ho pins s1 σ2 H2 D (K2.outT I.ok) q2
  | ret u =>
   obtain ⟨v,σ2,H2,K2,rv,q2⟩:=q
   exact ⟨v,σ2,H2,K2.outT I.ok,rv,q2⟩
  | brk =>
   obtain ⟨σ2,H2,K2,q2⟩:=q
   exact ⟨σ2,H2,K2.outT I.ok,q2⟩
  | cont =>
   obtain ⟨σ2,H2,K2,q2⟩:=q
   exact ⟨σ2,H2,K2.outT I.ok,q2⟩
end
noncomputable abbrev Jv (ifs:List Expr) (env:Env):Sem Bool:=forIn ifs true fun c r=>if r=true then do let ok <- isTrue c env (eval c env); pure (ForInStep.yield ok) else pure (ForInStep.yield r)
section
variable {prog:Program} {w:World} {A:Around} {R:Result->Shared->Prop} {s:Shared} {elt tg iter:Expr} {ifs:List Expr} {scope:Scope} {pos:Pos} {it acc:Value} {env:Env}
theorem EZ (I:Nat->Shared->Prop)
  (turn:∀ n s,I n s->wpAny (model prog w) A (pyNext it) (fun r s1=>match r with
   | none=>R (.ok .next) s1
   | some v=>wpAny (model prog w) A (letOwnedTupleGo tg it v) (fun _ s2=>wpAny (model prog w) A (assign tg env v) (fun _ s3=>wpAny (model prog w) A (Jv ifs env) (fun ok s4 =>
     if ok=true then wpAny (model prog w) A (eval elt env) (fun x s5=>wpAny (model prog w) A (call (.builtin "list.append") [acc,x]) (fun _ s6=>∃ m,m < n/\I m s6) (fun _ _=>False) s5) (fun _ _=>False) s4
     else ∃ m,m < n/\I m s4) (fun _ _=>False) s3) (fun _ _=>False) s2) (fun _ _=>False) s1) (fun _ _=>False) s) (n:Nat) (h:I n s) :
  codeAny (model prog w) A (.compLoop (.ListComp elt [⟨tg,iter,ifs,0⟩] scope pos) 0 it acc env) R s:=by
 refine codeAny_loop rfl I (fun k s' hk=>?_) n h
 show wpAny _ A ((compTurn (.ListComp elt [⟨tg,iter,ifs,0⟩] scope pos) 0 it acc env).onRaise (fun z=>do noteFrame z env; theTreesLotGoes z)) _ _ s'
 refine wpAny_noted ?_
 rw [compTurn_list]
 have no:∀ {Z:Value->Shared->Prop} (x:Value) (t:Shared),False->Z x t:=fun _ _ z=>z.elim
 refine wpAny_bind (wpAny_standAt ?_)
 refine wpAny_bind (wpAny_mono (turn k s' hk) (fun r s1 h1=>?_) no)
 rcases r with _ | v
 ·exact wpAny_pure h1
 ·refine wpAny_bind (wpAny_mono h1 (fun _ s2 h2=>?_) no)
  refine wpAny_bind (wpAny_mono h2 (fun _ s3 h3=>?_) no)
  refine wpAny_bind (wpAny_mono h3 (fun ok s4 h4=>?_) no)
  cases ok with
  | false=>exact wpAny_pure ⟨rfl,h4⟩
  | true =>
   refine wpAny_bind ?_
   refine wpAny_bind (wpAny_mono h4 (fun x s5 h5=>?_) no)
   exact wpAny_bind (wpAny_mono h5 (fun _ s6 h6=>wpAny_pure (wpAny_pure ⟨rfl,h6⟩)) no)
noncomputable def BI (env:Env) (names:List (Str × NameKind)) (cs:List (Str × Addr)):List (Str × Addr):=names.foldl (fun cs x=>if (x.2==NameKind.free)=true then (x.1,(env.cells.lookup x.1).getD 0) :: cs else cs) cs
theorem Gp {α β:Type} (f:α->β->Sem (ForInStep β)) (g:β->α->β):∀ (l:List α) (b:β),(∀ x ∈ l,∀ b,f x b=pure (ForInStep.yield (g b x)))->forIn l b f=pure (l.foldl g b)
 | [],b,_=>rfl
 | x :: l,b,h=>by
  rw [List.forIn_cons,h x (aac ..) b,abZ]
  exact Gp f g l (g b x) fun y hy=>h y (aaa _ hy)
theorem Gq (h:∀ x ∈ scope.names,x.2=.free->(env.cells.lookup x.1).isSome=true):closureFor scope env=pure (BI env scope.names []):=by
 unfold closureFor BI
 dsimp only
 rw [Gp _ (fun cs x=>if (x.2==NameKind.free)=true then (x.1,(env.cells.lookup x.1).getD 0) :: cs else cs)]
 ·rfl
 ·rintro ⟨n,k⟩ hx cs
  by_cases hk:(k==NameKind.free)=true
  ·obtain ⟨c,hc⟩:=aaA.mp (h (n,k) hx (beq_iff_eq.mp hk))
   have hc':List.lookup n env.cells=some c:=hc
   dsimp only
   rw [if_pos hk,if_pos hk]
   unfold cellOf
   rw [hc']
   rfl
  ·dsimp only
   rw [if_neg hk,if_neg hk]
theorem AY (h:∀ x ∈ scope.names,x.2=.free->(env.cells.lookup x.1).isSome=true) {x:Str} {c:Addr} (e:(BI env scope.names []).lookup x=some c):env.cells.lookup x=some c:=by
 have gen:∀ (l:List (Str × NameKind)) (cs:List (Str × Addr)),(∀ y ∈ l,y.2=.free->(env.cells.lookup y.1).isSome=true)->(∀ p ∈ cs,env.cells.lookup p.1=some p.2)->∀ p ∈ BI env l cs,env.cells.lookup p.1=some p.2:=by
  intro l
  induction l with
  | nil=>intro cs _ hc; exact hc
  | cons y l ih =>
   intro cs hl hc
   unfold BI
   rw [abZ]
   refine ih _ (fun z hz=>hl z (aaa _ hz)) fun p hp=>?_
   split at hp
   ·rename_i hk
    rcases aal.mp hp with rfl | hp
    ·obtain ⟨c',hc'⟩:=aaA.mp (hl y (aac ..) (beq_iff_eq.mp hk))
     show env.cells.lookup y.1=some ((env.cells.lookup y.1).getD 0)
     rw [hc']; rfl
    ·exact hc p hp
   ·exact hc p hp
 exact gen scope.names [] h (fun p hp=>nomatch hp) (x,c) (PySem.mem_of_lookup e)
theorem DB {x:Str} {c:Addr} (hm:(x,NameKind.free) ∈ scope.names) (h:∀ x ∈ scope.names,x.2=.free->(env.cells.lookup x.1).isSome=true) (e:env.cells.lookup x=some c):(BI env scope.names []).lookup x=some c:=by
 have gen:∀ (l:List (Str × NameKind)) (cs:List (Str × Addr)),((x,NameKind.free) ∈ l\/∃ d,(x,d) ∈ cs)->∃ d,(x,d) ∈ BI env l cs:=by
  intro l
  induction l with
  | nil=>intro cs hc; rcases hc with z | z; cases z; exact z
  | cons y l ih =>
   intro cs hc
   unfold BI
   rw [abZ]
   refine ih _ ?_
   rcases hc with hc | ⟨d,hc⟩
   ·rcases aal.mp hc with rfl | hc
    ·exact .inr ⟨_,by rw [if_pos (by rfl)]; exact aac ..⟩
    ·exact .inl hc
   ·refine .inr ⟨d,?_⟩
    split
    ·exact aaa _ hc
    ·exact hc
 obtain ⟨d,hd⟩:=gen scope.names [] (.inl hm)
 cases q:(BI env scope.names []).lookup x with
 | none =>
  rw [List.lookup_eq_none_iff] at q
  have:=q _ hd
  simp at this
 | some c'=>exact (AY h q).symm.trans e ▸ rfl
end
structure Bk where
 (C:Addr)
 (fp:List Addr)
 (s:Shared)
 (H:Hp)
noncomputable abbrev Cx.blk (X:Cx) (scope:Scope) (C:Addr) (fp:List Addr) (N:List Str) (s:Shared) (H:Hp):Cx :=
 { X with N:=N,s₀:=s,H₀:=H,env:=compEnvC scope (BI X.env scope.names []) C X.env,outer:=X.stack,ex:=fp,fn:=fun _=>false,pn:=[],xe:=fun _ _=>False }
noncomputable def PTs (X:Cx) (ifs:List Expr) (t:TT):Prop :=
 ∀ (pins:List (Addr × Obj)) (s:Shared) (σ:St) (H:Hp) (Q:Bool->Hp->Prop),Inv X pins σ H s->t σ H Q->wpAny (model X.prog X.w) X.A (Jv ifs X.env) (TP X pins σ Q) X.xe s
noncomputable def NV:TT:=fun _ H Q=>Q true H
theorem Jw {X:Cx}:PTs X [] NV:=fun _ _ _ H _ I h=>wpAny_tests_nil ⟨H,I,h⟩
theorem Jx {X:Cx} {c:Expr} {t:TT} (h:PT X c t):PTs X [c] t:=fun pins s σ H Q I q=>wpAny_tests_one (h pins s σ H Q I q)
noncomputable def A6 (nl:Nat) (fr:List Nat) (σ:St):St:=aak nl none ++ fr.map fun j=>(σ[j]?).join
noncomputable def Fv (nl:Nat) (fr:List Nat) (wi:TI) (gz:Bk->TG) (tcz:Bk->TT) (tez:Bk->TE):TE:=fun σ H Q=>wi σ H fun J H1=>∀ (z:Bk) (D:Addr),H1 D=none->∃ W:Nat->Nat->List V->Hp->Prop,(∃ m,W 0 m [] (upd H1 D (.lst [])))/\∀ i m acc H2,W i m acc H2 ->
 H2 D=some (.lst acc)/\((J.stop i H2/\Q (.ref D) H2)\/(J.go i H2/\∀ x H3,J.yld i H2 x H3->gz z x (A6 nl fr σ) H3 fun σ4 H4=>tcz z σ4 H4 fun b H5 =>
  if b=true then tez z σ4 H5 fun v H6=>H6 D=some (.lst acc)/\acc.length < sizeLine/\∃ m',m' < m/\W (i + 1) m' (acc ++ [v]) (upd H6 D (.lst (acc ++ [v]))) else ∃ m',m' < m/\W (i + 1) m' acc H5))
theorem Jy {X:Cx} {elt tg iter:Expr} {ifs:List Expr} {scope:Scope} {pos:Pos} {wi:TI} {gz:Bk->TG} {tcz:Bk->TT} {tez:Bk->TE} (loc:List Str) (fr:List Nat) (frn:List Str) (hc:X.calm=true) (hi:PI X tg iter wi)
  (hfr:∀ (j:Nat) (k:Nat) (x:Str),fr[j]?=some k->frn[j]?=some x->X.N[k]?=some x/\X.env.kindOf x=some .cell/\(x,NameKind.free) ∈ scope.names) (hln:frn.length=fr.length)
  (hcell:∀ y ∈ scope.names,y.2 ≠ .cell) (hkind:scope.kind=.function) (hnames:∀ y ∈ scope.names,y.2=.local->scope.names.lookup y.1=some .local) (hfree:∀ y ∈ scope.names,y.2=.free->X.env.kindOf y.1=some .cell)
  (hkin:∀ (x:Str),x ∈ frn->(relabel scope X.env).names.lookup x=some .cell) (hsc:X.env.scope.kind=.function)
  (hgk:∀ (z:Bk) (v:V) (σ:St) (H:Hp) (Q:St->Hp->Prop),gz z v σ H Q->gz z v σ H fun σ' H'=>Q σ' H'/\σ'.length=σ.length/\∀ i,loc.length<=i->σ'[i]?=σ[i]?)
  (hblk:∀ (z:Bk),PG (X.blk scope z.C z.fp (loc ++ frn) z.s z.H) tg (gz z)/\PTs (X.blk scope z.C z.fp (loc ++ frn) z.s z.H) ifs (tcz z)/\PE (X.blk scope z.C z.fp (loc ++ frn) z.s z.H) elt (tez z))
  (hs:∀ x,foldedSetIterable iter X.env x=pure x:=by intro _; rfl):PE X (.ListComp elt [⟨tg,iter,ifs,0⟩] scope pos) (Fv loc.length fr wi gz tcz tez):=by
 intro pins s σ H Q I h
 have hcs:∀ x ∈ scope.names,x.2=.free->(X.env.cells.lookup x.1).isSome=true:=fun x hx hf=>by
  obtain ⟨c,e⟩:=I.ok.has x.1 (.inl (hfree x hx hf))
  rw [e]; rfl
 rw [eval_ListComp]
 refine wpAny_comprehension_free (use:=none) rfl hs (Gq hcs) hkind hnames (thn (hi pins s σ H _ I h) fun v s1 h1=>thn h1 fun itv s2 h2=>?_)
 obtain ⟨it,fp,tn,J,H2,rfl,I2,T,st2,f2,q2⟩:=h2
 refine wpAny_newList (items:=[]) ?_ (by simp)
 have eD:H2 s2.heap.objs.size=none:=I2.hok.fresh (aan _)
 have pk:∀ (o:Obj) b u,s2.heap.get? b=some u->(s2.heap.push o).get? b=some u:=fun o b u e=>Heap.get?_push_of_some _ e
 have I3:=I2.laid (a:=s2.heap.objs.size) (o:=.lst []) (t':=s2.toks) (h':=s2.heap.push { cls:=.type "list",data:=.seq ([]:List Value).toArray }) (pk _) (aan _)
  ⟨aay _,[],0,.nil,Heap.get?_push_size _ rfl⟩
 generalize hs3:(⟨s2.heap.push { cls:=.type "list",data:=.seq ([]:List Value).toArray },s2.gens,s2.drawn,s2.toks,s2.os⟩:Shared)=s3 at I3 ⊢
 have k3:∀ b u,s2.heap.get? b=some u->s3.heap.get? b=some u:=fun b u e=>by rw [<- hs3]; exact pk _ b u e
 have tk3:s3.os=s2.os/\s3.gens=s2.gens:=by rw [<- hs3]; exact ⟨rfl,rfl⟩
 have z3:s3.heap.objs.size=s2.heap.objs.size + 1:=by rw [<- hs3]; exact Heap.size_push ..
 refine wpAny_newFunctionEnv hcell (by intro y hy; simp at hy) (fun h4 hns hsb=>?_) hkind
 have k4:∀ b u,s3.heap.get? b=some u->h4.get? b=some u:=fun b u e=>hsb.extBut b u (aaI (Heap.lt_size e)) (Heap.get?_push_of_some _ e)
 have fpl:∀ b ∈ fp,b < s2.heap.objs.size:=fun b hb=>by
  obtain ⟨o,e,_⟩:=T.obj 0 _ st2 b hb
  exact Heap.lt_size e
 obtain ⟨W,⟨m0,w0⟩,turn⟩:=q2 ⟨s3.heap.objs.size,fp,s3,upd H2 s2.heap.objs.size (.lst [])⟩ _ eD
 have ok4:(X.blk scope s3.heap.objs.size fp (loc ++ frn) s3 (upd H2 s2.heap.objs.size (.lst []))).Ok:=by
  refine ⟨I.ok.mod,hkind,I.ok.glob,I.ok.blt,aan _,fun x y c e1 e2=>I.ok.inj x y c (AY hcs e1) (AY hcs e2),fun x hx=>?_,fun x c z=>(nomatch z),I.ok.hd,I.ok.frames,.inl rfl,fun b hb=>⟨?_,fun x c e=>(f2 b hb).2.2.2.2.1 x c (AY hcs e)⟩,I3.bs,aat I.ok.bsz I3.sz,
   fun b o e hb=>?_,fun b hb z=>?_,I3.stack,I3.stkFree⟩
  ·have hm:(x,NameKind.free) ∈ scope.names:=by
    have:∃ k',(k'=NameKind.cell\/k'=NameKind.free)/\(relabel scope X.env).names.lookup x=some k':=by
     rcases hx with z | z
     ·exact ⟨_,.inl rfl,z⟩
     ·exact ⟨_,.inr rfl,z⟩
    obtain ⟨k',hk',z⟩:=this
    have zm:=PySem.mem_of_lookup z
    unfold relabel at zm
    obtain ⟨⟨n,k⟩,hn,e⟩:=aaz.mp zm
    dsimp only at e
    split at e
    ·rename_i hk
     cases e
     have:k=NameKind.free:=by
      cases k <;> first | rfl | (simp at hk)
     rw [<- this]; exact hn
    ·cases e
     rcases hk' with rfl | rfl
     ·exact absurd rfl (hcell _ hn)
     ·exact hn
   obtain ⟨c,e⟩:=I.ok.has x (.inl (hfree _ hm rfl))
   exact ⟨c,DB hm hcs e⟩
  ·have:=fpl b hb
   exact aaI (by rw [z3]; exact Nat.lt_succ_of_lt this)
  ·rcases (f2 b hb).2.2.2.1 with z | z
   ·exact I.ok.noex b o e z
   ·exact absurd (aax (Heap.lt_size (I.ok.bs b o e).1) z) (aaS _)
  ·have:=I2.stkSub b z
   rcases aal.mp this with rfl | y
   ·exact (f2 _ hb).2.1 rfl
   ·exact (f2 b hb).2.2.1 y
 have I4:Inv (X.blk scope s3.heap.objs.size fp (loc ++ frn) s3 (upd H2 s2.heap.objs.size (.lst []))) [] (A6 loc.length fr σ) (upd H2 s2.heap.objs.size (.lst [])) { s3 with heap:=h4,toks:=s3.toks + ([]:List (Str × Value)).length }:=by
  refine ⟨ok4,rfl,I3.bare,Un.kept k4,⟨_,hns,fun i x v e1 e2 e3=>?_⟩,fun x c e=>?_,I3.hok.fresh (aan _),fun x c e=>I3.freeC x c (AY hcs e),fun p hp=>(nomatch hp),I3.hok.kept k4,?_⟩
  ·unfold A6 at e2
   by_cases hi:i < loc.length
   ·rw [aaF (by simpa using hi),aaU] at e2
    split at e2 <;> cases e2
   ·rw [aaB (by simpa using hi),aa4,aaj] at e2
    have e1':frn[i - loc.length]?=some x:=by
     have:(loc ++ frn)[i]?=some x:=e1
     rw [aaB (abf hi)] at this
     exact this
    cases ek:fr[i - loc.length]? with
    | none=>rw [ek] at e2; cases e2
    | some k =>
     rw [ek] at e2
     have e2':(σ[k]?).join=some v:=Option.some.inj e2
     have e2'':σ[k]?=some (some v):=by
      cases q:σ[k]? with
      | none=>rw [q] at e2'; cases e2'
      | some y=>rw [q] at e2'; exact congrArg some e2'
     obtain ⟨n1,n2,n3⟩:=hfr _ k x ek e1'
     obtain ⟨m,_,hl⟩:=I3.loc
     obtain ⟨u,ru,lk⟩:=hl k x v n1 e2'' (.inr (.inl n2))
     refine ⟨u,ru,.inr ⟨.inl (hkin x (aae e1')),?_⟩⟩
     rcases lk with ⟨z,_⟩ | ⟨_,c,ec,ic⟩
     ·rw [n2] at z; cases z
     ·obtain ⟨o,ho,hd⟩:=ic
      exact ⟨c,DB n3 hcs ec,o,k4 _ _ ho,hd⟩
  ·obtain ⟨v,o,ho,hd⟩:=I3.cell x c (AY hcs e)
   exact ⟨v,o,k4 _ _ ho,hd⟩
  ·unfold A6
   show _=(loc ++ frn).length
   rw [aaG,aaG,aa4,aab,hln]
 have stat:∀ {H':Hp},(∀ b ∈ fp,H' b=none)->∀ b ∈ fp,FpOk (X.blk scope s3.heap.objs.size fp (loc ++ frn) s3 (upd H2 s2.heap.objs.size (.lst []))) [] H' b:=fun hn b hb =>
  ⟨hn b hb,(ok4.exf b hb).1,ok4.exfs b hb,.inl hb,(ok4.exf b hb).2,fun p hp=>(nomatch hp)⟩
 have fp3:∀ b ∈ fp,(upd H2 s2.heap.objs.size (.lst [])) b=none:=fun b hb=>by
  rw [Al (aaI (fpl b hb))]; exact (f2 b hb).1
 obtain ⟨pg,pt,pe⟩:=hblk ⟨s3.heap.objs.size,fp,s3,upd H2 s2.heap.objs.size (.lst [])⟩
 have st4:tn 0 h4:=T.keep 0 _ _ st2 fun b _ o e=>k4 b o (k3 b o e)
 have after:∀ {i:Nat} {H':Hp} {s':Shared} {acc:List V} {σ':St},Inv (X.blk scope s3.heap.objs.size fp (loc ++ frn) s3 (upd H2 s2.heap.objs.size (.lst []))) [] σ' H' s'->Q (.ref s2.heap.objs.size) H' ->
   compPost (model X.prog X.w) X.A X.xe none (EP X pins σ Q) (.ref s2.heap.objs.size) s3.heap.objs.size (.ok .next) s':=by
  intro i H' s' acc σ' I5 q
  obtain ⟨m,hn,_⟩:=I5.loc
  refine ⟨m,hn,fun h' hb=>?_⟩
  have same:∀ b o,s3.heap.get? b=some o->h'.get? b=s'.heap.get? b:=fun b o e=>hb.2 b (aaI (Heap.lt_size e))
  have u:=I5.base
  have un:Un (frs X.stack) fp (upd H2 s2.heap.objs.size (.lst [])) H' s3.heap h':=⟨fun b o e n h1 h2=>(same b o e).trans (u.keep b o e n h1 h2),fun b o e n h1 h2=>by
    obtain ⟨sl,z⟩:=u.slot b o e n h1 h2
    exact ⟨sl,(same b o e).trans z⟩,u.free,fun b o e h1=>by
    obtain ⟨o',z⟩:=u.there b o e h1
    exact ⟨o',(same b o e).trans z⟩,u.tups,u.frzs,u.tbls⟩
  have hok:HOk X.prog X.w H' h':=fun b o e=>by
   have fC:H' s3.heap.objs.size=none:=I5.free
   refine (I5.hok b o e).stay (fun c w' hc z=>(hb.2 c ?_).trans z) (fun _ z=>z) fun _ _ z=>z
   rintro rfl
   rcases hc with rfl | hc
   ·rw [fC] at e; cases e
   ·rw [fC] at hc; cases hc
  exact ⟨.ref s2.heap.objs.size,H',I3.call' (s':={ s' with heap:=h' }) (ch:=fp) I5.os un hok I5.bare (fun b hb=>⟨(f2 b hb).2.2.2.1,(f2 b hb).2.1,(f2 b hb).2.2.2.2.1,(f2 b hb).2.2.2.2.2⟩),rfl,q⟩
 have loop:∀ s5:Shared,s5={ s3 with heap:=h4,toks:=s3.toks + ([]:List (Str × Value)).length } ->
   codeAny (model X.prog X.w) X.A (.compLoop (.ListComp elt [⟨tg,iter,ifs,0⟩] scope pos) 0 (.ref it) (.ref s2.heap.objs.size) (compEnvC scope (BI X.env scope.names []) s3.heap.objs.size X.env))
    (compPost (model X.prog X.w) X.A X.xe none (EP X pins σ Q) (.ref s2.heap.objs.size) s3.heap.objs.size) s5:=by
  rintro s5 rfl
  refine EZ (fun n s'=>∃ i acc H',Inv (X.blk scope s3.heap.objs.size fp (loc ++ frn) s3 (upd H2 s2.heap.objs.size (.lst []))) [] (A6 loc.length fr σ) H' s'/\tn i s'.heap/\(∀ b ∈ fp,H' b=none)/\W i n acc H') ?_ m0
   ⟨0,[],_,I4,st4,fp3,w0⟩
  rintro n s6 ⟨i,acc,H6,I6,st6,fr6,w6⟩
  obtain ⟨hD,alt⟩:=turn i n acc H6 w6
  rcases alt with ⟨stop,q⟩ | ⟨go,step⟩
  ·refine thn (T.done (X.blk scope s3.heap.objs.size fp (loc ++ frn) s3 (upd H2 s2.heap.objs.size (.lst []))) rfl rfl rfl hc i [] s6 _ H6 (fun _ _=>False) I6 (stat fr6) st6 stop) fun r s7 ⟨hr,I7⟩=>?_
   subst hr
   exact after (i:=i) (acc:=acc) I7 q
  ·refine thn (T.item (X.blk scope s3.heap.objs.size fp (loc ++ frn) s3 (upd H2 s2.heap.objs.size (.lst []))) rfl rfl rfl hc i [] s6 _ H6 (fun _ _=>False) I6 (stat fr6) st6 go) fun r s7 ⟨u,hr,h7⟩=>?_
   subst hr
   refine thn h7 fun _ s8 ⟨x,H8,I8,r8,y8,st8,fr8⟩=>?_
   have I8':=I8.pinned (stat fr8) (T.obj _ _ st8)
   have back:∀ {σ9:St} {H9:Hp} {s9:Shared},Inv (X.blk scope s3.heap.objs.size fp (loc ++ frn) s3 (upd H2 s2.heap.objs.size (.lst []))) ([] ++ Et fp s8.heap) σ9 H9 s9->σ9.length=(A6 loc.length fr σ).length->(∀ i,loc.length<=i->σ9[i]?=(A6 loc.length fr σ)[i]?) ->
     Inv (X.blk scope s3.heap.objs.size fp (loc ++ frn) s3 (upd H2 s2.heap.objs.size (.lst []))) [] (A6 loc.length fr σ) H9 s9/\tn (i + 1) s9.heap/\(∀ b ∈ fp,H9 b=none):=by
    intro σ9 H9 s9 I9 hl hk
    refine ⟨(I9.unpinned).weak hl.symm fun j v ej=>?_,T.keep _ _ _ st8 fun b hb o e=>(I9.pin (b,o) (aag _ (aag _ (BV hb e)))).1,fun b hb=>?_⟩
    ·by_cases hj:j < loc.length
     ·unfold A6 at ej
      rw [aaF (by simpa using hj),aaU] at ej
      split at ej <;> cases ej
     ·rw [hk j (abf hj)]; exact ej
    ·obtain ⟨o,e,d⟩:=T.obj _ _ st8 b hb
     exact (I9.pin (b,o) (aag _ (aag _ (BV hb e)))).2.1
   refine thn (pg _ s8 _ H8 x u _ I8' r8 (hgk _ _ _ _ _ (step x H8 y8))) fun _ s9 ⟨σ9,H9,I9,q9,l9,k9⟩=>?_
   refine thn (pt _ s9 σ9 H9 _ I9 q9) fun ok s10 ⟨H10,I10,q10⟩=>?_
   cases ok with
   | false =>
    rw [if_neg (by decide)] at q10 ⊢
    obtain ⟨m',hm,w'⟩:=q10
    obtain ⟨b1,b2,b3⟩:=back I10 l9 k9
    exact ⟨m',hm,i + 1,acc,H10,b1,b2,b3,w'⟩
   | true =>
    rw [if_pos rfl] at q10 ⊢
    refine thn (pe _ s10 σ9 H10 _ I10 q10) fun y s11 ⟨v,H11,I11,r11,hD11,hz,m',hm,w'⟩=>?_
    refine thn (D9 _ s11 σ9 H11 (.ref s2.heap.objs.size) [v] (.ref s2.heap.objs.size) [y] (fun _ H12=>W (i + 1) m' (acc ++ [v]) H12) I11 rfl (.cons r11 .nil) ⟨_,acc,v,rfl,rfl,hD11,hz,w'⟩) fun _ s12 ⟨_,H12,I12,_,w12⟩=>?_
    obtain ⟨b1,b2,b3⟩:=back I12 l9 k9
    exact ⟨m',hm,i + 1,_,H12,b1,b2,b3,w12⟩
 exact codeAny_compStart_list (loop _ rfl) (T.self X.A 0 _ _ _ st4 (loop _ rfl))
mutual
inductive RD (K:Frag) (H:Hp):V->PyData->Prop where
 | non:RD K H .non .none
 | bl (b:Bool):RD K H (.bl b) (.bool b)
 | int (i:Int):RD K H (.int i) (.int i)
 | str (x:Str):RD K H (.str x) (.str x)
 | lst {a:Addr} {xs:List V} {ds:List PyData} (h:SqL K H a xs) (r:RDs K H xs ds):RD K H (.ref a) (.list ds)
 | tup {a:Addr} {xs:List V} {ds:List PyData} (h:SqT K H a xs) (r:RDs K H xs ds):RD K H (.ref a) (.tuple ds)
inductive RDs (K:Frag) (H:Hp):List V->List PyData->Prop where
 | nil:RDs K H [] []
 | cons {x:V} {xs:List V} {d:PyData} {ds:List PyData} (h:RD K H x d) (r:RDs K H xs ds):RDs K H (x :: xs) (d :: ds)
end
section
variable {X:Cx} {pins:List (Addr × Obj)} {σ:St} {H:Hp} {s:Shared}
mutual
theorem RD.reads (I:Inv X pins σ H s):∀ {v:V} {d:PyData} {u:Value},RD X.K H v d->RelV v u->∃ as,Reads s.heap u d as
 | _,_,_,.non,r=>by cases (show _=Value.none from r); exact ⟨_,.none⟩
 | _,_,_,.bl b,r=>by cases (show _=Value.bool b from r); exact ⟨_,.bool b⟩
 | _,_,_,.int i,r=>by obtain ⟨t,q⟩:=(show ∃ t,_=Value.int i t from r); cases q; exact ⟨_,.int i t⟩
 | _,_,_,.str x,r=>by obtain ⟨t,q⟩:=(show ∃ t,_=Value.str x t from r); cases q; exact ⟨_,.str x t⟩
 | _,_,_,.lst (a:=a) h rs,r=>by
  cases (show _=Value.ref a from r)
  obtain ⟨its,rv,⟨o,n,hp,hc,_,hd⟩,_⟩:=I.list h
  obtain ⟨as,ra⟩:=RDs.reads I rs rv
  exact ⟨_,reads_list_at hp hc hd (by simpa using ra)⟩
 | _,_,_,.tup (a:=a) h rs,r=>by
  cases (show _=Value.ref a from r)
  obtain ⟨its,rv,⟨o,h1,h2,n,h3⟩,_⟩:=I.tuple h
  obtain ⟨as,ra⟩:=RDs.reads I rs rv
  exact ⟨_,reads_tuple_at h1 h2 h3 (by simpa using ra)⟩
theorem RDs.reads (I:Inv X pins σ H s):∀ {xs:List V} {ds:List PyData} {us:List Value},RDs X.K H xs ds->Vals xs us->∃ as,ReadsAll s.heap us ds as
 | _,_,_,.nil,.nil=>⟨_,.nil⟩
 | _,_,_,.cons h r,.cons q t=>by
  obtain ⟨as,e1⟩:=RD.reads I h q
  obtain ⟨bs,e2⟩:=RDs.reads I r t
  exact ⟨_,.cons e1 e2⟩
end
noncomputable def QE (K:Frag) (neg:Bool):R2:=fun x y H Q=>∃ d e,RD K H x d/\RD K H y e/\SeqAt.shaped d=true/\SeqAt.shaped e=true/\Q (.bl (if neg then !d.eqv e else d.eqv e)) H
theorem QF (hu:X.A.units + 64 < cLine):OpR X (compareOp .Eq) (QE X.K false):=by
 intro pins s σ H x y u w' Q I rx ry h
 obtain ⟨d,e,h1,h2,s1,s2,q⟩:=h
 obtain ⟨_,r1⟩:=h1.reads I rx
 obtain ⟨_,r2⟩:=h2.reads I ry
 exact eq_dataH r1 r2 s1 s2 hu ⟨.bl (d.eqv e),H,I,rfl,q⟩
theorem QG (hu:X.A.units + 64 < cLine):OpR X (compareOp .NotEq) (QE X.K true):=by
 intro pins s σ H x y u w' Q I rx ry h
 obtain ⟨d,e,h1,h2,s1,s2,q⟩:=h
 obtain ⟨_,r1⟩:=h1.reads I rx
 obtain ⟨_,r2⟩:=h2.reads I ry
 exact ne_dataH r1 r2 s1 s2 hu ⟨.bl (!d.eqv e),H,I,rfl,q⟩
end
section
variable {P:Program} {w:World} {K:Frag} {mg:Str->Option Value} {base:Heap}
theorem Fun.okX {x qual:Str} {st:Stmt} {f:Addr} {fd:FuncData} {N ps:List Str} {k:Nat} {sp:Sp} (F:Fun K x qual st f fd) (S:FnScope N ps (Af st)) (len:∀ vs H Q E,sp vs H Q E->vs.length=ps.length)
  (hbody:∀ (f:Addr) (cdv:Value) (A:Around) (outer:List Env) (s:Shared) (H:Hp) (vs:List V) (Q:VK) (E:XK),Room k (A.deeper (envOfC qual (Af st) s.heap.objs.size f cdv))->sp vs H Q E ->
   ∃ t,PSs (Bm (CXe P w) P w K mg base N qual (Af st) f cdv A outer s H E) (Aw st) t/\t { nx:=fun _ H'=>Q .non H',rt:=Q } (AB N vs) H):FnOk P w K mg base (CXe P w) (k + 1) f fd ps sp:=by
 obtain ⟨oc,od,kV,doc,pm,an,cdv,ct,osl,rfl,lk,hcd⟩:=F.ex
 exact R0 lk hcd S len fun A outer s H vs Q E hr hsp=>hbody f cdv A outer s H vs Q E hr hsp
noncomputable def Df (K:Frag) (mg:Str->Option Value) (x:Str) (st:Stmt) (ps:List Str):Prop:=∃ f fd,Fun K x x st f fd/\mg x=some (.ref f)/\Binds K fd ps []
noncomputable def Has (P:Program) (w:World) (K:Frag) (mg:Str->Option Value) (base:Heap) (x:Str) (k:Nat) (ps:List Str) (sp:Sp):Prop :=
 ∃ f fd,FnOk P w K mg base (CXe P w) k f fd ps sp/\mg x=some (.ref f)/\PySem.W.keepIn K (.ref f)=true/\Binds K fd ps []
theorem Df.has {x:Str} {st:Stmt} {N ps:List Str} {k:Nat} {sp:Sp} (D:Df K mg x st ps) (S:FnScope N ps (Af st)) (len:∀ vs H Q E,sp vs H Q E->vs.length=ps.length)
  (hbody:∀ (f:Addr) (cdv:Value) (A:Around) (outer:List Env) (s:Shared) (H:Hp) (vs:List V) (Q:VK) (E:XK),Room k (A.deeper (envOfC x (Af st) s.heap.objs.size f cdv))->sp vs H Q E ->
   ∃ t,PSs (Bm (CXe P w) P w K mg base N x (Af st) f cdv A outer s H E) (Aw st) t/\t { nx:=fun _ H'=>Q .non H',rt:=Q } (AB N vs) H):Has P w K mg base x (k + 1) ps sp:=by
 obtain ⟨f,fd,F,m,b⟩:=D
 exact ⟨f,fd,F.okX S len hbody,m,F.kp,b⟩
theorem R4 {h:Heap} {x:Str} {st:Stmt} {ps:List Str} {f:Addr} {oc:Value} {od an:Option Addr} {osl:Array (Option Value)} {kV doc pm cdv ct:Value} (X:K.In h) (G:h.Ns mainGlobals mg) (a:nsIn K mainGlobals x=some (some (.ref f)))
  (l:K.lookup f=some ⟨oc,od,.func (PySem.W.fnOf x x (BJ st) (Aw st) (Af st) .none kV doc pm an cdv ct),osl⟩) (c:PySem.W.codeIn K cdv x=true) (k:PySem.W.keepIn K (.ref f)=true)
  (hb:∀ (kV doc pm:Value) (an:Option Addr) (cdv ct:Value) (us:List Value),us.length=ps.length->bindArgs (PySem.W.fnOf x x (BJ st) (Aw st) (Af st) .none kV doc pm an cdv ct) ⟨us,[]⟩=pure (ps.zip us)):Df K mg x st ps:=by
 have F:=Lm (st:=st) l c k
 exact ⟨f,_,F,mg_of X G a,F.binds hb⟩
end
section
variable {X:Cx} {k:Nat} {ps:List Str} {sp:Sp} {E:XK} {EX:EXT} {x:Str} {p pos:Pos} {e:Expr} {es:List Expr} {t:TA}
theorem Kf (F:Has X.prog X.w X.K X.mg X.base x k ps sp) (hr:Room k X.A) (hg:Gl X x) (hx:DX (CXe X.prog X.w) X EX) (ha:PA X (e :: es) t) (hdb:(x==("__debug__" : Str))=false:=by decide)
  (he:starEach (e :: es) X.env=(false,eval e X.env) :: starEach es X.env:=by rfl) (hpl:(backTo pos (starEach es X.env)).any (·.1)=false:=by rfl):PE X (.Call (.Name x p) (e :: es) [] pos) (Ln sp [] EX t):=by
 obtain ⟨f,fd,F,m,kp,b⟩:=F
 exact MJ F hr hg m kp b .nil hx ha hdb he hpl
end
theorem Same.new {H:Hp} {p:Addr} {o:HO} (h:H p=none):Same H (upd H p o):=fun b u e=>by rw [Al (AL e h)]; exact e
theorem Same.tup {K:Frag} {H H':Hp} {a:Addr} {xs:List V} (e:Same H H') (h:SqT K H a xs):SqT K H' a xs:=by
 rcases h with (h | ⟨o,h⟩) | h
 ·exact .inl (.inl (e _ _ h))
 ·exact .inl (.inr ⟨o,e _ _ h⟩)
 ·exact .inr h
mutual
theorem Same.rd {K:Frag} {H H':Hp} (e:Same H H'):∀ {x:V} {d:PyData},RD K H x d->RD K H' x d
 | _,_,.non=>.non
 | _,_,.bl b=>.bl b
 | _,_,.int i=>.int i
 | _,_,.str x=>.str x
 | _,_,.lst h r=>.lst (e.seq h) (Same.rds e r)
 | _,_,.tup h r=>.tup (e.tup h) (Same.rds e r)
theorem Same.rds {K:Frag} {H H':Hp} (e:Same H H'):∀ {xs:List V} {ds:List PyData},RDs K H xs ds->RDs K H' xs ds
 | _,_,.nil=>.nil
 | _,_,.cons h r=>.cons (Same.rd e h) (Same.rds e r)
end
theorem MK {X:Cx} {use:Option (Value->Sem Unit)} {R:Value->Shared->Prop} {ipos:Pos} {pins:List (Addr × Obj)} {s:Shared} {σ:St} {H:Hp} {Q:VK} {elt tg iter:Expr} {ifs:List Expr} {scope:Scope} {pos:Pos} {wi:TI} {gz:Bk->TG} {tcz:Bk->TT} {tez:Bk->TE} (loc:List Str) (fr:List Nat) (frn:List Str) (hc:X.calm=true) (hi:PI X tg iter wi)
  (hfr:∀ (j:Nat) (k:Nat) (x:Str),fr[j]?=some k->frn[j]?=some x->X.N[k]?=some x/\X.env.kindOf x=some .cell/\(x,NameKind.free) ∈ scope.names) (hln:frn.length=fr.length)
  (hcell:∀ y ∈ scope.names,y.2 ≠ .cell) (hkind:scope.kind=.function) (hnames:∀ y ∈ scope.names,y.2=.local->scope.names.lookup y.1=some .local) (hfree:∀ y ∈ scope.names,y.2=.free->X.env.kindOf y.1=some .cell)
  (hkin:∀ (x:Str),x ∈ frn->(relabel scope X.env).names.lookup x=some .cell) (hsc:X.env.scope.kind=.function)
  (hgk:∀ (z:Bk) (v:V) (σ:St) (H:Hp) (Q:St->Hp->Prop),gz z v σ H Q->gz z v σ H fun σ' H'=>Q σ' H'/\σ'.length=σ.length/\∀ i,loc.length<=i->σ'[i]?=σ[i]?)
  (hblk:∀ (z:Bk),PG (X.blk scope z.C z.fp (loc ++ frn) z.s z.H) tg (gz z)/\PTs (X.blk scope z.C z.fp (loc ++ frn) z.s z.H) ifs (tcz z)/\PE (X.blk scope z.C z.fp (loc ++ frn) z.s z.H) elt (tez z))
  (I:Inv X pins σ H s) (h:Fv loc.length fr wi gz tcz tez σ H Q)
  (haf:∀ (D C:Addr) (H':Hp) (s':Shared) (m:Str->Option Value),s'.heap.Ns C m->(∀ h',Heap.SameBut C s'.heap h'->Inv X pins σ H' { s' with heap:=h' }) ->
   (X.s₀.heap.objs.size<=C/\C ≠ X.env.locals/\(∀ x c,X.env.cells.lookup x=some c->c ≠ C)/\(∀ p ∈ X.pn ++ pins,p.1 ≠ C)/\H' C=none/\C ∉ frs X.stack)->Q (.ref D) H'->compPost (model X.prog X.w) X.A X.xe use R (.ref D) C (.ok .next) s')
  (hs:∀ x,foldedSetIterable iter X.env x=pure x):wpAny (model X.prog X.w) X.A (comprehension (.ListComp elt [⟨tg,iter,ifs,0⟩] scope pos) scope X.env ipos (newList []) false (eval iter X.env) use) R X.xe s:=by
 have hcs:∀ x ∈ scope.names,x.2=.free->(X.env.cells.lookup x.1).isSome=true:=fun x hx hf=>by
  obtain ⟨c,e⟩:=I.ok.has x.1 (.inl (hfree x hx hf))
  rw [e]; rfl
 refine wpAny_comprehension_free rfl hs (Gq hcs) hkind hnames (thn (hi pins s σ H _ I h) fun v s1 h1=>thn h1 fun itv s2 h2=>?_)
 obtain ⟨it,fp,tn,J,H2,rfl,I2,T,st2,f2,q2⟩:=h2
 refine wpAny_newList (items:=[]) ?_ (by simp)
 have eD:H2 s2.heap.objs.size=none:=I2.hok.fresh (aan _)
 have pk:∀ (o:Obj) b u,s2.heap.get? b=some u->(s2.heap.push o).get? b=some u:=fun o b u e=>Heap.get?_push_of_some _ e
 have I3:=I2.laid (a:=s2.heap.objs.size) (o:=.lst []) (t':=s2.toks) (h':=s2.heap.push { cls:=.type "list",data:=.seq ([]:List Value).toArray }) (pk _) (aan _)
  ⟨aay _,[],0,.nil,Heap.get?_push_size _ rfl⟩
 generalize hs3:(⟨s2.heap.push { cls:=.type "list",data:=.seq ([]:List Value).toArray },s2.gens,s2.drawn,s2.toks,s2.os⟩:Shared)=s3 at I3 ⊢
 have k3:∀ b u,s2.heap.get? b=some u->s3.heap.get? b=some u:=fun b u e=>by rw [<- hs3]; exact pk _ b u e
 have tk3:s3.os=s2.os/\s3.gens=s2.gens:=by rw [<- hs3]; exact ⟨rfl,rfl⟩
 have z3:s3.heap.objs.size=s2.heap.objs.size + 1:=by rw [<- hs3]; exact Heap.size_push ..
 refine wpAny_newFunctionEnv hcell (by intro y hy; simp at hy) (fun h4 hns hsb=>?_) hkind
 have k4:∀ b u,s3.heap.get? b=some u->h4.get? b=some u:=fun b u e=>hsb.extBut b u (aaI (Heap.lt_size e)) (Heap.get?_push_of_some _ e)
 have fpl:∀ b ∈ fp,b < s2.heap.objs.size:=fun b hb=>by
  obtain ⟨o,e,_⟩:=T.obj 0 _ st2 b hb
  exact Heap.lt_size e
 obtain ⟨W,⟨m0,w0⟩,turn⟩:=q2 ⟨s3.heap.objs.size,fp,s3,upd H2 s2.heap.objs.size (.lst [])⟩ _ eD
 have ok4:(X.blk scope s3.heap.objs.size fp (loc ++ frn) s3 (upd H2 s2.heap.objs.size (.lst []))).Ok:=by
  refine ⟨I.ok.mod,hkind,I.ok.glob,I.ok.blt,aan _,fun x y c e1 e2=>I.ok.inj x y c (AY hcs e1) (AY hcs e2),fun x hx=>?_,fun x c z=>(nomatch z),I.ok.hd,I.ok.frames,.inl rfl,fun b hb=>⟨?_,fun x c e=>(f2 b hb).2.2.2.2.1 x c (AY hcs e)⟩,I3.bs,aat I.ok.bsz I3.sz,
   fun b o e hb=>?_,fun b hb z=>?_,I3.stack,I3.stkFree⟩
  ·have hm:(x,NameKind.free) ∈ scope.names:=by
    have:∃ k',(k'=NameKind.cell\/k'=NameKind.free)/\(relabel scope X.env).names.lookup x=some k':=by
     rcases hx with z | z
     ·exact ⟨_,.inl rfl,z⟩
     ·exact ⟨_,.inr rfl,z⟩
    obtain ⟨k',hk',z⟩:=this
    have zm:=PySem.mem_of_lookup z
    unfold relabel at zm
    obtain ⟨⟨n,k⟩,hn,e⟩:=aaz.mp zm
    dsimp only at e
    split at e
    ·rename_i hk
     cases e
     have:k=NameKind.free:=by
      cases k <;> first | rfl | (simp at hk)
     rw [<- this]; exact hn
    ·cases e
     rcases hk' with rfl | rfl
     ·exact absurd rfl (hcell _ hn)
     ·exact hn
   obtain ⟨c,e⟩:=I.ok.has x (.inl (hfree _ hm rfl))
   exact ⟨c,DB hm hcs e⟩
  ·have:=fpl b hb
   exact aaI (by rw [z3]; exact Nat.lt_succ_of_lt this)
  ·rcases (f2 b hb).2.2.2.1 with z | z
   ·exact I.ok.noex b o e z
   ·exact absurd (aax (Heap.lt_size (I.ok.bs b o e).1) z) (aaS _)
  ·have:=I2.stkSub b z
   rcases aal.mp this with rfl | y
   ·exact (f2 _ hb).2.1 rfl
   ·exact (f2 b hb).2.2.1 y
 have I4:Inv (X.blk scope s3.heap.objs.size fp (loc ++ frn) s3 (upd H2 s2.heap.objs.size (.lst []))) [] (A6 loc.length fr σ) (upd H2 s2.heap.objs.size (.lst [])) { s3 with heap:=h4,toks:=s3.toks + ([]:List (Str × Value)).length }:=by
  refine ⟨ok4,rfl,I3.bare,Un.kept k4,⟨_,hns,fun i x v e1 e2 e3=>?_⟩,fun x c e=>?_,I3.hok.fresh (aan _),fun x c e=>I3.freeC x c (AY hcs e),fun p hp=>(nomatch hp),I3.hok.kept k4,?_⟩
  ·unfold A6 at e2
   by_cases hi:i < loc.length
   ·rw [aaF (by simpa using hi),aaU] at e2
    split at e2 <;> cases e2
   ·rw [aaB (by simpa using hi),aa4,aaj] at e2
    have e1':frn[i - loc.length]?=some x:=by
     have:(loc ++ frn)[i]?=some x:=e1
     rw [aaB (abf hi)] at this
     exact this
    cases ek:fr[i - loc.length]? with
    | none=>rw [ek] at e2; cases e2
    | some k =>
     rw [ek] at e2
     have e2':(σ[k]?).join=some v:=Option.some.inj e2
     have e2'':σ[k]?=some (some v):=by
      cases q:σ[k]? with
      | none=>rw [q] at e2'; cases e2'
      | some y=>rw [q] at e2'; exact congrArg some e2'
     obtain ⟨n1,n2,n3⟩:=hfr _ k x ek e1'
     obtain ⟨m,_,hl⟩:=I3.loc
     obtain ⟨u,ru,lk⟩:=hl k x v n1 e2'' (.inr (.inl n2))
     refine ⟨u,ru,.inr ⟨.inl (hkin x (aae e1')),?_⟩⟩
     rcases lk with ⟨z,_⟩ | ⟨_,c,ec,ic⟩
     ·rw [n2] at z; cases z
     ·obtain ⟨o,ho,hd⟩:=ic
      exact ⟨c,DB n3 hcs ec,o,k4 _ _ ho,hd⟩
  ·obtain ⟨v,o,ho,hd⟩:=I3.cell x c (AY hcs e)
   exact ⟨v,o,k4 _ _ ho,hd⟩
  ·unfold A6
   show _=(loc ++ frn).length
   rw [aaG,aaG,aa4,aab,hln]
 have stat:∀ {H':Hp},(∀ b ∈ fp,H' b=none)->∀ b ∈ fp,FpOk (X.blk scope s3.heap.objs.size fp (loc ++ frn) s3 (upd H2 s2.heap.objs.size (.lst []))) [] H' b:=fun hn b hb =>
  ⟨hn b hb,(ok4.exf b hb).1,ok4.exfs b hb,.inl hb,(ok4.exf b hb).2,fun p hp=>(nomatch hp)⟩
 have fp3:∀ b ∈ fp,(upd H2 s2.heap.objs.size (.lst [])) b=none:=fun b hb=>by
  rw [Al (aaI (fpl b hb))]; exact (f2 b hb).1
 obtain ⟨pg,pt,pe⟩:=hblk ⟨s3.heap.objs.size,fp,s3,upd H2 s2.heap.objs.size (.lst [])⟩
 have st4:tn 0 h4:=T.keep 0 _ _ st2 fun b _ o e=>k4 b o (k3 b o e)
 have after:∀ {i:Nat} {H':Hp} {s':Shared} {acc:List V} {σ':St},Inv (X.blk scope s3.heap.objs.size fp (loc ++ frn) s3 (upd H2 s2.heap.objs.size (.lst []))) [] σ' H' s'->Q (.ref s2.heap.objs.size) H' ->
   compPost (model X.prog X.w) X.A X.xe use R (.ref s2.heap.objs.size) s3.heap.objs.size (.ok .next) s':=by
  intro i H' s' acc σ' I5 q
  obtain ⟨m,hn,_⟩:=I5.loc
  refine haf s2.heap.objs.size s3.heap.objs.size H' s' m hn (fun h' hb=>?_) ⟨I3.sz,abY I3.lt,fun x c e z=>?_,fun p hp z=>?_,I5.free,fun z=>?_⟩ q
  ·have same:∀ b o,s3.heap.get? b=some o->h'.get? b=s'.heap.get? b:=fun b o e=>hb.2 b (aaI (Heap.lt_size e))
   have u:=I5.base
   have un:Un (frs X.stack) fp (upd H2 s2.heap.objs.size (.lst [])) H' s3.heap h':=⟨fun b o e n h1 h2=>(same b o e).trans (u.keep b o e n h1 h2),fun b o e n h1 h2=>by
     obtain ⟨sl,z⟩:=u.slot b o e n h1 h2
     exact ⟨sl,(same b o e).trans z⟩,u.free,fun b o e h1=>by
     obtain ⟨o',z⟩:=u.there b o e h1
     exact ⟨o',(same b o e).trans z⟩,u.tups,u.frzs,u.tbls⟩
   have hok:HOk X.prog X.w H' h':=fun b o e=>by
    have fC:H' s3.heap.objs.size=none:=I5.free
    refine (I5.hok b o e).stay (fun c w' hc z=>(hb.2 c ?_).trans z) (fun _ z=>z) fun _ _ z=>z
    rintro rfl
    rcases hc with rfl | hc
    ·rw [fC] at e; cases e
    ·rw [fC] at hc; cases hc
   exact I3.call' (s':={ s' with heap:=h' }) (ch:=fp) I5.os un hok I5.bare (fun b hb=>⟨(f2 b hb).2.2.2.1,(f2 b hb).2.1,(f2 b hb).2.2.2.2.1,(f2 b hb).2.2.2.2.2⟩)
  ·obtain ⟨v,hcell⟩:=I3.cell x c e
   exact absurd (z ▸ hcell.lt) (aaS _)
  ·exact absurd (z ▸ Heap.lt_size (I3.pin p hp).1) (aaS _)
  ·rcases aal.mp (I3.stkSub _ z) with y | y
   ·exact absurd (y ▸ I3.lt) (aaS _)
   ·exact I3.nofs (aan _) y
 have loop:∀ s5:Shared,s5={ s3 with heap:=h4,toks:=s3.toks + ([]:List (Str × Value)).length } ->
   codeAny (model X.prog X.w) X.A (.compLoop (.ListComp elt [⟨tg,iter,ifs,0⟩] scope pos) 0 (.ref it) (.ref s2.heap.objs.size) (compEnvC scope (BI X.env scope.names []) s3.heap.objs.size X.env))
    (compPost (model X.prog X.w) X.A X.xe use R (.ref s2.heap.objs.size) s3.heap.objs.size) s5:=by
  rintro s5 rfl
  refine EZ (fun n s'=>∃ i acc H',Inv (X.blk scope s3.heap.objs.size fp (loc ++ frn) s3 (upd H2 s2.heap.objs.size (.lst []))) [] (A6 loc.length fr σ) H' s'/\tn i s'.heap/\(∀ b ∈ fp,H' b=none)/\W i n acc H') ?_ m0
   ⟨0,[],_,I4,st4,fp3,w0⟩
  rintro n s6 ⟨i,acc,H6,I6,st6,fr6,w6⟩
  obtain ⟨hD,alt⟩:=turn i n acc H6 w6
  rcases alt with ⟨stop,q⟩ | ⟨go,step⟩
  ·refine thn (T.done (X.blk scope s3.heap.objs.size fp (loc ++ frn) s3 (upd H2 s2.heap.objs.size (.lst []))) rfl rfl rfl hc i [] s6 _ H6 (fun _ _=>False) I6 (stat fr6) st6 stop) fun r s7 ⟨hr,I7⟩=>?_
   subst hr
   exact after (i:=i) (acc:=acc) I7 q
  ·refine thn (T.item (X.blk scope s3.heap.objs.size fp (loc ++ frn) s3 (upd H2 s2.heap.objs.size (.lst []))) rfl rfl rfl hc i [] s6 _ H6 (fun _ _=>False) I6 (stat fr6) st6 go) fun r s7 ⟨u,hr,h7⟩=>?_
   subst hr
   refine thn h7 fun _ s8 ⟨x,H8,I8,r8,y8,st8,fr8⟩=>?_
   have I8':=I8.pinned (stat fr8) (T.obj _ _ st8)
   have back:∀ {σ9:St} {H9:Hp} {s9:Shared},Inv (X.blk scope s3.heap.objs.size fp (loc ++ frn) s3 (upd H2 s2.heap.objs.size (.lst []))) ([] ++ Et fp s8.heap) σ9 H9 s9->σ9.length=(A6 loc.length fr σ).length->(∀ i,loc.length<=i->σ9[i]?=(A6 loc.length fr σ)[i]?) ->
     Inv (X.blk scope s3.heap.objs.size fp (loc ++ frn) s3 (upd H2 s2.heap.objs.size (.lst []))) [] (A6 loc.length fr σ) H9 s9/\tn (i + 1) s9.heap/\(∀ b ∈ fp,H9 b=none):=by
    intro σ9 H9 s9 I9 hl hk
    refine ⟨(I9.unpinned).weak hl.symm fun j v ej=>?_,T.keep _ _ _ st8 fun b hb o e=>(I9.pin (b,o) (aag _ (aag _ (BV hb e)))).1,fun b hb=>?_⟩
    ·by_cases hj:j < loc.length
     ·unfold A6 at ej
      rw [aaF (by simpa using hj),aaU] at ej
      split at ej <;> cases ej
     ·rw [hk j (abf hj)]; exact ej
    ·obtain ⟨o,e,d⟩:=T.obj _ _ st8 b hb
     exact (I9.pin (b,o) (aag _ (aag _ (BV hb e)))).2.1
   refine thn (pg _ s8 _ H8 x u _ I8' r8 (hgk _ _ _ _ _ (step x H8 y8))) fun _ s9 ⟨σ9,H9,I9,q9,l9,k9⟩=>?_
   refine thn (pt _ s9 σ9 H9 _ I9 q9) fun ok s10 ⟨H10,I10,q10⟩=>?_
   cases ok with
   | false =>
    rw [if_neg (by decide)] at q10 ⊢
    obtain ⟨m',hm,w'⟩:=q10
    obtain ⟨b1,b2,b3⟩:=back I10 l9 k9
    exact ⟨m',hm,i + 1,acc,H10,b1,b2,b3,w'⟩
   | true =>
    rw [if_pos rfl] at q10 ⊢
    refine thn (pe _ s10 σ9 H10 _ I10 q10) fun y s11 ⟨v,H11,I11,r11,hD11,hz,m',hm,w'⟩=>?_
    refine thn (D9 _ s11 σ9 H11 (.ref s2.heap.objs.size) [v] (.ref s2.heap.objs.size) [y] (fun _ H12=>W (i + 1) m' (acc ++ [v]) H12) I11 rfl (.cons r11 .nil) ⟨_,acc,v,rfl,rfl,hD11,hz,w'⟩) fun _ s12 ⟨_,H12,I12,_,w12⟩=>?_
    obtain ⟨b1,b2,b3⟩:=back I12 l9 k9
    exact ⟨m',hm,i + 1,_,H12,b1,b2,b3,w12⟩
 exact codeAny_compStart_list (loop _ rfl) (T.self X.A 0 _ _ _ st4 (loop _ rfl))
theorem Inv.but {X:Cx} {pins:List (Addr × Obj)} {s:Shared} {σ:St} {H:Hp} {C:Addr} {h':Heap} (I:Inv X pins σ H s) (hC:X.s₀.heap.objs.size<=C/\C ≠ X.env.locals/\(∀ x c,X.env.cells.lookup x=some c->c ≠ C)/\(∀ p ∈ X.pn ++ pins,p.1 ≠ C)/\H C=none/\C ∉ frs X.stack)
  (hb:Heap.SameBut C s.heap h'):Inv X pins σ H { s with heap:=h' }:=by
 obtain ⟨h1,h2,h3,h4,h5,h6⟩:=hC
 have same:∀ b,b ∉ [C]->h'.get? b=s.heap.get? b:=fun b z=>hb.2 b (fun e=>z (by simp [e]))
 refine I.call' (s':={ s with heap:=h' }) (ch:=[C]) rfl ⟨fun b o e _ _ z=>(same b z).trans e,fun b o e _ _ z=>⟨o.slots,(same b z).trans e⟩,fun b o e n z=>n,fun b o e z=>⟨o,(same b z).trans e⟩,fun _ _ e=>e,fun _ _ _ e=>e,fun _ ps e=>⟨#[],by simpa using e⟩⟩ ?_ I.bare
  (fun b z=>by
   have:b=C:=by simpa using z
   subst this
   exact ⟨.inr h1,h2,h3,h4⟩)
 intro b o e
 refine (I.hok b o e).stay (fun c w' hc z=>(hb.2 c ?_).trans z) (fun _ z=>z) fun _ _ z=>z
 rintro rfl
 rcases hc with rfl | hc
 ·rw [h5] at e; cases e
 ·rw [h5] at hc; cases hc
theorem Gr {X:Cx} {elt tg iter:Expr} {ifs:List Expr} {scope:Scope} {pos spos py:Pos} {y:Str} {k:Nat} {wi:TI} {gz:Bk->TG} {tcz:Bk->TT} {tez:Bk->TE} (loc:List Str) (fr:List Nat) (frn:List Str) (hc:X.calm=true) (hi:PI X tg iter wi)
  (hfr:∀ (j:Nat) (k:Nat) (x:Str),fr[j]?=some k->frn[j]?=some x->X.N[k]?=some x/\X.env.kindOf x=some .cell/\(x,NameKind.free) ∈ scope.names) (hln:frn.length=fr.length)
  (hcell:∀ y ∈ scope.names,y.2 ≠ .cell) (hkind:scope.kind=.function) (hnames:∀ y ∈ scope.names,y.2=.local->scope.names.lookup y.1=some .local) (hfree:∀ y ∈ scope.names,y.2=.free->X.env.kindOf y.1=some .cell)
  (hkin:∀ (x:Str),x ∈ frn->(relabel scope X.env).names.lookup x=some .cell) (hsc:X.env.scope.kind=.function)
  (hgk:∀ (z:Bk) (v:V) (σ:St) (H:Hp) (Q:St->Hp->Prop),gz z v σ H Q->gz z v σ H fun σ' H'=>Q σ' H'/\σ'.length=σ.length/\∀ i,loc.length<=i->σ'[i]?=σ[i]?)
  (hblk:∀ (z:Bk),PG (X.blk scope z.C z.fp (loc ++ frn) z.s z.H) tg (gz z)/\PTs (X.blk scope z.C z.fp (loc ++ frn) z.s z.H) ifs (tcz z)/\PE (X.blk scope z.C z.fp (loc ++ frn) z.s z.H) elt (tez z))
  (hs:∀ x,foldedSetIterable iter X.env x=pure x) (hN:X.N.Nodup) (hk:X.N[k]?=some y) (hx:Loc X.env.scope y) (hf:X.fn y=true\/X.env.scope.names.lookup y=some .local)
  (hsw:swapsWith (.ListComp elt [⟨tg,iter,ifs,0⟩] scope pos) (some (.Name y py)) spos.line X.env=pure true) :
  PS X (.Assign [.Name y py] (.ListComp elt [⟨tg,iter,ifs,0⟩] scope pos) spos) (EV (Fv loc.length fr wi gz tcz tez) (D8 k)):=by
 intro pins s σ H D I h
 rw [exec_Assign_Name_used _ _ _ _ hsw]
 refine wpAny_bind (wpAny_standAt (wpAny_bind ?_))
 show wpAny _ X.A (do let _ <- comprehension (.ListComp elt [⟨tg,iter,ifs,0⟩] scope pos) scope X.env _ (newList []) false (eval iter X.env) (some (assign (.Name y py) X.env))) _ _ s
 refine wpAny_bind (wpAny_mono (MK (R:=fun _ s'=>SP X pins D .next s') loc fr frn hc hi hfr hln hcell hkind hnames hfree hkin hsc hgk hblk I h (fun D' C H' s' m hn hI hC q=>?_) hs) (fun _ s' hq=>wpAny_pure (wpAny_pure hq)) fun _ _ e=>e)
 have I7:Inv X pins σ H' s':=hI s'.heap ⟨rfl,fun _ _=>rfl⟩
 refine wpAny_assign_Name (Hc (v:=.ref D') I7 hN hk hx rfl (fun s8 I8 ⟨a,sb,ha⟩=>?_) hf)
 refine ⟨m,hn.sameBut sb ?_,fun h9 sb9=>⟨_,H',I8.but hC sb9,q⟩⟩
 rcases ha with rfl | ha
 ·exact hC.2.1
 ·exact fun z=>hC.2.2.1 _ _ ha z.symm
end L2
end
section
namespace L2
open PySem PySem.Spec PyProof.Rows PySem.W
section
variable {X:Cx} {pins:List (Addr × Obj)} {σ:St} {H:Hp} {s:Shared} {h':Heap}
theorem Inv.turnLaid {t':Nat} {ch:List Addr} {a:Addr} {o:HO} (I:Inv X pins σ H s) (k:∀ b u,b ∉ ch->s.heap.get? b=some u->h'.get? b=some u) (hf:∀ c ∈ ch,FpOk X pins H c) (ha:s.heap.objs.size<=a) (new:ObjOk X.prog X.w (upd H a o) h' a o) :
  Inv X pins σ (upd H a o) { s with heap:=h',toks:=t' }:=by
 have hn:=I.hok.fresh ha
 have nch:∀ b u,H b=some u->b ∉ ch:=fun b u e z=>by rw [(hf b z).1] at e; cases e
 have na:∀ b u,s.heap.get? b=some u->b ≠ a:=fun b u e z=>absurd (aax (Heap.lt_size e) (z ▸ ha)) (aaS _)
 refine I.step (g':=s.gens) (d':=s.drawn) (ch:=ch) (fun b hb=>?_) (fun b o _ _ hc e _=>k b o hc e) (fun b o _ _ hc e _=>⟨o.slots,k b o hc e⟩) (fun b u _ e n=>by rw [Al (na b u e)]; exact n)
  (fun b o hc e=>⟨o,k b o hc e⟩) (fun b xs e=>by rw [Al (AL e hn)]; exact e) (fun b u v e=>by rw [Al (AL e hn)]; exact e) (fun b ps e=>⟨#[],by rw [Al (AL e hn),e]; simp⟩) (fun m hm=>?_) (fun b u e=>?_) I.bare
 ·obtain ⟨f0,f1,f2,f3,f4,f5⟩:=hf b hb
  exact ⟨f3,f1,f4,f5⟩
 ·obtain ⟨o,es,ep,ho,r⟩:=hm
  exact ⟨o,es,ep,k _ o (fun z=>(hf _ z).2.1 rfl) ho,r⟩
 ·by_cases hb:b=a
  ·subst hb; rw [AJ] at e; cases e; exact new
  ·rw [Al hb] at e
   refine (I.hok b u e).stay (fun c v hc q=>k c v ?_ q) (fun c q=>by rw [Al (AL q hn)]; exact q) fun c xs q=>by rw [Al (AL q hn)]; exact q
   rcases hc with z | z
   ·rw [z]; exact nch b u e
   ·exact nch c _ z
theorem Inv.turnedL {t':Nat} {ch:List Addr} (I:Inv X pins σ H s) (k:∀ b u,b ∉ ch->s.heap.get? b=some u->h'.get? b=some u) (hf:∀ c ∈ ch,FpOk X pins H c):Inv X pins σ H { s with heap:=h',toks:=t' }:=by
 have nch:∀ b u,H b=some u->b ∉ ch:=fun b u e z=>by rw [(hf b z).1] at e; cases e
 refine I.step (g':=s.gens) (d':=s.drawn) (ch:=ch) (fun b hb=>?_) (fun b o _ _ hc e _=>k b o hc e) (fun b o _ _ hc e _=>⟨o.slots,k b o hc e⟩) (fun b u _ e n=>n)
  (fun b o hc e=>⟨o,k b o hc e⟩) (fun b xs e=>e) (fun b u v e=>e) (fun b ps e=>⟨#[],by rw [e]; simp⟩) (fun m hm=>?_) (fun b u e=>?_) I.bare
 ·obtain ⟨f0,f1,f2,f3,f4,f5⟩:=hf b hb
  exact ⟨f3,f1,f4,f5⟩
 ·obtain ⟨o,es,ep,ho,r⟩:=hm
  exact ⟨o,es,ep,k _ o (fun z=>(hf _ z).2.1 rfl) ho,r⟩
 ·refine (I.hok b u e).stay (fun c v hc q=>k c v ?_ q) (fun c q=>q) fun c xs q=>q
  rcases hc with z | z
  ·rw [z]; exact nch b u e
  ·exact nch c _ z
end
noncomputable def Ite (K:PySem.W.Frag) (a:Addr):It :=
 ⟨fun i H=>∃ xs x,SqL K H a xs/\xs[i]?=some x,fun i H v H'=>∃ t,H t=none/\v=.ref t/\∀ xs x,SqL K H a xs->xs[i]?=some x->H'=upd H t (.tup [.int i,x]),fun i H=>∃ xs,SqL K H a xs/\xs.length<=i⟩
theorem Lo {P:Program} {w:World} {K:PySem.W.Frag} {elts:List Expr} {k1:Nat} {pos:Pos} (a it e:Addr) (hne:e ≠ it):Turn P w K (.Tuple elts k1 pos) (Ite K a) [e,it] e (fun i h=>(∃ old,IsEnum h e it (i:Nat) old)/\h.IsListIter it a i) where
 mem:=by simp
 obj:=fun i h st b hb=>by
  obtain ⟨⟨old,st⟩,o,ho,c,d⟩:=st
  rcases aal.mp hb with rfl | hb
  ·exact ⟨_,st,fun v z=>by
    have z':Data.fields _=Data.cell v:=z
    cases z'⟩
  ·cases aav.mp hb
   exact ⟨o,ho,fun v z=>by rw [d] at z; cases z⟩
 keep:=fun i h h' st k=>by
  obtain ⟨⟨old,st⟩,st2⟩:=st
  exact ⟨⟨old,k e (by simp) _ st⟩,st2.at fun o q=>k it (by simp) o q⟩
 item:=by
  intro X hP hw hK hc i pins s σ H E I hf st hg
  subst hP hw hK
  obtain ⟨xs,x,hq,hx⟩:=hg
  obtain ⟨its,rv,p,hz⟩:=I.list hq
  obtain ⟨u,hu,ru⟩:=rv.get hx
  obtain ⟨⟨old,st1⟩,st2⟩:=st
  have fe:=hf e (by simp)
  have fi:=hf it (by simp)
  refine wpAny_pyNext_enum_item st1 st2 p.isList (x:=u) (by simpa using hu) hne fun h' ho hit' hT hsz hk=>?_
  refine ⟨_,rfl,wpAny_letOwnedTupleGo_enum ho fun h2 he2 hs2=>?_⟩
  have lte:e < s.heap.objs.size:=Heap.lt_size st1
  have lti:it < s.heap.objs.size:=by obtain ⟨o,q,_⟩:=st2; exact Heap.lt_size q
  have hT2:h2.get? s.heap.objs.size=some { cls:=.type "tuple",data:=.seq #[.int i s.toks,u] }:=(hs2.2 _ (abY lte)).trans hT
  have I1:Inv X pins σ (upd H s.heap.objs.size (.tup [.int i,x])) { s with heap:=h2,toks:=s.toks + 1 }:=I.turnLaid (ch:=[e,it]) (fun b o hb q=>by
    have n1:b ≠ e:=fun z=>hb (by simp [z])
    have n2:b ≠ it:=fun z=>hb (by simp [z])
    exact (hs2.2 b n1).trans (hk b o n1 n2 q)) hf (aan _)
   ⟨by simp [sizeLine],[.int i s.toks,u],.cons ⟨s.toks,rfl⟩ (.cons ru .nil),⟨_,hT2,rfl,_,rfl⟩⟩
  refine ⟨.ref s.heap.objs.size,_,I1,rfl,⟨_,I.hok.fresh (aan _),rfl,fun ys y hy hyx=>?_⟩,⟨⟨u,?_⟩,hit'.at fun o q=>(hs2.2 it (Ne.symm hne)).trans q⟩,fun b hb=>?_⟩
  ·have:=I.list_inj hy hq
   subst this
   rw [hx] at hyx
   cases hyx
   rfl
  ·have:((i + 1:Nat):Int)=(i:Int) + 1:=by omega
   rw [this]; exact he2
  ·rw [Al (fun z=>by
    subst z
    rcases aal.mp hb with q | q
    ·exact absurd lte (by rw [<- q]; exact aaS _)
    ·exact absurd lti (by rw [<- aav.mp q]; exact aaS _))]
   exact (hf b hb).1
 done:=by
  intro X hP hw hK hc i pins s σ H E I hf st hg
  subst hP hw hK
  obtain ⟨xs,hq,hx⟩:=hg
  obtain ⟨its,rv,p,hz⟩:=I.list hq
  obtain ⟨⟨old,st1⟩,st2⟩:=st
  have hl:=rv.length
  refine wpAny_pyNext_enum_end (I.ok.hd hc) st1 st2 p.isList (by simp; omega) fun h' eb=>⟨rfl,I.turnedL (t':=s.toks) (ch:=[e,it]) (fun b o hb q=>eb b o (fun z=>hb (by simp [z])) q) hf⟩
 self:=fun _ _ _ _ _ st h=>let ⟨⟨_,st⟩,_⟩:=st; wpAny_pyIter_enum st h
section
variable {X:Cx}
theorem Vals.tk {xs:List V} {us:List Value} (h:Vals xs us):∀ n,Vals (xs.take n) (us.take n)/\Vals (xs.drop n) (us.drop n):=by
 induction h with
 | nil=>intro n; cases n <;> exact ⟨.nil,.nil⟩
 | cons h1 h2 ih =>
  intro n
  cases n with
  | zero=>exact ⟨.nil,.cons h1 h2⟩
  | succ n=>exact ⟨.cons h1 (ih n).1,(ih n).2⟩
end
noncomputable def ML (lo c:Int) (n:Nat):It:=⟨fun i _=>i < n,fun i H x H'=>H'=H/\x=.int (lo + i * c),fun i _=>n<=i⟩
theorem IY {P:Program} {w:World} {K:PySem.W.Frag} {tg:Expr} (it:Addr) (lo c:Int) (n:Nat):Turn P w K tg (ML lo c n) [it] it (fun i h=>IsRangeIter h it (lo + (i:Nat) * c) ((n:Int) - (i:Nat)) c) where
 mem:=by simp
 obj:=fun i h st b hb=>by
  have e:b=it:=by simpa using hb
  subst e
  exact ⟨_,st,fun v z=>by
   have z':Data.fields _=Data.cell v:=z
   cases z'⟩
 keep:=fun i h h' st k=>k it (by simp) _ st
 item:=by
  intro X hP hw hK hc i pins s σ H E I hf st hg
  subst hP hw hK
  obtain ⟨f0,f1,f2,f3,f4,f5⟩:=hf it (by simp)
  have W:=Walks.range (prog:=X.prog) (w:=X.w) (I.ok.hd hc) it lo c n
  refine W.item i s _ _ hg st fun v h' tk hv st' kk=>?_
  obtain ⟨t,rfl⟩:=hv
  have I1:Inv X pins σ H { s with heap:=h',toks:=tk }:=I.turned (fun b o hb e=>kk b o (by simpa using hb) e) f0 f1 f3 f4 f5
  exact ⟨_,rfl,Hx (s:={ s with heap:=h',toks:=tk }) (n := "range_iterator") st' rfl rfl (by decide) ⟨.int (lo + i * c),H,I1,⟨t,rfl⟩,⟨rfl,rfl⟩,st',fun b hb=>(hf b hb).1⟩⟩
 done:=by
  intro X hP hw hK hc i pins s σ H E I hf st hg
  subst hP hw hK
  obtain ⟨f0,f1,f2,f3,f4,f5⟩:=hf it (by simp)
  exact wpAny_pyNext_range_end (I.ok.hd hc) st (by have:n<=i:=hg; omega) fun h' eb=>⟨rfl,I.turned (t':=s.toks) (fun b o hb e=>eb b o hb e) f0 f1 f3 f4 f5⟩
 self:=fun _ _ _ _ _ st h=>wpAny_pyIter_rangeiter st h
theorem Lp {a b c:Int} (hc:c ≠ 0):0<=Builtin.Range.rangeSize a b c:=by
 unfold Builtin.Range.rangeSize
 split
 ·split
  ·have:=ack (a:=b - a - 1) (b:=c) (by omega) (by omega); exact abS this (by decide)
  ·exact by decide
 ·split
  ·have:=ack (a:=a - b - 1) (b:=-c) (by omega) (by omega); exact abS this (by decide)
  ·exact by decide
theorem IZ {a b c:Int} (ha:-(2 ^ 62)<=a) (ha':a < 2 ^ 62) (hb:-(2 ^ 62)<=b) (hb':b < 2 ^ 62) (hc:-(2 ^ 62)<=c) (hc':c < 2 ^ 62) (h0:c ≠ 0) (hn:(Builtin.Range.rangeSize a b c).toNat<=2 ^ 24):Builtin.Range.small a b c=true:=by
 have:=Lp (a:=a) (b:=b) h0
 unfold Builtin.Range.small
 generalize Builtin.Range.rangeSize a b c=n at *
 simp only [Builtin.Range.rangeFitsLong,aah,Bool.or_eq_true,decide_eq_true_eq,beq_iff_eq]
 refine ⟨⟨⟨⟨⟨by omega,by omega⟩,⟨by omega,by omega⟩⟩,⟨by omega,by omega⟩⟩,⟨by exact abM (by decide) this,by omega⟩⟩,.inr ?_⟩
 split
 ·simp only [aah,decide_eq_true_eq]; omega
 ·simp only [aah,decide_eq_true_eq]; omega
section
variable {X:Cx} {tg:Expr}
noncomputable def R5 (ta:TA):TI:=fun σ H R=>ta σ H fun vs H1=>∃ i j c:Int,vs=[.int i,.int j,.int c]/\(-(2 ^ 62)<=i/\i < 2 ^ 62/\-(2 ^ 62)<=j/\j < 2 ^ 62/\-(2 ^ 62)<=c/\c < 2 ^ 62)/\c ≠ 0/\(Builtin.Range.rangeSize i j c).toNat<=2 ^ 24/\R (ML i c (Builtin.Range.rangeSize i j c).toNat) H1
theorem Lq {a b d:Expr} {ta:TA} {p pos:Pos} (hg:Gl X "range") (hm:X.mg "range" = none) (ha:PA X [a,b,d] ta) (hs:starEach [a,b,d] X.env=[(false,eval a X.env),(false,eval b X.env),(false,eval d X.env)]) (hs2:starEach [b,d] X.env=[(false,eval b X.env),(false,eval d X.env)]) :
  PI X tg (.Call (.Name "range" p) [a,b,d] [] pos) (R5 ta):=by
 intro pins s σ H R I h
 refine Call_ (DV I hg hm boot_range (PyProof.Rows.callWith_type1 (thn (ha pos pins s σ H _ I h) fun us s1 ⟨vs,H1,I1,r1,q1⟩=>?_) (by rw [hs,hs2]) (by rw [hs2]; rfl)))
 obtain ⟨i,j,c,e,⟨q1,q2,q3,q4,q5,q6⟩,q0,qn,q⟩:=q1
 subst e
 cases r1 with
 | cons r rr =>
  cases rr with
  | cons r' rr =>
   cases rr with
   | cons r2 rr =>
    cases rr
    obtain ⟨t,rfl⟩:=r
    obtain ⟨t',rfl⟩:=r'
    obtain ⟨t2,rfl⟩:=r2
    refine call_range_3 q0 ?_ (.inl (PyProof.noPylong_of_log2 ?_))
    ·refine wpAny_pyIter_range (IsRange.new ..) (IZ q1 q2 q3 q4 q5 q6 q0 qn) ?_
     have I2:Inv X pins σ H1 { s1 with heap:=s1.heap.push { cls:=.type "range",data:=.fields #[.int i t,.int j t',.int c t2] },toks:=s1.toks }:=I1.kept fun b o e=>Heap.get?_push_of_some _ e
     refine ⟨(s1.heap.push { cls:=.type "range",data:=.fields #[.int i t,.int j t',.int c t2] }).objs.size,[(s1.heap.push { cls:=.type "range",data:=.fields #[.int i t,.int j t',.int c t2] }).objs.size],_,_,H1,rfl,I2.kept (t':=s1.toks) fun b o e=>Heap.get?_push_of_some _ e,IY _ i c (Builtin.Range.rangeSize i j c).toNat,?_,fun b hb=>?_,q⟩
     ·have e1:i + ((0:Nat):Int) * c=i:=by simp
      have e2:(((Builtin.Range.rangeSize i j c).toNat:Nat):Int) - ((0:Nat):Int)=Builtin.Range.rangeSize i j c:=by have:=Lp (a:=i) (b:=j) q0; exact abH this
      show IsRangeIter _ _ (i + ((0:Nat):Int) * c) ((((Builtin.Range.rangeSize i j c).toNat:Nat):Int) - ((0:Nat):Int)) c
      rw [e1,e2]
      exact Heap.get?_push_size _ rfl
     ·have e:b=(s1.heap.push { cls:=.type "range",data:=.fields #[.int i t,.int j t',.int c t2] }).objs.size:=by simpa using hb
      subst e
      exact I2.fpOk (aan _) (I2.hok.fresh (aan _))
    ·have:c.natAbs.log2 < 63:=(acK (by omega)).mpr (by omega)
     exact aat this (by decide)
end
end L2
end
section
namespace L2
open PySem PySem.Spec PyProof PyProof.Rows PySem.W
section
variable {prog:Program} {w:World} {A:Around} {E:Value->Shared->Prop}
theorem Lr {it l:Addr} {items:Array Value} (hne:l ≠ it):∀ (n i:Nat) (s:Shared) (Q:List Value->Shared->Prop),s.heap.IsListIter it l i->s.heap.IsList l items->i + n<=items.size->(∀ h',h'.IsListIter it l (i + n)->Heap.SameBut it s.heap h'->Q ((items.toList.drop i).take n) { s with heap:=h' })->wpAny (model prog w) A (draw (.ref it) n) Q E s
 | 0,i,s,Q,hit,_,_,hQ=>wpAny_pure (by simpa using hQ s.heap hit (Heap.SameBut.refl ..))
 | n + 1,i,s,Q,hit,hl,hle,hQ=>by
  have hz:i < items.size:=by omega
  show wpAny _ _ (pyNext (.ref it) >>= _) Q E s; refine wpAny_bind (wpAny_pyNext_list_item hit hl (x:=items[i]) (by simp [hz]) fun h1 hit1 hs1=>?_)
  have hl1:h1.IsList l items:=by
   obtain ⟨o,e,c⟩:=hl
   exact ⟨o,(hs1.2 l hne).trans e,c⟩
  refine wpAny_bind (wpAny_holding (Lr hne n (i + 1) _ _ hit1 hl1 (by omega) fun h2 hit2 hs2=>wpAny_pure ?_))
  have hd:items.toList.drop i=items[i] :: items.toList.drop (i + 1):=by simp [abJ,hz]
  have:=hQ h2 (by rw [show i + (n + 1)=i + 1 + n by omega]; exact hit2) ⟨hs2.1.trans hs1.1,fun b hb=>(hs2.2 b hb).trans (hs1.2 b hb)⟩
  rw [hd,List.take_succ_cons] at this; exact this
theorem Op {s:Shared} {l:Addr} {items:Array Value} {Q:List Value->Shared->Prop} (hh:A.handled=none) (hl:s.heap.IsList l items) (hQ:∀ h',Heap.ExtBut s.heap.objs.size s.heap h'->Q items.toList { s with heap:=h' }):wpAny (model prog w) A (unpackItems (.ref l) items.size none) Q E s:=by
 have hlt:l ≠ s.heap.objs.size:=by obtain ⟨o,ho,_⟩:=hl; exact aaI (Heap.lt_size ho)
 unfold unpackItems notIterableAtAll
 refine wpAny_bind (wpAny_bind (wpAny_specialOf hl.typeIs slot_list_iter.lookup (wpAny_pure ?_)))
 simp only [aa1,if_false]; refine wpAny_bind (wpAny_holding (wpAny_pyIter_list hl ?_))
 have hl0:(s.heap.push { cls:=.type "list_iterator",data:=.fields #[.ref l,.int 0 0] }).IsList l items:=by
  obtain ⟨o,e,c⟩:=hl
  exact ⟨o,Heap.get?_push_of_some _ e,c⟩
 refine wpAny_bind (wpAny_holding (Lr hlt items.size 0 _ _ ⟨_,Heap.get?_push_size _ rfl,rfl,rfl⟩ hl0 (by omega) fun h1 hit1 hs1=>?_))
 have hall:List.take items.size (List.drop 0 items.toList)=items.toList:=by
  rw [List.drop_zero]; exact List.take_of_length_le (by simp)
 rw [hall,if_neg (by simp)]
 have hl1:h1.IsList l items:=by
  obtain ⟨o,e,c⟩:=hl0
  exact ⟨o,(hs1.2 l hlt).trans e,c⟩
 refine wpAny_bind (wpAny_holding (wpAny_pyNext_list_end hh hit1 hl1 (by simp) fun h2 he2=>?_))
 simp only [Option.isSome_none,aa1,if_false]
 exact wpAny_pure (hQ h2 fun b o hb e=>he2 b o hb ((hs1.2 b hb).trans (Heap.get?_push_of_some _ e)))
end
section
variable {X:Cx} {pos:Pos}
noncomputable def QH (K:PySem.W.Frag) (n:Nat) (t:TGs):TG:=fun v σ H Q=>∃ a xs,v=.ref a/\SqL K H a xs/\xs.length=n/\t xs σ H Q
theorem QI {es:List Expr} {k:Nat} {t:TGs} {n:Nat} (hc:X.calm=true) (h:PGs X es t) (hn:(assignEach es X.env).length=n) (hst:(assignEach es X.env).findIdx? (·.1)=none):PG X (.Tuple es k pos) (QH X.K n t):=by
 intro pins s σ H v u Q I r hw
 obtain ⟨a,xs,rfl,hq,hl,hw⟩:=hw
 cases r
 obtain ⟨its,rv,pl,hz⟩:=I.list hq
 rw [assign_Tuple]
 refine wpAny_bind (wpAny_standAt ?_)
 unfold unpack
 rw [hst,hn,<- hl,rv.length,show its.length=its.toArray.size by simp]
 refine wpAny_bind (wpAny_holding (Op (I.ok.hd hc) pl.isList fun h' hx=>?_))
 have I1:Inv X pins σ H { s with heap:=h' }:=I.kept (t':=s.toks) fun b o e=>hx b o (aaI (Heap.lt_size e)) e
 exact h pins _ σ H xs _ Q I1 (by simpa using rv) hw
end
end L2
end
section
namespace L2
open PySem PySem.Spec PyProof.Rows PySem.W
open AutoSeq1 (wpAny_loadPart')
theorem FpOk.upd {X:Cx} {pins:List (Addr × Obj)} {H:Hp} {c t:Addr} {o:HO} (h:FpOk X pins H c) (n:c ≠ t):FpOk X pins (upd H t o) c:=by
 obtain ⟨f0,f1,f2,f3,f4,f5⟩:=h
 exact ⟨by rw [Al n]; exact f0,f1,f2,f3,f4,f5⟩
end L2
end
section
namespace L2
open PySem PySem.Spec PyProof.Rows
noncomputable def PEk (X:Cx) (e:Expr) (t:TE):Prop :=
 ∀ (pins:List (Addr × Obj)) (s:Shared) (σ:St) (H:Hp) (Q:VK),Inv X pins σ H s->0 < s.toks->t σ H Q->wpAny (model X.prog X.w) X.A (eval e X.env) (EP X pins σ Q) X.xe s
section
variable {X:Cx} {a b e o:Expr} {es:List Expr} {ta tb te to:TE} {t:TA} {pos:Pos}
theorem PE.k (h:PE X e te):PEk X e te:=fun pins s σ H Q I _ q=>h pins s σ H Q I q
end
end L2
end
section
namespace Pu
open PySem (Str)
inductive D where
 | non
 | bl (b:Bool)
 | int (i:Int)
 | str (x:Str)
 | tup (ds:List D)
 | lst (ds:List D)
 | exn (c:Nat)
inductive Res (α:Type) where
 | ok (a:α)
 | exc (c:Nat)
 | bad
namespace Res
noncomputable def bind {α β:Type}:Res α->(α->Res β)->Res β
 | .ok a,f=>f a
 | .exc c,_=>.exc c
 | .bad,_=>.bad
@[simp] theorem bind_ok {α β:Type} (a:α) (f:α->Res β):(Res.ok a).bind f=f a:=rfl
@[simp] theorem bind_exc {α β:Type} (c:Nat) (f:α->Res β):(Res.exc c:Res α).bind f=.exc c:=rfl
@[simp] theorem bind_bad {α β:Type} (f:α->Res β):(Res.bad:Res α).bind f=.bad:=rfl
theorem bind_eq_ok {α β:Type} {r:Res α} {f:α->Res β} {b:β} (h:r.bind f=.ok b):∃ a,r=.ok a/\f a=.ok b:=by
 cases r <;> simp_all
end Res
mutual
noncomputable def D.eqv:D->D->Bool
 | .non,.non=>true
 | .bl a,.bl b=>a==b
 | .bl a,.int j=>(if a then 1 else 0)==j
 | .int i,.bl b=>i==(if b then 1 else 0)
 | .int i,.int j=>i==j
 | .str x,.str y=>x==y
 | .lst xs,.lst ys=>D.eqvs xs ys
 | .tup xs,.tup ys=>D.eqvs xs ys
 | _,_=>false
noncomputable def D.eqvs:List D->List D->Bool
 | [],[]=>true
 | x :: xs,y :: ys=>D.eqv x y && D.eqvs xs ys
 | _,_=>false
end
noncomputable def D.shp:Nat->D->Bool
 | _,.non=>true
 | _,.bl _=>true
 | _,.int _=>true
 | _,.str x=>x.cps.all (· < 0x110000)
 | 0,.tup _=>false
 | 0,.lst _=>false
 | n + 1,.tup ds=>ds.all (D.shp n)
 | n + 1,.lst ds=>ds.all (D.shp n)
 | _,.exn _=>false
noncomputable def D.flat:Nat->Nat->D->Bool
 | 0,_,_=>false
 | _ + 1,_,.non=>true
 | _ + 1,_,.bl _=>true
 | _ + 1,_,.int _=>true
 | _ + 1,_,.str _=>true
 | _ + 1,_,.exn _=>true
 | m + 1,k,.tup ds=>ds.all (D.flat m k)
 | _ + 1,0,.lst _=>false
 | m + 1,k + 1,.lst ds=>ds.all (D.flat m k)
noncomputable abbrev LIM:Nat:=16777216
noncomputable abbrev Fr:=List (Option D)
structure Fn where
 name:Str
 ar:Nat
 lv:Nat
 dep:Nat
 den:List D->Res D
set_option genSizeOf false
set_option genSizeOfSpec false
set_option genInjectivity false
inductive B2 where
 | add | sub | mul | fdiv | mod | pow
 deriving DecidableEq
inductive C2 where
 | lt | le | gt | ge | eq | ne | inn | nin
 deriving DecidableEq
inductive Kd where
 | int | bool | str | list | tuple | dict | verr | cls (n:Nat)
 deriving DecidableEq
inductive Bi where
 | len | min | max | maxL | int | list
 deriving DecidableEq
inductive Tg where
 | nm (i:Nat)
 | tp (is:List Nat)
 deriving DecidableEq
mutual
inductive E where
 | nm (i:Nat)
 | cN
 | cB (b:Bool)
 | cI (i:Int)
 | cS (x:Str)
 | gl (x:Str) (d:D)
 | tup (es:Es)
 | lst (es:Es)
 | bin (o:B2) (a b:E)
 | neg (a:E)
 | not (a:E)
 | cmp (o:C2) (a b:E)
 | chain (o o':C2) (a b c:E)
 | isN (n:Bool) (a:E)
 | bo (and:Bool) (es:Es)
 | ix (a i:E)
 | ixS (a i:E)
 | ixL (a i:E)
 | ixT (a i:E)
 | ixU (a i:E)
 | ixG (a i:E)
 | slc (a lo hi:E)
 | call (f:Fn) (es:Es)
 | callB (f:Fn) (es:Es)
 | bi (b:Bi) (es:Es)
 | isi (a:E) (k:Kd)
 | comp0 (nl:Nat) (fr:List Nat) (tg:Tg) (it:It) (elt:E)
 | comp1 (nl:Nat) (fr:List Nat) (tg:Tg) (it:It) (cond elt:E)
inductive Es where
 | nil
 | cons (e:E) (r:Es)
inductive It where
 | seq (e:E)
 | seqL (e:E)
 | r1 (a:E)
 | r2 (a b:E)
 | r3 (a b c:E)
 | en (e:E)
end
noncomputable def get (δ:Fr) (i:Nat):Res D:=match δ[i]? with
 | some (some d)=>.ok d
 | _=>.bad
noncomputable def on1:List D->(D->Res D)->Res D
 | [a],f=>f a
 | _,_=>.bad
noncomputable def on2:List D->(D->D->Res D)->Res D
 | [a,b],f=>f a b
 | _,_=>.bad
noncomputable def on3:List D->(D->D->D->Res D)->Res D
 | [a,b,c],f=>f a b c
 | _,_=>.bad
noncomputable def Du:D->(Int->Res D)->Res D
 | .int i,f=>f i
 | _,_=>.bad
noncomputable def Bt (a b:D) (f:Int->Int->Res D):Res D:=Du a fun i=>Du b fun j=>f i j
noncomputable def CC:D->(List D->Res D)->Res D
 | .lst ds,f=>f ds
 | .tup ds,f=>f ds
 | _,_=>.bad
noncomputable def Kg:D->D->Res D
 | .int i,.int j=>.ok (.int (i + j))
 | .lst a,.lst b=>if a.length + b.length<=LIM then .ok (.lst (a ++ b)) else .bad
 | .str a,.str b=>if a.length + b.length<=LIM then .ok (.str (a ++ b)) else .bad
 | _,_=>.bad
noncomputable def HQ:D->D->Res D
 | .int i,.int j=>if (-(2 ^ 64) < i/\i < 2 ^ 64)\/(-(2 ^ 64) < j/\j < 2 ^ 64) then .ok (.int (i * j)) else if i.natAbs < 2 ^ 400/\j.natAbs < 2 ^ 400 then .ok (.int (i * j)) else .bad
 | .lst a,.int k=>if -(2 ^ 63)<=k/\k < 2 ^ 63/\a.length * k.toNat<=LIM then .ok (.lst (aak k.toNat a).flatten) else .bad
 | _,_=>.bad
noncomputable def b2:B2->D->D->Res D
 | .add,a,b=>Kg a b
 | .sub,a,b=>Bt a b fun i j=>.ok (.int (i - j))
 | .mul,a,b=>HQ a b
 | .fdiv,a,b=>Bt a b fun i j=>if 0 < j/\j < 2 ^ 200 then .ok (.int (i / j)) else .bad
 | .mod,a,b=>Bt a b fun i j=>if 0 < j then .ok (.int (i % j)) else .bad
 | .pow,a,b=>Bt a b fun i j=>if 0<=j/\j<=1000000/\i.natAbs < 2 ^ 64 then .ok (.int (i ^ j.toNat)) else .bad
noncomputable def D.scal:D->Bool
 | .non | .bl _ | .int _ | .str _=>true
 | _=>false
noncomputable def inD (x:D) (ys:List D):Res Bool:=if D.shp 8 x && ys.all (D.shp 8) then .ok (ys.any fun y=>D.eqv y x) else .bad
noncomputable def c2:C2->D->D->Res D
 | .lt,a,b=>Bt a b fun i j=>.ok (.bl (decide (i < j)))
 | .le,a,b=>Bt a b fun i j=>.ok (.bl (decide (i<=j)))
 | .gt,a,b=>Bt a b fun i j=>.ok (.bl (decide (j < i)))
 | .ge,a,b=>Bt a b fun i j=>.ok (.bl (decide (j<=i)))
 | .eq,x,y=>if D.shp 8 x && D.shp 8 y then .ok (.bl (D.eqv x y)) else .bad
 | .ne,x,y=>if D.shp 8 x && D.shp 8 y then .ok (.bl (!D.eqv x y)) else .bad
 | .inn,x,y=>CC y fun ys=>(inD x ys).bind fun b=>.ok (.bl b)
 | .nin,x,y=>CC y fun ys=>(inD x ys).bind fun b=>.ok (.bl !b)
noncomputable def ixN (n:Nat) (i:Int):Option Nat:=if 0<=i then (if i < n then some i.toNat else none) else if -(n:Int)<=i then some (i + n).toNat else none
noncomputable def atD (ds:List D) (i:Int):Res D:=match (ixN ds.length i).bind (fun j=>ds[j]?) with
 | some d=>.ok d
 | none=>.bad
noncomputable def ixD:D->D->Res D
 | .lst ds,.int i=>atD ds i
 | .tup ds,.int i=>atD ds i
 | _,_=>.bad
noncomputable def CU:D->D->Res D
 | .lst ds,.int i=>atD ds i
 | _,_=>.bad
noncomputable def Dv:D->D->Res D
 | .tup ds,.int i=>atD ds i
 | _,_=>.bad
noncomputable def sIx (n d:Nat):Option Int->Nat
 | none=>d
 | some v=>(if v < 0 then max (v + (n:Int)) 0 else min v (n:Int)).toNat
noncomputable def cut {α:Type} (xs:List α) (lo hi:Option Int):List α:=(xs.drop (sIx xs.length 0 lo)).take (sIx xs.length xs.length hi - sIx xs.length 0 lo)
noncomputable def CD:D->Res (Option Int)
 | .int i=>.ok (some i)
 | _=>.bad
noncomputable def BW (n:Bool) (r:Res D):Res (Option Int):=if n then .ok none else r.bind CD
noncomputable def E.isCN:E->Bool
 | .cN=>true
 | _=>false
noncomputable def Dw:D->Option Int->Option Int->Res D
 | .lst ds,lo,hi=>.ok (.lst (cut ds lo hi))
 | .tup ds,lo,hi=>if ds.all D.scal=true/\¬ (sIx ds.length 0 lo=0/\sIx ds.length ds.length hi=ds.length) then .ok (.tup (cut ds lo hi)) else .bad
 | _,_,_=>.bad
noncomputable def BA:D->Res Bool
 | .non=>.ok false
 | .bl b=>.ok b
 | .int i=>.ok (i != 0)
 | .lst ds=>.ok (!ds.isEmpty)
 | .tup ds=>.ok (!ds.isEmpty)
 | _=>.bad
noncomputable def isa (c d:Nat):Bool:=c==d || d==0
noncomputable def dI:D->Bool
 | .int _=>true
 | .bl _=>true
 | _=>false
noncomputable def dB:D->Bool
 | .bl _=>true
 | _=>false
noncomputable def dS:D->Bool
 | .str _=>true
 | _=>false
noncomputable def dL:D->Bool
 | .lst _=>true
 | _=>false
noncomputable def dT':D->Bool
 | .tup _=>true
 | _=>false
noncomputable def dD:D->Bool
 | .exn c=>c==999
 | _=>false
noncomputable def dX:D->(Nat->Bool)->Res Bool
 | .exn c,f=>if c==999 then .bad else .ok (f c)
 | _,_=>.bad
noncomputable def Cm (d:D):Kd->Res Bool
 | .int=>.ok (dI d)
 | .bool=>.ok (dB d)
 | .str=>.ok (dS d)
 | .list=>.ok (dL d)
 | .tuple=>.ok (dT' d)
 | .dict=>.ok (dD d)
 | .verr=>dX d fun _=>true
 | .cls n=>dX d fun c=>isa c n
noncomputable def B5:List D->Option (List Int)
 | []=>some []
 | .int i :: r=>(B5 r).map (i :: ·)
 | _=>none
noncomputable def Jz:List D->Option (List Bool)
 | []=>some []
 | .bl i :: r=>(Jz r).map (i :: ·)
 | _=>none
noncomputable def Eg {α:Type}:Option α->Res α
 | some a=>.ok a
 | none=>.bad
noncomputable def Dc:D->(List Int->Res D)->Res D
 | .lst ds,f=>(Eg (B5 ds)).bind f
 | _,_=>.bad
noncomputable def CF:D->(List Bool->Res D)->Res D
 | .lst ds,f=>(Eg (Jz ds)).bind f
 | _,_=>.bad
noncomputable def EF:D->(List D->Res D)->Res D
 | .lst ds,f=>f ds
 | _,_=>.bad
noncomputable def Eh:D->Res D
 | .int i=>.ok (.int i)
 | .bl b=>.ok (.int (if b then 1 else 0))
 | _=>.bad
noncomputable def biD:Bi->List D->Res D
 | .len,ds=>on1 ds fun d=>CC d fun ds=>.ok (.int ds.length)
 | .min,ds=>on2 ds fun a b=>Bt a b fun i j=>.ok (.int (min i j))
 | .max,ds=>on2 ds fun a b=>Bt a b fun i j=>.ok (.int (max i j))
 | .maxL,ds=>on1 ds fun d=>Dc d fun ns=>(Eg ns.max?).bind fun n=>.ok (.int n)
 | .int,ds=>on1 ds Eh
 | .list,ds=>on1 ds fun d=>CC d fun ds=>.ok (.lst ds)
noncomputable def Eu:List Nat->List D->Fr->Option Fr
 | [],[],δ=>some δ
 | i :: is,d :: ds,δ=>Eu is ds (δ.set i (some d))
 | _,_,_=>none
noncomputable def CG:Tg->D->Fr->Option Fr
 | .nm i,d,δ=>some (δ.set i (some d))
 | .tp is,.tup ds,δ=>Eu is ds δ
 | .tp is,.lst ds,δ=>Eu is ds δ
 | _,_,_=>none
noncomputable def A3 (f:D->Res (Option D)):List D->Res (List D)
 | []=>.ok []
 | d :: ds=>match f d with
  | .ok o=>(A3 f ds).bind fun r=>.ok (match o with | some x=>x :: r | none=>r)
  | _=>.bad
noncomputable def blk (nl:Nat) (fr:List Nat) (δ:Fr):Fr:=aak nl none ++ fr.map fun j=>(δ[j]?).join
noncomputable def Ax (a b:Int):List D:=(aaD (b - a).toNat).map fun (i:Nat)=>D.int (a + i)
noncomputable def Dd:D->Res (List D)
 | .lst ds=>.ok ds
 | .tup ds=>.ok ds
 | _=>.bad
noncomputable def B6:D->Res (List D)
 | .lst ds=>.ok ds
 | _=>.bad
noncomputable def Bu (i:Int):Bool:=decide (-(2 ^ 62)<=i) && decide (i < 2 ^ 62)
noncomputable def MM:D->D->Res (List D)
 | .int a,.int b=>if Bu a && Bu b && decide ((b - a).toNat<=LIM) then .ok (Ax a b) else .bad
 | _,_=>.bad
noncomputable def DY (a:Int) (c:Int) (n:Nat):List D:=(aaD n).map fun (i:Nat)=>D.int (a + i * c)
noncomputable def r3N (a b c:Int):Nat:=if 0 < c then ((b - a + c - 1) / c).toNat else ((a - b + (-c) - 1) / (-c)).toNat
noncomputable def MN:D->D->D->Res (List D)
 | .int a,.int b,.int c=>if Bu a && Bu b && Bu c && decide (c ≠ 0) && decide (r3N a b c<=LIM) then .ok (DY a c (r3N a b c)) else .bad
 | _,_,_=>.bad
noncomputable def Bg (ds:List D):List D:=ds.zipIdx.map fun p=>.tup [.int p.2,p.1]
noncomputable def HR:D->Res (List D)
 | .lst ds=>.ok (Bg ds)
 | _=>.bad
mutual
noncomputable def ev:E->Fr->Res D
 | .nm i,δ=>get δ i
 | .cN,_=>.ok .non
 | .cB b,_=>.ok (.bl b)
 | .cI i,_=>.ok (.int i)
 | .cS x,_=>.ok (.str x)
 | .gl _ d,_=>.ok d
 | .tup es,δ=>(evs es δ).bind fun ds=>.ok (.tup ds)
 | .lst es,δ=>(evs es δ).bind fun ds=>.ok (.lst ds)
 | .bin o a b,δ=>(ev a δ).bind fun x=>(ev b δ).bind fun y=>b2 o x y
 | .neg a,δ=>(ev a δ).bind fun x=>match x with | .int i=>.ok (.int (-i)) | _=>.bad
 | .not a,δ=>(ev a δ).bind fun x=>match x with | .bl b=>.ok (.bl !b) | _=>.bad
 | .cmp o a b,δ=>(ev a δ).bind fun x=>(ev b δ).bind fun y=>c2 o x y
 | .chain o o' a b c,δ=>(ev a δ).bind fun x=>(ev b δ).bind fun y=>(c2 o x y).bind fun r=>match r with
  | .bl true=>(ev c δ).bind fun z=>c2 o' y z
  | .bl false=>.ok (.bl false)
  | _=>.bad
 | .isN n a,δ=>(ev a δ).bind fun x=>.ok (.bl (match x with | .non=>!n | _=>n))
 | .bo k es,δ=>evBo k es δ
 | .ix a i,δ=>(ev a δ).bind fun x=>(ev i δ).bind fun y=>ixD x y
 | .ixS a i,δ=>((ev a δ).bind fun x=>(ev i δ).bind fun y=>ixD x y).bind fun d=>if D.scal d=true then .ok d else .bad
 | .ixL a i,δ=>(ev a δ).bind fun x=>(ev i δ).bind fun y=>CU x y
 | .ixT a i,δ=>(ev a δ).bind fun x=>(ev i δ).bind fun y=>Dv x y
 | .ixU a i,δ=>((ev a δ).bind fun x=>(ev i δ).bind fun y=>Dv x y).bind fun d=>if D.flat 9 1 d=true then .ok d else .bad
 | .ixG a i,δ=>(ev a δ).bind fun x=>(ev i δ).bind fun y=>CU x y
 | .slc a lo hi,δ=>(ev a δ).bind fun x=>(BW lo.isCN (ev lo δ)).bind fun l=>(BW hi.isCN (ev hi δ)).bind fun h=>Dw x l h
 | .call f es,δ=>(evs es δ).bind fun ds=>f.den ds
 | .callB f es,δ=>(evs es δ).bind fun ds=>(f.den ds).bind fun d=>if D.flat 9 f.dep d then .ok d else .bad
 | .bi b es,δ=>(evs es δ).bind fun ds=>biD b ds
 | .isi a k,δ=>(ev a δ).bind fun x=>(Cm x k).bind fun b=>.ok (.bl b)
 | .comp0 nl fr tg it elt,δ=>(evI it δ).bind fun ds=>(A3 (fun d=>match CG tg d (blk nl fr δ) with
   | some δ'=>(ev elt δ').bind fun x=>.ok (some x)
   | none=>.bad) ds).bind fun r=>.ok (.lst r)
 | .comp1 nl fr tg it cond elt,δ=>(evI it δ).bind fun ds=>(A3 (fun d=>match CG tg d (blk nl fr δ) with
   | some δ'=>((ev cond δ').bind BA).bind fun t=>if t then (ev elt δ').bind fun x=>.ok (some x) else .ok none
   | none=>.bad) ds).bind fun r=>.ok (.lst r)
noncomputable def evs:Es->Fr->Res (List D)
 | .nil,_=>.ok []
 | .cons e r,δ=>(ev e δ).bind fun x=>(evs r δ).bind fun xs=>.ok (x :: xs)
noncomputable def evBo (k:Bool):Es->Fr->Res D
 | .nil,_=>.bad
 | .cons e .nil,δ=>ev e δ
 | .cons e (.cons e' r),δ=>(ev e δ).bind fun x=>match x with
  | .bl c=>if c=k then evBo k (.cons e' r) δ else .ok (.bl c)
  | _=>.bad
noncomputable def evI:It->Fr->Res (List D)
 | .seq e,δ=>(ev e δ).bind Dd
 | .seqL e,δ=>(ev e δ).bind B6
 | .r1 a,δ=>(ev a δ).bind fun x=>MM (.int 0) x
 | .r2 a b,δ=>(ev a δ).bind fun x=>(ev b δ).bind fun y=>MM x y
 | .r3 a b c,δ=>(ev a δ).bind fun x=>(ev b δ).bind fun y=>(ev c δ).bind fun z=>MN x y z
 | .en e,δ=>(ev e δ).bind HR
end
noncomputable def tv (e:E) (δ:Fr):Res Bool:=(ev e δ).bind BA
inductive Um where
 | append | extend | clear
 deriving DecidableEq
mutual
inductive S where
 | asg (x:Nat) (k:Nat) (e:E)
 | dem (x:Nat) (k:Nat)
 | dead (x:Nat)
 | asgT (xs:List Nat) (e:E)
 | set (x:Nat) (path:List (Bool × E)) (i e:E)
 | mut (x:Nat) (path:List (Bool × E)) (m:Um) (es:Es)
 | expr (e:E)
 | iff (c:E) (a b:Ss)
 | wh (c:E) (b:Ss)
 | for_ (tg:Tg) (it:It) (b:Ss)
 | ret (e:E)
 | retT (es:Es)
 | raise (c:Nat) (es:Es)
 | try_ (b:Ss) (c:Nat) (i:Nat) (h:Ss) (e:Ss)
 | cif (F:Fn) (as:List Nat) (y:Nat) (e:E) (b:Ss)
 | retM (x:Nat) (e:E)
inductive Ss where
 | nil
 | cons (s:S) (r:Ss)
end
inductive Out where
 | nxt (δ:Fr)
 | ret (d:D)
 | exc (c:Nat) (δ:Fr)
 | bad
noncomputable def evP:List (Bool × E)->Fr->Res (List (Bool × Int))
 | [],_=>.ok []
 | (t,e) :: r,δ=>match ev e δ with
  | .ok (.int i)=>(evP r δ).bind fun is=>.ok ((t,i) :: is)
  | _=>.bad
noncomputable def AC (f:List D->Option (List D)):List (Bool × Int)->D->Option D
 | [],.lst ds=>(f ds).map D.lst
 | (false,i) :: r,.lst ds=>(ixN ds.length i).bind fun j=>(ds[j]?).bind fun d=>(AC f r d).map fun d'=>.lst (ds.set j d')
 | (true,i) :: r,.tup ds=>(ixN ds.length i).bind fun j=>(ds[j]?).bind fun d=>(AC f r d).map fun d'=>.tup (ds.set j d')
 | _,_=>none
noncomputable def un1 {α:Type}:List D->(D->Option α)->Option α
 | [d],f=>f d
 | _,_=>none
noncomputable def un0 {α:Type}:List D->Option α->Option α
 | [],r=>r
 | _,_=>none
noncomputable def R6 (ds:List D):D->Option (List D)
 | .lst es=>if ds.length + es.length<=LIM then some (ds ++ es) else none
 | _=>none
noncomputable def umD:Um->List D->List D->Option (List D)
 | .append,es,ds=>un1 es fun d=>if ds.length < LIM then some (ds ++ [d]) else none
 | .extend,es,ds=>un1 es (R6 ds)
 | .clear,es,_=>un0 es (some [])
noncomputable def De (i:Int) (d:D) (ds:List D):Option (List D):=(ixN ds.length i).map fun j=>ds.set j d
noncomputable def upd (δ:Fr) (x:Nat) (f:D->Option D):Out:=match δ[x]? with
 | some (some d)=>match f d with
  | some d'=>.nxt (δ.set x (some d'))
  | none=>.bad
 | _=>.bad
noncomputable def Res.out {α:Type} (r:Res α) (δ:Fr) (f:α->Out):Out:=match r with
 | .ok a=>f a
 | .exc c=>.exc c δ
 | .bad=>.bad
@[simp] theorem Res.out_ok {α:Type} (a:α) (δ:Fr) (f:α->Out):(Res.ok a).out δ f=f a:=rfl
@[simp] theorem Res.out_exc {α:Type} (c:Nat) (δ:Fr) (f:α->Out):(Res.exc c:Res α).out δ f=.exc c δ:=rfl
@[simp] theorem Res.out_bad {α:Type} (δ:Fr) (f:α->Out):(Res.bad:Res α).out δ f=.bad:=rfl
noncomputable def Out.then (o:Out) (f:Fr->Out):Out:=match o with
 | .nxt δ=>f δ
 | .ret d=>.ret d
 | .exc c δ=>.exc c δ
 | .bad=>.bad
@[simp] theorem Out.then_nxt (δ:Fr) (f:Fr->Out):(Out.nxt δ).then f=f δ:=rfl
@[simp] theorem Out.then_ret (d:D) (f:Fr->Out):(Out.ret d).then f=.ret d:=rfl
@[simp] theorem Out.then_exc (c:Nat) (δ:Fr) (f:Fr->Out):(Out.exc c δ).then f=.exc c δ:=rfl
@[simp] theorem Out.then_bad (f:Fr->Out):Out.bad.then f=.bad:=rfl
noncomputable def DC (c:Fr->Res Bool) (b:Fr->Out):Nat->Fr->Out
 | 0,_=>.bad
 | n + 1,δ=>(c δ).out δ fun t=>if t then (b δ).then (DC c b n) else .nxt δ
noncomputable def CI (tg:Tg) (b:Fr->Out):List D->Fr->Out
 | [],δ=>.nxt δ
 | d :: ds,δ=>match CG tg d δ with
  | some δ'=>(b δ').then (CI tg b ds)
  | none=>.bad
noncomputable def FU:Nat:=1073741824
noncomputable def F3 (δ:Fr):List Nat->Option (List D)
 | []=>some []
 | i :: r=>match δ[i]? with
  | some (some d)=>(F3 δ r).map (d :: ·)
  | _=>none
noncomputable def GQ (r:Res D) (k:Bool->List D->Out):Out:=match r with
 | .ok (.tup [.bl t,.lst us])=>if D.flat 9 1 (.lst us)=true then k t us else .bad
 | _=>.bad
noncomputable def MO (o:Option (List D)) (oy:Option (Option D)) (q:Res D) (δ:Fr) (f:List D->Res D) (k:Bool->List D->Out):Out:=match o,oy with
 | some ds,some (some (.lst _))=>q.out δ fun d=>GQ (f (ds ++ [d])) k
 | _,_=>.bad
noncomputable def Gs:D->Option (Option D)->Out
 | .bl b,some (some (.lst us))=>.ret (.tup [.bl b,.lst us])
 | _,_=>.bad
mutual
noncomputable def ex:S->Fr->Out
 | .dem _ _,δ=>.nxt δ
 | .dead _,δ=>.nxt δ
 | .asg x _ e,δ=>(ev e δ).out δ fun d=>.nxt (δ.set x (some d))
 | .asgT xs e,δ=>(ev e δ).out δ fun d=>match CG (.tp xs) d δ with
  | some δ'=>.nxt δ'
  | none=>.bad
 | .set x p i e,δ=>(ev e δ).out δ fun d=>match evP p δ,ev i δ with
  | .ok q,.ok (.int n)=>upd δ x (AC (De n d) q)
  | _,_=>.bad
 | .mut x p m es,δ=>match evP p δ,evs es δ with
  | .ok q,.ok ds=>upd δ x (AC (umD m ds) q)
  | _,_=>.bad
 | .expr e,δ=>(ev e δ).out δ fun _=>.nxt δ
 | .iff c a b,δ=>(tv c δ).out δ fun t=>if t then exs a δ else exs b δ
 | .wh c b,δ=>DC (tv c) (exs b) FU δ
 | .for_ tg it b,δ=>(evI it δ).out δ fun ds=>CI tg (exs b) ds δ
 | .ret e,δ=>(ev e δ).out δ fun d=>.ret d
 | .retT es,δ=>(evs es δ).out δ fun ds=>.ret (.tup ds)
 | .raise c es,δ=>(evs es δ).out δ fun _=>.exc c δ
 | .try_ b c i h e,δ=>match exs b δ with
  | .nxt δ'=>exs e δ'
  | .ret d=>.ret d
  | .exc n δ'=>if isa n c && !(n==c) then (match exs h (δ'.set i (some (.exn n))) with
   | .nxt δ2=>.nxt (δ2.set i none)
   | .ret d=>.ret d
   | _=>.bad) else .bad
  | .bad=>.bad
 | .cif F as y e b,δ=>MO (F3 δ as) δ[y]? (ev e δ) δ F.den fun t us=>if t=true then .nxt (δ.set y (some (.lst us))) else exs b (δ.set y (some (.lst us)))
 | .retM x e,δ=>(ev e δ).out δ fun d=>Gs d δ[x]?
noncomputable def exs:Ss->Fr->Out
 | .nil,δ=>.nxt δ
 | .cons s r,δ=>(ex s δ).then (exs r)
end
noncomputable def AB (n:Nat) (ds:List D):Fr:=ds.map some ++ aak (n - ds.length) none
noncomputable def run (n:Nat) (b:Ss) (ds:List D):Res D:=match exs b (AB n ds) with
 | .nxt _=>.ok .non
 | .ret d=>.ok d
 | .exc c _=>.exc c
 | .bad=>.bad
end Pu
end
section
namespace Pu
open PySem PySem.W L2
inductive T where
 | non
 | bl (b:Bool)
 | int (i:Int)
 | str (x:Str)
 | tup (a:Addr) (ts:List T)
 | lst (a:Addr) (ts:List T)
 | exn (a:Addr) (c:Nat)
noncomputable def T.val:T->V
 | .non=>.non
 | .bl b=>.bl b
 | .int i=>.int i
 | .str x=>.str x
 | .tup a _=>.ref a
 | .lst a _=>.ref a
 | .exn a _=>.ref a
mutual
noncomputable def T.dat:T->D
 | .non=>.non
 | .bl b=>.bl b
 | .int i=>.int i
 | .str x=>.str x
 | .tup _ ts=>.tup (T.dats ts)
 | .lst _ ts=>.lst (T.dats ts)
 | .exn _ c=>.exn c
noncomputable def T.dats:List T->List D
 | []=>[]
 | t :: r=>t.dat :: T.dats r
end
theorem T.dats_map:∀ ts:List T,T.dats ts=ts.map T.dat
 | []=>rfl
 | t :: r=>by simp [T.dats,T.dats_map r]
structure Px where
 K:Frag
 cl:Nat->Addr
 has:Nat->Bool
noncomputable def exO (p:Px) (a:Addr) (c:Nat):HO:=if c=999 then dO a else xO a (p.cl c)
theorem QJ {p:Px} {a:Addr} {c:Nat} (vs:List V):exO p a c ≠ .lst vs:=by
 unfold exO
 split
 ·intro e; cases e
 ·intro e; cases e
mutual
noncomputable def T.Ok (p:Px) (H:Hp):T->Prop
 | .tup a ts=>H a=some (.tup (ts.map T.val))/\T.Oks p H ts
 | .lst a ts=>Rd H a (.lst (ts.map T.val))/\T.Oks p H ts
 | .exn a c=>H a=some (exO p a c)/\(c=999\/p.has c=true)
 | .non=>True
 | .bl _=>True
 | .int _=>True
 | .str _=>True
noncomputable def T.Oks (p:Px) (H:Hp):List T->Prop
 | []=>True
 | t :: r=>t.Ok p H/\T.Oks p H r
noncomputable def T.adr:T->Nat->List Addr
 | .tup _ ts,k=>T.adrs ts k
 | .lst _ _,0=>[]
 | .lst a ts,k + 1=>a :: T.adrs ts k
 | .non,_=>[]
 | .bl _,_=>[]
 | .int _,_=>[]
 | .str _,_=>[]
 | .exn _ _,_=>[]
noncomputable def T.adrs:List T->Nat->List Addr
 | [],_=>[]
 | t :: r,k=>t.adr k ++ T.adrs r k
noncomputable def T.rest:T->Nat->List Addr
 | .tup _ ts,k=>T.rests ts k
 | .lst a ts,0=>a :: T.rests ts 0
 | .lst _ ts,k + 1=>T.rests ts k
 | .non,_=>[]
 | .bl _,_=>[]
 | .int _,_=>[]
 | .str _,_=>[]
 | .exn _ _,_=>[]
noncomputable def T.rests:List T->Nat->List Addr
 | [],_=>[]
 | t :: r,k=>t.rest k ++ T.rests r k
end
theorem T.ind {P:T->Prop} (h0:P .non) (h1:∀ b,P (.bl b)) (h2:∀ i,P (.int i)) (h3:∀ x,P (.str x)) (h4:∀ a ts,(∀ t ∈ ts,P t)->P (.tup a ts)) (h5:∀ a ts,(∀ t ∈ ts,P t)->P (.lst a ts)) (h6:∀ a c,P (.exn a c)):∀ t,P t
 | .non=>h0
 | .bl b=>h1 b
 | .int i=>h2 i
 | .str x=>h3 x
 | .tup a ts=>h4 a ts fun t h=>T.ind h0 h1 h2 h3 h4 h5 h6 t
 | .lst a ts=>h5 a ts fun t h=>T.ind h0 h1 h2 h3 h4 h5 h6 t
 | .exn a c=>h6 a c
termination_by t=>t
theorem T.oks_iff {p:Px} {H:Hp}:∀ {ts:List T},T.Oks p H ts ↔ ∀ t ∈ ts,t.Ok p H
 | []=>by simp [T.Oks]
 | t :: r=>by simp [T.Oks,T.oks_iff (ts:=r)]
theorem T.mem_adrs {a:Addr} {k:Nat}:∀ {ts:List T},a ∈ T.adrs ts k ↔ ∃ t ∈ ts,a ∈ t.adr k
 | []=>by simp [T.adrs]
 | t :: r=>by simp [T.adrs,T.mem_adrs (ts:=r)]
theorem T.mem_rests {a:Addr} {k:Nat}:∀ {ts:List T},a ∈ T.rests ts k ↔ ∃ t ∈ ts,a ∈ t.rest k
 | []=>by simp [T.rests]
 | t :: r=>by simp [T.rests,T.mem_rests (ts:=r)]
theorem T.adrs_append {k:Nat}:∀ {ts us:List T},T.adrs (ts ++ us) k=T.adrs ts k ++ T.adrs us k
 | [],us=>by simp [T.adrs]
 | t :: r,us=>by simp [T.adrs,T.adrs_append (ts:=r)]
theorem T.rests_append {k:Nat}:∀ {ts us:List T},T.rests (ts ++ us) k=T.rests ts k ++ T.rests us k
 | [],us=>by simp [T.rests]
 | t :: r,us=>by simp [T.rests,T.rests_append (ts:=r)]
theorem T.adr_zero:∀ t:T,t.adr 0=[]:=by
 refine T.ind rfl (fun _=>rfl) (fun _=>rfl) (fun _=>rfl) (fun a ts ih=>?_) (fun _ _ _=>by simp [T.adr]) (fun _ _=>rfl)
 simp only [T.adr]
 refine aaW.mpr fun b hb=>?_
 obtain ⟨t,ht,h⟩:=T.mem_adrs.mp hb
 rw [ih t ht] at h; cases h
theorem T.adrs_zero (ts:List T):T.adrs ts 0=[]:=by
 refine aaW.mpr fun b hb=>?_
 obtain ⟨t,ht,h⟩:=T.mem_adrs.mp hb
 rw [T.adr_zero] at h; cases h
theorem T.all_iff {a:Addr}:∀ (t:T) (k:Nat),a ∈ t.rest 0 ↔ a ∈ t.adr k\/a ∈ t.rest k:=by
 refine T.ind (by simp [T.rest,T.adr]) (by simp [T.rest,T.adr]) (by simp [T.rest,T.adr]) (by simp [T.rest,T.adr]) (fun b ts ih k=>?_) (fun b ts ih k=>?_) (by simp [T.rest,T.adr])
 ·simp only [T.rest,T.adr,T.mem_rests,T.mem_adrs]
  constructor
  ·rintro ⟨t,ht,h⟩
   rcases (ih t ht k).mp h with h | h
   ·exact .inl ⟨t,ht,h⟩
   ·exact .inr ⟨t,ht,h⟩
  ·rintro (⟨t,ht,h⟩ | ⟨t,ht,h⟩)
   ·exact ⟨t,ht,(ih t ht k).mpr (.inl h)⟩
   ·exact ⟨t,ht,(ih t ht k).mpr (.inr h)⟩
 ·cases k with
  | zero=>simp [T.adr]
  | succ k =>
   simp only [T.rest,T.adr,T.mem_rests,T.mem_adrs,aal]
   constructor
   ·rintro (h | ⟨t,ht,h⟩)
    ·exact .inl (.inl h)
    rcases (ih t ht k).mp h with h | h
    ·exact .inl (.inr ⟨t,ht,h⟩)
    ·exact .inr ⟨t,ht,h⟩
   ·rintro ((h | ⟨t,ht,h⟩) | ⟨t,ht,h⟩)
    ·exact .inl h
    ·exact .inr ⟨t,ht,(ih t ht k).mpr (.inl h)⟩
    ·exact .inr ⟨t,ht,(ih t ht k).mpr (.inr h)⟩
theorem T.alls_iff {a:Addr} (ts:List T) (k:Nat):a ∈ T.rests ts 0 ↔ a ∈ T.adrs ts k\/a ∈ T.rests ts k:=by
 simp only [T.mem_rests,T.mem_adrs]
 constructor
 ·rintro ⟨t,ht,h⟩
  rcases (T.all_iff t k).mp h with h | h
  ·exact .inl ⟨t,ht,h⟩
  ·exact .inr ⟨t,ht,h⟩
 ·rintro (⟨t,ht,h⟩ | ⟨t,ht,h⟩)
  ·exact ⟨t,ht,(T.all_iff t k).mpr (.inl h)⟩
  ·exact ⟨t,ht,(T.all_iff t k).mpr (.inr h)⟩
theorem T.rest_le {a:Addr}:∀ (t:T) {j j':Nat},j<=j'->a ∈ t.rest j'->a ∈ t.rest j:=by
 refine T.ind (by simp [T.rest]) (by simp [T.rest]) (by simp [T.rest]) (by simp [T.rest]) (fun b ts ih j j' hj h=>?_) (fun b ts ih j j' hj h=>?_) (by simp [T.rest])
 ·simp only [T.rest,T.mem_rests] at h ⊢
  obtain ⟨t,ht,h⟩:=h
  exact ⟨t,ht,ih t ht hj h⟩
 ·cases j' with
  | zero=>cases Nat.le_zero.mp hj; exact h
  | succ j' =>
   simp only [T.rest,T.mem_rests] at h
   obtain ⟨t,ht,h⟩:=h
   cases j with
   | zero=>exact aaa _ (T.mem_rests.mpr ⟨t,ht,ih t ht (aay _) h⟩)
   | succ j=>exact T.mem_rests.mpr ⟨t,ht,ih t ht (abW hj) h⟩
theorem T.adr_le {a:Addr}:∀ (t:T) {j j':Nat},j<=j'->a ∈ t.adr j->a ∈ t.adr j':=by
 refine T.ind (by simp [T.adr]) (by simp [T.adr]) (by simp [T.adr]) (by simp [T.adr]) (fun b ts ih j j' hj h=>?_) (fun b ts ih j j' hj h=>?_) (by simp [T.adr])
 ·simp only [T.adr,T.mem_adrs] at h ⊢
  obtain ⟨t,ht,h⟩:=h
  exact ⟨t,ht,ih t ht hj h⟩
 ·cases j with
  | zero=>simp [T.adr] at h
  | succ j =>
   cases j' with
   | zero=>omega
   | succ j' =>
    simp only [T.adr,aal,T.mem_adrs] at h ⊢
    rcases h with h | ⟨t,ht,h⟩
    ·exact .inl h
    ·exact .inr ⟨t,ht,ih t ht (abW hj) h⟩
noncomputable def T.Nd (t:T) (k:Nat):Prop:=(t.adr k).Nodup/\∀ a ∈ t.rest k,a ∉ t.adr k
noncomputable def T.Nds (ts:List T) (k:Nat):Prop:=(T.adrs ts k).Nodup/\∀ a ∈ T.rests ts k,a ∉ T.adrs ts k
theorem T.nd_zero (t:T):t.Nd 0:=by unfold T.Nd; rw [T.adr_zero]; exact ⟨ab4,fun _ _ h=>nomatch h⟩
theorem T.nds_zero (ts:List T):T.Nds ts 0:=by unfold T.Nds; rw [T.adrs_zero]; exact ⟨ab4,fun _ _ h=>nomatch h⟩
theorem T.nds_cons {t:T} {r:List T} {k:Nat}:T.Nds (t :: r) k ↔ t.Nd k/\T.Nds r k/\(∀ a ∈ t.adr k,a ∉ T.rests r 0)/\(∀ a ∈ T.adrs r k,a ∉ t.rest 0):=by
 unfold T.Nds T.Nd
 simp only [T.adrs,T.rests,acJ,aaf]
 constructor
 ·rintro ⟨⟨n1,n2,n3⟩,h⟩
  refine ⟨⟨n1,fun a ha hb=>h a (.inl ha) (.inl hb)⟩,⟨n2,fun a ha hb=>h a (.inr ha) (.inr hb)⟩,fun a ha hb=>?_,fun a ha hb=>?_⟩
  ·rcases (T.alls_iff r k).mp hb with q | q
   ·exact n3 a ha a q rfl
   ·exact h a (.inr q) (.inl ha)
  ·rcases (T.all_iff t k).mp hb with q | q
   ·exact n3 a q a ha rfl
   ·exact h a (.inl q) (.inr ha)
 ·rintro ⟨⟨n1,h1⟩,⟨n2,h2⟩,c1,c2⟩
  refine ⟨⟨n1,n2,fun a ha b hb e=>?_⟩,fun a ha hb=>?_⟩
  ·subst e
   exact c1 a ha ((T.alls_iff r k).mpr (.inl hb))
  ·rcases ha with ha | ha <;> rcases hb with hb | hb
   ·exact h1 a ha hb
   ·exact c2 a hb ((T.all_iff t k).mpr (.inr ha))
   ·exact c1 a hb ((T.alls_iff r k).mpr (.inr ha))
   ·exact h2 a ha hb
theorem T.nd_down:∀ (t:T) {k:Nat},t.Nd (k + 1)->t.Nd k:=by
 have lists:∀ (ts:List T),(∀ t ∈ ts,∀ {k:Nat},t.Nd (k + 1)->t.Nd k)->∀ {k:Nat},T.Nds ts (k + 1)->T.Nds ts k:=by
  intro ts
  induction ts with
  | nil=>intro _ k _; exact ⟨by simp [T.adrs],by simp [T.rests]⟩
  | cons t r ih =>
   intro h k n
   obtain ⟨n1,n2,c1,c2⟩:=T.nds_cons.mp n
   exact T.nds_cons.mpr ⟨h t (aac ..) n1,ih (fun u hu=>h u (aaa _ hu)) n2,fun a ha=>c1 a (T.adr_le t (ab5 k) ha),fun a ha=>c2 a (by
    obtain ⟨u,hu,hq⟩:=T.mem_adrs.mp ha
    exact T.mem_adrs.mpr ⟨u,hu,T.adr_le u (ab5 k) hq⟩)⟩
 refine T.ind (fun _=>by simp [T.Nd,T.adr]) (fun _ _=>by simp [T.Nd,T.adr]) (fun _ _=>by simp [T.Nd,T.adr]) (fun _ _=>by simp [T.Nd,T.adr]) (fun a ts ih k n=>?_) (fun a ts ih k n=>?_) (fun _ _ _=>by simp [T.Nd,T.adr])
 ·exact lists ts ih n
 ·cases k with
  | zero=>exact T.nd_zero _
  | succ k =>
   obtain ⟨n1,n2⟩:=n
   simp only [T.adr,T.rest,aaE] at n1 n2
   have:=lists ts ih (k:=k) ⟨n1.2,fun b hb hc=>n2 b hb (aaa _ hc)⟩
   refine ⟨?_,?_⟩
   ·simp only [T.adr,aaE]
    refine ⟨fun h=>n1.1 ?_,this.1⟩
    obtain ⟨u,hu,hq⟩:=T.mem_adrs.mp h
    exact T.mem_adrs.mpr ⟨u,hu,T.adr_le u (ab5 k) hq⟩
   ·intro b hb hc
    simp only [T.adr,T.rest,aal] at hb hc
    rcases hc with rfl | hc
    ·have h0:=(T.alls_iff ts (k + 1)).mp ((T.alls_iff ts k).mpr (.inr hb))
     rcases h0 with h0 | h0
     ·exact n1.1 h0
     ·exact n2 b h0 (aac ..)
    ·exact this.2 b hb hc
theorem T.nd_le (t:T) {k k':Nat} (h:k<=k') (n:t.Nd k'):t.Nd k:=by
 induction k' with
 | zero=>cases Nat.le_zero.mp h; exact n
 | succ k' ih =>
  rcases acA k (k' + 1) with q | q
  ·exact ih (abT q) (T.nd_down t n)
  ·cases acl h q; exact n
theorem T.nds_le {ts:List T} {k k':Nat} (h:k<=k') (n:T.Nds ts k'):T.Nds ts k:=by
 have:=T.nd_le (.tup 0 ts) h (k':=k') n
 exact this
theorem T.Ok.keep' {p:Px} {H H':Hp}:∀ (t:T),(∀ a u,H a=some u->(a ∈ t.rest 0\/∀ vs,u ≠ .lst vs)->H' a=some u)->t.Ok p H->t.Ok p H':=by
 refine T.ind (P:=fun t=>(∀ a u,H a=some u->(a ∈ t.rest 0\/∀ vs,u ≠ .lst vs)->H' a=some u)->t.Ok p H->t.Ok p H') (fun _ h=>h) (fun _ _ h=>h) (fun _ _ h=>h) (fun _ _ h=>h) (fun a ts ih k h=>?_) (fun a ts ih k h=>?_) (fun a c k h=>?_)
 ·obtain ⟨h1,h2⟩:=h
  refine ⟨k _ _ h1 (.inr fun vs e=>nomatch e),T.oks_iff.mpr fun t ht=>ih t ht (fun b u e q=>k b u e ?_) (T.oks_iff.mp h2 t ht)⟩
  rcases q with q | q
  ·exact .inl (T.mem_rests.mpr ⟨t,ht,q⟩)
  ·exact .inr q
 ·obtain ⟨h1,h2⟩:=h
  refine ⟨?_,T.oks_iff.mpr fun t ht=>ih t ht (fun b u e q=>k b u e ?_) (T.oks_iff.mp h2 t ht)⟩
  ·rcases h1 with h1 | ⟨o,h1⟩
   ·exact .inl (k _ _ h1 (.inl (aac ..)))
   ·exact .inr ⟨o,k _ _ h1 (.inl (aac ..))⟩
  ·rcases q with q | q
   ·exact .inl (aaa _ (T.mem_rests.mpr ⟨t,ht,q⟩))
   ·exact .inr q
 ·exact ⟨k _ _ h.1 (.inr QJ),h.2⟩
theorem T.Ok.keep {p:Px} {H H':Hp} {t:T} (k:∀ a u,H a=some u->(a ∈ t.rest 0\/∀ vs,u ≠ .lst vs)->H' a=some u) (h:t.Ok p H):t.Ok p H':=T.Ok.keep' t k h
theorem T.Ok.same {p:Px} {H H':Hp} {t:T} (s:Same H H') (h:t.Ok p H):t.Ok p H':=h.keep fun a u e _=>s a u e
theorem T.Oks.same {p:Px} {H H':Hp} {ts:List T} (s:Same H H') (h:T.Oks p H ts):T.Oks p H' ts:=T.oks_iff.mpr fun t ht=>(T.oks_iff.mp h t ht).same s
theorem T.Ok.at' {p:Px} {H:Hp} {a:Addr}:∀ (t:T),t.Ok p H->a ∈ t.rest 0->∃ vs,Rd H a (.lst vs):=by
 refine T.ind (P:=fun t=>t.Ok p H->a ∈ t.rest 0->∃ vs,Rd H a (.lst vs)) (fun _ h=>nomatch h) (fun _ _ h=>nomatch h) (fun _ _ h=>nomatch h) (fun _ _ h=>nomatch h) (fun b ts ih k h=>?_) (fun b ts ih k h=>?_) (fun _ _ _ h=>nomatch h)
 ·obtain ⟨t,ht,q⟩:=T.mem_rests.mp h
  exact ih t ht (T.oks_iff.mp k.2 t ht) q
 ·rcases aal.mp h with rfl | h
  ·exact ⟨_,k.1⟩
  ·obtain ⟨t,ht,q⟩:=T.mem_rests.mp h
   exact ih t ht (T.oks_iff.mp k.2 t ht) q
theorem T.Ok.at {p:Px} {H:Hp} {a:Addr} {t:T} (h:t.Ok p H) (m:a ∈ t.rest 0):∃ vs,Rd H a (.lst vs):=T.Ok.at' t h m
theorem Oq {H:Hp} {a:Addr} {u:HO} (h:Rd H a u):H a ≠ none:=by
 rcases h with h | ⟨o,h⟩ <;> rw [h] <;> simp
theorem T.Ok.dom {p:Px} {H:Hp} {a:Addr} {t:T} (h:t.Ok p H) (m:a ∈ t.rest 0):H a ≠ none:=by
 obtain ⟨vs,r⟩:=h.at m
 exact Oq r
theorem T.Ok.domk {p:Px} {H:Hp} {a:Addr} {t:T} {k:Nat} (h:t.Ok p H) (m:a ∈ t.adr k):H a ≠ none:=h.dom ((T.all_iff t k).mpr (.inl m))
end Pu
end
section
namespace Pu
open PySem PySem.Spec PyProof.Rows PySem.W L2
noncomputable def gj (c:Bool) (x:Nat × Nat):Option (Nat × Nat):=if c then some x else none
mutual
noncomputable def jk (tn:List Nat):E->Option (Nat × Nat)
 | .nm i=>match tn[i]? with
  | some j=>gj (decide (j < 90)) (j,0)
  | none=>none
 | .cN=>some (0,9)
 | .cB _=>some (0,9)
 | .cI _=>some (0,9)
 | .cS _=>some (0,9)
 | .gl _ d=>gj (D.scal d) (0,9)
 | .tup es=>jks tn es
 | .lst es=>(jks tn es).bind fun x=>some (if x.1=0 then (0,x.2 + 1) else (x.1 + 1,0))
 | .bin _ a b=>(jk tn a).bind fun x=>(jk tn b).bind fun y=>gj (decide (x.1<=1) && decide (y.1<=1)) (0,1)
 | .neg a=>(jk tn a).bind fun _=>some (0,9)
 | .not a=>(jk tn a).bind fun _=>some (0,9)
 | .cmp _ a b=>(jk tn a).bind fun _=>(jk tn b).bind fun _=>some (0,9)
 | .chain _ _ a b c=>(jk tn a).bind fun _=>(jk tn b).bind fun _=>(jk tn c).bind fun _=>some (0,9)
 | .isN _ a=>(jk tn a).bind fun _=>some (0,9)
 | .bo _ es=>jks tn es
 | .ix a i=>(jk tn a).bind fun x=>(jk tn i).bind fun _=>gj (decide (x.1=0)) (0,0)
 | .ixS a i=>(jk tn a).bind fun x=>(jk tn i).bind fun _=>gj (decide (x.1=0)) (0,9)
 | .ixL a i=>(jk tn a).bind fun x=>(jk tn i).bind fun _=>some (x.1 - 1,0)
 | .ixT a i=>(jk tn a).bind fun x=>(jk tn i).bind fun _=>some (x.1,0)
 | .ixU a i=>(jk tn a).bind fun x=>(jk tn i).bind fun _=>some (1,0)
 | .ixG a i=>(jk tn a).bind fun x=>(jk tn i).bind fun _=>gj (decide (x.1=0)) (0,x.2 - 1)
 | .slc a lo hi=>(jk tn a).bind fun x=>(jk tn lo).bind fun _=>(jk tn hi).bind fun _=>gj (decide (x.1<=1)) (0,1)
 | .call f es=>(jks tn es).bind fun x=>gj (decide (x.1=0)) (0,f.dep)
 | .callB f es=>(jks tn es).bind fun _=>some (0,9)
 | .bi b es=>(jks tn es).bind fun x=>match b with
  | .list=>gj (decide (x.1=0)) (0,1)
  | _=>some (0,9)
 | .isi a _=>(jk tn a).bind fun _=>some (0,9)
 | .comp0 nl fr _ it elt=>(jkI tn it).bind fun _=>(jk (aak nl 0 ++ fr.map fun j=>tn.getD j 99) elt).bind fun x=>gj (decide (x.1=0)) (0,x.2 + 1)
 | .comp1 nl fr _ it cond elt=>(jkI tn it).bind fun _=>(jk (aak nl 0 ++ fr.map fun j=>tn.getD j 99) cond).bind fun _ =>
   (jk (aak nl 0 ++ fr.map fun j=>tn.getD j 99) elt).bind fun x=>gj (decide (x.1=0)) (0,x.2 + 1)
noncomputable def jks (tn:List Nat):Es->Option (Nat × Nat)
 | .nil=>some (0,9)
 | .cons e r=>(jk tn e).bind fun x=>(jks tn r).bind fun y=>some (max x.1 y.1,if max x.1 y.1=0 then min x.2 y.2 else 0)
noncomputable def jkI (tn:List Nat):It->Option Nat
 | .seq e=>(jk tn e).bind fun x=>if x.1=0 then some 0 else none
 | .seqL e=>(jk tn e).bind fun x=>if x.1<=1 then some x.1 else none
 | .r1 a=>(jk tn a).bind fun _=>some 0
 | .r2 a b=>(jk tn a).bind fun _=>(jk tn b).bind fun _=>some 0
 | .r3 a b c=>(jk tn a).bind fun _=>(jk tn b).bind fun _=>(jk tn c).bind fun _=>some 0
 | .en e=>(jk tn e).bind fun x=>if x.1<=1 then some x.1 else none
end
noncomputable abbrev St:=L2.St
noncomputable abbrev Ft:=List (Option T)
noncomputable def vτ (τ:Ft):St:=τ.map (Option.map T.val)
noncomputable def dτ (τ:Ft):Fr:=τ.map (Option.map T.dat)
noncomputable def Fok (p:Px) (tn:List Nat) (τ:Ft) (H:Hp):Prop:=∀ (i:Nat) (t:T) (j:Nat),τ[i]?=some (some t)->tn[i]?=some j->j < 90->t.Ok p H
noncomputable def Sh (tn:List Nat) (τ:Ft) (a:Addr):Prop:=∃ (i:Nat) (t:T) (j:Nat),τ[i]?=some (some t)/\tn[i]?=some j/\j < 90/\a ∈ t.rest j
theorem Fok.same {p:Px} {tn:List Nat} {τ:Ft} {H H':Hp} (h:Fok p tn τ H) (s:Same H H'):Fok p tn τ H':=fun i t j e e' l=>(h i t j e e' l).same s
theorem Fok.dom {p:Px} {tn:List Nat} {τ:Ft} {H:Hp} (h:Fok p tn τ H) {a:Addr} (s:Sh tn τ a):H a ≠ none:=by
 obtain ⟨i,t,j,e,e',l,m⟩:=s
 exact (h i t j e e' l).dom (T.rest_le t (aay j) m)
theorem Bv {τ:Ft} {i:Nat} {t:T} (h:τ[i]?=some (some t)):(vτ τ)[i]?=some (some t.val):=by simp [vτ,h]
theorem Cq {τ:Ft} {i:Nat} {d:D} (h:get (dτ τ) i=.ok d):∃ t,τ[i]?=some (some t)/\t.dat=d:=by
 unfold get dτ at h
 rw [aaj] at h
 cases q:τ[i]? with
 | none=>rw [q] at h; cases h
 | some o =>
  rw [q] at h
  cases o with
  | none=>cases h
  | some t=>exact ⟨t,rfl,by simpa using h⟩
structure Rs (p:Px) (B:Addr->Prop) (H H':Hp) (j k:Nat) (t:T):Prop where
 same:Same H H'
 ok:t.Ok p H'
 src:∀ a ∈ t.rest j,H a=none\/B a
 new:∀ a ∈ t.adr k,H a=none/\∃ vs,H' a=some (.lst vs)
 nd:t.Nd k
structure RsL (p:Px) (B:Addr->Prop) (H H':Hp) (j k:Nat) (ts:List T):Prop where
 same:Same H H'
 ok:T.Oks p H' ts
 src:∀ a ∈ T.rests ts j,H a=none\/B a
 new:∀ a ∈ T.adrs ts k,H a=none/\∃ vs,H' a=some (.lst vs)
 nd:T.Nds ts k
theorem Rs.back {p:Px} {B:Addr->Prop} {H H1 H2:Hp} {j k:Nat} {t:T} (r:Rs p B H1 H2 j k t) (s:Same H H1):Rs p B H H2 j k t :=
 ⟨s.trans r.same,r.ok,fun a m=>(r.src a m).imp s.free id,fun a m=>⟨s.free (r.new a m).1,(r.new a m).2⟩,r.nd⟩
theorem Rs.fwd {p:Px} {B:Addr->Prop} {H H1 H2:Hp} {j k:Nat} {t:T} (r:Rs p B H H1 j k t) (s:Same H1 H2):Rs p B H H2 j k t :=
 ⟨r.same.trans s,r.ok.same s,r.src,fun a m=>⟨(r.new a m).1,let ⟨vs,e⟩:=(r.new a m).2; ⟨vs,s _ _ e⟩⟩,r.nd⟩
theorem Rs.le {p:Px} {B:Addr->Prop} {H H1:Hp} {j k j' k':Nat} {t:T} (r:Rs p B H H1 j k t) (hj:j<=j') (hk:k'<=k):Rs p B H H1 j' k' t :=
 ⟨r.same,r.ok,fun a m=>r.src a (T.rest_le t hj m),fun a m=>r.new a (T.adr_le t hk m),T.nd_le t hk r.nd⟩
theorem RsL.back {p:Px} {B:Addr->Prop} {H H1 H2:Hp} {j k:Nat} {t:List T} (r:RsL p B H1 H2 j k t) (s:Same H H1):RsL p B H H2 j k t :=
 ⟨s.trans r.same,r.ok,fun a m=>(r.src a m).imp s.free id,fun a m=>⟨s.free (r.new a m).1,(r.new a m).2⟩,r.nd⟩
noncomputable def T.sc:T->Bool
 | .non=>true
 | .bl _=>true
 | .int _=>true
 | .str _=>true
 | _=>false
theorem Rs.scal {p:Px} {B:Addr->Prop} {H H':Hp} {j k:Nat} {t:T} (s:Same H H') (h:t.sc=true):Rs p B H H' j k t:=by
 cases t <;> first | exact ⟨s,trivial,by simp [T.rest],by simp [T.adr],by simp [T.Nd,T.adr]⟩ | cases h
noncomputable def Lg {α:Type} (p:Px) (EX:EXT) (σ:St) (r:Res α) (H:Hp) (Kc:α->Prop):Prop:=match r with
 | .ok a=>Kc a
 | .exc c=>p.has c=true->∀ H',Same H H'->EX σ (.ref (p.cl c)) none H'
 | .bad=>False
theorem Lg.bind {α β:Type} {p:Px} {EX:EXT} {σ:St} {r:Res α} {f:α->Res β} {H:Hp} {Kc:β->Prop} (h:Lg p EX σ (r.bind f) H Kc):Lg p EX σ r H fun a=>Lg p EX σ (f a) H Kc:=by
 cases r <;> exact h
theorem Lg.mono {α:Type} {p:Px} {EX:EXT} {σ:St} {r:Res α} {H H1:Hp} {Kc Kc':α->Prop} (h:Lg p EX σ r H Kc) (s:Same H H1) (m:∀ a,r=.ok a->Kc a->Kc' a):Lg p EX σ r H1 Kc':=by
 cases r with
 | ok a=>exact m a rfl h
 | exc c=>exact fun hc H' s'=>h hc H' (s.trans s')
 | bad=>exact h
theorem Lg.guard {α:Type} {p:Px} {EX:EXT} {σ:St} {c:Prop} [Decidable c] {r:Res α} {H:Hp} {Kc:α->Prop} (h:Lg p EX σ (if c then r else .bad) H Kc):c/\Lg p EX σ r H Kc:=by
 split at h
 ·exact ⟨‹_›,h⟩
 ·exact nE h
noncomputable abbrev KE (p:Px) (B:Addr->Prop) (H:Hp) (j k:Nat) (Q:VK):D->Prop:=fun d=>∀ t H',t.dat=d->Rs p B H H' j k t->Q t.val H'
noncomputable abbrev KL (p:Px) (B:Addr->Prop) (H:Hp) (j k:Nat) (Q:List V->Hp->Prop):List D->Prop:=fun ds=>∀ ts H',T.dats ts=ds->RsL p B H H' j k ts->Q (ts.map T.val) H'
noncomputable def lE (p:Px) (EX:EXT) (tn:List Nat) (e:E):TE:=fun σ H Q=>∃ τ,σ=vτ τ/\Fok p tn τ H/\∃ j k,jk tn e=some (j,k)/\Lg p EX σ (ev e (dτ τ)) H (KE p (Sh tn τ) H j k Q)
noncomputable def lEs (p:Px) (EX:EXT) (tn:List Nat) (es:Es):TA:=fun σ H Q=>∃ τ,σ=vτ τ/\Fok p tn τ H/\∃ j k,jks tn es=some (j,k)/\Lg p EX σ (evs es (dτ τ)) H (KL p (Sh tn τ) H j k Q)
noncomputable def lT (p:Px) (EX:EXT) (tn:List Nat) (e:E):TT:=fun σ H Q=>∃ τ,σ=vτ τ/\Fok p tn τ H/\(jk tn e).isSome=true/\Lg p EX σ (tv e (dτ τ)) H fun b=>∀ H',Same H H'->Q b H'
theorem PE.mono {X:Cx} {e:Expr} {t t':TE} (h:PE X e t) (m:∀ σ H Q,t' σ H Q->t σ H Q):PE X e t':=fun pins s σ H Q I q=>h pins s σ H Q I (m _ _ _ q)
theorem PT.mono {X:Cx} {e:Expr} {t t':TT} (h:PT X e t) (m:∀ σ H Q,t' σ H Q->t σ H Q):PT X e t':=fun pins s σ H Q I q=>h pins s σ H Q I (m _ _ _ q)
theorem PA.mono {X:Cx} {e:List Expr} {t t':TA} (h:PA X e t) (m:∀ σ H Q,t' σ H Q->t σ H Q):PA X e t':=fun pos pins s σ H Q I q=>h pos pins s σ H Q I (m _ _ _ q)
section
variable {p:Px} {EX:EXT} {tn:List Nat} {X:Cx} {pos:Pos}
theorem CJ {c:Bool} {x:Nat × Nat} {j k:Nat} (h:gj c x=some (j,k)):c=true/\x=(j,k):=by
 unfold gj at h
 split at h
 ·exact ⟨‹_›,Option.some.inj h⟩
 ·cases h
theorem l1 {x:E} {β:Type} {f:D->Res β} {τ:Ft} {H:Hp} {Kc:β->Prop} {Q:VK} {ja ka:Nat} (hF:Fok p tn τ H) (hj:jk tn x=some (ja,ka)) (h:Lg p EX (vτ τ) ((ev x (dτ τ)).bind f) H Kc)
  (m:∀ d t H1,t.dat=d->Rs p (Sh tn τ) H H1 ja ka t->Lg p EX (vτ τ) (f d) H Kc->Q t.val H1):lE p EX tn x (vτ τ) H Q :=
 ⟨τ,rfl,hF,ja,ka,hj,h.bind.mono (Same.refl _) fun d _ hd t H1 ht R=>m d t H1 ht R hd⟩
theorem l2 {x:E} {β:Type} {f:D->Res β} {τ:Ft} {H H1:Hp} {Kc:β->Prop} {Q:VK} {ja ka:Nat} (hF:Fok p tn τ H) (s:Same H H1) (hj:jk tn x=some (ja,ka)) (h:Lg p EX (vτ τ) ((ev x (dτ τ)).bind f) H Kc)
  (m:∀ d t H2,t.dat=d->Rs p (Sh tn τ) H1 H2 ja ka t->Lg p EX (vτ τ) (f d) H Kc->Q t.val H2):lE p EX tn x (vτ τ) H1 Q :=
 ⟨τ,rfl,hF.same s,ja,ka,hj,h.bind.mono s fun d _ hd t H2 ht R=>m d t H2 ht R hd⟩
theorem QK {i:Nat} {x:Str} (hN:X.N[i]?=some x) (hv:Vis X.env.scope x) (hd:(x==("__debug__" : Str))=false) (hcd:(x==("__classdict__" : Str))=false):PE X (.Name x pos) (lE p EX tn (.nm i)):=by
 refine PE.mono (DU hN hv hd hcd) fun σ H Q h=>?_
 obtain ⟨τ,rfl,hF,j,k,hj,h⟩:=h
 simp only [jk] at hj
 split at hj
 ·rename_i j' hj'
  obtain ⟨hlt,e⟩:=CJ hj
  cases e
  simp only [ev] at h
  cases q:get (dτ τ) i with
  | ok d =>
   rw [q] at h
   obtain ⟨t,ht,e⟩:=Cq q
   exact ⟨t.val,Bv ht,h t H e ⟨Same.refl _,hF i t j ht hj' (of_decide_eq_true hlt),fun a m=>.inr ⟨i,t,j,ht,hj',of_decide_eq_true hlt,m⟩,by rw [T.adr_zero]; simp,T.nd_zero t⟩⟩
  | exc c=>rw [q] at h; unfold get at q; split at q <;> cases q
  | bad=>rw [q] at h; exact h.elim
 ·cases hj
theorem Gu {e:Expr} {x:E} {t:T} (hp:PE X e (tC t.val)) (hs:t.sc=true) (he:∀ δ,ev x δ=.ok t.dat):PE X e (lE p EX tn x):=by
 refine PE.mono hp fun σ H Q h=>?_
 obtain ⟨τ,rfl,hF,j,k,hj,h⟩:=h
 rw [he] at h
 exact h t H rfl (Rs.scal (Same.refl _) hs)
theorem Os {B:Addr->Prop} {H H1 H2:Hp} {j1 k1 j2 k2:Nat} {t:T} {ts:List T} (hB:∀ a,B a->H a ≠ none) (r:Rs p B H H1 j1 k1 t) (q:RsL p B H1 H2 j2 k2 ts):RsL p B H H2 (max j1 j2) (if max j1 j2=0 then min k1 k2 else 0) (t :: ts):=by
 have r2:=r.fwd q.same
 refine ⟨r2.same,⟨r2.ok,q.ok⟩,fun a m=>?_,fun a m=>?_,?_⟩
 ·simp only [T.rests,aaf] at m
  rcases m with m | m
  ·exact r.src a (T.rest_le t (Nat.le_max_left ..) m)
  ·obtain ⟨u,hu,m⟩:=T.mem_rests.mp m
   exact (q.src a (T.mem_rests.mpr ⟨u,hu,T.rest_le u (Nat.le_max_right ..) m⟩)).imp r.same.free id
 ·split at m
  ·simp only [T.adrs,aaf] at m
   rcases m with m | m
   ·exact r2.new a (T.adr_le t (aaO ..) m)
   ·obtain ⟨u,hu,m⟩:=T.mem_adrs.mp m
    have z:=q.new a (T.mem_adrs.mpr ⟨u,hu,T.adr_le u (aaY ..) m⟩)
    exact ⟨r.same.free z.1,z.2⟩
  ·rw [T.adrs_zero] at m; cases m
 ·split
  ·rename_i hz
   have h1:j1=0:=by omega
   have h2:j2=0:=by omega
   subst h1 h2
   refine T.nds_cons.mpr ⟨T.nd_le t (aaO ..) r.nd,T.nds_le (aaY ..) q.nd,fun a m m'=>?_,fun a m m'=>?_⟩
   ·have m1:=T.adr_le t (aaO k1 k2) m
    rcases q.src a m' with z | z
    ·exact r.ok.domk m1 z
    ·exact hB a z (r.new a m1).1
   ·obtain ⟨u,hu,m⟩:=T.mem_adrs.mp m
    exact r.ok.dom m' (q.new a (T.mem_adrs.mpr ⟨u,hu,T.adr_le u (aaY ..) m⟩)).1
  ·exact T.nds_zero _
theorem MP:PA X [] (lEs p EX tn .nil):=by
 refine PA.mono CB fun σ H Q h=>?_
 obtain ⟨τ,rfl,hF,j,k,hj,h⟩:=h
 exact h [] H rfl ⟨Same.refl _,trivial,by simp [T.rests],by simp [T.adrs],by simp [T.Nds,T.adrs]⟩
theorem Ls {e:Expr} {es:List Expr} {x:E} {xs:Es} (he:PE X e (lE p EX tn x)) (hes:PA X es (lEs p EX tn xs)) (hs:starEach (e :: es) X.env=(false,eval e X.env) :: starEach es X.env):PA X (e :: es) (lEs p EX tn (.cons x xs)):=by
 refine PA.mono (AV he hes hs) fun σ H Q h=>?_
 obtain ⟨τ,rfl,hF,j,k,hj,h⟩:=h
 simp only [jks] at hj
 obtain ⟨⟨j1,k1⟩,h1,hj⟩:=bS hj
 obtain ⟨⟨j2,k2⟩,h2,hj⟩:=bS hj
 cases hj
 simp only [evs] at h
 refine l1 hF h1 h fun d t H1 ht R h=>?_
 refine ⟨τ,rfl,hF.same R.same,j2,k2,h2,h.bind.mono R.same fun ds _ hd ts H2 hts R2=>?_⟩
 exact hd (t :: ts) H2 (by simp [T.dats,ht,hts]) (Os (fun a=>hF.dom) R R2)
end
section
variable {p:Px} {EX:EXT} {tn:List Nat} {X:Cx} {pos:Pos}
theorem QL {B:Addr->Prop} {H H1:Hp} {j k:Nat} {a:Addr} {ts:List T} (r:RsL p B H H1 j k ts) (hn:H1 a=none):Rs p B H (L2.upd H1 a (.tup (ts.map T.val))) j k (.tup a ts):=by
 have s:=Same.new (o:=.tup (ts.map T.val)) hn
 exact ⟨r.same.trans s,⟨AJ,r.ok.same s⟩,r.src,fun b m=>⟨(r.new b m).1,let ⟨vs,e⟩:=(r.new b m).2; ⟨vs,s _ _ e⟩⟩,r.nd⟩
theorem Lu {B:Addr->Prop} {H H1:Hp} {j k:Nat} {a:Addr} {ts:List T} (r:RsL p B H H1 j k ts) (hn:H1 a=none) :
  Rs p B H (L2.upd H1 a (.lst (ts.map T.val))) (if j=0 then 0 else j + 1) (if j=0 then k + 1 else 0) (.lst a ts):=by
 have s:=Same.new (o:=.lst (ts.map T.val)) hn
 have ha:H a=none:=r.same.free hn
 refine ⟨r.same.trans s,⟨.inl AJ,r.ok.same s⟩,fun b m=>?_,fun b m=>?_,?_⟩
 ·split at m
  ·rename_i e
   subst e
   simp only [T.rest,aal] at m
   rcases m with rfl | m
   ·exact .inl ha
   ·exact r.src b m
  ·exact r.src b m
 ·split at m
  ·simp only [T.adr,aal] at m
   rcases m with rfl | m
   ·exact ⟨ha,_,AJ⟩
   ·exact ⟨(r.new b m).1,let ⟨vs,e⟩:=(r.new b m).2; ⟨vs,s _ _ e⟩⟩
  ·rw [T.adr_zero] at m; cases m
 ·split
  ·rename_i e
   subst e
   have out:a ∉ T.rests ts 0:=fun m=>by
    obtain ⟨t,ht,m⟩:=T.mem_rests.mp m
    exact (T.oks_iff.mp r.ok t ht).dom m hn
   refine ⟨?_,fun b m m'=>?_⟩
   ·simp only [T.adr,aaE]
    exact ⟨fun m=>out ((T.alls_iff ts k).mpr (.inl m)),r.nd.1⟩
   ·simp only [T.adr,T.rest,aal] at m m'
    rcases m' with rfl | m'
    ·exact out ((T.alls_iff ts k).mpr (.inr m))
    ·exact r.nd.2 b m m'
  ·exact T.nd_zero _
theorem Ag:∀ ts:List T,(T.dats ts).length=ts.length:=fun ts=>by rw [T.dats_map,aab]
noncomputable def Es.len:Es->Nat
 | .nil=>0
 | .cons _ r=>r.len + 1
theorem BB:∀ (es:Es) (δ:Fr) (ds:List D),evs es δ=.ok ds->ds.length=es.len
 | .nil,δ,ds,h=>by simp only [evs] at h; cases h; rfl
 | .cons e r,δ,ds,h=>by
  simp only [evs] at h
  obtain ⟨x,_,h⟩:=Res.bind_eq_ok h
  obtain ⟨xs,h2,h⟩:=Res.bind_eq_ok h
  cases h
  rw [aa5,BB r δ xs h2,Es.len]
theorem Ot {es:List Expr} {xs:Es} {k1:Nat} (h:PA X es (lEs p EX tn xs)) (hl:xs.len<=1000):PE X (.Tuple es k1 pos) (lE p EX tn (.tup xs)):=by
 refine PE.mono (Lf h) fun σ H Q h=>?_
 obtain ⟨τ,rfl,hF,j,k,hj,h⟩:=h
 simp only [ev] at h
 refine ⟨τ,rfl,hF,j,k,hj,h.bind.mono (Same.refl _) fun ds e hd ts H1 hts R=>⟨?_,fun a ha=>hd (.tup a ts) _ (by simp [T.dat,hts]) (QL R ha)⟩⟩
 have:=BB _ _ _ e
 rw [aab,<- Ag,hts,this]
 exact aat hl (by decide)
theorem Ou {es:List Expr} {xs:Es} (h:PA X es (lEs p EX tn xs)) (hl:xs.len<=1000):PE X (.List es pos) (lE p EX tn (.lst xs)):=by
 refine PE.mono (Qt h) fun σ H Q h=>?_
 obtain ⟨τ,rfl,hF,j,k,hj,h⟩:=h
 simp only [jk] at hj
 obtain ⟨⟨j1,k1⟩,h1,hj⟩:=bS hj
 simp only [ev] at h
 refine ⟨τ,rfl,hF,j1,k1,h1,h.bind.mono (Same.refl _) fun ds e hd ts H1 hts R=>⟨?_,fun a ha=>hd (.lst a ts) _ (by simp [T.dat,hts]) ?_⟩⟩
 ·have:=BB _ _ _ e
  rw [aab,<- Ag,hts,this]
  exact aat hl (by decide)
 ·have q:=Lu R ha
  have hj:=Option.some.inj hj
  by_cases z:j1=0
  ·subst z; simp only [if_true] at q; simp at hj; obtain ⟨rfl,rfl⟩:=hj; exact q
  ·simp only [if_neg z] at q; simp [z] at hj; obtain ⟨rfl,rfl⟩:=hj; exact q
noncomputable def Kh:B2->Operator
 | .add=>.Add
 | .sub=>.Sub
 | .mul=>.Mult
 | .fdiv=>.FloorDiv
 | .mod=>.Mod
 | .pow=>.Pow
theorem Inv.lstR {pins:List (Addr × Obj)} {σ:St} {H:Hp} {s:Shared} {l:Addr} {xs:List V} (I:Inv X pins σ H s) (hH:Rd H l (.lst xs)):xs.length<=sizeLine/\∃ (its:List Value) (n:Nat),Vals xs its/\xs.length=its.length/\s.heap.get? l=some { cls:=.type "list",data:=.seq its.toArray n }:=by
 obtain ⟨z,its,n,r,e⟩:=hH.ok I.hok
 exact ⟨z,its,n,r,r.length,e⟩
noncomputable def NW:R2:=fun x y H Q=>∃ l b xs zs,x=.ref l/\y=.ref b/\Rd H l (.lst xs)/\Rd H b (.lst zs)/\xs.length + zs.length<=sizeLine/\∀ q,H q=none->Q (.ref q) (L2.upd H q (.lst (xs ++ zs)))
theorem Ov:OpR X (binaryOp .Add) NW:=by
 intro pins s σ H x y v u Q I rx ry h
 obtain ⟨l,b,xs,zs,rfl,rfl,hH,hB,hz,q⟩:=h
 cases rx
 cases ry
 obtain ⟨z,its,n,r,hl,e⟩:=Inv.lstR I hH
 obtain ⟨z2,its2,n2,r2,hl2,e2⟩:=Inv.lstR I hB
 refine PySem.P.add_list e e2 ?_ (by rw [aas,aas]; omega)
 have ea:its.toArray ++ its2.toArray=(its ++ its2).toArray:=by simp
 rw [ea]
 exact ⟨.ref _,_,I.lnew (t':=s.toks) (r.append r2) (by rw [aaG]; omega),rfl,q _ I.fresh⟩
noncomputable def NX:R2:=fun x y H Q=>∃ l k xs,x=.ref l/\y=.int k/\Rd H l (.lst xs)/\-(2 ^ 63)<=k/\k < 2 ^ 63/\xs.length * k.toNat<=sizeLine /\
 ∀ q,H q=none->Q (.ref q) (L2.upd H q (.lst (aak k.toNat xs).flatten))
noncomputable def NY (_ j:Int):Prop:=0 < j/\j < 2 ^ 200
theorem MQ:OpR X (binaryOp .FloorDiv) (rI NY fun i j=>.int (i / j)):=opI fun i j _ _ _ _ _ hc q=>by
 have e:i / j=i.fdiv j:=(Int.fdiv_eq_ediv_of_nonneg _ (Int.le_of_lt hc.1)).symm
 rw [e] at q
 refine floordiv_int (by have:=hc.1; omega) q (.inl (PyProof.noPylong_of_log2 ?_))
 have h1:j.natAbs < 2 ^ 200:=by
  have e1:(j.natAbs:Int)=j:=Int.natAbs_of_nonneg (Int.le_of_lt hc.1)
  have e2:(j.natAbs:Int) < ((2 ^ 200:Nat):Int):=by rw [e1]; exact hc.2
  exact abN.mp e2
 have:j.natAbs.log2 < 200:=by
  refine (acK (by have:=hc.1; omega)).mpr h1
 omega
theorem Ow:OpR X (binaryOp .Mult) NX:=by
 intro pins s σ H x y v u Q I rx ry h
 obtain ⟨l,k,xs,rfl,rfl,hH,h1,h2,hz,q⟩:=h
 cases rx
 obtain ⟨t,rfl⟩:=ry
 obtain ⟨z,its,n,r,hl,e⟩:=Inv.lstR I hH
 have hlen:its.toArray.size * k.toNat<=sizeLine:=by rw [aas,<- hl]; exact hz
 have hcap:¬ its.toArray.size * k.toNat > (2 ^ 63 - 1) / 8:=by
  have:(sizeLine:Nat)<=(2 ^ 63 - 1) / 8:=by decide
  omega
 have hfit:¬ (!Builtin.List.listFitsIndex k)=true:=by
  rw [fitsIndex_both h1 h2]
  exact abt
 have hlong:¬ Builtin.List.listTooLong (its.toArray.size * k.toNat)=true:=by
  rw [HN hlen]
  exact abt
 have hnew:acM (fun x1 x2=>x1 ++ x2) #[] (aak (if its.toArray.isEmpty=true then 0 else k.toNat) its.toArray)=(aak k.toNat its).flatten.toArray:=by
  have f0:∀ m:Nat,acM (fun x1 x2=>x1 ++ x2) #[] (aak m its.toArray)=(aak m its).flatten.toArray:=fun m=>by
   have:=Hi its m []
   rw [abc] at this
   exact this
  rw [f0]
  cases its with
  | nil=>simp
  | cons a r'=>rw [if_neg (by simp)]
 refine wpAny_binaryOp_repeat_ref (T := "list") (U := "int") (by decide) ⟨_,e,rfl⟩ (fun s'=>typeIs_int s' k t) noFill_list_mul F.fills_int_mul F.slot_int_rmul repeat_list F.slot_int_index.lookup
  (call_meets F.slot_int_rmul (typeIs_int s k t) F.entry_int_rmul (F.args_int_rmul_2 _ _) (int___rmul___int_list k t l its.toArray n)
   ⟨e,rfl,⟨_,e,rfl⟩,call_meets F.slot_list_mul ⟨_,e,rfl⟩ F.entry_list_mul (F.args_list_mul_2 _ _) (AutoListH.list___mul___list_int_3 l its.toArray n k t hfit hcap hlong) ⟨e,?_⟩⟩)
 rw [hnew]
 exact ⟨.ref _,_,I.lnew (t':=s.toks) (r.rep k.toNat) (by rw [Ol,acB]; exact hz),rfl,q _ I.fresh⟩
noncomputable def CMulB (i j:Int):Prop:=CMul i j\/(i.natAbs < 2 ^ 400/\j.natAbs < 2 ^ 400)
theorem JA {k:Int} (h:k.natAbs < 2 ^ 400):Builtin.Int.intBits k<=400:=by
 unfold Builtin.Int.intBits
 split
 ·exact aay _
 ·have:k.natAbs.log2 < 400:=by
   rcases acC k.natAbs with h0 | hp
   ·rw [h0]; decide
   ·exact (acK (abY hp)).mpr h
  omega
theorem CMulB.ok {i j:Int} (h:CMulB i j):IntMulOk i j:=by
 rcases h with h | ⟨h1,h2⟩
 ·exact h.ok
 ·have b1:=JA h1
  have b2:=JA h2
  have:Builtin.Int.intTooBig (Builtin.Int.intBits i + Builtin.Int.intBits j)=false:=by
   unfold Builtin.Int.intTooBig bitsLine
   exact decide_eq_false (by omega)
  unfold IntMulOk
  rw [this]
  simp
theorem Ox:OpR X (binaryOp .Mult) (rI CMulB fun i j=>.int (i * j)):=opI fun _ _ _ _ _ _ _ hc q=>mul_int q hc.ok
noncomputable def QM:B2->R2
 | .add=>fun x y H Q=>rI0 (fun i j=>.int (i + j)) x y H Q\/(NW x y H Q\/∃ i j,x=.str i/\y=.str j/\i.length + j.length<=sizeLine/\Q (.str (i ++ j)) H)
 | .sub=>rI0 fun i j=>.int (i - j)
 | .mul=>fun x y H Q=>rI CMulB (fun i j=>.int (i * j)) x y H Q\/NX x y H Q
 | .fdiv=>rI NY fun i j=>.int (i / j)
 | .mod=>rI (fun _ j=>0 < j) fun i j=>.int (i % j)
 | .pow=>rI Qk fun i j=>.int (i ^ j.toNat)
theorem Oy:∀ o:B2,OpR X (binaryOp (Kh o)) (QM o)
 | .add=>Ql.or (Ov.or J2)
 | .sub=>Qm
 | .mul=>Ox.or Ow
 | .fdiv=>MQ
 | .mod=>Qn
 | .pow=>Qo
theorem Rs.elems {B:Addr->Prop} {H H1:Hp} {j k:Nat} {a:Addr} {ts:List T} (r:Rs p B H H1 j k (.lst a ts)) (hj:j<=1):∀ b ∈ T.rests ts 0,H b=none\/B b:=fun b m=>by
 refine r.src b (T.rest_le _ hj (j':=1) ?_)
 exact m
theorem E0 {B:Addr->Prop} {H H1:Hp} {a:Addr} {ts:List T} (s:Same H H1) (ok:T.Oks p H1 ts) (src:∀ b ∈ T.rests ts 0,H b=none\/B b) (hn:H1 a=none):Rs p B H (L2.upd H1 a (.lst (ts.map T.val))) 0 1 (.lst a ts):=by
 have:=Lu (j:=0) (k:=0) (p:=p) (B:=B) (H:=H) (a:=a) (ts:=ts) ⟨s,ok,src,by rw [T.adrs_zero]; simp,T.nds_zero ts⟩ hn
 exact this
theorem JB {t:T} {f:Int->Res D} {Q:Res D->Prop} (hb:¬ Q .bad) (h:Q (Du t.dat f)):∃ i,t=.int i/\Q (f i):=by
 cases t with
 | int i=>exact ⟨i,rfl,h⟩
 | _=>exact absurd h hb
theorem BK {t u:T} {f:Int->Int->Res D} {Q:Res D->Prop} (hb:¬ Q .bad) (h:Q (Bt t.dat u.dat f)):∃ i j,t=.int i/\u=.int j/\Q (f i j):=by
 obtain ⟨i,rfl,h⟩:=JB (t:=t) hb h
 obtain ⟨j,rfl,h⟩:=JB (t:=u) hb h
 exact ⟨i,j,rfl,rfl,h⟩
theorem Oz {t u:T} {Q:Res D->Prop} (hb:¬ Q .bad) (h:Q (Kg t.dat u.dat)):(∃ i j,t=.int i/\u=.int j/\Q (.ok (.int (i + j))))\/(∃ x y,t=.str x/\u=.str y/\Q (Kg (.str x) (.str y)))\/∃ a ts b us,t=.lst a ts/\u=.lst b us/\Q (Kg (.lst (T.dats ts)) (.lst (T.dats us))):=by
 cases t with
 | int i =>
  cases u with
  | int j=>exact .inl ⟨i,j,rfl,rfl,h⟩
  | _=>exact absurd h hb
 | str x =>
  cases u with
  | str y=>exact .inr (.inl ⟨x,y,rfl,rfl,h⟩)
  | _=>exact absurd h hb
 | lst a ts =>
  cases u with
  | lst b us=>exact .inr (.inr ⟨a,ts,b,us,rfl,rfl,h⟩)
  | _=>exact absurd h hb
 | _=>exact absurd h hb
theorem OA {t u:T} {Q:Res D->Prop} (hb:¬ Q .bad) (h:Q (HQ t.dat u.dat)):(∃ i j,t=.int i/\u=.int j/\Q (HQ (.int i) (.int j)))\/∃ a ts k,t=.lst a ts/\u=.int k/\Q (HQ (.lst (T.dats ts)) (.int k)):=by
 cases t with
 | int i =>
  cases u with
  | int j=>exact .inl ⟨i,j,rfl,rfl,h⟩
  | _=>exact absurd h hb
 | lst a ts =>
  cases u with
  | int k=>exact .inr ⟨a,ts,k,rfl,rfl,h⟩
  | _=>exact absurd h hb
 | _=>exact absurd h hb
theorem R7 {B:Addr->Prop} {H H2:Hp} {ja jb ka kb:Nat} {t u:T} {o:B2} {σ:St} {Q:VK} (r:Rs p B H H2 ja ka t) (r':Rs p B H H2 jb kb u) (ha:ja<=1) (hb:jb<=1) (h:Lg p EX σ (b2 o t.dat u.dat) H (KE p B H 0 1 Q)):QM o t.val u.val H2 Q:=by
 have sc:∀ w:T,w.sc=true->Rs p B H H2 0 1 w:=fun w hw=>Rs.scal r.same hw
 cases o with
 | add =>
  rcases Oz (Q:=fun r=>Lg p EX σ r H _) id h with ⟨i,j,rfl,rfl,h⟩ | ⟨x,y,rfl,rfl,h⟩ | ⟨a,ts,b,us,rfl,rfl,h⟩
  ·exact .inl ⟨_,_,rfl,rfl,h (.int _) H2 rfl (sc _ rfl)⟩
  ·obtain ⟨hl,h⟩:=h.guard
   exact .inr (.inr ⟨_,_,rfl,rfl,hl,h (.str _) H2 rfl (sc _ rfl)⟩)
  ·skip
   obtain ⟨hl,h⟩:=h.guard
   ·refine .inr (.inl ⟨a,b,_,_,rfl,rfl,r.ok.1,r'.ok.1,?_,fun q hq=>?_⟩)
    ·rw [aab,aab,<- Ag,<- Ag]; exact hl
    ·rw [<- aap]
     refine h (.lst q (ts ++ us)) _ (by simp [T.dat,T.dats_map]) (E0 r.same (T.oks_iff.mpr fun w hw=>?_) (fun c m=>?_) hq)
     ·rcases aaf.mp hw with hw | hw
      ·exact T.oks_iff.mp r.ok.2 w hw
      ·exact T.oks_iff.mp r'.ok.2 w hw
     ·rw [T.rests_append,aaf] at m
      rcases m with m | m
      ·exact r.elems ha c m
      ·exact r'.elems hb c m
 | sub =>
  obtain ⟨i,j,rfl,rfl,h⟩:=BK (Q:=fun r=>Lg p EX σ r H _) id h
  exact ⟨_,_,rfl,rfl,h (.int _) H2 rfl (sc _ rfl)⟩
 | mul =>
  rcases OA (Q:=fun r=>Lg p EX σ r H _) id h with ⟨i,j,rfl,rfl,h⟩ | ⟨a,ts,k,rfl,rfl,h⟩
  ·by_cases c:(-(2 ^ 64) < i/\i < 2 ^ 64)\/(-(2 ^ 64) < j/\j < 2 ^ 64)
   ·have h:Lg p EX σ (if (-(2 ^ 64) < i/\i < 2 ^ 64)\/(-(2 ^ 64) < j/\j < 2 ^ 64) then Res.ok (D.int (i * j)) else if i.natAbs < 2 ^ 400/\j.natAbs < 2 ^ 400 then .ok (.int (i * j)) else .bad) H _:=h
    rw [if_pos c] at h
    exact .inl ⟨_,_,rfl,rfl,.inl c,h (.int _) H2 rfl (sc _ rfl)⟩
   ·have h:Lg p EX σ (if (-(2 ^ 64) < i/\i < 2 ^ 64)\/(-(2 ^ 64) < j/\j < 2 ^ 64) then Res.ok (D.int (i * j)) else if i.natAbs < 2 ^ 400/\j.natAbs < 2 ^ 400 then .ok (.int (i * j)) else .bad) H _:=h
    rw [if_neg c] at h
    obtain ⟨hl,h⟩:=h.guard
    exact .inl ⟨_,_,rfl,rfl,.inr hl,h (.int _) H2 rfl (sc _ rfl)⟩
  ·skip
   obtain ⟨⟨h1,h2,h3⟩,h⟩:=h.guard
   ·refine .inr ⟨a,k,_,rfl,rfl,r.ok.1,h1,h2,?_,fun q hq=>?_⟩
    ·rw [aab,<- Ag]; exact h3
    ·have e:(aak k.toNat (ts.map T.val)).flatten=(aak k.toNat ts).flatten.map T.val:=by
      rw [List.map_flatten,abb]
     rw [e]
     refine h (.lst q (aak k.toNat ts).flatten) _ ?_ (E0 r.same (T.oks_iff.mpr fun w hw=>?_) (fun c m=>?_) hq)
     ·rw [T.dat,T.dats_map,T.dats_map,List.map_flatten,abb]
     ·obtain ⟨l,hl,hw⟩:=List.mem_flatten.mp hw
      rw [(abu.mp hl).2] at hw
      exact T.oks_iff.mp r.ok.2 w hw
     ·obtain ⟨w,hw,m⟩:=T.mem_rests.mp m
      obtain ⟨l,hl,hw⟩:=List.mem_flatten.mp hw
      rw [(abu.mp hl).2] at hw
      exact r.elems ha c (T.mem_rests.mpr ⟨w,hw,m⟩)
 | fdiv =>
  obtain ⟨i,j,rfl,rfl,h⟩:=BK (Q:=fun r=>Lg p EX σ r H _) id h
  obtain ⟨hl,h⟩:=h.guard
  exact ⟨_,_,rfl,rfl,hl,h (.int _) H2 rfl (sc _ rfl)⟩
 | mod =>
  obtain ⟨i,j,rfl,rfl,h⟩:=BK (Q:=fun r=>Lg p EX σ r H _) id h
  obtain ⟨hl,h⟩:=h.guard
  exact ⟨_,_,rfl,rfl,hl,h (.int _) H2 rfl (sc _ rfl)⟩
 | pow =>
  obtain ⟨i,j,rfl,rfl,h⟩:=BK (Q:=fun r=>Lg p EX σ r H _) id h
  obtain ⟨hl,h⟩:=h.guard
  exact ⟨_,_,rfl,rfl,hl,h (.int _) H2 rfl (sc _ rfl)⟩
theorem OB {a b:Expr} {x y:E} {o:B2} (ha:PE X a (lE p EX tn x)) (hb:PE X b (lE p EX tn y)):PE X (.BinOp a (Kh o) b pos) (lE p EX tn (.bin o x y)):=by
 refine PE.mono (RU (Oy o) ha hb) fun σ H Q h=>?_
 obtain ⟨τ,rfl,hF,j,k,hj,h⟩:=h
 simp only [jk] at hj
 obtain ⟨⟨j1,k1⟩,h1,hj⟩:=bS hj
 obtain ⟨⟨j2,k2⟩,h2,hj⟩:=bS hj
 obtain ⟨hc,e⟩:=CJ hj
 cases e
 simp only [aah,decide_eq_true_eq] at hc
 simp only [ev] at h
 refine l1 hF h1 h fun d t H1 ht R h=>l2 hF R.same h2 h fun d' t' H2 ht' R' h=>?_
 subst ht ht'
 exact R7 (R.fwd R'.same) (R'.back R.same) hc.1 hc.2 h
end
mutual
noncomputable def D.py:D->PyData
 | .non=>.none
 | .bl b=>.bool b
 | .int i=>.int i
 | .str x=>.str x
 | .tup ds=>.tuple (D.pys ds)
 | .lst ds=>.list (D.pys ds)
 | .exn _=>.none
noncomputable def D.pys:List D->List PyData
 | []=>[]
 | d :: r=>d.py :: D.pys r
end
theorem D.ind {P:D->Prop} (h0:P .non) (h1:∀ b,P (.bl b)) (h2:∀ i,P (.int i)) (h3:∀ x,P (.str x)) (h4:∀ ts,(∀ t ∈ ts,P t)->P (.tup ts)) (h5:∀ ts,(∀ t ∈ ts,P t)->P (.lst ts)) (h6:∀ c,P (.exn c)):∀ t,P t
 | .non=>h0
 | .bl b=>h1 b
 | .int i=>h2 i
 | .str x=>h3 x
 | .tup ts=>h4 ts fun t h=>D.ind h0 h1 h2 h3 h4 h5 h6 t
 | .lst ts=>h5 ts fun t h=>D.ind h0 h1 h2 h3 h4 h5 h6 t
 | .exn c=>h6 c
termination_by t=>t
theorem Bf {n c:Nat}:D.shp n (.exn c)=false:=by cases n <;> rfl
theorem DO {n:Nat} {ds:List D} (h:D.shp n (.tup ds)=true):∃ m,n=m + 1/\∀ d ∈ ds,D.shp m d=true:=by
 cases n with
 | zero=>cases h
 | succ m=>exact ⟨m,rfl,by simpa [D.shp] using h⟩
theorem DP {n:Nat} {ds:List D} (h:D.shp n (.lst ds)=true):∃ m,n=m + 1/\∀ d ∈ ds,D.shp m d=true:=by
 cases n with
 | zero=>cases h
 | succ m=>exact ⟨m,rfl,by simpa [D.shp] using h⟩
theorem HS:∀ (d e:D) (n m:Nat),d.shp n=true->e.shp m=true->d.eqv e=d.py.eqv e.py:=by
 have lists:∀ (ds:List D),(∀ d ∈ ds,∀ (e:D) (n m:Nat),d.shp n=true->e.shp m=true->d.eqv e=d.py.eqv e.py)->∀ (es:List D) (n m:Nat),(∀ d ∈ ds,d.shp n=true)->(∀ e ∈ es,e.shp m=true)->D.eqvs ds es=PyData.eqvAll (D.pys ds) (D.pys es):=by
  intro ds
  induction ds with
  | nil=>intro _ es n m _ _; cases es <;> simp [D.eqvs,D.pys,PyData.eqvAll]
  | cons d r ih =>
   intro h es n m h1 h2
   cases es with
   | nil=>simp [D.eqvs,D.pys,PyData.eqvAll]
   | cons e s =>
    simp only [D.eqvs,D.pys,PyData.eqvAll]
    rw [h d (aac ..) e n m (h1 d (aac ..)) (h2 e (aac ..)),ih (fun x hx=>h x (aaa _ hx)) s n m (fun x hx=>h1 x (aaa _ hx)) (fun x hx=>h2 x (aaa _ hx))]
 refine D.ind ?_ ?_ ?_ ?_ ?_ ?_ ?_
 ·intro e n m _ h; cases e <;> simp [D.eqv,D.py,PyData.eqv,Bf] at h ⊢
 ·intro b e n m _ h; cases e <;> simp [D.eqv,D.py,PyData.eqv,Bf] at h ⊢
 ·intro b e n m _ h; cases e <;> simp [D.eqv,D.py,PyData.eqv,Bf] at h ⊢
 ·intro b e n m _ h; cases e <;> simp [D.eqv,D.py,PyData.eqv,Bf] at h ⊢
 ·intro ds ih e n m h1 h2
  cases e with
  | tup es =>
   obtain ⟨n',_,h1⟩:=DO h1
   obtain ⟨m',_,h2⟩:=DO h2
   simp only [D.eqv,D.py,PyData.eqv]
   exact lists ds ih es n' m' h1 h2
  | exn c=>rw [Bf] at h2; cases h2
  | _=>simp [D.eqv,D.py,PyData.eqv]
 ·intro ds ih e n m h1 h2
  cases e with
  | lst es =>
   obtain ⟨n',_,h1⟩:=DP h1
   obtain ⟨m',_,h2⟩:=DP h2
   simp only [D.eqv,D.py,PyData.eqv]
   exact lists ds ih es n' m' h1 h2
  | exn c=>rw [Bf] at h2; cases h2
  | _=>simp [D.eqv,D.py,PyData.eqv]
 ·intro c e n m h; rw [Bf] at h; cases h
theorem GR:∀ (d:D) (n:Nat),d.shp n=true->d.py.canLay0=true/\d.py.depth<=n:=by
 have lists:∀ (ds:List D),(∀ d ∈ ds,∀ (n:Nat),d.shp n=true->d.py.canLay0=true/\d.py.depth<=n)->∀ n,(∀ d ∈ ds,d.shp n=true)->PyData.canLayAll0 (D.pys ds)=true/\PyData.depthAll (D.pys ds)<=n:=by
  intro ds
  induction ds with
  | nil=>intro _ n _; simp [D.pys,PyData.canLayAll0,PyData.depthAll]
  | cons d r ih =>
   intro h n h1
   obtain ⟨a1,a2⟩:=h d (aac ..) n (h1 d (aac ..))
   obtain ⟨b1,b2⟩:=ih (fun x hx=>h x (aaa _ hx)) n (fun x hx=>h1 x (aaa _ hx))
   simp only [D.pys,PyData.canLayAll0,PyData.depthAll,a1,b1,Bool.and_self,true_and]
   omega
 refine D.ind ?_ ?_ ?_ ?_ ?_ ?_ ?_
 ·intro n h; simp [D.py,PyData.canLay0,PyData.depth]
 ·intro b n h; simp [D.py,PyData.canLay0,PyData.depth]
 ·intro b n h; simp [D.py,PyData.canLay0,PyData.depth]
 ·intro x n h
  simp only [D.py,PyData.canLay0,PyData.depth,aay,and_true]
  cases n <;> exact h
 ·intro ds ih n h
  obtain ⟨m,rfl,h'⟩:=DO h
  have:=lists ds ih m h'
  simp only [D.py,PyData.canLay0,PyData.depth]
  exact ⟨this.1,by omega⟩
 ·intro ds ih n h
  obtain ⟨m,rfl,h'⟩:=DP h
  have:=lists ds ih m h'
  simp only [D.py,PyData.canLay0,PyData.depth]
  exact ⟨this.1,by omega⟩
 ·intro c n h; rw [Bf] at h; cases h
theorem Ea {d:D} (h:d.shp 8=true):SeqAt.shaped d.py=true:=by
 obtain ⟨h1,h2⟩:=GR d 8 h
 unfold SeqAt.shaped
 rw [h1,acs]
 exact decide_eq_true (by omega)
theorem Fw {p:Px} {H:Hp}:∀ (t:T) (n:Nat),t.Ok p H->t.dat.shp n=true->RD p.K H t.val t.dat.py:=by
 have lists:∀ (ts:List T),(∀ t ∈ ts,∀ n,t.Ok p H->t.dat.shp n=true->RD p.K H t.val t.dat.py)->∀ n,T.Oks p H ts->(∀ d ∈ T.dats ts,d.shp n=true)->RDs p.K H (ts.map T.val) (D.pys (T.dats ts)):=by
  intro ts
  induction ts with
  | nil=>intro _ _ _ _; exact .nil
  | cons t r ih =>
   intro h n ok hs
   exact .cons (h t (aac ..) n ok.1 (hs _ (by simp [T.dats]))) (ih (fun u hu=>h u (aaa _ hu)) n ok.2 (fun d hd=>hs d (by simp [T.dats,hd])))
 refine T.ind (fun _ _ _=>.non) (fun b _ _ _=>.bl b) (fun i _ _ _=>.int i) (fun x _ _ _=>.str x) (fun a ts ih n ok h=>?_) (fun a ts ih n ok h=>?_) (fun a c n ok h=>?_)
 ·obtain ⟨m,rfl,h'⟩:=DO h
  exact .tup (SqT.of ok.1) (lists ts ih m ok.2 h')
 ·obtain ⟨m,rfl,h'⟩:=DP h
  exact .lst (.inl ok.1) (lists ts ih m ok.2 h')
 ·rw [T.dat,Bf] at h; cases h
theorem Gv {H:Hp} {a:Addr} {xs ys:List V} (h:Rd H a (.lst xs)) (h':Rd H a (.lst ys)):xs=ys:=by
 rcases h with h | ⟨o,h⟩ <;> rcases h' with h' | ⟨o',h'⟩ <;> rw [h] at h' <;> cases h' <;> rfl
theorem T.det {p:Px} {H:Hp}:∀ (t u:T) (n m:Nat),t.Ok p H->u.Ok p H->t.dat.shp n=true->u.dat.shp m=true->t.val=u.val->t.dat=u.dat:=by
 have lists:∀ (ts:List T),(∀ t ∈ ts,∀ (u:T) (n m:Nat),t.Ok p H->u.Ok p H->t.dat.shp n=true->u.dat.shp m=true->t.val=u.val->t.dat=u.dat)->∀ (us:List T) (n m:Nat),T.Oks p H ts->T.Oks p H us ->
   (∀ d ∈ T.dats ts,d.shp n=true)->(∀ d ∈ T.dats us,d.shp m=true)->ts.map T.val=us.map T.val->T.dats ts=T.dats us:=by
  intro ts
  induction ts with
  | nil=>intro _ us n m _ _ _ _ e; cases us with | nil=>rfl | cons u r=>simp at e
  | cons t r ih =>
   intro h us n m o1 o2 s1 s2 e
   cases us with
   | nil=>simp at e
   | cons u q =>
    simp only [aa7,List.cons.injEq] at e
    simp only [T.dats,List.cons.injEq]
    exact ⟨h t (aac ..) u n m o1.1 o2.1 (s1 _ (by simp [T.dats])) (s2 _ (by simp [T.dats])) e.1,ih (fun x hx=>h x (aaa _ hx)) q n m o1.2 o2.2 (fun d hd=>s1 d (by simp [T.dats,hd])) (fun d hd=>s2 d (by simp [T.dats,hd])) e.2⟩
 refine T.ind ?_ ?_ ?_ ?_ ?_ ?_ ?_
 ·intro u n m _ _ _ _ e; cases u <;> first | rfl | cases e
 ·intro b u n m _ _ _ _ e; cases u <;> first | (cases e; rfl) | cases e
 ·intro b u n m _ _ _ _ e; cases u <;> first | (cases e; rfl) | cases e
 ·intro b u n m _ _ _ _ e; cases u <;> first | (cases e; rfl) | cases e
 ·intro a ts ih u n m o1 o2 s1 s2 e
  cases u with
  | tup b us =>
   cases e
   obtain ⟨n',_,s1⟩:=DO s1
   obtain ⟨m',_,s2⟩:=DO s2
   have q:=o1.1.symm.trans o2.1
   simp only [Option.some.injEq,HO.tup.injEq] at q
   simp only [T.dat,lists ts ih us n' m' o1.2 o2.2 s1 s2 q]
  | lst b us =>
   cases e
   have h1:=o1.1
   rcases o2.1 with h | ⟨_,h⟩ <;> rw [h] at h1 <;> cases h1
  | exn b c=>rw [T.dat,Bf] at s2; cases s2
  | _=>cases e
 ·intro a ts ih u n m o1 o2 s1 s2 e
  cases u with
  | tup b us =>
   cases e
   have h1:=o2.1
   rcases o1.1 with h | ⟨_,h⟩ <;> rw [h] at h1 <;> cases h1
  | lst b us =>
   cases e
   obtain ⟨n',_,s1⟩:=DP s1
   obtain ⟨m',_,s2⟩:=DP s2
   have q:=Gv o1.1 o2.1
   simp only [T.dat,lists ts ih us n' m' o1.2 o2.2 s1 s2 q]
  | exn b c=>rw [T.dat,Bf] at s2; cases s2
  | _=>cases e
 ·intro a c u n m _ _ h; rw [T.dat,Bf] at h; cases h
section
variable {p:Px} {EX:EXT} {tn:List Nat} {X:Cx} {pos:Pos}
theorem Fx (hK:X.K=p.K) {pins:List (Addr × Obj)} {σ:St} {H:Hp} {s:Shared} {A:Around} (I:Inv X pins σ H s) {t u:T} {x y:Value} (hu:A.units + 60 < cLine) (o1:t.Ok p H) (o2:u.Ok p H) (s1:t.dat.shp 8=true) (s2:u.dat.shp 8=true) (r1:RelV t.val x) (r2:RelV u.val y) :
  SeqAt.EqAt A s x y (t.dat.eqv u.dat):=by
 intro prog w E Q hQ
 obtain ⟨as,q1⟩:=RD.reads (X:=X) I (hK ▸ Fw t 8 o1 s1) r1
 obtain ⟨bs,q2⟩:=RD.reads (X:=X) I (hK ▸ Fw u 8 o2 s2) r2
 obtain ⟨c1,d1⟩:=GR _ 8 s1
 obtain ⟨c2,d2⟩:=GR _ 8 s2
 refine PySem.SeqAt.eqBoolOverData prog w A E s x y _ _ as bs Q q1 q2 c1 c2 (by omega) ?_
 rw [<- HS _ _ 8 8 s1 s2]
 exact hQ
noncomputable def eqS (us:List T) (t:T) (y:Value):Bool:=@decide (∃ u ∈ us,RelV u.val y/\u.dat.eqv t.dat=true) (Classical.propDecidable _)
theorem E1 {H:Hp} {us:List T} {t u:T} {y:Value} (ok:T.Oks p H us) (sh:∀ w ∈ us,w.dat.shp 8=true) (hu:u ∈ us) (r:RelV u.val y):eqS us t y=u.dat.eqv t.dat:=by
 unfold eqS
 cases e:u.dat.eqv t.dat with
 | true=>exact @decide_eq_true _ (Classical.propDecidable _) ⟨u,hu,r,e⟩
 | false =>
  refine @decide_eq_false _ (Classical.propDecidable _) ?_
  rintro ⟨w,hw,r',e'⟩
  rw [T.det w u 8 8 (T.oks_iff.mp ok w hw) (T.oks_iff.mp ok u hu) (sh w hw) (sh u hu) (RelV.inj r' r)] at e'
  rw [e] at e'; cases e'
theorem Ev {H:Hp} {us:List T} {t:T} (ok:T.Oks p H us) (sh:∀ w ∈ us,w.dat.shp 8=true):∀ (ws:List T) (ys:List Value),(∀ w ∈ ws,w ∈ us)->Vals (ws.map T.val) ys->ys.any (eqS us t)=ws.any fun w=>w.dat.eqv t.dat
 | [],_,_,.nil=>rfl
 | w :: ws,_,h,.cons r q=>by
  rw [ab8,ab8,E1 ok sh (h w (aac ..)) r,Ev ok sh ws _ (fun x hx=>h x (aaa _ hx)) q]
theorem DZ:∀ {ws:List T} {ys:List Value} {y:Value},Vals (ws.map T.val) ys->y ∈ ys->∃ w ∈ ws,RelV w.val y
 | [],_,y,.nil,h=>nomatch h
 | w :: ws,_,y,.cons r q,h=>by
  rcases aal.mp h with rfl | h
  ·exact ⟨w,aac ..,r⟩
  ·obtain ⟨w',hw,r'⟩:=DZ q h
   exact ⟨w',aaa _ hw,r'⟩
noncomputable def Ki (p:Px) (neg:Bool):R2:=fun x y H Q=>∃ (t:T) (a:Addr) (us:List T),x=t.val/\y=.ref a/\(Rd H a (.lst (us.map T.val))\/H a=some (.tup (us.map T.val)))/\T.Oks p H us/\t.Ok p H/\t.dat.shp 8=true/\(∀ w ∈ us,w.dat.shp 8=true) /\
 Q (.bl (if neg then !(us.any fun w=>w.dat.eqv t.dat) else us.any fun w=>w.dat.eqv t.dat)) H
theorem QN (hK:X.K=p.K) (hu:X.A.units + 64 < cLine):OpR X (compareOp .In) (Ki p false):=by
 intro pins s σ H x y v u Q I rx ry h
 obtain ⟨t,a,us,rfl,rfl,hq,ok,o1,s1,s2,q⟩:=h
 cases ry
 rcases hq with hq | hq
 ·obtain ⟨its,r,pl,hz⟩:=I.list (.inl hq)
  refine SeqAt.in_listAt (eqS us t) pl.isList (fun w hw=>?_) ⟨.bl _,H,I,rfl,?_⟩
  ·obtain ⟨w',hw',r'⟩:=DZ r (by simpa using hw)
   rw [E1 ok s2 hw' r']
   exact Fx hK I (by show X.A.units + 1 + 60 < cLine; omega) (T.oks_iff.mp ok w' hw') o1 (s2 w' hw') s1 r' rx
  ·rw [show its.toArray.any (eqS us t)=its.any (eqS us t) by simp,Ev ok s2 us its (fun _ h=>h) r]
   exact q
 ·obtain ⟨its,r,pl,hz⟩:=I.tuple (SqT.of hq)
  refine SeqAt.in_tupleAt (eqS us t) pl (fun w hw=>?_) ⟨.bl _,H,I,rfl,?_⟩
  ·obtain ⟨w',hw',r'⟩:=DZ r (by simpa using hw)
   rw [E1 ok s2 hw' r']
   exact Fx hK I (by show X.A.units + 1 + 60 < cLine; omega) (T.oks_iff.mp ok w' hw') o1 (s2 w' hw') s1 r' rx
  ·rw [show its.toArray.any (eqS us t)=its.any (eqS us t) by simp,Ev ok s2 us its (fun _ h=>h) r]
   exact q
theorem Lv (hK:X.K=p.K) (hu:X.A.units + 64 < cLine):OpR X (compareOp .NotIn) (Ki p true):=by
 intro pins s σ H x y v u Q I rx ry h
 obtain ⟨t,a,us,rfl,rfl,hq,ok,o1,s1,s2,q⟩:=h
 cases ry
 rcases hq with hq | hq
 ·obtain ⟨its,r,pl,hz⟩:=I.list (.inl hq)
  refine SeqAt.notIn_listAt (eqS us t) pl.isList (fun w hw=>?_) ⟨.bl _,H,I,rfl,?_⟩
  ·obtain ⟨w',hw',r'⟩:=DZ r (by simpa using hw)
   rw [E1 ok s2 hw' r']
   exact Fx hK I (by show X.A.units + 1 + 60 < cLine; omega) (T.oks_iff.mp ok w' hw') o1 (s2 w' hw') s1 r' rx
  ·rw [show its.toArray.any (eqS us t)=its.any (eqS us t) by simp,Ev ok s2 us its (fun _ h=>h) r]
   exact q
 ·obtain ⟨its,r,pl,hz⟩:=I.tuple (SqT.of hq)
  refine SeqAt.notIn_tupleAt (eqS us t) pl (fun w hw=>?_) ⟨.bl _,H,I,rfl,?_⟩
  ·obtain ⟨w',hw',r'⟩:=DZ r (by simpa using hw)
   rw [E1 ok s2 hw' r']
   exact Fx hK I (by show X.A.units + 1 + 60 < cLine; omega) (T.oks_iff.mp ok w' hw') o1 (s2 w' hw') s1 r' rx
  ·rw [show its.toArray.any (eqS us t)=its.any (eqS us t) by simp,Ev ok s2 us its (fun _ h=>h) r]
   exact q
end
section
variable {p:Px} {EX:EXT} {tn:List Nat} {X:Cx} {pos:Pos}
noncomputable def A7:C2->CmpOp
 | .lt=>.Lt
 | .le=>.LtE
 | .gt=>.Gt
 | .ge=>.GtE
 | .eq=>.Eq
 | .ne=>.NotEq
 | .inn=>.In
 | .nin=>.NotIn
noncomputable def QO (p:Px) (neg:Bool):R2:=fun x y H Q=>∃ t u:T,x=t.val/\y=u.val/\t.Ok p H/\u.Ok p H/\t.dat.shp 8=true/\u.dat.shp 8=true/\Q (.bl (if neg then !t.dat.eqv u.dat else t.dat.eqv u.dat)) H
noncomputable def HU (p:Px):C2->R2
 | .lt=>rI0 fun i j=>.bl (decide (i < j))
 | .le=>rI0 fun i j=>.bl (decide (i<=j))
 | .gt=>rI0 fun i j=>.bl (decide (j < i))
 | .ge=>rI0 fun i j=>.bl (decide (j<=i))
 | .eq=>QO p false
 | .ne=>QO p true
 | .inn=>Ki p false
 | .nin=>Ki p true
theorem DQ (hK:X.K=p.K) (hu:X.A.units + 64 < cLine):∀ o:C2,OpR X (compareOp (A7 o)) (HU p o)
 | .lt=>RW
 | .le=>RX
 | .gt=>RY
 | .ge=>RZ
 | .eq=>by
  intro pins s σ H x y v u Q I rx ry h
  obtain ⟨t,w,rfl,rfl,o1,o2,s1,s2,q⟩:=h
  refine QF hu pins s σ H _ _ v u Q I rx ry ⟨_,_,hK ▸ Fw t 8 o1 s1,hK ▸ Fw w 8 o2 s2,Ea s1,Ea s2,?_⟩
  rw [<- HS _ _ 8 8 s1 s2]; exact q
 | .ne=>by
  intro pins s σ H x y v u Q I rx ry h
  obtain ⟨t,w,rfl,rfl,o1,o2,s1,s2,q⟩:=h
  refine QG hu pins s σ H _ _ v u Q I rx ry ⟨_,_,hK ▸ Fw t 8 o1 s1,hK ▸ Fw w 8 o2 s2,Ea s1,Ea s2,?_⟩
  rw [<- HS _ _ 8 8 s1 s2]; exact q
 | .inn=>QN hK hu
 | .nin=>Lv hK hu
theorem HV {t:T}:∀ us:List T,((T.dats us).any fun y=>D.eqv y t.dat)=us.any fun w=>w.dat.eqv t.dat
 | []=>rfl
 | u :: r=>by simp [T.dats,HV r]
theorem EG {f:D->Bool}:∀ {us:List T},(T.dats us).all f=true->∀ w ∈ us,f w.dat=true
 | [],_,w,h=>nomatch h
 | u :: r,h,w,hw=>by
  simp only [T.dats,aaR,aah] at h
  rcases aal.mp hw with rfl | hw
  ·exact h.1
  ·exact EG h.2 w hw
theorem Hy {β:Type} {t:T} {us:List T} {σ:St} {H:Hp} {f:Bool->Res β} {Kc:β->Prop} (h:Lg p EX σ ((inD t.dat (T.dats us)).bind f) H Kc):t.dat.shp 8=true/\(∀ w ∈ us,w.dat.shp 8=true)/\Lg p EX σ (f (us.any fun w=>w.dat.eqv t.dat)) H Kc:=by
 have h:=h.bind
 unfold inD at h
 obtain ⟨hc,h⟩:=h.guard
 rw [aah] at hc
 rw [HV] at h
 exact ⟨hc.1,fun w hw=>EG hc.2 w hw,h⟩
theorem Kj {B:Addr->Prop} {H H2:Hp} {ja jb ka kb:Nat} {t u:T} {o:C2} {σ:St} {Kc:D->Prop} {Q:VK} (r:Rs p B H H2 ja ka t) (r':Rs p B H H2 jb kb u) (h:Lg p EX σ (c2 o t.dat u.dat) H Kc) (hQ:∀ b,Kc (.bl b)->Q (.bl b) H2):HU p o t.val u.val H2 Q:=by
 cases o with
 | lt =>
  obtain ⟨i,j,rfl,rfl,h⟩:=BK (Q:=fun r=>Lg p EX σ r H Kc) id h
  exact ⟨_,_,rfl,rfl,hQ _ h⟩
 | le =>
  obtain ⟨i,j,rfl,rfl,h⟩:=BK (Q:=fun r=>Lg p EX σ r H Kc) id h
  exact ⟨_,_,rfl,rfl,hQ _ h⟩
 | gt =>
  obtain ⟨i,j,rfl,rfl,h⟩:=BK (Q:=fun r=>Lg p EX σ r H Kc) id h
  exact ⟨_,_,rfl,rfl,hQ _ h⟩
 | ge =>
  obtain ⟨i,j,rfl,rfl,h⟩:=BK (Q:=fun r=>Lg p EX σ r H Kc) id h
  exact ⟨_,_,rfl,rfl,hQ _ h⟩
 | eq =>
  simp only [c2] at h
  obtain ⟨hc,h⟩:=h.guard
  rw [aah] at hc
  exact ⟨t,u,rfl,rfl,r.ok,r'.ok,hc.1,hc.2,hQ _ h⟩
 | ne =>
  simp only [c2] at h
  obtain ⟨hc,h⟩:=h.guard
  rw [aah] at hc
  exact ⟨t,u,rfl,rfl,r.ok,r'.ok,hc.1,hc.2,hQ _ h⟩
 | inn =>
  cases u <;> first | exact nE h | skip
  ·obtain ⟨s1,s2,h⟩:=Hy h
   exact ⟨t,_,_,rfl,rfl,.inr r'.ok.1,r'.ok.2,r.ok,s1,s2,hQ _ h⟩
  ·obtain ⟨s1,s2,h⟩:=Hy h
   exact ⟨t,_,_,rfl,rfl,.inl r'.ok.1,r'.ok.2,r.ok,s1,s2,hQ _ h⟩
 | nin =>
  cases u <;> first | exact nE h | skip
  ·obtain ⟨s1,s2,h⟩:=Hy h
   exact ⟨t,_,_,rfl,rfl,.inr r'.ok.1,r'.ok.2,r.ok,s1,s2,hQ _ h⟩
  ·obtain ⟨s1,s2,h⟩:=Hy h
   exact ⟨t,_,_,rfl,rfl,.inl r'.ok.1,r'.ok.2,r.ok,s1,s2,hQ _ h⟩
theorem KE.bl {B:Addr->Prop} {H H2:Hp} {j k:Nat} {Q:VK} {b:Bool} (s:Same H H2) (h:KE p B H j k Q (.bl b)):Q (.bl b) H2:=h (.bl b) H2 rfl (Rs.scal s rfl)
theorem QP {x y:E} {o:C2} {τ:Ft} {H:Hp} {Kc:D->Prop} {Q:VK} {j1 k1 j2 k2:Nat} (hF:Fok p tn τ H) (h1:jk tn x=some (j1,k1)) (h2:jk tn y=some (j2,k2))
  (h:Lg p EX (vτ τ) ((ev x (dτ τ)).bind fun a=>(ev y (dτ τ)).bind fun b=>c2 o a b) H Kc) (hQ:∀ b H2,Same H H2->Kc (.bl b)->Q (.bl b) H2):tOp (HU p o) (lE p EX tn x) (lE p EX tn y) (vτ τ) H Q:=by
 refine l1 hF h1 h fun d t H1 ht R h=>l2 hF R.same h2 h fun d' t' H2 ht' R' h=>?_
 subst ht ht'
 exact Kj (R.fwd R'.same) (R'.back R.same) h fun b hb=>hQ b H2 (R.same.trans R'.same) hb
theorem OC (hK:X.K=p.K) (hu:X.A.units + 64 < cLine) {a b:Expr} {x y:E} {o:C2} (ha:PE X a (lE p EX tn x)) (hb:PE X b (lE p EX tn y)) (hm:behindInMarks (A7 o) b=false):PE X (.Compare a [A7 o] [b] pos) (lE p EX tn (.cmp o x y)):=by
 refine PE.mono (Od (DQ hK hu o) ha hb hm) fun σ H Q h=>?_
 obtain ⟨τ,rfl,hF,j,k,hj,h⟩:=h
 simp only [jk] at hj
 obtain ⟨⟨j1,k1⟩,h1,hj⟩:=bS hj
 obtain ⟨⟨j2,k2⟩,h2,hj⟩:=bS hj
 simp only [ev] at h
 exact QP hF h1 h2 h fun b H2 s hb=>KE.bl s hb
theorem MR (hK:X.K=p.K) (hu:X.A.units + 64 < cLine) {a b:Expr} {x y:E} {o:C2} (ha:PE X a (lE p EX tn x)) (hb:PE X b (lE p EX tn y)) (hm:behindInMarks (A7 o) b=false):PT X (.Compare a [A7 o] [b] pos) (lT p EX tn (.cmp o x y)):=by
 refine PT.mono (Oe (DQ hK hu o) ha hb hm) fun σ H Q h=>?_
 obtain ⟨τ,rfl,hF,hj,h⟩:=h
 obtain ⟨q,hj⟩:=aaA.mp hj
 simp only [jk] at hj
 obtain ⟨⟨j1,k1⟩,h1,hj⟩:=bS hj
 obtain ⟨⟨j2,k2⟩,h2,hj⟩:=bS hj
 simp only [tv,ev] at h
 exact QP hF h1 h2 h.bind fun b H2 s hb=>⟨b,rfl,hb H2 s⟩
theorem Lx {x y z:E} {o o':C2} {τ:Ft} {H:Hp} {Kc:D->Prop} {Q:VK} {j1 k1 j2 k2 j3 k3:Nat} (hF:Fok p tn τ H) (h1:jk tn x=some (j1,k1)) (h2:jk tn y=some (j2,k2)) (h3:jk tn z=some (j3,k3))
  (h:Lg p EX (vτ τ) (ev (.chain o o' x y z) (dτ τ)) H Kc) (hQ:∀ b H2,Same H H2->Kc (.bl b)->Q (.bl b) H2):HG (HU p o) (HU p o') (lE p EX tn x) (lE p EX tn y) (lE p EX tn z) (vτ τ) H Q:=by
 simp only [ev] at h
 refine l1 hF h1 h fun d t H1 ht R h=>l2 hF R.same h2 h fun d' t' H2 ht' R' h=>?_
 subst ht ht'
 refine Kj (R.fwd R'.same) (R'.back R.same) h.bind fun b h=>⟨b,rfl,?_⟩
 have s2:=R.same.trans R'.same
 cases b with
 | false=>exact hQ false H2 s2 h
 | true =>
  refine l2 hF s2 h3 h fun d'' t'' H3 ht'' R'' h=>?_
  subst ht''
  exact Kj ((R'.back R.same).fwd R''.same) (R''.back s2) h fun b hb=>hQ b H3 (s2.trans R''.same) hb
theorem Ly (hK:X.K=p.K) (hu:X.A.units + 64 < cLine) {a b c:Expr} {x y z:E} {o o':C2} (ha:PE X a (lE p EX tn x)) (hb:PE X b (lE p EX tn y)) (hc:PE X c (lE p EX tn z)) (hm:lastMarks [A7 o,A7 o'] [b,c]=false):PE X (.Compare a [A7 o,A7 o'] [b,c] pos) (lE p EX tn (.chain o o' x y z)):=by
 refine PE.mono (Mw (DQ hK hu o) (DQ hK hu o') ha hb hc hm) fun σ H Q h=>?_
 obtain ⟨τ,rfl,hF,j,k,hj,h⟩:=h
 simp only [jk] at hj
 obtain ⟨⟨j1,k1⟩,h1,hj⟩:=bS hj
 obtain ⟨⟨j2,k2⟩,h2,hj⟩:=bS hj
 obtain ⟨⟨j3,k3⟩,h3,hj⟩:=bS hj
 exact Lx hF h1 h2 h3 h fun b H2 s hb=>KE.bl s hb
theorem Kk (hK:X.K=p.K) (hu:X.A.units + 64 < cLine) {a b c:Expr} {x y z:E} {o o':C2} (ha:PE X a (lE p EX tn x)) (hb:PE X b (lE p EX tn y)) (hc:PE X c (lE p EX tn z)) (hm:lastMarks [A7 o,A7 o'] [b,c]=false):PT X (.Compare a [A7 o,A7 o'] [b,c] pos) (lT p EX tn (.chain o o' x y z)):=by
 refine PT.mono (Mx (DQ hK hu o) (DQ hK hu o') ha hb hc hm) fun σ H Q h=>?_
 obtain ⟨τ,rfl,hF,hj,h⟩:=h
 obtain ⟨q,hj⟩:=aaA.mp hj
 simp only [jk] at hj
 obtain ⟨⟨j1,k1⟩,h1,hj⟩:=bS hj
 obtain ⟨⟨j2,k2⟩,h2,hj⟩:=bS hj
 obtain ⟨⟨j3,k3⟩,h3,hj⟩:=bS hj
 unfold tv at h
 exact Lx hF h1 h2 h3 h.bind fun b H2 s hb=>⟨b,rfl,hb H2 s⟩
theorem OD {t:T}:decide (t.val=V.non)=(match t.dat with | .non=>true | _=>false):=by
 cases t <;> rfl
theorem QQ {x:E} {n:Bool} {τ:Ft} {H:Hp} {Kc:D->Prop} {Q:VK} {j1 k1:Nat} (hF:Fok p tn τ H) (h1:jk tn x=some (j1,k1)) (h:Lg p EX (vτ τ) (ev (.isN n x) (dτ τ)) H Kc) (hQ:∀ b H2,Same H H2->Kc (.bl b)->Q (.bl b) H2) :
  lE p EX tn x (vτ τ) H fun v H1=>Q (.bl (if n then !decide (v=.non) else decide (v=.non))) H1:=by
 simp only [ev] at h
 refine l1 hF h1 h fun d t H1 ht R h=>?_
 subst ht
 refine hQ _ H1 R.same ?_
 have h:Kc (.bl (match t.dat with | .non=>!n | _=>n)):=h
 rw [OD]
 cases n <;> cases t <;> exact h
theorem OE {a:Expr} {x:E} {n:Bool} {j pos'} (ha:PE X a (lE p EX tn x)):PE X (.Compare a [if n then .IsNot else .Is] [.Constant .none j pos'] pos) (lE p EX tn (.isN n x)):=by
 have key:∀ σ H Q,lE p EX tn (.isN n x) σ H Q->lE p EX tn x σ H fun v H1=>Q (.bl (if n then !decide (v=.non) else decide (v=.non))) H1:=by
  intro σ H Q h
  obtain ⟨τ,rfl,hF,j,k,hj,h⟩:=h
  simp only [jk] at hj
  obtain ⟨⟨j1,k1⟩,h1,hj⟩:=bS hj
  exact QQ hF h1 h fun b H2 s hb=>KE.bl s hb
 cases n with
 | true=>exact PE.mono (KW (Jo ha)) fun σ H Q h=>key σ H Q h
 | false=>exact PE.mono (KW (KU ha)) fun σ H Q h=>key σ H Q h
theorem MS {a:Expr} {x:E} {n:Bool} {j pos'} (ha:PE X a (lE p EX tn x)):PT X (.Compare a [if n then .IsNot else .Is] [.Constant .none j pos'] pos) (lT p EX tn (.isN n x)):=by
 have key:∀ σ H Q,lT p EX tn (.isN n x) σ H Q->lE p EX tn x σ H fun v H1=>∃ c,V.bl (if n then !decide (v=.non) else decide (v=.non))=V.bl c/\Q c H1:=by
  intro σ H Q h
  obtain ⟨τ,rfl,hF,hj,h⟩:=h
  obtain ⟨q,hj⟩:=aaA.mp hj
  simp only [jk] at hj
  obtain ⟨⟨j1,k1⟩,h1,hj⟩:=bS hj
  unfold tv at h
  exact QQ (Q:=fun v H1=>∃ c,v=V.bl c/\Q c H1) hF h1 h.bind fun b H2 s hb=>⟨b,rfl,hb H2 s⟩
 cases n with
 | true=>exact PT.mono (KY (Jo ha)) fun σ H Q h=>key σ H Q h
 | false=>exact PT.mono (KY (KU ha)) fun σ H Q h=>key σ H Q h
end
section
variable {p:Px} {EX:EXT} {tn:List Nat} {X:Cx} {pos:Pos}
theorem OF {a:Expr} {x:E} (ha:PE X a (lE p EX tn x)):PE X (.UnaryOp .USub a pos) (lE p EX tn (.neg x)):=by
 refine PE.mono (RV Qp ha) fun σ H Q h=>?_
 obtain ⟨τ,rfl,hF,j,k,hj,h⟩:=h
 simp only [jk] at hj
 obtain ⟨⟨j1,k1⟩,h1,hj⟩:=bS hj
 simp only [ev] at h
 refine l1 hF h1 h fun d t H1 ht R h=>?_
 subst ht
 cases t <;> simp only [T.dat] at h
 all_goals first | exact nE h | exact ⟨_,rfl,h (.int _) H1 rfl (Rs.scal R.same rfl)⟩
theorem OG {a:Expr} {x:E} (ha:PE X a (lE p EX tn x)):PE X (.UnaryOp .Not a pos) (lE p EX tn (.not x)):=by
 refine PE.mono (Qa ha) fun σ H Q h=>?_
 obtain ⟨τ,rfl,hF,j,k,hj,h⟩:=h
 simp only [jk] at hj
 obtain ⟨⟨j1,k1⟩,h1,hj⟩:=bS hj
 simp only [ev] at h
 refine l1 hF h1 h fun d t H1 ht R h=>?_
 subst ht
 cases t <;> simp only [T.dat] at h
 all_goals first | exact nE h | exact ⟨_,rfl,h (.bl _) H1 rfl (Rs.scal R.same rfl)⟩
theorem MT {H:Hp} {t:T} {σ:St} {H0:Hp} {Kc:Bool->Prop} (hK:X.K=p.K) (ok:t.Ok p H) (h:Lg p EX σ (BA t.dat) H0 Kc):∃ b,My X.K t.val H b/\Kc b:=by
 cases t <;> simp only [T.dat,BA] at h
 ·exact ⟨false,rfl,h⟩
 ·exact ⟨_,rfl,h⟩
 ·exact ⟨_,rfl,h⟩
 ·exact nE h
 ·rename_i a ts
  refine ⟨_,.inr (.inl ⟨_,SqT.of ok.1,rfl⟩),?_⟩
  have h:Kc (!(T.dats ts).isEmpty):=h
  cases ts <;> exact h
 ·rename_i a ts
  refine ⟨_,.inl ⟨_,.inl ok.1,rfl⟩,?_⟩
  have h:Kc (!(T.dats ts).isEmpty):=h
  cases ts <;> exact h
 ·exact nE h
noncomputable def HW:Expr->Bool
 | .UnaryOp .Not _ _=>false
 | .BoolOp _ _ _=>false
 | .IfExp _ _ _ _=>false
 | .Compare _ _ _ _=>false
 | _=>true
theorem Lz {a:Expr} {env:Env} (h:HW a=true):∀ whole,isTrue a env whole=(do let v <- whole; standAt a.pos; holding [v] (truthy v)):=by
 intro whole
 cases a with
 | UnaryOp o x q=>cases o <;> first | rfl | cases h
 | BoolOp _ _ _=>cases h
 | IfExp _ _ _ _=>cases h
 | Compare _ _ _ _=>cases h
 | _=>rfl
theorem Kl (hK:X.K=p.K) {a:Expr} {x:E} (ha:PE X a (lE p EX tn x)) (hp:HW a=true):PT X a (lT p EX tn x):=by
 refine PT.mono (Mz ha (Lz hp)) fun σ H Q h=>?_
 obtain ⟨τ,rfl,hF,hj,h⟩:=h
 obtain ⟨⟨j,k⟩,hj⟩:=aaA.mp hj
 refine l1 hF hj h fun d t H1 ht R h=>?_
 subst ht
 obtain ⟨b,tb,hb⟩:=MT (X:=X) hK R.ok h
 exact ⟨b,tb,hb H1 R.same⟩
theorem MU {a:Expr} {x:E} (ha:PT X a (lT p EX tn x)):PT X (.UnaryOp .Not a pos) (lT p EX tn (.not x)):=by
 refine PT.mono (KZ ha) fun σ H Q h=>?_
 obtain ⟨τ,rfl,hF,hj,h⟩:=h
 obtain ⟨q,hj⟩:=aaA.mp hj
 simp only [jk] at hj
 obtain ⟨⟨j1,k1⟩,h1,hj⟩:=bS hj
 refine ⟨τ,rfl,hF,by rw [h1]; rfl,?_⟩
 unfold tv at h ⊢
 simp only [ev] at h
 cases q:ev x (dτ τ) with
 | ok d =>
  rw [q] at h
  simp only [Res.bind_ok] at h ⊢
  cases d <;> simp only [Res.bind_bad] at h
  all_goals first | exact nE h | exact h
 | exc c=>rw [q] at h; exact h
 | bad=>rw [q] at h; exact h
theorem QR {a:Expr} {x:E} {k0:Bool} (ha:PE X a (lE p EX tn x)):PE X (.BoolOp (if k0 then .And else .Or) [a] pos) (lE p EX tn (.bo k0 (.cons x .nil))):=by
 refine PE.mono (P8 ha) fun σ H Q h=>?_
 obtain ⟨τ,rfl,hF,j,k,hj,h⟩:=h
 simp only [jk,jks] at hj
 obtain ⟨⟨j1,k1⟩,h1,hj⟩:=bS hj
 simp only [ev,evBo] at h
 have hj:=Option.some.inj hj
 refine ⟨τ,rfl,hF,j1,k1,h1,h.mono (Same.refl _) fun d _ hd t H' ht R=>hd t H' ht (R.le ?_ ?_)⟩
 ·simp at hj; omega
 ·simp at hj
  obtain ⟨h1,h2⟩:=hj
  rw [<- h2]
  split
  ·exact aaO ..
  ·exact aay _
theorem OH {a b:Expr} {rest:List Expr} {x y:E} {r:Es} {k0:Bool} (ha:PE X a (lE p EX tn x)) (hb:PE X (.BoolOp (if k0 then .And else .Or) (b :: rest) pos) (lE p EX tn (.bo k0 (.cons y r)))) :
  PE X (.BoolOp (if k0 then .And else .Or) (a :: b :: rest) pos) (lE p EX tn (.bo k0 (.cons x (.cons y r)))):=by
 have key:∀ σ H Q,lE p EX tn (.bo k0 (.cons x (.cons y r))) σ H Q->lE p EX tn x σ H fun v H1=>∃ c,v=.bl c/\if c=k0 then lE p EX tn (.bo k0 (.cons y r)) σ H1 Q else Q (.bl c) H1:=by
  intro σ H Q h
  obtain ⟨τ,rfl,hF,j,k,hj,h⟩:=h
  simp only [jk,jks] at hj
  obtain ⟨⟨j1,k1⟩,h1,hj⟩:=bS hj
  obtain ⟨⟨j2,k2⟩,h2,hj⟩:=bS hj
  have hj:=Option.some.inj hj
  simp only [Prod.mk.injEq] at hj
  simp only [ev,evBo] at h
  refine l1 hF h1 h fun d t H1 ht R h=>?_
  subst ht
  cases t <;> simp only [T.dat] at h
  all_goals first | exact nE h | skip
  rename_i c
  refine ⟨c,rfl,?_⟩
  by_cases z:c=k0
  ·rw [if_pos z] at h ⊢
   refine ⟨τ,rfl,hF.same R.same,j2,k2,by simp only [jk,jks]; exact h2,?_⟩
   simp only [ev]
   refine h.mono R.same fun d _ hd t H' ht R'=>hd t H' ht ((R'.back R.same).le (by omega) ?_)
   rw [<- hj.2]
   split
   ·exact aaY ..
   ·exact aay _
  ·rw [if_neg z] at h ⊢
   exact h (.bl c) H1 rfl (Rs.scal R.same rfl)
 cases k0 with
 | true =>
  refine PE.mono (P9 ha hb) fun σ H Q h=>?_
  refine (show ∀ (A B:VK),(∀ v H,A v H->B v H)->lE p EX tn x σ H A->lE p EX tn x σ H B from ?_) _ _ ?_ (key σ H Q h)
  ·rintro A B m ⟨τ,e,hF,j,k,hj,h⟩
   exact ⟨τ,e,hF,j,k,hj,h.mono (Same.refl _) fun d _ hd t H' ht R=>m _ _ (hd t H' ht R)⟩
  ·rintro v H1 ⟨c,rfl,h⟩
   exact ⟨c,rfl,by cases c <;> simpa using h⟩
 | false =>
  refine PE.mono (RQ ha hb) fun σ H Q h=>?_
  refine (show ∀ (A B:VK),(∀ v H,A v H->B v H)->lE p EX tn x σ H A->lE p EX tn x σ H B from ?_) _ _ ?_ (key σ H Q h)
  ·rintro A B m ⟨τ,e,hF,j,k,hj,h⟩
   exact ⟨τ,e,hF,j,k,hj,h.mono (Same.refl _) fun d _ hd t H' ht R=>m _ _ (hd t H' ht R)⟩
  ·rintro v H1 ⟨c,rfl,h⟩
   exact ⟨c,rfl,by cases c <;> simpa using h⟩
theorem OI {a:Expr} {x:E} {k0:Bool} (ha:PT X a (lT p EX tn x)):PW X (.BoolOp (if k0 then .And else .Or) [a] pos) (lT p EX tn (.bo k0 (.cons x .nil))):=by
 have key:∀ σ H Q,lT p EX tn (.bo k0 (.cons x .nil)) σ H Q->lT p EX tn x σ H Q:=by
  rintro σ H Q ⟨τ,rfl,hF,hj,h⟩
  refine ⟨τ,rfl,hF,?_,by simpa only [tv,ev,evBo] using h⟩
  obtain ⟨q,hj⟩:=aaA.mp hj
  simp only [jk,jks] at hj
  obtain ⟨⟨j1,k1⟩,h1,hj⟩:=bS hj
  rw [h1]; rfl
 cases k0 with
 | true=>exact fun wh pins s σ H Q I h=>Ob ha wh pins s σ H Q I (key σ H Q h)
 | false=>exact fun wh pins s σ H Q I h=>P6 ha wh pins s σ H Q I (key σ H Q h)
theorem MV {a b:Expr} {rest:List Expr} {x y:E} {r:Es} {k0:Bool} (ha:PT X a (lT p EX tn x)) (hb:PW X (.BoolOp (if k0 then .And else .Or) (b :: rest) pos) (lT p EX tn (.bo k0 (.cons y r)))) :
  PW X (.BoolOp (if k0 then .And else .Or) (a :: b :: rest) pos) (lT p EX tn (.bo k0 (.cons x (.cons y r)))):=by
 have key:∀ σ H Q,lT p EX tn (.bo k0 (.cons x (.cons y r))) σ H Q->lT p EX tn x σ H fun c H1=>if c=k0 then lT p EX tn (.bo k0 (.cons y r)) σ H1 Q else Q c H1:=by
  rintro σ H Q ⟨τ,rfl,hF,hj,h⟩
  obtain ⟨q,hj⟩:=aaA.mp hj
  simp only [jk,jks] at hj
  obtain ⟨⟨j1,k1⟩,h1,hj⟩:=bS hj
  obtain ⟨⟨j2,k2⟩,h2,hj⟩:=bS hj
  refine ⟨τ,rfl,hF,by rw [h1]; rfl,?_⟩
  simp only [tv,ev,evBo] at h ⊢
  cases q:ev x (dτ τ) with
  | ok d =>
   rw [q] at h
   simp only [Res.bind_ok] at h ⊢
   cases d <;> simp only [Res.bind_bad] at h
   all_goals first | exact nE h | skip
   rename_i c
   show ∀ H',Same H H'->if c=k0 then _ else _
   intro H' s
   by_cases z:c=k0
   ·rw [if_pos z] at h ⊢
    refine ⟨τ,rfl,hF.same s,by simp only [jk,jks]; rw [h2]; rfl,?_⟩
    simp only [tv,ev]
    exact h.mono s fun b _ hb H2 s2=>hb H2 (s.trans s2)
   ·rw [if_neg z] at h ⊢
    exact h H' s
  | exc c=>rw [q] at h; exact h
  | bad=>rw [q] at h; exact h
 have mon:∀ (σ:St) (H:Hp) (A B:Bool->Hp->Prop),(∀ v H,A v H->B v H)->lT p EX tn x σ H A->lT p EX tn x σ H B:=by
  rintro σ H A B m ⟨τ,e,hF,hj,h⟩
  exact ⟨τ,e,hF,hj,h.mono (Same.refl _) fun b _ hb H' s=>m _ _ (hb H' s)⟩
 cases k0 with
 | true=>exact fun wh pins s σ H Q I h=>P7 ha hb wh pins s σ H Q I (mon _ _ _ _ (fun c H1 h=>by cases c <;> simpa using h) (key σ H Q h))
 | false=>exact fun wh pins s σ H Q I h=>RM ha hb wh pins s σ H Q I (mon _ _ _ _ (fun c H1 h=>by cases c <;> simpa using h) (key σ H Q h))
end
section
variable {p:Px} {EX:EXT} {tn:List Nat} {X:Cx} {pos:Pos}
theorem HX (n:Nat) (i:Int):L2.ixN n i=ixN n i:=rfl
theorem Gw {ts:List T} {i:Int} {σ:St} {H:Hp} {Kc:D->Prop} (h:Lg p EX σ (atD (T.dats ts) i) H Kc):∃ t ∈ ts,atI (ts.map T.val) i=some t.val/\Kc t.dat:=by
 unfold atD at h
 rw [Ag] at h
 cases q:ixN ts.length i with
 | none=>rw [q] at h; exact nE h
 | some j =>
  rw [q] at h
  simp only [aaH] at h
  rw [T.dats_map,aaj] at h
  cases e:ts[j]? with
  | none=>rw [e] at h; exact nE h
  | some t =>
   rw [e] at h
   refine ⟨t,aae e,?_,h⟩
   unfold atI
   rw [aab,HX,q]
   show (ts.map T.val)[j]?=_
   rw [aaj,e]; rfl
theorem Rs.sub {B:Addr->Prop} {H H1:Hp} {j k j':Nat} {t u:T} (r:Rs p B H H1 j k t) (ok:u.Ok p H1) (h:∀ a ∈ u.rest j',a ∈ t.rest j):Rs p B H H1 j' 0 u :=
 ⟨r.same,ok,fun a m=>r.src a (h a m),by rw [T.adr_zero]; simp,T.nd_zero u⟩
noncomputable def AF:Expr->Bool
 | .Slice _ _ _ _=>false
 | _=>true
theorem Dl {b:Expr} (h:AF b=true):Jt b:=by
 intro o i
 cases b <;> first | rfl | cases h
theorem QS (hK:X.K=p.K):IxR X (fun x y H Q=>Qx X.K x y H Q\/Qy X.K x y H Q):=Fs.or HJ
theorem LA (hK:X.K=p.K) {a b:Expr} {x y:E} (ha:PE X a (lE p EX tn x)) (hb:PE X b (lE p EX tn y)) (hp:AF b=true):PE X (.Subscript a b pos) (lE p EX tn (.ix x y)):=by
 refine PE.mono (Gn (QS hK) ha hb (Dl hp)) fun σ H Q h=>?_
 obtain ⟨τ,rfl,hF,j,k,hj,h⟩:=h
 simp only [jk] at hj
 obtain ⟨⟨j1,k1⟩,h1,hj⟩:=bS hj
 obtain ⟨⟨j2,k2⟩,h2,hj⟩:=bS hj
 obtain ⟨hc,e⟩:=CJ hj
 cases e
 have hc:=of_decide_eq_true hc
 subst hc
 simp only [ev] at h
 refine l1 hF h1 h fun d t H1 ht R h=>l2 hF R.same h2 h fun d' t' H2 ht' R' h=>?_
 subst ht ht'
 have R:=R.fwd R'.same
 cases t <;> cases t' <;> simp only [T.dat,ixD] at h
 all_goals first | exact nE h | skip
 ·obtain ⟨u,hu,e,h⟩:=Gw h
  exact .inr ⟨_,_,_,_,rfl,rfl,SqT.of R.ok.1,e,h u H2 rfl (R.sub (T.oks_iff.mp R.ok.2 u hu) fun b m=>T.mem_rests.mpr ⟨u,hu,m⟩)⟩
 ·obtain ⟨u,hu,e,h⟩:=Gw h
  exact .inl ⟨_,_,_,_,rfl,rfl,.inl R.ok.1,e,h u H2 rfl (R.sub (T.oks_iff.mp R.ok.2 u hu) fun b m=>aaa _ (T.mem_rests.mpr ⟨u,hu,m⟩))⟩
theorem OJ {a b:Expr} {x y:E} (ha:PE X a (lE p EX tn x)) (hb:PE X b (lE p EX tn y)) (hp:AF b=true):PE X (.Subscript a b pos) (lE p EX tn (.ixL x y)):=by
 refine PE.mono (Gn Fs ha hb (Dl hp)) fun σ H Q h=>?_
 obtain ⟨τ,rfl,hF,j,k,hj,h⟩:=h
 simp only [jk] at hj
 obtain ⟨⟨j1,k1⟩,h1,hj⟩:=bS hj
 obtain ⟨⟨j2,k2⟩,h2,hj⟩:=bS hj
 have hj:=Option.some.inj hj
 simp only [Prod.mk.injEq] at hj
 obtain ⟨rfl,rfl⟩:=hj
 simp only [ev] at h
 refine l1 hF h1 h fun d t H1 ht R h=>l2 hF R.same h2 h fun d' t' H2 ht' R' h=>?_
 subst ht ht'
 have R:=R.fwd R'.same
 cases t <;> cases t' <;> simp only [T.dat,CU] at h
 all_goals first | exact nE h | skip
 obtain ⟨u,hu,e,h⟩:=Gw h
 refine ⟨_,_,_,_,rfl,rfl,.inl R.ok.1,e,h u H2 rfl (R.sub (T.oks_iff.mp R.ok.2 u hu) fun b m=>?_)⟩
 cases j1 with
 | zero=>exact aaa _ (T.mem_rests.mpr ⟨u,hu,m⟩)
 | succ j1=>exact T.mem_rests.mpr ⟨u,hu,m⟩
theorem JC {a b:Expr} {x y:E} (ha:PE X a (lE p EX tn x)) (hb:PE X b (lE p EX tn y)) (hp:AF b=true):PE X (.Subscript a b pos) (lE p EX tn (.ixT x y)):=by
 refine PE.mono (Gn HJ ha hb (Dl hp)) fun σ H Q h=>?_
 obtain ⟨τ,rfl,hF,j,k,hj,h⟩:=h
 simp only [jk] at hj
 obtain ⟨⟨j1,k1⟩,h1,hj⟩:=bS hj
 obtain ⟨⟨j2,k2⟩,h2,hj⟩:=bS hj
 have hj:=Option.some.inj hj
 simp only [Prod.mk.injEq] at hj
 obtain ⟨rfl,rfl⟩:=hj
 simp only [ev] at h
 refine l1 hF h1 h fun d t H1 ht R h=>l2 hF R.same h2 h fun d' t' H2 ht' R' h=>?_
 subst ht ht'
 have R:=R.fwd R'.same
 cases t <;> cases t' <;> simp only [T.dat,Dv] at h
 all_goals first | exact nE h | skip
 obtain ⟨u,hu,e,h⟩:=Gw h
 exact ⟨_,_,_,_,rfl,rfl,SqT.of R.ok.1,e,h u H2 rfl (R.sub (T.oks_iff.mp R.ok.2 u hu) fun b m=>T.mem_rests.mpr ⟨u,hu,m⟩)⟩
theorem JD {k:Nat} {u:T}:∀ {ts:List T},T.Nds ts k->u ∈ ts->u.Nd k
 | [],_,h=>nomatch h
 | t :: r,n,h=>by
  obtain ⟨n1,n2,_,_⟩:=T.nds_cons.mp n
  rcases aal.mp h with rfl | h
  ·exact n1
  ·exact JD n2 h
theorem OK {a b:Expr} {x y:E} (ha:PE X a (lE p EX tn x)) (hb:PE X b (lE p EX tn y)) (hp:AF b=true):PE X (.Subscript a b pos) (lE p EX tn (.ixG x y)):=by
 refine PE.mono (Gn Fs ha hb (Dl hp)) fun σ H Q h=>?_
 obtain ⟨τ,rfl,hF,j,k,hj,h⟩:=h
 simp only [jk] at hj
 obtain ⟨⟨j1,k1⟩,h1,hj⟩:=bS hj
 obtain ⟨⟨j2,k2⟩,h2,hj⟩:=bS hj
 obtain ⟨hc,e⟩:=CJ hj
 cases e
 have hc:=of_decide_eq_true hc
 subst hc
 simp only [ev] at h
 refine l1 hF h1 h fun d t H1 ht R h=>l2 hF R.same h2 h fun d' t' H2 ht' R' h=>?_
 subst ht ht'
 have R:=R.fwd R'.same
 cases t <;> cases t' <;> simp only [T.dat,CU] at h
 all_goals first | exact nE h | skip
 obtain ⟨u,hu,e,h⟩:=Gw h
 refine ⟨_,_,_,_,rfl,rfl,.inl R.ok.1,e,h u H2 rfl ⟨R.same,T.oks_iff.mp R.ok.2 u hu,fun b m=>R.src b (aaa _ (T.mem_rests.mpr ⟨u,hu,m⟩)),fun b m=>?_,?_⟩⟩
 ·cases k1 with
  | zero=>rw [T.adr_zero] at m; cases m
  | succ k1=>exact R.new b (aaa _ (T.mem_adrs.mpr ⟨u,hu,m⟩))
 ·cases k1 with
  | zero=>exact T.nd_zero u
  | succ k1 =>
   have n:=R.nd
   exact JD ⟨(aaE.mp n.1).2,fun b m q=>n.2 b m (aaa _ q)⟩ hu
theorem Gx (n d:Nat) (o:Option Int):HT.sIx n d o=sIx n d o:=by
 cases o with
 | none=>rfl
 | some v=>exact Int.ofNat_inj.mp (by rw [<- HT.clip_eq v n d]; unfold sIx; simp only; split <;> omega)
theorem JE {α β:Type} (f:α->β) (xs:List α) (lo hi:Option Int):(cut xs lo hi).map f=cut (xs.map f) lo hi:=by
 unfold cut; rw [ab9,aca,aab]
theorem JF (ts:List T) (lo hi:Option Int):EY (ts.map T.val) lo hi=(cut ts lo hi).map T.val:=by
 unfold EY cut
 rw [ab9,aca,aab,Gx,Gx]
theorem Fy {α:Type} {xs:List α} {lo hi:Option Int} {x:α} (h:x ∈ cut xs lo hi):x ∈ xs:=aco (acp h)
noncomputable def lO (p:Px) (EX:EXT) (tn:List Nat) (e:E):TO:=fun σ H Q=>∃ τ,σ=vτ τ/\Fok p tn τ H/\(jk tn e).isSome=true/\Lg p EX σ (BW e.isCN (ev e (dτ τ))) H fun o=>∀ H',Same H H'->Q o H'
theorem Hk:PO X none (lO p EX tn .cN):=by
 intro pins s σ H Q I h
 obtain ⟨τ,rfl,hF,hj,h⟩:=h
 exact Oh pins s _ H Q I (h H (Same.refl _))
theorem Hl {e:Expr} {x:E} (he:PE X e (lE p EX tn x)) (hx:x.isCN=false):PO X (some e) (lO p EX tn x):=by
 intro pins s σ H Q I h
 obtain ⟨τ,rfl,hF,hj,h⟩:=h
 obtain ⟨⟨j,k⟩,hj⟩:=aaA.mp hj
 unfold BW at h
 rw [hx,if_neg (by decide)] at h
 refine Oi he pins s _ H Q I (l1 hF hj h fun d t H1 ht R h=>?_)
 subst ht
 cases t <;> simp only [T.dat,CD] at h
 all_goals first | exact nE h | exact ⟨_,rfl,h H1 R.same⟩
theorem JG:∀ {ts:List T},(T.dats ts).all D.scal=true->∀ t ∈ ts,t.sc=true
 | [],_,t,h=>nomatch h
 | u :: r,h,t,ht=>by
  simp only [T.dats,aaR,aah] at h
  rcases aal.mp ht with rfl | ht
  ·cases t <;> first | rfl | cases h.1
  ·exact JG h.2 t ht
theorem OL {t:T} {j:Nat} (h:t.sc=true):t.rest j=[]:=by cases t <;> first | rfl | cases h
theorem QT {t:T} {j:Nat} (h:t.sc=true):t.adr j=[]:=by cases t <;> first | rfl | cases h
theorem HY {ts:List T} {j:Nat} (h:∀ t ∈ ts,t.sc=true):T.rests ts j=[]:=by
 refine aaW.mpr fun b hb=>?_
 obtain ⟨t,ht,q⟩:=T.mem_rests.mp hb
 rw [OL (h t ht)] at q; cases q
theorem JH {ts:List T} {j:Nat} (h:∀ t ∈ ts,t.sc=true):T.adrs ts j=[]:=by
 refine aaW.mpr fun b hb=>?_
 obtain ⟨t,ht,q⟩:=T.mem_adrs.mp hb
 rw [QT (h t ht)] at q; cases q
theorem MW {B:Addr->Prop} {H H1:Hp} {j k:Nat} {a:Addr} {ts:List T} (s:Same H H1) (ok:(T.tup a ts).Ok p H1) (h:∀ t ∈ ts,t.sc=true):Rs p B H H1 j k (.tup a ts) :=
 ⟨s,ok,by simp only [T.rest]; rw [HY h]; simp,by simp only [T.adr]; rw [JH h]; simp,by unfold T.Nd; simp only [T.adr,T.rest]; rw [HY h,JH h]; simp⟩
theorem OM {a:Expr} {lo hi:Option Expr} {p2:Pos} {x y z:E} (ha:PE X a (lE p EX tn x)) (hl:PO X lo (lO p EX tn y)) (hh:PO X hi (lO p EX tn z)):PE X (.Subscript a (.Slice lo hi none p2) pos) (lE p EX tn (.slc x y z)):=by
 refine PE.mono (MB (Oj.or Qw) ha hl hh) fun σ H Q h=>?_
 obtain ⟨τ,rfl,hF,j,k,hj,h⟩:=h
 simp only [jk] at hj
 obtain ⟨⟨j1,k1⟩,h1,hj⟩:=bS hj
 obtain ⟨q2,h2,hj⟩:=bS hj
 obtain ⟨q3,h3,hj⟩:=bS hj
 obtain ⟨hc,e⟩:=CJ hj
 cases e
 have hc:=of_decide_eq_true hc
 simp only [ev] at h
 refine l1 hF h1 h fun d t H1 ht R h=>?_
 subst ht
 refine ⟨τ,rfl,hF.same R.same,by rw [h2]; rfl,h.bind.mono R.same fun l _ h H2 s2=>?_⟩
 refine ⟨τ,rfl,hF.same (R.same.trans s2),by rw [h3]; rfl,h.bind.mono (R.same.trans s2) fun u _ h H3 s3=>?_⟩
 have R:=R.fwd (s2.trans s3)
 cases t with
 | tup b ts =>
  simp only [T.dat,Dw] at h
  obtain ⟨⟨g1,g2⟩,h⟩:=h.guard
  refine .inr ⟨b,_,rfl,SqT.of R.ok.1,?_,fun q hq=>?_⟩
  ·rw [aab,Gx,Gx,<- Ag]; exact g2
  ·rw [JF]
   have sn:=Same.new (o:=.tup ((cut ts l u).map T.val)) hq
   refine h (.tup q (cut ts l u)) _ (by simp only [T.dat,T.dats_map,JE]) (MW (R.same.trans sn) ⟨AJ,T.oks_iff.mpr fun w hw=>((T.oks_iff.mp R.ok.2 w (Fy hw))).same sn⟩ fun w hw=>JG g1 w (Fy hw))
 | lst b ts =>
  simp only [T.dat,Dw] at h
  refine .inl ⟨b,_,rfl,.inl R.ok.1,fun q hq=>?_⟩
  rw [JF]
  refine h (.lst q (cut ts l u)) _ (by simp only [T.dat,T.dats_map,JE]) (E0 R.same (T.oks_iff.mpr fun w hw=>T.oks_iff.mp R.ok.2 w (Fy hw)) (fun c m=>?_) hq)
  obtain ⟨w,hw,m⟩:=T.mem_rests.mp m
  exact R.elems hc c (T.mem_rests.mpr ⟨w,Fy hw,m⟩)
 | _=>exact nE h
end
noncomputable def spF (p:Px) (F:Fn):Sp:=fun vs H Q E=>∃ ts:List T,vs=ts.map T.val/\T.Oks p H ts/\ts.length=F.ar/\match F.den (T.dats ts) with
 | .ok d=>∀ t H',t.dat=d->Rs p (fun a=>a ∈ T.rests ts 0) H H' 0 F.dep t->Q t.val H'
 | .exc c=>p.has c=true->∀ H',Same H H'->E (.ref (p.cl c)) none H'
 | .bad=>False
noncomputable def Km (p:Px) (X:Cx) (F:Fn):Prop:=∃ ps:List Str,ps.length=F.ar/\Has X.prog X.w X.K X.mg X.base F.name F.lv ps (spF p F)
noncomputable def spM (p:Px) (F:Fn):Sp:=fun vs H Q _=>∃ (t:T) (ts:List T),vs=t.val :: ts.map T.val/\t.Ok p H/\T.Oks p H ts/\ts.length + 1=F.ar/\t.Nd 2/\(∀ b ∈ t.adr 2,(∃ ws,H b=some (.lst ws))/\b ∉ T.rests ts 0)/\∃ d,F.den (t.dat :: T.dats ts)=.ok d /\
 ∀ (t':T) (H':Hp),t'.dat=d->t'.val=t.val->t'.Ok p H'->t'.Nd 2->(∀ b u,H b=some u->b ∉ t.adr 2->H' b=some u)->(∀ b ∈ t'.adr 2,(b ∈ t.adr 2\/H b=none)/\∃ ws,H' b=some (.lst ws))->Q .non H'
noncomputable def QU (p:Px) (X:Cx) (F:Fn):Prop:=∃ ps:List Str,ps.length=F.ar/\Has X.prog X.w X.K X.mg X.base F.name F.lv ps (spM p F)
noncomputable def spN (p:Px) (F:Fn):Sp:=fun vs H Q _=>∃ (ts:List T) (a:Addr) (us:List T),vs=ts.map T.val/\T.Oks p H ts/\ts.length=F.ar/\ts[F.dep - 1000]?=some (.lst a us)/\(∀ (i:Nat) (u:T),i ≠ F.dep - 1000->ts[i]?=some u->a ∉ u.rest 0)/\a ∉ T.rests us 0/\(∃ ws,H a=some (.lst ws)) /\
 ∃ (b:Bool) (ds:List D),F.den (T.dats ts)=.ok (.tup [.bl b,.lst ds])/\∀ (us':List T) (H':Hp),T.dats us'=ds->(T.lst a us').Ok p H'->(∃ ws,H' a=some (.lst ws))->(∀ c u,H c=some u->c ≠ a->H' c=some u)->Q (.bl b) H'
noncomputable def QV (p:Px) (X:Cx) (F:Fn):Prop:=∃ ps:List Str,ps.length=F.ar/\Has X.prog X.w X.K X.mg X.base F.name F.lv ps (spN p F)
theorem Dm:∀ (m:Nat) (t:T) (k:Nat),t.dat.flat m k=true->t.rest k=[]
 | 0,t,k,h=>by simp [D.flat] at h
 | m + 1,t,k,h=>by
  cases t with
  | tup a ts =>
   simp only [T.dat,D.flat] at h
   simp only [T.rest]
   refine aaW.mpr fun b hb=>?_
   obtain ⟨t,ht,q⟩:=T.mem_rests.mp hb
   rw [Dm m t k (EG h t ht)] at q; cases q
  | lst a ts =>
   cases k with
   | zero=>simp [T.dat,D.flat] at h
   | succ k =>
    simp only [T.dat,D.flat] at h
    simp only [T.rest]
    refine aaW.mpr fun b hb=>?_
    obtain ⟨t,ht,q⟩:=T.mem_rests.mp hb
    rw [Dm m t k (EG h t ht)] at q; cases q
  | _=>rfl
noncomputable def Ah:Expr->Bool
 | .Starred _ _=>false
 | _=>true
theorem Ai {e:Expr} {es:List Expr} {env:Env} (h:Ah e=true):starEach (e :: es) env=(false,eval e env) :: starEach es env:=by
 cases e <;> first | rfl | cases h
theorem AR {pos:Pos} {env:Env}:∀ {es:List Expr},es.all Ah=true->(backTo pos (starEach es env)).any (·.1)=false
 | [],_=>rfl
 | e :: es,h=>by
  rw [aaR,aah] at h
  rw [Ai h.1]
  have ih:=AR (pos:=pos) (env:=env) h.2
  unfold backTo at ih ⊢
  rw [aa7,ab8,ih]; rfl
section
variable {p:Px} {EX:EXT} {tn:List Nat} {X:Cx} {pos np:Pos}
theorem MX {F:Fn} {e:Expr} {es:List Expr} {x:E} {xs:Es} (hx:DX (CXe X.prog X.w) X EX) (hF:Km p X F) (hr:Room F.lv X.A) (hg:Gl X F.name) (hdb:(F.name==("__debug__" : Str))=false) (ha:PA X (e :: es) (lEs p EX tn (.cons x xs))) (hst:(e :: es).all Ah=true) (hl:(Es.cons x xs).len=F.ar) :
  PE X (.Call (.Name F.name np) (e :: es) [] pos) (lE p EX tn (.call F (.cons x xs))):=by
 obtain ⟨ps,hps,hF⟩:=hF
 rw [aaR,aah] at hst
 refine PE.mono (Kf hF hr hg hx ha hdb (Ai hst.1) (AR hst.2)) fun σ H Q h=>?_
 obtain ⟨τ,rfl,hFr,j,k,hj,h⟩:=h
 simp only [jk] at hj
 obtain ⟨⟨j1,k1⟩,h1,hj⟩:=bS hj
 obtain ⟨hc,e⟩:=CJ hj
 cases e
 have hc:j1=0:=of_decide_eq_true hc
 subst hc
 simp only [ev] at h
 refine ⟨τ,rfl,hFr,0,k1,h1,h.bind.mono (Same.refl _) fun ds e hd ts H1 hts R=>?_⟩
 show spF p F (ts.map T.val ++ []) H1 Q (EX (vτ τ))
 rw [aaN]
 refine ⟨ts,rfl,R.ok,?_,?_⟩
 ·rw [<- Ag,hts,BB _ _ _ e,hl]
 ·rw [hts]
  cases q:F.den ds with
  | ok d =>
   rw [q] at hd
   intro t H' ht R'
   refine hd t H' ht ⟨R.same.trans R'.same,R'.ok,fun a m=>?_,fun a m=>⟨R.same.free (R'.new a m).1,(R'.new a m).2⟩,R'.nd⟩
   rcases R'.src a m with z | z
   ·exact .inl (R.same.free z)
   ·exact R.src a z
  | exc c =>
   rw [q] at hd
   exact fun hc H' s=>hd hc H' (R.same.trans s)
  | bad=>rw [q] at hd; exact hd
theorem T.adr_rest:∀ (t:T) {d K:Nat},t.rest d=[]->d<=K->t.adr K=t.adr d:=by
 have lists:∀ (ts:List T),(∀ t ∈ ts,∀ {d K:Nat},t.rest d=[]->d<=K->t.adr K=t.adr d)->∀ {d K:Nat},T.rests ts d=[]->d<=K->T.adrs ts K=T.adrs ts d:=by
  intro ts
  induction ts with
  | nil=>intro _ d K _ _; rfl
  | cons t r ih =>
   intro h d K hr hk
   simp only [T.rests,List.append_eq_nil_iff] at hr
   show t.adr K ++ T.adrs r K=t.adr d ++ T.adrs r d
   rw [h t (aac ..) hr.1 hk,ih (fun u hu=>h u (aaa _ hu)) hr.2 hk]
 refine T.ind (by intros; rfl) (by intros; rfl) (by intros; rfl) (by intros; rfl) (fun a ts ih d K h hk=>?_) (fun a ts ih d K h hk=>?_) (by intros; rfl)
 ·exact lists ts ih h hk
 ·cases d with
  | zero=>cases h
  | succ d =>
   cases K with
   | zero=>omega
   | succ K=>exact congrArg (a :: ·) (lists ts ih h (abW hk))
theorem LB {F:Fn} {e:Expr} {es:List Expr} {x:E} {xs:Es} (hx:DX (CXe X.prog X.w) X EX) (hF:Km p X F) (hr:Room F.lv X.A) (hg:Gl X F.name) (hdb:(F.name==("__debug__" : Str))=false) (ha:PA X (e :: es) (lEs p EX tn (.cons x xs))) (hst:(e :: es).all Ah=true) (hl:(Es.cons x xs).len=F.ar) :
  PE X (.Call (.Name F.name np) (e :: es) [] pos) (lE p EX tn (.callB F (.cons x xs))):=by
 obtain ⟨ps,hps,hF⟩:=hF
 rw [aaR,aah] at hst
 refine PE.mono (Kf hF hr hg hx ha hdb (Ai hst.1) (AR hst.2)) fun σ H Q h=>?_
 obtain ⟨τ,rfl,hFr,j,k,hj,h⟩:=h
 simp only [jk] at hj
 obtain ⟨⟨j1,k1⟩,h1,hj⟩:=bS hj
 have hj:=Option.some.inj hj
 simp only [Prod.mk.injEq] at hj
 obtain ⟨rfl,rfl⟩:=hj
 simp only [ev] at h
 refine ⟨τ,rfl,hFr,j1,k1,h1,h.bind.mono (Same.refl _) fun ds e hd ts H1 hts R=>?_⟩
 show spF p F (ts.map T.val ++ []) H1 Q (EX (vτ τ))
 rw [aaN]
 refine ⟨ts,rfl,R.ok,?_,?_⟩
 ·rw [<- Ag,hts,BB _ _ _ e,hl]
 ·rw [hts]
  cases q:F.den ds with
  | ok d =>
   rw [q] at hd
   obtain ⟨hf,hd⟩:=Lg.guard hd
   intro t H' ht R'
   subst ht
   have r0:=Dm 9 t F.dep hf
   have up:∀ a,a ∈ t.rest 0->a ∈ t.adr F.dep:=fun a m=>by
    rcases (T.all_iff t F.dep).mp m with z | z
    ·exact z
    ·rw [r0] at z; cases z
   refine hd t H' rfl ⟨R.same.trans R'.same,R'.ok,fun a m=>.inl (R.same.free (R'.new a (up a m)).1),fun a m=>?_,?_⟩
   ·have:=R'.new a (up a ((T.all_iff t 9).mpr (.inl m)))
    exact ⟨R.same.free this.1,this.2⟩
   ·by_cases c9:9<=F.dep
    ·exact T.nd_le t c9 R'.nd
    ·have e9:=T.adr_rest t r0 (show F.dep<=9 by omega)
     refine ⟨by rw [e9]; exact R'.nd.1,fun a m _=>?_⟩
     have:=T.rest_le t (show F.dep<=9 by omega) m
     rw [r0] at this; cases this
  | exc c =>
   rw [q] at hd
   exact fun hc H' s=>hd hc H' (R.same.trans s)
  | bad=>rw [q] at hd; exact hd
theorem DR {b:Bi} {e:Expr} {es:List Expr} {x:E} {xs:Es} {ex:Expr} {r:List V->Hp->VK->Prop} (hp:PE X ex (tCB r (lEs p EX tn (.cons x xs))))
  (hr:∀ (B:Addr->Prop) (H H1:Hp) (j1 k1 j k:Nat) (ts:List T) (σ:St) (Q:VK),RsL p B H H1 j1 k1 ts->(match b with | .list=>gj (decide (j1=0)) (0,1) | _=>some (0,9))=some (j,k) ->
   Lg p EX σ (biD b (T.dats ts)) H (KE p B H j k Q)->r (ts.map T.val) H1 Q):PE X ex (lE p EX tn (.bi b (.cons x xs))):=by
 refine PE.mono hp fun σ H Q h=>?_
 obtain ⟨τ,rfl,hFr,j,k,hj,h⟩:=h
 simp only [jk] at hj
 obtain ⟨⟨j1,k1⟩,h1,hj⟩:=bS hj
 simp only [ev] at h
 refine ⟨τ,rfl,hFr,j1,k1,h1,h.bind.mono (Same.refl _) fun ds e hd ts H1 hts R=>?_⟩
 subst hts
 exact hr (Sh tn τ) H H1 j1 k1 j k ts _ Q R hj hd
theorem FT:∀ {ts:List T} {bs:List Int},B5 (T.dats ts)=some bs->ts.map T.val=bs.map V.int
 | [],bs,h=>by simp [T.dats,B5] at h; subst h; rfl
 | t :: r,bs,h=>by
  cases t <;> simp only [T.dats,T.dat,B5] at h
  all_goals first | cases h | skip
  obtain ⟨bs',h1,rfl⟩:=aar.mp h
  simp [T.val,FT h1]
section
variable {e:Expr} {es:List Expr} {x:E} {xs:Es} (hg:∀ y:Str,y ∈ (["len", "min", "max", "abs", "int", "list", "tuple", "all", "any", "sum", "sorted", "isinstance", "str", "range", "enumerate", "zip", "reversed"]:List Str)->X.mg y=none)
 (ha:PA X (e :: es) (lEs p EX tn (.cons x xs))) (hst:(e :: es).all Ah=true)
include hg ha hst
theorem ON (hgl:Gl X "len"):PE X (.Call (.Name "len" np) (e :: es) [] pos) (lE p EX tn (.bi .len (.cons x xs))):=by
 rw [aaR,aah] at hst
 refine DR (es:=es) (e:=e) (DW HL hgl (hg _ (by simp)) PySem.boot_len ha (by decide) (by decide) (Ai hst.1) (AR hst.2)) fun B H H1 j1 k1 j k ts σ Q R hj h=>?_
 rcases ts with _ | ⟨t,_ | ⟨u,r⟩⟩
 ·exact nE h
 ·cases t with
  | lst a us=>exact ⟨a,_,rfl,.inl (.inl R.ok.1.1),by have:=h (.int _) H1 rfl (Rs.scal R.same rfl); rw [Ag,<- aab (f:=T.val)] at this; exact this⟩
  | tup a us=>exact ⟨a,_,rfl,.inr (SqT.of R.ok.1.1),by have:=h (.int _) H1 rfl (Rs.scal R.same rfl); rw [Ag,<- aab (f:=T.val)] at this; exact this⟩
  | _=>exact nE h
 ·exact nE h
theorem OO (hgl:Gl X "int"):PE X (.Call (.Name "int" np) (e :: es) [] pos) (lE p EX tn (.bi .int (.cons x xs))):=by
 rw [aaR,aah] at hst
 refine DR (es:=es) (e:=e) (Hh Lc hgl (hg _ (by simp)) (by decide +kernel) ha (by decide) (by decide) (Ai hst.1) (AR hst.2)) fun B H H1 j1 k1 j k ts σ Q R hj h=>?_
 rcases ts with _ | ⟨t,_ | ⟨u,r⟩⟩
 ·exact nE h
 ·cases t with
  | int i=>exact .inl ⟨i,rfl,h (.int _) H1 rfl (Rs.scal R.same rfl)⟩
  | bl b=>exact .inr ⟨b,rfl,h (.int _) H1 rfl (Rs.scal R.same rfl)⟩
  | _=>exact nE h
 ·exact nE h
theorem MY (hgl:Gl X "list"):PE X (.Call (.Name "list" np) (e :: es) [] pos) (lE p EX tn (.bi .list (.cons x xs))):=by
 rw [aaR,aah] at hst
 refine DR (es:=es) (e:=e) (Hh HM hgl (hg _ (by simp)) (by decide +kernel) ha (by decide) (by decide) (Ai hst.1) (AR hst.2)) fun B H H1 j1 k1 j k ts σ Q R hj h=>?_
 obtain ⟨hc,ej⟩:=CJ hj
 cases ej
 have hc:j1=0:=of_decide_eq_true hc
 subst hc
 rcases ts with _ | ⟨t,_ | ⟨u,r⟩⟩
 ·exact nE h
 ·cases t with
  | lst a us=>exact ⟨a,_,rfl,.inl (.inl R.ok.1.1),fun l hl=>h (.lst l us) _ rfl (E0 R.same R.ok.1.2 (fun c m=>R.src c (by simp [T.rests,T.rest,m])) hl)⟩
  | tup a us=>exact ⟨a,_,rfl,.inr (SqT.of R.ok.1.1),fun l hl=>h (.lst l us) _ rfl (E0 R.same R.ok.1.2 (fun c m=>R.src c (by simp [T.rests,T.rest,m])) hl)⟩
  | _=>exact nE h
 ·exact nE h
end
end
section
variable {p:Px} {EX:EXT} {tn:List Nat} {X:Cx} {pos np:Pos}
theorem Kn {ns:List Int} {its:List Value} (h:Vals (ns.map V.int) its):∃ xs:Array (Int × Tok),its.toArray=intItems xs/\ns=xs.toList.map (·.1):=by
 have hi:=J9 h
 obtain ⟨xs,hx⟩:=hi.allInts.items
 refine ⟨xs,hx,?_⟩
 rw [<- nums_intItems,<- hx,<- hi.numsOf]
noncomputable def R8:List V->Hp->VK->Prop:=fun xs H Q=>∃ (l:Addr) (ns:List Int) (M:Int),xs=[.ref l]/\Rd H l (.lst (ns.map V.int))/\ns.max?=some M/\Q (.int M) H
theorem LD (hc:X.calm=true):DA X (.builtin "max") R8:=by
 intro pins s σ H xs us Q I r h
 obtain ⟨l,ns,M,rfl,hS,hM,q⟩:=h
 obtain ⟨u,rfl,ru⟩:=Gk r
 cases (show u=Value.ref l from ru)
 obtain ⟨its,rr,pl,_⟩:=I.list (.inl hS)
 obtain ⟨xs,hx,rfl⟩:=Kn rr
 have hl:=pl.isList
 rw [hx] at hl
 have hne:0 < xs.size:=by
  rcases acC xs.size with z | z
  ·have:xs.toList=[]:=List.eq_nil_of_length_eq_zero (by simpa using z)
   rw [this] at hM; cases hM
  ·exact z
 refine max_intList (I.ok.hd hc) hl hne fun v h' tk hv hk=>?_
 obtain ⟨t,rfl⟩:=intItems_at hv
 obtain ⟨h1,h2⟩:=argBest_gt (numAt xs) (xs.size - 1)
 have e:M=numAt xs (argBest (fun i j=>decide (numAt xs i > numAt xs j)) (xs.size - 1)):=by
  have:(xs.toList.map (·.1)).max?=some (numAt xs (argBest (fun i j=>decide (numAt xs i > numAt xs j)) (xs.size - 1))):=by
   refine abD.mpr ⟨?_,fun a ha=>?_⟩
   ·rw [numAt_eq]; exact getD_mem (by rw [aab,Array.length_toList]; omega)
   ·obtain ⟨j,hj,rfl⟩:=mem_getD ha
    rw [aab,Array.length_toList] at hj
    rw [<- numAt_eq]; exact h2 j (by omega)
  exact Option.some.inj (hM.symm.trans this)
 exact ⟨.int M,H,I.kept (t':=tk) hk,⟨t,by rw [e]⟩,q⟩
section
variable {e:Expr} {es:List Expr} {x:E} {xs:Es} (hg:∀ y:Str,y ∈ (["len", "min", "max", "abs", "int", "list", "tuple", "all", "any", "sum", "sorted", "isinstance", "str", "range", "enumerate", "zip", "reversed"]:List Str)->X.mg y=none)
 (ha:PA X (e :: es) (lEs p EX tn (.cons x xs))) (hst:(e :: es).all Ah=true)
include hg ha hst
theorem OP (hcm:X.calm=true) (hgl:Gl X "max"):PE X (.Call (.Name "max" np) (e :: es) [] pos) (lE p EX tn (.bi .max (.cons x xs))):=by
 rw [aaR,aah] at hst
 refine DR (es:=es) (e:=e) (DW (La hcm) hgl (hg _ (by simp)) (by decide +kernel) ha (by decide) (by decide) (Ai hst.1) (AR hst.2)) fun B H H1 j1 k1 j k ts σ Q R hj h=>?_
 rcases ts with _ | ⟨t,_ | ⟨u,_ | ⟨v,r⟩⟩⟩
 ·exact nE h
 ·exact nE h
 ·obtain ⟨i,m,rfl,rfl,h⟩:=BK (t:=t) (u:=u) (Q:=fun r=>Lg p EX σ r H (KE p B H j k Q)) id h
  refine ⟨i,m,rfl,?_⟩
  have:=h (.int _) H1 rfl (Rs.scal R.same rfl)
  have e:(if m > i then m else i)=max i m:=by split <;> omega
  rw [e]; exact this
 ·exact nE h
theorem MZ (hcm:X.calm=true) (hgl:Gl X "max"):PE X (.Call (.Name "max" np) (e :: es) [] pos) (lE p EX tn (.bi .maxL (.cons x xs))):=by
 rw [aaR,aah] at hst
 refine DR (es:=es) (e:=e) (DW (LD hcm) hgl (hg _ (by simp)) (by decide +kernel) ha (by decide) (by decide) (Ai hst.1) (AR hst.2)) fun B H H1 j1 k1 j k ts σ Q R hj h=>?_
 rcases ts with _ | ⟨t,_ | ⟨u,r⟩⟩
 ·exact nE h
 ·cases t with
  | lst a us =>
   have h:Lg p EX σ ((Eg (B5 (T.dats us))).bind fun ns=>(Eg ns.max?).bind fun n=>.ok (.int n)) H (KE p B H j k Q):=h
   cases q:B5 (T.dats us) with
   | none=>rw [q] at h; exact nE h
   | some ns =>
    rw [q] at h
    have h:Lg p EX σ ((Eg ns.max?).bind fun n=>.ok (.int n)) H (KE p B H j k Q):=h
    cases q2:ns.max? with
    | none=>rw [q2] at h; exact nE h
    | some M =>
     rw [q2] at h
     exact ⟨a,ns,M,rfl,FT q ▸ R.ok.1.1,q2,h (.int _) H1 rfl (Rs.scal R.same rfl)⟩
  | _=>exact nE h
 ·exact nE h
theorem OQ (hcm:X.calm=true) (hgl:Gl X "min"):PE X (.Call (.Name "min" np) (e :: es) [] pos) (lE p EX tn (.bi .min (.cons x xs))):=by
 rw [aaR,aah] at hst
 refine DR (es:=es) (e:=e) (DW (Lb hcm) hgl (hg _ (by simp)) (by decide +kernel) ha (by decide) (by decide) (Ai hst.1) (AR hst.2)) fun B H H1 j1 k1 j k ts σ Q R hj h=>?_
 rcases ts with _ | ⟨t,_ | ⟨u,_ | ⟨v,r⟩⟩⟩
 ·exact nE h
 ·exact nE h
 ·obtain ⟨i,m,rfl,rfl,h⟩:=BK (t:=t) (u:=u) (Q:=fun r=>Lg p EX σ r H (KE p B H j k Q)) id h
  refine ⟨i,m,rfl,?_⟩
  have:=h (.int _) H1 rfl (Rs.scal R.same rfl)
  have e:(if m < i then m else i)=min i m:=by split <;> omega
  rw [e]; exact this
 ·exact nE h
end
end
structure ItOk (p:Px) (B:Addr->Prop) (H H1:Hp) (J:L2.It) (us:List T) (j:Nat) (ds:List D):Prop where
 same:Same H H1
 ok:T.Oks p H1 us
 src:∀ a ∈ T.rests us j,H a=none\/B a
 len:ds.length<=sizeLine
 go:∀ (i:Nat) (H':Hp),T.Oks p H' us->i < ds.length->J.go i H'
 stop:∀ (i:Nat) (H':Hp),T.Oks p H' us->ds.length<=i->J.stop i H'
 yld:∀ (i:Nat) (H':Hp) (v:V) (H'':Hp) (d:D),T.Oks p H' us->ds[i]?=some d->J.yld i H' v H''->Same H' H''/\∃ t:T,t.val=v/\t.dat=d/\t.Ok p H''/\(∀ a ∈ t.rest 0,a ∈ T.rests us 0)/\∀ a ∈ t.rest 0,H a=none\/B a
noncomputable def lI (p:Px) (EX:EXT) (tn:List Nat) (it:It):TI:=fun σ H R=>∃ τ,σ=vτ τ/\Fok p tn τ H/\∃ j,jkI tn it=some j/\Lg p EX σ (evI it (dτ τ)) H fun ds=>∀ J us H1,ItOk p (Sh tn τ) H H1 J us j ds->R J H1
theorem PI.mono {X:Cx} {tg e:Expr} {t t':TI} (h:PI X tg e t) (m:∀ σ H Q,t' σ H Q->t σ H Q):PI X tg e t':=fun pins s σ H Q I q=>h pins s σ H Q I (m _ _ _ q)
section
variable {p:Px} {EX:EXT} {tn:List Nat} {X:Cx} {pos np:Pos} {tg:Expr}
theorem D0 {ts:List T} {i:Nat} {d:D} (h:(T.dats ts)[i]?=some d):∃ t,ts[i]?=some t/\t.dat=d:=by
 rw [T.dats_map,aaj] at h
 obtain ⟨t,h1,h2⟩:=aar.mp h
 exact ⟨t,h1,h2⟩
theorem E4 (hK:X.K=p.K) {B:Addr->Prop} {H H1:Hp} {j k:Nat} {a:Addr} {ts:List T} (r:Rs p B H H1 j k (.lst a ts)) (hj:j<=1) (hl:ts.length<=sizeLine):ItOk p B H H1 (Itl X.K a) [.lst a ts] j (T.dats ts) where
 same:=r.same
 ok:=⟨r.ok,trivial⟩
 src:=fun b m=>r.src b (by simpa [T.rests] using m)
 len:=by rw [Ag]; exact hl
 go:=fun i H' ok h=>by
  rw [Ag] at h
  exact ⟨_,(ts.map T.val)[i]'(by simpa using h),.inl ok.1.1,by simp [h]⟩
 stop:=fun i H' ok h=>⟨_,.inl ok.1.1,by simpa [Ag] using h⟩
 yld:=fun i H' v H'' d ok h y=>by
  obtain ⟨rfl,y⟩:=y
  obtain ⟨t,ht,e⟩:=D0 h
  have:=y _ (.inl ok.1.1)
  rw [aaj,ht] at this
  refine ⟨Same.refl _,t,Option.some.inj this,e,T.oks_iff.mp ok.1.2 t (aae ht),fun b m=>by simp only [T.rests,T.rest,aaN]; exact aaa _ (T.mem_rests.mpr ⟨t,aae ht,m⟩),fun b m=>r.elems hj b (T.mem_rests.mpr ⟨t,aae ht,m⟩)⟩
theorem M2 {B:Addr->Prop} {H H1:Hp} {k:Nat} {a:Addr} {ts:List T} (r:Rs p B H H1 0 k (.tup a ts)) (hl:ts.length<=sizeLine):ItOk p B H H1 (Itt X.K a) [.tup a ts] 0 (T.dats ts) where
 same:=r.same
 ok:=⟨r.ok,trivial⟩
 src:=fun b m=>r.src b (by simpa [T.rests] using m)
 len:=by rw [Ag]; exact hl
 go:=fun i H' ok h=>by
  rw [Ag] at h
  exact ⟨_,(ts.map T.val)[i]'(by simpa using h),SqT.of ok.1.1,by simp [h]⟩
 stop:=fun i H' ok h=>⟨_,SqT.of ok.1.1,by simpa [Ag] using h⟩
 yld:=fun i H' v H'' d ok h y=>by
  obtain ⟨rfl,y⟩:=y
  obtain ⟨t,ht,e⟩:=D0 h
  have:=y _ (SqT.of ok.1.1)
  rw [aaj,ht] at this
  refine ⟨Same.refl _,t,Option.some.inj this,e,T.oks_iff.mp ok.1.2 t (aae ht),fun b m=>by simp only [T.rests,T.rest,aaN]; exact T.mem_rests.mpr ⟨t,aae ht,m⟩,fun b m=>r.src b (T.mem_rests.mpr ⟨t,aae ht,m⟩)⟩
noncomputable def SR (K:Frag) (tl:TE):TI:=fun σ H R=>tl σ H fun x H1=>∃ a,x=.ref a/\((∃ xs,SqL K H1 a xs/\(xs.length<=sizeLine->R (Itl K a) H1))\/(∃ xs,SqT K H1 a xs/\(xs.length<=sizeLine->R (Itt K a) H1)))
theorem HZ {l:Expr} {tl:TE} (hl:PE X l tl):PI X tg l (SR X.K tl):=by
 intro pins s σ H R I h
 refine thn (hl pins s σ H _ I h) fun v s1 ⟨x,H1,I1,r1,q1⟩=>?_
 obtain ⟨a,e,q1⟩:=q1
 subst e
 cases r1
 rcases q1 with ⟨xs,hq,q⟩ | ⟨xs,hq,q⟩
 ·obtain ⟨its,rv,pl,hz⟩:=I1.list hq
  refine wpAny_pyIter_list pl.isList ?_
  refine ⟨s1.heap.objs.size,[s1.heap.objs.size],_,_,H1,rfl,I1.kept (t':=s1.toks) fun b o e=>Heap.get?_push_of_some _ e,K4 a _,⟨_,Heap.get?_push_size _ rfl,rfl,rfl⟩,fun b hb=>?_,q hz⟩
  have e:b=s1.heap.objs.size:=by simpa using hb
  subst e
  exact I1.fpOk (aan _) (I1.hok.fresh (aan _))
 ·obtain ⟨its,rv,pl,hz⟩:=I1.tuple hq
  refine wpAny_pyIter_tuple (show s1.heap.IsTuple a its.toArray from pl) ?_
  refine ⟨s1.heap.objs.size,[s1.heap.objs.size],_,_,H1,rfl,I1.kept (t':=s1.toks) fun b o e=>Heap.get?_push_of_some _ e,JY a _,⟨_,Heap.get?_push_size _ rfl,rfl,rfl⟩,fun b hb=>?_,q hz⟩
  have e:b=s1.heap.objs.size:=by simpa using hb
  subst e
  exact I1.fpOk (aan _) (I1.hok.fresh (aan _))
theorem M3 (hK:X.K=p.K) {e:Expr} {x:E} (he:PE X e (lE p EX tn x)):PI X tg e (lI p EX tn (.seq x)):=by
 refine PI.mono (HZ he) fun σ H R h=>?_
 obtain ⟨τ,rfl,hF,j,hj,h⟩:=h
 simp only [jkI] at hj
 obtain ⟨⟨j1,k1⟩,h1,hj⟩:=bS hj
 split at hj
 ·rename_i z
  cases hj
  have z:j1=0:=z
  subst z
  simp only [evI] at h
  refine l1 hF h1 h fun d t H1 ht r h=>?_
  subst ht
  cases t with
  | lst a ts=>exact ⟨a,rfl,.inl ⟨_,.inl r.ok.1,fun hz=>h _ _ _ (E4 hK r (by omega) (by simpa using hz))⟩⟩
  | tup a ts=>exact ⟨a,rfl,.inr ⟨_,SqT.of r.ok.1,fun hz=>h _ _ _ (M2 r (by simpa using hz))⟩⟩
  | _=>exact nE h
 ·cases hj
theorem LE (hK:X.K=p.K) {e:Expr} {x:E} (he:PE X e (lE p EX tn x)):PI X tg e (lI p EX tn (.seqL x)):=by
 refine PI.mono (HZ he) fun σ H R h=>?_
 obtain ⟨τ,rfl,hF,j,hj,h⟩:=h
 simp only [jkI] at hj
 obtain ⟨⟨j1,k1⟩,h1,hj⟩:=bS hj
 split at hj
 ·rename_i z
  cases hj
  simp only [evI] at h
  refine l1 hF h1 h fun d t H1 ht r h=>?_
  subst ht
  cases t with
  | lst a ts=>exact ⟨a,rfl,.inl ⟨_,.inl r.ok.1,fun hz=>h _ _ _ (E4 hK r z (by simpa using hz))⟩⟩
  | _=>exact nE h
 ·cases hj
theorem Gy {B:Addr->Prop} {H H1:Hp} {a b:Int} (s:Same H H1) (hl:(b - a).toNat<=LIM):ItOk p B H H1 (Itr a (b - a).toNat) [] 0 (Ax a b) where
 same:=s
 ok:=trivial
 src:=fun c m=>nomatch m
 len:=by unfold Ax; rw [aab,aa0]; exact hl
 go:=fun i H' _ h=>by unfold Ax at h; rw [aab,aa0] at h; exact h
 stop:=fun i H' _ h=>by unfold Ax at h; rw [aab,aa0] at h; exact h
 yld:=fun i H' v H'' d _ h y=>by
  obtain ⟨rfl,rfl⟩:=y
  unfold Ax at h
  rw [aaj] at h
  obtain ⟨n,h1,h2⟩:=aar.mp h
  have:n=i:=by
   obtain ⟨_,e⟩:=aaq.mp h1
   simpa using e.symm
  subst this
  exact ⟨Same.refl _,.int (a + n),rfl,h2,trivial,by simp [T.rest],by simp [T.rest]⟩
theorem Bd {i:Int} (h:Bu i=true):-(2 ^ 62)<=i/\i < 2 ^ 62:=by
 unfold Bu at h
 rw [aah] at h
 exact ⟨of_decide_eq_true h.1,of_decide_eq_true h.2⟩
theorem OR {e:Expr} {x:E} (he:PE X e (lE p EX tn x)) (hst:Ah e=true) (hg:Gl X "range") (hm:X.mg "range" = none):PI X tg (.Call (.Name "range" np) [e] [] pos) (lI p EX tn (.r1 x)):=by
 refine PI.mono (K5 hg hm (AV he CB (Ai hst)) (Ai hst)) fun σ H R h=>?_
 obtain ⟨τ,rfl,hF,j,hj,h⟩:=h
 simp only [jkI] at hj
 obtain ⟨⟨j1,k1⟩,h1,hj⟩:=bS hj
 cases hj
 simp only [evI] at h
 refine l1 hF h1 h fun d t H1 ht r h=>?_
 subst ht
 cases t with
 | int b =>
  obtain ⟨hc,h⟩:=Lg.guard (r:=.ok (Ax 0 b)) h
  rw [aah,aah] at hc
  obtain ⟨h3,h4⟩:=Bd hc.1.2
  have hl:=of_decide_eq_true hc.2
  have:=h _ _ _ (Gy (p:=p) r.same hl)
  rw [acf] at this
  exact ⟨b,rfl,h3,h4,this⟩
 | _=>exact nE h
theorem OS {e e':Expr} {x y:E} (he:PE X e (lE p EX tn x)) (he':PE X e' (lE p EX tn y)) (hst:Ah e=true) (hst':Ah e'=true) (hg:Gl X "range") (hm:X.mg "range" = none):PI X tg (.Call (.Name "range" np) [e,e'] [] pos) (lI p EX tn (.r2 x y)):=by
 refine PI.mono (K6 hg hm (AV he (AV he' CB (Ai hst')) (Ai hst)) (by rw [Ai hst,Ai hst']; rfl) (Ai hst')) fun σ H R h=>?_
 obtain ⟨τ,rfl,hF,j,hj,h⟩:=h
 simp only [jkI] at hj
 obtain ⟨⟨j1,k1⟩,h1,hj⟩:=bS hj
 obtain ⟨⟨j2,k2⟩,h2,hj⟩:=bS hj
 cases hj
 simp only [evI] at h
 refine l1 hF h1 h fun d t H1 ht r h=>l2 hF r.same h2 h fun d' t' H2 ht' r' h=>?_
 subst ht ht'
 cases t with
 | int a =>
  cases t' with
  | int b =>
   obtain ⟨hc,h⟩:=Lg.guard (r:=.ok (Ax a b)) h
   rw [aah,aah] at hc
   exact ⟨a,b,rfl,⟨(Bd hc.1.1).1,(Bd hc.1.1).2,(Bd hc.1.2).1,(Bd hc.1.2).2⟩,h _ _ _ (Gy (p:=p) (r.same.trans r'.same) (of_decide_eq_true hc.2))⟩
  | _=>exact nE h
 | _=>exact nE h
theorem QW {a b c:Int} (hc:c ≠ 0):r3N a b c=(Builtin.Range.rangeSize a b c).toNat:=by
 have key:∀ x c:Int,0 < c->((x + c - 1) / c).toNat=(if 0 < x then (x - 1) / c + 1 else 0).toNat:=fun x c hc=>by
  split
  ·rw [show x + c - 1=x - 1 + 1 * c by omega,Int.add_mul_ediv_right _ _ (by omega)]
  ·have:(x + c - 1) / c < 1:=Int.ediv_lt_of_lt_mul hc (by omega)
   show _=0
   omega
 unfold r3N Builtin.Range.rangeSize
 by_cases h:0 < c
 ·rw [if_pos h,if_pos h,key (b - a) c h]
  by_cases z:a < b
  ·rw [if_pos z,if_pos (by omega)]
  ·rw [if_neg z,if_neg (by omega)]
 ·rw [if_neg h,if_neg h,key (a - b) (-c) (by omega)]
  by_cases z:a > b
  ·rw [if_pos z,if_pos (by omega)]
  ·rw [if_neg z,if_neg (by omega)]
theorem OT {B:Addr->Prop} {H H1:Hp} {a c:Int} {n:Nat} (s:Same H H1) (hl:n<=LIM):ItOk p B H H1 (ML a c n) [] 0 (DY a c n) where
 same:=s
 ok:=trivial
 src:=fun c m=>nomatch m
 len:=by unfold DY; rw [aab,aa0]; exact hl
 go:=fun i H' _ h=>by unfold DY at h; rw [aab,aa0] at h; exact h
 stop:=fun i H' _ h=>by unfold DY at h; rw [aab,aa0] at h; exact h
 yld:=fun i H' v H'' d _ h y=>by
  obtain ⟨rfl,rfl⟩:=y
  unfold DY at h
  rw [aaj] at h
  obtain ⟨n,h1,h2⟩:=aar.mp h
  have:n=i:=by
   obtain ⟨_,e⟩:=aaq.mp h1
   simpa using e.symm
  subst this
  exact ⟨Same.refl _,.int (a + n * c),rfl,h2,trivial,by simp [T.rest],by simp [T.rest]⟩
theorem OU {e e' e2:Expr} {x y z:E} (he:PE X e (lE p EX tn x)) (he':PE X e' (lE p EX tn y)) (he2:PE X e2 (lE p EX tn z)) (hst:Ah e=true) (hst':Ah e'=true) (hst2:Ah e2=true) (hg:Gl X "range") (hm:X.mg "range" = none):PI X tg (.Call (.Name "range" np) [e,e',e2] [] pos) (lI p EX tn (.r3 x y z)):=by
 refine PI.mono (Lq hg hm (AV he (AV he' (AV he2 CB (Ai hst2)) (Ai hst')) (Ai hst)) (by rw [Ai hst,Ai hst',Ai hst2]; rfl) (by rw [Ai hst',Ai hst2]; rfl)) fun σ H R h=>?_
 obtain ⟨τ,rfl,hF,j,hj,h⟩:=h
 simp only [jkI] at hj
 obtain ⟨⟨j1,k1⟩,h1,hj⟩:=bS hj
 obtain ⟨⟨j2,k2⟩,h2,hj⟩:=bS hj
 obtain ⟨⟨j3,k3⟩,h3,hj⟩:=bS hj
 cases hj
 simp only [evI] at h
 refine l1 hF h1 h fun d t H1 ht r h=>l2 hF r.same h2 h fun d' t' H2 ht' r' h=>l2 hF (r.same.trans r'.same) h3 h fun d2 t2 H3 ht2 r2 h=>?_
 subst ht ht' ht2
 cases t with
 | int a =>
  cases t' with
  | int b =>
   cases t2 with
   | int c =>
    obtain ⟨hc,h⟩:=Lg.guard (r:=.ok (DY a c (r3N a b c))) h
    rw [aah,aah,aah,aah] at hc
    have h0:=of_decide_eq_true hc.1.2
    have hl:=of_decide_eq_true hc.2
    rw [QW h0] at hl h
    exact ⟨a,b,c,rfl,⟨(Bd hc.1.1.1.1).1,(Bd hc.1.1.1.1).2,(Bd hc.1.1.1.2).1,(Bd hc.1.1.1.2).2,(Bd hc.1.1.2).1,(Bd hc.1.1.2).2⟩,h0,hl,h _ _ _ (OT (p:=p) ((r.same.trans r'.same).trans r2.same) hl)⟩
   | _=>exact nE h
  | _=>exact nE h
 | _=>exact nE h
noncomputable def iEn (K:Frag) (ta:TA):TI:=fun σ H R=>ta σ H fun vs H1=>∃ a,vs=[.ref a]/\∃ xs,SqL K H1 a xs/\(xs.length<=sizeLine->R (Ite K a) H1)
theorem OV {e:Expr} {ta:TA} {elts:List Expr} {k1:Nat} {q:Pos} (hg:Gl X "enumerate") (hm:X.mg "enumerate" = none) (ha:PA X [e] ta) (hs:starEach [e] X.env=[(false,eval e X.env)]):PI X (.Tuple elts k1 q) (.Call (.Name "enumerate" np) [e] [] pos) (iEn X.K ta):=by
 intro pins s σ H R I h
 refine Call_ (DV I hg hm (show bootBuiltins "enumerate" = some (.type "enumerate") by decide +kernel) (PyProof.Rows.callWith_type1 (thn (ha pos pins s σ H _ I h) fun us s1 ⟨vs,H1,I1,r1,q1⟩=>?_) hs rfl))
 obtain ⟨a,e,xs,hq,q⟩:=q1
 subst e
 cases r1 with
 | cons r rr =>
  cases rr
  cases r
  obtain ⟨its,rv,pl,hz⟩:=I1.list hq
  refine call_enumerate_list pl.isList fun h' hE hI hsz hk=>wpAny_pyIter_enum hE ?_
  refine ⟨s1.heap.objs.size + 1,[s1.heap.objs.size + 1,s1.heap.objs.size],_,_,H1,rfl,I1.kept (t':=s1.toks) hk,Lo a _ _ (Nat.succ_ne_self _),⟨⟨_,hE⟩,hI⟩,fun b hb=>?_,q hz⟩
  rcases aal.mp hb with rfl | hb
  ·exact I1.fpOk (ab5 _) (I1.hok.fresh (ab5 _))
  ·cases aav.mp hb
   exact I1.fpOk (aan _) (I1.hok.fresh (aan _))
theorem LF (hK:X.K=p.K) {B:Addr->Prop} {H H1:Hp} {j k:Nat} {a:Addr} {ts:List T} (r:Rs p B H H1 j k (.lst a ts)) (hj:j<=1) (hl:ts.length<=sizeLine):ItOk p B H H1 (Ite X.K a) [.lst a ts] j (Bg (T.dats ts)) where
 same:=r.same
 ok:=⟨r.ok,trivial⟩
 src:=fun b m=>r.src b (by simpa [T.rests] using m)
 len:=by unfold Bg; rw [aab,ab6,Ag]; exact hl
 go:=fun i H' ok h=>by
  unfold Bg at h
  rw [aab,ab6,Ag] at h
  exact ⟨_,(ts.map T.val)[i]'(by simpa using h),.inl ok.1.1,by simp [h]⟩
 stop:=fun i H' ok h=>by
  unfold Bg at h
  rw [aab,ab6,Ag] at h
  exact ⟨_,.inl ok.1.1,by simpa using h⟩
 yld:=fun i H' v H'' d ok h y=>by
  obtain ⟨t0,hn,rfl,y⟩:=y
  unfold Bg at h
  rw [aaj,ab0] at h
  obtain ⟨d0,h1,rfl⟩:=aar.mp h
  obtain ⟨d1,h2,rfl⟩:=aar.mp h1
  obtain ⟨t,ht,rfl⟩:=D0 h2
  have:=y _ t.val (.inl ok.1.1) (by rw [aaj,ht]; rfl)
  subst this
  have s0:=Same.new (o:=.tup [.int i,t.val]) hn
  have okt:=T.oks_iff.mp ok.1.2 t (aae ht)
  refine ⟨s0,.tup t0 [.int i,t],rfl,?_,⟨AJ,trivial,okt.keep (fun a u e _=>s0 a u e),trivial⟩,fun b m=>?_,fun b m=>?_⟩
  ·simp [T.dat,T.dats]
  ·have m:b ∈ t.rest 0:=by simpa [T.rest,T.rests] using m
   simp only [T.rests,T.rest,aaN]; exact aaa _ (T.mem_rests.mpr ⟨t,aae ht,m⟩)
  ·have m:b ∈ t.rest 0:=by simpa [T.rest,T.rests] using m
   exact r.elems hj b (T.mem_rests.mpr ⟨t,aae ht,m⟩)
theorem OW (hK:X.K=p.K) {e:Expr} {x:E} {elts:List Expr} {k1:Nat} {q:Pos} (he:PE X e (lE p EX tn x)) (hst:Ah e=true) (hg:Gl X "enumerate") (hm:X.mg "enumerate" = none):PI X (.Tuple elts k1 q) (.Call (.Name "enumerate" np) [e] [] pos) (lI p EX tn (.en x)):=by
 refine PI.mono (OV hg hm (AV he CB (Ai hst)) (Ai hst)) fun σ H R h=>?_
 obtain ⟨τ,rfl,hF,j,hj,h⟩:=h
 simp only [jkI] at hj
 obtain ⟨⟨j1,k1⟩,h1,hj⟩:=bS hj
 split at hj
 ·rename_i z
  cases hj
  simp only [evI] at h
  refine l1 hF h1 h fun d t H1 ht r h=>?_
  subst ht
  cases t with
  | lst a ts=>exact ⟨a,rfl,_,.inl r.ok.1,fun hz=>h _ _ _ (LF hK r z (by simpa using hz))⟩
  | _=>exact nE h
 ·cases hj
end
noncomputable def BL:List Nat->List T->Ft->Option Ft
 | [],[],τ=>some τ
 | i :: is,t :: ts,τ=>BL is ts (τ.set i (some t))
 | _,_,_=>none
noncomputable def B7:Tg->T->Ft->Option Ft
 | .nm i,t,τ=>some (τ.set i (some t))
 | .tp is,.tup _ ts,τ=>BL is ts τ
 | .tp is,.lst _ ts,τ=>BL is ts τ
 | _,_,_=>none
theorem Cr (τ:Ft) (i:Nat) (t:T):dτ (τ.set i (some t))=(dτ τ).set i (some t.dat):=by unfold dτ; rw [abo]; rfl
theorem Ew (τ:Ft) (i:Nat) (t:T):vτ (τ.set i (some t))=(vτ τ).set i (some t.val):=by unfold vτ; rw [abo]; rfl
theorem Gz:∀ (is:List Nat) (ts:List T) (τ:Ft),Eu is (T.dats ts) (dτ τ)=(BL is ts τ).map dτ
 | [],[],τ=>rfl
 | [],t :: ts,τ=>rfl
 | i :: is,[],τ=>rfl
 | i :: is,t :: ts,τ=>by simp only [T.dats,Eu,BL]; rw [<- Cr,Gz is ts]
theorem E5 (g:Tg) (t:T) (τ:Ft):CG g t.dat (dτ τ)=(B7 g t τ).map dτ:=by
 cases g with
 | nm i=>simp only [CG,B7,aaX,Cr]
 | tp is=>cases t <;> first | rfl | exact Gz is _ τ
noncomputable def B8:List Nat->TGs
 | []=>Qd
 | i :: r=>NQ (D8 i) (B8 r)
noncomputable def lG (K:Frag):Tg->TG
 | .nm i=>D8 i
 | .tp is=>fun v σ H Q=>Qe K is.length (B8 is) v σ H Q\/QH K is.length (B8 is) v σ H Q
theorem E6 {H:Hp} {Q:L2.St->Hp->Prop}:∀ {is:List Nat} {ts:List T} {τ τ':Ft},BL is ts τ=some τ'->Q (vτ τ') H->B8 is (ts.map T.val) (vτ τ) H Q
 | [],[],τ,τ',h,q=>by cases h; exact ⟨rfl,q⟩
 | [],t :: ts,τ,τ',h,q=>by cases h
 | i :: is,[],τ,τ',h,q=>by cases h
 | i :: is,t :: ts,τ,τ',h,q=>by
  refine ⟨t.val,ts.map T.val,rfl,?_⟩
  show B8 is (ts.map T.val) ((vτ τ).set i (some t.val)) H Q
  rw [<- Ew]
  exact E6 (τ:=τ.set i (some t)) h q
theorem Ei:∀ {is:List Nat} {ts:List T} {τ τ':Ft},BL is ts τ=some τ'->ts.length=is.length
 | [],[],τ,τ',h=>rfl
 | [],t :: ts,τ,τ',h=>by cases h
 | i :: is,[],τ,τ',h=>by cases h
 | i :: is,t :: ts,τ,τ',h=>by simp [Ei (is:=is) (ts:=ts) (τ:=τ.set i (some t)) h]
theorem Ko {K:Frag} {p:Px} {H:Hp} {g:Tg} {t:T} {τ τ':Ft} {Q:L2.St->Hp->Prop} (ok:t.Ok p H) (h:B7 g t τ=some τ') (q:Q (vτ τ') H):lG K g t.val (vτ τ) H Q:=by
 cases g with
 | nm i =>
  cases h
  show Q ((vτ τ).set i (some t.val)) H
  rw [<- Ew]; exact q
 | tp is =>
  cases t with
  | tup a ts=>exact .inl ⟨a,ts.map T.val,rfl,SqT.of ok.1,by rw [aab]; exact Ei h,E6 h q⟩
  | lst a ts=>exact .inr ⟨a,ts.map T.val,rfl,.inl ok.1,by rw [aab]; exact Ei h,E6 h q⟩
  | _=>cases h
noncomputable def Tg.sl:Tg->List Nat
 | .nm i=>[i]
 | .tp is=>is
theorem Ej {n:Nat} {H:Hp} {Q:L2.St->Hp->Prop}:∀ {is:List Nat} {vs:List V} {σ:L2.St},(∀ i ∈ is,i < n)->B8 is vs σ H Q->B8 is vs σ H fun σ' H'=>Q σ' H'/\σ'.length=σ.length/\∀ i,n<=i->σ'[i]?=σ[i]?
 | [],vs,σ,_,h=>by obtain ⟨e,q⟩:=h; exact ⟨e,q,rfl,fun _ _=>rfl⟩
 | i :: is,vs,σ,hi,h=>by
  obtain ⟨v,r,e,h⟩:=h
  refine ⟨v,r,e,?_⟩
  have h2:=Ej (n:=n) (is:=is) (σ:=σ.set i (some v)) (fun j hj=>hi j (aaa _ hj)) h
  have mono:∀ {is:List Nat} {vs:List V} {σ:L2.St} {H:Hp} {A B:L2.St->Hp->Prop},(∀ s h,A s h->B s h)->B8 is vs σ H A->B8 is vs σ H B:=by
   intro is
   induction is with
   | nil=>intro vs σ H A B m h; exact ⟨h.1,m _ _ h.2⟩
   | cons i is ih =>
    intro vs σ H A B m h
    obtain ⟨v,r,e,h⟩:=h
    exact ⟨v,r,e,ih m h⟩
  refine mono (fun s h q=>⟨q.1,by rw [q.2.1,aaw],fun k hk=>?_⟩) h2
  rw [q.2.2 k hk,aao (by have:=hi i (aac ..); omega)]
theorem Fz {K:Frag} {n:Nat} {g:Tg} (hg:∀ i ∈ g.sl,i < n) {v:V} {σ:L2.St} {H:Hp} {Q:L2.St->Hp->Prop} (h:lG K g v σ H Q):lG K g v σ H fun σ' H'=>Q σ' H'/\σ'.length=σ.length/\∀ i,n<=i->σ'[i]?=σ[i]?:=by
 cases g with
 | nm i=>exact ⟨h,by rw [aaw],fun k hk=>by rw [aao (by have:=hg i (aav.mpr rfl); omega)]⟩
 | tp is =>
  rcases h with ⟨a,xs,e,s,l,h⟩ | ⟨a,xs,e,s,l,h⟩
  ·exact .inl ⟨a,xs,e,s,l,Ej hg h⟩
  ·exact .inr ⟨a,xs,e,s,l,Ej hg h⟩
theorem Ek {P:Option T->Prop}:∀ {is:List Nat} {ts:List T} {τ τ':Ft},BL is ts τ=some τ'->(∀ t ∈ ts,P (some t))->∀ i o,τ'[i]?=some o->P o\/(i ∉ is/\τ[i]?=some o)
 | [],[],τ,τ',h,_,i,o,e=>by cases h; exact .inr ⟨by simp,e⟩
 | [],t :: ts,τ,τ',h,_,_,_,_=>by cases h
 | i :: is,[],τ,τ',h,_,_,_,_=>by cases h
 | i :: is,t :: ts,τ,τ',h,hp,j,o,e=>by
  rcases Ek (P:=P) (is:=is) (ts:=ts) (τ:=τ.set i (some t)) h (fun u hu=>hp u (aaa _ hu)) j o e with q | ⟨q1,q2⟩
  ·exact .inl q
  ·by_cases z:i=j
   ·subst z
    rw [abd ] at q2
    cases w:τ[i]? with
    | none=>rw [w] at q2; cases q2
    | some x =>
     rw [w] at q2
     have:o=some t:=by simpa using q2.symm
     subst this
     exact .inl (hp t (aac ..))
   ·rw [aao z] at q2
    refine .inr ⟨?_,q2⟩
    intro m
    rcases aal.mp m with rfl | m
    ·exact z rfl
    ·exact q1 m
theorem GA {P:Option T->Prop} {g:Tg} {t:T} {τ τ':Ft} (h:B7 g t τ=some τ') (hp:P (some t)) (hp':∀ a ts,(t=.tup a ts\/t=.lst a ts)->∀ u ∈ ts,P (some u)) (i:Nat) (o:Option T) (e:τ'[i]?=some o):P o\/(i ∉ g.sl/\τ[i]?=some o):=by
 cases g with
 | nm k =>
  cases h
  by_cases z:k=i
  ·subst z
   rw [abd] at e
   cases w:τ[k]? with
   | none=>rw [w] at e; cases e
   | some x =>
    rw [w] at e
    have:o=some t:=by simpa using e.symm
    subst this; exact .inl hp
  ·rw [aao z] at e
   exact .inr ⟨by simpa [Tg.sl] using fun q=>z q.symm,e⟩
 | tp is =>
  cases t with
  | tup a ts=>exact Ek (P:=P) h (fun u hu=>hp' a ts (.inl rfl) u hu) i o e
  | lst a ts=>exact Ek (P:=P) h (fun u hu=>hp' a ts (.inr rfl) u hu) i o e
  | _=>cases h
theorem Ex:∀ {is:List Nat} {ts:List T} {τ τ':Ft},BL is ts τ=some τ'->τ'.length=τ.length
 | [],[],τ,τ',h=>by cases h; rfl
 | [],t :: ts,τ,τ',h=>by cases h
 | i :: is,[],τ,τ',h=>by cases h
 | i :: is,t :: ts,τ,τ',h=>by rw [Ex (is:=is) (ts:=ts) (τ:=τ.set i (some t)) h,aaw]
theorem Ht {g:Tg} {t:T} {τ τ':Ft} (h:B7 g t τ=some τ'):τ'.length=τ.length:=by
 cases g with
 | nm k=>cases h; rw [aaw]
 | tp is=>cases t <;> first | cases h | exact Ex h
noncomputable def F5 (nl:Nat) (fr:List Nat) (τ:Ft):Ft:=aak nl none ++ fr.map fun j=>(τ[j]?).join
theorem OX (nl:Nat) (fr:List Nat) (τ:Ft):dτ (F5 nl fr τ)=blk nl fr (dτ τ):=by
 unfold dτ F5 blk
 rw [aap,abb,aaT]
 congr 1
 refine aba fun j _=>?_
 simp only [Function.comp,aaj]
 cases τ[j]? with
 | none=>rfl
 | some o=>rfl
theorem OY (nl:Nat) (fr:List Nat) (τ:Ft):vτ (F5 nl fr τ)=A6 nl fr (vτ τ):=by
 unfold vτ F5 A6
 rw [aap,abb,aaT]
 congr 1
 refine aba fun j _=>?_
 simp only [Function.comp,aaj]
 cases τ[j]? with
 | none=>rfl
 | some o=>rfl
noncomputable abbrev tnB (nl:Nat) (fr:List Nat) (tn:List Nat):List Nat:=aak nl 0 ++ fr.map fun j=>tn.getD j 99
theorem JI {nl:Nat} {fr:List Nat} {tn:List Nat} {τ:Ft} {i:Nat} {t:T} {j:Nat} (h:(F5 nl fr τ)[i]?=some (some t)) (hj:(tnB nl fr tn)[i]?=some j) (hlt:j < 90):∃ k:Nat,τ[k]?=some (some t)/\tn[k]?=some j:=by
 unfold F5 at h
 unfold tnB at hj
 by_cases hi:i < nl
 ·rw [aaF (by simpa using hi),aaU] at h
  split at h <;> cases h
 ·rw [aaB (by simpa using hi),aa4,aaj] at h hj
  obtain ⟨k,e1,e2⟩:=aar.mp h
  rw [e1] at hj
  have e3:tn.getD k 99=j:=by simpa using hj
  refine ⟨k,?_,?_⟩
  ·cases w:τ[k]? with
   | none=>rw [w] at e2; cases e2
   | some o=>rw [w] at e2; exact congrArg some e2
  ·rw [aaJ] at e3
   cases w:tn[k]? with
   | none=>rw [w] at e3; simp at e3; omega
   | some x=>rw [w] at e3; exact congrArg some e3
theorem T.nds_append {ts us:List T} {k:Nat} (h1:T.Nds ts k) (h2:T.Nds us k) (c1:∀ a ∈ T.adrs ts k,a ∉ T.rests us 0) (c2:∀ a ∈ T.adrs us k,a ∉ T.rests ts 0):T.Nds (ts ++ us) k:=by
 unfold T.Nds
 rw [T.adrs_append,T.rests_append]
 refine ⟨acJ.mpr ⟨h1.1,h2.1,fun a ha b hb e=>?_⟩,fun a ha hb=>?_⟩
 ·subst e; exact c1 a ha ((T.alls_iff us k).mpr (.inl hb))
 ·rcases aaf.mp ha with ha | ha <;> rcases aaf.mp hb with hb | hb
  ·exact h1.2 a ha hb
  ·exact c2 a hb ((T.alls_iff ts k).mpr (.inr ha))
  ·exact c1 a hb ((T.alls_iff us k).mpr (.inr ha))
  ·exact h2.2 a ha hb
theorem E7 {f:D->Res (Option D)}:∀ (ds:List D) (c:Nat),A3 f ds ≠ .exc c
 | [],c=>by simp [A3]
 | d :: ds,c=>by
  simp only [A3]
  cases f d with
  | ok o =>
   simp only
   cases q:A3 f ds with
   | ok r=>simp
   | exc c'=>exact absurd q (E7 ds c')
   | bad=>simp
  | exc c'=>simp
  | bad=>simp
theorem I0 {f:D->Res (Option D)} {d:D} {ds r:List D} (h:A3 f (d :: ds)=.ok r):∃ o r',f d=.ok o/\A3 f ds=.ok r'/\r=o.toList ++ r':=by
 simp only [A3] at h
 cases q:f d with
 | ok o =>
  rw [q] at h
  obtain ⟨r',h1,h2⟩:=Res.bind_eq_ok h
  cases h2
  refine ⟨o,r',rfl,h1,?_⟩
  cases o <;> rfl
 | exc c=>rw [q] at h; cases h
 | bad=>rw [q] at h; cases h
noncomputable abbrev EX0:EXT:=fun _ _ _ _=>False
section
variable {p:Px} {EX:EXT} {tn:List Nat} {X:Cx} {pos np:Pos}
theorem JJ {K:Frag} {nl:Nat} {fr:List Nat} {g:Tg} {it:It} {k:Nat} {f:D->Res (Option D)} {tc:TT} {elt:E} {τ:Ft} {H:Hp} {Q:VK} {ji:Nat} (hF:Fok p tn τ H) (hji:jkI tn it=some ji) (hg:∀ i ∈ g.sl,i < nl) (hk:jk (tnB nl fr tn) elt=some (0,k))
  (hf:∀ (d:D) (o:Option D),f d=.ok o->∃ δ',CG g d (blk nl fr (dτ τ))=some δ'/\∀ (τ4:Ft) (H3:Hp) (N:Bool->Hp->Prop),dτ τ4=δ'->Fok p (tnB nl fr tn) τ4 H3 ->
   (∀ b H5,Same H3 H5->(match o with | none=>b=false | some x=>b=true/\ev elt δ'=.ok x)->N b H5)->tc (vτ τ4) H3 N)
  (h:Lg p EX (vτ τ) ((evI it (dτ τ)).bind fun ds=>(A3 f ds).bind fun r=>.ok (.lst r)) H (KE p (Sh tn τ) H 0 (k + 1) Q)) :
  Fv nl fr (lI p EX tn it) (fun _=>lG K g) (fun _=>tc) (fun _=>lE p EX0 (tnB nl fr tn) elt) (vτ τ) H Q:=by
 refine ⟨τ,rfl,hF,ji,hji,h.bind.mono (Same.refl _) fun ds _ hd J us H1 IT=>?_⟩
 cases q:A3 f ds with
 | exc c=>exact absurd q (E7 ds c)
 | bad=>rw [q] at hd; exact nE hd
 | ok r =>
 rw [q] at hd
 have hd:KE p (Sh tn τ) H 0 (k + 1) Q (.lst r):=hd
 intro z D hD
 have hDH:H D=none:=IT.same.free hD
 refine ⟨fun i m acc H2=>m=ds.length - i/\i<=ds.length/\∃ (ts:List T) (r':List Pu.D),acc=ts.map T.val/\A3 f (ds.drop i)=.ok r'/\T.dats ts ++ r'=r/\ts.length<=i/\H2 D=some (.lst acc)/\(∀ a u,a ≠ D->H1 a=some u->H2 a=some u) /\
  T.Oks p H2 ts/\(∀ a ∈ T.rests ts 0,(H a=none\/Sh tn τ a)/\a ≠ D)/\(∀ a ∈ T.adrs ts k,H1 a=none/\∃ vs,H2 a=some (.lst vs))/\T.Nds ts k,⟨ds.length,by simp,aay _,[],r,rfl,by simpa using q,rfl,aan _,AJ,fun a u n e=>by rw [Al n]; exact e,trivial,by simp [T.rests],by simp [T.adrs],by simp [T.Nds,T.adrs]⟩,?_⟩
 rintro i m acc H2 ⟨rfl,hi,ts,r',rfl,hr,hc,hts,hD2,kp,ok,src,new,nd⟩
 refine ⟨hD2,?_⟩
 have s2:Same H H2:=fun a u e=>kp a u (fun z=>by rw [z,hDH] at e; cases e) (IT.same a u e)
 have usok:T.Oks p H2 us:=T.oks_iff.mpr fun u hu=>(T.oks_iff.mp IT.ok u hu).keep fun a w e _=>kp a w (fun z=>by rw [z,hD] at e; cases e) e
 have out:D ∉ T.rests ts 0:=fun m=>(src D m).2 rfl
 rcases acA i ds.length with hlt | hge
 ·refine .inr ⟨IT.go i H2 usok hlt,fun x H3 y=>?_⟩
  have hdi:ds[i]?=some ds[i]:=aai hlt
  obtain ⟨s3,t,rfl,ht,tok,tus,tsrc⟩:=IT.yld i H2 x H3 ds[i] usok hdi y
  have hdrop:ds.drop i=ds[i] :: ds.drop (i + 1):=abJ hlt
  rw [hdrop] at hr
  obtain ⟨o,r'',hfo,hr'',rfl⟩:=I0 hr
  obtain ⟨δ',hasg,hev⟩:=hf _ o hfo
  rw [<- ht,<- OX,E5] at hasg
  obtain ⟨τ4,h4,hδ⟩:=aar.mp hasg
  have sH3:Same H H3:=s2.trans s3
  have tusD:∀ a ∈ t.rest 0,a ≠ D:=fun a m z=>by
   obtain ⟨w,hw,m⟩:=T.mem_rests.mp (tus a m)
   exact (T.oks_iff.mp IT.ok w hw).dom m (z ▸ hD)
  have slot:∀ (n:Nat) (w:T),τ4[n]?=some (some w)->(w.Ok p H3/\∀ a ∈ w.rest 0,(H a=none\/Sh tn τ a)/\a ≠ D/\H1 a ≠ none)\/(n ∉ g.sl/\(F5 nl fr τ)[n]?=some (some w)):=by
   intro n w e
   refine (GA (P:=fun o=>∀ w,o=some w->(w.Ok p H3/\∀ a ∈ w.rest 0,(H a=none\/Sh tn τ a)/\a ≠ D/\H1 a ≠ none)) h4 (fun w e=>?_) (fun a ts' e u hu w e'=>?_) n (some w) e).imp (fun q=>q w rfl) id
   ·cases e
    refine ⟨tok,fun a m=>⟨tsrc a m,tusD a m,fun z=>?_⟩⟩
    obtain ⟨w',hw',m'⟩:=T.mem_rests.mp (tus a m)
    exact (T.oks_iff.mp IT.ok w' hw').dom m' z
   ·cases e'
    have sub:∀ b ∈ u.rest 0,b ∈ t.rest 0:=fun b m=>by
     rcases e with rfl | rfl
     ·exact T.mem_rests.mpr ⟨u,hu,m⟩
     ·exact aaa _ (T.mem_rests.mpr ⟨u,hu,m⟩)
    have uok:u.Ok p H3:=by
     rcases e with rfl | rfl
     ·exact T.oks_iff.mp tok.2 u hu
     ·exact T.oks_iff.mp tok.2 u hu
    refine ⟨uok,fun b m=>?_⟩
    have m:=sub b m
    refine ⟨tsrc b m,tusD b m,fun z=>?_⟩
    obtain ⟨w',hw',m'⟩:=T.mem_rests.mp (tus b m)
    exact (T.oks_iff.mp IT.ok w' hw').dom m' z
  have F4:Fok p (tnB nl fr tn) τ4 H3:=fun n w j e ej hj=>by
   rcases slot n w e with q | ⟨_,q⟩
   ·exact q.1
   ·obtain ⟨k',e1,e2⟩:=JI q ej hj
    exact (hF k' w j e1 e2 hj).same sH3
  have S4:∀ a,Sh (tnB nl fr tn) τ4 a->(H a=none\/Sh tn τ a)/\a ≠ D/\H1 a ≠ none:=by
   rintro a ⟨n,w,j,e,ej,hj,m⟩
   rcases slot n w e with q | ⟨_,q⟩
   ·exact q.2 a (T.rest_le w (aay j) m)
   ·obtain ⟨k',e1,e2⟩:=JI q ej hj
    have sh:Sh tn τ a:=⟨k',w,j,e1,e2,hj,m⟩
    have hd:=hF.dom sh
    exact ⟨.inr sh,fun z=>hd (z ▸ hDH),fun z=>hd (IT.same.free z)⟩
  rw [<- OY]
  refine Ko tok h4 (hev τ4 H3 _ hδ F4 fun b H5 s5 hb=>?_)
  have s25:Same H2 H5:=s3.trans s5
  cases o with
  | none =>
   subst hb
   rw [if_neg (by decide)]
   refine ⟨ds.length - (i + 1),by omega,rfl,hlt,ts,r'',rfl,hr'',?_,by omega,s25 _ _ hD2,fun a u n e=>s25 _ _ (kp a u n e),ok.same s25,src,fun a m=>⟨(new a m).1,let ⟨vs,e⟩:=(new a m).2; ⟨vs,s25 _ _ e⟩⟩,nd⟩
   simpa using hc
  | some xo =>
   obtain ⟨rfl,he⟩:=hb
   rw [if_pos rfl]
   refine ⟨τ4,rfl,F4.same s5,0,k,hk,?_⟩
   rw [hδ,he]
   intro t' H6 ht' R
   have s26:Same H2 H6:=s25.trans R.same
   have hD6:H6 D=some (.lst (ts.map T.val)):=s26 _ _ hD2
   refine ⟨hD6,by rw [aab]; exact aaL hts (aax hlt IT.len),ds.length - (i + 1),by omega,rfl,hlt,ts ++ [t'],r'',by simp,hr'',?_,by simp; omega,AJ,fun a u n e=>by rw [Al n]; exact s26 _ _ (kp a u n e),?_,?_,?_,?_⟩
   ·rw [T.dats_map,aap,<- T.dats_map]
    simpa [ht'] using hc
   ·-- all of them stand
    have tD:∀ a ∈ t'.rest 0,a ≠ D:=fun a m z=>by
     rcases R.src a m with q | q
     ·rw [z,s25 _ _ hD2] at q; cases q
     ·exact (S4 a q).2.1 z
    refine T.oks_iff.mpr fun w hw=>?_
    have kk:(∀ a ∈ w.rest 0,a ≠ D)->w.Ok p H6->w.Ok p (L2.upd H6 D (.lst (ts.map T.val ++ [t'.val]))):=fun hne hok=>hok.keep fun a u e hq=>by
     rw [Al ?_]; exact e
     rintro rfl
     rcases hq with hq | hq
     ·exact hne a hq rfl
     ·rw [hD6] at e
      exact hq _ (Option.some.inj e).symm
    rcases aaf.mp hw with hw | hw
    ·exact kk (fun a m=>(src a (T.mem_rests.mpr ⟨w,hw,m⟩)).2) ((T.oks_iff.mp ok w hw).same s26)
    ·cases aav.mp hw
     exact kk tD R.ok
   ·intro a m
    rw [T.rests_append,aaf] at m
    rcases m with m | m
    ·exact src a m
    ·have m:a ∈ t'.rest 0:=by simpa [T.rests] using m
     rcases R.src a m with q | q
     ·exact ⟨.inl (sH3.trans s5 |>.free q),fun z=>by rw [z,s25 _ _ hD2] at q; cases q⟩
     ·exact ⟨(S4 a q).1,(S4 a q).2.1⟩
   ·intro a m
    rw [T.adrs_append,aaf] at m
    rcases m with m | m
    ·obtain ⟨n1,vs,e⟩:=new a m
     have aD:a ≠ D:=fun z=>out (by rw [<- z]; exact (T.alls_iff ts k).mpr (.inl m))
     refine ⟨n1,vs,?_⟩
     rw [Al aD]
     exact s26 _ _ e
    ·have m:a ∈ t'.adr k:=by simpa [T.adrs] using m
     obtain ⟨n1,vs,e⟩:=R.new a m
     have aD:a ≠ D:=fun z=>by rw [z,s25 _ _ hD2] at n1; cases n1
     refine ⟨?_,vs,by rw [Al aD]; exact e⟩
     cases w:H1 a with
     | none=>rfl
     | some u=>rw [s25 _ _ (kp a u aD w)] at n1; cases n1
   ·refine T.nds_append nd (T.nds_cons.mpr ⟨R.nd,by simp [T.Nds,T.adrs],by simp [T.rests],by simp [T.adrs]⟩) (fun a m m'=>?_) (fun a m m'=>?_)
    ·have m':a ∈ t'.rest 0:=by simpa [T.rests] using m'
     rcases R.src a m' with q | q
     ·obtain ⟨_,vs,e⟩:=new a m
      rw [s25 _ _ e] at q; cases q
     ·exact (S4 a q).2.2 (new a m).1
    ·have m:a ∈ t'.adr k:=by simpa [T.adrs] using m
     obtain ⟨w,hw,m'⟩:=T.mem_rests.mp m'
     exact ((T.oks_iff.mp ok w hw).same s25).dom m' (R.new a m).1
 ·have hil:i=ds.length:=acl hi hge
  refine .inl ⟨IT.stop i H2 usok hge,hd (.lst D ts) H2 ?_ ⟨s2,⟨.inl hD2,ok⟩,fun a m=>?_,fun a m=>?_,?_,fun a m m'=>?_⟩⟩
  ·subst hil
   rw [List.drop_length] at hr
   simp only [A3] at hr
   cases hr
   simp only [T.dat,aaN] at hc ⊢
   rw [hc]
  ·simp only [T.rest,aal] at m
   rcases m with rfl | m
   ·exact .inl hDH
   ·exact (src a m).1
  ·simp only [T.adr,aal] at m
   rcases m with rfl | m
   ·exact ⟨hDH,_,hD2⟩
   ·exact ⟨IT.same.free (new a m).1,(new a m).2⟩
  ·simp only [T.adr,aaE]
   exact ⟨fun m=>out ((T.alls_iff ts k).mpr (.inl m)),nd.1⟩
  ·simp only [T.adr,T.rest,aal] at m m'
   rcases m' with rfl | m'
   ·exact out ((T.alls_iff ts k).mpr (.inr m))
   ·exact nd.2 a m m'
structure ScOk (X:Cx) (scope:Scope) (loc:List Str) (fr:List Nat) (frn:List Str):Prop where
 hfr:∀ (j:Nat) (k:Nat) (x:Str),fr[j]?=some k->frn[j]?=some x->X.N[k]?=some x/\X.env.kindOf x=some .cell/\(x,NameKind.free) ∈ scope.names
 hln:frn.length=fr.length
 hcell:∀ y ∈ scope.names,y.2 ≠ .cell
 hkind:scope.kind=.function
 hnames:∀ y ∈ scope.names,y.2=.local->scope.names.lookup y.1=some .local
 hfree:∀ y ∈ scope.names,y.2=.free->X.env.kindOf y.1=some .cell
 hkin:∀ (x:Str),x ∈ frn->(relabel scope X.env).names.lookup x=some .cell
 hsc:X.env.scope.kind=.function
theorem Ia {K:Frag} {nl:Nat} {fr:List Nat} {g:Tg} {it:It} {elt:E} {σ:L2.St} {H:Hp} {Q:VK} (hg:∀ i ∈ g.sl,i < nl) (h:lE p EX tn (.comp0 nl fr g it elt) σ H Q):Fv nl fr (lI p EX tn it) (fun _=>lG K g) (fun _=>NV) (fun _=>lE p EX0 (tnB nl fr tn) elt) σ H Q:=by
 obtain ⟨τ,rfl,hF,j,k,hj,h⟩:=h
 simp only [jk] at hj
 obtain ⟨ji,h1,hj⟩:=bS hj
 obtain ⟨⟨j2,k2⟩,h2,hj⟩:=bS hj
 obtain ⟨hc,e⟩:=CJ hj
 cases e
 have hc:j2=0:=of_decide_eq_true hc
 subst hc
 simp only [ev] at h
 refine JJ hF h1 hg h2 (fun d o e=>?_) h
 split at e
 ·rename_i δ' hd
  obtain ⟨x,e1,e2⟩:=Res.bind_eq_ok e
  cases e2
  exact ⟨δ',hd,fun τ4 H3 N _ _ hN=>hN true H3 (Same.refl _) ⟨rfl,e1⟩⟩
 ·cases e
theorem Ib {K:Frag} {nl:Nat} {fr:List Nat} {g:Tg} {it:It} {cond elt:E} {σ:L2.St} {H:Hp} {Q:VK} (hg:∀ i ∈ g.sl,i < nl) (h:lE p EX tn (.comp1 nl fr g it cond elt) σ H Q):Fv nl fr (lI p EX tn it) (fun _=>lG K g) (fun _=>lT p EX0 (tnB nl fr tn) cond) (fun _=>lE p EX0 (tnB nl fr tn) elt) σ H Q:=by
 obtain ⟨τ,rfl,hF,j,k,hj,h⟩:=h
 simp only [jk] at hj
 obtain ⟨ji,h1,hj⟩:=bS hj
 obtain ⟨q3,h3,hj⟩:=bS hj
 obtain ⟨⟨j2,k2⟩,h2,hj⟩:=bS hj
 obtain ⟨hc,e⟩:=CJ hj
 cases e
 have hc:j2=0:=of_decide_eq_true hc
 subst hc
 simp only [ev] at h
 refine JJ hF h1 hg h2 (fun d o e=>?_) h
 split at e
 ·rename_i δ' hd
  obtain ⟨b,e1,e2⟩:=Res.bind_eq_ok e
  refine ⟨δ',hd,fun τ4 H3 N e4 F4 hN=>⟨τ4,rfl,F4,by rw [h3]; rfl,?_⟩⟩
  unfold tv
  rw [e4,e1]
  intro H5 s5
  refine hN b H5 s5 ?_
  cases b with
  | true =>
   rw [if_pos rfl] at e2
   obtain ⟨x,e5,e6⟩:=Res.bind_eq_ok e2
   cases e6
   exact ⟨rfl,e5⟩
  | false =>
   rw [if_neg (by decide)] at e2
   cases e2; rfl
 ·cases e
theorem LH {elt tg iter:Expr} {scope:Scope} {loc:List Str} {fr:List Nat} {frn:List Str} {g:Tg} {it:It} {x:E} (hc:X.calm=true) (S:ScOk X scope loc fr frn) (hi:PI X tg iter (lI p EX tn it)) (hg:∀ i ∈ g.sl,i < loc.length)
  (hb:∀ z:Bk,PG (X.blk scope z.C z.fp (loc ++ frn) z.s z.H) tg (lG X.K g)/\PE (X.blk scope z.C z.fp (loc ++ frn) z.s z.H) elt (lE p EX0 (tnB loc.length fr tn) x)) (hs:∀ y,foldedSetIterable iter X.env y=pure y) :
  PE X (.ListComp elt [⟨tg,iter,[],0⟩] scope pos) (lE p EX tn (.comp0 loc.length fr g it x)) :=
 PE.mono (Jy loc fr frn hc hi S.hfr S.hln S.hcell S.hkind S.hnames S.hfree S.hkin S.hsc (fun _ _ _ _ _ h=>Fz hg h) (fun z=>⟨(hb z).1,Jw,(hb z).2⟩) hs) fun σ H Q h=>Ia hg h
theorem LJ {elt tg iter cnd:Expr} {scope:Scope} {loc:List Str} {fr:List Nat} {frn:List Str} {g:Tg} {it:It} {c x:E} (hc:X.calm=true) (S:ScOk X scope loc fr frn) (hi:PI X tg iter (lI p EX tn it)) (hg:∀ i ∈ g.sl,i < loc.length)
  (hb:∀ z:Bk,PG (X.blk scope z.C z.fp (loc ++ frn) z.s z.H) tg (lG X.K g)/\PT (X.blk scope z.C z.fp (loc ++ frn) z.s z.H) cnd (lT p EX0 (tnB loc.length fr tn) c)/\PE (X.blk scope z.C z.fp (loc ++ frn) z.s z.H) elt (lE p EX0 (tnB loc.length fr tn) x)) (hs:∀ y,foldedSetIterable iter X.env y=pure y) :
  PE X (.ListComp elt [⟨tg,iter,[cnd],0⟩] scope pos) (lE p EX tn (.comp1 loc.length fr g it c x)) :=
 PE.mono (Jy loc fr frn hc hi S.hfr S.hln S.hcell S.hkind S.hnames S.hfree S.hkin S.hsc (fun _ _ _ _ _ h=>Fz hg h) (fun z=>⟨(hb z).1,Jx (hb z).2.1,(hb z).2.2⟩) hs) fun σ H Q h=>Ib hg h
theorem PS.mono {X:Cx} {st:Stmt} {t t':TS} (h:PS X st t) (m:∀ D σ H,t' D σ H->t D σ H):PS X st t':=fun pins s σ H D I q=>h pins s σ H D I (m _ _ _ q)
theorem Kp {elt tg iter:Expr} {scope:Scope} {loc:List Str} {fr:List Nat} {frn:List Str} {g:Tg} {it:It} {x:E} {y:Str} {k:Nat} {py spos:Pos} (hc:X.calm=true) (S:ScOk X scope loc fr frn) (hi:PI X tg iter (lI p EX tn it)) (hg:∀ i ∈ g.sl,i < loc.length)
  (hb:∀ z:Bk,PG (X.blk scope z.C z.fp (loc ++ frn) z.s z.H) tg (lG X.K g)/\PE (X.blk scope z.C z.fp (loc ++ frn) z.s z.H) elt (lE p EX0 (tnB loc.length fr tn) x)) (hs:∀ y,foldedSetIterable iter X.env y=pure y)
  (hN:X.N.Nodup) (hk:X.N[k]?=some y) (hx:Loc X.env.scope y) (hf:X.fn y=true\/X.env.scope.names.lookup y=some .local) (hsw:swapsWith (.ListComp elt [⟨tg,iter,[],0⟩] scope pos) (some (.Name y py)) spos.line X.env=pure true) :
  PS X (.Assign [.Name y py] (.ListComp elt [⟨tg,iter,[],0⟩] scope pos) spos) (EV (lE p EX tn (.comp0 loc.length fr g it x)) (D8 k)) :=
 PS.mono (Gr loc fr frn hc hi S.hfr S.hln S.hcell S.hkind S.hnames S.hfree S.hkin S.hsc (fun _ _ _ _ _ h=>Fz hg h) (fun z=>⟨(hb z).1,Jw,(hb z).2⟩) hs hN hk hx hf hsw) fun D σ H h=>Ia hg h
theorem Kq {elt tg iter cnd:Expr} {scope:Scope} {loc:List Str} {fr:List Nat} {frn:List Str} {g:Tg} {it:It} {c x:E} {y:Str} {k:Nat} {py spos:Pos} (hc:X.calm=true) (S:ScOk X scope loc fr frn) (hi:PI X tg iter (lI p EX tn it)) (hg:∀ i ∈ g.sl,i < loc.length)
  (hb:∀ z:Bk,PG (X.blk scope z.C z.fp (loc ++ frn) z.s z.H) tg (lG X.K g)/\PT (X.blk scope z.C z.fp (loc ++ frn) z.s z.H) cnd (lT p EX0 (tnB loc.length fr tn) c)/\PE (X.blk scope z.C z.fp (loc ++ frn) z.s z.H) elt (lE p EX0 (tnB loc.length fr tn) x)) (hs:∀ y,foldedSetIterable iter X.env y=pure y)
  (hN:X.N.Nodup) (hk:X.N[k]?=some y) (hx:Loc X.env.scope y) (hf:X.fn y=true\/X.env.scope.names.lookup y=some .local) (hsw:swapsWith (.ListComp elt [⟨tg,iter,[cnd],0⟩] scope pos) (some (.Name y py)) spos.line X.env=pure true) :
  PS X (.Assign [.Name y py] (.ListComp elt [⟨tg,iter,[cnd],0⟩] scope pos) spos) (EV (lE p EX tn (.comp1 loc.length fr g it c x)) (D8 k)) :=
 PS.mono (Gr loc fr frn hc hi S.hfr S.hln S.hcell S.hkind S.hnames S.hfree S.hkin S.hsc (fun _ _ _ _ _ h=>Fz hg h) (fun z=>⟨(hb z).1,Jx (hb z).2.1,(hb z).2.2⟩) hs hN hk hx hf hsw) fun D σ H h=>Ib hg h
end
structure CkC where
 N:List Str
 sc:Scope
 fn:Bool
 rz:Bool
 cm:Bool
noncomputable def Dx (sc:Scope) (x:Str):Bool:=match sc.names.lookup x with
 | some .local=>true
 | some .cell=>true
 | some .free=>true
 | _=>false
noncomputable def EH (c:CkC) (x:Str):Bool:=match c.sc.names.lookup x with
 | some .local=>true
 | some .cell=>c.fn
 | _=>false
noncomputable def glB (sc:Scope) (x:Str):Bool:=match sc.names.lookup x with
 | some .globalImplicit=>true
 | _=>false
noncomputable def AS (x:Str):Bool:=!(x==("__debug__" : Str)) && !(x==("__classdict__" : Str))
noncomputable def Eb (scope outer:Scope):Scope :=
 { scope with names:=scope.names.map fun (n,k)=>if (k==.free && outer.kind==.function && outer.names.lookup n==some .cell) then (n,.cell) else (n,k) }
theorem Ic (scope:Scope) (env:Env):relabel scope env=Eb scope env.scope:=rfl
noncomputable def Dn:List Str:=["len", "min", "max", "abs", "int", "list", "tuple", "all", "any", "sum", "sorted", "isinstance", "str", "range", "enumerate", "zip", "reversed"]
noncomputable def ckG (c:CkC):Tg->Expr->Bool
 | .nm i,.Name x _=>(c.N[i]?==some x) && EH c x
 | .tp is,.Tuple es _ _=>ckGs c is es && c.cm
 | _,_=>false
where ckGs (c:CkC):List Nat->List Expr->Bool
 | [],[]=>true
 | i :: is,.Name x _ :: es=>(c.N[i]?==some x) && EH c x && ckGs c is es
 | _,_=>false
noncomputable def scB (c:CkC) (scope:Scope) (loc:List Str) (fr:List Nat) (frn:List Str):Bool :=
 decide (frn.length=fr.length) && ((fr.zip frn).all fun q=>(c.N[q.1]?==some q.2) && (c.sc.names.lookup q.2==some .cell) && scope.names.contains (q.2,NameKind.free)) &&
 (scope.names.all fun y=>(y.2 != .cell) && (y.2 != .local || scope.names.lookup y.1==some .local) && (y.2 != .free || c.sc.names.lookup y.1==some .cell)) && (scope.kind==.function) && (c.sc.kind==.function) &&
 (frn.all fun x=>(Eb scope c.sc).names.lookup x==some .cell) && decide (loc ++ frn).Nodup
noncomputable def EI (c:CkC) (fr:List Nat):List Str:=fr.map fun j=>c.N.getD j ""
noncomputable def DD:Expr->List Str
 | .Name x _=>[x]
 | .Tuple es _ _=>es.filterMap fun | .Name x _=>some x | _=>none
 | _=>[]
noncomputable def NZ:Expr->Bool
 | .Tuple _ _ _=>true
 | _=>false
noncomputable def N0:Expr->Option (Str × Pos)
 | .Name x p=>some (x,p)
 | _=>none
theorem M4 {e:Expr} {x:Str} {p:Pos} (h:N0 e=some (x,p)):e=.Name x p:=by cases e <;> cases h <;> rfl
noncomputable def QX:Expr->Option (Expr × List Expr × List Keyword × Pos)
 | .Call f xs ks p=>some (f,xs,ks,p)
 | _=>none
theorem OZ {e f:Expr} {xs:List Expr} {ks:List Keyword} {p:Pos} (h:QX e=some (f,xs,ks,p)):e=.Call f xs ks p:=by cases e <;> cases h <;> rfl
noncomputable def Kr (e:Expr):Option (Str × List Expr):=(QX e).bind fun c=>(N0 c.1).bind fun n=>if c.2.2.1.isEmpty=true then some (n.1,c.2.1) else none
theorem M5 {e:Expr} {x:Str} {xs:List Expr} (h:Kr e=some (x,xs)):∃ p1 p2,e=.Call (.Name x p1) xs [] p2:=by
 unfold Kr at h
 obtain ⟨c,g1,h⟩:=bS h
 obtain ⟨n,g2,h⟩:=bS h
 have E:=OZ g1
 rw [M4 g2] at E
 clear g1 g2
 split at h
 ·rename_i hc
  rw [List.isEmpty_iff.mp hc] at E
  cases h
  exact ⟨_,_,E⟩
 ·cases h
noncomputable def Dg:Expr->Bool
 | .Set _ _ _=>false
 | _=>true
noncomputable def F6:List Str:=["RoomError", "BadShape", "NoNode", "NoPage", "NotRooms", "NotATree", "BadRoom", "Unlike", "BadScale", "BadStore", "BadName", "BadLength", "Twice", "Full", "NoThing", "NoDeed", "NoLine"]
noncomputable def AD (n:Nat):Str:=F6.getD n "RoomError"
theorem Ks (n:Nat):(AD n==("__debug__" : Str))=false:=by
 have h:∀ x ∈ F6,(x==("__debug__" : Str))=false:=by decide
 unfold AD
 rw [aaJ]
 cases q:F6[n]? with
 | none=>decide
 | some x=>exact h x (aae q)
noncomputable def GS:Kd->String
 | .int => "int"
 | .bool => "bool"
 | .str => "str"
 | .list => "list"
 | .tuple => "tuple"
 | .dict => "dict"
 | .verr => "ValueError"
 | .cls _ => ""
noncomputable def Ey:Kd->Str
 | .cls n=>AD n
 | k=>Str.ofString (GS k)
noncomputable def M6 (c:CkC) (k:Kd):Expr->Bool
 | .Name x _=>(x==Ey k) && glB c.sc x
 | _=>false
noncomputable def LK:Bi->Str
 | .len => "len"
 | .min => "min"
 | .max => "max"
 | .maxL => "max"
 | .int => "int"
 | .list => "list"
noncomputable def QY:Bi->Bool
 | _=>true
noncomputable def E8:Bi->Bool
 | .len=>true
 | .int=>true
 | .list=>true
 | _=>false
mutual
noncomputable def E.tst:E->Bool
 | .not a=>a.tst
 | .bo _ es=>es.tsts
 | _=>true
noncomputable def Es.tsts:Es->Bool
 | .nil=>true
 | .cons e r=>e.tst && r.tsts
end
noncomputable def FA (gens:List Comprehension) (f:Expr->Expr->List Expr->Bool):Bool:=match gens with
 | [⟨tg,iter,ifs,n⟩]=>decide (n=0) && f tg iter ifs
 | _=>false
noncomputable def Kt (es:List Expr) (f:Expr->Bool):Bool:=match es with
 | [e]=>f e
 | _=>false
theorem DE {gens:List Comprehension} {f:Expr->Expr->List Expr->Bool} (h:FA gens f=true):∃ tg iter ifs,gens=[⟨tg,iter,ifs,0⟩]/\f tg iter ifs=true:=by
 unfold FA at h
 split at h
 ·rw [aah] at h
  cases of_decide_eq_true h.1
  exact ⟨_,_,_,rfl,h.2⟩
 ·cases h
theorem Id {es:List Expr} {f:Expr->Bool} (h:Kt es f=true):∃ e,es=[e]/\f e=true:=by
 unfold Kt at h
 split at h
 ·exact ⟨_,rfl,h⟩
 ·cases h
noncomputable def LM:Expr->Bool
 | .Constant .none _ _=>true
 | _=>false
noncomputable def GB (b:Bool) (f:Expr->Bool):Option Expr->Bool
 | none=>b
 | some l=>!b && f l
mutual
noncomputable def ckE (c:CkC):E->Expr->Bool
 | .nm i,.Name x _=>(c.N[i]?==some x) && Dx c.sc x && AS x
 | .cN,.Constant .none _ _=>true
 | .cB b,.Constant (.bool b') _ _=>b==b'
 | .cI i,.Constant (.int i') _ _=>i==i'
 | .cS x,.Constant (.str x') _ _=>x==x'
 | .gl x d,.Name y _=>(x==y) && glB c.sc y && AS y && D.scal d
 | .tup es,.Tuple xs _ _=>ckEs c es xs && decide (es.len<=1000)
 | .lst es,.List xs _=>ckEs c es xs && decide (es.len<=1000)
 | .bin o a b,.BinOp l op r _=>(op==Kh o) && ckE c a l && ckE c b r
 | .neg a,.UnaryOp .USub l _=>ckE c a l
 | .not a,.UnaryOp .Not l _=>ckE c a l
 | .cmp o a b,.Compare l [op] [r] _=>(op==A7 o) && ckE c a l && ckE c b r && Dg r
 | .chain o o' a b d,.Compare l [op,op'] [r,r'] _=>(op==A7 o) && (op'==A7 o') && ckE c a l && ckE c b r && ckE c d r' && Dg r'
 | .isN n a,.Compare l [op] [r] _=>(op==if n then .IsNot else .Is) && LM r && ckE c a l
 | .bo k es,.BoolOp op xs _=>(op==if k then .And else .Or) && ckEs c es xs
 | .ix a i,.Subscript a' i' _=>ckE c a a' && ckE c i i' && AF i'
 | .ixS a i,.Subscript a' i' _=>ckE c a a' && ckE c i i' && AF i'
 | .ixL a i,.Subscript a' i' _=>ckE c a a' && ckE c i i' && AF i'
 | .ixT a i,.Subscript a' i' _=>ckE c a a' && ckE c i i' && AF i'
 | .ixU a i,.Subscript a' i' _=>ckE c a a' && ckE c i i' && AF i'
 | .ixG a i,.Subscript a' i' _=>ckE c a a' && ckE c i i' && AF i'
 | .slc a lo hi,.Subscript a' (.Slice lo' hi' none _) _=>ckE c a a' && GB lo.isCN (ckE c lo) lo' && GB hi.isCN (ckE c hi) hi'
 | .call f es,.Call (.Name x _) xs [] _=>(x==f.name) && glB c.sc x && AS x && ckEs c es xs && decide (es.len=f.ar) && decide (0 < es.len) && c.cm
 | .callB f es,.Call (.Name x _) xs [] _=>(x==f.name) && glB c.sc x && AS x && ckEs c es xs && decide (es.len=f.ar) && decide (0 < es.len) && c.cm
 | .bi b es,.Call (.Name x _) xs [] _=>(x==LK b) && glB c.sc x && QY b && ckEs c es xs && decide (0 < es.len) && (c.cm || E8 b)
 | .isi a k,.Call (.Name x _) [l,r] [] _=>(x==("isinstance" : Str)) && glB c.sc x && ckE c a l && M6 c k r && Ah l
 | .comp0 nl fr g it elt,.ListComp elt' gens scope _=>FA gens fun tg iter ifs=>c.cm && ifs.isEmpty && scB c scope (DD tg) fr (EI c fr) && decide (nl=(DD tg).length) && (g.sl.all fun i=>decide (i < nl)) && ckI c tg it iter && Dg iter &&
   ckG ⟨DD tg ++ EI c fr,Eb scope c.sc,false,false,c.cm⟩ g tg && ckE ⟨DD tg ++ EI c fr,Eb scope c.sc,false,false,c.cm⟩ elt elt'
 | .comp1 nl fr g it cond elt,.ListComp elt' gens scope _=>FA gens fun tg iter ifs=>Kt ifs fun cnd=>c.cm && scB c scope (DD tg) fr (EI c fr) && decide (nl=(DD tg).length) && (g.sl.all fun i=>decide (i < nl)) && ckI c tg it iter && Dg iter &&
   ckG ⟨DD tg ++ EI c fr,Eb scope c.sc,false,false,c.cm⟩ g tg && ckE ⟨DD tg ++ EI c fr,Eb scope c.sc,false,false,c.cm⟩ cond cnd && cond.tst && ckE ⟨DD tg ++ EI c fr,Eb scope c.sc,false,false,c.cm⟩ elt elt'
 | _,_=>false
noncomputable def ckEs (c:CkC):Es->List Expr->Bool
 | .nil,[]=>true
 | .cons e r,x :: xs=>ckE c e x && Ah x && ckEs c r xs
 | _,_=>false
noncomputable def ckI (c:CkC) (tg:Expr):It->Expr->Bool
 | .seq e,x=>ckE c e x
 | .seqL e,x=>ckE c e x
 | .r1 a,.Call (.Name x _) [l] [] _=>(x==("range" : Str)) && glB c.sc x && ckE c a l && Ah l
 | .r2 a b,.Call (.Name x _) [l,r] [] _=>(x==("range" : Str)) && glB c.sc x && ckE c a l && Ah l && ckE c b r && Ah r
 | .en a,.Call (.Name x _) [l] [] _=>(x==("enumerate" : Str)) && glB c.sc x && ckE c a l && Ah l && NZ tg
 | .r3 a b d,.Call (.Name x _) [l,r,o] [] _=>(x==("range" : Str)) && glB c.sc x && ckE c a l && Ah l && ckE c b r && Ah r && ckE c d o && Ah o
 | _,_=>false
end
inductive Nd1 where
 | fn (F:Fn)
 | fm (F:Fn)
 | fc (F:Fn)
 | cl (n:Nat)
 | rs (n:Nat)
 | gl (x:Str) (d:D)
mutual
noncomputable def E.need:E->List Nd1
 | .nm _=>[]
 | .cN=>[]
 | .cB _=>[]
 | .cI _=>[]
 | .cS _=>[]
 | .gl x d=>[.gl x d]
 | .tup es=>es.need
 | .lst es=>es.need
 | .bin _ a b=>a.need ++ b.need
 | .neg a=>a.need
 | .not a=>a.need
 | .cmp _ a b=>a.need ++ b.need
 | .chain _ _ a b c=>a.need ++ (b.need ++ c.need)
 | .isN _ a=>a.need
 | .bo _ es=>es.need
 | .ix a i=>a.need ++ i.need
 | .ixS a i=>a.need ++ i.need
 | .ixL a i=>a.need ++ i.need
 | .ixT a i=>a.need ++ i.need
 | .ixU a i=>a.need ++ i.need
 | .ixG a i=>a.need ++ i.need
 | .slc a lo hi=>a.need ++ (lo.need ++ hi.need)
 | .call f es=>.fn f :: es.need
 | .callB f es=>.fn f :: es.need
 | .bi _ es=>es.need
 | .isi a k=>(match k with | .cls n=>[.cl n] | _=>[]) ++ a.need
 | .comp0 _ _ _ it elt=>it.need ++ elt.need
 | .comp1 _ _ _ it cond elt=>it.need ++ (cond.need ++ elt.need)
noncomputable def Es.need:Es->List Nd1
 | .nil=>[]
 | .cons e r=>e.need ++ r.need
noncomputable def It.need:It->List Nd1
 | .seq e=>e.need
 | .seqL e=>e.need
 | .r1 a=>a.need
 | .r2 a b=>a.need ++ b.need
 | .r3 a b c=>a.need ++ (b.need ++ c.need)
 | .en e=>e.need
end
noncomputable def dT:D->T
 | .bl b=>.bl b
 | .int i=>.int i
 | .str x=>.str x
 | _=>.non
theorem QZ {d:D} (h:D.scal d=true):(dT d).dat=d/\(dT d).sc=true:=by cases d <;> first | exact ⟨rfl,rfl⟩ | cases h
noncomputable def NeedOk (p:Px) (lv:Nat) (X:Cx):Nd1->Prop
 | .fn F=>F.lv<=lv/\Km p X F
 | .fm F=>F.lv<=lv/\QU p X F
 | .fc F=>F.lv<=lv/\QV p X F
 | .cl n=>p.has n=true/\X.mg (AD n)=some (.ref (p.cl n))
 | .rs n=>p.has n=true/\nsIn X.K mainGlobals (AD n)=some (some (.ref (p.cl n)))/\excIn X.K (p.cl n) EE "ValueError.__new__" = true
 | .gl x d=>∃ u,X.mg x=some u/\RelV (dT d).val u
structure Kx (p:Px):Prop where
 no:p.has 999=false
 x:∀ c,p.has c=true->XCls p.K (p.cl c)
 kb:∀ c,p.has c=true->∀ T ∈ (["int", "bool", "str", "list", "tuple", "dict"]:List String),kitOne p.K (.ref (p.cl c)) (.type T)=some false
 kv:∀ c,p.has c=true->kitOne p.K (.ref (p.cl c)) (.type "ValueError")=some true
 kc:∀ c d,p.has c=true->p.has d=true->kitOne p.K (.ref (p.cl c)) (.ref (p.cl d))=some (isa c d)
structure Ct (p:Px) (c:CkC) (lv:Nat) (X:Cx) (EX:EXT):Prop where
 K:X.K=p.K
 N:X.N=c.N
 sc:X.env.scope=c.sc
 nd:X.N.Nodup
 calm:c.cm=true->X.calm=true
 room:c.cm=true->Room lv X.A
 un:X.A.units + 64 < cLine
 blt:∀ y ∈ Dn,X.mg y=none
 bt:∀ y ∈ (["bool", "dict", "ValueError"]:List Str),X.mg y=none
 pass:DX (CXe X.prog X.w) X EX
 fn:c.fn=true->∀ x,X.fn x=true
 kx:Kx p
 ph:c.rz=true->True
section
variable {p:Px} {c:CkC} {lv:Nat} {X:Cx} {EX:EXT} {tn:List Nat} {pos np:Pos}
theorem Ct.gl (C:Ct p c lv X EX) {x:Str} (h:glB c.sc x=true):Gl X x:=by
 unfold glB at h
 show X.env.scope.names.lookup x=_
 rw [C.sc]
 split at h
 ·assumption
 ·cases h
theorem Ct.vis (C:Ct p c lv X EX) {x:Str} (h:Dx c.sc x=true):Vis X.env.scope x:=by
 unfold Dx at h
 unfold Vis
 rw [C.sc]
 split at h
 ·exact .inl ‹_›
 ·exact .inr (.inl ‹_›)
 ·exact .inr (.inr ‹_›)
 ·cases h
theorem Ct.loc (C:Ct p c lv X EX) {x:Str} (h:EH c x=true):L2.Loc X.env.scope x/\(X.fn x=true\/X.env.scope.names.lookup x=some .local):=by
 unfold EH at h
 unfold L2.Loc
 rw [C.sc]
 split at h
 ·rename_i e; exact ⟨.inl e,.inr e⟩
 ·rename_i e; exact ⟨.inr e,.inl (C.fn h x)⟩
 ·cases h
theorem Ba {x:Str} (h:AS x=true):(x==("__debug__" : Str))=false/\(x==("__classdict__" : Str))=false:=by
 unfold AS at h
 rw [aah,abU,abU] at h
 exact h
theorem Ct.hu (C:Ct p c lv X EX):X.A.units + 64 < cLine:=C.un
theorem N1 (C:Ct p c lv X EX):∀ {is:List Nat} {es:List Expr},ckG.ckGs c is es=true->PGs X es (B8 is)/\(assignEach es X.env).length=is.length/\(assignEach es X.env).findIdx? (·.1)=none
 | [],[],_=>⟨Oc,rfl,rfl⟩
 | [],e :: es,h=>nF h
 | i :: is,[],h=>nF h
 | i :: is,e :: es,h=>by
  cases e with
  | Name x q =>
   have h:((c.N[i]?==some x) && EH c x && ckG.ckGs c is es)=true:=h
   rw [aah,aah] at h
   obtain ⟨⟨h1,h2⟩,h3⟩:=h
   obtain ⟨a1,a2,a3⟩:=N1 C h3
   obtain ⟨l1,l2⟩:=C.loc h2
   refine ⟨Mt (Jq C.nd (by rw [C.N]; exact beq_iff_eq.mp h1) l1 l2) a1 rfl,?_,?_⟩
   ·show (assignEach es X.env).length + 1=_; rw [a2]; rfl
   ·show List.findIdx? (·.1) ((false,_) :: assignEach es X.env)=none
    rw [List.findIdx?_cons,a3]; rfl
  | _=>exact nF h
theorem F7 (C:Ct p c lv X EX) {g:Tg} {e:Expr} (h:ckG c g e=true):PG X e (lG X.K g):=by
 cases g with
 | nm i =>
  cases e with
  | Name x q =>
   have h:((c.N[i]?==some x) && EH c x)=true:=h
   rw [aah] at h
   obtain ⟨l1,l2⟩:=C.loc h.2
   exact Jq C.nd (by rw [C.N]; exact beq_iff_eq.mp h.1) l1 l2
  | _=>exact nF h
 | tp is =>
  cases e with
  | Tuple es k q =>
   rw [show ckG c (.tp is) (.Tuple es k q)=(ckG.ckGs c is es && c.cm) from rfl,aah] at h
   obtain ⟨a1,a2,a3⟩:=N1 C h.1
   intro pins s σ H v u Q I r hw
   rcases hw with hw | hw
   ·exact Qf (C.calm h.2) a1 a2 a3 pins s σ H v u Q I r hw
   ·exact QI (C.calm h.2) a1 a2 a3 pins s σ H v u Q I r hw
  | _=>exact nF h
theorem JK {α β:Type} {xs:List α} {ys:List β} {j:Nat} {a:α} {b:β} (h1:xs[j]?=some a) (h2:ys[j]?=some b):(a,b) ∈ xs.zip ys:=by
 have:(xs.zip ys)[j]?=some (a,b):=by rw [List.getElem?_zip_eq_some]; exact ⟨h1,h2⟩
 exact aae this
theorem Hz (C:Ct p c lv X EX) {scope:Scope} {loc:List Str} {fr:List Nat} {frn:List Str} (h:scB c scope loc fr frn=true):ScOk X scope loc fr frn/\(loc ++ frn).Nodup:=by
 unfold scB at h
 simp only [aah,decide_eq_true_eq,aau,beq_iff_eq,bne_iff_ne,Bool.or_eq_true] at h
 obtain ⟨⟨⟨⟨⟨⟨h1,h2⟩,h3⟩,h4⟩,h5⟩,h6⟩,h7⟩:=h
 refine ⟨⟨fun j k x e1 e2=>?_,h1,fun y hy=>(h3 y hy).1.1,h4,fun y hy e=>?_,fun y hy e=>?_,fun x hx=>?_,by rw [C.sc]; exact h5⟩,h7⟩
 ·obtain ⟨⟨q1,q2⟩,q3⟩:=h2 (k,x) (JK e1 e2)
  refine ⟨by rw [C.N]; exact q1,?_,by simpa using q3⟩
  show X.env.scope.names.lookup x=_
  rw [C.sc]; exact q2
 ·rcases (h3 y hy).1.2 with q | q
  ·exact absurd e q
  ·exact q
 ·rcases (h3 y hy).2 with q | q
  ·exact absurd e q
  ·show X.env.scope.names.lookup y.1=_
   rw [C.sc]; exact q
 ·rw [Ic,C.sc]; exact h6 x hx
theorem Ct.blk (C:Ct p c lv X EX) {scope:Scope} {N:List Str} (hN:N.Nodup) (z:Bk):Ct p ⟨N,Eb scope c.sc,false,false,c.cm⟩ lv (X.blk scope z.C z.fp N z.s z.H) EX0 where
 K:=C.K
 N:=rfl
 sc:=by show relabel scope X.env=_; rw [Ic,C.sc]
 nd:=hN
 calm:=C.calm
 room:=C.room
 un:=C.un
 blt:=C.blt
 bt:=C.bt
 pass:=fun _ _ _ _ _ _ _ h=>by
  obtain ⟨_,_,_,_,_,_,_,_,_,_,_,_,_,_,_,_,_,_,z⟩:=h
  exact z.elim
 fn:=fun z=>nomatch z
 kx:=C.kx
 ph:=fun z=>nomatch z
theorem NeedOk.blk {scope:Scope} {N:List Str} {z:Bk} {n:Nd1} (h:NeedOk p lv X n):NeedOk p lv (X.blk scope z.C z.fp N z.s z.H) n:=by
 cases n <;> exact h
theorem CW {e:Expr} {env:Env} (h:Dg e=true):∀ y,foldedSetIterable e env y=pure y:=by
 intro y
 cases e <;> first | rfl | cases h
theorem DF {op:CmpOp} {e:Expr} (h:Dg e=true):behindInMarks op e=false:=by
 cases e <;> first | rfl | cases h
end
section
variable {p:Px} {c:CkC} {lv:Nat} {X:Cx} {EX:EXT} {tn:List Nat} {pos np:Pos}
theorem AG (C:Ct p c lv X EX) {e:Expr} {x:E} (h:PE X e (lE p EX tn x)) (hp:HW e=true):PE X e (lE p EX tn x)/\(x.tst=true->PT X e (lT p EX tn x)):=⟨h,fun _=>Kl C.K h hp⟩
noncomputable def kdV (p:Px):Kd->Value
 | .cls n=>.ref (p.cl n)
 | k=>.type (GS k)
noncomputable def Ku (p:Px):Kd->Prop
 | .cls n=>p.has n=true
 | _=>True
theorem Q0 (C:Ct p c lv X EX) {H:Hp} {t:T} (ok:t.Ok p H):∃ ty,TyX X.K H t.val ty/\∀ k b,Cm t.dat k=.ok b->Ku p k->kitOne X.K ty (kdV p k)=some b:=by
 cases t with
 | non=>exact ⟨_,.of .non,fun k b h _=>by cases k <;> cases h <;> rfl⟩
 | bl x=>exact ⟨_,.of (.bl x),fun k b h _=>by cases k <;> cases h <;> rfl⟩
 | int x=>exact ⟨_,.of (.int x),fun k b h _=>by cases k <;> cases h <;> rfl⟩
 | str x=>exact ⟨_,.of (.str x),fun k b h _=>by cases k <;> cases h <;> rfl⟩
 | tup a ts=>exact ⟨_,.of (.tup ok.1),fun k b h _=>by cases k <;> cases h <;> rfl⟩
 | lst a ts =>
  rcases ok.1 with e | ⟨o,e⟩
  ·exact ⟨_,.of (.lst e),fun k b h _=>by cases k <;> cases h <;> rfl⟩
  ·exact ⟨_,.of (.frz e),fun k b h _=>by cases k <;> cases h <;> rfl⟩
 | exn a n =>
  by_cases hn:n=999
  ·subst hn
   refine ⟨_,.dct (by rw [ok.1]; rfl),fun k b h _=>?_⟩
   cases k <;> cases h <;> rfl
  ·have hs:=ok.2.resolve_left hn
   have hn':(n==999)=false:=beq_eq_false_iff_ne.mpr hn
   refine ⟨_,.exc (by rw [ok.1]; unfold exO; rw [if_neg hn]) (C.K ▸ C.kx.x n hs),fun k b h hh=>?_⟩
   rw [C.K]
   have kb:=C.kx.kb n hs
   cases k with
   | verr =>
    have h:(if (n==999)=true then Res.bad else Res.ok true)=Res.ok b:=h
    rw [hn',if_neg (by decide)] at h
    cases h; exact C.kx.kv n hs
   | cls m =>
    have h:(if (n==999)=true then Res.bad else Res.ok (isa n m))=Res.ok b:=h
    rw [hn',if_neg (by decide)] at h
    cases h; exact C.kx.kc n m hs hh
   | dict =>
    have h:Res.ok (n==999)=Res.ok b:=h
    rw [hn'] at h
    cases h; exact kb _ (by decide)
   | _=>cases h; exact kb _ (by decide)
theorem O0 (C:Ct p c lv X EX) {l r:Expr} {x:E} {k:Kd} {v:V} {cv:Value} (hl:PE X l (lE p EX tn x)) (hr:PE X r (tC v)) (hst:Ah l=true) (hst':Ah r=true) (hgl:Gl X "isinstance") (hcv:clV v=some cv)
  (hk:∀ (H:Hp) (t:T) (b:Bool),t.Ok p H->Cm t.dat k=.ok b->∃ ty,TyX X.K H t.val ty/\kitOne X.K ty cv=some b):PE X (.Call (.Name "isinstance" np) [l,r] [] pos) (lE p EX tn (.isi x k)):=by
 refine PE.mono (DW MH hgl (C.blt _ (by simp [Dn])) (by decide +kernel) (AV hl (AV hr CB (Ai hst')) (Ai hst)) (by decide) (by decide) (Ai hst) (AR (by simp [hst']))) fun σ H Q h=>?_
 obtain ⟨τ,rfl,hF,j,k',hj,h⟩:=h
 simp only [jk] at hj
 obtain ⟨⟨j1,k1⟩,h1,hj⟩:=bS hj
 simp only [ev] at h
 refine l1 hF h1 h fun d t H1 ht R h=>?_
 subst ht
 cases q:Cm t.dat k with
 | ok b =>
  rw [q] at h
  obtain ⟨ty,h2,h3⟩:=hk H1 t b R.ok q
  exact ⟨t.val,v,cv,ty,b,rfl,hcv,h2,h3,h (.bl b) H1 rfl (Rs.scal R.same rfl)⟩
 | exc n =>
  rw [q] at h
  cases t with
  | exn a c =>
   have hx:∀ f,dX (T.exn a c).dat f ≠ .exc n:=fun f e=>by
    unfold T.dat dX at e
    split at e <;> simp_all
    split at e <;> cases e
   cases k with
   | verr=>exact absurd (show dX (T.exn a c).dat (fun _=>true)=.exc n from q) (hx _)
   | cls m=>exact absurd (show dX (T.exn a c).dat (fun c=>isa c m)=.exc n from q) (hx _)
   | _=>cases q
  | _=>cases k <;> cases q
 | bad=>rw [q] at h; exact nE h
theorem Q1 (C:Ct p c lv X EX) {k:Kd} {r:Expr} (h:M6 c k r=true) (hn:∀ n,k=.cls n->NeedOk p lv X (.cl n)):∃ v cv,PE X r (tC v)/\clV v=some cv/\Ah r=true/\∀ (H:Hp) (t:T) (b:Bool),t.Ok p H->Cm t.dat k=.ok b->∃ ty,TyX X.K H t.val ty/\kitOne X.K ty cv=some b:=by
 cases r with
 | Name x q =>
  have h:((x==Ey k) && glB c.sc x)=true:=h
  rw [aah,beq_iff_eq] at h
  obtain ⟨rfl,h⟩:=h
  have fin:Ku p k->∀ (H:Hp) (t:T) (b:Bool),t.Ok p H->Cm t.dat k=.ok b->∃ ty,TyX X.K H t.val ty/\kitOne X.K ty (kdV p k)=some b:=fun hk H t b ok e=>let ⟨ty,a,f⟩:=Q0 C ok; ⟨ty,a,f _ _ e hk⟩
  have key:(∃ n,k=.cls n)\/(Ku p k/\kdV p k=.type (GS k)/\X.mg (Ey k)=none/\bootBuiltins (Ey k)=some (.type (GS k))/\Ey k ≠ "__name__" /\ (Ey k==("__debug__" : Str))=false):=by
   cases k with
   | cls n=>exact .inl ⟨n,rfl⟩
   | bool=>exact .inr ⟨trivial,rfl,C.bt _ (by decide),by decide +kernel,by decide,by decide⟩
   | dict=>exact .inr ⟨trivial,rfl,C.bt _ (by decide),by decide +kernel,by decide,by decide⟩
   | verr=>exact .inr ⟨trivial,rfl,C.bt _ (by decide),by decide +kernel,by decide,by decide⟩
   | _=>exact .inr ⟨trivial,rfl,C.blt _ (by decide),by decide +kernel,by decide,by decide⟩
  rcases key with ⟨n,rfl⟩ | ⟨k1,k2,k3,k4,k5,k6⟩
  ·obtain ⟨h1,h2⟩:=hn n rfl
   exact ⟨.ref (p.cl n),.ref (p.cl n),Jn (C.gl h) h2 rfl (Ks n),rfl,rfl,fin h1⟩
  ·exact ⟨.ty (GS k),.type (GS k),Oa (C.gl h) k3 k4 rfl k5 k6,rfl,rfl,k2 ▸ fin k1⟩
 | _=>exact nF h
theorem O1 {e:Expr} {a i:E} (h:PE X e (lE p EX tn (.ix a i))):PE X e (lE p EX tn (.ixS a i)):=by
 refine PE.mono h fun σ H Q hq=>?_
 obtain ⟨τ,rfl,hF,j,k,hj,hq⟩:=hq
 simp only [jk] at hj
 obtain ⟨⟨j1,k1⟩,h1,hj⟩:=bS hj
 obtain ⟨⟨j2,k2⟩,h2,hj⟩:=bS hj
 obtain ⟨hc,ej⟩:=CJ hj
 cases ej
 refine ⟨τ,rfl,hF,0,0,by simp only [jk,h1,h2,aaH]; unfold gj; rw [if_pos hc],?_⟩
 rw [show ev (.ixS a i) (dτ τ)=(ev (.ix a i) (dτ τ)).bind fun d=>if D.scal d=true then .ok d else .bad by rw [ev,ev]] at hq
 refine hq.bind.mono (Same.refl _) fun d _ h t H1 ht R=>?_
 subst ht
 obtain ⟨hs,h⟩:=Lg.guard h
 exact h t H1 rfl (Rs.scal R.same (by cases t <;> first | rfl | cases hs))
theorem O2 {e:Expr} {a i:E} (h:PE X e (lE p EX tn (.ixT a i))):PE X e (lE p EX tn (.ixU a i)):=by
 refine PE.mono h fun σ H Q hq=>?_
 obtain ⟨τ,rfl,hF,j,k,hj,hq⟩:=hq
 simp only [jk] at hj
 obtain ⟨⟨j1,k1⟩,h1,hj⟩:=bS hj
 obtain ⟨⟨j2,k2⟩,h2,hj⟩:=bS hj
 cases hj
 refine ⟨τ,rfl,hF,j1,0,by simp only [jk,h1,h2,aaH],?_⟩
 rw [show ev (.ixU a i) (dτ τ)=(ev (.ixT a i) (dτ τ)).bind fun d=>if D.flat 9 1 d=true then .ok d else .bad by rw [ev,ev]] at hq
 refine hq.bind.mono (Same.refl _) fun d _ h t H1 ht R=>?_
 subst ht
 obtain ⟨hs,h⟩:=Lg.guard h
 have r0:=Dm 9 t 1 hs
 exact h t H1 rfl ⟨R.same,R.ok,fun b hb=>(by rw [r0] at hb; cases hb),R.new,R.nd⟩
end
end Pu
end
section
set_option maxHeartbeats 1000000
namespace Pu
open PySem PySem.Spec PyProof.Rows PySem.W L2
theorem Aa {a b:Bool} (h:(a && b)=true):a=true/\b=true:=aah _ _ |>.mp h
theorem Am {p:Px} {lv:Nat} {X:Cx} {a b:List Nd1} (h:∀ n ∈ a ++ b,NeedOk p lv X n):(∀ n ∈ a,NeedOk p lv X n)/\∀ n ∈ b,NeedOk p lv X n:=⟨fun n m=>h n (aam _ m),fun n m=>h n (aag _ m)⟩
theorem BX {c:CkC}:∀ {es:Es} {xs:List Expr},ckEs c es xs=true->xs.all Ah=true/\xs.length=es.len
 | .nil,[],_=>⟨rfl,rfl⟩
 | .nil,x :: xs,h=>nF h
 | .cons e r,[],h=>nF h
 | .cons e r,x :: xs,h=>by
  have h:(ckE c e x && Ah x && ckEs c r xs)=true:=h
  obtain ⟨h,h3⟩:=Aa h
  obtain ⟨h1,h2⟩:=Aa h
  obtain ⟨a,b⟩:=BX h3
  exact ⟨by rw [aaR,h2,a]; rfl,by rw [aa5,b,Es.len]⟩
mutual
theorem snd {p:Px} {lv:Nat}:∀ (x:E) {c:CkC} {X:Cx} {EX:EXT} {tn:List Nat} (C:Ct p c lv X EX) (e:Expr),(∀ n ∈ x.need,NeedOk p lv X n)->ckE c x e=true->PE X e (lE p EX tn x)/\(x.tst=true->PT X e (lT p EX tn x))
 | .nm i,c,X,EX,tn,C,e,hn,h=>by
  cases e with
  | Name y q =>
   have h:((c.N[i]?==some y) && Dx c.sc y && AS y)=true:=h
   obtain ⟨h,h3⟩:=Aa h
   obtain ⟨h1,h2⟩:=Aa h
   obtain ⟨d1,d2⟩:=Ba h3
   exact AG C (QK (by rw [C.N]; exact beq_iff_eq.mp h1) (C.vis h2) d1 d2) rfl
  | _=>exact nF h
 | .cN,c,X,EX,tn,C,e,hn,h=>by
  cases e with
  | Constant k j q =>
   cases k with
   | none=>exact AG C (Gu (t:=.non) PZ rfl (fun _=>rfl)) rfl
   | _=>exact nF h
  | _=>exact nF h
 | .cB b,c,X,EX,tn,C,e,hn,h=>by
  cases e with
  | Constant k j q =>
   cases k with
   | bool b' =>
    cases beq_iff_eq.mp (show (b==b')=true from h)
    exact AG C (Gu (t:=.bl b) RK rfl (fun _=>rfl)) rfl
   | _=>exact nF h
  | _=>exact nF h
 | .cI b,c,X,EX,tn,C,e,hn,h=>by
  cases e with
  | Constant k j q =>
   cases k with
   | int b' =>
    cases beq_iff_eq.mp (show (b==b')=true from h)
    exact AG C (Gu (t:=.int b) PY rfl (fun _=>rfl)) rfl
   | _=>exact nF h
  | _=>exact nF h
 | .cS b,c,X,EX,tn,C,e,hn,h=>by
  cases e with
  | Constant k j q =>
   cases k with
   | str b' =>
    cases beq_iff_eq.mp (show (b==b')=true from h)
    exact AG C (Gu (t:=.str b) P0 rfl (fun _=>rfl)) rfl
   | _=>exact nF h
  | _=>exact nF h
 | .gl y d,c,X,EX,tn,C,e,hn,h=>by
  cases e with
  | Name y' q =>
   have h:((y==y') && glB c.sc y' && AS y' && D.scal d)=true:=h
   obtain ⟨h,h4⟩:=Aa h
   obtain ⟨h,h3⟩:=Aa h
   obtain ⟨h1,h2⟩:=Aa h
   cases beq_iff_eq.mp h1
   obtain ⟨u,m,r⟩:=hn (.gl y d) (aav.mpr rfl)
   obtain ⟨e1,e2⟩:=QZ h4
   exact AG C (Gu (t:=dT d) (Jn (C.gl h2) m r (Ba h3).1) e2 (fun _=>by rw [e1]; rfl)) rfl
  | _=>exact nF h
 | .tup es,c,X,EX,tn,C,e,hn,h=>by
  cases e with
  | Tuple xs k q =>
   obtain ⟨h1,h2⟩:=Aa (show (ckEs c es xs && decide (es.len<=1000))=true from h)
   exact AG C (Ot (sndA es C xs hn h1).1 (of_decide_eq_true h2)) rfl
  | _=>exact nF h
 | .lst es,c,X,EX,tn,C,e,hn,h=>by
  cases e with
  | List xs q =>
   obtain ⟨h1,h2⟩:=Aa (show (ckEs c es xs && decide (es.len<=1000))=true from h)
   exact AG C (Ou (sndA es C xs hn h1).1 (of_decide_eq_true h2)) rfl
  | _=>exact nF h
 | .bin o a b,c,X,EX,tn,C,e,hn,h=>by
  cases e with
  | BinOp l op r q =>
   obtain ⟨h,h3⟩:=Aa (show ((op==Kh o) && ckE c a l && ckE c b r)=true from h)
   obtain ⟨h1,h2⟩:=Aa h
   cases beq_iff_eq.mp h1
   obtain ⟨n1,n2⟩:=Am hn
   exact AG C (OB (snd a C l n1 h2).1 (snd b C r n2 h3).1) rfl
  | _=>exact nF h
 | .neg a,c,X,EX,tn,C,e,hn,h=>by
  cases e with
  | UnaryOp o l q =>
   cases o with
   | USub=>exact AG C (OF (snd a C l hn h).1) rfl
   | _=>exact nF h
  | _=>exact nF h
 | .not a,c,X,EX,tn,C,e,hn,h=>by
  cases e with
  | UnaryOp o l q =>
   cases o with
   | Not =>
    obtain ⟨h1,h2⟩:=snd a C (tn:=tn) l hn h
    exact ⟨OG h1,fun ht=>MU (h2 ht)⟩
   | _=>exact nF h
  | _=>exact nF h
 | .cmp o a b,c,X,EX,tn,C,e,hn,h=>by
  cases e with
  | Compare l ops rs q =>
   match ops,rs,h with
   | [op],[r],h =>
    obtain ⟨h,h4⟩:=Aa (show ((op==A7 o) && ckE c a l && ckE c b r && Dg r)=true from h)
    obtain ⟨h,h3⟩:=Aa h
    obtain ⟨h1,h2⟩:=Aa h
    cases beq_iff_eq.mp h1
    obtain ⟨n1,n2⟩:=Am hn
    have A:=(snd a C (tn:=tn) l n1 h2).1
    have B:=(snd b C (tn:=tn) r n2 h3).1
    exact ⟨OC C.K C.hu A B (DF h4),fun _=>MR C.K C.hu A B (DF h4)⟩
   | [],_,h=>exact nF h
   | [_],[],h=>exact nF h
   | [_],_ :: _ :: _,h=>exact nF h
   | _ :: _ :: _,_,h=>exact nF h
  | _=>exact nF h
 | .chain o o' a b d,c,X,EX,tn,C,e,hn,h=>by
  cases e with
  | Compare l ops rs q =>
   match ops,rs,h with
   | [op,op'],[r,r'],h =>
    obtain ⟨h,h6⟩:=Aa (show ((op==A7 o) && (op'==A7 o') && ckE c a l && ckE c b r && ckE c d r' && Dg r')=true from h)
    obtain ⟨h,h5⟩:=Aa h
    obtain ⟨h,h4⟩:=Aa h
    obtain ⟨h,h3⟩:=Aa h
    obtain ⟨h1,h2⟩:=Aa h
    cases beq_iff_eq.mp h1
    cases beq_iff_eq.mp h2
    obtain ⟨n1,n2⟩:=Am hn
    obtain ⟨n2,n3⟩:=Am n2
    have A:=(snd a C (tn:=tn) l n1 h3).1
    have B:=(snd b C (tn:=tn) r n2 h4).1
    have D:=(snd d C (tn:=tn) r' n3 h5).1
    exact ⟨Ly C.K C.hu A B D (DF h6),fun _=>Kk C.K C.hu A B D (DF h6)⟩
   | [],_,h=>exact nF h
   | [_],_,h=>exact nF h
   | [_,_],[],h=>exact nF h
   | [_,_],[_],h=>exact nF h
   | [_,_],_ :: _ :: _ :: _,h=>exact nF h
   | _ :: _ :: _ :: _,_,h=>exact nF h
  | _=>exact nF h
 | .isN n a,c,X,EX,tn,C,e,hn,h=>by
  cases e with
  | Compare l ops rs q =>
   match ops,rs,h with
   | [op],[r],h =>
    obtain ⟨h,h3⟩:=Aa (show ((op==if n then .IsNot else .Is) && LM r && ckE c a l)=true from h)
    obtain ⟨h1,h2⟩:=Aa h
    cases beq_iff_eq.mp h1
    have A:=(snd a C (tn:=tn) l hn h3).1
    cases r with
    | Constant k j q' =>
     cases k with
     | none=>exact ⟨OE A,fun _=>MS A⟩
     | _=>cases h2
    | _=>cases h2
   | [],_,h=>exact nF h
   | [_],[],h=>exact nF h
   | [_],_ :: _ :: _,h=>exact nF h
   | _ :: _ :: _,_,h=>exact nF h
  | _=>exact nF h
 | .bo k es,c,X,EX,tn,C,e,hn,h=>by
  cases e with
  | BoolOp op xs q =>
   obtain ⟨h1,h2⟩:=Aa (show ((op==if k then .And else .Or) && ckEs c es xs)=true from h)
   cases beq_iff_eq.mp h1
   obtain ⟨a1,a2⟩:=(sndA es C (tn:=tn) xs hn h2).2 k q
   exact ⟨a1,fun ht=>(a2 ht).pt⟩
  | _=>exact nF h
 | .ix a i,c,X,EX,tn,C,e,hn,h=>by
  cases e with
  | Subscript l r q =>
   obtain ⟨h,h3⟩:=Aa (show (ckE c a l && ckE c i r && AF r)=true from h)
   obtain ⟨h1,h2⟩:=Aa h
   obtain ⟨n1,n2⟩:=Am hn
   exact AG C (LA C.K (snd a C l n1 h1).1 (snd i C r n2 h2).1 h3) rfl
  | _=>exact nF h
 | .ixS a i,c,X,EX,tn,C,e,hn,h=>by
  cases e with
  | Subscript l r q =>
   obtain ⟨h,h3⟩:=Aa (show (ckE c a l && ckE c i r && AF r)=true from h)
   obtain ⟨h1,h2⟩:=Aa h
   obtain ⟨n1,n2⟩:=Am hn
   exact AG C (O1 (LA C.K (snd a C l n1 h1).1 (snd i C r n2 h2).1 h3)) rfl
  | _=>exact nF h
 | .ixL a i,c,X,EX,tn,C,e,hn,h=>by
  cases e with
  | Subscript l r q =>
   obtain ⟨h,h3⟩:=Aa (show (ckE c a l && ckE c i r && AF r)=true from h)
   obtain ⟨h1,h2⟩:=Aa h
   obtain ⟨n1,n2⟩:=Am hn
   exact AG C (OJ (snd a C l n1 h1).1 (snd i C r n2 h2).1 h3) rfl
  | _=>exact nF h
 | .ixT a i,c,X,EX,tn,C,e,hn,h=>by
  cases e with
  | Subscript l r q =>
   obtain ⟨h,h3⟩:=Aa (show (ckE c a l && ckE c i r && AF r)=true from h)
   obtain ⟨h1,h2⟩:=Aa h
   obtain ⟨n1,n2⟩:=Am hn
   exact AG C (JC (snd a C l n1 h1).1 (snd i C r n2 h2).1 h3) rfl
  | _=>exact nF h
 | .ixU a i,c,X,EX,tn,C,e,hn,h=>by
  cases e with
  | Subscript l r q =>
   obtain ⟨h,h3⟩:=Aa (show (ckE c a l && ckE c i r && AF r)=true from h)
   obtain ⟨h1,h2⟩:=Aa h
   obtain ⟨n1,n2⟩:=Am hn
   exact AG C (O2 (JC (snd a C l n1 h1).1 (snd i C r n2 h2).1 h3)) rfl
  | _=>exact nF h
 | .ixG a i,c,X,EX,tn,C,e,hn,h=>by
  cases e with
  | Subscript l r q =>
   obtain ⟨h,h3⟩:=Aa (show (ckE c a l && ckE c i r && AF r)=true from h)
   obtain ⟨h1,h2⟩:=Aa h
   obtain ⟨n1,n2⟩:=Am hn
   exact AG C (OK (snd a C l n1 h1).1 (snd i C r n2 h2).1 h3) rfl
  | _=>exact nF h
 | .slc a lo hi,c,X,EX,tn,C,e,hn,h=>by
  cases e with
  | Subscript l r q =>
   cases r with
   | Slice lo' hi' st q2 =>
    cases st with
    | none =>
     obtain ⟨h,h3⟩:=Aa (show (ckE c a l && GB lo.isCN (ckE c lo) lo' && GB hi.isCN (ckE c hi) hi')=true from h)
     obtain ⟨h1,h2⟩:=Aa h
     obtain ⟨n1,n2⟩:=Am hn
     obtain ⟨n2,n3⟩:=Am n2
     have cn:∀ {y:E},y.isCN=true->y=.cN:=fun {y} z=>by cases y <;> first | rfl | cases z
     have P1:PO X lo' (lO p EX tn lo):=by
      cases lo' with
      | none=>cases cn h2; exact Hk
      | some l' =>
       obtain ⟨g1,g2⟩:=Aa h2
       exact Hl (snd lo C l' n2 g2).1 (by simpa using g1)
     have P2:PO X hi' (lO p EX tn hi):=by
      cases hi' with
      | none=>cases cn h3; exact Hk
      | some l' =>
       obtain ⟨g1,g2⟩:=Aa h3
       exact Hl (snd hi C l' n3 g2).1 (by simpa using g1)
     exact AG C (OM (snd a C l n1 h1).1 P1 P2) rfl
    | some _=>exact nF h
   | _=>exact nF h
  | _=>exact nF h
 | .call f es,c,X,EX,tn,C,e,hn,h=>by
  cases e with
  | Call fn xs ks q =>
   cases fn with
   | Name y q' =>
    cases ks with
    | nil =>
     obtain ⟨h,h7⟩:=Aa (show ((y==f.name) && glB c.sc y && AS y && ckEs c es xs && decide (es.len=f.ar) && decide (0 < es.len) && c.cm)=true from h)
     obtain ⟨h,h6⟩:=Aa h
     obtain ⟨h,h5⟩:=Aa h
     obtain ⟨h,h4⟩:=Aa h
     obtain ⟨h,h3⟩:=Aa h
     obtain ⟨h1,h2⟩:=Aa h
     cases beq_iff_eq.mp h1
     obtain ⟨s1,s2⟩:=BX h4
     obtain ⟨f1,f2⟩:=hn (.fn f) (aac ..)
     have A:=(sndA es C (tn:=tn) xs (fun n m=>hn n (aaa _ m)) h4).1
     cases es with
     | nil=>cases of_decide_eq_true h6
     | cons e1 r1 =>
      cases xs with
      | nil=>cases s2
      | cons x1 xr=>exact AG C (MX C.pass f2 ((C.room h7).mono f1) (C.gl h2) (Ba h3).1 A s1 (of_decide_eq_true h5)) rfl
    | cons _ _=>exact nF h
   | _=>exact nF h
  | _=>exact nF h
 | .callB f es,c,X,EX,tn,C,e,hn,h=>by
  cases e with
  | Call fn xs ks q =>
   cases fn with
   | Name y q' =>
    cases ks with
    | nil =>
     obtain ⟨h,h7⟩:=Aa (show ((y==f.name) && glB c.sc y && AS y && ckEs c es xs && decide (es.len=f.ar) && decide (0 < es.len) && c.cm)=true from h)
     obtain ⟨h,h6⟩:=Aa h
     obtain ⟨h,h5⟩:=Aa h
     obtain ⟨h,h4⟩:=Aa h
     obtain ⟨h,h3⟩:=Aa h
     obtain ⟨h1,h2⟩:=Aa h
     cases beq_iff_eq.mp h1
     obtain ⟨s1,s2⟩:=BX h4
     obtain ⟨f1,f2⟩:=hn (.fn f) (aac ..)
     have A:=(sndA es C (tn:=tn) xs (fun n m=>hn n (aaa _ m)) h4).1
     cases es with
     | nil=>cases of_decide_eq_true h6
     | cons e1 r1 =>
      cases xs with
      | nil=>cases s2
      | cons x1 xr=>exact AG C (LB C.pass f2 ((C.room h7).mono f1) (C.gl h2) (Ba h3).1 A s1 (of_decide_eq_true h5)) rfl
    | cons _ _=>exact nF h
   | _=>exact nF h
  | _=>exact nF h
 | .bi b es,c,X,EX,tn,C,e,hn,h=>by
  cases e with
  | Call fn xs ks q =>
   cases fn with
   | Name y q' =>
    cases ks with
    | nil =>
     obtain ⟨h,h6⟩:=Aa (show ((y==LK b) && glB c.sc y && QY b && ckEs c es xs && decide (0 < es.len) && (c.cm || E8 b))=true from h)
     obtain ⟨h,h5⟩:=Aa h
     obtain ⟨h,h4⟩:=Aa h
     obtain ⟨h,h3⟩:=Aa h
     obtain ⟨h1,h2⟩:=Aa h
     cases beq_iff_eq.mp h1
     obtain ⟨s1,s2⟩:=BX h4
     have A:=(sndA es C (tn:=tn) xs hn h4).1
     cases es with
     | nil=>cases of_decide_eq_true h5
     | cons e1 r1 =>
      cases xs with
      | nil=>cases s2
      | cons x1 xr =>
       refine AG C ?_ rfl
       cases b with
       | len=>exact ON C.blt A s1 (C.gl h2)
       | min=>exact OQ C.blt A s1 (C.calm (by rw [show E8 .min=false from rfl,act] at h6; exact h6)) (C.gl h2)
       | max=>exact OP C.blt A s1 (C.calm (by rw [show E8 .max=false from rfl,act] at h6; exact h6)) (C.gl h2)
       | maxL=>exact MZ C.blt A s1 (C.calm (by rw [show E8 .maxL=false from rfl,act] at h6; exact h6)) (C.gl h2)
       | int=>exact OO C.blt A s1 (C.gl h2)
       | list=>exact MY C.blt A s1 (C.gl h2)
    | cons _ _=>exact nF h
   | _=>exact nF h
  | _=>exact nF h
 | .isi a k,c,X,EX,tn,C,e,hn,h=>by
  cases e with
  | Call fn xs ks q =>
   cases fn with
   | Name y q' =>
    match xs,ks,h with
    | [l,r],[],h =>
     obtain ⟨h,h5⟩:=Aa (show ((y==("isinstance" : Str)) && glB c.sc y && ckE c a l && M6 c k r && Ah l)=true from h)
     obtain ⟨h,h4⟩:=Aa h
     obtain ⟨h,h3⟩:=Aa h
     obtain ⟨h1,h2⟩:=Aa h
     cases beq_iff_eq.mp h1
     obtain ⟨n1,n2⟩:=Am hn
     obtain ⟨v,cv,e1,e2,e3,e4⟩:=Q1 C h4 (fun n e=>n1 _ (by subst e; exact aav.mpr rfl))
     exact AG C (O0 C (snd a C l n2 h3).1 e1 h5 e3 (C.gl h2) e2 e4) rfl
    | [],_,h=>exact nF h
    | [_],_,h=>exact nF h
    | _ :: _ :: _ :: _,_,h=>exact nF h
    | [_,_],_ :: _,h=>exact nF h
   | _=>exact nF h
  | _=>exact nF h
 | .comp0 nl fr g it elt,c,X,EX,tn,C,e,hn,h=>by
  cases e with
  | ListComp elt' gens scope q =>
   obtain ⟨tg,iter,ifs,rfl,h⟩:=DE h
   obtain ⟨h,h7⟩:=Aa h
   obtain ⟨h,h6⟩:=Aa h
   obtain ⟨h,h5⟩:=Aa h
   obtain ⟨h,h4⟩:=Aa h
   obtain ⟨h,h3⟩:=Aa h
   obtain ⟨h,h2⟩:=Aa h
   obtain ⟨h,h1⟩:=Aa h
   obtain ⟨hcm,h0⟩:=Aa h
   cases ifs with
   | cons _ _=>cases h0
   | nil =>
   have h2:=of_decide_eq_true h2
   subst h2
   obtain ⟨S,nd⟩:=Hz C h1
   obtain ⟨n1,n2⟩:=Am hn
   refine AG C (LH (C.calm hcm) S (sndI it C iter n1 h4) (fun i hi=>of_decide_eq_true (aau.mp h3 i hi)) (fun z=>⟨?_,?_⟩) (CW h5)) rfl
   ·exact F7 (C.blk nd z) h6
   ·exact (snd elt (C.blk nd z) elt' (fun n m=>(n2 n m).blk) h7).1
  | _=>exact nF h
 | .comp1 nl fr g it cond elt,c,X,EX,tn,C,e,hn,h=>by
  cases e with
  | ListComp elt' gens scope q =>
   obtain ⟨tg,iter,ifs,rfl,h⟩:=DE h
   obtain ⟨cnd,rfl,h⟩:=Id h
   obtain ⟨h,h9⟩:=Aa h
   obtain ⟨h,h8⟩:=Aa h
   obtain ⟨h,h7⟩:=Aa h
   obtain ⟨h,h6⟩:=Aa h
   obtain ⟨h,h5⟩:=Aa h
   obtain ⟨h,h4⟩:=Aa h
   obtain ⟨h,h3⟩:=Aa h
   obtain ⟨h,h2⟩:=Aa h
   obtain ⟨hcm,h1⟩:=Aa h
   have h2:=of_decide_eq_true h2
   subst h2
   obtain ⟨S,nd⟩:=Hz C h1
   obtain ⟨n1,n2⟩:=Am hn
   obtain ⟨n2,n3⟩:=Am n2
   refine AG C (LJ (C.calm hcm) S (sndI it C iter n1 h4) (fun i hi=>of_decide_eq_true (aau.mp h3 i hi)) (fun z=>⟨?_,?_,?_⟩) (CW h5)) rfl
   ·exact F7 (C.blk nd z) h6
   ·exact (snd cond (C.blk nd z) cnd (fun n m=>(n2 n m).blk) h7).2 h8
   ·exact (snd elt (C.blk nd z) elt' (fun n m=>(n3 n m).blk) h9).1
  | _=>exact nF h
theorem sndA {p:Px} {lv:Nat}:∀ (es:Es) {c:CkC} {X:Cx} {EX:EXT} {tn:List Nat} (C:Ct p c lv X EX) (xs:List Expr),(∀ n ∈ es.need,NeedOk p lv X n)->ckEs c es xs=true ->
  PA X xs (lEs p EX tn es)/\∀ (k:Bool) (q:Pos),PE X (.BoolOp (if k then .And else .Or) xs q) (lE p EX tn (.bo k es))/\(es.tsts=true->PW X (.BoolOp (if k then .And else .Or) xs q) (lT p EX tn (.bo k es)))
 | .nil,c,X,EX,tn,C,xs,hn,h=>by
  cases xs with
  | nil =>
   refine ⟨MP,fun k q=>⟨fun pins s σ H Q I h=>?_,fun _ wh pins s σ H Q I h=>?_⟩⟩
   ·obtain ⟨τ,rfl,hF,j,k',hj,h⟩:=h
    simp only [ev,evBo] at h
    exact nE h
   ·obtain ⟨τ,rfl,hF,hj,h⟩:=h
    simp only [tv,ev,evBo] at h
    exact nE h
  | cons _ _=>exact nF h
 | .cons e r,c,X,EX,tn,C,xs,hn,h=>by
  cases xs with
  | nil=>exact nF h
  | cons x xs =>
   obtain ⟨h,h3⟩:=Aa (show (ckE c e x && Ah x && ckEs c r xs)=true from h)
   obtain ⟨h1,h2⟩:=Aa h
   obtain ⟨n1,n2⟩:=Am hn
   obtain ⟨A1,A2⟩:=snd e C (tn:=tn) x n1 h1
   obtain ⟨B1,B2⟩:=sndA r C (tn:=tn) xs n2 h3
   refine ⟨Ls A1 B1 (Ai h2),fun k q=>?_⟩
   cases r with
   | nil =>
    cases xs with
    | nil=>exact ⟨QR A1,fun z=>OI (A2 (Aa (show (e.tst && true)=true from z)).1)⟩
    | cons _ _=>exact nF h3
   | cons e' r' =>
    cases xs with
    | nil=>exact nF h3
    | cons x' xs' =>
     obtain ⟨C1,C2⟩:=B2 k q
     exact ⟨OH A1 C1,fun z=>let ⟨z1,z2⟩:=Aa (show (e.tst && (Es.cons e' r').tsts)=true from z); MV (A2 z1) (C2 z2)⟩
theorem sndI {p:Px} {lv:Nat}:∀ (it:It) {c:CkC} {X:Cx} {EX:EXT} {tn:List Nat} {tg:Expr} (C:Ct p c lv X EX) (e:Expr),(∀ n ∈ it.need,NeedOk p lv X n)->ckI c tg it e=true->PI X tg e (lI p EX tn it)
 | .seq a,c,X,EX,tn,tg,C,e,hn,h=>M3 C.K (snd a C e hn h).1
 | .seqL a,c,X,EX,tn,tg,C,e,hn,h=>LE C.K (snd a C e hn h).1
 | .r1 a,c,X,EX,tn,tg,C,e,hn,h=>by
  cases e with
  | Call fn xs ks q =>
   cases fn with
   | Name y q' =>
    match xs,ks,h with
    | [l],[],h =>
     obtain ⟨h,h4⟩:=Aa (show ((y==("range" : Str)) && glB c.sc y && ckE c a l && Ah l)=true from h)
     obtain ⟨h,h3⟩:=Aa h
     obtain ⟨h1,h2⟩:=Aa h
     cases beq_iff_eq.mp h1
     exact OR (snd a C l hn h3).1 h4 (C.gl h2) (C.blt _ (by simp [Dn]))
    | [],_,h=>exact nF h
    | _ :: _ :: _,_,h=>exact nF h
    | [_],_ :: _,h=>exact nF h
   | _=>exact nF h
  | _=>exact nF h
 | .r2 a b,c,X,EX,tn,tg,C,e,hn,h=>by
  cases e with
  | Call fn xs ks q =>
   cases fn with
   | Name y q' =>
    match xs,ks,h with
    | [l,r],[],h =>
     obtain ⟨h,h6⟩:=Aa (show ((y==("range" : Str)) && glB c.sc y && ckE c a l && Ah l && ckE c b r && Ah r)=true from h)
     obtain ⟨h,h5⟩:=Aa h
     obtain ⟨h,h4⟩:=Aa h
     obtain ⟨h,h3⟩:=Aa h
     obtain ⟨h1,h2⟩:=Aa h
     cases beq_iff_eq.mp h1
     obtain ⟨n1,n2⟩:=Am hn
     exact OS (snd a C l n1 h3).1 (snd b C r n2 h5).1 h4 h6 (C.gl h2) (C.blt _ (by simp [Dn]))
    | [],_,h=>exact nF h
    | [_],_,h=>exact nF h
    | _ :: _ :: _ :: _,_,h=>exact nF h
    | [_,_],_ :: _,h=>exact nF h
   | _=>exact nF h
  | _=>exact nF h
 | .r3 a b d,c,X,EX,tn,tg,C,e,hn,h=>by
  cases e with
  | Call fn xs ks q =>
   cases fn with
   | Name y q' =>
    match xs,ks,h with
    | [l,r,o],[],h =>
     obtain ⟨h,h8⟩:=Aa (show ((y==("range" : Str)) && glB c.sc y && ckE c a l && Ah l && ckE c b r && Ah r && ckE c d o && Ah o)=true from h)
     obtain ⟨h,h7⟩:=Aa h
     obtain ⟨h,h6⟩:=Aa h
     obtain ⟨h,h5⟩:=Aa h
     obtain ⟨h,h4⟩:=Aa h
     obtain ⟨h,h3⟩:=Aa h
     obtain ⟨h1,h2⟩:=Aa h
     cases beq_iff_eq.mp h1
     obtain ⟨n1,n23⟩:=Am hn
     obtain ⟨n2,n3⟩:=Am n23
     exact OU (snd a C l n1 h3).1 (snd b C r n2 h5).1 (snd d C o n3 h7).1 h4 h6 h8 (C.gl h2) (C.blt _ (by simp [Dn]))
    | [],_,h=>exact nF h
    | [_],_,h=>exact nF h
    | [_,_],_,h=>exact nF h
    | _ :: _ :: _ :: _ :: _,_,h=>exact nF h
    | [_,_,_],_ :: _,h=>exact nF h
   | _=>exact nF h
  | _=>exact nF h
 | .en a,c,X,EX,tn,tg,C,e,hn,h=>by
  cases e with
  | Call fn xs ks q =>
   cases fn with
   | Name y q' =>
    match xs,ks,h with
    | [l],[],h =>
     obtain ⟨h,h5⟩:=Aa (show ((y==("enumerate" : Str)) && glB c.sc y && ckE c a l && Ah l && NZ tg)=true from h)
     obtain ⟨h,h4⟩:=Aa h
     obtain ⟨h,h3⟩:=Aa h
     obtain ⟨h1,h2⟩:=Aa h
     cases beq_iff_eq.mp h1
     cases tg with
     | Tuple es k q2=>exact OW C.K (snd a C l hn h3).1 h4 (C.gl h2) (C.blt _ (by simp [Dn]))
     | _=>exact nF h5
    | [],_,h=>exact nF h
    | _ :: _ :: _,_,h=>exact nF h
    | [_],_ :: _,h=>exact nF h
   | _=>exact nF h
  | _=>exact nF h
end
end Pu
end
section
namespace Pu
open PySem PySem.Spec PyProof.Rows PySem.W L2
inductive Md where
 | sh
 | ow (k:Nat)
 | br (k:Nat)
 | dead
 deriving DecidableEq
noncomputable abbrev Ms:=List Md
noncomputable def Md.tn:Md->Nat
 | .sh=>0
 | .ow k=>k
 | .br k=>k
 | .dead=>99
noncomputable def Md.le:Md->Md->Bool
 | _,.dead=>true
 | .sh,.sh=>true
 | .ow _,.sh=>true
 | .ow k,.ow k'=>decide (0 < k'/\k'<=k)
 | .br k,.br k'=>decide (k=k')
 | _,_=>false
noncomputable def Md.small:Md->Bool
 | .ow k=>decide (0 < k/\k < 90)
 | .br k=>decide (k < 90)
 | _=>true
noncomputable def Md.meet (a b:Md):Md:=if a=b then a else match a,b with
 | .ow k,.ow k'=>if 0 < min k k' then .ow (min k k') else .sh
 | .ow _,.sh=>.sh
 | .sh,.ow _=>.sh
 | _,_=>.dead
noncomputable def tnM (m:Ms):List Nat:=m.map Md.tn
theorem AO {m:Ms} {i j:Nat} (h:(tnM m)[i]?=some j):∃ d,m[i]?=some d/\d.tn=j:=by
 unfold tnM at h
 rw [aaj] at h
 exact aar.mp h
theorem AH {m:Ms} {i:Nat} {d:Md} (h:m[i]?=some d):(tnM m)[i]?=some d.tn:=by
 unfold tnM; rw [aaj,h]; rfl
noncomputable def Own (m:Ms) (τ:Ft) (a:Addr):Prop:=∃ (i:Nat) (t:T) (k:Nat),τ[i]?=some (some t)/\m[i]?=some (.ow k)/\a ∈ t.adr k
noncomputable def Md.low:Md->Nat
 | .sh=>0
 | .ow _=>0
 | .br k=>k
 | .dead=>99
structure Sf (p:Px) (H0:Hp) (A0:Addr->Prop) (m:Ms) (τ:Ft) (H:Hp):Prop where
 len:τ.length=m.length
 small:∀ d ∈ m,d.small=true
 same:Same H0 H
 ok:Fok p (tnM m) τ H
 own:∀ (i:Nat) (t:T) (k:Nat) (a:Addr),τ[i]?=some (some t)->m[i]?=some (.ow k)->a ∈ t.adr k->H0 a=none/\∃ vs,H a=some (.lst vs)
 src:∀ a,Sh (tnM m) τ a->H0 a=none\/A0 a
 nd:∀ (i:Nat) (t:T) (k:Nat),τ[i]?=some (some t)->m[i]?=some (.ow k)->t.Nd k
 sep:∀ (i j:Nat) (t u:T) (k:Nat) (d:Md),i ≠ j->τ[i]?=some (some t)->m[i]?=some (.ow k)->τ[j]?=some (some u)->m[j]?=some d->d ≠ .dead->∀ a ∈ t.adr k,a ∉ u.rest d.low
 top:∀ (i j:Nat) (t u:T) (k k2:Nat),τ[i]?=some (some t)->m[i]?=some (.ow k)->τ[j]?=some (some u)->m[j]?=some (.br k2)->∀ a ts,t=.lst a ts->a ∉ u.rest 0
section
variable {p:Px} {H0:Hp} {A0:Addr->Prop} {m m':Ms} {τ:Ft} {H H':Hp}
theorem Sf.at (S:Sf p H0 A0 m τ H) {i:Nat} {t:T} {d:Md} (e:τ[i]?=some (some t)) (h:m[i]?=some d) (hd:d ≠ .dead):t.Ok p H:=by
 refine S.ok i t d.tn e (AH h) ?_
 have:=S.small d (aae h)
 cases d with
 | sh=>exact (by decide:(0:Nat) < 90)
 | ow k=>exact (of_decide_eq_true this).2
 | br k=>exact of_decide_eq_true this
 | dead=>exact absurd rfl hd
theorem Sf.ownOk (S:Sf p H0 A0 m τ H) {a:Addr} (o:Own m τ a):H0 a=none/\∃ vs,H a=some (.lst vs):=by
 obtain ⟨i,t,k,e,h,q⟩:=o
 exact S.own i t k a e h q
theorem Sf.disj (S:Sf p H0 A0 m τ H) {a:Addr} (o:Own m τ a):¬ Sh (tnM m) τ a:=by
 rintro ⟨j,u,jj,e',h',l,q'⟩
 obtain ⟨i,t,k,e,h,q⟩:=o
 obtain ⟨d,hd,rfl⟩:=AO h'
 have hdd:d ≠ .dead:=fun z=>by subst z; exact absurd l (by decide)
 by_cases z:i=j
 ·subst z
  rw [h] at hd; cases hd
  rw [e] at e'
  cases e'
  exact (S.nd i _ k e h).2 a q' q
 ·refine S.sep i j t u k d z e h e' hd hdd a q (T.rest_le u ?_ q')
  cases d <;> simp [Md.low,Md.tn]
theorem Sf.grow (S:Sf p H0 A0 m τ H) (s:Same H H'):Sf p H0 A0 m τ H' :=
 ⟨S.len,S.small,S.same.trans s,S.ok.same s,fun i t k a e h q=>⟨(S.own i t k a e h q).1,let ⟨vs,z⟩:=(S.own i t k a e h q).2; ⟨vs,s _ _ z⟩⟩,S.src,S.nd,S.sep,S.top⟩
noncomputable def leM (m m':Ms):Bool:=decide (m.length=m'.length) && (m.zip m').all fun q=>q.1.le q.2
theorem CY (h:leM m m'=true) {i:Nat} {d':Md} (e:m'[i]?=some d'):∃ d,m[i]?=some d/\d.le d'=true:=by
 unfold leM at h
 obtain ⟨h1,h2⟩:=Aa h
 have h1:=of_decide_eq_true h1
 have hi:i < m.length:=by
  rw [h1]; exact (aaq.mp e).1
 refine ⟨m[i],aai hi,aau.mp h2 (m[i],d') (JK (aai hi) e)⟩
theorem F8 {m:Ms} (h:∀ d ∈ m,d.small=true):leM m m=true:=by
 unfold leM
 simp only [decide_true,acs]
 refine aau.mpr fun q hq=>?_
 obtain ⟨i,hi,e⟩:=abr hq
 have hi':i < m.length:=by simpa using hi
 have hs:=h m[i] (abp hi')
 have:q=(m[i],m[i]):=by rw [<- e]; simp
 rw [this]
 generalize m[i]=d at hs
 cases d <;> simp_all [Md.le,Md.small]
theorem Sf.weak (S:Sf p H0 A0 m τ H) (h:leM m m'=true):Sf p H0 A0 m' τ H:=by
 have hl:m.length=m'.length:=of_decide_eq_true (Aa (show (decide (m.length=m'.length) && _)=true from h)).1
 have shd:∀ a,Sh (tnM m') τ a->Sh (tnM m) τ a\/Own m τ a:=by
  rintro a ⟨i,t,j,e,ej,l,q⟩
  obtain ⟨d',hd',rfl⟩:=AO ej
  obtain ⟨d,hd,le⟩:=CY h hd'
  have sm:=S.small d (aae hd)
  cases d' with
  | dead=>exact absurd l (by decide)
  | sh =>
   cases d with
   | sh=>exact .inl ⟨i,t,0,e,AH hd,by decide,q⟩
   | ow k =>
    rcases (T.all_iff t k).mp q with z | z
    ·exact .inr ⟨i,t,k,e,hd,z⟩
    ·exact .inl ⟨i,t,k,e,AH hd,(of_decide_eq_true sm).2,z⟩
   | _=>cases le
  | ow k' =>
   cases d with
   | ow k =>
    rcases (T.all_iff t k).mp (T.rest_le t (aay _) q) with z | z
    ·exact .inr ⟨i,t,k,e,hd,z⟩
    ·exact .inl ⟨i,t,k,e,AH hd,(of_decide_eq_true sm).2,z⟩
   | _=>cases le
  | br k' =>
   cases d with
   | br k =>
    have:k=k':=of_decide_eq_true le
    subst this
    exact .inl ⟨i,t,k,e,AH hd,of_decide_eq_true sm,q⟩
   | _=>cases le
 have ownd:∀ {i:Nat} {k':Nat},m'[i]?=some (.ow k')->∃ k,m[i]?=some (.ow k)/\k'<=k:=by
  intro i k' hd'
  obtain ⟨d,hd,le⟩:=CY h hd'
  cases d with
  | ow k=>exact ⟨k,hd,(of_decide_eq_true le).2⟩
  | _=>cases le
 refine ⟨S.len.trans hl,fun d' hd'=>?_,S.same,fun i t j e ej l=>?_,fun i t k' a e hk q=>?_,fun a sh=>?_,fun i t k' e hk=>?_,fun i j t u k' d' ne e hk e' hd' nd a q=>?_,fun i j t u k' k2 e hk e' hd' a ts z=>?_⟩
 ·obtain ⟨i,hi,rfl⟩:=abr hd'
  obtain ⟨d,hd,le⟩:=CY h (aai hi)
  have sm:=S.small d (aae hd)
  generalize m'[i]=d' at le
  cases d' <;> cases d <;> simp_all [Md.le,Md.small] <;> omega
 ·obtain ⟨d',hd',rfl⟩:=AO ej
  obtain ⟨d,hd,le⟩:=CY h hd'
  refine S.at e hd fun z=>?_
  subst z
  cases d' <;> first | exact absurd l (by decide) | cases le
 ·obtain ⟨k,hd,le⟩:=ownd hk
  exact S.own i t k a e hd (T.adr_le t le q)
 ·rcases shd a sh with z | z
  ·exact S.src a z
  ·exact .inl (S.ownOk z).1
 ·obtain ⟨k,hd,le⟩:=ownd hk
  exact T.nd_le t le (S.nd i t k e hd)
 ·obtain ⟨k,hd,le⟩:=ownd hk
  obtain ⟨d,hdj,lj⟩:=CY h hd'
  have hdd:d ≠ .dead:=fun z=>by subst z; cases d' <;> first | exact nd rfl | cases lj
  refine fun q'=>S.sep i j t u k d ne e hd e' hdj hdd a (T.adr_le t le q) (T.rest_le u ?_ q')
  cases d' <;> cases d <;> first | exact aay _ | (cases lj; done) | exact absurd rfl nd | skip
  exact acz (of_decide_eq_true lj)
 ·obtain ⟨k,hd,le⟩:=ownd hk
  obtain ⟨d,hdj,lj⟩:=CY h hd'
  cases d with
  | br k3=>exact S.top i j t u k k3 e hd e' hdj a ts z
  | _=>cases lj
noncomputable def up (l:List Nat):List Nat:=l ++ l.map (· + 1000)
theorem LO {τ:Ft} {x i:Nat} {s:Option T} (h:i ≠ x):(vτ (τ.set x s))[i]?=(vτ τ)[i]?:=by
 unfold vτ
 rw [aaj,aaj,aao (Ne.symm h)]
theorem Q2 {τ τ':Ft} {i:Nat} (h:τ'[i]?=τ[i]?):(vτ τ')[i]?=(vτ τ)[i]?:=by
 unfold vτ
 rw [aaj,aaj,h]
theorem Ie {x i:Nat} {l:List Nat} (h:i + 1000 ∉ x :: (x + 1000) :: l):i ≠ x:=fun z=>h (by rw [z]; exact aaa _ (aac ..))
theorem nup {i:Nat} {l:List Nat} (h:i + 1000 ∉ up l):i ∉ l:=fun z=>h (aag _ (aaz.mpr ⟨i,z,rfl⟩))
theorem O3 (τ:Ft) (x:Nat) (t:T):vτ (τ.set x (some t))=(vτ τ).set x (some t.val):=by
 unfold vτ
 rw [abo]; rfl
theorem LP {τ:Ft} {x:Nat} {t t':T} (h:τ[x]?=some (some t)) (e:t'.val=t.val):vτ (τ.set x (some t'))=vτ τ:=by
 rw [O3,e]
 refine abV fun i=>?_
 by_cases z:x=i
 ·subst z
  rw [abd,Bv h]; rfl
 ·rw [aao z]
theorem Ig {i x y:Nat} {l:List Nat} (h:i ∈ [x,y]):i ∈ x :: y :: l:=by
 rcases aal.mp h with e | e
 ·rw [e]; exact aac ..
 ·rw [aav.mp e]; exact aaa _ (aac ..)
structure Stp (m m':Ms) (w0:List Nat) (τ τ':Ft) (H H':Hp):Prop where
 keep:∀ a u,H a=some u->¬ Own m τ a->H' a=some u
 grow:∀ a,Own m' τ' a->Own m τ a\/H a=none
 wr:∀ i,i ∉ w0->τ'[i]?=τ[i]?
 ad:∀ i,i + 1000 ∉ w0->(vτ τ')[i]?=(vτ τ)[i]?
theorem Own.weak (h:leM m m'=true) {a:Addr} (o:Own m' τ a):Own m τ a:=by
 obtain ⟨i,t,k,e,hk,q⟩:=o
 obtain ⟨d,hd,le⟩:=CY h hk
 cases d with
 | ow k2=>exact ⟨i,t,k2,e,hd,T.adr_le t (of_decide_eq_true le).2 q⟩
 | _=>cases le
theorem Stp.refl (wr:List Nat) (h:leM m m'=true) (s:Same H H'):Stp m m' wr τ τ H H':=⟨fun a u e _=>s a u e,fun a o=>.inl (o.weak h),fun _ _=>rfl,fun _ _=>rfl⟩
theorem Stp.trans {m1 m2 m3:Ms} {w1 w2:List Nat} {τ1 τ2 τ3:Ft} {H1 H2 H3:Hp} (a:Stp m1 m2 w1 τ1 τ2 H1 H2) (b:Stp m2 m3 w2 τ2 τ3 H2 H3):Stp m1 m3 (w1 ++ w2) τ1 τ3 H1 H3:=by
 refine ⟨fun x u e n=>b.keep x u (a.keep x u e n) fun o=>?_,fun x o=>?_,fun i hi=>?_,fun i hi=>(b.ad i fun h=>hi (aag _ h)).trans (a.ad i fun h=>hi (aam _ h))⟩
 ·rcases a.grow x o with z | z
  ·exact n z
  ·rw [e] at z; cases z
 ·rcases b.grow x o with z | z
  ·exact a.grow x z
  ·cases q:H1 x with
   | none=>exact .inr rfl
   | some u =>
    refine .inl (Classical.byContradiction fun n=>?_)
    rw [a.keep x u q n] at z; cases z
 ·rw [b.wr i (fun h=>hi (aag _ h)),a.wr i (fun h=>hi (aam _ h))]
theorem Stp.mono {w1 w2:List Nat} {τ':Ft} (a:Stp m m' w1 τ τ' H H') (h:∀ i ∈ w1,i ∈ w2):Stp m m' w2 τ τ' H H':=⟨a.keep,a.grow,fun i hi=>a.wr i fun q=>hi (h i q),fun i hi=>a.ad i fun q=>hi (h _ q)⟩
end
noncomputable def mdK (k:Nat):Md:=if k=0 then .sh else .ow k
theorem E9 {k k':Nat} (h:mdK k=.ow k'):k'=k/\k ≠ 0:=by unfold mdK at h; split at h <;> simp_all
theorem Q3 {k k':Nat} (h:mdK k=.br k'):False:=by unfold mdK at h; split at h <;> simp_all
section
variable {p:Px} {H0:Hp} {A0:Addr->Prop} {m m':Ms} {τ:Ft} {H H1:Hp}
theorem Ae {α:Type} {l:List α} {x i:Nat} {v w:α} (h:(l.set x v)[i]?=some w):(i=x/\w=v)\/(i ≠ x/\l[i]?=some w):=by
 by_cases z:x=i
 ·subst z
  rw [abd] at h
  cases q:l[x]? with
  | none=>rw [q] at h; cases h
  | some y =>
   rw [q] at h
   exact .inl ⟨rfl,by simpa using h.symm⟩
 ·rw [aao z] at h
  exact .inr ⟨fun e=>z e.symm,h⟩
theorem LQ {x k ke:Nat} {t:T} (S:Sf p H0 A0 m τ H) (R:Rs p (Sh (tnM m) τ) H H1 0 ke t) (hk:k<=ke) (hx:x < m.length) (h90:k < 90):Sf p H0 A0 (m.set x (mdK k)) (τ.set x (some t)) H1/\Stp m (m.set x (mdK k)) [x,x + 1000] τ (τ.set x (some t)) H H1:=by
 have S1:=S.grow R.same
 have dom:∀ {i:Nat} {u:T} {d:Md},τ[i]?=some (some u)->m[i]?=some d->d ≠ .dead->∀ a ∈ u.rest 0,H a ≠ none:=fun e hd nd a q=>(S.at e hd nd).dom q
 have tnew:∀ a ∈ t.adr k,H a=none:=fun a q=>(R.new a (T.adr_le t hk q)).1
 have town:∀ a,Own m τ a->a ∉ t.rest 0:=fun a o q=>by
  rcases R.src a q with z | z
  ·obtain ⟨_,vs,e⟩:=S.ownOk o
   rw [e] at z; cases z
  ·exact S.disj o z
 have owns:∀ a,Own (m.set x (mdK k)) (τ.set x (some t)) a->a ∈ t.adr k\/Own m τ a:=by
  rintro a ⟨i,u,k',e,hk',q⟩
  rcases Ae e with ⟨rfl,e2⟩ | ⟨ne,e⟩
  ·cases e2
   rcases Ae hk' with ⟨_,z⟩ | ⟨z,_⟩
   ·obtain ⟨rfl,_⟩:=E9 z.symm
    exact .inl q
   ·exact absurd rfl z
  ·rcases Ae hk' with ⟨z,_⟩ | ⟨_,z⟩
   ·exact absurd z ne
   ·exact .inr ⟨i,u,k',e,z,q⟩
 refine ⟨⟨by rw [aaw,aaw]; exact S.len,fun d hd=>?_,S1.same,fun i u j e ej l=>?_,fun i u k' a e hk' q=>?_,fun a sh=>?_,fun i u k' e hk'=>?_,fun i j u w k' d ne e hk' e' hd nd a q=>?_,fun i j u w k' k2 e hk' e' hd a ts z=>?_⟩,
  fun a u e _=>R.same a u e,fun a o=>?_,fun i hi=>?_,fun i hi=>LO (Ie hi)⟩
 ·rcases aaZ hd with z | z
  ·exact S.small d z
  ·subst z
   unfold mdK
   split
   ·rfl
   ·exact decide_eq_true ⟨by omega,h90⟩
 ·obtain ⟨d,hd,rfl⟩:=AO ej
  rcases Ae e with ⟨rfl,e2⟩ | ⟨ne,e⟩
  ·cases e2; exact R.ok
  ·rcases Ae hd with ⟨z,_⟩ | ⟨_,z⟩
   ·exact absurd z ne
   ·exact S1.ok i u _ e (AH z) l
 ·rcases Ae e with ⟨rfl,e2⟩ | ⟨ne,e⟩
  ·cases e2
   rcases Ae hk' with ⟨_,z⟩ | ⟨z,_⟩
   ·obtain ⟨rfl,_⟩:=E9 z.symm
    have:=R.new a (T.adr_le _ hk q)
    exact ⟨S.same.free this.1,this.2⟩
   ·exact absurd rfl z
  ·rcases Ae hk' with ⟨z,_⟩ | ⟨_,z⟩
   ·exact absurd z ne
   ·exact S1.own i u k' a e z q
 ·obtain ⟨i,u,j,e,ej,l,q⟩:=sh
  obtain ⟨d,hd,rfl⟩:=AO ej
  rcases Ae e with ⟨rfl,e2⟩ | ⟨ne,e⟩
  ·cases e2
   rcases R.src a (T.rest_le _ (aay _) q) with z | z
   ·exact .inl (S.same.free z)
   ·exact S.src a z
  ·rcases Ae hd with ⟨z,_⟩ | ⟨_,z⟩
   ·exact absurd z ne
   ·exact S.src a ⟨i,u,_,e,AH z,l,q⟩
 ·rcases Ae e with ⟨rfl,e2⟩ | ⟨ne,e⟩
  ·cases e2
   rcases Ae hk' with ⟨_,z⟩ | ⟨z,_⟩
   ·obtain ⟨rfl,_⟩:=E9 z.symm
    exact T.nd_le _ hk R.nd
   ·exact absurd rfl z
  ·rcases Ae hk' with ⟨z,_⟩ | ⟨_,z⟩
   ·exact absurd z ne
   ·exact S.nd i u k' e z
 ·rcases Ae e with ⟨rfl,e2⟩ | ⟨n1,e1⟩
  ·cases e2
   rcases Ae hk' with ⟨_,z⟩ | ⟨z,_⟩
   ·obtain ⟨rfl,_⟩:=E9 z.symm
    rcases Ae e' with ⟨z',_⟩ | ⟨n2,e3⟩
    ·exact absurd z'.symm ne
    ·rcases Ae hd with ⟨z',_⟩ | ⟨_,hd3⟩
     ·exact absurd z' n2
     ·exact fun q'=>dom e3 hd3 nd a (T.rest_le w (aay _) q') (tnew a q)
   ·exact absurd rfl z
  ·rcases Ae hk' with ⟨z,_⟩ | ⟨_,hk3⟩
   ·exact absurd z n1
   ·rcases Ae e' with ⟨z4,e2⟩ | ⟨n2,e3⟩
    ·cases e2
     exact fun q'=>town a ⟨i,u,k',e1,hk3,q⟩ (T.rest_le _ (aay _) q')
    ·rcases Ae hd with ⟨z,_⟩ | ⟨_,hd3⟩
     ·exact absurd z n2
     ·exact S.sep i j u w k' d ne e1 hk3 e3 hd3 nd a q
 ·rcases Ae hd with ⟨_,z'⟩ | ⟨n2,hd3⟩
  ·exact (Q3 z'.symm).elim
  ·rcases Ae e' with ⟨z',_⟩ | ⟨_,e3⟩
   ·exact absurd z' n2
   ·rcases Ae e with ⟨z4,e2⟩ | ⟨n1,e1⟩
    ·cases e2
     rcases Ae hk' with ⟨_,z'⟩ | ⟨z',_⟩
     ·obtain ⟨z5,hk0⟩:=E9 z'.symm
      subst z
      have mem:a ∈ (T.lst a ts).adr k:=by
       cases k with
       | zero=>exact absurd rfl hk0
       | succ n=>exact aac ..
      exact fun q'=>dom e3 hd3 (by intro c; cases c) a q' (tnew a mem)
     ·exact absurd z4 z'
    ·rcases Ae hk' with ⟨z',_⟩ | ⟨_,hk3⟩
     ·exact absurd z' n1
     ·exact S.top i j u w k' k2 e1 hk3 e3 hd3 a ts z
 ·rcases owns a o with z | z
  ·exact .inr (tnew a z)
  ·exact .inl z
 ·rw [aao (fun z=>hi (by simp [z]))]
noncomputable def Ak (m:Ms) (is:List Nat) (d:Md):Ms:=is.foldl (fun m i=>m.set i d) m
theorem Ce (d:Md):∀ (is:List Nat) (m:Ms),(Ak m is d).length=m.length
 | [],m=>rfl
 | i :: is,m=>by show (Ak (m.set i d) is d).length=_; rw [Ce d is,aaw]
theorem DG {d d':Md}:∀ {is:List Nat} {m:Ms} {i:Nat},(Ak m is d)[i]?=some d'->(i ∈ is/\d'=d)\/(i ∉ is/\m[i]?=some d')
 | [],m,i,h=>.inr ⟨by simp,h⟩
 | j :: is,m,i,h=>by
  rcases DG (is:=is) (m:=m.set j d) h with ⟨z1,z2⟩ | ⟨z1,z2⟩
  ·exact .inl ⟨aaa _ z1,z2⟩
  ·rcases Ae z2 with ⟨rfl,e⟩ | ⟨ne,e⟩
   ·exact .inl ⟨aac ..,e⟩
   ·exact .inr ⟨fun q=>by rcases aal.mp q with q | q; exact ne q; exact z1 q,e⟩
theorem Fa:∀ {is:List Nat} {ts:List T} {τ τ':Ft} {i:Nat},BL is ts τ=some τ'->i ∉ is->τ'[i]?=τ[i]?
 | [],[],τ,τ',i,h,_=>by cases h; rfl
 | [],t :: ts,τ,τ',i,h,_=>by cases h
 | j :: is,[],τ,τ',i,h,_=>by cases h
 | j :: is,t :: ts,τ,τ',i,h,hi=>by
  rw [Fa (is:=is) (ts:=ts) (τ:=τ.set j (some t)) h (fun q=>hi (aaa _ q)),aao (fun z=>hi (by simp [z]))]
theorem Ja {g:Tg} {t:T} {τ τ':Ft} {i:Nat} (h:B7 g t τ=some τ') (hi:i ∉ g.sl):τ'[i]?=τ[i]?:=by
 cases g with
 | nm k=>cases h; rw [aao (fun z=>hi (by simp [Tg.sl,z]))]
 | tp is=>cases t <;> first | cases h | exact Fa h hi
theorem O4 {is:List Nat} {τ':Ft} (S:Sf p H0 A0 m τ H) (s:Same H H1) (hlen:τ'.length=τ.length) (hin:∀ (i:Nat) (u:T),i ∈ is->τ'[i]?=some (some u)->u.Ok p H1/\∀ a ∈ u.rest 0,(H0 a=none\/A0 a)/\¬ Own m τ a) (hout:∀ i,i ∉ is->τ'[i]?=τ[i]?) :
  Sf p H0 A0 (Ak m is .sh) τ' H1/\Stp m (Ak m is .sh) (up is) τ τ' H H1:=by
 have S1:=S.grow s
 have AG:∀ {i:Nat} {u:T} {d:Md},τ'[i]?=some (some u)->(Ak m is .sh)[i]?=some d->(d=.sh/\u.Ok p H1/\∀ a ∈ u.rest 0,(H0 a=none\/A0 a)/\¬ Own m τ a)\/(τ[i]?=some (some u)/\m[i]?=some d):=by
  intro i u d e hd
  rcases DG hd with ⟨z1,z2⟩ | ⟨z1,z2⟩
  ·exact .inl ⟨z2,hin i u z1 e⟩
  ·exact .inr ⟨(hout i z1) ▸ e,z2⟩
 have town:∀ {u:T},(∀ a ∈ u.rest 0,(H0 a=none\/A0 a)/\¬ Own m τ a)->∀ a,Own m τ a->a ∉ u.rest 0:=fun src a o q=>(src a q).2 o
 refine ⟨⟨by rw [hlen,Ce]; exact S.len,fun d hd=>?_,S1.same,fun i u j e ej l=>?_,fun i u k' a e hk' q=>?_,fun a sh=>?_,fun i u k' e hk'=>?_,fun i j u w k' d ne e hk' e' hd nd a q=>?_,fun i j u w k' k2 e hk' e' hd a ts z=>?_⟩,
  fun a u e _=>s a u e,fun a o=>?_,fun i hi=>hout i fun z=>hi (aam _ z),fun i hi=>Q2 (hout i (nup hi))⟩
 ·obtain ⟨i,hi,rfl⟩:=abr hd
  rcases DG (aai hi) with ⟨_,z⟩ | ⟨_,z⟩
  ·rw [z]; rfl
  ·exact S.small _ (aae z)
 ·obtain ⟨d,hd,rfl⟩:=AO ej
  rcases AG e hd with ⟨_,q,_⟩ | ⟨q1,q2⟩
  ·exact q
  ·exact S1.ok i u _ q1 (AH q2) l
 ·rcases AG e hk' with ⟨z,_⟩ | ⟨q1,q2⟩
  ·cases z
  ·exact S1.own i u k' a q1 q2 q
 ·obtain ⟨i,u,j,e,ej,l,q⟩:=sh
  obtain ⟨d,hd,rfl⟩:=AO ej
  rcases AG e hd with ⟨_,_,q'⟩ | ⟨q1,q2⟩
  ·exact (q' a (T.rest_le u (aay _) q)).1
  ·exact S.src a ⟨i,u,_,q1,AH q2,l,q⟩
 ·rcases AG e hk' with ⟨z,_⟩ | ⟨q1,q2⟩
  ·cases z
  ·exact S.nd i u k' q1 q2
 ·rcases AG e hk' with ⟨z,_⟩ | ⟨q1,q2⟩
  ·cases z
  ·rcases AG e' hd with ⟨_,_,q'⟩ | ⟨q3,q4⟩
   ·exact fun q5=>town q' a ⟨i,u,k',q1,q2,q⟩ (T.rest_le w (aay _) q5)
   ·exact S.sep i j u w k' d ne q1 q2 q3 q4 nd a q
 ·rcases AG e hk' with ⟨z,_⟩ | ⟨q1,q2⟩
  ·cases z
  ·rcases AG e' hd with ⟨z',_⟩ | ⟨q3,q4⟩
   ·cases z'
   ·exact S.top i j u w k' k2 q1 q2 q3 q4 a ts z
 ·obtain ⟨i,u,k',e,hk',q⟩:=o
  rcases AG e hk' with ⟨z,_⟩ | ⟨q1,q2⟩
  ·cases z
  ·exact .inl ⟨i,u,k',q1,q2,q⟩
theorem Sf.fine (S:Sf p H0 A0 m τ H) {a:Addr} (h:H a=none\/Sh (tnM m) τ a):(H0 a=none\/A0 a)/\¬ Own m τ a:=by
 rcases h with z | z
 ·refine ⟨.inl (S.same.free z),fun o=>?_⟩
  obtain ⟨_,vs,e⟩:=S.ownOk o
  rw [e] at z; cases z
 ·exact ⟨S.src a z,fun o=>S.disj o z⟩
theorem LR {g:Tg} {t:T} {τ':Ft} (S:Sf p H0 A0 m τ H) (s:Same H H1) (ok:t.Ok p H1) (src:∀ a ∈ t.rest 0,(H0 a=none\/A0 a)/\¬ Own m τ a) (h:B7 g t τ=some τ'):Sf p H0 A0 (Ak m g.sl .sh) τ' H1/\Stp m (Ak m g.sl .sh) (up g.sl) τ τ' H H1:=by
 refine O4 S s (Ht h) (fun i u hi e=>?_) (fun i hi=>Ja h hi)
 rcases GA (P:=fun o=>∀ w,o=some w->w.Ok p H1/\∀ a ∈ w.rest 0,(H0 a=none\/A0 a)/\¬ Own m τ a) h (fun w e=>by cases e; exact ⟨ok,src⟩)
   (fun a ts e u hu w e'=>by
    cases e'
    rcases e with e | e
    ·subst e
     exact ⟨T.oks_iff.mp ok.2 u hu,fun b q=>src b (T.mem_rests.mpr ⟨u,hu,q⟩)⟩
    ·subst e
     exact ⟨T.oks_iff.mp ok.2 u hu,fun b q=>src b (aaa _ (T.mem_rests.mpr ⟨u,hu,q⟩))⟩) i (some u) e with q | ⟨q,_⟩
 ·exact q u rfl
 ·exact absurd hi q
theorem R9 {g:Tg} {t:T} {τ':Ft} (S:Sf p H0 A0 m τ H) (s:Same H H1) (ok:t.Ok p H1) (src:∀ a ∈ t.rest 0,H a=none\/Sh (tnM m) τ a) (h:B7 g t τ=some τ'):Sf p H0 A0 (Ak m g.sl .sh) τ' H1/\Stp m (Ak m g.sl .sh) (up g.sl) τ τ' H H1 :=
 LR S s ok (fun a q=>S.fine (src a q)) h
end
noncomputable def AM:List (Bool × Int)->T->Option T
 | [],t=>some t
 | (false,i) :: r,.lst _ ts=>(ixN ts.length i).bind fun j=>(ts[j]?).bind fun t=>AM r t
 | (true,i) :: r,.tup _ ts=>(ixN ts.length i).bind fun j=>(ts[j]?).bind fun t=>AM r t
 | _,_=>none
noncomputable def D1 (s:T):List (Bool × Int)->T->Option T
 | [],_=>some s
 | (false,i) :: r,.lst a ts=>(ixN ts.length i).bind fun j=>(ts[j]?).bind fun t=>(D1 s r t).map fun t'=>.lst a (ts.set j t')
 | (true,i) :: r,.tup a ts=>(ixN ts.length i).bind fun j=>(ts[j]?).bind fun t=>(D1 s r t).map fun t'=>.tup a (ts.set j t')
 | _,_=>none
noncomputable def lnP:List (Bool × Int)->Nat
 | []=>0
 | (false,_) :: r=>lnP r + 1
 | (true,_) :: r=>lnP r
theorem Do {α:Type} {l:List α} {j:Nat} {x:α} (h:l[j]?=some x):∃ l1 l2,l=l1 ++ x :: l2/\∀ y,l.set j y=l1 ++ y :: l2:=by
 obtain ⟨hj,e⟩:=aaq.mp h
 refine ⟨l.take j,l.drop (j + 1),?_,fun y=>?_⟩
 ·rw [<- e,List.getElem_cons_drop,List.take_append_drop]
 ·rw [List.set_eq_take_append_cons_drop,if_pos hj]
theorem Cu {l1 l2:List T} {c:T} {k:Nat}:T.Nds (l1 ++ c :: l2) k ↔ T.Nds (l1 ++ l2) k/\c.Nd k/\(∀ a ∈ c.adr k,a ∉ T.rests (l1 ++ l2) 0)/\(∀ a ∈ T.adrs (l1 ++ l2) k,a ∉ c.rest 0):=by
 induction l1 with
 | nil =>
  rw [abc,abc,T.nds_cons]
  exact ⟨fun ⟨a,b,c,d⟩=>⟨b,a,c,d⟩,fun ⟨b,a,c,d⟩=>⟨a,b,c,d⟩⟩
 | cons x l1 ih =>
  rw [aa2,aa2,T.nds_cons,T.nds_cons,ih]
  simp only [T.rests_append,T.adrs_append,T.rests,T.adrs,aaf,not_or]
  constructor
  ·rintro ⟨h1,⟨h2,h3,h4,h5⟩,h6,h7⟩
   refine ⟨⟨h1,h2,fun a q=>⟨(h6 a q).1,(h6 a q).2.2⟩,fun a q=>h7 a ?_⟩,h3,fun a q=>⟨fun z=>h7 a (.inr (.inl q)) z,h4 a q⟩,fun a q=>?_⟩
   ·rcases q with q | q
    ·exact .inl q
    ·exact .inr (.inr q)
   ·rcases q with q | q
    ·exact (h6 a q).2.1
    ·exact h5 a q
  ·rintro ⟨⟨h1,h2,h6,h7⟩,h3,h4,h5⟩
   refine ⟨h1,⟨h2,h3,fun a q=>(h4 a q).2,fun a q=>h5 a (.inr q)⟩,fun a q=>⟨(h6 a q).1,h5 a (.inl q),(h6 a q).2⟩,fun a q=>?_⟩
   rcases q with q | q | q
   ·exact h7 a (.inl q)
   ·exact (h4 a q).1
   ·exact h7 a (.inr q)
section
variable {p:Px}
theorem Dp:∀ (q:List (Bool × Int)) {t s:T} {k:Nat},AM q t=some s->lnP q<=k->(∀ b ∈ s.rest 0,b ∈ t.rest 0)/\(∀ b ∈ s.adr (k - lnP q),b ∈ t.adr k)
 | [],t,s,k,h,_=>by cases h; exact ⟨fun b q=>q,fun b q=>q⟩
 | (false,i) :: r,.lst a ts,s,k,h,hl=>by
  simp only [AM] at h
  obtain ⟨j,_,h⟩:=bS h
  obtain ⟨c,hc,h⟩:=bS h
  cases k with
  | zero=>simp [lnP] at hl
  | succ k =>
   obtain ⟨h1,h2⟩:=Dp r (k:=k) h (by simp [lnP] at hl; exact hl)
   refine ⟨fun b q=>aaa _ (T.mem_rests.mpr ⟨c,aae hc,h1 b q⟩),fun b q=>aaa _ (T.mem_adrs.mpr ⟨c,aae hc,h2 b ?_⟩)⟩
   have:k + 1 - lnP ((false,i) :: r)=k - lnP r:=by simp only [lnP]; omega
   rw [this] at q; exact q
 | (true,i) :: r,.tup a ts,s,k,h,hl=>by
  simp only [AM] at h
  obtain ⟨j,_,h⟩:=bS h
  obtain ⟨c,hc,h⟩:=bS h
  obtain ⟨h1,h2⟩:=Dp r (k:=k) h hl
  exact ⟨fun b q=>T.mem_rests.mpr ⟨c,aae hc,h1 b q⟩,fun b q=>T.mem_adrs.mpr ⟨c,aae hc,h2 b q⟩⟩
 | (false,i) :: r,.tup a ts,s,k,h,_=>by cases h
 | (true,i) :: r,.lst a ts,s,k,h,_=>by cases h
 | (b,i) :: r,.non,s,k,h,_=>by cases b <;> cases h
 | (b,i) :: r,.bl _,s,k,h,_=>by cases b <;> cases h
 | (b,i) :: r,.int _,s,k,h,_=>by cases b <;> cases h
 | (b,i) :: r,.str _,s,k,h,_=>by cases b <;> cases h
 | (b,i) :: r,.exn _ _,s,k,h,_=>by cases b <;> cases h
theorem LU {l1 l2:List T} {c c':T} {k:Nat} {F N:Addr->Prop} (hFN:∀ b,F b->N b) (nds:T.Nds (l1 ++ c :: l2) k) (nd':c'.Nd k) (hA:∀ b ∈ c'.adr k,b ∈ c.adr k\/F b) (hB:∀ b ∈ c'.rest k,b ∈ c.rest k\/N b) (hF:∀ b,F b->b ∉ T.rests (l1 ++ c :: l2) 0) (hN:∀ b,N b->b ∉ T.adrs (l1 ++ c :: l2) k) :
  T.Nds (l1 ++ c' :: l2) k/\(∀ b ∈ T.adrs (l1 ++ c' :: l2) k,b ∈ T.adrs (l1 ++ c :: l2) k\/F b)/\(∀ b ∈ T.rests (l1 ++ c' :: l2) k,b ∈ T.rests (l1 ++ c :: l2) k\/N b):=by
 obtain ⟨m1,m2,m3,m4⟩:=Cu.mp nds
 have inm:∀ b,b ∈ T.rests (l1 ++ l2) 0->b ∈ T.rests (l1 ++ c :: l2) 0:=fun b q=>by
  simp only [T.rests_append,T.rests,aaf] at q ⊢
  rcases q with q | q
  ·exact .inl q
  ·exact .inr (.inr q)
 have ina:∀ b,b ∈ T.adrs (l1 ++ l2) k->b ∈ T.adrs (l1 ++ c :: l2) k:=fun b q=>by
  simp only [T.adrs_append,T.adrs,aaf] at q ⊢
  rcases q with q | q
  ·exact .inl q
  ·exact .inr (.inr q)
 have cm:∀ b,b ∈ c.adr k->b ∈ T.adrs (l1 ++ c :: l2) k:=fun b q=>by
  simp only [T.adrs_append,T.adrs,aaf]
  exact .inr (.inl q)
 refine ⟨Cu.mpr ⟨m1,nd',fun b q q'=>?_,fun b q q'=>?_⟩,fun b q=>?_,fun b q=>?_⟩
 ·rcases hA b q with z | z
  ·exact m3 b z q'
  ·exact hF b z (inm b q')
 ·rcases (T.all_iff c' k).mp q' with z | z
  ·rcases hA b z with y | y
   ·exact m4 b q ((T.all_iff c k).mpr (.inl y))
   ·exact hN b (hFN b y) (ina b q)
  ·rcases hB b z with y | y
   ·exact m4 b q ((T.all_iff c k).mpr (.inr y))
   ·exact hN b y (ina b q)
 ·simp only [T.adrs_append,T.adrs,aaf] at q ⊢
  rcases q with q | q | q
  ·exact .inl (.inl q)
  ·exact (hA b q).imp (fun z=>.inr (.inl z)) id
  ·exact .inl (.inr (.inr q))
 ·simp only [T.rests_append,T.rests,aaf] at q ⊢
  rcases q with q | q | q
  ·exact .inl (.inl q)
  ·exact (hB b q).imp (fun z=>.inr (.inl z)) id
  ·exact .inl (.inr (.inr q))
theorem CZ {H H':Hp} {a:Addr} {t:T} (hkeep:∀ b w,H b=some w->b ≠ a->H' b=some w) (hpl:∃ vs,H a=some (.lst vs)) (ok:t.Ok p H) (hn:a ∉ t.rest 0):t.Ok p H':=by
 refine ok.keep fun b w e q=>hkeep b w e fun z=>?_
 subst z
 rcases q with q | q
 ·exact hn q
 ·obtain ⟨vs,z⟩:=hpl
  rw [z] at e
  exact q vs (Option.some.inj e).symm
theorem Ih {H H':Hp} {a:Addr} {ts us:List T} {F N:Addr->Prop} (hkeep:∀ b w,H b=some w->b ≠ a->H' b=some w) (hpl:∃ vs,H a=some (.lst vs)) (hs:(T.lst a us).Ok p H') (hFN:∀ b,F b->N b) :
  ∀ (q:List (Bool × Int)) {t:T} {k:Nat},AM q t=some (.lst a ts)->lnP q < k->t.Nd k->t.Ok p H->(∀ b,F b->b ∉ t.rest 0)->(∀ b,N b->b ∉ t.adr k)->(∀ b ∈ T.adrs us (k - 1 - lnP q),b ∈ T.adrs ts (k - 1 - lnP q)\/F b) ->
   (∀ b ∈ T.rests us (k - 1 - lnP q),b ∈ T.rests ts (k - 1 - lnP q)\/N b)->T.Nds us (k - 1 - lnP q) ->
   ∃ t',D1 (.lst a us) q t=some t'/\t'.val=t.val/\t'.Ok p H'/\t'.Nd k/\(∀ b ∈ t'.adr k,b ∈ t.adr k\/F b)/\(∀ b ∈ t'.rest k,b ∈ t.rest k\/N b)
 | [],t,k,h,hl,nd,ok,hF,hN,hA,hB,hnd=>by
  cases h
  cases k with
  | zero=>cases hl
  | succ k =>
   have e:k + 1 - 1 - lnP []=k:=by simp [lnP]
   rw [e] at hA hB hnd
   obtain ⟨n1,n2⟩:=nd
   simp only [T.adr,aaE] at n1
   refine ⟨_,rfl,rfl,hs,⟨?_,fun b m m'=>?_⟩,fun b m=>?_,fun b m=>hB b m⟩
   ·simp only [T.adr,aaE]
    refine ⟨fun m=>?_,hnd.1⟩
    rcases hA a m with z | z
    ·exact n1.1 z
    ·exact hF a z (aac ..)
   ·simp only [T.adr,T.rest,aal] at m m'
    rcases m' with rfl | m'
    ·rcases hB b m with z | z
     ·exact n2 b z (aac ..)
     ·exact hN b z (aac ..)
    ·exact hnd.2 b m m'
   ·simp only [T.adr,aal] at m ⊢
    rcases m with m | m
    ·exact .inl (.inl m)
    ·exact (hA b m).imp .inr id
 | (false,i) :: r,.lst b0 cs,k,h,hl,nd,ok,hF,hN,hA,hB,hnd=>by
  simp only [AM] at h
  obtain ⟨j,hj,h⟩:=bS h
  obtain ⟨c,hc,h⟩:=bS h
  cases k with
  | zero=>cases hl
  | succ k =>
   have hl':lnP r < k:=by simp only [lnP] at hl; omega
   have e:k + 1 - 1 - lnP ((false,i) :: r)=k - 1 - lnP r:=by simp only [lnP]; omega
   rw [e] at hA hB hnd
   obtain ⟨n1,n2⟩:=nd
   simp only [T.adr,T.rest,aaE] at n1 n2
   have nds:T.Nds cs k:=⟨n1.2,fun x hx hy=>n2 x hx (aaa _ hy)⟩
   have hcm:=aae hc
   obtain ⟨l1,l2,e1,e2⟩:=Do hc
   rw [e1] at nds
   obtain ⟨m1,m2,m3,m4⟩:=Cu.mp nds
   obtain ⟨ain,aad⟩:=Dp r (k:=k) h (by omega)
   have aadr:a ∈ c.adr k:=aad a (by
    have:k - lnP r=(k - lnP r - 1) + 1:=by omega
    rw [this]; exact aac ..)
   obtain ⟨c',p1,p2,p3,p4,p5,p6⟩:=Ih hkeep hpl hs hFN r h hl' m2 (T.oks_iff.mp ok.2 c hcm) (fun b f q=>hF b f (aaa _ (T.mem_rests.mpr ⟨c,hcm,q⟩))) (fun b n q=>hN b n (aaa _ (T.mem_adrs.mpr ⟨c,hcm,q⟩))) hA hB hnd
   obtain ⟨q1,q2,q3⟩:=LU hFN nds p4 p5 p6 (fun b f q=>hF b f (aaa _ (by rw [e1]; exact q))) (fun b n q=>hN b n (aaa _ (by rw [e1]; exact q)))
   have ab:b0 ≠ a:=fun z=>n1.1 (by rw [z,T.mem_adrs]; exact ⟨c,hcm,aadr⟩)
   have hv:(l1 ++ c' :: l2).map T.val=cs.map T.val:=by rw [e1]; simp [p2]
   refine ⟨.lst b0 (l1 ++ c' :: l2),by simp only [D1,hj,aaH,hc,p1,aaX,e2],rfl,⟨?_,T.oks_iff.mpr fun w hw=>?_⟩,⟨?_,fun b m m'=>?_⟩,fun b m=>?_,fun b m=>?_⟩
   ·rw [hv]
    rcases ok.1 with z | ⟨o,z⟩
    ·exact .inl (hkeep _ _ z ab)
    ·exact .inr ⟨o,hkeep _ _ z ab⟩
   ·rcases aaf.mp hw with hw | hw
    ·refine CZ hkeep hpl (T.oks_iff.mp ok.2 w (by rw [e1]; exact aam _ hw)) fun q=>m3 a aadr ?_
     rw [T.rests_append]; exact aam _ (T.mem_rests.mpr ⟨w,hw,q⟩)
    ·rcases aal.mp hw with rfl | hw
     ·exact p3
     ·refine CZ hkeep hpl (T.oks_iff.mp ok.2 w (by rw [e1]; exact aag _ (aaa _ hw))) fun q=>m3 a aadr ?_
      rw [T.rests_append]; exact aag _ (T.mem_rests.mpr ⟨w,hw,q⟩)
   ·simp only [T.adr,aaE]
    refine ⟨fun m=>?_,q1.1⟩
    rcases q2 b0 m with z | z
    ·exact n1.1 (by rw [e1]; exact z)
    ·exact hF b0 z (aac ..)
   ·simp only [T.adr,T.rest,aal] at m m'
    rcases m' with rfl | m'
    ·rcases q3 b m with z | z
     ·exact n2 b (by rw [e1]; exact z) (aac ..)
     ·exact hN b z (aac ..)
    ·exact q1.2 b m m'
   ·simp only [T.adr,aal] at m ⊢
    rcases m with m | m
    ·exact .inl (.inl m)
    ·rw [e1]; exact (q2 b m).imp .inr id
   ·simp only [T.rest] at m ⊢
    rw [e1]; exact q3 b m
 | (true,i) :: r,.tup b0 cs,k,h,hl,nd,ok,hF,hN,hA,hB,hnd=>by
  simp only [AM] at h
  obtain ⟨j,hj,h⟩:=bS h
  obtain ⟨c,hc,h⟩:=bS h
  have hl':lnP r < k:=hl
  have nds:T.Nds cs k:=nd
  have hcm:=aae hc
  obtain ⟨l1,l2,e1,e2⟩:=Do hc
  rw [e1] at nds
  obtain ⟨m1,m2,m3,m4⟩:=Cu.mp nds
  obtain ⟨ain,aad⟩:=Dp r (k:=k) h (by omega)
  have aadr:a ∈ c.adr k:=aad a (by
   have:k - lnP r=(k - lnP r - 1) + 1:=by omega
   rw [this]; exact aac ..)
  obtain ⟨c',p1,p2,p3,p4,p5,p6⟩:=Ih hkeep hpl hs hFN r h hl' m2 (T.oks_iff.mp ok.2 c hcm) (fun b f q=>hF b f (T.mem_rests.mpr ⟨c,hcm,q⟩)) (fun b n q=>hN b n (T.mem_adrs.mpr ⟨c,hcm,q⟩)) hA hB hnd
  obtain ⟨q1,q2,q3⟩:=LU hFN nds p4 p5 p6 (fun b f q=>hF b f (by rw [T.rest,e1]; exact q)) (fun b n q=>hN b n (by rw [T.adr,e1]; exact q))
  have ab:b0 ≠ a:=fun z=>by
   obtain ⟨vs,y⟩:=hpl
   have:=ok.1
   rw [z,y] at this; cases this
  have hv:(l1 ++ c' :: l2).map T.val=cs.map T.val:=by rw [e1]; simp [p2]
  refine ⟨.tup b0 (l1 ++ c' :: l2),by simp only [D1,hj,aaH,hc,p1,aaX,e2],rfl,⟨?_,T.oks_iff.mpr fun w hw=>?_⟩,q1,fun b m=>?_,fun b m=>?_⟩
  ·rw [hv]; exact hkeep _ _ ok.1 ab
  ·rcases aaf.mp hw with hw | hw
   ·refine CZ hkeep hpl (T.oks_iff.mp ok.2 w (by rw [e1]; exact aam _ hw)) fun q=>m3 a aadr ?_
    rw [T.rests_append]; exact aam _ (T.mem_rests.mpr ⟨w,hw,q⟩)
   ·rcases aal.mp hw with rfl | hw
    ·exact p3
    ·refine CZ hkeep hpl (T.oks_iff.mp ok.2 w (by rw [e1]; exact aag _ (aaa _ hw))) fun q=>m3 a aadr ?_
     rw [T.rests_append]; exact aag _ (T.mem_rests.mpr ⟨w,hw,q⟩)
  ·simp only [T.adr] at m ⊢
   rw [e1]; exact q2 b m
  ·simp only [T.rest] at m ⊢
   rw [e1]; exact q3 b m
 | (false,i) :: r,.tup a ts,k,h,_,_,_,_,_,_,_,_=>by cases h
 | (true,i) :: r,.lst a ts,k,h,_,_,_,_,_,_,_,_=>by cases h
 | (b,i) :: r,.non,k,h,_,_,_,_,_,_,_,_=>by cases b <;> cases h
 | (b,i) :: r,.bl _,k,h,_,_,_,_,_,_,_,_=>by cases b <;> cases h
 | (b,i) :: r,.int _,k,h,_,_,_,_,_,_,_,_=>by cases b <;> cases h
 | (b,i) :: r,.str _,k,h,_,_,_,_,_,_,_,_=>by cases b <;> cases h
 | (b,i) :: r,.exn _ _,k,h,_,_,_,_,_,_,_,_=>by cases b <;> cases h
end
theorem GC:∀ (q:List (Bool × Int)) {t s:T} {k:Nat},AM q t=some s->lnP q<=k->t.Nd k->s.Nd (k - lnP q)
 | [],t,s,k,h,_,n=>by cases h; exact n
 | (false,i) :: r,.lst a ts,s,k,h,hl,n=>by
  simp only [AM] at h
  obtain ⟨j,_,h⟩:=bS h
  obtain ⟨c,hc,h⟩:=bS h
  cases k with
  | zero=>simp [lnP] at hl
  | succ k =>
   obtain ⟨n1,n2⟩:=n
   simp only [T.adr,T.rest,aaE] at n1 n2
   have nds:T.Nds ts k:=⟨n1.2,fun x hx hy=>n2 x hx (aaa _ hy)⟩
   obtain ⟨l1,l2,e1,_⟩:=Do hc
   rw [e1] at nds
   have:=GC r (k:=k) h (by simp [lnP] at hl; exact hl) (Cu.mp nds).2.1
   have e:k + 1 - lnP ((false,i) :: r)=k - lnP r:=by simp only [lnP]; omega
   rw [e]; exact this
 | (true,i) :: r,.tup a ts,s,k,h,hl,n=>by
  simp only [AM] at h
  obtain ⟨j,_,h⟩:=bS h
  obtain ⟨c,hc,h⟩:=bS h
  have nds:T.Nds ts k:=n
  obtain ⟨l1,l2,e1,_⟩:=Do hc
  rw [e1] at nds
  exact GC r (k:=k) h hl (Cu.mp nds).2.1
 | (false,i) :: r,.tup a ts,s,k,h,_,_=>by cases h
 | (true,i) :: r,.lst a ts,s,k,h,_,_=>by cases h
 | (b,i) :: r,.non,s,k,h,_,_=>by cases b <;> cases h
 | (b,i) :: r,.bl _,s,k,h,_,_=>by cases b <;> cases h
 | (b,i) :: r,.int _,s,k,h,_,_=>by cases b <;> cases h
 | (b,i) :: r,.str _,s,k,h,_,_=>by cases b <;> cases h
 | (b,i) :: r,.exn _ _,s,k,h,_,_=>by cases b <;> cases h
theorem F9 (ts:List T) (j:Nat) (t:T):T.dats (ts.set j t)=(T.dats ts).set j t.dat:=by rw [T.dats_map,T.dats_map,abo]
theorem FB {f:List D->Option (List D)}:∀ (q:List (Bool × Int)) {t:T} {d':D},AC f q t.dat=some d'->∃ a ts ds',AM q t=some (.lst a ts)/\f (T.dats ts)=some ds'/\∀ us t',T.dats us=ds'->D1 (.lst a us) q t=some t'->t'.dat=d'
 | [],t,d',h=>by
  cases t with
  | lst a ts =>
   simp only [T.dat,AC] at h
   obtain ⟨ds',h1,rfl⟩:=aar.mp h
   exact ⟨a,ts,ds',rfl,h1,fun us t' e1 e2=>by cases e2; simp [T.dat,e1]⟩
  | _=>cases h
 | (b,i) :: r,t,d',h=>by
  cases b with
  | false =>
   cases t with
   | lst a ts =>
    simp only [T.dat,AC,Ag] at h
    obtain ⟨j,hj,h⟩:=bS h
    obtain ⟨d,hd,h⟩:=bS h
    obtain ⟨d2,h1,rfl⟩:=aar.mp h
    obtain ⟨c,hc,rfl⟩:=D0 hd
    obtain ⟨a',ts',ds',s1,s2,s3⟩:=FB r h1
    refine ⟨a',ts',ds',by simp only [AM,hj,aaH,hc,s1],s2,fun us t' e1 e2=>?_⟩
    simp only [D1,hj,aaH,hc] at e2
    obtain ⟨c',e3,rfl⟩:=aar.mp e2
    simp only [T.dat,F9,s3 us c' e1 e3]
   | _=>cases h
  | true =>
   cases t with
   | tup a ts =>
    simp only [T.dat,AC,Ag] at h
    obtain ⟨j,hj,h⟩:=bS h
    obtain ⟨d,hd,h⟩:=bS h
    obtain ⟨d2,h1,rfl⟩:=aar.mp h
    obtain ⟨c,hc,rfl⟩:=D0 hd
    obtain ⟨a',ts',ds',s1,s2,s3⟩:=FB r h1
    refine ⟨a',ts',ds',by simp only [AM,hj,aaH,hc,s1],s2,fun us t' e1 e2=>?_⟩
    simp only [D1,hj,aaH,hc] at e2
    obtain ⟨c',e3,rfl⟩:=aar.mp e2
    simp only [T.dat,F9,s3 us c' e1 e3]
   | _=>cases h
section
variable {p:Px} {H0:Hp} {A0:Addr->Prop} {m m1:Ms} {τ:Ft} {H H1:Hp}
theorem LV {x k:Nat} {t:T} {q:List (Bool × Int)} {a:Addr} {ts us:List T} {F N:Addr->Prop} (S:Sf p H0 A0 m τ H) (s:Same H H1) (hx:τ[x]?=some (some t)) (hm:m[x]?=some (.ow k)) (hq:AM q t=some (.lst a ts)) (hl:lnP q < k) (hus:T.Oks p H1 us) (hFN:∀ b,F b->N b)
  (hA:∀ b ∈ T.adrs us (k - 1 - lnP q),b ∈ T.adrs ts (k - 1 - lnP q)\/F b) (hB:∀ b ∈ T.rests us (k - 1 - lnP q),b ∈ T.rests ts (k - 1 - lnP q)\/N b) (hnd:T.Nds us (k - 1 - lnP q))
  (f0:∀ b,F b->b ∉ t.rest 0) (f1:∀ b,F b->H0 b=none/\∃ vs,H1 b=some (.lst vs)) (f4:∀ b,F b->Own m τ b\/H b=none) (n0:∀ b,N b->b ∉ t.adr k) (n1:∀ b,N b->H0 b=none\/A0 b)
  (hlen:m1.length=m.length) (hmx:m1[x]?=some (.ow k)) (hmo:∀ (j:Nat) (d:Md),j ≠ x->m1[j]?=some d->d ≠ .dead->m[j]?=some d/\(q ≠ []->∀ k2,d ≠ .br k2))
  (f2:∀ (j:Nat) (u:T) (d:Md),j ≠ x->τ[j]?=some (some u)->m1[j]?=some d->d ≠ .dead->∀ b,F b->b ∉ u.rest d.low) (n2:∀ (i:Nat) (u:T) (k':Nat),i ≠ x->τ[i]?=some (some u)->m1[i]?=some (.ow k')->∀ b,N b->b ∉ u.adr k') :
  ∃ t',D1 (.lst a us) q t=some t'/\t'.val=t.val/\Sf p H0 A0 m1 (τ.set x (some t')) (L2.upd H1 a (.lst (us.map T.val)))/\Stp m m1 [x] τ (τ.set x (some t')) H (L2.upd H1 a (.lst (us.map T.val))):=by
 have S1:=S.grow s
 obtain ⟨ain,aad⟩:=Dp q (k:=k) hq (by omega)
 have ek:k - lnP q=(k - 1 - lnP q) + 1:=by omega
 have aadr:a ∈ t.adr k:=aad a (by rw [ek]; exact aac ..)
 have arest:a ∈ t.rest 0:=(T.all_iff t k).mpr (.inl aadr)
 have nds:=GC q hq (by omega:lnP q<=k) (S.nd x t k hx hm)
 rw [ek] at nds
 obtain ⟨nd1,nd2⟩:=nds
 simp only [T.adr,T.rest,aaE] at nd1 nd2
 have hpl:∃ vs,H1 a=some (.lst vs):=(S1.own x t k a hx hm aadr).2
 have hkeep:∀ b w,H1 b=some w->b ≠ a->L2.upd H1 a (.lst (us.map T.val)) b=some w:=fun b w e n=>by rw [Al n]; exact e
 have aus:a ∉ T.rests us 0:=fun z=>by
  rcases (T.alls_iff us (k - 1 - lnP q)).mp z with z | z
  ·rcases hA a z with y | y
   ·exact nd1.1 y
   ·exact f0 a y arest
  ·rcases hB a z with y | y
   ·exact nd2 a y (aac ..)
   ·exact n0 a y aadr
 have hs:(T.lst a us).Ok p (L2.upd H1 a (.lst (us.map T.val))):=⟨.inl AJ,T.oks_iff.mpr fun u hu=>CZ hkeep hpl (T.oks_iff.mp hus u hu) fun z=>aus (T.mem_rests.mpr ⟨u,hu,z⟩)⟩
 obtain ⟨t',p1,p2,p3,p4,p5,p6⟩:=Ih hkeep hpl hs hFN q hq hl (S.nd x t k hx hm) (S1.at hx hm (by intro c; cases c)) f0 n0 hA hB hnd
 have all':∀ b ∈ t'.rest 0,b ∈ t.rest 0\/N b:=fun b z=>by
  rcases (T.all_iff t' k).mp z with z | z
  ·exact (p5 b z).imp (fun y=>(T.all_iff t k).mpr (.inl y)) (hFN b)
  ·exact (p6 b z).imp (fun y=>(T.all_iff t k).mpr (.inr y)) id
 have sm0:0 < k/\k < 90:=of_decide_eq_true (S.small _ (aae hm))
 have sm:=sm0.2
 have other:∀ {j:Nat} {u:T} {d:Md},j ≠ x->τ[j]?=some (some u)->m1[j]?=some d->d ≠ .dead->u.Ok p (L2.upd H1 a (.lst (us.map T.val))):=by
  intro j u d ne e hd nd
  obtain ⟨h1,h2⟩:=hmo j d ne hd nd
  refine CZ hkeep hpl (S1.at e h1 nd) ?_
  cases d with
  | sh=>exact S.sep x j t u k _ (Ne.symm ne) hx hm e h1 nd a aadr
  | ow k2=>exact S.sep x j t u k _ (Ne.symm ne) hx hm e h1 nd a aadr
  | br k2 =>
   cases q with
   | nil =>
    cases hq
    exact S.top x j _ u k k2 hx hm e h1 a ts rfl
   | cons _ _=>exact absurd rfl (h2 (by simp) k2)
  | dead=>exact absurd rfl nd
 refine ⟨t',p1,p2,⟨by rw [aaw,hlen]; exact S.len,fun d hd=>?_,fun b u e=>?_,fun i u j e ej l=>?_,fun i u k' b e hk' z=>?_,fun b sh=>?_,fun i u k' e hk'=>?_,fun i j u w k' d ne e hk' e' hd nd b z=>?_,fun i j u w k' k2 e hk' e' hd b cs z=>?_⟩,
  fun b u e n=>?_,fun b o=>?_,fun i hi=>?_,fun i _=>by rw [LP hx p2]⟩
 ·obtain ⟨i,hi,rfl⟩:=abr hd
  by_cases z:i=x
  ·subst z
   rw [aai hi] at hmx
   rw [Option.some.inj hmx]
   exact decide_eq_true sm0
  ·by_cases y:m1[i]=.dead
   ·rw [y]; rfl
   ·exact S.small _ (aae (hmo i _ z (aai hi) y).1)
 ·rw [Al (fun z=>by
   have:=(S.own x t k a hx hm aadr).1
   rw [z] at e
   rw [this] at e; cases e)]
  exact S1.same b u e
 ·obtain ⟨d,hd,rfl⟩:=AO ej
  rcases Ae e with ⟨rfl,e2⟩ | ⟨ne,e1⟩
  ·cases e2; exact p3
  ·exact other ne e1 hd (fun z=>by subst z; exact absurd l (by decide))
 ·rcases Ae e with ⟨rfl,e2⟩ | ⟨ne,e1⟩
  ·cases e2
   rw [hmx] at hk'
   cases hk'
   rcases p5 b z with y | y
   ·obtain ⟨y1,vs,y2⟩:=S1.own i t k b hx hm y
    by_cases w:b=a
    ·subst w; exact ⟨y1,_,AJ⟩
    ·exact ⟨y1,vs,hkeep _ _ y2 w⟩
   ·obtain ⟨y1,vs,y2⟩:=f1 b y
    exact ⟨y1,vs,hkeep _ _ y2 fun w=>f0 b y (w ▸ arest)⟩
  ·obtain ⟨h1,_⟩:=hmo i _ ne hk' (by intro c; cases c)
   obtain ⟨y1,vs,y2⟩:=S1.own i u k' b e1 h1 z
   exact ⟨y1,vs,hkeep _ _ y2 fun w=>S.sep x i t u k _ (Ne.symm ne) hx hm e1 h1 (by intro c; cases c) a aadr (w ▸ (T.all_iff u k').mpr (.inl z))⟩
 ·obtain ⟨i,u,j,e,ej,l,z⟩:=sh
  obtain ⟨d,hd,rfl⟩:=AO ej
  rcases Ae e with ⟨rfl,e2⟩ | ⟨ne,e1⟩
  ·cases e2
   rw [hmx] at hd
   cases hd
   rcases p6 b z with y | y
   ·exact S.src b ⟨i,t,k,hx,AH hm,sm,y⟩
   ·exact n1 b y
  ·obtain ⟨h1,_⟩:=hmo i _ ne hd (fun z=>by subst z; exact absurd l (by decide))
   exact S.src b ⟨i,u,_,e1,AH h1,l,z⟩
 ·rcases Ae e with ⟨rfl,e2⟩ | ⟨ne,e1⟩
  ·cases e2
   rw [hmx] at hk'
   cases hk'
   exact p4
  ·exact S.nd i u k' e1 (hmo i _ ne hk' (by intro c; cases c)).1
 ·rcases Ae e with ⟨rfl,e2⟩ | ⟨ne1,e1⟩
  ·cases e2
   rw [hmx] at hk'
   cases hk'
   rcases Ae e' with ⟨z',_⟩ | ⟨ne2,e3⟩
   ·exact absurd z'.symm ne
   ·rcases p5 b z with y | y
    ·exact S.sep i j t w k d ne hx hm e3 (hmo j d ne2 hd nd).1 nd b y
    ·exact f2 j w d ne2 e3 hd nd b y
  ·obtain ⟨h1,_⟩:=hmo i _ ne1 hk' (by intro c; cases c)
   rcases Ae e' with ⟨z',e2⟩ | ⟨ne2,e3⟩
   ·cases e2
    subst z'
    rw [hmx] at hd
    cases hd
    intro y
    rcases all' b y with y | y
    ·exact S.sep i j u t k' _ ne e1 h1 hx hm (by intro c; cases c) b z y
    ·exact n2 i u k' ne1 e1 hk' b y z
   ·exact S.sep i j u w k' d ne e1 h1 e3 (hmo j d ne2 hd nd).1 nd b z
 ·have ne2:j ≠ x:=fun y=>by subst y; rw [hmx] at hd; cases hd
  rcases Ae e' with ⟨y,_⟩ | ⟨_,e3⟩
  ·exact absurd y ne2
  obtain ⟨h3,h4⟩:=hmo j _ ne2 hd (by intro c; cases c)
  rcases Ae e with ⟨rfl,e2⟩ | ⟨ne1,e1⟩
  ·cases e2
   rw [hmx] at hk'
   cases hk'
   cases q with
   | nil =>
    cases hq
    cases p1
    cases z
    exact S.top i j _ w k k2 hx hm e3 h3 _ ts rfl
   | cons _ _=>exact absurd rfl (h4 (by simp) k2)
  ·exact S.top i j u w k' k2 e1 (hmo i _ ne1 hk' (by intro c; cases c)).1 e3 h3 b cs z
 ·rw [Al (show b ≠ a from fun z=>n ⟨x,t,k,hx,hm,by rw [z]; exact aadr⟩)]
  exact s b u e
 ·obtain ⟨i,u,k',e,hk',z⟩:=o
  rcases Ae e with ⟨rfl,e2⟩ | ⟨ne,e1⟩
  ·cases e2
   rw [hmx] at hk'
   cases hk'
   rcases p5 b z with y | y
   ·exact .inl ⟨i,t,k,hx,hm,y⟩
   ·exact f4 b y
  ·exact .inl ⟨i,u,k',e1,(hmo i _ ne hk' (by intro c; cases c)).1,z⟩
 ·rw [aao (fun z=>hi (by simp [z]))]
end
structure Zx where
 p:Px
 H0:Hp
 A0:Addr->Prop
 EX:EXT
 mx:Ms
 dep:Nat
noncomputable def Um.kind:Um->Nat
 | .append=>1
 | .extend=>2
 | _=>0
mutual
noncomputable def wrS:S->List Nat
 | .asg x _ _=>[x,x + 1000]
 | .dem _ _=>[]
 | .dead _=>[]
 | .asgT xs _=>up xs
 | .set x _ _ _=>[x]
 | .mut x _ _ _=>[x]
 | .expr _=>[]
 | .iff _ a b=>wrSs a ++ wrSs b
 | .wh _ b=>wrSs b
 | .for_ g _ b=>up g.sl ++ wrSs b
 | .ret _=>[]
 | .retT _=>[]
 | .raise _ _=>[]
 | .try_ b _ i h e=>wrSs b ++ (i :: (i + 1000) :: (wrSs h ++ wrSs e))
 | .cif _ _ y _ b=>y :: wrSs b
 | .retM _ _=>[]
noncomputable def wrSs:Ss->List Nat
 | .nil=>[]
 | .cons s r=>wrS s ++ wrSs r
end
noncomputable def Sa (a b:Ms):Ms:=List.zipWith Md.meet a b
noncomputable def FC:Option Ms->Option Ms->Option Ms
 | none,b=>b
 | a,none=>a
 | some a,some b=>some (Sa a b)
noncomputable def HA (i:Nat):Option Ms->Option Ms
 | some m=>some (m.set i .dead)
 | none=>none
noncomputable def okJ:Option Ms->Option Ms->Bool
 | some a,some r=>leM a r
 | none,_=>true
 | some _,none=>false
noncomputable def It.nmOf:It->Option Nat
 | .seqL (.nm x)=>some x
 | _=>none
noncomputable def rk (m:Ms) (e:E):Option Nat:=match e with
 | .nm i=>match m[i]? with
  | some (.ow k)=>some k
  | some .sh=>some 0
  | _=>none
 | e=>(jk (tnM m) e).bind fun x=>if x.1=0 then some x.2 else none
noncomputable def HB (m:Ms):E->Option (Nat × Nat)
 | .nm i=>match m[i]? with
  | some (.ow k)=>some (i,k)
  | _=>none
 | _=>none
theorem M7 {m:Ms} {e:E} {i k:Nat} (h:HB m e=some (i,k)):e=.nm i/\m[i]?=some (.ow k):=by
 unfold HB at h
 split at h
 ·split at h
  ·cases h; exact ⟨rfl,‹_›⟩
  ·cases h
 ·cases h
noncomputable def rkT (m:Ms):List Nat->Es->Option Nat
 | _,.nil=>some 9
 | I,.cons e r=>match HB m e with
  | some (i,k)=>if i ∈ I then none else (rkT m (i :: I) r).bind fun k2=>some (min k k2)
  | none=>(jk (tnM m) e).bind fun c=>if c.1=0 then (rkT m I r).bind fun k2=>some (min c.2 k2) else none
noncomputable def Ay (m:Ms):Ms:=m.map fun d=>match d with
 | .br _=>.dead
 | d=>d
noncomputable def D2 (m:Ms):List (Bool × E)->Bool
 | []=>true
 | (_,e) :: r=>(jk (tnM m) e).isSome && D2 m r
noncomputable def lnE:List (Bool × E)->Nat
 | []=>0
 | (false,_) :: r=>lnE r + 1
 | (true,_) :: r=>lnE r
noncomputable def Es.mvOf (m:Ms):Es->Option (Nat × Nat)
 | .cons (.nm y) .nil=>match m[y]? with
  | some (.ow k)=>some (y,k)
  | _=>none
 | _=>none
noncomputable def Ii (m:Ms) (y z:Nat):Bool:=!(z==y) && match m[z]? with
 | some .sh=>true
 | some (.ow _)=>true
 | _=>false
mutual
noncomputable def msS (mx:Ms) (dep:Nat):S->Ms->Option (Option Ms)
 | .asg x k e,m=>(jk (tnM m) e).bind fun c=>if c.1=0/\k<=c.2/\x < m.length/\k < 90/\leM m mx=true then some (some (m.set x (mdK k))) else none
 | .dem x k,m=>if leM m (m.set x (mdK k))=true then some (some (m.set x (mdK k))) else none
 | .dead x,m=>if leM m (m.set x .dead)=true then some (some (m.set x .dead)) else none
 | .asgT xs e,m=>(jk (tnM m) e).bind fun c=>if c.1=0/\leM m mx=true then some (some (Ak m xs .sh)) else none
 | .set x p i e,m=>(jk (tnM m) e).bind fun c=>(jk (tnM m) i).bind fun _=>match m[x]? with
  | some (.ow k)=>if c.1=0/\lnE p < k/\k - 1 - lnE p<=c.2/\D2 m p=true/\leM m mx=true then some (some (if p.isEmpty then m else Ay m)) else none
  | _=>none
 | .mut x p u es,m=>match m[x]? with
  | some (.ow k)=>if lnE p < k/\D2 m p=true/\leM m mx=true then (match es.mvOf m with
    | some (y,ky)=>if u=.append/\y ≠ x/\k - 1 - lnE p<=ky/\p.isEmpty=true then some (some (m.set y (.br ky))) else none
    | none=>(jks (tnM m) es).bind fun c=>if (c.1=0\/(u=.extend/\c.1<=1))/\(k - 1 - lnE p=0\/(u.kind=1/\k - 1 - lnE p<=c.2)\/(u.kind=2/\k - lnE p<=c.2)\/u.kind=0) then some (some (if p.isEmpty then m else Ay m)) else none) else none
  | _=>none
 | .expr e,m=>(jk (tnM m) e).bind fun _=>if leM m mx=true then some (some m) else none
 | .iff c a b,m=>(jk (tnM m) c).bind fun _=>if leM m mx=true then (msSs mx dep a m).bind fun ra=>(msSs mx dep b m).bind fun rb=>if okJ ra (FC ra rb)=true/\okJ rb (FC ra rb)=true then some (FC ra rb) else none
  else none
 | .wh c b,m=>(jk (tnM m) c).bind fun _=>if leM m mx=true then (msSs mx dep b m).bind fun r=>match r with
   | none=>some (some m)
   | some mb=>if leM mb m=true then some (some m) else none
  else none
 | .for_ g it b,m=>(jkI (tnM m) it).bind fun j=>if leM m mx=true/\leM m (Ak m g.sl .dead)=true/\(j=0\/∃ x,it.nmOf=some x/\x ∉ wrSs b/\x ∉ up g.sl) then (msSs mx dep b (Ak (Ak m g.sl .dead) g.sl .sh)).bind fun r=>match r with
   | none=>some (some (Ak m g.sl .dead))
   | some mb=>if leM mb (Ak m g.sl .dead)=true then some (some (Ak m g.sl .dead)) else none
  else none
 | .ret e,m=>(rk m e).bind fun k=>if (dep<=k/\dep < 1000)/\leM m mx=true then some none else none
 | .retT es,m=>(rkT m [] es).bind fun k=>if (dep<=k/\dep < 1000)/\leM m mx=true then some none else none
 | .raise _ es,m=>(jks (tnM m) es).bind fun _=>if leM m mx=true then some none else none
 | .try_ b _ i h e,m=>if i < m.length/\leM m (Ak m (wrSs b) .dead)=true then (msSs (Ak m (wrSs b) .dead) dep b m).bind fun rb =>
   (msSs (aak m.length .dead) dep h ((Ak m (wrSs b) .dead).set i .sh)).bind fun rh =>
    (match rb with
     | none=>some none
     | some m1=>msSs mx dep e m1).bind fun re=>if okJ re (FC re (HA i rh))=true/\okJ (HA i rh) (FC re (HA i rh))=true then some (FC re (HA i rh)) else none
  else none
 | .cif F as y e b,m=>match m[y]? with
  | some (.ow k)=>(jk (tnM m) e).bind fun c=>if k=1/\c.1=0/\leM m mx=true/\leM m (Ay m)=true/\as[F.dep - 1000]?=some y/\(as.eraseIdx (F.dep - 1000)).all (Ii m y)=true then (msSs mx dep b (Ay m)).bind fun r=>match r with
   | none=>some (some (Ay m))
   | some _=>none
   else none
  | _=>none
 | .retM x e,m=>(jk (tnM m) e).bind fun _=>if dep=x + 1000/\m[x]?=some (.ow 1)/\leM m mx=true then some none else none
noncomputable def msSs (mx:Ms) (dep:Nat):Ss->Ms->Option (Option Ms)
 | .nil,m=>some (some m)
 | .cons s r,m=>(msS mx dep s m).bind fun o=>match o with
  | none=>some none
  | some m1=>msSs mx dep r m1
end
noncomputable def lRet (Z:Zx) (w:List Nat) (d:D) (τ:Ft) (E:Ends):Prop:=if Z.dep < 1000 then ∀ (t:T) (H':Hp),t.dat=d->Rs Z.p Z.A0 Z.H0 H' 0 Z.dep t->E.rt t.val H'
 else Z.dep ∉ w/\∀ (b:Bool) (us:List T) (a:Addr) (H':Hp),d=.tup [.bl b,.lst (T.dats us)]->(vτ τ)[Z.dep - 1000]?=some (some (.ref a))->(T.lst a us).Ok Z.p H'->(∃ ws,H' a=some (.lst ws))->Same Z.H0 H'->E.rt (.bl b) H'
theorem lRet.lo {Z:Zx} {w:List Nat} {d:D} {τ:Ft} {E:Ends} (h:lRet Z w d τ E) (hd:Z.dep < 1000) {t:T} {H':Hp} (e:t.dat=d) (R:Rs Z.p Z.A0 Z.H0 H' 0 Z.dep t):E.rt t.val H':=by
 unfold lRet at h
 rw [if_pos hd] at h
 exact h t H' e R
theorem lRet.to {Z Z2:Zx} {w w2:List Nat} {d:D} {τ τ2:Ft} {E E2:Ends} (h:lRet Z w d τ E) (hw:∀ i ∈ w2,i ∈ w) (hv:∀ i,i + 1000 ∉ w->(vτ τ2)[i]?=(vτ τ)[i]?) (he:E2.rt=E.rt:=by rfl) (hz:lRet Z2 w2 d τ2 E2=lRet Z w2 d τ2 E2:=by rfl):lRet Z2 w2 d τ2 E2:=by
 rw [hz]; clear hz
 unfold lRet at *
 rw [he]
 split
 ·rename_i c; rw [if_pos c] at h; exact h
 ·rename_i c
  rw [if_neg c] at h
  have e:Z.dep - 1000 + 1000=Z.dep:=Nat.sub_add_cancel (abk.mp c)
  refine ⟨fun z=>h.1 (hw _ z),fun b us a H' e1 e2=>h.2 b us a H' e1 ?_⟩
  rw [<- hv (Z.dep - 1000) (by rw [e]; exact h.1)]
  exact e2
noncomputable def lOut (Z:Zx) (m:Ms) (r:Option Ms) (w:List Nat) (o:Out) (τ:Ft) (H:Hp) (D:Ends):Prop:=match o with
 | .nxt δ'=>∀ (m':Ms) (τ':Ft) (H':Hp),r=some m'->dτ τ'=δ'->Sf Z.p Z.H0 Z.A0 m' τ' H'->Stp m m' w τ τ' H H'->D.nx (vτ τ') H'
 | .ret d=>lRet Z w d τ D
 | .exc c δ'=>Z.p.has c=true->∀ (τ':Ft) (H':Hp),dτ τ'=δ'->Sf Z.p Z.H0 Z.A0 Z.mx τ' H'->Stp m Z.mx w τ τ' H H'->Z.EX (vτ τ') (.ref (Z.p.cl c)) none H'
 | .bad=>False
noncomputable def lS (Z:Zx) (s:S):TS:=fun D σ H=>∃ τ m r,σ=vτ τ/\Sf Z.p Z.H0 Z.A0 m τ H/\msS Z.mx Z.dep s m=some r/\lOut Z m r (wrS s) (ex s (dτ τ)) τ H D
noncomputable def lSs (Z:Zx) (s:Ss):TS:=fun D σ H=>∃ τ m r,σ=vτ τ/\Sf Z.p Z.H0 Z.A0 m τ H/\msSs Z.mx Z.dep s m=some r/\lOut Z m r (wrSs s) (exs s (dτ τ)) τ H D
theorem PSs.mono {X:Cx} {st:List Stmt} {t t':TS} (h:PSs X st t) (m:∀ D σ H,t' D σ H->t D σ H):PSs X st t':=fun pins s σ H D I q=>h pins s σ H D I (m _ _ _ q)
section
variable {Z:Zx} {m:Ms} {r:Option Ms} {w:List Nat} {τ:Ft} {H:Hp} {D:Ends} {X:Cx} {pos:Pos}
theorem lOut.lg {α:Type} {q:Res α} {f:α->Out} (S:Sf Z.p Z.H0 Z.A0 m τ H) (hm:leM m Z.mx=true) (h:lOut Z m r w (q.out (dτ τ) f) τ H D):Lg Z.p Z.EX (vτ τ) q H fun a=>lOut Z m r w (f a) τ H D:=by
 cases q with
 | ok a=>exact h
 | exc c=>exact fun hc H' s=>h hc τ H' rfl ((S.weak hm).grow s) (Stp.refl w hm s)
 | bad=>exact h
theorem At {c:Prop} [Decidable c] {α:Type} {x y:α} (h:(if c then some x else none)=some y):c/\x=y:=by
 split at h
 ·exact ⟨‹_›,Option.some.inj h⟩
 ·cases h
theorem Q4 {x k:Nat} {e:E} {σ:L2.St} (h:lS Z (.asg x k e) D σ H):∃ τ m,σ=vτ τ/\Sf Z.p Z.H0 Z.A0 m τ H/\EV (lE Z.p Z.EX (tnM m) e) (D8 x) D σ H:=by
 obtain ⟨τ,m,r,rfl,S,hr,h⟩:=h
 simp only [msS] at hr
 obtain ⟨⟨j1,k1⟩,h1,hr⟩:=bS hr
 obtain ⟨⟨c1,c2,c3,c4,c5⟩,rfl⟩:=At hr
 have c1:j1=0:=c1
 subst c1
 refine ⟨τ,m,rfl,S,τ,rfl,S.ok,0,k1,h1,?_⟩
 simp only [ex] at h
 refine (h.lg S c5).mono (Same.refl _) fun d _ h t H1 ht R=>?_
 subst ht
 obtain ⟨S2,P2⟩:=LQ S R c2 c3 c4
 show D.nx ((vτ τ).set x (some t.val)) H1
 rw [<- Ew]
 exact h _ _ H1 rfl (Cr τ x t) S2 P2
end
theorem EJ {m:Ms} {i:Nat} {d:Md} (h:(Ay m)[i]?=some d):(d=.dead)\/(m[i]?=some d/\∀ k2,d ≠ .br k2):=by
 unfold Ay at h
 rw [aaj] at h
 obtain ⟨d',h1,h2⟩:=aar.mp h
 cases d' with
 | br k=>exact .inl h2.symm
 | sh=>cases h2; exact .inr ⟨h1,by simp⟩
 | ow k=>cases h2; exact .inr ⟨h1,by simp⟩
 | dead=>exact .inl h2.symm
theorem Hm {m:Ms} {i k:Nat} (h:m[i]?=some (.ow k)):(Ay m)[i]?=some (.ow k):=by
 unfold Ay; rw [aaj,h]; rfl
section
variable {p:Px} {H0:Hp} {A0:Addr->Prop} {m:Ms} {τ:Ft} {H H1:Hp}
theorem LW {x k:Nat} {t:T} {q:List (Bool × Int)} {a:Addr} {ts us es:List T} (S:Sf p H0 A0 m τ H) (s:Same H H1) (hx:τ[x]?=some (some t)) (hm:m[x]?=some (.ow k)) (hq:AM q t=some (.lst a ts)) (hl:lnP q < k) (hus:T.Oks p H1 us)
  (hA:∀ b ∈ T.adrs us (k - 1 - lnP q),b ∈ T.adrs ts (k - 1 - lnP q)\/b ∈ T.adrs es (k - 1 - lnP q)) (hB:∀ b ∈ T.rests us (k - 1 - lnP q),b ∈ T.rests ts (k - 1 - lnP q)\/b ∈ T.rests es 0)
  (hnd:T.Nds ts (k - 1 - lnP q)->(∀ b ∈ T.adrs es (k - 1 - lnP q),b ∉ T.rests ts 0)->(∀ b ∈ T.adrs ts (k - 1 - lnP q),b ∉ T.rests es 0)->T.Nds us (k - 1 - lnP q))
  (src:∀ b ∈ T.rests es 0,H b=none\/Sh (tnM m) τ b) (new:∀ b ∈ T.adrs es (k - 1 - lnP q),H b=none/\∃ vs,H1 b=some (.lst vs)) :
  ∃ t',D1 (.lst a us) q t=some t'/\t'.val=t.val/\Sf p H0 A0 (if q.isEmpty then m else Ay m) (τ.set x (some t')) (L2.upd H1 a (.lst (us.map T.val)))/\Stp m (if q.isEmpty then m else Ay m) [x] τ (τ.set x (some t')) H (L2.upd H1 a (.lst (us.map T.val))):=by
 have dom:∀ {j:Nat} {u:T} {d:Md},τ[j]?=some (some u)->m[j]?=some d->d ≠ .dead->∀ b ∈ u.rest 0,H b ≠ none:=fun e hd nd b z=>(S.at e hd nd).dom z
 obtain ⟨ain,aad⟩:=Dp q (k:=k) hq (by omega)
 have ek:k - lnP q=(k - 1 - lnP q) + 1:=by omega
 have nds:=GC q hq (by omega:lnP q<=k) (S.nd x t k hx hm)
 rw [ek] at nds aad
 have ndt:T.Nds ts (k - 1 - lnP q):=by
  obtain ⟨n1,n2⟩:=nds
  simp only [T.adr,T.rest,aaE] at n1 n2
  exact ⟨n1.2,fun b z y=>n2 b z (aaa _ y)⟩
 have hxd:∀ b ∈ t.rest 0,H b ≠ none:=dom hx hm (by intro c; cases c)
 have notOwn:∀ b ∈ T.rests es 0,¬ Own m τ b:=fun b z o=>by
  rcases src b z with y | y
  ·obtain ⟨_,vs,e⟩:=S.ownOk o
   rw [e] at y; cases y
  ·exact S.disj o y
 have hm1:∀ (j:Nat) (d:Md),(if q.isEmpty then m else Ay m)[j]?=some d->d ≠ .dead->m[j]?=some d/\(q ≠ []->∀ k2,d ≠ .br k2):=by
  intro j d hd nd
  cases q with
  | nil=>exact ⟨hd,fun z=>absurd rfl z⟩
  | cons z r =>
   rcases EJ hd with y | ⟨y1,y2⟩
   ·exact absurd y nd
   ·exact ⟨y1,fun _=>y2⟩
 refine LV (F:=fun b=>b ∈ T.adrs es (k - 1 - lnP q)) (N:=fun b=>b ∈ T.rests es 0) S s hx hm hq hl hus (fun b z=>(T.alls_iff es _).mpr (.inl z)) hA hB ?_ (fun b z y=>hxd b y (new b z).1) (fun b z=>⟨S.same.free (new b z).1,(new b z).2⟩) (fun b z=>.inr (new b z).1)
  (fun b z y=>notOwn b z ⟨x,t,k,hx,hm,y⟩) (fun b z=>?_) ?_ ?_ (fun j d _ hd nd=>hm1 j d hd nd) (fun j u d ne e hd nd b z y=>?_) (fun i u k' ne e hk b z y=>?_)
 ·refine hnd ndt (fun b z y=>?_) (fun b z y=>?_)
  ·exact hxd b (ain b (aaa _ y)) (new b z).1
  ·exact notOwn b y ⟨x,t,k,hx,hm,aad b (aaa _ z)⟩
 ·rcases src b z with y | y
  ·exact .inl (S.same.free y)
  ·exact S.src b y
 ·split
  ·rfl
  ·unfold Ay; rw [aab]
 ·split
  ·exact hm
  ·exact Hm hm
 ·exact dom e (hm1 j d hd nd).1 nd b (T.rest_le u (aay _) y) (new b z).1
 ·exact notOwn b z ⟨i,u,k',e,(hm1 i _ hk (by intro c; cases c)).1,y⟩
theorem Ij {ts:List T} {e:T} {k:Nat} (ne:e.Nd k) (h1:T.Nds ts k) (h2:∀ b ∈ T.adrs [e] k,b ∉ T.rests ts 0) (h3:∀ b ∈ T.adrs ts k,b ∉ T.rests [e] 0):T.Nds (ts ++ [e]) k :=
 T.nds_append h1 (T.nds_cons.mpr ⟨ne,by simp [T.Nds,T.adrs],by simp [T.rests],by simp [T.adrs]⟩) h3 h2
theorem O5 {ts:List T} {j:Nat} {c e:T} {k:Nat} (hc:ts[j]?=some c) (ne:e.Nd k) (h1:T.Nds ts k) (h2:∀ b ∈ T.adrs [e] k,b ∉ T.rests ts 0) (h3:∀ b ∈ T.adrs ts k,b ∉ T.rests [e] 0) :
  T.Nds (ts.set j e) k/\(∀ b ∈ T.adrs (ts.set j e) k,b ∈ T.adrs ts k\/b ∈ T.adrs [e] k)/\(∀ b ∈ T.rests (ts.set j e) k,b ∈ T.rests ts k\/b ∈ T.rests [e] 0):=by
 obtain ⟨l1,l2,e1,e2⟩:=Do hc
 rw [e1] at h1 h2 h3
 rw [e2,e1]
 refine ⟨Cu.mpr ⟨(Cu.mp h1).1,ne,fun b z y=>h2 b (by simpa [T.adrs] using z) ?_,fun b z y=>h3 b ?_ (by simpa [T.rests] using y)⟩,fun b z=>?_,fun b z=>?_⟩
 ·simp only [T.rests_append,T.rests,aaf] at y ⊢
  rcases y with y | y
  ·exact .inl y
  ·exact .inr (.inr y)
 ·simp only [T.adrs_append,T.adrs,aaf] at z ⊢
  rcases z with z | z
  ·exact .inl z
  ·exact .inr (.inr z)
 ·simp only [T.adrs_append,T.adrs,aaf,aaN] at z ⊢
  rcases z with z | z | z
  ·exact .inl (.inl z)
  ·exact .inr z
  ·exact .inl (.inr (.inr z))
 ·simp only [T.rests_append,T.rests,aaf,aaN] at z ⊢
  rcases z with z | z | z
  ·exact .inl (.inl z)
  ·exact .inr (T.rest_le e (aay _) z)
  ·exact .inl (.inr (.inr z))
end
theorem Fb:∀ (q:List (Bool × E)) (δ:Fr) (c:Nat),evP q δ ≠ .exc c
 | [],δ,c=>by simp [evP]
 | (t,e) :: r,δ,c=>by
  simp only [evP]
  split
  ·cases h:evP r δ with
   | ok is=>simp
   | exc c'=>exact absurd h (Fb r δ c')
   | bad=>simp
  ·simp
theorem Ik:∀ (q:List (Bool × E)) {δ:Fr} {b:Bool} {e:E} {is:List (Bool × Int)},evP (q ++ [(b,e)]) δ=.ok is->∃ js i,evP q δ=.ok js/\ev e δ=.ok (.int i)/\is=js ++ [(b,i)]
 | [],δ,b,e,is,h=>by
  simp only [abc,evP] at h
  split at h
  ·rename_i i he
   simp only [Res.bind_ok] at h
   cases h
   exact ⟨[],i,rfl,he,rfl⟩
  ·cases h
 | (t,e') :: r,δ,b,e,is,h=>by
  simp only [aa2,evP] at h
  split at h
  ·rename_i i' he'
   obtain ⟨js',h1,h2⟩:=Res.bind_eq_ok h
   cases h2
   obtain ⟨js,i,h3,h4,rfl⟩:=Ik r h1
   exact ⟨(t,i') :: js,i,by simp only [evP,he',h3,Res.bind_ok],h4,rfl⟩
  ·cases h
theorem Fc:∀ (q:List (Bool × Int)) {t s':T} {b:Bool} {i:Int},AM (q ++ [(b,i)]) t=some s'->∃ s,AM q t=some s/\AM [(b,i)] s=some s'
 | [],t,s',b,i,h=>⟨t,rfl,h⟩
 | (c,j) :: r,t,s',b,i,h=>by
  cases c with
  | false =>
   cases t with
   | lst a ts =>
    simp only [aa2,AM] at h ⊢
    obtain ⟨n,h1,h⟩:=bS h
    obtain ⟨u,h2,h⟩:=bS h
    obtain ⟨s,h3,h4⟩:=Fc r h
    exact ⟨s,by rw [h1]; simp only [aaH]; rw [h2]; exact h3,h4⟩
   | _=>cases h
  | true =>
   cases t with
   | tup a ts =>
    simp only [aa2,AM] at h ⊢
    obtain ⟨n,h1,h⟩:=bS h
    obtain ⟨u,h2,h⟩:=bS h
    obtain ⟨s,h3,h4⟩:=Fc r h
    exact ⟨s,by rw [h1]; simp only [aaH]; rw [h2]; exact h3,h4⟩
   | _=>cases h
theorem Ez {p:Px} {H:Hp}:∀ (q:List (Bool × Int)) {t s:T},t.Ok p H->AM q t=some s->s.Ok p H
 | [],t,s,ok,h=>by cases h; exact ok
 | (c,j) :: r,t,s,ok,h=>by
  cases c with
  | false =>
   cases t with
   | lst a ts =>
    simp only [AM] at h
    obtain ⟨n,h1,h⟩:=bS h
    obtain ⟨u,h2,h⟩:=bS h
    exact Ez r (T.oks_iff.mp ok.2 u (aae h2)) h
   | _=>cases h
  | true =>
   cases t with
   | tup a ts =>
    simp only [AM] at h
    obtain ⟨n,h1,h⟩:=bS h
    obtain ⟨u,h2,h⟩:=bS h
    exact Ez r (T.oks_iff.mp ok.2 u (aae h2)) h
   | _=>cases h
theorem O6 {b:Bool} {i:Int} {s s':T} (h:AM [(b,i)] s=some s'):(∃ a ts,s=.lst a ts/\atI (ts.map T.val) i=some s'.val)\/(∃ a ts,s=.tup a ts/\atI (ts.map T.val) i=some s'.val):=by
 cases b with
 | false =>
  cases s with
  | lst a ts =>
   simp only [AM] at h
   obtain ⟨n,h1,h⟩:=bS h
   obtain ⟨u,h2,h⟩:=bS h
   cases h
   refine .inl ⟨a,ts,rfl,?_⟩
   unfold atI
   rw [aab,HX,h1]
   show (ts.map T.val)[n]?=_
   rw [aaj,h2]; rfl
  | _=>cases h
 | true =>
  cases s with
  | tup a ts =>
   simp only [AM] at h
   obtain ⟨n,h1,h⟩:=bS h
   obtain ⟨u,h2,h⟩:=bS h
   cases h
   refine .inr ⟨a,ts,rfl,?_⟩
   unfold atI
   rw [aab,HX,h1]
   show (ts.map T.val)[n]?=_
   rw [aaj,h2]; rfl
  | _=>cases h
noncomputable def N2 (tn:List Nat) (q:List (Bool × E)):Prop:=∀ e ∈ q,(jk tn e.2).isSome=true
noncomputable def lPl (p:Px) (EX:EXT) (tn:List Nat) (x:Nat) (q:List (Bool × E)):TE:=fun σ H Q=>∃ τ t is s,σ=vτ τ/\Fok p tn τ H/\N2 tn q/\τ[x]?=some (some t)/\t.Ok p H/\evP q (dτ τ)=.ok is/\AM is t=some s/\∀ H',Same H H'->Q s.val H'
noncomputable def El (c:CkC) (x:Nat):List (Bool × E)->Expr->Bool
 | [],.Name y _=>(c.N[x]?==some y) && Dx c.sc y && AS y
 | (_,e) :: r,.Subscript o i _=>El c x r o && ckE c e i && AF i
 | _,_=>false
section
variable {p:Px} {c:CkC} {lv:Nat} {X:Cx} {EX:EXT} {tn:List Nat} {pos np:Pos}
theorem Kv (C:Ct p c lv X EX) {x:Nat}:∀ {rp:List (Bool × E)} {o:Expr},(∀ e ∈ rp,∀ n ∈ e.2.need,NeedOk p lv X n)->El c x rp o=true->PE X o (lPl p EX tn x rp.reverse)
 | [],o,hn,h=>by
  cases o with
  | Name y q =>
   obtain ⟨h,h3⟩:=Aa (show ((c.N[x]?==some y) && Dx c.sc y && AS y)=true from h)
   obtain ⟨h1,h2⟩:=Aa h
   obtain ⟨d1,d2⟩:=Ba h3
   refine PE.mono (DU (by rw [C.N]; exact beq_iff_eq.mp h1) (C.vis h2) d1 d2) fun σ H Q h=>?_
   obtain ⟨τ,t,is,s,rfl,hF,_,ht,ok,e,hs,hq⟩:=h
   simp only [List.reverse_nil,evP] at e
   cases e
   cases hs
   exact ⟨_,Bv ht,hq H (Same.refl _)⟩
  | _=>exact nF h
 | (b,e) :: rp,o,hn,h=>by
  cases o with
  | Subscript o' i q =>
   obtain ⟨h,h3⟩:=Aa (show (El c x rp o' && ckE c e i && AF i)=true from h)
   obtain ⟨h1,h2⟩:=Aa h
   have A:=Kv C (rp:=rp) (o:=o') (fun e he=>hn e (aaa _ he)) h1
   have B:=(snd e C (tn:=tn) i (hn (b,e) (aac ..)) h2).1
   refine PE.mono (Gn (Fs.or HJ) A B (Dl h3)) fun σ H Q h=>?_
   rw [acb] at h
   obtain ⟨τ,t,is,s,rfl,hF,hj,ht,ok,ev1,hs,hq⟩:=h
   obtain ⟨js,n,e1,e2,rfl⟩:=Ik _ ev1
   obtain ⟨s1,hs1,hs2⟩:=Fc _ hs
   refine ⟨τ,t,js,s1,rfl,hF,fun e he=>hj e (aam _ he),ht,ok,e1,hs1,fun H1 sm=>?_⟩
   obtain ⟨⟨j,k⟩,hj'⟩:=aaA.mp (hj (b,e) (aag _ (aav.mpr rfl)))
   refine ⟨τ,rfl,hF.same sm,j,k,hj',?_⟩
   rw [e2]
   intro t2 H2 ht2 R
   have hv:t2.val=.int n:=by cases t2 <;> simp [T.dat] at ht2 <;> simp [T.val,ht2]
   rw [hv]
   have ok1:=(Ez _ ok hs1).same (sm.trans R.same)
   rcases O6 hs2 with ⟨a,ts,rfl,at1⟩ | ⟨a,ts,rfl,at1⟩
   ·exact .inl ⟨a,_,n,_,rfl,rfl,.inl ok1.1,at1,hq H2 (sm.trans R.same)⟩
   ·exact .inr ⟨a,_,n,_,rfl,rfl,SqT.of ok1.1,at1,hq H2 (sm.trans R.same)⟩
  | _=>exact nF h
theorem Ec {m:Ms}:∀ {q:List (Bool × E)},D2 m q=true->N2 (tnM m) q
 | [],_=>fun e he=>nomatch he
 | (b,e) :: r,h=>by
  obtain ⟨h1,h2⟩:=Aa (show ((jk (tnM m) e).isSome && D2 m r)=true from h)
  intro e' he
  rcases aal.mp he with rfl | he
  ·exact h1
  ·exact Ec h2 e' he
theorem Il:∀ {q:List (Bool × E)} {δ:Fr} {is:List (Bool × Int)},evP q δ=.ok is->lnP is=lnE q/\is.isEmpty=q.isEmpty
 | [],δ,is,h=>by simp only [evP] at h; cases h; exact ⟨rfl,rfl⟩
 | (b,e) :: r,δ,is,h=>by
  simp only [evP] at h
  split at h
  ·obtain ⟨js,h1,h2⟩:=Res.bind_eq_ok h
   cases h2
   have:=(Il h1).1
   cases b <;> simp [lnP,lnE,this]
  ·cases h
theorem JL {δ:Fr} {x:Nat} {f:D->Option D} {Z:Zx} {m:Ms} {r:Option Ms} {w:List Nat} {τ:Ft} {H:Hp} {En:Ends} (h:lOut Z m r w (upd (dτ τ) x f) τ H En):∃ t d',τ[x]?=some (some t)/\f t.dat=some d'/\lOut Z m r w (.nxt ((dτ τ).set x (some d'))) τ H En:=by
 unfold upd at h
 cases q:(dτ τ)[x]? with
 | none=>rw [q] at h; exact nE h
 | some o =>
  rw [q] at h
  cases o with
  | none=>exact nE h
  | some d =>
   have:get (dτ τ) x=.ok d:=by unfold get; rw [q]
   obtain ⟨t,ht,rfl⟩:=Cq this
   simp only at h
   cases q2:f t.dat with
   | none=>rw [q2] at h; exact nE h
   | some d'=>rw [q2] at h; exact ⟨t,d',ht,q2,h⟩
end
theorem Ga {τ:Ft} {x:Nat} {t t':T} (h:τ[x]?=some (some t)) (e:t'.val=t.val):vτ (τ.set x (some t'))=vτ τ:=by
 rw [Ew,e]
 refine abV fun i=>?_
 by_cases z:x=i
 ·subst z
  rw [abd,Bv h]; rfl
 ·rw [aao z]
theorem Im {H:Hp} {a:Addr} {vs:List V} (h:Rd H a (.lst vs)) (hp:∃ ws,H a=some (.lst ws)):H a=some (.lst vs):=by
 obtain ⟨ws,e⟩:=hp
 rw [e,Gv h (.inl e)]
section
variable {Z:Zx} {m:Ms} {r:Option Ms} {w:List Nat} {τ:Ft} {H:Hp} {D:Ends} {X:Cx} {pos:Pos} {σ:L2.St}
theorem Q5 {x:Nat} {q:List (Bool × E)} {i e:E} (h:lS Z (.set x q i e) D σ H):∃ m,EV (lE Z.p Z.EX (tnM m) e) (Qg (lPl Z.p Z.EX (tnM m) x q) (lE Z.p Z.EX (tnM m) i) NT) D σ H:=by
 obtain ⟨τ,m,r,rfl,S,hr,h⟩:=h
 refine ⟨m,?_⟩
 simp only [msS] at hr
 obtain ⟨⟨j1,k1⟩,h1,hr⟩:=bS hr
 obtain ⟨⟨j2,k2⟩,h2,hr⟩:=bS hr
 split at hr
 ·rename_i k hmx
  obtain ⟨⟨c1,c2,c3,c4,c5⟩,rfl⟩:=At hr
  have c1:j1=0:=c1
  subst c1
  simp only [ex] at h
  refine ⟨τ,rfl,S.ok,0,k1,h1,(h.lg S c5).mono (Same.refl _) fun d _ h te H1 hte R=>?_⟩
  subst hte
  cases ep:evP q (dτ τ) with
  | exc c=>exact absurd ep (Fb _ _ _)
  | bad=>rw [ep] at h; exact nE h
  | ok is =>
  rw [ep] at h
  cases ei:ev i (dτ τ) with
  | exc c=>rw [ei] at h; exact nE h
  | bad=>rw [ei] at h; exact nE h
  | ok di =>
  rw [ei] at h
  cases di with
  | int n =>
   simp only at h
   obtain ⟨t,d',ht,hu,h⟩:=JL (δ:=dτ τ) h
   obtain ⟨a,ts,ds',hs,hf,hd'⟩:=FB is hu
   unfold De at hf
   obtain ⟨j,hj,rfl⟩:=aar.mp hf
   rw [Ag] at hj
   obtain ⟨l1,l2⟩:=Il ep
   refine ⟨τ,t,is,.lst a ts,rfl,S.ok.same R.same,Ec c4,ht,(S.at ht hmx (by intro c; cases c)).same R.same,ep,hs,fun H2 s2=>?_⟩
   refine ⟨τ,rfl,S.ok.same (R.same.trans s2),j2,k2,h2,?_⟩
   rw [ei]
   intro t2 H3 ht2 R3
   have hv:t2.val=.int n:=by cases t2 <;> simp [T.dat] at ht2 <;> simp [T.val,ht2]
   rw [hv]
   have s3:Same H1 H3:=s2.trans R3.same
   have sH3:Same H H3:=R.same.trans s3
   have S3:=S.grow sH3
   have hl:lnP is < k:=by rw [l1]; exact c2
   have aadr:a ∈ t.adr k:=(Dp is (k:=k) hs (by omega)).2 a (by
    have:k - lnP is=(k - lnP is - 1) + 1:=by omega
    rw [this]; exact aac ..)
   have okt:=Ez _ (S3.at ht hmx (by intro c; cases c)) hs
   have hpl:=Im okt.1 (S3.own x t k a ht hmx aadr).2
   have hjl:j < ts.length:=by
    unfold ixN at hj
    split at hj
    ·split at hj
     ·cases hj; omega
     ·cases hj
    ·split at hj
     ·cases hj; omega
     ·cases hj
   have hc:ts[j]?=some ts[j]:=aai hjl
   refine ⟨a,_,n,j,rfl,rfl,hpl,by rw [aab]; exact hj,?_⟩
   rw [<- abo]
   have R':Rs Z.p (Sh (tnM m) τ) H H3 0 (k - 1 - lnP is) te:=(R.fwd s3).le (aan _) (by rw [l1]; exact c3)
   obtain ⟨t',p1,p2,S4,P4⟩:=LW (us:=ts.set j te) (es:=[te]) S sH3 ht hmx hs hl (T.oks_iff.mpr fun w hw=>by
     rcases aaZ hw with z | rfl
     ·exact T.oks_iff.mp okt.2 w z
     ·exact R'.ok)
    (fun b z=>(show b ∈ T.adrs ts _\/b ∈ T.adrs [te] _ from by
     obtain ⟨w,hw,z2⟩:=T.mem_adrs.mp z
     rcases aaZ hw with y | rfl
     ·exact .inl (T.mem_adrs.mpr ⟨w,y,z2⟩)
     ·exact .inr (by simpa [T.adrs] using z2)))
    (fun b z=>(by
     obtain ⟨w,hw,z2⟩:=T.mem_rests.mp z
     rcases aaZ hw with y | rfl
     ·exact .inl (T.mem_rests.mpr ⟨w,y,z2⟩)
     ·exact .inr (by simpa [T.rests] using T.rest_le w (aay _) z2)))
    (fun n1 n2 n3=>(O5 hc R'.nd n1 n2 n3).1)
    (fun b z=>R'.src b (by simpa [T.rests] using z)) (fun b z=>R'.new b (by simpa [T.adrs] using z))
   have:=h _ _ _ (by rw [l2]) (by rw [Cr,hd' _ _ (F9 ..) p1]) S4 P4
   rw [Ga ht p2] at this
   exact this
  | _=>exact nE h
 ·cases hr
theorem JM {K:Frag} {H:Hp} {a:Addr} {vs:List V} (h:H a=some (.lst vs)):tyV K "list" (.ref a) H:=.inl ⟨rfl,_,SqL.of h⟩
theorem Io {x:Nat} {q:List (Bool × E)} {u:Um} {es:Es} {k:Nat} (S:Sf Z.p Z.H0 Z.A0 m τ H) (hmx:m[x]?=some (.ow k)) (c2:lnE q < k) (c4:D2 m q=true) (h:lOut Z m r [x] (ex (.mut x q u es) (dτ τ)) τ H D) :
  ∃ t is ds a ts ds',τ[x]?=some (some t)/\evP q (dτ τ)=.ok is/\evs es (dτ τ)=.ok ds/\AM is t=some (.lst a ts)/\lnP is=lnE q/\is.isEmpty=q.isEmpty/\umD u ds (T.dats ts)=some ds' /\
   (∀ H3,Same H H3->H3 a=some (.lst (ts.map T.val))/\T.Oks Z.p H3 ts/\a ∈ t.adr k) /\
   (∀ us m' H3 t',T.dats us=ds'->r=some m'->D1 (.lst a us) is t=some t'->t'.val=t.val->Sf Z.p Z.H0 Z.A0 m' (τ.set x (some t')) (L2.upd H3 a (.lst (us.map T.val)))->Stp m m' [x] τ (τ.set x (some t')) H (L2.upd H3 a (.lst (us.map T.val)))->D.nx (vτ τ) (L2.upd H3 a (.lst (us.map T.val)))):=by
 simp only [ex] at h
 cases ep:evP q (dτ τ) with
 | exc c=>exact absurd ep (Fb _ _ _)
 | bad=>rw [ep] at h; exact nE h
 | ok is =>
 rw [ep] at h
 cases ee:evs es (dτ τ) with
 | exc c=>rw [ee] at h; exact nE h
 | bad=>rw [ee] at h; exact nE h
 | ok ds =>
 rw [ee] at h
 simp only at h
 obtain ⟨t,d',ht,hu,h⟩:=JL (δ:=dτ τ) h
 obtain ⟨a,ts,ds',hs,hf,hd'⟩:=FB is hu
 obtain ⟨l1,l2⟩:=Il ep
 refine ⟨t,is,ds,a,ts,ds',ht,rfl,rfl,hs,l1,l2,hf,fun H3 sH3=>?_,fun us m' H3 t' e1 e2 p1 p2 S4 P4=>?_⟩
 ·have S3:=S.grow sH3
  have hl:lnP is < k:=by rw [l1]; exact c2
  have aadr:a ∈ t.adr k:=(Dp is (k:=k) hs (by omega)).2 a (by
   have:k - lnP is=(k - lnP is - 1) + 1:=by omega
   rw [this]; exact aac ..)
  have okt:=Ez _ (S3.at ht hmx (by intro c; cases c)) hs
  exact ⟨Im okt.1 (S3.own x t k a ht hmx aadr).2,okt.2,aadr⟩
 ·have:=h m' _ _ e2 (by rw [Cr,hd' us t' e1 p1]) S4 P4
  rw [Ga ht p2] at this
  exact this
noncomputable def rUm:Um->V->List V->Hp->VK->Prop
 | .append=>Fu
 | .extend=>fun x vs H Q=>∃ l b xs zs,x=.ref l/\vs=[.ref b]/\H l=some (.lst xs)/\Rd H b (.lst zs)/\xs.length + zs.length<=sizeLine/\Q .non (L2.upd H l (.lst (xs ++ zs)))
 | .clear=>Lj
noncomputable def M8:V->List V->Hp->VK->Prop:=fun x vs H Q=>∃ l b xs zs,x=.ref l/\vs=[.ref b]/\H l=some (.lst xs)/\Rd H b (.lst zs)/\xs.length + zs.length<=sizeLine/\Q .non (L2.upd H l (.lst (xs ++ zs)))
end
section
variable {X:Cx}
theorem Kw:MtM X "list.extend" M8:=by
 intro pins s σ H x vs v us Q I rx rv h
 obtain ⟨l,b,xs,zs,rfl,rfl,hH,hB,hz,q⟩:=h
 cases rx
 obtain ⟨u,rfl,ru⟩:=rv.one
 cases ru
 obtain ⟨z,its,n,r,hl,e⟩:=I.lstM hH
 obtain ⟨z2,its2,n2,r2,hl2,e2⟩:=Inv.lstR I hB
 have hsz:its.toArray.size + its2.toArray.size<=sizeLine:=by rw [aas,aas]; omega
 have hlong:¬ (!its.toArray.isEmpty && Builtin.List.listTooLong (its.toArray.size + its2.toArray.size))=true:=by
  rw [HN hsz,Bool.and_false]
  exact abt
 refine call_meets F.slot_list_extend ⟨_,e,rfl⟩ F.entry_list_extend (F.args_list_extend_2 _ _)
  (AutoSeq1.list_extend_list_list_0 l its.toArray n b its2.toArray n2 hlong (by rw [aas]; omega) (by omega)) ⟨e,e2,?_⟩
 refine ⟨.non,_,I.lset (its':=its ++ its2) hH e (by simp) (r.append r2) ?_,rfl,q⟩
 rw [aaG]
 omega
end
section
variable {Z:Zx} {m:Ms} {r:Option Ms} {w:List Nat} {τ:Ft} {H:Hp} {D:Ends} {X:Cx} {pos:Pos} {σ:L2.St}
theorem O7 {x:Nat} {q:List (Bool × E)} {u:Um} {es:Es} {k:Nat} (hK:X.K=Z.p.K) (S:Sf Z.p Z.H0 Z.A0 m τ H) (hmx:m[x]?=some (.ow k)) (c2:lnE q < k) (c4:D2 m q=true) {j1 k1:Nat} (h1:jks (tnM m) es=some (j1,k1))
  (hc:(j1=0\/(u=.extend/\j1<=1))/\(k - 1 - lnE q=0\/(u.kind=1/\k - 1 - lnE q<=k1)\/(u.kind=2/\k - lnE q<=k1)\/u.kind=0)) (hr:r=some (if q.isEmpty then m else Ay m)) (h:lOut Z m r [x] (ex (.mut x q u es) (dτ τ)) τ H D) :
  lPl Z.p Z.EX (tnM m) x q (vτ τ) H fun v H1=>tyV X.K "list" v H1/\lEs Z.p Z.EX (tnM m) es (vτ τ) H1 fun vs H2=>rUm u v vs H2 fun _ H3=>D.nx (vτ τ) H3:=by
 obtain ⟨t,is,ds,a,ts,ds',ht,ep,ee,hs,l1,l2,hf,hpl,hnx⟩:=Io S hmx c2 c4 h
 subst hr
 refine ⟨τ,t,is,.lst a ts,rfl,S.ok,Ec c4,ht,S.at ht hmx (by intro c; cases c),ep,hs,fun H1 s1=>⟨JM (hpl H1 s1).1,?_⟩⟩
 refine ⟨τ,rfl,S.ok.same s1,j1,k1,h1,?_⟩
 rw [ee]
 intro tes H2 hte R
 subst hte
 have s2:Same H H2:=s1.trans R.same
 obtain ⟨p0,okt,aadr⟩:=hpl H2 s2
 have hl:lnP is < k:=by rw [l1]; exact c2
 have fin:∀ us es',T.dats us=ds'->T.Oks Z.p H2 us->(∀ b ∈ T.adrs us (k - 1 - lnP is),b ∈ T.adrs ts (k - 1 - lnP is)\/b ∈ T.adrs es' (k - 1 - lnP is))->(∀ b ∈ T.rests us (k - 1 - lnP is),b ∈ T.rests ts (k - 1 - lnP is)\/b ∈ T.rests es' 0) ->
   (T.Nds ts (k - 1 - lnP is)->(∀ b ∈ T.adrs es' (k - 1 - lnP is),b ∉ T.rests ts 0)->(∀ b ∈ T.adrs ts (k - 1 - lnP is),b ∉ T.rests es' 0)->T.Nds us (k - 1 - lnP is))->(∀ b ∈ T.rests es' 0,H b=none\/Sh (tnM m) τ b)->(∀ b ∈ T.adrs es' (k - 1 - lnP is),H b=none/\∃ vs,H2 b=some (.lst vs)) ->
   D.nx (vτ τ) (L2.upd H2 a (.lst (us.map T.val))):=by
  intro us es' e1 e2 e3 e4 e5 e6 e7
  obtain ⟨t',p1,p2,S4,P4⟩:=LW (us:=us) (es:=es') S s2 ht hmx hs hl e2 e3 e4 e5 e6 e7
  rw [l2] at S4 P4
  exact hnx us _ H2 t' e1 rfl p1 p2 S4 P4
 have hz:ts.length<=sizeLine\/True:=.inr trivial
 cases u with
 | append =>
  rcases tes with _ | ⟨te,_ | ⟨te2,ter⟩⟩
  ·cases hf
  ·simp only [T.dats,umD] at hf
   obtain ⟨hlt,rfl⟩:=At hf
   have hj:j1=0:=by
    rcases hc.1 with z | ⟨z,_⟩
    ·exact z
    ·cases z
   subst hj
   have hk1:k - 1 - lnP is<=k1\/k - 1 - lnP is=0:=by
    rw [l1]
    rcases hc.2 with z | ⟨_,z⟩ | ⟨z,_⟩ | z
    ·exact .inr z
    ·exact .inl z
    ·cases z
    ·cases z
   refine ⟨a,_,te.val,rfl,rfl,p0,by rw [aab,<- Ag]; exact hlt,?_⟩
   have:=fin (ts ++ [te]) [te] (by rw [T.dats_map,aap,<- T.dats_map]; rfl) (T.oks_iff.mpr fun w hw=>by
     rcases aaf.mp hw with z | z
     ·exact T.oks_iff.mp okt w z
     ·exact T.oks_iff.mp R.ok w z)
    (fun b z=>by rw [T.adrs_append,aaf] at z; exact z) (fun b z=>by
     rw [T.rests_append,aaf] at z
     refine z.imp id fun z=>?_
     simp only [T.rests,aaN] at z ⊢
     exact T.rest_le te (aay _) z)
    (fun n1 n2 n3=>Ij (by
     rcases hk1 with z | z
     ·exact (T.nds_le z R.nd:T.Nds [te] _) |> fun w=>(T.nds_cons.mp w).1
     ·rw [z]; exact T.nd_zero te) n1 n2 n3)
    (fun b z=>(R.src b z).imp s1.free id) (fun b z=>by
     rcases hk1 with y | y
     ·obtain ⟨w,hw,z⟩:=T.mem_adrs.mp z
      have:=R.new b (T.mem_adrs.mpr ⟨w,hw,T.adr_le w y z⟩)
      exact ⟨s1.free this.1,this.2⟩
     ·rw [y,T.adrs_zero] at z; cases z)
   rw [aap] at this
   exact this
  ·have:umD .append (T.dats (te :: te2 :: ter)) (T.dats ts)=none:=rfl
   rw [this] at hf; cases hf
 | extend =>
  rcases tes with _ | ⟨te,_ | ⟨te2,ter⟩⟩
  ·cases hf
  ·cases te with
   | lst b0 es' =>
    simp only [T.dats,T.dat,umD] at hf
    obtain ⟨hlt,rfl⟩:=At hf
    have hj:j1<=1:=by
     rcases hc.1 with z | ⟨_,z⟩
     ·omega
     ·exact z
    have hk1:k - 1 - lnP is + 1<=k1\/k - 1 - lnP is=0:=by
     rw [l1]
     rcases hc.2 with z | ⟨z,_⟩ | ⟨_,z⟩ | z
     ·exact .inr z
     ·cases z
     ·exact .inl (by omega)
     ·cases z
    refine ⟨a,b0,_,_,rfl,rfl,p0,R.ok.1.1,by rw [aab,aab,<- Ag,<- Ag]; exact hlt,?_⟩
    have nde:T.Nds es' (k - 1 - lnP is):=by
     rcases hk1 with z | z
     ·obtain ⟨n1,n2⟩:=(T.nds_cons.mp (T.nds_le z R.nd)).1
      simp only [T.adr,T.rest,aaE] at n1 n2
      exact ⟨n1.2,fun b y w=>n2 b y (aaa _ w)⟩
     ·rw [z]; exact T.nds_zero _
    have:=fin (ts ++ es') es' (by rw [T.dats_map,aap,<- T.dats_map,<- T.dats_map]) (T.oks_iff.mpr fun w hw=>by
      rcases aaf.mp hw with z | z
      ·exact T.oks_iff.mp okt w z
      ·exact T.oks_iff.mp R.ok.1.2 w z)
     (fun b z=>by rw [T.adrs_append,aaf] at z; exact z) (fun b z=>by
      rw [T.rests_append,aaf] at z
      refine z.imp id fun z=>?_
      obtain ⟨w,hw,z2⟩:=T.mem_rests.mp z
      exact T.mem_rests.mpr ⟨w,hw,T.rest_le w (aay _) z2⟩)
     (fun n1 n2 n3=>T.nds_append n1 nde n3 n2)
     (fun b z=>(R.src b (by
      simp only [T.rests,aaN]
      exact T.rest_le (.lst b0 es') hj (j':=1) z)).imp s1.free id) (fun b z=>by
      rcases hk1 with y | y
      ·have:=R.new b (T.mem_adrs.mpr ⟨.lst b0 es',aav.mpr rfl,T.adr_le (.lst b0 es') y (aaa _ z)⟩)
       exact ⟨s1.free this.1,this.2⟩
      ·rw [y,T.adrs_zero] at z; cases z)
    rw [aap] at this
    exact this
   | _=>cases hf
  ·have:umD .extend (T.dats (te :: te2 :: ter)) (T.dats ts)=none:=rfl
   rw [this] at hf; cases hf
 | clear =>
  rcases tes with _ | ⟨te,ter⟩
  ·cases hf
   refine ⟨a,_,rfl,rfl,p0,?_⟩
   exact fin [] [] rfl trivial (fun b z=>nomatch z) (fun b z=>nomatch z) (fun n1 _ _=>by simp [T.Nds,T.adrs]) (fun b z=>nomatch z) (fun b z=>nomatch z)
  ·have:umD .clear (T.dats (te :: ter)) (T.dats ts)=none:=rfl
   rw [this] at hf; cases hf
end
section
variable {p:Px} {H0:Hp} {A0:Addr->Prop} {m:Ms} {τ:Ft} {H H1:Hp}
theorem Sb {y ky:Nat} {ty:T} (S:Sf p H0 A0 (m.set y .dead) τ H) (hy:τ[y]?=some (some ty)) (hm:y < m.length) (h90:ky < 90) (ok:ty.Ok p H) (src:∀ a ∈ ty.rest ky,H0 a=none\/A0 a)
  (sep:∀ (i:Nat) (t:T) (k:Nat),τ[i]?=some (some t)->(m.set y .dead)[i]?=some (.ow k)->∀ a ∈ t.adr k,a ∉ ty.rest ky) (top:∀ (i:Nat) (t:T) (k:Nat),τ[i]?=some (some t)->(m.set y .dead)[i]?=some (.ow k)->∀ a ts,t=.lst a ts->a ∉ ty.rest 0):Sf p H0 A0 (m.set y (.br ky)) τ H:=by
 have back:∀ {i:Nat} {d:Md},(m.set y (.br ky))[i]?=some d->(i=y/\d=.br ky)\/(i ≠ y/\(m.set y .dead)[i]?=some d):=by
  intro i d h
  rcases Ae h with z | ⟨z1,z2⟩
  ·exact .inl z
  ·exact .inr ⟨z1,by rw [aao (Ne.symm z1)]; exact z2⟩
 have ow':∀ {i k:Nat},(m.set y (.br ky))[i]?=some (.ow k)->(m.set y .dead)[i]?=some (.ow k):=by
  intro i k h
  rcases back h with ⟨_,z⟩ | ⟨_,z⟩
  ·cases z
  ·exact z
 refine ⟨by have:=S.len; rw [aaw] at this ⊢; exact this,fun d hd=>?_,S.same,fun i t j e ej l=>?_,fun i t k a e hk q=>S.own i t k a e (ow' hk) q,fun a sh=>?_,fun i t k e hk=>S.nd i t k e (ow' hk),fun i j t u k d ne e hk e' hd nd a q=>?_,fun i j t u k k2 e hk e' hd a ts z=>?_⟩
 ·obtain ⟨i,hi,rfl⟩:=abr hd
  rcases back (aai hi) with ⟨_,z⟩ | ⟨_,z⟩
  ·rw [z]; exact decide_eq_true h90
  ·exact S.small _ (aae z)
 ·obtain ⟨d,hd,rfl⟩:=AO ej
  rcases back hd with ⟨rfl,z⟩ | ⟨_,z⟩
  ·rw [hy] at e; cases e; exact ok
  ·exact S.ok i t _ e (AH z) l
 ·obtain ⟨i,t,j,e,ej,l,q⟩:=sh
  obtain ⟨d,hd,rfl⟩:=AO ej
  rcases back hd with ⟨rfl,z⟩ | ⟨_,z⟩
  ·rw [hy] at e; cases e; subst z; exact src a q
  ·exact S.src a ⟨i,t,_,e,AH z,l,q⟩
 ·rcases back hd with ⟨rfl,z⟩ | ⟨_,z⟩
  ·rw [hy] at e'; cases e'; subst z; exact sep i t k e (ow' hk) a q
  ·exact S.sep i j t u k d ne e (ow' hk) e' z nd a q
 ·rcases back hd with ⟨rfl,z'⟩ | ⟨_,z'⟩
  ·rw [hy] at e'; cases e'; exact top i t k e (ow' hk) a ts z
  ·exact S.top i j t u k k2 e (ow' hk) e' z' a ts z
theorem O8 {x y k ky:Nat} {ty:T} {a:Addr} {ts:List T} (S:Sf p H0 A0 m τ H) (s:Same H H1) (hx:τ[x]?=some (some (.lst a ts))) (hm:m[x]?=some (.ow k)) (hy:τ[y]?=some (some ty)) (hmy:m[y]?=some (.ow ky)) (hne:y ≠ x) (hk:k - 1<=ky) :
  Sf p H0 A0 (m.set y (.br ky)) (τ.set x (some (.lst a (ts ++ [ty])))) (L2.upd H1 a (.lst ((ts ++ [ty]).map T.val)))/\Stp m (m.set y (.br ky)) [x] τ (τ.set x (some (.lst a (ts ++ [ty])))) H (L2.upd H1 a (.lst ((ts ++ [ty]).map T.val))):=by
 have S1:=S.grow s
 have sm:0 < k/\k < 90:=of_decide_eq_true (S.small _ (aae hm))
 have smy:0 < ky/\ky < 90:=of_decide_eq_true (S.small _ (aae hmy))
 have no:∀ {k0:Nat},Md.ow k0 ≠ .dead:=by intro k0 c; cases c
 have hyl:y < m.length:=(aaq.mp hmy).1
 have sxy:∀ b ∈ (T.lst a ts).adr k,b ∉ ty.rest 0:=S.sep x y _ ty k _ (Ne.symm hne) hx hm hy hmy no
 have syx:∀ b ∈ ty.adr ky,b ∉ (T.lst a ts).rest 0:=S.sep y x ty _ ky _ hne hy hmy hx hm no
 obtain ⟨k',rfl⟩:∃ k',k=k' + 1:=⟨k - 1,by omega⟩
 have aadr:a ∈ (T.lst a ts).adr (k' + 1):=aac ..
 have ndx:=S.nd x _ _ hx hm
 have ndt:T.Nds ts k':=by
  obtain ⟨n1,n2⟩:=ndx
  simp only [T.adr,T.rest,aaE] at n1 n2
  exact ⟨n1.2,fun b z y=>n2 b z (aaa _ y)⟩
 have hk':k'<=ky:=by omega
 have okx:=S1.at hx hm no
 have oky:=S1.at hy hmy no
 have e0:k' + 1 - 1 - lnP []=k':=by simp [lnP]
 obtain ⟨t',p1,p2,S2,P2⟩:=LV (F:=fun b=>b ∈ ty.adr k') (N:=fun b=>b ∈ ty.rest 0) (m1:=m.set y .dead) (us:=ts ++ [ty]) (q:=[]) S s hx hm rfl (by simp [lnP])
  (T.oks_iff.mpr fun w hw=>by
   rcases aaf.mp hw with z | z
   ·exact T.oks_iff.mp okx.2 w z
   ·cases aav.mp z; exact oky)
  (fun b z=>(T.all_iff ty k').mpr (.inl z))
  (by
   rw [e0]
   intro b z
   rw [T.adrs_append,aaf] at z
   exact z.imp id fun z=>by simpa [T.adrs] using z)
  (by
   rw [e0]
   intro b z
   rw [T.rests_append,aaf] at z
   exact z.imp id fun z=>T.rest_le ty (aay k') (by simpa [T.rests] using z))
  (by
   rw [e0]
   exact Ij (T.nd_le ty hk' (S.nd y ty ky hy hmy)) ndt (fun b z w=>syx b (T.adr_le ty hk' (by simpa [T.adrs] using z)) (aaa _ w)) (fun b z w=>sxy b (aaa _ z) (by simpa [T.rests] using w)))
  (fun b z=>syx b (T.adr_le ty hk' z)) (fun b z=>S1.own y ty ky b hy hmy (T.adr_le ty hk' z)) (fun b z=>.inl ⟨y,ty,ky,hy,hmy,T.adr_le ty hk' z⟩) (fun b z w=>sxy b w z)
  (fun b z=>by
   rcases (T.all_iff ty ky).mp z with w | w
   ·exact .inl (S.own y ty ky b hy hmy w).1
   ·exact S.src b ⟨y,ty,ky,hy,AH hmy,smy.2,w⟩)
  (by rw [aaw]) (by rw [aao hne]; exact hm)
  (fun j d ne hd nd=>by
   rcases Ae hd with ⟨_,z⟩ | ⟨_,z⟩
   ·exact absurd z nd
   ·exact ⟨z,fun w=>absurd rfl w⟩)
  (fun j u d ne e hd nd b z=>by
   rcases Ae hd with ⟨_,w⟩ | ⟨w,hd⟩
   ·exact absurd w nd
   ·exact S.sep y j ty u ky d (Ne.symm w) hy hmy e hd nd b (T.adr_le ty hk' z))
  (fun i u k2 ne e hk2 b z w=>by
   rcases Ae hk2 with ⟨_,w'⟩ | ⟨w',hk2⟩
   ·cases w'
   ·exact S.sep i y u ty k2 _ w' e hk2 hy hmy no b w z)
 cases p1
 have hy':(τ.set x (some (.lst a (ts ++ [ty]))))[y]?=some (some ty):=by rw [aao (Ne.symm hne)]; exact hy
 have atop:a ∉ ty.rest 0:=sxy a aadr
 refine ⟨Sb S2 hy' hyl smy.2 ?_ (fun b z=>S.src b ⟨y,ty,ky,hy,AH hmy,smy.2,z⟩) (fun i t k2 e hk2 b z w=>?_) (fun i t k2 e hk2 b cs z=>?_),P2.keep,fun b o=>P2.grow b ?_,P2.wr,P2.ad⟩
 ·refine CZ (H:=H1) (fun b w e n=>by rw [Al n]; exact e) (S1.own x _ _ a hx hm aadr).2 oky atop
 ·rcases Ae e with ⟨rfl,e2⟩ | ⟨n1,e1⟩
  ·cases e2
   rcases Ae hk2 with ⟨w',_⟩ | ⟨_,hk2⟩
   ·exact hne w'.symm
   ·rw [hm] at hk2
    cases hk2
    simp only [T.adr,T.adrs_append,T.adrs,aal,aaf,aaN] at z
    rcases z with rfl | z | z
    ·exact atop (T.rest_le ty (aay _) w)
    ·exact sxy b (aaa _ z) (T.rest_le ty (aay _) w)
    ·exact (S.nd y ty ky hy hmy).2 b w (T.adr_le ty hk' z)
  ·rcases Ae hk2 with ⟨_,w'⟩ | ⟨w',hk2⟩
   ·cases w'
   ·exact S.sep i y t ty k2 _ w' e1 hk2 hy hmy no b z (T.rest_le ty (aay _) w)
 ·rcases Ae e with ⟨rfl,e2⟩ | ⟨n1,e1⟩
  ·cases e2
   cases z
   exact atop
  ·rcases Ae hk2 with ⟨_,w'⟩ | ⟨w',hk2⟩
   ·cases w'
   ·subst z
    have:=of_decide_eq_true (S.small _ (aae hk2))
    refine S.sep i y _ ty k2 _ w' e1 hk2 hy hmy no b ?_
    obtain ⟨k3,rfl⟩:∃ k3,k2=k3 + 1:=⟨k2 - 1,by omega⟩
    exact aac ..
 ·obtain ⟨i,t,k2,e,hk2,z⟩:=o
  refine ⟨i,t,k2,e,?_,z⟩
  rcases Ae hk2 with ⟨_,w'⟩ | ⟨w',hk2⟩
  ·cases w'
  ·rw [aao (Ne.symm w')]; exact hk2
end
section
variable {Z:Zx} {m:Ms} {r:Option Ms} {τ:Ft} {H:Hp} {D:Ends} {X:Cx}
theorem Q6 {x y k ky:Nat} (S:Sf Z.p Z.H0 Z.A0 m τ H) (hmx:m[x]?=some (.ow k)) (hmy:m[y]?=some (.ow ky)) (hne:y ≠ x) (hk:k - 1<=ky) (hr:r=some (m.set y (.br ky))) (h:lOut Z m r [x] (ex (.mut x [] .append (.cons (.nm y) .nil)) (dτ τ)) τ H D) :
  lPl Z.p Z.EX (tnM m) x [] (vτ τ) H fun v H1=>tyV X.K "list" v H1/\(NS (Mp y) Qr) (vτ τ) H1 fun vs H2=>Fu v vs H2 fun _ H3=>D.nx (vτ τ) H3:=by
 have sm:0 < k/\k < 90:=of_decide_eq_true (S.small _ (aae hmx))
 obtain ⟨t,is,ds,a,ts,ds',ht,ep,ee,hs,l1,l2,hf,hpl,hnx⟩:=Io S hmx (by simp [lnE]; omega) rfl h
 cases ep
 cases hs
 subst hr
 simp only [evs,ev] at ee
 obtain ⟨d,e1,ee⟩:=Res.bind_eq_ok ee
 cases ee
 obtain ⟨ty,hy,rfl⟩:=Cq e1
 simp only [umD] at hf
 obtain ⟨hlt,rfl⟩:=At hf
 refine ⟨τ,_,[],.lst a ts,rfl,S.ok,Ec rfl,ht,S.at ht hmx (by intro c; cases c),rfl,rfl,fun H1 s1=>⟨JM (hpl H1 s1).1,?_⟩⟩
 refine ⟨ty.val,Bv hy,?_⟩
 show Fu (.ref a) [ty.val] H1 (fun _ H3=>D.nx (vτ τ) H3)
 refine ⟨a,_,ty.val,rfl,rfl,(hpl H1 s1).1,by rw [aab,<- Ag]; exact hlt,?_⟩
 obtain ⟨S2,P2⟩:=O8 S s1 ht hmx hy hmy hne hk
 have:=hnx (ts ++ [ty]) _ H1 _ (by rw [T.dats_map,aap,<- T.dats_map]; rfl) rfl rfl rfl S2 P2
 rw [aap] at this
 exact this
end
section
variable {Z:Zx} {m:Ms} {r:Option Ms} {w:List Nat} {τ:Ft} {H:Hp} {D:Ends} {X:Cx} {pos:Pos} {σ:L2.St}
theorem O9 {K:Frag} {xs:List Nat} {e:E} (h:lS Z (.asgT xs e) D σ H):∃ m,EV (lE Z.p Z.EX (tnM m) e) (lG K (.tp xs)) D σ H:=by
 obtain ⟨τ,m,r,rfl,S,hr,h⟩:=h
 refine ⟨m,?_⟩
 simp only [msS] at hr
 obtain ⟨⟨j1,k1⟩,h1,hr⟩:=bS hr
 obtain ⟨⟨c1,c2⟩,rfl⟩:=At hr
 have c1:j1=0:=c1
 subst c1
 simp only [ex] at h
 refine ⟨τ,rfl,S.ok,0,k1,h1,(h.lg S c2).mono (Same.refl _) fun d _ h t H1 ht R=>?_⟩
 subst ht
 rw [E5] at h
 cases q:B7 (.tp xs) t τ with
 | none=>rw [q] at h; exact nE h
 | some τ' =>
  rw [q] at h
  obtain ⟨S2,P2⟩:=R9 S R.same R.ok R.src q
  exact Ko R.ok q (h _ τ' H1 rfl rfl S2 P2)
theorem Pa {e:E} (h:lS Z (.expr e) D σ H):∃ m,NO (lE Z.p Z.EX (tnM m) e) D σ H:=by
 obtain ⟨τ,m,r,rfl,S,hr,h⟩:=h
 refine ⟨m,?_⟩
 simp only [msS] at hr
 obtain ⟨⟨j1,k1⟩,h1,hr⟩:=bS hr
 obtain ⟨c2,rfl⟩:=At hr
 simp only [ex] at h
 exact ⟨τ,rfl,S.ok,j1,k1,h1,(h.lg S c2).mono (Same.refl _) fun d _ h t H1 ht R=>h m τ H1 rfl rfl (S.grow R.same) (Stp.refl _ (F8 S.small) R.same)⟩
theorem M9 {c:Nat} {es:Es} (h:lS Z (.raise c es) D σ H):∃ m,lEs Z.p Z.EX (tnM m) es σ H fun vs H1=>vs.length=es.len/\(Z.p.has c=true->Z.EX σ (.ref (Z.p.cl c)) none H1):=by
 obtain ⟨τ,m,r,rfl,S,hr,h⟩:=h
 refine ⟨m,?_⟩
 simp only [msS] at hr
 obtain ⟨⟨j1,k1⟩,h1,hr⟩:=bS hr
 obtain ⟨c2,rfl⟩:=At hr
 simp only [ex] at h
 refine ⟨τ,rfl,S.ok,j1,k1,h1,(h.lg S c2).mono (Same.refl _) fun ds e h ts H1 hts R=>⟨?_,fun hc=>h hc τ H1 rfl ((S.weak c2).grow R.same) (Stp.refl _ c2 R.same)⟩⟩
 rw [aab,<- Ag,hts,BB _ _ _ e]
theorem Q7 {e:E} (h:lS Z (.ret e) D σ H):(∃ (i:Nat) (t:T),e=.nm i/\σ[i]?=some (some t.val)/\D.rt t.val H)\/∃ m,lE Z.p Z.EX (tnM m) e σ H D.rt:=by
 obtain ⟨τ,m,r,rfl,S,hr,h⟩:=h
 simp only [msS] at hr
 obtain ⟨k,hk,hr⟩:=bS hr
 obtain ⟨⟨⟨c1,c0⟩,c2⟩,rfl⟩:=At hr
 simp only [ex] at h
 have gen:∀ j,(jk (tnM m) e=some (j,k))->j=0->∃ m,lE Z.p Z.EX (tnM m) e (vτ τ) H D.rt:=by
  intro j hj hz
  subst hz
  refine ⟨m,τ,rfl,S.ok,0,k,hj,(h.lg S c2).mono (Same.refl _) fun d _ h t H1 ht R=>lRet.lo h c0 ht ⟨S.same.trans R.same,R.ok,fun a q=>?_,fun a q=>?_,T.nd_le t c1 R.nd⟩⟩
  ·rcases R.src a q with z | z
   ·exact .inl (S.same.free z)
   ·exact S.src a z
  ·have:=R.new a (T.adr_le t c1 q)
   exact ⟨S.same.free this.1,this.2⟩
 by_cases hnm:∃ i,e=.nm i
 ·obtain ⟨i,rfl⟩:=hnm
  simp only [rk] at hk
  cases q:get (dτ τ) i with
  | exc c=>unfold get at q; split at q <;> cases q
  | bad=>simp only [ev,q] at h; exact nE h
  | ok d =>
   obtain ⟨t,ht,rfl⟩:=Cq q
   simp only [ev,q] at h
   refine .inl ⟨i,t,rfl,Bv ht,lRet.lo h c0 rfl ?_⟩
   split at hk
   ·rename_i k0 hm
    cases hk
    have sm:0 < k/\k < 90:=of_decide_eq_true (S.small _ (aae hm))
    refine ⟨S.same,S.at ht hm (by intro c; cases c),fun a z=>?_,fun a z=>S.own i t k a ht hm (T.adr_le t c1 z),T.nd_le t c1 (S.nd i t k ht hm)⟩
    rcases (T.all_iff t k).mp z with y | y
    ·exact .inl (S.own i t k a ht hm y).1
    ·exact S.src a ⟨i,t,k,ht,AH hm,sm.2,y⟩
   ·rename_i hm
    cases hk
    have c1:Z.dep=0:=by omega
    rw [c1]
    exact ⟨S.same,S.at ht hm (by intro c; cases c),fun a z=>S.src a ⟨i,t,0,ht,AH hm,by decide,z⟩,by rw [T.adr_zero]; simp,T.nd_zero t⟩
   ·cases hk
 ·refine .inr ?_
  have:rk m e=(jk (tnM m) e).bind fun x=>if x.1=0 then some x.2 else none:=by
   cases e <;> first | rfl | exact absurd ⟨_,rfl⟩ hnm
  rw [this] at hk
  obtain ⟨⟨j1,k1⟩,h1,hk⟩:=bS hk
  obtain ⟨z,rfl⟩:=At hk
  exact gen j1 h1 z
theorem lOut.weak {r1 r2:Option Ms} {w1 w2:List Nat} {o:Out} (h:lOut Z m r2 w2 o τ H D) (hj:okJ r1 r2=true) (hw:∀ i ∈ w1,i ∈ w2):lOut Z m r1 w1 o τ H D:=by
 cases o with
 | nxt δ' =>
  intro m' τ' H' e1 e2 S P
  subst e1
  cases r2 with
  | none=>cases hj
  | some m2=>exact h m2 τ' H' rfl e2 (S.weak hj) ⟨P.keep,fun a o=>P.grow a (o.weak hj),fun i hi=>P.wr i fun q=>hi (hw i q),fun i hi=>P.ad i fun q=>hi (hw _ q)⟩
 | ret d=>exact h.to hw fun _ _=>rfl
 | exc c δ'=>exact fun hc τ' H' e S P=>h hc τ' H' e S (P.mono hw)
 | bad=>exact h
theorem Q8 {c:E} {a b:Ss} (h:lS Z (.iff c a b) D σ H):∃ m,Qb (lT Z.p Z.EX (tnM m) c) (lSs Z a) (lSs Z b) D σ H:=by
 obtain ⟨τ,m,r,rfl,S,hr,h⟩:=h
 refine ⟨m,?_⟩
 simp only [msS] at hr
 obtain ⟨⟨j1,k1⟩,h1,hr⟩:=bS hr
 split at hr
 ·rename_i c2
  obtain ⟨ra,h2,hr⟩:=bS hr
  obtain ⟨rb,h3,hr⟩:=bS hr
  obtain ⟨⟨c3,c4⟩,rfl⟩:=At hr
  simp only [ex] at h
  refine ⟨τ,rfl,S.ok,by rw [h1]; rfl,(h.lg S c2).mono (Same.refl _) fun t _ h H1 s1=>?_⟩
  have S1:=S.grow s1
  have shift:∀ {o:Out} {r0:Option Ms} {w0:List Nat},lOut Z m r0 w0 o τ H D->lOut Z m r0 w0 o τ H1 D:=by
   intro o r0 w0 h
   cases o with
   | nxt δ'=>exact fun m' τ' H' e1 e2 S P=>h m' τ' H' e1 e2 S ⟨fun a u e n=>P.keep a u (s1 a u e) n,fun a o=>(P.grow a o).imp id s1.free,P.wr,P.ad⟩
   | ret d=>exact h
   | exc c δ'=>exact fun hc τ' H' e S P=>h hc τ' H' e S ⟨fun a u e n=>P.keep a u (s1 a u e) n,fun a o=>(P.grow a o).imp id s1.free,P.wr,P.ad⟩
   | bad=>exact h
  cases t with
  | true =>
   rw [if_pos rfl] at h
   show (if true=true then lSs Z a D (vτ τ) H1 else lSs Z b D (vτ τ) H1)
   rw [if_pos rfl]
   exact ⟨τ,m,ra,rfl,S1,h2,shift (h.weak c3 fun i hi=>aam _ hi)⟩
  | false =>
   rw [if_neg (by decide)] at h
   show (if false=true then lSs Z a D (vτ τ) H1 else lSs Z b D (vτ τ) H1)
   rw [if_neg (by decide)]
   exact ⟨τ,m,rb,rfl,S1,h3,shift (h.weak c4 fun i hi=>aag _ hi)⟩
 ·cases hr
theorem lOut.shift {H1:Hp} {o:Out} (s1:Same H H1) (h:lOut Z m r w o τ H D):lOut Z m r w o τ H1 D:=by
 cases o with
 | nxt δ'=>exact fun m' τ' H' e1 e2 S P=>h m' τ' H' e1 e2 S ⟨fun a u e n=>P.keep a u (s1 a u e) n,fun a o=>(P.grow a o).imp id s1.free,P.wr,P.ad⟩
 | ret d=>exact h
 | exc c δ'=>exact fun hc τ' H' e S P=>h hc τ' H' e S ⟨fun a u e n=>P.keep a u (s1 a u e) n,fun a o=>(P.grow a o).imp id s1.free,P.wr,P.ad⟩
 | bad=>exact h
theorem lOut.after {m1:Ms} {τ1:Ft} {H1:Hp} {w1 w2:List Nat} {o:Out} (P:Stp m m1 w1 τ τ1 H H1) (hw1:∀ i ∈ w1,i ∈ w) (hw2:∀ i ∈ w2,i ∈ w) (h:lOut Z m r w o τ H D):lOut Z m1 r w2 o τ1 H1 D:=by
 cases o with
 | nxt δ'=>exact fun m' τ' H' e1 e2 S Q=>h m' τ' H' e1 e2 S ((P.trans Q).mono fun i hi=>by
   rcases aaf.mp hi with z | z
   ·exact hw1 i z
   ·exact hw2 i z)
 | ret d=>exact h.to hw2 fun i hi=>P.ad i fun z=>hi (hw1 _ z)
 | exc c δ'=>exact fun hc τ' H' e S Q=>h hc τ' H' e S ((P.trans Q).mono fun i hi=>by
   rcases aaf.mp hi with z | z
   ·exact hw1 i z
   ·exact hw2 i z)
 | bad=>exact h
theorem Q9 {s:S} {rest:Ss} (h:lSs Z (.cons s rest) D σ H):lS Z s { D with nx:=lSs Z rest D } σ H:=by
 obtain ⟨τ,m,r,rfl,S,hr,h⟩:=h
 simp only [msSs] at hr
 obtain ⟨r1,h1,hr⟩:=bS hr
 refine ⟨τ,m,r1,rfl,S,h1,?_⟩
 simp only [exs] at h
 cases q:ex s (dτ τ) with
 | nxt δ' =>
  rw [q] at h
  intro m' τ' H' e1 e2 S' P
  subst e1
  simp only at hr
  refine ⟨τ',m',r,rfl,S',hr,?_⟩
  rw [e2]
  exact h.after P (fun i hi=>aam _ hi) (fun i hi=>aag _ hi)
 | ret d=>rw [q] at h; exact lRet.to (show lRet Z _ d τ D from h) (fun i hi=>aam _ hi) fun _ _=>rfl
 | exc c δ' =>
  rw [q] at h
  exact fun hc τ' H' e S' P=>h hc τ' H' e S' (P.mono fun i hi=>aam _ hi)
 | bad=>rw [q] at h; exact h
theorem Ra (h:lSs Z .nil D σ H):D.nx σ H:=by
 obtain ⟨τ,m,r,rfl,S,hr,h⟩:=h
 cases hr
 exact h m τ H rfl rfl S (Stp.refl _ (F8 S.small) (Same.refl _))
theorem Pb {s:S} {rest:Ss} (hs:(∃ x k,s=.dem x k)\/(∃ x,s=.dead x)) (h:lSs Z (.cons s rest) D σ H):lSs Z rest D σ H:=by
 obtain ⟨τ,m,r,rfl,S,hr,h⟩:=h
 simp only [msSs] at hr
 obtain ⟨r1,h1,hr⟩:=bS hr
 rcases hs with ⟨x,k,rfl⟩ | ⟨x,rfl⟩
 ·simp only [msS] at h1
  obtain ⟨c,rfl⟩:=At h1
  refine ⟨τ,_,r,rfl,S.weak c,hr,?_⟩
  simp only [exs,ex,Out.then_nxt] at h
  exact h.after (w1:=[]) (Stp.refl _ c (Same.refl _)) (fun i hi=>nomatch hi) (fun i hi=>aag _ hi)
 ·simp only [msS] at h1
  obtain ⟨c,rfl⟩:=At h1
  refine ⟨τ,_,r,rfl,S.weak c,hr,?_⟩
  simp only [exs,ex,Out.then_nxt] at h
  exact h.after (w1:=[]) (Stp.refl _ c (Same.refl _)) (fun i hi=>nomatch hi) (fun i hi=>aag _ hi)
end
section
variable {Z:Zx} {m:Ms} {r:Option Ms} {w:List Nat} {τ:Ft} {H:Hp} {D:Ends} {X:Cx} {pos:Pos} {σ:L2.St}
theorem Sd {c:E} {b:Ss} (h:lS Z (.wh c b) D σ H):∃ m,K3 (lT Z.p Z.EX (tnM m) c) (lSs Z b) D σ H:=by
 obtain ⟨τ,m,r,rfl,S,hr,h⟩:=h
 refine ⟨m,?_⟩
 simp only [msS] at hr
 obtain ⟨⟨j1,k1⟩,h1,hr⟩:=bS hr
 split at hr
 ·rename_i c2
  obtain ⟨rb,h2,hr⟩:=bS hr
  have hrb:r=some m/\okJ rb (some m)=true:=by
   cases rb with
   | none=>exact ⟨(Option.some.inj hr).symm,rfl⟩
   | some mb =>
    obtain ⟨z,e⟩:=At hr
    exact ⟨e.symm,z⟩
  obtain ⟨rfl,hj⟩:=hrb
  simp only [ex] at h
  refine ⟨fun n σ H'=>∃ τ',σ=vτ τ'/\Sf Z.p Z.H0 Z.A0 m τ' H'/\Stp m m (wrSs b) τ τ' H H'/\lOut Z m (some m) (wrSs b) (DC (tv c) (exs b) n (dτ τ')) τ H D,⟨FU,τ,rfl,S,Stp.refl _ (F8 S.small) (Same.refl _),h⟩,?_⟩
  rintro n σ' H' ⟨τ',rfl,S',P',h'⟩
  cases n with
  | zero=>exact nE h'
  | succ n =>
   simp only [DC] at h'
   have hb:=h'.after (w:=wrSs b) (w1:=wrSs b) (w2:=wrSs b) P' (fun _ z=>z) (fun _ z=>z)
   refine ⟨τ',rfl,S'.ok,by rw [h1]; rfl,(hb.lg S' c2).mono (Same.refl _) fun t et hb2 H1 s1=>?_⟩
   rw [et] at h'
   simp only [Res.out_ok] at h'
   cases t with
   | false =>
    show (if false=true then _ else D.nx (vτ τ') H1)
    rw [if_neg (by decide)]
    rw [if_neg (by decide)] at h'
    exact h' m τ' H1 rfl rfl (S'.grow s1) ⟨fun a u e n=>s1 _ _ (P'.keep a u e n),P'.grow,P'.wr,P'.ad⟩
   | true =>
    rw [if_pos rfl] at h' hb2
    show (if true=true then _ else _)
    rw [if_pos rfl]
    refine ⟨fun σ2 H2=>∃ τ2,σ2=vτ τ2/\Sf Z.p Z.H0 Z.A0 m τ2 H2/\Stp m m (wrSs b) τ τ2 H H2/\lOut Z m (some m) (wrSs b) (DC (tv c) (exs b) n (dτ τ2)) τ H D,fun σ2 H2 q=>⟨n,Nat.lt_succ_self n,q⟩,?_⟩
    refine ⟨τ',m,rb,rfl,S'.grow s1,h2,?_⟩
    have hb3:=hb2.shift s1
    have P1:Stp m m (wrSs b) τ τ' H H1:=⟨fun a u e n=>s1 _ _ (P'.keep a u e n),P'.grow,P'.wr,P'.ad⟩
    cases q:exs b (dτ τ') with
    | nxt δ2 =>
     rw [q] at h'
     intro m' τ2 H2 e1 e2 S2 P2
     subst e1
     have hle:leM m' m=true:=hj
     refine ⟨τ2,rfl,S2.weak hle,((P1.trans P2).mono (w2:=wrSs b) (fun i hi=>by simpa using hi)) |> fun P3=>⟨P3.keep,fun a o=>P3.grow a (Own.weak hle o),P3.wr,P3.ad⟩,?_⟩
     rw [e2]; exact h'
    | ret d=>rw [q] at hb3; exact hb3
    | exc c' δ'=>rw [q] at hb3; exact hb3
    | bad=>rw [q] at hb3; exact hb3
 ·cases hr
theorem Stp.lesser {m1 m2:Ms} {τ':Ft} {H':Hp} (h:leM m1 m2=true) (P:Stp m m1 w τ τ' H H'):Stp m m2 w τ τ' H H':=⟨P.keep,fun a o=>P.grow a (Own.weak h o),P.wr,P.ad⟩
theorem Ip {K:Frag} {g:Tg} {b:Ss} {J:L2.It} {us:List T} {ds:List Pu.D} {j:Nat} {H1:Hp} {rb:Option Ms} (S:Sf Z.p Z.H0 Z.A0 m τ H) (IT:ItOk Z.p (Sh (tnM m) τ) H H1 J us j ds) (hd:leM m (Ak m g.sl .dead)=true)
  (h2:msSs Z.mx Z.dep b (Ak (Ak m g.sl .dead) g.sl .sh)=some rb) (hj:okJ rb (some (Ak m g.sl .dead))=true)
  (per:∀ (τ':Ft) (H':Hp),Sf Z.p Z.H0 Z.A0 (Ak m g.sl .dead) τ' H'->Stp m (Ak m g.sl .dead) (up g.sl ++ wrSs b) τ τ' H1 H'->T.Oks Z.p H' us)
  (h:lOut Z m (some (Ak m g.sl .dead)) (up g.sl ++ wrSs b) (CI g (exs b) ds (dτ τ)) τ H1 D) :
  ∃ W:Nat->Nat->L2.St->Hp->Prop,(∃ n,W 0 n (vτ τ) H1)/\∀ i n σ H,W i n σ H->(J.stop i H/\D.nx σ H)\/(J.go i H/\∃ N:L2.St->Hp->Prop,(∀ σ' H',N σ' H'->∃ n',n' < n/\W (i + 1) n' σ' H')/\∀ x H',J.yld i H x H'->lG K g x σ H' fun σ2 H2=>lSs Z b { D with nx:=N,ct:=N,bk:=D.nx } σ2 H2):=by
 have S1:=S.grow IT.same
 have fineU:∀ a,(H a=none\/Sh (tnM m) τ a)->(Z.H0 a=none\/Z.A0 a)/\¬ Own m τ a:=fun a q=>S.fine q
 refine ⟨fun i n σ H'=>n=ds.length - i/\i<=ds.length/\∃ τ',σ=vτ τ'/\Sf Z.p Z.H0 Z.A0 (Ak m g.sl .dead) τ' H'/\Stp m (Ak m g.sl .dead) (up g.sl ++ wrSs b) τ τ' H1 H'/\lOut Z m (some (Ak m g.sl .dead)) (up g.sl ++ wrSs b) (CI g (exs b) (ds.drop i) (dτ τ')) τ H1 D,
  ⟨ds.length,by simp,aay _,τ,rfl,S1.weak hd,Stp.refl _ hd (Same.refl _),by simpa using h⟩,?_⟩
 rintro i n σ' H' ⟨rfl,hi,τ',rfl,S',P',h'⟩
 have usok:=per τ' H' S' P'
 rcases acA i ds.length with hlt | hge
 ·have hdi:ds[i]?=some ds[i]:=aai hlt
  rw [abJ hlt] at h'
  simp only [CI] at h'
  refine .inr ⟨IT.go i H' usok hlt,fun σ2 H2=>∃ τ2,σ2=vτ τ2/\Sf Z.p Z.H0 Z.A0 (Ak m g.sl .dead) τ2 H2/\Stp m (Ak m g.sl .dead) (up g.sl ++ wrSs b) τ τ2 H1 H2/\lOut Z m (some (Ak m g.sl .dead)) (up g.sl ++ wrSs b) (CI g (exs b) (ds.drop (i + 1)) (dτ τ2)) τ H1 D,
   fun σ2 H2 q=>⟨ds.length - (i + 1),by omega,rfl,hlt,q⟩,fun x H'' y=>?_⟩
  obtain ⟨s2,t,rfl,ht,tok,tus,tsrc⟩:=IT.yld i H' x H'' ds[i] usok hdi y
  rw [<- ht,E5] at h'
  cases q:B7 g t τ' with
  | none=>rw [q] at h'; exact nE h'
  | some τ2 =>
   rw [q] at h'
   simp only [aaX] at h'
   have src:∀ a ∈ t.rest 0,(Z.H0 a=none\/Z.A0 a)/\¬ Own (Ak m g.sl .dead) τ' a:=fun a z=>by
    refine ⟨(fineU a (tsrc a z)).1,fun o=>?_⟩
    rcases P'.grow a o with w | w
    ·exact (fineU a (tsrc a z)).2 w
    ·obtain ⟨v,hv,z2⟩:=T.mem_rests.mp (tus a z)
     exact (T.oks_iff.mp IT.ok v hv).dom z2 w
   obtain ⟨S2,P2⟩:=LR S' s2 tok src q
   refine Ko tok q ⟨τ2,_,rb,rfl,S2,h2,?_⟩
   have P3:=P'.trans P2
   have h3:=h'.after (w:=up g.sl ++ wrSs b) (w2:=wrSs b) P3 (fun i hi=>by
    simp only [aaf] at hi ⊢
    rcases hi with (hi | hi) | hi
    ·exact .inl hi
    ·exact .inr hi
    ·exact .inl hi) (fun i hi=>aag _ hi)
   cases e:exs b (dτ τ2) with
   | nxt δ3 =>
    rw [e] at h'
    intro m' τ3 H3 e1 e2 S3 P4
    subst e1
    have hle:leM m' (Ak m g.sl .dead)=true:=hj
    refine ⟨τ3,rfl,S3.weak hle,Stp.lesser hle ((P3.trans P4).mono fun i hi=>?_),?_⟩
    ·simp only [aaf] at hi ⊢
     rcases hi with ((hi | hi) | hi) | hi
     ·exact .inl hi
     ·exact .inr hi
     ·exact .inl hi
     ·exact .inr hi
    ·rw [e2]; exact h'
   | ret d=>rw [e] at h3; exact h3
   | exc c' δ'=>rw [e] at h3; exact h3
   | bad=>rw [e] at h3; exact h3
 ·refine .inl ⟨IT.stop i H' usok hge,?_⟩
  have hil:i=ds.length:=acl hi hge
  subst hil
  rw [List.drop_length] at h'
  exact h' _ τ' H' rfl rfl S' P'
theorem Rb {K:Frag} {g:Tg} {it:It} {b:Ss} (h:lS Z (.for_ g it b) D σ H):(∃ m,Qi (lI Z.p Z.EX (tnM m) it) (lG K g) (lSs Z b) D σ H) \/
  (∃ x,it=.seqL (.nm x)/\∃ v a xs,σ[x]?=some (some v)/\v=.ref a/\SqL X.K H a xs/\(X.K=Z.p.K->xs.length<=sizeLine->∃ W:Nat->Nat->L2.St->Hp->Prop,(∃ n,W 0 n σ H)/\∀ i n σ H,W i n σ H->((Itl X.K a).stop i H/\D.nx σ H)\/((Itl X.K a).go i H/\∃ N:L2.St->Hp->Prop,(∀ σ' H',N σ' H'->∃ n',n' < n/\W (i + 1) n' σ' H') /\
   ∀ x H',(Itl X.K a).yld i H x H'->lG K g x σ H' fun σ2 H2=>lSs Z b { D with nx:=N,ct:=N,bk:=D.nx } σ2 H2))):=by
 obtain ⟨τ,m,r,rfl,S,hr,h⟩:=h
 simp only [msS] at hr
 obtain ⟨j,h1,hr⟩:=bS hr
 split at hr
 ·rename_i c
  obtain ⟨c1,c2,c3⟩:=c
  obtain ⟨rb,h2,hr⟩:=bS hr
  have hrb:r=some (Ak m g.sl .dead)/\okJ rb (some (Ak m g.sl .dead))=true:=by
   cases rb with
   | none=>exact ⟨(Option.some.inj hr).symm,rfl⟩
   | some mb =>
    obtain ⟨z,e⟩:=At hr
    exact ⟨e.symm,z⟩
  obtain ⟨rfl,hj⟩:=hrb
  simp only [ex] at h
  by_cases z:j=0
  ·subst z
   refine .inl ⟨m,τ,rfl,S.ok,0,h1,(h.lg S c1).mono (Same.refl _) fun ds _ h J us H1 IT=>?_⟩
   refine Ip S IT c2 h2 hj (fun τ' H' S' P'=>?_) (h.shift IT.same)
   have S1:=S.grow IT.same
   refine T.oks_iff.mpr fun u hu=>(T.oks_iff.mp IT.ok u hu).keep fun a w e q=>P'.keep a w e fun o=>?_
   rcases q with q | q
   ·exact (S.fine (IT.src a (T.mem_rests.mpr ⟨u,hu,q⟩))).2 o
   ·obtain ⟨_,vs,e2⟩:=S1.ownOk o
    rw [e2] at e
    exact q vs (Option.some.inj e).symm
  ·rcases c3 with c3 | ⟨x,c3,c4,c5⟩
   ·exact absurd c3 z
   ·have hit:it=.seqL (.nm x):=by
     unfold It.nmOf at c3
     split at c3
     ·cases c3; rfl
     ·cases c3
    subst hit
    refine .inr ⟨x,rfl,?_⟩
    have hlg:=h.lg S c1
    cases q:get (dτ τ) x with
    | exc c=>unfold get at q; split at q <;> cases q
    | bad=>simp only [evI,ev,q,Res.bind_bad] at hlg; exact nE hlg
    | ok d =>
     obtain ⟨t,ht,rfl⟩:=Cq q
     simp only [evI,ev,q,Res.bind_ok] at hlg
     cases t with
     | lst a ts =>
      simp only [jkI] at h1
      obtain ⟨⟨j1,k1⟩,h3,h1⟩:=bS h1
      obtain ⟨hj1,e1⟩:=At h1
      have e1:j1=j:=e1
      subst e1
      simp only [jk] at h3
      split at h3
      ·rename_i j' hj'
       obtain ⟨hlt,e⟩:=CJ h3
       cases e
       have okt:=S.ok x _ j1 ht hj' (of_decide_eq_true hlt)
       refine ⟨_,a,ts.map T.val,Bv ht,rfl,.inl okt.1,fun hK hz=>?_⟩
       have R:Rs Z.p (Sh (tnM m) τ) H H j1 0 (.lst a ts):=⟨Same.refl _,okt,fun b m'=>.inr ⟨x,_,j1,ht,hj',of_decide_eq_true hlt,m'⟩,by rw [T.adr_zero]; simp,T.nd_zero _⟩
       refine Ip S (E4 hK R hj1 (by simpa using hz)) c2 h2 hj (fun τ' H' S' P'=>?_) hlg
       obtain ⟨d,hd,ed⟩:=AO hj'
       have hdd:d ≠ .dead:=fun w=>by subst w; subst ed; exact absurd (of_decide_eq_true hlt) (by decide)
       have hx':(Ak m g.sl .dead)[x]?=some d:=by
        have hlen:x < (Ak m g.sl .dead).length:=by rw [Ce]; exact (aaq.mp hd).1
        rcases DG (aai hlen) with ⟨w,_⟩ | ⟨_,w⟩
        ·exact absurd (aam _ w) c5
        ·rw [aai hlen]
         rw [hd] at w
         exact w.symm
       refine ⟨S'.at (i:=x) (by rw [P'.wr x (fun w=>by rcases aaf.mp w with w | w; exact c5 w; exact c4 w)]; exact ht) hx' hdd,trivial⟩
      ·cases h3
     | _=>exact nE hlg
 ·cases hr
end
section
variable {p:Px} {H0:Hp} {A0:Addr->Prop} {m:Ms} {τ:Ft} {H H1:Hp}
theorem Pc {x:Nat} {s:Option T} (S:Sf p H0 A0 m τ H):Sf p H0 A0 (m.set x .dead) (τ.set x s) H:=by
 have back:∀ {i:Nat} {u:T} {d:Md},d ≠ .dead->(τ.set x s)[i]?=some (some u)->(m.set x .dead)[i]?=some d->τ[i]?=some (some u)/\m[i]?=some d:=by
  intro i u d nd e h
  rcases Ae h with ⟨_,z⟩ | ⟨z1,z2⟩
  ·exact absurd z nd
  ·rcases Ae e with ⟨z,_⟩ | ⟨_,e⟩
   ·exact absurd z z1
   ·exact ⟨e,z2⟩
 have no:∀ {k:Nat},Md.ow k ≠ .dead:=by intro k c; cases c
 have nb:∀ {k:Nat},Md.br k ≠ .dead:=by intro k c; cases c
 have lt:∀ {d:Md},d.tn < 90->d ≠ .dead:=fun l z=>by subst z; exact absurd l (by decide)
 refine ⟨by rw [aaw,aaw]; exact S.len,fun d hd=>?_,S.same,fun i t j e ej l=>?_,fun i t k a e hk q=>?_,fun a sh=>?_,fun i t k e hk=>?_,fun i j t u k d ne e hk e' hd nd a q=>?_,fun i j t u k k2 e hk e' hd a ts z=>?_⟩
 ·rcases aaZ hd with z | z
  ·exact S.small d z
  ·subst z; rfl
 ·obtain ⟨d,hd,rfl⟩:=AO ej
  obtain ⟨q1,q2⟩:=back (lt l) e hd
  exact S.ok i t _ q1 (AH q2) l
 ·obtain ⟨q1,q2⟩:=back no e hk
  exact S.own i t k a q1 q2 q
 ·obtain ⟨i,t,j,e,ej,l,q⟩:=sh
  obtain ⟨d,hd,rfl⟩:=AO ej
  obtain ⟨q1,q2⟩:=back (lt l) e hd
  exact S.src a ⟨i,t,_,q1,AH q2,l,q⟩
 ·obtain ⟨q1,q2⟩:=back no e hk
  exact S.nd i t k q1 q2
 ·obtain ⟨q1,q2⟩:=back no e hk
  obtain ⟨q3,q4⟩:=back nd e' hd
  exact S.sep i j t u k d ne q1 q2 q3 q4 nd a q
 ·obtain ⟨q1,q2⟩:=back no e hk
  obtain ⟨q3,q4⟩:=back nb e' hd
  exact S.top i j t u k k2 q1 q2 q3 q4 a ts z
end
theorem Rc {p:Px} (kx:Kx p) {k n:Nat} (hk:p.has k=true) (hn:p.has n=true) (h:isa k n=true) (ne:k ≠ n):exmOne p.K (.ref (p.cl k)) (.ref (p.cl n))=some true:=by
 have k1:=kx.kc k n hk hn
 have k2:=kx.kc n k hn hk
 rw [h] at k1
 have hf:isa n k=false:=by
  unfold isa at h ⊢
  have e1:(k==n)=false:=beq_eq_false_iff_ne.mpr ne
  rw [e1,Bool.false_or,beq_iff_eq] at h
  subst h
  rw [Bool.or_eq_false_iff]
  exact ⟨beq_eq_false_iff_ne.mpr (Ne.symm ne),beq_eq_false_iff_ne.mpr ne⟩
 rw [hf] at k2
 have hne:p.cl n ≠ p.cl k:=fun z=>by
  rw [z] at k2
  unfold kitOne at k2
  rw [if_pos (by simp)] at k2
  cases k2
 unfold exmOne
 rw [if_pos (by rw [(kx.x n hn).sb]; rfl)]
 unfold kitOne at k1
 rw [if_neg (fun z=>hne (by
  have:=eq_of_beq z
  injection this with this
  exact this.symm))] at k1
 exact k1
theorem Na (τ:Ft) (i:Nat):vτ (τ.set i none)=(vτ τ).set i none:=by unfold vτ; rw [abo]; rfl
theorem Nb (τ:Ft) (i:Nat):dτ (τ.set i none)=(dτ τ).set i none:=by unfold dτ; rw [abo]; rfl
section
variable {Z:Zx} {m:Ms} {r:Option Ms} {w:List Nat} {τ:Ft} {H:Hp} {D:Ends} {σ:L2.St}
theorem Nc {i:Nat}:Stp m (m.set i .dead) [i,i + 1000] τ (τ.set i none) H H:=by
 refine ⟨fun a u e _=>e,fun a o=>?_,fun j hj=>by rw [aao (fun z=>hj (by simp [z]))],fun j hj=>LO (Ie hj)⟩
 obtain ⟨j,u,k',e,hk,q⟩:=o
 rcases Ae hk with ⟨_,z⟩ | ⟨z1,z2⟩
 ·cases z
 ·rcases Ae e with ⟨z,_⟩ | ⟨_,e⟩
  ·exact absurd z z1
  ·exact .inl ⟨j,u,k',e,z2,q⟩
theorem Re {K:Frag} {b h e:Ss} {n i:Nat} (hK:K=Z.p.K) (kx:Kx Z.p) (hn:Z.p.has n=true) (hq:lS Z (.try_ b n i h e) D σ H):∃ mb mh,QC K (.ref (Z.p.cl n)) i (fun E _ _=>lSs { Z with EX:=E,mx:=mb } b) (fun _=>lSs { Z with EX:=EX0,mx:=mh } h) (lSs Z e) D σ H:=by
 obtain ⟨τ,m,r,rfl,S,hr,hq⟩:=hq
 simp only [msS] at hr
 split at hr
 ·rename_i cc
  obtain ⟨c1,c2⟩:=cc
  obtain ⟨rb,h1,hr⟩:=bS hr
  obtain ⟨rh,h2,hr⟩:=bS hr
  obtain ⟨re,h3,hr⟩:=bS hr
  obtain ⟨⟨c3,c4⟩,rfl⟩:=At hr
  refine ⟨Ak m (wrSs b) .dead,aak m.length .dead,fun W pn=>⟨τ,m,rb,rfl,S,h1,?_⟩⟩
  simp only [ex] at hq
  cases q:exs b (dτ τ) with
  | bad=>rw [q] at hq; exact hq
  | ret d=>rw [q] at hq; exact lRet.to (show lRet Z _ d τ D from hq) (fun j hj=>aam _ hj) fun _ _=>rfl
  | nxt δ1 =>
   rw [q] at hq
   intro m1 τ1 H1 em e2 S1 P1
   subst em e2
   refine ⟨τ1,m1,re,rfl,S1,h3,?_⟩
   exact ((show lOut Z m _ _ (exs e (dτ τ1)) τ H D from hq).weak (w1:=wrS (.try_ b n i h e)) c3 (fun _ z=>z)).after P1 (fun j hj=>aam _ hj) (fun j hj=>aag _ (aaa _ (aaa _ (aag _ hj))))
  | exc k δ1 =>
   rw [q] at hq
   intro hk τ1 H1 e2 S1 P1
   subst e2
   simp only at hq
   by_cases cc:(isa k n && !(k==n))=true
   ·rw [if_pos cc] at hq
    obtain ⟨i1,i2⟩:=Aa cc
    have ne:k ≠ n:=by simpa using i2
    refine ⟨_,rfl,hK ▸ Rc kx hk hn i1 ne,fun a ha=>?_⟩
    have hl:i < (Ak m (wrSs b) .dead).length:=by rw [Ce]; exact c1
    have sm:Same H1 (L2.upd H1 a (xO a (Z.p.cl k))):=fun a' u e=>by
     rw [L2.Al (fun z=>by subst z; rw [ha] at e; cases e)]; exact e
    have R:Rs Z.p (Sh (tnM (Ak m (wrSs b) .dead)) τ1) H1 (L2.upd H1 a (xO a (Z.p.cl k))) 0 0 (.exn a k):=⟨sm,⟨by rw [L2.AJ]; unfold exO; rw [if_neg (fun z=>by rw [z,kx.no] at hk; cases hk)],.inr hk⟩,by simp [T.rest],by simp [T.adr],by simp [T.Nd,T.adr]⟩
    obtain ⟨S2,P2⟩:=LQ S1 R (aan 0) hl (by decide)
    have e0:mdK 0=.sh:=rfl
    rw [e0] at S2 P2
    refine ⟨τ1.set i (some (.exn a k)),_,rh,by rw [Ew]; rfl,S2,h2,?_⟩
    rw [Cr]
    cases q2:exs h ((dτ τ1).set i (some (.exn k))) with
    | bad=>rw [show (T.exn a k).dat=.exn k from rfl,q2]; rw [q2] at hq; exact hq
    | exc _ _=>rw [show (T.exn a k).dat=.exn k from rfl,q2]; rw [q2] at hq; exact nE hq
    | ret d =>
     rw [show (T.exn a k).dat=.exn k from rfl,q2]
     rw [q2] at hq
     exact lRet.to (show lRet Z _ d τ D from hq) (fun j hj=>aag _ (aaa _ (aaa _ (aam _ hj)))) fun j hj=>(P1.trans P2).ad j fun z=>hj (by
      rcases aaf.mp z with z | z
      ·exact aam _ z
      ·exact aag _ (Ig z))
    | nxt δ2 =>
     rw [show (T.exn a k).dat=.exn k from rfl,q2]
     rw [q2] at hq
     intro m2 τ2 H2 em e3 S3 P3
     subst em e3
     have hw:=(show lOut Z m _ _ (.nxt ((dτ τ2).set i none)) τ H D from hq).weak (w1:=wrS (.try_ b n i h e)) c4 (fun _ z=>z)
     have:=hw (m2.set i .dead) (τ2.set i none) H2 rfl (Nb τ2 i) (Pc S3) ((((P1.trans P2).trans P3).trans Nc).mono fun j hj=>?_)
     ·rw [Na] at this
      exact this
     ·rcases aaf.mp hj with hj | hj
      ·rcases aaf.mp hj with hj | hj
       ·rcases aaf.mp hj with hj | hj
        ·exact aam _ hj
        ·exact aag _ (Ig hj)
       ·exact aag _ (aaa _ (aaa _ (aam _ hj)))
      ·exact aag _ (Ig hj)
   ·rw [if_neg cc] at hq; exact nE hq
 ·cases hr
end
noncomputable def OwnN (m:Ms) (τ:Ft) (I:List Nat) (a:Addr):Prop:=∃ (i:Nat) (t:T) (k:Nat),i ∉ I/\τ[i]?=some (some t)/\m[i]?=some (.ow k)/\a ∈ t.adr k
structure RO (p:Px) (m:Ms) (τ:Ft) (I:List Nat) (k:Nat) (H H':Hp) (ts:List T):Prop where
 same:Same H H'
 ok:T.Oks p H' ts
 src:∀ a ∈ T.rests ts 0,H a=none\/Sh (tnM m) τ a\/OwnN m τ I a
 new:∀ a ∈ T.adrs ts k,(H a=none/\∃ vs,H' a=some (.lst vs))\/OwnN m τ I a
 nd:T.Nds ts k
section
variable {p:Px} {H0:Hp} {A0:Addr->Prop} {m:Ms} {τ:Ft} {H H1 H2:Hp}
theorem OwnN.own {I:List Nat} {a:Addr} (h:OwnN m τ I a):Own m τ a:=let ⟨i,t,k,_,e,q,z⟩:=h; ⟨i,t,k,e,q,z⟩
theorem Rf {I:List Nat} {k:Nat}:RO p m τ I k H H []:=⟨Same.refl _,trivial,by simp [T.rests],by simp [T.adrs],by simp [T.Nds,T.adrs]⟩
theorem Rg {I:List Nat} {i k k2:Nat} {t:T} {ts:List T} (S:Sf p H0 A0 m τ H) (ht:τ[i]?=some (some t)) (hm:m[i]?=some (.ow k)) (hi:i ∉ I) (r:RO p m τ (i :: I) k2 H H2 ts):RO p m τ I (min k k2) H H2 (t :: ts):=by
 have no:∀ {k:Nat},Md.ow k ≠ .dead:=by intro k c; cases c
 have okt:=S.at ht hm no
 have mono:∀ {a:Addr},OwnN m τ (i :: I) a->OwnN m τ I a:=fun ⟨j,u,kj,n,e,q,z⟩=>⟨j,u,kj,fun w=>n (aaa _ w),e,q,z⟩
 have sm:0 < k/\k < 90:=of_decide_eq_true (S.small _ (aae hm))
 refine ⟨r.same,⟨okt.same r.same,r.ok⟩,fun a q=>?_,fun a q=>?_,T.nds_cons.mpr ⟨T.nd_le t (aaO ..) (S.nd i t k ht hm),T.nds_le (aaY ..) r.nd,fun a q q'=>?_,fun a q q'=>?_⟩⟩
 ·simp only [T.rests,aaf] at q
  rcases q with q | q
  ·rcases (T.all_iff t k).mp q with z | z
   ·exact .inr (.inr ⟨i,t,k,hi,ht,hm,z⟩)
   ·exact .inr (.inl ⟨i,t,k,ht,AH hm,sm.2,z⟩)
  ·rcases r.src a q with z | z | z
   ·exact .inl z
   ·exact .inr (.inl z)
   ·exact .inr (.inr (mono z))
 ·simp only [T.adrs,aaf] at q
  rcases q with q | q
  ·exact .inr ⟨i,t,k,hi,ht,hm,T.adr_le t (aaO ..) q⟩
  ·obtain ⟨u,hu,q⟩:=T.mem_adrs.mp q
   exact (r.new a (T.mem_adrs.mpr ⟨u,hu,T.adr_le u (aaY ..) q⟩)).imp id mono
 ·have q1:=T.adr_le t (aaO k k2) q
  have o:Own m τ a:=⟨i,t,k,ht,hm,q1⟩
  rcases r.src a q' with z | z | ⟨j,u,kj,n,e,w,z⟩
  ·obtain ⟨_,vs,e⟩:=S.ownOk o
   rw [e] at z; cases z
  ·exact S.disj o z
  ·have ne:i ≠ j:=fun y=>n (by rw [y]; exact aac ..)
   exact S.sep i j t u k _ ne ht hm e w no a q1 ((T.all_iff u kj).mpr (.inl z))
 ·obtain ⟨u,hu,q⟩:=T.mem_adrs.mp q
  rcases r.new a (T.mem_adrs.mpr ⟨u,hu,T.adr_le u (aaY ..) q⟩) with z | ⟨j,u,kj,n,e,w,z⟩
  ·exact okt.dom q' z.1
  ·have ne:j ≠ i:=fun y=>n (by rw [y]; exact aac ..)
   exact S.sep j i u t kj _ ne e w ht hm no a z q'
theorem Rh {I:List Nat} {k k2:Nat} {t:T} {ts:List T} (S:Sf p H0 A0 m τ H) (R:Rs p (Sh (tnM m) τ) H H1 0 k t) (r:RO p m τ I k2 H1 H2 ts):RO p m τ I (min k k2) H H2 (t :: ts):=by
 have R2:=R.fwd r.same
 refine ⟨R2.same,⟨R2.ok,r.ok⟩,fun a q=>?_,fun a q=>?_,T.nds_cons.mpr ⟨T.nd_le t (aaO ..) R.nd,T.nds_le (aaY ..) r.nd,fun a q q'=>?_,fun a q q'=>?_⟩⟩
 ·simp only [T.rests,aaf] at q
  rcases q with q | q
  ·exact (R.src a q).imp id .inl
  ·exact (r.src a q).imp R.same.free id
 ·simp only [T.adrs,aaf] at q
  rcases q with q | q
  ·exact .inl (R2.new a (T.adr_le t (aaO ..) q))
  ·obtain ⟨u,hu,q⟩:=T.mem_adrs.mp q
   exact (r.new a (T.mem_adrs.mpr ⟨u,hu,T.adr_le u (aaY ..) q⟩)).imp (fun z=>⟨R.same.free z.1,z.2⟩) id
 ·have n1:=R.new a (T.adr_le t (aaO ..) q)
  rcases r.src a q' with z | z | z
  ·obtain ⟨vs,e⟩:=n1.2
   rw [e] at z; cases z
  ·exact S.ok.dom z n1.1
  ·obtain ⟨_,vs,e⟩:=S.ownOk z.own
   rw [n1.1] at e; cases e
 ·obtain ⟨u,hu,q⟩:=T.mem_adrs.mp q
  rcases r.new a (T.mem_adrs.mpr ⟨u,hu,T.adr_le u (aaY ..) q⟩) with z | z
  ·exact R.ok.dom q' z.1
  ·rcases R.src a q' with y | y
   ·obtain ⟨_,vs,e⟩:=S.ownOk z.own
    rw [e] at y; cases y
   ·exact S.disj z.own y
end
noncomputable def lRO (Z:Zx) (m:Ms) (τ:Ft) (I:List Nat) (es:Es):TA:=fun σ H Q=>σ=vτ τ/\Sf Z.p Z.H0 Z.A0 m τ H/\∃ k,rkT m I es=some k/\Lg Z.p Z.EX σ (evs es (dτ τ)) H (fun ds=>∀ ts H',T.dats ts=ds->RO Z.p m τ I k H H' ts->Q (ts.map T.val) H')
section
variable {Z:Zx} {m:Ms} {τ:Ft} {H:Hp} {D:Ends} {σ:L2.St}
theorem Pd {es:Es} (hl:es.len<=1000) (h:lS Z (.retT es) D σ H):∃ m τ,Qs (lRO Z m τ [] es) σ H D.rt:=by
 obtain ⟨τ,m,r,rfl,S,hr,h⟩:=h
 simp only [msS] at hr
 obtain ⟨k,hk,hr⟩:=bS hr
 obtain ⟨⟨⟨c1,c0⟩,c2⟩,rfl⟩:=At hr
 simp only [ex] at h
 refine ⟨m,τ,rfl,S,k,hk,(h.lg S c2).mono (Same.refl _) fun ds e h ts H1 hts R=>⟨?_,fun a ha=>?_⟩⟩
 ·have:=BB _ _ _ e
  rw [aab,<- Ag,hts,this]
  exact aat hl (by decide)
 ·have sm:Same H1 (L2.upd H1 a (.tup (ts.map T.val))):=fun a' u e=>by
   rw [L2.Al (fun z=>by subst z; rw [ha] at e; cases e)]; exact e
  refine lRet.lo (t:=.tup a ts) h c0 (by simp [T.dat,hts]) ⟨S.same.trans (R.same.trans sm),⟨L2.AJ ..,R.ok.same sm⟩,fun b q=>?_,fun b q=>?_,T.nds_le c1 R.nd⟩
  ·rcases R.src b q with z | z | z
   ·exact .inl (S.same.free z)
   ·exact S.src b z
   ·exact .inl (S.ownOk z.own).1
  ·obtain ⟨u,hu,q⟩:=T.mem_adrs.mp q
   rcases R.new b (T.mem_adrs.mpr ⟨u,hu,T.adr_le u c1 q⟩) with ⟨z,vs,e⟩ | z
   ·exact ⟨S.same.free z,vs,sm _ _ e⟩
   ·obtain ⟨z1,vs,e⟩:=S.ownOk z.own
    exact ⟨z1,vs,sm _ _ (R.same _ _ e)⟩
end
section
variable {Z:Zx} {D:Ends} {X:Cx} {σ:L2.St} {H:Hp}
theorem Pe {p:Px} {EX:EXT} {tn:List Nat} {e:E} {Q Q':VK} (h:lE p EX tn e σ H Q) (m:∀ v H1,Q v H1->Q' v H1):lE p EX tn e σ H Q':=by
 obtain ⟨τ,e1,F,j,k,hj,h⟩:=h
 exact ⟨τ,e1,F,j,k,hj,h.mono (Same.refl _) fun d _ q t H' ht R=>m _ _ (q t H' ht R)⟩
noncomputable def lOA (Z:Zx) (m m1:Ms) (w:List Nat) (y:Nat) (o:Out) (τ:Ft) (H:Hp) (D:Ends):Prop:=match o with
 | .nxt δ'=>∀ (τ':Ft) (H':Hp) (a:Addr) (ts ts':List T),dτ τ'=δ'->τ[y]?=some (some (.lst a ts))->τ'[y]?=some (some (.lst a ts'))->Sf Z.p Z.H0 Z.A0 m1 τ' H'->Stp m m1 w τ τ' H H'->D.nx (vτ τ') H'
 | o=>lOut Z m (some m1) w o τ H D
theorem lOA.lg {α:Type} {m m1:Ms} {w:List Nat} {τ:Ft} {y:Nat} {q:Res α} {f:α->Out} (S:Sf Z.p Z.H0 Z.A0 m τ H) (hm:leM m Z.mx=true) (h:lOA Z m m1 w y (q.out (dτ τ) f) τ H D):Lg Z.p Z.EX (vτ τ) q H fun a=>lOA Z m m1 w y (f a) τ H D:=by
 cases q with
 | ok a=>exact h
 | exc c=>exact fun hc H' s=>h hc τ H' rfl ((S.weak hm).grow s) (Stp.refl w hm s)
 | bad=>exact h
theorem lOA.shift {H1:Hp} {m m1:Ms} {w:List Nat} {τ:Ft} {y:Nat} {o:Out} (s1:Same H H1) (h:lOA Z m m1 w y o τ H D):lOA Z m m1 w y o τ H1 D:=by
 cases o with
 | nxt δ'=>exact fun τ' H' a ts ts' e1 e2 e3 S P=>h τ' H' a ts ts' e1 e2 e3 S ⟨fun a u e n=>P.keep a u (s1 a u e) n,fun a o=>(P.grow a o).imp id s1.free,P.wr,P.ad⟩
 | ret d=>exact h
 | exc c δ'=>exact fun hc τ' H' e S P=>h hc τ' H' e S ⟨fun a u e n=>P.keep a u (s1 a u e) n,fun a o=>(P.grow a o).imp id s1.free,P.wr,P.ad⟩
 | bad=>exact h
theorem JN {τ:Ft}:∀ {zs:List Nat} {ds:List Pu.D},F3 (dτ τ) zs=some ds->∃ ts:List T,T.dats ts=ds/\ts.length=zs.length/\∀ (i:Nat) (z:Nat) (u:T),zs[i]?=some z->ts[i]?=some u->τ[z]?=some (some u)
 | [],ds,h=>by cases h; exact ⟨[],rfl,rfl,fun i z u e=>by simp at e⟩
 | z :: zs,ds,h=>by
  have h:(match (dτ τ)[z]? with
   | some (some d)=>(F3 (dτ τ) zs).map (d :: ·)
   | _=>none)=some ds:=h
  split at h
  ·rename_i d hd
   obtain ⟨r,hr,rfl⟩:=aar.mp h
   obtain ⟨ts,e1,e2,e3⟩:=JN hr
   obtain ⟨t,ht,hdt⟩:=Cq (show get (dτ τ) z=.ok d by unfold get; rw [hd])
   refine ⟨t :: ts,by rw [<- hdt,<- e1]; rfl,by simp [e2],fun i w u h1 h2=>?_⟩
   cases i with
   | zero=>simp at h1 h2; subst h1; subst h2; exact ht
   | succ i=>exact e3 i w u (by simpa using h1) (by simpa using h2)
  ·cases h
theorem Pf {p:Px} {H0:Hp} {A0:Addr->Prop} {m:Ms} {τ:Ft} {H H':Hp} {y K:Nat} {t t':T} (S:Sf p H0 A0 m τ H) (hmy:m[y]?=some (.ow K)) (hkb:leM m (Ay m)=true) (ht:τ[y]?=some (some t)) (hv:t'.val=t.val) (ok:t'.Ok p H') (nd:t'.Nd K) (fl:t'.rest K=[])
  (kp:∀ b u,H b=some u->b ∉ t.adr K->H' b=some u) (gr:∀ b ∈ t'.adr K,(b ∈ t.adr K\/H b=none)/\∃ ws,H' b=some (.lst ws)):Sf p H0 A0 (Ay m) (τ.set y (some t')) H'/\Stp m (Ay m) [y] τ (τ.set y (some t')) H H':=by
 have Sk:=S.weak hkb
 have hm1:=Hm hmy
 have hyl:y < τ.length:=(aaq.mp ht).1
 have gy:(τ.set y (some t'))[y]?=some (some t'):=abx hyl
 have gn:∀ {i:Nat},i ≠ y->(τ.set y (some t'))[i]?=τ[i]?:=fun {i} h=>aao (Ne.symm h)
 have lowz:∀ {j:Nat} {d:Md},(Ay m)[j]?=some d->d ≠ .dead->d.low=0:=fun {j d} h hd=>by
  rcases EJ h with z | ⟨_,z⟩
  ·exact absurd z hd
  ·cases d with
   | br k=>exact absurd rfl (z k)
   | dead=>exact absurd rfl hd
   | _=>rfl
 have all2:∀ b,b ∈ t'.rest 0->b ∈ t'.adr K:=fun b h=>by
  rcases (T.all_iff t' K).mp h with z | z
  ·exact z
  ·rw [fl] at z; cases z
 have out:∀ {i:Nat} {u:T} {d:Md},i ≠ y->τ[i]?=some (some u)->(Ay m)[i]?=some d->d ≠ .dead->∀ b ∈ u.rest 0,b ∉ t.adr K:=fun {i u d} hi e hd nd b hb hq=>by
  have:=Sk.sep y i t u K d (Ne.symm hi) ht hm1 e hd nd b hq
  rw [lowz hd nd] at this
  exact this hb
 refine ⟨⟨by rw [aaw]; exact Sk.len,Sk.small,fun b u e=>?_,fun i u j e ej l=>?_,fun i u k b e hk hb=>?_,fun b sh=>?_,fun i u k e hk=>?_,fun i j u v k d ne e hk e' hd hdd b hb=>?_,fun i j u v k k2 e hk e' hd=>?_⟩,⟨fun b u e no=>?_,fun b o=>?_,fun i hi=>?_,fun i _=>by rw [LP ht hv]⟩⟩
 ·exact kp b u (Sk.same b u e) fun hq=>by
   have:=(Sk.own y t K b ht hm1 hq).1
   rw [e] at this; cases this
 ·by_cases hi:i=y
  ·subst hi; rw [gy] at e; cases e; exact ok
  ·rw [gn hi] at e
   obtain ⟨d,hd,rfl⟩:=AO ej
   have hdd:d ≠ .dead:=fun z=>by subst z; exact absurd l (by decide)
   refine (Sk.at e hd hdd).keep fun b w eb q=>kp b w eb fun hq=>?_
   rcases q with q | q
   ·exact out hi e hd hdd b q hq
   ·obtain ⟨_,vs,e2⟩:=Sk.own y t K b ht hm1 hq
    rw [e2] at eb
    exact q vs (Option.some.inj eb).symm
 ·by_cases hi:i=y
  ·subst hi; rw [gy] at e; cases e
   rw [hm1] at hk; cases hk
   obtain ⟨g1,g2⟩:=gr b hb
   refine ⟨?_,g2⟩
   rcases g1 with z | z
   ·exact (Sk.own i t K b ht hm1 z).1
   ·exact Sk.same.free z
  ·rw [gn hi] at e
   obtain ⟨o1,vs,o2⟩:=Sk.own i u k b e hk hb
   exact ⟨o1,vs,kp b _ o2 (out hi e hk (fun z=>nomatch z) b ((T.all_iff u k).mpr (.inl hb)))⟩
 ·obtain ⟨i,u,j,e,ej,l,q⟩:=sh
  by_cases hi:i=y
  ·subst hi; rw [gy] at e; cases e
   rw [AH hm1] at ej; cases ej
   have q:b ∈ t'.rest K:=q
   rw [fl] at q; cases q
  ·rw [gn hi] at e
   exact Sk.src b ⟨i,u,j,e,ej,l,q⟩
 ·by_cases hi:i=y
  ·subst hi; rw [gy] at e; cases e
   rw [hm1] at hk; cases hk
   exact nd
  ·rw [gn hi] at e; exact Sk.nd i u k e hk
 ·by_cases hi:i=y
  ·subst hi; rw [gy] at e; cases e
   rw [hm1] at hk; cases hk
   rw [gn (Ne.symm ne)] at e'
   rw [lowz hd hdd]
   intro hv
   rcases (gr b hb).1 with z | z
   ·exact out (Ne.symm ne) e' hd hdd b hv z
   ·exact (Sk.at e' hd hdd).dom hv z
  ·rw [gn hi] at e
   by_cases hj:j=y
   ·subst hj; rw [gy] at e'; cases e'
    rw [lowz hd hdd]
    intro hv
    rcases (gr b (all2 b hv)).1 with z | z
    ·exact out hi e hk (fun z=>nomatch z) b ((T.all_iff u k).mpr (.inl hb)) z
    ·obtain ⟨_,vs,o2⟩:=Sk.own i u k b e hk hb
     rw [z] at o2; cases o2
   ·rw [gn hj] at e'
    exact Sk.sep i j u v k d ne e hk e' hd hdd b hb
 ·rcases EJ hd with z | ⟨_,z⟩
  ·cases z
  ·exact absurd rfl (z k2)
 ·exact kp b u e fun hq=>no ⟨y,t,K,ht,hmy,hq⟩
 ·obtain ⟨i,u,k,e,hk,hb⟩:=o
  by_cases hi:i=y
  ·subst hi; rw [gy] at e; cases e
   rw [hm1] at hk; cases hk
   rcases (gr b hb).1 with z | z
   ·exact .inl ⟨i,t,K,ht,hmy,z⟩
   ·exact .inr z
  ·rw [gn hi] at e
   exact .inl (Own.weak hkb ⟨i,u,k,e,hk,hb⟩)
 ·exact gn fun z=>hi (by rw [z]; exact aac ..)
noncomputable def vals (σ:L2.St):List Nat->Option (List V)
 | []=>some []
 | i :: r=>match σ[i]? with
  | some (some v)=>(vals σ r).map (v :: ·)
  | _=>none
theorem JO {τ:Ft}:∀ {zs:List Nat} {ts:List T},ts.length=zs.length->(∀ (i:Nat) (z:Nat) (u:T),zs[i]?=some z->ts[i]?=some u->τ[z]?=some (some u))->vals (vτ τ) zs=some (ts.map T.val)
 | [],ts,h,_=>by
  have:ts=[]:=ach.mp h
  subst this; rfl
 | z :: zs,[],h,_=>by simp at h
 | z :: zs,t :: ts,h,g=>by
  have h0:=g 0 z t rfl rfl
  have ih:=JO (zs:=zs) (ts:=ts) (by simpa using h) fun i w u h1 h2=>g (i + 1) w u (by simpa using h1) (by simpa using h2)
  show (match (vτ τ)[z]? with
   | some (some v)=>(vals (vτ τ) zs).map (v :: ·)
   | _=>none)=_
  rw [Bv h0,ih]; rfl
theorem Pg {r:Res Pu.D} {k:Bool->List Pu.D->Out}:GQ r k=.bad\/∃ t us,r=.ok (.tup [.bl t,.lst us])/\Pu.D.flat 9 1 (.lst us)=true/\GQ r k=k t us:=by
 unfold GQ
 split
 ·split
  ·exact .inr ⟨_,_,rfl,‹_›,rfl⟩
  ·exact .inl rfl
 ·exact .inl rfl
theorem Se {a:Addr} {us:List T} (h:Pu.D.flat 9 1 (.lst (T.dats us))=true):T.rests us 0=[]:=Dm 9 (.lst a us) 1 h
theorem Fd (a:Addr) (us:List T):(T.lst a us).adr 1=[a]:=by
 show a :: T.adrs us 0=[a]
 rw [T.adrs_zero]
theorem Ri {F:Fn} {as:List Nat} {y:Nat} {e:Pu.E} {b:Ss} (har:as.length + 1=F.ar) (h:lS Z (.cif F as y e b) D σ H):∃ m vs,vals σ as=some vs/\lE Z.p Z.EX (tnM m) e σ H fun v H1=>∀ E,spN Z.p F (vs ++ [v]) H1 (fun v2 H'=>∃ c,v2=.bl c/\if (!c)=true then lSs Z b D σ H' else D.nx σ H') E:=by
 obtain ⟨τ,m,r,rfl,S,hr,h⟩:=h
 simp only [msS] at hr
 split at hr
 ·rename_i k hmy
  obtain ⟨⟨j1,k1⟩,hj,hr2⟩:=bS hr
  clear hr
  split at hr2
  ·rename_i cc
   obtain ⟨hk,c0,c1,c2,c3,c4⟩:=cc
   obtain ⟨rb,hb,hr3⟩:=bS hr2
   clear hr2
   have c0:j1=0:=c0
   subst hk c0
   cases rb with
   | some _=>cases hr3
   | none =>
    cases hr3
    have h:lOut Z m (some (Ay m)) (y :: wrSs b) (MO (F3 (dτ τ) as) (dτ τ)[y]? (ev e (dτ τ)) (dτ τ) F.den fun t us=>if t=true then .nxt ((dτ τ).set y (some (.lst us))) else exs b ((dτ τ).set y (some (.lst us)))) τ H D:=h
    cases q:F3 (dτ τ) as with
    | none=>rw [q] at h; exact nE h
    | some ds =>
     rw [q] at h
     obtain ⟨ts,e1,e2,e3⟩:=JN q
     subst e1
     have pl:F.dep - 1000 < ts.length:=by rw [e2]; exact (aaq.mp c3).1
     have hpx:=aai pl
     have hty:=e3 _ y _ c3 hpx
     have hdy:(dτ τ)[y]?=some (some ts[F.dep - 1000].dat):=by unfold dτ; rw [aaj,hty]; rfl
     rw [hdy] at h
     generalize ts[F.dep - 1000]=t at *
     cases t with
     | lst a us =>
      have h:lOut Z m (some (Ay m)) (y :: wrSs b) ((ev e (dτ τ)).out (dτ τ) fun d=>GQ (F.den (T.dats ts ++ [d])) fun t us=>if t=true then .nxt ((dτ τ).set y (some (.lst us))) else exs b ((dτ τ).set y (some (.lst us)))) τ H D:=h
      refine ⟨m,ts.map T.val,JO e2 e3,τ,rfl,S.ok,0,k1,hj,(lOut.lg S c1 h).mono (Same.refl _) fun d _ h te H1 hte R E=>?_⟩
      subst hte
      have h:=lOut.shift R.same h
      have S1:=S.grow R.same
      have eD:T.dats ts ++ [te.dat]=T.dats (ts ++ [te]):=by rw [T.dats_map,T.dats_map,aap]; rfl
      rcases Pg (r:=F.den (T.dats ts ++ [te.dat])) (k:=fun t us=>if t=true then .nxt ((dτ τ).set y (some (.lst us))) else exs b ((dτ τ).set y (some (.lst us)))) with z | ⟨bb,us',qd,fl,z⟩
      ·rw [z] at h; exact nE h
      rw [z] at h
      have ha:a ∈ (T.lst a us).adr 1:=by rw [Fd]; exact aav.mpr rfl
      have ho:Own m τ a:=⟨y,_,1,hty,hmy,ha⟩
      have arg:∀ (i:Nat) (u:T),i ≠ F.dep - 1000->ts[i]?=some u->∃ z d,z ≠ y/\τ[z]?=some (some u)/\m[z]?=some d/\d ≠ .dead/\d.low=0:=fun i u hi hu=>by
       have li:i < as.length:=by rw [<- e2]; exact (aaq.mp hu).1
       have hz:=aai li
       have hp:Ii m y as[i]=true:=aau.mp c4 _ (List.mem_eraseIdx_iff_getElem?.mpr ⟨i,hi,hz⟩)
       unfold Ii at hp
       rw [aah] at hp
       obtain ⟨p1,p2⟩:=hp
       have ne:as[i] ≠ y:=by
        intro z; rw [z] at p1; simp at p1
       split at p2
       ·exact ⟨_,.sh,ne,e3 i _ u hz hu,‹_›,(fun z=>nomatch z),rfl⟩
       ·rename_i kk hh
        exact ⟨_,.ow kk,ne,e3 i _ u hz hu,hh,(fun z=>nomatch z),rfl⟩
       ·cases p2
      refine ⟨ts ++ [te],a,us,by rw [aap]; rfl,T.oks_iff.mpr fun u hu=>?_,by rw [aaG,e2]; exact har,by rw [aaF pl]; exact hpx,fun i u hi hu hr=>?_,fun hr=>?_,(S1.ownOk ho).2,bb,us',by rw [<- eD]; exact qd,fun us2 H' g1 g2 g4 g3=>⟨bb,rfl,?_⟩⟩
      ·rcases aaf.mp hu with hu | hu
       ·obtain ⟨i,hi⟩:=ab1 hu
        by_cases c:i=F.dep - 1000
        ·subst c
         rw [hpx] at hi; cases hi
         exact S1.at hty hmy (fun z=>nomatch z)
        ·obtain ⟨z,d,g1,g2,g3,g4,g5⟩:=arg i u c hi
         exact S1.at g2 g3 g4
       ·rw [aav.mp hu]; exact R.ok
      ·by_cases c:i < ts.length
       ·rw [aaF c] at hu
        obtain ⟨z,d,g1,g2,g3,g4,g5⟩:=arg i u hi hu
        have:=S.sep y z _ u 1 d (Ne.symm g1) hty hmy g2 g3 g4 a ha
        rw [g5] at this
        exact this hr
       ·rw [aaB (abk.mp c)] at hu
        have hu:=aav.mp (aae hu)
        subst hu
        rcases R.src a hr with z | z
        ·obtain ⟨_,vs,e⟩:=S.ownOk ho
         rw [e] at z; cases z
        ·exact S.disj ho z
      ·exact (S.nd y _ 1 hty hmy).2 a hr ha
      ·subst g1
       have f0:T.rests us2 0=[]:=Se (a:=a) fl
       obtain ⟨S2,P2⟩:=Pf (t':=.lst a us2) S1 hmy c2 hty rfl g2 ⟨by rw [Fd]; exact aaE.mpr ⟨abX,ab4⟩,fun b hb=>by
        have hb:b ∈ T.rests us2 0:=hb
        rw [f0] at hb; cases hb⟩ f0 (fun b u e nb=>g3 b u e fun z=>nb (by rw [z]; exact ha)) fun b hb=>by
         rw [Fd] at hb
         rw [aav.mp hb]
         exact ⟨.inl ha,g4⟩
       have ev:vτ (τ.set y (some (.lst a us2)))=vτ τ:=Ga hty rfl
       cases bb with
       | true =>
        rw [if_pos rfl] at h
        show (if false=true then _ else D.nx (vτ τ) H')
        rw [if_neg (by decide),<- ev]
        exact h (Ay m) _ H' rfl (Cr τ y _) S2 (P2.mono fun i hi=>by rw [aav.mp hi]; exact aac ..)
       | false =>
        rw [if_neg (by decide)] at h
        show (if true=true then lSs Z b D (vτ τ) H' else _)
        rw [if_pos rfl]
        refine ⟨_,Ay m,none,ev.symm,S2,hb,?_⟩
        rw [Cr]
        exact lOut.after P2 (fun i hi=>by rw [aav.mp hi]; exact aac ..) (fun i hi=>aaa _ hi) (lOut.weak (w1:=y :: wrSs b) h rfl fun _ z=>z)
     | _=>exact nE h
  ·cases hr2
 ·cases hr
theorem Ph {x:Nat} {e:Pu.E} (h:lS Z (.retM x e) D σ H):∃ m,lE Z.p Z.EX (tnM m) e σ H D.rt:=by
 obtain ⟨τ,m,r,rfl,S,hr,h⟩:=h
 simp only [msS] at hr
 obtain ⟨⟨j1,k1⟩,hj,hr⟩:=bS hr
 obtain ⟨⟨c1,c2,c3⟩,hr⟩:=At hr
 cases hr
 refine ⟨m,τ,rfl,S.ok,j1,k1,hj,(show lOut Z m none [] ((ev e (dτ τ)).out (dτ τ) fun d=>Gs d (dτ τ)[x]?) τ H D from h).lg S c3 |>.mono (Same.refl _) fun d _ h t H1 ht R=>?_⟩
 subst ht
 have hx:Z.dep - 1000=x:=by rw [c1]; exact acD ..
 have hn:¬ Z.dep < 1000:=by rw [c1]; exact abk.mpr (abK ..)
 cases t with
 | bl bb =>
  cases q:(dτ τ)[x]? with
  | none=>rw [q] at h; exact nE h
  | some o =>
   rw [q] at h
   cases o with
   | none=>exact nE h
   | some dx =>
    obtain ⟨u,hu,hdu⟩:=Cq (show get (dτ τ) x=.ok dx by unfold get; rw [q])
    cases u with
    | lst a us =>
     subst hdu
     have h:lRet Z [] (.tup [.bl bb,.lst (T.dats us)]) τ D:=h
     unfold lRet at h
     rw [if_neg hn] at h
     exact h.2 bb us a H1 rfl (by rw [hx]; exact Bv hu) ((S.at hu c2 (fun z=>nomatch z)).same R.same) (let ⟨ws,e⟩:=(S.own x _ 1 a hu c2 (by rw [Fd]; exact aav.mpr rfl)).2; ⟨ws,R.same _ _ e⟩) (S.same.trans R.same)
    | _=>subst hdu; exact nE h
 | _=>exact nE h
end
noncomputable def C4:List (Bool × E)->List Nd1
 | []=>[]
 | (_,e) :: r=>e.need ++ C4 r
mutual
noncomputable def S.need:S->List Nd1
 | .asg _ _ e=>e.need
 | .dem _ _=>[]
 | .dead _=>[]
 | .asgT _ e=>e.need
 | .set _ q i e=>C4 q ++ (i.need ++ e.need)
 | .mut _ q _ es=>C4 q ++ es.need
 | .expr e=>e.need
 | .iff c a b=>c.need ++ (a.need ++ b.need)
 | .wh c b=>c.need ++ b.need
 | .for_ _ it b=>it.need ++ b.need
 | .ret e=>e.need
 | .retT es=>es.need
 | .cif F _ _ e b=>.fc F :: (e.need ++ b.need)
 | .retM _ e=>e.need
 | .raise c es=>.rs c :: es.need
 | .try_ b c _ h e=>.cl c :: (b.need ++ (h.need ++ e.need))
noncomputable def Ss.need:Ss->List Nd1
 | .nil=>[]
 | .cons s r=>s.need ++ r.need
end
noncomputable def Iq:Um->Str
 | .append => "append"
 | .extend => "extend"
 | .clear => "clear"
noncomputable def Nf:Um->Nat->Bool
 | .append,n=>decide (n=1)
 | .extend,n=>decide (n=1)
 | _,n=>decide (n=0)
noncomputable def BY:Expr->Bool
 | .ListComp _ _ _ _=>false
 | .SetComp _ _ _ _=>false
 | .DictComp _ _ _ _ _=>false
 | _=>true
noncomputable def Fe:Expr->Bool
 | .Tuple _ _ _=>false
 | _=>true
noncomputable def Ir (c:CkC):List Expr->Bool
 | [.Name x _,.Name y _]=>(c.sc.names.lookup x==some .cell) || (c.sc.names.lookup y==some .cell)
 | _=>false
noncomputable def Iu:Expr->Bool
 | .Call _ _ _ _=>false
 | _=>true
noncomputable def nmOf:Expr->Option (Str × Pos)
 | .Name x p=>some (x,p)
 | _=>none
noncomputable def Iv:List ExceptHandler->List Stmt->Option (Str × Str × List Stmt)
 | [.ExceptHandler (some (.Name x _)) (some y) h _],[]=>some (x,y,h)
 | _,_=>none
theorem Pi {hs:List ExceptHandler} {fin h:List Stmt} {x y:Str} (e:Iv hs fin=some (x,y,h)):∃ p1 p2,hs=[.ExceptHandler (some (.Name x p1)) (some y) h p2]/\fin=[]:=by
 unfold Iv at e
 split at e
 ·cases e; exact ⟨_,_,rfl,rfl⟩
 ·cases e
noncomputable def Rows (st:Stmt) (a b y f a2 b2:Str) (es:List Expr) (k:Nat) (q:Pos) (e:Expr):Prop:=∃ p1 p2 p3 p4 p5 p6 p7 p8 p9 p10 p11,es=[.Name a p1,.Name b p2]/\st=.For (.Tuple [.Name a p1,.Name b p2] k q) (.Call (.Name f p4) [.Name y p3,e] [] p5) [.Assign [.Subscript (.Name a2 p6) (.Slice none none none p7) p8] (.Name b2 p9) p10] [] p11
noncomputable def sIf:Stmt->Option (Expr × List Stmt × List Stmt × Pos)
 | .If a b c p=>some (a,b,c,p)
 | _=>none
theorem Rj {st:Stmt} {a:Expr} {b c:List Stmt} {p:Pos} (h:sIf st=some (a,b,c,p)):st=.If a b c p:=by cases st <;> cases h <;> rfl
noncomputable def xUn:Expr->Option (UnaryOp × Expr × Pos)
 | .UnaryOp o e p=>some (o,e,p)
 | _=>none
theorem Rk {e a:Expr} {o:UnaryOp} {p:Pos} (h:xUn e=some (o,a,p)):e=.UnaryOp o a p:=by cases e <;> cases h <;> rfl
noncomputable def Sg:UnaryOp->Bool
 | .Not=>true
 | _=>false
noncomputable def FD (st:Stmt):Option (Str × List Expr × List Stmt):=(sIf st).bind fun w=>(xUn w.1).bind fun u=>(Kr u.2.1).bind fun k=>if Sg u.1 && w.2.2.1.isEmpty then some (k.1,k.2,w.2.1) else none
theorem Ng {st:Stmt} {f:Str} {xs:List Expr} {b:List Stmt} (h:FD st=some (f,xs,b)):∃ p1 p2 p3 p4,st=.If (.UnaryOp .Not (.Call (.Name f p1) xs [] p2) p3) b [] p4:=by
 unfold FD at h
 obtain ⟨⟨a,b',c',p⟩,g1,h⟩:=bS h
 obtain ⟨⟨o,u,p3⟩,g2,h⟩:=bS h
 obtain ⟨⟨k1,k2⟩,g3,h⟩:=bS h
 obtain ⟨hc,h⟩:=At h
 obtain ⟨c1,c2⟩:=Aa hc
 obtain ⟨p1,p2,E⟩:=M5 g3
 cases h
 have F:=Rj g1
 have G:=Rk g2
 simp only at E G c1 c2
 have c2:=List.isEmpty_iff.mp c2
 subst c2
 cases o <;> first | cases c1 | skip
 rw [G,E] at F
 exact ⟨_,_,_,_,F⟩
noncomputable def Ff (c:CkC):List Nat->List Expr->Bool
 | [],[]=>true
 | i :: is,.Name y _ :: r=>(c.N[i]?==some y) && Dx c.sc y && AS y && Ff c is r
 | _,_=>false
mutual
noncomputable def ckS (c:CkC):S->Stmt->Bool
 | .asg x _ e,.Assign [.Name y _] e' _=>(c.N[x]?==some y) && EH c y && ckE c e e'
 | .asgT xs e,.Assign [.Tuple ts k q] e' _=>ckG c (.tp xs) (.Tuple ts k q) && ckE c e e' && (Fe e' || Ir c ts)
 | .set x q i e,.Assign [.Subscript o i' _] e' _=>El c x q.reverse o && ckE c i i' && AF i' && ckE c e e' && BY e'
 | .mut x q u es,.Expr (.Call (.Attribute o name ap) xs [] cp) _=>El c x q.reverse o && (name==Iq u) && ckEs c es xs && (ap.endLine==cp.line) && Iu o && decide (es.len < 20) && Nf u es.len
 | .expr e,.Expr e' _=>ckE c e e' && BY e'
 | .iff t a b,.If t' a' b' _=>ckE c t t' && t.tst && ckSs c a a' && ckSs c b b'
 | .wh t b,.While t' b' [] _=>ckE c t t' && t.tst && ckSs c b b' && c.rz
 | .for_ g it b,.For tg it' b' [] _=>ckG c g tg && ckI c tg it it' && Dg it' && ckSs c b b' && c.rz && c.cm
 | .ret e,.Return (some e') _=>ckE c e e'
 | .retT es,.Return (some (.Tuple xs _ _)) _=>ckEs c es xs && decide (es.len<=1000)
 | .raise n es,.Raise (some (.Call (.Name x _) xs [] _)) none _=>(x==AD n) && glB c.sc x && AS x && ckEs c es xs && decide (0 < es.len) && decide (es.len<=1000) && c.rz && c.cm
 | .cif F as y e b,st=>match FD st with
  | some (x,xs,b')=>(x==F.name) && glB c.sc x && AS x && Ff c as xs.dropLast && (match xs.getLast? with | some z=>ckE c e z && Ah z | none=>false) && decide (as.length + 1=F.ar) && ckSs c b b' && c.cm
  | none=>false
 | .retM _ e,.Return (some e') _=>ckE c e e'
 | .try_ b n i h e,.Try b' hs e' fin _=>match Iv hs fin with
  | some (x,y,h')=>(x==AD n) && glB c.sc x && AS x && (c.N[i]?==some y) && (c.sc.names.lookup y==some .local) && c.rz && c.cm && !h'.isEmpty && ckSs { c with rz:=false } b b' && ckSs { c with rz:=false,cm:=false } h h' && ckSs c e e'
  | none=>false
 | _,_=>false
noncomputable def ckSs (c:CkC):Ss->List Stmt->Bool
 | .nil,[]=>true
 | .cons (.dem _ _) r,st=>ckSs c r st
 | .cons (.dead _) r,st=>ckSs c r st
 | .cons s r,x :: xs=>ckS c s x && ckSs c r xs
 | _,_=>false
end
structure Cs (Z:Zx) (c:CkC) (lv:Nat) (X:Cx) (E:XK):Prop where
 ct:Ct Z.p c lv X Z.EX
 ex:c.rz=true->Z.EX=fun _=>E
 xw:c.rz=true->Ke X E
 po:c.rz=true->PassesOwn (model X.prog X.w) X.A X.env X.xe
 kind:c.sc.kind=.function
 stk:X.stack=X.env :: X.outer
 frm:X.env.frame=some X.env.locals
section
variable {Z:Zx} {c:CkC} {lv:Nat} {X:Cx} {E:XK} {pos:Pos}
theorem GD {e:Expr} {t:Option Expr} {n:Nat} {env:Env} (h:BY e=true):swapsWith e t n env=pure false:=by
 cases e <;> first | rfl | cases h
theorem FV {q:List (Bool × Pu.E)}:∀ e ∈ q,∀ n ∈ e.2.need,n ∈ C4 q:=by
 induction q with
 | nil=>intro e he; cases he
 | cons a q ih =>
  intro e he n hn
  obtain ⟨b,e0⟩:=a
  rcases aal.mp he with rfl | he
  ·exact aam _ hn
  ·exact aag _ (ih e he n hn)
theorem Nh (C:Cs Z c lv X E) {x k:Nat} {e:Pu.E} {y:Str} {py:Pos} {e':Expr} (hn:∀ n ∈ e.need,NeedOk Z.p lv X n) (h1:(c.N[x]?==some y)=true) (h2:EH c y=true) (h3:ckE c e e'=true):PS X (.Assign [.Name y py] e' pos) (lS Z (.asg x k e)):=by
 have hN:X.N[x]?=some y:=by rw [C.ct.N]; exact beq_iff_eq.mp h1
 obtain ⟨l1,l2⟩:=C.ct.loc h2
 intro pins s σ H D I h
 obtain ⟨τ,m,rfl,S,h⟩:=Q4 h
 by_cases hc:BY e'=true
 ·exact K1 C.ct.nd hN l1 (snd e C.ct (tn:=tnM m) e' hn h3).1 (GD hc) l2 pins s _ H D I h
 ·cases e' with
  | ListComp elt' gens scope q =>
   have hsw:∃ b:Bool,swapsWith (.ListComp elt' gens scope q) (some (.Name y py)) pos.line X.env=pure b:=⟨_,rfl⟩
   obtain ⟨b,hsw⟩:=hsw
   cases b with
   | false=>exact K1 C.ct.nd hN l1 (snd e C.ct (tn:=tnM m) _ hn h3).1 hsw l2 pins s _ H D I h
   | true =>
    cases e with
    | comp0 nl fr g it elt =>
     obtain ⟨tg,iter,ifs,rfl,h3⟩:=DE h3
     obtain ⟨h3,g7⟩:=Aa h3
     obtain ⟨h3,g6⟩:=Aa h3
     obtain ⟨h3,g5⟩:=Aa h3
     obtain ⟨h3,g4⟩:=Aa h3
     obtain ⟨h3,g3⟩:=Aa h3
     obtain ⟨h3,g2⟩:=Aa h3
     obtain ⟨h3,g1⟩:=Aa h3
     obtain ⟨gc,g0⟩:=Aa h3
     cases ifs with
     | cons _ _=>cases g0
     | nil =>
     have g2:=of_decide_eq_true g2
     subst g2
     obtain ⟨Sc,nd⟩:=Hz C.ct g1
     obtain ⟨n1,n2⟩:=Am hn
     refine Kp (C.ct.calm gc) Sc (sndI it C.ct (tn:=tnM m) iter n1 g4) (fun i hi=>of_decide_eq_true (aau.mp g3 i hi)) (fun z=>⟨?_,?_⟩) (CW g5) C.ct.nd hN l1 l2 hsw pins s _ H D I h
     ·exact F7 (C.ct.blk nd z) g6
     ·exact (snd elt (C.ct.blk nd z) elt' (fun n m=>(n2 n m).blk) g7).1
    | comp1 nl fr g it cond elt =>
     obtain ⟨tg,iter,ifs,rfl,h3⟩:=DE h3
     obtain ⟨cnd,rfl,h3⟩:=Id h3
     obtain ⟨h3,g9⟩:=Aa h3
     obtain ⟨h3,g8⟩:=Aa h3
     obtain ⟨h3,g7⟩:=Aa h3
     obtain ⟨h3,g6⟩:=Aa h3
     obtain ⟨h3,g5⟩:=Aa h3
     obtain ⟨h3,g4⟩:=Aa h3
     obtain ⟨h3,g3⟩:=Aa h3
     obtain ⟨h3,g2⟩:=Aa h3
     obtain ⟨gc,g1⟩:=Aa h3
     have g2:=of_decide_eq_true g2
     subst g2
     obtain ⟨Sc,nd⟩:=Hz C.ct g1
     obtain ⟨n1,n2⟩:=Am hn
     obtain ⟨n2,n3⟩:=Am n2
     refine Kq (C.ct.calm gc) Sc (sndI it C.ct (tn:=tnM m) iter n1 g4) (fun i hi=>of_decide_eq_true (aau.mp g3 i hi)) (fun z=>⟨?_,?_,?_⟩) (CW g5) C.ct.nd hN l1 l2 hsw pins s _ H D I h
     ·exact F7 (C.ct.blk nd z) g6
     ·exact (snd cond (C.ct.blk nd z) cnd (fun n m=>(n2 n m).blk) g7).2 g8
     ·exact (snd elt (C.ct.blk nd z) elt' (fun n m=>(n3 n m).blk) g9).1
    | _=>exact nF h3
  | SetComp _ _ _ _ =>
   cases e with
   | _=>exact nF h3
  | DictComp _ _ _ _ _ =>
   cases e with
   | _=>exact nF h3
  | _=>exact absurd rfl hc
theorem LX {ts:List Expr} {k:Nat} {q:Pos} {e':Expr} {env:Env} (h:Fe e'=true):swappedStores [.Tuple ts k q] e' env=pure none:=by
 cases e' <;> first | rfl | cases h
theorem Ni (x:Str) (p:Pos):(Expr.Name x p).pos=p:=rfl
theorem LY {x y:Str} {px py q:Pos} {k:Nat} {e':Expr} {env:Env} (h:env.kindOf x=some .cell\/env.kindOf y=some .cell):swappedStores [.Tuple [.Name x px,.Name y py] k q] e' env=pure none:=by
 cases e' with
 | Tuple vs k2 q2 =>
  have key:([Expr.Name x px,.Name y py].filterMap fun | .Name id pos=>(if env.kindOf id==some .local && pos.line==px.line then some id else none) | _=>none).length ≠ 2:=by
   rcases h with h | h <;> simp only [aa9,List.filterMap_nil,h] <;> simp <;> split <;> simp
  have key2:(([Expr.Name x px,.Name y py].filterMap fun | .Name id pos=>(if env.kindOf id==some .local && pos.line==px.line then some id else none) | _=>none).length != 2)=true:=by simpa using key
  unfold swappedStores
  simp only [aa5,List.length_nil,List.head?_cons,aaX,Option.getD_some,Ni,aaQ,Nat.reduceAdd,key2,Bool.true_or,if_true,pure_bind]
  split
  ·rfl
  ·split
   ·rfl
   ·exact if_pos (ab3.mpr (.inl key2))
 | _=>rfl
theorem Nj {c:CkC} {ts:List Expr} {k:Nat} {q:Pos} {e':Expr} {env:Env} (hs:env.scope=c.sc) (h:(Fe e' || Ir c ts)=true):swappedStores [.Tuple ts k q] e' env=pure none:=by
 rcases ab3.mp h with h | h
 ·exact LX h
 ·unfold Ir at h
  split at h
  ·refine LY ?_
   rw [ab3,beq_iff_eq,beq_iff_eq,<- hs] at h
   exact h
  ·cases h
theorem Nk {ts:List Expr} {k:Nat} {q:Pos} {e':Expr} {env:Env} {n:Nat}:swapsWithSole [.Tuple ts k q] e' n env=pure false:=by
 cases e' <;> rfl
theorem Nl {o i:Expr} {q:Pos} {e':Expr} {env:Env} {n:Nat} (h:BY e'=true):swapsWithSole [.Subscript o i q] e' n env=pure false:=by
 cases e' <;> first | rfl | cases h
theorem LZ (C:Cs Z c lv X E) {xs:List Nat} {e:Pu.E} {ts:List Expr} {k:Nat} {q:Pos} {e':Expr} (hn:∀ n ∈ e.need,NeedOk Z.p lv X n) (h1:ckG c (.tp xs) (.Tuple ts k q)=true) (h2:ckE c e e'=true) (h3:(Fe e' || Ir c ts)=true):PS X (.Assign [.Tuple ts k q] e' pos) (lS Z (.asgT xs e)):=by
 intro pins s σ H D I h
 obtain ⟨m,h⟩:=O9 (K:=X.K) h
 exact K0 (snd e C.ct (tn:=tnM m) e' hn h2).1 (F7 C.ct h1) Nk (Nj C.ct.sc h3) rfl pins s σ H D I h
theorem L3 (C:Cs Z c lv X E) {e:Pu.E} {e':Expr} (hn:∀ n ∈ e.need,NeedOk Z.p lv X n) (h1:ckE c e e'=true) (h2:BY e'=true):PS X (.Expr e' pos) (lS Z (.expr e)):=by
 intro pins s σ H D I h
 obtain ⟨m,h⟩:=Pa h
 exact Er (snd e C.ct (tn:=tnM m) e' hn h1).1 (GD h2) pins s σ H D I h
theorem Nm (C:Cs Z c lv X E) {x:Nat} {q:List (Bool × Pu.E)} {i e:Pu.E} {o i' e':Expr} {p2:Pos} (n1:∀ n ∈ C4 q,NeedOk Z.p lv X n) (n2:∀ n ∈ i.need,NeedOk Z.p lv X n) (n3:∀ n ∈ e.need,NeedOk Z.p lv X n)
  (h1:El c x q.reverse o=true) (h2:ckE c i i'=true) (h3:AF i'=true) (h4:ckE c e e'=true) (h5:BY e'=true):PS X (.Assign [.Subscript o i' p2] e' pos) (lS Z (.set x q i e)):=by
 intro pins s σ H D I h
 obtain ⟨m,h⟩:=Q5 h
 have A:=Kv C.ct (tn:=tnM m) (x:=x) (rp:=q.reverse) (o:=o) (fun e he n hn=>n1 n (FV e (List.mem_reverse.mp he) n hn)) h1
 rw [acq] at A
 have hw:swappedStores [.Subscript o i' p2] e' X.env=pure none:=by cases e' <;> rfl
 refine K0 (snd e C.ct (tn:=tnM m) e' n3 h4).1 (Qh A (snd i C.ct (tn:=tnM m) i' n2 h2).1 MC (fun v=>?_)) (Nl h5) hw rfl pins s σ H D I h
 cases i' <;> first | rfl | cases h3
theorem Nn {p:Px} {EX:EXT} {tn:List Nat} {K:Frag} {u:V->List V->Hp->VK->Prop} {x:Nat} {q:List (Bool × Pu.E)} {σ:L2.St} {H:Hp} {Q:Hp->Prop} (h:lPl p EX tn x q σ H fun v H1=>tyV K "list" v H1/\lEs p EX tn .nil σ H1 fun vs H2=>u v vs H2 fun _ H3=>Q H3) :
  lPl p EX tn x q σ H fun v H1=>tyV K "list" v H1/\u v [] H1 fun _ H3=>Q H3:=by
 obtain ⟨τ,t,is,s,e1,e2,e3,e4,e5,e6,e7,h⟩:=h
 refine ⟨τ,t,is,s,e1,e2,e3,e4,e5,e6,e7,fun H' s'=>?_⟩
 obtain ⟨h1,τ2,rfl,hF,j,k,hj,h2⟩:=h H' s'
 exact ⟨h1,h2 [] H' rfl ⟨Same.refl _,trivial,by simp [T.rests],by simp [T.adrs],by simp [T.Nds,T.adrs]⟩⟩
theorem L4 {x:Nat} {rp:List (Bool × Pu.E)} {o:Expr} {name:Str} {env:Env} (h:El c x rp o=true):attributeBase o name env (eval o env)=eval o env:=by
 cases rp with
 | nil=>cases o <;> first | rfl | exact nF h
 | cons a r=>obtain ⟨b,e⟩:=a; cases o <;> first | rfl | exact nF h
theorem No (C:Cs Z c lv X E) {x:Nat} {q:List (Bool × Pu.E)} {u:Um} {es:Es} {o:Expr} {xs:List Expr} {ap cp:Pos} (n1:∀ n ∈ C4 q,NeedOk Z.p lv X n) (n2:∀ n ∈ es.need,NeedOk Z.p lv X n)
  (h1:El c x q.reverse o=true) (h2:ckEs c es xs=true) (h3:(ap.endLine==cp.line)=true) (h5:Nf u es.len=true):PS X (.Expr (.Call (.Attribute o (Iq u) ap) xs [] cp) pos) (lS Z (.mut x q u es)):=by
 intro pins s σ H D I h
 obtain ⟨τ,m,r,rfl,S,hr,h⟩:=h
 have A:PE X o (lPl Z.p Z.EX (tnM m) x q):=by
  have A:=Kv C.ct (tn:=tnM m) (x:=x) (rp:=q.reverse) (o:=o) (fun e he n hn=>n1 n (FV e (List.mem_reverse.mp he) n hn)) h1
  rwa [acq] at A
 have hb:∀ name:Str,attributeBase o name X.env (eval o X.env)=eval o X.env:=fun name=>L4 h1
 obtain ⟨st,sl⟩:=BX h2
 simp only [msS] at hr
 split at hr
 ·rename_i k hmx
  split at hr
  ·rename_i hc
   obtain ⟨c1,c2,c3⟩:=hc
   cases hmv:es.mvOf m with
   | some yk =>
    obtain ⟨y,ky⟩:=yk
    rw [hmv] at hr
    obtain ⟨⟨d1,d2,d3,d4⟩,rfl⟩:=At hr
    subst d1
    have hq:q=[]:=by cases q with | nil=>rfl | cons _ _=>cases d4
    subst hq
    have hes:es=.cons (.nm y) .nil/\m[y]?=some (.ow ky):=by
     unfold Es.mvOf at hmv
     split at hmv
     ·split at hmv
      ·cases hmv; exact ⟨rfl,‹_›⟩
      ·cases hmv
     ·cases hmv
    obtain ⟨rfl,hmy⟩:=hes
    cases xs with
    | nil=>cases sl
    | cons a xr =>
     cases xr with
     | cons _ _=>cases sl
     | nil =>
      obtain ⟨g,_⟩:=Aa (show (ckE c (.nm y) a && Ah a && ckEs c .nil [])=true from h2)
      obtain ⟨g1,g2⟩:=Aa g
      cases a with
      | Name z pz =>
       obtain ⟨g,g5⟩:=Aa (show ((c.N[y]?==some z) && Dx c.sc z && AS z)=true from g1)
       obtain ⟨g3,g4⟩:=Aa g
       obtain ⟨e1,e2⟩:=Ba g5
       have hv:PE X (.Name z pz) (Mp y):=DU (by rw [C.ct.N]; exact beq_iff_eq.mp g3) (C.ct.vis g4) e1 e2
       refine Er (Kb PySem.F.plainAttrs_list PySem.F.slot_list_append PySem.F.type_list_append D9 A (AV hv CB rfl) (hb _) rfl h3 rfl rfl) rfl pins s _ H D I ?_
       exact Q6 (X:=X) S hmx hmy d2 (by simpa [lnE] using d3) rfl h
      | _=>exact nF g1
   | none =>
    rw [hmv] at hr
    obtain ⟨⟨j1,k1⟩,g1,hr⟩:=bS hr
    obtain ⟨hcc,rfl⟩:=At hr
    have B:=(sndA es C.ct (tn:=tnM m) xs n2 h2).1
    have M:=O7 (X:=X) C.ct.K S hmx c1 c2 g1 hcc rfl h
    have one:∀ {y:Expr},Ah y=true->((backTo cp (starEach [y] X.env)).all (fun x=>!x.1) && (backToKw cp (keywordEach [] X.env)).all (fun x=>x.1.isSome) && decide ([y].length + ([]:List Keyword).length + (if ([]:List Keyword).isEmpty then 0 else 1) < 30))=true:=by
     intro y hy
     rw [Ai hy]; rfl
    cases u with
    | append =>
     have h5:es.len=1:=of_decide_eq_true h5
     match xs,sl,st with
     | [y],_,st =>
      have hy:Ah y=true:=by simpa using st
      exact Er (Kb PySem.F.plainAttrs_list PySem.F.slot_list_append PySem.F.type_list_append D9 A B (hb _) (one hy) h3 (Ai hy) rfl) rfl pins s _ H D I M
     | [],sl,_=>rw [h5] at sl; cases sl
     | _ :: _ :: _,sl,_=>rw [h5] at sl; cases sl
    | extend =>
     have h5:es.len=1:=of_decide_eq_true h5
     match xs,sl,st with
     | [y],_,st =>
      have hy:Ah y=true:=by simpa using st
      exact Er (Kb PySem.F.plainAttrs_list PySem.F.slot_list_extend PySem.F.type_list_extend Kw A B (hb _) (one hy) h3 (Ai hy) rfl) rfl pins s _ H D I M
     | [],sl,_=>rw [h5] at sl; cases sl
     | _ :: _ :: _,sl,_=>rw [h5] at sl; cases sl
    | clear =>
     have h5:es.len=0:=of_decide_eq_true h5
     rw [h5] at sl
     cases xs with
     | cons _ _=>cases sl
     | nil =>
      cases es with
      | cons _ _=>cases h5
      | nil =>
       refine Er (Qz PySem.F.plainAttrs_list PySem.F.slot_list_clear PySem.F.type_list_clear MD A (hb _) h3) rfl pins s _ H D I ?_
       exact Nn M
  ·cases hr
 ·cases hr
end
section
variable {Z:Zx} {c:CkC} {lv:Nat} {X:Cx} {E:XK} {pos:Pos}
theorem Np (C:Cs Z c lv X E) {e:Pu.E} {e':Expr} (hn:∀ n ∈ e.need,NeedOk Z.p lv X n) (h1:ckE c e e'=true):PS X (.Return (some e') pos) (lS Z (.ret e)):=by
 intro pins s σ H D I h
 rcases Q7 h with ⟨i,t,rfl,hs,hq⟩ | ⟨m,h⟩
 ·cases e' with
  | Name y q =>
   obtain ⟨g,h3⟩:=Aa (show ((c.N[i]?==some y) && Dx c.sc y && AS y)=true from h1)
   obtain ⟨h1,h2⟩:=Aa g
   obtain ⟨d1,d2⟩:=Ba h3
   exact Gi (DU (by rw [C.ct.N]; exact beq_iff_eq.mp h1) (C.ct.vis h2) d1 d2) pins s σ H D I ⟨_,hs,hq⟩
  | _=>exact nF h1
 ·exact Gi (snd e C.ct (tn:=tnM m) e' hn h1).1 pins s σ H D I h
theorem Ky (C:Cs Z c lv X E) {n:Nat} {es:Es} {xs:List Expr} {np cp:Pos} (hn:∀ n ∈ es.need,NeedOk Z.p lv X n) (hr:NeedOk Z.p lv X (.rs n)) (h1:glB c.sc (AD n)=true) (h2:AS (AD n)=true) (h3:ckEs c es xs=true) (h4:0 < es.len) (h5:es.len<=1000) (hrz:c.rz=true) (hcm:c.cm=true) :
  PS X (.Raise (some (.Call (.Name (AD n) np) xs [] cp)) none pos) (lS Z (.raise n es)):=by
 intro pins s σ H D I h
 obtain ⟨m,h⟩:=M9 h
 obtain ⟨r1,r2,r3⟩:=hr
 obtain ⟨s1,s2⟩:=BX h3
 have A:=(sndA es C.ct (tn:=tnM m) xs hn h3).1
 cases xs with
 | nil=>rw [<- s2] at h4; cases h4
 | cons x xr =>
  rw [aaR,aah] at s1
  refine MI (C.xw hrz) (C.ct.calm hcm) (C.ct.gl h1) r2 r3 A (Ba h2).1 (Ai s1.1) (AR s1.2) pins s σ H D I ?_
  obtain ⟨τ,e,hF,j,k,hj,h⟩:=h
  refine ⟨τ,e,hF,j,k,hj,h.mono (Same.refl _) fun ds _ hd ts H1 ht R=>?_⟩
  obtain ⟨q1,q2⟩:=hd ts H1 ht R
  refine ⟨by rw [q1]; exact aat h5 (by decide),?_⟩
  have:=q2 r1
  rw [C.ex hrz] at this
  exact this
end
section
variable {Z:Zx} {c:CkC} {lv:Nat} {X:Cx} {E:XK} {pos:Pos}
theorem Kz (C:Cs Z c lv X E) {m:Ms} {τ:Ft}:∀ (es:Es) {I:List Nat} (xs:List Expr),(∀ n ∈ es.need,NeedOk Z.p lv X n)->ckEs c es xs=true->PA X xs (lRO Z m τ I es)
 | .nil,I,xs,hn,h=>by
  cases xs with
  | nil =>
   refine PA.mono CB fun σ H Q h=>?_
   obtain ⟨rfl,S,k,hk,h⟩:=h
   exact h [] H rfl Rf
  | cons _ _=>exact nF h
 | .cons e r,I,xs,hn,h=>by
  cases xs with
  | nil=>exact nF h
  | cons x xs =>
   obtain ⟨h,h3⟩:=Aa (show (ckE c e x && Ah x && ckEs c r xs)=true from h)
   obtain ⟨h1,h2⟩:=Aa h
   obtain ⟨n1,n2⟩:=Am hn
   cases q:HB m e with
   | some ik =>
    obtain ⟨i,k⟩:=ik
    obtain ⟨rfl,hm⟩:=M7 q
    cases x with
    | Name y py =>
     obtain ⟨g,g3⟩:=Aa (show ((c.N[i]?==some y) && Dx c.sc y && AS y)=true from h1)
     obtain ⟨g1,g2⟩:=Aa g
     obtain ⟨d1,d2⟩:=Ba g3
     refine PA.mono (AV (DU (by rw [C.ct.N]; exact beq_iff_eq.mp g1) (C.ct.vis g2) d1 d2) (Kz C (m:=m) (τ:=τ) r (I:=i :: I) xs n2 h3) (Ai h2)) fun σ H Q h=>?_
     obtain ⟨rfl,S,k0,hk,h⟩:=h
     rw [rkT,q] at hk
     simp only at hk
     split at hk
     ·cases hk
     ·rename_i hi
      obtain ⟨k2,hk2,hk⟩:=bS hk
      cases hk
      simp only [evs,ev] at h
      cases q2:get (dτ τ) i with
      | exc c=>unfold get at q2; split at q2 <;> cases q2
      | bad=>rw [q2] at h; exact nE h
      | ok d =>
       obtain ⟨t,ht,rfl⟩:=Cq q2
       rw [q2,Res.bind_ok] at h
       refine ⟨_,Bv ht,rfl,S,k2,hk2,h.bind.mono (Same.refl _) fun ds _ h ts H1 hts R=>?_⟩
       exact h (t :: ts) H1 (by simp [T.dats,hts]) (Rg S ht hm hi R)
    | _=>exact nF h1
   | none =>
    refine PA.mono (AV (snd e C.ct (tn:=tnM m) x n1 h1).1 (Kz C (m:=m) (τ:=τ) r (I:=I) xs n2 h3) (Ai h2)) fun σ H Q h=>?_
    obtain ⟨rfl,S,k0,hk,h⟩:=h
    rw [rkT,q] at hk
    simp only at hk
    obtain ⟨⟨j1,k1⟩,hj,hk⟩:=bS hk
    split at hk
    ·rename_i hz
     have hz:j1=0:=hz
     subst hz
     obtain ⟨k2,hk2,hk⟩:=bS hk
     cases hk
     simp only [evs] at h
     refine l1 S.ok hj h fun d t H1 ht R h=>?_
     subst ht
     refine ⟨rfl,S.grow R.same,k2,hk2,h.bind.mono R.same fun ds _ h ts H2 hts R2=>?_⟩
     exact h (t :: ts) H2 (by simp [T.dats,hts]) (Rh S R R2)
    ·cases hk
end
section
variable {Z:Zx} {c:CkC} {lv:Nat} {X:Cx} {E:XK} {pos:Pos}
theorem Nq (C:Cs Z c lv X E) (hcm:X.calm=true) {b h e:Ss} {n i:Nat} {y:Str} {b' e' hr:List Stmt} {b0:Stmt} {p1 p2:Pos} (nC:NeedOk Z.p lv X (.cl n)) (hi:X.N[i]?=some y) (hl:c.sc.names.lookup y=some .local) (hg:Gl X (AD n)) (hd:(AD n==("__debug__" : Str))=false)
  (B:∀ (EX:EXT) (W:WT) (pn:PT0),DX (CXe X.prog X.w) (X.inT W pn) EX->∀ mx,PSs (X.inT W pn) b' (lSs { Z with EX:=EX,mx:=mx } b)) (S:∀ a mx,PSs (X.inX a) (b0 :: hr) (lSs { Z with EX:=EX0,mx:=mx } h)) (O:PSs X e' (lSs Z e)) :
  PS X (.Try b' [.ExceptHandler (some (.Name (AD n) p1)) (some y) (b0 :: hr) p2] e' [] pos) (lS Z (.try_ b n i h e)):=by
 intro pins s σ H D I hq
 obtain ⟨mb,mh,q⟩:=Re (K:=X.K) C.ct.K C.ct.kx nC.1 hq
 have hk:X.env.kindOf y=some .local:=by
  show X.env.scope.names.lookup y=_
  rw [C.ct.sc]; exact hl
 exact QD hcm C.stk C.frm C.ct.nd hi hk hg nC.2 (fun E W pn hp=>B E W pn hp mb) (fun a=>S a mh) O hd pins s σ H D I q
end
section
variable {Z:Zx} {c:CkC} {lv:Nat} {X:Cx} {E:XK} {pos:Pos}
theorem Hn (C:Cs Z c lv X E) {x:Expr} {te:TE} (hx:PE X x te) (hs:Ah x=true):∀ {zs:List Nat} {xs:List Expr},Ff c zs xs=true->PA X (xs ++ [x]) (fun σ H Q=>∃ vs,vals σ zs=some vs/\te σ H fun v H1=>Q (vs ++ [v]) H1)/\(xs ++ [x]).all Ah=true
 | [],[],_=>⟨fun po pins s σ H Q I q=>AV hx CB (Ai hs) po pins s σ H Q I (by obtain ⟨vs,e,q⟩:=q; cases e; exact q),by simp [hs]⟩
 | [],_ :: _,h=>by cases h
 | _ :: _,[],h=>by cases h
 | i :: is,e :: r,h=>by
  cases e with
  | Name y q =>
   obtain ⟨h,h4⟩:=Aa (show ((c.N[i]?==some y) && Dx c.sc y && AS y && Ff c is r)=true from h)
   obtain ⟨h,h3⟩:=Aa h
   obtain ⟨h1,h2⟩:=Aa h
   obtain ⟨A,a2⟩:=Hn C hx hs h4
   obtain ⟨d1,d2⟩:=Ba h3
   refine ⟨fun po pins s σ H Q I q=>AV (DU (i:=i) (by rw [C.ct.N]; exact beq_iff_eq.mp h1) (C.ct.vis h2) d1 d2) A rfl po pins s σ H Q I ?_,by rw [aa2,aaR,a2]; rfl⟩
   obtain ⟨vs,e,q⟩:=q
   have e:(match σ[i]? with
    | some (some v)=>(vals σ is).map (v :: ·)
    | _=>none)=some vs:=e
   split at e
   ·rename_i v hv
    obtain ⟨ws,hw,rfl⟩:=aar.mp e
    exact ⟨v,hv,ws,hw,q⟩
   ·cases e
  | _=>exact nF h
theorem Nr (C:Cs Z c lv X E) {F:Fn} {as:List Nat} {y:Nat} {e:Pu.E} {b:Ss} {xs:List Expr} {b':List Stmt} {z:Expr} {p1 p2 p3 p4:Pos} (hn:NeedOk Z.p lv X (.fc F)) (he:∀ n ∈ e.need,NeedOk Z.p lv X n) (h2:glB c.sc F.name=true) (h3:AS F.name=true) (h4:Ff c as xs=true) (hz:ckE c e z=true) (hs:Ah z=true) (h5:as.length + 1=F.ar) (hb:PSs X b' (lSs Z b)) (h6:c.cm=true) :
  PS X (.If (.UnaryOp .Not (.Call (.Name F.name p1) (xs ++ [z]) [] p2) p3) b' [] p4) (lS Z (.cif F as y e b)):=by
 intro pins s σ H D I h
 obtain ⟨f1,ps,hps,hF⟩:=hn
 obtain ⟨m,vs,e1,q⟩:=Ri h5 h
 obtain ⟨A,a2⟩:=Hn C (snd e C.ct (tn:=tnM m) z he hz).1 hs h4
 generalize hx:xs ++ [z]=zs at *
 cases zs with
 | nil=>simp at hx
 | cons x1 xr =>
  rw [aaR,aah] at a2
  refine NP (KZ (P5 (Kf hF ((C.ct.room h6).mono f1) (C.ct.gl h2) C.ct.pass A (Ba h3).1 (Ai a2.1) (AR a2.2)))) hb (u:=fun D σ H=>D.nx σ H) Jp pins s σ H D I ?_
  refine ⟨vs,e1,Pe q fun v H1 w=>?_⟩
  show spN Z.p F ((vs ++ [v]) ++ []) H1 _ _
  rw [aaN]
  exact w _
end
mutual
theorem SS {Z:Zx} {c:CkC} {lv:Nat} {X:Cx} {E:XK} (C:Cs Z c lv X E):∀ (s:S) (st:Stmt),(∀ n ∈ s.need,NeedOk Z.p lv X n)->ckS c s st=true->PS X st (lS Z s)
 | .asg x k e,st,hn,h=>by
  cases st with
  | Assign ts e' q =>
   match ts,h with
   | [t],h =>
    cases t with
    | Name y py =>
     obtain ⟨h,h3⟩:=Aa (show ((c.N[x]?==some y) && EH c y && ckE c e e')=true from h)
     obtain ⟨h1,h2⟩:=Aa h
     exact Nh C hn h1 h2 h3
    | _=>exact nF h
   | [],h=>exact nF h
   | t :: _ :: _,h=>cases t <;> exact nF h
  | _=>exact nF h
 | .dem _ _,st,hn,h=>by cases st <;> exact nF h
 | .dead _,st,hn,h=>by cases st <;> exact nF h
 | .asgT xs e,st,hn,h=>by
  cases st with
  | Assign ts e' q =>
   match ts,h with
   | [t],h =>
    cases t with
    | Tuple es k py =>
     obtain ⟨h,h3⟩:=Aa (show (ckG c (.tp xs) (.Tuple es k py) && ckE c e e' && (Fe e' || Ir c es))=true from h)
     obtain ⟨h1,h2⟩:=Aa h
     exact LZ C hn h1 h2 h3
    | _=>exact nF h
   | [],h=>exact nF h
   | t :: _ :: _,h=>cases t <;> exact nF h
  | _=>exact nF h
 | .set x q i e,st,hn,h=>by
  cases st with
  | Assign ts e' q2 =>
   match ts,h with
   | [t],h =>
    cases t with
    | Subscript o i' py =>
     obtain ⟨h,h5⟩:=Aa (show (El c x q.reverse o && ckE c i i' && AF i' && ckE c e e' && BY e')=true from h)
     obtain ⟨h,h4⟩:=Aa h
     obtain ⟨h,h3⟩:=Aa h
     obtain ⟨h1,h2⟩:=Aa h
     obtain ⟨n1,n2⟩:=Am hn
     obtain ⟨n2,n3⟩:=Am n2
     exact Nm C n1 n2 n3 h1 h2 h3 h4 h5
    | _=>exact nF h
   | [],h=>exact nF h
   | t :: _ :: _,h=>cases t <;> exact nF h
  | _=>exact nF h
 | .mut x q u es,st,hn,h=>by
  cases st with
  | Expr v q2 =>
   cases v with
   | Call f xs ks cp =>
    cases f with
    | Attribute o name ap =>
     cases ks with
     | nil =>
      obtain ⟨h,h8⟩:=Aa (show (El c x q.reverse o && (name==Iq u) && ckEs c es xs && (ap.endLine==cp.line) && Iu o && decide (es.len < 20) && Nf u es.len)=true from h)
      obtain ⟨h,h7⟩:=Aa h
      obtain ⟨h,h5⟩:=Aa h
      obtain ⟨h,h4⟩:=Aa h
      obtain ⟨h,h3⟩:=Aa h
      obtain ⟨h1,h2⟩:=Aa h
      cases beq_iff_eq.mp h2
      obtain ⟨n1,n2⟩:=Am hn
      exact No C n1 n2 h1 h3 h4 h8
     | cons _ _=>exact nF h
    | _=>exact nF h
   | _=>exact nF h
  | _=>exact nF h
 | .expr e,st,hn,h=>by
  cases st with
  | Expr v q2 =>
   obtain ⟨h1,h2⟩:=Aa (show (ckE c e v && BY v)=true from h)
   exact L3 C hn h1 h2
  | _=>exact nF h
 | .iff t a b,st,hn,h=>by
  cases st with
  | If t' a' b' q =>
   obtain ⟨h,h4⟩:=Aa (show (ckE c t t' && t.tst && ckSs c a a' && ckSs c b b')=true from h)
   obtain ⟨h,h3⟩:=Aa h
   obtain ⟨h1,h2⟩:=Aa h
   obtain ⟨n1,n2⟩:=Am hn
   obtain ⟨n2,n3⟩:=Am n2
   intro pins s σ H D I h
   obtain ⟨m,h⟩:=Q8 h
   exact NP ((snd t C.ct (tn:=tnM m) t' n1 h1).2 h2) (sndSs C a a' n2 h3) (sndSs C b b' n3 h4) pins s σ H D I h
  | _=>exact nF h
 | .wh t b,st,hn,h=>by
  cases st with
  | While t' b' el q =>
   cases el with
   | nil =>
    obtain ⟨h,hrz⟩:=Aa (show (ckE c t t' && t.tst && ckSs c b b' && c.rz)=true from h)
    obtain ⟨h,h3⟩:=Aa h
    obtain ⟨h1,h2⟩:=Aa h
    obtain ⟨n1,n2⟩:=Am hn
    intro pins s σ H D I h
    obtain ⟨m,h⟩:=Sd h
    exact Mu (C.po hrz) ((snd t C.ct (tn:=tnM m) t' n1 h1).2 h2) (sndSs C b b' n2 h3) pins s σ H D I h
   | cons _ _=>exact nF h
  | _=>exact nF h
 | .for_ g it b,st,hn,h=>by
  cases st with
  | For tg it' b' el q =>
   cases el with
   | nil =>
    obtain ⟨h,hcm⟩:=Aa (show (ckG c g tg && ckI c tg it it' && Dg it' && ckSs c b b' && c.rz && c.cm)=true from h)
    obtain ⟨h,hrz⟩:=Aa h
    obtain ⟨h,h4⟩:=Aa h
    obtain ⟨h,h3⟩:=Aa h
    obtain ⟨h1,h2⟩:=Aa h
    obtain ⟨n1,n2⟩:=Am hn
    have B:=sndSs C b b' n2 h4
    intro pins s σ H D I h
    rcases Rb (K:=X.K) (X:=X) h with ⟨m,h⟩ | ⟨x,rfl,v,a,xs,e1,rfl,sq,hW⟩
    ·exact K8 (C.po hrz) (C.ct.calm hcm) (sndI it C.ct (tn:=tnM m) it' n1 h2) (F7 C.ct h1) B (CW h3) pins s σ H D I h
    ·cases it' with
     | Name y q' =>
      obtain ⟨g,g3⟩:=Aa (show ((c.N[x]?==some y) && Dx c.sc y && AS y)=true from h2)
      obtain ⟨g1,g2⟩:=Aa g
      obtain ⟨d1,d2⟩:=Ba g3
      refine K8 (C.po hrz) (C.ct.calm hcm) (HZ (DU (by rw [C.ct.N]; exact beq_iff_eq.mp g1) (C.ct.vis g2) d1 d2)) (F7 C.ct h1) B (CW h3) pins s σ H D I ?_
      exact ⟨_,e1,a,rfl,.inl ⟨xs,sq,hW C.ct.K⟩⟩
     | _=>exact nF h2
   | cons _ _=>exact nF h
  | _=>exact nF h
 | .ret e,st,hn,h=>by
  cases st with
  | Return v q =>
   cases v with
   | some e'=>exact Np C hn h
   | none=>exact nF h
  | _=>exact nF h
 | .cif F as y e b,st,hn,h=>by
  cases w0:FD st with
  | none =>
   have h:(match FD st with | some (x,xs,b')=>(x==F.name) && glB c.sc x && AS x && Ff c as xs.dropLast && (match xs.getLast? with | some z=>ckE c e z && Ah z | none=>false) && decide (as.length + 1=F.ar) && ckSs c b b' && c.cm | none=>false)=true:=h
   rw [w0] at h; cases h
  | some w =>
   obtain ⟨x,xs,b'⟩:=w
   have h:(match FD st with | some (x,xs,b')=>(x==F.name) && glB c.sc x && AS x && Ff c as xs.dropLast && (match xs.getLast? with | some z=>ckE c e z && Ah z | none=>false) && decide (as.length + 1=F.ar) && ckSs c b b' && c.cm | none=>false)=true:=h
   rw [w0] at h
   obtain ⟨p1,p2,p3,p4,rfl⟩:=Ng w0
   obtain ⟨h,h8⟩:=Aa (show ((x==F.name) && glB c.sc x && AS x && Ff c as xs.dropLast && (match xs.getLast? with | some z=>ckE c e z && Ah z | none=>false) && decide (as.length + 1=F.ar) && ckSs c b b' && c.cm)=true from h)
   obtain ⟨h,h7⟩:=Aa h
   obtain ⟨h,h6⟩:=Aa h
   obtain ⟨h,h5⟩:=Aa h
   obtain ⟨h,h4⟩:=Aa h
   obtain ⟨h,h3⟩:=Aa h
   obtain ⟨h1,h2⟩:=Aa h
   cases beq_iff_eq.mp h1
   cases q:xs.getLast? with
   | none=>rw [q] at h5; cases h5
   | some z =>
    rw [q] at h5
    obtain ⟨h51,h52⟩:=Aa (show (ckE c e z && Ah z)=true from h5)
    have hxs:xs=xs.dropLast ++ [z]:=by
     obtain ⟨ys,e⟩:=List.getLast?_eq_some_iff.mp q
     rw [e,List.dropLast_concat]
    have hn2:∀ n ∈ e.need ++ b.need,NeedOk Z.p lv X n:=fun n hm=>hn n (aaa _ hm)
    obtain ⟨n1,n2⟩:=Am hn2
    rw [hxs]
    exact Nr C (hn _ (aac ..)) n1 h2 h3 h4 h51 h52 (of_decide_eq_true h6) (sndSs C b b' n2 h7) h8
 | .retM x e,st,hn,h=>by
  cases st with
  | Return v q =>
   cases v with
   | some e' =>
    intro pins s σ H D I g
    obtain ⟨m,g⟩:=Ph g
    exact Gi (snd e C.ct (tn:=tnM m) e' hn h).1 pins s σ H D I g
   | none=>exact nF h
  | _=>exact nF h
 | .retT es,st,hn,h=>by
  cases st with
  | Return v q =>
   cases v with
   | none=>exact nF h
   | some e' =>
    cases e' with
    | Tuple xs k2 p2 =>
     obtain ⟨h1,h2⟩:=Aa (show (ckEs c es xs && decide (es.len<=1000))=true from h)
     intro pins s σ H D I hq
     obtain ⟨m,τ,hq⟩:=Pd (of_decide_eq_true h2) hq
     exact Gi (Lf (Kz C es xs hn h1)) pins s σ H D I hq
    | _=>exact nF h
  | _=>exact nF h
 | .raise n es,st,hn,h=>by
  cases st with
  | Raise v w q =>
   cases v with
   | none=>exact nF h
   | some v =>
    cases v with
    | Call f xs ks cp =>
     cases f with
     | Name x np =>
      cases ks with
      | nil =>
       cases w with
       | none =>
        obtain ⟨h,hcm⟩:=Aa (show ((x==AD n) && glB c.sc x && AS x && ckEs c es xs && decide (0 < es.len) && decide (es.len<=1000) && c.rz && c.cm)=true from h)
        obtain ⟨h,hrz⟩:=Aa h
        obtain ⟨h,h6⟩:=Aa h
        obtain ⟨h,h5⟩:=Aa h
        obtain ⟨h,h4⟩:=Aa h
        obtain ⟨h,h3⟩:=Aa h
        obtain ⟨h1,h2⟩:=Aa h
        cases beq_iff_eq.mp h1
        exact Ky C (fun n m=>hn n (aaa _ m)) (hn _ (aac ..)) h2 h3 h4 (of_decide_eq_true h5) (of_decide_eq_true h6) hrz hcm
       | some _=>exact nF h
      | cons _ _=>exact nF h
     | _=>exact nF h
    | _=>exact nF h
  | _=>exact nF h
 | .try_ b n i h e,st,hn,hck=>by
  cases st with
  | Try b' hs e' fin q =>
   have hck:(match Iv hs fin with
    | some (x,y,h')=>(x==AD n) && glB c.sc x && AS x && (c.N[i]?==some y) && (c.sc.names.lookup y==some .local) && c.rz && c.cm && !h'.isEmpty && ckSs { c with rz:=false } b b' && ckSs { c with rz:=false,cm:=false } h h' && ckSs c e e'
    | none=>false)=true:=hck
   cases hh:Iv hs fin with
   | none=>rw [hh] at hck; cases hck
   | some w =>
    obtain ⟨x,y,h'⟩:=w
    rw [hh] at hck
    obtain ⟨p1,p2,rfl,rfl⟩:=Pi hh
    obtain ⟨hck,g10⟩:=Aa hck
    obtain ⟨hck,g9⟩:=Aa hck
    obtain ⟨hck,g8⟩:=Aa hck
    obtain ⟨hck,g7⟩:=Aa hck
    obtain ⟨hck,gcm⟩:=Aa hck
    obtain ⟨hck,g6⟩:=Aa hck
    obtain ⟨hck,g5⟩:=Aa hck
    obtain ⟨hck,g4⟩:=Aa hck
    obtain ⟨hck,g3⟩:=Aa hck
    obtain ⟨g1,g2⟩:=Aa hck
    cases beq_iff_eq.mp g1
    have nC:NeedOk Z.p lv X (.cl n):=hn _ (aac ..)
    have hn':∀ k ∈ b.need ++ (h.need ++ e.need),NeedOk Z.p lv X k:=fun k m=>hn k (aaa _ m)
    obtain ⟨n1,n2⟩:=Am hn'
    obtain ⟨n2,n3⟩:=Am n2
    cases h' with
    | nil=>cases g7
    | cons b0 hr =>
     refine Nq C (C.ct.calm gcm) nC (by rw [C.ct.N]; exact beq_iff_eq.mp g4) (beq_iff_eq.mp g5) (C.ct.gl g2) (Ba g3).1 (fun EX W pn hp mx=>?_) (fun a mx=>?_) (sndSs C e e' n3 g10)
     ·exact sndSs (Z:={ Z with EX:=EX,mx:=_ }) (c:={ c with rz:=false }) (X:=X.inT W pn) (E:=E) ⟨⟨C.ct.K,C.ct.N,C.ct.sc,C.ct.nd,C.ct.calm,C.ct.room,C.ct.un,C.ct.blt,C.ct.bt,hp,C.ct.fn,C.ct.kx,(fun z=>nomatch z)⟩,(fun z=>nomatch z),(fun z=>nomatch z),(fun z=>nomatch z),C.kind,C.stk,C.frm⟩ b b' n1 g8
     ·refine sndSs (Z:={ Z with EX:=EX0,mx:=_ }) (c:={ c with rz:=false,cm:=false }) (X:=X.inX a) (E:=E) ⟨⟨C.ct.K,C.ct.N,C.ct.sc,C.ct.nd,(fun z=>nomatch z),(fun z=>nomatch z),C.ct.un,C.ct.blt,C.ct.bt,?_,C.ct.fn,C.ct.kx,(fun z=>nomatch z)⟩,(fun z=>nomatch z),(fun z=>nomatch z),(fun z=>nomatch z),C.kind,C.stk,C.frm⟩ h (b0 :: hr) n2 g9
      intro _ _ _ _ _ _ _ hx
      obtain ⟨_,_,_,_,_,_,_,_,_,_,_,_,_,_,_,_,_,_,z⟩:=hx
      exact z.elim
  | _=>exact nF hck
theorem sndSs {Z:Zx} {c:CkC} {lv:Nat} {X:Cx} {E:XK} (C:Cs Z c lv X E):∀ (s:Ss) (st:List Stmt),(∀ n ∈ s.need,NeedOk Z.p lv X n)->ckSs c s st=true->PSs X st (lSs Z s)
 | .nil,st,hn,h=>by
  cases st with
  | nil=>exact fun pins s σ H D I h=>Jp pins s σ H D I (Ra h)
  | cons _ _=>exact nF h
 | .cons s r,st,hn,h=>by
  obtain ⟨n1,n2⟩:=Am hn
  have skip:(∃ x k,s=.dem x k)\/(∃ x,s=.dead x)->ckSs c r st=true->PSs X st (lSs Z (.cons s r)):=fun hs h=>PSs.mono (sndSs C r st n2 h) fun D σ H q=>Pb hs q
  by_cases hd:(∃ x k,s=.dem x k)\/(∃ x,s=.dead x)
  ·refine skip hd ?_
   rcases hd with ⟨x,k,rfl⟩ | ⟨x,rfl⟩
   ·exact h
   ·exact h
  ·cases st with
   | nil=>cases s <;> first | exact nF h | exact absurd (.inl ⟨_,_,rfl⟩) hd | exact absurd (.inr ⟨_,rfl⟩) hd
   | cons x xs =>
    have h:(ckS c s x && ckSs c r xs)=true:=by
     cases s <;> first | exact h | exact absurd (.inl ⟨_,_,rfl⟩) hd | exact absurd (.inr ⟨_,rfl⟩) hd
    obtain ⟨h1,h2⟩:=Aa h
    exact PSs.mono (Mq (SS C s x n1 h1) (sndSs C r xs n2 h2)) fun D σ H q=>Q9 q
end
structure Lw where
 p:Px
 P:Program
 w:World
 mg:Str->Option Value
 base:Heap
structure Lw.Ok (L:Lw):Prop where
 blt:∀ y ∈ Dn,L.mg y=none
 bt:∀ y ∈ (["bool", "dict", "ValueError"]:List Str),L.mg y=none
 kx:Kx L.p
noncomputable def Nt (L:Lw) (F:Fn):Prop:=∃ ps:List Str,ps.length=F.ar/\Has L.P L.w L.p.K L.mg L.base F.name F.lv ps (spF L.p F)
noncomputable def Si (L:Lw) (F:Fn):Prop:=∃ ps:List Str,ps.length=F.ar/\Has L.P L.w L.p.K L.mg L.base F.name F.lv ps (spM L.p F)
noncomputable def KA (L:Lw) (F:Fn):Prop:=∃ ps:List Str,ps.length=F.ar/\Has L.P L.w L.p.K L.mg L.base F.name F.lv ps (spN L.p F)
noncomputable def NeedG (L:Lw) (lv:Nat):Nd1->Prop
 | .fn F=>F.lv<=lv/\Nt L F
 | .fm F=>F.lv<=lv/\Si L F
 | .fc F=>F.lv<=lv/\KA L F
 | .cl n=>L.p.has n=true/\L.mg (AD n)=some (.ref (L.p.cl n))
 | .rs n=>L.p.has n=true/\nsIn L.p.K mainGlobals (AD n)=some (some (.ref (L.p.cl n)))/\excIn L.p.K (L.p.cl n) EE "ValueError.__new__" = true
 | .gl x d=>∃ u,L.mg x=some u/\RelV (dT d).val u
noncomputable def AllN (f:Nd1->Prop):List Nd1->Prop
 | []=>True
 | n :: r=>f n/\AllN f r
theorem AllN.mem {f:Nd1->Prop}:∀ {l:List Nd1},AllN f l->∀ n ∈ l,f n
 | [],_,n,h=>by cases h
 | m :: r,h,n,hn=>by
  rcases aal.mp hn with rfl | hn
  ·exact h.1
  ·exact AllN.mem h.2 n hn
noncomputable def Au (name:Str) (ar lv dep n:Nat) (body:Ss):Fn:=⟨name,ar,lv,dep,fun ds=>if ds.length=ar then run n body ds else .bad⟩
theorem Aq {x:Str} {ar lv dep n:Nat} {b:Ss} {ds:List D} (h:ds.length=ar):(Au x ar lv dep n b).den ds=run n b ds:=if_pos h
noncomputable def m0 (ar n:Nat):Ms:=aak ar .sh ++ aak (n - ar) .dead
noncomputable def τ0 (n:Nat) (ts:List T):Ft:=ts.map some ++ aak (n - ts.length) none
theorem vτ0 (N:List Str) (ts:List T):vτ (τ0 N.length ts)=L2.AB N (ts.map T.val):=by
 unfold vτ τ0 L2.AB
 rw [aap,aaT,aaT,abb,aab]
 rfl
theorem dτ0 (n:Nat) (ts:List T):dτ (τ0 n ts)=Pu.AB n (T.dats ts):=by
 unfold dτ τ0 Pu.AB
 rw [aap,aaT,T.dats_map,aaT,abb,aab]
 rfl
theorem EA {ar n i:Nat} {d:Md} (h:(m0 ar n)[i]?=some d):(i < ar/\d=.sh)\/(ar<=i/\d=.dead):=by
 unfold m0 at h
 by_cases hi:i < ar
 ·rw [aaF (by simpa using hi),aaU,if_pos hi] at h
  exact .inl ⟨hi,(Option.some.inj h).symm⟩
 ·rw [aaB (by simpa using hi),aaU] at h
  split at h
  ·exact .inr ⟨abf hi,(Option.some.inj h).symm⟩
  ·cases h
theorem FE {n i:Nat} {ts:List T} {t:T} (h:(τ0 n ts)[i]?=some (some t)):t ∈ ts:=by
 unfold τ0 at h
 have:=aae h
 rw [aaf] at this
 rcases this with z | z
 ·obtain ⟨u,hu,e⟩:=aaz.mp z
  cases e; exact hu
 ·have:=(abu.mp z).2; cases this
theorem GT {p:Px} {H:Hp}:∀ {ts:List T},T.Oks p H ts->∀ t ∈ ts,t.Ok p H
 | [],_,t,h=>by cases h
 | u :: r,h,t,ht=>by
  rcases aal.mp ht with rfl | ht
  ·exact h.1
  ·exact GT h.2 t ht
theorem sf0 {p:Px} {H:Hp} {ts:List T} {n ar:Nat} (ok:T.Oks p H ts) (hl:ts.length=ar) (hn:ar<=n):Sf p H (fun a=>a ∈ T.rests ts 0) (m0 ar n) (τ0 n ts) H:=by
 have noOw:∀ {i k:Nat},(m0 ar n)[i]? ≠ some (.ow k):=fun {i k} h=>by
  rcases EA h with ⟨_,z⟩ | ⟨_,z⟩ <;> cases z
 refine ⟨?_,fun d hd=>?_,Same.refl _,fun i t j h1 h2 h3=>GT ok t (FE h1),fun i t k a h1 h2=>absurd h2 noOw,?_,fun i t k h1 h2=>absurd h2 noOw,fun i j t u k d h0 h1 h2=>absurd h2 noOw,fun i j t u k k2 h1 h2=>absurd h2 noOw⟩
 ·unfold τ0 m0
  simp [hl]
 ·obtain ⟨i,hi⟩:=ab1 hd
  rcases EA hi with ⟨_,rfl⟩ | ⟨_,rfl⟩ <;> rfl
 ·rintro a ⟨i,t,j,h1,h2,h3,h4⟩
  obtain ⟨d,h5,rfl⟩:=AO h2
  right
  refine T.mem_rests.mpr ⟨t,FE h1,?_⟩
  rcases EA h5 with ⟨_,rfl⟩ | ⟨_,rfl⟩
  ·exact h4
  ·exact absurd h3 (by decide)
theorem NeedG.to {L:Lw} {lv:Nat} {n:Nd1} (h:NeedG L lv n) {X:Cx} (e1:X.prog=L.P) (e2:X.w=L.w) (e3:X.K=L.p.K) (e4:X.mg=L.mg) (e5:X.base=L.base):NeedOk L.p lv X n:=by
 cases n with
 | fn F =>
  refine ⟨h.1,?_⟩
  unfold Km
  rw [e1,e2,e3,e4,e5]
  exact h.2
 | fm F =>
  refine ⟨h.1,?_⟩
  unfold QU
  rw [e1,e2,e3,e4,e5]
  exact h.2
 | fc F =>
  refine ⟨h.1,?_⟩
  unfold QV
  rw [e1,e2,e3,e4,e5]
  exact h.2
 | cl n=>show _/\_; rw [e4]; exact h
 | rs n=>show _/\_/\_; rw [e3]; exact h
 | gl x d=>show ∃ u,_; rw [e4]; exact h
theorem L5 {L:Lw} (O:L.Ok) {x:Str} {st:Stmt} {N ps:List Str} {ar lv dep:Nat} {body:Ss} {f:Addr} {fd:FuncData} (D:Fun L.p.K x x st f fd) (S:FnScope N ps (Af st)) (har:ps.length=ar)
  (hck:ckSs ⟨N,Af st,true,true,true⟩ body (Aw st)=true) (hms:(msSs (aak N.length .dead) dep body (m0 ar N.length)).isSome=true) (hn:AllN (NeedG L lv) body.need) (hdp:dep < 1000):FnOk L.P L.w L.p.K L.mg L.base (CXe L.P L.w) (lv + 1) f fd ps (spF L.p (Au x ar (lv + 1) dep N.length body)):=by
 have hpl:ps.length<=N.length:=by have:=congrArg aa6 S.pre; rw [abn] at this; omega
 refine Fun.okX D S (fun vs H Q E h=>?_) fun f cdv A outer s H vs Q E hr hsp=>?_
 ·obtain ⟨ts,rfl,_,h,_⟩:=h
  rw [aab,h]; exact har.symm
 ·obtain ⟨ts,rfl,ok,hl,h⟩:=hsp
  have hl:ts.length=ar:=hl
  obtain ⟨r,hr'⟩:=aaA.mp hms
  let Z:Zx:=⟨L.p,H,fun a=>a ∈ T.rests ts 0,fun _=>E,aak N.length .dead,dep⟩
  have C:Cs Z ⟨N,Af st,true,true,true⟩ lv (Bm (CXe L.P L.w) L.P L.w L.p.K L.mg L.base N x (Af st) f cdv A outer s H E) E:=by
   refine ⟨⟨rfl,rfl,rfl,S.nd,fun _=>rfl,fun _=>hr,hr.units,O.blt,O.bt,?_,fun _ _=>rfl,O.kx,fun _=>trivial⟩,fun _=>rfl,fun _=>HP fun _ _ _ h=>h,fun _=>PassesOwn.leaving,S.kind,rfl,rfl⟩
   intro pins σ H' s' e s'' I h
   exact NU (fun _ _ _ h=>h) pins σ H' s' e s'' I h
  refine ⟨_,sndSs C body (Aw st) (fun n hnm=>(hn.mem n hnm).to rfl rfl rfl rfl rfl) hck,τ0 N.length ts,m0 ar N.length,r,(vτ0 N ts).symm,sf0 ok hl (by omega),hr',?_⟩
  have h:match (if (T.dats ts).length=ar then run N.length body (T.dats ts) else .bad) with
   | .ok d=>∀ t H',t.dat=d->Rs L.p (fun a=>a ∈ T.rests ts 0) H H' 0 dep t->Q t.val H'
   | .exc c=>L.p.has c=true->∀ H',Same H H'->E (.ref (L.p.cl c)) none H'
   | .bad=>False:=h
  rw [if_pos (by rw [T.dats_map,aab]; exact hl)] at h
  unfold run at h
  rw [dτ0]
  cases q:exs body (Pu.AB N.length (T.dats ts)) with
  | nxt δ =>
   rw [q] at h
   intro m' τ' H' e1 e2 S' P'
   exact h .non H' rfl (Rs.scal S'.same rfl)
  | ret d =>
   rw [q] at h
   show lRet Z _ d _ _
   unfold lRet
   rw [if_pos (show Z.dep < 1000 from hdp)]
   exact h
  | exc c δ =>
   rw [q] at h
   intro hc τ' H' e S' P'
   exact h hc H' S'.same
  | bad=>rw [q] at h; exact h.elim
theorem Pj {L:Lw} (O:L.Ok) {x:Str} {st:Stmt} {N ps:List Str} {ar lv dep:Nat} {body:Ss} (D:Df L.p.K L.mg x st ps) (S:FnScope N ps (Af st)) (har:ps.length=ar)
  (hck:ckSs ⟨N,Af st,true,true,true⟩ body (Aw st)=true) (hms:(msSs (aak N.length .dead) dep body (m0 ar N.length)).isSome=true) (hn:AllN (NeedG L lv) body.need) (hdp:dep < 1000):Nt L (Au x ar (lv + 1) dep N.length body):=by
 obtain ⟨f,fd,F,m,b⟩:=D
 exact ⟨ps,har,f,fd,L5 O F S har hck hms hn hdp,m,F.kp,b⟩
noncomputable def N3 (name:Str) (ar lv px n:Nat) (b:Ss):Fn:=⟨name,ar,lv,px + 1000,fun ds=>if ds.length=ar then run n b ds else .bad⟩
noncomputable def m0c (ar n px:Nat):Ms:=(m0 ar n).set px (.ow 1)
theorem GU {ar n px i:Nat} {d:Md} (h:(m0c ar n px)[i]?=some d):(i=px/\d=.ow 1)\/(i ≠ px/\(m0 ar n)[i]?=some d):=by
 unfold m0c at h
 by_cases c:px=i
 ·subst c
  left
  have hl:=(aaq.mp h).1
  rw [aaw] at hl
  rw [abx hl] at h
  exact ⟨rfl,(Option.some.inj h).symm⟩
 ·rw [aao c] at h
  exact .inr ⟨Ne.symm c,h⟩
theorem Iw {ar n px i k:Nat} (h:(m0c ar n px)[i]?=some (.ow k)):i=px/\k=1:=by
 rcases GU h with ⟨z,e⟩ | ⟨_,e⟩
 ·cases e; exact ⟨z,rfl⟩
 ·rcases EA e with ⟨_,z⟩ | ⟨_,z⟩ <;> cases z
theorem GE {n i:Nat} {ts:List T} {t:T} (h:(τ0 n ts)[i]?=some (some t)):ts[i]?=some t:=by
 unfold τ0 at h
 by_cases c:i < ts.length
 ·rw [aaF (by rw [aab]; exact c),aaj] at h
  cases q:ts[i]? with
  | none=>rw [q] at h; cases h
  | some u=>rw [q] at h; cases h; rfl
 ·rw [aaB (by rw [aab]; exact abk.mp c)] at h
  have:=(abu.mp (aae h)).2
  cases this
theorem Rl {n i:Nat} {ts:List T} {t:T} (h:ts[i]?=some t):(τ0 n ts)[i]?=some (some t):=by
 unfold τ0
 rw [aaF (by rw [aab]; exact (aaq.mp h).1),aaj,h]; rfl
theorem ST {p:Px} {H:Hp} {a:Addr} {us ts:List T} {n ar px:Nat} (oks:T.Oks p H ts) (hl:ts.length=ar) (hn:ar<=n) (hx:ts[px]?=some (.lst a us)) (hb:∀ (i:Nat) (u:T),i ≠ px->ts[i]?=some u->a ∉ u.rest 0) (hu:a ∉ T.rests us 0) (hh:∃ ws,H a=some (.lst ws)) :
  Sf p (fun b=>if b=a then none else H b) (fun a=>a ∈ T.rests ts 0) (m0c ar n px) (τ0 n ts) H:=by
 refine ⟨?_,fun d hd=>?_,fun b u e=>?_,fun i u j h1 h2 h3=>GT oks u (FE h1),fun i u k b h1 h2 h3=>?_,?_,fun i u k h1 h2=>?_,fun i j u v k d h0 h1 h2 h3 h4 h5 b h6 h7=>?_,fun i j u v k k2 h1 h2 h3 h4=>?_⟩
 ·unfold τ0 m0c m0
  simp [hl]
 ·obtain ⟨i,hi⟩:=ab1 hd
  rcases GU hi with ⟨_,rfl⟩ | ⟨_,e⟩
  ·rfl
  ·rcases EA e with ⟨_,rfl⟩ | ⟨_,rfl⟩ <;> rfl
 ·have e:(if b=a then none else H b)=some u:=e
  split at e
  ·cases e
  ·exact e
 ·obtain ⟨rfl,rfl⟩:=Iw h2
  have h1:=GE h1
  rw [hx] at h1; cases h1
  rw [Fd] at h3
  rw [aav.mp h3]
  exact ⟨if_pos rfl,hh⟩
 ·rintro b ⟨i,u,j,h1,h2,h3,h4⟩
  right
  exact T.mem_rests.mpr ⟨u,FE h1,T.rest_le u (aay _) h4⟩
 ·obtain ⟨rfl,rfl⟩:=Iw h2
  have h1:=GE h1
  rw [hx] at h1; cases h1
  refine ⟨by rw [Fd]; exact aaE.mpr ⟨abX,ab4⟩,fun b hb hb'=>?_⟩
  rw [Fd] at hb'
  rw [aav.mp hb'] at hb
  exact hu hb
 ·obtain ⟨rfl,rfl⟩:=Iw h2
  have h1:=GE h1
  rw [hx] at h1; cases h1
  rw [Fd] at h6
  rw [aav.mp h6] at h7
  exact hb j v (Ne.symm h0) (GE h3) (T.rest_le v (aay _) h7)
 ·rcases GU h4 with ⟨_,z⟩ | ⟨_,z⟩
  ·cases z
  ·rcases EA z with ⟨_,z⟩ | ⟨_,z⟩ <;> cases z
theorem Pk {L:Lw} (O:L.Ok) {x:Str} {st:Stmt} {N ps:List Str} {ar lv px:Nat} {body:Ss} (D:Df L.p.K L.mg x st ps) (S:FnScope N ps (Af st)) (har:ps.length=ar)
  (hck:ckSs ⟨N,Af st,true,true,true⟩ body (Aw st)=true) (hms:msSs (aak N.length .dead) (px + 1000) body (m0c ar N.length px)=some none) (hw:px + 1000 ∉ wrSs body) (hn:AllN (NeedG L lv) body.need):KA L (N3 x ar (lv + 1) px N.length body):=by
 have hpl:ps.length<=N.length:=by have:=congrArg aa6 S.pre; rw [abn] at this; omega
 have ex:px + 1000 - 1000=px:=acD ..
 refine ⟨ps,har,Df.has D S (fun vs H Q E h=>?_) fun f cdv A outer s H vs Q E hr hsp=>?_⟩
 ·obtain ⟨ts,a,us,rfl,_,h,_⟩:=h
  rw [aab,h]; exact har.symm
 ·obtain ⟨ts,a,us,rfl,oks,hl,hx,hb,hu,hh,bb,ds,hd,hq⟩:=hsp
  have hl:ts.length=ar:=hl
  have hx:ts[px + 1000 - 1000]?=some (.lst a us):=hx
  have hb:∀ (i:Nat) (u:T),i ≠ px + 1000 - 1000->ts[i]?=some u->a ∉ u.rest 0:=hb
  rw [ex] at hx hb
  let Z:Zx:=⟨L.p,fun b=>if b=a then none else H b,fun a=>a ∈ T.rests ts 0,fun _=>E,aak N.length .dead,px + 1000⟩
  have C:Cs Z ⟨N,Af st,true,true,true⟩ lv (Bm (CXe L.P L.w) L.P L.w L.p.K L.mg L.base N x (Af st) f cdv A outer s H E) E:=by
   refine ⟨⟨rfl,rfl,rfl,S.nd,fun _=>rfl,fun _=>hr,hr.units,O.blt,O.bt,?_,fun _ _=>rfl,O.kx,fun _=>trivial⟩,fun _=>rfl,fun _=>HP fun _ _ _ h=>h,fun _=>PassesOwn.leaving,S.kind,rfl,rfl⟩
   intro pins σ H' s' e s'' I h
   exact NU (fun _ _ _ h=>h) pins σ H' s' e s'' I h
  refine ⟨_,sndSs C body (Aw st) (fun n hnm=>(hn.mem n hnm).to rfl rfl rfl rfl rfl) hck,τ0 N.length ts,m0c ar N.length px,none,(vτ0 N ts).symm,ST oks hl (by omega) hx hb hu hh,hms,?_⟩
  have hd:(if (T.dats ts).length=ar then run N.length body (T.dats ts) else .bad)=.ok (.tup [.bl bb,.lst ds]):=hd
  rw [if_pos (by rw [T.dats_map,aab]; exact hl)] at hd
  unfold run at hd
  rw [dτ0]
  cases q:exs body (Pu.AB N.length (T.dats ts)) with
  | nxt δ=>intro m' τ' H' e1; cases e1
  | ret d =>
   rw [q] at hd
   cases hd
   show lRet Z _ _ _ _
   unfold lRet
   rw [if_neg (show ¬ px + 1000 < 1000 from abk.mpr (abK ..))]
   refine ⟨hw,fun b' us' a' H' e1 e2 e3 e4 e5=>?_⟩
   have e2:(vτ (τ0 N.length ts))[px + 1000 - 1000]?=some (some (.ref a')):=e2
   rw [ex,Bv (Rl hx)] at e2
   cases e2
   cases e1
   exact hq us' H' rfl e3 e4 fun c u hc hne=>e5 c u (by show (if c=a then none else H c)=some u; rw [if_neg hne]; exact hc)
  | exc c δ=>rw [q] at hd; cases hd
  | bad=>rw [q] at hd; cases hd
noncomputable def SU:Value->Bool
 | .type x=>x == "list"
 | _=>false
noncomputable def noL (K:Frag):Bool:=K.all fun e=>!SU e.2.cls
theorem L6 {a:Addr} {o:Obj}:∀ {K:Frag},K.lookup a=some o->(a,o) ∈ K
 | [],h=>by cases h
 | (b,u) :: r,h=>by
  by_cases e:a=b
  ·subst e
   rw [List.lookup_cons_self] at h
   cases h
   exact aac
  ·have:(a==b)=false:=by simpa using e
   rw [List.lookup_cons,this] at h
   exact aaa _ (L6 h)
theorem Rm {K:Frag} (h:noL K=true) {a:Addr} {o:Obj} (e:K.lookup a=some o):o.cls ≠ .type "list" := fun z=>by
 have:=aau.mp h (a,o) (L6 e)
 rw [z] at this
 cases this
noncomputable def spL (K:Frag):Sp:=fun vs H Q E=>∃ (a:Addr) (ns:List Int),vs=[.ref a]/\ns.length<=63/\SqL K H a (ns.map V.int)/\∀ H',Q (.bl true) H'
theorem Ix:∀ ns:List Int,(ns.map T.int).map T.val=ns.map V.int
 | []=>rfl
 | n :: r=>by rw [aa7,aa7,aa7,Ix r]; rfl
theorem Iy:∀ ns:List Int,T.dats (ns.map T.int)=ns.map D.int
 | []=>rfl
 | n :: r=>by rw [aa7,aa7,T.dats,Iy r]; rfl
theorem JP {p:Px} {H:Hp}:∀ ns:List Int,T.Oks p H (ns.map T.int)
 | []=>trivial
 | n :: r=>⟨trivial,JP r⟩
theorem Rn {P:Program} {w:World} {K:Frag} {mg:Str->Option Value} {base:Heap} {p:Px} {F:Fn} {f:Addr} {fd:FuncData} {ps:List Str} (hF:FnOk P w K mg base (CXe P w) F.lv f fd ps (spF p F)) (hp:p.K=K) (ha:F.ar=1) (hK:noL K=true)
  (hd:∀ ns:List Int,ns.length<=63->F.den [.lst (ns.map .int)]=.ok (.bl true)):FnOk P w K mg base (CXe P w) F.lv f fd ps (spL K):=by
 refine hF.imp fun vs H Q E h=>?_
 obtain ⟨a,ns,rfl,hl,hS,q⟩:=h
 have hR:Rd H a (.lst (ns.map V.int)):=by
  rcases hS with h | ⟨o,its,n,e,c,_⟩
  ·exact h
  ·exact absurd c (Rm hK e)
 refine ⟨[.lst a (ns.map T.int)],rfl,⟨⟨by rw [Ix]; exact hR,JP ns⟩,trivial⟩,ha.symm,?_⟩
 have e:T.dats [T.lst a (ns.map T.int)]=[.lst (ns.map .int)]:=by
  show [D.lst (T.dats (ns.map T.int))]=_
  rw [Iy]
 rw [e,hd ns hl]
 intro t H' ht R
 cases t <;> first | cases ht | skip
 exact q H'
theorem Sj {l:PySem.W.OpenLaw} {k:Nat} {q:Program} {loose:List Str} {XP:(Str->Option Value)->Heap->Prop} {YP:World->Heap->Prop} {d:DefRec} {K:Params->PySem.W.Frag} {x:Str} (hn:l.most=some 63) (hdf:d.params.defaults=[]) (hr:Room k callerA)
  (hY:∀ (w:World) (h:Heap),YP w h->(K w.params).In h)
  (F:∀ (w:World) (mg:Str->Option Value) (fa:Addr) (h:Heap),(K w.params).In h->h.Ns mainGlobals mg->mg d.name=some (.ref fa) ->
   ∃ fd:FuncData,(∀ (s:Shared) (u:Value),BindsTo s fd ⟨[u],[]⟩ [(x,u)])/\∀ base:Heap,(K w.params).In base->base.Ns mainGlobals mg->FnOk l.prog w (K w.params) mg base (CXe l.prog w) k fa fd [x] (spL (K w.params))) :
  PySem.W.WalkO q loose XP YP l.row.toRowW d [] (fun f vs=>PySem.call f vs) :=
 L2.Om (n:=63) (k:=k) (x:=x) (CX:=fun w=>CXe l.prog w) (sp:=fun w=>spL (K w.params)) hn (by decide) hdf hr hY F (fun _ _ a ns hl _ hS=>⟨a,ns,rfl,hl,hS,fun _=>rfl⟩) fun w H s e s' h=>by
  obtain ⟨_,_,_,_,_,_,_,_,_,_,_,_,_,_,_,_,_,_,z⟩:=h
  exact z
noncomputable def Az (K:Frag) (x:Str) (st:Stmt):Prop:=∃ (f:Addr) (oc:Value) (od an:Option Addr) (sl:Array (Option Value)) (kV dc pm cd ct:Value),nsIn K mainGlobals x=some (some (.ref f))/\K.lookup f=some ⟨oc,od,.func (fnOf x x (BJ st) (Aw st) (Af st) .none kV dc pm an cd ct),sl⟩/\codeIn K cd x=true/\keepIn K (.ref f)=true
theorem AI {K:Frag} {x:Str} {st:Stmt} {f:Addr} {oc:Value} {od an:Option Addr} {sl:Array (Option Value)} {kV dc pm cd ct:Value} (a:nsIn K mainGlobals x=some (some (.ref f))) (l:K.lookup f=some ⟨oc,od,.func (fnOf x x (BJ st) (Aw st) (Af st) .none kV dc pm an cd ct),sl⟩) (c:codeIn K cd x=true) (k:keepIn K (.ref f)=true):Az K x st:=⟨f,oc,od,an,sl,kV,dc,pm,cd,ct,a,l,c,k⟩
theorem Ao {K:Frag} {h:Heap} {mg:Str->Option Value} {x:Str} {st:Stmt} {ps:List Str} (X:K.In h) (G:h.Ns mainGlobals mg) (t:Az K x st) (hb:∀ (kV doc pm:Value) (an:Option Addr) (cdv ct:Value) (us:List Value),us.length=ps.length->bindArgs (fnOf x x (BJ st) (Aw st) (Af st) .none kV doc pm an cdv ct) ⟨us,[]⟩=pure (ps.zip us)):Df K mg x st ps:=by
 obtain ⟨f,oc,od,an,sl,kV,dc,pm,cd,ct,a,l,c,k⟩:=t
 exact R4 X G a l c k hb
theorem ba1 {fd:FuncData} {a0:Str} (h:∀ u0:Value,bindArgs fd ⟨[u0],[]⟩=pure [(a0,u0)]):∀ us:List Value,us.length=([a0]:List Str).length->bindArgs fd ⟨us,[]⟩=pure (([a0]:List Str).zip us)
 | [u0],_=>h u0
theorem ba2 {fd:FuncData} {a0 a1:Str} (h:∀ u0 u1:Value,bindArgs fd ⟨[u0,u1],[]⟩=pure [(a0,u0),(a1,u1)]):∀ us:List Value,us.length=([a0,a1]:List Str).length->bindArgs fd ⟨us,[]⟩=pure (([a0,a1]:List Str).zip us)
 | [u0,u1],_=>h u0 u1
theorem ba3 {fd:FuncData} {a0 a1 a2:Str} (h:∀ u0 u1 u2:Value,bindArgs fd ⟨[u0,u1,u2],[]⟩=pure [(a0,u0),(a1,u1),(a2,u2)]):∀ us:List Value,us.length=([a0,a1,a2]:List Str).length->bindArgs fd ⟨us,[]⟩=pure (([a0,a1,a2]:List Str).zip us)
 | [u0,u1,u2],_=>h u0 u1 u2
theorem ba4 {fd:FuncData} {a0 a1 a2 a3:Str} (h:∀ u0 u1 u2 u3:Value,bindArgs fd ⟨[u0,u1,u2,u3],[]⟩=pure [(a0,u0),(a1,u1),(a2,u2),(a3,u3)]):∀ us:List Value,us.length=([a0,a1,a2,a3]:List Str).length->bindArgs fd ⟨us,[]⟩=pure (([a0,a1,a2,a3]:List Str).zip us)
 | [u0,u1,u2,u3],_=>h u0 u1 u2 u3
theorem ba5 {fd:FuncData} {a0 a1 a2 a3 a4:Str} (h:∀ u0 u1 u2 u3 u4:Value,bindArgs fd ⟨[u0,u1,u2,u3,u4],[]⟩=pure [(a0,u0),(a1,u1),(a2,u2),(a3,u3),(a4,u4)]):∀ us:List Value,us.length=([a0,a1,a2,a3,a4]:List Str).length->bindArgs fd ⟨us,[]⟩=pure (([a0,a1,a2,a3,a4]:List Str).zip us)
 | [u0,u1,u2,u3,u4],_=>h u0 u1 u2 u3 u4
structure ClsF (K:Frag) (x:Str) (C:Addr):Prop where
 q:nsIn K mainGlobals x=some (some (.ref C))
 x:XCls K C
 t:∀ T ∈ (["int", "bool", "str", "list", "tuple", "dict"]:List String),kitOne K (.ref C) (.type T)=some false
 v:kitOne K (.ref C) (.type "ValueError")=some true
theorem Iz {K:Frag} {x:Str} {C:Addr} {cd:ClassData} (q:nsIn K mainGlobals x=some (some (.ref C)))
  (ga:findIn K (.ref C) "__getattribute__" = some (some (.builtin "BaseException.__getattribute__"))) (gn:findIn K (.ref C) "__getattr__" = some none) (sb:subIn K (.ref C) (.type "BaseException")=some true)
  (cl:findIn K (.ref C) "__class__" = some (some (.builtin "object.__class__"))) (mo:mroIn K C (.type "object")=some true) (ty:typeIn K (.ref C)=some (.type "type")) (cc:clsIn K C=some cd)
  (t1:kitOne K (.ref C) (.type "int")=some false) (t2:kitOne K (.ref C) (.type "bool")=some false) (t3:kitOne K (.ref C) (.type "str")=some false) (t4:kitOne K (.ref C) (.type "list")=some false) (t5:kitOne K (.ref C) (.type "tuple")=some false) (t6:kitOne K (.ref C) (.type "dict")=some false)
  (v:kitOne K (.ref C) (.type "ValueError")=some true):ClsF K x C:=by
 refine ⟨q,⟨ga,gn,sb,cl,mo,ty,by rw [cc]; rfl⟩,fun T hT=>?_,v⟩
 simp only [aal,abX,or_false] at hT
 rcases hT with rfl | rfl | rfl | rfl | rfl | rfl <;> assumption
noncomputable abbrev Cs':=List (Nat × Addr)
noncomputable def clA:Cs'->Nat->Addr
 | [],_=>0
 | (c,a) :: r,n=>if n=c then a else clA r n
noncomputable def Bw:Cs'->Nat->Bool
 | [],_=>false
 | (c,_) :: r,n=>n==c || Bw r n
noncomputable def AllC {α:Type} (f:α->Prop):List α->Prop
 | []=>True
 | q :: r=>f q/\AllC f r
theorem AllC.mem {α:Type} {f:α->Prop}:∀ {l:List α},AllC f l->∀ n ∈ l,f n
 | [],_,n,h=>by cases h
 | m :: r,h,n,hn=>by
  rcases aal.mp hn with rfl | hn
  ·exact h.1
  ·exact AllC.mem h.2 n hn
theorem C5:∀ {cs:Cs'} {n:Nat},Bw cs n=true->(n,clA cs n) ∈ cs
 | [],n,h=>by cases h
 | (c,a) :: r,n,h=>by
  unfold Bw at h
  unfold clA
  by_cases e:n=c
  ·subst e; rw [if_pos rfl]; exact aac
  ·rw [if_neg e]
   have:(n==c)=false:=by simpa using e
   rw [this,Bool.false_or] at h
   exact aaa _ (C5 h)
theorem Sl {K:Frag} {cs:Cs'} (h9:Bw cs 999=false) (h:AllC (fun q=>ClsF K (AD q.1) q.2) cs) (y:AllC (fun q=>AllC (fun r=>kitOne K (.ref q.2) (.ref r.2)=some (isa q.1 r.1)) cs) cs):Kx ⟨K,clA cs,Bw cs⟩ :=
 ⟨h9,fun c hc=>(h.mem _ (C5 hc)).x,fun c hc=>(h.mem _ (C5 hc)).t,fun c hc=>(h.mem _ (C5 hc)).v,fun c d hc hd=>(y.mem _ (C5 hc)).mem _ (C5 hd)⟩
theorem Sm {K:Frag} {P:Program} {w:World} {mg:Str->Option Value} {base h:Heap} {cs:Cs'} (h9:Bw cs 999=false) (X:K.In h) (G:h.Ns mainGlobals mg) (nb:AllC (fun y=>nsIn K mainGlobals y=some none) (Dn ++ (["bool", "dict", "ValueError"]:List Str))) (hc:AllC (fun q=>ClsF K (AD q.1) q.2) cs) (y:AllC (fun q=>AllC (fun r=>kitOne K (.ref q.2) (.ref r.2)=some (isa q.1 r.1)) cs) cs):Lw.Ok ⟨⟨K,clA cs,Bw cs⟩,P,w,mg,base⟩ :=
 ⟨fun z hz=>mg_none_of X G (nb.mem z (aam _ hz)),fun z hz=>mg_none_of X G (nb.mem z (aag _ hz)),Sl h9 hc y⟩
noncomputable def dfB (N:List Str) (ps:List Str) (st:Stmt) (b:Ss) (dep:Nat):Bool :=
 decide ((Af st).kind=.function) && !(Af st).isCoroutine && !(Af st).isGenerator && decide N.Nodup && decide (N.take ps.length=ps) && ps.all (fun x=>decide ((Af st).names.lookup x=some .local\/(Af st).names.lookup x=some .cell)) && (Af st).names.all (fun y=>decide (y.2 ≠ .free)) && ckSs ⟨N,Af st,true,true,true⟩ b (Aw st) && (msSs (aak N.length .dead) dep b (m0 ps.length N.length)).isSome && decide (dep < 1000)
theorem Dq {N ps:List Str} {st:Stmt} {b:Ss} {dep:Nat} (h:dfB N ps st b dep=true):FnScope N ps (Af st)/\ckSs ⟨N,Af st,true,true,true⟩ b (Aw st)=true/\(msSs (aak N.length .dead) dep b (m0 ps.length N.length)).isSome=true/\dep < 1000:=by
 unfold dfB at h
 simp only [aah,decide_eq_true_eq,aau,abU] at h
 obtain ⟨⟨⟨⟨⟨⟨⟨⟨⟨h1,h2⟩,h3⟩,h4⟩,h5⟩,h6⟩,h7⟩,h8⟩,h9⟩,h10⟩:=h
 exact ⟨⟨h1,h2,h3,h4,h5,h6,h7⟩,h8,h9,h10⟩
theorem Ar {L:Lw} (O:L.Ok) {x:Str} {st:Stmt} {N ps:List Str} {lv dep:Nat} {b:Ss} (D:Df L.p.K L.mg x st ps) (h:dfB N ps st b dep=true) (hn:AllN (NeedG L lv) b.need):Nt L (Au x ps.length (lv + 1) dep N.length b) :=
 Pj O D (Dq h).1 rfl (Dq h).2.1 (Dq h).2.2.1 hn (Dq h).2.2.2
noncomputable def SV:Option (Option Ms)->Bool
 | some none=>true
 | _=>false
noncomputable def dfC (N:List Str) (ps:List Str) (st:Stmt) (px:Nat) (b:Ss):Bool :=
 decide ((Af st).kind=.function) && !(Af st).isCoroutine && !(Af st).isGenerator && decide N.Nodup && decide (N.take ps.length=ps) && ps.all (fun x=>decide ((Af st).names.lookup x=some .local\/(Af st).names.lookup x=some .cell)) && (Af st).names.all (fun y=>decide (y.2 ≠ .free)) && ckSs ⟨N,Af st,true,true,true⟩ b (Aw st) && SV (msSs (aak N.length .dead) (px + 1000) b (m0c ps.length N.length px)) && !((wrSs b).contains (px + 1000))
theorem Pl {L:Lw} (O:L.Ok) {x:Str} {st:Stmt} {N ps:List Str} {lv px:Nat} {b:Ss} (D:Df L.p.K L.mg x st ps) (h:dfC N ps st px b=true) (hn:AllN (NeedG L lv) b.need):KA L (N3 x ps.length (lv + 1) px N.length b):=by
 unfold dfC at h
 simp only [aah,decide_eq_true_eq,aau,abU] at h
 obtain ⟨⟨⟨⟨⟨⟨⟨⟨⟨h1,h2⟩,h3⟩,h4⟩,h5⟩,h6⟩,h7⟩,h8⟩,h9⟩,h10⟩:=h
 refine Pk O D ⟨h1,h2,h3,h4,h5,h6,h7⟩ rfl h8 ?_ ?_ hn
 ·revert h9
  cases msSs (aak N.length .dead) (px + 1000) b (m0c ps.length N.length px) with
  | none=>intro h; cases h
  | some o=>cases o with
   | none=>intro _; rfl
   | some _=>intro h; cases h
 ·intro z
  have:=List.contains_iff_mem.mpr z
  rw [h10] at this; cases this
theorem Pm {l:PySem.W.OpenLaw} {w:World} {K:Frag} {h:Heap} {mg:Str->Option Value} {fa:Addr} {cs:Cs'} {x:Str} {st:Stmt} {N:List Str} {lv dep:Nat} {b:Ss} (X:K.In h) (G:h.Ns mainGlobals mg) (hfa:mg "law" = some (.ref fa)) (t:Az K "law" st) (hck:dfB N [x] st b dep=true)
  (hb:∀ (kV dc pm:Value) (an:Option Addr) (cd ct:Value) (s:Shared) (v:Value),BindsTo s (fnOf "law" "law" (BJ st) (Aw st) (Af st) .none kV dc pm an cd ct) ⟨[v],[]⟩ [(x,v)])
  (O:∀ base:Heap,Lw.Ok ⟨⟨K,clA cs,Bw cs⟩,l.prog,w,mg,base⟩) (hn:∀ base:Heap,AllN (NeedG ⟨⟨K,clA cs,Bw cs⟩,l.prog,w,mg,base⟩ lv) b.need) (nl:noL K=true)
  (hden:∀ ns:List Int,ns.length<=63->(Au "law" 1 (lv + 1) dep N.length b).den [.lst (ns.map .int)]=.ok (.bl true)) :
  ∃ fd:FuncData,(∀ (s:Shared) (v:Value),BindsTo s fd ⟨[v],[]⟩ [(x,v)])/\∀ base:Heap,K.In base->base.Ns mainGlobals mg->FnOk l.prog w K mg base (CXe l.prog w) (lv + 1) fa fd [x] (spL K):=by
 obtain ⟨f,oc,od,an,sl,kV,dc,pm,cd,ct,a,l',c,k⟩:=t
 have e:=hfa.symm.trans (mg_of X G a)
 cases e
 refine ⟨_,hb kV dc pm an cd ct,fun base _ _=>?_⟩
 exact Rn (F:=Au "law" 1 (lv + 1) dep N.length b) (L5 (L:=⟨⟨K,clA cs,Bw cs⟩,l.prog,w,mg,base⟩) (O base) (Lm (st:=st) l' c k) (Dq hck).1 rfl (Dq hck).2.1 (Dq hck).2.2.1 (hn base) (Dq hck).2.2.2) rfl rfl nl hden
end Pu
end
namespace Pu
open PySem PySem.Spec PyProof.Rows PySem.W L2
noncomputable def GF:Ss :=
 (.cons (.ret (.bo true (.cons (.isi (.nm 0) .int) (.cons (.not (.isi (.nm 0) .bool)) .nil))))
 .nil)
noncomputable def Dh:Fn:=Au "is_whole" 1 1 9 1 GF
noncomputable def BR:Ss :=
 (.cons (.ret (.bo true (.cons (.call Dh (.cons (.nm 0) .nil)) (.cons (.chain .le .le (.nm 1) (.nm 0) (.nm 2)) .nil))))
 .nil)
noncomputable def AZ:Fn:=Au "is_between" 3 2 9 3 BR
theorem ET (ds:List D) (h:ds.length=3):AZ.den ds=run 3 BR ds:=Aq h
noncomputable def Br:Ss :=
 (.cons (.iff (.bo false (.cons (.not (.isi (.nm 1) .tuple)) (.cons (.cmp .ne (.bi .len (.cons (.nm 1) .nil)) (.cI 2)) .nil)))
 (.cons (.ret (.cB false))
 .nil)
 .nil)
 (.cons (.iff (.not (.call AZ (.cons (.ix (.nm 1) (.cI 0)) (.cons (.cI 0) (.cons (.bin .sub (.bi .len (.cons (.nm 0) .nil)) (.cI 1)) .nil)))))
 (.cons (.ret (.cB false))
 .nil)
 .nil)
 (.cons (.ret (.call AZ (.cons (.ix (.nm 1) (.cI 1)) (.cons (.cI 0) (.cons (.bin .sub (.ix (.nm 0) (.ix (.nm 1) (.cI 0))) (.cI 1)) .nil)))))
 .nil)))
noncomputable def BS:Fn:=Au "is_counted_node" 2 3 9 2 Br
theorem Fg (ds:List D) (h:ds.length=2):BS.den ds=run 2 Br ds:=Aq h
noncomputable def BT:Ss :=
 (.cons (.iff (.not (.call AZ (.cons (.nm 1) (.cons (.cI 0) (.cons (.bin .sub (.ix (.nm 0) (.cI 0)) (.cI 1)) .nil)))))
 (.cons (.raise 3 (.cons (.cS "this is no page of the shape") .nil))
 .nil)
 .nil)
 .nil)
noncomputable def Cf:Fn:=Au "check_page" 2 3 9 2 BT
theorem EU (ds:List D) (h:ds.length=2):Cf.den ds=run 2 BT ds:=Aq h
noncomputable def Cv:Ss :=
 (.cons (.ret (.call AZ (.cons (.nm 0) (.cons (.cI 0) (.cons (.bin .pow (.cI 10) (.cI 18)) .nil)))))
 .nil)
noncomputable def BC:Fn:=Au "is_room" 1 3 9 1 Cv
theorem EK (ds:List D) (h:ds.length=1):BC.den ds=run 1 Cv ds:=Aq h
noncomputable def Cg:Ss :=
 (.cons (.ret (.comp0 1 [0,1] (.nm 0) (.r3 (.cI 0) (.bi .len (.cons (.nm 0) .nil)) (.nm 1)) (.bi .maxL (.cons (.slc (.nm 1) (.nm 0) (.bin .add (.nm 0) (.nm 2))) .nil))))
 .nil)
noncomputable def Bx:Fn:=Au "level_above" 2 1 9 2 Cg
theorem GV (ds:List D) (h:ds.length=2):Bx.den ds=run 2 Cg ds:=Aq h
theorem GW:Bx.dep=9:=rfl
noncomputable def EL:Ss :=
 (.cons (.mut 2 [] .append (.cons (.nm 3) .nil))
 (.cons (.asg 3 2 (.callB Bx (.cons (.nm 3) (.cons (.nm 1) .nil))))
 .nil))
noncomputable def FF:Ss :=
 (.cons (.asg 2 2 (.lst .nil))
 (.cons (.asg 3 1 (.bi .list (.cons (.nm 0) .nil)))
 (.cons (.wh (.cmp .gt (.bi .len (.cons (.nm 3) .nil)) (.cI 1))
 EL)
 (.cons (.iff (.cmp .ne (.nm 3) (.lst .nil))
 (.cons (.mut 2 [] .append (.cons (.nm 3) .nil))
 .nil)
 .nil)
 (.cons (.ret (.nm 2))
 .nil)))))
noncomputable def D3:Fn:=Au "built" 2 2 2 4 FF
theorem Nu (ds:List D) (h:ds.length=2):D3.den ds=run 4 FF ds:=Aq h
theorem Nv:D3.dep=2:=rfl
noncomputable def Di:Ss :=
 (.cons (.ret (.comp0 1 [] (.nm 0) (.seq (.nm 0)) (.bi .len (.cons (.nm 0) .nil))))
 .nil)
noncomputable def D4:Fn:=Au "counts_of" 1 1 9 1 Di
theorem IA (ds:List D) (h:ds.length=1):D4.den ds=run 1 Di ds:=Aq h
noncomputable def CK:Ss :=
 (.cons (.iff (.cmp .eq (.nm 0) (.lst .nil))
 (.cons (.ret (.lst .nil))
 .nil)
 .nil)
 (.cons (.ret (.bi .list (.cons (.ix (.nm 0) (.cI 0)) .nil)))
 .nil))
noncomputable def Bo:Fn:=Au "rooms_of" 1 1 1 1 CK
theorem FW (ds:List D) (h:ds.length=1):Bo.den ds=run 1 CK ds:=Aq h
noncomputable def CL:Ss :=
 (.cons (.ret (.tup (.cons (.bi .len (.cons (.call Bo (.cons (.nm 0) .nil)) .nil)) (.cons (.nm 1) .nil))))
 .nil)
noncomputable def Bp:Fn:=Au "shape_of" 2 2 0 2 CL
theorem FX (ds:List D) (h:ds.length=2):Bp.den ds=run 2 CL ds:=Aq h
noncomputable def DH:Ss :=
 (.cons (.ret (.call BS (.cons (.call D4 (.cons (.nm 0) .nil)) (.cons (.nm 1) .nil))))
 .nil)
noncomputable def Em:Fn:=Au "has_node" 2 4 9 2 DH
theorem Jb (ds:List D) (h:ds.length=2):Em.den ds=run 2 DH ds:=Aq h
noncomputable def BE:Ss :=
 (.cons (.iff (.not (.call Em (.cons (.nm 0) (.cons (.nm 1) .nil))))
 (.cons (.raise 2 (.cons (.cS "this is no node of the tree") .nil))
 .nil)
 .nil)
 .nil)
noncomputable def B4:Fn:=Au "check_has_node" 2 5 9 2 BE
theorem FM (ds:List D) (h:ds.length=2):B4.den ds=run 2 BE ds:=Aq h
noncomputable def FG:Ss :=
 (.cons (.expr (.call B4 (.cons (.nm 0) (.cons (.nm 1) .nil))))
 (.cons (.ret (.ix (.ix (.nm 0) (.ix (.nm 1) (.cI 0))) (.ix (.nm 1) (.cI 1))))
 .nil))
noncomputable def D5:Fn:=Au "tells" 2 6 0 2 FG
theorem Nw (ds:List D) (h:ds.length=2):D5.den ds=run 2 FG ds:=Aq h
noncomputable def Dj:Ss :=
 (.cons (.ret (.comp0 1 [0] (.nm 0) (.seq (.nm 1)) (.tup (.cons (.ix (.nm 0) (.cI 0)) (.cons (.ix (.nm 0) (.cI 1)) (.cons (.call D5 (.cons (.nm 1) (.cons (.nm 0) .nil))) .nil))))))
 .nil)
noncomputable def BU:Fn:=Au "with_told" 2 7 1 2 Dj
theorem IB (ds:List D) (h:ds.length=2):BU.den ds=run 2 Dj ds:=Aq h
theorem IC:BU.dep=1:=rfl
noncomputable def Ch:Ss :=
 (.cons (.iff (.cmp .ne (.bi .len (.cons (.call Bo (.cons (.nm 0) .nil)) .nil)) (.bi .len (.cons (.call Bo (.cons (.nm 1) .nil)) .nil)))
 (.cons (.raise 7 (.cons (.cS "the trees have unlike numbers of pages") .nil))
 .nil)
 .nil)
 .nil)
noncomputable def C8:Fn:=Au "check_alike" 2 2 9 2 Ch
theorem GX (ds:List D) (h:ds.length=2):C8.den ds=run 2 Ch ds:=Aq h
noncomputable def Dk:Ss :=
 (.cons (.mut 2 [] .extend (.cons (.comp1 2 [3,1] (.tp [0,1]) (.en (.nm 4)) (.cmp .ne (.nm 1) (.ix (.ix (.nm 3) (.nm 2)) (.nm 0))) (.tup (.cons (.nm 2) (.cons (.nm 0) .nil)))) .nil))
 .nil)
noncomputable def EM:Ss :=
 (.cons (.expr (.call C8 (.cons (.nm 0) (.cons (.nm 1) .nil))))
 (.cons (.asg 2 2 (.lst .nil))
 (.cons (.dem 2 1)
 (.cons (.for_ (.tp [3,4]) (.en (.nm 0))
 Dk)
 (.cons (.ret (.nm 2))
 .nil)))))
noncomputable def Dr:Fn:=Au "unlike" 2 3 1 5 EM
theorem L7 (ds:List D) (h:ds.length=2):Dr.den ds=run 5 EM ds:=Aq h
theorem L8:Dr.dep=1:=rfl
noncomputable def Cw:Ss :=
 (.cons (.expr (.call Cf (.cons (.call Bp (.cons (.nm 0) (.cons (.nm 1) .nil))) (.cons (.nm 2) .nil))))
 (.cons (.iff (.not (.call BC (.cons (.nm 3) .nil)))
 (.cons (.raise 6 (.cons (.cS "this is no room") .nil))
 .nil)
 .nil)
 (.cons (.asg 4 1 (.call Bo (.cons (.nm 0) .nil)))
 (.cons (.set 4 [] (.nm 2) (.nm 3))
 (.cons (.asg 5 2 (.callB D3 (.cons (.nm 4) (.cons (.nm 1) .nil))))
 (.cons (.retT (.cons (.nm 5) (.cons (.callB BU (.cons (.nm 5) (.cons (.callB Dr (.cons (.nm 0) (.cons (.nm 5) .nil))) .nil))) .nil)))
 .nil))))))
noncomputable def AE:Fn:=Au "changed" 4 8 2 6 Cw
theorem EN (ds:List D) (h:ds.length=4):AE.den ds=run 6 Cw ds:=Aq h
theorem KB:AE.dep=2:=rfl
noncomputable def Dy:Ss :=
 (.cons (.asg 2 0 (.bin .mod (.bin .add (.bin .add (.bin .mul (.nm 2) (.cI 48271)) (.bin .mod (.nm 3) (.cI 1000003))) (.cI 1)) (.cI 2147483647)))
 .nil)
noncomputable def CM:Ss :=
 (.cons (.iff (.cmp .lt (.nm 1) (.bi .len (.cons (.nm 0) .nil)))
 (.cons (.ret (.ix (.nm 0) (.nm 1)))
 .nil)
 .nil)
 (.cons (.asg 2 0 (.cI 5))
 (.cons (.for_ (.nm 3) (.seq (.slc (.nm 0) .cN (.cI 63)))
 Dy)
 (.cons (.ret (.bin .mod (.bin .add (.nm 2) (.bin .mul (.cI 7919) (.nm 1))) (.cI 1000003)))
 .nil))))
noncomputable def B9:Fn:=Au "_law_cell" 2 1 0 4 CM
theorem Jc (ds:List D) (h:ds.length=2):B9.den ds=run 4 CM ds:=Aq h
noncomputable def Ci:Ss :=
 (.cons (.asg 2 0 (.bin .mod (.bin .pow (.bin .add (.bin .add (.bin .mod (.nm 0) (.cI 2147483629)) (.bin .mul (.cI 1013) (.nm 1))) (.cI 7919)) (.cI 3)) (.cI 2147483647)))
 (.cons (.asg 3 0 (.bin .mod (.bin .add (.bin .add (.bin .mul (.nm 2) (.cI 40699)) (.bin .mul (.bin .mul (.cI 3793) (.nm 1)) (.nm 1))) (.cI 11)) (.cI 2147483399)))
 (.cons (.ret (.bin .fdiv (.nm 3) (.cI 101)))
 .nil)))
noncomputable def BZ:Fn:=Au "_law_mix" 2 1 1 4 Ci
theorem GY (ds:List D) (h:ds.length=2):BZ.den ds=run 4 Ci ds:=Aq h
noncomputable def AA:Ss :=
 (.cons (.iff (.cmp .lt (.nm 3) (.bin .pow (.cI 10) (.cI 18)))
 (.cons (.mut 5 [] .append (.cons (.bin .mod (.call BZ (.cons (.nm 3) (.cons (.nm 6) .nil))) (.ix (.nm 2) (.nm 6))) .nil))
 .nil)
 (.cons (.iff (.cmp .gt (.nm 4) (.cI 0))
 (.cons (.mut 5 [] .append (.cons (.bin .mod (.nm 4) (.ix (.nm 2) (.nm 6))) .nil))
 (.cons (.asg 4 0 (.bin .fdiv (.nm 4) (.ix (.nm 2) (.nm 6))))
 .nil))
 (.cons (.asg 7 0 (.call B9 (.cons (.nm 0) (.cons (.bin .mod (.bin .add (.bin .add (.nm 1) (.cI 1)) (.nm 6)) (.cI 63)) .nil))))
 (.cons (.mut 5 [] .append (.cons (.bin .mod (.call BZ (.cons (.nm 7) (.cons (.nm 6) .nil))) (.ix (.nm 2) (.nm 6))) .nil))
 .nil)))
 .nil))
 .nil)
noncomputable def Cj:Ss :=
 (.cons (.asg 3 0 (.call B9 (.cons (.nm 0) (.cons (.nm 1) .nil))))
 (.cons (.asg 4 0 (.nm 3))
 (.cons (.asg 5 2 (.lst .nil))
 (.cons (.for_ (.nm 6) (.r1 (.bi .len (.cons (.nm 2) .nil)))
 AA)
 (.cons (.ret (.nm 5))
 .nil)))))
noncomputable def AK:Fn:=Au "_law_row" 3 2 2 8 Cj
theorem GZ (ds:List D) (h:ds.length=3):AK.den ds=run 8 Cj ds:=Aq h
noncomputable def As:Ss :=
 (.cons (.asg 7 0 (.ixL (.nm 3) (.bin .add (.cI 4) (.nm 6))))
 (.cons (.iff (.cmp .eq (.ixL (.nm 3) (.cI 2)) (.cI 1))
 (.cons (.asg 7 0 (.bin .mod (.nm 7) (.cI 3)))
 .nil)
 .nil)
 (.cons (.iff (.cmp .eq (.ixL (.nm 3) (.cI 2)) (.cI 2))
 (.cons (.asg 7 0 (.bin .mul (.ix (.lst (.cons (.cI 0) (.cons (.cI 0) (.cons (.cI 0) (.cons (.cI 1) .nil))))) (.bin .mod (.nm 7) (.cI 4))) (.bin .add (.cI 1) (.bin .fdiv (.nm 7) (.cI 4)))))
 .nil)
 .nil)
 (.cons (.iff (.cmp .eq (.ixL (.nm 3) (.cI 2)) (.cI 3))
 (.cons (.asg 7 0 (.bin .mod (.bin .add (.ixL (.nm 3) (.cI 3)) (.nm 6)) (.cI 13)))
 .nil)
 .nil)
 (.cons (.iff (.cmp .eq (.ixL (.nm 3) (.cI 2)) (.cI 4))
 (.cons (.asg 7 0 (.ixL (.nm 3) (.cI 3)))
 .nil)
 .nil)
 (.cons (.mut 5 [] .append (.cons (.bi .min (.cons (.bin .pow (.cI 10) (.cI 18)) (.cons (.bin .add (.bin .mul (.nm 7) (.nm 4)) (.bin .mul (.bi .int (.cons (.cmp .eq (.nm 7) (.cI 12)) .nil)) (.cI 4))) .nil))) .nil))
 .nil))))))
noncomputable def BP:Ss :=
 (.cons (.asg 3 2 (.call AK (.cons (.nm 0) (.cons (.nm 1) (.cons (.bin .add (.lst (.cons (.bin .add (.nm 2) (.cI 1)) (.cons (.cI 5) (.cons (.cI 6) (.cons (.cI 13) .nil))))) (.bin .mul (.lst (.cons (.cI 13) .nil)) (.nm 2))) .nil)))))
 (.cons (.asg 4 0 (.ix (.lst (.cons (.cI 1) (.cons (.cI 1) (.cons (.cI 7) (.cons (.bin .pow (.cI 10) (.cI 6)) (.cons (.cI 83333333333333333) .nil)))))) (.ixL (.nm 3) (.cI 1))))
 (.cons (.asg 5 2 (.lst .nil))
 (.cons (.dem 3 1)
 (.cons (.for_ (.nm 6) (.r1 (.ixL (.nm 3) (.cI 0)))
 As)
 (.cons (.ret (.nm 5))
 .nil))))))
noncomputable def Cn:Fn:=Au "_law_rooms" 3 3 2 8 BP
theorem Gb (ds:List D) (h:ds.length=3):Cn.den ds=run 8 BP ds:=Aq h
noncomputable def Ck:Ss :=
 (.cons (.ret (.bin .add (.cI 2) (.ix (.call AK (.cons (.nm 0) (.cons (.nm 1) (.cons (.lst (.cons (.cI 7) .nil)) .nil)))) (.cI 0))))
 .nil)
noncomputable def C9:Fn:=Au "_law_fan" 2 3 1 2 Ck
theorem G0 (ds:List D) (h:ds.length=2):C9.den ds=run 2 Ck ds:=Aq h
noncomputable def AT:Ss :=
 (.cons (.mut 2 [] .append (.cons (.bin .fdiv (.bin .sub (.bin .add (.ixL (.nm 2) (.neg (.cI 1))) (.nm 1)) (.cI 1)) (.nm 1)) .nil))
 .nil)
noncomputable def Be:Ss :=
 (.cons (.iff (.cmp .eq (.nm 0) (.cI 0))
 (.cons (.ret (.lst .nil))
 .nil)
 .nil)
 (.cons (.asg 2 1 (.lst (.cons (.nm 0) .nil)))
 (.cons (.wh (.cmp .gt (.ixL (.nm 2) (.neg (.cI 1))) (.cI 1))
 AT)
 (.cons (.ret (.nm 2))
 .nil))))
noncomputable def Bs:Fn:=Au "_law_counts" 2 1 1 3 Be
theorem Dz (ds:List D) (h:ds.length=2):Bs.den ds=run 3 Be ds:=Aq h
noncomputable def Bh:Ss :=
 (.cons (.asg 4 0 (.bin .mul (.nm 4) (.nm 1)))
 .nil)
noncomputable def BQ:Ss :=
 (.cons (.asg 4 0 (.cI 1))
 (.cons (.for_ (.nm 5) (.r1 (.nm 2))
 Bh)
 (.cons (.ret (.tup (.cons (.bin .mul (.nm 3) (.nm 4)) (.cons (.bi .min (.cons (.nm 0) (.cons (.bin .add (.bin .mul (.nm 3) (.nm 4)) (.nm 4)) .nil))) .nil))))
 .nil)))
noncomputable def Co:Fn:=Au "_law_reach" 4 1 1 6 BQ
theorem Gc (ds:List D) (h:ds.length=4):Co.den ds=run 6 BQ ds:=Aq h
noncomputable def A4:Ss :=
 (.cons (.asgT [7,8] (.call Co (.cons (.bi .len (.cons (.nm 0) .nil)) (.cons (.nm 1) (.cons (.nm 4) (.cons (.nm 6) .nil))))))
 (.cons (.mut 5 [] .append (.cons (.bi .maxL (.cons (.slc (.nm 0) (.nm 7) (.nm 8)) .nil)) .nil))
 .nil))
noncomputable def A5:Ss :=
 (.cons (.asg 5 2 (.lst .nil))
 (.cons (.for_ (.nm 6) (.r1 (.ixL (.nm 3) (.nm 4)))
 A4)
 (.cons (.mut 2 [] .append (.cons (.nm 5) .nil))
 .nil)))
noncomputable def By:Ss :=
 (.cons (.asg 2 2 (.lst .nil))
 (.cons (.asg 3 1 (.call Bs (.cons (.bi .len (.cons (.nm 0) .nil)) (.cons (.nm 1) .nil))))
 (.cons (.for_ (.nm 4) (.r1 (.bi .len (.cons (.nm 3) .nil)))
 A5)
 (.cons (.ret (.nm 2))
 .nil))))
noncomputable def Av:Fn:=Au "_law_tree" 2 2 2 9 By
theorem Ed (ds:List D) (h:ds.length=2):Av.den ds=run 9 By ds:=Aq h
theorem Ee:Av.dep=2:=rfl
noncomputable def FY:Ss :=
 (.cons (.ret (.bo true (.cons (.isi (.nm 0) .int) (.cons (.not (.isi (.nm 0) .bool)) .nil))))
 .nil)
noncomputable def Ap:Fn:=Au "_law_whole" 1 1 9 1 FY
noncomputable def AW:Ss :=
 (.cons (.try_ (.cons (.expr (.call AE (.cons (.nm 0) (.cons (.nm 1) (.cons (.nm 2) (.cons (.nm 3) .nil))))))
 .nil)
 0 4
 (.cons (.ret (.lst (.cons (.isi (.nm 4) (.cls 3)) (.cons (.isi (.nm 4) (.cls 6)) (.cons (.isi (.nm 4) .verr) .nil)))))
 .nil)
 .nil)
 (.cons (.ret (.lst .nil))
 .nil))
noncomputable def AN:Fn:=Au "_law_word" 4 9 9 5 AW
theorem Ef (ds:List D) (h:ds.length=4):AN.den ds=run 5 AW ds:=Aq h
theorem GG:AN.dep=9:=rfl
noncomputable def AU:Ss :=
 (.cons (.iff (.cmp .ne (.ix (.ix (.nm 0) (.nm 6)) (.nm 5)) (.ix (.ix (.nm 1) (.nm 6)) (.nm 5)))
 (.cons (.mut 4 [] .append (.cons (.tup (.cons (.nm 6) (.cons (.nm 5) (.cons (.ix (.ix (.nm 1) (.nm 6)) (.nm 5)) .nil)))) .nil))
 .nil)
 .nil)
 (.cons (.asg 5 0 (.bin .fdiv (.nm 5) (.nm 2)))
 .nil))
noncomputable def BF:Ss :=
 (.cons (.asg 4 2 (.lst .nil))
 (.cons (.asg 5 0 (.nm 3))
 (.cons (.dem 4 1)
 (.cons (.for_ (.nm 6) (.r1 (.bi .len (.cons (.nm 0) .nil)))
 AU)
 (.cons (.ret (.nm 4))
 .nil)))))
noncomputable def AQ:Fn:=Au "_law_writes" 4 1 1 7 BF
theorem FN (ds:List D) (h:ds.length=4):AQ.den ds=run 7 BF ds:=Aq h
theorem FO:AQ.dep=1:=rfl
noncomputable def Bb:Ss :=
 (.cons (.iff (.bo false (.cons (.cmp .eq (.ix (.nm 0) (.cI 0)) (.cI 0)) (.cons (.cmp .eq (.nm 1) (.lst .nil)) .nil)))
 (.cons (.ret (.ix (.lst (.cons (.neg (.cI 1)) (.cons (.bi .len (.cons (.nm 1) .nil)) (.cons (.bin .add (.bi .len (.cons (.nm 1) .nil)) (.ix (.nm 0) (.cI 1))) (.cons (.bin .sub (.neg (.bin .pow (.cI 10) (.cI 59))) (.ix (.nm 0) (.cI 1))) .nil))))) (.bin .mod (.ix (.nm 0) (.cI 2)) (.cI 4))))
 .nil)
 .nil)
 (.cons (.ret (.bin .mod (.ix (.nm 0) (.cI 1)) (.bi .len (.cons (.nm 1) .nil))))
 .nil))
noncomputable def Bj:Fn:=Au "_law_page" 2 1 0 2 Bb
theorem CN (ds:List D) (h:ds.length=2):Bj.den ds=run 2 Bb ds:=Aq h
theorem GH:Bj.dep=0:=rfl
noncomputable def Bl:Ss :=
 (.cons (.iff (.cmp .eq (.ixS (.nm 0) (.cI 3)) (.cI 0))
 (.cons (.ret (.ixG (.lst (.cons .cN (.cons (.cB true) (.cons (.cS "5") (.cons (.neg (.cI 1)) (.cons (.bin .add (.bin .pow (.cI 10) (.cI 18)) (.cI 1)) (.cons (.bin .pow (.cI 10) (.cI 59)) (.cons (.tup (.cons (.cI 3) .nil)) (.cons (.lst (.cons (.cI 3) .nil)) .nil))))))))) (.bin .mod (.ixS (.nm 0) (.cI 4)) (.cI 8))))
 .nil)
 .nil)
 (.cons (.asg 3 0 (.bi .maxL (.cons (.bin .add (.nm 1) (.lst (.cons (.cI 0) .nil))) .nil)))
 (.cons (.iff (.bo true (.cons (.cmp .eq (.ixS (.nm 0) (.cI 3)) (.cI 1)) (.cons (.chain .le .lt (.cI 0) (.nm 2) (.bi .len (.cons (.nm 1) .nil))) .nil)))
 (.cons (.ret (.ixS (.nm 1) (.nm 2)))
 .nil)
 .nil)
 (.cons (.ret (.ixS (.lst (.cons (.ixS (.nm 0) (.cI 4)) (.cons (.nm 3) (.cons (.bi .min (.cons (.bin .pow (.cI 10) (.cI 18)) (.cons (.bin .add (.nm 3) (.cI 1)) .nil))) (.cons (.cI 0) (.cons (.bin .pow (.cI 10) (.cI 18)) (.cons (.bin .mul (.ixS (.nm 0) (.cI 4)) (.bin .pow (.cI 10) (.cI 15))) (.cons (.bin .fdiv (.nm 3) (.cI 2)) (.cons (.cI 1) .nil))))))))) (.bin .mod (.ixS (.nm 0) (.cI 3)) (.cI 8))))
 .nil))))
noncomputable def Ca:Fn:=Au "_law_room" 3 1 1 4 Bl
theorem Eo (ds:List D) (h:ds.length=3):Ca.den ds=run 4 Bl ds:=Aq h
theorem Jd:Ca.dep=1:=rfl
noncomputable def BG:Ss :=
 (.cons (.asg 5 2 (.comp0 1 [] (.nm 0) (.seq (.nm 0)) (.bi .list (.cons (.nm 0) .nil))))
 (.cons (.asg 6 0 (.bo false (.cons (.not (.call Ap (.cons (.nm 4) .nil))) (.cons (.cmp .lt (.nm 4) (.cI 0)) (.cons (.cmp .gt (.nm 4) (.bin .pow (.cI 10) (.cI 18))) .nil)))))
 (.cons (.iff (.bo false (.cons (.not (.chain .le .lt (.cI 0) (.nm 3) (.bi .len (.cons (.nm 1) .nil)))) (.cons (.nm 6) .nil)))
 (.cons (.asg 7 2 (.lst (.cons (.not (.chain .le .lt (.cI 0) (.nm 3) (.bi .len (.cons (.nm 1) .nil)))) (.cons (.chain .le .lt (.cI 0) (.nm 3) (.bi .len (.cons (.nm 1) .nil))) (.cons (.cB true) .nil)))))
 (.cons (.retM 1 (.bo true (.cons (.cmp .eq (.callB AN (.cons (.nm 5) (.cons (.nm 2) (.cons (.nm 3) (.cons (.nm 4) .nil))))) (.nm 7)) (.cons (.cmp .eq (.nm 5) (.nm 0)) .nil))))
 .nil))
 .nil)
 (.cons (.asg 8 2 (.callB AE (.cons (.nm 5) (.cons (.nm 2) (.cons (.nm 3) (.cons (.nm 4) .nil))))))
 (.cons (.set 1 [] (.nm 3) (.nm 4))
 (.cons (.asg 7 2 (.callB Av (.cons (.nm 1) (.cons (.nm 2) .nil))))
 (.cons (.iff (.bo false (.cons (.not (.isi (.nm 8) .tuple)) (.cons (.cmp .ne (.nm 8) (.tup (.cons (.nm 7) (.cons (.callB AQ (.cons (.nm 0) (.cons (.nm 7) (.cons (.nm 2) (.cons (.nm 3) .nil))))) .nil)))) (.cons (.cmp .ne (.nm 5) (.nm 0)) .nil))))
 (.cons (.retM 1 (.cB false))
 .nil)
 .nil)
 (.cons (.iff (.bo false (.cons (.not (.isi (.ixT (.nm 8) (.cI 0)) .list)) (.cons (.not (.isi (.ixU (.nm 8) (.cI 1)) .list)) .nil)))
 (.cons (.retM 1 (.cB false))
 .nil)
 .nil)
 (.cons (.iff (.cmp .inn (.cB false) (.comp0 1 [] (.nm 0) (.seqL (.ixU (.nm 8) (.cI 1))) (.bo true (.cons (.call Ap (.cons (.ix (.nm 0) (.cI 0)) .nil)) (.cons (.call Ap (.cons (.ix (.nm 0) (.cI 1)) .nil)) (.cons (.call Ap (.cons (.ix (.nm 0) (.cI 2)) .nil)) .nil))))))
 (.cons (.retM 1 (.cB false))
 .nil)
 .nil)
 (.cons (.set 8 [(true,(.cI 0)),(false,(.neg (.cI 1)))] (.cI 0) (.cI 7))
 (.cons (.mut 8 [(true,(.cI 0)),(false,(.cI 0))] .append (.cons (.cI 3) .nil))
 (.cons (.mut 8 [(true,(.cI 1))] .append (.cons .cN .nil))
 (.cons (.asg 9 2 (.callB AE (.cons (.nm 5) (.cons (.nm 2) (.cons (.nm 3) (.cons (.nm 4) .nil))))))
 (.cons (.retM 1 (.bo true (.cons (.cmp .eq (.nm 5) (.nm 0)) (.cons (.cmp .eq (.nm 9) (.tup (.cons (.nm 7) (.cons (.callB AQ (.cons (.nm 0) (.cons (.nm 7) (.cons (.nm 2) (.cons (.nm 3) .nil))))) .nil)))) .nil))))
 .nil))))))))))))))
noncomputable def Cb:Fn:=Au "_law_step" 5 10 1001 10 BG
theorem FZ (ds:List D) (h:ds.length=5):Cb.den ds=run 10 BG ds:=Aq h
noncomputable def CO:Ss :=
 (.cons (.asg 4 2 (.call AK (.cons (.nm 0) (.cons (.nm 3) (.cons (.lst (.cons (.cI 7) (.cons (.cI 200) (.cons (.cI 4) (.cons (.cI 9) (.cons (.cI 9) .nil)))))) .nil)))))
 (.cons (.asg 5 2 (.callB Av (.cons (.nm 1) (.cons (.nm 2) .nil))))
 (.cons (.asg 6 0 (.callB Bj (.cons (.nm 4) (.cons (.nm 1) .nil))))
 (.cons (.cif Cb [5,1,2,6] 1 (.callB Ca (.cons (.nm 4) (.cons (.nm 1) (.cons (.nm 6) .nil))))
 (.cons (.ret (.cB false))
 .nil))
 .nil))))
noncomputable def Ds:Ss :=
 (.cons (.asg 1 2 (.call Cn (.cons (.nm 0) (.cons (.cI 0) (.cons (.ix (.lst (.cons (.cI 60) (.cons (.cI 200) .nil))) (.bi .int (.cons (.cmp .eq (.ix (.call AK (.cons (.nm 0) (.cons (.cI 30) (.cons (.lst (.cons (.cI 8) .nil)) .nil)))) (.cI 0)) (.cI 0)) .nil))) .nil)))))
 (.cons (.asg 2 1 (.call C9 (.cons (.nm 0) (.cons (.cI 1) .nil))))
 (.cons (.dem 1 1)
 (.cons (.for_ (.nm 3) (.r2 (.cI 2) (.bi .max (.cons (.cI 4) (.cons (.bi .min (.cons (.cI 9) (.cons (.bi .len (.cons (.nm 0) .nil)) .nil))) .nil))))
 CO)
 (.cons (.ret (.cB true))
 .nil)))))
noncomputable def EO:Fn:=Au "law" 1 11 9 7 Ds
theorem KC (ds:List D) (h:ds.length=1):EO.den ds=run 7 Ds ds:=Aq h
end Pu
section
namespace Pu
open PySem
theorem q9A {f n:Nat} {k:Int} (h:f<=n) (e:(n:Int) < k):(f:Int) < k:=ab7 (aa3.mpr h) e
theorem q9B {f n:Nat} {k:Int} (h:f<=n) (e:(n:Int)<=k):(f:Int)<=k:=abM (aa3.mpr h) e
theorem q9D {f:Nat} {k:Int} (e:k<=0):k<=(f:Int):=abM e (aaC f)
theorem q9E {f n:Nat} {k:Int} (h:n<=f) (e:k < (n:Int)):k < (f:Int):=Int.lt_of_lt_of_le e (aa3.mpr h)
theorem q9F {a:Nat}:¬ (a:Int) < 0:=ab2.mpr (aaC a)
theorem q9K {a b c d:Nat} (h:a<=b) (k:b<=c) (e:c < d):a < d:=aaL h (aaL k e)
theorem q9L {a b c:Nat} {d:Int} (h:a<=b) (k:b<=c) (e:(c:Int)<=d):(a:Int)<=d:=q9B (aat h k) e
theorem q9N {a b:Nat} (h:(a:Int) < ((b:Nat):Int) - 0):a < b:=abN.mp (by rwa [acf] at h)
theorem q9O {a b:Nat} (h:(a:Int) < ((b + 1:Nat):Int) - 0):a<=b:=abT (q9N h)
theorem q9R {f n:Nat} {k:Int} (h:f<=n) (e:(n:Int) + 1<=k):((f + 1:Nat):Int)<=k:=abM (Int.add_le_add_right (aa3.mpr h) 1) e
theorem A9 {tg:Tg} {b:Fr->Out} (P:Nat->Fr->Prop):∀ {ds:List D} {δ:Fr} (n:Nat),P n δ->(∀ i d δ,ds[i]?=some d->P (n + i) δ->∃ δ' δ'',CG tg d δ=some δ'/\b δ'=.nxt δ''/\P (n + i + 1) δ'')->∃ δ',CI tg b ds δ=.nxt δ'/\P (n + ds.length) δ'
 | [],δ,n,h0,_=>⟨δ,rfl,h0⟩
 | d :: ds,δ,n,h0,hs=>by
  obtain ⟨δ',δ'',e1,e2,h1⟩:=hs 0 d δ rfl h0
  obtain ⟨δ3,e3,h3⟩:=A9 P (ds:=ds) (δ:=δ'') (n + 1) h1 fun i d δ hd hP=>by
   have:=hs (i + 1) d δ (by simpa using hd) (by rw [show n + (i + 1)=n + 1 + i by omega]; exact hP)
   rw [show n + (i + 1) + 1=n + 1 + i + 1 by exact Nat.add_right_comm ..] at this
   exact this
  refine ⟨δ3,?_,by rw [aa5,show n + (ds.length + 1)=n + 1 + ds.length by omega]; exact h3⟩
  unfold CI
  rw [e1]
  show (b δ').then _=_
  rw [e2]
  exact e3
theorem Cc (i j:Int):b2 .add (.int i) (.int j)=.ok (.int (i + j)):=rfl
theorem CP (i j:Int):b2 .sub (.int i) (.int j)=.ok (.int (i - j)):=rfl
theorem BM (i j:Int) (h1:-(18446744073709551616) < i) (h2:i < 18446744073709551616):b2 .mul (.int i) (.int j)=.ok (.int (i * j)):=by
 show (if _ then _ else _)=_; rw [if_pos (.inl ⟨h1,h2⟩)]
theorem BN (i j:Int) (h1:-(18446744073709551616) < j) (h2:j < 18446744073709551616):b2 .mul (.int i) (.int j)=.ok (.int (i * j)):=by
 show (if _ then _ else _)=_; rw [if_pos (.inr ⟨h1,h2⟩)]
theorem Cd (i j:Int) (h1:0 < j):b2 .mod (.int i) (.int j)=.ok (.int (i % j)):=by
 show (if _ then _ else _)=_; rw [if_pos h1]
theorem BO (i j:Int) (h1:0 < j) (h2:j < 1606938044258990275541962092341162602522202993782792835301376):b2 .fdiv (.int i) (.int j)=.ok (.int (i / j)):=by
 show (if _ then _ else _)=_; rw [if_pos ⟨h1,h2⟩]
theorem Dt (i j:Int) (h1:0<=j) (h2:j<=1000000) (h3:i.natAbs < 18446744073709551616):b2 .pow (.int i) (.int j)=.ok (.int (i ^ j.toNat)):=by
 show (if _ then _ else _)=_; rw [if_pos ⟨h1,h2,h3⟩]
theorem DI (i j:Int):c2 .lt (.int i) (.int j)=.ok (.bl (decide (i < j))):=rfl
theorem DJ (i j:Int):c2 .le (.int i) (.int j)=.ok (.bl (decide (i<=j))):=rfl
theorem DK (i j:Int):c2 .gt (.int i) (.int j)=.ok (.bl (decide (j < i))):=rfl
theorem DL (i j:Int):c2 .ge (.int i) (.int j)=.ok (.bl (decide (j<=i))):=rfl
theorem CQ (i j:Int):c2 .eq (.int i) (.int j)=.ok (.bl (i==j)):=rfl
theorem CS (i j:Int):c2 .ne (.int i) (.int j)=.ok (.bl (!(i==j))):=rfl
theorem Da (d:D) (r:Fr):get (some d :: r) 0=.ok d:=rfl
theorem Db (o:Option D) (r:Fr) (i:Nat):get (o :: r) (i + 1)=get r i:=by
 unfold get; rw [aaV]
theorem Aj {n:Nat} {b:Ss} {ds:List D} {d:D} (h:exs b (Pu.AB n ds)=.ret d):run n b ds=.ok d:=by
 unfold run; rw [h]
theorem G1 {n:Nat} {b:Ss} {ds:List D} {c:Nat} {δ:Fr} (h:exs b (Pu.AB n ds)=.exc c δ):run n b ds=.exc c:=by
 unfold run; rw [h]
noncomputable def Fh (c k:Int):Int:=((((c % 2147483629 + 1013 * k + 7919) ^ 3 % 2147483647) * 40699 + 3793 * k * k + 11) % 2147483399) / 101
theorem JQ (c k:Int) (hk0:0<=k) (hk:k<=100000):BZ.den [.int c,.int k]=.ok (.int (Fh c k)):=by
 have h1:0<=c % 2147483629:=abh _ (by decide)
 have h2:c % 2147483629 < 2147483629:=abO _ (by decide)
 have h3:(c % 2147483629 + 1013 * k + 7919).natAbs < 18446744073709551616:=by omega
 have h4:-(18446744073709551616) < k:=by omega
 have h5:k < 18446744073709551616:=by omega
 rw [GY _ rfl]
 simp [run,Ci,exs,ex,ev,evs,get,Cc,BM,BN,Cd,BO,Dt,Pu.AB,h3,h4,h5,Fh]
theorem EQ {ns:List Int} {d:D} (h:d ∈ ns.map D.int):∃ x,d=.int x:=by
 obtain ⟨x,_,e⟩:=aaz.mp h
 exact ⟨x,e.symm⟩
theorem KD {ns:List Int} {d:D} {lo hi:Option Int} {i:Nat} (h:(cut (ns.map D.int) lo hi)[i]?=some d):∃ x,d=.int x:=by
 have:=aae h
 unfold cut at this
 exact EQ (aco (acp this))
theorem ID {ns:List Int} {i:Int} (h0:0<=i) (h1:i < ns.length):∃ x,ns[i.toNat]?=some x/\atD (ns.map D.int) i=.ok (.int x):=by
 have hl:i.toNat < ns.length:=by omega
 refine ⟨ns[i.toNat],aai hl,?_⟩
 unfold atD ixN
 rw [aab,if_pos h0,if_pos h1]
 simp [hl]
theorem IE (ns:List Int) (p:Int) (hp:0<=p):∃ i,B9.den [.lst (ns.map .int),.int p]=.ok (.int i):=by
 rw [Jc _ rfl]
 by_cases h:p < ns.length
 ·obtain ⟨x,_,e⟩:=ID hp h
  refine ⟨x,?_⟩
  simp -implicitDefEqProofs [run,exs,ex,ev,evs,evI,evBo,tv,get,BA,Cc,CP,BM,BN,Cd,BO,Dt,DI,DJ,DK,DL,CQ,CS,Pu.AB,biD,ixD,CU,Dv,evP,upd,AC,umD,Dd,B6,Cm,BW,CD,E.isCN,Dw,on1,on2,on3,Du,Bt,Dc,CF,EF,CC,Eh,dI,dB,dS,dL,dT',un1,un0,CM,h,e]
 ·obtain ⟨δ',e,s,o,rfl⟩:=A9 (tg:=.nm 3) (b:=exs Dy) (fun _ δ=>∃ (s:Int) (o:Option D),δ=[some (.lst (ns.map .int)),some (.int p),some (.int s),o]) (ds:=cut (ns.map D.int) none (some 63)) (δ:=[some (.lst (ns.map .int)),some (.int p),some (.int 5),none]) 0 ⟨5,none,rfl⟩ (by
   rintro i d δ hd ⟨s,o,rfl⟩
   obtain ⟨x,rfl⟩:=KD hd
   refine ⟨_,_,rfl,?_,(s * 48271 + x % 1000003 + 1) % 2147483647,some (.int x),rfl⟩
   simp -implicitDefEqProofs [run,exs,ex,ev,evs,evI,evBo,tv,get,BA,Cc,CP,BM,BN,Cd,BO,Dt,DI,DJ,DK,DL,CQ,CS,Pu.AB,biD,ixD,CU,Dv,evP,upd,AC,umD,Dd,B6,Cm,BW,CD,E.isCN,Dw,on1,on2,on3,Du,Bt,Dc,CF,EF,CC,Eh,dI,dB,dS,dL,dT',un1,un0,Dy])
  refine ⟨(s + 7919 * p) % 1000003,?_⟩
  simp -implicitDefEqProofs [run,exs,ex,ev,evs,evI,evBo,tv,get,BA,Cc,CP,BM,BN,Cd,BO,Dt,DI,DJ,DK,DL,CQ,CS,Pu.AB,biD,ixD,CU,Dv,evP,upd,AC,umD,Dd,B6,Cm,BW,CD,E.isCN,Dw,on1,on2,on3,Du,Bt,Dc,CF,EF,CC,Eh,dI,dB,dS,dL,dT',un1,un0,CM,h,e]
theorem B0 {a b:Int} {i:Nat} {d:D} (h:(Ax a b)[i]?=some d):d=.int (a + i)/\(i:Int) < b - a:=by
 unfold Ax at h
 rw [aaj] at h
 obtain ⟨j,hj,e⟩:=aar.mp h
 obtain ⟨h1,h2⟩:=aaq.mp hj
 rw [acE] at h2
 subst h2
 rw [aa0] at h1
 exact ⟨e.symm,by omega⟩
theorem B3 (a b:Int):(Ax a b).length=(b - a).toNat:=by unfold Ax; simp
theorem Cy {a b:Int} (h1:-1000000<=a) (h2:a<=1000000) (h3:-1000000<=b) (h4:b<=1000000):MM (.int a) (.int b)=.ok (Ax a b):=by
 show (if _ then _ else _)=_
 rw [if_pos]
 unfold Bu LIM
 simp -implicitDefEqProofs only [aah,decide_eq_true_eq]
 omega
theorem Cz {ns:List Int} {i:Nat} {x:Int} (h:ns[i]?=some x):atD (ns.map D.int) (i:Int)=.ok (.int x):=by
 have hl:=(aaq.mp h).1
 obtain ⟨y,e1,e2⟩:=ID (ns:=ns) (i:=(i:Int)) (by exact aaC _) (by exact aa3.mpr hl)
 rw [aaK,h] at e1
 cases e1
 exact e2
theorem G2:b2 .pow (.int 10) (.int 18)=.ok (.int 1000000000000000000):=by
 rw [Dt _ _ (by decide) (by decide) (by decide)]; rfl
theorem G3:b2 .pow (.int 10) (.int 59)=.ok (.int 100000000000000000000000000000000000000000000000000000000000):=by
 rw [Dt _ _ (by decide) (by decide) (by decide)]; rfl
theorem Bz (ds:List D) (d:D) (h:ds.length < 16777216):umD .append [d] ds=some (ds ++ [d]):=by
 show (if _ then _ else _)=_
 exact if_pos h
section
variable {ns S xs:List Int} {p c left:Int} {i:Nat} {s:Int} {o2:Option D} (hs:0 < s) (hat:atD (S.map D.int) (i:Int)=.ok (.int s)) (hi:i<=1000) (hx:xs.length<=1000)
include hs hat hi hx
theorem Sn (h1:c < 1000000000000000000) :
  exs AA [some (.lst (ns.map .int)),some (.int p),some (.lst (S.map .int)),some (.int c),some (.int left),some (.lst (xs.map .int)),some (.int i),o2]=.nxt [some (.lst (ns.map .int)),some (.int p),some (.lst (S.map .int)),some (.int c),some (.int left),some (.lst ((xs ++ [Fh c i % s]).map .int)),some (.int i),o2]:=by
 have hmx:=JQ c i (by exact aaC _) (by exact q9B hi (by decide))
 have hap:=Bz (xs.map D.int) (.int (Fh c i % s)) (by rw [aab]; exact aaL hx (by decide))
 simp -implicitDefEqProofs only [AA,exs,ex,tv,ev,evs,evI,evBo,Da,Db,Res.bind_ok,Res.out_ok,Out.then_nxt,Out.then_ret,aa8,aaV,G2,G3,Cc,CP,BM,BN,Cd,BO,DI,DJ,DK,DL,CQ,CS,BA,decide_true,decide_false,if_true,if_false,aa1,abg,abj,abm,evP,ixD,CU,Dv,upd,AC,aaX,abP,aap,abF,biD,Dd,B6,Cm,on1,on2,on3,Du,Bt,Dc,CF,EF,CC,Eh,dI,dB,dS,dL,dT',un1,un0,BW,CD,E.isCN,Dw,reduceCtorEq,Int.reduceLT,Int.reduceLE,Int.reduceNeg,Int.reduceBEq,h1,hmx,hat,hs,hap]
theorem So (h1:¬ c < 1000000000000000000) (h2:0 < left) (h3:s < 1606938044258990275541962092341162602522202993782792835301376) :
  exs AA [some (.lst (ns.map .int)),some (.int p),some (.lst (S.map .int)),some (.int c),some (.int left),some (.lst (xs.map .int)),some (.int i),o2]=.nxt [some (.lst (ns.map .int)),some (.int p),some (.lst (S.map .int)),some (.int c),some (.int (left / s)),some (.lst ((xs ++ [left % s]).map .int)),some (.int i),o2]:=by
 have hap:=Bz (xs.map D.int) (.int (left % s)) (by rw [aab]; exact aaL hx (by decide))
 simp -implicitDefEqProofs only [AA,exs,ex,tv,ev,evs,evI,evBo,Da,Db,Res.bind_ok,Res.out_ok,Out.then_nxt,Out.then_ret,aa8,aaV,G2,G3,Cc,CP,BM,BN,Cd,BO,DI,DJ,DK,DL,CQ,CS,BA,decide_true,decide_false,if_true,if_false,aa1,abg,abj,abm,evP,ixD,CU,Dv,upd,AC,aaX,abP,aap,abF,biD,Dd,B6,Cm,on1,on2,on3,Du,Bt,Dc,CF,EF,CC,Eh,dI,dB,dS,dL,dT',un1,un0,BW,CD,E.isCN,Dw,reduceCtorEq,Int.reduceLT,Int.reduceLE,Int.reduceNeg,Int.reduceBEq,h1,h2,h3,hat,hs,hap]
theorem Sq (h1:¬ c < 1000000000000000000) (h2:¬ 0 < left) {q:Int} (hq:B9.den [.lst (ns.map .int),.int ((p + 1 + i) % 63)]=.ok (.int q)) :
  exs AA [some (.lst (ns.map .int)),some (.int p),some (.lst (S.map .int)),some (.int c),some (.int left),some (.lst (xs.map .int)),some (.int i),o2]=.nxt [some (.lst (ns.map .int)),some (.int p),some (.lst (S.map .int)),some (.int c),some (.int left),some (.lst ((xs ++ [Fh q i % s]).map .int)),some (.int i),some (.int q)]:=by
 have hmx:=JQ q i (by exact aaC _) (by exact q9B hi (by decide))
 have hap:=Bz (xs.map D.int) (.int (Fh q i % s)) (by rw [aab]; exact aaL hx (by decide))
 simp -implicitDefEqProofs only [AA,exs,ex,tv,ev,evs,evI,evBo,Da,Db,Res.bind_ok,Res.out_ok,Out.then_nxt,Out.then_ret,aa8,aaV,G2,G3,Cc,CP,BM,BN,Cd,BO,DI,DJ,DK,DL,CQ,CS,BA,decide_true,decide_false,if_true,if_false,aa1,abg,abj,abm,evP,ixD,CU,Dv,upd,AC,aaX,abP,aap,abF,biD,Dd,B6,Cm,on1,on2,on3,Du,Bt,Dc,CF,EF,CC,Eh,dI,dB,dS,dL,dT',un1,un0,BW,CD,E.isCN,Dw,reduceCtorEq,Int.reduceLT,Int.reduceLE,Int.reduceNeg,Int.reduceBEq,h1,h2,hq,hmx,hat,hs,hap,Int.reduceLT]
end
theorem FH (ns:List Int) (p:Int) (hp:0<=p) (S:List Int) (hl:S.length<=1000) (hS:∀ s ∈ S,0 < s/\s < 1606938044258990275541962092341162602522202993782792835301376) :
  ∃ xs:List Int,AK.den [.lst (ns.map .int),.int p,.lst (S.map .int)]=.ok (.lst (xs.map .int))/\xs.length=S.length/\∀ (j:Nat) (x s:Int),xs[j]?=some x->S[j]?=some s->0<=x/\x < s:=by
 obtain ⟨c,hc⟩:=IE ns p hp
 obtain ⟨δ',e,left,xs,o1,o2,rfl,hx,hb⟩:=A9 (tg:=.nm 6) (b:=exs AA) (fun i δ=>∃ (left:Int) (xs:List Int) (o1 o2:Option D),δ=[some (.lst (ns.map .int)),some (.int p),some (.lst (S.map .int)),some (.int c),some (.int left),some (.lst (xs.map .int)),o1,o2]/\xs.length=i/\∀ (j:Nat) (x s:Int),xs[j]?=some x->S[j]?=some s->0<=x/\x < s)
  (ds:=Ax 0 (S.length:Int)) (δ:=[some (.lst (ns.map .int)),some (.int p),some (.lst (S.map .int)),some (.int c),some (.int c),some (.lst []),none,none]) 0 ⟨c,[],none,none,rfl,rfl,by simp⟩ (by
   rintro i d δ hd ⟨left,xs,o1,o2,rfl,hx,hb⟩
   obtain ⟨rfl,hi⟩:=B0 hd
   have hx:xs.length=i:=by omega
   have hi':i < S.length:=by exact aa3.mp hi
   have hs:S[i]?=some S[i]:=aai hi'
   have hsp:=hS S[i] (abp hi')
   have hat:=Cz hs
   generalize S[i]=s at hs hsp hat
   have fin:∀ z:Int,0<=z->z < s->∀ (j:Nat) (x s:Int),(xs ++ [z])[j]?=some x->S[j]?=some s->0<=x/\x < s:=by
    intro z h0 h1 j x s e1 e2
    by_cases hj:j < xs.length
    ·rw [aaF hj] at e1
     exact hb j x s e1 e2
    ·rw [aaB (by exact abk.mp hj)] at e1
     have:j=i:=by
      have:=(aaq.mp e1).1
      simp at this; omega
     subst this
     rw [hx,Nat.sub_self] at e1
     rw [hs] at e2
     cases e2; cases e1
     exact ⟨h0,h1⟩
   have md:∀ y:Int,0<=y % s/\y % s < s:=fun y=>⟨abh _ (by omega),abO _ hsp.1⟩
   have hz:(0:Int) + (i:Int)=(i:Int):=by omega
   rw [hz]
   have len:∀ z:Int,(xs ++ [z]).length=0 + i + 1:=fun z=>by rw [aaG,hx]; simp
   by_cases h1:c < 1000000000000000000
   ·exact ⟨_,_,rfl,Sn hsp.1 hat (by omega) (by omega) h1,left,xs ++ [Fh c i % s],some (.int i),o2,rfl,len _,fin _ (md _).1 (md _).2⟩
   ·by_cases h2:0 < left
    ·exact ⟨_,_,rfl,So hsp.1 hat (by omega) (by omega) h1 h2 hsp.2,left / s,xs ++ [left % s],some (.int i),o2,rfl,len _,fin _ (md _).1 (md _).2⟩
    ·obtain ⟨q,hq⟩:=IE ns ((p + 1 + i) % 63) (abh _ (by decide))
     exact ⟨_,_,rfl,Sq hsp.1 hat (by omega) (by omega) h1 h2 hq,left,xs ++ [Fh q i % s],some (.int i),some (.int q),rfl,len _,fin _ (md _).1 (md _).2⟩)
 refine ⟨xs,?_,by rw [hx,B3]; exact ace ..,hb⟩
 have hr:=Cy (a:=0) (b:=(S.length:Int)) (by exact by decide) (by exact by decide) (by exact aaC _) (by exact q9B hl (by decide))
 refine (GZ _ rfl).trans (Aj ?_)
 simp -implicitDefEqProofs only [Pu.AB,aa6,aak,aa2,abc,Cj,exs,ex,tv,ev,evs,evI,evBo,Da,Db,Res.bind_ok,Res.out_ok,Out.then_nxt,Out.then_ret,aa8,aaV,G2,G3,Cc,CP,BM,BN,Cd,BO,DI,DJ,DK,DL,CQ,CS,BA,decide_true,decide_false,if_true,if_false,aa1,abg,abj,abm,evP,ixD,CU,Dv,upd,AC,aaX,abP,aap,abF,biD,Dd,B6,Cm,on1,on2,on3,Du,Bt,Dc,CF,EF,CC,Eh,dI,dB,dS,dL,dT',un1,un0,BW,CD,E.isCN,Dw,reduceCtorEq,Int.reduceLT,Int.reduceLE,Int.reduceNeg,Int.reduceBEq,hc,aab,hr,e]
theorem L9 (i:Int):Ap.den [.int i]=.ok (.bl true):=rfl
theorem IF (i:Int):Dh.den [.int i]=.ok (.bl true):=rfl
theorem Bc (i a b:Int):AZ.den [.int i,.int a,.int b]=.ok (.bl (decide (a<=i/\i<=b))):=by
 refine (ET _ rfl).trans (Aj ?_)
 by_cases h1:a<=i <;> by_cases h2:i<=b <;> simp -implicitDefEqProofs only [Pu.AB,aa6,aak,aa2,abc,BR,exs,ex,tv,ev,evs,evI,evBo,Da,Db,Res.bind_ok,Res.out_ok,Out.then_nxt,Out.then_ret,aa8,aaV,G2,G3,Cc,CP,BM,BN,Cd,BO,DI,DJ,DK,DL,CQ,CS,BA,decide_true,decide_false,if_true,if_false,aa1,abg,abj,abm,evP,ixD,CU,Dv,upd,AC,aaX,abP,aap,abF,biD,Dd,B6,Cm,on1,on2,on3,Du,Bt,Dc,CF,EF,CC,Eh,dI,dB,dS,dL,dT',un1,un0,BW,CD,E.isCN,Dw,reduceCtorEq,Int.reduceLT,Int.reduceLE,Int.reduceNeg,Int.reduceBEq,IF,h1,h2,and_self,and_true,and_false]
theorem at0 (a b:D):atD [a,b] 0=.ok a:=rfl
theorem at1 (a b:D):atD [a,b] 1=.ok b:=rfl
theorem Rp {xs:List Int} (h:xs.length=1):∃ a,xs=[a]:=by
 match xs,h with
 | [a],_=>exact ⟨a,rfl⟩
section
variable (a b c d e f:D)
theorem SW:atD [a] 0=.ok a:=rfl
end
theorem Fi {f:D->Res (Option D)} {g:D->Option D}:∀ {ds:List D},(∀ d ∈ ds,f d=.ok (g d))->A3 f ds=.ok (ds.filterMap g)
 | [],_=>rfl
 | d :: ds,h=>by
  unfold A3
  rw [h d aac,Fi (ds:=ds) fun x hx=>h x (aaa _ hx)]
  show Res.ok _=_
  rw [aa9]
  cases g d <;> rfl
theorem D6 {nl:Nat} {fr:List Nat} {tg:Tg} {it:It} {elt:E} {δ:Fr} {ds:List D} {g:D->D} (hi:evI it δ=.ok ds) (h:∀ d ∈ ds,∃ δ',CG tg d (blk nl fr δ)=some δ'/\ev elt δ'=.ok (g d)):ev (.comp0 nl fr tg it elt) δ=.ok (.lst (ds.map g)):=by
 rw [ev,hi,Res.bind_ok,Fi (g:=fun d=>some (g d)) (fun d hd=>by
  obtain ⟨δ',e1,e2⟩:=h d hd
  rw [e1]
  show (ev elt δ').bind _=_
  rw [e2]; rfl),Res.bind_ok,List.filterMap_eq_map']
theorem Nx {nl:Nat} {fr:List Nat} {tg:Tg} {it:It} {cond elt:E} {δ:Fr} {ds:List D} {b:D->Bool} {g:D->D} (hi:evI it δ=.ok ds) (h:∀ d ∈ ds,∃ δ',CG tg d (blk nl fr δ)=some δ'/\(ev cond δ').bind BA=.ok (b d)/\(b d=true->ev elt δ'=.ok (g d))):ev (.comp1 nl fr tg it cond elt) δ=.ok (.lst ((ds.filter b).map g)):=by
 rw [ev,hi,Res.bind_ok,Fi (g:=fun d=>if b d then some (g d) else none) (fun d hd=>by
  obtain ⟨δ',e1,e2,e3⟩:=h d hd
  rw [e1]
  show ((ev cond δ').bind BA).bind _=_
  rw [e2,Res.bind_ok]
  cases q:b d with
  | true=>rw [if_pos rfl,e3 q]; rfl
  | false=>rfl),Res.bind_ok]
 congr 2
 clear h hi
 induction ds with
 | nil=>rfl
 | cons d ds ih =>
  rw [aa9,List.filter_cons]
  cases q:b d with
  | true=>simp [ih]
  | false=>simp [ih]
theorem Fj {c:Fr->Res Bool} {b:Fr->Out} (P:Nat->Fr->Prop):∀ (k n m:Nat) {δ:Fr},P m δ->(∀ i δ,m<=i->i < m + k->P i δ->c δ=.ok true/\∃ δ',b δ=.nxt δ'/\P (i + 1) δ')->(∀ δ,P (m + k) δ->c δ=.ok false)->k < n->∃ δ',DC c b n δ=.nxt δ'/\P (m + k) δ'
 | 0,n + 1,m,δ,h0,_,h2,_=>by
  refine ⟨δ,?_,h0⟩
  unfold DC
  rw [h2 δ h0]; rfl
 | k + 1,n + 1,m,δ,h0,h1,h2,hn=>by
  obtain ⟨e1,δ',e2,h3⟩:=h1 m δ (aan _) (by omega) h0
  obtain ⟨δ2,e4,h4⟩:=Fj P k n (m + 1) h3 (fun i δ hi hl=>h1 i δ (by exact aaM hi) (by omega)) (fun δ hd=>h2 δ (by rw [show m + (k + 1)=m + 1 + k by omega]; exact hd)) (by exact abT hn)
  refine ⟨δ2,?_,by rw [show m + (k + 1)=m + 1 + k by omega]; exact h4⟩
  unfold DC
  rw [e1,Res.out_ok,if_pos rfl,e2]
  exact e4
theorem Ma (xs:List D) (h:xs.all (D.shp 7)=true):c2 .ne (.lst xs) (.lst [])=.ok (.bl (!xs.isEmpty)):=by
 show (if (D.shp 8 (.lst xs) && D.shp 8 (.lst [])) then _ else _)=_
 rw [show D.shp 8 (.lst xs)=true from h,show D.shp 8 (.lst [])=true from rfl]
 cases xs <;> rfl
theorem JR (a b:List D) (h:a.length + b.length<=16777216):b2 .add (.lst a) (.lst b)=.ok (.lst (a ++ b)):=by
 show (if _ then _ else _)=_
 exact if_pos h
noncomputable def cnt (p f i:Nat):Nat:=(p + f ^ i - 1) / f ^ i
theorem Gd (p f:Nat):cnt p f 0=p:=by unfold cnt; simp
theorem IG {p f:Nat} (hf:1<=f) (i:Nat):cnt p f (i + 1)=(cnt p f i + f - 1) / f:=by
 unfold cnt
 have hw:0 < f ^ i:=abl (by exact hf)
 have h1:(p + f ^ i - 1) / f ^ i + f - 1=(p + f ^ (i + 1) - 1) / f ^ i:=by
  have e:p + f ^ (i + 1) - 1=(p + f ^ i - 1) + f ^ i * (f - 1):=by
   have:f ^ (i + 1)=f ^ i * (f - 1) + f ^ i:=by
    rw [abQ,<- Nat.mul_succ]; congr 1; omega
   omega
  rw [e,Nat.add_mul_div_left _ _ hw]
  generalize (p + f ^ i - 1) / f ^ i=q
  omega
 rw [h1,acn,abQ]
structure Hs (p f h:Nat):Prop where
 one:cnt p f h=1
 more:∀ i,i < h->1 < cnt p f i
theorem JS {p f h:Nat} (hf:1<=f) (hh:p<=f ^ h) (hp:1<=p):cnt p f h=1:=by
 unfold cnt
 have hw:0 < f ^ h:=abl (by exact hf)
 apply acu <;> omega
theorem N4 {p f:Nat} (hf:2<=f) (hp:1<=p):∀ n:Nat,p<=f ^ n->∃ h,h<=n/\Hs p f h
 | 0,h=>⟨0,aan _,JS (by exact aaM hf) h hp,fun i hi=>absurd hi (by exact absurd hi (acm _))⟩
 | n + 1,h=>by
  by_cases hn:p<=f ^ n
  ·obtain ⟨k,h1,h2⟩:=N4 hf hp n hn
   exact ⟨k,by exact Nat.le_succ_of_le h1,h2⟩
  ·refine ⟨n + 1,aan _,JS (by exact aaM hf) h hp,fun i hi=>?_⟩
   unfold cnt
   have hw:0 < f ^ i:=abl (by exact aaM hf)
   have hm:f ^ i<=f ^ n:=acr (by exact aaM hf) (by exact abT hi)
   have:2<=(p + f ^ i - 1) / f ^ i:=by
    rw [abi hw]; omega
   exact this
theorem hs8 {p f:Nat} (hf:2<=f) (hp:1<=p) (hp2:p<=200):∃ h,h<=8/\Hs p f h:=by
 refine N4 hf hp 8 (aat (show p<=2 ^ 8 by exact aat hp2 (by decide)) (acv hf 8))
theorem SX {f l:Nat} (hf:f<=8) (hl:l<=9):f ^ l<=134217728 :=
 aat (acv hf l) (aat (acr (by decide) hl) (by decide))
theorem D7 {p f l j:Nat} (hf:1<=f):j < cnt p f l ↔ j * f ^ l < p:=by
 unfold cnt
 have hw:0 < f ^ l:=abl (by exact hf)
 rw [<- Nat.succ_le_iff,abi hw,abC]
 omega
theorem EB {p f l:Nat} (hf:1<=f):cnt p f l<=p:=by
 apply abf
 intro h
 have:=(D7 hf).mp h
 have hw:0 < f ^ l:=abl (by exact hf)
 have:=Nat.le_mul_of_pos_right p hw
 omega
noncomputable def mx (b:Nat->Bool):Nat->Nat
 | 0=>0
 | l + 1=>if b (l + 1) then l + 1 else mx b l
end Pu
end
section
open Pu
local macro_rules | `(tactic| simp_arith [$xs,*] $[at $h:ident]?)=>`(tactic| simp -implicitDefEqProofs only [Pu.AB,aa6,aak,aa2,abc,↓reduceIte,aaQ,Nat.reduceAdd,Nat.reduceSub,acF,Int.reduceAdd,Int.reduceSub,Int.reduceMul,at0,at1,beq_self_eq_true,Bool.and_self,Bool.and_true,acs,Bool.false_and,Bool.and_false,exs,ex,tv,ev,evs,evI,evBo,Da,Db,Res.bind_ok,Res.out_ok,Out.then_nxt,Out.then_ret,aa8,aaV,G2,G3,Cc,CP,BM,BN,Cd,BO,DI,DJ,DK,DL,CQ,CS,BA,decide_true,decide_false,if_true,if_false,aa1,abg,abj,abm,evP,ixD,CU,Dv,upd,AC,aaX,abP,aap,abF,biD,Dd,B6,Cm,on1,on2,on3,Du,Bt,Dc,CF,EF,CC,Eh,dI,dB,dS,dL,dT',un1,un0,BW,CD,E.isCN,Dw,reduceCtorEq,Int.reduceLT,Int.reduceLE,Int.reduceNeg,Int.reduceBEq,$xs,*] $[at $h:ident]?)
namespace Pu
open PySem
noncomputable def iN (n:Nat):D:=.int n
noncomputable def Bq (xs:List Nat):D:=.lst (xs.map iN)
noncomputable def lvD (p f h:Nat):List Nat:=(aaD (h + 1)).map (cnt p f)
noncomputable def shD (p f:Nat):D:=.tup [.int p,.int f]
noncomputable def Cl (l j:Nat):D:=.tup [.int l,.int j]
theorem Rq {m f:Nat} (hf:1<=f):((m:Int) + (f:Int) - 1) / (f:Int)=(((m + f - 1) / f:Nat):Int):=by
 rw [Int.natCast_ediv]; congr 1; omega
theorem Mb {xs:List Nat} {i:Nat} (h:i < xs.length):atD (xs.map iN) (i:Int)=.ok (.int (xs[i]:Nat)):=by
 unfold atD ixN
 rw [aab,if_pos (by exact aaC _),if_pos (by exact aa3.mpr h)]
 simp [h,iN]
theorem JT (p f i:Nat):((aaD (i + 1)).map (cnt p f)).map iN=((aaD i).map (cnt p f)).map iN ++ [.int (cnt p f i)]:=by
 rw [abw,aap,aap]; rfl
theorem CA (p f h:Nat):(lvD p f h).length=h + 1:=by unfold lvD; simp
theorem G4 {p f h i:Nat} (hi:i<=h):(lvD p f h)[i]'(by rw [CA]; exact abq hi)=cnt p f i:=by unfold lvD; simp
section
variable {p f h:Nat} (hf:2<=f) (hf8:f<=8) (H:Hs p f h) (hh:h<=8) {l j:Nat} (hl:l<=h) (hj:j < cnt p f l)
include hl hj
theorem Pn:BS.den [Bq (lvD p f h),Cl l j]=.ok (.bl true):=by
 have h1:=Bc (l:Int) 0 (((lvD p f h).length:Int) - 1)
 rw [CA,decide_eq_true (by omega)] at h1
 have h2:=Bc (j:Int) 0 ((cnt p f l:Int) - 1)
 rw [decide_eq_true (by omega)] at h2
 have h3:=Mb (xs:=lvD p f h) (i:=l) (by rw [CA]; exact abq hl)
 rw [G4 hl] at h3
 have h4:(h:Int) + 1 - 1=h:=by omega
 refine (Fg _ rfl).trans (Aj ?_)
 unfold Bq Cl
 have h5:=CA p f h
 simp_arith [Br,h1,h2,h3,h5,aab,aaQ,Nat.reduceAdd,acF]
end
theorem G5 {n:Nat} {b:Ss} {ds:List D} {δ:Fr} (h:exs b (Pu.AB n ds)=.nxt δ):run n b ds=.ok .non:=by
 unfold run; rw [h]
theorem Ho (xs:List D) (h:xs.all (D.shp 7)=true):c2 .eq (.lst xs) (.lst [])=.ok (.bl xs.isEmpty):=by
 show (if (D.shp 8 (.lst xs) && D.shp 8 (.lst [])) then _ else _)=_
 rw [show D.shp 8 (.lst xs)=true from h,show D.shp 8 (.lst [])=true from rfl]
 cases xs <;> rfl
noncomputable def A8 (q:Nat × Nat):D:=Cl q.1 q.2
theorem JU (xs:List D) (d:D):atD (xs ++ [d]) (-1)=.ok d:=by
 unfold atD ixN
 rw [if_neg (by decide),if_pos (by rw [aaG,abB]; omega),aaG,abB]
 show (match (xs ++ [d])[((-1:Int) + ((xs.length + 1:Nat):Int)).toNat]? with | some d=>Res.ok d | none=>Res.bad)=_
 rw [show ((-1:Int) + ((xs.length + 1:Nat):Int)).toNat=xs.length by omega,aaB (aan _),Nat.sub_self]
 rfl
section
variable {p f h:Nat} (hf:2<=f) (hf8:f<=8) (H:Hs p f h) (hh:h<=8)
include hf hf8 H hh
noncomputable def cL (p f i:Nat):D:=.lst (((aaD i).map (cnt p f)).map iN ++ [.int (cnt p f i)])
theorem Po (i:Nat) (hi:i<=8):exs AT [some (.int p),some (.int f),some (cL p f i)]=.nxt [some (.int p),some (.int f),some (cL p f (i + 1))]:=by
 have h0:=JU (((aaD i).map (cnt p f)).map iN) (.int (cnt p f i))
 have hap:=Bz (((aaD i).map (cnt p f)).map iN ++ [.int (cnt p f i)]) (.int (cnt p f (i + 1))) (by simp; exact aaL (Nat.add_le_add_right hi _) (by decide))
 have h1:0 < (f:Int):=by exact aa3.mpr (aaM hf)
 have h2:(f:Int) < 1606938044258990275541962092341162602522202993782792835301376:=by exact q9A hf8 (by decide)
 have e1:cL p f (i + 1)=.lst ((((aaD i).map (cnt p f)).map iN ++ [.int (cnt p f i)]) ++ [.int (cnt p f (i + 1))]):=by
  unfold cL; rw [JT]
 rw [e1]
 rw [IG (by omega),<- Rq (by omega)] at hap ⊢
 unfold cL
 generalize ((aaD i).map (cnt p f)).map iN=xs at *
 simp_arith [AT,h0,h1,h2,hap]
theorem Pp:DC (tv (.cmp .gt (.ixL (.nm 2) (.neg (.cI 1))) (.cI 1))) (exs AT) FU [some (.int p),some (.int f),some (cL p f 0)]=.nxt [some (.int p),some (.int f),some (cL p f h)]:=by
 have cd:∀ i,tv (.cmp .gt (.ixL (.nm 2) (.neg (.cI 1))) (.cI 1)) [some (.int p),some (.int f),some (cL p f i)]=.ok (decide (1 < (cnt p f i:Int))):=fun i=>by
  have h0:=JU (((aaD i).map (cnt p f)).map iN) (.int (cnt p f i))
  unfold cL
  simp_arith [h0]
 obtain ⟨δ',e,rfl⟩:=Fj (c:=tv (.cmp .gt (.ixL (.nm 2) (.neg (.cI 1))) (.cI 1))) (b:=exs AT) (fun i δ=>δ=[some (.int p),some (.int f),some (cL p f i)]) h FU 0 (δ:=[some (.int p),some (.int f),some (cL p f 0)]) rfl (by
   rintro i δ _ hi rfl
   have:=H.more i (by omega)
   refine ⟨?_,_,Po hf hf8 H hh i (by omega),rfl⟩
   rw [cd,decide_eq_true (by exact aa3.mpr this)]) (by
   rintro δ rfl
   rw [aaQ,cd,H.one]
   rfl) (by unfold FU; exact aaL hh (by decide))
 rw [e,aaQ]
theorem KG (hp:1<=p):Bs.den [.int p,.int f]=.ok (Bq (lvD p f h)):=by
 have hl:=Pp hf hf8 H hh
 have e:Bq (lvD p f h)=cL p f h:=by unfold Bq lvD cL; rw [JT]
 have c1:((p:Int)==0)=false:=by simp; exact abY hp
 have e0:cL p f 0=.lst [.int p]:=by unfold cL; rw [Gd]; rfl
 rw [e0] at hl
 rw [e]
 refine (Dz _ rfl).trans (Aj ?_)
 simp_arith [Be,c1,hl]
end
theorem Je (f:Nat):Bs.den [.int 0,.int f]=.ok (Bq []):=by
 refine (Dz _ rfl).trans (Aj ?_)
 unfold Bq
 simp_arith [Be]
theorem KH (p f l j:Nat) (hf8:f<=8):∃ o,CI (.nm 5) (exs Bh) (Ax 0 (l:Int)) [some (.int p),some (.int f),some (.int l),some (.int j),some (.int 1),none]=.nxt [some (.int p),some (.int f),some (.int l),some (.int j),some (.int ((f ^ l:Nat):Int)),o]:=by
 obtain ⟨δ',e,o,rfl⟩:=A9 (tg:=.nm 5) (b:=exs Bh) (fun i δ=>∃ o,δ=[some (.int p),some (.int f),some (.int l),some (.int j),some (.int ((f ^ i:Nat):Int)),o]) (ds:=Ax 0 (l:Int)) (δ:=[some (.int p),some (.int f),some (.int l),some (.int j),some (.int 1),none]) 0 ⟨none,rfl⟩ (by
  rintro i d δ hd ⟨o,rfl⟩
  refine ⟨_,_,rfl,?_,some d,rfl⟩
  have h1:-(18446744073709551616) < (f:Int):=by exact aaC _
  have h2:(f:Int) < 18446744073709551616:=by exact q9A hf8 (by decide)
  rw [abQ,aaQ,abL]
  simp_arith [Bh,h1,h2])
 rw [B3,acf,aaK,aaQ] at e
 exact ⟨o,e⟩
theorem Mc (p f l j:Nat) (hf8:f<=8) (hl:l<=8):Co.den [.int p,.int f,.int l,.int j]=.ok (Cl (j * f ^ l) (min p (j * f ^ l + f ^ l))):=by
 obtain ⟨o,e⟩:=KH p f l j hf8
 have hr:=Cy (a:=0) (b:=(l:Int)) (by exact by decide) (by exact by decide) (by exact aaC _) (by exact q9B hl (by decide))
 have hw:=SX (f:=f) (l:=l) hf8 (by exact aat hl (by decide))
 have h1:-(18446744073709551616) < ((f ^ l:Nat):Int):=by exact aaC _
 have h2:((f ^ l:Nat):Int) < 18446744073709551616:=by exact q9A hw (by decide)
 refine (Gc _ rfl).trans (Aj ?_)
 generalize f ^ l=w at *
 have h3:(((min p (j * w + w):Nat)):Int)=min (p:Int) ((j:Int) * w + w):=by rw [<- abL]; omega
 unfold Cl
 rw [h3,abL]
 simp_arith [BQ,hr,e,h1,h2]
mutual
theorem Ge:∀ {n:Nat} {d:D},D.shp n d=true->D.eqv d d=true
 | _,.non,_=>by simp [D.eqv]
 | _,.bl b,_=>by simp [D.eqv]
 | _,.int i,_=>by simp [D.eqv]
 | _,.str x,_=>by simp [D.eqv]
 | n + 1,.tup ds,h=>by rw [D.eqv]; exact eqvs_refl (n:=n) h
 | n + 1,.lst ds,h=>by rw [D.eqv]; exact eqvs_refl (n:=n) h
 | 0,.tup ds,h=>by cases h
 | 0,.lst ds,h=>by cases h
 | _,.exn _,h=>by simp [D.shp] at h
theorem eqvs_refl:∀ {n:Nat} {ds:List D},ds.all (D.shp n)=true->D.eqvs ds ds=true
 | _,[],_=>by simp [D.eqvs]
 | n,d :: ds,h=>by
  rw [aaR,aah] at h
  rw [D.eqvs,Ge h.1,eqvs_refl h.2]; rfl
end
theorem DM (d:D) (h:D.shp 8 d=true):c2 .eq d d=.ok (.bl true):=by
 show (if _ then _ else _)=_
 rw [h,Ge h]; rfl
theorem GI (d:D) (h:D.shp 8 d=true):c2 .ne d d=.ok (.bl false):=by
 show (if _ then _ else _)=_
 rw [h,Ge h]; rfl
theorem Rr (ds es:List D) (h:ds.length + es.length<=16777216):umD .extend [.lst es] ds=some (ds ++ es):=by
 show (if _ then _ else _)=_
 exact if_pos h
structure Sp (p f h:Nat):Prop where
 hf:2<=f
 hf8:f<=8
 hp:p<=200
 hh:h<=8
 hs:p=0\/Hs p f h
theorem pw6:b2 .pow (.int 10) (.int 6)=.ok (.int 1000000):=by
 rw [Dt _ _ (by decide) (by decide) (by decide)]; rfl
theorem IH (d:D):∀ n,(aak n [d]).flatten=aak n d
 | 0=>rfl
 | n + 1=>by rw [abe,aby,IH d n]; rfl
theorem Rt (d:D) (n:Nat) (h:n<=1000):b2 .mul (.lst [d]) (.int n)=.ok (.lst (aak n d)):=by
 rw [b2,HQ,if_pos]
 ·rw [aaK,IH]
 ·rw [aaK,abB]
  unfold LIM
  omega
theorem m4c (x:Int):x % 4=0\/x % 4=1\/x % 4=2\/x % 4=3:=by omega
section
variable {xs rs:List Int} {k:Nat} {s p m:D} {sc x c e:Int} {o7:Option D} (h0:0<=sc) (h1:sc<=100000000000000000) (x0:0<=x) (x1:x < 13) (e0:0<=e) (e1:e < 13) (a2:atD (xs.map D.int) 2=.ok (.int c)) (a3:atD (xs.map D.int) 3=.ok (.int e)) (ak:atD (xs.map D.int) (4 + (k:Int))=.ok (.int x)) (hr:rs.length<=1000)
include h0 h1 x0 x1 e0 e1 a2 a3 ak hr
theorem Pq:∃ (r:Int) (o7':Option D),0<=r/\r<=1000000000000000000/\exs As [some s,some p,some m,some (.lst (xs.map .int)),some (.int sc),some (.lst (rs.map .int)),some (.int k),o7]=.nxt [some s,some p,some m,some (.lst (xs.map .int)),some (.int sc),some (.lst ((rs ++ [r]).map .int)),some (.int k),o7']:=by
 have hap:=fun r=>Bz (rs.map D.int) (.int r) (by rw [aab]; exact aaL hr (by decide))
 have fin:∀ w:Int,0<=w->0<=min 1000000000000000000 (w * sc + (if (w==12)=true then 1 else 0) * 4):=fun w hw=>Int.le_min.mpr ⟨by decide,abS (Int.mul_nonneg hw h0) (by split <;> decide)⟩
 have big:∀ w:Int,min 1000000000000000000 (w * sc + (if (w==12)=true then 1 else 0) * 4)<=1000000000000000000:=fun w=>Int.min_le_left ..
 have l3:(0:Int) < 3:=by decide
 have l4:(0:Int) < 4:=by decide
 have l5:(0:Int) < 13:=by decide
 have l6:(4:Int) < 1606938044258990275541962092341162602522202993782792835301376:=by decide
 have s1:-18446744073709551616 < sc:=by exact abM (by decide) h0
 have s2:sc < 18446744073709551616:=by exact ab7 h1 (by decide)
 have m3:=abh x (show (3:Int) ≠ 0 by decide)
 have m4:=abh x (show (4:Int) ≠ 0 by decide)
 have m4':=abO x l4
 have m13:=abh (e + (k:Int)) (show (13:Int) ≠ 0 by decide)
 by_cases c1:c=1
 ·subst c1
  refine ⟨_,some (.int (x % 3)),fin (x % 3) m3,big _,?_⟩
  simp_arith [As,a2,ak,l3,hap,s1,s2]
 by_cases c2:c=2
 ·subst c2
  obtain ⟨v,hv,v0,v1⟩:∃ v:Int,atD [.int 0,.int 0,.int 0,.int 1] (x % 4)=.ok (.int v)/\0<=v/\v<=1:=by
   rcases m4c x with h | h | h | h <;> rw [h] <;> refine ⟨_,rfl,?_,?_⟩ <;> decide
  have v2:-18446744073709551616 < v:=by exact abM (by decide) v0
  have v3:v < 18446744073709551616:=by exact ab7 v1 (by decide)
  refine ⟨_,some (.int (v * (1 + x / 4))),fin (v * (1 + x / 4)) (Int.mul_nonneg v0 (abS (by decide) (ack x0 (by decide)))),big _,?_⟩
  simp_arith [As,a2,ak,l4,l6,hv,v2,v3,hap,s1,s2]
 by_cases c3:c=3
 ·subst c3
  refine ⟨_,some (.int ((e + (k:Int)) % 13)),fin ((e + (k:Int)) % 13) m13,big _,?_⟩
  simp_arith [As,a2,a3,ak,l5,hap,s1,s2]
 by_cases c4:c=4
 ·subst c4
  refine ⟨_,some (.int e),fin e e0,big _,?_⟩
  simp_arith [As,a2,a3,ak,hap,s1,s2]
 ·have d1:(c==1)=false:=beq_eq_false_iff_ne.mpr c1
  have d2:(c==2)=false:=beq_eq_false_iff_ne.mpr c2
  have d3:(c==3)=false:=beq_eq_false_iff_ne.mpr c3
  have d4:(c==4)=false:=beq_eq_false_iff_ne.mpr c4
  refine ⟨_,some (.int x),fin x x0,big _,?_⟩
  simp_arith [As,a2,ak,d1,d2,d3,d4,hap,s1,s2]
end
theorem Me (ns:List Int) (p:Int) (hp:0<=p) (m:Nat) (hm:m<=200):∃ rs:List Int,rs.length<=m/\(∀ r ∈ rs,0<=r/\r<=1000000000000000000)/\Cn.den [.lst (ns.map .int),.int p,.int m]=.ok (.lst (rs.map .int)):=by
 obtain ⟨xs,hrow,hl,hb⟩:=FH ns p hp ([(m:Int) + 1,5,6,13] ++ aak m 13) (by simp; exact aat hm (by decide)) (by
  intro s hs
  rcases aaf.mp hs with h | h
  ·simp only [aal,abX,or_false] at h
   rcases h with rfl | rfl | rfl | rfl <;> omega
  ·rw [(abu.mp h).2]; decide)
 have hl:xs.length=m + 4:=by rw [hl,aaG,aa4]; simp; exact ace ..
 have g:∀ i,i < m + 4->∃ x,xs[i]?=some x:=fun i hi=>⟨_,aai (by exact hl ▸ hi)⟩
 obtain ⟨c0,g0⟩:=g 0 (by exact acG _)
 obtain ⟨c1,g1⟩:=g 1 (by exact abK ..)
 obtain ⟨c2,g2⟩:=g 2 (by exact abK ..)
 obtain ⟨c3,g3⟩:=g 3 (by exact abK ..)
 have b0:=hb 0 c0 ((m:Int) + 1) g0 (by simp)
 have b1:=hb 1 c1 5 g1 (by simp)
 have b3:=hb 3 c3 13 g3 (by simp)
 have bk:∀ i:Nat,i < m->∃ x,xs[4 + i]?=some x/\0<=x/\x < 13:=fun i hi=>by
  obtain ⟨x,gx⟩:=g (4 + i) (by omega)
  refine ⟨x,gx,hb (4 + i) x 13 gx ?_⟩
  rw [aaB (by simp)]
  simp [hi]
 have a0:=Cz g0
 have a1:=Cz g1
 have a2:=Cz g2
 have a3:=Cz g3
 obtain ⟨sc,hsc,s0,s1⟩:∃ v:Int,atD [.int 1,.int 1,.int 7,.int 1000000,.int 83333333333333333] c1=.ok (.int v)/\0<=v/\v<=100000000000000000:=by
  have:c1=0\/c1=1\/c1=2\/c1=3\/c1=4:=by omega
  rcases this with rfl | rfl | rfl | rfl | rfl <;> refine ⟨_,rfl,?_,?_⟩ <;> decide
 obtain ⟨n,rfl⟩:∃ n:Nat,c0=n:=⟨c0.toNat,by omega⟩
 obtain ⟨δ',e,rs,o6,o7,rfl,hrl,hrb⟩:=A9 (tg:=.nm 6) (b:=exs As) (fun i δ=>∃ (rs:List Int) (o6 o7:Option D),δ=[some (.lst (ns.map .int)),some (.int p),some (.int m),some (.lst (xs.map .int)),some (.int sc),some (.lst (rs.map .int)),o6,o7]/\rs.length=i/\∀ r ∈ rs,0<=r/\r<=1000000000000000000) (ds:=Ax 0 (n:Int)) (δ:=[some (.lst (ns.map .int)),some (.int p),some (.int m),some (.lst (xs.map .int)),some (.int sc),some (.lst []),none,none]) 0 ⟨[],none,none,rfl,rfl,fun _ h=>nomatch h⟩ (by
  rintro i d δ hd ⟨rs,o6,o7,rfl,hrl,hrb⟩
  obtain ⟨rfl,hi⟩:=B0 hd
  rw [abR]
  obtain ⟨x,gx,x0,x1⟩:=bk i (by omega)
  have ak:=Cz gx
  rw [show ((4 + i:Nat):Int)=4 + (i:Int) by exact rfl] at ak
  obtain ⟨r,o7',r0,r1,e⟩:=Pq (s:=.lst (ns.map .int)) (p:=.int p) (m:=.int m) (o7:=o7) s0 s1 x0 x1 b3.1 b3.2 a2 a3 ak (rs:=rs) (by omega)
  refine ⟨_,_,rfl,e,rs ++ [r],some (.int i),o7',rfl,by simp; omega,fun y hy=>?_⟩
  rcases aaf.mp hy with h | h
  ·exact hrb y h
  ·rw [aav.mp h]; exact ⟨r0,r1⟩)
 rw [B3] at hrl
 refine ⟨rs,by omega,hrb,?_⟩
 have hr:=Cy (a:=0) (b:=(n:Int)) (by exact by decide) (by exact by decide) (by exact aaC _) (by omega)
 have hrep:=Rt (.int 13) m (by exact aat hm (by decide))
 have hadd:=JR [.int ((m:Int) + 1),.int 5,.int 6,.int 13] (aak m (.int 13)) (by simp; exact aat (Nat.add_le_add_left hm _) (by decide))
 rw [aap,abb] at hrow
 refine (Gb _ rfl).trans (Aj ?_)
 have a0':atD (xs.map D.int) 0=.ok (.int n):=a0
 have a1':atD (xs.map D.int) 1=.ok (.int c1):=a1
 generalize aak m (D.int 13)=zs at *
 simp only [abF,aa2,abc] at hrow hadd
 simp_arith [BP,hrep,hadd,hrow,pw6,hsc,a0',a1',hr,e]
theorem Pr (ns:List Int) (p:Int) (hp:0<=p):∃ f:Nat,2<=f/\f<=8/\C9.den [.lst (ns.map .int),.int p]=.ok (.int f):=by
 obtain ⟨xs,hrow,hl,hb⟩:=FH ns p hp [7] (by decide) (by decide)
 obtain ⟨a,rfl⟩:=Rp hl
 have ha:=hb 0 a 7 rfl rfl
 simp only [abF] at hrow
 refine ⟨(2 + a).toNat,by omega,by omega,?_⟩
 rw [abH (by omega)]
 refine (G0 _ rfl).trans (Aj ?_)
 simp_arith [Ck,hrow,SW]
theorem Ps {rs:List Int} {a b:Nat} (ha:a<=rs.length) (hb:b<=rs.length):cut (rs.map D.int) (some (a:Int)) (some (b:Int))=((rs.drop a).take (b - a)).map D.int:=by
 have e1:sIx rs.length 0 (some (a:Int))=a:=by
  show (if (a:Int) < 0 then _ else _:Int).toNat=a
  rw [if_neg (by exact q9F)]; omega
 have e2:sIx rs.length rs.length (some (b:Int))=b:=by
  show (if (b:Int) < 0 then _ else _:Int).toNat=b
  rw [if_neg (by exact q9F)]; omega
 unfold cut
 rw [aab,e1,e2,<- aca,<- ab9]
theorem DN:∀ ys:List Int,B5 (ys.map .int)=some ys
 | []=>rfl
 | y :: r=>by rw [aa7,B5,DN r]; rfl
noncomputable def mxR (rs:List Int) (a b:Nat):Int:=((rs.drop a).take (b - a)).max?.getD 0
theorem II {ys:List Int} (h:ys ≠ []):ys.max?=some (ys.max?.getD 0):=by
 cases q:ys.max? with
 | none=>exact absurd (List.max?_eq_none_iff.mp q) h
 | some m=>rfl
theorem IJ {rs:List Int} {a b:Nat} (hab:a < b) (hb:b<=rs.length):((rs.drop a).take (b - a)).max?=some (mxR rs a b):=by
 apply II
 intro h
 have:=congrArg aa6 h
 rw [abn,acd] at this
 simp at this
 omega
noncomputable def An (rs:List Int) (f l n:Nat):List Int:=(aaD n).map fun j=>mxR rs (j * f ^ l) (min rs.length (j * f ^ l + f ^ l))
noncomputable def Ad (rs:List Int) (f n:Nat):List (List Int):=(aaD n).map fun l=>An rs f l (cnt rs.length f l)
noncomputable def Ac (xs:List Int):D:=.lst (xs.map .int)
noncomputable def Ab (tr:List (List Int)):D:=.lst (tr.map Ac)
theorem Ny (rs:List Int) (f l n:Nat):An rs f l (n + 1)=An rs f l n ++ [mxR rs (n * f ^ l) (min rs.length (n * f ^ l + f ^ l))]:=by
 unfold An; rw [abw,aap]; rfl
theorem Fk (rs:List Int) (f n:Nat):Ad rs f (n + 1)=Ad rs f n ++ [An rs f n (cnt rs.length f n)]:=by
 unfold Ad; rw [abw,aap]; rfl
section
variable {rs:List Int} {f h:Nat} (hf:2<=f) (hf8:f<=8) (H:Hs rs.length f h) (hh:h<=8) (hn:rs.length<=200)
include hf hf8 H hh hn
theorem Pt (tr co:D) (l j:Nat) (hl:l<=h) (hj:j < cnt rs.length f l) (o7 o8:Option D):∃ o7' o8',exs A4 [some (Ac rs),some (.int f),some tr,some co,some (.int l),some (Ac (An rs f l j)),some (.int j),o7,o8]=.nxt [some (Ac rs),some (.int f),some tr,some co,some (.int l),some (Ac (An rs f l (j + 1))),some (.int j),o7',o8']:=by
 have hr:=Mc rs.length f l j hf8 (by exact aat hl hh)
 have hlt:=(D7 (show 1<=f by exact aaM hf)).mp hj
 have hw:0 < f ^ l:=abl (by exact aaM hf)
 have hc:=Ps (rs:=rs) (a:=j * f ^ l) (b:=min rs.length (j * f ^ l + f ^ l)) (by exact aaM hlt) (by exact aaO ..)
 have hm:=IJ (rs:=rs) (a:=j * f ^ l) (b:=min rs.length (j * f ^ l + f ^ l)) (by omega) (by exact aaO ..)
 have hcl:=EB (p:=rs.length) (f:=f) (l:=l) (by exact aaM hf)
 have hap:=Bz ((An rs f l j).map .int) (.int (mxR rs (j * f ^ l) (min rs.length (j * f ^ l + f ^ l)))) (by unfold An; simp; omega)
 have hi:=DN ((rs.drop (j * f ^ l)).take (min rs.length (j * f ^ l + f ^ l) - j * f ^ l))
 refine ⟨some (.int ((j * f ^ l:Nat):Int)),some (.int ((min rs.length (j * f ^ l + f ^ l):Nat):Int)),?_⟩
 rw [Ny]
 unfold Ac
 rw [aap]
 generalize mxR rs (j * f ^ l) (min rs.length (j * f ^ l + f ^ l))=M at *
 generalize (rs.drop (j * f ^ l)).take (min rs.length (j * f ^ l + f ^ l) - j * f ^ l)=ys at *
 generalize min rs.length (j * f ^ l + f ^ l)=e at *
 generalize j * f ^ l=a at *
 unfold Cl at hr
 generalize (An rs f l j).map D.int=zs at *
 simp_arith [A4,aab,hr,CG,Eu,hc,hi,Eg,hm,hap]
theorem Ru (tr:D) (l:Nat) (hl:l<=h) (o6 o7 o8:Option D):∃ o6' o7' o8',CI (.nm 6) (exs A4) (Ax 0 (cnt rs.length f l)) [some (Ac rs),some (.int f),some tr,some (Bq (lvD rs.length f h)),some (.int l),some (Ac []),o6,o7,o8]=.nxt [some (Ac rs),some (.int f),some tr,some (Bq (lvD rs.length f h)),some (.int l),some (Ac (An rs f l (cnt rs.length f l))),o6',o7',o8']:=by
 obtain ⟨δ',e,o6',o7',o8',rfl⟩:=A9 (tg:=.nm 6) (b:=exs A4) (fun j δ=>∃ o6 o7 o8,δ=[some (Ac rs),some (.int f),some tr,some (Bq (lvD rs.length f h)),some (.int l),some (Ac (An rs f l j)),o6,o7,o8]) (ds:=Ax 0 (cnt rs.length f l)) (δ:=[some (Ac rs),some (.int f),some tr,some (Bq (lvD rs.length f h)),some (.int l),some (Ac []),o6,o7,o8]) 0 ⟨o6,o7,o8,rfl⟩ (by
  rintro j d δ hd ⟨o6,o7,o8,rfl⟩
  obtain ⟨rfl,hj⟩:=B0 hd
  rw [abR,aaQ]
  obtain ⟨q7,q8,e⟩:=Pt hf hf8 H hh hn tr (Bq (lvD rs.length f h)) l j hl (by exact aa3.mp hj) o7 o8
  exact ⟨_,_,rfl,e,some (.int j),q7,q8,rfl⟩)
 rw [B3,acf,aaK,aaQ] at e
 exact ⟨o6',o7',o8',e⟩
theorem Nz (l:Nat) (hl:l<=h) (o5 o6 o7 o8:Option D):∃ o5' o6' o7' o8',exs A5 [some (Ac rs),some (.int f),some (Ab (Ad rs f l)),some (Bq (lvD rs.length f h)),some (.int l),o5,o6,o7,o8]=.nxt [some (Ac rs),some (.int f),some (Ab (Ad rs f (l + 1))),some (Bq (lvD rs.length f h)),some (.int l),o5',o6',o7',o8']:=by
 obtain ⟨o6',o7',o8',e⟩:=Ru hf hf8 H hh hn (Ab (Ad rs f l)) l hl o6 o7 o8
 have h5:=Mb (xs:=lvD rs.length f h) (i:=l) (by rw [CA]; exact abq hl)
 rw [G4 hl] at h5
 have hcl:=EB (p:=rs.length) (f:=f) (l:=l) (by exact aaM hf)
 have hr:=Cy (a:=0) (b:=(cnt rs.length f l:Int)) (by exact by decide) (by exact by decide) (by exact aaC _) (by exact q9L hcl hn (by decide))
 have hap:=Bz ((Ad rs f l).map Ac) (Ac (An rs f l (cnt rs.length f l))) (by unfold Ad; simp; exact q9K hl hh (by decide))
 refine ⟨some (Ac (An rs f l (cnt rs.length f l))),o6',o7',o8',?_⟩
 rw [Fk]
 unfold Ab Bq at *
 rw [aap]
 generalize An rs f l (cnt rs.length f l)=zs at *
 unfold Ac at e hap ⊢
 rw [abA] at e
 simp_arith [A5,h5,hr,e,hap]
theorem IK (hn1:1<=rs.length):Av.den [Ac rs,.int f]=.ok (Ab (Ad rs f (h + 1))):=by
 have hc:=KG hf hf8 H hh hn1
 have hr:=Cy (a:=0) (b:=((h + 1:Nat):Int)) (by exact by decide) (by exact by decide) (by exact aaC _) (by exact q9A hh (by decide))
 obtain ⟨δ',e,o4,o5,o6,o7,o8,rfl⟩:=A9 (tg:=.nm 4) (b:=exs A5) (fun l δ=>∃ o4 o5 o6 o7 o8,δ=[some (Ac rs),some (.int f),some (Ab (Ad rs f l)),some (Bq (lvD rs.length f h)),o4,o5,o6,o7,o8]) (ds:=Ax 0 ((h + 1:Nat):Int)) (δ:=[some (Ac rs),some (.int f),some (Ab []),some (Bq (lvD rs.length f h)),none,none,none,none,none]) 0 ⟨none,none,none,none,none,rfl⟩ (by
  rintro l d δ hd ⟨o4,o5,o6,o7,o8,rfl⟩
  obtain ⟨rfl,hl⟩:=B0 hd
  rw [abR,aaQ]
  obtain ⟨q5,q6,q7,q8,e⟩:=Nz hf hf8 H hh hn l (by exact q9O hl) o5 o6 o7 o8
  exact ⟨_,_,rfl,e,some (.int l),q5,q6,q7,q8,rfl⟩)
 rw [B3,show 0 + (((h + 1:Nat):Int) - 0).toNat=h + 1 by exact ace ..] at e
 have hll:=CA rs.length f h
 refine (Ed _ rfl).trans (Aj ?_)
 unfold Bq at hc e
 unfold Ab at e ⊢
 rw [abA] at e
 unfold Ac at e ⊢
 simp_arith [By,aab,hc,hll,hr,e]
end
theorem Mf (f:Nat):Av.den [Ac [],.int f]=.ok (Ab []):=by
 have hc:=Je f
 have hr:=Cy (a:=0) (b:=0) (by exact by decide) (by exact by decide) (by exact by decide) (by exact by decide)
 have e:CI (.nm 4) (exs A5) (Ax 0 0) [some (.lst []),some (.int f),some (.lst []),some (.lst []),none,none,none,none,none]=.nxt [some (.lst []),some (.int f),some (.lst []),some (.lst []),none,none,none,none,none]:=rfl
 refine (Ed _ rfl).trans (Aj ?_)
 unfold Ac Ab Bq at *
 simp_arith [By,hc,hr,e,acg]
theorem Fl (xs:List Int) (m k:Nat):D.flat (m + 2) (k + 1) (Ac xs)=true:=by
 unfold Ac
 show (xs.map D.int).all (D.flat (m + 1) k)=true
 rw [aau]
 intro d hd
 obtain ⟨x,rfl⟩:=EQ hd
 rfl
theorem Fm (tr:List (List Int)):D.flat 9 2 (Ab tr)=true:=by
 show (tr.map Ac).all (D.flat 8 1)=true
 rw [aau]
 intro d hd
 obtain ⟨x,_,rfl⟩:=aaz.mp hd
 exact Fl x 6 0
theorem NA (xs:List Int) (k:Nat):D.shp (k + 1) (Ac xs)=true:=by
 show (xs.map D.int).all (D.shp k)=true
 rw [aau]
 intro d hd
 obtain ⟨x,rfl⟩:=EQ hd
 cases k <;> rfl
theorem ER (tr:List (List Int)):D.shp 8 (Ab tr)=true:=by
 show (tr.map Ac).all (D.shp 7)=true
 rw [aau]
 intro d hd
 obtain ⟨x,_,rfl⟩:=aaz.mp hd
 exact NA x 6
noncomputable def tl (tr:List (List Int)) (l j:Nat):Int:=(tr.getD l []).getD j 0
noncomputable def Dim (tr:List (List Int)) (p f h:Nat):Prop:=tr.map aa6=lvD p f h
theorem Cp (rs:List Int) (f h:Nat):Dim (Ad rs f (h + 1)) rs.length f h:=by
 unfold Dim Ad lvD
 rw [aaT]
 apply aba
 intro l _
 show (An rs f l (cnt rs.length f l)).length=_
 unfold An; simp
section
variable {tr:List (List Int)} {p f h:Nat} (hd:Dim tr p f h)
include hd
theorem DS:tr.length=h + 1:=by
 have:=congrArg aa6 hd
 rwa [aab,CA] at this
theorem DT {l:Nat} (hl:l<=h):(tr.getD l []).length=cnt p f l/\tr[l]?=some (tr.getD l []):=by
 have h1:=DS hd
 have h2:tr[l]?=some tr[l]:=aai (by exact aaL hl (acz h1.symm))
 have h3:tr.getD l []=tr[l]:=by rw [aaJ,h2]; rfl
 rw [h3]
 refine ⟨?_,h2⟩
 have h4:(tr.map aa6)[l]?=some tr[l].length:=by rw [aaj,h2]; rfl
 rw [hd] at h4
 have h5:(lvD p f h)[l]?=some (cnt p f l):=by rw [aai (by rw [CA]; exact abq hl),G4 hl]
 rw [h5] at h4
 exact (Option.some.inj h4).symm
theorem EC {l:Nat} (hl:l<=h):atD (tr.map Ac) (l:Int)=.ok (Ac (tr.getD l [])):=by
 have h1:=DS hd
 unfold atD ixN
 rw [aab,if_pos (by exact aaC _),if_pos (by omega)]
 show (match (tr.map Ac)[(l:Int).toNat]? with | some d=>Res.ok d | none=>Res.bad)=_
 rw [aaK,aaj,(DT hd hl).2]
 rfl
theorem GJ {l j:Nat} (hl:l<=h) (hj:j < cnt p f l):atD ((tr.getD l []).map D.int) (j:Int)=.ok (.int (tl tr l j)):=by
 apply Cz
 unfold tl
 rw [aaJ (l:=tr.getD l []),aai (by rw [(DT hd hl).1]; exact hj)]
 rfl
theorem Hu:D4.den [Ab tr]=.ok (Bq (lvD p f h)):=by
 have h2:=D6 (nl:=1) (fr:=[]) (tg:=.nm 0) (it:=.seq (.nm 0)) (elt:=.bi .len (.cons (.nm 0) .nil)) (δ:=[some (Ab tr)]) (ds:=tr.map Ac) (g:=fun d=>match d with | .lst ds=>.int ds.length | d=>d) (by unfold Ab; simp_arith []) (fun d hd=>by
  obtain ⟨x,_,rfl⟩:=aaz.mp hd
  refine ⟨[some (Ac x)],rfl,?_⟩
  unfold Ac
  simp_arith [])
 have e:(tr.map Ac).map (fun d=>match d with | .lst ds=>D.int ds.length | d=>d)=(lvD p f h).map iN:=by
  rw [<- hd,aaT,aaT]
  apply aba
  intro x _
  show D.int ((x.map D.int).length:Int)=iN x.length
  rw [aab]; rfl
 rw [e] at h2
 refine (IA _ rfl).trans (Aj ?_)
 unfold Ab Bq at *
 simp_arith [] at h2
 simp_arith [Di,h2]
theorem Mg {l j:Nat} (hl:l<=h) (hj:j < cnt p f l):D5.den [Ab tr,Cl l j]=.ok (.int (tl tr l j)):=by
 have h1:=Hu hd
 have h2:=Pn hl hj
 have h3:Em.den [Ab tr,Cl l j]=.ok (.bl true):=by
  refine (Jb _ rfl).trans (Aj ?_)
  simp_arith [DH,h1,h2]
 have h4:B4.den [Ab tr,Cl l j]=.ok .non:=by
  refine (FM _ rfl).trans (G5 (δ:=[some (Ab tr),some (Cl l j)]) ?_)
  simp_arith [BE,h3]
 have h5:=EC hd hl
 have h6:=GJ hd hl hj
 refine (Nw _ rfl).trans (Aj ?_)
 unfold Ab Ac Cl at *
 simp_arith [FG,h4,h5,h6]
theorem Pv:(tr.map Ac).isEmpty=false:=by
 have h1:=DS hd
 cases tr with
 | nil=>cases h1
 | cons a r=>rfl
theorem CT:Bo.den [Ab tr]=.ok (Ac (tr.getD 0 [])):=by
 have h1:=Ho (tr.map Ac) (ER tr)
 rw [Pv hd] at h1
 have h2:=EC hd (aay h)
 rw [show ((0:Nat):Int)=0 from rfl] at h2
 refine (FW _ rfl).trans (Aj ?_)
 unfold Ab Ac at *
 simp_arith [CK,h1,h2]
theorem Fo:Bp.den [Ab tr,.int f]=.ok (shD p f):=by
 have h1:=CT hd
 have h2:=(DT hd (aay h)).1
 rw [Gd] at h2
 refine (FX _ rfl).trans (Aj ?_)
 unfold Ac at h1
 unfold shD
 simp_arith [CL,h1,aab,h2]
end
theorem Hq (rs:List Int):Bg (rs.map .int)=(aaD rs.length).map fun i=>D.tup [.int (i:Nat),.int (rs.getD i 0)]:=by
 apply abV
 intro i
 unfold Bg
 rw [aaj,ab0,aaj,aaj]
 by_cases h:i < rs.length
 ·rw [aai h,abI h]
  show some (D.tup [.int ((0 + i:Nat):Int),.int rs[i]])=some (D.tup [.int (i:Nat),.int (rs.getD i 0)])
  rw [aaQ,aaJ,aai h]; rfl
 ·rw [abE (by exact abk.mp h),abE (by rw [aa0]; exact abk.mp h)]; rfl
theorem Sr {rs:List Int} {i:Nat} (h:i < rs.length):atD (rs.map D.int) (i:Int)=.ok (.int (rs.getD i 0)):=by
 apply Cz
 rw [aaJ,aai h]; rfl
theorem Pw {y:Int} {n:Nat} (hn:0 < n):∃ k:Nat,k < n/\y % (n:Int)=k:=by
 have h1:=abh y (show (n:Int) ≠ 0 by omega)
 have h2:=abO y (show 0 < (n:Int) by exact aa3.mpr hn)
 exact ⟨(y % (n:Int)).toNat,by omega,by exact (abH h1).symm⟩
theorem NB (ns:List Int) (q:Int) (hq:0<=q) (a b:Nat) {A B:Int} (hA:A=(a:Int)) (hB:B=(b:Int)):∃ m:Nat,(m=a\/m=b)/\∀ r:Fr,ev (.ix (.lst (.cons (.cI A) (.cons (.cI B) .nil))) (.bi .int (.cons (.cmp .eq (.ix (.call AK (.cons (.nm 0) (.cons (.cI q) (.cons (.lst (.cons (.cI 8) .nil)) .nil)))) (.cI 0)) (.cI 0)) .nil))) (some (.lst (ns.map .int)) :: r)=.ok (.int (m:Int)):=by
 subst hA hB
 obtain ⟨ys,hrow,hyl,hb⟩:=FH ns q hq [8] (by decide) (by decide)
 obtain ⟨x,rfl⟩:=Rp hyl
 simp only [abF] at hrow
 have hz:atD [D.int x] 0=.ok (.int x):=rfl
 by_cases c:x=0
 ·subst c
  refine ⟨b,.inr rfl,fun r=>?_⟩
  simp_arith [hrow,hz]
 ·have c1:(x==0)=false:=beq_eq_false_iff_ne.mpr c
  refine ⟨a,.inl rfl,fun r=>?_⟩
  simp_arith [hrow,hz,c1]
theorem IL {rs:List Int} {f:Nat} (hf:2<=f) (hf8:f<=8) (hn:rs.length<=200):∃ tr:List (List Int),Av.den [Ac rs,.int f]=.ok (Ab tr)/\((tr=[]/\rs=[])\/∃ h,h<=8/\Hs rs.length f h/\1<=rs.length/\tr=Ad rs f (h + 1)):=by
 by_cases c:1<=rs.length
 ·obtain ⟨h,hh,H⟩:=hs8 hf c hn
  exact ⟨_,IK hf hf8 H hh hn c,.inr ⟨h,hh,H,c,rfl⟩⟩
 ·have:rs=[]:=ach.mp (by omega)
  subst this
  exact ⟨[],Mf f,.inl ⟨rfl,rfl⟩⟩
theorem FI {rs:List Int} {a b:Nat} {x:Int}:x ∈ (rs.drop a).take (b - a) ↔ ∃ k,a<=k/\k < b/\rs[k]?=some x:=by
 rw [List.mem_iff_getElem?]
 constructor
 ·rintro ⟨n,h⟩
  rw [acH] at h
  split at h
  ·rw [acI] at h
   exact ⟨a + n,by exact Nat.le_add_right ..,by omega,h⟩
  ·cases h
 ·rintro ⟨k,h1,h2,h3⟩
  refine ⟨k - a,?_⟩
  rw [acH,if_pos (by exact Nat.sub_lt_sub_right h1 h2),acI,show a + (k - a)=k by exact Nat.add_sub_cancel' h1,h3]
theorem HC {rs:List Int} {a b:Nat} {M:Int} (h1:∃ k,a<=k/\k < b/\rs[k]?=some M) (h2:∀ k x,a<=k->k < b->rs[k]?=some x->x<=M):mxR rs a b=M:=by
 have:((rs.drop a).take (b - a)).max?=some M:=abD.mpr ⟨FI.mpr h1,fun x hx=>by
  obtain ⟨k,q1,q2,q3⟩:=FI.mp hx
  exact h2 k x q1 q2 q3⟩
 unfold mxR
 rw [this]; rfl
theorem KI {rs:List Int} {a b:Nat} (hab:a < b) (hb:b<=rs.length):(∃ k,a<=k/\k < b/\rs[k]?=some (mxR rs a b))/\∀ k x,a<=k->k < b->rs[k]?=some x->x<=mxR rs a b:=by
 obtain ⟨h1,h2⟩:=abD.mp (IJ hab hb)
 exact ⟨FI.mp h1,fun k x q1 q2 q3=>h2 x (FI.mpr ⟨k,q1,q2,q3⟩)⟩
theorem Py {rs:List Int} {f l c j:Nat} {x:Int} (h:(An rs f l c)[j]?=some x):j < c/\x=mxR rs (j * f ^ l) (min rs.length (j * f ^ l + f ^ l)):=by
 unfold An at h
 rw [aaj] at h
 obtain ⟨i,h1,h2⟩:=aar.mp h
 obtain ⟨h3,h4⟩:=aaq.mp h1
 rw [acE] at h4
 rw [aa0] at h3
 subst h4
 exact ⟨h3,h2.symm⟩
theorem Mh (rs:List Int) (f l:Nat) {c j:Nat} (h:j < c):(An rs f l c)[j]?=some (mxR rs (j * f ^ l) (min rs.length (j * f ^ l + f ^ l))):=by
 unfold An
 rw [aaj,abI h]; rfl
theorem Su {rs:List Int} {f l A:Nat} (hf:1<=f) (hA:A < cnt rs.length f l):mxR (An rs f l (cnt rs.length f l)) A (min (cnt rs.length f l) (A + f))=mxR rs (A * f ^ l) (min rs.length (A * f ^ l + f * f ^ l)):=by
 have hw:0 < f ^ l:=abl (by exact hf)
 have hlt:=(D7 hf).mp hA
 have hfw:0 < f * f ^ l:=Nat.mul_pos (by exact hf) hw
 have lc:∀ j,j * f ^ l < rs.length->j < cnt rs.length f l:=fun j h=>(D7 hf).mpr h
 obtain ⟨⟨k,k1,k2,k3⟩,hall⟩:=KI (rs:=rs) (a:=A * f ^ l) (b:=min rs.length (A * f ^ l + f * f ^ l)) (by omega) (by exact aaO ..)
 have e1:(A + f) * f ^ l=A * f ^ l + f * f ^ l:=Nat.add_mul _ _ _
 generalize mxR rs (A * f ^ l) (min rs.length (A * f ^ l + f * f ^ l))=M at *
 have row:∀ j,j < cnt rs.length f l->A<=j->j < A + f->(∃ q,A * f ^ l<=q/\q < min rs.length (A * f ^ l + f * f ^ l)/\rs[q]?=some (mxR rs (j * f ^ l) (min rs.length (j * f ^ l + f ^ l)))):=fun j hj h1 h2=>by
  have hjl:=(D7 hf).mp hj
  obtain ⟨⟨q,q1,q2,q3⟩,_⟩:=KI (rs:=rs) (a:=j * f ^ l) (b:=min rs.length (j * f ^ l + f ^ l)) (by omega) (by exact aaO ..)
  have m1:A * f ^ l<=j * f ^ l:=abG _ h1
  have m2:(j + 1) * f ^ l<=(A + f) * f ^ l:=abG _ h2
  rw [abC] at m2
  exact ⟨q,by exact aat m1 q1,by omega,q3⟩
 refine HC ?_ fun j x h1 h2 h3=>?_
 ·have j1:k / f ^ l * f ^ l<=k:=acw _ _
  have j2:k < k / f ^ l * f ^ l + f ^ l:=Nat.lt_div_mul_add hw
  have jA:A<=k / f ^ l:=(abi hw).mpr k1
  have jB:k / f ^ l < A + f:=(Nat.div_lt_iff_lt_mul hw).mpr (by omega)
  have jC:=lc (k / f ^ l) (by omega)
  refine ⟨k / f ^ l,jA,by omega,?_⟩
  rw [Mh rs f l jC]
  congr 1
  refine HC ⟨k,j1,by omega,k3⟩ fun q x q1 q2 q3=>?_
  have m1:A * f ^ l<=k / f ^ l * f ^ l:=abG _ jA
  have m2:(k / f ^ l + 1) * f ^ l<=(A + f) * f ^ l:=abG _ jB
  rw [abC] at m2
  exact hall q x (by exact aat m1 q1) (by omega) q3
 ·obtain ⟨hj,rfl⟩:=Py h3
  obtain ⟨q,q1,q2,q3⟩:=row j hj h1 (by omega)
  exact hall q _ q1 q2 q3
theorem IM (rs:List Int) (f:Nat):An rs f 0 (cnt rs.length f 0)=rs:=by
 rw [Gd]
 apply abV
 intro j
 by_cases h:j < rs.length
 ·rw [Mh rs f 0 h,aai h]
  congr 1
  rw [Nat.pow_zero,Nat.mul_one]
  refine HC ⟨j,aan _,by omega,aai h⟩ fun k x h1 h2 h3=>?_
  have:k=j:=by omega
  subst this
  rw [aai h] at h3
  cases h3
  exact Int.le_refl _
 ·rw [abE (show (An rs f 0 rs.length).length<=j by unfold An; simp; exact abk.mp h),abE (by exact abk.mp h)]
noncomputable def abv (ys:List Int) (f:Nat):List Int:=(aaD ((ys.length + f - 1) / f)).map fun i=>mxR ys (i * f) (min ys.length (i * f + f))
theorem JV (rs:List Int) (f l c:Nat):(An rs f l c).length=c:=by unfold An; simp
theorem Pz {rs:List Int} {f l:Nat} (hf:1<=f):abv (An rs f l (cnt rs.length f l)) f=An rs f (l + 1) (cnt rs.length f (l + 1)):=by
 unfold abv
 rw [JV,IG hf]
 generalize hN:(cnt rs.length f l + f - 1) / f=N
 conv=>rhs; unfold An
 apply aba
 intro i hi
 have hi:i < (cnt rs.length f l + f - 1) / f:=by rw [hN]; exact abz.mp hi
 have:(i + 1) * f<=cnt rs.length f l + f - 1:=(abi (by exact hf)).mp hi
 rw [abC] at this
 have e1:i * f ^ (l + 1)=i * f * f ^ l:=by rw [abQ,acB (f ^ l) f,Nat.mul_assoc]
 have e2:f ^ (l + 1)=f * f ^ l:=by rw [abQ,acB]
 rw [Su hf (by omega),e1,e2]
theorem PB {rs:List Int} {a b:Nat} (ha:a<=rs.length):cut (rs.map D.int) (some (a:Int)) (some (b:Int))=((rs.drop a).take (min rs.length b - a)).map D.int:=by
 have e1:sIx rs.length 0 (some (a:Int))=a:=by
  show (if (a:Int) < 0 then _ else _:Int).toNat=a
  rw [if_neg (by exact q9F)]; omega
 have e2:sIx rs.length rs.length (some (b:Int))=min rs.length b:=by
  show (if (b:Int) < 0 then _ else _:Int).toNat=_
  rw [if_neg (by exact q9F)]; omega
 unfold cut
 rw [aab,e1,e2,<- aca,<- ab9]
theorem Mi (ys:List Int) (f:Nat) (hf:2<=f) (hf8:f<=8) (hl:ys.length<=200):Bx.den [Ac ys,.int f]=.ok (Ac (abv ys f)):=by
 have hN:r3N 0 (ys.length:Int) (f:Int)=(ys.length + f - 1) / f:=by
  unfold r3N
  rw [if_pos (by exact aa3.mpr (aaM hf)),show (ys.length:Int) - 0 + (f:Int) - 1=((ys.length + f - 1:Nat):Int) by omega,<- Int.natCast_ediv,aaK]
 have hNl:(ys.length + f - 1) / f<=1000:=aat (Nat.div_le_self _ _) (by omega)
 have hr:MN (.int 0) (.int (ys.length:Int)) (.int (f:Int))=.ok (DY 0 (f:Int) ((ys.length + f - 1) / f)):=by
  have l1:Bu 0=true:=by decide
  have l2:Bu (ys.length:Int)=true:=by unfold Bu; rw [aah,decide_eq_true_eq,decide_eq_true_eq]; omega
  have l3:Bu (f:Int)=true:=by unfold Bu; rw [aah,decide_eq_true_eq,decide_eq_true_eq]; omega
  have l4:decide ((f:Int) ≠ 0)=true:=decide_eq_true (by omega)
  have l5:decide (r3N 0 (ys.length:Int) (f:Int)<=LIM)=true:=decide_eq_true (by rw [hN]; show _<=16777216; exact aat hNl (by decide))
  rw [MN,l1,l2,l3,l4,l5,hN]
  rfl
 have hc:=D6 (nl:=1) (fr:=[0,1]) (tg:=.nm 0) (it:=.r3 (.cI 0) (.bi .len (.cons (.nm 0) .nil)) (.nm 1)) (elt:=.bi .maxL (.cons (.slc (.nm 1) (.nm 0) (.bin .add (.nm 0) (.nm 2))) .nil)) (δ:=[some (Ac ys),some (.int (f:Int))]) (ds:=DY 0 (f:Int) ((ys.length + f - 1) / f)) (g:=fun d=>match d with | .int b=>.int (mxR ys b.toNat (min ys.length (b.toNat + f))) | _=>.non) (by
   unfold Ac
   simp_arith [aab,hr]) (fun d hd=>by
  obtain ⟨i,hi,rfl⟩:=aaz.mp hd
  have hi:=abz.mp hi
  have h1:(i + 1) * f<=ys.length + f - 1:=(abi (by exact aaM hf)).mp hi
  rw [abC] at h1
  have e0:(0:Int) + (i:Int) * (f:Int)=((i * f:Nat):Int):=by rw [abR,abL]
  have e1:((i * f:Nat):Int) + (f:Int)=((i * f + f:Nat):Int):=by exact rfl
  rw [e0]
  refine ⟨[some (.int ((i * f:Nat):Int)),some (Ac ys),some (.int (f:Int))],rfl,?_⟩
  show _=Res.ok (D.int (mxR ys (((i * f:Nat):Int).toNat) (min ys.length ((((i * f:Nat):Int).toNat) + f))))
  rw [aaK]
  have hcu:=PB (rs:=ys) (a:=i * f) (b:=i * f + f) (by omega)
  have hm:=IJ (rs:=ys) (a:=i * f) (b:=min ys.length (i * f + f)) (by omega) (by exact aaO ..)
  have hio:=DN ((ys.drop (i * f)).take (min ys.length (i * f + f) - i * f))
  unfold Ac
  generalize mxR ys (i * f) (min ys.length (i * f + f))=M at *
  generalize (ys.drop (i * f)).take (min ys.length (i * f + f) - i * f)=zs at *
  generalize i * f=q at *
  simp_arith [e1,hcu,hio,Eg,hm])
 have hg:(DY 0 (f:Int) ((ys.length + f - 1) / f)).map (fun d=>match d with | .int b=>D.int (mxR ys b.toNat (min ys.length (b.toNat + f))) | _=>.non)=(abv ys f).map .int:=by
  unfold DY abv
  rw [aaT,aaT]
  apply aba
  intro i _
  show D.int (mxR ys (((0:Int) + (i:Int) * (f:Int)).toNat) _)=D.int (mxR ys (i * f) (min ys.length (i * f + f)))
  rw [show (0:Int) + (i:Int) * (f:Int)=((i * f:Nat):Int) by rw [abR,abL],aaK]
 rw [hg] at hc
 refine (GV _ rfl).trans (Aj ?_)
 unfold Ac at *
 generalize (abv ys f).map D.int=zs at *
 simp_arith [aab,hr] at hc
 simp_arith [Cg,aab,hr,hc]
theorem FJ {rs:List Int} {f l:Nat}:(An rs f l (cnt rs.length f l)).length=cnt rs.length f l:=JV ..
noncomputable def wcb:E:=.cmp .gt (.bi .len (.cons (.nm 3) .nil)) (.cI 1)
theorem Mj {rs:List Int} {f h:Nat} (hf:2<=f) (hf8:f<=8) (H:Hs rs.length f h) (hh:h<=8) (hn:rs.length<=200) (hn1:1<=rs.length):D3.den [Ac rs,.int f]=.ok (Ab (Ad rs f (h + 1))):=by
 obtain ⟨δ',e,rfl⟩:=Fj (c:=tv wcb) (b:=exs EL) (fun l δ=>δ=[some (Ac rs),some (.int (f:Int)),some (Ab (Ad rs f l)),some (Ac (An rs f l (cnt rs.length f l)))]) h FU 0 (δ:=[some (Ac rs),some (.int (f:Int)),some (Ab []),some (Ac rs)]) (by rw [IM]; rfl) (by
   rintro l δ _ hl rfl
   have hm:=H.more l (by omega)
   have hcl:=EB (p:=rs.length) (f:=f) (l:=l) (by exact aaM hf)
   have hab:=Mi (An rs f l (cnt rs.length f l)) f hf hf8 (by rw [FJ]; exact aat hcl hn)
   rw [Pz (by exact aaM hf)] at hab
   have hap:=Bz ((Ad rs f l).map Ac) (Ac (An rs f l (cnt rs.length f l))) (by unfold Ad; simp; omega)
   have hd:Bx.dep=9:=GW
   have hfl:=Fl (An rs f (l + 1) (cnt rs.length f (l + 1))) 7 8
   have hln:((An rs f l (cnt rs.length f l)).map D.int).length=cnt rs.length f l:=by rw [aab,FJ]
   have hgt:(1:Int) < (cnt rs.length f l:Int):=by exact aa3.mpr hm
   refine ⟨?_,_,?_,rfl⟩
   ·unfold wcb Ac
    simp_arith [hln,hgt]
   ·rw [Fk]
    unfold Ab
    rw [aap]
    show _=Out.nxt [some (Ac rs),some (.int (f:Int)),some (.lst ((Ad rs f l).map Ac ++ [Ac (An rs f l (cnt rs.length f l))])),some (Ac (An rs f (l + 1) (cnt rs.length f (l + 1))))]
    generalize An rs f (l + 1) (cnt rs.length f (l + 1))=z1 at *
    generalize An rs f l (cnt rs.length f l)=z0 at *
    generalize (Ad rs f l).map Ac=zt at *
    generalize Ac z1=y1 at *
    generalize Ac z0=y0 at *
    simp_arith [EL,hap,hab,hd,hfl]) (by
   rintro δ rfl
   rw [aaQ]
   have hln:((An rs f h (cnt rs.length f h)).map D.int).length=1:=by rw [aab,FJ,H.one]
   unfold wcb Ac
   simp_arith [hln]) (by unfold FU; exact aaL hh (by decide))
 rw [aaQ] at e
 have hap:=Bz ((Ad rs f h).map Ac) (Ac (An rs f h (cnt rs.length f h))) (by unfold Ad; simp; exact aaL hh (by decide))
 have hne:=Ma ((An rs f h (cnt rs.length f h)).map D.int) (by
  rw [aau]
  intro d hd
  obtain ⟨b,_,rfl⟩:=aaz.mp hd
  rfl)
 have hie:((An rs f h (cnt rs.length f h)).map D.int).isEmpty=false:=by
  cases q:(An rs f h (cnt rs.length f h)).map D.int with
  | nil=>have:=congrArg aa6 q; rw [aab,FJ,H.one] at this; cases this
  | cons a r=>rfl
 rw [hie] at hne
 refine (Nu _ rfl).trans (Aj ?_)
 rw [Fk]
 unfold Ab at *
 rw [aap]
 show _=Out.ret (.lst ((Ad rs f h).map Ac ++ [Ac (An rs f h (cnt rs.length f h))]))
 rw [abA] at e
 generalize An rs f h (cnt rs.length f h)=z0 at *
 generalize (Ad rs f h).map Ac=zt at *
 unfold wcb at e
 unfold Ac at *
 simp_arith [FF,e,hne,hap]
theorem ixm (n:Nat):ixN (n + 1) (-1)=some n:=by
 unfold ixN
 rw [if_neg (by decide),if_pos (by omega)]
 congr 1
 omega
theorem ixz (n:Nat):ixN (n + 1) 0=some 0:=by
 unfold ixN
 rw [if_pos (by decide),if_pos (by omega)]; rfl
theorem atz (d:D) (ds:List D):atD (d :: ds) 0=.ok d:=by
 unfold atD
 rw [aa5,ixz]; rfl
theorem SY (v d:D) (ds:List D):De 0 v (d :: ds)=some (v :: ds):=by
 unfold De
 rw [aa5,ixz]; rfl
theorem hit {d0 d1 d2 d3 d4 d5:D} {a:Int} {as:List Int} {tr:List (List Int)} (h1:as.length<=1000) (h2:∀ r ∈ tr,r.length<=1000):∃ d6,exs (.cons (.set 6 [(false,(.cI 0))] (.cI 0) (.bin .add (.ixL (.ixL (.nm 6) (.cI 0)) (.cI 0)) (.cI 1))) (.cons (.mut 6 [(false,(.neg (.cI 1)))] .append (.cons (.cI 5) .nil)) .nil)) [some d0,some d1,some d2,some d3,some d4,some d5,some (Ab ((a :: as) :: tr)),none]=.nxt [some d0,some d1,some d2,some d3,some d4,some d5,some d6,none]:=by
 obtain ⟨y,hy,hyl⟩:∃ y:List Int,(((a + 1) :: as) :: tr)[tr.length]?=some y/\y.length<=2000:=by
  cases tr with
  | nil=>exact ⟨_,rfl,by simp; omega⟩
  | cons b r =>
   have hlt:r.length < (b :: r).length:=by simp
   refine ⟨(b :: r)[r.length],by rw [aa5,aaV,aai hlt],?_⟩
   have:=h2 _ (abp hlt)
   omega
 have hap:=Bz (y.map D.int) (.int 5) (by rw [aab]; omega)
 have e1:ex (.set 6 [(false,(.cI 0))] (.cI 0) (.bin .add (.ixL (.ixL (.nm 6) (.cI 0)) (.cI 0)) (.cI 1))) [some d0,some d1,some d2,some d3,some d4,some d5,some (Ab ((a :: as) :: tr)),none]=.nxt [some d0,some d1,some d2,some d3,some d4,some d5,some (Ab (((a + 1) :: as) :: tr)),none]:=by
  unfold Ab Ac
  simp_arith [aa5,ixz,atz,SY,aaH]
 have e2:ex (.mut 6 [(false,(.neg (.cI 1)))] .append (.cons (.cI 5) .nil)) [some d0,some d1,some d2,some d3,some d4,some d5,some (Ab (((a + 1) :: as) :: tr)),none]=upd [some d0,some d1,some d2,some d3,some d4,some d5,some (Ab (((a + 1) :: as) :: tr)),none] 6 (AC (umD .append [.int 5]) [(false,-1)]):=rfl
 have e3:AC (umD .append [.int 5]) [(false,-1)] (Ab (((a + 1) :: as) :: tr))=some (.lst (((((a + 1) :: as) :: tr).map Ac).set tr.length (.lst (y.map D.int ++ [.int 5])))):=by
  unfold Ab
  rw [AC,aab,aa5,ixm,aaH,aaj,hy]
  show (AC (umD .append [.int 5]) [] (.lst (y.map D.int))).map _=_
  rw [AC,hap]; rfl
 refine ⟨.lst (((((a + 1) :: as) :: tr).map Ac).set tr.length (.lst (y.map D.int ++ [.int 5]))),?_⟩
 rw [exs,e1,Out.then_nxt,exs,e2]
 show (match AC (umD .append [.int 5]) [(false,-1)] (Ab (((a + 1) :: as) :: tr)) with | some d'=>Out.nxt [some d0,some d1,some d2,some d3,some d4,some d5,some d',none] | none=>.bad).then _=_
 rw [e3]; rfl
noncomputable abbrev E3:=Int × Int × Int
noncomputable def trD (e:E3):D:=.tup [.int e.1,.int e.2.1,.int e.2.2]
noncomputable def Ep (tr wt:List (List Int)) (l c:Nat):List (Nat × Nat):=((aaD c).filter fun j=>decide (tl tr l j ≠ tl wt l j)).map fun j=>(l,j)
noncomputable def BH (tr wt:List (List Int)) (p f n:Nat):List (Nat × Nat):=(aaD n).flatMap fun l=>Ep tr wt l (cnt p f l)
theorem IN (tr wt:List (List Int)) (p f n:Nat):BH tr wt p f (n + 1)=BH tr wt p f n ++ Ep tr wt n (cnt p f n):=by
 unfold BH
 rw [abw,acx]
 simp
theorem IO (tr wt:List (List Int)) (l c:Nat):(Ep tr wt l c).length<=c:=by
 unfold Ep
 rw [aab]
 have:=List.length_filter_le (fun j=>decide (tl tr l j ≠ tl wt l j)) (aaD c)
 rw [aa0] at this
 exact this
theorem JW {tr wt:List (List Int)} {p f:Nat} (hf:1<=f):∀ n,(BH tr wt p f n).length<=n * p
 | 0=>by simp [BH]
 | n + 1=>by
  rw [IN,aaG,abC]
  have:=JW (tr:=tr) (wt:=wt) (p:=p) hf n
  have h2:=IO tr wt n (cnt p f n)
  have:=EB (p:=p) (f:=f) (l:=n) hf
  omega
theorem PD {tr wt:List (List Int)} {p f n l j:Nat} (h:(l,j) ∈ BH tr wt p f n):l < n/\j < cnt p f l:=by
 unfold BH at h
 obtain ⟨l',h1,h2⟩:=List.mem_flatMap.mp h
 unfold Ep at h2
 obtain ⟨j',h3,e⟩:=aaz.mp h2
 cases e
 exact ⟨abz.mp h1,abz.mp (aci.mp h3).1⟩
theorem NC {xs:List D} {i:Nat} {d:D} (h:(Bg xs)[i]?=some d):∃ x,xs[i]?=some x/\d=.tup [.int (i:Nat),x]:=by
 unfold Bg at h
 rw [aaj,ab0] at h
 cases q:xs[i]? with
 | none=>rw [q] at h; cases h
 | some x =>
  rw [q] at h
  refine ⟨x,rfl,?_⟩
  simp only [aaX,Option.some.injEq] at h
  rw [<- h,aaQ]
theorem ND (xs:List D):(Bg xs).length=xs.length:=by unfold Bg; simp
theorem PF (qs:List (Nat × Nat)):D.flat 9 1 (.lst (qs.map A8))=true:=by
 show (qs.map A8).all (D.flat 8 0)=true
 rw [aau]
 intro d hd
 obtain ⟨q,_,rfl⟩:=aaz.mp hd
 rfl
section
variable {tr wt:List (List Int)} {p f h:Nat} (hd:Dim tr p f h) (hw:Dim wt p f h) (hf:2<=f) (hf8:f<=8) (hh:h<=8) (hp:p<=200)
include hd hw hf hf8 hh hp
theorem PH (l:Nat) (hl:l<=h):exs Dk [some (Ab tr),some (Ab wt),some (.lst ((BH tr wt p f l).map A8)),some (.int l),some (Ac (tr.getD l []))]=.nxt [some (Ab tr),some (Ab wt),some (.lst ((BH tr wt p f (l + 1)).map A8)),some (.int l),some (Ac (tr.getD l []))]:=by
 have hrl:=(DT hd hl).1
 have h2:=Nx (nl:=2) (fr:=[3,1]) (tg:=.tp [0,1]) (it:=.en (.nm 4)) (cond:=.cmp .ne (.nm 1) (.ix (.ix (.nm 3) (.nm 2)) (.nm 0))) (elt:=.tup (.cons (.nm 2) (.cons (.nm 0) .nil))) (δ:=[some (Ab tr),some (Ab wt),some (.lst ((BH tr wt p f l).map A8)),some (.int l),some (Ac (tr.getD l []))]) (ds:=Bg ((tr.getD l []).map .int)) (b:=fun d=>match d with | .tup [.int j,.int x]=>decide (x ≠ tl wt l j.toNat) | _=>false) (g:=fun d=>match d with | .tup [j,_]=>.tup [.int l,j] | d=>d) (by
   unfold Ac
   simp_arith [HR]) (fun d hd'=>by
  rw [Hq] at hd'
  obtain ⟨j,hj,rfl⟩:=aaz.mp hd'
  have hj:=abz.mp hj
  have a1:=EC hw hl
  have a2:=GJ hw hl (j:=j) (by omega)
  refine ⟨[some (.int (j:Nat)),some (.int ((tr.getD l []).getD j 0)),some (.int l),some (Ab wt)],rfl,?_,fun _=>?_⟩
  ·show _=Res.ok (decide ((tr.getD l []).getD j 0 ≠ tl wt l ((j:Int).toNat)))
   rw [aaK]
   have e:decide ((tr.getD l []).getD j 0 ≠ tl wt l j)=!((tr.getD l []).getD j 0==tl wt l j):=by
    by_cases c:(tr.getD l []).getD j 0=tl wt l j
    ·rw [decide_eq_false (fun z=>z c),beq_iff_eq.mpr c]; rfl
    ·rw [decide_eq_true c,beq_eq_false_iff_ne.mpr c]; rfl
   rw [e]
   unfold Ab
   clear hd hw hd' e
   generalize wt.map Ac=w at *
   unfold Ac at a1
   generalize (wt.getD l []).map D.int=u at *
   generalize tl wt l j=y at *
   generalize (tr.getD l []).getD j 0=x at *
   simp_arith [a1,a2]
  ·simp_arith [])
 have e:((Bg ((tr.getD l []).map .int)).filter (fun d=>match d with | .tup [.int j,.int x]=>decide (x ≠ tl wt l j.toNat) | _=>false)).map (fun d=>match d with | .tup [j,_]=>D.tup [.int l,j] | d=>d)=(Ep tr wt l (cnt p f l)).map A8:=by
  rw [Hq,List.filter_map,aaT,hrl]
  unfold Ep
  rw [aaT]
  rfl
 rw [e] at h2
 have hl1:=JW (tr:=tr) (wt:=wt) (p:=p) (f:=f) (by omega) l
 have hl2:l * p<=8 * 200:=Nat.mul_le_mul (by omega) hp
 have hl3:=IO tr wt l (cnt p f l)
 have hcl:=EB (p:=p) (f:=f) (l:=l) (by omega)
 have he:=Rr ((BH tr wt p f l).map A8) ((Ep tr wt l (cnt p f l)).map A8) (by simp only [aab]; omega)
 rw [IN,aap]
 clear hd hw
 generalize (BH tr wt p f l).map A8=A at *
 generalize (Ep tr wt l (cnt p f l)).map A8=B at *
 generalize Ab tr=w1 at *
 generalize Ab wt=w2 at *
 unfold Ac at *
 generalize (tr.getD l []).map D.int=u at *
 simp_arith [HR] at h2
 simp_arith [Dk,HR,h2,he]
theorem KJ:Dr.den [Ab tr,Ab wt]=.ok (.lst ((BH tr wt p f (h + 1)).map A8)):=by
 have r1:=CT hd
 have r2:=CT hw
 have e1:=(DT hd (aay h)).1
 have e2:=(DT hw (aay h)).1
 have l1:((((tr.getD 0 []).map D.int).length:Nat):Int)=(cnt p f 0:Int):=by rw [aab,e1]
 have l2:((((wt.getD 0 []).map D.int).length:Nat):Int)=(cnt p f 0:Int):=by rw [aab,e2]
 have hca:C8.den [Ab tr,Ab wt]=.ok .non:=by
  refine (GX _ rfl).trans (G5 (δ:=[some (Ab tr),some (Ab wt)]) ?_)
  clear hd hw
  generalize Ab tr=w1 at *
  generalize Ab wt=w2 at *
  unfold Ac at r1 r2
  generalize (tr.getD 0 []).map D.int=u1 at *
  generalize (wt.getD 0 []).map D.int=u2 at *
  simp_arith [Ch,r1,r2,l1,l2]
 have hlen:=DS hd
 obtain ⟨δ',e,o3,o4,rfl⟩:=A9 (tg:=.tp [3,4]) (b:=exs Dk) (fun i δ=>∃ o3 o4,δ=[some (Ab tr),some (Ab wt),some (.lst ((BH tr wt p f i).map A8)),o3,o4]) (ds:=Bg (tr.map Ac)) (δ:=[some (Ab tr),some (Ab wt),some (.lst []),none,none]) 0 ⟨none,none,rfl⟩ (by
  rintro i d δ hi ⟨o3,o4,rfl⟩
  obtain ⟨x,hx,rfl⟩:=NC hi
  rw [aaj] at hx
  obtain ⟨r,hr,rfl⟩:=aar.mp hx
  have hil:i<=h:=by
   have:=(aaq.mp hr).1
   omega
  have er:r=tr.getD i []:=by rw [aaJ,hr]; rfl
  subst er
  rw [aaQ]
  exact ⟨_,_,rfl,PH hd hw hf hf8 hh hp i hil,some (.int i),some (Ac (tr.getD i [])),rfl⟩)
 rw [ND,aab,hlen,aaQ] at e
 refine (L7 _ rfl).trans (Aj ?_)
 have hen:HR (Ab tr)=.ok (Bg (tr.map Ac)):=rfl
 clear hd hw
 generalize Bg (tr.map Ac)=en at *
 generalize Ab tr=w1 at *
 generalize Ab wt=w2 at *
 simp_arith [EM,hca,hen,e]
end
noncomputable def mkT (p f h:Nat) (g:Nat->Nat->Int):List (List Int):=(aaD (h + 1)).map fun l=>(aaD (cnt p f l)).map (g l)
theorem Rv {p f h:Nat} (g:Nat->Nat->Int) {l:Nat} (hl:l<=h):(mkT p f h g)[l]?=some ((aaD (cnt p f l)).map (g l)):=by
 unfold mkT
 rw [aaj,abI (by omega)]; rfl
theorem PJ {p f h:Nat} (g:Nat->Nat->Int) {l:Nat} (hl:l<=h):(mkT p f h g).getD l []=(aaD (cnt p f l)).map (g l):=by
 rw [aaJ,Rv g hl]; rfl
theorem HD {p f h:Nat} (g:Nat->Nat->Int) {l j:Nat} (hl:l<=h) (hj:j < cnt p f l):tl (mkT p f h g) l j=g l j:=by
 unfold tl
 rw [PJ g hl,aaJ,aaj,abI hj]; rfl
noncomputable def gT (rs:List Int) (f l j:Nat):Int:=mxR rs (j * f ^ l) (min rs.length (j * f ^ l + f ^ l))
theorem FK (rs:List Int) (f h:Nat):Ad rs f (h + 1)=mkT rs.length f h (gT rs f):=rfl
section
variable {rs:List Int} {f:Nat} (hf:2<=f)
include hf
theorem SZ {l j:Nat} (hj:j < cnt rs.length f l):(∃ k,j * f ^ l<=k/\k < min rs.length (j * f ^ l + f ^ l)/\rs[k]?=some (gT rs f l j))/\∀ k x,j * f ^ l<=k->k < min rs.length (j * f ^ l + f ^ l)->rs[k]?=some x->x<=gT rs f l j:=by
 have h1:=(D7 (show 1<=f by omega)).mp hj
 have h2:0 < f ^ l:=abl (by omega)
 exact KI (by omega) (by omega)
variable {k:Nat} (hk:k < rs.length) (v:Int)
include hk
theorem Rw {l j:Nat} (hj:j < cnt rs.length f l) (ne:j ≠ k / f ^ l):gT (rs.set k v) f l j=gT rs f l j:=by
 obtain ⟨⟨i,i1,i2,i3⟩,b⟩:=SZ hf hj
 have h2:0 < f ^ l:=abl (by omega)
 have out:∀ i,j * f ^ l<=i->i < min rs.length (j * f ^ l + f ^ l)->k ≠ i:=fun i a b z=>by
  subst z
  apply ne
  rw [eq_comm,acu]
  ·exact a
  ·rw [Nat.add_mul,Nat.one_mul]; omega
 unfold gT at *
 rw [aaw]
 refine HC ⟨i,i1,i2,?_⟩ fun q x q1 q2 q3=>?_
 ·rw [aao (out i i1 i2)]; exact i3
 ·rw [aao (out q q1 q2)] at q3
  exact b q x q1 q2 q3
noncomputable def wrE (rs:List Int) (f k:Nat) (v:Int) (l:Nat):List E3:=if gT rs f l (k / f ^ l) ≠ gT (rs.set k v) f l (k / f ^ l) then [((l:Int),((k / f ^ l:Nat):Int),gT (rs.set k v) f l (k / f ^ l))] else []
theorem IP (l:Nat):k / f ^ l < cnt rs.length f l:=by
 rw [D7 (by omega)]
 have:=acw k (f ^ l)
 omega
end
theorem IQ (P:Nat->Bool) (a:Nat):∀ c,(∀ j,j < c->j ≠ a->P j=false)->(aaD c).filter P=if a < c/\P a=true then [a] else []
 | 0,_=>by simp
 | c + 1,h0=>by
  rw [abw,List.filter_append,IQ P a c fun j hj=>h0 j (by omega)]
  by_cases e:c=a
  ·subst e
   cases q:P c <;> simp [q]
  ·have:=h0 c (by omega) e
   rw [List.filter_cons_of_neg (by rw [this]; decide),List.filter_nil,aaN]
   by_cases z:a < c/\P a=true
   ·rw [if_pos z,if_pos ⟨by omega,z.2⟩]
   ·rw [if_neg z,if_neg (fun y=>z ⟨by omega,y.2⟩)]
noncomputable def asc (rs:List Int) (f k:Nat) (v:Int) (m:Nat):List E3:=(aaD m).flatMap (wrE rs f k v)
theorem Sv (rs:List Int) (f k:Nat) (v:Int) (l:Nat):(wrE rs f k v l).length<=1:=by
 unfold wrE; split <;> simp
theorem FL {α:Type} (w:Nat->List α) (m:Nat):(aaD (m + 1)).flatMap w=(aaD m).flatMap w ++ w m:=by
 rw [abw,acx]; simp
theorem IR {α:Type} {w w':Nat->List α}:∀ m,(∀ i,i < m->w i=w' i)->(aaD m).flatMap w=(aaD m).flatMap w'
 | 0,_=>rfl
 | m + 1,h=>by rw [FL,FL,IR m fun i hi=>h i (by omega),h m (by omega)]
section
variable {rs:List Int} {f h k:Nat} (hf:2<=f) (hk:k < rs.length) (v:Int)
include hf hk
theorem JX (m:Nat):(asc rs f k v m).length<=m:=by
 induction m with
 | zero=>exact aan _
 | succ m ih =>
  unfold asc at *
  rw [FL,aaG]
  have:=Sv rs f k v m
  omega
theorem PK:(BH (Ad rs f (h + 1)) (Ad (rs.set k v) f (h + 1)) rs.length f (h + 1)).map (fun q=>((q.1:Int),(q.2:Int),tl (Ad (rs.set k v) f (h + 1)) q.1 q.2))=asc rs f k v (h + 1):=by
 unfold BH asc
 rw [List.map_flatMap]
 refine IR _ fun l hl=>?_
 have hl:l<=h:=by omega
 have ha:=IP hf hk l
 have e1:∀ j,j < cnt rs.length f l->tl (Ad rs f (h + 1)) l j=gT rs f l j:=fun j hj=>by rw [FK]; exact HD _ hl hj
 have e2:∀ j,j < cnt rs.length f l->tl (Ad (rs.set k v) f (h + 1)) l j=gT (rs.set k v) f l j:=fun j hj=>by rw [FK,aaw]; exact HD _ hl hj
 unfold Ep
 rw [IQ _ (k / f ^ l) (cnt rs.length f l) fun j hj ne=>by
  rw [e1 j hj,e2 j hj,Rw hf hk v hj ne]; simp]
 rw [e1 _ ha,e2 _ ha]
 unfold wrE
 by_cases c:gT rs f l (k / f ^ l) ≠ gT (rs.set k v) f l (k / f ^ l)
 ·rw [if_pos ⟨ha,decide_eq_true c⟩,if_pos c]
  show [((l:Int),((k / f ^ l:Nat):Int),tl (Ad (rs.set k v) f (h + 1)) l (k / f ^ l))]=_
  rw [e2 _ ha]
 ·rw [if_neg (fun z=>c (of_decide_eq_true z.2)),if_neg c]; rfl
end
theorem Rx {p f:Nat} {a:Int} (h:a < 0\/(p:Int)<=a):Cf.den [shD p f,.int a]=.exc 3:=by
 have hb:=Bc a 0 ((p:Int) - 1)
 rw [decide_eq_false (by omega)] at hb
 refine (EU _ rfl).trans (G1 (δ:=[some (shD p f),some (.int a)]) ?_)
 unfold shD
 simp_arith [BT,hb,Out.then_exc]
theorem N5 {p f:Nat} {a:Nat} (h:a < p):Cf.den [shD p f,.int a]=.ok .non:=by
 have hb:=Bc a 0 ((p:Int) - 1)
 rw [decide_eq_true (by omega)] at hb
 refine (EU _ rfl).trans (G5 (δ:=[some (shD p f),some (.int a)]) ?_)
 unfold shD
 simp_arith [BT,hb]
theorem Sw (rs:List Int) (f h:Nat):(Ad rs f (h + 1)).getD 0 []=rs:=by
 unfold Ad
 rw [List.range_succ_eq_map]
 show An rs f 0 (cnt rs.length f 0)=rs
 exact IM rs f
theorem PL {v:Int} (h0:0<=v) (h1:v<=1000000000000000000):BC.den [.int v]=.ok (.bl true):=by
 have hb:=Bc v 0 1000000000000000000
 rw [decide_eq_true ⟨h0,h1⟩] at hb
 refine (EK _ rfl).trans (Aj ?_)
 simp_arith [Cv,hb]
theorem Gf (ws:List E3):D.flat 9 1 (.lst (ws.map trD))=true:=by
 show (ws.map trD).all (D.flat 8 0)=true
 rw [aau]
 intro d hd
 obtain ⟨q,_,rfl⟩:=aaz.mp hd
 rfl
theorem NE {wt:List (List Int)} {p f h:Nat} (hw:Dim wt p f h) (qs:List (Nat × Nat)) (hq:∀ q ∈ qs,q.1<=h/\q.2 < cnt p f q.1):BU.den [Ab wt,.lst (qs.map A8)]=.ok (.lst ((qs.map fun q=>((q.1:Int),(q.2:Int),tl wt q.1 q.2)).map trD)):=by
 have hc:=D6 (nl:=1) (fr:=[0]) (tg:=.nm 0) (it:=.seq (.nm 1)) (elt:=.tup (.cons (.ix (.nm 0) (.cI 0)) (.cons (.ix (.nm 0) (.cI 1)) (.cons (.call D5 (.cons (.nm 1) (.cons (.nm 0) .nil))) .nil)))) (δ:=[some (Ab wt),some (.lst (qs.map A8))]) (ds:=qs.map A8) (g:=fun d=>match d with | .tup [.int a,.int c]=>trD (a,c,tl wt a.toNat c.toNat) | d=>d) (by
   generalize qs.map A8=CV at *
   generalize Ab wt=T at *
   simp_arith []) (fun d hd=>by
  obtain ⟨⟨a,c⟩,hm,rfl⟩:=aaz.mp hd
  obtain ⟨h1,h2⟩:=hq _ hm
  have ht:=Mg hw h1 h2
  unfold Cl at ht
  refine ⟨[some (.tup [.int a,.int c]),some (Ab wt)],rfl,?_⟩
  show _=Res.ok (D.tup [.int a,.int c,.int (tl wt ((a:Int)).toNat ((c:Int)).toNat)])
  rw [aaK,aaK]
  simp only at ht
  generalize tl wt a c=x at *
  generalize Ab wt=T at *
  simp_arith [ht])
 rw [aaT] at hc
 have ee:qs.map ((fun d=>match d with | .tup [.int a,.int c]=>trD (a,c,tl wt a.toNat c.toNat) | d=>d) ∘ A8)=(qs.map fun q=>((q.1:Int),(q.2:Int),tl wt q.1 q.2)).map trD:=by
  rw [aaT]
  apply aba
  intro q _
  show trD ((q.1:Int),(q.2:Int),tl wt ((q.1:Int)).toNat ((q.2:Int)).toNat)=_
  rw [aaK,aaK]; rfl
 rw [ee] at hc
 refine (IB _ rfl).trans (Aj ?_)
 generalize hC:E.comp0 1 [0] (.nm 0) (.seq (.nm 1)) (.tup (.cons (.ix (.nm 0) (.cI 0)) (.cons (.ix (.nm 0) (.cI 1)) (.cons (.call D5 (.cons (.nm 1) (.cons (.nm 0) .nil))) .nil))))=C at *
 rw [Dj,hC]
 generalize (qs.map fun q=>((q.1:Int),(q.2:Int),tl wt q.1 q.2)).map trD=PP at *
 generalize qs.map A8=CV at *
 generalize Ab wt=T at *
 simp_arith [hc]
theorem IS {rs:List Int} {k:Nat} (hk:k < rs.length) (v:Int):De (k:Int) (.int v) (rs.map D.int)=some ((rs.set k v).map .int):=by
 unfold De ixN
 rw [aab,if_pos (by omega),if_pos (by omega),aaK,abo]; rfl
structure Ro (rs:List Int) (f h:Nat):Prop where
 hf:2<=f
 hf8:f<=8
 H:Hs rs.length f h
 hh:h<=8
 hn:rs.length<=200
 hn1:1<=rs.length
theorem Ro.set {rs:List Int} {f h:Nat} (R:Ro rs f h) (k:Nat) (v:Int):Ro (rs.set k v) f h:=by
 obtain ⟨a,b,c,d,e,g⟩:=R
 exact ⟨a,b,by rw [aaw]; exact c,d,by rw [aaw]; exact e,by rw [aaw]; exact g⟩
section
variable {rs:List Int} {f h k:Nat} (R:Ro rs f h) (hk:k < rs.length) {v:Int} (h0:0<=v) (h1:v<=1000000000000000000)
include R hk h0 h1
theorem Jf:AE.den [Ab (Ad rs f (h + 1)),.int f,.int k,.int v]=.ok (.tup [Ab (Ad (rs.set k v) f (h + 1)),.lst ((asc rs f k v (h + 1)).map trD)]):=by
 have hd:=Cp rs f h
 have hd2:=Cp (rs.set k v) f h
 rw [aaw] at hd2
 have hsh:=Fo hd (f:=f)
 have hcp:=N5 (p:=rs.length) (f:=f) hk
 have hir:=PL h0 h1
 have hro:=CT hd
 rw [Sw] at hro
 have hset:=IS hk v
 have R':=R.set k v
 have hbu:=Mj R'.hf R'.hf8 R'.H R'.hh R'.hn R'.hn1
 have hun:=KJ hd hd2 R.hf R.hf8 R.hh R.hn
 have hto:=NE hd2 (BH (Ad rs f (h + 1)) (Ad (rs.set k v) f (h + 1)) rs.length f (h + 1)) (fun q hq=>by
  obtain ⟨a,b⟩:=PD hq
  exact ⟨by omega,b⟩)
 rw [PK R.hf hk v] at hto
 have d1:D3.dep=2:=Nv
 have d2:Dr.dep=1:=L8
 have d3:BU.dep=1:=IC
 have f1:=Fm (Ad (rs.set k v) f (h + 1))
 have f2:=PF (BH (Ad rs f (h + 1)) (Ad (rs.set k v) f (h + 1)) rs.length f (h + 1))
 have f3:=Gf (asc rs f k v (h + 1))
 refine (EN _ rfl).trans (Aj ?_)
 unfold Ac at *
 clear hd hd2 R'
 generalize (BH (Ad rs f (h + 1)) (Ad (rs.set k v) f (h + 1)) rs.length f (h + 1)).map A8=UN at *
 generalize (asc rs f k v (h + 1)).map trD=W at *
 generalize Ab (Ad (rs.set k v) f (h + 1))=T2 at *
 generalize Ab (Ad rs f (h + 1))=T1 at *
 generalize (rs.set k v).map D.int=r2 at *
 generalize rs.map D.int=r1 at *
 generalize shD rs.length f=s at *
 simp_arith [Cw,hsh,hcp,hir,hro,hset,hbu,d1,f1,hun,d2,f2,hto,d3,f3]
end
theorem PM {d:D} (h:Dh.den [d]=.ok (.bl false)):BC.den [d]=.ok (.bl false):=by
 have hb:AZ.den [d,.int 0,.int 1000000000000000000]=.ok (.bl false):=by
  refine (ET _ rfl).trans (Aj ?_)
  simp_arith [BR,h]
 refine (EK _ rfl).trans (Aj ?_)
 simp_arith [Cv,hb]
theorem NF {v:Int} (h:v < 0\/1000000000000000000 < v):BC.den [.int v]=.ok (.bl false):=by
 have hb:=Bc v 0 1000000000000000000
 rw [decide_eq_false (by omega)] at hb
 refine (EK _ rfl).trans (Aj ?_)
 simp_arith [Cv,hb]
theorem Ry (f:Nat):Bp.den [Ab [],.int f]=.ok (shD 0 f):=by
 have h1:=DM (.lst []) rfl
 have hr:Bo.den [Ab []]=.ok (.lst []):=by
  refine (FW _ rfl).trans (Aj ?_)
  unfold Ab
  rw [abA]
  simp_arith [CK,h1]
 refine (FX _ rfl).trans (Aj ?_)
 unfold shD
 simp_arith [CL,hr,acg]
theorem NG {T:D} {p f:Nat} {pg:Int} {room:D} (hs:Bp.den [T,.int f]=.ok (shD p f)) (h:pg < 0\/(p:Int)<=pg):AE.den [T,.int f,.int pg,room]=.exc 3:=by
 have hc:=Rx (p:=p) (f:=f) h
 refine (EN _ rfl).trans (G1 (δ:=[some T,some (.int f),some (.int pg),some room,none,none]) ?_)
 generalize shD p f=s at *
 simp_arith [Cw,hs,hc,Res.bind_exc,Res.out_exc,Out.then_exc]
theorem NH {T:D} {p f k:Nat} {room:D} (hs:Bp.den [T,.int f]=.ok (shD p f)) (h:k < p) (hr:BC.den [room]=.ok (.bl false)):AE.den [T,.int f,.int k,room]=.exc 6:=by
 have hc:=N5 (p:=p) (f:=f) h
 refine (EN _ rfl).trans (G1 (δ:=[some T,some (.int f),some (.int k),some room,none,none]) ?_)
 generalize shD p f=s at *
 simp_arith [Cw,hs,hc,hr,Out.then_exc]
theorem w26 {T f pg room:D} {c:Nat} (h:AE.den [T,f,pg,room]=.exc c):exs (.cons (.expr (.call AE (.cons (.nm 0) (.cons (.nm 1) (.cons (.nm 2) (.cons (.nm 3) .nil)))))) .nil) [some T,some f,some pg,some room,none]=.exc c [some T,some f,some pg,some room,none]:=by
 simp_arith [h,Res.bind_exc,Res.out_exc,Out.then_exc]
theorem NI {T f pg room:D} (h:AE.den [T,f,pg,room]=.exc 3):AN.den [T,f,pg,room]=.ok (.lst [.bl true,.bl false,.bl true]):=by
 refine (Ef _ rfl).trans (Aj ?_)
 show exs AW [some T,some f,some pg,some room,none]=_
 rw [AW,exs,ex,w26 h]
 rfl
theorem NJ {T f pg room:D} (h:AE.den [T,f,pg,room]=.exc 6):AN.den [T,f,pg,room]=.ok (.lst [.bl false,.bl true,.bl true]):=by
 refine (Ef _ rfl).trans (Aj ?_)
 show exs AW [some T,some f,some pg,some room,none]=_
 rw [AW,exs,ex,w26 h]
 rfl
theorem Rz (tr:List (List Int)) (o:Fr):ev (.comp0 1 [] (.nm 0) (.seq (.nm 0)) (.bi .list (.cons (.nm 0) .nil))) (some (Ab tr) :: o)=.ok (Ab tr):=by
 have h2:=D6 (nl:=1) (fr:=[]) (tg:=.nm 0) (it:=.seq (.nm 0)) (elt:=.bi .list (.cons (.nm 0) .nil)) (δ:=some (Ab tr) :: o) (ds:=tr.map Ac) (g:=fun d=>d) rfl (fun d hd=>by
  obtain ⟨x,_,rfl⟩:=aaz.mp hd
  refine ⟨[some (Ac x)],rfl,?_⟩
  unfold Ac
  simp_arith [])
 rw [List.map_id'] at h2
 exact h2
section
variable {rs:List Int} {f h k:Nat} (R:Ro rs f h) (hk:k < rs.length) {v:Int}
include R hk
theorem Mk {l:Nat} (hl:l<=h):exs AU [some (Ab (Ad rs f (h + 1))),some (Ab (Ad (rs.set k v) f (h + 1))),some (.int f),some (.int k),some (.lst ((asc rs f k v l).map trD)),some (.int ((k / f ^ l:Nat):Int)),some (.int l)]=.nxt [some (Ab (Ad rs f (h + 1))),some (Ab (Ad (rs.set k v) f (h + 1))),some (.int f),some (.int k),some (.lst ((asc rs f k v (l + 1)).map trD)),some (.int ((k / f ^ (l + 1):Nat):Int)),some (.int l)]:=by
 have hd:=Cp rs f h
 have hd2:=Cp (rs.set k v) f h
 rw [aaw] at hd2
 have ha:=IP R.hf hk l
 have a1:=EC hd hl
 have a2:=GJ hd hl ha
 have b1:=EC hd2 hl
 have b2:=GJ hd2 hl ha
 have e1:tl (Ad rs f (h + 1)) l (k / f ^ l)=gT rs f l (k / f ^ l):=by rw [FK]; exact HD _ hl ha
 have e2:tl (Ad (rs.set k v) f (h + 1)) l (k / f ^ l)=gT (rs.set k v) f l (k / f ^ l):=by rw [FK,aaw]; exact HD _ hl ha
 rw [e1] at a2
 rw [e2] at b2
 have hdv:((k / f ^ l:Nat):Int) / (f:Int)=((k / f ^ (l + 1):Nat):Int):=by
  rw [abQ,<- acn]; rfl
 have p1:(0:Int) < f:=q9E R.hf (by decide)
 have p2:(f:Int) < 1606938044258990275541962092341162602522202993782792835301376:=q9A R.hf8 (by decide)
 have hap:=Bz ((asc rs f k v l).map trD) (.tup [.int l,.int ((k / f ^ l:Nat):Int),.int (gT (rs.set k v) f l (k / f ^ l))]) (by rw [aab]; exact q9K (JX R.hf hk v l) (aat hl R.hh) (by decide))
 have es:(asc rs f k v (l + 1)).map trD=(asc rs f k v l).map trD ++ (wrE rs f k v l).map trD:=by
  unfold asc; rw [FL,aap]
 rw [es]
 unfold wrE
 by_cases c:gT rs f l (k / f ^ l) ≠ gT (rs.set k v) f l (k / f ^ l)
 ·rw [if_pos c]
  have c':(gT rs f l (k / f ^ l)==gT (rs.set k v) f l (k / f ^ l))=false:=beq_eq_false_iff_ne.mpr c
  show _=Out.nxt [_,_,_,_,some (.lst ((asc rs f k v l).map trD ++ [.tup [.int l,.int ((k / f ^ l:Nat):Int),.int (gT (rs.set k v) f l (k / f ^ l))]])),_,_]
  clear hd hd2 es e1 e2 c ha
  unfold Ab Ac at *
  generalize gT (rs.set k v) f l (k / f ^ l)=y2 at *
  generalize gT rs f l (k / f ^ l)=y1 at *
  generalize k / f ^ (l + 1)=q2 at *
  generalize k / f ^ l=q1 at *
  generalize (asc rs f k v l).map trD=W at *
  generalize ((Ad rs f (h + 1)).getD l []).map D.int=w1 at *
  generalize ((Ad (rs.set k v) f (h + 1)).getD l []).map D.int=w2 at *
  generalize (Ad (rs.set k v) f (h + 1)).map (fun xs=>D.lst (xs.map D.int))=T2 at *
  generalize (Ad rs f (h + 1)).map (fun xs=>D.lst (xs.map D.int))=T1 at *
  simp_arith [AU,a1,a2,b1,b2,c',hap,p1,p2,hdv]
 ·rw [if_neg c]
  have c':(gT rs f l (k / f ^ l)==gT (rs.set k v) f l (k / f ^ l))=true:=beq_iff_eq.mpr (Decidable.not_not.mp c)
  show _=Out.nxt [_,_,_,_,some (.lst ((asc rs f k v l).map trD ++ [])),_,_]
  rw [aaN]
  clear hd hd2 es e1 e2 c ha hap
  unfold Ab Ac at *
  generalize gT (rs.set k v) f l (k / f ^ l)=y2 at *
  generalize gT rs f l (k / f ^ l)=y1 at *
  generalize k / f ^ (l + 1)=q2 at *
  generalize k / f ^ l=q1 at *
  generalize (asc rs f k v l).map trD=W at *
  generalize ((Ad rs f (h + 1)).getD l []).map D.int=w1 at *
  generalize ((Ad (rs.set k v) f (h + 1)).getD l []).map D.int=w2 at *
  generalize (Ad (rs.set k v) f (h + 1)).map (fun xs=>D.lst (xs.map D.int))=T2 at *
  generalize (Ad rs f (h + 1)).map (fun xs=>D.lst (xs.map D.int))=T1 at *
  simp_arith [AU,a1,a2,b1,b2,c',p1,p2,hdv]
theorem IU:AQ.den [Ab (Ad rs f (h + 1)),Ab (Ad (rs.set k v) f (h + 1)),.int f,.int k]=.ok (.lst ((asc rs f k v (h + 1)).map trD)):=by
 have hd:=Cp rs f h
 have hl:(((Ad rs f (h + 1)).map Ac).length:Int)=((h + 1:Nat):Int):=by rw [aab,DS hd]
 have hh:=R.hh
 have hr:=Cy (a:=0) (b:=((h + 1:Nat):Int)) (by decide) (by decide) (q9D (by decide)) (q9R hh (by decide))
 obtain ⟨δ',e,p6,rfl⟩:=A9 (tg:=.nm 6) (b:=exs AU) (fun l δ=>∃ p6,δ=[some (Ab (Ad rs f (h + 1))),some (Ab (Ad (rs.set k v) f (h + 1))),some (.int f),some (.int k),some (.lst ((asc rs f k v l).map trD)),some (.int ((k / f ^ l:Nat):Int)),p6]) (ds:=Ax 0 ((h + 1:Nat):Int)) (δ:=[some (Ab (Ad rs f (h + 1))),some (Ab (Ad (rs.set k v) f (h + 1))),some (.int f),some (.int k),some (.lst []),some (.int k),none]) 0 ⟨none,by rw [Nat.pow_zero,Nat.div_one]; rfl⟩ (by
  rintro i d δ hd ⟨p6,rfl⟩
  obtain ⟨rfl,hi⟩:=B0 hd
  rw [abR,aaQ]
  exact ⟨_,_,rfl,Mk R hk (by omega),some (.int i),rfl⟩)
 rw [B3,aaQ,show (((h + 1:Nat):Int) - 0).toNat=h + 1 by omega] at e
 refine (FN _ rfl).trans (Aj ?_)
 clear hd
 unfold Ab at *
 generalize (asc rs f k v (h + 1)).map trD=W at *
 generalize (Ad (rs.set k v) f (h + 1)).map Ac=T2 at *
 generalize (Ad rs f (h + 1)).map Ac=T1 at *
 generalize k / f ^ (h + 1)=qq at *
 generalize ((h + 1:Nat):Int)=HH at *
 simp_arith [BF,hl,hr,e]
end
theorem S0 {ds W:List D} (hn:ds ≠ []) (hq:∀ d ∈ ds,∃ zs,d=.lst zs/\zs ≠ []/\zs.length<=1000) (hw:W.length<=1000):∃ U1 U2 U3,AC (De 0 (.int 7)) [(true,0),(false,-1)] (.tup [.lst ds,.lst W])=some (.tup [.lst U1,.lst W])/\AC (umD .append [.int 3]) [(true,0),(false,0)] (.tup [.lst U1,.lst W])=some (.tup [.lst U2,.lst W])/\AC (umD .append [.non]) [(true,1)] (.tup [.lst U2,.lst W])=some U3:=by
 have hl:0 < ds.length:=acy.mpr hn
 have i1:ixN ds.length (-1)=some (ds.length - 1):=by
  unfold ixN
  rw [if_neg (by decide),if_pos (by omega)]
  congr 1; omega
 obtain ⟨zs,e1,z1,z2⟩:=hq ds[ds.length - 1] (abp _)
 have g1:ds[ds.length - 1]?=some (.lst zs):=by rw [aai (by omega),e1]
 have hz:0 < zs.length:=acy.mpr z1
 have i2:ixN zs.length 0=some 0:=by
  unfold ixN
  rw [if_pos (by decide),if_pos (by omega)]; rfl
 let U1:=ds.set (ds.length - 1) (.lst (zs.set 0 (.int 7)))
 have hq2:∀ d ∈ U1,∃ ys,d=.lst ys/\ys.length<=1000:=fun d hd=>by
  rcases aaZ hd with z | z
  ·obtain ⟨ys,a,_,b⟩:=hq d z; exact ⟨ys,a,b⟩
  ·exact ⟨_,z,by rw [aaw]; exact z2⟩
 have l1:0 < U1.length:=by show 0 < (ds.set _ _).length; rw [aaw]; exact hl
 obtain ⟨ys,e2,y2⟩:=hq2 U1[0] (abp _)
 have g2:U1[0]?=some (.lst ys):=by rw [aai l1,e2]
 have i3:ixN U1.length 0=some 0:=by
  unfold ixN
  rw [if_pos (by decide),if_pos (by omega)]; rfl
 refine ⟨U1,U1.set 0 (.lst (ys ++ [.int 3])),.tup [.lst (U1.set 0 (.lst (ys ++ [.int 3]))),.lst (W ++ [.non])],?_,?_,?_⟩
 ·show (Option.bind (ixN ds.length (-1)) fun j=>(ds[j]?).bind fun d=>(AC (De 0 (.int 7)) [] d).map fun d'=>D.lst (ds.set j d')).map (fun d'=>D.tup [d',.lst W])=_
  rw [i1,aaH,g1,aaH]
  show (((((ixN zs.length 0).map fun j=>zs.set j (.int 7)).map D.lst).map fun d'=>D.lst (ds.set (ds.length - 1) d'))).map (fun d'=>D.tup [d',.lst W])=_
  rw [i2]; rfl
 ·show (Option.bind (ixN U1.length 0) fun j=>(U1[j]?).bind fun d=>(AC (umD .append [.int 3]) [] d).map fun d'=>D.lst (U1.set j d')).map (fun d'=>D.tup [d',.lst W])=_
  rw [i3,aaH,g2,aaH]
  show ((((umD .append [.int 3] ys)).map D.lst).map fun d'=>D.lst (U1.set 0 d')).map (fun d'=>D.tup [d',.lst W])=_
  rw [Bz ys (.int 3) (aaL y2 (by decide))]; rfl
 ·show ((umD .append [.non] W).map D.lst).map (fun d'=>D.tup [.lst (U1.set 0 (.lst (ys ++ [.int 3]))),d'])=_
  rw [Bz W .non (aaL hw (by decide))]; rfl
noncomputable abbrev KK:E:=.chain .le .lt (.cI 0) (.nm 3) (.bi .len (.cons (.nm 1) .nil))
noncomputable abbrev KM:E:=.bo false (.cons (.not (.call Ap (.cons (.nm 4) .nil))) (.cons (.cmp .lt (.nm 4) (.cI 0)) (.cons (.cmp .gt (.nm 4) (.bin .pow (.cI 10) (.cI 18))) .nil)))
theorem RA (rs:List Int) (pg:Int) (o0 o2 o4 o5 o6 o7 o8 o9:Option D):ev KK [o0,some (Ac rs),o2,some (.int pg),o4,o5,o6,o7,o8,o9]=.ok (.bl (decide (0<=pg/\pg < (rs.length:Int)))):=by
 have hlen:(((rs.map D.int).length:Nat):Int)=(rs.length:Int):=by rw [aab]
 unfold Ac KK
 by_cases c1:0<=pg
 ·by_cases c2:pg < (rs.length:Int)
  ·rw [decide_eq_true ⟨c1,c2⟩]
   generalize rs.map D.int=R at *
   simp_arith [c1,c2,hlen]
  ·rw [decide_eq_false (fun z=>c2 z.2)]
   generalize rs.map D.int=R at *
   simp_arith [c1,c2,hlen]
 ·rw [decide_eq_false (fun z=>c1 z.1)]
  generalize rs.map D.int=R at *
  simp_arith [c1]
noncomputable def ES (d:D) (β:Bool):Prop:=(∃ v:Int,d=.int v/\β=decide (v < 0\/1000000000000000000 < v))\/(Ap.den [d]=.ok (.bl false)/\Dh.den [d]=.ok (.bl false)/\β=true)
theorem RB {d:D} {β:Bool} (h:ES d β) (o0 o1 o2 o3 o5 o6 o7 o8 o9:Option D):ev KM [o0,o1,o2,o3,some d,o5,o6,o7,o8,o9]=.ok (.bl β):=by
 unfold KM
 rcases h with ⟨v,rfl,rfl⟩ | ⟨h,_,rfl⟩
 ·have hw:=L9 v
  by_cases c1:v < 0
  ·rw [decide_eq_true (.inl c1)]
   simp_arith [hw,c1]
  ·by_cases c2:1000000000000000000 < v
   ·rw [decide_eq_true (.inr c2)]
    simp_arith [hw,c1,c2]
   ·rw [decide_eq_false (fun z=>z.elim c1 c2)]
    simp_arith [hw,c1,c2]
 ·simp_arith [h]
theorem S5 {d:D} (h:ES d true):BC.den [d]=.ok (.bl false):=by
 rcases h with ⟨v,rfl,e⟩ | ⟨_,h,_⟩
 ·exact NF (of_decide_eq_true e.symm)
 ·exact PM h
theorem N6 {tr:List (List Int)} {rs:List Int} {f:Nat} {pg:Int} {d:D} {β γ:Bool} (hd:ES d β) (hg:γ=decide (0<=pg/\pg < (rs.length:Int))) (hgb:(!γ || β)=true) (hw:AN.den [Ab tr,.int f,.int pg,d]=.ok (.lst [.bl (!γ),.bl γ,.bl true])):Cb.den [Ab tr,Ac rs,.int f,.int pg,d]=.ok (.tup [.bl true,Ac rs]):=by
 have hcp:=Rz tr [some (Ac rs),some (.int f),some (.int pg),some d,none,none,none,none,none]
 have hb:=RB hd (some (Ab tr)) (some (Ac rs)) (some (.int f)) (some (.int pg)) (some (Ab tr)) none none none none
 have hi:=fun o7=>RA rs pg (some (Ab tr)) (some (.int f)) (some d) (some (Ab tr)) (some (.bl β)) o7 none none
 rw [<- hg] at hi
 have q1:=DM (Ab tr) (ER tr)
 have q2:c2 .eq (.lst [.bl (!γ),.bl γ,.bl true]) (.lst [.bl (!γ),.bl γ,.bl true])=.ok (.bl true):=by cases γ <;> rfl
 have d1:AN.dep=9:=GG
 have f1:D.flat 9 9 (.lst [.bl (!γ),.bl γ,.bl true])=true:=by cases γ <;> rfl
 refine (FZ _ rfl).trans (Aj ?_)
 show exs BG [some (Ab tr),some (Ac rs),some (.int f),some (.int pg),some d,none,none,none,none,none]=_
 clear hg hd
 unfold KM at hb
 unfold KK at hi
 generalize hC:E.comp0 1 [] (.nm 0) (.seq (.nm 0)) (.bi .list (.cons (.nm 0) .nil))=C at *
 generalize hE1:E.chain .le .lt (.cI 0) (.nm 3) (.bi .len (.cons (.nm 1) .nil))=CH at *
 generalize hE2:(E.bo false (.cons (.not (.call Ap (.cons (.nm 4) .nil))) (.cons (.cmp .lt (.nm 4) (.cI 0)) (.cons (.cmp .gt (.nm 4) (.bin .pow (.cI 10) (.cI 18))) .nil))))=BD at *
 have hi0:=hi none
 rw [BG,hC,hE1,hE2]
 generalize Ab tr=T at *
 unfold Ac at *
 generalize rs.map D.int=X at *
 cases γ with
 | false =>
  simp only [abm] at hw f1 q2
  simp_arith [hcp,hb,hi,hi0,hw,d1,f1,q1,q2,Gs]
 | true =>
  cases β with
  | false=>cases hgb
  | true =>
   simp only [abj] at hw f1 q2
   simp_arith [hcp,hb,hi,hi0,hw,d1,f1,q1,q2,Gs]
theorem N7:∀ ws:List E3,((ws.map fun _=>D.bl true).any fun y=>D.eqv y (.bl false))=false
 | []=>rfl
 | _ :: r=>by rw [aa7,ab8,N7 r]; rfl
theorem Sx (ws:List E3):c2 .inn (.bl false) (.lst (ws.map fun _=>D.bl true))=.ok (.bl false):=by
 have ha:(ws.map fun _=>D.bl true).all (D.shp 8)=true:=by
  rw [aau]
  intro d hd
  obtain ⟨b,_,rfl⟩:=aaz.mp hd
  rfl
 rw [c2,CC,inD,ha,N7]; rfl
noncomputable abbrev NK:E:=.bo true (.cons (.call Ap (.cons (.ix (.nm 0) (.cI 0)) .nil)) (.cons (.call Ap (.cons (.ix (.nm 0) (.cI 1)) .nil)) (.cons (.call Ap (.cons (.ix (.nm 0) (.cI 2)) .nil)) .nil)))
theorem S6 (A:D) (ws:List E3) (o0 o1 o2 o3 o4 o5 o6 o7 o9:Option D):ev (.comp0 1 [] (.nm 0) (.seqL (.ixU (.nm 8) (.cI 1))) NK) [o0,o1,o2,o3,o4,o5,o6,o7,some (.tup [A,.lst (ws.map trD)]),o9]=.ok (.lst (ws.map fun _=>D.bl true)):=by
 have hf:=Gf ws
 have hc:=D6 (nl:=1) (fr:=[]) (tg:=.nm 0) (it:=.seqL (.ixU (.nm 8) (.cI 1))) (elt:=NK) (δ:=[o0,o1,o2,o3,o4,o5,o6,o7,some (.tup [A,.lst (ws.map trD)]),o9]) (ds:=ws.map trD) (g:=fun _=>.bl true) (by
   have i1:atD [A,.lst (ws.map trD)] 1=.ok (.lst (ws.map trD)):=rfl
   generalize ws.map trD=W at *
   simp_arith [i1,hf]) (fun d hd=>by
  obtain ⟨⟨a,b,c⟩,_,rfl⟩:=aaz.mp hd
  exact ⟨[some (trD (a,b,c))],rfl,rfl⟩)
 rw [aaT] at hc
 exact hc
theorem RC (T:List (List Int)) (ws:List E3):D.flat 9 2 (.tup [Ab T,.lst (ws.map trD)])=true:=by
 show (D.flat 8 2 (Ab T) && (D.flat 8 2 (.lst (ws.map trD)) && true))=true
 have h1:D.flat 8 2 (Ab T)=true:=by
  show (T.map Ac).all (D.flat 7 1)=true
  rw [aau]
  intro d hd
  obtain ⟨x,_,rfl⟩:=aaz.mp hd
  show (x.map D.int).all (D.flat 6 0)=true
  rw [aau]
  intro d hd
  obtain ⟨y,_,rfl⟩:=aaz.mp hd
  rfl
 have h2:D.flat 8 2 (.lst (ws.map trD))=true:=by
  show (ws.map trD).all (D.flat 7 1)=true
  rw [aau]
  intro d hd
  obtain ⟨y,_,rfl⟩:=aaz.mp hd
  rfl
 rw [h1,h2]; rfl
theorem N8 (T:List (List Int)) (ws:List E3):D.shp 8 (.tup [Ab T,.lst (ws.map trD)])=true:=by
 show (D.shp 7 (Ab T) && (D.shp 7 (.lst (ws.map trD)) && true))=true
 have h1:D.shp 7 (Ab T)=true:=by
  show (T.map Ac).all (D.shp 6)=true
  rw [aau]
  intro d hd
  obtain ⟨x,_,rfl⟩:=aaz.mp hd
  show (x.map D.int).all (D.shp 5)=true
  rw [aau]
  intro d hd
  obtain ⟨y,_,rfl⟩:=aaz.mp hd
  rfl
 have h2:D.shp 7 (.lst (ws.map trD))=true:=by
  show (ws.map trD).all (D.shp 6)=true
  rw [aau]
  intro d hd
  obtain ⟨y,_,rfl⟩:=aaz.mp hd
  rfl
 rw [h1,h2]; rfl
theorem RE {rs:List Int} {f h:Nat} (R:Ro rs f h):(Ad rs f (h + 1)).map Ac ≠ []/\∀ d ∈ (Ad rs f (h + 1)).map Ac,∃ zs,d=.lst zs/\zs ≠ []/\zs.length<=1000:=by
 refine ⟨fun z=>?_,fun d hd=>?_⟩
 ·have:=congrArg aa6 z
  rw [aab,DS (Cp rs f h)] at this
  cases this
 ·obtain ⟨r,hr,rfl⟩:=aaz.mp hd
  unfold Ad at hr
  obtain ⟨l,_,rfl⟩:=aaz.mp hr
  have hl:(An rs f l (cnt rs.length f l)).length=cnt rs.length f l:=by unfold An; simp
  have h1:=IP R.hf (k:=0) R.hn1 l
  have h2:=EB (p:=rs.length) (f:=f) (l:=l) (aaM R.hf)
  refine ⟨_,rfl,fun z=>?_,?_⟩
  ·have:=congrArg aa6 z
   rw [aab,hl] at this
   rw [this] at h1
   exact absurd h1 (acm _)
  ·rw [aab,hl]
   have:=R.hn
   omega
theorem s26 {A B U:D} {o0 o1 o2 o3 o4 o5 o6 o7 o9:Option D} (u:AC (De 0 (.int 7)) [(true,0),(false,-1)] (.tup [A,B])=some U):ex (.set 8 [(true,.cI 0),(false,.neg (.cI 1))] (.cI 0) (.cI 7)) [o0,o1,o2,o3,o4,o5,o6,o7,some (.tup [A,B]),o9]=.nxt [o0,o1,o2,o3,o4,o5,o6,o7,some U,o9]:=by
 show (match AC (De 0 (.int 7)) [(true,0),(false,-1)] (.tup [A,B]) with | some d'=>Out.nxt (abP [o0,o1,o2,o3,o4,o5,o6,o7,some (.tup [A,B]),o9] 8 (some d')) | none=>.bad)=_
 rw [u]; rfl
theorem S7 {A B U:D} {o0 o1 o2 o3 o4 o5 o6 o7 o9:Option D} (u:AC (umD .append [.int 3]) [(true,0),(false,0)] (.tup [A,B])=some U):ex (.mut 8 [(true,.cI 0),(false,.cI 0)] .append (.cons (.cI 3) .nil)) [o0,o1,o2,o3,o4,o5,o6,o7,some (.tup [A,B]),o9]=.nxt [o0,o1,o2,o3,o4,o5,o6,o7,some U,o9]:=by
 show (match AC (umD .append [.int 3]) [(true,0),(false,0)] (.tup [A,B]) with | some d'=>Out.nxt (abP [o0,o1,o2,o3,o4,o5,o6,o7,some (.tup [A,B]),o9] 8 (some d')) | none=>.bad)=_
 rw [u]; rfl
theorem S8 {A B U:D} {o0 o1 o2 o3 o4 o5 o6 o7 o9:Option D} (u:AC (umD .append [.non]) [(true,1)] (.tup [A,B])=some U):ex (.mut 8 [(true,.cI 1)] .append (.cons .cN .nil)) [o0,o1,o2,o3,o4,o5,o6,o7,some (.tup [A,B]),o9]=.nxt [o0,o1,o2,o3,o4,o5,o6,o7,some U,o9]:=by
 show (match AC (umD .append [.non]) [(true,1)] (.tup [A,B]) with | some d'=>Out.nxt (abP [o0,o1,o2,o3,o4,o5,o6,o7,some (.tup [A,B]),o9] 8 (some d')) | none=>.bad)=_
 rw [u]; rfl
section
variable {rs:List Int} {f h k:Nat} (R:Ro rs f h) (hk:k < rs.length) {v:Int} (h0:0<=v) (h1:v<=1000000000000000000)
include R hk h0 h1
theorem Sy:Cb.den [Ab (Ad rs f (h + 1)),Ac rs,.int f,.int k,.int v]=.ok (.tup [.bl true,Ac (rs.set k v)]):=by
 have hcp:=Rz (Ad rs f (h + 1)) [some (Ac rs),some (.int f),some (.int k),some (.int v),none,none,none,none,none]
 have hrm:ES (.int v) false:=.inl ⟨v,rfl,(decide_eq_false (fun z=>z.elim (ab2.mpr h0) (ab2.mpr h1))).symm⟩
 have hb:=RB hrm (some (Ab (Ad rs f (h + 1)))) (some (Ac rs)) (some (.int f)) (some (.int k)) (some (Ab (Ad rs f (h + 1)))) none none none none
 have hi:=RA rs k (some (Ab (Ad rs f (h + 1)))) (some (.int f)) (some (.int v)) (some (Ab (Ad rs f (h + 1)))) (some (.bl false)) none none none
 rw [decide_eq_true ⟨aaC _,abN.mpr hk⟩] at hi
 have hch:=Jf R hk h0 h1
 have R':=R.set k v
 have htr:=IK R'.hf R'.hf8 R'.H R'.hh R'.hn R'.hn1
 have hwr:=IU R hk (v:=v)
 have hset:=IS hk v
 have q1:=DM (Ab (Ad rs f (h + 1))) (ER _)
 have n1:=GI (Ab (Ad rs f (h + 1))) (ER _)
 have q2:=DM _ (N8 (Ad (rs.set k v) f (h + 1)) (asc rs f k v (h + 1)))
 have n2:=GI _ (N8 (Ad (rs.set k v) f (h + 1)) (asc rs f k v (h + 1)))
 have f1:=RC (Ad (rs.set k v) f (h + 1)) (asc rs f k v (h + 1))
 have f2:=Fm (Ad (rs.set k v) f (h + 1))
 have f3:=Gf (asc rs f k v (h + 1))
 have d1:AE.dep=2:=KB
 have d2:Av.dep=2:=Ee
 have d3:AQ.dep=1:=FO
 obtain ⟨r1,r2⟩:=RE R'
 obtain ⟨U1,U2,U3,u1,u2,u3⟩:=S0 r1 r2 (W:=(asc rs f k v (h + 1)).map trD) (by rw [aab]; exact aat (JX R.hf hk v (h + 1)) (aat (abq R.hh) (by decide)))
 have hwh:=S6 (Ab (Ad (rs.set k v) f (h + 1))) (asc rs f k v (h + 1)) (some (Ab (Ad rs f (h + 1)))) (some (Ac (rs.set k v))) (some (.int f)) (some (.int k)) (some (.int v)) (some (Ab (Ad rs f (h + 1)))) (some (.bl false)) (some (Ab (Ad (rs.set k v) f (h + 1)))) none
 have hin:=Sx (asc rs f k v (h + 1))
 refine (FZ _ rfl).trans (Aj ?_)
 show exs BG [some (Ab (Ad rs f (h + 1))),some (Ac rs),some (.int f),some (.int k),some (.int v),none,none,none,none,none]=_
 clear r1 r2 R' hrm
 unfold KM at hb
 unfold KK at hi
 unfold NK at hwh
 generalize hC:E.comp0 1 [] (.nm 0) (.seq (.nm 0)) (.bi .list (.cons (.nm 0) .nil))=C at *
 generalize hE1:E.chain .le .lt (.cI 0) (.nm 3) (.bi .len (.cons (.nm 1) .nil))=CH at *
 generalize hE2:(E.bo false (.cons (.not (.call Ap (.cons (.nm 4) .nil))) (.cons (.cmp .lt (.nm 4) (.cI 0)) (.cons (.cmp .gt (.nm 4) (.bin .pow (.cI 10) (.cI 18))) .nil))))=BD at *
 generalize hE3:(E.comp0 1 [] (.nm 0) (.seqL (.ixU (.nm 8) (.cI 1))) (.bo true (.cons (.call Ap (.cons (.ix (.nm 0) (.cI 0)) .nil)) (.cons (.call Ap (.cons (.ix (.nm 0) (.cI 1)) .nil)) (.cons (.call Ap (.cons (.ix (.nm 0) (.cI 2)) .nil)) .nil)))))=WH at *
 have x1:=fun o0 o1 o2 o3 o4 o5 o6 o7 o9=>s26 (o0:=o0) (o1:=o1) (o2:=o2) (o3:=o3) (o4:=o4) (o5:=o5) (o6:=o6) (o7:=o7) (o9:=o9) u1
 have x2:=fun o0 o1 o2 o3 o4 o5 o6 o7 o9=>S7 (o0:=o0) (o1:=o1) (o2:=o2) (o3:=o3) (o4:=o4) (o5:=o5) (o6:=o6) (o7:=o7) (o9:=o9) u2
 have x3:=fun o0 o1 o2 o3 o4 o5 o6 o7 o9=>S8 (o0:=o0) (o1:=o1) (o2:=o2) (o3:=o3) (o4:=o4) (o5:=o5) (o6:=o6) (o7:=o7) (o9:=o9) u3
 clear u1 u2 u3
 generalize hS1:Pu.S.set 8 [(true,.cI 0),(false,.neg (.cI 1))] (.cI 0) (.cI 7)=S1 at *
 generalize hS2:Pu.S.mut 8 [(true,.cI 0),(false,.cI 0)] .append (.cons (.cI 3) .nil)=S2 at *
 generalize hS3:Pu.S.mut 8 [(true,.cI 1)] .append (.cons .cN .nil)=S3 at *
 rw [BG,hC,hE1,hE2,hE3,hS1,hS2,hS3]
 generalize ((asc rs f k v (h + 1)).map fun _=>D.bl true)=TT at *
 generalize (asc rs f k v (h + 1)).map trD=W at *
 unfold Ab Ac at *
 generalize (Ad (rs.set k v) f (h + 1)).map (fun xs=>D.lst (xs.map D.int))=T2 at *
 generalize (Ad rs f (h + 1)).map (fun xs=>D.lst (xs.map D.int))=T1 at *
 generalize (rs.set k v).map D.int=X2 at *
 generalize rs.map D.int=X at *
 have i0:atD [D.lst T2,D.lst W] 0=.ok (.lst T2):=rfl
 have i1:atD [D.lst T2,D.lst W] 1=.ok (.lst W):=rfl
 simp_arith [hcp,hb,hi,hch,d1,f1,hset,htr,d2,f2,hwr,d3,f3,n2,n1,i0,i1,hwh,hin,x1,x2,x3,q1,q2,Gs]
end
theorem G6:b2 .pow (.int 10) (.int 15)=.ok (.int 1000000000000000):=by
 rw [Dt _ _ (by decide) (by decide) (by decide)]; rfl
theorem RF {a b c d:D} {y:Int} (P:D->Prop) (pa:P a) (pb:P b) (pc:P c) (pd:P d):∃ z,atD [a,b,c,d] (y % 4)=.ok z/\P z:=by
 rcases m4c y with e | e | e | e <;> rw [e]
 ·exact ⟨_,rfl,pa⟩
 ·exact ⟨_,rfl,pb⟩
 ·exact ⟨_,rfl,pc⟩
 ·exact ⟨_,rfl,pd⟩
theorem m8c (x:Int):x % 8=0\/x % 8=1\/x % 8=2\/x % 8=3\/x % 8=4\/x % 8=5\/x % 8=6\/x % 8=7:=by omega
theorem Ml {a b c d e f g h:D} {y:Int} (P:D->Prop) (pa:P a) (pb:P b) (pc:P c) (pd:P d) (pe:P e) (pf:P f) (pg:P g) (ph:P h):∃ z,atD [a,b,c,d,e,f,g,h] (y % 8)=.ok z/\P z:=by
 rcases m8c y with e | e | e | e | e | e | e | e <;> rw [e]
 ·exact ⟨_,rfl,pa⟩
 ·exact ⟨_,rfl,pb⟩
 ·exact ⟨_,rfl,pc⟩
 ·exact ⟨_,rfl,pd⟩
 ·exact ⟨_,rfl,pe⟩
 ·exact ⟨_,rfl,pf⟩
 ·exact ⟨_,rfl,pg⟩
 ·exact ⟨_,rfl,ph⟩
theorem KN (a b c d e:D):atD [a,b,c,d,e] 0=.ok a:=rfl
theorem KO (a b c d e:D):atD [a,b,c,d,e] 1=.ok b:=rfl
theorem KP (a b c d e:D):atD [a,b,c,d,e] 2=.ok c:=rfl
theorem GK (a b c d e:D):atD [a,b,c,d,e] 3=.ok d:=rfl
theorem GL (a b c d e:D):atD [a,b,c,d,e] 4=.ok e:=rfl
theorem PN {xs:List Int} (h:xs.length=5):∃ a b c d e,xs=[a,b,c,d,e]:=by
 match xs,h with
 | [a,b,c,d,e],_=>exact ⟨a,b,c,d,e,rfl⟩
theorem S9 (xs:List Int):(xs.map D.int).all (D.shp 7)=true:=by
 rw [aau]
 intro d hd
 obtain ⟨y,_,rfl⟩:=aaz.mp hd
 rfl
theorem RG {a0 a1 a2 a3 a4:Int} (h1:0<=a1) (rs:List Int):∃ P:Int,Bj.den [.lst [.int a0,.int a1,.int a2,.int a3,.int a4],Ac rs]=.ok (.int P)/\((P < 0\/(rs.length:Int)<=P)\/∃ k:Nat,k < rs.length/\P=k):=by
 have hnil:=Ho (rs.map D.int) (S9 _)
 have hlen:(((rs.map D.int).length:Nat):Int)=(rs.length:Int):=by rw [aab]
 have l4:(0:Int) < 4:=by decide
 obtain ⟨z,hz,P,rfl,hP⟩:=RF (y:=a2) (a:=.int (-1)) (b:=.int rs.length) (c:=.int ((rs.length:Int) + a1)) (d:=.int (-100000000000000000000000000000000000000000000000000000000000 - a1)) (fun d=>∃ i:Int,d=.int i/\(i < 0\/(rs.length:Int)<=i)) ⟨_,rfl,.inl (by decide)⟩ ⟨_,rfl,.inr (Int.le_refl _)⟩ ⟨_,rfl,.inr (by omega)⟩ ⟨_,rfl,.inl (by omega)⟩
 by_cases c0:a0=0
 ·subst c0
  refine ⟨P,(CN _ rfl).trans (Aj ?_),.inl hP⟩
  unfold Ac
  generalize rs.map D.int=X at *
  simp_arith [Bb,KN,KO,KP,hlen,l4,hz]
 have d0:(a0==0)=false:=beq_eq_false_iff_ne.mpr c0
 cases rs with
 | nil =>
  refine ⟨P,(CN _ rfl).trans (Aj ?_),.inl hP⟩
  have hnil:c2 .eq (.lst []) (.lst [])=.ok (.bl true):=hnil
  have hz:atD [.int (-1),.int 0,.int (0 + a1),.int (-100000000000000000000000000000000000000000000000000000000000 - a1)] (a2 % 4)=.ok (.int P):=hz
  unfold Ac
  rw [abA]
  clear hlen
  simp_arith [Bb,KN,KO,KP,d0,hnil,l4,hz,acg]
 | cons r rs =>
  obtain ⟨k,hk,ek⟩:=Pw (y:=a1) (n:=(r :: rs).length) (acG _)
  have hp:(0:Int) < ((r :: rs).length:Int):=abN.mpr (acG _)
  have hnil:c2 .eq (.lst ((r :: rs).map D.int)) (.lst [])=.ok (.bl false):=hnil
  refine ⟨k,(CN _ rfl).trans (Aj ?_),.inr ⟨k,hk,rfl⟩⟩
  unfold Ac
  generalize (r :: rs).map D.int=X at *
  generalize ((r :: rs).length:Int)=LL at *
  simp_arith [Bb,KN,KO,KP,d0,hnil,hlen,hp,ek]
theorem Ta {rs:List Int} (hb:∀ r ∈ rs,0<=r/\r<=1000000000000000000):∃ M:Int,0<=M/\M<=1000000000000000000/\Eg (B5 (rs.map D.int ++ [.int 0]))=.ok (rs ++ [0])/\Eg (rs ++ [0]).max?=.ok M:=by
 have e0:rs.map D.int ++ [.int 0]=(rs ++ [0]).map .int:=by rw [aap]; rfl
 have hm:=II (ys:=rs ++ [0]) (by simp)
 obtain ⟨M,hM⟩:∃ M,M=(rs ++ [0]).max?.getD 0:=⟨_,rfl⟩
 rw [<- hM] at hm
 have hmem:=(abD.mp hm).1
 have hM2:0<=M/\M<=1000000000000000000:=by
  rcases aaf.mp hmem with z | z
  ·exact hb M z
  ·rw [aav.mp z]; decide
 exact ⟨M,hM2.1,hM2.2,by rw [e0,DN]; rfl,by rw [hm]; rfl⟩
theorem Sz {v:Int} (h0:0<=v) (h1:v<=1000000000000000000):(∃ β,ES (.int v) β)/\D.flat 9 1 (.int v)=true:=⟨⟨_,.inl ⟨v,rfl,rfl⟩⟩,rfl⟩
theorem RH {a0 a1 a2 a3 a4 P:Int} {rs:List Int} (hl:rs.length<=200) (hb:∀ r ∈ rs,0<=r/\r<=1000000000000000000):∃ d:D,Ca.den [.lst [.int a0,.int a1,.int a2,.int a3,.int a4],Ac rs,.int P]=.ok d/\(∃ β,ES d β)/\D.flat 9 1 d=true:=by
 have l8:(0:Int) < 8:=by decide
 have e1:(1000000000000000000:Int) + 1=1000000000000000001:=rfl
 by_cases c3:a3=0
 ·subst c3
  obtain ⟨d,hd,h1,h2⟩:=Ml (y:=a4) (a:=.non) (b:=.bl true) (c:=.str "5") (d:=.int (-1)) (e:=.int 1000000000000000001) (f:=.int 100000000000000000000000000000000000000000000000000000000000) (g:=.tup [.int 3]) (h:=.lst [.int 3]) (fun d=>(∃ β,ES d β)/\D.flat 9 1 d=true) ⟨⟨_,.inr ⟨rfl,rfl,rfl⟩⟩,rfl⟩ ⟨⟨_,.inr ⟨rfl,rfl,rfl⟩⟩,rfl⟩ ⟨⟨_,.inr ⟨rfl,rfl,rfl⟩⟩,rfl⟩ ⟨⟨_,.inl ⟨_,rfl,rfl⟩⟩,rfl⟩ ⟨⟨_,.inl ⟨_,rfl,rfl⟩⟩,rfl⟩ ⟨⟨_,.inl ⟨_,rfl,rfl⟩⟩,rfl⟩ ⟨⟨_,.inr ⟨rfl,rfl,rfl⟩⟩,rfl⟩ ⟨⟨_,.inr ⟨rfl,rfl,rfl⟩⟩,rfl⟩
  refine ⟨d,(Eo _ rfl).trans (Aj ?_),h1,h2⟩
  have sc:∀ i:Int,D.scal (.int i)=true:=fun _=>rfl
  clear h1 h2
  unfold Ac
  generalize rs.map D.int=X at *
  simp_arith [Bl,GK,GL,sc,l8,e1,hd]
 have d3:(a3==0)=false:=beq_eq_false_iff_ne.mpr c3
 obtain ⟨M,M0,M1,hi,hm⟩:=Ta hb
 have hadd:=JR (rs.map D.int) [.int 0] (by rw [aab]; exact aat (abq hl) (by decide))
 have hlen:(((rs.map D.int).length:Nat):Int)=(rs.length:Int):=by rw [aab]
 have sc:∀ i:Int,D.scal (.int i)=true:=fun _=>rfl
 have l2:(0:Int) < 2:=by decide
 have s1:-(18446744073709551616) < (1000000000000000:Int):=by decide
 have s2:(1000000000000000:Int) < 18446744073709551616:=by decide
 by_cases cc:a3=1/\0<=P/\P < (rs.length:Int)
 ·obtain ⟨rfl,p0,p1⟩:=cc
  obtain ⟨k,rfl⟩:∃ k:Nat,P=k:=⟨P.toNat,(abH p0).symm⟩
  have hk:k < rs.length:=abN.mp p1
  have hat:=Sr hk
  have hrk:rs.getD k 0 ∈ rs:=by rw [aaJ,aai hk]; exact abp hk
  obtain ⟨g1,g2⟩:=Sz (hb _ hrk).1 (hb _ hrk).2
  refine ⟨.int (rs.getD k 0),(Eo _ rfl).trans (Aj ?_),g1,g2⟩
  clear hrk g1 g2 hb
  unfold Ac
  generalize rs.map D.int=X at *
  generalize rs.getD k 0=y at *
  simp_arith [Bl,GK,GL,sc,d3,hadd,hi,hm,p0,p1,hlen,hat]
 ·obtain ⟨d,hd,⟨v,rfl⟩,h1,h2⟩:=Ml (y:=a3) (a:=.int a4) (b:=.int M) (c:=.int (min 1000000000000000000 (M + 1))) (d:=.int 0) (e:=.int 1000000000000000000) (f:=.int (a4 * 1000000000000000)) (g:=.int (M / 2)) (h:=.int 1) (fun d=>(∃ v:Int,d=.int v)/\(∃ β,ES d β)/\D.flat 9 1 d=true) ⟨⟨_,rfl⟩,⟨_,.inl ⟨_,rfl,rfl⟩⟩,rfl⟩ ⟨⟨_,rfl⟩,⟨_,.inl ⟨_,rfl,rfl⟩⟩,rfl⟩ ⟨⟨_,rfl⟩,⟨_,.inl ⟨_,rfl,rfl⟩⟩,rfl⟩ ⟨⟨_,rfl⟩,⟨_,.inl ⟨_,rfl,rfl⟩⟩,rfl⟩ ⟨⟨_,rfl⟩,⟨_,.inl ⟨_,rfl,rfl⟩⟩,rfl⟩ ⟨⟨_,rfl⟩,⟨_,.inl ⟨_,rfl,rfl⟩⟩,rfl⟩ ⟨⟨_,rfl⟩,⟨_,.inl ⟨_,rfl,rfl⟩⟩,rfl⟩ ⟨⟨_,rfl⟩,⟨_,.inl ⟨_,rfl,rfl⟩⟩,rfl⟩
  refine ⟨.int v,(Eo _ rfl).trans (Aj ?_),h1,h2⟩
  clear h1 h2 hb M0 M1
  unfold Ac
  generalize rs.map D.int=X at *
  by_cases q1:a3=1
  ·subst q1
   by_cases q2:0<=P
   ·have q3:¬ P < (rs.length:Int):=fun z=>cc ⟨rfl,q2,z⟩
    simp_arith [Bl,GK,GL,sc,d3,hadd,hi,hm,q2,q3,hlen,G6,s1,s2,l2,l8,hd]
   ·simp_arith [Bl,GK,GL,sc,d3,hadd,hi,hm,q2,hlen,G6,s1,s2,l2,l8,hd]
  ·have q1':(a3==1)=false:=beq_eq_false_iff_ne.mpr q1
   simp_arith [Bl,GK,GL,sc,d3,q1',hadd,hi,hm,hlen,G6,s1,s2,l2,l8,hd]
theorem Tb (xs:List Int):D.flat 9 1 (Ac xs)=true:=Fl xs 7 0
theorem SA {rs:List Int} {f:Nat} {tr:List (List Int)} {P:Int} {d:D} {β:Bool} (hf:2<=f) (hf8:f<=8) (hl:rs.length<=200) (hb:∀ r ∈ rs,0<=r/\r<=1000000000000000000) (ht:(tr=[]/\rs=[])\/∃ h,h<=8/\Hs rs.length f h/\1<=rs.length/\tr=Ad rs f (h + 1)) (hP:(P < 0\/(rs.length:Int)<=P)\/∃ k:Nat,k < rs.length/\P=k) (hd:ES d β):∃ rs':List Int,rs'.length=rs.length/\(∀ r ∈ rs',0<=r/\r<=1000000000000000000)/\Cb.den [Ab tr,Ac rs,.int f,.int P,d]=.ok (.tup [.bl true,Ac rs']):=by
 have hs:Bp.den [Ab tr,.int f]=.ok (shD rs.length f):=by
  rcases ht with ⟨rfl,rfl⟩ | ⟨h,_,_,_,rfl⟩
  ·exact Ry f
  ·exact Fo (Cp rs f h)
 rcases hP with hP | ⟨k,hk,rfl⟩
 ·have hn:¬ (0<=P/\P < (rs.length:Int)):=fun z=>hP.elim (ab2.mpr z.1) (Int.not_le.mpr z.2)
  exact ⟨rs,rfl,hb,N6 hd (γ:=false) (decide_eq_false hn).symm rfl (NI (NG hs hP))⟩
 ·rcases ht with ⟨_,rfl⟩ | ⟨h,hh,H,h1,rfl⟩
  ·exact absurd hk (acm _)
  have R:Ro rs f h:=⟨hf,hf8,H,hh,hl,h1⟩
  have hg:true=decide (0<=(k:Int)/\(k:Int) < (rs.length:Int)):=(decide_eq_true ⟨aaC _,abN.mpr hk⟩).symm
  cases β with
  | true=>exact ⟨rs,rfl,hb,N6 hd hg rfl (NJ (NH hs hk (S5 hd)))⟩
  | false =>
   rcases hd with ⟨v,rfl,e⟩ | ⟨_,_,e⟩
   ·have e:=of_decide_eq_false e.symm
    have v0:0<=v:=ab2.mp fun z=>e (.inl z)
    have v1:v<=1000000000000000000:=ab2.mp fun z=>e (.inr z)
    refine ⟨rs.set k v,by rw [aaw],fun r hr=>?_,Sy R hk v0 v1⟩
    rcases aaZ hr with z | z
    ·exact hb r z
    ·rw [z]; exact ⟨v0,v1⟩
   ·cases e
theorem RI (ns:List Int) {rs:List Int} {f:Nat} (hf:2<=f) (hf8:f<=8) (hl:rs.length<=200) (hb:∀ r ∈ rs,0<=r/\r<=1000000000000000000) (q:Int) (hq:0<=q) (o4 o5 o6:Option D):∃ (rs':List Int) (p4 p5 p6:Option D),rs'.length=rs.length/\(∀ r ∈ rs',0<=r/\r<=1000000000000000000)/\exs CO [some (.lst (ns.map .int)),some (Ac rs),some (.int f),some (.int q),o4,o5,o6]=.nxt [some (.lst (ns.map .int)),some (Ac rs'),some (.int f),some (.int q),p4,p5,p6]:=by
 obtain ⟨ys,hrow,hyl,hyb⟩:=FH ns q hq [7,200,4,9,9] (by decide) (by decide)
 obtain ⟨a0,a1,a2,a3,a4,rfl⟩:=PN hyl
 have B1:=hyb 1 a1 _ rfl rfl
 simp only [abF] at hrow
 clear hyl hyb
 obtain ⟨tr,htr,ht⟩:=IL (rs:=rs) hf hf8 hl
 obtain ⟨P,hpg,hP⟩:=RG (a0:=a0) (a2:=a2) (a3:=a3) (a4:=a4) B1.1 rs
 obtain ⟨d,hrm,⟨β,hd⟩,hfl⟩:=RH (a0:=a0) (a1:=a1) (a2:=a2) (a3:=a3) (a4:=a4) (P:=P) hl hb
 obtain ⟨rs',l',b',hst⟩:=SA hf hf8 hl hb ht hP hd
 refine ⟨rs',some (.lst [.int a0,.int a1,.int a2,.int a3,.int a4]),some (Ab tr),some (.int P),l',b',?_⟩
 have d1:Av.dep=2:=Ee
 have d2:Bj.dep=0:=GH
 have d3:Ca.dep=1:=Jd
 have f1:=Fm tr
 have f2:D.flat 9 0 (.int P)=true:=rfl
 have f3:=Tb rs'
 clear hd hP ht b' l' hb
 unfold Ac at *
 generalize Ab tr=T at *
 generalize rs'.map D.int=X2 at *
 generalize rs.map D.int=X at *
 generalize ns.map D.int=N at *
 simp_arith [CO,hrow,htr,d1,f1,hpg,d2,f2,hrm,d3,hfl,F3,MO,GQ,hst,f3]
theorem PQ:∀ ns:List Int,ns.length<=63->EO.den [.lst (ns.map .int)]=.ok (.bl true):=by
 intro ns hns
 obtain ⟨m,hm,hmost⟩:=NB ns 30 (by decide) 60 200 (A:=60) (B:=200) rfl rfl
 obtain ⟨r0,hrl,hrb,hrooms⟩:=Me ns 0 (by decide) m (by omega)
 obtain ⟨f,hf,hf8,hfan⟩:=Pr ns 1 (by decide)
 have hl:r0.length<=200:=by omega
 have hlen:(((ns.map D.int).length:Nat):Int)=(ns.length:Int):=by rw [aab]
 obtain ⟨Z,hE⟩:∃ Z:Int,Z=max 4 (min 9 (ns.length:Int)):=⟨_,rfl⟩
 have hr:=Cy (a:=2) (b:=Z) (by decide) (by decide) (by omega) (by omega)
 obtain ⟨δ',e,rs',p3,p4,p5,p6,rfl,_,_⟩:=A9 (tg:=.nm 3) (b:=exs CO) (fun _ δ=>∃ (rs':List Int) (p3 p4 p5 p6:Option D),δ=[some (.lst (ns.map .int)),some (Ac rs'),some (.int f),p3,p4,p5,p6]/\rs'.length=r0.length/\∀ r ∈ rs',0<=r/\r<=1000000000000000000) (ds:=Ax 2 Z) (δ:=[some (.lst (ns.map .int)),some (Ac r0),some (.int f),none,none,none,none]) 0 ⟨r0,none,none,none,none,rfl,rfl,hrb⟩ (by
  rintro i d δ hd ⟨rs',p3,p4,p5,p6,rfl,l',hb'⟩
  obtain ⟨rfl,hi⟩:=B0 hd
  obtain ⟨rs2,q4,q5,q6,l2,hb2,e⟩:=RI ns hf hf8 (by rw [l']; exact hl) hb' (2 + (i:Int)) (abS (by decide) (aaC _)) p4 p5 p6
  exact ⟨_,_,rfl,e,rs2,_,q4,q5,q6,rfl,l2.trans l',hb2⟩)
 have hmost:=hmost [none,none,none,none,none,none]
 refine (KC _ rfl).trans (Aj ?_)
 show exs Ds [some (.lst (ns.map .int)),none,none,none,none,none,none]=_
 clear hrb
 generalize hC:E.ix (.lst (.cons (.cI 60) (.cons (.cI 200) .nil))) (.bi .int (.cons (.cmp .eq (.ix (.call AK (.cons (.nm 0) (.cons (.cI 30) (.cons (.lst (.cons (.cI 8) .nil)) .nil)))) (.cI 0)) (.cI 0)) .nil))=C at *
 rw [Ds,hC]
 unfold Ac at *
 generalize rs'.map D.int=X2 at *
 generalize r0.map D.int=X0 at *
 generalize ns.map D.int=N at *
 simp_arith [hmost,hrooms,hfan,hlen,<- hE,hr,e]
end Pu
end
namespace Pu
open PySem PySem.Spec PyProof.Rows PySem.W L2
noncomputable def top (i:Nat):Stmt:=PySem.Challenge.pw_ullage_k26_changed.main.body.getD i (.Pass ⟨0,0,0,0⟩)
theorem Jg:dfB ["thing"] ["thing"] (top 7) GF 9=true:=by decide +kernel
theorem Hv:dfB ["thing", "least", "most"] ["thing", "least", "most"] (top 8) BR 9=true:=by decide +kernel
theorem Fp:dfB ["counts", "thing"] ["counts", "thing"] (top 10) Br 9=true:=by decide +kernel
theorem Hw:dfB ["shape", "page"] ["shape", "page"] (top 12) BT 9=true:=by decide +kernel
theorem KQ:dfB ["thing"] ["thing"] (top 14) Cv 9=true:=by decide +kernel
theorem G7:dfB ["level", "fan"] ["level", "fan"] (top 16) Cg 9=true:=by decide +kernel
theorem NL:dfB ["rooms", "fan", "tree", "level"] ["rooms", "fan"] (top 15) FF 2=true:=by decide +kernel
theorem IV:dfB ["tree"] ["tree"] (top 17) Di 9=true:=by decide +kernel
theorem Jh:dfB ["tree"] ["tree"] (top 18) CK 1=true:=by decide +kernel
theorem Ji:dfB ["tree", "fan"] ["tree", "fan"] (top 19) CL 0=true:=by decide +kernel
theorem Jj:dfB ["tree", "thing"] ["tree", "thing"] (top 20) DH 9=true:=by decide +kernel
theorem FP:dfB ["tree", "thing"] ["tree", "thing"] (top 21) BE 9=true:=by decide +kernel
theorem NM:dfB ["tree", "node"] ["tree", "node"] (top 22) FG 0=true:=by decide +kernel
theorem IW:dfB ["tree", "nodes"] ["tree", "nodes"] (top 23) Dj 1=true:=by decide +kernel
theorem G8:dfB ["one", "other"] ["one", "other"] (top 26) Ch 9=true:=by decide +kernel
theorem Mm:dfB ["one", "other", "nodes", "level", "numbers"] ["one", "other"] (top 27) EM 1=true:=by decide +kernel
theorem KR:dfB ["tree", "fan", "page", "room", "rooms", "after"] ["tree", "fan", "page", "room"] (top 25) Cw 2=true:=by decide +kernel
theorem Jk:dfB ["_law_script", "_law_place", "_law_seed", "_law_cell_here"] ["_law_script", "_law_place"] (top 29) CM 0=true:=by decide +kernel
theorem G9:dfB ["_law_cell_here", "_law_k", "_law_one", "_law_two"] ["_law_cell_here", "_law_k"] (top 30) Ci 1=true:=by decide +kernel
theorem Ha:dfB ["_law_script", "_law_place", "_law_sizes", "_law_cell_here", "_law_left", "_law_some", "_law_k", "_law_other"] ["_law_script", "_law_place", "_law_sizes"] (top 31) Cj 2=true:=by decide +kernel
theorem Gg:dfB ["_law_script", "_law_place", "_law_most", "_law_some", "_law_scale", "_law_rooms_here", "_law_k", "_law_here"] ["_law_script", "_law_place", "_law_most"] (top 32) BP 2=true:=by decide +kernel
theorem Hb:dfB ["_law_script", "_law_place"] ["_law_script", "_law_place"] (top 33) Ck 1=true:=by decide +kernel
theorem FQ:dfB ["_law_pages", "_law_fan_here", "_law_found"] ["_law_pages", "_law_fan_here"] (top 34) Be 1=true:=by decide +kernel
theorem Gh:dfB ["_law_pages", "_law_fan_here", "_law_level", "_law_place", "_law_wide", "_law_k"] ["_law_pages", "_law_fan_here", "_law_level", "_law_place"] (top 35) BQ 1=true:=by decide +kernel
theorem GM:dfB ["_law_rooms_here", "_law_fan_here", "_law_tree_here", "_law_counts_here", "_law_level", "_law_row_here", "_law_place", "_law_begin", "_law_end"] ["_law_rooms_here", "_law_fan_here"] (top 36) By 2=true:=by decide +kernel
theorem IX:dfB ["_law_thing"] ["_law_thing"] (top 37) FY 9=true:=by decide +kernel
theorem GN:dfB ["_law_tree_here", "_law_fan_here", "_law_page_here", "_law_room_here", "e"] ["_law_tree_here", "_law_fan_here", "_law_page_here", "_law_room_here"] (top 38) AW 9=true:=by decide +kernel
theorem FR:dfB ["_law_before", "_law_behind", "_law_fan_here", "_law_page_here", "_law_found", "_law_place", "_law_level"] ["_law_before", "_law_behind", "_law_fan_here", "_law_page_here"] (top 39) BF 1=true:=by decide +kernel
theorem GO:dfB ["_law_some", "_law_rooms_here"] ["_law_some", "_law_rooms_here"] (top 40) Bb 0=true:=by decide +kernel
theorem Jl:dfB ["_law_some", "_law_rooms_here", "_law_page_here", "_law_most"] ["_law_some", "_law_rooms_here", "_law_page_here"] (top 41) Bl 1=true:=by decide +kernel
theorem Jm:dfC ["_law_tree_here", "_law_rooms_here", "_law_fan_here", "_law_page_here", "_law_room_here", "_law_handed", "_law_bad", "_law_due", "_law_found", "_law_again"] ["_law_tree_here", "_law_rooms_here", "_law_fan_here", "_law_page_here", "_law_room_here"] (top 42) 1 BG=true:=by decide +kernel
theorem KS:dfB ["_law_script", "_law_rooms_here", "_law_fan_here", "_law_k", "_law_some", "_law_tree_here", "_law_page_here"] ["_law_script"] (top 43) Ds 9=true:=by decide +kernel
set_option maxHeartbeats 0 in
theorem RJ {l:PySem.W.OpenLaw} {w:World} {K:PySem.W.Frag} {h:Heap} {mg:Str->Option Value} {fa:Addr} {C0 C2 C3 C6 C7:Addr} (X:K.In h) (G:h.Ns mainGlobals mg) (hfa:mg "law" = some (.ref fa)) (t0:Az K "is_whole" (top 7)) (t1:Az K "is_between" (top 8)) (t2:Az K "is_counted_node" (top 10)) (t3:Az K "check_page" (top 12)) (t4:Az K "is_room" (top 14)) (t5:Az K "level_above" (top 16)) (t6:Az K "built" (top 15)) (t7:Az K "counts_of" (top 17)) (t8:Az K "rooms_of" (top 18)) (t9:Az K "shape_of" (top 19)) (t10:Az K "has_node" (top 20)) (t11:Az K "check_has_node" (top 21)) (t12:Az K "tells" (top 22)) (t13:Az K "with_told" (top 23)) (t14:Az K "check_alike" (top 26)) (t15:Az K "unlike" (top 27)) (t16:Az K "changed" (top 25)) (t17:Az K "_law_cell" (top 29)) (t18:Az K "_law_mix" (top 30)) (t19:Az K "_law_row" (top 31)) (t20:Az K "_law_rooms" (top 32)) (t21:Az K "_law_fan" (top 33)) (t22:Az K "_law_counts" (top 34)) (t23:Az K "_law_reach" (top 35)) (t24:Az K "_law_tree" (top 36)) (t25:Az K "_law_whole" (top 37)) (t26:Az K "_law_word" (top 38)) (t27:Az K "_law_writes" (top 39)) (t28:Az K "_law_page" (top 40)) (t29:Az K "_law_room" (top 41)) (t30:Az K "_law_step" (top 42)) (t31:Az K "law" (top 43)) (n_len:nsIn K mainGlobals "len" = some none) (n_min:nsIn K mainGlobals "min" = some none) (n_max:nsIn K mainGlobals "max" = some none) (n_abs:nsIn K mainGlobals "abs" = some none) (n_int:nsIn K mainGlobals "int" = some none) (n_list:nsIn K mainGlobals "list" = some none) (n_tuple:nsIn K mainGlobals "tuple" = some none) (n_all:nsIn K mainGlobals "all" = some none) (n_any:nsIn K mainGlobals "any" = some none) (n_sum:nsIn K mainGlobals "sum" = some none) (n_sorted:nsIn K mainGlobals "sorted" = some none) (n_isinstance:nsIn K mainGlobals "isinstance" = some none) (n_str:nsIn K mainGlobals "str" = some none) (n_range:nsIn K mainGlobals "range" = some none) (n_enumerate:nsIn K mainGlobals "enumerate" = some none) (n_zip:nsIn K mainGlobals "zip" = some none) (n_reversed:nsIn K mainGlobals "reversed" = some none) (n_bool:nsIn K mainGlobals "bool" = some none) (n_dict:nsIn K mainGlobals "dict" = some none) (n_ValueError:nsIn K mainGlobals "ValueError" = some none) (c0:ClsF K "RoomError" C0) (c2:ClsF K "NoNode" C2) (c3:ClsF K "NoPage" C3) (c6:ClsF K "BadRoom" C6) (c7:ClsF K "Unlike" C7) (e2:excIn K C2 EE "ValueError.__new__" = true) (e3:excIn K C3 EE "ValueError.__new__" = true) (e6:excIn K C6 EE "ValueError.__new__" = true) (e7:excIn K C7 EE "ValueError.__new__" = true) (y0_0:kitOne K (.ref C0) (.ref C0)=some true) (y0_2:kitOne K (.ref C0) (.ref C2)=some false) (y0_3:kitOne K (.ref C0) (.ref C3)=some false) (y0_6:kitOne K (.ref C0) (.ref C6)=some false) (y0_7:kitOne K (.ref C0) (.ref C7)=some false) (y2_0:kitOne K (.ref C2) (.ref C0)=some true) (y2_2:kitOne K (.ref C2) (.ref C2)=some true) (y2_3:kitOne K (.ref C2) (.ref C3)=some false) (y2_6:kitOne K (.ref C2) (.ref C6)=some false) (y2_7:kitOne K (.ref C2) (.ref C7)=some false) (y3_0:kitOne K (.ref C3) (.ref C0)=some true) (y3_2:kitOne K (.ref C3) (.ref C2)=some false) (y3_3:kitOne K (.ref C3) (.ref C3)=some true) (y3_6:kitOne K (.ref C3) (.ref C6)=some false) (y3_7:kitOne K (.ref C3) (.ref C7)=some false) (y6_0:kitOne K (.ref C6) (.ref C0)=some true) (y6_2:kitOne K (.ref C6) (.ref C2)=some false) (y6_3:kitOne K (.ref C6) (.ref C3)=some false) (y6_6:kitOne K (.ref C6) (.ref C6)=some true) (y6_7:kitOne K (.ref C6) (.ref C7)=some false) (y7_0:kitOne K (.ref C7) (.ref C0)=some true) (y7_2:kitOne K (.ref C7) (.ref C2)=some false) (y7_3:kitOne K (.ref C7) (.ref C3)=some false) (y7_6:kitOne K (.ref C7) (.ref C6)=some false) (y7_7:kitOne K (.ref C7) (.ref C7)=some true) (nl:noL K=true)
  (hden:∀ ns:List Int,ns.length<=63->EO.den [.lst (ns.map .int)]=.ok (.bl true)) :
  ∃ fd:FuncData,(∀ (s:Shared) (v:Value),BindsTo s fd ⟨[v],[]⟩ [("_law_script",v)])/\∀ base:Heap,K.In base->base.Ns mainGlobals mg->FnOk l.prog w K mg base (CXe l.prog w) 11 fa fd ["_law_script"] (spL K):=by
 have O:∀ base:Heap,Lw.Ok ⟨⟨K,clA [(0,C0),(2,C2),(3,C3),(6,C6),(7,C7)],Bw [(0,C0),(2,C2),(3,C3),(6,C6),(7,C7)]⟩,l.prog,w,mg,base⟩:=fun base=>Sm rfl X G ⟨n_len,n_min,n_max,n_abs,n_int,n_list,n_tuple,n_all,n_any,n_sum,n_sorted,n_isinstance,n_str,n_range,n_enumerate,n_zip,n_reversed,n_bool,n_dict,n_ValueError,trivial⟩ ⟨c0,c2,c3,c6,c7,trivial⟩ ⟨⟨y0_0,y0_2,y0_3,y0_6,y0_7,trivial⟩,⟨y2_0,y2_2,y2_3,y2_6,y2_7,trivial⟩,⟨y3_0,y3_2,y3_3,y3_6,y3_7,trivial⟩,⟨y6_0,y6_2,y6_3,y6_6,y6_7,trivial⟩,⟨y7_0,y7_2,y7_3,y7_6,y7_7,trivial⟩,trivial⟩
 refine Pm (cs:=[(0,C0),(2,C2),(3,C3),(6,C6),(7,C7)]) (lv:=10) X G hfa t31 KS (fun _ _ _ _ _ _ s v=>.of_eq rfl) O (fun base=>?_) nl hden
 have cl0:=(⟨rfl,PySem.W.mg_of X G c0.q⟩:NeedG ⟨⟨K,clA [(0,C0),(2,C2),(3,C3),(6,C6),(7,C7)],Bw [(0,C0),(2,C2),(3,C3),(6,C6),(7,C7)]⟩,l.prog,w,mg,base⟩ 0 (.cl 0))
 have rs2:=(⟨rfl,c2.q,e2⟩:NeedG ⟨⟨K,clA [(0,C0),(2,C2),(3,C3),(6,C6),(7,C7)],Bw [(0,C0),(2,C2),(3,C3),(6,C6),(7,C7)]⟩,l.prog,w,mg,base⟩ 0 (.rs 2))
 have cl2:=(⟨rfl,PySem.W.mg_of X G c2.q⟩:NeedG ⟨⟨K,clA [(0,C0),(2,C2),(3,C3),(6,C6),(7,C7)],Bw [(0,C0),(2,C2),(3,C3),(6,C6),(7,C7)]⟩,l.prog,w,mg,base⟩ 0 (.cl 2))
 have rs3:=(⟨rfl,c3.q,e3⟩:NeedG ⟨⟨K,clA [(0,C0),(2,C2),(3,C3),(6,C6),(7,C7)],Bw [(0,C0),(2,C2),(3,C3),(6,C6),(7,C7)]⟩,l.prog,w,mg,base⟩ 0 (.rs 3))
 have cl3:=(⟨rfl,PySem.W.mg_of X G c3.q⟩:NeedG ⟨⟨K,clA [(0,C0),(2,C2),(3,C3),(6,C6),(7,C7)],Bw [(0,C0),(2,C2),(3,C3),(6,C6),(7,C7)]⟩,l.prog,w,mg,base⟩ 0 (.cl 3))
 have rs6:=(⟨rfl,c6.q,e6⟩:NeedG ⟨⟨K,clA [(0,C0),(2,C2),(3,C3),(6,C6),(7,C7)],Bw [(0,C0),(2,C2),(3,C3),(6,C6),(7,C7)]⟩,l.prog,w,mg,base⟩ 0 (.rs 6))
 have cl6:=(⟨rfl,PySem.W.mg_of X G c6.q⟩:NeedG ⟨⟨K,clA [(0,C0),(2,C2),(3,C3),(6,C6),(7,C7)],Bw [(0,C0),(2,C2),(3,C3),(6,C6),(7,C7)]⟩,l.prog,w,mg,base⟩ 0 (.cl 6))
 have rs7:=(⟨rfl,c7.q,e7⟩:NeedG ⟨⟨K,clA [(0,C0),(2,C2),(3,C3),(6,C6),(7,C7)],Bw [(0,C0),(2,C2),(3,C3),(6,C6),(7,C7)]⟩,l.prog,w,mg,base⟩ 0 (.rs 7))
 have cl7:=(⟨rfl,PySem.W.mg_of X G c7.q⟩:NeedG ⟨⟨K,clA [(0,C0),(2,C2),(3,C3),(6,C6),(7,C7)],Bw [(0,C0),(2,C2),(3,C3),(6,C6),(7,C7)]⟩,l.prog,w,mg,base⟩ 0 (.cl 7))
 have h_is_whole:=Ar (lv:=0) (O base) (Ao X G t0 fun _ _ _ _ _ _=>ba1 fun _=>rfl) Jg trivial
 have h_is_between:=Ar (lv:=1) (O base) (Ao X G t1 fun _ _ _ _ _ _=>ba3 fun _ _ _=>rfl) Hv ⟨⟨by decide,h_is_whole⟩,trivial⟩
 have h_is_counted_node:=Ar (lv:=2) (O base) (Ao X G t2 fun _ _ _ _ _ _=>ba2 fun _ _=>rfl) Fp ⟨⟨by decide,h_is_between⟩,⟨by decide,h_is_between⟩,trivial⟩
 have h_check_page:=Ar (lv:=2) (O base) (Ao X G t3 fun _ _ _ _ _ _=>ba2 fun _ _=>rfl) Hw ⟨⟨by decide,h_is_between⟩,rs3,trivial⟩
 have h_is_room:=Ar (lv:=2) (O base) (Ao X G t4 fun _ _ _ _ _ _=>ba1 fun _=>rfl) KQ ⟨⟨by decide,h_is_between⟩,trivial⟩
 have h_level_above:=Ar (lv:=0) (O base) (Ao X G t5 fun _ _ _ _ _ _=>ba2 fun _ _=>rfl) G7 trivial
 have h_built:=Ar (lv:=1) (O base) (Ao X G t6 fun _ _ _ _ _ _=>ba2 fun _ _=>rfl) NL ⟨⟨by decide,h_level_above⟩,trivial⟩
 have h_counts_of:=Ar (lv:=0) (O base) (Ao X G t7 fun _ _ _ _ _ _=>ba1 fun _=>rfl) IV trivial
 have h_rooms_of:=Ar (lv:=0) (O base) (Ao X G t8 fun _ _ _ _ _ _=>ba1 fun _=>rfl) Jh trivial
 have h_shape_of:=Ar (lv:=1) (O base) (Ao X G t9 fun _ _ _ _ _ _=>ba2 fun _ _=>rfl) Ji ⟨⟨by decide,h_rooms_of⟩,trivial⟩
 have h_has_node:=Ar (lv:=3) (O base) (Ao X G t10 fun _ _ _ _ _ _=>ba2 fun _ _=>rfl) Jj ⟨⟨by decide,h_is_counted_node⟩,⟨by decide,h_counts_of⟩,trivial⟩
 have h_check_has_node:=Ar (lv:=4) (O base) (Ao X G t11 fun _ _ _ _ _ _=>ba2 fun _ _=>rfl) FP ⟨⟨by decide,h_has_node⟩,rs2,trivial⟩
 have h_tells:=Ar (lv:=5) (O base) (Ao X G t12 fun _ _ _ _ _ _=>ba2 fun _ _=>rfl) NM ⟨⟨by decide,h_check_has_node⟩,trivial⟩
 have h_with_told:=Ar (lv:=6) (O base) (Ao X G t13 fun _ _ _ _ _ _=>ba2 fun _ _=>rfl) IW ⟨⟨by decide,h_tells⟩,trivial⟩
 have h_check_alike:=Ar (lv:=1) (O base) (Ao X G t14 fun _ _ _ _ _ _=>ba2 fun _ _=>rfl) G8 ⟨⟨by decide,h_rooms_of⟩,⟨by decide,h_rooms_of⟩,rs7,trivial⟩
 have h_unlike:=Ar (lv:=2) (O base) (Ao X G t15 fun _ _ _ _ _ _=>ba2 fun _ _=>rfl) Mm ⟨⟨by decide,h_check_alike⟩,trivial⟩
 have h_changed:=Ar (lv:=7) (O base) (Ao X G t16 fun _ _ _ _ _ _=>ba4 fun _ _ _ _=>rfl) KR ⟨⟨by decide,h_check_page⟩,⟨by decide,h_shape_of⟩,⟨by decide,h_is_room⟩,rs6,⟨by decide,h_rooms_of⟩,⟨by decide,h_built⟩,⟨by decide,h_with_told⟩,⟨by decide,h_unlike⟩,trivial⟩
 have h_law_cell:=Ar (lv:=0) (O base) (Ao X G t17 fun _ _ _ _ _ _=>ba2 fun _ _=>rfl) Jk trivial
 have h_law_mix_k11:=Ar (lv:=0) (O base) (Ao X G t18 fun _ _ _ _ _ _=>ba2 fun _ _=>rfl) G9 trivial
 have h_law_row_k11:=Ar (lv:=1) (O base) (Ao X G t19 fun _ _ _ _ _ _=>ba3 fun _ _ _=>rfl) Ha ⟨⟨by decide,h_law_cell⟩,⟨by decide,h_law_mix_k11⟩,⟨by decide,h_law_cell⟩,⟨by decide,h_law_mix_k11⟩,trivial⟩
 have h_law_rooms_k21:=Ar (lv:=2) (O base) (Ao X G t20 fun _ _ _ _ _ _=>ba3 fun _ _ _=>rfl) Gg ⟨⟨by decide,h_law_row_k11⟩,trivial⟩
 have h_law_fan_k22:=Ar (lv:=2) (O base) (Ao X G t21 fun _ _ _ _ _ _=>ba2 fun _ _=>rfl) Hb ⟨⟨by decide,h_law_row_k11⟩,trivial⟩
 have h_law_counts_k11:=Ar (lv:=0) (O base) (Ao X G t22 fun _ _ _ _ _ _=>ba2 fun _ _=>rfl) FQ trivial
 have h_law_reach_k12:=Ar (lv:=0) (O base) (Ao X G t23 fun _ _ _ _ _ _=>ba4 fun _ _ _ _=>rfl) Gh trivial
 have h_law_tree_k22:=Ar (lv:=1) (O base) (Ao X G t24 fun _ _ _ _ _ _=>ba2 fun _ _=>rfl) GM ⟨⟨by decide,h_law_counts_k11⟩,⟨by decide,h_law_reach_k12⟩,trivial⟩
 have h_law_whole:=Ar (lv:=0) (O base) (Ao X G t25 fun _ _ _ _ _ _=>ba1 fun _=>rfl) IX trivial
 have h_law_word_k26:=Ar (lv:=8) (O base) (Ao X G t26 fun _ _ _ _ _ _=>ba4 fun _ _ _ _=>rfl) GN ⟨cl0,⟨by decide,h_changed⟩,cl3,cl6,trivial⟩
 have h_law_writes_k26:=Ar (lv:=0) (O base) (Ao X G t27 fun _ _ _ _ _ _=>ba4 fun _ _ _ _=>rfl) FR trivial
 have h_law_page_k26:=Ar (lv:=0) (O base) (Ao X G t28 fun _ _ _ _ _ _=>ba2 fun _ _=>rfl) GO trivial
 have h_law_room:=Ar (lv:=0) (O base) (Ao X G t29 fun _ _ _ _ _ _=>ba3 fun _ _ _=>rfl) Jl trivial
 have h_law_step:=Pl (lv:=9) (O base) (Ao X G t30 fun _ _ _ _ _ _=>ba5 fun _ _ _ _ _=>rfl) Jm ⟨⟨by decide,h_law_whole⟩,⟨by decide,h_law_word_k26⟩,⟨by decide,h_changed⟩,⟨by decide,h_law_tree_k22⟩,⟨by decide,h_law_writes_k26⟩,⟨by decide,h_law_whole⟩,⟨by decide,h_law_whole⟩,⟨by decide,h_law_whole⟩,⟨by decide,h_changed⟩,⟨by decide,h_law_writes_k26⟩,trivial⟩
 exact ⟨⟨by decide,h_law_rooms_k21⟩,⟨by decide,h_law_row_k11⟩,⟨by decide,h_law_fan_k22⟩,⟨by decide,h_law_row_k11⟩,⟨by decide,h_law_tree_k22⟩,⟨by decide,h_law_page_k26⟩,⟨by decide,h_law_step⟩,⟨by decide,h_law_room⟩,trivial⟩
end Pu
open PySem PySem.W PyProof.Rows
noncomputable def PySem.W.Fast.tw17195894277493935311:Nat:=0
noncomputable def PySem.W.Fast.tw7538422965999809100:Nat:=0
noncomputable def PySem.W.Fast.tw30685812935642081:Nat:=0
noncomputable def PySem.W.Fast.tw1012025714148599253:Nat:=0
noncomputable def PySem.W.Fast.tw10547294725588433336:Nat:=0
noncomputable def PySem.W.Fast.tw97469568664235057:Nat:=0
noncomputable def PySem.W.Fast.tw4423569776641837419:Nat:=0
noncomputable def PySem.W.Fast.tw4706212047052714230:Nat:=0
noncomputable def PySem.W.Fast.tw16297334774146213857:Nat:=0
noncomputable def PySem.W.Fast.tw7394968246546970928:Nat:=0
noncomputable def PySem.W.Fast.tw3797365548731891117:Nat:=0
noncomputable def PySem.W.Fast.tw2718273652799796028:Nat:=0
noncomputable def PySem.W.Fast.tw17629581227318846147:Nat:=0
noncomputable def PySem.W.Fast.tw8282929675404640536:Nat:=0
noncomputable def PySem.W.Fast.tw3886978220196219682:Nat:=0
noncomputable def PySem.W.Fast.tw7541090999741054164:Nat:=0
noncomputable def PySem.W.Fast.tw14165649595053597001:Nat:=0
noncomputable def PySem.W.Fast.tw12367238877710152489:Nat:=0
noncomputable def PySem.W.Fast.tw4262722471192227346:Nat:=0
noncomputable def PySem.W.Fast.tw6066530368279981984:Nat:=0
noncomputable def PySem.W.Fast.tw3208164314518152378:Nat:=0
noncomputable def PySem.W.Fast.tw13772903791121714222:Nat:=0
noncomputable def PySem.W.Fast.tw15093846769253764545:Nat:=0
noncomputable def PySem.W.Fast.tw7444504737629074278:Nat:=0
noncomputable def PySem.W.Fast.tw4645771854543586093:Nat:=0
noncomputable def PySem.W.Fast.tw5128741208784523399:Nat:=0
noncomputable def PySem.W.Fast.tw13211326068597300543:Nat:=0
noncomputable def PySem.W.Fast.tw17423464327388408920:Nat:=0
noncomputable def PySem.W.Fast.tw9464718442440465561:Nat:=0
noncomputable def PySem.W.Fast.tw17756735643566894370:Nat:=0
noncomputable def PySem.W.Fast.tw17307673055392059562:Nat:=0
noncomputable def PySem.W.Fast.tw4464104788233019738:Nat:=0
noncomputable def PySem.W.Fast.tw10164487439323394965:Nat:=0
noncomputable def PySem.W.Fast.tw3298705763399303187:Nat:=0
noncomputable def PySem.W.Fast.tw1306717148071634809:Nat:=0
noncomputable def PySem.W.Fast.tw9138965866346456350:Nat:=0
noncomputable def PySem.W.Fast.tw17537819620805524287:Nat:=0
noncomputable def PySem.W.Fast.tw8398388739982313172:Nat:=0
noncomputable def PySem.W.Fast.tw16780422649499927757:Nat:=0
noncomputable def PySem.W.Fast.tw9316557971351082637:Nat:=0
noncomputable def PySem.W.Fast.tw2440714150004460623:Nat:=0
noncomputable def PySem.W.Fast.tw18156257872960069363:Nat:=0
noncomputable def PySem.W.Fast.tw9222462812259912570:Nat:=0
noncomputable def PySem.W.Fast.tw12625783172224740679:Nat:=0
noncomputable def PySem.W.Fast.tw3365011432621650617:Nat:=0
noncomputable def PySem.W.Fast.tw7312391882997965283:Nat:=0
noncomputable def PySem.W.Fast.tw4931403850421143750:Nat:=0
noncomputable def PySem.W.Fast.tw12007770218267855902:Nat:=0
noncomputable def PySem.W.Fast.tw9442690468736913572:Nat:=0
noncomputable def PySem.W.Fast.tw18404396684202574503:Nat:=0
noncomputable def PySem.W.Fast.tw16157059554882499239:Nat:=0
noncomputable def PySem.W.Fast.tw1638691235177737218:Nat:=0
noncomputable def PySem.W.Fast.tw11167549995874835495:Nat:=0
noncomputable def PySem.W.Fast.tw11610200858622499343:Nat:=0
noncomputable def PySem.W.Fast.tw1416772992247569184:Nat:=0
noncomputable def PySem.W.Fast.tw6393100703935349034:Nat:=0
noncomputable def PySem.W.Fast.tw8545511441044480208:Nat:=0
noncomputable def PySem.W.Fast.tw14303460271191592488:Nat:=0
noncomputable def PySem.W.Fast.tw9291673327698186289:Nat:=0
noncomputable def PySem.W.Fast.tw17647660115842938940:Nat:=0
noncomputable def PySem.W.Fast.tw8403882435562192920:Nat:=0
noncomputable def PySem.W.Fast.tw6643718288674254078:Nat:=0
noncomputable def PySem.W.Fast.tw11760139189615082475:Nat:=0
noncomputable def PySem.W.Fast.tw15775366466169470466:Nat:=0
noncomputable def PySem.W.Fast.tw13507177754967980234:Nat:=0
noncomputable def PySem.W.Fast.tw13674948987065422235:Nat:=0
noncomputable def PySem.W.Fast.tw6004809945875399708:Nat:=0
noncomputable def PySem.W.Fast.tw5538820200972329236:Nat:=0
noncomputable def PySem.W.Fast.tw2049404310754752610:Nat:=0
noncomputable def PySem.W.Fast.tw6623695663383536193:Nat:=0
noncomputable def PySem.W.Fast.tw7725291596773363042:Nat:=0
noncomputable def PySem.W.Fast.tw12362706953022669232:Nat:=0
noncomputable def PySem.W.Fast.tw14368498701274994367:Nat:=0
noncomputable def PySem.W.Fast.tw18211368387263717067:Nat:=0
noncomputable def PySem.W.Fast.tw4492925167552868331:Nat:=0
noncomputable def PySem.W.Fast.tw1879547159702167061:Nat:=0
noncomputable def PySem.W.Fast.tw1278059188788933831:Nat:=0
noncomputable def PySem.W.Fast.tw18039834963484856476:Nat:=0
noncomputable def PySem.W.Fast.tw2102077282078074312:Nat:=0
noncomputable def PySem.W.Fast.tw11358069125797941746:Nat:=0
noncomputable def PySem.W.Fast.tw10492063616742683054:Nat:=0
noncomputable def PySem.W.Fast.tw1062593150048762327:Nat:=0
noncomputable def PySem.W.Fast.tw14951904994263565655:Nat:=0
noncomputable def PySem.W.Fast.tw10368291205509479949:Nat:=0
noncomputable def PySem.W.Fast.tw5570365708937635692:Nat:=0
noncomputable def PySem.W.Fast.tw18059805657539726105:Nat:=0
noncomputable def PySem.W.Fast.tw11815498866174901074:Nat:=0
noncomputable def PySem.W.Fast.tw1467475799511811201:Nat:=0
noncomputable def PySem.W.Fast.tw17784000289800163338:Nat:=0
noncomputable def PySem.W.Fast.tw5103025953804094969:Nat:=0
noncomputable def PySem.W.Fast.tw9745467730122896760:Nat:=0
noncomputable def PySem.W.Fast.tw2070163272430321116:Nat:=0
noncomputable def PySem.W.Fast.tw8326498119997919048:Nat:=0
noncomputable def PySem.W.Fast.tw1361389030629958244:Nat:=0
noncomputable def PySem.W.Fast.tw375626661514050043:Nat:=0
noncomputable def PySem.W.Fast.tw958191164741029738:Nat:=0
noncomputable def PySem.W.Fast.tw5961308728387430604:Nat:=0
noncomputable def PySem.W.Fast.tw4145624189683517118:Nat:=0
noncomputable def PySem.W.Fast.tw10162122522606631490:Nat:=0
noncomputable def PySem.W.Fast.tw9479442652611159463:Nat:=0
noncomputable def PySem.W.Fast.tw7493924466037192935:Nat:=0
noncomputable def PySem.W.Fast.tw9594442328012270544:Nat:=0
noncomputable def PySem.W.Fast.tw13625948807329921808:Nat:=0
noncomputable def PySem.W.Fast.tw16284810199377649801:Nat:=0
noncomputable def PySem.W.Fast.tw1909109407188866917:Nat:=0
noncomputable def PySem.W.Fast.tw13908376893485632103:Nat:=0
noncomputable def PySem.W.Fast.tw10620704147406561237:Nat:=0
noncomputable def PySem.W.Fast.tw14177118271880840316:Nat:=0
noncomputable def PySem.W.Fast.tw4937550629683240208:Nat:=0
noncomputable def PySem.W.Fast.tw15021958372666270849:Nat:=0
noncomputable def PySem.W.Fast.tw7367303292790428305:Nat:=0
noncomputable def PySem.W.Fast.tw12410600439586612029:Nat:=0
noncomputable def PySem.W.Fast.tw17214873259467523319:Nat:=0
noncomputable def PySem.W.Fast.tw16099335912465149779:Nat:=0
noncomputable def PySem.W.Fast.tw13169772508902486938:Nat:=0
local macro_rules | `(tactic| simp_arith!)=>`(tactic| (refine' Pu.AI ?za ?zl ?zc ?zk; (case za=>k_is); (case zl=>k_is); (case zc=>k_is); (case zk=>k_is)))
local macro_rules | `(tactic| simp_all_arith)=>`(tactic| (refine' Pu.Iz ?zq ?zx1 ?zx2 ?zx3 ?zx4 ?zx5 ?zx6 ?zx7 ?zt1 ?zt2 ?zt3 ?zt4 ?zt5 ?zt6 ?zv; (case zq=>k_is); (case zx1=>k_is); (case zx2=>k_is); (case zx3=>k_is); (case zx4=>k_is); (case zx5=>k_is); (case zx6=>k_is); (case zx7=>k_is); (case zt1=>kit_is); (case zt2=>kit_is); (case zt3=>kit_is); (case zt4=>kit_is); (case zt5=>kit_is); (case zt6=>kit_is); (case zv=>kit_is)))
set_option maxRecDepth 100000 in
set_option maxHeartbeats 0 in
theorem PySem.Challenge.cw_ullage_k26_changed_holds : PySem.Challenge.rw_ullage_k26_changed.Holds := by
 w_on; o_law; k_head; (case hw=>w_witness2)
 k_fill
 refine Pu.Sj (l:=PySem.Challenge.rw_ullage_k26_changed) (k:=11) (x := "_law_script") rfl rfl ⟨rfl,by decide,by decide⟩ (fun w h Y=>PySem.W.kIn_of Y) ?F
 case F =>
  intro w mg fa h KX G hmg
  refine' Pu.RJ KX G hmg ?t0 ?t1 ?t2 ?t3 ?t4 ?t5 ?t6 ?t7 ?t8 ?t9 ?t10 ?t11 ?t12 ?t13 ?t14 ?t15 ?t16 ?t17 ?t18 ?t19 ?t20 ?t21 ?t22 ?t23 ?t24 ?t25 ?t26 ?t27 ?t28 ?t29 ?t30 ?t31 ?n_len ?n_min ?n_max ?n_abs ?n_int ?n_list ?n_tuple ?n_all ?n_any ?n_sum ?n_sorted ?n_isinstance ?n_str ?n_range ?n_enumerate ?n_zip ?n_reversed ?n_bool ?n_dict ?n_ValueError ?c0 ?c2 ?c3 ?c6 ?c7 ?e2 ?e3 ?e6 ?e7 ?y0_0 ?y0_2 ?y0_3 ?y0_6 ?y0_7 ?y2_0 ?y2_2 ?y2_3 ?y2_6 ?y2_7 ?y3_0 ?y3_2 ?y3_3 ?y3_6 ?y3_7 ?y6_0 ?y6_2 ?y6_3 ?y6_6 ?y6_7 ?y7_0 ?y7_2 ?y7_3 ?y7_6 ?y7_7 ?nl Pu.PQ
  (case t0=>simp_arith!)
  (case t1=>simp_arith!)
  (case t2=>simp_arith!)
  (case t3=>simp_arith!)
  (case t4=>simp_arith!)
  (case t5=>simp_arith!)
  (case t6=>simp_arith!)
  (case t7=>simp_arith!)
  (case t8=>simp_arith!)
  (case t9=>simp_arith!)
  (case t10=>simp_arith!)
  (case t11=>simp_arith!)
  (case t12=>simp_arith!)
  (case t13=>simp_arith!)
  (case t14=>simp_arith!)
  (case t15=>simp_arith!)
  (case t16=>simp_arith!)
  (case t17=>simp_arith!)
  (case t18=>simp_arith!)
  (case t19=>simp_arith!)
  (case t20=>simp_arith!)
  (case t21=>simp_arith!)
  (case t22=>simp_arith!)
  (case t23=>simp_arith!)
  (case t24=>simp_arith!)
  (case t25=>simp_arith!)
  (case t26=>simp_arith!)
  (case t27=>simp_arith!)
  (case t28=>simp_arith!)
  (case t29=>simp_arith!)
  (case t30=>simp_arith!)
  (case t31=>simp_arith!)
  (case n_len=>k_is)
  (case n_min=>k_is)
  (case n_max=>k_is)
  (case n_abs=>k_is)
  (case n_int=>k_is)
  (case n_list=>k_is)
  (case n_tuple=>k_is)
  (case n_all=>k_is)
  (case n_any=>k_is)
  (case n_sum=>k_is)
  (case n_sorted=>k_is)
  (case n_isinstance=>k_is)
  (case n_str=>k_is)
  (case n_range=>k_is)
  (case n_enumerate=>k_is)
  (case n_zip=>k_is)
  (case n_reversed=>k_is)
  (case n_bool=>k_is)
  (case n_dict=>k_is)
  (case n_ValueError=>k_is)
  (case c0=>simp_all_arith)
  (case c2=>simp_all_arith)
  (case c3=>simp_all_arith)
  (case c6=>simp_all_arith)
  (case c7=>simp_all_arith)
  (case e2=>k_exc)
  (case e3=>k_exc)
  (case e6=>k_exc)
  (case e7=>k_exc)
  (case y0_0=>kit_is)
  (case y0_2=>kit_is)
  (case y0_3=>kit_is)
  (case y0_6=>kit_is)
  (case y0_7=>kit_is)
  (case y2_0=>kit_is)
  (case y2_2=>kit_is)
  (case y2_3=>kit_is)
  (case y2_6=>kit_is)
  (case y2_7=>kit_is)
  (case y3_0=>kit_is)
  (case y3_2=>kit_is)
  (case y3_3=>kit_is)
  (case y3_6=>kit_is)
  (case y3_7=>kit_is)
  (case y6_0=>kit_is)
  (case y6_2=>kit_is)
  (case y6_3=>kit_is)
  (case y6_6=>kit_is)
  (case y6_7=>kit_is)
  (case y7_0=>kit_is)
  (case y7_2=>kit_is)
  (case y7_3=>kit_is)
  (case y7_6=>kit_is)
  (case y7_7=>kit_is)
  (case nl=>exact rfl)

import PyProof.Rows.All
import Wide.All
import OpenK.AllK
import Wide.FinOn
import Lean
import PyProof.EqAt
import PyProof.EqKinds
import PyProof.TupleCall
import PyProof.ZipIter
import PyProof.LongRange
import PyProof.DictTable
import PyProof.DictKinds
import PyProof.DictStraight
import PySem.Challenge.RW_ullage_k76_rows_shown
set_option Elab.async false
set_option linter.all false
set_option maxRecDepth 100000
open List renaming length_map->aaa,mem_cons_of_mem->aab,mem_cons_self->aac,mem_of_getElem?->aae,mem_append->aaf,size_toArray->aag,mem_append_right->aah,replicate->aai,mem_cons->aaj,getElem?_eq_getElem->aal,map_append->aam,getElem?_map->aao,getElem?_eq_some_iff->aaq,length_append->aar,getElem?_set_ne->aau,getElem?_append_right->aax,mem_append_left->aay,map_cons->aaz,all_cons->aaA,getD_eq_getElem?_getD->aaB,nodup_cons->aaC,range->aaE,length_set->aaF,getElem?_append_left->aaG,all_eq_true->aaH,mem_filterMap->aaI,append_nil->aaK,getElem?_replicate->aaL,eq_nil_iff_forall_not_mem->aaN,mem_singleton->aaS,getElem?_cons_succ->aaT,length_take->aaU,length_cons->aaV,mem_map->aaW,length_replicate->aaY,map_set->aa0,map_map->aa1,cons_append->aa2,getElem?_cons_zero->aa3,nil_append->aa4,filterMap_cons->aa5,length_drop->aa7,map_replicate->aa8,replicate_succ->aa9,map_take->abd,length_range->abe,mem_or_eq_of_mem_set->abf,getElem_of_mem->abi,getElem?_set_self'->abj,map_drop->abl,map->abm,flatten_cons->abn,length_singleton->abo,mem_of_mem_drop->abq,mem_of_mem_take->abr,mem_reverse->abt,not_mem_nil->abu,map_congr_left->abw,drop_eq_getElem_cons->abx,mem_replicate->abz,eraseIdx_cons_succ->abB,reverse_cons->abC,length->abD,eraseIdxIfInBounds_toArray->abH,map_nil->abI,foldl_cons->abJ,dropLast_subset->abK,reverse_reverse->abL,eq_nil_of_length_eq_zero->abP,set->abW,getElem_map->abX,mem_filter->abY,of_mem_zip->abZ,range_succ->ab1,getElem?_set_self->ab2,take_of_length_le->ab4,max?_eq_some_iff->ab5,eraseIdx_sublist->ab6,getElem?_eq_none->ab8,any_cons->ab9,length_pos_iff->acb,filterMap_nil->ach,append_assoc->acj,nodup_append->ack,map_dropLast->acl,foldl->acn
open Nat renaming le_refl->aan,zero_le->aas,zero_add->aat,lt_of_lt_of_le->aaw,ne_of_lt->aaD,le_trans->aaJ,lt_irrefl->aaM,le_of_not_lt->aaZ,min_le_right->abh,pow_pos->abv,min_le_left->aby,le_of_succ_le_succ->abE,pow_succ->abN,pow_le_pow_right->abO,eq_zero_or_pos->abS,le_antisymm->ab0,le_succ->ab3,le_div_iff_mul_le->ab7,pow_le_pow_left->aca,le_of_lt->acd,ne_of_gt->ace,succ_mul->acf,lt_or_ge->acg
open Option renaming map_eq_some_iff->aap,isSome_iff_exists->aav,bind_some->aaO,map_some->aaP,getD_none->acm
open Bool renaming and_eq_true->aak,false_ne_true->aaQ,false_eq_true->aaR,true_eq_false->aba,true_and->abc,false_and->abg,not_true->abk,not_false->abp,or_false->abG,or_eq_true_iff->abQ,and_false->abR,not_eq_true'->abU
open Int renaming toNat_natCast->aaX,toNat_of_nonneg->aa6,natCast_mul->abb,zero_add->abA,le_refl->abF,emod_nonneg->abM,emod_lt_of_pos->abT,sub_zero->abV,cast_ofNat_Int->aci
theorem nF {P:Prop} (h:false=true):P:=Bool.noConfusion h
theorem nE {P:Prop} (h:False):P:=h.elim
theorem bS {α β:Type _} {o:Option α} {f:α->Option β} {b:β} (h:o.bind f=some b):∃ a,o=some a/\f a=some b:=Option.bind_eq_some_iff.mp h
section
namespace L2
open PySem PySem.Spec PyProof.Rows
noncomputable abbrev Key:=Sum Int Str
noncomputable def NA:Key->Value->Bool
 | .inl k,v=>Value.isInt k v
 | .inr x,v=>Value.isStrOf x v
noncomputable def RV (w:World):Key->Int
 | .inl k=>hashInt k
 | .inr x=>hashStr w x
theorem AV:∀ {k:Key} {v:Value},NA k v=true->(∃ i t,k=Sum.inl i/\v=Value.int i t)\/(∃ x t,k=Sum.inr x/\v=Value.str x t)
 | .inl i,v,h=>by
  obtain ⟨t,e⟩:=Value.isInt_shape (k:=i) (v:=v) h
  exact .inl ⟨i,t,rfl,e⟩
 | .inr x,v,h=>by
  obtain ⟨t,e⟩:=Value.isStrOf_shape (x:=x) (v:=v) h
  exact .inr ⟨x,t,rfl,e⟩
theorem Pd (a b:Int):decide ((Sum.inl a:Key)=Sum.inl b)=(a==b):=by
 by_cases e:a=b
 ·subst e; simp
 ·have h:¬ (Sum.inl a:Key)=Sum.inl b:=fun q=>e (Sum.inl.inj q)
  rw [decide_eq_false h]
  exact (beq_eq_false_iff_ne.mpr e).symm
theorem Pe (a b:Str):decide ((Sum.inr a:Key)=Sum.inr b)=decide (a=b):=by
 by_cases e:a=b
 ·subst e; simp
 ·have h:¬ (Sum.inr a:Key)=Sum.inr b:=fun q=>e (Sum.inr.inj q)
  rw [decide_eq_false h,decide_eq_false e]
theorem Pf (a:Int) (b:Str):decide ((Sum.inl a:Key)=Sum.inr b)=false:=decide_eq_false (fun q=>nomatch q)
theorem Pg (a:Str) (b:Int):decide ((Sum.inr a:Key)=Sum.inl b)=false:=decide_eq_false (fun q=>nomatch q)
noncomputable def GY (prog:Program) (w:World):PySem.KeyKind prog w Key where
 is:=NA
 hash:=RV w
 inj:=fun v a b ha hb=>by
  rcases AV ha with ⟨i,t,rfl,rfl⟩ | ⟨x,t,rfl,rfl⟩
  ·rcases AV hb with ⟨j,u,rfl,e⟩ | ⟨y,u,rfl,e⟩
   ·injection e with e1 _; rw [e1]
   ·exact nomatch e
  ·rcases AV hb with ⟨j,u,rfl,e⟩ | ⟨y,u,rfl,e⟩
   ·exact nomatch e
   ·injection e with e1 _; rw [e1]
 byValue:=fun k v h=>by
  rcases AV h with ⟨i,t,rfl,rfl⟩ | ⟨x,t,rfl,rfl⟩ <;> rfl
 pyHash:=fun hv h=>by
  rcases AV hv with ⟨i,t,rfl,rfl⟩ | ⟨x,t,rfl,rfl⟩
  ·exact wpAny_pyHash_int h
  ·exact wpAny_pyHash_str h
 eqBool:=fun hu hv h=>by
  rcases AV hu with ⟨i,t,rfl,rfl⟩ | ⟨x,t,rfl,rfl⟩
  ·rcases AV hv with ⟨j,u,rfl,rfl⟩ | ⟨y,u,rfl,rfl⟩
   ·rw [Pd] at h; exact wpAny_eqBool_int h
   ·rw [Pf] at h; exact SeqAt.EqAt.int_str i t y u _ _ _ _ h
  ·rcases AV hv with ⟨j,u,rfl,rfl⟩ | ⟨y,u,rfl,rfl⟩
   ·rw [Pg] at h; exact SeqAt.EqAt.str_int x t j u _ _ _ _ h
   ·rw [Pe] at h; exact wpAny_eqBool_str h
 «strs»:=fun k x t v h=>by
  rcases AV h with ⟨i,u,rfl,e⟩ | ⟨y,u,rfl,e⟩
  ·exact nomatch e
  ·injection e with e1 _
   subst e1
   cases v <;> rfl
end L2
namespace L2
open PySem PySem.Spec PyProof.Rows
inductive V where
 | non | bl (b:Bool) | int (i:Int) | str (x:Str) | byt (b:Array UInt8) | flt (b:UInt64) | ref (a:Addr) | ty (n:String)
 deriving DecidableEq
noncomputable def RelV:V->Value->Prop
 | .non,u=>u=Value.none
 | .bl b,u=>u=Value.bool b
 | .int i,u=>∃ t,u=Value.int i t
 | .str x,u=>∃ t,u=Value.str x t
 | .byt b,u=>∃ t,u=Value.bytes b t
 | .flt b,u=>∃ t,u=Value.float b t
 | .ref a,u=>u=Value.ref a
 | .ty n,u=>u=Value.type n
noncomputable abbrev Vals:List V->List Value->Prop:=Paired RelV
theorem Vals.length {xs:List V} {us:List Value} (r:Vals xs us):xs.length=us.length:=Paired.length r
theorem Vals.get:∀ {xs:List V} {us:List Value} {i:Nat} {x:V},Vals xs us->xs[i]?=some x->∃ u,us[i]?=some u/\RelV x u
 | _,_,_,_,.nil,e=>by simp at e
 | _,_,0,_,.cons r _,e=>by simp at e; subst e; exact ⟨_,rfl,r⟩
 | _,_,i + 1,x,.cons _ t,e=>by
  obtain ⟨u,h1,h2⟩:=Vals.get (i:=i) (x:=x) t (by simpa using e)
  exact ⟨u,by simpa using h1,h2⟩
theorem Vals.set {x:V} {u:Value} (r:RelV x u):∀ {xs:List V} {us:List Value} (i:Nat),Vals xs us->Vals (xs.set i x) (us.set i u)
 | _,_,_,.nil=>.nil
 | _,_,0,.cons _ t=>.cons r t
 | _,_,i + 1,.cons q t=>.cons q (Vals.set r i t)
theorem Vals.append:∀ {xs ys:List V} {us ws:List Value},Vals xs us->Vals ys ws->Vals (xs ++ ys) (us ++ ws)
 | _,_,_,_,.nil,s=>s
 | _,_,_,_,.cons r t,s=>.cons r (Vals.append t s)
theorem Vals.take:∀ {xs:List V} {us:List Value} (n:Nat),Vals xs us->Vals (xs.take n) (us.take n)
 | _,_,0,_=>.nil
 | _,_,_ + 1,.nil=>.nil
 | _,_,n + 1,.cons r t=>.cons r (Vals.take n t)
theorem Vals.drop:∀ {xs:List V} {us:List Value} (n:Nat),Vals xs us->Vals (xs.drop n) (us.drop n)
 | _,_,0,r=>r
 | _,_,_ + 1,.nil=>.nil
 | _,_,n + 1,.cons _ t=>Vals.drop n t
noncomputable def Mn:Option V->Option Value->Prop
 | some v,some u=>RelV v u
 | none,none=>True
 | _,_=>False
noncomputable def KV {κ:Type}:List (κ × V)->List (κ × Value)->Prop:=Paired fun (p:κ × V) (q:κ × Value)=>p.1=q.1/\RelV p.2 q.2
noncomputable def kV:Key->V
 | .inl i=>.int i
 | .inr x=>.str x
inductive HO where
  | lst (xs:List V)
  | tup (xs:List V)
  | dK (kvs:List (Key × V)) | dT (kvs:List (List Key × V))
  | set (S:Int->Bool) (n:Nat)
  | ins (C dx:Addr) (fs:List (Str × V))
  | own (x:Addr)
  | xd (fs:List (Str × V))
  | met (f x:Addr)
  | rng (lo hi:Int)
  | frz (o:Obj) (u:HO)
  | tbl (ps:Array Value)
  | ext (φ:Heap->Prop)
noncomputable abbrev Hp:=Addr->Option HO
noncomputable def upd (H:Hp) (a:Addr) (o:HO):Hp:=fun b=>if b=a then some o else H b
theorem AJ {H:Hp} {a:Addr} {o:HO}:upd H a o a=some o:=by unfold upd; rw [if_pos rfl]
theorem Aj {H:Hp} {a b:Addr} {o:HO} (h:b ≠ a):upd H a o b=H b:=by unfold upd; rw [if_neg h]
theorem B7 {H:Hp} {a b:Addr} {o:HO} (h:H a=some o) (h':H b=none):a ≠ b:=by
 intro e; subst e; rw [h] at h'; cases h'
section
variable (P:Program) (w:World)
noncomputable def ObjOk (H:Hp) (h:Heap) (a:Addr):HO->Prop
 | .lst xs=>xs.length<=sizeLine/\∃ (its:List Value) (n:Nat),Vals xs its/\h.get? a=some { cls:=.type "list",data:=.seq its.toArray n }
 | .tup xs=>xs.length<=sizeLine/\∃ its:List Value,Vals xs its/\IsTup h a its.toArray
 | .dK kvs=>kvs.length<=sizeLine/\(a==sysModules)=false/\∃ vs,KV kvs vs/\h.DictOf (GY P w) a vs
 | .dT kvs=>kvs.length<=sizeLine/\(a==sysModules)=false/\∃ xs:List (List Key × Addr × Value),
   Paired (fun (p:List Key × V) (q:List Key × Addr × Value)=>p.1=q.1/\H q.2.1=some (.tup (p.1.map kV))/\RelV p.2 q.2.2) kvs xs /\
   ∃ o es ep,h.get? a=some o/\o.ExactDict/\o.data=.dict es ep/\es.toList=xs.map (entryOfKey (tupleKind (GY P w)))/\(xs.map (·.1)).Nodup
 | .set S n=>h.SetOf (intKind P w) a S n
 | .ins C dx fs=>H dx=some (.own a)/\fs.length<=1000/\dx ≠ a/\h.get? a=some (PySem.W.instObj C dx) /\
   ∃ mA,h.Ns1 dx mA/\(∀ f,Mn (fs.lookup f) (mA f))/\PySem.Within mA (fs.map (·.1))
 | .own _=>∃ o,h.get? a=some o
 | .xd fs=>∃ mA,h.Ns1 a mA/\∀ f,Mn (fs.lookup f) (mA f)
 | .rng lo hi=>∃ t u v,h.get? a=some { cls:=.type "range",data:=.fields #[.int lo t,.int hi u,.int 1 v] }
 | .frz o u=>h.get? a=some o/\ObjOk H h a u
 | .tbl ps=>h.get? a=some { cls:=.none,data:=.fields ps }
 | .met f x=>h.get? a=some (PySem.W.methodObj (.ref f) (.ref x))
 | .ext φ=>φ h/\(∃ o,h.get? a=some o)/\∀ h1 h2:Heap,φ h1->(∀ o,h1.get? a=some o->h2.get? a=some o)->φ h2
noncomputable def HOk (H:Hp) (h:Heap):Prop:=∀ a o,H a=some o->ObjOk P w H h a o
end
section
variable {P:Program} {w:World} {H H':Hp} {h h':Heap} {a:Addr} {o:HO}
theorem ObjOk.lt (x:ObjOk P w H h a o):a < h.objs.size:=by
 cases o with
 | lst xs=>obtain ⟨_,_,_,_,e⟩:=x; exact Heap.lt_size e
 | tup xs=>obtain ⟨_,_,_,p⟩:=x; exact p.lt
 | dK kvs=>obtain ⟨_,_,_,_,o,_,_,e,_⟩:=x; exact Heap.lt_size e
 | dT kvs=>obtain ⟨_,_,_,_,o,_,_,e,_⟩:=x; exact Heap.lt_size e
 | set S n=>obtain ⟨o,_,_,_,e,_⟩:=x; exact Heap.lt_size e
 | ins C dx fs=>obtain ⟨_,_,_,e,_⟩:=x; exact Heap.lt_size e
 | own y=>obtain ⟨_,e⟩:=x; exact Heap.lt_size e
 | xd fs=>obtain ⟨_,⟨_,_,_,e,_⟩,_⟩:=x; exact Heap.lt_size e
 | rng lo hi=>obtain ⟨_,_,_,e⟩:=x; exact Heap.lt_size e
 | frz ob u=>obtain ⟨e,_⟩:=x; exact Heap.lt_size e
 | tbl ps=>exact Heap.lt_size (show h.get? a=some _ from x)
 | met f y=>exact Heap.lt_size (show h.get? a=some _ from x)
 | ext φ=>obtain ⟨_,⟨_,e⟩,_⟩:=x; exact Heap.lt_size e
theorem Paired.mapP {α β:Type} {F G:α->β->Prop}:∀ {l₁:List α} {l₂:List β},Paired F l₁ l₂->(∀ a b,F a b->G a b)->Paired G l₁ l₂
 | _,_,.nil,_=>.nil
 | _,_,.cons r t,f=>.cons (f _ _ r) (Paired.mapP t f)
theorem ObjOk.stay (x:ObjOk P w H h a o) (k:∀ b u,(b=a\/H b=some (.own a))->h.get? b=some u->h'.get? b=some u)
  (ho:∀ b,H b=some (.own a)->H' b=some (.own a)) (ht:∀ b xs,H b=some (.tup xs)->H' b=some (.tup xs)):ObjOk P w H' h' a o:=by
 induction o with
 | lst xs=>obtain ⟨z,its,n,r,e⟩:=x; exact ⟨z,its,n,r,k _ _ (.inl rfl) e⟩
 | tup xs=>obtain ⟨z,its,r,ob,e,c⟩:=x; exact ⟨z,its,r,ob,k _ _ (.inl rfl) e,c⟩
 | dK kvs=>obtain ⟨z,y,vs,r,ob,es,ep,e,c⟩:=x; exact ⟨z,y,vs,r,ob,es,ep,k _ _ (.inl rfl) e,c⟩
 | dT kvs =>
  obtain ⟨z,y,xs,r,ob,es,ep,e,c⟩:=x
  exact ⟨z,y,xs,Paired.mapP r fun p q z=>⟨z.1,ht _ _ z.2.1,z.2.2⟩,ob,es,ep,k _ _ (.inl rfl) e,c⟩
 | set S n=>obtain ⟨ob,es,ep,t,e,c⟩:=x; exact ⟨ob,es,ep,t,k _ _ (.inl rfl) e,c⟩
 | ins C dx fs =>
  obtain ⟨d,z,ne,e,mA,⟨od,es,ep,e2,c⟩,r⟩:=x
  exact ⟨ho _ d,z,ne,k _ _ (.inl rfl) e,mA,⟨od,es,ep,k _ _ (.inr d) e2,c⟩,r⟩
 | own y=>obtain ⟨ob,e⟩:=x; exact ⟨ob,k _ _ (.inl rfl) e⟩
 | xd fs=>obtain ⟨mA,⟨od,es,ep,e,c⟩,r⟩:=x; exact ⟨mA,⟨od,es,ep,k _ _ (.inl rfl) e,c⟩,r⟩
 | rng lo hi=>obtain ⟨t,u,v,e⟩:=x; exact ⟨t,u,v,k _ _ (.inl rfl) e⟩
 | frz ob u ih=>obtain ⟨e,q⟩:=x; exact ⟨k _ _ (.inl rfl) e,ih q⟩
 | tbl ps =>
  have e:h.get? a=some { cls:=.none,data:=.fields ps }:=x
  show h'.get? a=some { cls:=.none,data:=.fields ps }
  exact k a _ (.inl rfl) e
 | met f y =>
  have e:h.get? a=some (PySem.W.methodObj (.ref f) (.ref y)):=x
  show h'.get? a=some (PySem.W.methodObj (.ref f) (.ref y))
  exact k a _ (.inl rfl) e
 | ext φ=>obtain ⟨p,⟨o,e⟩,st⟩:=x; exact ⟨st _ _ p fun o q=>k _ _ (.inl rfl) q,⟨o,k _ _ (.inl rfl) e⟩,st⟩
theorem HOk.lt (x:HOk P w H h) (e:H a=some o):a < h.objs.size:=(x a o e).lt
theorem HOk.fresh (x:HOk P w H h) (e:h.objs.size<=a):H a=none:=by
 cases q:H a with
 | none=>rfl
 | some u=>exact absurd (aaw (x.lt q) e) (aaM _)
theorem HOk.kept (x:HOk P w H h) (k:∀ b u,h.get? b=some u->h'.get? b=some u):HOk P w H h':=fun a o e =>
 (x a o e).stay (fun b u _ q=>k b u q) (fun _ q=>q) fun _ _ q=>q
theorem HOk.laid (x:HOk P w H h) (k:∀ b u,h.get? b=some u->h'.get? b=some u) (hp:h.objs.size<=a) (new:ObjOk P w (upd H a o) h' a o):HOk P w (upd H a o) h':=fun b u e=>by
 have hn:=x.fresh hp
 by_cases hb:b=a
 ·subst hb; rw [AJ] at e; cases e; exact new
 ·rw [Aj hb] at e
  exact (x b u e).stay (fun c v _ q=>k c v q) (fun c q=>by rw [Aj (B7 q hn)]; exact q) fun c xs q=>by rw [Aj (B7 q hn)]; exact q
end
noncomputable def Rd (H:Hp) (a:Addr) (u:HO):Prop:=H a=some u\/∃ o,H a=some (.frz o u)
theorem Rd.ok {P:Program} {w:World} {H:Hp} {h:Heap} {a:Addr} {u:HO} (r:Rd H a u) (x:HOk P w H h):ObjOk P w H h a u:=by
 rcases r with r | ⟨o,r⟩
 ·exact x a u r
 ·obtain ⟨_,q⟩:=x a _ r
  exact q
noncomputable def Mut:Option HO->Prop
 | some (.lst _)=>True
 | some (.dK _)=>True
 | some (.dT _)=>True
 | some (.set _ _)=>True
 | some (.ins _ _ _)=>True
 | some (.ext _)=>True
 | _=>False
section
variable {P:Program} {w:World} {H:Hp} {h h':Heap} {x e:Addr} {o':HO}
theorem HOk.write (ok:HOk P w H h) (mu:Mut (H x)) (he:e=x\/H e=some (.own x)) (k:∀ b u,b ≠ e->h.get? b=some u->h'.get? b=some u) (heo:∃ u,h'.get? e=some u)
  (new:ObjOk P w (upd H x o') h' x o'):HOk P w (upd H x o') h':=fun b u q=>by
 have nown:∀ c y,H c=some (.own y)->c ≠ x:=fun c y r z=>by subst z; rw [r] at mu; exact mu
 have ntup:∀ c xs,H c=some (.tup xs)->c ≠ x:=fun c xs r z=>by subst z; rw [r] at mu; exact mu
 by_cases hb:b=x
 ·subst hb; rw [AJ] at q; cases q; exact new
 ·rw [Aj hb] at q
  by_cases hbe:b=e
  ·have q':H b=some (.own x):=by
    rcases he with z | z
    ·exact absurd (hbe.trans z) hb
    ·rw [hbe]; exact z
   rw [q] at q'; cases q'
   obtain ⟨v,hv⟩:=heo
   exact ⟨v,by rw [hbe]; exact hv⟩
  ·refine (ok b u q).stay (fun c v hc r=>k c v ?_ r) (fun c r=>by rw [Aj (nown c b r)]; exact r) fun c xs r=>by rw [Aj (ntup c xs r)]; exact r
   rcases hc with rfl | hc
   ·exact hbe
   ·rintro rfl
    rcases he with z | z
    ·exact nown c b hc z
    ·rw [hc] at z; cases z; exact hb rfl
end
structure Un (fs ex:List Addr) (H H':Hp) (h h':Heap):Prop where
 keep:∀ b o,h.get? b=some o->H b=none->b ∉ fs->b ∉ ex->h'.get? b=some o
 slot:∀ b o,h.get? b=some o->H b=none->b ∈ fs->b ∉ ex->∃ sl,h'.get? b=some { o with slots:=sl }
 free:∀ b o,h.get? b=some o->H b=none->b ∉ ex->H' b=none
 there:∀ b o,h.get? b=some o->b ∉ ex->∃ o',h'.get? b=some o'
 tups:∀ b xs,H b=some (.tup xs)->H' b=some (.tup xs)
 frzs:∀ b o u,H b=some (.frz o u)->H' b=some (.frz o u)
 tbls:∀ b ps,H b=some (.tbl ps)->∃ more,H' b=some (.tbl (ps ++ more))
section
variable {fs fs' ex ex':List Addr} {H H1 H2:Hp} {h h1 h2 h':Heap} {a x e:Addr} {o:HO}
theorem Un.any (u:Un fs ex H H1 h h1) {b:Addr} {ob:Obj} (q:h.get? b=some ob) (n:H b=none) (hx:b ∉ ex):∃ sl,h1.get? b=some { ob with slots:=sl }:=by
 by_cases hb:b ∈ fs
 ·exact u.slot b ob q n hb hx
 ·exact ⟨ob.slots,u.keep b ob q n hb hx⟩
theorem Un.kept (k:∀ b u,h.get? b=some u->h'.get? b=some u):Un fs ex H H h h' :=
 ⟨fun b ob q _ _ _=>k b ob q,fun b ob q _ _ _=>⟨ob.slots,k b ob q⟩,fun _ _ _ n _=>n,fun b ob q _=>⟨ob,k b ob q⟩,fun _ _ q=>q,fun _ _ _ q=>q,fun _ ps q=>⟨#[],by rw [q]; simp⟩⟩
theorem Un.refl:Un fs ex H H h h:=Un.kept fun _ _ q=>q
theorem Un.laid (k:∀ b u,h.get? b=some u->h'.get? b=some u) (hp:h.objs.size<=a) (hn:H a=none):Un fs ex H (upd H a o) h h' where
 keep:=fun b u q _ _ _=>k b u q
 slot:=fun b u q _ _ _=>⟨u.slots,k b u q⟩
 free:=fun b u q n _=>by rw [Aj (aaD (aaw (Heap.lt_size q) hp))]; exact n
 there:=fun b u q _=>⟨u,k b u q⟩
 tups:=fun b xs q=>by rw [Aj (B7 q hn)]; exact q
 frzs:=fun b u xs q=>by rw [Aj (B7 q hn)]; exact q
 tbls:=fun b ps q=>⟨#[],by rw [Aj (B7 q hn),q]; simp⟩
theorem Un.write (mu:Mut (H x)) (he:e=x\/H e=some (.own x)) (k:∀ b u,b ≠ e->h.get? b=some u->h'.get? b=some u) (heo:∃ u,h'.get? e=some u):Un fs ex H (upd H x o) h h':=by
 have hx:∀ b,H b=none->b ≠ x:=fun b n z=>by subst z; rw [n] at mu; exact mu
 have hb:∀ b,H b=none->b ≠ e:=fun b n z=>by
  subst z
  rcases he with r | r
  ·exact hx b n r
  ·rw [n] at r; cases r
 have hm:∀ b u,H b=some u->¬ Mut (some u)->b ≠ x:=fun b u q nm z=>by subst z; rw [q] at mu; exact nm mu
 refine ⟨fun b u q n _ _=>k b u (hb b n) q,fun b u q n _ _=>⟨u.slots,k b u (hb b n) q⟩,fun b u q n _=>by rw [Aj (hx b n)]; exact n,fun b u q _=>?_,
  fun b xs q=>by rw [Aj (hm b _ q fun z=>z)]; exact q,fun b u xs q=>by rw [Aj (hm b _ q fun z=>z)]; exact q,fun b ps q=>⟨#[],by rw [Aj (hm b _ q fun z=>z),q]; simp⟩⟩
 by_cases hbe:b=e
 ·subst hbe; exact heo
 ·exact ⟨u,k b u hbe q⟩
end
noncomputable def trk (h:Heap) (H:Hp):List Addr:=(aaE h.objs.size).filter fun a=>(H a).isSome
noncomputable def EL (h:Heap) (H:Hp):Heap:=PySem.W.hideAll h (trk h H)
theorem K4 (h:Heap) (H:Hp):(EL h H).objs.size=h.objs.size:=PySem.W.hideAll_size _ _
theorem Mo {h:Heap} {H:Hp} {b:Addr} {o:Obj} (e:h.get? b=some o) (n:H b=none):(EL h H).get? b=some o :=
 PySem.W.hideAll_get _ e fun hm=>by
  have q:(H b).isSome=true:=(abY.mp hm).2
  rw [n] at q; simp at q
theorem NS {h:Heap} {H:Hp} {b:Addr} {o:Obj} (e:(EL h H).get? b=some o):h.get? b=some o/\H b=none:=by
 have e':h.get? b=some o:=PySem.W.of_hideAll (trk h H) e
 refine ⟨e',?_⟩
 cases q:H b with
 | none=>rfl
 | some x =>
  have hm:b ∈ trk h H:=abY.mpr ⟨List.mem_range.mpr (Heap.lt_size e'),by simp [q]⟩
  have z:(EL h H).get? b=none:=PySem.W.hideAll_none (trk h H) hm
  rw [z] at e; cases e
structure Mod (K:PySem.W.Frag) (mg:Str->Option Value) (base:Heap):Prop where
 kin:K.In base
 glob:base.Ns mainGlobals mg
 blt:∃ mb,base.Ns builtinsNs mb/\∀ x:Str,x ≠ "__name__" -> mb x=bootBuiltins x
 nolimit:base.NoLimit
structure Cx where
 prog:Program
 w:World
 K:PySem.W.Frag
 mg:Str->Option Value
 base:Heap
 A:Around
 N:List Str
 s₀:Shared
 H₀:Hp
 env:Env
 outer:List Env
 stack:List Env
 ex:List Addr
 fn:Str->Bool
 calm:Bool
 pn:List (Addr × Obj)
 xe:Value->Shared->Prop
noncomputable def frs (l:List Env):List Addr:=l.filterMap (·.frame)
noncomputable abbrev Cx.fs (X:Cx):List Addr:=frs X.outer
noncomputable def Vis (sc:Scope) (x:Str):Prop:=sc.names.lookup x=some .local\/sc.names.lookup x=some .cell\/sc.names.lookup x=some .free
noncomputable def Loc (sc:Scope) (x:Str):Prop:=sc.names.lookup x=some .local\/sc.names.lookup x=some .cell
noncomputable def RW (env:Env) (h:Heap) (m:Str->Option Value) (x:Str) (u:Value):Prop :=
 (env.kindOf x=some .local/\m x=some u)\/((env.kindOf x=some .cell\/env.kindOf x=some .free)/\∃ c,env.cells.lookup x=some c/\h.IsCell c (some u))
structure Cx.Ok (X:Cx):Prop where
 mod:Mod X.K X.mg X.base
 kind:X.env.scope.kind=.function
 glob:X.env.globals=mainGlobals
 blt:X.env.builtins=builtinsNs
 above:X.s₀.heap.objs.size<=X.env.locals
 inj:∀ x y c,X.env.cells.lookup x=some c->X.env.cells.lookup y=some c->x=y
 has:∀ x,(X.env.kindOf x=some .cell\/X.env.kindOf x=some .free)->∃ c,X.env.cells.lookup x=some c
 cab:∀ x c,X.fn x=true->X.env.cells.lookup x=some c->X.s₀.heap.objs.size<=c
 hd:X.calm=true->X.A.handled=none
 frames:X.A.frames=some X.stack
 stk:X.stack=X.outer\/(X.stack=X.env :: X.outer/\X.env.frame=some X.env.locals)
 exf:∀ b ∈ X.ex,b ≠ X.env.locals/\∀ x c,X.env.cells.lookup x=some c->c ≠ b
 bs:∀ b o,X.base.get? b=some o->X.s₀.heap.get? b=some o/\X.H₀ b=none
 bsz:X.base.objs.size<=X.s₀.heap.objs.size
 noex:∀ b o,X.base.get? b=some o->b ∉ X.ex
 exfs:∀ b ∈ X.ex,b ∉ X.fs
 funs:X.s₀.heap.FunFrames X.base X.outer
 frf:∀ b ∈ X.fs,X.H₀ b=none
structure Inv (X:Cx) (pins:List (Addr × Obj)) (σ:List (Option V)) (H:Hp) (s:Shared):Prop where
 ok:X.Ok
 os:s.os=X.s₀.os
 bare:AllBare s.gens
 base:Un X.fs X.ex X.H₀ H X.s₀.heap s.heap
 loc:∃ m,s.heap.Ns X.env.locals m/\∀ (i:Nat) (x:Str) (v:V),X.N[i]?=some x->σ[i]?=some (some v)->Vis X.env.scope x->∃ u,RelV v u/\RW X.env s.heap m x u
 cell:∀ x c,X.env.cells.lookup x=some c->∃ v,s.heap.IsCell c v
 free:H X.env.locals=none
 freeC:∀ x c,X.env.cells.lookup x=some c->H c=none
 pin:∀ p ∈ X.pn ++ pins,s.heap.get? p.1=some p.2/\H p.1=none/\p.1 ≠ X.env.locals/\p.1 ∉ X.fs/\∀ v,p.2.data ≠ .cell v
 hok:HOk X.prog X.w H s.heap
 len:σ.length=X.N.length
section
variable {X:Cx} {pins:List (Addr × Obj)} {σ:List (Option V)} {H H':Hp} {s:Shared} {h':Heap}
theorem Cx.Ok.nofr (ok:X.Ok) {b:Addr} {o:Obj} (e:X.base.get? b=some o):b ∉ X.fs:=fun hb=>by
 have:=(ok.funs.mem hb).1
 rw [e] at this; cases this
theorem Inv.bs (I:Inv X pins σ H s):∀ b o,X.base.get? b=some o->s.heap.get? b=some o/\H b=none:=fun b o e =>
 ⟨I.base.keep b o (I.ok.bs b o e).1 (I.ok.bs b o e).2 (I.ok.nofr e) (I.ok.noex b o e),I.base.free b o (I.ok.bs b o e).1 (I.ok.bs b o e).2 (I.ok.noex b o e)⟩
theorem Inv.bk (I:Inv X pins σ H s):∀ b o,X.base.get? b=some o->s.heap.get? b=some o:=fun b o e=>(I.bs b o e).1
theorem Inv.mod (I:Inv X pins σ H s):Mod X.K X.mg X.base:=I.ok.mod
theorem Inv.kIn (I:Inv X pins σ H s):X.K.In s.heap:=I.ok.mod.kin.keeps I.bk
theorem Inv.fr (I:Inv X pins σ H s):∃ m,Fr X.base X.env.locals s.heap m :=
 let ⟨m,hn,_⟩:=I.loc
 ⟨m,hn,I.bk,aaJ I.ok.bsz I.ok.above⟩
theorem Inv.lt (I:Inv X pins σ H s):X.env.locals < s.heap.objs.size:=let ⟨_,hn,_⟩:=I.loc; hn.lt
theorem Inv.sz (I:Inv X pins σ H s):X.s₀.heap.objs.size<=s.heap.objs.size:=aaJ I.ok.above (acd I.lt)
theorem Inv.nofs (I:Inv X pins σ H s) {a:Addr} (h:s.heap.objs.size<=a):a ∉ X.fs:=fun hb=>by
 obtain ⟨_,o,ho,_⟩:=I.ok.funs.mem hb
 exact absurd (aaw (Heap.lt_size ho) (aaJ I.sz h)) (aaM _)
theorem Inv.cne (I:Inv X pins σ H s):∀ x c,X.env.cells.lookup x=some c->c ≠ X.env.locals:=fun x c e z=>by
 obtain ⟨v,o,ho,hd⟩:=I.cell x c e
 obtain ⟨m,⟨o',es,ep,ho',hd',_⟩,_⟩:=I.loc
 rw [z,ho'] at ho; cases ho; rw [hd'] at hd; cases hd
theorem Inv.funs (I:Inv X pins σ H s):s.heap.FunFrames X.base X.outer:=by
 have all:∀ (l:List Env),(∀ b ∈ frs l,b ∈ X.fs)->X.s₀.heap.FunFrames X.base l->s.heap.FunFrames X.base l:=by
  intro l
  induction l with
  | nil=>intro _ _; trivial
  | cons env r ih =>
   intro hs hl
   obtain ⟨hk,⟨L,o,hf,hn,ho,hd⟩,hr⟩:=hl
   have hL:L ∈ X.fs:=hs L (by unfold frs; rw [aa5,hf]; exact aac)
   obtain ⟨sl,e⟩:=I.base.slot L o ho (I.ok.frf L hL) hL fun z=>I.ok.exfs L z hL
   exact ⟨hk,⟨L,_,hf,hn,e,hd⟩,ih (fun b hb=>hs b (by unfold frs; rw [aa5,hf]; exact aab _ hb)) hr⟩
 exact all X.outer (fun _ hb=>hb) I.ok.funs
theorem Inv.stack (I:Inv X pins σ H s):s.heap.FunFrames X.base X.stack:=by
 rcases I.ok.stk with e | ⟨e,hf⟩
 ·rw [e]; exact I.funs
 ·rw [e]
  obtain ⟨m,hn,_⟩:=I.loc
  refine .cons (by rw [I.ok.kind]; decide) hf hn ?_ I.funs
  exact Heap.get?_none_of_le (aaJ I.ok.bsz I.ok.above)
theorem Inv.stkSub (I:Inv X pins σ H s):∀ b ∈ frs X.stack,b ∈ X.env.locals :: X.fs:=fun b hb=>by
 rcases I.ok.stk with e | ⟨e,hf⟩
 ·rw [e] at hb; exact aab _ hb
 ·rw [e] at hb
  unfold frs at hb
  rw [aa5,hf] at hb
  exact hb
theorem Inv.stkFree (I:Inv X pins σ H s):∀ b ∈ frs X.stack,H b=none:=fun b hb=>by
 rcases aaj.mp (I.stkSub b hb) with e | hb
 ·rw [e]; exact I.free
 ·obtain ⟨_,o,ho,_⟩:=I.ok.funs.mem hb
  exact I.base.free b o ho (I.ok.frf b hb) fun z=>I.ok.exfs b z hb
theorem Inv.step {g':Array GenState} {t':Nat} {d':Drawn} {ch:List Addr} (I:Inv X pins σ H s)
  (hch:∀ b ∈ ch,(b ∈ X.ex\/X.s₀.heap.objs.size<=b)/\b ≠ X.env.locals/\(∀ x c,X.env.cells.lookup x=some c->c ≠ b)/\∀ p ∈ X.pn ++ pins,p.1 ≠ b)
  (keep:∀ b o,b ≠ X.env.locals->b ∉ X.fs->b ∉ ch->s.heap.get? b=some o->H b=none->h'.get? b=some o)
  (slot:∀ b o,b ≠ X.env.locals->b ∈ X.fs->b ∉ ch->s.heap.get? b=some o->H b=none->∃ sl,h'.get? b=some { o with slots:=sl }) (free:∀ b o,b ∉ ch->s.heap.get? b=some o->H b=none->H' b=none)
  (there:∀ b o,b ∉ ch->s.heap.get? b=some o->∃ o',h'.get? b=some o')
  (tups:∀ b xs,H b=some (.tup xs)->H' b=some (.tup xs)) (frzs:∀ b o u,H b=some (.frz o u)->H' b=some (.frz o u)) (tbls:∀ b ps,H b=some (.tbl ps)->∃ more,H' b=some (.tbl (ps ++ more)))
  (ns:∀ m,s.heap.Ns X.env.locals m->h'.Ns X.env.locals m) (hok:HOk X.prog X.w H' h') (hg:AllBare g') :
  Inv X pins σ H' { s with heap:=h',gens:=g',drawn:=d',toks:=t' }:=by
 have neL:∀ b o,X.s₀.heap.get? b=some o->b ≠ X.env.locals:=fun b o e=>aaD (aaw (Heap.lt_size e) I.ok.above)
 have neC:∀ b o,X.s₀.heap.get? b=some o->b ∉ X.ex->b ∉ ch:=fun b o e hx hb=>by
  rcases (hch b hb).1 with z | z
  ·exact hx z
  ·exact absurd (aaw (Heap.lt_size e) z) (aaM _)
 have cellK:∀ x c,X.env.cells.lookup x=some c->∀ v,s.heap.IsCell c v->h'.IsCell c v:=fun x c e v ⟨o,ho,hd⟩=>by
  have nch:c ∉ ch:=fun z=>(hch c z).2.2.1 x c e rfl
  by_cases hc:c ∈ X.fs
  ·obtain ⟨sl,q⟩:=slot c o (I.cne x c e) hc nch ho (I.freeC x c e)
   exact ⟨_,q,hd⟩
  ·exact ⟨o,keep c o (I.cne x c e) hc nch ho (I.freeC x c e),hd⟩
 refine ⟨I.ok,I.os,hg,⟨fun b o e n hb hx=>?_,fun b o e n hb hx=>?_,fun b o e n hx=>?_,fun b o e hx=>?_,fun b xs e=>tups b xs (I.base.tups b xs e),fun b o xs e=>frzs b o xs (I.base.frzs b o xs e),fun b ps e=>?_⟩,?_,fun x c e=>?_,?_,fun x c e=>?_,fun p hp=>?_,hok,I.len⟩
 ·exact keep b o (neL b o e) hb (neC b o e hx) (I.base.keep b o e n hb hx) (I.base.free b o e n hx)
 ·obtain ⟨sl,e1⟩:=I.base.slot b o e n hb hx
  obtain ⟨sl',e2⟩:=slot b _ (neL b o e) hb (neC b o e hx) e1 (I.base.free b o e n hx)
  exact ⟨sl',e2⟩
 ·obtain ⟨o',e1⟩:=I.base.there b o e hx
  exact free b o' (neC b o e hx) e1 (I.base.free b o e n hx)
 ·obtain ⟨o',e1⟩:=I.base.there b o e hx
  exact there b o' (neC b o e hx) e1
 ·obtain ⟨m1,e1⟩:=I.base.tbls b ps e
  obtain ⟨m2,e2⟩:=tbls b _ e1
  exact ⟨m1 ++ m2,by rw [e2,Array.append_assoc]⟩
 ·obtain ⟨m,hn,hl⟩:=I.loc
  refine ⟨m,ns m hn,fun i x v e1 e2 e3=>?_⟩
  obtain ⟨u,r,l⟩:=hl i x v e1 e2 e3
  refine ⟨u,r,?_⟩
  rcases l with l | ⟨k,c,e,z⟩
  ·exact .inl l
  ·exact .inr ⟨k,c,e,cellK x c e _ z⟩
 ·obtain ⟨v,z⟩:=I.cell x c e
  exact ⟨v,cellK x c e v z⟩
 ·obtain ⟨m,⟨o,_,_,ho,_⟩,_⟩:=I.loc
  exact free _ o (fun z=>(hch _ z).2.1 rfl) ho I.free
 ·obtain ⟨v,o,ho,hd⟩:=I.cell x c e
  exact free c o (fun z=>(hch c z).2.2.1 x c e rfl) ho (I.freeC x c e)
 ·obtain ⟨e,n,ne,nf,d⟩:=I.pin p hp
  have nch:p.1 ∉ ch:=fun z=>(hch p.1 z).2.2.2 p hp rfl
  exact ⟨keep p.1 p.2 ne nf nch e n,free p.1 p.2 nch e n,ne,nf,d⟩
theorem Inv.un {t':Nat} (I:Inv X pins σ H s) (u:Un X.fs [] H H' s.heap h') (hok:HOk X.prog X.w H' h'):Inv X pins σ H' { s with heap:=h',toks:=t' }:=by
 obtain ⟨m,⟨o,es,ep,ho,r⟩,_⟩:=id I.loc
 obtain ⟨sl,hL⟩:=u.any ho I.free (by simp)
 exact I.step (g':=s.gens) (d':=s.drawn) (ch:=[]) (fun _ z=>nomatch z) (fun b o _ hb _ e n=>u.keep b o e n hb (by simp)) (fun b o _ hb _ e n=>u.slot b o e n hb (by simp)) (fun b o _ e n=>u.free b o e n (by simp)) (fun b o _ e=>u.there b o e (by simp)) u.tups u.frzs u.tbls (fun m' hm=>by
  obtain ⟨o',es',ep',ho',r'⟩:=hm
  rw [ho] at ho'; cases ho'
  exact ⟨_,es',ep',hL,r'⟩) hok I.bare
theorem Inv.call {g':Array GenState} {t':Nat} {d':Drawn} {ch:List Addr} (I:Inv X pins σ H s) (u:Un (frs X.stack) ch H H' s.heap h') (hok:HOk X.prog X.w H' h') (hg:AllBare g')
  (hch:∀ b ∈ ch,(b ∈ X.ex\/X.s₀.heap.objs.size<=b)/\b ≠ X.env.locals/\(∀ x c,X.env.cells.lookup x=some c->c ≠ b)/\∀ p ∈ X.pn ++ pins,p.1 ≠ b) :
  Inv X pins σ H' { s with heap:=h',gens:=g',drawn:=d',toks:=t' }:=by
 obtain ⟨m,⟨o,es,ep,ho,r⟩,_⟩:=id I.loc
 obtain ⟨sl,hL⟩:=u.any ho I.free fun z=>(hch _ z).2.1 rfl
 exact I.step (ch:=ch) hch (fun b o hL hb hc e n=>u.keep b o e n (fun z=>(aaj.mp (I.stkSub b z)).elim hL hb) hc) (fun b o _ _ hc e n=>u.any e n hc) (fun b o hc e n=>u.free b o e n hc) (fun b o hc e=>u.there b o e hc) u.tups u.frzs u.tbls (fun m' hm=>by
  obtain ⟨o',es',ep',ho',r'⟩:=hm
  rw [ho] at ho'; cases ho'
  exact ⟨_,es',ep',hL,r'⟩) hok hg
theorem Inv.turned {t':Nat} {it:Addr} (I:Inv X pins σ H s) (k:∀ b o,b ≠ it->s.heap.get? b=some o->h'.get? b=some o) (hn:H it=none) (hL:it ≠ X.env.locals)
  (h1:it ∈ X.ex\/X.s₀.heap.objs.size<=it) (h2:∀ x c,X.env.cells.lookup x=some c->c ≠ it) (h3:∀ p ∈ X.pn ++ pins,p.1 ≠ it):Inv X pins σ H { s with heap:=h',toks:=t' }:=by
 have nit:∀ b u,H b=some u->b ≠ it:=fun b u e z=>by rw [z,hn] at e; cases e
 refine I.step (g':=s.gens) (d':=s.drawn) (ch:=[it]) (fun b hb=>?_) (fun b o _ _ hc e _=>k b o (fun z=>hc (by simp [z])) e) (fun b o _ _ hc e _=>⟨o.slots,k b o (fun z=>hc (by simp [z])) e⟩) (fun _ _ _ _ n=>n)
  (fun b o hc e=>⟨o,k b o (fun z=>hc (by simp [z])) e⟩) (fun _ _ e=>e) (fun _ _ _ e=>e) (fun b ps e=>⟨#[],by rw [e]; simp⟩) (fun m hm=>?_) (fun b u e=>?_) I.bare
 ·have e:b=it:=by simpa using hb
  subst e
  exact ⟨h1,hL,h2,h3⟩
 ·obtain ⟨o,es,ep,ho,r⟩:=hm
  exact ⟨o,es,ep,k _ o (Ne.symm hL) ho,r⟩
 ·refine (I.hok b u e).stay (fun c v hc q=>k c v ?_ q) (fun _ q=>q) fun _ _ q=>q
  rcases hc with z | z
  ·rw [z]; exact nit b u e
  ·exact nit c _ z
theorem Inv.tok (I:Inv X pins σ H s) (t:Nat):Inv X pins σ H { s with toks:=t }:=I.un (h':=s.heap) (t':=t) Un.refl I.hok
theorem Inv.kept {t':Nat} (I:Inv X pins σ H s) (k:∀ b u,s.heap.get? b=some u->h'.get? b=some u):Inv X pins σ H { s with heap:=h',toks:=t' }:=I.un (Un.kept k) (I.hok.kept k)
theorem Inv.laid {a:Addr} {o:HO} {t':Nat} (I:Inv X pins σ H s) (k:∀ b u,s.heap.get? b=some u->h'.get? b=some u) (hp:s.heap.objs.size<=a) (new:ObjOk X.prog X.w (upd H a o) h' a o) :
  Inv X pins σ (upd H a o) { s with heap:=h',toks:=t' }:=I.un (Un.laid k hp (I.hok.fresh hp)) (I.hok.laid k hp new)
theorem Inv.write {x e:Addr} {o:HO} {t':Nat} (I:Inv X pins σ H s) (mu:Mut (H x)) (he:e=x\/H e=some (.own x)) (k:∀ b u,b ≠ e->s.heap.get? b=some u->h'.get? b=some u) (heo:∃ u,h'.get? e=some u)
  (new:ObjOk X.prog X.w (upd H x o) h' x o):Inv X pins σ (upd H x o) { s with heap:=h',toks:=t' }:=I.un (Un.write mu he k heo) (I.hok.write mu he k heo new)
theorem Inv.weak {σ':List (Option V)} (I:Inv X pins σ H s) (hl:σ'.length=σ.length) (w:∀ (i:Nat) v,σ'[i]?=some (some v)->σ[i]?=some (some v)):Inv X pins σ' H s :=
 ⟨I.ok,I.os,I.bare,I.base,let ⟨m,hn,hl'⟩:=I.loc; ⟨m,hn,fun i x v e1 e2 e3=>hl' i x v e1 (w i v e2) e3⟩,I.cell,I.free,I.freeC,I.pin,I.hok,hl.trans I.len⟩
theorem Inv.pins_of {pins':List (Addr × Obj)} (I:Inv X pins σ H s) (h:∀ p ∈ pins',s.heap.get? p.1=some p.2/\H p.1=none/\p.1 ≠ X.env.locals/\p.1 ∉ X.fs/\∀ v,p.2.data ≠ .cell v):Inv X pins' σ H s :=
 ⟨I.ok,I.os,I.bare,I.base,I.loc,I.cell,I.free,I.freeC,fun p hp=>(aaf.mp hp).elim (fun z=>I.pin p (aay _ z)) (h p),I.hok,I.len⟩
theorem HS {N:List Str} (hN:N.Nodup) {i j:Nat} {x:Str} (a:N[i]?=some x) (b:N[j]?=some x):i=j:=by
 obtain ⟨h1,e1⟩:=aaq.mp a
 obtain ⟨h2,e2⟩:=aaq.mp b
 exact (List.getElem_inj hN).mp (e1.trans e2.symm)
theorem Ho {M:Model} {A:Around} {E:Value->Shared->Prop} {i:Nat} {x:Str} {v:V} {u:Value} {Q:Unit->Shared->Prop} (I:Inv X pins σ H s) (hN:X.N.Nodup) (hi:X.N[i]?=some x) (hx:Loc X.env.scope x) (r:RelV v u)
  (h:∀ s',Inv X pins (σ.set i (some v)) H s'->(∃ a,Heap.SameBut a s.heap s'.heap/\(a=X.env.locals\/X.env.cells.lookup x=some a))->Q () s') (hf:X.fn x=true\/X.env.scope.names.lookup x=some .local:=by first | exact .inl rfl | exact .inr rfl | assumption):wpAny M A (storeName X.env x u) Q E s:=by
 obtain ⟨m,hn,hl⟩:=id I.loc
 have hcls:(X.env.scope.kind==.class || (X.env.scope.kind==.module && X.env.locals != X.env.globals))=false:=by rw [I.ok.kind]; rfl
 have hiσ:i < σ.length:=by rw [I.len]; exact (aaq.mp hi).1
 have cne:=I.cne
 have tracked:∀ {a:Addr} {h':Heap},(∃ o,s.heap.get? a=some o/\H a=none)->Heap.SameBut a s.heap h'->HOk X.prog X.w H h':=fun {a h'} ha hs b ob e=>by
  obtain ⟨_,_,hfree⟩:=ha
  refine (I.hok b ob e).stay (fun c w' hc q=>(hs.2 c ?_).trans q) (fun _ q=>q) fun _ _ q=>q
  rintro rfl
  rcases hc with rfl | hc
  ·rw [hfree] at e; cases e
  ·rw [hfree] at hc; cases hc
 rcases hx with hk | hk
 ·refine wpAny_storeName_local hk hn (fun h' hn' hs=>?_) hcls
  obtain ⟨oL,_,_,hoL,_⟩:=id hn
  refine h _ ⟨I.ok,I.os,I.bare,⟨fun b o e n hb hx=>?_,fun b o e n hb hx=>?_,I.base.free,fun b o e hx=>?_,I.base.tups,I.base.frzs,I.base.tbls⟩,⟨_,hn',fun j y v' e1 e2 e3=>?_⟩,fun y c e=>?_,I.free,I.freeC,fun p hp=>?_,tracked ⟨oL,hoL,I.free⟩ hs,by simpa using I.len⟩ ⟨_,hs,.inl rfl⟩
  ·exact (hs.2 b (aaD (aaw (Heap.lt_size e) I.ok.above))).trans (I.base.keep b o e n hb hx)
  ·obtain ⟨sl,e1⟩:=I.base.slot b o e n hb hx
   exact ⟨sl,(hs.2 b (aaD (aaw (Heap.lt_size e) I.ok.above))).trans e1⟩
  ·obtain ⟨o',e1⟩:=I.base.there b o e hx
   exact ⟨o',(hs.2 b (aaD (aaw (Heap.lt_size e) I.ok.above))).trans e1⟩
  ·by_cases hj:j=i
   ·subst hj
    rw [hi] at e1; cases e1
    rw [ab2 hiσ] at e2
    cases e2
    exact ⟨u,r,.inl ⟨hk,by simp⟩⟩
   ·rw [aau (Ne.symm hj)] at e2
    obtain ⟨u',r',q⟩:=hl j y v' e1 e2 e3
    refine ⟨u',r',?_⟩
    rcases q with ⟨k,e⟩ | ⟨k,c,e,z⟩
    ·refine .inl ⟨k,?_⟩
     have:y ≠ x:=fun e=>hj (HS hN e1 (e ▸ hi))
     simp [this,e]
    ·exact .inr ⟨k,c,e,z.sameBut hs (cne y c e)⟩
  ·obtain ⟨w',z⟩:=I.cell y c e
   exact ⟨w',z.sameBut hs (cne y c e)⟩
  ·obtain ⟨e,n,ne,nf,d⟩:=I.pin p hp
   exact ⟨(hs.2 p.1 ne).trans e,n,ne,nf,d⟩
 ·have hfn:X.fn x=true:=by
   rcases hf with z | z
   ·exact z
   ·rw [z] at hk; cases hk
  obtain ⟨c,hc⟩:=I.ok.has x (.inl hk)
  obtain ⟨w',z⟩:=I.cell x c hc
  refine wpAny_storeName_cell I.ok.kind hk hc z (fun h' hc' hs=>?_)
  obtain ⟨oc,hoc,hocd⟩:=id z
  refine h { s with heap:=h' } ⟨I.ok,I.os,I.bare,⟨fun b o e n hb hx=>?_,fun b o e n hb hx=>?_,I.base.free,fun b o e hx=>?_,I.base.tups,I.base.frzs,I.base.tbls⟩,⟨m,hn.sameBut hs (Ne.symm (cne x c hc)),fun j y v' e1 e2 e3=>?_⟩,fun y c' e=>?_,I.free,I.freeC,fun p hp=>?_,tracked ⟨oc,hoc,I.freeC x c hc⟩ hs,by simpa using I.len⟩ ⟨c,hs,.inr hc⟩
  ·exact (hs.2 b (aaD (aaw (Heap.lt_size e) (I.ok.cab x c hfn hc)))).trans (I.base.keep b o e n hb hx)
  ·obtain ⟨sl,e1⟩:=I.base.slot b o e n hb hx
   exact ⟨sl,(hs.2 b (aaD (aaw (Heap.lt_size e) (I.ok.cab x c hfn hc)))).trans e1⟩
  ·obtain ⟨o',e1⟩:=I.base.there b o e hx
   exact ⟨o',(hs.2 b (aaD (aaw (Heap.lt_size e) (I.ok.cab x c hfn hc)))).trans e1⟩
  ·by_cases hj:j=i
   ·subst hj
    rw [hi] at e1; cases e1
    rw [ab2 hiσ] at e2
    cases e2
    exact ⟨u,r,.inr ⟨.inl hk,c,hc,hc'⟩⟩
   ·rw [aau (Ne.symm hj)] at e2
    obtain ⟨u',r',q⟩:=hl j y v' e1 e2 e3
    refine ⟨u',r',?_⟩
    rcases q with q | ⟨k,c',e,z'⟩
    ·exact .inl q
    ·refine .inr ⟨k,c',e,z'.sameBut hs ?_⟩
     rintro rfl
     exact hj (HS hN e1 (I.ok.inj _ _ _ e hc ▸ hi))
  ·by_cases hcc:c'=c
   ·subst hcc; exact ⟨_,hc'⟩
   ·obtain ⟨w2,z2⟩:=I.cell y c' e
    exact ⟨w2,z2.sameBut hs hcc⟩
  ·obtain ⟨e,n,ne,nf,d⟩:=I.pin p hp
   refine ⟨(hs.2 p.1 ?_).trans e,n,ne,nf,d⟩
   intro q
   rw [q,hoc] at e
   have q':oc=p.2:=Option.some.inj e
   exact d w' (by rw [<- q']; exact hocd)
theorem HU {M:Model} {A:Around} {E:Value->Shared->Prop} {i:Nat} {x:Str} {v:V} {u:Value} {Q:Unit->Shared->Prop} (I:Inv X pins σ H s) (hN:X.N.Nodup) (hi:X.N[i]?=some x) (hx:Loc X.env.scope x) (r:RelV v u)
  (h:∀ s',Inv X pins (σ.set i (some v)) H s'->Q () s') (hf:X.fn x=true\/X.env.scope.names.lookup x=some .local:=by first | exact .inl rfl | exact .inr rfl | assumption):wpAny M A (storeName X.env x u) Q E s :=
 Ho I hN hi hx r (fun s' I' _=>h s' I') hf
theorem Inv.call' {s':Shared} {ch:List Addr} (I:Inv X pins σ H s) (ho:s'.os=s.os) (u:Un (frs X.stack) ch H H' s.heap s'.heap) (hok:HOk X.prog X.w H' s'.heap) (hg:AllBare s'.gens)
  (hch:∀ b ∈ ch,(b ∈ X.ex\/X.s₀.heap.objs.size<=b)/\b ≠ X.env.locals/\(∀ x c,X.env.cells.lookup x=some c->c ≠ b)/\∀ p ∈ X.pn ++ pins,p.1 ≠ b):Inv X pins σ H' s':=by
 obtain ⟨h',g',d',t',o'⟩:=s'
 have e:o'=s.os:=ho
 subst e
 exact I.call (g':=g') (t':=t') (d':=d') u hok hg hch
end
noncomputable abbrev XK:=Value->Option Addr->Hp->Prop
noncomputable abbrev St:=List (Option V)
noncomputable abbrev VK:=V->Hp->Prop
noncomputable abbrev TE:=St->Hp->VK->Prop
noncomputable abbrev TT:=St->Hp->(Bool->Hp->Prop)->Prop
noncomputable abbrev TA:=St->Hp->(List V->Hp->Prop)->Prop
structure Ends where
 nx:St->Hp->Prop
 rt:VK
 bk:St->Hp->Prop:=fun _ _=>False
 ct:St->Hp->Prop:=fun _ _=>False
noncomputable abbrev TS:=Ends->St->Hp->Prop
noncomputable def EP (X:Cx) (pins:List (Addr × Obj)) (σ:St) (Q:VK) (u:Value) (s':Shared):Prop:=∃ v H',Inv X pins σ H' s'/\RelV v u/\Q v H'
noncomputable def TP (X:Cx) (pins:List (Addr × Obj)) (σ:St) (Q:Bool->Hp->Prop) (b:Bool) (s':Shared):Prop:=∃ H',Inv X pins σ H' s'/\Q b H'
noncomputable def AP (X:Cx) (pins:List (Addr × Obj)) (σ:St) (Q:List V->Hp->Prop) (us:List Value) (s':Shared):Prop:=∃ vs H',Inv X pins σ H' s'/\Vals vs us/\Q vs H'
noncomputable def SP (X:Cx) (pins:List (Addr × Obj)) (D:Ends) (f:Flow) (s':Shared):Prop :=
 match f with
 | .next=>∃ σ' H',Inv X pins σ' H' s'/\D.nx σ' H'
 | .brk=>∃ σ' H',Inv X pins σ' H' s'/\D.bk σ' H'
 | .cont=>∃ σ' H',Inv X pins σ' H' s'/\D.ct σ' H'
 | .ret u=>∃ v σ' H',Inv X pins σ' H' s'/\RelV v u/\D.rt v H'
noncomputable def PE (X:Cx) (e:Expr) (t:TE):Prop :=
 ∀ (pins:List (Addr × Obj)) (s:Shared) (σ:St) (H:Hp) (Q:VK),Inv X pins σ H s->t σ H Q->wpAny (model X.prog X.w) X.A (eval e X.env) (EP X pins σ Q) X.xe s
noncomputable def PT (X:Cx) (e:Expr) (t:TT):Prop :=
 ∀ (pins:List (Addr × Obj)) (s:Shared) (σ:St) (H:Hp) (Q:Bool->Hp->Prop),Inv X pins σ H s->t σ H Q->wpAny (model X.prog X.w) X.A (isTrue e X.env (eval e X.env)) (TP X pins σ Q) X.xe s
noncomputable def PW (X:Cx) (e:Expr) (t:TT):Prop :=
 ∀ (whole:Sem Value) (pins:List (Addr × Obj)) (s:Shared) (σ:St) (H:Hp) (Q:Bool->Hp->Prop),Inv X pins σ H s->t σ H Q->wpAny (model X.prog X.w) X.A (isTrue e X.env whole) (TP X pins σ Q) X.xe s
theorem PW.pt {X:Cx} {e:Expr} {t:TT} (h:PW X e t):PT X e t:=h _
noncomputable def PA (X:Cx) (es:List Expr) (t:TA):Prop :=
 ∀ (pos:Pos) (pins:List (Addr × Obj)) (s:Shared) (σ:St) (H:Hp) (Q:List V->Hp->Prop),Inv X pins σ H s->t σ H Q->wpAny (model X.prog X.w) X.A (spliced (backTo pos (starEach es X.env))) (AP X pins σ Q) X.xe s
noncomputable def PS (X:Cx) (st:Stmt) (t:TS):Prop :=
 ∀ (pins:List (Addr × Obj)) (s:Shared) (σ:St) (H:Hp) (D:Ends),Inv X pins σ H s->t D σ H->wpAny (model X.prog X.w) X.A (exec st X.env) (SP X pins D) X.xe s
noncomputable def PSs (X:Cx) (st:List Stmt) (t:TS):Prop :=
 ∀ (pins:List (Addr × Obj)) (s:Shared) (σ:St) (H:Hp) (D:Ends),Inv X pins σ H s->t D σ H->wpAny (model X.prog X.w) X.A (execs st X.env) (SP X pins D) X.xe s
theorem thn {α:Type} {t:Sem α} {Q Q':α->Shared->Prop} {M:Model} {A:Around} {E:Value->Shared->Prop} {s:Shared} (h:wpAny M A t Q E s) (hQ:∀ a s,Q a s->Q' a s):wpAny M A t Q' E s:=wpAny_mono h hQ fun _ _ x=>x
section
variable {X:Cx}
theorem bin {a b:Expr} {ta tb:TE} (ha:PE X a ta) (hb:PE X b tb) {pins:List (Addr × Obj)} {s:Shared} {σ:St} {H:Hp} {R:V->V->Hp->Prop} (I:Inv X pins σ H s) (h:ta σ H fun x H1=>tb σ H1 fun y H2=>R x y H2)
  {α:Type} {Q:α->Shared->Prop} {f:Value->Value->Sem α}
  (hf:∀ v u s2 x y H2,Inv X pins σ H2 s2->RelV x v->RelV y u->R x y H2->wpAny (model X.prog X.w) X.A (f v u) Q X.xe s2) :
  wpAny (model X.prog X.w) X.A (eval a X.env) (fun v s₁=>wpAny (model X.prog X.w) X.A (eval b X.env) (fun u s₂=>wpAny (model X.prog X.w) X.A (f v u) Q X.xe s₂) X.xe s₁) X.xe s:=by
 refine thn (ha pins s σ H _ I h) fun v s1 ⟨x,H1,I1,r1,q1⟩=>?_
 refine thn (hb pins s1 σ H1 _ I1 q1) fun u s2 ⟨y,H2,I2,r2,q2⟩=>?_
 exact hf v u s2 x y H2 I2 r1 r2 q2
noncomputable def J8 (i:Nat):TE:=fun σ H Q=>∃ v,σ[i]?=some (some v)/\Q v H
noncomputable def tC (v:V):TE:=fun _ H Q=>Q v H
theorem Ex {i:Nat} {x:Str} {pos:Pos} (hN:X.N[i]?=some x) (hv:Vis X.env.scope x) (hd:(x==("__debug__" : Str))=false:=by decide) (hcd:(x==("__classdict__" : Str))=false:=by decide):PE X (.Name x pos) (J8 i):=by
 intro pins s σ H Q I h
 obtain ⟨v,e,h⟩:=h
 obtain ⟨m,hn,hl⟩:=I.loc
 obtain ⟨u,r,l⟩:=hl i x v hN e hv
 have fin:EP X pins σ Q u s:=⟨v,H,I,r,h⟩
 rcases l with ⟨hk,hm⟩ | ⟨hk,c,hc,hcell⟩
 ·exact wpAny_Name (wpAny_loadName_local I.ok.kind hk hn hm fin) hd
 ·rcases hk with hk | hk
  ·exact wpAny_Name (wpAny_loadName_cell I.ok.kind hk hc hcell fin) hd
  ·exact wpAny_Name (wpAny_loadName_free I.ok.kind hk hc hcell fin hcd) hd
theorem Ph {i j pos}:PE X (.Constant (.int i) j pos) (tC (.int i)):=fun _ _ _ H _ I h=>wpAny_Constant_int ⟨.int i,H,I.tok _,⟨_,rfl⟩,h⟩
theorem Q5 {b j pos}:PE X (.Constant (.bool b) j pos) (tC (.bl b)):=fun _ _ _ H _ I h=>Constant_bool ⟨.bl b,H,I,rfl,h⟩
theorem Pi {j pos}:PE X (.Constant .none j pos) (tC .non):=fun _ _ _ H _ I h=>Constant_none ⟨.non,H,I,rfl,h⟩
theorem Pj {x j pos}:PE X (.Constant (.str x) j pos) (tC (.str x)):=fun _ _ _ H _ I h=>Calls.Constant_str ⟨.str x,H,I.tok _,⟨_,rfl⟩,h⟩
noncomputable def Gl (X:Cx) (x:Str):Prop:=X.env.kindOf x=some .globalImplicit
theorem GZ {E:Value->Shared->Prop} {pins:List (Addr × Obj)} {s:Shared} {σ:St} {H:Hp} {x:Str} {u:Value} {pos:Pos} {Q:Value->Shared->Prop} (I:Inv X pins σ H s) (hg:Gl X x) (hm:X.mg x=some u) (h:Q u s)
  (hd:(x==("__debug__" : Str))=false:=by decide):wpAny (model X.prog X.w) X.A (eval (.Name x pos) X.env) Q E s :=
 Calls.Name_function_global I.ok.kind hg (Calls.loadGlobal_global (by rw [I.ok.glob]; exact I.mod.glob.keeps I.bk) hm h) hd
theorem Gp {E:Value->Shared->Prop} {pins:List (Addr × Obj)} {s:Shared} {σ:St} {H:Hp} {x:Str} {u:Value} {pos:Pos} {Q:Value->Shared->Prop} (I:Inv X pins σ H s) (hg:Gl X x) (hm:X.mg x=none) (hv:bootBuiltins x=some u) (h:Q u s)
  (hn:x ≠ "__name__" := by decide) (hd:(x==("__debug__" : Str))=false:=by decide):wpAny (model X.prog X.w) X.A (eval (.Name x pos) X.env) Q E s:=by
 obtain ⟨mb,h1,h2⟩:=I.mod.blt
 exact Calls.Name_function_global I.ok.kind hg (Calls.loadGlobal_builtin (by rw [I.ok.glob]; exact I.mod.glob.keeps I.bk) hm (by rw [I.ok.blt]; exact h1.keeps I.bk) ((h2 x hn).trans hv) h) hd
theorem JB {x:Str} {v:V} {u:Value} {pos:Pos} (hg:Gl X x) (hm:X.mg x=some u) (r:RelV v u) (hd:(x==("__debug__" : Str))=false:=by decide):PE X (.Name x pos) (tC v) :=
 fun _ _ _ H _ I h=>GZ I hg hm ⟨v,H,I,r,h⟩ hd
theorem NT {x:Str} {v:V} {u:Value} {pos:Pos} (hg:Gl X x) (hm:X.mg x=none) (hv:bootBuiltins x=some u) (r:RelV v u) (hn:x ≠ "__name__" := by decide) (hd:(x==("__debug__" : Str))=false:=by decide):PE X (.Name x pos) (tC v) :=
 fun _ _ _ H _ I h=>Gp I hg hm hv ⟨v,H,I,r,h⟩ hn hd
variable {a b:Expr} {ta tb:TE} {pos:Pos}
noncomputable def PC (X:Cx) (op:CmpOp) (a b:Expr) (t:TE):Prop :=
 ∀ (pins:List (Addr × Obj)) (s:Shared) (σ:St) (H:Hp) (Q:VK),Inv X pins σ H s->t σ H Q ->
  wpAny (model X.prog X.w) X.A (eval a X.env) (fun v s₁=>wpAny (model X.prog X.w) X.A (eval b X.env) (fun u s₂=>wpAny (model X.prog X.w) X.A (compareOp op v u) (EP X pins σ Q) X.xe s₂) X.xe s₁) X.xe s
theorem HV (b:Expr) {op:CmpOp} (h:op ≠ .In) (h2:op ≠ .NotIn):behindInMarks op b=false:=by
 have e1:(op==CmpOp.In)=false:=by cases op <;> first | rfl | exact absurd rfl h
 have e2:(op==CmpOp.NotIn)=false:=by cases op <;> first | rfl | exact absurd rfl h2
 cases b <;> simp [behindInMarks,e1,e2]
noncomputable def RX (ta:TE):TE:=fun σ H Q=>ta σ H fun x H1=>Q (.bl (decide (x=.non))) H1
noncomputable def Q6 (ta:TE):TE:=fun σ H Q=>ta σ H fun x H1=>Q (.bl (!decide (x=.non))) H1
theorem RelV.none_iff {x:V} {v:Value} (r:RelV x v):(v==Value.none)=decide (x=.non):=by
 cases x with
 | non=>cases r; rfl
 | bl _=>cases r; rfl
 | int _=>obtain ⟨t,rfl⟩:=r; rfl
 | str _=>obtain ⟨t,rfl⟩:=r; rfl
 | byt _=>obtain ⟨t,rfl⟩:=r; rfl
 | flt _=>obtain ⟨t,rfl⟩:=r; rfl
 | ref _=>cases r; rfl
 | ty _=>cases r; rfl
theorem K5 {j pos'} (ha:PE X a ta):PC X .Is a (.Constant .none j pos') (RX ta):=by
 intro pins s σ H Q I h
 refine thn (ha pins s σ H _ I h) fun v s1 ⟨x,H1,I1,r1,q1⟩=>?_
 exact Constant_none (is_none_gen ⟨.bl _,H1,I1,by rw [r1.none_iff]; rfl,q1⟩)
theorem JC {j pos'} (ha:PE X a ta):PC X .IsNot a (.Constant .none j pos') (Q6 ta):=by
 intro pins s σ H Q I h
 refine thn (ha pins s σ H _ I h) fun v s1 ⟨x,H1,I1,r1,q1⟩=>?_
 exact Constant_none (isnot_none_gen ⟨.bl _,H1,I1,by rw [r1.none_iff]; rfl,q1⟩)
noncomputable def tB (t:TE):TT:=fun σ H Q=>t σ H fun x H1=>∃ c,x=.bl c/\Q c H1
theorem K6 {op:CmpOp} {t:TE} (h:PC X op a b t) (h1:behindInMarks op b=false:=by first | exact HV _ (by decide) (by decide) | rfl):PE X (.Compare a [op] [b] pos) t:=fun pins s σ H Q I hw=>wpAny_Compare1 (h pins s σ H Q I hw) h1
theorem K7 {op:CmpOp} {t:TE} (h:PC X op a b t) (h1:behindInMarks op b=false:=by first | exact HV _ (by decide) (by decide) | rfl):PT X (.Compare a [op] [b] pos) (tB t):=by
 intro pins s σ H Q I hw
 refine wpAny_isTrue_Compare1 (thn (h pins s σ H _ I hw) fun v s1 h1=>thn h1 fun u s2 h2=>thn h2 fun c s3 ⟨x,H1,I1,r1,q1⟩=>?_) h1
 obtain ⟨d,rfl,q⟩:=q1
 cases r1
 exact wpAny_truthy_bool ⟨H1,I1,q⟩
variable {tA tB':TT} {rest:List Expr}
noncomputable def RY (t u:TT):TT:=fun σ H Q=>t σ H fun c H1=>if c=true then u σ H1 Q else Q false H1
noncomputable def tOr (t u:TT):TT:=fun σ H Q=>t σ H fun c H1=>if c=true then Q true H1 else u σ H1 Q
noncomputable def RZ (t:TT):TT:=fun σ H Q=>t σ H fun c H1=>Q (!c) H1
theorem NU (ha:PT X a tA):PW X (.BoolOp .And [a] pos) tA:=by
 intro wh pins s σ H Q I h
 refine isTrue_and (thn (ha pins s σ H Q I h) fun c s1 e=>?_)
 cases c with
 | true=>exact isTrue_and_nil e
 | false=>exact e
theorem Pk (ha:PT X a tA):PW X (.BoolOp .Or [a] pos) tA:=by
 intro wh pins s σ H Q I h
 refine isTrue_or (thn (ha pins s σ H Q I h) fun c s1 e=>?_)
 cases c with
 | false=>exact isTrue_or_nil e
 | true=>exact e
theorem Pl (ha:PT X a tA) (hb:PW X (.BoolOp .And (b :: rest) pos) tB'):PW X (.BoolOp .And (a :: b :: rest) pos) (RY tA tB'):=by
 intro wh pins s σ H Q I h
 refine isTrue_and (thn (ha pins s σ H _ I h) fun c s1 ⟨H1,I1,q1⟩=>?_)
 cases c with
 | true=>exact hb wh pins s1 σ H1 Q I1 q1
 | false=>exact ⟨H1,I1,q1⟩
theorem Q7 (ha:PT X a tA) (hb:PW X (.BoolOp .Or (b :: rest) pos) tB'):PW X (.BoolOp .Or (a :: b :: rest) pos) (tOr tA tB'):=by
 intro wh pins s σ H Q I h
 refine isTrue_or (thn (ha pins s σ H _ I h) fun c s1 ⟨H1,I1,q1⟩=>?_)
 cases c with
 | true=>exact ⟨H1,I1,q1⟩
 | false=>exact hb wh pins s1 σ H1 Q I1 q1
theorem Pm (ha:PT X a tA):PT X (.UnaryOp .Not a pos) (RZ tA):=by
 intro pins s σ H Q I h
 exact isTrue_not (ha pins s σ H (fun c H1=>Q (!c) H1) I h)
noncomputable def Q8 (ta tb:TE):TE:=fun σ H Q=>ta σ H fun x H1=>∃ c,x=.bl c/\if c=true then tb σ H1 Q else Q (.bl false) H1
noncomputable def R0 (ta tb:TE):TE:=fun σ H Q=>ta σ H fun x H1=>∃ c,x=.bl c/\if c=true then Q (.bl true) H1 else tb σ H1 Q
noncomputable def Q9 (ta:TE):TE:=fun σ H Q=>ta σ H fun x H1=>∃ c,x=.bl c/\Q (.bl (!c)) H1
theorem Pn {op} {t:TE} (h:PE X a t):PE X (.BoolOp op [a] pos) t:=fun pins s σ H Q I hw=>BoolOp_one (h pins s σ H Q I hw)
theorem Po (ha:PE X a ta) (hb:PE X (.BoolOp .And (b :: rest) pos) tb):PE X (.BoolOp .And (a :: b :: rest) pos) (Q8 ta tb):=by
 intro pins s σ H Q I h
 refine BoolOp_and (thn (ha pins s σ H _ I h) fun v s1 ⟨x,H1,I1,r1,q1⟩=>?_)
 obtain ⟨c,rfl,q1⟩:=q1
 cases r1
 refine wpAny_truthy_bool ?_
 cases c with
 | true=>exact hb pins s1 σ H1 Q I1 q1
 | false=>exact ⟨.bl false,H1,I1,rfl,q1⟩
theorem Ra (ha:PE X a ta) (hb:PE X (.BoolOp .Or (b :: rest) pos) tb):PE X (.BoolOp .Or (a :: b :: rest) pos) (R0 ta tb):=by
 intro pins s σ H Q I h
 refine BoolOp_or (thn (ha pins s σ H _ I h) fun v s1 ⟨x,H1,I1,r1,q1⟩=>?_)
 obtain ⟨c,rfl,q1⟩:=q1
 cases r1
 refine wpAny_truthy_bool ?_
 cases c with
 | false=>exact hb pins s1 σ H1 Q I1 q1
 | true=>exact ⟨.bl true,H1,I1,rfl,q1⟩
theorem Pp (ha:PE X a ta):PE X (.UnaryOp .Not a pos) (Q9 ta):=by
 intro pins s σ H Q I h
 refine UnaryOp_ (thn (ha pins s σ H _ I h) fun v s1 ⟨x,H1,I1,r1,q1⟩=>?_)
 obtain ⟨c,rfl,q1⟩:=q1
 cases r1
 exact not_of (wpAny_truthy_bool ⟨.bl (!c),H1,I1,rfl,q1⟩)
noncomputable def tIf (t:TT) (ta tb:TE):TE:=fun σ H Q=>t σ H fun c H1=>if c=true then ta σ H1 Q else tb σ H1 Q
theorem Mp {c:Expr} (hc:PT X c tA) (ha:PE X a ta) (hb:PE X b tb):PE X (.IfExp c a b pos) (tIf tA ta tb):=by
 intro pins s σ H Q I h
 refine wpAny_IfExp (thn (hc pins s σ H _ I h) fun d s1 ⟨H1,I1,q1⟩=>?_)
 cases d with
 | true=>exact ha pins s1 σ H1 Q I1 q1
 | false=>exact hb pins s1 σ H1 Q I1 q1
end
noncomputable def SqL (K:PySem.W.Frag) (H:Hp) (a:Addr) (xs:List V):Prop :=
 Rd H a (.lst xs) \/
  ∃ (o:Obj) (its:Array Value) (n:Nat),K.lookup a=some o/\o.cls=.type "list" /\ o.dict=none/\o.data=.seq its n/\its.size<=sizeLine/\Vals xs its.toList
noncomputable def SqT (K:PySem.W.Frag) (H:Hp) (a:Addr) (xs:List V):Prop :=
 Rd H a (.tup xs) \/
  ∃ (o:Obj) (its:Array Value) (n:Nat),K.lookup a=some o/\o.cls=.type "tuple" /\ o.data=.seq its n/\its.size<=sizeLine/\Vals xs its.toList
noncomputable def R1:Value->Option V
 | .none=>some .non
 | .bool b=>some (.bl b)
 | .int i _=>some (.int i)
 | .str x _=>some (.str x)
 | .bytes b _=>some (.byt b)
 | .float b _=>some (.flt b)
 | .ref a=>some (.ref a)
 | .type n=>some (.ty n)
 | _=>none
theorem RelV.abs {x:V} {u:Value} (r:RelV x u):R1 u=some x:=by
 cases x with
 | non=>cases r; rfl
 | bl _=>cases r; rfl
 | int _=>obtain ⟨t,rfl⟩:=r; rfl
 | str _=>obtain ⟨t,rfl⟩:=r; rfl
 | byt _=>obtain ⟨t,rfl⟩:=r; rfl
 | flt _=>obtain ⟨t,rfl⟩:=r; rfl
 | ref _=>cases r; rfl
 | ty _=>cases r; rfl
theorem RelV.inj {x y:V} {u:Value} (r:RelV x u) (q:RelV y u):x=y:=Option.some.inj (r.abs.symm.trans q.abs)
theorem Vals.inj:∀ {xs ys:List V} {us:List Value},Vals xs us->Vals ys us->xs=ys
 | _,_,_,.nil,.nil=>rfl
 | _,_,_,.cons r t,.cons r' t'=>by rw [r.inj r',Vals.inj t t']
section
variable {X:Cx} {pins:List (Addr × Obj)} {σ:St} {H:Hp} {s:Shared} {a:Addr} {xs ys:List V}
theorem SqL.of {K:PySem.W.Frag} (h:H a=some (.lst xs)):SqL K H a xs:=.inl (.inl h)
theorem SqT.of {K:PySem.W.Frag} (h:H a=some (.tup xs)):SqT K H a xs:=.inl (.inl h)
theorem Inv.list (I:Inv X pins σ H s) (h:SqL X.K H a xs):∃ its:List Value,Vals xs its/\PlainL s.heap a its.toArray/\xs.length<=sizeLine:=by
 rcases h with h | ⟨o,its,n,hk,hc,hd,hs,hz,r⟩
 ·obtain ⟨z,its,n,r,e⟩:=h.ok I.hok
  exact ⟨its,r,⟨_,n,e,rfl,rfl,rfl⟩,z⟩
 ·refine ⟨its.toList,r,⟨o,n,I.kIn a o hk,hc,hd,by simpa using hs⟩,?_⟩
  have e:=r.length
  simp only [Array.length_toList] at e
  omega
theorem Inv.tuple (I:Inv X pins σ H s) (h:SqT X.K H a xs):∃ its:List Value,Vals xs its/\IsTup s.heap a its.toArray/\xs.length<=sizeLine:=by
 rcases h with h | ⟨o,its,n,hk,hc,hs,hz,r⟩
 ·obtain ⟨z,its,r,p⟩:=h.ok I.hok
  exact ⟨its,r,p,z⟩
 ·refine ⟨its.toList,r,⟨o,I.kIn a o hk,hc,n,by simpa using hs⟩,?_⟩
  have e:=r.length
  simp only [Array.length_toList] at e
  omega
theorem Inv.list_inj (I:Inv X pins σ H s) (h:SqL X.K H a xs) (h':SqL X.K H a ys):xs=ys:=by
 obtain ⟨its,r,⟨o,n,e,_,_,d⟩,_⟩:=I.list h
 obtain ⟨its',r',⟨o',n',e',_,_,d'⟩,_⟩:=I.list h'
 rw [e] at e'; cases e'
 rw [d] at d'
 injection d' with d1 _
 have:its=its':=by simpa using congrArg Array.toList d1
 subst this
 exact r.inj r'
theorem Inv.tuple_inj (I:Inv X pins σ H s) (h:SqT X.K H a xs) (h':SqT X.K H a ys):xs=ys:=by
 obtain ⟨its,r,⟨o,e,_,n,d⟩,_⟩:=I.tuple h
 obtain ⟨its',r',⟨o',e',_,n',d'⟩,_⟩:=I.tuple h'
 rw [e] at e'; cases e'
 rw [d] at d'
 injection d' with d1 _
 have:its=its':=by simpa using congrArg Array.toList d1
 subst this
 exact r.inj r'
end
section
variable {X:Cx} {st:Stmt} {rest:List Stmt} {t u:TS} {e:Expr} {te:TE} {pos:Pos}
noncomputable def Rb:TS:=fun D σ H=>D.nx σ H
noncomputable def R4 (t u:TS):TS:=fun D σ H=>t { D with nx:=u D } σ H
theorem NV:PSs X [] Rb:=fun _ _ σ H _ I h=>wpAny_execs_nil ⟨σ,H,I,h⟩
theorem Mq (h1:PS X st t) (h2:PSs X rest u):PSs X (st :: rest) (R4 t u):=by
 intro pins s σ H D I h
 refine wpAny_execs_cons (thn (h1 pins s σ H { D with nx:=u D } I h) fun f s1 q=>?_)
 cases f with
 | next =>
  obtain ⟨σ',H',I',q⟩:=q
  exact h2 pins s1 σ' H' D I' q
 | ret v=>exact q
 | brk=>exact q
 | cont=>exact q
theorem Inv.quiet {pins:List (Addr × Obj)} {σ:St} {H:Hp} {s:Shared} (I:Inv X pins σ H s):interactive X.env=false:=by simp [interactive,I.ok.kind]
noncomputable def NB (te:TE):TS:=fun D σ H=>te σ H fun _ H1=>D.nx σ H1
theorem B8 (he:PE X e te) (hs:swapsWith e none pos.line X.env=pure false:=by rfl):PS X (.Expr e pos) (NB te):=by
 intro pins s σ H D I h
 exact wpAny_Expr_any (thn (he pins s σ H _ I h) fun v s1 ⟨x,H1,I1,r1,q1⟩=>⟨σ,H1,I1,q1⟩) I.quiet hs
noncomputable def R5 (te:TE):TS:=fun D σ H=>te σ H D.rt
theorem K8 (he:PE X e te):PS X (.Return (some e) pos) (R5 te):=by
 intro pins s σ H D I h
 exact wpAny_Return_some (thn (he pins s σ H _ I h) fun v s1 ⟨x,H1,I1,r1,q1⟩=>⟨x,σ,H1,I1,r1,q1⟩)
noncomputable def Pq (c:TT) (t u:TS):TS:=fun D σ H=>c σ H fun b H1=>if b=true then t D σ H1 else u D σ H1
theorem Rc {c:Expr} {a b:List Stmt} {tc:TT} (hc:PT X c tc) (ha:PSs X a t) (hb:PSs X b u):PS X (.If c a b pos) (Pq tc t u):=by
 intro pins s σ H D I h
 refine wpAny_If (thn (hc pins s σ H _ I h) fun d s1 ⟨H1,I1,q1⟩=>?_)
 cases d with
 | true=>exact ha pins s1 σ H1 D I1 q1
 | false=>exact hb pins s1 σ H1 D I1 q1
end
noncomputable abbrev TG:=V->St->Hp->(St->Hp->Prop)->Prop
noncomputable abbrev TGs:=List V->St->Hp->(St->Hp->Prop)->Prop
noncomputable def PG (X:Cx) (target:Expr) (t:TG):Prop :=
 ∀ (pins:List (Addr × Obj)) (s:Shared) (σ:St) (H:Hp) (v:V) (u:Value) (Q:St->Hp->Prop),Inv X pins σ H s->RelV v u->t v σ H Q ->
  wpAny (model X.prog X.w) X.A (assign target X.env u) (fun _ s'=>∃ σ' H',Inv X pins σ' H' s'/\Q σ' H') X.xe s
noncomputable def PGs (X:Cx) (ts:List Expr) (t:TGs):Prop :=
 ∀ (pins:List (Addr × Obj)) (s:Shared) (σ:St) (H:Hp) (vs:List V) (us:List Value) (Q:St->Hp->Prop),Inv X pins σ H s->Vals vs us->t vs σ H Q ->
  wpAny (model X.prog X.w) X.A (assignInOrder ((assignEach ts X.env).map (·.2)) us) (fun _ s'=>∃ σ' H',Inv X pins σ' H' s'/\Q σ' H') X.xe s
noncomputable abbrev Mr:=V->V->V->Hp->(Hp->Prop)->Prop
noncomputable def Pr (X:Cx) (t:Mr):Prop :=
 ∀ (pins:List (Addr × Obj)) (s:Shared) (σ:St) (H:Hp) (o i v:V) (ov iv u:Value) (Q:Hp->Prop),Inv X pins σ H s->RelV o ov->RelV i iv->RelV v u->t o i v H Q ->
  wpAny (model X.prog X.w) X.A (setItem ov iv u) (fun _ s'=>∃ H',Inv X pins σ H' s'/\Q H') X.xe s
section
variable {X:Cx} {pos:Pos}
noncomputable def Ee (i:Nat):TG:=fun v σ H Q=>Q (σ.set i (some v)) H
theorem JD {i:Nat} {x:Str} (hN:X.N.Nodup) (hi:X.N[i]?=some x) (hx:Loc X.env.scope x) (hf:X.fn x=true\/X.env.scope.names.lookup x=some .local:=by first | exact .inl rfl | exact .inr rfl | assumption):PG X (.Name x pos) (Ee i):=by
 intro pins s σ H v u Q I r h
 exact wpAny_assign_Name (HU I hN hi hx r (fun s' I'=>⟨_,H,I',h⟩) hf)
noncomputable def Ps:TGs:=fun vs σ H Q=>vs=[]/\Q σ H
noncomputable def NC (t:TG) (u:TGs):TGs:=fun vs σ H Q=>∃ v r,vs=v :: r/\t v σ H fun σ' H'=>u r σ' H' Q
theorem JE:PGs X [] Ps:=by
 intro pins s σ H vs us Q I r h
 obtain ⟨e,h⟩:=h
 subst e
 cases r
 exact assignInOrder_nil ⟨σ,H,I,h⟩
theorem FT {e:Expr} {es:List Expr} {t:TG} {u:TGs} (h1:PG X e t) (h2:PGs X es u)
  (hs:(assignEach (e :: es) X.env).map (·.2)=assign e X.env :: (assignEach es X.env).map (·.2):=by rfl):PGs X (e :: es) (NC t u):=by
 intro pins s σ H vs us Q I r h
 obtain ⟨v,vr,e1,h⟩:=h
 subst e1
 cases r with
 | cons r rr =>
  rw [hs]
  refine assignInOrder_cons (thn (h1 pins s σ H _ _ _ I r h) fun _ s1 ⟨σ1,H1,I1,q1⟩=>?_)
  exact h2 pins s1 σ1 H1 _ _ Q I1 rr q1
noncomputable def Pt (K:PySem.W.Frag) (n:Nat) (t:TGs):TG:=fun v σ H Q=>∃ a xs,v=.ref a/\SqT K H a xs/\xs.length=n/\t xs σ H Q
theorem K9 {es:List Expr} {k:Nat} {t:TGs} {n:Nat} (hc:X.calm=true) (h:PGs X es t)
  (hn:(assignEach es X.env).length=n:=by rfl) (hst:(assignEach es X.env).findIdx? (·.1)=none:=by rfl):PG X (.Tuple es k pos) (Pt X.K n t):=by
 intro pins s σ H v u Q I r hw
 obtain ⟨a,xs,e1,hq,hl,hw⟩:=hw
 subst e1
 cases r
 obtain ⟨its,rv,ht,hz⟩:=I.tuple hq
 refine assign_Tuple_tuple (I.ok.hd hc) ht (by simp [hn,<- hl,rv.length]) hst fun h' hx=>?_
 have I1:Inv X pins σ H { s with heap:=h' }:=I.kept (t':=s.toks) fun b o e=>hx b o (aaD (Heap.lt_size e)) e
 exact h pins _ σ H xs _ Q I1 (by simpa using rv) hw
noncomputable def Pv (to ti:TE) (t:Mr):TG:=fun v σ H Q=>to σ H fun o H1=>ti σ H1 fun i H2=>t o i v H2 fun H3=>Q σ H3
theorem HW {o i:Expr} {to ti:TE} {t:Mr} (ho:PE X o to) (hi:PE X i ti) (hs:Pr X t)
  (ha:∀ v,assign (.Subscript o i pos) X.env v=(do
   let ov <- holding [v] (eval o X.env)
   let iv <- holding [v,ov] (eval i X.env)
   standAt pos
   holding [v,ov,iv] (setItem ov iv v)
   release [v,ov,iv] []):=by intro _; rfl):PG X (.Subscript o i pos) (Pv to ti t):=by
 intro pins s σ H v u Q I r h
 rw [ha]
 refine wpAny_bind (wpAny_holding (thn (ho pins s σ H _ I h) fun ov s1 ⟨x,H1,I1,r1,q1⟩=>?_))
 refine wpAny_bind (wpAny_holding (thn (hi pins s1 σ H1 _ I1 q1) fun iv s2 ⟨y,H2,I2,r2,q2⟩=>?_))
 refine wpAny_bind (wpAny_standAt (wpAny_bind (wpAny_holding (thn (hs pins s2 σ H2 x y v ov iv u _ I2 r1 r2 r q2) fun _ s3 ⟨H3,I3,q3⟩=>?_))))
 exact wpAny_release ⟨σ,H3,I3,q3⟩
noncomputable def EV (te:TE) (g:TG):TS:=fun D σ H=>te σ H fun x H1=>g x σ H1 D.nx
theorem HX {tg e:Expr} {te:TE} {g:TG} (he:PE X e te) (hg:PG X tg g) (hs:swapsWithSole [tg] e pos.line X.env=pure false:=by rfl) (hw:swappedStores [tg] e X.env=pure none:=by rfl)
  (h1:(assignEach [tg] X.env).map (·.2)=[assign tg X.env]:=by rfl):PS X (.Assign [tg] e pos) (EV te g):=by
 intro pins s σ H D I h
 refine wpAny_Assign_stores (thn (he pins s σ H _ I h) fun v s1 ⟨x,H1,I1,r1,q1⟩=>?_) hs hw
 rw [h1]
 exact thn (hg pins s1 σ H1 x v _ I1 r1 q1) fun _ s2 q=>q
theorem La {i:Nat} {x:Str} {e:Expr} {te:TE} {pos':Pos} (hN:X.N.Nodup) (hi:X.N[i]?=some x) (hx:Loc X.env.scope x) (he:PE X e te) (hs:swapsWith e (some (.Name x pos')) pos.line X.env=pure false:=by rfl) (hf:X.fn x=true\/X.env.scope.names.lookup x=some .local:=by first | exact .inl rfl | exact .inr rfl | assumption) :
  PS X (.Assign [.Name x pos'] e pos) (EV te (Ee i)):=by
 intro pins s σ H D I h
 refine wpAny_Assign_Name (thn (he pins s σ H _ I h) fun v s1 ⟨y,H1,I1,r1,q1⟩=>?_) hs
 exact HU I1 hN hi hx r1 (fun s2 I2=>⟨_,H1,I2,q1⟩) hf
end
section
variable {X:Cx} {pos:Pos}
noncomputable def Lb (c:TT) (tb:TS):TS:=fun D σ H=>∃ W:Nat->St->Hp->Prop,(∃ m,W m σ H)/\∀ m σ H,W m σ H ->
 c σ H fun b H1=>if b=true then ∃ N:St->Hp->Prop,(∀ σ' H',N σ' H'->∃ m',m' < m/\W m' σ' H')/\tb { D with nx:=N,ct:=N,bk:=D.nx } σ H1 else D.nx σ H1
theorem Mt {c:Expr} {body:List Stmt} {tc:TT} {tb:TS} (hp:PassesOwn (model X.prog X.w) X.A X.env X.xe) (hc:PT X c tc) (hb:PSs X body tb):PS X (.While c body [] pos) (Lb tc tb):=by
 intro pins s σ H D I h
 obtain ⟨W,⟨m0,w0⟩,turn⟩:=h
 refine wpAny_While (codeAny_whileLoop (fun n s'=>∃ σ' H',Inv X pins σ' H' s'/\W n σ' H') ?_ m0 ⟨σ,H,I,w0⟩)
 rintro n s1 ⟨σ1,H1,I1,w1⟩
 refine wpAny_passesOwn hp (thn (hc pins s1 σ1 H1 _ I1 (turn n σ1 H1 w1)) fun b s2 ⟨H2,I2,q2⟩=>?_)
 cases b with
 | true =>
  obtain ⟨N,hN,q2⟩:=q2
  rw [if_pos rfl]
  refine wpAny_passesOwn hp (thn (hb pins s2 σ1 H2 _ I2 q2) fun f s3 q3=>?_)
  cases f with
  | next =>
   obtain ⟨σ3,H3,I3,n3⟩:=q3
   obtain ⟨m',hm,w3⟩:=hN σ3 H3 n3
   exact ⟨m',hm,σ3,H3,I3,w3⟩
  | cont =>
   obtain ⟨σ3,H3,I3,n3⟩:=q3
   obtain ⟨m',hm,w3⟩:=hN σ3 H3 n3
   exact ⟨m',hm,σ3,H3,I3,w3⟩
  | brk=>exact q3
  | ret v=>exact q3
 | false =>
  rw [if_neg aaQ]
  exact wpAny_execs_nil ⟨σ1,H2,I2,q2⟩
end
structure It where
 go:Nat->Hp->Prop
 yld:Nat->Hp->V->Hp->Prop
 stop:Nat->Hp->Prop
noncomputable def EW (X:Cx) (pins:List (Addr × Obj)) (H:Hp) (b:Addr):Prop :=
 H b=none/\b ≠ X.env.locals/\b ∉ X.fs/\(b ∈ X.ex\/X.s₀.heap.objs.size<=b)/\(∀ x c,X.env.cells.lookup x=some c->c ≠ b)/\∀ p ∈ X.pn ++ pins,p.1 ≠ b
theorem Inv.fpOk {X:Cx} {pins:List (Addr × Obj)} {σ:St} {H H':Hp} {s:Shared} {b:Addr} (I:Inv X pins σ H s) (hb:s.heap.objs.size<=b) (hn:H' b=none):EW X pins H' b:=by
 refine ⟨hn,ace (aaw I.lt hb),I.nofs hb,.inr (aaJ I.sz hb),fun x c e z=>?_,fun p hp z=>?_⟩
 ·obtain ⟨v,q⟩:=I.cell x c e
  exact absurd (aaw q.lt (by rw [z]; exact hb)) (aaM _)
 ·exact absurd (aaw (Heap.lt_size (I.pin p hp).1) (by rw [z]; exact hb)) (aaM _)
structure Turn (P:Program) (w:World) (K:PySem.W.Frag) (tg:Expr) (J:It) (fp:List Addr) (it:Addr) (tn:Nat->Heap->Prop):Prop where
 mem:it ∈ fp
 obj:∀ i h,tn i h->∀ b ∈ fp,∃ o,h.get? b=some o/\∀ v,o.data ≠ .cell v
 keep:∀ i h h',tn i h->(∀ b ∈ fp,∀ o,h.get? b=some o->h'.get? b=some o)->tn i h'
 item:∀ (X:Cx),X.prog=P->X.w=w->X.K=K->X.calm=true->∀ (i:Nat) (pins:List (Addr × Obj)) (s:Shared) (σ:St) (H:Hp) (E:Value->Shared->Prop),Inv X pins σ H s->(∀ b ∈ fp,EW X pins H b)->tn i s.heap->J.go i H ->
  wpAny (model P w) X.A (pyNext (.ref it)) (fun r s1=>∃ u,r=some u /\
   wpAny (model P w) X.A (letOwnedTupleGo tg (.ref it) u) (fun _ s2=>∃ x H',Inv X pins σ H' s2/\RelV x u/\J.yld i H x H'/\tn (i + 1) s2.heap/\∀ b ∈ fp,H' b=none) E s1) E s
 done:∀ (X:Cx),X.prog=P->X.w=w->X.K=K->X.calm=true->∀ (i:Nat) (pins:List (Addr × Obj)) (s:Shared) (σ:St) (H:Hp) (E:Value->Shared->Prop),Inv X pins σ H s->(∀ b ∈ fp,EW X pins H b)->tn i s.heap->J.stop i H ->
  wpAny (model P w) X.A (pyNext (.ref it)) (fun r s1=>r=none/\Inv X pins σ H s1) E s
 self:∀ (A:Around) (i:Nat) (s:Shared) (Q:Value->Shared->Prop) (E:Value->Shared->Prop),tn i s.heap->Q (.ref it) s->wpAny (model P w) A (pyIter (.ref it)) Q E s
noncomputable abbrev TI:=St->Hp->(It->Hp->Prop)->Prop
noncomputable def PIE (X:Cx) (pins:List (Addr × Obj)) (σ:St) (tg:Expr) (R:It->Hp->Prop) (itv:Value) (s2:Shared):Prop :=
 ∃ (it:Addr) (fp:List Addr) (tn:Nat->Heap->Prop) (J:It) (H':Hp),itv=.ref it/\Inv X pins σ H' s2/\Turn X.prog X.w X.K tg J fp it tn/\tn 0 s2.heap/\(∀ b ∈ fp,EW X pins H' b)/\R J H'
noncomputable def PI (X:Cx) (tg iter:Expr) (wi:TI):Prop :=
 ∀ (pins:List (Addr × Obj)) (s:Shared) (σ:St) (H:Hp) (R:It->Hp->Prop),Inv X pins σ H s->wi σ H R ->
  wpAny (model X.prog X.w) X.A (eval iter X.env) (fun v s1=>wpAny (model X.prog X.w) X.A (pyIter v) (PIE X pins σ tg R) X.xe s1) X.xe s
theorem J9 {M:Model} {A:Around} {E:Value->Shared->Prop} {s:Shared} {tg:Expr} {it:Addr} {u:Value} {o:Obj} {n:String} {vs:Array Value} {Q:Unit->Shared->Prop} (ho:s.heap.get? it=some o) (hc:o.cls=.type n) (hd:o.data=.fields vs)
  (hn:["enumerate", "zip", "dict_itemiterator", "dict_reverseitemiterator", "odict_iterator", "itertools.zip_longest", "itertools.pairwise"].contains n=false) (hQ:Q () s):wpAny M A (letOwnedTupleGo tg (.ref it) u) Q E s:=by
 unfold letOwnedTupleGo
 cases tg <;> first
  | exact wpAny_pure hQ
  | (cases u <;> first
    | exact wpAny_pure hQ
    | (refine wpAny_bind (wpAny_load ho ?_)
       rw [hc,hd]
       show wpAny M A (if (["enumerate", "zip", "dict_itemiterator", "dict_reverseitemiterator", "odict_iterator", "itertools.zip_longest", "itertools.pairwise"].contains n && vs[0]?==some (rawInt _))=true then _ else _) Q E s
       rw [if_neg (by intro h; rw [hn,abg] at h; cases h)]
       exact wpAny_pure hQ))
noncomputable def Itl (K:PySem.W.Frag) (a:Addr):It :=
 ⟨fun i H=>∃ xs x,SqL K H a xs/\xs[i]?=some x,fun i H x H'=>H'=H/\∀ xs,SqL K H a xs->xs[i]?=some x,fun i H=>∃ xs,SqL K H a xs/\xs.length<=i⟩
noncomputable def Itt (K:PySem.W.Frag) (a:Addr):It :=
 ⟨fun i H=>∃ xs x,SqT K H a xs/\xs[i]?=some x,fun i H x H'=>H'=H/\∀ xs,SqT K H a xs->xs[i]?=some x,fun i H=>∃ xs,SqT K H a xs/\xs.length<=i⟩
noncomputable def Itr (lo:Int) (n:Nat):It:=⟨fun i _=>i < n,fun i H x H'=>H'=H/\x=.int (lo + i),fun i _=>n<=i⟩
theorem Lc {P:Program} {w:World} {K:PySem.W.Frag} {tg:Expr} (a it:Addr):Turn P w K tg (Itl K a) [it] it (fun i h=>h.IsListIter it a i) where
 mem:=by simp
 obj:=fun i h st b hb=>by
  have e:b=it:=by simpa using hb
  subst e
  obtain ⟨o,e,c,d⟩:=st
  exact ⟨o,e,fun v z=>by rw [d] at z; cases z⟩
 keep:=fun i h h' st k=>st.at fun o e=>k it (by simp) o e
 item:=by
  intro X hP hw hK hc i pins s σ H E I hf st hg
  subst hP hw hK
  obtain ⟨xs,x,hq,hx⟩:=hg
  obtain ⟨its,rv,p,hz⟩:=I.list hq
  obtain ⟨u,hu,ru⟩:=rv.get hx
  obtain ⟨f0,f1,f2,f3,f4,f5⟩:=hf it (by simp)
  refine wpAny_pyNext_list_item st p.isList (x:=u) (by simpa using hu) fun h' st' sb=>?_
  have I1:Inv X pins σ H { s with heap:=h' }:=I.turned (t':=s.toks) (fun b o hb e=>(sb.2 b hb).trans e) f0 f1 f3 f4 f5
  obtain ⟨o,e,c,d⟩:=id st'
  exact ⟨u,rfl,J9 (s:={ s with heap:=h' }) e c d (by decide) ⟨x,H,I1,ru,⟨rfl,fun ys hy=>by rw [I.list_inj hy hq]; exact hx⟩,st',fun b hb=>(hf b hb).1⟩⟩
 done:=by
  intro X hP hw hK hc i pins s σ H E I hf st hg
  subst hP hw hK
  obtain ⟨xs,hq,hx⟩:=hg
  obtain ⟨its,rv,p,hz⟩:=I.list hq
  obtain ⟨f0,f1,f2,f3,f4,f5⟩:=hf it (by simp)
  have hl:=rv.length
  exact wpAny_pyNext_list_end (I.ok.hd hc) st p.isList (by simp; omega) fun h' eb=>⟨rfl,I.turned (t':=s.toks) (fun b o hb e=>eb b o hb e) f0 f1 f3 f4 f5⟩
 self:=fun _ _ _ _ _ st h=>wpAny_pyIter_listiter st h
theorem Ka {P:Program} {w:World} {K:PySem.W.Frag} {tg:Expr} (a it:Addr):Turn P w K tg (Itt K a) [it] it (fun i h=>h.IsTupleIter it a i) where
 mem:=by simp
 obj:=fun i h st b hb=>by
  have e:b=it:=by simpa using hb
  subst e
  obtain ⟨o,e,c,d⟩:=st
  exact ⟨o,e,fun v z=>by rw [d] at z; cases z⟩
 keep:=fun i h h' st k=>st.at fun o e=>k it (by simp) o e
 item:=by
  intro X hP hw hK hc i pins s σ H E I hf st hg
  subst hP hw hK
  obtain ⟨xs,x,hq,hx⟩:=hg
  obtain ⟨its,rv,p,hz⟩:=I.tuple hq
  obtain ⟨u,hu,ru⟩:=rv.get hx
  obtain ⟨f0,f1,f2,f3,f4,f5⟩:=hf it (by simp)
  refine wpAny_pyNext_tuple_item st (show s.heap.IsTuple a its.toArray from p) (x:=u) (by simpa using hu) fun h' st' sb=>?_
  have I1:Inv X pins σ H { s with heap:=h' }:=I.turned (t':=s.toks) (fun b o hb e=>(sb.2 b hb).trans e) f0 f1 f3 f4 f5
  obtain ⟨o,e,c,d⟩:=id st'
  exact ⟨u,rfl,J9 (s:={ s with heap:=h' }) e c d (by decide) ⟨x,H,I1,ru,⟨rfl,fun ys hy=>by rw [I.tuple_inj hy hq]; exact hx⟩,st',fun b hb=>(hf b hb).1⟩⟩
 done:=by
  intro X hP hw hK hc i pins s σ H E I hf st hg
  subst hP hw hK
  obtain ⟨xs,hq,hx⟩:=hg
  obtain ⟨its,rv,p,hz⟩:=I.tuple hq
  obtain ⟨f0,f1,f2,f3,f4,f5⟩:=hf it (by simp)
  have hl:=rv.length
  exact wpAny_pyNext_tuple_end (I.ok.hd hc) st (show s.heap.IsTuple a its.toArray from p) (by simp; omega) fun h' eb=>⟨rfl,I.turned (t':=s.toks) (fun b o hb e=>eb b o hb e) f0 f1 f3 f4 f5⟩
 self:=fun _ _ _ _ _ st h=>wpAny_pyIter_tupleiter st h
theorem Kb {P:Program} {w:World} {K:PySem.W.Frag} {tg:Expr} (it:Addr) (lo:Int) (n:Nat):Turn P w K tg (Itr lo n) [it] it (fun i h=>IsRangeIter h it (lo + (i:Nat) * 1) ((n:Int) - (i:Nat)) 1) where
 mem:=by simp
 obj:=fun i h st b hb=>by
  have e:b=it:=by simpa using hb
  subst e
  exact ⟨_,st,fun v z=>by
   have z':Data.fields _=Data.cell v:=z
   cases z'⟩
 keep:=fun i h h' st k=>k it (by simp) _ st
 item:=by
  intro X hP hw hK hc i pins s σ H E I hf st hg
  subst hP hw hK
  obtain ⟨f0,f1,f2,f3,f4,f5⟩:=hf it (by simp)
  have W:=Walks.range (prog:=X.prog) (w:=X.w) (I.ok.hd hc) it lo 1 n
  refine W.item i s _ _ hg st fun v h' tk hv st' kk=>?_
  obtain ⟨t,rfl⟩:=hv
  have I1:Inv X pins σ H { s with heap:=h',toks:=tk }:=I.turned (fun b o hb e=>kk b o (by simpa using hb) e) f0 f1 f3 f4 f5
  refine ⟨_,rfl,J9 (s:={ s with heap:=h',toks:=tk }) (n := "range_iterator") st' rfl rfl (by decide) ⟨.int (lo + i),H,I1,⟨t,?_⟩,⟨rfl,rfl⟩,st',fun b hb=>(hf b hb).1⟩⟩
  rw [Int.mul_one]
 done:=by
  intro X hP hw hK hc i pins s σ H E I hf st hg
  subst hP hw hK
  obtain ⟨f0,f1,f2,f3,f4,f5⟩:=hf it (by simp)
  exact wpAny_pyNext_range_end (I.ok.hd hc) st (by have:n<=i:=hg; omega) fun h' eb=>⟨rfl,I.turned (t':=s.toks) (fun b o hb e=>eb b o hb e) f0 f1 f3 f4 f5⟩
 self:=fun _ _ _ _ _ st h=>wpAny_pyIter_rangeiter st h
section
variable {X:Cx} {tg:Expr}
theorem Mu {pins:List (Addr × Obj)} {σ:St} {H:Hp} {s:Shared} {R:It->Hp->Prop} {E:Value->Shared->Prop} {lo hi:Int} {t u v:Tok} {tk:Nat} (I:Inv X pins σ H s) (h1:-(2 ^ 62)<=lo) (h2:lo < 2 ^ 62) (h3:-(2 ^ 62)<=hi) (h4:hi < 2 ^ 62)
  (q:R (Itr lo (hi - lo).toNat) H):wpAny (model X.prog X.w) X.A (pyIter (.ref s.heap.objs.size)) (PIE X pins σ tg R) E { s with heap:=s.heap.push { cls:=.type "range",data:=.fields #[.int lo t,.int hi u,.int 1 v] },toks:=tk }:=by
 refine wpAny_pyIter_range (IsRange.new ..) (small_one h1 h2 h3 h4) ?_
 have I1:Inv X pins σ H { s with heap:=s.heap.push { cls:=.type "range",data:=.fields #[.int lo t,.int hi u,.int 1 v] },toks:=tk }:=I.kept fun b o e=>Heap.get?_push_of_some _ e
 refine ⟨(s.heap.push { cls:=.type "range",data:=.fields #[.int lo t,.int hi u,.int 1 v] }).objs.size,[(s.heap.push { cls:=.type "range",data:=.fields #[.int lo t,.int hi u,.int 1 v] }).objs.size],_,_,H,rfl,
  I1.kept (t':=tk) fun b o e=>Heap.get?_push_of_some _ e,Kb _ lo (hi - lo).toNat,?_,fun b hb=>?_,q⟩
 ·have e1:lo + ((0:Nat):Int) * 1=lo:=by simp
  have e2:(((hi - lo).toNat:Nat):Int) - ((0:Nat):Int)=Builtin.Range.rangeSize lo hi 1:=by rw [rangeSize_one]; split <;> omega
  show IsRangeIter _ _ (lo + ((0:Nat):Int) * 1) ((((hi - lo).toNat:Nat):Int) - ((0:Nat):Int)) 1
  rw [e1,e2]
  exact Heap.get?_push_size _ rfl
 ·have e:b=(s.heap.push { cls:=.type "range",data:=.fields #[.int lo t,.int hi u,.int 1 v] }).objs.size:=by simpa using hb
  subst e
  exact I1.fpOk (aan _) (I1.hok.fresh (aan _))
noncomputable def Re (ta:TA):TI:=fun σ H R=>ta σ H fun vs H1=>∃ j:Int,vs=[.int j]/\-(2 ^ 62)<=j/\j < 2 ^ 62/\R (Itr 0 j.toNat) H1
theorem Ld {a:Expr} {ta:TA} {p pos:Pos} (hg:Gl X "range") (hm:X.mg "range" = none) (ha:PA X [a] ta) (hs:starEach [a] X.env=[(false,eval a X.env)]:=by rfl):PI X tg (.Call (.Name "range" p) [a] [] pos) (Re ta):=by
 intro pins s σ H R I h
 refine Call_ (Gp I hg hm boot_range (PyProof.Rows.callWith_type1 (thn (ha pos pins s σ H _ I h) fun us s1 ⟨vs,H1,I1,r1,q1⟩=>?_) hs rfl))
 obtain ⟨j,e,q1,q2,q⟩:=q1
 subst e
 cases r1 with
 | cons r rr =>
  cases rr
  obtain ⟨t,rfl⟩:=r
  exact call_range_1 (Mu I1 (by omega) (by omega) q1 q2 (by simpa using q))
noncomputable def Pw (wi:TI) (g:TG) (tb:TS):TS:=fun D σ H=>wi σ H fun J H1=>∃ W:Nat->Nat->St->Hp->Prop,(∃ m,W 0 m σ H1)/\∀ i m σ H,W i m σ H ->
 (J.stop i H/\D.nx σ H)\/(J.go i H/\∃ N:St->Hp->Prop,(∀ σ' H',N σ' H'->∃ m',m' < m/\W (i + 1) m' σ' H')/\∀ x H',J.yld i H x H'->g x σ H' fun σ2 H2=>tb { D with nx:=N,ct:=N,bk:=D.nx } σ2 H2)
noncomputable def Ey (fp:List Addr) (h:Heap):List (Addr × Obj):=fp.filterMap fun b=>(h.get? b).map fun o=>(b,o)
theorem B9 {fp:List Addr} {h:Heap} {b:Addr} {o:Obj} (hb:b ∈ fp) (e:h.get? b=some o):(b,o) ∈ Ey fp h:=aaI.mpr ⟨b,hb,by rw [e]; rfl⟩
theorem Le {fp:List Addr} {h:Heap} {p:Addr × Obj} (hp:p ∈ Ey fp h):p.1 ∈ fp/\h.get? p.1=some p.2:=by
 obtain ⟨b,hb,e⟩:=aaI.mp hp
 cases q:h.get? b with
 | none=>rw [q] at e; cases e
 | some o =>
  rw [q] at e
  have e':(b,o)=p:=Option.some.inj e
  subst e'
  exact ⟨hb,q⟩
theorem Inv.pinned {pins:List (Addr × Obj)} {σ:St} {H:Hp} {s:Shared} {fp:List Addr} (I:Inv X pins σ H s) (hf:∀ b ∈ fp,EW X pins H b) (ho:∀ b ∈ fp,∃ o,s.heap.get? b=some o/\∀ v,o.data ≠ .cell v):Inv X (pins ++ Ey fp s.heap) σ H s :=
 I.pins_of fun p hp=>(aaf.mp hp).elim (fun z=>I.pin p (aah _ z)) fun z=>by
  obtain ⟨hb,e⟩:=Le z
  obtain ⟨f0,f1,f2,_⟩:=hf p.1 hb
  obtain ⟨o,e',d⟩:=ho p.1 hb
  rw [e] at e'; cases e'
  exact ⟨e,f0,f1,f2,d⟩
theorem Inv.unpinned {pins pl:List (Addr × Obj)} {σ:St} {H:Hp} {s:Shared} (I:Inv X (pins ++ pl) σ H s):Inv X pins σ H s:=I.pins_of fun p hp=>I.pin p (aah _ (aay _ hp))
theorem Lf {iter:Expr} {body:List Stmt} {wi:TI} {g:TG} {tb:TS} {pos:Pos} (hp:PassesOwn (model X.prog X.w) X.A X.env X.xe) (hc:X.calm=true) (hi:PI X tg iter wi) (hg:PG X tg g) (hb:PSs X body tb)
  (hs:∀ x,foldedSetIterable iter X.env x=pure x:=by intro _; rfl):PS X (.For tg iter body [] pos) (Pw wi g tb):=by
 intro pins s σ H D I h
 refine wpAny_For (thn (hi pins s σ H _ I h) fun v s1 h1=>thn h1 fun itv s2 h2=>?_) hs
 obtain ⟨it,fp,tn,J,H2,e,I2,T,st2,f2,W,⟨m0,w0⟩,turn⟩:=h2
 subst e
 have stat:∀ {H':Hp},(∀ b ∈ fp,H' b=none)->∀ b ∈ fp,EW X pins H' b:=fun hn b hb=>⟨hn b hb,(f2 b hb).2⟩
 refine codeAny_forLoop_any (fun n s'=>∃ i σ' H',Inv X pins σ' H' s'/\tn i s'.heap/\(∀ b ∈ fp,H' b=none)/\W i n σ' H') ?_ m0 ⟨0,σ,H2,I2,st2,fun b hb=>(f2 b hb).1,w0⟩
 rintro n s3 ⟨i,σ3,H3,I3,st3,fr3,w3⟩
 rcases turn i n σ3 H3 w3 with ⟨stop,qn⟩ | ⟨go,N,hN,step⟩
 ·refine wpAny_passesOwn hp (thn (T.done X rfl rfl rfl hc i pins s3 σ3 H3 X.xe I3 (stat fr3) st3 stop) fun r s4 ⟨hr,I4⟩=>?_)
  subst hr
  exact wpAny_execs_nil ⟨σ3,H3,I4,qn⟩
 ·refine wpAny_passesOwn hp (thn (T.item X rfl rfl rfl hc i pins s3 σ3 H3 X.xe I3 (stat fr3) st3 go) fun r s4 ⟨u,hr,h4⟩=>?_)
  subst hr
  refine wpAny_passesOwn hp (thn h4 fun _ s5 ⟨x,H5,I5,r5,y5,st5,fr5⟩=>?_)
  have I5':=I5.pinned (stat fr5) (T.obj _ _ st5)
  refine wpAny_passesOwn hp (thn (hg _ s5 σ3 H5 x u _ I5' r5 (step x H5 y5)) fun _ s6 ⟨σ6,H6,I6,q6⟩=>?_)
  refine wpAny_passesOwn hp (thn (hb _ s6 σ6 H6 _ I6 q6) fun f s7 q7=>?_)
  have again:∀ {σ7:St} {H7:Hp},Inv X (pins ++ Ey fp s5.heap) σ7 H7 s7->N σ7 H7->∃ m,m < n/\∃ i σ' H',Inv X pins σ' H' s7/\tn i s7.heap/\(∀ b ∈ fp,H' b=none)/\W i m σ' H':=fun {σ7 H7} I7 n7=>by
   obtain ⟨m',hm,w7⟩:=hN σ7 H7 n7
   refine ⟨m',hm,i + 1,σ7,H7,I7.unpinned,T.keep _ _ _ st5 fun b hb o e=>(I7.pin (b,o) (aah _ (aah _ (B9 hb e)))).1,fun b hb=>?_,w7⟩
   obtain ⟨o,e,d⟩:=T.obj _ _ st5 b hb
   exact (I7.pin (b,o) (aah _ (aah _ (B9 hb e)))).2.1
  cases f with
  | next=>obtain ⟨σ7,H7,I7,n7⟩:=q7; exact again I7 n7
  | cont=>obtain ⟨σ7,H7,I7,n7⟩:=q7; exact again I7 n7
  | brk=>obtain ⟨σ7,H7,I7,q7⟩:=q7; exact ⟨σ7,H7,I7.unpinned,q7⟩
  | ret v=>obtain ⟨x7,σ7,H7,I7,r7,q7⟩:=q7; exact ⟨x7,σ7,H7,I7.unpinned,r7,q7⟩
end
noncomputable abbrev R2:=V->V->Hp->VK->Prop
noncomputable def OpR (X:Cx) (f:Value->Value->Sem Value) (r:R2):Prop :=
 ∀ (pins:List (Addr × Obj)) (s:Shared) (σ:St) (H:Hp) (x y:V) (v u:Value) (Q:VK),Inv X pins σ H s->RelV x v->RelV y u->r x y H Q ->
  wpAny (model X.prog X.w) X.A (f v u) (EP X pins σ Q) X.xe s
noncomputable def UnR (X:Cx) (f:Value->Sem Value) (r:V->Hp->VK->Prop):Prop :=
 ∀ (pins:List (Addr × Obj)) (s:Shared) (σ:St) (H:Hp) (x:V) (v:Value) (Q:VK),Inv X pins σ H s->RelV x v->r x H Q ->
  wpAny (model X.prog X.w) X.A (f v) (EP X pins σ Q) X.xe s
noncomputable def CB (X:Cx) (f:Value) (r:List V->Hp->VK->Prop):Prop :=
 ∀ (pins:List (Addr × Obj)) (s:Shared) (σ:St) (H:Hp) (xs:List V) (us:List Value) (Q:VK),Inv X pins σ H s->Vals xs us->r xs H Q ->
  wpAny (model X.prog X.w) X.A (call f us) (EP X pins σ Q) X.xe s
noncomputable def R6 (X:Cx) (r:V->Hp->(Bool->Hp->Prop)->Prop):Prop :=
 ∀ (pins:List (Addr × Obj)) (s:Shared) (σ:St) (H:Hp) (x:V) (v:Value) (Q:Bool->Hp->Prop),Inv X pins σ H s->RelV x v->r x H Q ->
  wpAny (model X.prog X.w) X.A (truthy v) (TP X pins σ Q) X.xe s
noncomputable def tOp (r:R2) (ta tb:TE):TE:=fun σ H Q=>ta σ H fun x H1=>tb σ H1 fun y H2=>r x y H2 Q
noncomputable def tUn (r:V->Hp->VK->Prop) (ta:TE):TE:=fun σ H Q=>ta σ H fun x H1=>r x H1 Q
noncomputable def rI (C:Int->Int->Prop) (g:Int->Int->V):R2:=fun x y H Q=>∃ i j,x=.int i/\y=.int j/\C i j/\Q (g i j) H
noncomputable def rI0 (g:Int->Int->V):R2:=fun x y H Q=>∃ i j,x=.int i/\y=.int j/\Q (g i j) H
noncomputable def rU (g:Int->V):V->Hp->VK->Prop:=fun x H Q=>∃ i,x=.int i/\Q (g i) H
section
variable {X:Cx} {a b c:Expr} {ta tb tc:TE} {pos:Pos}
theorem Mv (ha:PE X a ta) (hb:PE X b tb) {pins:List (Addr × Obj)} {s:Shared} {σ:St} {H:Hp} {R:V->V->Hp->Prop} (I:Inv X pins σ H s)
  (h:ta σ H fun x H1=>tb σ H1 fun y H2=>R x y H2) {Q:Value->Shared->Prop} {f:Value->Value->Sem Value}
  (hf:∀ v u s2 x y H2,Inv X pins σ H2 s2->RelV x v->RelV y u->R x y H2->wpAny (model X.prog X.w) X.A (f v u) Q X.xe s2) :
  wpAny (model X.prog X.w) X.A (eval a X.env) (fun v s₁=>wpAny (model X.prog X.w) X.A (eval b X.env) (fun u s₂=>wpAny (model X.prog X.w) X.A (f v u) Q X.xe s₂) X.xe s₁) X.xe s:=by
 refine thn (ha pins s σ H _ I h) fun v s1 ⟨x,H1,I1,r1,q1⟩=>?_
 refine thn (hb pins s1 σ H1 _ I1 q1) fun u s2 ⟨y,H2,I2,r2,q2⟩=>?_
 exact hf v u s2 x y H2 I2 r1 r2 q2
theorem Rf {op:Operator} {r:R2} (ho:OpR X (binaryOp op) r) (ha:PE X a ta) (hb:PE X b tb):PE X (.BinOp a op b pos) (tOp r ta tb):=by
 intro pins s σ H Q I h
 exact wpAny_BinOp (Mv ha hb I h fun v u s2 x y H2 I2 rx ry q=>ho pins s2 σ H2 x y v u Q I2 rx ry q)
theorem Rg {op:UnaryOp} {r:V->Hp->VK->Prop} (ho:UnR X (unaryOp op) r) (ha:PE X a ta):PE X (.UnaryOp op a pos) (tUn r ta):=by
 intro pins s σ H Q I h
 exact UnaryOp_ (thn (ha pins s σ H _ I h) fun v s1 ⟨x,H1,I1,r1,q1⟩=>ho pins s1 σ H1 x v Q I1 r1 q1)
theorem opI {f:Value->Value->Sem Value} {C:Int->Int->Prop} {g:Int->Int->Int}
  (rule:∀ (i j:Int) (t u:Tok) (s:Shared) (Q:Value->Shared->Prop) (E:Value->Shared->Prop),C i j->Q (.int (g i j) s.toks) { s with toks:=s.toks + 1 }->wpAny (model X.prog X.w) X.A (f (.int i t) (.int j u)) Q E s) :
  OpR X f (rI C fun i j=>.int (g i j)):=by
 intro pins s σ H x y v u Q I rx ry h
 obtain ⟨i,j,rfl,rfl,hc,q⟩:=h
 obtain ⟨t,rfl⟩:=rx
 obtain ⟨t',rfl⟩:=ry
 exact rule i j t t' s _ _ hc ⟨.int (g i j),H,I.tok _,⟨_,rfl⟩,q⟩
theorem Py {f:Value->Value->Sem Value} {g:Int->Int->Int}
  (rule:∀ (i j:Int) (t u:Tok) (s:Shared) (Q:Value->Shared->Prop) (E:Value->Shared->Prop),Q (.int (g i j) s.toks) { s with toks:=s.toks + 1 }->wpAny (model X.prog X.w) X.A (f (.int i t) (.int j u)) Q E s) :
  OpR X f (rI0 fun i j=>.int (g i j)):=by
 intro pins s σ H x y v u Q I rx ry h
 obtain ⟨i,j,rfl,rfl,q⟩:=h
 obtain ⟨t,rfl⟩:=rx
 obtain ⟨t',rfl⟩:=ry
 exact rule i j t t' s _ _ ⟨.int (g i j),H,I.tok _,⟨_,rfl⟩,q⟩
theorem Ke {f:Value->Value->Sem Value} {g:Int->Int->Bool}
  (rule:∀ (i j:Int) (t u:Tok) (s:Shared) (Q:Value->Shared->Prop) (E:Value->Shared->Prop),Q (.bool (g i j)) s->wpAny (model X.prog X.w) X.A (f (.int i t) (.int j u)) Q E s) :
  OpR X f (rI0 fun i j=>.bl (g i j)):=by
 intro pins s σ H x y v u Q I rx ry h
 obtain ⟨i,j,rfl,rfl,q⟩:=h
 obtain ⟨t,rfl⟩:=rx
 obtain ⟨t',rfl⟩:=ry
 exact rule i j t t' s _ _ ⟨.bl (g i j),H,I,rfl,q⟩
noncomputable def Pz (i j:Int):Prop:=0<=j/\j<=1000000/\i.natAbs < 2 ^ 64
noncomputable def CMul (i j:Int):Prop:=(-(2 ^ 64) < i/\i < 2 ^ 64)\/(-(2 ^ 64) < j/\j < 2 ^ 64)
theorem CMul.ok {i j:Int} (h:CMul i j):IntMulOk i j:=by
 rcases h with ⟨h1,h2⟩ | ⟨h1,h2⟩
 ·exact .of_left (intBits_le_64 h1 h2)
 ·exact .of_right (intBits_le_64 h1 h2)
theorem PB:OpR X (binaryOp .Add) (rI0 fun i j=>.int (i + j)):=Py fun _ _ _ _ _ _ _ q=>add_int q
theorem PD:OpR X (binaryOp .Sub) (rI0 fun i j=>.int (i - j)):=Py fun _ _ _ _ _ _ _ q=>sub_int q
theorem PF:OpR X (binaryOp .Mod) (rI (fun _ j=>0 < j) fun i j=>.int (i % j)):=opI fun i j _ _ _ _ _ hc q=>by
 have h1:(0:Int) < j:=hc
 exact mod_int' (by omega) (by rw [Int.fmod_eq_emod_of_nonneg i (by omega)]; exact q)
theorem PH:OpR X (binaryOp .Pow) (rI Pz fun i j=>.int (i ^ j.toNat)):=opI fun _ _ _ _ _ _ _ hc q=>pow_int_small hc.1 hc.2.1 hc.2.2 q
theorem unI {f:Value->Sem Value} {g:Int->Int}
  (rule:∀ (i:Int) (t:Tok) (s:Shared) (Q:Value->Shared->Prop) (E:Value->Shared->Prop),Q (.int (g i) s.toks) { s with toks:=s.toks + 1 }->wpAny (model X.prog X.w) X.A (f (.int i t)) Q E s) :
  UnR X f (rU fun i=>.int (g i)):=by
 intro pins s σ H x v Q I rx h
 obtain ⟨i,rfl,q⟩:=h
 obtain ⟨t,rfl⟩:=rx
 exact rule i t s _ _ ⟨.int (g i),H,I.tok _,⟨_,rfl⟩,q⟩
theorem PJ:UnR X (unaryOp .USub) (rU fun i=>.int (-i)):=unI fun _ _ _ _ _ q=>neg_int q
end
section
variable {X:Cx} {a b c:Expr} {ta tb tc:TE} {pos:Pos}
theorem Rh:OpR X (compareOp .Lt) (rI0 fun i j=>.bl (decide (i < j))):=Ke fun _ _ _ _ _ _ _ q=>lt_int q
theorem Ri:OpR X (compareOp .LtE) (rI0 fun i j=>.bl (decide (i<=j))):=Ke fun _ _ _ _ _ _ _ q=>le_int q
theorem Rj:OpR X (compareOp .Gt) (rI0 fun i j=>.bl (decide (j < i))):=Ke fun _ _ _ _ _ _ _ q=>gt_int q
theorem Rk:OpR X (compareOp .GtE) (rI0 fun i j=>.bl (decide (j<=i))):=Ke fun _ _ _ _ _ _ _ q=>ge_int q
theorem OpR.or {f:Value->Value->Sem Value} {r r':R2} (h:OpR X f r) (h':OpR X f r'):OpR X f (fun x y H Q=>r x y H Q\/r' x y H Q):=by
 intro pins s σ H x y v u Q I rx ry q
 rcases q with q | q
 ·exact h pins s σ H x y v u Q I rx ry q
 ·exact h' pins s σ H x y v u Q I rx ry q
theorem NW {op:CmpOp} {r:R2} (ho:OpR X (compareOp op) r) (ha:PE X a ta) (hb:PE X b tb) (hm:behindInMarks op b=false):PE X (.Compare a [op] [b] pos) (tOp r ta tb):=by
 intro pins s σ H Q I h
 exact wpAny_Compare1 (Mv ha hb I h fun v u s2 x y H2 I2 rx ry q=>ho pins s2 σ H2 x y v u Q I2 rx ry q) hm
noncomputable def NE (t:TE):TT:=fun σ H Q=>t σ H fun x H'=>∃ k,x=.bl k/\Q k H'
theorem NX {op:CmpOp} {r:R2} (ho:OpR X (compareOp op) r) (ha:PE X a ta) (hb:PE X b tb) (hm:behindInMarks op b=false):PT X (.Compare a [op] [b] pos) (NE (tOp r ta tb)):=by
 intro pins s σ H Q I h
 refine wpAny_isTrue_Compare1 (thn (ha pins s σ H _ I h) fun v s1 ⟨x,H1,I1,r1,q1⟩=>thn (hb pins s1 σ H1 _ I1 q1) fun u s2 ⟨y,H2,I2,r2,q2⟩ =>
  thn (ho pins s2 σ H2 x y v u _ I2 r1 r2 q2) fun c s3 ⟨z,H3,I3,r3,k,e,q3⟩=>?_) hm
 subst e
 cases r3
 exact wpAny_truthy_bool ⟨H3,I3,q3⟩
noncomputable def HY (r r':R2) (ta tb tc:TE):TE:=fun σ H Q=>ta σ H fun x H1=>tb σ H1 fun y H2=>r x y H2 fun z H3=>∃ k,z=.bl k /\
 (if k=true then tc σ H3 fun w' H4=>r' y w' H4 Q else Q (.bl false) H3)
theorem Mw {op op':CmpOp} {r r':R2} (ho:OpR X (compareOp op) r) (ho':OpR X (compareOp op') r') (ha:PE X a ta) (hb:PE X b tb) (hc:PE X c tc)
  (hm:lastMarks [op,op'] [b,c]=false:=by with_unfolding_all rfl):PE X (.Compare a [op,op'] [b,c] pos) (HY r r' ta tb tc):=by
 intro pins s σ H Q I h
 refine Compare_chain (thn (ha pins s σ H _ I h) fun v s1 ⟨x,H1,I1,r1,q1⟩=>chain_link (thn (hb pins s1 σ H1 _ I1 q1) fun u s2 ⟨y,H2,I2,r2,q2⟩ =>
  thn (ho pins s2 σ H2 x y v u _ I2 r1 r2 q2) fun d s3 ⟨z,H3,I3,r3,k,e,q3⟩=>?_)) hm
 subst e
 cases r3
 refine wpAny_truthy_bool ?_
 cases k with
 | false=>exact ite_ff ⟨.bl false,H3,I3,rfl,q3⟩
 | true=>exact ite_tt (chain_last (thn (hc pins s3 σ H3 _ I3 q3) fun w' s4 ⟨z',H4,I4,r4,q4⟩=>ho' pins s4 σ H4 y z' u w' Q I4 r2 r4 q4))
theorem Mx {op op':CmpOp} {r r':R2} (ho:OpR X (compareOp op) r) (ho':OpR X (compareOp op') r') (ha:PE X a ta) (hb:PE X b tb) (hc:PE X c tc)
  (hm:lastMarks [op,op'] [b,c]=false:=by with_unfolding_all rfl):PT X (.Compare a [op,op'] [b,c] pos) (NE (HY r r' ta tb tc)):=by
 intro pins s σ H Q I h
 refine isTrue_chain (thn (ha pins s σ H _ I h) fun v s1 ⟨x,H1,I1,r1,q1⟩=>test_link (thn (hb pins s1 σ H1 _ I1 q1) fun u s2 ⟨y,H2,I2,r2,q2⟩ =>
  thn (ho pins s2 σ H2 x y v u _ I2 r1 r2 q2) fun d s3 ⟨z,H3,I3,r3,k,e,q3⟩=>?_)) hm
 subst e
 cases r3
 refine wpAny_truthy_bool ?_
 cases k with
 | false =>
  obtain ⟨k',e',q'⟩:=q3
  cases e'
  exact ite_ff ⟨H3,I3,q'⟩
 | true =>
  refine ite_tt (test_last (thn (hc pins s3 σ H3 _ I3 q3) fun w' s4 ⟨z',H4,I4,r4,q4⟩=>thn (ho' pins s4 σ H4 y z' u w' _ I4 r2 r4 q4) fun d' s5 ⟨z2,H5,I5,r5,k2,e2,q5⟩=>?_))
  subst e2
  cases r5
  exact wpAny_truthy_bool ⟨H5,I5,q5⟩
noncomputable def My (K:PySem.W.Frag) (x:V) (H:Hp) (k:Bool):Prop :=
 match x with
 | .non=>k=false
 | .bl b=>k=b
 | .int i=>k=(i != 0)
 | .str y=>y.length<=sizeLine/\k=((y.length:Int) != 0)
 | .byt y=>y.size<=sizeLine/\k=((y.size:Int) != 0)
 | .ref p=>(∃ xs,SqL K H p xs/\k=!xs.isEmpty)\/(∃ xs,SqT K H p xs/\k=!xs.isEmpty)\/∃ kvs,H p=some (.dK kvs)/\k=!kvs.isEmpty
 | _=>False
theorem Kf {κ:Type} {kvs:List (κ × V)} {vs:List (κ × Value)} (r:KV kvs vs):(!vs.isEmpty)=!kvs.isEmpty:=by
 cases r <;> rfl
theorem Gq {xs:List V} {its:List Value} (r:Vals xs its):(!its.toArray.isEmpty)=!xs.isEmpty:=by
 cases r <;> simp
theorem EY:(sizeLine:Nat) < 2 ^ 63:=by rw [sizeLine_eq]; decide
theorem PK:R6 X (fun x H Q=>∃ k,My X.K x H k/\Q k H):=by
 intro pins s σ H x v Q I rx h
 obtain ⟨k,e,q⟩:=h
 have hl:=EY
 have hs:sizeLine=16777216:=sizeLine_eq
 cases x with
 | non =>
  cases rx
  have e':k=false:=e
  subst e'
  exact truthy_none ⟨H,I,q⟩
 | bl b =>
  cases rx
  have e':k=b:=e
  subst e'
  exact wpAny_truthy_bool ⟨H,I,q⟩
 | int i =>
  obtain ⟨t,rfl⟩:=rx
  have e':k=(i != 0):=e
  subst e'
  exact PySem.P.truthy_int ⟨H,I,q⟩
 | str y =>
  obtain ⟨t,rfl⟩:=rx
  obtain ⟨hy,e'⟩:y.length<=sizeLine/\k=((y.length:Int) != 0):=e
  subst e'
  exact PySem.P.truthy_str (by omega) ⟨H,I.tok _,q⟩
 | byt y =>
  obtain ⟨t,rfl⟩:=rx
  obtain ⟨hy,e'⟩:y.size<=sizeLine/\k=((y.size:Int) != 0):=e
  subst e'
  exact PySem.W.truthy_bytes (by omega) ⟨H,I.tok _,q⟩
 | ref p =>
  cases rx
  have e':(∃ xs,SqL X.K H p xs/\k=!xs.isEmpty)\/(∃ xs,SqT X.K H p xs/\k=!xs.isEmpty)\/∃ kvs,H p=some (.dK kvs)/\k=!kvs.isEmpty:=e
  rcases e' with ⟨xs,hx,e'⟩ | ⟨xs,hx,e'⟩ | ⟨kvs,hx,e'⟩
  ·subst e'
   obtain ⟨its,r,pl,hz⟩:=I.list hx
   have hlen:=r.length
   exact wpAny_truthy_list pl.isList (by simp only [aag]; omega) ⟨H,I.tok _,by rw [Gq r]; exact q⟩
  ·subst e'
   obtain ⟨its,r,pl,hz⟩:=I.tuple hx
   have hlen:=r.length
   exact truthy_tuple pl (by simp only [aag]; omega) ⟨H,I.tok _,by rw [Gq r]; exact q⟩
  ·subst e'
   obtain ⟨hz,hS,vs,r,m⟩:kvs.length<=sizeLine/\(p==sysModules)=false/\∃ vs,KV kvs vs/\s.heap.DictOf (GY X.prog X.w) p vs:=I.hok p _ hx
   have hlen:kvs.length=vs.length:=Paired.length r
   exact wpAny_truthy_dict hS m (by omega) ⟨H,I.tok _,by rw [Kf r]; exact q⟩
 | _=>exact nE e
theorem Mz (ha:PE X a ta) (he:∀ whole,isTrue a X.env whole=(do let v <- whole; standAt a.pos; holding [v] (truthy v))) :
  PT X a (fun σ H Q=>ta σ H fun x H'=>∃ k,My X.K x H' k/\Q k H'):=by
 intro pins s σ H Q I h
 exact isTrue_plain (thn (ha pins s σ H _ I h) fun v s1 ⟨x,H1,I1,r1,q1⟩=>PK pins s1 σ H1 x v Q I1 r1 q1) (he _)
theorem Kg:OpR X (binaryOp .Add) (fun x y H Q=>∃ i j,x=.str i/\y=.str j/\i.length + j.length<=sizeLine/\Q (.str (i ++ j)) H):=by
 intro pins s σ H x y v u Q I rx ry h
 obtain ⟨i,j,rfl,rfl,hz,q⟩:=h
 obtain ⟨t,rfl⟩:=rx
 obtain ⟨t',rfl⟩:=ry
 exact add_str (fun t' tk=>⟨.str (i ++ j),H,I.tok _,⟨_,rfl⟩,q⟩) hz
theorem EM {x:V} {us:List Value} (r:Vals [x] us):∃ u,us=[u]/\RelV x u:=by
 cases r with
 | cons r1 r2=>cases r2; exact ⟨_,rfl,r1⟩
theorem HN {x y:V} {us:List Value} (r:Vals [x,y] us):∃ u w',us=[u,w']/\RelV x u/\RelV y w':=by
 cases r with
 | cons r1 r2 =>
  cases r2 with
  | cons r3 r4=>cases r4; exact ⟨_,_,rfl,r1,r3⟩
theorem Lh (hc:X.calm=true):CB X (.builtin "max") (fun xs H Q=>∃ i j,xs=[.int i,.int j]/\Q (.int (if j > i then j else i)) H):=by
 intro pins s σ H xs us Q I r h
 obtain ⟨i,j,rfl,q⟩:=h
 obtain ⟨u,w',rfl,⟨t,rfl⟩,⟨t',rfl⟩⟩:=HN r
 refine max_two_ints (I.ok.hd hc) fun h' tk k=>⟨_,H,I.kept k,?_,q⟩
 by_cases hj:j > i
 ·rw [if_pos hj,if_pos hj]; exact ⟨_,rfl⟩
 ·rw [if_neg hj,if_neg hj]; exact ⟨_,rfl⟩
theorem Li (hc:X.calm=true):CB X (.builtin "min") (fun xs H Q=>∃ i j,xs=[.int i,.int j]/\Q (.int (if j < i then j else i)) H):=by
 intro pins s σ H xs us Q I r h
 obtain ⟨i,j,rfl,q⟩:=h
 obtain ⟨u,w',rfl,⟨t,rfl⟩,⟨t',rfl⟩⟩:=HN r
 refine min_two_ints (I.ok.hd hc) fun h' tk k=>⟨_,H,I.kept k,?_,q⟩
 by_cases hj:j < i
 ·rw [if_pos hj,if_pos hj]; exact ⟨_,rfl⟩
 ·rw [if_neg hj,if_neg hj]; exact ⟨_,rfl⟩
theorem Lj:CB X (.type "int") (fun xs H Q=>(∃ i,xs=[.int i]/\Q (.int i) H)\/∃ k,xs=[.bl k]/\Q (.int (if k then 1 else 0)) H):=by
 intro pins s σ H xs us Q I r h
 rcases h with ⟨i,rfl,q⟩ | ⟨k,rfl,q⟩
 ·obtain ⟨u,rfl,t,rfl⟩:=EM r
  exact call_int_int ⟨.int i,H,I,⟨_,rfl⟩,q⟩
 ·obtain ⟨u,rfl,r1⟩:=EM r
  cases r1
  exact call_int_bool ⟨.int (if k then 1 else 0),H,I.tok _,⟨_,rfl⟩,q⟩
end
structure ObjM (h:Heap) (x dx C:Addr) (mA:Str->Option Value):Prop where
 obj:h.get? x=some (PySem.W.instObj C dx)
 ns:h.Ns1 dx mA
 ne:dx ≠ x
theorem Lk {h:Heap} {dx:Addr} {mA:Str->Option Value} (n:h.Ns1 dx mA):∃ od,h.get? dx=some od/\∀ name,PySem.W.lookIn name od=some (mA name):=by
 obtain ⟨o,es,ep,ho,hd,hk,_,hm⟩:=n
 refine ⟨o,ho,fun name=>?_⟩
 have e:=hm name
 unfold nsFind findBy at e
 rw [<- Array.find?_toList] at e
 unfold PySem.W.lookIn
 rw [hd]
 dsimp only
 split
 ·rename_i y q
  rw [q] at e
  exact congrArg some e
 ·rename_i q
  rw [q] at e
  have a:es.toList.any (·.refKey)=false:=by
   rw [List.any_eq_false]
   intro y hy
   obtain ⟨z,t,hkey⟩:=hk y (Array.mem_toList_iff.mp hy)
   simp [DictEntry.refKey,hkey]
  have a':¬ es.toList.any (·.refKey)=true:=by rw [a]; exact aaQ
  rw [if_neg a']
  exact congrArg some e
theorem ObjM.look {h:Heap} {x dx C:Addr} {mA:Str->Option Value} (I:ObjM h x dx C mA):∃ od,PySem.W.InstAt h x (PySem.W.instObj C dx) C (some od)/\∀ name,PySem.W.lookIn name od=some (mA name) :=
 let ⟨od,ho,hl⟩:=Lk I.ns
 ⟨od,⟨I.obj,rfl,rfl,ho⟩,hl⟩
section
variable {P:Program} {w:World} {H H':Hp} {h h':Heap} {a C dx:Addr} {fs fs':List (Str × V)}
theorem NY (hok:HOk P w H h) (e:H a=some (.ins C dx fs)):∃ mA,ObjM h a dx C mA/\(∀ f,Mn (fs.lookup f) (mA f))/\PySem.Within mA (fs.map (·.1))/\fs.length<=1000/\H dx=some (.own a):=by
 obtain ⟨d,z,ne,ob,mA,n,r,q⟩:=(show ObjOk P w H h a (.ins C dx fs) from hok a _ e)
 exact ⟨mA,⟨ob,n,ne⟩,r,q,z,d⟩
end
structure Cls (K:PySem.W.Frag) (C:Addr):Prop where
 pg:PySem.W.plainGet K C Str.empty=true
 hd:PySem.W.hasDictIn K C=true
 po:PySem.W.plainOver K C=true
 sa:PySem.W.findIn K (.ref C) "__setattr__" = some (some (.builtin "object.__setattr__"))
theorem Cls.get {K:PySem.W.Frag} {C:Addr} (c:Cls K C) (f:Str):PySem.W.plainGet K C f=true:=c.pg
section
variable {X:Cx} {pins:List (Addr × Obj)} {σ:St} {H:Hp} {s:Shared} {A:Around} {E:Value->Shared->Prop} {Q:Value->Shared->Prop} {c:Value} {b:Bool}
inductive TyOf (K:PySem.W.Frag) (H:Hp):V->Value->Prop where
 | non:TyOf K H .non (.type "NoneType")
 | bl (x:Bool):TyOf K H (.bl x) (.type "bool")
 | int (i:Int):TyOf K H (.int i) (.type "int")
 | str (x:Str):TyOf K H (.str x) (.type "str")
 | flt (x:UInt64):TyOf K H (.flt x) (.type "float")
 | lst {a:Addr} {xs:List V} (e:H a=some (.lst xs)):TyOf K H (.ref a) (.type "list")
 | frz {a:Addr} {o:Obj} {xs:List V} (e:H a=some (.frz o (.lst xs))):TyOf K H (.ref a) (.type "list")
 | tup {a:Addr} {xs:List V} (e:H a=some (.tup xs)):TyOf K H (.ref a) (.type "tuple")
 | dK {a:Addr} {kvs:List (Key × V)} (e:H a=some (.dK kvs)):TyOf K H (.ref a) (.type "dict")
 | dT {a:Addr} {kvs:List (List Key × V)} (e:H a=some (.dT kvs)):TyOf K H (.ref a) (.type "dict")
 | ins {a C dx:Addr} {fs:List (Str × V)} (e:H a=some (.ins C dx fs)) (cl:Cls K C) (ha:PySem.W.findIn K (.ref C) "__class__" = some (some (.builtin "object.__class__")))
   (hn:PySem.W.specialIn K (.builtin "object.__class__") "__get__" = some (some (.builtin "getset_descriptor.__get__"))) (htk:PySem.W.takesIn K (.builtin "object.__class__")=some true)
   (hm:PySem.W.mroIn K C (.type "object")=some true):TyOf K H (.ref a) (.ref C)
theorem Ll {x:V} {u t:Value} (I:Inv X pins σ H s) (rx:RelV x u) (ty:TyOf X.K H x t) (e:PySem.W.kitOne X.K t c=some b) (h:∀ tk,Q (.bool b) { s with toks:=tk }) :
  wpAny (model X.prog X.w) A (call (.builtin "isinstance") [u,c]) Q E s:=by
 cases ty with
 | non=>cases (show u=Value.none from rx); exact PySem.W.kia_one PySem.W.kitx_none I.kIn True.intro e (fun z=>nomatch z) h
 | bl y=>cases (show u=Value.bool y from rx); exact PySem.W.kia_one PySem.W.kitx_bool I.kIn True.intro e (fun z=>nomatch z) h
 | int i=>obtain ⟨t,q⟩:=(show ∃ t,u=Value.int i t from rx); cases q; exact PySem.W.kia_one PySem.W.kitx_int I.kIn True.intro e (fun z=>nomatch z) h
 | str y=>obtain ⟨t,q⟩:=(show ∃ t,u=Value.str y t from rx); cases q; exact PySem.W.kia_one PySem.W.kitx_str I.kIn True.intro e (fun z=>nomatch z) h
 | flt y=>obtain ⟨t,q⟩:=(show ∃ t,u=Value.float y t from rx); cases q; exact PySem.W.kia_one PySem.W.kitx_float I.kIn True.intro e (fun z=>nomatch z) h
 | @lst a xs ea =>
  cases (show u=Value.ref a from rx)
  obtain ⟨_,_,n,_,h1⟩:=(show ObjOk X.prog X.w H s.heap a (.lst xs) from I.hok a _ ea)
  exact PySem.W.kia_one PySem.W.kitx_list I.kIn ⟨_,h1,rfl⟩ e (fun z=>nomatch z) h
 | @frz a ob xs ea =>
  cases (show u=Value.ref a from rx)
  obtain ⟨_,_,_,n,_,h1⟩:=(show ObjOk X.prog X.w H s.heap a (.frz ob (.lst xs)) from I.hok a _ ea)
  exact PySem.W.kia_one PySem.W.kitx_list I.kIn ⟨_,h1,rfl⟩ e (fun z=>nomatch z) h
 | @tup a xs ea =>
  cases (show u=Value.ref a from rx)
  obtain ⟨_,_,_,p⟩:=(show ObjOk X.prog X.w H s.heap a (.tup xs) from I.hok a _ ea)
  obtain ⟨o,h1,h2,_⟩:=p
  exact PySem.W.kia_one PySem.W.kitx_tuple I.kIn ⟨o,h1,h2⟩ e (fun z=>nomatch z) h
 | @dK a kvs ea =>
  cases (show u=Value.ref a from rx)
  obtain ⟨_,_,vs,_,p⟩:=(show ObjOk X.prog X.w H s.heap a (.dK kvs) from I.hok a _ ea)
  obtain ⟨o,es,ep,h1,h2,_⟩:=p
  exact PySem.W.kia_one PySem.W.kitx_dict I.kIn ⟨o,h1,h2.1⟩ e (fun z=>nomatch z) h
 | @dT a kvs ea =>
  cases (show u=Value.ref a from rx)
  obtain ⟨_,_,xs,_,o,es,ep,h1,h2,_⟩:=(show ObjOk X.prog X.w H s.heap a (.dT kvs) from I.hok a _ ea)
  exact PySem.W.kia_one PySem.W.kitx_dict I.kIn ⟨o,h1,h2.1⟩ e (fun z=>nomatch z) h
 | @ins a C dx fs ea cl ha hn htk hm =>
  cases (show u=Value.ref a from rx)
  obtain ⟨mA,O,_⟩:=NY I.hok ea
  obtain ⟨od,J,_⟩:=O.look
  exact PySem.W.kia_one (PySem.W.kitx_own (cl.get _) cl.hd ha hn htk hm) I.kIn J e (fun z=>nomatch z) h
end
structure Room (k:Nat) (A:Around):Prop where
 hd:A.handled=none
 dp:A.depth + 3 * k + 5 < recursionLimit
 un:A.units + 16 * k + 200 < cLine
theorem Room.mono {j k:Nat} {A:Around} (r:Room k A) (h:j<=k):Room j A:=⟨r.hd,by have:=r.dp; omega,by have:=r.un; omega⟩
theorem Room.deeper {k:Nat} {A:Around} (r:Room (k + 1) A) (env:Env):Room k (A.deeper env) :=
 ⟨r.hd,by have:=r.dp; show A.depth + 1 + 3 * k + 5 < _; omega,by have:=r.un; show A.units + 3 + 16 * k + 200 < _; omega⟩
theorem Room.depth {k:Nat} {A:Around} (r:Room k A):A.depth < recursionLimit:=by have:=r.dp; omega
theorem Room.units {k:Nat} {A:Around} (r:Room k A):A.units + 64 < cLine:=by have:=r.un; omega
noncomputable def PM:TA:=fun _ H Q=>Q [] H
noncomputable def NF (ta:TE) (tr:TA):TA:=fun σ H Q=>ta σ H fun x H1=>tr σ H1 fun xs H2=>Q (x :: xs) H2
section
variable {X:Cx} {e:Expr} {es:List Expr} {te:TE} {t:TA} {pos:Pos}
theorem EZ:PA X [] PM:=fun _ _ _ _ H Q I h=>Calls.spliced_nil ⟨[],H,I,.nil,h⟩
theorem Db (ha:PE X e te) (hr:PA X es t) (hs:starEach (e :: es) X.env=(false,eval e X.env) :: starEach es X.env:=by rfl):PA X (e :: es) (NF te t):=by
 intro pos pins s σ H Q I h
 rw [hs]
 show wpAny _ _ (spliced ((false,eval e X.env) :: backTo pos (starEach es X.env))) _ _ s
 refine Calls.spliced_cons (thn (ha pins s σ H _ I h) fun u s1 ⟨x,H1,I1,r1,q1⟩=>?_)
 exact thn (hr pos pins s1 σ H1 _ I1 q1) fun us s2 ⟨xs,H2,I2,r2,q2⟩=>⟨x :: xs,H2,I2,.cons r1 r2,q2⟩
noncomputable def R7 (t:TA):TE:=fun σ H Q=>t σ H fun xs H1=>xs.length<=sizeLine/\∀ p,H1 p=none->Q (.ref p) (upd H1 p (.tup xs))
noncomputable def R8 (t:TA):TE:=fun σ H Q=>t σ H fun xs H1=>xs.length<=sizeLine/\∀ p,H1 p=none->Q (.ref p) (upd H1 p (.lst xs))
theorem Lm {x1} (h:PA X es t):PE X (.Tuple es x1 pos) (R7 t):=by
 intro pins s σ H Q I hq
 refine wpAny_Tuple_spliced (thn (h pos pins s σ H _ I hq) fun us s1 ⟨xs,H1,I1,r,z,q⟩=>⟨by rw [<- r.length]; exact z,?_⟩)
 have hf:H1 s1.heap.objs.size=none:=I1.hok.fresh (aan _)
 refine ⟨.ref s1.heap.objs.size,upd H1 s1.heap.objs.size (.tup xs),I1.laid (t':=s1.toks) (fun b u e=>Heap.get?_push_of_some _ e) (aan _) ?_,rfl,q _ hf⟩
 exact ⟨z,us,r,⟨_,Heap.get?_push_size _ rfl,rfl,_,rfl⟩⟩
theorem PN (h:PA X es t):PE X (.List es pos) (R8 t):=by
 intro pins s σ H Q I hq
 refine wpAny_List_spliced (thn (h pos pins s σ H _ I hq) fun us s1 ⟨xs,H1,I1,r,z,q⟩=>⟨by rw [<- r.length]; exact z,?_⟩)
 have hf:H1 s1.heap.objs.size=none:=I1.hok.fresh (aan _)
 refine ⟨.ref s1.heap.objs.size,upd H1 s1.heap.objs.size (.lst xs),I1.laid (t':=s1.toks) (fun b u e=>Heap.get?_push_of_some _ e) (aan _) ?_,rfl,q _ hf⟩
 exact ⟨z,us,0,r,Heap.get?_push_size _ rfl⟩
end
noncomputable abbrev Sp:=List V->Hp->VK->XK->Prop
noncomputable abbrev CXT:=List Env->Hp->Shared->XK->Value->Shared->Prop
structure Env0 (P:Program) (w:World) (K:PySem.W.Frag) (mg:Str->Option Value) (base:Heap) (A:Around) (outer:List Env) (s:Shared) (H:Hp):Prop where
 frames:A.frames=some outer
 mod:Mod K mg base
 bs:∀ b o,base.get? b=some o->s.heap.get? b=some o/\H b=none
 bsz:base.objs.size<=s.heap.objs.size
 funs:s.heap.FunFrames base outer
 frf:∀ b ∈ frs outer,H b=none
 hok:HOk P w H s.heap
 bare:AllBare s.gens
noncomputable def CE (outer:List Env) (P:Program) (w:World) (H:Hp) (s:Shared) (Q:VK) (u:Value) (s':Shared):Prop :=
 ∃ v H',s'.os=s.os/\AllBare s'.gens/\Un (frs outer) [] H H' s.heap s'.heap/\HOk P w H' s'.heap/\RelV v u/\Q v H'
noncomputable def CR (CX:CXT) (outer:List Env) (P:Program) (w:World) (H:Hp) (s:Shared) (Q:VK) (E:XK) (r:Result) (s':Shared):Prop :=
 match r with
 | .ok (.ret u)=>CE outer P w H s Q u s'
 | .ok _=>False
 | .error e=>CX outer H s E e s'
structure FnOk (P:Program) (w:World) (K:PySem.W.Frag) (mg:Str->Option Value) (base:Heap) (CX:CXT) (k:Nat) (f:Addr) (fd:FuncData) (ps:List Str) (sp:Sp):Prop where
 len:∀ vs H Q E,sp vs H Q E->vs.length=ps.length
 run:∀ (A:Around) (outer:List Env) (s:Shared) (H:Hp) (args:Args) (us:List Value) (vs:List V) (Q:VK) (E:XK),Room k A->Env0 P w K mg base A outer s H->BindsTo s fd args (ps.zip us)->Vals vs us->sp vs H Q E ->
  codeAny (model P w) A (.call (.ref f) args) (CR CX outer P w H s Q E) s
theorem FnOk.imp {P:Program} {w:World} {K:PySem.W.Frag} {mg:Str->Option Value} {base:Heap} {CX:CXT} {k:Nat} {f:Addr} {fd:FuncData} {ps:List Str} {sp sp':Sp} (F:FnOk P w K mg base CX k f fd ps sp)
  (h:∀ vs H Q E,sp' vs H Q E->sp vs H Q E):FnOk P w K mg base CX k f fd ps sp' :=
 ⟨fun vs H Q E q=>F.len vs H Q E (h _ _ _ _ q),fun A outer s H args us vs Q E hr he hb hv hs=>F.run A outer s H args us vs Q E hr he hb hv (h _ _ _ _ hs)⟩
section
variable {X:Cx} {pins:List (Addr × Obj)} {σ:St} {H:Hp} {s s':Shared}
theorem Inv.env0 (I:Inv X pins σ H s):Env0 X.prog X.w X.K X.mg X.base X.A X.stack s H :=
 ⟨I.ok.frames,I.ok.mod,I.bs,aaJ I.ok.bsz I.sz,I.stack,I.stkFree,I.hok,I.bare⟩
theorem Inv.after {Q:VK} {u:Value} (I:Inv X pins σ H s) (h:CE X.stack X.prog X.w H s Q u s'):EP X pins σ Q u s':=by
 obtain ⟨v,H',os,bare,un,hok,r,q⟩:=h
 obtain ⟨hh,g,d,t,os'⟩:=s'
 obtain rfl:os'=s.os:=os
 exact ⟨v,H',I.call (h':=hh) (g':=g) (d':=d) (t':=t) (ch:=[]) un hok bare (fun b z=>absurd z (by simp)),r,q⟩
end
noncomputable def Binds (K:PySem.W.Frag) (fd:FuncData) (ps:List Str) (ds:List Value):Prop :=
 ∀ (s:Shared) (us:List Value),K.In s.heap->(us ++ ds).length=ps.length->BindsTo s fd ⟨us,[]⟩ (ps.zip (us ++ ds))
theorem Binds.all {K:PySem.W.Frag} {fd:FuncData} {ps:List Str} (h:∀ us:List Value,us.length=ps.length->bindArgs fd ⟨us,[]⟩=pure (ps.zip us)):Binds K fd ps []:=fun s us _ hl=>by
 rw [aaK] at hl ⊢
 exact .of_eq (h us hl)
noncomputable def PQ (CX:CXT) (X:Cx) (E:XK):Prop:=∀ (pins:List (Addr × Obj)) (σ:St) (H:Hp) (s:Shared) (e:Value) (s':Shared),Inv X pins σ H s->CX X.stack H s E e s'->X.xe e s'
structure FnScope (N P:List Str) (sc:Scope):Prop where
 kind:sc.kind=.function
 co:sc.isCoroutine=false
 gen:sc.isGenerator=false
 nd:N.Nodup
 pre:N.take P.length=P
 par:∀ x ∈ P,sc.names.lookup x=some .local\/sc.names.lookup x=some .cell
 nofree:∀ y ∈ sc.names,y.2 ≠ .free
theorem Hq {kindOf:Str->Option NameKind} {x:Str}:∀ {binds:List (Str × Value)} {m:Str->Option Value},(∀ v,(x,v) ∉ binds)->bindL kindOf binds m x=m x
 | [],_,_=>rfl
 | (n,v) :: r,m,h=>by
  unfold bindL
  rw [Hq fun w hw=>h w (aab _ hw)]
  split
  ·have:x ≠ n:=by rintro rfl; exact h v aac
   simp [this]
  ·rfl
theorem Hr {kindOf:Str->Option NameKind} {x:Str}:∀ {binds:List (Str × Value)} {m:Str->Option Value},(∀ v,(x,v) ∉ binds)->bindC kindOf binds m x=m x
 | [],_,_=>rfl
 | (n,v) :: r,m,h=>by
  unfold bindC
  rw [Hr fun w hw=>h w (aab _ hw)]
  split
  ·rfl
  ·have:x ≠ n:=by rintro rfl; exact h v aac
   simp [this]
theorem Ht {kindOf:Str->Option NameKind} {x:Str} {v:Value}:∀ {P:List Str} {vs:List Value} {i:Nat} {m:Str->Option Value},P.Nodup->P[i]?=some x->vs[i]?=some v->kindOf x=some .local ->
  bindL kindOf (P.zip vs) m x=some v
 | [],_,_,_,_,h,_,_=>by simp at h
 | _ :: _,[],_,_,_,_,h,_=>by simp at h
 | p :: P,w :: vs,0,m,nd,h1,h2,hk=>by
  simp at h1 h2; subst h1; subst h2
  show bindL kindOf ((p,w) :: P.zip vs) m p=_
  unfold bindL
  rw [Hq fun v hv=>(aaC.mp nd).1 (abZ hv).1,if_pos hk]
  simp
 | p :: P,w :: vs,i + 1,m,nd,h1,h2,hk=>by
  show bindL kindOf ((p,w) :: P.zip vs) m x=_
  unfold bindL
  exact Ht (i:=i) (aaC.mp nd).2 (by simpa using h1) (by simpa using h2) hk
theorem Hu {kindOf:Str->Option NameKind} {x:Str} {v:Value}:∀ {P:List Str} {vs:List Value} {i:Nat} {m:Str->Option Value},P.Nodup->P[i]?=some x->vs[i]?=some v->kindOf x ≠ some .local ->
  bindC kindOf (P.zip vs) m x=some v
 | [],_,_,_,_,h,_,_=>by simp at h
 | _ :: _,[],_,_,_,_,h,_=>by simp at h
 | p :: P,w :: vs,0,m,nd,h1,h2,hk=>by
  simp at h1 h2; subst h1; subst h2
  show bindC kindOf ((p,w) :: P.zip vs) m p=_
  unfold bindC
  rw [Hr fun v hv=>(aaC.mp nd).1 (abZ hv).1,if_neg hk]
  simp
 | p :: P,w :: vs,i + 1,m,nd,h1,h2,hk=>by
  show bindC kindOf ((p,w) :: P.zip vs) m x=_
  unfold bindC
  exact Hu (i:=i) (aaC.mp nd).2 (by simpa using h1) (by simpa using h2) hk
noncomputable def AG (N:List Str) (vs:List V):St:=vs.map some ++ aai (N.length - vs.length) none
noncomputable def BC (CX:CXT) (P:Program) (w:World) (K:PySem.W.Frag) (mg:Str->Option Value) (base:Heap) (N:List Str) (qual:Str) (scope:Scope) (f:Addr) (cd:Value) (A:Around) (outer:List Env) (s:Shared) (H:Hp) (E:XK):Cx where
 prog:=P
 w:=w
 K:=K
 mg:=mg
 base:=base
 A:=A.deeper (envOfC qual scope s.heap.objs.size f cd)
 N:=N
 s₀:=s
 H₀:=H
 env:=envOfC qual scope s.heap.objs.size f cd
 outer:=outer
 stack:=envOfC qual scope s.heap.objs.size f cd :: outer
 ex:=[]
 calm:=true
 fn:=fun _=>true
 pn:=[]
 xe:=fun e s'=>wpAny (model P w) (A.deeper (envOfC qual scope s.heap.objs.size f cd)) (leaving (envOfC qual scope s.heap.objs.size f cd) e) (fun _ s''=>CX outer H s E e s'') (fun e' s''=>CX outer H s E e' s'') s'
theorem HZ {sc:Scope} {n:Nat} {x:Str} (h:sc.names.lookup x=some .cell):∃ c,(cellsFrom n sc.names []).lookup x=some c:=by
 have q:=PySem.W.cellsFrom_some sc.names n [] (.inl h)
 exact aav.mp q
theorem Ln {CX:CXT} {P:Program} {w:World} {K:PySem.W.Frag} {mg:Str->Option Value} {base:Heap} {N ps:List Str} {qual:Str} {scope:Scope} {f:Addr} {cd:Value} {A:Around} {outer:List Env} {s s1:Shared} {H:Hp} {E:XK} {us:List Value} {vs:List V}
  (S:FnScope N ps scope) (hd:A.handled=none) (e0:Env0 P w K mg base A outer s H) (hl:vs.length=ps.length) (r:Vals vs us)
  (x:InCallC s s.heap.objs.size (bindL (envOfC qual scope s.heap.objs.size f cd).kindOf (ps.zip us) fun _=>none) (cellsFrom (s.heap.objs.size + 1) scope.names []) (bindC (envOfC qual scope s.heap.objs.size f cd).kindOf (ps.zip us) fun _=>none) s1) :
  Inv (BC CX P w K mg base N qual scope f cd A outer s H E) [] (AG N vs) H s1:=by
 have hpl:ps.length<=N.length:=by have:=congrArg abD S.pre; rw [aaU] at this; omega
 obtain ⟨h1,tk,rfl,hk⟩:=x.done
 have noA:∀ b:Addr,b ∉ (BC CX P w K mg base N qual scope f cd A outer s H E).ex:=fun b z=>absurd (show b ∈ ([]:List Addr) from z) (by simp)
 refine ⟨⟨e0.mod,S.kind,rfl,rfl,aan _,fun y z c h1 h2=>?_,fun y hy=>?_,fun y c _ h=>?_,fun _=>hd,Around.frames_deeper e0.frames,.inr ⟨rfl,rfl⟩,fun b z=>absurd z (noA b),e0.bs,e0.bsz,fun b _ _=>noA b,fun b z=>absurd z (noA b),e0.funs,e0.frf⟩,
  rfl,e0.bare,Un.kept hk,⟨_,x.toInCall.ns,fun i y v h1 h2 h3=>?_⟩,fun y c h=>⟨_,x.cell y c h⟩,e0.hok.fresh (aan _),fun y c h=>?_,fun p hp=>absurd (show p ∈ ([]:List (Addr × Obj)) from hp) (by simp),e0.hok.kept hk,?_⟩
 ·exact name_of_addr x.apart (PySem.mem_of_lookup h1) (PySem.mem_of_lookup h2)
 ·have hy:scope.names.lookup y=some .cell\/scope.names.lookup y=some .free:=hy
  rcases hy with hy | hy
  ·exact HZ hy
  ·exact absurd rfl (S.nofree _ (PySem.mem_of_lookup hy))
 ·exact acd (x.above y c (PySem.mem_of_lookup h))
 ·have hi:i < vs.length:=by
   unfold AG at h2
   by_cases hi:i < vs.length
   ·exact hi
   ·rw [aax (by simpa using hi)] at h2
    rw [aaL] at h2
    split at h2 <;> cases h2
  have ha:vs[i]?=some v:=by
   unfold AG at h2
   rw [aaG (by simpa using hi),aao] at h2
   cases e:vs[i]? with
   | none=>rw [e] at h2; cases h2
   | some a=>rw [e] at h2; cases h2; rfl
  obtain ⟨u,hu,rv⟩:=r.get ha
  have hp:ps[i]?=some y:=by
   rw [<- S.pre,List.getElem?_take_of_lt (by omega)]; exact h1
  have ndP:ps.Nodup:=by rw [<- S.pre]; exact S.nd.sublist (List.take_sublist _ _)
  refine ⟨u,rv,?_⟩
  rcases S.par y (aae hp) with k | k
  ·exact .inl ⟨k,Ht ndP hp hu k⟩
  ·obtain ⟨c,e⟩:=HZ (n:=s.heap.objs.size + 1) k
   refine .inr ⟨.inl k,c,e,?_⟩
   have q:=x.cell y c e
   rw [Hu ndP hp hu (by show scope.names.lookup y ≠ _; rw [k]; decide)] at q
   exact q
 ·exact e0.hok.fresh (acd (x.above y c (PySem.mem_of_lookup h)))
 ·unfold AG
  show _=N.length
  rw [aar,aaa,aaY]
  omega
theorem Rl {CX:CXT} {P:Program} {w:World} {K:PySem.W.Frag} {mg:Str->Option Value} {base:Heap} {k:Nat} {f:Addr} {name qual:Str} {params:Arguments} {body:List Stmt} {scope:Scope} {dV kV doc pm cdv ct oc:Value} {an od:Option Addr}
  {osl:Array (Option Value)} {N ps:List Str} {sp:Sp} (lk:K.lookup f=some ⟨oc,od,.func (PySem.W.fnOf name qual params body scope dV kV doc pm an cdv ct),osl⟩) (hcd:PySem.W.codeIn K cdv qual=true) (S:FnScope N ps scope)
  (len:∀ vs H Q E,sp vs H Q E->vs.length=ps.length)
  (hbody:∀ (A:Around) (outer:List Env) (s:Shared) (H:Hp) (vs:List V) (Q:VK) (E:XK),Room k (A.deeper (envOfC qual scope s.heap.objs.size f cdv))->sp vs H Q E ->
   ∃ t,PSs (BC CX P w K mg base N qual scope f cdv A outer s H E) body t/\t { nx:=fun _ H'=>Q .non H',rt:=Q } (AG N vs) H) :
  FnOk P w K mg base CX (k + 1) f (PySem.W.fnOf name qual params body scope dV kV doc pm an cdv ct) ps sp:=by
 refine ⟨len,fun A outer s H args us vs Q E hr e0 hb r hsp=>?_⟩
 have hl:=len _ _ _ _ hsp
 have KX:K.In s.heap:=e0.mod.kin.keeps fun b o e=>(e0.bs b o e).1
 have lim:s.heap.NoLimit:=e0.mod.nolimit.keeps fun b o e=>(e0.bs b o e).1
 have hkind:∀ y ∈ ps.zip us,scope.names.lookup y.1=some .local\/(scope.names.lookup y.1=some .cell/\((cellsFrom (s.heap.objs.size + 1) scope.names []).lookup y.1).isSome=true):=fun ⟨n,v⟩ hy=>by
  rcases S.par n (abZ hy).1 with q | q
  ·exact .inl q
  ·exact .inr ⟨q,PySem.W.cellsFrom_some _ _ _ (.inl q)⟩
 refine codeAny_call_function hr.depth (KX _ _ lk) rfl S.co S.gen rfl (PySem.W.codeRec_of KX hcd) (hb _ _ _ _ ?_)
 refine wpAny_newFunctionEnv_cells S.kind hkind fun env he s1 x=>?_
 subst he
 refine ⟨lim.keeps x.toInCall.keep,codeAny_func ?_⟩
 obtain ⟨t,ht,hq⟩:=hbody A outer s H vs Q E (hr.deeper _) hsp
 have I:Inv (BC CX P w K mg base N qual scope f cdv A outer s H E) [] (AG N vs) H s1:=Ln S hr.hd e0 hl r x
 refine wpAny_mono (ht [] s1 (AG N vs) H _ I hq) (fun fl s' hs=>?_) fun e s' hs=>hs
 have fin:∀ {σ':St} {H':Hp} {v:V} {u:Value},Inv (BC CX P w K mg base N qual scope f cdv A outer s H E) [] σ' H' s'->RelV v u->Q v H'->CE outer P w H s Q u s' :=
  fun {σ' H' v u} J rv q=>⟨v,H',J.os,J.bare,J.base,J.hok,rv,q⟩
 cases fl with
 | ret u =>
  obtain ⟨v,σ',H',J,rv,q⟩:=hs
  exact fin J rv q
 | next =>
  obtain ⟨σ',H',J,q⟩:=hs
  exact fin (v:=V.non) (u:=Value.none) J rfl q
 | brk =>
  obtain ⟨_,_,_,q⟩:=hs
  exact False.elim q
 | cont =>
  obtain ⟨_,_,_,q⟩:=hs
  exact False.elim q
section
variable {X:Cx} {x:Str} {p pos:Pos} {e:Expr} {es:List Expr} {t:TA} {id T:String} {r:List V->Hp->VK->Prop}
noncomputable def tCB (r:List V->Hp->VK->Prop) (t:TA):TE:=fun σ H Q=>t σ H fun vs H1=>r vs H1 Q
theorem CJ (hc:CB X (.builtin id) r) (hg:Gl X x) (hm:X.mg x=none) (hv:bootBuiltins x=some (.builtin id)) (ha:PA X (e :: es) t) (hn:x ≠ "__name__" := by decide) (hdb:(x==("__debug__" : Str))=false:=by decide)
  (he:starEach (e :: es) X.env=(false,eval e X.env) :: starEach es X.env:=by rfl) (hpl:(backTo pos (starEach es X.env)).any (·.1)=false:=by rfl):PE X (.Call (.Name x p) (e :: es) [] pos) (tCB r t):=by
 intro pins s σ H Q I h
 refine wpAny_Call_Name_kw (Gp I hg hm hv ?_ hn hdb)
 exact PyProof.Rows.callWith_builtin1 (thn (ha pos pins s σ H _ I h) fun us s1 ⟨vs,H1,I1,r1,q1⟩=>hc pins s1 σ H1 vs us Q I1 r1 q1) he hpl
theorem E0 (hc:CB X (.type T) r) (hg:Gl X x) (hm:X.mg x=none) (hv:bootBuiltins x=some (.type T)) (ha:PA X (e :: es) t) (hn:x ≠ "__name__" := by decide) (hdb:(x==("__debug__" : Str))=false:=by decide)
  (he:starEach (e :: es) X.env=(false,eval e X.env) :: starEach es X.env:=by rfl) (hpl:(backTo pos (starEach es X.env)).any (·.1)=false:=by rfl):PE X (.Call (.Name x p) (e :: es) [] pos) (tCB r t):=by
 intro pins s σ H Q I h
 refine wpAny_Call_Name_kw (Gp I hg hm hv ?_ hn hdb)
 exact PyProof.Rows.callWith_type1 (thn (ha pos pins s σ H _ I h) fun us s1 ⟨vs,H1,I1,r1,q1⟩=>hc pins s1 σ H1 vs us Q I1 r1 q1) he hpl
end
end L2
namespace HT
open PySem PyProof.Rows
section
variable {prog:Program} {w:World} {A:Around} {E:Value->Shared->Prop} {s:Shared}
noncomputable def sIx (n d:Nat):Option Int->Nat
 | none=>d
 | some v=>if v < 0 then (v + (n:Int)).toNat else min v.toNat n
theorem PR (n d:Nat) (hd:d<=n) (o:Option Int):sIx n d o<=n:=by
 cases o with
 | none=>exact hd
 | some v =>
  show (if v < 0 then (v + (n:Int)).toNat else min v.toNat n)<=n
  by_cases hv:v < 0
  ·rw [if_pos hv]; omega
  ·rw [if_neg hv]; exact abh _ _
theorem clip_eq (v:Int) (n d:Nat):(if v < 0 then max (v + (n:Int)) 0 else min v (n:Int))=((sIx n d (some v):Nat):Int):=by
 show (if v < 0 then max (v + (n:Int)) 0 else min v (n:Int))=(((if v < 0 then (v + (n:Int)).toNat else min v.toNat n):Nat):Int)
 by_cases hv:v < 0
 ·simp only [if_pos hv]; omega
 ·simp only [if_neg hv]; omega
theorem Kh (lo hi:Option Int) (n:Nat):Builtin.Slice.sliceAdjust lo hi 1 (n:Int)=(((sIx n 0 lo:Nat):Int),((sIx n n hi:Nat):Int)):=by
 have h1:¬ ((1:Int) < 0):=by omega
 unfold Builtin.Slice.sliceAdjust
 simp only [h1,if_false]
 refine Prod.ext ?_ ?_
 ·cases lo with
  | none=>rfl
  | some v=>exact clip_eq v n 0
 ·cases hi with
  | none=>rfl
  | some v=>exact clip_eq v n n
theorem Ki (i j:Nat):Builtin.Slice.slicePlaces (i:Int) (j:Int) 1=j - i:=by
 unfold Builtin.Slice.slicePlaces
 have h1:(1:Int) > 0:=by omega
 simp only [h1,if_true,Int.ediv_one]
 split <;> omega
theorem Gr {v:Value} {o:Option Int} {Q:Option Int->Shared->Prop} (p:IsPart v o) (h:Q o s):wpAny (model prog w) A (Builtin.Slice.slicePartIndex v) Q E s:=by
 cases p with
 | none=>exact slicePart_none h
 | int i t=>exact slicePart_int h
theorem FV {sl:Addr} {vl vu:Value} {lo hi:Option Int} {n:Nat} {Q:Int × Int × Nat->Shared->Prop} (hs:s.heap.IsSliceOf sl vl vu .none) (pl:IsPart vl lo) (pu:IsPart vu hi)
  (h:Q (((sIx n 0 lo:Nat):Int),1,sIx n n hi - sIx n 0 lo) s):wpAny (model prog w) A (Builtin.Slice.sliceApplied (.ref sl) (pure (n:Int))) Q E s:=by
 obtain ⟨os,hos,hcs,hds⟩:=id hs
 unfold Builtin.Slice.sliceApplied Builtin.Slice.sliceFields
 refine wpAny_bind (wpAny_bind (wpAny_field hos hds (x:=vl) rfl (wpAny_bind (wpAny_field hos hds (x:=vu) rfl (wpAny_bind (wpAny_field hos hds (x:=.none) rfl (wpAny_pure ?_)))))))
 refine wpAny_bind (slicePart_none ?_)
 show wpAny _ _ (if ((1:Int)==0)=true then _ else _) _ _ s
 rw [if_neg (by decide)]
 refine wpAny_bind (Gr pl (wpAny_bind (Gr pu (wpAny_bind (wpAny_pure ?_)))))
 show wpAny _ _ (match Builtin.Slice.sliceAdjust lo hi 1 (n:Int) with | (lo,hi)=>pure (lo,(1:Int),Builtin.Slice.slicePlaces lo hi 1)) _ _ s
 rw [Kh lo hi n]
 show wpAny _ _ (pure (((sIx n 0 lo:Nat):Int),(1:Int),Builtin.Slice.slicePlaces ((sIx n 0 lo:Nat):Int) ((sIx n n hi:Nat):Int) 1)) _ _ s
 rw [Ki]
 exact wpAny_pure h
theorem MA (xs:Array Value) (i k:Nat):((aaE k).filterMap fun (m:Nat)=>xs[((i:Int) + (m:Int) * 1).toNat]?).toArray=((xs.toList.drop i).take k).toArray:=by
 have e:(fun (m:Nat)=>xs[((i:Int) + (m:Int) * 1).toNat]?)=fun m=>xs[i + m]?:=by
  funext m
  have:((i:Int) + (m:Int) * 1).toNat=i + m:=by omega
  rw [this]
 rw [e]
 have:=pick_run xs i k
 rw [List.filterMap_map] at this
 have e2:((fun x=>xs[x]?) ∘ fun x=>i + x)=fun m=>xs[i + m]?:=rfl
 rw [e2] at this
 rw [this]
theorem getItem_tuple_cut {t sl:Addr} {items:Array Value} {vl vu:Value} {lo hi:Option Int} {Q:Value->Shared->Prop} (ht:IsTup s.heap t items) (hs:s.heap.IsSliceOf sl vl vu .none) (pl:IsPart vl lo) (pu:IsPart vu hi)
  (hw:¬ (sIx items.size 0 lo=0/\sIx items.size items.size hi=items.size))
  (h:Q (.ref s.heap.objs.size) { s with heap:=s.heap.push { cls:=.type "tuple",data:=.seq ((items.toList.drop (sIx items.size 0 lo)).take (sIx items.size items.size hi - sIx items.size 0 lo)).toArray } })
  (hsz:items.size<=sizeLine):wpAny (model prog w) A (getItem (.ref t) (.ref sl)) Q E s:=by
 have htake:sizeOk (.seq ((items.toList.drop (sIx items.size 0 lo)).take (sIx items.size items.size hi - sIx items.size 0 lo)).toArray):=by
  show ((items.toList.drop (sIx items.size 0 lo)).take (sIx items.size items.size hi - sIx items.size 0 lo)).toArray.size<=sizeLine
  rw [aag,aaU,aa7,Array.length_toList]
  omega
 have hj:sIx items.size items.size hi<=items.size:=PR _ _ (aan _) hi
 obtain ⟨os,hos,hcs,hds⟩:=id hs
 have hTs:s.TypeIs (.ref sl) "slice" := ⟨os,hos,hcs⟩
 unfold getItem
 try with_reducible refine wpAny_holding ?_
 first | refine wpAny_bind (wpAny_pure ?_) | skip
 refine wpAny_bind (wpAny_sequenceKey ht.typeIs (by decide) ?_)
 refine wpAny_bind (wpAny_callSpecial?_slot (name:=Str.ofString "__getitem__") ht.typeIs PyProof.Rows.slot_tuple_getitem
  (wpAny_call_entry PyProof.Rows.slot_tuple_getitem ht.typeIs entry_tuple_getitem ?_ (args_tuple_getitem _ _)))
 show wpAny _ _ (Builtin.Tuple.tupleItemsOf (.ref t) >>= _) _ _ s
 refine wpAny_bind (tupleItemsOf_ ht ?_)
 refine wpAny_bind (wpAny_typeOf hTs ?_)
 rw [if_pos (by decide)]
 refine wpAny_bind (FV hs pl pu ?_)
 have hno:¬ ((((sIx items.size 0 lo:Nat):Int)==0 && (1:Int)==1 && (sIx items.size items.size hi - sIx items.size 0 lo)==items.size)=true):=by
  intro q
  rw [aak,aak] at q
  have q1:((sIx items.size 0 lo:Nat):Int)=0:=eq_of_beq q.1.1
  have q2:sIx items.size items.size hi - sIx items.size 0 lo=items.size:=eq_of_beq q.2
  exact hw ⟨by omega,by omega⟩
 show wpAny _ _ (if (((sIx items.size 0 lo:Nat):Int)==0 && (1:Int)==1 && (sIx items.size items.size hi - sIx items.size 0 lo)==items.size)=true then _ else _) _ _ s
 rw [if_neg hno,MA]
 first
  | exact wpAny_bind (m:=Builtin.Tuple.tupleExact _) (wpAny_newObj_type (wpAny_pure ⟨_,rfl,wpAny_pure h⟩) htake)
  | exact wpAny_bind (m:=Builtin.Tuple.tupleExact _) (wpAny_newObj_type (wpAny_bind (wpAny_pure (wpAny_pure ⟨_,rfl,wpAny_pure h⟩))) htake)
  | exact wpAny_bind (wpAny_bind (m:=Builtin.Tuple.tupleExact _) (wpAny_newObj_type (wpAny_pure (wpAny_pure ⟨_,rfl,wpAny_pure h⟩)) htake))
  | exact wpAny_bind (wpAny_bind (m:=Builtin.Tuple.tupleExact _) (wpAny_newObj_type (wpAny_pure ⟨_,rfl,wpAny_pure h⟩) htake))
end
end HT
namespace L2
open PySem PySem.Spec PyProof.Rows
noncomputable abbrev TO:=St->Hp->(Option Int->Hp->Prop)->Prop
noncomputable def PO (X:Cx) (e:Option Expr) (t:TO):Prop :=
 ∀ (pins:List (Addr × Obj)) (s:Shared) (σ:St) (H:Hp) (Q:Option Int->Hp->Prop),Inv X pins σ H s->t σ H Q ->
  wpAny (model X.prog X.w) X.A (evalPart e X.env) (fun u s'=>∃ o H',Inv X pins σ H' s'/\IsPart u o/\Q o H') X.xe s
noncomputable def NZ:TO:=fun _ H Q=>Q none H
noncomputable def Rm (t:TE):TO:=fun σ H Q=>t σ H fun x H1=>∃ i,x=.int i/\Q (some i) H1
theorem Kj {ns:List Int}:∀ {us:List Value},Vals (ns.map V.int) us->IntsAre us ns:=by
 induction ns with
 | nil=>intro us r; rw [abI] at r; cases r; exact .nil
 | cons n ns ih =>
  intro us r
  rw [aaz] at r
  cases r with
  | cons r1 r2 =>
   obtain ⟨t,e⟩:=r1
   subst e
   exact .cons n t (ih r2)
section
variable {X:Cx} {e:Expr} {te:TE} {lo hi:Option Expr} {tl th:TO} {pos p2:Pos}
theorem N0:PO X none NZ:=by
 intro pins s σ H Q I h
 rw [evalPart_none]
 exact wpAny_pure ⟨none,H,I,.none,h⟩
theorem N1 (h:PE X e te):PO X (some e) (Rm te):=by
 intro pins s σ H Q I hw
 rw [evalPart_some]
 refine thn (h pins s σ H _ I hw) fun u s1 ⟨x,H1,I1,r1,q1⟩=>?_
 obtain ⟨i,rfl,q⟩:=q1
 obtain ⟨t,rfl⟩:=r1
 exact ⟨some i,H1,I1,.int i t,q⟩
noncomputable def SlR (X:Cx) (r:V->Option Int->Option Int->Hp->VK->Prop):Prop :=
 ∀ (pins:List (Addr × Obj)) (s:Shared) (σ:St) (H:Hp) (x:V) (v vl vu:Value) (lo hi:Option Int) (sl:Addr) (Q:VK),Inv X pins σ H s->RelV x v->s.heap.IsSliceOf sl vl vu .none->IsPart vl lo->IsPart vu hi->r x lo hi H Q ->
  ∃ T id,typeLookup (.type T) "__getitem__" = pure (some (.builtin id))/\s.TypeIs v T/\wpAny (model X.prog X.w) X.A (getItem v (.ref sl)) (EP X pins σ Q) X.xe s
theorem SlR.or {r r':V->Option Int->Option Int->Hp->VK->Prop} (h:SlR X r) (h':SlR X r'):SlR X (fun x lo hi H Q=>r x lo hi H Q\/r' x lo hi H Q):=by
 intro pins s σ H x v vl vu lo hi sl Q I rx hs pl pu q
 rcases q with q | q
 ·exact h pins s σ H x v vl vu lo hi sl Q I rx hs pl pu q
 ·exact h' pins s σ H x v vl vu lo hi sl Q I rx hs pl pu q
noncomputable def tSl (r:V->Option Int->Option Int->Hp->VK->Prop) (te:TE) (tl th:TO):TE:=fun σ H Q=>te σ H fun x H1=>tl σ H1 fun l H2=>th σ H2 fun u H3=>r x l u H3 Q
theorem MB {r:V->Option Int->Option Int->Hp->VK->Prop} (hr:SlR X r) (he:PE X e te) (hl:PO X lo tl) (hu:PO X hi th):PE X (.Subscript e (.Slice lo hi none p2) pos) (tSl r te tl th):=by
 intro pins s σ H Q I h
 refine Subscript_ (thn (he pins s σ H _ I h) fun v s1 ⟨x,H1,I1,r1,q1⟩=>?_)
 refine wpAny_Slice (thn (hl pins s1 σ H1 _ I1 q1) fun vl s2 ⟨l,H2,I2,pl,q2⟩=>thn (hu pins s2 σ H2 _ I2 q2) fun vu s3 ⟨u,H3,I3,pu,q3⟩=>?_)
 rw [evalPart_none]
 refine wpAny_pure ?_
 have I4:Inv X pins σ H3 { s3 with heap:=s3.heap.push { cls:=.type "slice",data:=.fields #[vl,vu,.none] } }:=I3.kept (t':=s3.toks) fun b ob q=>Heap.get?_push_of_some _ q
 obtain ⟨T,id,hT,ht,hg⟩:=hr pins { s3 with heap:=s3.heap.push { cls:=.type "slice",data:=.fields #[vl,vu,.none] } } σ H3 x v vl vu l u s3.heap.objs.size Q I4 r1 (Heap.IsSliceOf.new ..) pl pu q3
 show wpAny (model X.prog X.w) X.A (subscriptTail e (.Slice lo hi none p2) v (.ref s3.heap.objs.size)) (EP X pins σ Q) X.xe { s3 with heap:=s3.heap.push { cls:=.type "slice",data:=.fields #[vl,vu,.none] } }
 exact tail_any (ops:=[.ref s3.heap.objs.size,v]) ht hT hg (by with_unfolding_all rfl)
noncomputable def E1 (xs:List V) (lo hi:Option Int):List V:=(xs.drop (HT.sIx xs.length 0 lo)).take (HT.sIx xs.length xs.length hi - HT.sIx xs.length 0 lo)
theorem FM (xs:List V) (lo hi:Option Int):(E1 xs lo hi).length<=xs.length:=by
 unfold E1
 rw [aaU,aa7]
 omega
noncomputable def R9 (K:PySem.W.Frag):V->Option Int->Option Int->Hp->VK->Prop:=fun x lo hi H Q=>∃ a xs,x=.ref a/\SqT K H a xs /\
 ¬ (HT.sIx xs.length 0 lo=0/\HT.sIx xs.length xs.length hi=xs.length)/\∀ p,H p=none->Q (.ref p) (upd H p (.tup (E1 xs lo hi)))
theorem PU:SlR X (R9 X.K):=by
 intro pins s σ H x v vl vu lo hi sl Q I rx hs pl pu h
 obtain ⟨a,xs,rfl,hx,hw,q⟩:=h
 cases rx
 obtain ⟨its,r,ht,hz⟩:=I.tuple hx
 have hlen:its.toArray.size=xs.length:=by rw [aag]; exact r.length.symm
 refine ⟨"tuple",_,PyProof.Rows.slot_tuple_getitem.lookup,ht.typeIs,?_⟩
 refine HT.getItem_tuple_cut ht hs pl pu (by rw [hlen]; exact hw) ?_ (by rw [hlen]; exact hz)
 rw [hlen]
 refine ⟨.ref s.heap.objs.size,_,I.laid (t':=s.toks) (o:=.tup (E1 xs lo hi)) (fun b ob q=>Heap.get?_push_of_some _ q) (aan _) ?_,rfl,q _ (I.hok.fresh (aan _))⟩
 exact ⟨aaJ (FM xs lo hi) hz,_,(r.drop (HT.sIx xs.length 0 lo)).take (HT.sIx xs.length xs.length hi - HT.sIx xs.length 0 lo),IsTup.new _ _⟩
end
noncomputable def ixN (n:Nat) (i:Int):Option Nat:=if 0<=i then (if i < n then some i.toNat else none) else if -(n:Int)<=i then some (i + n).toNat else none
noncomputable def atI {α:Type} (xs:List α) (i:Int):Option α:=(ixN xs.length i).bind fun j=>xs[j]?
theorem G0 {n:Nat} {i:Int} {j:Nat} (h:ixN n i=some j):seqIndex? i n=some j/\j < n/\-(n:Int)<=i/\i < n:=by
 unfold ixN at h
 by_cases h0:0<=i
 ·rw [if_pos h0] at h
  by_cases h1:i < n
  ·rw [if_pos h1] at h
   have e:i.toNat=j:=Option.some.inj h
   exact ⟨by rw [seqIndex_of h0 h1,e],by omega,by omega,h1⟩
  ·rw [if_neg h1] at h; cases h
 ·rw [if_neg h0] at h
  by_cases h1:-(n:Int)<=i
  ·rw [if_pos h1] at h
   have e:(i + n).toNat=j:=Option.some.inj h
   exact ⟨by rw [seqIndex_neg (by omega) h1,e],by omega,h1,by omega⟩
  ·rw [if_neg h1] at h; cases h
theorem JF {α:Type} {xs:List α} {i:Int} {v:α} (h:atI xs i=some v):∃ j,seqIndex? i xs.length=some j/\xs[j]?=some v/\j < xs.length/\-(xs.length:Int)<=i/\i < xs.length:=by
 unfold atI at h
 cases e:ixN xs.length i with
 | none=>rw [e] at h; cases h
 | some j =>
  rw [e] at h
  obtain ⟨h1,h2,h3,h4⟩:=G0 e
  exact ⟨j,h1,h,h2,h3,h4⟩
noncomputable def JG (b:Expr):Prop:=∀ o i,subscripted b false o i=operate [o,i] (getItem o i)
noncomputable def IxR (X:Cx) (r:R2):Prop :=
 ∀ (value slice:Expr) (pins:List (Addr × Obj)) (s:Shared) (σ:St) (H:Hp) (x y:V) (v u:Value) (Q:VK),Inv X pins σ H s->RelV x v->RelV y u->r x y H Q ->
  subscripted slice false v u=operate [v,u] (getItem v u)->wpAny (model X.prog X.w) X.A (subscriptTail value slice v u) (EP X pins σ Q) X.xe s
noncomputable def MtR (X:Cx) (id:String) (r:V->List V->Hp->VK->Prop):Prop :=
 ∀ (pins:List (Addr × Obj)) (s:Shared) (σ:St) (H:Hp) (x:V) (xs:List V) (v:Value) (us:List Value) (Q:VK),Inv X pins σ H s->RelV x v->Vals xs us->r x xs H Q ->
  wpAny (model X.prog X.w) X.A (call (.builtin id) (v :: us)) (EP X pins σ Q) X.xe s
section
variable {X:Cx} {a b:Expr} {ta tb:TE} {pos:Pos}
theorem IxR.or {r r':R2} (h:IxR X r) (h':IxR X r'):IxR X (fun x y H Q=>r x y H Q\/r' x y H Q):=by
 intro value slice pins s σ H x y v u Q I rx ry q hs
 rcases q with q | q
 ·exact h value slice pins s σ H x y v u Q I rx ry q hs
 ·exact h' value slice pins s σ H x y v u Q I rx ry q hs
theorem Fx {r:R2} (hr:IxR X r) (ha:PE X a ta) (hb:PE X b tb) (hs:JG b):PE X (.Subscript a b pos) (tOp r ta tb):=by
 intro pins s σ H Q I h
 exact Subscript_ (Mv ha hb I h fun v u s2 x y H2 I2 rx ry q=>hr a b pins s2 σ H2 x y v u Q I2 rx ry q (hs _ _))
noncomputable def PV (K:PySem.W.Frag):R2:=fun x y H Q=>∃ p xs i v,x=.ref p/\y=.int i/\SqL K H p xs/\atI xs i=some v/\Q v H
noncomputable def PX (K:PySem.W.Frag):R2:=fun x y H Q=>∃ p xs i v,x=.ref p/\y=.int i/\SqT K H p xs/\atI xs i=some v/\Q v H
theorem Ez:IxR X (PV X.K):=by
 intro value slice pins s σ H x y v u Q I rx ry h hs
 obtain ⟨p,xs,i,z,rfl,rfl,hq,he,q⟩:=h
 cases rx
 obtain ⟨t,rfl⟩:=ry
 obtain ⟨its,r,pl,hz⟩:=I.list hq
 obtain ⟨j,h1,h2,h3,h4,h5⟩:=JF he
 obtain ⟨w,ew,rw'⟩:=r.get h2
 have hl:=r.length
 have hn:=EY
 have fin:EP X pins σ Q w s:=⟨z,H,I,rw',q⟩
 by_cases h0:0<=i
 ·have hj:i.toNat=j:=by
   rw [seqIndex_of h0 h5] at h1
   exact Option.some.inj h1
  exact item_listR pl.isList h0 (by omega) (by rw [hj]; simpa using ew) fin hs
 ·have hj:(i + (its.toArray.size:Int)).toNat=j:=by
   rw [seqIndex_neg (by omega) h4] at h1
   rw [aag,<- hl]
   exact Option.some.inj h1
  exact subscriptTail_builtinR (x:=w) pl.isList.typeIs slot_list_getitem.lookup
   (wpAny_getItem_list_neg (Q:=fun r s'=>r=w/\EP X pins σ Q r s') pl.isList (by omega) (by rw [aag] <;> omega) (by omega) (by rw [hj]; simpa using ew) ⟨rfl,fin⟩) hs
theorem Ia:IxR X (PX X.K):=by
 intro value slice pins s σ H x y v u Q I rx ry h hs
 obtain ⟨p,xs,i,z,rfl,rfl,hq,he,q⟩:=h
 cases rx
 obtain ⟨t,rfl⟩:=ry
 obtain ⟨its,r,pl,hz⟩:=I.tuple hq
 obtain ⟨j,h1,h2,h3,h4,h5⟩:=JF he
 obtain ⟨w,ew,rw'⟩:=r.get h2
 have hl:=r.length
 have hn:=EY
 have fin:EP X pins σ Q w s:=⟨z,H,I,rw',q⟩
 exact subscriptTail_builtinR (x:=w) pl.typeIs slot_tuple_getitem.lookup
  (getItem_tuple (j:=j) (Q:=fun r s'=>r=w/\EP X pins σ Q r s') pl (by omega) (by omega) (by rw [aag,<- hl]; exact h1) (by simpa using ew) ⟨rfl,fin⟩) hs
theorem Kk (its:List Value) (n j:Nat) (u:Value):Obj.mapSeq (·.setIfInBounds j u) { cls:=.type "list",data:=.seq its.toArray n }={ cls:=.type "list",data:=.seq (its.set j u).toArray n }:=by
 simp [Obj.mapSeq]
theorem Inv.lst {pins:List (Addr × Obj)} {σ:St} {H:Hp} {s:Shared} {p:Addr} {xs:List V} (I:Inv X pins σ H s) (h:H p=some (.lst xs)) :
  ∃ (its:List Value) (n:Nat),Vals xs its/\s.heap.get? p=some { cls:=.type "list",data:=.seq its.toArray n }/\xs.length<=sizeLine:=by
 obtain ⟨z,its,n,r,e⟩:=I.hok p _ h
 exact ⟨its,n,r,e,z⟩
theorem Inv.lstUpd {pins:List (Addr × Obj)} {σ:St} {H:Hp} {s:Shared} {p:Addr} {xs ys:List V} {its its':List Value} {n n':Nat} {f:Obj->Obj} (I:Inv X pins σ H s) (h:H p=some (.lst xs))
  (ho:s.heap.get? p=some { cls:=.type "list",data:=.seq its.toArray n }) (hf:f { cls:=.type "list",data:=.seq its.toArray n }={ cls:=.type "list",data:=.seq its'.toArray n' }) (r:Vals ys its') (hz:ys.length<=sizeLine) (t:Nat) :
  Inv X pins σ (upd H p (.lst ys)) { s with heap:=s.heap.update p f,toks:=t }:=by
 have e:(s.heap.update p f).get? p=some { cls:=.type "list",data:=.seq its'.toArray n' }:=by
  rw [Heap.get?_update_self f ho (by rw [hf] <;> rfl),hf]
 refine I.write (x:=p) (e:=p) (by rw [h]; trivial) (.inl rfl) (fun b u hb q=>(Heap.get?_update_other _ _ (Ne.symm hb)).trans q) ⟨_,e⟩ ?_
 exact ⟨hz,its',n',r,e⟩
noncomputable def NG:V->V->V->Hp->(Hp->Prop)->Prop:=fun o i v H Q=>∃ p xs k j,o=.ref p/\i=.int k/\H p=some (.lst xs)/\ixN xs.length k=some j/\Q (upd H p (.lst (xs.set j v)))
theorem FW:Pr X NG:=by
 intro pins s σ H o i v ov iv u Q I ro ri rv h
 obtain ⟨p,xs,k,j,rfl,rfl,hp,hj,q⟩:=h
 cases ro
 obtain ⟨t,rfl⟩:=ri
 obtain ⟨its,n,r,ho,hz⟩:=I.lst hp
 obtain ⟨h1,h2,h3,h4⟩:=G0 hj
 have hl:=r.length
 have hn:=EY
 have I':Inv X pins σ (upd H p (.lst (xs.set j v))) { s with heap:=s.heap.update p (Obj.mapSeq (·.setIfInBounds j u)) } :=
  I.lstUpd hp ho (Kk its n j u) (r.set rv j) (by rw [aaF]; exact hz) s.toks
 by_cases h0:0<=k
 ·have hk:k.toNat=j:=by
   rw [seqIndex_of h0 h4] at h1
   exact Option.some.inj h1
  exact PySem.W.ki_setAt ho h0 (by omega) (by rw [aag,<- hl]; exact h4) (by rw [hk]; exact ⟨_,I',q⟩)
 ·have hk:(k + (its.toArray.size:Int)).toNat=j:=by
   rw [seqIndex_neg (by omega) h3] at h1
   rw [aag,<- hl]
   exact Option.some.inj h1
  exact PySem.W.ki_setBack ho (by omega) (by rw [aag,<- hl]; exact h3) (by omega) (by rw [hk]; exact ⟨_,I',q⟩)
theorem Ib (lo hi:Option Int) (n:Nat):(sliceBounds lo hi none n).1=((HT.sIx n 0 lo:Nat):Int)/\(sliceBounds lo hi none n).2.1=((HT.sIx n n hi:Nat):Int)/\(sliceBounds lo hi none n).2.2=1:=by
 refine ⟨?_,?_,rfl⟩
 ·cases lo with
  | none=>simp [sliceBounds,HT.sIx]
  | some i =>
   simp only [sliceBounds,HT.sIx,acm,show (1:Int) > 0 by decide,if_true]
   by_cases h:i < 0
   ·simp only [h,if_true] <;> omega
   ·simp only [h,if_false] <;> omega
 ·cases hi with
  | none=>simp [sliceBounds,HT.sIx]
  | some i =>
   simp only [sliceBounds,HT.sIx,acm,show (1:Int) > 0 by decide,if_true]
   by_cases h:i < 0
   ·simp only [h,if_true] <;> omega
   ·simp only [h,if_false] <;> omega
theorem HF (its:List Value) (lo hi:Option Int):slicePick its.toArray lo hi none=((its.drop (HT.sIx its.length 0 lo)).take (HT.sIx its.length its.length hi - HT.sIx its.length 0 lo)).toArray:=by
 obtain ⟨h1,h2,h3⟩:=Ib lo hi its.toArray.size
 unfold slicePick
 rw [h1,h2,h3]
 simp only [sliceRange_one,pick_run,aag] <;> rfl
noncomputable def Sa (K:PySem.W.Frag):V->Option Int->Option Int->Hp->VK->Prop:=fun x lo hi H Q=>∃ a xs,x=.ref a/\SqL K H a xs/\∀ p,H p=none->Q (.ref p) (upd H p (.lst (E1 xs lo hi)))
theorem N2:SlR X (Sa X.K):=by
 intro pins s σ H x v vl vu lo hi sl Q I rx hs pl pu h
 obtain ⟨a,xs,rfl,hx,q⟩:=h
 cases rx
 obtain ⟨its,r,ht,hz⟩:=I.list hx
 have hlen:=r.length
 refine ⟨"list",_,slot_list_getitem.lookup,ht.isList.typeIs,?_⟩
 refine wpAny_getItem_list_slice ht.isList hs pl pu .none (by simp) ?_ (by rw [aag] <;> omega)
 rw [HF,<- hlen]
 refine ⟨.ref s.heap.objs.size,_,I.laid (t':=s.toks) (o:=.lst (E1 xs lo hi)) (fun b ob q=>Heap.get?_push_of_some _ q) (aan _) ?_,rfl,q _ (I.hok.fresh (aan _))⟩
 exact ⟨aaJ (FM xs lo hi) hz,_,0,(r.drop (HT.sIx xs.length 0 lo)).take (HT.sIx xs.length xs.length hi - HT.sIx xs.length 0 lo),Heap.get?_push_size _ rfl⟩
theorem Ic:CB X (.builtin "len") (fun xs H Q=>∃ p ys,xs=[.ref p]/\(SqL X.K H p ys\/SqT X.K H p ys)/\Q (.int ys.length) H):=by
 intro pins s σ H xs us Q I r h
 obtain ⟨p,ys,rfl,hq,q⟩:=h
 obtain ⟨u,rfl,rx⟩:=EM r
 cases rx
 have hn:=EY
 rcases hq with hq | hq
 ·obtain ⟨its,r',pl,hz⟩:=I.list hq
  have hlen:=r'.length
  exact Calls.call_len_list pl.isList (by simp only [aag] <;> omega) ⟨.int ys.length,H,I.tok _,⟨s.toks + 1,by rw [aag,hlen]⟩,q⟩
 ·obtain ⟨its,r',pl,hz⟩:=I.tuple hq
  have hlen:=r'.length
  exact len_tuple pl (by simp only [aag] <;> omega) ⟨.int ys.length,H,I.tok _,⟨s.toks + 1,by rw [aag,hlen]⟩,q⟩
theorem Id:CB X (.type "list") (fun xs H Q=>∃ p ys,xs=[.ref p]/\(SqL X.K H p ys\/SqT X.K H p ys)/\∀ l,H l=none->Q (.ref l) (upd H l (.lst ys))):=by
 intro pins s σ H xs us Q I r h
 obtain ⟨p,ys,rfl,hq,q⟩:=h
 obtain ⟨u,rfl,rx⟩:=EM r
 cases rx
 have fin:∀ (its:List Value),Vals ys its->ys.length<=sizeLine->∀ (h':Heap) (c':Nat),(∀ b o',s.heap.get? b=some o'->h'.get? b=some o') ->
   h'.get? s.heap.objs.size=some { cls:=.type "list",dict:=none,data:=.seq its.toArray c',slots:=#[] }->EP X pins σ Q (.ref s.heap.objs.size) { s with heap:=h' }:=fun its r' hz h' c' kp e =>
  ⟨.ref s.heap.objs.size,_,I.laid (t':=s.toks) kp (aan _) (show ObjOk X.prog X.w _ h' _ (.lst ys) from ⟨hz,its,c',r',e⟩),rfl,q _ (I.hok.fresh (aan _))⟩
 rcases hq with hq | hq
 ·obtain ⟨its,r',pl,hz⟩:=I.list hq
  have hlen:=r'.length
  obtain ⟨o,ho,hc,n,hd⟩:=pl.isList
  exact call_list_seq p (.inl rfl) ho hc hd (fun h' c' kp e=>fin its r' hz h' c' kp e) (by simp only [aag] <;> omega)
 ·obtain ⟨its,r',pl,hz⟩:=I.tuple hq
  have hlen:=r'.length
  obtain ⟨o,ho,hc,n,hd⟩:=pl
  exact call_list_seq p (.inr rfl) ho hc hd (fun h' c' kp e=>fin its r' hz h' c' kp e) (by simp only [aag] <;> omega)
theorem HG:CB X (.type "tuple") (fun xs H Q=>∃ p ys,xs=[.ref p]/\((SqL X.K H p ys/\∀ l,H l=none->Q (.ref l) (upd H l (.tup ys)))\/(SqT X.K H p ys/\Q (.ref p) H))):=by
 intro pins s σ H xs us Q I r h
 obtain ⟨p,ys,rfl,h⟩:=h
 obtain ⟨u,rfl,rx⟩:=EM r
 cases rx
 rcases h with ⟨hq,q⟩ | ⟨hq,q⟩
 ·obtain ⟨its,r',pl,hz⟩:=I.list hq
  have hlen:=r'.length
  refine call_tuple_list pl.isList (fun h' kp=>?_) (by simp only [aag] <;> omega)
  have I1:Inv X pins σ H { s with heap:=h' }:=I.kept (t':=s.toks) kp
  have I2:Inv X pins σ (upd H h'.objs.size (.tup ys)) { s with heap:=h'.push { cls:=.type "tuple",data:=.seq its.toArray } } :=
   I1.laid (t':=s.toks) (fun b o e=>Heap.get?_push_of_some _ e) (aan _) (show ObjOk X.prog X.w _ _ _ (.tup ys) from ⟨hz,its,r',IsTup.new _ _⟩)
  exact ⟨.ref h'.objs.size,_,I2,rfl,q _ (I1.hok.fresh (aan _))⟩
 ·obtain ⟨its,r',pl,hz⟩:=I.tuple hq
  exact call_tuple_same pl ⟨.ref p,H,I,rfl,q⟩
noncomputable def tyV (K:PySem.W.Frag) (T:String) (x:V) (H:Hp):Prop:=match x with
 | .str _=>T = "str"
 | .int _=>T = "int"
 | .ref p=>(T = "list" /\ ∃ xs,SqL K H p xs)\/(T = "tuple" /\ ∃ o,K.lookup p=some o/\o.cls=.type "tuple" /\ o.dict=none) \/
   (T = "dict" /\ ((∃ kvs,H p=some (.dK kvs))\/∃ kvs,H p=some (.dT kvs)))\/(T = "set" /\ ∃ S n,H p=some (.set S n))
 | _=>False
theorem Lo {pins:List (Addr × Obj)} {σ:St} {H:Hp} {s:Shared} {T:String} {x:V} {v:Value} (I:Inv X pins σ H s) (r:RelV x v) (ty:tyV X.K T x H) :
  s.TypeIs v T/\∀ a,v=.ref a->∃ ob,s.heap.get? a=some ob/\ob.dict=none:=by
 cases x with
 | str z =>
  obtain ⟨t,rfl⟩:=r
  cases (show T = "str" from ty)
  exact ⟨typeIs_str s z t,fun _ e=>nomatch e⟩
 | int i =>
  obtain ⟨t,rfl⟩:=r
  cases (show T = "int" from ty)
  exact ⟨typeIs_int s i t,fun _ e=>nomatch e⟩
 | ref p =>
  cases r
  rcases ty with ⟨rfl,xs,hq⟩ | ⟨rfl,o,hk,hc,hd⟩ | ⟨rfl,hk⟩ | ⟨rfl,S,n,hk⟩
  ·obtain ⟨its,_,pl,_⟩:=I.list hq
   refine ⟨pl.isList.typeIs,fun a e=>?_⟩
   cases e
   obtain ⟨o,n,e,c,hd,_⟩:=pl
   exact ⟨o,e,hd⟩
  ·refine ⟨⟨o,I.kIn p o hk,hc⟩,fun a e=>?_⟩
   cases e
   exact ⟨o,I.kIn _ o hk,hd⟩
  ·have z:∃ o,s.heap.get? p=some o/\o.ExactDict:=by
    rcases hk with ⟨kvs,hk⟩ | ⟨kvs,hk⟩
    ·obtain ⟨_,_,_,_,o,_,_,e,ex,_⟩:=I.hok p _ hk
     exact ⟨o,e,ex⟩
    ·obtain ⟨_,_,_,_,o,_,_,e,ex,_⟩:=I.hok p _ hk
     exact ⟨o,e,ex⟩
   obtain ⟨o,e,ex⟩:=z
   refine ⟨⟨o,e,ex.1⟩,fun a e2=>?_⟩
   cases e2
   exact ⟨o,e,ex.2.1⟩
  ·obtain ⟨o,_,_,_,e,ex,_⟩:=I.hok p _ hk
   refine ⟨⟨o,e,ex.1⟩,fun a e2=>?_⟩
   cases e2
   exact ⟨o,e,ex.2.1⟩
 | _=>exact False.elim ty
noncomputable def Sb (K:PySem.W.Frag) (T:String) (r:V->List V->Hp->VK->Prop) (to:TE):TE:=fun σ H Q=>to σ H fun x H1=>tyV K T x H1/\r x [] H1 Q
noncomputable def tBM (K:PySem.W.Frag) (T:String) (r:V->List V->Hp->VK->Prop) (to:TE) (t:TA):TE:=fun σ H Q=>to σ H fun x H1=>tyV K T x H1/\t σ H1 fun xs H2=>r x xs H2 Q
variable {o e:Expr} {es:List Expr} {to:TE} {t:TA} {name:Str} {apos cpos:Pos} {T id:String} {r:V->List V->Hp->VK->Prop}
theorem Ie (pa:PlainAttrs T) (slot:Slot T name id) (hty:typeOf (.builtin id)=pure (.type "method_descriptor")) (hm:MtR X id r) (ho:PE X o to)
  (hbase:attributeBase o name X.env (eval o X.env)=eval o X.env:=by rfl) (hline:(apos.endLine==cpos.line)=true:=by rfl):PE X (.Call (.Attribute o name apos) [] [] cpos) (Sb X.K T r to):=by
 intro pins s σ H Q I h
 refine wpAny_Call_method0_late hbase hline (thn (ho pins s σ H _ I h) fun v s1 ⟨x,H1,I1,r1,ty,q1⟩=>?_)
 obtain ⟨h1,h2⟩:=Lo I1 r1 ty
 exact ⟨T,id,pa,slot,hty,h1,h2,Calls.callWith_builtin rfl (PySem.evalArgs_none (hm pins s1 σ H1 x [] v [] Q I1 r1 .nil q1))⟩
theorem Gs (pa:PlainAttrs T) (slot:Slot T name id) (hty:typeOf (.builtin id)=pure (.type "method_descriptor")) (hm:MtR X id r) (ho:PE X o to) (ha:PA X (e :: es) t)
  (hbase:attributeBase o name X.env (eval o X.env)=eval o X.env:=by rfl)
  (hfew:((backTo cpos (starEach (e :: es) X.env)).all (fun x=>!x.1) && (backToKw cpos (keywordEach [] X.env)).all (fun x=>x.1.isSome)
   && decide ((e :: es).length + ([]:List Keyword).length + (if ([]:List Keyword).isEmpty then 0 else 1) < 30))=true:=by rfl)
  (hline:(apos.endLine==cpos.line)=true:=by rfl) (hs:starEach (e :: es) X.env=(false,eval e X.env) :: starEach es X.env:=by rfl) (hplain:(backTo cpos (starEach es X.env)).any (·.1)=false:=by rfl) :
  PE X (.Call (.Attribute o name apos) (e :: es) [] cpos) (tBM X.K T r to t):=by
 intro pins s σ H Q I h
 refine wpAny_Call_method_late hbase hfew hline rfl (thn (ho pins s σ H _ I h) fun v s1 ⟨x,H1,I1,r1,ty,q1⟩=>?_)
 obtain ⟨h1,h2⟩:=Lo I1 r1 ty
 refine ⟨T,id,pa,slot,hty,h1,h2,?_⟩
 have hA:=ha cpos pins s1 σ H1 _ I1 q1
 rw [hs] at hA ⊢
 refine Calls.callWith_builtin (by show (false || (backTo cpos (starEach es X.env)).any (·.1))=false; rw [hplain] <;> rfl) (Calls.evalArgs_plain ?_)
 exact thn hA fun us s2 ⟨vs,H2,I2,r2,q2⟩=>hm pins s2 σ H2 x vs v us Q I2 r1 r2 q2
/- xs.append(e),list.index on a module's tuple .. are MtR facts of 06m -/
end
noncomputable def MtM (X:Cx) (id:String) (r:V->List V->Hp->VK->Prop):Prop :=
 ∀ (pins:List (Addr × Obj)) (s:Shared) (σ:St) (H:Hp) (x:V) (xs:List V) (v:Value) (us:List Value) (Q:VK),Inv X pins σ H s->RelV x v->Vals xs us->r x xs H Q ->
  wpAny (model X.prog X.w) X.A (call (.builtin id) (v :: us)) (EP X pins σ Q) X.xe s
theorem Vals.one:∀ {x:V} {us:List Value},Vals [x] us->∃ u,us=[u]/\RelV x u
 | _,_,.cons r .nil=>⟨_,rfl,r⟩
theorem Vals.zero:∀ {us:List Value},Vals [] us->us=[]
 | _,.nil=>rfl
theorem Vals.dropLast {xs:List V} {us:List Value} (h:Vals xs us):Vals xs.dropLast us.dropLast:=by
 induction h with
 | nil=>exact .nil
 | cons r t ih =>
  cases t with
  | nil=>exact .nil
  | cons q t'=>exact .cons r ih
theorem Vals.eraseIdx:∀ {xs:List V} {us:List Value} (i:Nat),Vals xs us->Vals (xs.eraseIdx i) (us.eraseIdx i)
 | _,_,_,.nil=>.nil
 | _,_,0,.cons _ t=>t
 | _,_,i + 1,.cons r t=>.cons r (Vals.eraseIdx i t)
theorem Vals.reverse {xs:List V} {us:List Value} (h:Vals xs us):Vals xs.reverse us.reverse:=by
 induction h with
 | nil=>exact .nil
 | cons r t ih=>rw [abC,abC]; exact Vals.append ih (.cons r .nil)
theorem Vals.rep {xs:List V} {us:List Value} (h:Vals xs us):∀ k:Nat,Vals (aai k xs).flatten (aai k us).flatten
 | 0=>.nil
 | k + 1=>by
  rw [aa9,aa9,abn,abn]
  exact Vals.append h (Vals.rep h k)
theorem Kl {α:Type} (l:List α):l.eraseIdx (l.length - 1)=l.dropLast:=by
 induction l with
 | nil=>rfl
 | cons a r ih =>
  cases r with
  | nil=>rfl
  | cons b r =>
   have e:(a :: b :: r).length - 1=((b :: r).length - 1) + 1:=by
    have h1:(a :: b :: r).length=r.length + 2:=rfl
    have h2:(b :: r).length=r.length + 1:=rfl
    omega
   rw [e,abB,ih]
   all_goals rfl
theorem Hv {α:Type}:∀ (l:List α) (i:Nat),(l.eraseIdx i).length<=l.length
 | [],_=>aan _
 | _ :: _,0=>ab3 _
 | _ :: r,i + 1=>Nat.succ_le_succ (Hv r i)
theorem Hw (its:List Value):∀ (k:Nat) (acc:List Value),
  acn (fun x1 x2=>x1 ++ x2) acc.toArray (aai k its.toArray)=(acc ++ (aai k its).flatten).toArray
 | 0,acc=>by simp
 | k + 1,acc=>by
  have e:acc.toArray ++ its.toArray=(acc ++ its).toArray:=by simp
  have e2:(acc ++ its) ++ (aai k its).flatten=acc ++ (aai (k + 1) its).flatten:=by
   rw [aa9,abn,acj]
  rw [<- e2,<- Hw its k (acc ++ its),<- e,aa9,abJ]
section
variable {X:Cx} {pins:List (Addr × Obj)} {σ:St} {H:Hp} {s:Shared} {l b:Addr} {xs ys zs:List V}
theorem Inv.lset {its its':List Value} {n:Nat} {f:Array Value->Array Value} {t':Nat} (I:Inv X pins σ H s) (hH:H l=some (.lst xs))
  (e:s.heap.get? l=some { cls:=.type "list",data:=.seq its.toArray n }) (hf:f its.toArray=its'.toArray) (hv:Vals ys its') (hz:ys.length<=sizeLine) :
  Inv X pins σ (upd H l (.lst ys)) { s with heap:=s.heap.update l (Obj.mapSeq f),toks:=t' }:=by
 have q:=PySem.IsL.update e f
 rw [hf] at q
 refine I.write (x:=l) (e:=l) (by rw [hH]; exact trivial) (.inl rfl) (fun b' u hb hu=>(Heap.get?_update_other s.heap (Obj.mapSeq f) (Ne.symm hb)).trans hu) ⟨_,q⟩ ?_
 exact ⟨hz,its',_,hv,q⟩
theorem Inv.lnew {its:List Value} {t':Nat} (I:Inv X pins σ H s) (hv:Vals ys its) (hz:ys.length<=sizeLine) :
  Inv X pins σ (upd H s.heap.objs.size (.lst ys)) { s with heap:=s.heap.push { cls:=.type "list",data:=.seq its.toArray },toks:=t' } :=
 I.laid (fun _ _ q=>Heap.get?_push_of_some _ q) (aan _) ⟨hz,its,0,hv,Heap.get?_push_size _ rfl⟩
theorem Inv.fresh (I:Inv X pins σ H s):H s.heap.objs.size=none:=I.hok.fresh (aan _)
theorem Inv.lstM (I:Inv X pins σ H s) (hH:H l=some (.lst xs)):xs.length<=sizeLine/\∃ (its:List Value) (n:Nat),Vals xs its/\xs.length=its.length/\s.heap.get? l=some { cls:=.type "list",data:=.seq its.toArray n }:=by
 obtain ⟨z,its,n,r,e⟩:=I.hok l _ hH
 exact ⟨z,its,n,r,r.length,e⟩
theorem Ig {n:Nat} (h:n<=sizeLine):Builtin.List.listTooLong n=false:=by
 unfold Builtin.List.listTooLong
 exact decide_eq_false (by omega)
end
section
variable {X:Cx}
noncomputable def Fy:V->List V->Hp->VK->Prop:=fun x vs H Q=>∃ l xs y,x=.ref l/\vs=[y]/\H l=some (.lst xs)/\xs.length < sizeLine/\Q .non (upd H l (.lst (xs ++ [y])))
theorem Ef:MtM X "list.append" Fy:=by
 intro pins s σ H x vs v us Q I rx rv h
 obtain ⟨l,xs,y,rfl,rfl,hH,hz,q⟩:=h
 cases rx
 obtain ⟨u,rfl,ru⟩:=rv.one
 obtain ⟨z,its,n,r,hl,e⟩:=I.lstM hH
 refine call_meets F.slot_list_append ⟨_,e,rfl⟩ F.entry_list_append (F.args_list_append_2 _ _) (PySem.list_append l its.toArray n u (by rw [aag]; omega)) ⟨e,?_⟩
 refine ⟨.non,_,I.lset (its':=its ++ [u]) hH e (by simp) (r.append (.cons ru .nil)) ?_,rfl,q⟩
 rw [aar,abo]
 omega
noncomputable def PY:V->List V->Hp->VK->Prop:=fun x vs H Q=>∃ l xs y,x=.ref l/\vs=[]/\H l=some (.lst xs)/\xs[xs.length - 1]?=some y/\Q y (upd H l (.lst xs.dropLast))
theorem PZ:MtM X "list.pop" PY:=by
 intro pins s σ H x vs v us Q I rx rv h
 obtain ⟨l,xs,y,rfl,rfl,hH,hy,q⟩:=h
 cases rx
 have hus:=rv.zero
 subst hus
 obtain ⟨z,its,n,r,hl,e⟩:=I.lstM hH
 obtain ⟨u,hu,ru⟩:=r.get hy
 have hy':its.toArray[its.toArray.size - 1]?=some u:=by
  show its.toArray[its.length - 1]?=some u
  rw [<- Array.getElem?_toList,<- hl]
  exact hu
 refine call_meets F.slot_list_pop ⟨_,e,rfl⟩ F.entry_list_pop (F.args_list_pop_1 _) (MeetsSeq.list_pop_last l its.toArray n u hy' (by rw [aag]; omega)) ⟨e,?_⟩
 refine ⟨y,_,I.lset (its':=its.dropLast) hH e ?_ r.dropLast ?_,ru,q⟩
 ·show its.toArray.eraseIdxIfInBounds (its.toArray.size - 1)=its.dropLast.toArray
  rw [aag,abH,Kl]
 ·rw [List.length_dropLast]
  omega
noncomputable def Lp:V->List V->Hp->VK->Prop:=fun x vs H Q=>∃ l xs i k y,x=.ref l/\vs=[.int i]/\H l=some (.lst xs)/\-(2 ^ 63)<=i/\i < 2 ^ 63/\seqIndex? i xs.length=some k/\xs[k]?=some y/\Q y (upd H l (.lst (xs.eraseIdx k)))
theorem MC:MtM X "list.pop" Lp:=by
 intro pins s σ H x vs v us Q I rx rv h
 obtain ⟨l,xs,i,k,y,rfl,rfl,hH,h1,h2,hk,hy,q⟩:=h
 cases rx
 obtain ⟨u,rfl,ru⟩:=rv.one
 obtain ⟨t,rfl⟩:=ru
 obtain ⟨z,its,n,r,hl,e⟩:=I.lstM hH
 obtain ⟨w,hw,rw'⟩:=r.get hy
 refine call_meets F.slot_list_pop ⟨_,e,rfl⟩ F.entry_list_pop (F.args_list_pop_2 _ _)
  (MeetsSeq.list_pop_at l its.toArray n i t k w (fitsIndex_both h1 h2) (by rw [aag,<- hl]; exact hk) (by rw [<- Array.getElem?_toList]; exact hw) (by rw [aag]; omega)) ⟨e,?_⟩
 refine ⟨y,_,I.lset (its':=its.eraseIdx k) hH e ?_ (r.eraseIdx k) ?_,rw',q⟩
 ·show its.toArray.eraseIdxIfInBounds k=(its.eraseIdx k).toArray
  rw [abH]
 ·have:=Hv xs k
  omega
noncomputable def Ih:V->List V->Hp->VK->Prop:=fun x vs H Q=>∃ l xs,x=.ref l/\vs=[]/\H l=some (.lst xs)/\Q .non (upd H l (.lst xs.reverse))
theorem Km:MtM X "list.reverse" Ih:=by
 intro pins s σ H x vs v us Q I rx rv h
 obtain ⟨l,xs,rfl,rfl,hH,q⟩:=h
 cases rx
 have hus:=rv.zero
 subst hus
 obtain ⟨z,its,n,r,hl,e⟩:=I.lstM hH
 refine call_meets F.slot_list_reverse ⟨_,e,rfl⟩ F.entry_list_reverse (F.args_list_reverse_1 _) (AutoSeq1.list_reverse_list_0 l its.toArray n (by rw [aag]; omega)) ⟨e,?_⟩
 refine ⟨.non,_,I.lset (its':=its.reverse) hH e (by simp) r.reverse ?_,rfl,q⟩
 rw [List.length_reverse]
 omega
noncomputable def Lq:V->List V->Hp->VK->Prop:=fun x vs H Q=>∃ l xs,x=.ref l/\vs=[]/\H l=some (.lst xs)/\Q .non (upd H l (.lst []))
theorem MD:MtM X "list.clear" Lq:=by
 intro pins s σ H x vs v us Q I rx rv h
 obtain ⟨l,xs,rfl,rfl,hH,q⟩:=h
 cases rx
 have hus:=rv.zero
 subst hus
 obtain ⟨z,its,n,r,hl,e⟩:=I.lstM hH
 refine call_meets F.slot_list_clear ⟨_,e,rfl⟩ F.entry_list_clear (F.args_list_clear_1 _) (AutoSeq1.list_clear_list_0 l its.toArray n (by rw [aag]; omega)) ⟨e,?_⟩
 exact ⟨.non,_,I.lset (its':=[]) (ys:=[]) hH e rfl .nil (aas _),rfl,q⟩
theorem N3 {α:Type} (xs:List α) (k:Nat):(aai k xs).flatten.length=k * xs.length:=by
 induction k with
 | zero=>simp
 | succ k ih=>rw [aa9,abn,aar,ih,acf,Nat.add_comm]
end
end L2
namespace Att
open PySem PySem.W PySem.Calls PyProof.Rows
theorem Gu {P:Params} {h:Heap}:∀ (ns:List Int) (vs:List Value),WellAll P h vs (ns.map WData.int)->IntsAre vs ns:=by
 intro ns
 induction ns with
 | nil =>
  intro vs w
  rw [abI] at w
  cases w
  exact .nil
 | cons n ns ih =>
  intro vs w
  rw [aaz] at w
  cases w with
  | cons a b =>
   cases a
   exact .cons _ _ (ih _ b)
theorem Lr {l:OpenLaw} {n:Nat} (hn:l.most=some n) {P:Params} {h:Heap} {args:List WData} {vals:List Value}
  (hpre:l.row.toRowW.claim.pre args=true) (hwl:WellAll P h vals args) :
  ∃ a vs ns,vals=[Value.ref a]/\args=[WData.list (ns.map WData.int)]/\h.get? a=some { cls:=.type "list",data:=.seq vs.toArray }/\IntsAre vs ns/\ns.length<=n:=by
 have hsh:WShape.hasAll [] args [.list .int]=true:=(pre_splitW hpre).1
 have hc:l.pre.holds [] { args:=args }=true:=(pre_splitW hpre).2
 obtain ⟨d,r,rfl,h1,h2⟩:=hasAllW_cons hsh
 obtain rfl:=hasAllW_nil h2
 obtain ⟨xs,rfl,h3⟩:=hasW_list h1
 obtain ⟨ns,rfl⟩:=items_int h3
 have hlen:ns.length<=n:=by
  unfold OpenLaw.pre at hc
  have h4:(WTm.not (.lt (.lit (.int (n:Int))) (.len (.arg 0)))).holds [] { args:=[.list (ns.map .int)] }=true:=by
   have h4:=(holds_andW hc).1
   rw [hn] at h4
   exact h4
  have h5:=condW_of h4 (w_not (w_lt w_lit (w_len_list (w_arg rfl))))
  rw [aaa] at h5
  refine aaZ fun q=>?_
  have q':(n:Int) < ((ns.length:Nat):Int):=by omega
  first
   | (rw [decide_eq_true q'] at h5; exact absurd h5 (by decide))
   | (simp at h5; omega)
 cases hwl with
 | cons w1 w2 =>
  cases w2
  cases w1 with
  | list ho hall=>exact ⟨_,_,ns,rfl,rfl,ho,Gu ns _ hall,hlen⟩
theorem Ls (l:OpenLaw) (args:List WData):l.row.toRowW.claim.post args (.bool true) args=true :=
 postW_of (r:=l.row.toRowW) (X:=(true==true))
  (show WShape.has [] (.bool true) .bool=true by first | rfl | decide | simp [WShape.has,WShape.arms,WShape.armsAll])
  (show (WTm.eq .res (.lit (.bool true))).value [] { args:=args,res:=some (.bool true),after:=args }=some (.bool (true==true)) from w_eq_bool (w_res rfl) w_lit) rfl
theorem attach_call {l:OpenLaw} {n:Nat} {q:Program} {loose:List Str} {XP:(Str->Option Value)->Heap->Prop} {YP:World->Heap->Prop} {d:DefRec}
  (hn:l.most=some n) (hdf:d.params.defaults=[])
  (call:∀ (w:World) (s₀ s₁:Shared) (mg mb:Str->Option Value) (fa:Addr) (o:Obj) (pm cd doc:Value) (a:Addr) (vs:List Value) (ns:List Int),
   Ground q loose [] XP w s₀ mg mb s₁.heap->YP w s₁.heap ->
   s₁.heap.get? fa=some o->o.data=.func (docDef d.name d.params d.body d.scope pm cd doc)->s₁.heap.CodeRec cd d.name->mg d.name=some (.ref fa) ->
   s₁.heap.get? a=some { cls:=.type "list",data:=.seq vs.toArray }->IntsAre vs ns->ns.length<=n->s₁.gens=#[] ->
   codeAny (model l.prog w) callerA (.call (.ref fa) ⟨[.ref a],[]⟩) (fun r s'=>r=.ok (.ret (.bool true))/\OldK s₁.heap s'.heap/\s'.os=s₁.os/\AllBare s'.gens) s₁) :
  WalkO q loose XP YP l.row.toRowW d [] (fun f vs=>PySem.call f vs):=by
 intro w s₀ s₁ mg mb G Y fa o pm cd doc dV kV ho hd hcd hD hmg hg args vals as hpre hlay hrd hwl hlo
 obtain rfl:dV=.none:=Dflts.none hD hdf
 obtain rfl:kV=.none:=Dflts.noKw hD
 obtain ⟨a,vs,ns,rfl,rfl,hobj,hints,hlen⟩:=Lr hn hpre hwl
 refine enter_call (codeAny_mono (call w s₀ s₁ mg mb fa o pm cd doc a vs ns G Y ho (fd_plain hd) hcd hmg hobj hints hlen hg) fun r s' hq=>?_)
 obtain ⟨rfl,h2,h3,h4⟩:=hq
 exact ⟨.inl ⟨.bool true,.bool true,[],rfl,fun _=>rfl,.bool true,Ls l _,fun _=>⟨List.Pairwise.nil,fun _ hm=>(nomatch hm)⟩⟩,h2,h3,h4⟩
end Att
namespace L2
open PySem PySem.Spec PyProof.Rows
theorem Hx:∀ {vs:List Value} {ns:List Int},IntsAre vs ns->Vals (ns.map V.int) vs
 | _,_,.nil=>.nil
 | _,_,.cons n t h=>.cons ⟨t,rfl⟩ (Hx h)
noncomputable def ME (H:Hp):Prop:=∀ b,H b=none\/∃ o xs,H b=some (.frz o (.lst xs))
theorem MF {P:Program} {w:World} {K:PySem.W.Frag} {mg mb:Str->Option Value} {CX:CXT} {k:Nat} {fa a:Addr} {fd:FuncData} {x:Str} {sp:Sp} {s₁:Shared} {vs:List Value} {ns:List Int}
  (KX:K.In s₁.heap) (hns:s₁.heap.Ns mainGlobals mg) (hb:s₁.heap.Ns builtinsNs mb) (hbb:∀ x:Str,x ≠ "__name__" -> mb x=bootBuiltins x) (hlim:s₁.heap.NoLimit) (hg:s₁.gens=#[])
  (ha:s₁.heap.get? a=some { cls:=.type "list",data:=.seq vs.toArray }) (hi:IntsAre vs ns) (hl:ns.length<=sizeLine) (hr:Room k callerA)
  (F:∀ base:Heap,K.In base->base.Ns mainGlobals mg->FnOk P w K mg base CX k fa fd [x] sp) (hbind:∀ (s:Shared) (u:Value),BindsTo s fd ⟨[u],[]⟩ [(x,u)])
  (hsp:∀ H:Hp,ME H->SqL K H a (ns.map V.int)->sp [.ref a] H (fun v _=>v=.bl true) fun _ _ _=>False)
  (hCX:∀ H e s',CX [] H s₁ (fun _ _ _=>False) e s'->False) :
  codeAny (model P w) callerA (.call (.ref fa) ⟨[.ref a],[]⟩) (fun r s'=>r=.ok (.ret (.bool true))/\OldK s₁.heap s'.heap/\s'.os=s₁.os/\AllBare s'.gens) s₁:=by
 have rv:=Hx hi
 have lenV:=hi.length
 have core:∀ H:Hp,ME H->SqL K H a (ns.map V.int)->HOk P w H s₁.heap->(∀ b,H b ≠ none->b=a)->(H a ≠ none->K.lookup a=none) ->
   codeAny (model P w) callerA (.call (.ref fa) ⟨[.ref a],[]⟩) (fun r s'=>r=.ok (.ret (.bool true))/\OldK s₁.heap s'.heap/\s'.os=s₁.os/\AllBare s'.gens) s₁:=by
  intro H hO hS hok hA hK
  have base_of:∀ {b:Addr} {o:Obj},s₁.heap.get? b=some o->H b=none->(EL s₁.heap H).get? b=some o:=fun e n=>Mo e n
  have noA:∀ {b:Addr} {o:Obj} {es:Array DictEntry} {ep:Nat},s₁.heap.get? b=some o->o.data=.dict es ep->H b=none:=fun {b o es ep} e d=>by
   cases q:H b with
   | none=>rfl
   | some u =>
    have e':b=a:=hA b (by rw [q]; simp)
    subst e'
    rw [ha] at e; cases e
    have d':Data.seq vs.toArray _=Data.dict es ep:=d
    cases d'
  have nsK:∀ {b:Addr} {m:Str->Option Value},s₁.heap.Ns b m->(EL s₁.heap H).Ns b m:=fun {b m} ⟨o,es,ep,e,d,r⟩=>⟨o,es,ep,base_of e (noA e d),d,r⟩
  have hKb:K.In (EL s₁.heap H):=fun b o e=>base_of (KX b o e) (by
   cases q:H b with
   | none=>rfl
   | some u =>
    have e':b=a:=hA b (by rw [q]; simp)
    subst e'
    rw [hK (by rw [q]; simp)] at e; cases e)
  have hM:Mod K mg (EL s₁.heap H):=⟨hKb,nsK hns,⟨mb,nsK hb,hbb⟩,let ⟨mc,h1,h2⟩:=hlim; ⟨mc,nsK h1,h2⟩⟩
  have e0:Env0 P w K mg (EL s₁.heap H) callerA [] s₁ H:=⟨rfl,hM,fun b o e=>NS e,Nat.le_of_eq (K4 _ _),trivial,fun b hb=>absurd (show b ∈ ([]:List Addr) from hb) (by simp),hok,.of_eq hg⟩
  refine codeAny_mono ((F _ hKb (nsK hns)).run callerA [] s₁ H ⟨[.ref a],[]⟩ [.ref a] [.ref a] _ _ hr e0 (hbind s₁ (.ref a)) (.cons rfl .nil) (hsp H hO hS)) fun r s' h=>?_
  cases r with
  | error e=>exact (hCX H e s' h).elim
  | ok fl =>
   cases fl with
   | next=>exact False.elim h
   | brk=>exact False.elim h
   | cont=>exact False.elim h
   | ret u =>
    obtain ⟨v,H',os,bare,un,hok',r',q⟩:=h
    have q':v=.bl true:=q
    subst q'
    obtain rfl:u=Value.bool true:=r'
    refine ⟨rfl,OldK.of_keep fun b o e=>?_,os,bare⟩
    cases q:H b with
    | none=>exact un.keep b o e q (by intro z; exact absurd (show b ∈ ([]:List Addr) from z) (by simp)) (by simp)
    | some u =>
     rcases hO b with z | ⟨ob,xs,z⟩
     ·rw [q] at z; cases z
     ·have z2:=un.frzs b ob _ z
      obtain ⟨e1,_⟩:=hok b _ z
      obtain ⟨e2,_⟩:=hok' b _ z2
      rw [e] at e1; cases e1
      exact e2
 cases hk:K.lookup a with
 | some o =>
  have e:=KX a o hk
  rw [ha] at e
  cases e
  refine core (fun _=>none) (fun _=>.inl rfl) (.inr ⟨_,vs.toArray,_,hk,rfl,rfl,rfl,by rw [aag,lenV]; exact hl,by simpa using rv⟩) (fun b u z=>by have z':(none:Option HO)=some u:=z; cases z') (fun b z=>absurd rfl z) fun z=>absurd rfl z
 | none =>
  refine core (fun b=>if b=a then some (.frz { cls:=.type "list",data:=.seq vs.toArray } (.lst (ns.map V.int))) else none) (fun b=>?_) (.inl (.inr ⟨{ cls:=.type "list",data:=.seq vs.toArray },if_pos rfl⟩)) (fun b u z=>?_) (fun b z=>?_) fun _=>hk
  ·by_cases hb:b=a
   ·exact .inr ⟨_,_,if_pos hb⟩
   ·exact .inl (if_neg hb)
  ·by_cases hb:b=a
   ·have z':=(if_pos hb).symm.trans z
    cases z'
    subst hb
    exact ⟨ha,by rw [aaa]; exact hl,vs,_,rv,ha⟩
   ·have z':=(if_neg hb).symm.trans z
    cases z'
  ·by_cases hb:b=a
   ·exact hb
   ·exact absurd (if_neg hb) z
theorem N4 {l:PySem.W.OpenLaw} {n k:Nat} {q:Program} {loose:List Str} {XP:(Str->Option Value)->Heap->Prop} {YP:World->Heap->Prop} {d:DefRec} {K:Params->PySem.W.Frag} {CX:World->CXT} {sp:World->Sp} {x:Str}
  (hn:l.most=some n) (hn2:n<=sizeLine) (hdf:d.params.defaults=[]) (hr:Room k callerA)
  (hY:∀ (w:World) (h:Heap),YP w h->(K w.params).In h)
  (F:∀ (w:World) (mg:Str->Option Value) (fa:Addr) (h:Heap),(K w.params).In h->h.Ns mainGlobals mg->mg d.name=some (.ref fa) ->
   ∃ fd:FuncData,(∀ (s:Shared) (u:Value),BindsTo s fd ⟨[u],[]⟩ [(x,u)]) /\
    ∀ base:Heap,(K w.params).In base->base.Ns mainGlobals mg->FnOk l.prog w (K w.params) mg base (CX w) k fa fd [x] (sp w))
  (hsp:∀ (w:World) (H:Hp) (a:Addr) (ns:List Int),ns.length<=n->ME H->SqL (K w.params) H a (ns.map V.int)->sp w [.ref a] H (fun v _=>v=.bl true) fun _ _ _=>False)
  (hCX:∀ (w:World) (H:Hp) (s:Shared) (e:Value) (s':Shared),CX w [] H s (fun _ _ _=>False) e s'->False) :
  PySem.W.WalkO q loose XP YP l.row.toRowW d [] (fun f vs=>PySem.call f vs):=by
 refine Att.attach_call hn hdf fun w s₀ s₁ mg mb fa o pm cd doc a vs ns G Y ho hd hcd hmg hobj hints hlen hg=>?_
 have KX:=hY w _ Y
 obtain ⟨fd,hb,hF⟩:=F w mg fa _ KX G.T.g hmg
 exact MF KX G.T.g G.T.b G.T.builtins G.T.nolimit hg hobj hints (aaJ hlen hn2) hr hF hb (fun H hO hS=>hsp w H a ns hlen hO hS) fun H e s'=>hCX w H s₁ e s'
noncomputable def BM (s:Stmt):Arguments:=match s with
 | .FunctionDef _ a _ _ _ _ _ _ _ _=>a
 | _=>{ posonlyargs:=[],args:=[],vararg:=none,kwonlyargs:=[],kw_defaults:=[],kwarg:=none,defaults:=[] }
noncomputable def AL (s:Stmt):List Stmt:=match s with
 | .FunctionDef _ _ b _ _ _ _ _ _ _=>b
 | _=>[]
noncomputable def Ag (s:Stmt):Scope:=match s with
 | .FunctionDef _ _ _ _ _ _ sc _ _ _=>sc
 | _=>{ kind:=.function,names:=[],isGenerator:=false,isCoroutine:=false }
structure Fun (K:PySem.W.Frag) (x qual:Str) (st:Stmt) (f:Addr) (fd:FuncData):Prop where
 ex:∃ (oc:Value) (od:Option Addr) (kV doc pm:Value) (an:Option Addr) (cdv ct:Value) (osl:Array (Option Value)),
  fd=PySem.W.fnOf x qual (BM st) (AL st) (Ag st) .none kV doc pm an cdv ct/\K.lookup f=some ⟨oc,od,.func fd,osl⟩/\PySem.W.codeIn K cdv qual=true
 kp:PySem.W.keepIn K (.ref f)=true
section
variable {P:Program} {w:World} {K:PySem.W.Frag} {mg:Str->Option Value} {base:Heap}
theorem Fun.binds {x qual:Str} {st:Stmt} {f:Addr} {fd:FuncData} {ps:List Str} (F:Fun K x qual st f fd)
  (h:∀ (kV doc pm:Value) (an:Option Addr) (cdv ct:Value) (us:List Value),us.length=ps.length->bindArgs (PySem.W.fnOf x qual (BM st) (AL st) (Ag st) .none kV doc pm an cdv ct) ⟨us,[]⟩=pure (ps.zip us)):Binds K fd ps []:=by
 obtain ⟨oc,od,kV,doc,pm,an,cdv,ct,osl,rfl,lk,hcd⟩:=F.ex
 exact .all (h kV doc pm an cdv ct)
theorem Lu {x qual:Str} {st:Stmt} {f:Addr} {oc:Value} {od an:Option Addr} {osl:Array (Option Value)} {kV doc pm cdv ct:Value} (l:K.lookup f=some ⟨oc,od,.func (PySem.W.fnOf x qual (BM st) (AL st) (Ag st) .none kV doc pm an cdv ct),osl⟩)
  (c:PySem.W.codeIn K cdv qual=true) (k:PySem.W.keepIn K (.ref f)=true):Fun K x qual st f (PySem.W.fnOf x qual (BM st) (AL st) (Ag st) .none kV doc pm an cdv ct):=⟨⟨oc,od,kV,doc,pm,an,cdv,ct,osl,rfl,l,c⟩,k⟩
end
noncomputable def Same (H H':Hp):Prop:=∀ b o,H b=some o->H' b=some o
theorem Same.refl (H:Hp):Same H H:=fun _ _ h=>h
theorem Same.trans {H H1 H2:Hp} (a:Same H H1) (b:Same H1 H2):Same H H2:=fun c o h=>b c o (a c o h)
theorem Same.free {H H':Hp} (e:Same H H') {l:Addr} (h:H' l=Option.none):H l=Option.none:=by
 cases q:H l with
 | none=>rfl
 | some o =>
  rw [e l o q] at h
  cases h
theorem Same.seq {K:PySem.W.Frag} {H H':Hp} {a:Addr} {xs:List V} (e:Same H H') (h:SqL K H a xs):SqL K H' a xs:=by
 rcases h with (h | ⟨o,h⟩) | h
 ·exact .inl (.inl (e _ _ h))
 ·exact .inl (.inr ⟨o,e _ _ h⟩)
 ·exact .inr h
end L2
end
section
set_option maxHeartbeats 1000000
namespace L2
open PySem PySem.Spec PyProof.Rows PySem.W
section
variable {prog:Program} {w:World} {A:Around} {E:Value->Shared->Prop} {s:Shared} {K:Frag} {e C:Addr} {ox:Obj}
structure XCls (K:Frag) (C:Addr):Prop where
 ga:findIn K (.ref C) "__getattribute__" = some (some (.builtin "BaseException.__getattribute__"))
 gn:findIn K (.ref C) "__getattr__" = some none
 sb:subIn K (.ref C) (.type "BaseException")=some true
 cl:findIn K (.ref C) "__class__" = some (some (.builtin "object.__class__"))
 mo:mroIn K C (.type "object")=some true
 ty:typeIn K (.ref C)=some (.type "type")
 cc:(clsIn K C).isSome=true
noncomputable def XAt (e C:Addr) (h:Heap):Prop:=∃ oe,h.get? e=some oe/\oe.cls=.ref C
theorem XAt.type {M:Model} {h:Heap} (I:XAt e C h):Looks M h (typeOf (.ref e)) (.ref C):=by
 obtain ⟨oe,h1,h2⟩:=I
 exact h2 ▸ (Looks.ld h1).andThen .now
theorem P0 {R:Result->Shared->Prop} (X:K.In s.heap) (I:XAt e C s.heap) (c:XCls K C) (h:R (.ok (.ret (.ref C))) s) :
  codeAny (model prog w) A (.call (.builtin "getset_descriptor.__get__") ⟨[.builtin "object.__class__",.ref e,.ref C],[]⟩) R s:=by
 obtain ⟨hh,g,d,t,os⟩:=s
 have hT5:(⟨hh,g,d,t,os⟩:Shared).TypeIs (.builtin "object.__class__") "getset_descriptor" := F.typeOf_object_class
 have L0:=I.type (M:=model prog w)
 have L1:=looks_mroIn (M:=model prog w) X c.mo
 refine codeAny_call_builtin F.slot_gs_get.plain F.entry_gs_get (F.slot_gs_get.check _ _ _ _ _ _ _ _ hT5 (F.args_gs_get _ _ _) ?_)
 repeat (any_goals (first | assumption | refine L0.at ?_ | refine L1.at ?_ | refine wpAny_bind (L0.at ?_) | refine wpAny_bind (L1.at ?_) | wp_step))
 refine ⟨Code.quiet_builtin _ (by decide +kernel),codeAny_builtin KF.entry_class ?_⟩
 unfold Builtin.«object.__class__» shownTypeOf
 repeat (any_goals (first | assumption | refine L0.at ?_ | refine wpAny_bind (L0.at ?_) | wp_step))
theorem N5 {tk:Tok} {R:Result->Shared->Prop} (X:K.In s.heap) (I:XAt e C s.heap) (c:XCls K C) (h:R (.ok (.ret (.ref C))) s) :
  codeAny (model prog w) A (.call (.builtin "BaseException.__getattribute__") ⟨[.ref e,.str "__class__" tk],[]⟩) R s:=by
 obtain ⟨hh,g,d,t,os⟩:=s
 have L0:=I.type (M:=model prog w)
 have LS:=looks_subIn (M:=model prog w) X c.sb
 have LI:Looks (model prog w) hh (isInstance (.ref e) (.type "BaseException")) true:=L0.andThen LS
 have LC:=looks_findIn (M:=model prog w) X c.cl
 refine codeAny_call_builtin (by decide +kernel) F.entry_bexc_ga ?_
 have hk:builtinKind "BaseException.__getattribute__" = some .slot:=by decide +kernel
 have hsplit:splitId "BaseException.__getattribute__" = some ("BaseException", "__getattribute__"):=by decide +kernel
 have ha:=F.args_bexc_ga (.ref e) (.str "__class__" tk)
 simp only [checkBuiltinCall,hk,hsplit]
 refine wpAny_bind (LI.at ?_)
 unfold argsOk at ha
 simp only [abk,aaR,if_false]
 refine wpAny_of_eq ha ?_
 have hT5:(⟨hh,g,d,t,os⟩:Shared).TypeIs (.builtin "object.__class__") "getset_descriptor" := F.typeOf_object_class
 have f5:=F.typeOf_object_class
 have f6:=F.slot_gs_get.lookup
 have f7:=F.slot_gs_set.lookup
 repeat (any_goals (first | assumption | refine L0.at ?_ | refine wpAny_bind (L0.at ?_) | refine LC.at ?_ | refine wpAny_bind (LC.at ?_) | wp_step))
 exact P0 X I c (wpAny_pure h)
theorem N6 {Q:Option Value->Shared->Prop} (X:K.In s.heap) (I:XAt e C s.heap) (c:XCls K C) (h:Q (some (.ref C)) { s with toks:=s.toks + 1 }) :
  wpAny (model prog w) A (getAttr? (.ref e) "__class__") Q E s:=by
 obtain ⟨hh,g,d,t,os⟩:=s
 have L0:=I.type (M:=model prog w)
 have LG:=looks_findIn (M:=model prog w) X c.ga
 have LN:=looks_findIn (M:=model prog w) X c.gn
 have fb1:=F.excAttr_ValueError.ga.bind (.ref e)
 unfold getAttr? getAttrBy? getAttrBy
 repeat (first | refine wpAny_bind (L0.at ?_) | refine wpAny_bind (LG.at ?_) | refine wpAny_bind (LN.at ?_) | refine LN.at ?_ | wp_step)
 exact N5 (s:=⟨hh,g,d,t + 1,os⟩) X I c (handed_on rfl (wpAny_pure h))
theorem MG (c:XCls K C):KitX K (.ref e) (.ref C) (XAt e C) where
 ty:=fun _ _ _ I=>I.type
 it:=fun M h X _=>by
  have hc:=c.cc
  unfold clsIn at hc
  split at hc
  ·rename_i ho
   intro A' Q' E' s' k q
   unfold isType loadHead
   exact wpAny_bind (wpAny_loadPart (k _ _ (X _ _ ho)) (wpAny_pure q))
  ·cases hc
 ne:=fun h tp dd its n sl X htp=>by
  refine Bool.eq_false_iff.mpr fun q=>?_
  have e:C=tp:=Value.ref.inj (beq_iff_eq.mp q)
  subst e
  have hc:=c.cc
  unfold clsIn at hc
  split at hc
  ·rename_i ho
   have z:=(X _ _ ho).symm.trans htp
   cases z
  ·cases hc
 ca:=fun X I k=>N6 X I c k
end
noncomputable def xO (a C:Addr):HO:=.ext (XAt a C)
noncomputable def dO (a:Addr):HO:=.ext (KitAt a "dict")
inductive TyX (K:Frag) (H:Hp):V->Value->Prop where
 | dct {a:Addr} (y:H a=some (dO a)):TyX K H (.ref a) (.type "dict")
 | of {x:V} {t:Value} (y:TyOf K H x t):TyX K H x t
 | exc {a C:Addr} (y:H a=some (xO a C)) (c:XCls K C):TyX K H (.ref a) (.ref C)
noncomputable def clV:V->Option Value
 | .ty n=>some (.type n)
 | .ref C=>some (.ref C)
 | _=>none
noncomputable def Sd (K:Frag):List V->Hp->VK->Prop:=fun xs H Q=>∃ x c cv t b,xs=[x,c]/\clV c=some cv/\TyX K H x t/\kitOne K t cv=some b/\Q (.bl b) H
theorem MH {X:Cx}:CB X (.builtin "isinstance") (Sd X.K):=by
 intro pins s σ H xs us Q I r h
 obtain ⟨x,c,cv,t,b,rfl,hc,ty,e,q⟩:=h
 obtain ⟨u,w',rfl,ru,rw'⟩:=HN r
 have ec:w'=cv:=by
  cases c with
  | ty n=>cases hc; exact rw'
  | ref C=>cases hc; exact rw'
  | _=>cases hc
 subst ec
 have fin:∀ tk,EP X pins σ Q (.bool b) { s with toks:=tk }:=fun tk=>⟨.bl b,H,I.tok tk,rfl,q⟩
 cases ty with
 | @dct a y =>
  cases (show u=Value.ref a from ru)
  exact kia_one kitx_dict I.kIn (I.hok a _ y).1 e (fun z=>nomatch z) fin
 | of y=>exact Ll I ru y e fin
 | @exc a C y c =>
  cases (show u=Value.ref a from ru)
  exact kia_one (MG c) I.kIn (I.hok a _ y).1 e (fun z=>nomatch z) fin
theorem ObjOk.there {P:Program} {w:World} {H:Hp} {h:Heap} {a:Addr} {o:HO} (x:ObjOk P w H h a o):∃ ob,h.get? a=some ob:=by
 induction o with
 | lst xs=>obtain ⟨_,_,_,_,e⟩:=x; exact ⟨_,e⟩
 | tup xs=>obtain ⟨_,_,_,ob,e,_⟩:=x; exact ⟨_,e⟩
 | dK kvs=>obtain ⟨_,_,_,_,ob,_,_,e,_⟩:=x; exact ⟨_,e⟩
 | dT kvs=>obtain ⟨_,_,_,_,ob,_,_,e,_⟩:=x; exact ⟨_,e⟩
 | set S n=>obtain ⟨ob,_,_,_,e,_⟩:=x; exact ⟨_,e⟩
 | ins C dx fs=>obtain ⟨_,_,_,e,_⟩:=x; exact ⟨_,e⟩
 | own y=>exact x
 | xd fs=>obtain ⟨_,⟨od,_,_,e,_⟩,_⟩:=x; exact ⟨_,e⟩
 | rng lo hi=>obtain ⟨_,_,_,e⟩:=x; exact ⟨_,e⟩
 | frz ob u _=>exact ⟨_,x.1⟩
 | tbl ps=>exact ⟨_,x⟩
 | met f y=>exact ⟨_,x⟩
 | ext φ=>exact x.2.1
theorem HOk.hide {P:Program} {w:World} {H:Hp} {h:Heap} (x:HOk P w H h) {fs:List Addr} (hf:∀ b ∈ fs,H b=none):HOk P w H (hideAll h fs):=fun a o e =>
 (x a o e).stay (fun b u hb q=>hideAll_get _ q fun z=>by
  have n:=hf b z
  rcases hb with rfl | hb
  ·rw [n] at e; cases e
  ·rw [n] at hb; cases hb) (fun _ q=>q) fun _ _ q=>q
noncomputable def CXe (P:Program) (w:World):CXT:=fun outer H s E ev s'=>∃ (e:Addr) (cls a0:Value) (H':Hp) (B:Heap),ev=.ref e/\s'.os=s.os/\AllBare s'.gens/\Heap.FlyingW B outer e cls a0 s'.heap/\HOk P w H' B/\H' e=none /\
 (∀ b o,s.heap.get? b=some o->H b=none->b ∉ frs outer->B.get? b=some o)/\(∀ b o,s.heap.get? b=some o->H b=none->b ∈ frs outer->∃ sl,s'.heap.get? b=some { o with slots:=sl }) /\
 (∀ b o,s.heap.get? b=some o->H b=none->H' b=none)/\(∀ b o,s.heap.get? b=some o->b ∉ frs outer->∃ o',B.get? b=some o') /\
 (∀ b xs,H b=some (.tup xs)->H' b=some (.tup xs))/\(∀ b o u,H b=some (.frz o u)->H' b=some (.frz o u))/\(∀ b ps,H b=some (.tbl ps)->∃ more,H' b=some (.tbl (ps ++ more)))/\E cls none H'
noncomputable def Kn (X:Cx) (E:XK):Prop:=∀ (pins:List (Addr × Obj)) (σ:St) (H:Hp) (s:Shared) (h':Heap) (e C:Addr) (vs:List Value),Inv X pins σ H s->Heap.MadeExcOf s.heap h' e (.ref C) vs->E (.ref C) none H->X.xe (.ref e) { s with heap:=h' }
section
variable {P:Program} {w:World} {K:Frag} {mg:Str->Option Value} {base:Heap} {N:List Str} {qual:Str} {scope:Scope} {f:Addr} {cd:Value} {A:Around} {outer:List Env} {s₀:Shared} {H₀:Hp} {E E':XK}
theorem MI (hE:∀ c d H,E c d H->E' c d H):Kn (BC (CXe P w) P w K mg base N qual scope f cd A outer s₀ H₀ E') E:=by
 intro pins σ H s h' e C vs I hx he
 show wpAny _ _ (leaving _ (.ref e)) _ _ _
 have hfr:∀ env ∈ (BC (CXe P w) P w K mg base N qual scope f cd A outer s₀ H₀ E').stack,∀ b,env.frame=some b->b ∈ frs (BC (CXe P w) P w K mg base N qual scope f cd A outer s₀ H₀ E').stack:=fun env h b hb=>aaI.mpr ⟨env,h,hb⟩
 have hB:=I.hok.hide I.stkFree
 have hff:=funFrames_hide I.stack hfr
 have en:H e=none:=by
  cases q:H e with
  | none=>rfl
  | some o=>obtain ⟨ob,z⟩:=(I.hok e o q).there; rw [hx.new] at z; cases z
 refine wpAny_leaves_madeW (base:=hideAll s.heap (frs (BC (CXe P w) P w K mg base N qual scope f cd A outer s₀ H₀ E').stack)) I.ok.frames rfl (fun b o q=>of_hideAll _ q) hff hx fun h2 t fl _ _ up=>?_
 have sub:∀ b ∈ frs outer,b ∈ frs (BC (CXe P w) P w K mg base N qual scope f cd A outer s₀ H₀ E').stack:=fun b hb=>by
  obtain ⟨env,h1,h2⟩:=aaI.mp hb
  exact aaI.mpr ⟨env,aab _ h1,h2⟩
 have nloc:∀ b o,s₀.heap.get? b=some o->b ≠ s₀.heap.objs.size:=fun b o q z=>by
  have:=Heap.lt_size q
  exact aaM _ (z ▸ this)
 have nfr:∀ b o,s₀.heap.get? b=some o->b ∉ frs outer->b ∉ frs (BC (CXe P w) P w K mg base N qual scope f cd A outer s₀ H₀ E').stack:=fun b o q hb z=>by
  obtain ⟨env,h1,h2⟩:=aaI.mp z
  rcases aaj.mp h1 with rfl | h1
  ·exact nloc b o q (Option.some.inj h2).symm
  ·exact hb (aaI.mpr ⟨env,h1,h2⟩)
 have nx:∀ b:Addr,b ∉ (BC (CXe P w) P w K mg base N qual scope f cd A outer s₀ H₀ E').ex:=fun b z=>absurd (show b ∈ ([]:List Addr) from z) (by simp)
 refine ⟨e,.ref C,.ref t,H,_,rfl,I.os,I.bare,fl,hB,en,fun b o q n hb=>hideAll_get _ (I.base.keep b o q n hb (nx b)) (nfr b o q hb),fun b o q n hb=>?_,fun b o q n=>I.base.free b o q n (nx b),fun b o q hb=>?_,I.base.tups,I.base.frzs,I.base.tbls,hE _ _ _ he⟩
 ·obtain ⟨sl,e1⟩:=I.base.slot b o q n hb (nx b)
  obtain ⟨⟨hn,o2,ho2,hnf⟩⟩:=And.intro (I.stack.mem (sub b hb)) trivial
  rw [e1] at ho2
  cases ho2
  obtain ⟨sl2,e2⟩:=up b _ (hx.keeps b _ e1) hnf
  exact ⟨sl2,e2⟩
 ·obtain ⟨o',e1⟩:=I.base.there b o q (nx b)
  exact ⟨o',hideAll_get _ e1 (nfr b o q hb)⟩
theorem Rn (hE:∀ c d H,E c d H->E' c d H):PQ (CXe P w) (BC (CXe P w) P w K mg base N qual scope f cd A outer s₀ H₀ E') E:=by
 intro pins σ H s ev s' I h
 obtain ⟨e,cls,a0,H',B,rfl,ho,hg,fl,hok,en,keep,slot,free,there,tups,frzs,tbls,he⟩:=h
 show wpAny _ _ (leaving _ (.ref e)) _ _ _
 refine wpAny_leaves_onW (base:=B) I.ok.frames rfl fl fun h2 fl2 up=>?_
 have sub:∀ b ∈ frs outer,b ∈ frs (BC (CXe P w) P w K mg base N qual scope f cd A outer s₀ H₀ E').stack:=fun b hb=>by
  obtain ⟨env,h1,h2⟩:=aaI.mp hb
  exact aaI.mpr ⟨env,aab _ h1,h2⟩
 have nfr:∀ b o,s₀.heap.get? b=some o->b ∉ frs outer->b ∉ frs (BC (CXe P w) P w K mg base N qual scope f cd A outer s₀ H₀ E').stack:=fun b o q hb z=>by
  obtain ⟨env,h1,h2⟩:=aaI.mp z
  rcases aaj.mp h1 with rfl | h1
  ·exact aaM _ ((Option.some.inj h2).symm ▸ Heap.lt_size q)
  ·exact hb (aaI.mpr ⟨env,h1,h2⟩)
 have nx:∀ b:Addr,b ∉ (BC (CXe P w) P w K mg base N qual scope f cd A outer s₀ H₀ E').ex:=fun b z=>absurd (show b ∈ ([]:List Addr) from z) (by simp)
 have frNF:∀ b o,s'.heap.get? b=some o->b ∈ frs (BC (CXe P w) P w K mg base N qual scope f cd A outer s₀ H₀ E').stack->∃ sl,h2.get? b=some { o with slots:=sl }:=fun b o q hb=>by
  obtain ⟨hn,o2,ho2,hnf⟩:=fl.2.2.1.mem hb
  rw [q] at ho2
  cases ho2
  exact up b _ q hnf
 refine ⟨e,cls,a0,H',B,rfl,ho.trans I.os,hg,fl2,hok,en,fun b o q n hb=>keep b o (I.base.keep b o q n hb (nx b)) (I.base.free b o q n (nx b)) (nfr b o q hb),fun b o q n hb=>?_,
  fun b o q n=>?_,fun b o q hb=>?_,fun b xs q=>tups b xs (I.base.tups b xs q),fun b o u q=>frzs b o u (I.base.frzs b o u q),fun b ps q=>?_,hE _ _ _ he⟩
 ·obtain ⟨sl,e1⟩:=I.base.slot b o q n hb (nx b)
  obtain ⟨sl1,e2⟩:=slot b _ e1 (I.base.free b o q n (nx b)) (sub b hb)
  obtain ⟨sl2,e3⟩:=frNF b _ e2 (sub b hb)
  exact ⟨sl2,e3⟩
 ·obtain ⟨o',e1⟩:=I.base.there b o q (nx b)
  exact free b o' e1 (I.base.free b o q n (nx b))
 ·obtain ⟨o',e1⟩:=I.base.there b o q (nx b)
  exact there b o' e1 (nfr b o q hb)
 ·obtain ⟨m1,e1⟩:=I.base.tbls b ps q
  obtain ⟨m2,e2⟩:=tbls b _ e1
  exact ⟨m1 ++ m2,by rw [e2,Array.append_assoc]⟩
end
section
variable {X:Cx} {C:Addr} {x:Str} {e:Expr} {es:List Expr} {t:TA} {E:XK} {np cpos pos:Pos}
abbrev G1:List Value:=[.type "ValueError",.type "Exception",.type "BaseException",.type "object"]
theorem P5 {h:Heap} (KX:X.K.In h) (G:h.Ns mainGlobals X.mg) (B:∃ mb,h.Ns builtinsNs mb/\∀ x:Str,x ≠ "__name__" -> mb x=bootBuiltins x) (L:h.NoLimit) (hm:nsIn X.K mainGlobals x=some (some (.ref C))) (hC:excIn X.K C G1 "ValueError.__new__" = true) :
  OwnCls x C G1 "ValueError.__new__" X.mg h:=by
 obtain ⟨mb,Bn,hb⟩:=B
 obtain ⟨o,es,ep,ho,hd,hs,hf⟩:=id G
 have T:TopRead default (es.toList.filterMap fun d=>match d.key with | .str n _=>some n | _=>none) X.mg mb h:=⟨G,Bn,L,hb,fun y _ hy _ _ _=>by
  rw [<- hf y]
  unfold nsFind findBy
  rw [Option.map_eq_none_iff,Array.find?_eq_none]
  intro d hm hy2
  obtain ⟨n,tk,ek⟩:=hs d hm
  rw [ek] at hy2
  have en:n=y:=by simpa [Value.isStr] using hy2
  exact hy (aaI.mpr ⟨d,by simpa using hm,by rw [ek,en]⟩)⟩
 exact own_of_in KX T hm hC
theorem MJ (hw:Kn X E) (hc:X.calm=true) (hg:Gl X x) (hn:nsIn X.K mainGlobals x=some (some (.ref C))) (hC:excIn X.K C G1 "ValueError.__new__" = true) (ha:PA X (e :: es) t) (hd:(x==("__debug__" : Str))=false:=by decide)
  (he:starEach (e :: es) X.env=(false,eval e X.env) :: starEach es X.env:=by rfl) (hpl:(backTo cpos (starEach es X.env)).any (·.1)=false:=by rfl) :
  PS X (.Raise (some (.Call (.Name x np) (e :: es) [] cpos)) none pos) (fun D σ H=>t σ H fun vs H1=>vs.length<=sizeLine/\E (.ref C) none H1):=by
 intro pins s σ H D I h
 have O:=P5 (X:=X) I.mod.kin I.mod.glob I.mod.blt I.mod.nolimit hn hC
 obtain ⟨bm,N',nm,q,bs,hdct,sn,sub,ab,col,dd,k0,k1,k2,k3,k5,mN,hCo,hN,hni,T⟩:=O.obj
 refine wpAny_Raise_call_subT (nm:=nm) (q:=q) (N:=N') (bs:=bs) (bm:=bm) (hdct:=hdct) (sn:=sn) (sub:=sub) (ab:=ab) (col:=col) (dd:=dd) (k0:=k0) (k1:=k1) (k2:=k2) (k3:=k3) (k5:=k5) PySem.F.excBase_ValueError (mN:=mN) (T.hasType rfl) (I.ok.hd hc) (by rw [he]; exact hpl) hni (GZ I hg O.bound ⟨rfl,?_⟩ hd)
 have h2:=ha cpos pins s σ H _ I h
 rw [he] at h2 ⊢
 exact Calls.evalArgs_plain (thn h2 fun us s1 ⟨vs,H1,I1,r,q⟩=>⟨rfl,r.length ▸ q.1,I1.bk _ _ hCo,hN.keeps I1.bk,T.keeps I1.bk,fun h' ex hx=>hw pins σ H1 s1 h' ex C us I1 hx q.2⟩)
end
noncomputable abbrev EXT:=St->XK
noncomputable def E2 (CX:CXT) (X:Cx) (E:EXT):Prop:=∀ (pins:List (Addr × Obj)) (σ:St) (H:Hp) (s:Shared) (e:Value) (s':Shared),Inv X pins σ H s->CX X.stack H s (E σ) e s'->X.xe e s'
noncomputable def Lv (sp:Sp) (dvs:List V) (E:EXT) (t:TA):TE:=fun σ H Q=>t σ H fun vs H1=>sp (vs ++ dvs) H1 Q (E σ)
section
variable {X:Cx} {CX:CXT} {k:Nat} {f:Addr} {fd:FuncData} {ps:List Str} {sp:Sp} {dvs:List V} {ds:List Value} {E:EXT} {x:Str} {p pos:Pos} {e:Expr} {es:List Expr} {t:TA}
theorem MK (F:FnOk X.prog X.w X.K X.mg X.base CX k f fd ps sp) (hr:Room k X.A) (hg:Gl X x) (hm:X.mg x=some (.ref f)) (hk:PySem.W.keepIn X.K (.ref f)=true) (hb:Binds X.K fd ps ds) (hd:Vals dvs ds) (hx:E2 CX X E)
  (ha:PA X (e :: es) t) (hdb:(x==("__debug__" : Str))=false:=by decide) (he:starEach (e :: es) X.env=(false,eval e X.env) :: starEach es X.env:=by rfl) (hpl:(backTo pos (starEach es X.env)).any (·.1)=false:=by rfl) :
  PE X (.Call (.Name x p) (e :: es) [] pos) (Lv sp dvs E t):=by
 intro pins s σ H Q I h
 refine wpAny_Call_Name_kw (GZ I hg hm ?_ hdb)
 refine PySem.W.callWith_K (h₀:=X.base) I.ok.mod.kin hk (thn (ha pos pins s σ H _ I h) fun us s1 ⟨vs,H1,I1,r,q⟩=>⟨I1.kIn,?_⟩) he hpl
 have r2:Vals (vs ++ dvs) (us ++ ds):=r.append hd
 have hl:(us ++ ds).length=ps.length:=r2.length ▸ F.len _ _ _ _ q
 refine wpAny_call (codeAny_mono (F.run X.A X.stack s1 H1 ⟨us,[]⟩ (us ++ ds) (vs ++ dvs) Q (E σ) hr I1.env0 (hb s1 us I1.kIn hl) r2 q) fun rr s' hq=>?_)
 rcases rr with ev | fl
 ·exact hx pins σ H1 s1 ev s' I1 hq
 ·cases fl with
  | ret u=>exact I1.after hq
  | next=>exact False.elim hq
  | brk=>exact False.elim hq
  | cont=>exact False.elim hq
end
noncomputable abbrev JH (ifs:List Expr) (env:Env):Sem Bool:=forIn ifs true fun c r=>if r=true then do let ok <- isTrue c env (eval c env); pure (ForInStep.yield ok) else pure (ForInStep.yield r)
section
variable {prog:Program} {w:World} {A:Around} {R:Result->Shared->Prop} {s:Shared} {elt tg iter:Expr} {ifs:List Expr} {scope:Scope} {pos:Pos} {it acc:Value} {env:Env}
theorem E3 (I:Nat->Shared->Prop)
  (turn:∀ n s,I n s->wpAny (model prog w) A (pyNext it) (fun r s1=>match r with
   | none=>R (.ok .next) s1
   | some v=>wpAny (model prog w) A (letOwnedTupleGo tg it v) (fun _ s2=>wpAny (model prog w) A (assign tg env v) (fun _ s3=>wpAny (model prog w) A (JH ifs env) (fun ok s4 =>
     if ok=true then wpAny (model prog w) A (eval elt env) (fun x s5=>wpAny (model prog w) A (call (.builtin "list.append") [acc,x]) (fun _ s6=>∃ m,m < n/\I m s6) (fun _ _=>False) s5) (fun _ _=>False) s4
     else ∃ m,m < n/\I m s4) (fun _ _=>False) s3) (fun _ _=>False) s2) (fun _ _=>False) s1) (fun _ _=>False) s) (n:Nat) (h:I n s) :
  codeAny (model prog w) A (.compLoop (.ListComp elt [⟨tg,iter,ifs,0⟩] scope pos) 0 it acc env) R s:=by
 refine codeAny_loop rfl I (fun k s' hk=>?_) n h
 show wpAny _ A ((compTurn (.ListComp elt [⟨tg,iter,ifs,0⟩] scope pos) 0 it acc env).onRaise (fun z=>do noteFrame z env; theTreesLotGoes z)) _ _ s'
 refine wpAny_noted ?_
 rw [compTurn_list]
 have no:∀ {Z:Value->Shared->Prop} (x:Value) (t:Shared),False->Z x t:=fun _ _ z=>z.elim
 refine wpAny_bind (wpAny_standAt ?_)
 refine wpAny_bind (wpAny_mono (turn k s' hk) (fun r s1 h1=>?_) no)
 rcases r with _ | v
 ·exact wpAny_pure h1
 ·refine wpAny_bind (wpAny_mono h1 (fun _ s2 h2=>?_) no)
  refine wpAny_bind (wpAny_mono h2 (fun _ s3 h3=>?_) no)
  refine wpAny_bind (wpAny_mono h3 (fun ok s4 h4=>?_) no)
  cases ok with
  | false=>exact wpAny_pure ⟨rfl,h4⟩
  | true =>
   refine wpAny_bind ?_
   refine wpAny_bind (wpAny_mono h4 (fun x s5 h5=>?_) no)
   exact wpAny_bind (wpAny_mono h5 (fun _ s6 h6=>wpAny_pure (wpAny_pure ⟨rfl,h6⟩)) no)
noncomputable def BI (env:Env) (names:List (Str × NameKind)) (cs:List (Str × Addr)):List (Str × Addr):=names.foldl (fun cs x=>if (x.2==NameKind.free)=true then (x.1,(env.cells.lookup x.1).getD 0) :: cs else cs) cs
theorem Gv {α β:Type} (f:α->β->Sem (ForInStep β)) (g:β->α->β):∀ (l:List α) (b:β),(∀ x ∈ l,∀ b,f x b=pure (ForInStep.yield (g b x)))->forIn l b f=pure (l.foldl g b)
 | [],b,_=>rfl
 | x :: l,b,h=>by
  rw [List.forIn_cons,h x (aac ..) b,abJ]
  exact Gv f g l (g b x) fun y hy=>h y (aab _ hy)
theorem Gw (h:∀ x ∈ scope.names,x.2=.free->(env.cells.lookup x.1).isSome=true):closureFor scope env=pure (BI env scope.names []):=by
 unfold closureFor BI
 dsimp only
 rw [Gv _ (fun cs x=>if (x.2==NameKind.free)=true then (x.1,(env.cells.lookup x.1).getD 0) :: cs else cs)]
 ·rfl
 ·rintro ⟨n,k⟩ hx cs
  by_cases hk:(k==NameKind.free)=true
  ·obtain ⟨c,hc⟩:=aav.mp (h (n,k) hx (beq_iff_eq.mp hk))
   have hc':List.lookup n env.cells=some c:=hc
   dsimp only
   rw [if_pos hk,if_pos hk]
   unfold cellOf
   rw [hc']
   rfl
  ·dsimp only
   rw [if_neg hk,if_neg hk]
theorem AW (h:∀ x ∈ scope.names,x.2=.free->(env.cells.lookup x.1).isSome=true) {x:Str} {c:Addr} (e:(BI env scope.names []).lookup x=some c):env.cells.lookup x=some c:=by
 have gen:∀ (l:List (Str × NameKind)) (cs:List (Str × Addr)),(∀ y ∈ l,y.2=.free->(env.cells.lookup y.1).isSome=true)->(∀ p ∈ cs,env.cells.lookup p.1=some p.2)->∀ p ∈ BI env l cs,env.cells.lookup p.1=some p.2:=by
  intro l
  induction l with
  | nil=>intro cs _ hc; exact hc
  | cons y l ih =>
   intro cs hl hc
   unfold BI
   rw [abJ]
   refine ih _ (fun z hz=>hl z (aab _ hz)) fun p hp=>?_
   split at hp
   ·rename_i hk
    rcases aaj.mp hp with rfl | hp
    ·obtain ⟨c',hc'⟩:=aav.mp (hl y (aac ..) (beq_iff_eq.mp hk))
     show env.cells.lookup y.1=some ((env.cells.lookup y.1).getD 0)
     rw [hc']; rfl
    ·exact hc p hp
   ·exact hc p hp
 exact gen scope.names [] h (fun p hp=>nomatch hp) (x,c) (PySem.mem_of_lookup e)
theorem DG {x:Str} {c:Addr} (hm:(x,NameKind.free) ∈ scope.names) (h:∀ x ∈ scope.names,x.2=.free->(env.cells.lookup x.1).isSome=true) (e:env.cells.lookup x=some c):(BI env scope.names []).lookup x=some c:=by
 have gen:∀ (l:List (Str × NameKind)) (cs:List (Str × Addr)),((x,NameKind.free) ∈ l\/∃ d,(x,d) ∈ cs)->∃ d,(x,d) ∈ BI env l cs:=by
  intro l
  induction l with
  | nil=>intro cs hc; rcases hc with z | z; cases z; exact z
  | cons y l ih =>
   intro cs hc
   unfold BI
   rw [abJ]
   refine ih _ ?_
   rcases hc with hc | ⟨d,hc⟩
   ·rcases aaj.mp hc with rfl | hc
    ·exact .inr ⟨_,by rw [if_pos (by rfl)]; exact aac ..⟩
    ·exact .inl hc
   ·refine .inr ⟨d,?_⟩
    split
    ·exact aab _ hc
    ·exact hc
 obtain ⟨d,hd⟩:=gen scope.names [] (.inl hm)
 cases q:(BI env scope.names []).lookup x with
 | none =>
  rw [List.lookup_eq_none_iff] at q
  have:=q _ hd
  simp at this
 | some c'=>exact (AW h q).symm.trans e ▸ rfl
end
structure Bk where
 (C:Addr)
 (fp:List Addr)
 (s:Shared)
 (H:Hp)
noncomputable abbrev Cx.blk (X:Cx) (scope:Scope) (C:Addr) (fp:List Addr) (N:List Str) (s:Shared) (H:Hp):Cx :=
 { X with N:=N,s₀:=s,H₀:=H,env:=compEnvC scope (BI X.env scope.names []) C X.env,outer:=X.stack,ex:=fp,fn:=fun _=>false,pn:=[],xe:=fun _ _=>False }
noncomputable def PTs (X:Cx) (ifs:List Expr) (t:TT):Prop :=
 ∀ (pins:List (Addr × Obj)) (s:Shared) (σ:St) (H:Hp) (Q:Bool->Hp->Prop),Inv X pins σ H s->t σ H Q->wpAny (model X.prog X.w) X.A (JH ifs X.env) (TP X pins σ Q) X.xe s
noncomputable def NH:TT:=fun _ H Q=>Q true H
theorem JI {X:Cx}:PTs X [] NH:=fun _ _ _ H _ I h=>wpAny_tests_nil ⟨H,I,h⟩
theorem JJ {X:Cx} {c:Expr} {t:TT} (h:PT X c t):PTs X [c] t:=fun pins s σ H Q I q=>wpAny_tests_one (h pins s σ H Q I q)
noncomputable def A8 (nl:Nat) (fr:List Nat) (σ:St):St:=aai nl none ++ fr.map fun j=>(σ[j]?).join
noncomputable def Fz (nl:Nat) (fr:List Nat) (wi:TI) (gz:Bk->TG) (tcz:Bk->TT) (tez:Bk->TE):TE:=fun σ H Q=>wi σ H fun J H1=>∀ (z:Bk) (D:Addr),H1 D=none->∃ W:Nat->Nat->List V->Hp->Prop,(∃ m,W 0 m [] (upd H1 D (.lst [])))/\∀ i m acc H2,W i m acc H2 ->
 H2 D=some (.lst acc)/\((J.stop i H2/\Q (.ref D) H2)\/(J.go i H2/\∀ x H3,J.yld i H2 x H3->gz z x (A8 nl fr σ) H3 fun σ4 H4=>tcz z σ4 H4 fun b H5 =>
  if b=true then tez z σ4 H5 fun v H6=>H6 D=some (.lst acc)/\acc.length < sizeLine/\∃ m',m' < m/\W (i + 1) m' (acc ++ [v]) (upd H6 D (.lst (acc ++ [v]))) else ∃ m',m' < m/\W (i + 1) m' acc H5))
theorem JK {X:Cx} {elt tg iter:Expr} {ifs:List Expr} {scope:Scope} {pos:Pos} {wi:TI} {gz:Bk->TG} {tcz:Bk->TT} {tez:Bk->TE} (loc:List Str) (fr:List Nat) (frn:List Str) (hc:X.calm=true) (hi:PI X tg iter wi)
  (hfr:∀ (j:Nat) (k:Nat) (x:Str),fr[j]?=some k->frn[j]?=some x->X.N[k]?=some x/\X.env.kindOf x=some .cell/\(x,NameKind.free) ∈ scope.names) (hln:frn.length=fr.length)
  (hcell:∀ y ∈ scope.names,y.2 ≠ .cell) (hkind:scope.kind=.function) (hnames:∀ y ∈ scope.names,y.2=.local->scope.names.lookup y.1=some .local) (hfree:∀ y ∈ scope.names,y.2=.free->X.env.kindOf y.1=some .cell)
  (hkin:∀ (x:Str),x ∈ frn->(relabel scope X.env).names.lookup x=some .cell) (hsc:X.env.scope.kind=.function)
  (hgk:∀ (z:Bk) (v:V) (σ:St) (H:Hp) (Q:St->Hp->Prop),gz z v σ H Q->gz z v σ H fun σ' H'=>Q σ' H'/\σ'.length=σ.length/\∀ i,loc.length<=i->σ'[i]?=σ[i]?)
  (hblk:∀ (z:Bk),PG (X.blk scope z.C z.fp (loc ++ frn) z.s z.H) tg (gz z)/\PTs (X.blk scope z.C z.fp (loc ++ frn) z.s z.H) ifs (tcz z)/\PE (X.blk scope z.C z.fp (loc ++ frn) z.s z.H) elt (tez z))
  (hs:∀ x,foldedSetIterable iter X.env x=pure x:=by intro _; rfl):PE X (.ListComp elt [⟨tg,iter,ifs,0⟩] scope pos) (Fz loc.length fr wi gz tcz tez):=by
 intro pins s σ H Q I h
 have hcs:∀ x ∈ scope.names,x.2=.free->(X.env.cells.lookup x.1).isSome=true:=fun x hx hf=>by
  obtain ⟨c,e⟩:=I.ok.has x.1 (.inl (hfree x hx hf))
  rw [e]; rfl
 rw [eval_ListComp]
 refine wpAny_comprehension_free (use:=none) rfl hs (Gw hcs) hkind hnames (thn (hi pins s σ H _ I h) fun v s1 h1=>thn h1 fun itv s2 h2=>?_)
 obtain ⟨it,fp,tn,J,H2,rfl,I2,T,st2,f2,q2⟩:=h2
 refine wpAny_newList (items:=[]) ?_ (by simp)
 have eD:H2 s2.heap.objs.size=none:=I2.hok.fresh (aan _)
 have pk:∀ (o:Obj) b u,s2.heap.get? b=some u->(s2.heap.push o).get? b=some u:=fun o b u e=>Heap.get?_push_of_some _ e
 have I3:=I2.laid (a:=s2.heap.objs.size) (o:=.lst []) (t':=s2.toks) (h':=s2.heap.push { cls:=.type "list",data:=.seq ([]:List Value).toArray }) (pk _) (aan _)
  ⟨aas _,[],0,.nil,Heap.get?_push_size _ rfl⟩
 generalize hs3:(⟨s2.heap.push { cls:=.type "list",data:=.seq ([]:List Value).toArray },s2.gens,s2.drawn,s2.toks,s2.os⟩:Shared)=s3 at I3 ⊢
 have k3:∀ b u,s2.heap.get? b=some u->s3.heap.get? b=some u:=fun b u e=>by rw [<- hs3]; exact pk _ b u e
 have tk3:s3.os=s2.os/\s3.gens=s2.gens:=by rw [<- hs3]; exact ⟨rfl,rfl⟩
 have z3:s3.heap.objs.size=s2.heap.objs.size + 1:=by rw [<- hs3]; exact Heap.size_push ..
 refine wpAny_newFunctionEnv hcell (by intro y hy; simp at hy) (fun h4 hns hsb=>?_) hkind
 have k4:∀ b u,s3.heap.get? b=some u->h4.get? b=some u:=fun b u e=>hsb.extBut b u (aaD (Heap.lt_size e)) (Heap.get?_push_of_some _ e)
 have fpl:∀ b ∈ fp,b < s2.heap.objs.size:=fun b hb=>by
  obtain ⟨o,e,_⟩:=T.obj 0 _ st2 b hb
  exact Heap.lt_size e
 obtain ⟨W,⟨m0,w0⟩,turn⟩:=q2 ⟨s3.heap.objs.size,fp,s3,upd H2 s2.heap.objs.size (.lst [])⟩ _ eD
 have ok4:(X.blk scope s3.heap.objs.size fp (loc ++ frn) s3 (upd H2 s2.heap.objs.size (.lst []))).Ok:=by
  refine ⟨I.ok.mod,hkind,I.ok.glob,I.ok.blt,aan _,fun x y c e1 e2=>I.ok.inj x y c (AW hcs e1) (AW hcs e2),fun x hx=>?_,fun x c z=>(nomatch z),I.ok.hd,I.ok.frames,.inl rfl,fun b hb=>⟨?_,fun x c e=>(f2 b hb).2.2.2.2.1 x c (AW hcs e)⟩,I3.bs,aaJ I.ok.bsz I3.sz,
   fun b o e hb=>?_,fun b hb z=>?_,I3.stack,I3.stkFree⟩
  ·have hm:(x,NameKind.free) ∈ scope.names:=by
    have:∃ k',(k'=NameKind.cell\/k'=NameKind.free)/\(relabel scope X.env).names.lookup x=some k':=by
     rcases hx with z | z
     ·exact ⟨_,.inl rfl,z⟩
     ·exact ⟨_,.inr rfl,z⟩
    obtain ⟨k',hk',z⟩:=this
    have zm:=PySem.mem_of_lookup z
    unfold relabel at zm
    obtain ⟨⟨n,k⟩,hn,e⟩:=aaW.mp zm
    dsimp only at e
    split at e
    ·rename_i hk
     cases e
     have:k=NameKind.free:=by
      cases k <;> first | rfl | (simp at hk)
     rw [<- this]; exact hn
    ·cases e
     rcases hk' with rfl | rfl
     ·exact absurd rfl (hcell _ hn)
     ·exact hn
   obtain ⟨c,e⟩:=I.ok.has x (.inl (hfree _ hm rfl))
   exact ⟨c,DG hm hcs e⟩
  ·have:=fpl b hb
   exact aaD (by rw [z3]; exact Nat.lt_succ_of_lt this)
  ·rcases (f2 b hb).2.2.2.1 with z | z
   ·exact I.ok.noex b o e z
   ·exact absurd (aaw (Heap.lt_size (I.ok.bs b o e).1) z) (aaM _)
  ·have:=I2.stkSub b z
   rcases aaj.mp this with rfl | y
   ·exact (f2 _ hb).2.1 rfl
   ·exact (f2 b hb).2.2.1 y
 have I4:Inv (X.blk scope s3.heap.objs.size fp (loc ++ frn) s3 (upd H2 s2.heap.objs.size (.lst []))) [] (A8 loc.length fr σ) (upd H2 s2.heap.objs.size (.lst [])) { s3 with heap:=h4,toks:=s3.toks + ([]:List (Str × Value)).length }:=by
  refine ⟨ok4,rfl,I3.bare,Un.kept k4,⟨_,hns,fun i x v e1 e2 e3=>?_⟩,fun x c e=>?_,I3.hok.fresh (aan _),fun x c e=>I3.freeC x c (AW hcs e),fun p hp=>(nomatch hp),I3.hok.kept k4,?_⟩
  ·unfold A8 at e2
   by_cases hi:i < loc.length
   ·rw [aaG (by simpa using hi),aaL] at e2
    split at e2 <;> cases e2
   ·rw [aax (by simpa using hi),aaY,aao] at e2
    have e1':frn[i - loc.length]?=some x:=by
     have:(loc ++ frn)[i]?=some x:=e1
     rw [aax (aaZ hi)] at this
     exact this
    cases ek:fr[i - loc.length]? with
    | none=>rw [ek] at e2; cases e2
    | some k =>
     rw [ek] at e2
     have e2':(σ[k]?).join=some v:=Option.some.inj e2
     have e2'':σ[k]?=some (some v):=by
      cases q:σ[k]? with
      | none=>rw [q] at e2'; cases e2'
      | some y=>rw [q] at e2'; exact congrArg some e2'
     obtain ⟨n1,n2,n3⟩:=hfr _ k x ek e1'
     obtain ⟨m,_,hl⟩:=I3.loc
     obtain ⟨u,ru,lk⟩:=hl k x v n1 e2'' (.inr (.inl n2))
     refine ⟨u,ru,.inr ⟨.inl (hkin x (aae e1')),?_⟩⟩
     rcases lk with ⟨z,_⟩ | ⟨_,c,ec,ic⟩
     ·rw [n2] at z; cases z
     ·obtain ⟨o,ho,hd⟩:=ic
      exact ⟨c,DG n3 hcs ec,o,k4 _ _ ho,hd⟩
  ·obtain ⟨v,o,ho,hd⟩:=I3.cell x c (AW hcs e)
   exact ⟨v,o,k4 _ _ ho,hd⟩
  ·unfold A8
   show _=(loc ++ frn).length
   rw [aar,aar,aaY,aaa,hln]
 have stat:∀ {H':Hp},(∀ b ∈ fp,H' b=none)->∀ b ∈ fp,EW (X.blk scope s3.heap.objs.size fp (loc ++ frn) s3 (upd H2 s2.heap.objs.size (.lst []))) [] H' b:=fun hn b hb =>
  ⟨hn b hb,(ok4.exf b hb).1,ok4.exfs b hb,.inl hb,(ok4.exf b hb).2,fun p hp=>(nomatch hp)⟩
 have fp3:∀ b ∈ fp,(upd H2 s2.heap.objs.size (.lst [])) b=none:=fun b hb=>by
  rw [Aj (aaD (fpl b hb))]; exact (f2 b hb).1
 obtain ⟨pg,pt,pe⟩:=hblk ⟨s3.heap.objs.size,fp,s3,upd H2 s2.heap.objs.size (.lst [])⟩
 have st4:tn 0 h4:=T.keep 0 _ _ st2 fun b _ o e=>k4 b o (k3 b o e)
 have after:∀ {i:Nat} {H':Hp} {s':Shared} {acc:List V} {σ':St},Inv (X.blk scope s3.heap.objs.size fp (loc ++ frn) s3 (upd H2 s2.heap.objs.size (.lst []))) [] σ' H' s'->Q (.ref s2.heap.objs.size) H' ->
   compPost (model X.prog X.w) X.A X.xe none (EP X pins σ Q) (.ref s2.heap.objs.size) s3.heap.objs.size (.ok .next) s':=by
  intro i H' s' acc σ' I5 q
  obtain ⟨m,hn,_⟩:=I5.loc
  refine ⟨m,hn,fun h' hb=>?_⟩
  have same:∀ b o,s3.heap.get? b=some o->h'.get? b=s'.heap.get? b:=fun b o e=>hb.2 b (aaD (Heap.lt_size e))
  have u:=I5.base
  have un:Un (frs X.stack) fp (upd H2 s2.heap.objs.size (.lst [])) H' s3.heap h':=⟨fun b o e n h1 h2=>(same b o e).trans (u.keep b o e n h1 h2),fun b o e n h1 h2=>by
    obtain ⟨sl,z⟩:=u.slot b o e n h1 h2
    exact ⟨sl,(same b o e).trans z⟩,u.free,fun b o e h1=>by
    obtain ⟨o',z⟩:=u.there b o e h1
    exact ⟨o',(same b o e).trans z⟩,u.tups,u.frzs,u.tbls⟩
  have hok:HOk X.prog X.w H' h':=fun b o e=>by
   have fC:H' s3.heap.objs.size=none:=I5.free
   refine (I5.hok b o e).stay (fun c w' hc z=>(hb.2 c ?_).trans z) (fun _ z=>z) fun _ _ z=>z
   rintro rfl
   rcases hc with rfl | hc
   ·rw [fC] at e; cases e
   ·rw [fC] at hc; cases hc
  exact ⟨.ref s2.heap.objs.size,H',I3.call' (s':={ s' with heap:=h' }) (ch:=fp) I5.os un hok I5.bare (fun b hb=>⟨(f2 b hb).2.2.2.1,(f2 b hb).2.1,(f2 b hb).2.2.2.2.1,(f2 b hb).2.2.2.2.2⟩),rfl,q⟩
 have loop:∀ s5:Shared,s5={ s3 with heap:=h4,toks:=s3.toks + ([]:List (Str × Value)).length } ->
   codeAny (model X.prog X.w) X.A (.compLoop (.ListComp elt [⟨tg,iter,ifs,0⟩] scope pos) 0 (.ref it) (.ref s2.heap.objs.size) (compEnvC scope (BI X.env scope.names []) s3.heap.objs.size X.env))
    (compPost (model X.prog X.w) X.A X.xe none (EP X pins σ Q) (.ref s2.heap.objs.size) s3.heap.objs.size) s5:=by
  rintro s5 rfl
  refine E3 (fun n s'=>∃ i acc H',Inv (X.blk scope s3.heap.objs.size fp (loc ++ frn) s3 (upd H2 s2.heap.objs.size (.lst []))) [] (A8 loc.length fr σ) H' s'/\tn i s'.heap/\(∀ b ∈ fp,H' b=none)/\W i n acc H') ?_ m0
   ⟨0,[],_,I4,st4,fp3,w0⟩
  rintro n s6 ⟨i,acc,H6,I6,st6,fr6,w6⟩
  obtain ⟨hD,alt⟩:=turn i n acc H6 w6
  rcases alt with ⟨stop,q⟩ | ⟨go,step⟩
  ·refine thn (T.done (X.blk scope s3.heap.objs.size fp (loc ++ frn) s3 (upd H2 s2.heap.objs.size (.lst []))) rfl rfl rfl hc i [] s6 _ H6 (fun _ _=>False) I6 (stat fr6) st6 stop) fun r s7 ⟨hr,I7⟩=>?_
   subst hr
   exact after (i:=i) (acc:=acc) I7 q
  ·refine thn (T.item (X.blk scope s3.heap.objs.size fp (loc ++ frn) s3 (upd H2 s2.heap.objs.size (.lst []))) rfl rfl rfl hc i [] s6 _ H6 (fun _ _=>False) I6 (stat fr6) st6 go) fun r s7 ⟨u,hr,h7⟩=>?_
   subst hr
   refine thn h7 fun _ s8 ⟨x,H8,I8,r8,y8,st8,fr8⟩=>?_
   have I8':=I8.pinned (stat fr8) (T.obj _ _ st8)
   have back:∀ {σ9:St} {H9:Hp} {s9:Shared},Inv (X.blk scope s3.heap.objs.size fp (loc ++ frn) s3 (upd H2 s2.heap.objs.size (.lst []))) ([] ++ Ey fp s8.heap) σ9 H9 s9->σ9.length=(A8 loc.length fr σ).length->(∀ i,loc.length<=i->σ9[i]?=(A8 loc.length fr σ)[i]?) ->
     Inv (X.blk scope s3.heap.objs.size fp (loc ++ frn) s3 (upd H2 s2.heap.objs.size (.lst []))) [] (A8 loc.length fr σ) H9 s9/\tn (i + 1) s9.heap/\(∀ b ∈ fp,H9 b=none):=by
    intro σ9 H9 s9 I9 hl hk
    refine ⟨(I9.unpinned).weak hl.symm fun j v ej=>?_,T.keep _ _ _ st8 fun b hb o e=>(I9.pin (b,o) (aah _ (aah _ (B9 hb e)))).1,fun b hb=>?_⟩
    ·by_cases hj:j < loc.length
     ·unfold A8 at ej
      rw [aaG (by simpa using hj),aaL] at ej
      split at ej <;> cases ej
     ·rw [hk j (aaZ hj)]; exact ej
    ·obtain ⟨o,e,d⟩:=T.obj _ _ st8 b hb
     exact (I9.pin (b,o) (aah _ (aah _ (B9 hb e)))).2.1
   refine thn (pg _ s8 _ H8 x u _ I8' r8 (hgk _ _ _ _ _ (step x H8 y8))) fun _ s9 ⟨σ9,H9,I9,q9,l9,k9⟩=>?_
   refine thn (pt _ s9 σ9 H9 _ I9 q9) fun ok s10 ⟨H10,I10,q10⟩=>?_
   cases ok with
   | false =>
    rw [if_neg (by decide)] at q10 ⊢
    obtain ⟨m',hm,w'⟩:=q10
    obtain ⟨b1,b2,b3⟩:=back I10 l9 k9
    exact ⟨m',hm,i + 1,acc,H10,b1,b2,b3,w'⟩
   | true =>
    rw [if_pos rfl] at q10 ⊢
    refine thn (pe _ s10 σ9 H10 _ I10 q10) fun y s11 ⟨v,H11,I11,r11,hD11,hz,m',hm,w'⟩=>?_
    refine thn (Ef _ s11 σ9 H11 (.ref s2.heap.objs.size) [v] (.ref s2.heap.objs.size) [y] (fun _ H12=>W (i + 1) m' (acc ++ [v]) H12) I11 rfl (.cons r11 .nil) ⟨_,acc,v,rfl,rfl,hD11,hz,w'⟩) fun _ s12 ⟨_,H12,I12,_,w12⟩=>?_
    obtain ⟨b1,b2,b3⟩:=back I12 l9 k9
    exact ⟨m',hm,i + 1,_,H12,b1,b2,b3,w12⟩
 exact codeAny_compStart_list (loop _ rfl) (T.self X.A 0 _ _ _ st4 (loop _ rfl))
mutual
inductive RD (K:Frag) (H:Hp):V->PyData->Prop where
 | non:RD K H .non .none
 | bl (b:Bool):RD K H (.bl b) (.bool b)
 | int (i:Int):RD K H (.int i) (.int i)
 | str (x:Str):RD K H (.str x) (.str x)
 | lst {a:Addr} {xs:List V} {ds:List PyData} (h:SqL K H a xs) (r:RDs K H xs ds):RD K H (.ref a) (.list ds)
 | tup {a:Addr} {xs:List V} {ds:List PyData} (h:SqT K H a xs) (r:RDs K H xs ds):RD K H (.ref a) (.tuple ds)
inductive RDs (K:Frag) (H:Hp):List V->List PyData->Prop where
 | nil:RDs K H [] []
 | cons {x:V} {xs:List V} {d:PyData} {ds:List PyData} (h:RD K H x d) (r:RDs K H xs ds):RDs K H (x :: xs) (d :: ds)
end
section
variable {X:Cx} {pins:List (Addr × Obj)} {σ:St} {H:Hp} {s:Shared}
mutual
theorem RD.reads (I:Inv X pins σ H s):∀ {v:V} {d:PyData} {u:Value},RD X.K H v d->RelV v u->∃ as,Reads s.heap u d as
 | _,_,_,.non,r=>by cases (show _=Value.none from r); exact ⟨_,.none⟩
 | _,_,_,.bl b,r=>by cases (show _=Value.bool b from r); exact ⟨_,.bool b⟩
 | _,_,_,.int i,r=>by obtain ⟨t,q⟩:=(show ∃ t,_=Value.int i t from r); cases q; exact ⟨_,.int i t⟩
 | _,_,_,.str x,r=>by obtain ⟨t,q⟩:=(show ∃ t,_=Value.str x t from r); cases q; exact ⟨_,.str x t⟩
 | _,_,_,.lst (a:=a) h rs,r=>by
  cases (show _=Value.ref a from r)
  obtain ⟨its,rv,⟨o,n,hp,hc,_,hd⟩,_⟩:=I.list h
  obtain ⟨as,ra⟩:=RDs.reads I rs rv
  exact ⟨_,reads_list_at hp hc hd (by simpa using ra)⟩
 | _,_,_,.tup (a:=a) h rs,r=>by
  cases (show _=Value.ref a from r)
  obtain ⟨its,rv,⟨o,h1,h2,n,h3⟩,_⟩:=I.tuple h
  obtain ⟨as,ra⟩:=RDs.reads I rs rv
  exact ⟨_,reads_tuple_at h1 h2 h3 (by simpa using ra)⟩
theorem RDs.reads (I:Inv X pins σ H s):∀ {xs:List V} {ds:List PyData} {us:List Value},RDs X.K H xs ds->Vals xs us->∃ as,ReadsAll s.heap us ds as
 | _,_,_,.nil,.nil=>⟨_,.nil⟩
 | _,_,_,.cons h r,.cons q t=>by
  obtain ⟨as,e1⟩:=RD.reads I h q
  obtain ⟨bs,e2⟩:=RDs.reads I r t
  exact ⟨_,.cons e1 e2⟩
end
noncomputable def P6 (K:Frag) (neg:Bool):R2:=fun x y H Q=>∃ d e,RD K H x d/\RD K H y e/\SeqAt.shaped d=true/\SeqAt.shaped e=true/\Q (.bl (if neg then !d.eqv e else d.eqv e)) H
theorem P7 (hu:X.A.units + 64 < cLine):OpR X (compareOp .Eq) (P6 X.K false):=by
 intro pins s σ H x y u w' Q I rx ry h
 obtain ⟨d,e,h1,h2,s1,s2,q⟩:=h
 obtain ⟨_,r1⟩:=h1.reads I rx
 obtain ⟨_,r2⟩:=h2.reads I ry
 exact eq_dataH r1 r2 s1 s2 hu ⟨.bl (d.eqv e),H,I,rfl,q⟩
theorem P8 (hu:X.A.units + 64 < cLine):OpR X (compareOp .NotEq) (P6 X.K true):=by
 intro pins s σ H x y u w' Q I rx ry h
 obtain ⟨d,e,h1,h2,s1,s2,q⟩:=h
 obtain ⟨_,r1⟩:=h1.reads I rx
 obtain ⟨_,r2⟩:=h2.reads I ry
 exact ne_dataH r1 r2 s1 s2 hu ⟨.bl (!d.eqv e),H,I,rfl,q⟩
noncomputable def Ro (K:Frag):List V->Hp->VK->Prop:=fun xs H Q=>∃ (l:Addr) (bs:List Bool),xs=[.ref l]/\SqL K H l (bs.map V.bl)/\Q (.bl (bs.all id)) H
theorem G2 (bs:List Bool):(aaE bs.length).all (fun i=>bs.getD i false)=bs.all id:=by
 induction bs with
 | nil=>rfl
 | cons b r ih =>
  rw [aaV,List.range_succ_eq_map,aaA,aaA,List.all_map,<- ih]
  rfl
theorem Lx (hc:X.calm=true):CB X (.builtin "all") (Ro X.K):=by
 intro pins s σ H xs us Q I r h
 obtain ⟨l,bs,rfl,hS,q⟩:=h
 obtain ⟨u,rfl,ru⟩:=EM r
 cases (show u=Value.ref l from ru)
 obtain ⟨its,rr,p,_⟩:=I.list hS
 have hl:its.length=bs.length:=by rw [<- rr.length,aaa]
 refine call_all_walk (wpAny_pyIter_list p.isList ?_)
 have hne:l ≠ s.heap.objs.size:=(by obtain ⟨_,e,_⟩:=p.isList; exact aaD (Heap.lt_size e))
 refine ⟨_,_,_,_,_,_,fun i=>bs.getD i false,rfl,Walks.list (A:=X.A.in1) (I.ok.hd hc) s.heap.objs.size l hne its.toArray,?_,?_,?_⟩
 ·exact ⟨⟨_,Heap.get?_push_size _ rfl,rfl,rfl⟩,p.isList.push _⟩
 ·intro i v s' Q' E' hP hQ'
  have hv:v=Value.bool (bs.getD i false):=by
   have hP':its[i]?=some v:=by simpa using hP
   have hi:i < its.length:=(aaq.mp hP').1
   have hx:(bs.map V.bl)[i]?=some (V.bl (bs.getD i false)):=by
    rw [aao,aaB,aal (by omega)]
    rfl
   obtain ⟨u,e1,e2⟩:=rr.get hx
   rw [hP'] at e1
   cases e1
   exact e2
  subst hv
  exact wpAny_pure hQ'
 ·intro h' tk hk
  have e:(aaE its.toArray.size).all (fun i=>bs.getD i false)=bs.all id:=by rw [aag,hl,G2]
  rw [e]
  exact ⟨.bl _,H,I.kept (h':=h') (t':=tk) (fun b o e=>hk b o (fun hm=>by
   have hm':b=s.heap.objs.size:=by simpa using hm
   exact aaM _ (hm' ▸ Heap.lt_size e)) (Heap.get?_push_of_some _ e)),rfl,q⟩
end
section
variable {P:Program} {w:World} {K:Frag} {mg:Str->Option Value} {base:Heap}
theorem Fun.okX {x qual:Str} {st:Stmt} {f:Addr} {fd:FuncData} {N ps:List Str} {k:Nat} {sp:Sp} (F:Fun K x qual st f fd) (S:FnScope N ps (Ag st)) (len:∀ vs H Q E,sp vs H Q E->vs.length=ps.length)
  (hbody:∀ (f:Addr) (cdv:Value) (A:Around) (outer:List Env) (s:Shared) (H:Hp) (vs:List V) (Q:VK) (E:XK),Room k (A.deeper (envOfC qual (Ag st) s.heap.objs.size f cdv))->sp vs H Q E ->
   ∃ t,PSs (BC (CXe P w) P w K mg base N qual (Ag st) f cdv A outer s H E) (AL st) t/\t { nx:=fun _ H'=>Q .non H',rt:=Q } (AG N vs) H):FnOk P w K mg base (CXe P w) (k + 1) f fd ps sp:=by
 obtain ⟨oc,od,kV,doc,pm,an,cdv,ct,osl,rfl,lk,hcd⟩:=F.ex
 exact Rl lk hcd S len fun A outer s H vs Q E hr hsp=>hbody f cdv A outer s H vs Q E hr hsp
noncomputable def Df (K:Frag) (mg:Str->Option Value) (x:Str) (st:Stmt) (ps:List Str):Prop:=∃ f fd,Fun K x x st f fd/\mg x=some (.ref f)/\Binds K fd ps []
noncomputable def Has (P:Program) (w:World) (K:Frag) (mg:Str->Option Value) (base:Heap) (x:Str) (k:Nat) (ps:List Str) (sp:Sp):Prop :=
 ∃ f fd,FnOk P w K mg base (CXe P w) k f fd ps sp/\mg x=some (.ref f)/\PySem.W.keepIn K (.ref f)=true/\Binds K fd ps []
theorem Rp {h:Heap} {x:Str} {st:Stmt} {ps:List Str} {f:Addr} {oc:Value} {od an:Option Addr} {osl:Array (Option Value)} {kV doc pm cdv ct:Value} (X:K.In h) (G:h.Ns mainGlobals mg) (a:nsIn K mainGlobals x=some (some (.ref f)))
  (l:K.lookup f=some ⟨oc,od,.func (PySem.W.fnOf x x (BM st) (AL st) (Ag st) .none kV doc pm an cdv ct),osl⟩) (c:PySem.W.codeIn K cdv x=true) (k:PySem.W.keepIn K (.ref f)=true)
  (hb:∀ (kV doc pm:Value) (an:Option Addr) (cdv ct:Value) (us:List Value),us.length=ps.length->bindArgs (PySem.W.fnOf x x (BM st) (AL st) (Ag st) .none kV doc pm an cdv ct) ⟨us,[]⟩=pure (ps.zip us)):Df K mg x st ps:=by
 have F:=Lu (st:=st) l c k
 exact ⟨f,_,F,mg_of X G a,F.binds hb⟩
end
section
variable {X:Cx} {k:Nat} {ps:List Str} {sp:Sp} {E:XK} {EX:EXT} {x:Str} {p pos:Pos} {e:Expr} {es:List Expr} {t:TA}
theorem NI (F:Has X.prog X.w X.K X.mg X.base x k ps sp) (hr:Room k X.A) (hg:Gl X x) (hx:E2 (CXe X.prog X.w) X EX) (ha:PA X (e :: es) t) (hdb:(x==("__debug__" : Str))=false:=by decide)
  (he:starEach (e :: es) X.env=(false,eval e X.env) :: starEach es X.env:=by rfl) (hpl:(backTo pos (starEach es X.env)).any (·.1)=false:=by rfl):PE X (.Call (.Name x p) (e :: es) [] pos) (Lv sp [] EX t):=by
 obtain ⟨f,fd,F,m,kp,b⟩:=F
 exact MK F hr hg m kp b .nil hx ha hdb he hpl
end
theorem Same.new {H:Hp} {p:Addr} {o:HO} (h:H p=none):Same H (upd H p o):=fun b u e=>by rw [Aj (B7 e h)]; exact e
theorem Same.tup {K:Frag} {H H':Hp} {a:Addr} {xs:List V} (e:Same H H') (h:SqT K H a xs):SqT K H' a xs:=by
 rcases h with (h | ⟨o,h⟩) | h
 ·exact .inl (.inl (e _ _ h))
 ·exact .inl (.inr ⟨o,e _ _ h⟩)
 ·exact .inr h
mutual
theorem Same.rd {K:Frag} {H H':Hp} (e:Same H H'):∀ {x:V} {d:PyData},RD K H x d->RD K H' x d
 | _,_,.non=>.non
 | _,_,.bl b=>.bl b
 | _,_,.int i=>.int i
 | _,_,.str x=>.str x
 | _,_,.lst h r=>.lst (e.seq h) (Same.rds e r)
 | _,_,.tup h r=>.tup (e.tup h) (Same.rds e r)
theorem Same.rds {K:Frag} {H H':Hp} (e:Same H H'):∀ {xs:List V} {ds:List PyData},RDs K H xs ds->RDs K H' xs ds
 | _,_,.nil=>.nil
 | _,_,.cons h r=>.cons (Same.rd e h) (Same.rds e r)
end
theorem ML {X:Cx} {use:Option (Value->Sem Unit)} {R:Value->Shared->Prop} {ipos:Pos} {pins:List (Addr × Obj)} {s:Shared} {σ:St} {H:Hp} {Q:VK} {elt tg iter:Expr} {ifs:List Expr} {scope:Scope} {pos:Pos} {wi:TI} {gz:Bk->TG} {tcz:Bk->TT} {tez:Bk->TE} (loc:List Str) (fr:List Nat) (frn:List Str) (hc:X.calm=true) (hi:PI X tg iter wi)
  (hfr:∀ (j:Nat) (k:Nat) (x:Str),fr[j]?=some k->frn[j]?=some x->X.N[k]?=some x/\X.env.kindOf x=some .cell/\(x,NameKind.free) ∈ scope.names) (hln:frn.length=fr.length)
  (hcell:∀ y ∈ scope.names,y.2 ≠ .cell) (hkind:scope.kind=.function) (hnames:∀ y ∈ scope.names,y.2=.local->scope.names.lookup y.1=some .local) (hfree:∀ y ∈ scope.names,y.2=.free->X.env.kindOf y.1=some .cell)
  (hkin:∀ (x:Str),x ∈ frn->(relabel scope X.env).names.lookup x=some .cell) (hsc:X.env.scope.kind=.function)
  (hgk:∀ (z:Bk) (v:V) (σ:St) (H:Hp) (Q:St->Hp->Prop),gz z v σ H Q->gz z v σ H fun σ' H'=>Q σ' H'/\σ'.length=σ.length/\∀ i,loc.length<=i->σ'[i]?=σ[i]?)
  (hblk:∀ (z:Bk),PG (X.blk scope z.C z.fp (loc ++ frn) z.s z.H) tg (gz z)/\PTs (X.blk scope z.C z.fp (loc ++ frn) z.s z.H) ifs (tcz z)/\PE (X.blk scope z.C z.fp (loc ++ frn) z.s z.H) elt (tez z))
  (I:Inv X pins σ H s) (h:Fz loc.length fr wi gz tcz tez σ H Q)
  (haf:∀ (D C:Addr) (H':Hp) (s':Shared) (m:Str->Option Value),s'.heap.Ns C m->(∀ h',Heap.SameBut C s'.heap h'->Inv X pins σ H' { s' with heap:=h' }) ->
   (X.s₀.heap.objs.size<=C/\C ≠ X.env.locals/\(∀ x c,X.env.cells.lookup x=some c->c ≠ C)/\(∀ p ∈ X.pn ++ pins,p.1 ≠ C)/\H' C=none/\C ∉ frs X.stack)->Q (.ref D) H'->compPost (model X.prog X.w) X.A X.xe use R (.ref D) C (.ok .next) s')
  (hs:∀ x,foldedSetIterable iter X.env x=pure x):wpAny (model X.prog X.w) X.A (comprehension (.ListComp elt [⟨tg,iter,ifs,0⟩] scope pos) scope X.env ipos (newList []) false (eval iter X.env) use) R X.xe s:=by
 have hcs:∀ x ∈ scope.names,x.2=.free->(X.env.cells.lookup x.1).isSome=true:=fun x hx hf=>by
  obtain ⟨c,e⟩:=I.ok.has x.1 (.inl (hfree x hx hf))
  rw [e]; rfl
 refine wpAny_comprehension_free rfl hs (Gw hcs) hkind hnames (thn (hi pins s σ H _ I h) fun v s1 h1=>thn h1 fun itv s2 h2=>?_)
 obtain ⟨it,fp,tn,J,H2,rfl,I2,T,st2,f2,q2⟩:=h2
 refine wpAny_newList (items:=[]) ?_ (by simp)
 have eD:H2 s2.heap.objs.size=none:=I2.hok.fresh (aan _)
 have pk:∀ (o:Obj) b u,s2.heap.get? b=some u->(s2.heap.push o).get? b=some u:=fun o b u e=>Heap.get?_push_of_some _ e
 have I3:=I2.laid (a:=s2.heap.objs.size) (o:=.lst []) (t':=s2.toks) (h':=s2.heap.push { cls:=.type "list",data:=.seq ([]:List Value).toArray }) (pk _) (aan _)
  ⟨aas _,[],0,.nil,Heap.get?_push_size _ rfl⟩
 generalize hs3:(⟨s2.heap.push { cls:=.type "list",data:=.seq ([]:List Value).toArray },s2.gens,s2.drawn,s2.toks,s2.os⟩:Shared)=s3 at I3 ⊢
 have k3:∀ b u,s2.heap.get? b=some u->s3.heap.get? b=some u:=fun b u e=>by rw [<- hs3]; exact pk _ b u e
 have tk3:s3.os=s2.os/\s3.gens=s2.gens:=by rw [<- hs3]; exact ⟨rfl,rfl⟩
 have z3:s3.heap.objs.size=s2.heap.objs.size + 1:=by rw [<- hs3]; exact Heap.size_push ..
 refine wpAny_newFunctionEnv hcell (by intro y hy; simp at hy) (fun h4 hns hsb=>?_) hkind
 have k4:∀ b u,s3.heap.get? b=some u->h4.get? b=some u:=fun b u e=>hsb.extBut b u (aaD (Heap.lt_size e)) (Heap.get?_push_of_some _ e)
 have fpl:∀ b ∈ fp,b < s2.heap.objs.size:=fun b hb=>by
  obtain ⟨o,e,_⟩:=T.obj 0 _ st2 b hb
  exact Heap.lt_size e
 obtain ⟨W,⟨m0,w0⟩,turn⟩:=q2 ⟨s3.heap.objs.size,fp,s3,upd H2 s2.heap.objs.size (.lst [])⟩ _ eD
 have ok4:(X.blk scope s3.heap.objs.size fp (loc ++ frn) s3 (upd H2 s2.heap.objs.size (.lst []))).Ok:=by
  refine ⟨I.ok.mod,hkind,I.ok.glob,I.ok.blt,aan _,fun x y c e1 e2=>I.ok.inj x y c (AW hcs e1) (AW hcs e2),fun x hx=>?_,fun x c z=>(nomatch z),I.ok.hd,I.ok.frames,.inl rfl,fun b hb=>⟨?_,fun x c e=>(f2 b hb).2.2.2.2.1 x c (AW hcs e)⟩,I3.bs,aaJ I.ok.bsz I3.sz,
   fun b o e hb=>?_,fun b hb z=>?_,I3.stack,I3.stkFree⟩
  ·have hm:(x,NameKind.free) ∈ scope.names:=by
    have:∃ k',(k'=NameKind.cell\/k'=NameKind.free)/\(relabel scope X.env).names.lookup x=some k':=by
     rcases hx with z | z
     ·exact ⟨_,.inl rfl,z⟩
     ·exact ⟨_,.inr rfl,z⟩
    obtain ⟨k',hk',z⟩:=this
    have zm:=PySem.mem_of_lookup z
    unfold relabel at zm
    obtain ⟨⟨n,k⟩,hn,e⟩:=aaW.mp zm
    dsimp only at e
    split at e
    ·rename_i hk
     cases e
     have:k=NameKind.free:=by
      cases k <;> first | rfl | (simp at hk)
     rw [<- this]; exact hn
    ·cases e
     rcases hk' with rfl | rfl
     ·exact absurd rfl (hcell _ hn)
     ·exact hn
   obtain ⟨c,e⟩:=I.ok.has x (.inl (hfree _ hm rfl))
   exact ⟨c,DG hm hcs e⟩
  ·have:=fpl b hb
   exact aaD (by rw [z3]; exact Nat.lt_succ_of_lt this)
  ·rcases (f2 b hb).2.2.2.1 with z | z
   ·exact I.ok.noex b o e z
   ·exact absurd (aaw (Heap.lt_size (I.ok.bs b o e).1) z) (aaM _)
  ·have:=I2.stkSub b z
   rcases aaj.mp this with rfl | y
   ·exact (f2 _ hb).2.1 rfl
   ·exact (f2 b hb).2.2.1 y
 have I4:Inv (X.blk scope s3.heap.objs.size fp (loc ++ frn) s3 (upd H2 s2.heap.objs.size (.lst []))) [] (A8 loc.length fr σ) (upd H2 s2.heap.objs.size (.lst [])) { s3 with heap:=h4,toks:=s3.toks + ([]:List (Str × Value)).length }:=by
  refine ⟨ok4,rfl,I3.bare,Un.kept k4,⟨_,hns,fun i x v e1 e2 e3=>?_⟩,fun x c e=>?_,I3.hok.fresh (aan _),fun x c e=>I3.freeC x c (AW hcs e),fun p hp=>(nomatch hp),I3.hok.kept k4,?_⟩
  ·unfold A8 at e2
   by_cases hi:i < loc.length
   ·rw [aaG (by simpa using hi),aaL] at e2
    split at e2 <;> cases e2
   ·rw [aax (by simpa using hi),aaY,aao] at e2
    have e1':frn[i - loc.length]?=some x:=by
     have:(loc ++ frn)[i]?=some x:=e1
     rw [aax (aaZ hi)] at this
     exact this
    cases ek:fr[i - loc.length]? with
    | none=>rw [ek] at e2; cases e2
    | some k =>
     rw [ek] at e2
     have e2':(σ[k]?).join=some v:=Option.some.inj e2
     have e2'':σ[k]?=some (some v):=by
      cases q:σ[k]? with
      | none=>rw [q] at e2'; cases e2'
      | some y=>rw [q] at e2'; exact congrArg some e2'
     obtain ⟨n1,n2,n3⟩:=hfr _ k x ek e1'
     obtain ⟨m,_,hl⟩:=I3.loc
     obtain ⟨u,ru,lk⟩:=hl k x v n1 e2'' (.inr (.inl n2))
     refine ⟨u,ru,.inr ⟨.inl (hkin x (aae e1')),?_⟩⟩
     rcases lk with ⟨z,_⟩ | ⟨_,c,ec,ic⟩
     ·rw [n2] at z; cases z
     ·obtain ⟨o,ho,hd⟩:=ic
      exact ⟨c,DG n3 hcs ec,o,k4 _ _ ho,hd⟩
  ·obtain ⟨v,o,ho,hd⟩:=I3.cell x c (AW hcs e)
   exact ⟨v,o,k4 _ _ ho,hd⟩
  ·unfold A8
   show _=(loc ++ frn).length
   rw [aar,aar,aaY,aaa,hln]
 have stat:∀ {H':Hp},(∀ b ∈ fp,H' b=none)->∀ b ∈ fp,EW (X.blk scope s3.heap.objs.size fp (loc ++ frn) s3 (upd H2 s2.heap.objs.size (.lst []))) [] H' b:=fun hn b hb =>
  ⟨hn b hb,(ok4.exf b hb).1,ok4.exfs b hb,.inl hb,(ok4.exf b hb).2,fun p hp=>(nomatch hp)⟩
 have fp3:∀ b ∈ fp,(upd H2 s2.heap.objs.size (.lst [])) b=none:=fun b hb=>by
  rw [Aj (aaD (fpl b hb))]; exact (f2 b hb).1
 obtain ⟨pg,pt,pe⟩:=hblk ⟨s3.heap.objs.size,fp,s3,upd H2 s2.heap.objs.size (.lst [])⟩
 have st4:tn 0 h4:=T.keep 0 _ _ st2 fun b _ o e=>k4 b o (k3 b o e)
 have after:∀ {i:Nat} {H':Hp} {s':Shared} {acc:List V} {σ':St},Inv (X.blk scope s3.heap.objs.size fp (loc ++ frn) s3 (upd H2 s2.heap.objs.size (.lst []))) [] σ' H' s'->Q (.ref s2.heap.objs.size) H' ->
   compPost (model X.prog X.w) X.A X.xe use R (.ref s2.heap.objs.size) s3.heap.objs.size (.ok .next) s':=by
  intro i H' s' acc σ' I5 q
  obtain ⟨m,hn,_⟩:=I5.loc
  refine haf s2.heap.objs.size s3.heap.objs.size H' s' m hn (fun h' hb=>?_) ⟨I3.sz,ace I3.lt,fun x c e z=>?_,fun p hp z=>?_,I5.free,fun z=>?_⟩ q
  ·have same:∀ b o,s3.heap.get? b=some o->h'.get? b=s'.heap.get? b:=fun b o e=>hb.2 b (aaD (Heap.lt_size e))
   have u:=I5.base
   have un:Un (frs X.stack) fp (upd H2 s2.heap.objs.size (.lst [])) H' s3.heap h':=⟨fun b o e n h1 h2=>(same b o e).trans (u.keep b o e n h1 h2),fun b o e n h1 h2=>by
     obtain ⟨sl,z⟩:=u.slot b o e n h1 h2
     exact ⟨sl,(same b o e).trans z⟩,u.free,fun b o e h1=>by
     obtain ⟨o',z⟩:=u.there b o e h1
     exact ⟨o',(same b o e).trans z⟩,u.tups,u.frzs,u.tbls⟩
   have hok:HOk X.prog X.w H' h':=fun b o e=>by
    have fC:H' s3.heap.objs.size=none:=I5.free
    refine (I5.hok b o e).stay (fun c w' hc z=>(hb.2 c ?_).trans z) (fun _ z=>z) fun _ _ z=>z
    rintro rfl
    rcases hc with rfl | hc
    ·rw [fC] at e; cases e
    ·rw [fC] at hc; cases hc
   exact I3.call' (s':={ s' with heap:=h' }) (ch:=fp) I5.os un hok I5.bare (fun b hb=>⟨(f2 b hb).2.2.2.1,(f2 b hb).2.1,(f2 b hb).2.2.2.2.1,(f2 b hb).2.2.2.2.2⟩)
  ·obtain ⟨v,hcell⟩:=I3.cell x c e
   exact absurd (z ▸ hcell.lt) (aaM _)
  ·exact absurd (z ▸ Heap.lt_size (I3.pin p hp).1) (aaM _)
  ·rcases aaj.mp (I3.stkSub _ z) with y | y
   ·exact absurd (y ▸ I3.lt) (aaM _)
   ·exact I3.nofs (aan _) y
 have loop:∀ s5:Shared,s5={ s3 with heap:=h4,toks:=s3.toks + ([]:List (Str × Value)).length } ->
   codeAny (model X.prog X.w) X.A (.compLoop (.ListComp elt [⟨tg,iter,ifs,0⟩] scope pos) 0 (.ref it) (.ref s2.heap.objs.size) (compEnvC scope (BI X.env scope.names []) s3.heap.objs.size X.env))
    (compPost (model X.prog X.w) X.A X.xe use R (.ref s2.heap.objs.size) s3.heap.objs.size) s5:=by
  rintro s5 rfl
  refine E3 (fun n s'=>∃ i acc H',Inv (X.blk scope s3.heap.objs.size fp (loc ++ frn) s3 (upd H2 s2.heap.objs.size (.lst []))) [] (A8 loc.length fr σ) H' s'/\tn i s'.heap/\(∀ b ∈ fp,H' b=none)/\W i n acc H') ?_ m0
   ⟨0,[],_,I4,st4,fp3,w0⟩
  rintro n s6 ⟨i,acc,H6,I6,st6,fr6,w6⟩
  obtain ⟨hD,alt⟩:=turn i n acc H6 w6
  rcases alt with ⟨stop,q⟩ | ⟨go,step⟩
  ·refine thn (T.done (X.blk scope s3.heap.objs.size fp (loc ++ frn) s3 (upd H2 s2.heap.objs.size (.lst []))) rfl rfl rfl hc i [] s6 _ H6 (fun _ _=>False) I6 (stat fr6) st6 stop) fun r s7 ⟨hr,I7⟩=>?_
   subst hr
   exact after (i:=i) (acc:=acc) I7 q
  ·refine thn (T.item (X.blk scope s3.heap.objs.size fp (loc ++ frn) s3 (upd H2 s2.heap.objs.size (.lst []))) rfl rfl rfl hc i [] s6 _ H6 (fun _ _=>False) I6 (stat fr6) st6 go) fun r s7 ⟨u,hr,h7⟩=>?_
   subst hr
   refine thn h7 fun _ s8 ⟨x,H8,I8,r8,y8,st8,fr8⟩=>?_
   have I8':=I8.pinned (stat fr8) (T.obj _ _ st8)
   have back:∀ {σ9:St} {H9:Hp} {s9:Shared},Inv (X.blk scope s3.heap.objs.size fp (loc ++ frn) s3 (upd H2 s2.heap.objs.size (.lst []))) ([] ++ Ey fp s8.heap) σ9 H9 s9->σ9.length=(A8 loc.length fr σ).length->(∀ i,loc.length<=i->σ9[i]?=(A8 loc.length fr σ)[i]?) ->
     Inv (X.blk scope s3.heap.objs.size fp (loc ++ frn) s3 (upd H2 s2.heap.objs.size (.lst []))) [] (A8 loc.length fr σ) H9 s9/\tn (i + 1) s9.heap/\(∀ b ∈ fp,H9 b=none):=by
    intro σ9 H9 s9 I9 hl hk
    refine ⟨(I9.unpinned).weak hl.symm fun j v ej=>?_,T.keep _ _ _ st8 fun b hb o e=>(I9.pin (b,o) (aah _ (aah _ (B9 hb e)))).1,fun b hb=>?_⟩
    ·by_cases hj:j < loc.length
     ·unfold A8 at ej
      rw [aaG (by simpa using hj),aaL] at ej
      split at ej <;> cases ej
     ·rw [hk j (aaZ hj)]; exact ej
    ·obtain ⟨o,e,d⟩:=T.obj _ _ st8 b hb
     exact (I9.pin (b,o) (aah _ (aah _ (B9 hb e)))).2.1
   refine thn (pg _ s8 _ H8 x u _ I8' r8 (hgk _ _ _ _ _ (step x H8 y8))) fun _ s9 ⟨σ9,H9,I9,q9,l9,k9⟩=>?_
   refine thn (pt _ s9 σ9 H9 _ I9 q9) fun ok s10 ⟨H10,I10,q10⟩=>?_
   cases ok with
   | false =>
    rw [if_neg (by decide)] at q10 ⊢
    obtain ⟨m',hm,w'⟩:=q10
    obtain ⟨b1,b2,b3⟩:=back I10 l9 k9
    exact ⟨m',hm,i + 1,acc,H10,b1,b2,b3,w'⟩
   | true =>
    rw [if_pos rfl] at q10 ⊢
    refine thn (pe _ s10 σ9 H10 _ I10 q10) fun y s11 ⟨v,H11,I11,r11,hD11,hz,m',hm,w'⟩=>?_
    refine thn (Ef _ s11 σ9 H11 (.ref s2.heap.objs.size) [v] (.ref s2.heap.objs.size) [y] (fun _ H12=>W (i + 1) m' (acc ++ [v]) H12) I11 rfl (.cons r11 .nil) ⟨_,acc,v,rfl,rfl,hD11,hz,w'⟩) fun _ s12 ⟨_,H12,I12,_,w12⟩=>?_
    obtain ⟨b1,b2,b3⟩:=back I12 l9 k9
    exact ⟨m',hm,i + 1,_,H12,b1,b2,b3,w12⟩
 exact codeAny_compStart_list (loop _ rfl) (T.self X.A 0 _ _ _ st4 (loop _ rfl))
theorem Inv.but {X:Cx} {pins:List (Addr × Obj)} {s:Shared} {σ:St} {H:Hp} {C:Addr} {h':Heap} (I:Inv X pins σ H s) (hC:X.s₀.heap.objs.size<=C/\C ≠ X.env.locals/\(∀ x c,X.env.cells.lookup x=some c->c ≠ C)/\(∀ p ∈ X.pn ++ pins,p.1 ≠ C)/\H C=none/\C ∉ frs X.stack)
  (hb:Heap.SameBut C s.heap h'):Inv X pins σ H { s with heap:=h' }:=by
 obtain ⟨h1,h2,h3,h4,h5,h6⟩:=hC
 have same:∀ b,b ∉ [C]->h'.get? b=s.heap.get? b:=fun b z=>hb.2 b (fun e=>z (by simp [e]))
 refine I.call' (s':={ s with heap:=h' }) (ch:=[C]) rfl ⟨fun b o e _ _ z=>(same b z).trans e,fun b o e _ _ z=>⟨o.slots,(same b z).trans e⟩,fun b o e n z=>n,fun b o e z=>⟨o,(same b z).trans e⟩,fun _ _ e=>e,fun _ _ _ e=>e,fun _ ps e=>⟨#[],by simpa using e⟩⟩ ?_ I.bare
  (fun b z=>by
   have:b=C:=by simpa using z
   subst this
   exact ⟨.inr h1,h2,h3,h4⟩)
 intro b o e
 refine (I.hok b o e).stay (fun c w' hc z=>(hb.2 c ?_).trans z) (fun _ z=>z) fun _ _ z=>z
 rintro rfl
 rcases hc with rfl | hc
 ·rw [h5] at e; cases e
 ·rw [h5] at hc; cases hc
theorem Gx {X:Cx} {elt tg iter:Expr} {ifs:List Expr} {scope:Scope} {pos spos py:Pos} {y:Str} {k:Nat} {wi:TI} {gz:Bk->TG} {tcz:Bk->TT} {tez:Bk->TE} (loc:List Str) (fr:List Nat) (frn:List Str) (hc:X.calm=true) (hi:PI X tg iter wi)
  (hfr:∀ (j:Nat) (k:Nat) (x:Str),fr[j]?=some k->frn[j]?=some x->X.N[k]?=some x/\X.env.kindOf x=some .cell/\(x,NameKind.free) ∈ scope.names) (hln:frn.length=fr.length)
  (hcell:∀ y ∈ scope.names,y.2 ≠ .cell) (hkind:scope.kind=.function) (hnames:∀ y ∈ scope.names,y.2=.local->scope.names.lookup y.1=some .local) (hfree:∀ y ∈ scope.names,y.2=.free->X.env.kindOf y.1=some .cell)
  (hkin:∀ (x:Str),x ∈ frn->(relabel scope X.env).names.lookup x=some .cell) (hsc:X.env.scope.kind=.function)
  (hgk:∀ (z:Bk) (v:V) (σ:St) (H:Hp) (Q:St->Hp->Prop),gz z v σ H Q->gz z v σ H fun σ' H'=>Q σ' H'/\σ'.length=σ.length/\∀ i,loc.length<=i->σ'[i]?=σ[i]?)
  (hblk:∀ (z:Bk),PG (X.blk scope z.C z.fp (loc ++ frn) z.s z.H) tg (gz z)/\PTs (X.blk scope z.C z.fp (loc ++ frn) z.s z.H) ifs (tcz z)/\PE (X.blk scope z.C z.fp (loc ++ frn) z.s z.H) elt (tez z))
  (hs:∀ x,foldedSetIterable iter X.env x=pure x) (hN:X.N.Nodup) (hk:X.N[k]?=some y) (hx:Loc X.env.scope y) (hf:X.fn y=true\/X.env.scope.names.lookup y=some .local)
  (hsw:swapsWith (.ListComp elt [⟨tg,iter,ifs,0⟩] scope pos) (some (.Name y py)) spos.line X.env=pure true) :
  PS X (.Assign [.Name y py] (.ListComp elt [⟨tg,iter,ifs,0⟩] scope pos) spos) (EV (Fz loc.length fr wi gz tcz tez) (Ee k)):=by
 intro pins s σ H D I h
 rw [exec_Assign_Name_used _ _ _ _ hsw]
 refine wpAny_bind (wpAny_standAt (wpAny_bind ?_))
 show wpAny _ X.A (do let _ <- comprehension (.ListComp elt [⟨tg,iter,ifs,0⟩] scope pos) scope X.env _ (newList []) false (eval iter X.env) (some (assign (.Name y py) X.env))) _ _ s
 refine wpAny_bind (wpAny_mono (ML (R:=fun _ s'=>SP X pins D .next s') loc fr frn hc hi hfr hln hcell hkind hnames hfree hkin hsc hgk hblk I h (fun D' C H' s' m hn hI hC q=>?_) hs) (fun _ s' hq=>wpAny_pure (wpAny_pure hq)) fun _ _ e=>e)
 have I7:Inv X pins σ H' s':=hI s'.heap ⟨rfl,fun _ _=>rfl⟩
 refine wpAny_assign_Name (Ho (v:=.ref D') I7 hN hk hx rfl (fun s8 I8 ⟨a,sb,ha⟩=>?_) hf)
 refine ⟨m,hn.sameBut sb ?_,fun h9 sb9=>⟨_,H',I8.but hC sb9,q⟩⟩
 rcases ha with rfl | ha
 ·exact hC.2.1
 ·exact fun z=>hC.2.2.1 _ _ ha z.symm
end L2
end
section
namespace L2
open PySem PySem.Spec PyProof.Rows PySem.W
section
variable {X:Cx}
noncomputable def FX (n:Nat) (i:Int):Nat:=if i < 0 then (i + (n:Int)).toNat else min i.toNat n
noncomputable def JL:V->List V->Hp->VK->Prop:=fun x vs H Q=>∃ l xs i y,x=.ref l/\vs=[.int i,y]/\H l=some (.lst xs)/\-(2 ^ 63)<=i/\i < 2 ^ 63/\xs.length < sizeLine/\Q .non (upd H l (.lst (xs.take (FX xs.length i) ++ y :: xs.drop (FX xs.length i))))
theorem Vals.tk {xs:List V} {us:List Value} (h:Vals xs us):∀ n,Vals (xs.take n) (us.take n)/\Vals (xs.drop n) (us.drop n):=by
 induction h with
 | nil=>intro n; cases n <;> exact ⟨.nil,.nil⟩
 | cons h1 h2 ih =>
  intro n
  cases n with
  | zero=>exact ⟨.nil,.cons h1 h2⟩
  | succ n=>exact ⟨.cons h1 (ih n).1,(ih n).2⟩
theorem Ly:MtM X "list.insert" JL:=by
 intro pins s σ H x vs v us Q I rx rv h
 obtain ⟨l,xs,i,y,rfl,rfl,hH,h1,h2,hz,q⟩:=h
 cases rx
 cases rv with
 | cons ra rb =>
  cases rb with
  | cons ru rc =>
   cases rc
   obtain ⟨t,rfl⟩:=ra
   rename_i u
   obtain ⟨z,its,n,r,hl,e⟩:=I.lstM hH
   refine call_meets PySem.F.slot_list_insert ⟨_,e,rfl⟩ PySem.F.entry_list_insert (PySem.F.args_list_insert_3 _ _ _) (PySem.AutoListH.list_insert_list_int_val_1 l its.toArray n i t u (by rw [fitsIndex_both h1 h2]; decide) (by rw [aag]; omega)) ⟨e,?_⟩
   refine ⟨.non,_,I.lset (its':=its.take (FX xs.length i) ++ u :: its.drop (FX xs.length i)) hH e ?_ ((r.tk _).1.append (.cons ru (r.tk _).2)) ?_,rfl,q⟩
   ·rw [hl]
    unfold FX
    simp
    generalize (if i < 0 then (i + (its.length:Int)).toNat else min i.toNat its.length)=k
    exact ab4 (by rw [aa7]; exact aan _)
   ·rw [aar,aaV,aaU,aa7]
    omega
end
end L2
end
section
namespace L2
open PySem PySem.Spec PyProof PyProof.Rows PySem.W
section
variable {prog:Program} {w:World} {A:Around} {E:Value->Shared->Prop}
theorem Lz {it l:Addr} {items:Array Value} (hne:l ≠ it):∀ (n i:Nat) (s:Shared) (Q:List Value->Shared->Prop),s.heap.IsListIter it l i->s.heap.IsList l items->i + n<=items.size->(∀ h',h'.IsListIter it l (i + n)->Heap.SameBut it s.heap h'->Q ((items.toList.drop i).take n) { s with heap:=h' })->wpAny (model prog w) A (draw (.ref it) n) Q E s
 | 0,i,s,Q,hit,_,_,hQ=>wpAny_pure (by simpa using hQ s.heap hit (Heap.SameBut.refl ..))
 | n + 1,i,s,Q,hit,hl,hle,hQ=>by
  have hz:i < items.size:=by omega
  show wpAny _ _ (pyNext (.ref it) >>= _) Q E s; refine wpAny_bind (wpAny_pyNext_list_item hit hl (x:=items[i]) (by simp [hz]) fun h1 hit1 hs1=>?_)
  have hl1:h1.IsList l items:=by
   obtain ⟨o,e,c⟩:=hl
   exact ⟨o,(hs1.2 l hne).trans e,c⟩
  refine wpAny_bind (wpAny_holding (Lz hne n (i + 1) _ _ hit1 hl1 (by omega) fun h2 hit2 hs2=>wpAny_pure ?_))
  have hd:items.toList.drop i=items[i] :: items.toList.drop (i + 1):=by simp [abx,hz]
  have:=hQ h2 (by rw [show i + (n + 1)=i + 1 + n by omega]; exact hit2) ⟨hs2.1.trans hs1.1,fun b hb=>(hs2.2 b hb).trans (hs1.2 b hb)⟩
  rw [hd,List.take_succ_cons] at this; exact this
theorem N7 {s:Shared} {l:Addr} {items:Array Value} {Q:List Value->Shared->Prop} (hh:A.handled=none) (hl:s.heap.IsList l items) (hQ:∀ h',Heap.ExtBut s.heap.objs.size s.heap h'->Q items.toList { s with heap:=h' }):wpAny (model prog w) A (unpackItems (.ref l) items.size none) Q E s:=by
 have hlt:l ≠ s.heap.objs.size:=by obtain ⟨o,ho,_⟩:=hl; exact aaD (Heap.lt_size ho)
 unfold unpackItems notIterableAtAll
 refine wpAny_bind (wpAny_bind (wpAny_specialOf hl.typeIs slot_list_iter.lookup (wpAny_pure ?_)))
 simp only [aaR,if_false]; refine wpAny_bind (wpAny_holding (wpAny_pyIter_list hl ?_))
 have hl0:(s.heap.push { cls:=.type "list_iterator",data:=.fields #[.ref l,.int 0 0] }).IsList l items:=by
  obtain ⟨o,e,c⟩:=hl
  exact ⟨o,Heap.get?_push_of_some _ e,c⟩
 refine wpAny_bind (wpAny_holding (Lz hlt items.size 0 _ _ ⟨_,Heap.get?_push_size _ rfl,rfl,rfl⟩ hl0 (by omega) fun h1 hit1 hs1=>?_))
 have hall:List.take items.size (List.drop 0 items.toList)=items.toList:=by
  rw [List.drop_zero]; exact ab4 (by simp)
 rw [hall,if_neg (by simp)]
 have hl1:h1.IsList l items:=by
  obtain ⟨o,e,c⟩:=hl0
  exact ⟨o,(hs1.2 l hlt).trans e,c⟩
 refine wpAny_bind (wpAny_holding (wpAny_pyNext_list_end hh hit1 hl1 (by simp) fun h2 he2=>?_))
 simp only [Option.isSome_none,aaR,if_false]
 exact wpAny_pure (hQ h2 fun b o hb e=>he2 b o hb ((hs1.2 b hb).trans (Heap.get?_push_of_some _ e)))
end
section
variable {X:Cx} {pos:Pos}
noncomputable def P9 (K:PySem.W.Frag) (n:Nat) (t:TGs):TG:=fun v σ H Q=>∃ a xs,v=.ref a/\SqL K H a xs/\xs.length=n/\t xs σ H Q
theorem Qa {es:List Expr} {k:Nat} {t:TGs} {n:Nat} (hc:X.calm=true) (h:PGs X es t) (hn:(assignEach es X.env).length=n) (hst:(assignEach es X.env).findIdx? (·.1)=none):PG X (.Tuple es k pos) (P9 X.K n t):=by
 intro pins s σ H v u Q I r hw
 obtain ⟨a,xs,rfl,hq,hl,hw⟩:=hw
 cases r
 obtain ⟨its,rv,pl,hz⟩:=I.list hq
 rw [assign_Tuple]
 refine wpAny_bind (wpAny_standAt ?_)
 unfold unpack
 rw [hst,hn,<- hl,rv.length,show its.length=its.toArray.size by simp]
 refine wpAny_bind (wpAny_holding (N7 (I.ok.hd hc) pl.isList fun h' hx=>?_))
 have I1:Inv X pins σ H { s with heap:=h' }:=I.kept (t':=s.toks) fun b o e=>hx b o (aaD (Heap.lt_size e)) e
 exact h pins _ σ H xs _ Q I1 (by simpa using rv) hw
end
end L2
end
section
namespace Pu
open PySem (Str)
inductive D where
 | non
 | bl (b:Bool)
 | int (i:Int)
 | str (x:Str)
 | tup (ds:List D)
 | lst (ds:List D)
 | exn (c:Nat)
inductive Res (α:Type) where
 | ok (a:α)
 | exc (c:Nat)
 | bad
namespace Res
noncomputable def bind {α β:Type}:Res α->(α->Res β)->Res β
 | .ok a,f=>f a
 | .exc c,_=>.exc c
 | .bad,_=>.bad
@[simp] theorem bind_ok {α β:Type} (a:α) (f:α->Res β):(Res.ok a).bind f=f a:=rfl
@[simp] theorem bind_exc {α β:Type} (c:Nat) (f:α->Res β):(Res.exc c:Res α).bind f=.exc c:=rfl
@[simp] theorem bind_bad {α β:Type} (f:α->Res β):(Res.bad:Res α).bind f=.bad:=rfl
theorem bind_eq_ok {α β:Type} {r:Res α} {f:α->Res β} {b:β} (h:r.bind f=.ok b):∃ a,r=.ok a/\f a=.ok b:=by
 cases r <;> simp_all
end Res
mutual
noncomputable def D.eqv:D->D->Bool
 | .non,.non=>true
 | .bl a,.bl b=>a==b
 | .bl a,.int j=>(if a then 1 else 0)==j
 | .int i,.bl b=>i==(if b then 1 else 0)
 | .int i,.int j=>i==j
 | .str x,.str y=>x==y
 | .lst xs,.lst ys=>D.eqvs xs ys
 | .tup xs,.tup ys=>D.eqvs xs ys
 | _,_=>false
noncomputable def D.eqvs:List D->List D->Bool
 | [],[]=>true
 | x :: xs,y :: ys=>D.eqv x y && D.eqvs xs ys
 | _,_=>false
end
noncomputable def D.shp:Nat->D->Bool
 | _,.non=>true
 | _,.bl _=>true
 | _,.int _=>true
 | _,.str x=>x.cps.all (· < 0x110000)
 | 0,.tup _=>false
 | 0,.lst _=>false
 | n + 1,.tup ds=>ds.all (D.shp n)
 | n + 1,.lst ds=>ds.all (D.shp n)
 | _,.exn _=>false
noncomputable def D.flat:Nat->Nat->D->Bool
 | 0,_,_=>false
 | _ + 1,_,.non=>true
 | _ + 1,_,.bl _=>true
 | _ + 1,_,.int _=>true
 | _ + 1,_,.str _=>true
 | _ + 1,_,.exn _=>true
 | m + 1,k,.tup ds=>ds.all (D.flat m k)
 | _ + 1,0,.lst _=>false
 | m + 1,k + 1,.lst ds=>ds.all (D.flat m k)
noncomputable abbrev LIM:Nat:=16777216
noncomputable abbrev Fr:=List (Option D)
structure Fn where
 name:Str
 ar:Nat
 lv:Nat
 dep:Nat
 den:List D->Res D
set_option genSizeOf false
set_option genSizeOfSpec false
set_option genInjectivity false
inductive B2 where
 | add | sub | mul | fdiv | mod | pow
 deriving DecidableEq
inductive C2 where
 | lt | le | gt | ge | eq | ne | inn | nin
 deriving DecidableEq
inductive Kd where
 | int | bool | str | list | tuple | dict | verr | cls (n:Nat)
 deriving DecidableEq
inductive Bi where
 | len | min | max | max3 | maxL | int | list | tupleL | all
 deriving DecidableEq
inductive Tg where
 | nm (i:Nat)
 | tp (is:List Nat)
 deriving DecidableEq
mutual
inductive E where
 | nm (i:Nat)
 | cN
 | cB (b:Bool)
 | cI (i:Int)
 | cS (x:Str)
 | gl (x:Str) (d:D)
 | tup (es:Es)
 | lst (es:Es)
 | bin (o:B2) (a b:E)
 | neg (a:E)
 | not (a:E)
 | cmp (o:C2) (a b:E)
 | chain (o o':C2) (a b c:E)
 | isN (n:Bool) (a:E)
 | bo (and:Bool) (es:Es)
 | ifx (c a b:E)
 | ix (a i:E)
 | ixL (a i:E)
 | ixT (a i:E)
 | slc (a lo hi:E)
 | call (f:Fn) (es:Es)
 | callB (f:Fn) (es:Es)
 | bi (b:Bi) (es:Es)
 | isi (a:E) (k:Kd)
 | comp0 (nl:Nat) (fr:List Nat) (tg:Tg) (it:It) (elt:E)
 | comp1 (nl:Nat) (fr:List Nat) (tg:Tg) (it:It) (cond elt:E)
inductive Es where
 | nil
 | cons (e:E) (r:Es)
inductive It where
 | seq (e:E)
 | seqL (e:E)
 | r1 (a:E)
end
noncomputable def get (δ:Fr) (i:Nat):Res D:=match δ[i]? with
 | some (some d)=>.ok d
 | _=>.bad
noncomputable def on1:List D->(D->Res D)->Res D
 | [a],f=>f a
 | _,_=>.bad
noncomputable def on2:List D->(D->D->Res D)->Res D
 | [a,b],f=>f a b
 | _,_=>.bad
noncomputable def on3:List D->(D->D->D->Res D)->Res D
 | [a,b,c],f=>f a b c
 | _,_=>.bad
noncomputable def Dc:D->(Int->Res D)->Res D
 | .int i,f=>f i
 | _,_=>.bad
noncomputable def Bv (a b:D) (f:Int->Int->Res D):Res D:=Dc a fun i=>Dc b fun j=>f i j
noncomputable def Dd:D->(List D->Res D)->Res D
 | .lst ds,f=>f ds
 | .tup ds,f=>f ds
 | _,_=>.bad
noncomputable def Ko:D->D->Res D
 | .int i,.int j=>.ok (.int (i + j))
 | .lst a,.lst b=>if a.length + b.length<=LIM then .ok (.lst (a ++ b)) else .bad
 | .str a,.str b=>if a.length + b.length<=LIM then .ok (.str (a ++ b)) else .bad
 | _,_=>.bad
noncomputable def Ii:D->D->Res D
 | .int i,.int j=>if (-(2 ^ 64) < i/\i < 2 ^ 64)\/(-(2 ^ 64) < j/\j < 2 ^ 64) then .ok (.int (i * j)) else if i.natAbs < 2 ^ 400/\j.natAbs < 2 ^ 400 then .ok (.int (i * j)) else .bad
 | .lst a,.int k=>if -(2 ^ 63)<=k/\k < 2 ^ 63/\a.length * k.toNat<=LIM then .ok (.lst (aai k.toNat a).flatten) else .bad
 | _,_=>.bad
noncomputable def b2:B2->D->D->Res D
 | .add,a,b=>Ko a b
 | .sub,a,b=>Bv a b fun i j=>.ok (.int (i - j))
 | .mul,a,b=>Ii a b
 | .fdiv,a,b=>Bv a b fun i j=>if 0 < j/\j < 2 ^ 200 then .ok (.int (i / j)) else .bad
 | .mod,a,b=>Bv a b fun i j=>if 0 < j then .ok (.int (i % j)) else .bad
 | .pow,a,b=>Bv a b fun i j=>if 0<=j/\j<=1000000/\i.natAbs < 2 ^ 64 then .ok (.int (i ^ j.toNat)) else .bad
noncomputable def D.scal:D->Bool
 | .non | .bl _ | .int _ | .str _=>true
 | _=>false
noncomputable def inD (x:D) (ys:List D):Res Bool:=if D.shp 8 x && ys.all (D.shp 8) then .ok (ys.any fun y=>D.eqv y x) else .bad
noncomputable def c2:C2->D->D->Res D
 | .lt,a,b=>Bv a b fun i j=>.ok (.bl (decide (i < j)))
 | .le,a,b=>Bv a b fun i j=>.ok (.bl (decide (i<=j)))
 | .gt,a,b=>Bv a b fun i j=>.ok (.bl (decide (j < i)))
 | .ge,a,b=>Bv a b fun i j=>.ok (.bl (decide (j<=i)))
 | .eq,x,y=>if D.shp 8 x && D.shp 8 y then .ok (.bl (D.eqv x y)) else .bad
 | .ne,x,y=>if D.shp 8 x && D.shp 8 y then .ok (.bl (!D.eqv x y)) else .bad
 | .inn,x,y=>Dd y fun ys=>(inD x ys).bind fun b=>.ok (.bl b)
 | .nin,x,y=>Dd y fun ys=>(inD x ys).bind fun b=>.ok (.bl !b)
noncomputable def ixN (n:Nat) (i:Int):Option Nat:=if 0<=i then (if i < n then some i.toNat else none) else if -(n:Int)<=i then some (i + n).toNat else none
noncomputable def atD (ds:List D) (i:Int):Res D:=match (ixN ds.length i).bind (fun j=>ds[j]?) with
 | some d=>.ok d
 | none=>.bad
noncomputable def ixD:D->D->Res D
 | .lst ds,.int i=>atD ds i
 | .tup ds,.int i=>atD ds i
 | _,_=>.bad
noncomputable def DW:D->D->Res D
 | .lst ds,.int i=>atD ds i
 | _,_=>.bad
noncomputable def DX:D->D->Res D
 | .tup ds,.int i=>atD ds i
 | _,_=>.bad
noncomputable def sIx (n d:Nat):Option Int->Nat
 | none=>d
 | some v=>(if v < 0 then max (v + (n:Int)) 0 else min v (n:Int)).toNat
noncomputable def cut {α:Type} (xs:List α) (lo hi:Option Int):List α:=(xs.drop (sIx xs.length 0 lo)).take (sIx xs.length xs.length hi - sIx xs.length 0 lo)
noncomputable def CQ:D->Res (Option Int)
 | .int i=>.ok (some i)
 | _=>.bad
noncomputable def Ca (n:Bool) (r:Res D):Res (Option Int):=if n then .ok none else r.bind CQ
noncomputable def E.isCN:E->Bool
 | .cN=>true
 | _=>false
noncomputable def CK:D->Option Int->Option Int->Res D
 | .lst ds,lo,hi=>.ok (.lst (cut ds lo hi))
 | .tup ds,lo,hi=>if ds.all D.scal=true/\¬ (sIx ds.length 0 lo=0/\sIx ds.length ds.length hi=ds.length) then .ok (.tup (cut ds lo hi)) else .bad
 | _,_,_=>.bad
noncomputable def Bw:D->Res Bool
 | .non=>.ok false
 | .bl b=>.ok b
 | .int i=>.ok (i != 0)
 | .lst ds=>.ok (!ds.isEmpty)
 | .tup ds=>.ok (!ds.isEmpty)
 | _=>.bad
noncomputable def isa (c d:Nat):Bool:=c==d || d==0
noncomputable def dI:D->Bool
 | .int _=>true
 | .bl _=>true
 | _=>false
noncomputable def dB:D->Bool
 | .bl _=>true
 | _=>false
noncomputable def dS:D->Bool
 | .str _=>true
 | _=>false
noncomputable def dL:D->Bool
 | .lst _=>true
 | _=>false
noncomputable def dT':D->Bool
 | .tup _=>true
 | _=>false
noncomputable def dD:D->Bool
 | .exn c=>c==999
 | _=>false
noncomputable def dX:D->(Nat->Bool)->Res Bool
 | .exn c,f=>if c==999 then .bad else .ok (f c)
 | _,_=>.bad
noncomputable def CL (d:D):Kd->Res Bool
 | .int=>.ok (dI d)
 | .bool=>.ok (dB d)
 | .str=>.ok (dS d)
 | .list=>.ok (dL d)
 | .tuple=>.ok (dT' d)
 | .dict=>.ok (dD d)
 | .verr=>dX d fun _=>true
 | .cls n=>dX d fun c=>isa c n
noncomputable def B4:List D->Option (List Int)
 | []=>some []
 | .int i :: r=>(B4 r).map (i :: ·)
 | _=>none
noncomputable def BN:List D->Option (List Bool)
 | []=>some []
 | .bl i :: r=>(BN r).map (i :: ·)
 | _=>none
noncomputable def DB {α:Type}:Option α->Res α
 | some a=>.ok a
 | none=>.bad
noncomputable def Dp:D->(List Int->Res D)->Res D
 | .lst ds,f=>(DB (B4 ds)).bind f
 | _,_=>.bad
noncomputable def Cp:D->(List Bool->Res D)->Res D
 | .lst ds,f=>(DB (BN ds)).bind f
 | _,_=>.bad
noncomputable def El:D->(List D->Res D)->Res D
 | .lst ds,f=>f ds
 | _,_=>.bad
noncomputable def Em:D->Res D
 | .int i=>.ok (.int i)
 | .bl b=>.ok (.int (if b then 1 else 0))
 | _=>.bad
noncomputable def biD:Bi->List D->Res D
 | .len,ds=>on1 ds fun d=>Dd d fun ds=>.ok (.int ds.length)
 | .min,ds=>on2 ds fun a b=>Bv a b fun i j=>.ok (.int (min i j))
 | .max,ds=>on2 ds fun a b=>Bv a b fun i j=>.ok (.int (max i j))
 | .max3,ds=>on3 ds fun a b c=>Bv a b fun i j=>Dc c fun k=>.ok (.int (max (max i j) k))
 | .maxL,ds=>on1 ds fun d=>Dp d fun ns=>(DB ns.max?).bind fun n=>.ok (.int n)
 | .int,ds=>on1 ds Em
 | .list,ds=>on1 ds fun d=>Dd d fun ds=>.ok (.lst ds)
 | .tupleL,ds=>on1 ds fun d=>El d fun ds=>.ok (.tup ds)
 | .all,ds=>on1 ds fun d=>Cp d fun bs=>.ok (.bl (bs.all id))
noncomputable def E4:List Nat->List D->Fr->Option Fr
 | [],[],δ=>some δ
 | i :: is,d :: ds,δ=>E4 is ds (δ.set i (some d))
 | _,_,_=>none
noncomputable def CC:Tg->D->Fr->Option Fr
 | .nm i,d,δ=>some (δ.set i (some d))
 | .tp is,.tup ds,δ=>E4 is ds δ
 | .tp is,.lst ds,δ=>E4 is ds δ
 | _,_,_=>none
noncomputable def A7 (f:D->Res (Option D)):List D->Res (List D)
 | []=>.ok []
 | d :: ds=>match f d with
  | .ok o=>(A7 f ds).bind fun r=>.ok (match o with | some x=>x :: r | none=>r)
  | _=>.bad
noncomputable def blk (nl:Nat) (fr:List Nat) (δ:Fr):Fr:=aai nl none ++ fr.map fun j=>(δ[j]?).join
noncomputable def An (a b:Int):List D:=(aaE (b - a).toNat).map fun (i:Nat)=>D.int (a + i)
noncomputable def Dq:D->Res (List D)
 | .lst ds=>.ok ds
 | .tup ds=>.ok ds
 | _=>.bad
noncomputable def Cq:D->Res (List D)
 | .lst ds=>.ok ds
 | _=>.bad
noncomputable def E5 (i:Int):Bool:=decide (-(2 ^ 62)<=i) && decide (i < 2 ^ 62)
noncomputable def Qb:D->D->Res (List D)
 | .int a,.int b=>if E5 a && E5 b && decide ((b - a).toNat<=LIM) then .ok (An a b) else .bad
 | _,_=>.bad
mutual
noncomputable def ev:E->Fr->Res D
 | .nm i,δ=>get δ i
 | .cN,_=>.ok .non
 | .cB b,_=>.ok (.bl b)
 | .cI i,_=>.ok (.int i)
 | .cS x,_=>.ok (.str x)
 | .gl _ d,_=>.ok d
 | .tup es,δ=>(evs es δ).bind fun ds=>.ok (.tup ds)
 | .lst es,δ=>(evs es δ).bind fun ds=>.ok (.lst ds)
 | .bin o a b,δ=>(ev a δ).bind fun x=>(ev b δ).bind fun y=>b2 o x y
 | .neg a,δ=>(ev a δ).bind fun x=>match x with | .int i=>.ok (.int (-i)) | _=>.bad
 | .not a,δ=>(ev a δ).bind fun x=>match x with | .bl b=>.ok (.bl !b) | _=>.bad
 | .cmp o a b,δ=>(ev a δ).bind fun x=>(ev b δ).bind fun y=>c2 o x y
 | .chain o o' a b c,δ=>(ev a δ).bind fun x=>(ev b δ).bind fun y=>(c2 o x y).bind fun r=>match r with
  | .bl true=>(ev c δ).bind fun z=>c2 o' y z
  | .bl false=>.ok (.bl false)
  | _=>.bad
 | .isN n a,δ=>(ev a δ).bind fun x=>.ok (.bl (match x with | .non=>!n | _=>n))
 | .bo k es,δ=>evBo k es δ
 | .ifx c a b,δ=>((ev c δ).bind Bw).bind fun t=>if t then ev a δ else ev b δ
 | .ix a i,δ=>(ev a δ).bind fun x=>(ev i δ).bind fun y=>ixD x y
 | .ixL a i,δ=>(ev a δ).bind fun x=>(ev i δ).bind fun y=>DW x y
 | .ixT a i,δ=>(ev a δ).bind fun x=>(ev i δ).bind fun y=>DX x y
 | .slc a lo hi,δ=>(ev a δ).bind fun x=>(Ca lo.isCN (ev lo δ)).bind fun l=>(Ca hi.isCN (ev hi δ)).bind fun h=>CK x l h
 | .call f es,δ=>(evs es δ).bind fun ds=>f.den ds
 | .callB f es,δ=>(evs es δ).bind fun ds=>(f.den ds).bind fun d=>if D.flat 9 f.dep d then .ok d else .bad
 | .bi b es,δ=>(evs es δ).bind fun ds=>biD b ds
 | .isi a k,δ=>(ev a δ).bind fun x=>(CL x k).bind fun b=>.ok (.bl b)
 | .comp0 nl fr tg it elt,δ=>(evI it δ).bind fun ds=>(A7 (fun d=>match CC tg d (blk nl fr δ) with
   | some δ'=>(ev elt δ').bind fun x=>.ok (some x)
   | none=>.bad) ds).bind fun r=>.ok (.lst r)
 | .comp1 nl fr tg it cond elt,δ=>(evI it δ).bind fun ds=>(A7 (fun d=>match CC tg d (blk nl fr δ) with
   | some δ'=>((ev cond δ').bind Bw).bind fun t=>if t then (ev elt δ').bind fun x=>.ok (some x) else .ok none
   | none=>.bad) ds).bind fun r=>.ok (.lst r)
noncomputable def evs:Es->Fr->Res (List D)
 | .nil,_=>.ok []
 | .cons e r,δ=>(ev e δ).bind fun x=>(evs r δ).bind fun xs=>.ok (x :: xs)
noncomputable def evBo (k:Bool):Es->Fr->Res D
 | .nil,_=>.bad
 | .cons e .nil,δ=>ev e δ
 | .cons e (.cons e' r),δ=>(ev e δ).bind fun x=>match x with
  | .bl c=>if c=k then evBo k (.cons e' r) δ else .ok (.bl c)
  | _=>.bad
noncomputable def evI:It->Fr->Res (List D)
 | .seq e,δ=>(ev e δ).bind Dq
 | .seqL e,δ=>(ev e δ).bind Cq
 | .r1 a,δ=>(ev a δ).bind fun x=>Qb (.int 0) x
end
noncomputable def tv (e:E) (δ:Fr):Res Bool:=(ev e δ).bind Bw
inductive Um where
 | append | extend | insert | pop | popAt | clear | reverse
 deriving DecidableEq
mutual
inductive S where
 | asg (x:Nat) (k:Nat) (e:E)
 | dem (x:Nat) (k:Nat)
 | dead (x:Nat)
 | asgT (xs:List Nat) (e:E)
 | set (x:Nat) (path:List (Bool × E)) (i e:E)
 | mut (x:Nat) (path:List (Bool × E)) (m:Um) (es:Es)
 | expr (e:E)
 | iff (c:E) (a b:Ss)
 | wh (c:E) (b:Ss)
 | for_ (tg:Tg) (it:It) (b:Ss)
 | ret (e:E)
 | raise (c:Nat) (es:Es)
 | swp (x i j:Nat)
inductive Ss where
 | nil
 | cons (s:S) (r:Ss)
end
inductive Out where
 | nxt (δ:Fr)
 | ret (d:D)
 | exc (c:Nat) (δ:Fr)
 | bad
noncomputable def evP:List (Bool × E)->Fr->Res (List (Bool × Int))
 | [],_=>.ok []
 | (t,e) :: r,δ=>match ev e δ with
  | .ok (.int i)=>(evP r δ).bind fun is=>.ok ((t,i) :: is)
  | _=>.bad
noncomputable def BV (f:List D->Option (List D)):List (Bool × Int)->D->Option D
 | [],.lst ds=>(f ds).map D.lst
 | (false,i) :: r,.lst ds=>(ixN ds.length i).bind fun j=>(ds[j]?).bind fun d=>(BV f r d).map fun d'=>.lst (ds.set j d')
 | (true,i) :: r,.tup ds=>(ixN ds.length i).bind fun j=>(ds[j]?).bind fun d=>(BV f r d).map fun d'=>.tup (ds.set j d')
 | _,_=>none
noncomputable def DY (n:Nat) (i:Int):Nat:=(if i < 0 then max (i + (n:Int)) 0 else min i (n:Int)).toNat
noncomputable def un1 {α:Type}:List D->(D->Option α)->Option α
 | [d],f=>f d
 | _,_=>none
noncomputable def un0 {α:Type}:List D->Option α->Option α
 | [],r=>r
 | _,_=>none
noncomputable def Rq (ds:List D):D->Option (List D)
 | .lst es=>if ds.length + es.length<=LIM then some (ds ++ es) else none
 | _=>none
noncomputable def Kp (ds:List D):List D->Option (List D)
 | [.int i,d]=>if ds.length < LIM/\-(2 ^ 63)<=i/\i < 2 ^ 63 then some (ds.take (DY ds.length i) ++ d :: ds.drop (DY ds.length i)) else none
 | _=>none
noncomputable def G3 (ds:List D):D->Option (List D)
 | .int i=>if -(2 ^ 63)<=i/\i < 2 ^ 63 then (ixN ds.length i).map fun j=>ds.eraseIdx j else none
 | _=>none
noncomputable def umD:Um->List D->List D->Option (List D)
 | .append,es,ds=>un1 es fun d=>if ds.length < LIM then some (ds ++ [d]) else none
 | .extend,es,ds=>un1 es (Rq ds)
 | .insert,es,ds=>Kp ds es
 | .pop,es,ds=>un0 es (if ds=[] then none else some ds.dropLast)
 | .popAt,es,ds=>un1 es (G3 ds)
 | .clear,es,_=>un0 es (some [])
 | .reverse,es,ds=>un0 es (some ds.reverse)
noncomputable def CS (i:Int) (d:D) (ds:List D):Option (List D):=(ixN ds.length i).map fun j=>ds.set j d
noncomputable def Gy (a b:Int) (ds:List D):Option (List D):=(ixN ds.length a).bind fun p=>(ixN ds.length b).bind fun q=>(ds[p]?).bind fun d=>(ds[q]?).bind fun e=>some ((ds.set p e).set q d)
noncomputable def upd (δ:Fr) (x:Nat) (f:D->Option D):Out:=match δ[x]? with
 | some (some d)=>match f d with
  | some d'=>.nxt (δ.set x (some d'))
  | none=>.bad
 | _=>.bad
noncomputable def Res.out {α:Type} (r:Res α) (δ:Fr) (f:α->Out):Out:=match r with
 | .ok a=>f a
 | .exc c=>.exc c δ
 | .bad=>.bad
@[simp] theorem Res.out_ok {α:Type} (a:α) (δ:Fr) (f:α->Out):(Res.ok a).out δ f=f a:=rfl
@[simp] theorem Res.out_exc {α:Type} (c:Nat) (δ:Fr) (f:α->Out):(Res.exc c:Res α).out δ f=.exc c δ:=rfl
@[simp] theorem Res.out_bad {α:Type} (δ:Fr) (f:α->Out):(Res.bad:Res α).out δ f=.bad:=rfl
noncomputable def Out.then (o:Out) (f:Fr->Out):Out:=match o with
 | .nxt δ=>f δ
 | .ret d=>.ret d
 | .exc c δ=>.exc c δ
 | .bad=>.bad
@[simp] theorem Out.then_nxt (δ:Fr) (f:Fr->Out):(Out.nxt δ).then f=f δ:=rfl
@[simp] theorem Out.then_ret (d:D) (f:Fr->Out):(Out.ret d).then f=.ret d:=rfl
@[simp] theorem Out.then_exc (c:Nat) (δ:Fr) (f:Fr->Out):(Out.exc c δ).then f=.exc c δ:=rfl
@[simp] theorem Out.then_bad (f:Fr->Out):Out.bad.then f=.bad:=rfl
noncomputable def AO (c:Fr->Res Bool) (b:Fr->Out):Nat->Fr->Out
 | 0,_=>.bad
 | n + 1,δ=>(c δ).out δ fun t=>if t then (b δ).then (AO c b n) else .nxt δ
noncomputable def AC (tg:Tg) (b:Fr->Out):List D->Fr->Out
 | [],δ=>.nxt δ
 | d :: ds,δ=>match CC tg d δ with
  | some δ'=>(b δ').then (AC tg b ds)
  | none=>.bad
noncomputable def FU:Nat:=1073741824
mutual
noncomputable def ex:S->Fr->Out
 | .dem _ _,δ=>.nxt δ
 | .dead _,δ=>.nxt δ
 | .asg x _ e,δ=>(ev e δ).out δ fun d=>.nxt (δ.set x (some d))
 | .asgT xs e,δ=>(ev e δ).out δ fun d=>match CC (.tp xs) d δ with
  | some δ'=>.nxt δ'
  | none=>.bad
 | .set x p i e,δ=>(ev e δ).out δ fun d=>match evP p δ,ev i δ with
  | .ok q,.ok (.int n)=>upd δ x (BV (CS n d) q)
  | _,_=>.bad
 | .mut x p m es,δ=>match evP p δ,evs es δ with
  | .ok q,.ok ds=>upd δ x (BV (umD m ds) q)
  | _,_=>.bad
 | .expr e,δ=>(ev e δ).out δ fun _=>.nxt δ
 | .iff c a b,δ=>(tv c δ).out δ fun t=>if t then exs a δ else exs b δ
 | .wh c b,δ=>AO (tv c) (exs b) FU δ
 | .for_ tg it b,δ=>(evI it δ).out δ fun ds=>AC tg (exs b) ds δ
 | .ret e,δ=>(ev e δ).out δ fun d=>.ret d
 | .raise c es,δ=>(evs es δ).out δ fun _=>.exc c δ
 | .swp x i j,δ=>match get δ i,get δ j with
  | .ok (.int a),.ok (.int b)=>upd δ x (BV (Gy a b) [])
  | _,_=>.bad
noncomputable def exs:Ss->Fr->Out
 | .nil,δ=>.nxt δ
 | .cons s r,δ=>(ex s δ).then (exs r)
end
noncomputable def AG (n:Nat) (ds:List D):Fr:=ds.map some ++ aai (n - ds.length) none
noncomputable def run (n:Nat) (b:Ss) (ds:List D):Res D:=match exs b (AG n ds) with
 | .nxt _=>.ok .non
 | .ret d=>.ok d
 | .exc c _=>.exc c
 | .bad=>.bad
end Pu
end
section
namespace Pu
open PySem PySem.W L2
inductive T where
 | non
 | bl (b:Bool)
 | int (i:Int)
 | str (x:Str)
 | tup (a:Addr) (ts:List T)
 | lst (a:Addr) (ts:List T)
 | exn (a:Addr) (c:Nat)
noncomputable def T.val:T->V
 | .non=>.non
 | .bl b=>.bl b
 | .int i=>.int i
 | .str x=>.str x
 | .tup a _=>.ref a
 | .lst a _=>.ref a
 | .exn a _=>.ref a
mutual
noncomputable def T.dat:T->D
 | .non=>.non
 | .bl b=>.bl b
 | .int i=>.int i
 | .str x=>.str x
 | .tup _ ts=>.tup (T.dats ts)
 | .lst _ ts=>.lst (T.dats ts)
 | .exn _ c=>.exn c
noncomputable def T.dats:List T->List D
 | []=>[]
 | t :: r=>t.dat :: T.dats r
end
theorem T.dats_map:∀ ts:List T,T.dats ts=ts.map T.dat
 | []=>rfl
 | t :: r=>by simp [T.dats,T.dats_map r]
structure Px where
 K:Frag
 cl:Nat->Addr
 has:Nat->Bool
noncomputable def exO (p:Px) (a:Addr) (c:Nat):HO:=if c=999 then dO a else xO a (p.cl c)
theorem Qc {p:Px} {a:Addr} {c:Nat} (vs:List V):exO p a c ≠ .lst vs:=by
 unfold exO
 split
 ·intro e; cases e
 ·intro e; cases e
mutual
noncomputable def T.Ok (p:Px) (H:Hp):T->Prop
 | .tup a ts=>H a=some (.tup (ts.map T.val))/\T.Oks p H ts
 | .lst a ts=>Rd H a (.lst (ts.map T.val))/\T.Oks p H ts
 | .exn a c=>H a=some (exO p a c)/\(c=999\/p.has c=true)
 | .non=>True
 | .bl _=>True
 | .int _=>True
 | .str _=>True
noncomputable def T.Oks (p:Px) (H:Hp):List T->Prop
 | []=>True
 | t :: r=>t.Ok p H/\T.Oks p H r
noncomputable def T.adr:T->Nat->List Addr
 | .tup _ ts,k=>T.adrs ts k
 | .lst _ _,0=>[]
 | .lst a ts,k + 1=>a :: T.adrs ts k
 | .non,_=>[]
 | .bl _,_=>[]
 | .int _,_=>[]
 | .str _,_=>[]
 | .exn _ _,_=>[]
noncomputable def T.adrs:List T->Nat->List Addr
 | [],_=>[]
 | t :: r,k=>t.adr k ++ T.adrs r k
noncomputable def T.rest:T->Nat->List Addr
 | .tup _ ts,k=>T.rests ts k
 | .lst a ts,0=>a :: T.rests ts 0
 | .lst _ ts,k + 1=>T.rests ts k
 | .non,_=>[]
 | .bl _,_=>[]
 | .int _,_=>[]
 | .str _,_=>[]
 | .exn _ _,_=>[]
noncomputable def T.rests:List T->Nat->List Addr
 | [],_=>[]
 | t :: r,k=>t.rest k ++ T.rests r k
end
theorem T.ind {P:T->Prop} (h0:P .non) (h1:∀ b,P (.bl b)) (h2:∀ i,P (.int i)) (h3:∀ x,P (.str x)) (h4:∀ a ts,(∀ t ∈ ts,P t)->P (.tup a ts)) (h5:∀ a ts,(∀ t ∈ ts,P t)->P (.lst a ts)) (h6:∀ a c,P (.exn a c)):∀ t,P t
 | .non=>h0
 | .bl b=>h1 b
 | .int i=>h2 i
 | .str x=>h3 x
 | .tup a ts=>h4 a ts fun t h=>T.ind h0 h1 h2 h3 h4 h5 h6 t
 | .lst a ts=>h5 a ts fun t h=>T.ind h0 h1 h2 h3 h4 h5 h6 t
 | .exn a c=>h6 a c
termination_by t=>t
theorem T.oks_iff {p:Px} {H:Hp}:∀ {ts:List T},T.Oks p H ts ↔ ∀ t ∈ ts,t.Ok p H
 | []=>by simp [T.Oks]
 | t :: r=>by simp [T.Oks,T.oks_iff (ts:=r)]
theorem T.mem_adrs {a:Addr} {k:Nat}:∀ {ts:List T},a ∈ T.adrs ts k ↔ ∃ t ∈ ts,a ∈ t.adr k
 | []=>by simp [T.adrs]
 | t :: r=>by simp [T.adrs,T.mem_adrs (ts:=r)]
theorem T.mem_rests {a:Addr} {k:Nat}:∀ {ts:List T},a ∈ T.rests ts k ↔ ∃ t ∈ ts,a ∈ t.rest k
 | []=>by simp [T.rests]
 | t :: r=>by simp [T.rests,T.mem_rests (ts:=r)]
theorem T.adrs_append {k:Nat}:∀ {ts us:List T},T.adrs (ts ++ us) k=T.adrs ts k ++ T.adrs us k
 | [],us=>by simp [T.adrs]
 | t :: r,us=>by simp [T.adrs,T.adrs_append (ts:=r)]
theorem T.rests_append {k:Nat}:∀ {ts us:List T},T.rests (ts ++ us) k=T.rests ts k ++ T.rests us k
 | [],us=>by simp [T.rests]
 | t :: r,us=>by simp [T.rests,T.rests_append (ts:=r)]
theorem T.adr_zero:∀ t:T,t.adr 0=[]:=by
 refine T.ind rfl (fun _=>rfl) (fun _=>rfl) (fun _=>rfl) (fun a ts ih=>?_) (fun _ _ _=>by simp [T.adr]) (fun _ _=>rfl)
 simp only [T.adr]
 refine aaN.mpr fun b hb=>?_
 obtain ⟨t,ht,h⟩:=T.mem_adrs.mp hb
 rw [ih t ht] at h; cases h
theorem T.adrs_zero (ts:List T):T.adrs ts 0=[]:=by
 refine aaN.mpr fun b hb=>?_
 obtain ⟨t,ht,h⟩:=T.mem_adrs.mp hb
 rw [T.adr_zero] at h; cases h
theorem T.all_iff {a:Addr}:∀ (t:T) (k:Nat),a ∈ t.rest 0 ↔ a ∈ t.adr k\/a ∈ t.rest k:=by
 refine T.ind (by simp [T.rest,T.adr]) (by simp [T.rest,T.adr]) (by simp [T.rest,T.adr]) (by simp [T.rest,T.adr]) (fun b ts ih k=>?_) (fun b ts ih k=>?_) (by simp [T.rest,T.adr])
 ·simp only [T.rest,T.adr,T.mem_rests,T.mem_adrs]
  constructor
  ·rintro ⟨t,ht,h⟩
   rcases (ih t ht k).mp h with h | h
   ·exact .inl ⟨t,ht,h⟩
   ·exact .inr ⟨t,ht,h⟩
  ·rintro (⟨t,ht,h⟩ | ⟨t,ht,h⟩)
   ·exact ⟨t,ht,(ih t ht k).mpr (.inl h)⟩
   ·exact ⟨t,ht,(ih t ht k).mpr (.inr h)⟩
 ·cases k with
  | zero=>simp [T.adr]
  | succ k =>
   simp only [T.rest,T.adr,T.mem_rests,T.mem_adrs,aaj]
   constructor
   ·rintro (h | ⟨t,ht,h⟩)
    ·exact .inl (.inl h)
    rcases (ih t ht k).mp h with h | h
    ·exact .inl (.inr ⟨t,ht,h⟩)
    ·exact .inr ⟨t,ht,h⟩
   ·rintro ((h | ⟨t,ht,h⟩) | ⟨t,ht,h⟩)
    ·exact .inl h
    ·exact .inr ⟨t,ht,(ih t ht k).mpr (.inl h)⟩
    ·exact .inr ⟨t,ht,(ih t ht k).mpr (.inr h)⟩
theorem T.alls_iff {a:Addr} (ts:List T) (k:Nat):a ∈ T.rests ts 0 ↔ a ∈ T.adrs ts k\/a ∈ T.rests ts k:=by
 simp only [T.mem_rests,T.mem_adrs]
 constructor
 ·rintro ⟨t,ht,h⟩
  rcases (T.all_iff t k).mp h with h | h
  ·exact .inl ⟨t,ht,h⟩
  ·exact .inr ⟨t,ht,h⟩
 ·rintro (⟨t,ht,h⟩ | ⟨t,ht,h⟩)
  ·exact ⟨t,ht,(T.all_iff t k).mpr (.inl h)⟩
  ·exact ⟨t,ht,(T.all_iff t k).mpr (.inr h)⟩
theorem T.rest_le {a:Addr}:∀ (t:T) {j j':Nat},j<=j'->a ∈ t.rest j'->a ∈ t.rest j:=by
 refine T.ind (by simp [T.rest]) (by simp [T.rest]) (by simp [T.rest]) (by simp [T.rest]) (fun b ts ih j j' hj h=>?_) (fun b ts ih j j' hj h=>?_) (by simp [T.rest])
 ·simp only [T.rest,T.mem_rests] at h ⊢
  obtain ⟨t,ht,h⟩:=h
  exact ⟨t,ht,ih t ht hj h⟩
 ·cases j' with
  | zero=>cases Nat.le_zero.mp hj; exact h
  | succ j' =>
   simp only [T.rest,T.mem_rests] at h
   obtain ⟨t,ht,h⟩:=h
   cases j with
   | zero=>exact aab _ (T.mem_rests.mpr ⟨t,ht,ih t ht (aas _) h⟩)
   | succ j=>exact T.mem_rests.mpr ⟨t,ht,ih t ht (abE hj) h⟩
theorem T.adr_le {a:Addr}:∀ (t:T) {j j':Nat},j<=j'->a ∈ t.adr j->a ∈ t.adr j':=by
 refine T.ind (by simp [T.adr]) (by simp [T.adr]) (by simp [T.adr]) (by simp [T.adr]) (fun b ts ih j j' hj h=>?_) (fun b ts ih j j' hj h=>?_) (by simp [T.adr])
 ·simp only [T.adr,T.mem_adrs] at h ⊢
  obtain ⟨t,ht,h⟩:=h
  exact ⟨t,ht,ih t ht hj h⟩
 ·cases j with
  | zero=>simp [T.adr] at h
  | succ j =>
   cases j' with
   | zero=>omega
   | succ j' =>
    simp only [T.adr,aaj,T.mem_adrs] at h ⊢
    rcases h with h | ⟨t,ht,h⟩
    ·exact .inl h
    ·exact .inr ⟨t,ht,ih t ht (abE hj) h⟩
noncomputable def T.Nd (t:T) (k:Nat):Prop:=(t.adr k).Nodup/\∀ a ∈ t.rest k,a ∉ t.adr k
noncomputable def T.Nds (ts:List T) (k:Nat):Prop:=(T.adrs ts k).Nodup/\∀ a ∈ T.rests ts k,a ∉ T.adrs ts k
theorem T.nd_zero (t:T):t.Nd 0:=by unfold T.Nd; rw [T.adr_zero]; exact ⟨List.nodup_nil,fun _ _ h=>nomatch h⟩
theorem T.nds_zero (ts:List T):T.Nds ts 0:=by unfold T.Nds; rw [T.adrs_zero]; exact ⟨List.nodup_nil,fun _ _ h=>nomatch h⟩
theorem T.nds_cons {t:T} {r:List T} {k:Nat}:T.Nds (t :: r) k ↔ t.Nd k/\T.Nds r k/\(∀ a ∈ t.adr k,a ∉ T.rests r 0)/\(∀ a ∈ T.adrs r k,a ∉ t.rest 0):=by
 unfold T.Nds T.Nd
 simp only [T.adrs,T.rests,ack,aaf]
 constructor
 ·rintro ⟨⟨n1,n2,n3⟩,h⟩
  refine ⟨⟨n1,fun a ha hb=>h a (.inl ha) (.inl hb)⟩,⟨n2,fun a ha hb=>h a (.inr ha) (.inr hb)⟩,fun a ha hb=>?_,fun a ha hb=>?_⟩
  ·rcases (T.alls_iff r k).mp hb with q | q
   ·exact n3 a ha a q rfl
   ·exact h a (.inr q) (.inl ha)
  ·rcases (T.all_iff t k).mp hb with q | q
   ·exact n3 a q a ha rfl
   ·exact h a (.inl q) (.inr ha)
 ·rintro ⟨⟨n1,h1⟩,⟨n2,h2⟩,c1,c2⟩
  refine ⟨⟨n1,n2,fun a ha b hb e=>?_⟩,fun a ha hb=>?_⟩
  ·subst e
   exact c1 a ha ((T.alls_iff r k).mpr (.inl hb))
  ·rcases ha with ha | ha <;> rcases hb with hb | hb
   ·exact h1 a ha hb
   ·exact c2 a hb ((T.all_iff t k).mpr (.inr ha))
   ·exact c1 a hb ((T.alls_iff r k).mpr (.inr ha))
   ·exact h2 a ha hb
theorem T.nd_down:∀ (t:T) {k:Nat},t.Nd (k + 1)->t.Nd k:=by
 have lists:∀ (ts:List T),(∀ t ∈ ts,∀ {k:Nat},t.Nd (k + 1)->t.Nd k)->∀ {k:Nat},T.Nds ts (k + 1)->T.Nds ts k:=by
  intro ts
  induction ts with
  | nil=>intro _ k _; exact ⟨by simp [T.adrs],by simp [T.rests]⟩
  | cons t r ih =>
   intro h k n
   obtain ⟨n1,n2,c1,c2⟩:=T.nds_cons.mp n
   exact T.nds_cons.mpr ⟨h t (aac ..) n1,ih (fun u hu=>h u (aab _ hu)) n2,fun a ha=>c1 a (T.adr_le t (ab3 k) ha),fun a ha=>c2 a (by
    obtain ⟨u,hu,hq⟩:=T.mem_adrs.mp ha
    exact T.mem_adrs.mpr ⟨u,hu,T.adr_le u (ab3 k) hq⟩)⟩
 refine T.ind (fun _=>by simp [T.Nd,T.adr]) (fun _ _=>by simp [T.Nd,T.adr]) (fun _ _=>by simp [T.Nd,T.adr]) (fun _ _=>by simp [T.Nd,T.adr]) (fun a ts ih k n=>?_) (fun a ts ih k n=>?_) (fun _ _ _=>by simp [T.Nd,T.adr])
 ·exact lists ts ih n
 ·cases k with
  | zero=>exact T.nd_zero _
  | succ k =>
   obtain ⟨n1,n2⟩:=n
   simp only [T.adr,T.rest,aaC] at n1 n2
   have:=lists ts ih (k:=k) ⟨n1.2,fun b hb hc=>n2 b hb (aab _ hc)⟩
   refine ⟨?_,?_⟩
   ·simp only [T.adr,aaC]
    refine ⟨fun h=>n1.1 ?_,this.1⟩
    obtain ⟨u,hu,hq⟩:=T.mem_adrs.mp h
    exact T.mem_adrs.mpr ⟨u,hu,T.adr_le u (ab3 k) hq⟩
   ·intro b hb hc
    simp only [T.adr,T.rest,aaj] at hb hc
    rcases hc with rfl | hc
    ·have h0:=(T.alls_iff ts (k + 1)).mp ((T.alls_iff ts k).mpr (.inr hb))
     rcases h0 with h0 | h0
     ·exact n1.1 h0
     ·exact n2 b h0 (aac ..)
    ·exact this.2 b hb hc
theorem T.nd_le (t:T) {k k':Nat} (h:k<=k') (n:t.Nd k'):t.Nd k:=by
 induction k' with
 | zero=>cases Nat.le_zero.mp h; exact n
 | succ k' ih =>
  rcases acg k (k' + 1) with q | q
  ·exact ih (Nat.le_of_lt_succ q) (T.nd_down t n)
  ·cases ab0 h q; exact n
theorem T.nds_le {ts:List T} {k k':Nat} (h:k<=k') (n:T.Nds ts k'):T.Nds ts k:=by
 have:=T.nd_le (.tup 0 ts) h (k':=k') n
 exact this
theorem T.Ok.keep' {p:Px} {H H':Hp}:∀ (t:T),(∀ a u,H a=some u->(a ∈ t.rest 0\/∀ vs,u ≠ .lst vs)->H' a=some u)->t.Ok p H->t.Ok p H':=by
 refine T.ind (P:=fun t=>(∀ a u,H a=some u->(a ∈ t.rest 0\/∀ vs,u ≠ .lst vs)->H' a=some u)->t.Ok p H->t.Ok p H') (fun _ h=>h) (fun _ _ h=>h) (fun _ _ h=>h) (fun _ _ h=>h) (fun a ts ih k h=>?_) (fun a ts ih k h=>?_) (fun a c k h=>?_)
 ·obtain ⟨h1,h2⟩:=h
  refine ⟨k _ _ h1 (.inr fun vs e=>nomatch e),T.oks_iff.mpr fun t ht=>ih t ht (fun b u e q=>k b u e ?_) (T.oks_iff.mp h2 t ht)⟩
  rcases q with q | q
  ·exact .inl (T.mem_rests.mpr ⟨t,ht,q⟩)
  ·exact .inr q
 ·obtain ⟨h1,h2⟩:=h
  refine ⟨?_,T.oks_iff.mpr fun t ht=>ih t ht (fun b u e q=>k b u e ?_) (T.oks_iff.mp h2 t ht)⟩
  ·rcases h1 with h1 | ⟨o,h1⟩
   ·exact .inl (k _ _ h1 (.inl (aac ..)))
   ·exact .inr ⟨o,k _ _ h1 (.inl (aac ..))⟩
  ·rcases q with q | q
   ·exact .inl (aab _ (T.mem_rests.mpr ⟨t,ht,q⟩))
   ·exact .inr q
 ·exact ⟨k _ _ h.1 (.inr Qc),h.2⟩
theorem T.Ok.keep {p:Px} {H H':Hp} {t:T} (k:∀ a u,H a=some u->(a ∈ t.rest 0\/∀ vs,u ≠ .lst vs)->H' a=some u) (h:t.Ok p H):t.Ok p H':=T.Ok.keep' t k h
theorem T.Ok.same {p:Px} {H H':Hp} {t:T} (s:Same H H') (h:t.Ok p H):t.Ok p H':=h.keep fun a u e _=>s a u e
theorem T.Oks.same {p:Px} {H H':Hp} {ts:List T} (s:Same H H') (h:T.Oks p H ts):T.Oks p H' ts:=T.oks_iff.mpr fun t ht=>(T.oks_iff.mp h t ht).same s
theorem T.Ok.at' {p:Px} {H:Hp} {a:Addr}:∀ (t:T),t.Ok p H->a ∈ t.rest 0->∃ vs,Rd H a (.lst vs):=by
 refine T.ind (P:=fun t=>t.Ok p H->a ∈ t.rest 0->∃ vs,Rd H a (.lst vs)) (fun _ h=>nomatch h) (fun _ _ h=>nomatch h) (fun _ _ h=>nomatch h) (fun _ _ h=>nomatch h) (fun b ts ih k h=>?_) (fun b ts ih k h=>?_) (fun _ _ _ h=>nomatch h)
 ·obtain ⟨t,ht,q⟩:=T.mem_rests.mp h
  exact ih t ht (T.oks_iff.mp k.2 t ht) q
 ·rcases aaj.mp h with rfl | h
  ·exact ⟨_,k.1⟩
  ·obtain ⟨t,ht,q⟩:=T.mem_rests.mp h
   exact ih t ht (T.oks_iff.mp k.2 t ht) q
theorem T.Ok.at {p:Px} {H:Hp} {a:Addr} {t:T} (h:t.Ok p H) (m:a ∈ t.rest 0):∃ vs,Rd H a (.lst vs):=T.Ok.at' t h m
theorem N8 {H:Hp} {a:Addr} {u:HO} (h:Rd H a u):H a ≠ none:=by
 rcases h with h | ⟨o,h⟩ <;> rw [h] <;> simp
theorem T.Ok.dom {p:Px} {H:Hp} {a:Addr} {t:T} (h:t.Ok p H) (m:a ∈ t.rest 0):H a ≠ none:=by
 obtain ⟨vs,r⟩:=h.at m
 exact N8 r
theorem T.Ok.domk {p:Px} {H:Hp} {a:Addr} {t:T} {k:Nat} (h:t.Ok p H) (m:a ∈ t.adr k):H a ≠ none:=h.dom ((T.all_iff t k).mpr (.inl m))
end Pu
end
section
namespace Pu
open PySem PySem.Spec PyProof.Rows PySem.W L2
noncomputable def gj (c:Bool) (x:Nat × Nat):Option (Nat × Nat):=if c then some x else none
mutual
noncomputable def jk (tn:List Nat):E->Option (Nat × Nat)
 | .nm i=>match tn[i]? with
  | some j=>gj (decide (j < 90)) (j,0)
  | none=>none
 | .cN=>some (0,9)
 | .cB _=>some (0,9)
 | .cI _=>some (0,9)
 | .cS _=>some (0,9)
 | .gl _ d=>gj (D.scal d) (0,9)
 | .tup es=>jks tn es
 | .lst es=>(jks tn es).bind fun x=>some (if x.1=0 then (0,x.2 + 1) else (x.1 + 1,0))
 | .bin _ a b=>(jk tn a).bind fun x=>(jk tn b).bind fun y=>gj (decide (x.1<=1) && decide (y.1<=1)) (0,1)
 | .neg a=>(jk tn a).bind fun _=>some (0,9)
 | .not a=>(jk tn a).bind fun _=>some (0,9)
 | .cmp _ a b=>(jk tn a).bind fun _=>(jk tn b).bind fun _=>some (0,9)
 | .chain _ _ a b c=>(jk tn a).bind fun _=>(jk tn b).bind fun _=>(jk tn c).bind fun _=>some (0,9)
 | .isN _ a=>(jk tn a).bind fun _=>some (0,9)
 | .bo _ es=>jks tn es
 | .ifx c a b=>(jk tn c).bind fun _=>(jk tn a).bind fun x=>(jk tn b).bind fun y=>some (max x.1 y.1,if max x.1 y.1=0 then min x.2 y.2 else 0)
 | .ix a i=>(jk tn a).bind fun x=>(jk tn i).bind fun _=>gj (decide (x.1=0)) (0,0)
 | .ixL a i=>(jk tn a).bind fun x=>(jk tn i).bind fun _=>some (x.1 - 1,0)
 | .ixT a i=>(jk tn a).bind fun x=>(jk tn i).bind fun _=>some (x.1,0)
 | .slc a lo hi=>(jk tn a).bind fun x=>(jk tn lo).bind fun _=>(jk tn hi).bind fun _=>gj (decide (x.1<=1)) (0,1)
 | .call f es=>(jks tn es).bind fun x=>gj (decide (x.1=0)) (0,f.dep)
 | .callB f es=>(jks tn es).bind fun _=>some (0,9)
 | .bi b es=>(jks tn es).bind fun x=>match b with
  | .list=>gj (decide (x.1=0)) (0,1)
  | .tupleL=>gj (decide (x.1<=1)) (0,0)
  | _=>some (0,9)
 | .isi a _=>(jk tn a).bind fun _=>some (0,9)
 | .comp0 nl fr _ it elt=>(jkI tn it).bind fun _=>(jk (aai nl 0 ++ fr.map fun j=>tn.getD j 99) elt).bind fun x=>gj (decide (x.1=0)) (0,x.2 + 1)
 | .comp1 nl fr _ it cond elt=>(jkI tn it).bind fun _=>(jk (aai nl 0 ++ fr.map fun j=>tn.getD j 99) cond).bind fun _ =>
   (jk (aai nl 0 ++ fr.map fun j=>tn.getD j 99) elt).bind fun x=>gj (decide (x.1=0)) (0,x.2 + 1)
noncomputable def jks (tn:List Nat):Es->Option (Nat × Nat)
 | .nil=>some (0,9)
 | .cons e r=>(jk tn e).bind fun x=>(jks tn r).bind fun y=>some (max x.1 y.1,if max x.1 y.1=0 then min x.2 y.2 else 0)
noncomputable def jkI (tn:List Nat):It->Option Nat
 | .seq e=>(jk tn e).bind fun x=>if x.1=0 then some 0 else none
 | .seqL e=>(jk tn e).bind fun x=>if x.1<=1 then some x.1 else none
 | .r1 a=>(jk tn a).bind fun _=>some 0
end
noncomputable abbrev St:=L2.St
noncomputable abbrev Ft:=List (Option T)
noncomputable def vτ (τ:Ft):St:=τ.map (Option.map T.val)
noncomputable def dτ (τ:Ft):Fr:=τ.map (Option.map T.dat)
noncomputable def Fok (p:Px) (tn:List Nat) (τ:Ft) (H:Hp):Prop:=∀ (i:Nat) (t:T) (j:Nat),τ[i]?=some (some t)->tn[i]?=some j->j < 90->t.Ok p H
noncomputable def Sh (tn:List Nat) (τ:Ft) (a:Addr):Prop:=∃ (i:Nat) (t:T) (j:Nat),τ[i]?=some (some t)/\tn[i]?=some j/\j < 90/\a ∈ t.rest j
theorem Fok.same {p:Px} {tn:List Nat} {τ:Ft} {H H':Hp} (h:Fok p tn τ H) (s:Same H H'):Fok p tn τ H':=fun i t j e e' l=>(h i t j e e' l).same s
theorem Fok.dom {p:Px} {tn:List Nat} {τ:Ft} {H:Hp} (h:Fok p tn τ H) {a:Addr} (s:Sh tn τ a):H a ≠ none:=by
 obtain ⟨i,t,j,e,e',l,m⟩:=s
 exact (h i t j e e' l).dom (T.rest_le t (aas j) m)
theorem Cb {τ:Ft} {i:Nat} {t:T} (h:τ[i]?=some (some t)):(vτ τ)[i]?=some (some t.val):=by simp [vτ,h]
theorem De {τ:Ft} {i:Nat} {d:D} (h:get (dτ τ) i=.ok d):∃ t,τ[i]?=some (some t)/\t.dat=d:=by
 unfold get dτ at h
 rw [aao] at h
 cases q:τ[i]? with
 | none=>rw [q] at h; cases h
 | some o =>
  rw [q] at h
  cases o with
  | none=>cases h
  | some t=>exact ⟨t,rfl,by simpa using h⟩
structure Rs (p:Px) (B:Addr->Prop) (H H':Hp) (j k:Nat) (t:T):Prop where
 same:Same H H'
 ok:t.Ok p H'
 src:∀ a ∈ t.rest j,H a=none\/B a
 new:∀ a ∈ t.adr k,H a=none/\∃ vs,H' a=some (.lst vs)
 nd:t.Nd k
structure RsL (p:Px) (B:Addr->Prop) (H H':Hp) (j k:Nat) (ts:List T):Prop where
 same:Same H H'
 ok:T.Oks p H' ts
 src:∀ a ∈ T.rests ts j,H a=none\/B a
 new:∀ a ∈ T.adrs ts k,H a=none/\∃ vs,H' a=some (.lst vs)
 nd:T.Nds ts k
theorem Rs.back {p:Px} {B:Addr->Prop} {H H1 H2:Hp} {j k:Nat} {t:T} (r:Rs p B H1 H2 j k t) (s:Same H H1):Rs p B H H2 j k t :=
 ⟨s.trans r.same,r.ok,fun a m=>(r.src a m).imp s.free id,fun a m=>⟨s.free (r.new a m).1,(r.new a m).2⟩,r.nd⟩
theorem Rs.fwd {p:Px} {B:Addr->Prop} {H H1 H2:Hp} {j k:Nat} {t:T} (r:Rs p B H H1 j k t) (s:Same H1 H2):Rs p B H H2 j k t :=
 ⟨r.same.trans s,r.ok.same s,r.src,fun a m=>⟨(r.new a m).1,let ⟨vs,e⟩:=(r.new a m).2; ⟨vs,s _ _ e⟩⟩,r.nd⟩
theorem Rs.le {p:Px} {B:Addr->Prop} {H H1:Hp} {j k j' k':Nat} {t:T} (r:Rs p B H H1 j k t) (hj:j<=j') (hk:k'<=k):Rs p B H H1 j' k' t :=
 ⟨r.same,r.ok,fun a m=>r.src a (T.rest_le t hj m),fun a m=>r.new a (T.adr_le t hk m),T.nd_le t hk r.nd⟩
theorem RsL.back {p:Px} {B:Addr->Prop} {H H1 H2:Hp} {j k:Nat} {t:List T} (r:RsL p B H1 H2 j k t) (s:Same H H1):RsL p B H H2 j k t :=
 ⟨s.trans r.same,r.ok,fun a m=>(r.src a m).imp s.free id,fun a m=>⟨s.free (r.new a m).1,(r.new a m).2⟩,r.nd⟩
noncomputable def T.sc:T->Bool
 | .non=>true
 | .bl _=>true
 | .int _=>true
 | .str _=>true
 | _=>false
theorem Rs.scal {p:Px} {B:Addr->Prop} {H H':Hp} {j k:Nat} {t:T} (s:Same H H') (h:t.sc=true):Rs p B H H' j k t:=by
 cases t <;> first | exact ⟨s,trivial,by simp [T.rest],by simp [T.adr],by simp [T.Nd,T.adr]⟩ | cases h
noncomputable def Lg {α:Type} (p:Px) (EX:EXT) (σ:St) (r:Res α) (H:Hp) (Kc:α->Prop):Prop:=match r with
 | .ok a=>Kc a
 | .exc c=>p.has c=true->∀ H',Same H H'->EX σ (.ref (p.cl c)) none H'
 | .bad=>False
theorem Lg.bind {α β:Type} {p:Px} {EX:EXT} {σ:St} {r:Res α} {f:α->Res β} {H:Hp} {Kc:β->Prop} (h:Lg p EX σ (r.bind f) H Kc):Lg p EX σ r H fun a=>Lg p EX σ (f a) H Kc:=by
 cases r <;> exact h
theorem Lg.mono {α:Type} {p:Px} {EX:EXT} {σ:St} {r:Res α} {H H1:Hp} {Kc Kc':α->Prop} (h:Lg p EX σ r H Kc) (s:Same H H1) (m:∀ a,r=.ok a->Kc a->Kc' a):Lg p EX σ r H1 Kc':=by
 cases r with
 | ok a=>exact m a rfl h
 | exc c=>exact fun hc H' s'=>h hc H' (s.trans s')
 | bad=>exact h
theorem Lg.guard {α:Type} {p:Px} {EX:EXT} {σ:St} {c:Prop} [Decidable c] {r:Res α} {H:Hp} {Kc:α->Prop} (h:Lg p EX σ (if c then r else .bad) H Kc):c/\Lg p EX σ r H Kc:=by
 split at h
 ·exact ⟨‹_›,h⟩
 ·exact nE h
noncomputable abbrev KE (p:Px) (B:Addr->Prop) (H:Hp) (j k:Nat) (Q:VK):D->Prop:=fun d=>∀ t H',t.dat=d->Rs p B H H' j k t->Q t.val H'
noncomputable abbrev KL (p:Px) (B:Addr->Prop) (H:Hp) (j k:Nat) (Q:List V->Hp->Prop):List D->Prop:=fun ds=>∀ ts H',T.dats ts=ds->RsL p B H H' j k ts->Q (ts.map T.val) H'
noncomputable def lE (p:Px) (EX:EXT) (tn:List Nat) (e:E):TE:=fun σ H Q=>∃ τ,σ=vτ τ/\Fok p tn τ H/\∃ j k,jk tn e=some (j,k)/\Lg p EX σ (ev e (dτ τ)) H (KE p (Sh tn τ) H j k Q)
noncomputable def lEs (p:Px) (EX:EXT) (tn:List Nat) (es:Es):TA:=fun σ H Q=>∃ τ,σ=vτ τ/\Fok p tn τ H/\∃ j k,jks tn es=some (j,k)/\Lg p EX σ (evs es (dτ τ)) H (KL p (Sh tn τ) H j k Q)
noncomputable def lT (p:Px) (EX:EXT) (tn:List Nat) (e:E):TT:=fun σ H Q=>∃ τ,σ=vτ τ/\Fok p tn τ H/\(jk tn e).isSome=true/\Lg p EX σ (tv e (dτ τ)) H fun b=>∀ H',Same H H'->Q b H'
theorem PE.mono {X:Cx} {e:Expr} {t t':TE} (h:PE X e t) (m:∀ σ H Q,t' σ H Q->t σ H Q):PE X e t':=fun pins s σ H Q I q=>h pins s σ H Q I (m _ _ _ q)
theorem PT.mono {X:Cx} {e:Expr} {t t':TT} (h:PT X e t) (m:∀ σ H Q,t' σ H Q->t σ H Q):PT X e t':=fun pins s σ H Q I q=>h pins s σ H Q I (m _ _ _ q)
theorem PA.mono {X:Cx} {e:List Expr} {t t':TA} (h:PA X e t) (m:∀ σ H Q,t' σ H Q->t σ H Q):PA X e t':=fun pos pins s σ H Q I q=>h pos pins s σ H Q I (m _ _ _ q)
section
variable {p:Px} {EX:EXT} {tn:List Nat} {X:Cx} {pos:Pos}
theorem Dr {c:Bool} {x:Nat × Nat} {j k:Nat} (h:gj c x=some (j,k)):c=true/\x=(j,k):=by
 unfold gj at h
 split at h
 ·exact ⟨‹_›,Option.some.inj h⟩
 ·cases h
theorem l1 {x:E} {β:Type} {f:D->Res β} {τ:Ft} {H:Hp} {Kc:β->Prop} {Q:VK} {ja ka:Nat} (hF:Fok p tn τ H) (hj:jk tn x=some (ja,ka)) (h:Lg p EX (vτ τ) ((ev x (dτ τ)).bind f) H Kc)
  (m:∀ d t H1,t.dat=d->Rs p (Sh tn τ) H H1 ja ka t->Lg p EX (vτ τ) (f d) H Kc->Q t.val H1):lE p EX tn x (vτ τ) H Q :=
 ⟨τ,rfl,hF,ja,ka,hj,h.bind.mono (Same.refl _) fun d _ hd t H1 ht R=>m d t H1 ht R hd⟩
theorem l2 {x:E} {β:Type} {f:D->Res β} {τ:Ft} {H H1:Hp} {Kc:β->Prop} {Q:VK} {ja ka:Nat} (hF:Fok p tn τ H) (s:Same H H1) (hj:jk tn x=some (ja,ka)) (h:Lg p EX (vτ τ) ((ev x (dτ τ)).bind f) H Kc)
  (m:∀ d t H2,t.dat=d->Rs p (Sh tn τ) H1 H2 ja ka t->Lg p EX (vτ τ) (f d) H Kc->Q t.val H2):lE p EX tn x (vτ τ) H1 Q :=
 ⟨τ,rfl,hF.same s,ja,ka,hj,h.bind.mono s fun d _ hd t H2 ht R=>m d t H2 ht R hd⟩
theorem Qd {i:Nat} {x:Str} (hN:X.N[i]?=some x) (hv:Vis X.env.scope x) (hd:(x==("__debug__" : Str))=false) (hcd:(x==("__classdict__" : Str))=false):PE X (.Name x pos) (lE p EX tn (.nm i)):=by
 refine PE.mono (Ex hN hv hd hcd) fun σ H Q h=>?_
 obtain ⟨τ,rfl,hF,j,k,hj,h⟩:=h
 simp only [jk] at hj
 split at hj
 ·rename_i j' hj'
  obtain ⟨hlt,e⟩:=Dr hj
  cases e
  simp only [ev] at h
  cases q:get (dτ τ) i with
  | ok d =>
   rw [q] at h
   obtain ⟨t,ht,e⟩:=De q
   exact ⟨t.val,Cb ht,h t H e ⟨Same.refl _,hF i t j ht hj' (of_decide_eq_true hlt),fun a m=>.inr ⟨i,t,j,ht,hj',of_decide_eq_true hlt,m⟩,by rw [T.adr_zero]; simp,T.nd_zero t⟩⟩
  | exc c=>rw [q] at h; unfold get at q; split at q <;> cases q
  | bad=>rw [q] at h; exact h.elim
 ·cases hj
theorem Gz {e:Expr} {x:E} {t:T} (hp:PE X e (tC t.val)) (hs:t.sc=true) (he:∀ δ,ev x δ=.ok t.dat):PE X e (lE p EX tn x):=by
 refine PE.mono hp fun σ H Q h=>?_
 obtain ⟨τ,rfl,hF,j,k,hj,h⟩:=h
 rw [he] at h
 exact h t H rfl (Rs.scal (Same.refl _) hs)
theorem N9 {B:Addr->Prop} {H H1 H2:Hp} {j1 k1 j2 k2:Nat} {t:T} {ts:List T} (hB:∀ a,B a->H a ≠ none) (r:Rs p B H H1 j1 k1 t) (q:RsL p B H1 H2 j2 k2 ts):RsL p B H H2 (max j1 j2) (if max j1 j2=0 then min k1 k2 else 0) (t :: ts):=by
 have r2:=r.fwd q.same
 refine ⟨r2.same,⟨r2.ok,q.ok⟩,fun a m=>?_,fun a m=>?_,?_⟩
 ·simp only [T.rests,aaf] at m
  rcases m with m | m
  ·exact r.src a (T.rest_le t (Nat.le_max_left ..) m)
  ·obtain ⟨u,hu,m⟩:=T.mem_rests.mp m
   exact (q.src a (T.mem_rests.mpr ⟨u,hu,T.rest_le u (Nat.le_max_right ..) m⟩)).imp r.same.free id
 ·split at m
  ·simp only [T.adrs,aaf] at m
   rcases m with m | m
   ·exact r2.new a (T.adr_le t (aby ..) m)
   ·obtain ⟨u,hu,m⟩:=T.mem_adrs.mp m
    have z:=q.new a (T.mem_adrs.mpr ⟨u,hu,T.adr_le u (abh ..) m⟩)
    exact ⟨r.same.free z.1,z.2⟩
  ·rw [T.adrs_zero] at m; cases m
 ·split
  ·rename_i hz
   have h1:j1=0:=by omega
   have h2:j2=0:=by omega
   subst h1 h2
   refine T.nds_cons.mpr ⟨T.nd_le t (aby ..) r.nd,T.nds_le (abh ..) q.nd,fun a m m'=>?_,fun a m m'=>?_⟩
   ·have m1:=T.adr_le t (aby k1 k2) m
    rcases q.src a m' with z | z
    ·exact r.ok.domk m1 z
    ·exact hB a z (r.new a m1).1
   ·obtain ⟨u,hu,m⟩:=T.mem_adrs.mp m
    exact r.ok.dom m' (q.new a (T.mem_adrs.mpr ⟨u,hu,T.adr_le u (abh ..) m⟩)).1
  ·exact T.nds_zero _
theorem MM:PA X [] (lEs p EX tn .nil):=by
 refine PA.mono EZ fun σ H Q h=>?_
 obtain ⟨τ,rfl,hF,j,k,hj,h⟩:=h
 exact h [] H rfl ⟨Same.refl _,trivial,by simp [T.rests],by simp [T.adrs],by simp [T.Nds,T.adrs]⟩
theorem LA {e:Expr} {es:List Expr} {x:E} {xs:Es} (he:PE X e (lE p EX tn x)) (hes:PA X es (lEs p EX tn xs)) (hs:starEach (e :: es) X.env=(false,eval e X.env) :: starEach es X.env):PA X (e :: es) (lEs p EX tn (.cons x xs)):=by
 refine PA.mono (Db he hes hs) fun σ H Q h=>?_
 obtain ⟨τ,rfl,hF,j,k,hj,h⟩:=h
 simp only [jks] at hj
 obtain ⟨⟨j1,k1⟩,h1,hj⟩:=bS hj
 obtain ⟨⟨j2,k2⟩,h2,hj⟩:=bS hj
 cases hj
 simp only [evs] at h
 refine l1 hF h1 h fun d t H1 ht R h=>?_
 refine ⟨τ,rfl,hF.same R.same,j2,k2,h2,h.bind.mono R.same fun ds _ hd ts H2 hts R2=>?_⟩
 exact hd (t :: ts) H2 (by simp [T.dats,ht,hts]) (N9 (fun a=>hF.dom) R R2)
end
section
variable {p:Px} {EX:EXT} {tn:List Nat} {X:Cx} {pos:Pos}
theorem LB {B:Addr->Prop} {H H1:Hp} {j k:Nat} {a:Addr} {ts:List T} (r:RsL p B H H1 j k ts) (hn:H1 a=none):Rs p B H (L2.upd H1 a (.tup (ts.map T.val))) j k (.tup a ts):=by
 have s:=Same.new (o:=.tup (ts.map T.val)) hn
 exact ⟨r.same.trans s,⟨AJ,r.ok.same s⟩,r.src,fun b m=>⟨(r.new b m).1,let ⟨vs,e⟩:=(r.new b m).2; ⟨vs,s _ _ e⟩⟩,r.nd⟩
theorem LD {B:Addr->Prop} {H H1:Hp} {j k:Nat} {a:Addr} {ts:List T} (r:RsL p B H H1 j k ts) (hn:H1 a=none) :
  Rs p B H (L2.upd H1 a (.lst (ts.map T.val))) (if j=0 then 0 else j + 1) (if j=0 then k + 1 else 0) (.lst a ts):=by
 have s:=Same.new (o:=.lst (ts.map T.val)) hn
 have ha:H a=none:=r.same.free hn
 refine ⟨r.same.trans s,⟨.inl AJ,r.ok.same s⟩,fun b m=>?_,fun b m=>?_,?_⟩
 ·split at m
  ·rename_i e
   subst e
   simp only [T.rest,aaj] at m
   rcases m with rfl | m
   ·exact .inl ha
   ·exact r.src b m
  ·exact r.src b m
 ·split at m
  ·simp only [T.adr,aaj] at m
   rcases m with rfl | m
   ·exact ⟨ha,_,AJ⟩
   ·exact ⟨(r.new b m).1,let ⟨vs,e⟩:=(r.new b m).2; ⟨vs,s _ _ e⟩⟩
  ·rw [T.adr_zero] at m; cases m
 ·split
  ·rename_i e
   subst e
   have out:a ∉ T.rests ts 0:=fun m=>by
    obtain ⟨t,ht,m⟩:=T.mem_rests.mp m
    exact (T.oks_iff.mp r.ok t ht).dom m hn
   refine ⟨?_,fun b m m'=>?_⟩
   ·simp only [T.adr,aaC]
    exact ⟨fun m=>out ((T.alls_iff ts k).mpr (.inl m)),r.nd.1⟩
   ·simp only [T.adr,T.rest,aaj] at m m'
    rcases m' with rfl | m'
    ·exact out ((T.alls_iff ts k).mpr (.inr m))
    ·exact r.nd.2 b m m'
  ·exact T.nd_zero _
theorem Ad:∀ ts:List T,(T.dats ts).length=ts.length:=fun ts=>by rw [T.dats_map,aaa]
noncomputable def Es.len:Es->Nat
 | .nil=>0
 | .cons _ r=>r.len + 1
theorem Cc:∀ (es:Es) (δ:Fr) (ds:List D),evs es δ=.ok ds->ds.length=es.len
 | .nil,δ,ds,h=>by simp only [evs] at h; cases h; rfl
 | .cons e r,δ,ds,h=>by
  simp only [evs] at h
  obtain ⟨x,_,h⟩:=Res.bind_eq_ok h
  obtain ⟨xs,h2,h⟩:=Res.bind_eq_ok h
  cases h
  rw [aaV,Cc r δ xs h2,Es.len]
theorem Oa {es:List Expr} {xs:Es} {k1:Nat} (h:PA X es (lEs p EX tn xs)) (hl:xs.len<=1000):PE X (.Tuple es k1 pos) (lE p EX tn (.tup xs)):=by
 refine PE.mono (Lm h) fun σ H Q h=>?_
 obtain ⟨τ,rfl,hF,j,k,hj,h⟩:=h
 simp only [ev] at h
 refine ⟨τ,rfl,hF,j,k,hj,h.bind.mono (Same.refl _) fun ds e hd ts H1 hts R=>⟨?_,fun a ha=>hd (.tup a ts) _ (by simp [T.dat,hts]) (LB R ha)⟩⟩
 have:=Cc _ _ _ e
 rw [aaa,<- Ad,hts,this]
 exact aaJ hl (by decide)
theorem Ob {es:List Expr} {xs:Es} (h:PA X es (lEs p EX tn xs)) (hl:xs.len<=1000):PE X (.List es pos) (lE p EX tn (.lst xs)):=by
 refine PE.mono (PN h) fun σ H Q h=>?_
 obtain ⟨τ,rfl,hF,j,k,hj,h⟩:=h
 simp only [jk] at hj
 obtain ⟨⟨j1,k1⟩,h1,hj⟩:=bS hj
 simp only [ev] at h
 refine ⟨τ,rfl,hF,j1,k1,h1,h.bind.mono (Same.refl _) fun ds e hd ts H1 hts R=>⟨?_,fun a ha=>hd (.lst a ts) _ (by simp [T.dat,hts]) ?_⟩⟩
 ·have:=Cc _ _ _ e
  rw [aaa,<- Ad,hts,this]
  exact aaJ hl (by decide)
 ·have q:=LD R ha
  have hj:=Option.some.inj hj
  by_cases z:j1=0
  ·subst z; simp only [if_true] at q; simp at hj; obtain ⟨rfl,rfl⟩:=hj; exact q
  ·simp only [if_neg z] at q; simp [z] at hj; obtain ⟨rfl,rfl⟩:=hj; exact q
noncomputable def Kq:B2->Operator
 | .add=>.Add
 | .sub=>.Sub
 | .mul=>.Mult
 | .fdiv=>.FloorDiv
 | .mod=>.Mod
 | .pow=>.Pow
theorem Inv.lstR {pins:List (Addr × Obj)} {σ:St} {H:Hp} {s:Shared} {l:Addr} {xs:List V} (I:Inv X pins σ H s) (hH:Rd H l (.lst xs)):xs.length<=sizeLine/\∃ (its:List Value) (n:Nat),Vals xs its/\xs.length=its.length/\s.heap.get? l=some { cls:=.type "list",data:=.seq its.toArray n }:=by
 obtain ⟨z,its,n,r,e⟩:=hH.ok I.hok
 exact ⟨z,its,n,r,r.length,e⟩
noncomputable def NJ:R2:=fun x y H Q=>∃ l b xs zs,x=.ref l/\y=.ref b/\Rd H l (.lst xs)/\Rd H b (.lst zs)/\xs.length + zs.length<=sizeLine/\∀ q,H q=none->Q (.ref q) (L2.upd H q (.lst (xs ++ zs)))
theorem Oc:OpR X (binaryOp .Add) NJ:=by
 intro pins s σ H x y v u Q I rx ry h
 obtain ⟨l,b,xs,zs,rfl,rfl,hH,hB,hz,q⟩:=h
 cases rx
 cases ry
 obtain ⟨z,its,n,r,hl,e⟩:=Inv.lstR I hH
 obtain ⟨z2,its2,n2,r2,hl2,e2⟩:=Inv.lstR I hB
 refine PySem.P.add_list e e2 ?_ (by rw [aag,aag]; omega)
 have ea:its.toArray ++ its2.toArray=(its ++ its2).toArray:=by simp
 rw [ea]
 exact ⟨.ref _,_,I.lnew (t':=s.toks) (r.append r2) (by rw [aar]; omega),rfl,q _ I.fresh⟩
noncomputable def NK:R2:=fun x y H Q=>∃ l k xs,x=.ref l/\y=.int k/\Rd H l (.lst xs)/\-(2 ^ 63)<=k/\k < 2 ^ 63/\xs.length * k.toNat<=sizeLine /\
 ∀ q,H q=none->Q (.ref q) (L2.upd H q (.lst (aai k.toNat xs).flatten))
noncomputable def NL (_ j:Int):Prop:=0 < j/\j < 2 ^ 200
theorem MN:OpR X (binaryOp .FloorDiv) (rI NL fun i j=>.int (i / j)):=opI fun i j _ _ _ _ _ hc q=>by
 have e:i / j=i.fdiv j:=(Int.fdiv_eq_ediv_of_nonneg _ (Int.le_of_lt hc.1)).symm
 rw [e] at q
 refine floordiv_int (by have:=hc.1; omega) q (.inl (PyProof.noPylong_of_log2 ?_))
 have h1:j.natAbs < 2 ^ 200:=by
  have e1:(j.natAbs:Int)=j:=Int.natAbs_of_nonneg (Int.le_of_lt hc.1)
  have e2:(j.natAbs:Int) < ((2 ^ 200:Nat):Int):=by rw [e1]; exact hc.2
  exact Int.ofNat_lt.mp e2
 have:j.natAbs.log2 < 200:=by
  refine (Nat.log2_lt (by have:=hc.1; omega)).mpr h1
 omega
theorem Od:OpR X (binaryOp .Mult) NK:=by
 intro pins s σ H x y v u Q I rx ry h
 obtain ⟨l,k,xs,rfl,rfl,hH,h1,h2,hz,q⟩:=h
 cases rx
 obtain ⟨t,rfl⟩:=ry
 obtain ⟨z,its,n,r,hl,e⟩:=Inv.lstR I hH
 have hlen:its.toArray.size * k.toNat<=sizeLine:=by rw [aag,<- hl]; exact hz
 have hcap:¬ its.toArray.size * k.toNat > (2 ^ 63 - 1) / 8:=by
  have:(sizeLine:Nat)<=(2 ^ 63 - 1) / 8:=by decide
  omega
 have hfit:¬ (!Builtin.List.listFitsIndex k)=true:=by
  rw [fitsIndex_both h1 h2]
  exact aaQ
 have hlong:¬ Builtin.List.listTooLong (its.toArray.size * k.toNat)=true:=by
  rw [Ig hlen]
  exact aaQ
 have hnew:acn (fun x1 x2=>x1 ++ x2) #[] (aai (if its.toArray.isEmpty=true then 0 else k.toNat) its.toArray)=(aai k.toNat its).flatten.toArray:=by
  have f0:∀ m:Nat,acn (fun x1 x2=>x1 ++ x2) #[] (aai m its.toArray)=(aai m its).flatten.toArray:=fun m=>by
   have:=Hw its m []
   rw [aa4] at this
   exact this
  rw [f0]
  cases its with
  | nil=>simp
  | cons a r'=>rw [if_neg (by simp)]
 refine wpAny_binaryOp_repeat_ref (T := "list") (U := "int") (by decide) ⟨_,e,rfl⟩ (fun s'=>typeIs_int s' k t) noFill_list_mul F.fills_int_mul F.slot_int_rmul repeat_list F.slot_int_index.lookup
  (call_meets F.slot_int_rmul (typeIs_int s k t) F.entry_int_rmul (F.args_int_rmul_2 _ _) (int___rmul___int_list k t l its.toArray n)
   ⟨e,rfl,⟨_,e,rfl⟩,call_meets F.slot_list_mul ⟨_,e,rfl⟩ F.entry_list_mul (F.args_list_mul_2 _ _) (AutoListH.list___mul___list_int_3 l its.toArray n k t hfit hcap hlong) ⟨e,?_⟩⟩)
 rw [hnew]
 exact ⟨.ref _,_,I.lnew (t':=s.toks) (r.rep k.toNat) (by rw [N3,Nat.mul_comm]; exact hz),rfl,q _ I.fresh⟩
noncomputable def CMulB (i j:Int):Prop:=CMul i j\/(i.natAbs < 2 ^ 400/\j.natAbs < 2 ^ 400)
theorem JM {k:Int} (h:k.natAbs < 2 ^ 400):Builtin.Int.intBits k<=400:=by
 unfold Builtin.Int.intBits
 split
 ·exact aas _
 ·have:k.natAbs.log2 < 400:=by
   rcases abS k.natAbs with h0 | hp
   ·rw [h0]; decide
   ·exact (Nat.log2_lt (ace hp)).mpr h
  omega
theorem CMulB.ok {i j:Int} (h:CMulB i j):IntMulOk i j:=by
 rcases h with h | ⟨h1,h2⟩
 ·exact h.ok
 ·have b1:=JM h1
  have b2:=JM h2
  have:Builtin.Int.intTooBig (Builtin.Int.intBits i + Builtin.Int.intBits j)=false:=by
   unfold Builtin.Int.intTooBig bitsLine
   exact decide_eq_false (by omega)
  unfold IntMulOk
  rw [this]
  simp
theorem Oe:OpR X (binaryOp .Mult) (rI CMulB fun i j=>.int (i * j)):=opI fun _ _ _ _ _ _ _ hc q=>mul_int q hc.ok
noncomputable def Qe:B2->R2
 | .add=>fun x y H Q=>rI0 (fun i j=>.int (i + j)) x y H Q\/(NJ x y H Q\/∃ i j,x=.str i/\y=.str j/\i.length + j.length<=sizeLine/\Q (.str (i ++ j)) H)
 | .sub=>rI0 fun i j=>.int (i - j)
 | .mul=>fun x y H Q=>rI CMulB (fun i j=>.int (i * j)) x y H Q\/NK x y H Q
 | .fdiv=>rI NL fun i j=>.int (i / j)
 | .mod=>rI (fun _ j=>0 < j) fun i j=>.int (i % j)
 | .pow=>rI Pz fun i j=>.int (i ^ j.toNat)
theorem Of:∀ o:B2,OpR X (binaryOp (Kq o)) (Qe o)
 | .add=>PB.or (Oc.or Kg)
 | .sub=>PD
 | .mul=>Oe.or Od
 | .fdiv=>MN
 | .mod=>PF
 | .pow=>PH
theorem Rs.elems {B:Addr->Prop} {H H1:Hp} {j k:Nat} {a:Addr} {ts:List T} (r:Rs p B H H1 j k (.lst a ts)) (hj:j<=1):∀ b ∈ T.rests ts 0,H b=none\/B b:=fun b m=>by
 refine r.src b (T.rest_le _ hj (j':=1) ?_)
 exact m
theorem E6 {B:Addr->Prop} {H H1:Hp} {a:Addr} {ts:List T} (s:Same H H1) (ok:T.Oks p H1 ts) (src:∀ b ∈ T.rests ts 0,H b=none\/B b) (hn:H1 a=none):Rs p B H (L2.upd H1 a (.lst (ts.map T.val))) 0 1 (.lst a ts):=by
 have:=LD (j:=0) (k:=0) (p:=p) (B:=B) (H:=H) (a:=a) (ts:=ts) ⟨s,ok,src,by rw [T.adrs_zero]; simp,T.nds_zero ts⟩ hn
 exact this
theorem G4 {t:T} {f:Int->Res D} {Q:Res D->Prop} (hb:¬ Q .bad) (h:Q (Dc t.dat f)):∃ i,t=.int i/\Q (f i):=by
 cases t with
 | int i=>exact ⟨i,rfl,h⟩
 | _=>exact absurd h hb
theorem By {t u:T} {f:Int->Int->Res D} {Q:Res D->Prop} (hb:¬ Q .bad) (h:Q (Bv t.dat u.dat f)):∃ i j,t=.int i/\u=.int j/\Q (f i j):=by
 obtain ⟨i,rfl,h⟩:=G4 (t:=t) hb h
 obtain ⟨j,rfl,h⟩:=G4 (t:=u) hb h
 exact ⟨i,j,rfl,rfl,h⟩
theorem Og {t u:T} {Q:Res D->Prop} (hb:¬ Q .bad) (h:Q (Ko t.dat u.dat)):(∃ i j,t=.int i/\u=.int j/\Q (.ok (.int (i + j))))\/(∃ x y,t=.str x/\u=.str y/\Q (Ko (.str x) (.str y)))\/∃ a ts b us,t=.lst a ts/\u=.lst b us/\Q (Ko (.lst (T.dats ts)) (.lst (T.dats us))):=by
 cases t with
 | int i =>
  cases u with
  | int j=>exact .inl ⟨i,j,rfl,rfl,h⟩
  | _=>exact absurd h hb
 | str x =>
  cases u with
  | str y=>exact .inr (.inl ⟨x,y,rfl,rfl,h⟩)
  | _=>exact absurd h hb
 | lst a ts =>
  cases u with
  | lst b us=>exact .inr (.inr ⟨a,ts,b,us,rfl,rfl,h⟩)
  | _=>exact absurd h hb
 | _=>exact absurd h hb
theorem Oh {t u:T} {Q:Res D->Prop} (hb:¬ Q .bad) (h:Q (Ii t.dat u.dat)):(∃ i j,t=.int i/\u=.int j/\Q (Ii (.int i) (.int j)))\/∃ a ts k,t=.lst a ts/\u=.int k/\Q (Ii (.lst (T.dats ts)) (.int k)):=by
 cases t with
 | int i =>
  cases u with
  | int j=>exact .inl ⟨i,j,rfl,rfl,h⟩
  | _=>exact absurd h hb
 | lst a ts =>
  cases u with
  | int k=>exact .inr ⟨a,ts,k,rfl,rfl,h⟩
  | _=>exact absurd h hb
 | _=>exact absurd h hb
theorem Rr {B:Addr->Prop} {H H2:Hp} {ja jb ka kb:Nat} {t u:T} {o:B2} {σ:St} {Q:VK} (r:Rs p B H H2 ja ka t) (r':Rs p B H H2 jb kb u) (ha:ja<=1) (hb:jb<=1) (h:Lg p EX σ (b2 o t.dat u.dat) H (KE p B H 0 1 Q)):Qe o t.val u.val H2 Q:=by
 have sc:∀ w:T,w.sc=true->Rs p B H H2 0 1 w:=fun w hw=>Rs.scal r.same hw
 cases o with
 | add =>
  rcases Og (Q:=fun r=>Lg p EX σ r H _) id h with ⟨i,j,rfl,rfl,h⟩ | ⟨x,y,rfl,rfl,h⟩ | ⟨a,ts,b,us,rfl,rfl,h⟩
  ·exact .inl ⟨_,_,rfl,rfl,h (.int _) H2 rfl (sc _ rfl)⟩
  ·obtain ⟨hl,h⟩:=h.guard
   exact .inr (.inr ⟨_,_,rfl,rfl,hl,h (.str _) H2 rfl (sc _ rfl)⟩)
  ·skip
   obtain ⟨hl,h⟩:=h.guard
   ·refine .inr (.inl ⟨a,b,_,_,rfl,rfl,r.ok.1,r'.ok.1,?_,fun q hq=>?_⟩)
    ·rw [aaa,aaa,<- Ad,<- Ad]; exact hl
    ·rw [<- aam]
     refine h (.lst q (ts ++ us)) _ (by simp [T.dat,T.dats_map]) (E6 r.same (T.oks_iff.mpr fun w hw=>?_) (fun c m=>?_) hq)
     ·rcases aaf.mp hw with hw | hw
      ·exact T.oks_iff.mp r.ok.2 w hw
      ·exact T.oks_iff.mp r'.ok.2 w hw
     ·rw [T.rests_append,aaf] at m
      rcases m with m | m
      ·exact r.elems ha c m
      ·exact r'.elems hb c m
 | sub =>
  obtain ⟨i,j,rfl,rfl,h⟩:=By (Q:=fun r=>Lg p EX σ r H _) id h
  exact ⟨_,_,rfl,rfl,h (.int _) H2 rfl (sc _ rfl)⟩
 | mul =>
  rcases Oh (Q:=fun r=>Lg p EX σ r H _) id h with ⟨i,j,rfl,rfl,h⟩ | ⟨a,ts,k,rfl,rfl,h⟩
  ·by_cases c:(-(2 ^ 64) < i/\i < 2 ^ 64)\/(-(2 ^ 64) < j/\j < 2 ^ 64)
   ·have h:Lg p EX σ (if (-(2 ^ 64) < i/\i < 2 ^ 64)\/(-(2 ^ 64) < j/\j < 2 ^ 64) then Res.ok (D.int (i * j)) else if i.natAbs < 2 ^ 400/\j.natAbs < 2 ^ 400 then .ok (.int (i * j)) else .bad) H _:=h
    rw [if_pos c] at h
    exact .inl ⟨_,_,rfl,rfl,.inl c,h (.int _) H2 rfl (sc _ rfl)⟩
   ·have h:Lg p EX σ (if (-(2 ^ 64) < i/\i < 2 ^ 64)\/(-(2 ^ 64) < j/\j < 2 ^ 64) then Res.ok (D.int (i * j)) else if i.natAbs < 2 ^ 400/\j.natAbs < 2 ^ 400 then .ok (.int (i * j)) else .bad) H _:=h
    rw [if_neg c] at h
    obtain ⟨hl,h⟩:=h.guard
    exact .inl ⟨_,_,rfl,rfl,.inr hl,h (.int _) H2 rfl (sc _ rfl)⟩
  ·skip
   obtain ⟨⟨h1,h2,h3⟩,h⟩:=h.guard
   ·refine .inr ⟨a,k,_,rfl,rfl,r.ok.1,h1,h2,?_,fun q hq=>?_⟩
    ·rw [aaa,<- Ad]; exact h3
    ·have e:(aai k.toNat (ts.map T.val)).flatten=(aai k.toNat ts).flatten.map T.val:=by
      rw [List.map_flatten,aa8]
     rw [e]
     refine h (.lst q (aai k.toNat ts).flatten) _ ?_ (E6 r.same (T.oks_iff.mpr fun w hw=>?_) (fun c m=>?_) hq)
     ·rw [T.dat,T.dats_map,T.dats_map,List.map_flatten,aa8]
     ·obtain ⟨l,hl,hw⟩:=List.mem_flatten.mp hw
      rw [(abz.mp hl).2] at hw
      exact T.oks_iff.mp r.ok.2 w hw
     ·obtain ⟨w,hw,m⟩:=T.mem_rests.mp m
      obtain ⟨l,hl,hw⟩:=List.mem_flatten.mp hw
      rw [(abz.mp hl).2] at hw
      exact r.elems ha c (T.mem_rests.mpr ⟨w,hw,m⟩)
 | fdiv =>
  obtain ⟨i,j,rfl,rfl,h⟩:=By (Q:=fun r=>Lg p EX σ r H _) id h
  obtain ⟨hl,h⟩:=h.guard
  exact ⟨_,_,rfl,rfl,hl,h (.int _) H2 rfl (sc _ rfl)⟩
 | mod =>
  obtain ⟨i,j,rfl,rfl,h⟩:=By (Q:=fun r=>Lg p EX σ r H _) id h
  obtain ⟨hl,h⟩:=h.guard
  exact ⟨_,_,rfl,rfl,hl,h (.int _) H2 rfl (sc _ rfl)⟩
 | pow =>
  obtain ⟨i,j,rfl,rfl,h⟩:=By (Q:=fun r=>Lg p EX σ r H _) id h
  obtain ⟨hl,h⟩:=h.guard
  exact ⟨_,_,rfl,rfl,hl,h (.int _) H2 rfl (sc _ rfl)⟩
theorem Oi {a b:Expr} {x y:E} {o:B2} (ha:PE X a (lE p EX tn x)) (hb:PE X b (lE p EX tn y)):PE X (.BinOp a (Kq o) b pos) (lE p EX tn (.bin o x y)):=by
 refine PE.mono (Rf (Of o) ha hb) fun σ H Q h=>?_
 obtain ⟨τ,rfl,hF,j,k,hj,h⟩:=h
 simp only [jk] at hj
 obtain ⟨⟨j1,k1⟩,h1,hj⟩:=bS hj
 obtain ⟨⟨j2,k2⟩,h2,hj⟩:=bS hj
 obtain ⟨hc,e⟩:=Dr hj
 cases e
 simp only [aak,decide_eq_true_eq] at hc
 simp only [ev] at h
 refine l1 hF h1 h fun d t H1 ht R h=>l2 hF R.same h2 h fun d' t' H2 ht' R' h=>?_
 subst ht ht'
 exact Rr (R.fwd R'.same) (R'.back R.same) hc.1 hc.2 h
end
mutual
noncomputable def D.py:D->PyData
 | .non=>.none
 | .bl b=>.bool b
 | .int i=>.int i
 | .str x=>.str x
 | .tup ds=>.tuple (D.pys ds)
 | .lst ds=>.list (D.pys ds)
 | .exn _=>.none
noncomputable def D.pys:List D->List PyData
 | []=>[]
 | d :: r=>d.py :: D.pys r
end
theorem D.ind {P:D->Prop} (h0:P .non) (h1:∀ b,P (.bl b)) (h2:∀ i,P (.int i)) (h3:∀ x,P (.str x)) (h4:∀ ts,(∀ t ∈ ts,P t)->P (.tup ts)) (h5:∀ ts,(∀ t ∈ ts,P t)->P (.lst ts)) (h6:∀ c,P (.exn c)):∀ t,P t
 | .non=>h0
 | .bl b=>h1 b
 | .int i=>h2 i
 | .str x=>h3 x
 | .tup ts=>h4 ts fun t h=>D.ind h0 h1 h2 h3 h4 h5 h6 t
 | .lst ts=>h5 ts fun t h=>D.ind h0 h1 h2 h3 h4 h5 h6 t
 | .exn c=>h6 c
termination_by t=>t
theorem Bj {n c:Nat}:D.shp n (.exn c)=false:=by cases n <;> rfl
theorem DP {n:Nat} {ds:List D} (h:D.shp n (.tup ds)=true):∃ m,n=m + 1/\∀ d ∈ ds,D.shp m d=true:=by
 cases n with
 | zero=>cases h
 | succ m=>exact ⟨m,rfl,by simpa [D.shp] using h⟩
theorem DQ {n:Nat} {ds:List D} (h:D.shp n (.lst ds)=true):∃ m,n=m + 1/\∀ d ∈ ds,D.shp m d=true:=by
 cases n with
 | zero=>cases h
 | succ m=>exact ⟨m,rfl,by simpa [D.shp] using h⟩
theorem Ij:∀ (d e:D) (n m:Nat),d.shp n=true->e.shp m=true->d.eqv e=d.py.eqv e.py:=by
 have lists:∀ (ds:List D),(∀ d ∈ ds,∀ (e:D) (n m:Nat),d.shp n=true->e.shp m=true->d.eqv e=d.py.eqv e.py)->∀ (es:List D) (n m:Nat),(∀ d ∈ ds,d.shp n=true)->(∀ e ∈ es,e.shp m=true)->D.eqvs ds es=PyData.eqvAll (D.pys ds) (D.pys es):=by
  intro ds
  induction ds with
  | nil=>intro _ es n m _ _; cases es <;> simp [D.eqvs,D.pys,PyData.eqvAll]
  | cons d r ih =>
   intro h es n m h1 h2
   cases es with
   | nil=>simp [D.eqvs,D.pys,PyData.eqvAll]
   | cons e s =>
    simp only [D.eqvs,D.pys,PyData.eqvAll]
    rw [h d (aac ..) e n m (h1 d (aac ..)) (h2 e (aac ..)),ih (fun x hx=>h x (aab _ hx)) s n m (fun x hx=>h1 x (aab _ hx)) (fun x hx=>h2 x (aab _ hx))]
 refine D.ind ?_ ?_ ?_ ?_ ?_ ?_ ?_
 ·intro e n m _ h; cases e <;> simp [D.eqv,D.py,PyData.eqv,Bj] at h ⊢
 ·intro b e n m _ h; cases e <;> simp [D.eqv,D.py,PyData.eqv,Bj] at h ⊢
 ·intro b e n m _ h; cases e <;> simp [D.eqv,D.py,PyData.eqv,Bj] at h ⊢
 ·intro b e n m _ h; cases e <;> simp [D.eqv,D.py,PyData.eqv,Bj] at h ⊢
 ·intro ds ih e n m h1 h2
  cases e with
  | tup es =>
   obtain ⟨n',_,h1⟩:=DP h1
   obtain ⟨m',_,h2⟩:=DP h2
   simp only [D.eqv,D.py,PyData.eqv]
   exact lists ds ih es n' m' h1 h2
  | exn c=>rw [Bj] at h2; cases h2
  | _=>simp [D.eqv,D.py,PyData.eqv]
 ·intro ds ih e n m h1 h2
  cases e with
  | lst es =>
   obtain ⟨n',_,h1⟩:=DQ h1
   obtain ⟨m',_,h2⟩:=DQ h2
   simp only [D.eqv,D.py,PyData.eqv]
   exact lists ds ih es n' m' h1 h2
  | exn c=>rw [Bj] at h2; cases h2
  | _=>simp [D.eqv,D.py,PyData.eqv]
 ·intro c e n m h; rw [Bj] at h; cases h
theorem G5:∀ (d:D) (n:Nat),d.shp n=true->d.py.canLay0=true/\d.py.depth<=n:=by
 have lists:∀ (ds:List D),(∀ d ∈ ds,∀ (n:Nat),d.shp n=true->d.py.canLay0=true/\d.py.depth<=n)->∀ n,(∀ d ∈ ds,d.shp n=true)->PyData.canLayAll0 (D.pys ds)=true/\PyData.depthAll (D.pys ds)<=n:=by
  intro ds
  induction ds with
  | nil=>intro _ n _; simp [D.pys,PyData.canLayAll0,PyData.depthAll]
  | cons d r ih =>
   intro h n h1
   obtain ⟨a1,a2⟩:=h d (aac ..) n (h1 d (aac ..))
   obtain ⟨b1,b2⟩:=ih (fun x hx=>h x (aab _ hx)) n (fun x hx=>h1 x (aab _ hx))
   simp only [D.pys,PyData.canLayAll0,PyData.depthAll,a1,b1,Bool.and_self,true_and]
   omega
 refine D.ind ?_ ?_ ?_ ?_ ?_ ?_ ?_
 ·intro n h; simp [D.py,PyData.canLay0,PyData.depth]
 ·intro b n h; simp [D.py,PyData.canLay0,PyData.depth]
 ·intro b n h; simp [D.py,PyData.canLay0,PyData.depth]
 ·intro x n h
  simp only [D.py,PyData.canLay0,PyData.depth,aas,and_true]
  cases n <;> exact h
 ·intro ds ih n h
  obtain ⟨m,rfl,h'⟩:=DP h
  have:=lists ds ih m h'
  simp only [D.py,PyData.canLay0,PyData.depth]
  exact ⟨this.1,by omega⟩
 ·intro ds ih n h
  obtain ⟨m,rfl,h'⟩:=DQ h
  have:=lists ds ih m h'
  simp only [D.py,PyData.canLay0,PyData.depth]
  exact ⟨this.1,by omega⟩
 ·intro c n h; rw [Bj] at h; cases h
theorem Eg {d:D} (h:d.shp 8=true):SeqAt.shaped d.py=true:=by
 obtain ⟨h1,h2⟩:=G5 d 8 h
 unfold SeqAt.shaped
 rw [h1,abc]
 exact decide_eq_true (by omega)
theorem FA {p:Px} {H:Hp}:∀ (t:T) (n:Nat),t.Ok p H->t.dat.shp n=true->RD p.K H t.val t.dat.py:=by
 have lists:∀ (ts:List T),(∀ t ∈ ts,∀ n,t.Ok p H->t.dat.shp n=true->RD p.K H t.val t.dat.py)->∀ n,T.Oks p H ts->(∀ d ∈ T.dats ts,d.shp n=true)->RDs p.K H (ts.map T.val) (D.pys (T.dats ts)):=by
  intro ts
  induction ts with
  | nil=>intro _ _ _ _; exact .nil
  | cons t r ih =>
   intro h n ok hs
   exact .cons (h t (aac ..) n ok.1 (hs _ (by simp [T.dats]))) (ih (fun u hu=>h u (aab _ hu)) n ok.2 (fun d hd=>hs d (by simp [T.dats,hd])))
 refine T.ind (fun _ _ _=>.non) (fun b _ _ _=>.bl b) (fun i _ _ _=>.int i) (fun x _ _ _=>.str x) (fun a ts ih n ok h=>?_) (fun a ts ih n ok h=>?_) (fun a c n ok h=>?_)
 ·obtain ⟨m,rfl,h'⟩:=DP h
  exact .tup (SqT.of ok.1) (lists ts ih m ok.2 h')
 ·obtain ⟨m,rfl,h'⟩:=DQ h
  exact .lst (.inl ok.1) (lists ts ih m ok.2 h')
 ·rw [T.dat,Bj] at h; cases h
theorem GA {H:Hp} {a:Addr} {xs ys:List V} (h:Rd H a (.lst xs)) (h':Rd H a (.lst ys)):xs=ys:=by
 rcases h with h | ⟨o,h⟩ <;> rcases h' with h' | ⟨o',h'⟩ <;> rw [h] at h' <;> cases h' <;> rfl
theorem T.det {p:Px} {H:Hp}:∀ (t u:T) (n m:Nat),t.Ok p H->u.Ok p H->t.dat.shp n=true->u.dat.shp m=true->t.val=u.val->t.dat=u.dat:=by
 have lists:∀ (ts:List T),(∀ t ∈ ts,∀ (u:T) (n m:Nat),t.Ok p H->u.Ok p H->t.dat.shp n=true->u.dat.shp m=true->t.val=u.val->t.dat=u.dat)->∀ (us:List T) (n m:Nat),T.Oks p H ts->T.Oks p H us ->
   (∀ d ∈ T.dats ts,d.shp n=true)->(∀ d ∈ T.dats us,d.shp m=true)->ts.map T.val=us.map T.val->T.dats ts=T.dats us:=by
  intro ts
  induction ts with
  | nil=>intro _ us n m _ _ _ _ e; cases us with | nil=>rfl | cons u r=>simp at e
  | cons t r ih =>
   intro h us n m o1 o2 s1 s2 e
   cases us with
   | nil=>simp at e
   | cons u q =>
    simp only [aaz,List.cons.injEq] at e
    simp only [T.dats,List.cons.injEq]
    exact ⟨h t (aac ..) u n m o1.1 o2.1 (s1 _ (by simp [T.dats])) (s2 _ (by simp [T.dats])) e.1,ih (fun x hx=>h x (aab _ hx)) q n m o1.2 o2.2 (fun d hd=>s1 d (by simp [T.dats,hd])) (fun d hd=>s2 d (by simp [T.dats,hd])) e.2⟩
 refine T.ind ?_ ?_ ?_ ?_ ?_ ?_ ?_
 ·intro u n m _ _ _ _ e; cases u <;> first | rfl | cases e
 ·intro b u n m _ _ _ _ e; cases u <;> first | (cases e; rfl) | cases e
 ·intro b u n m _ _ _ _ e; cases u <;> first | (cases e; rfl) | cases e
 ·intro b u n m _ _ _ _ e; cases u <;> first | (cases e; rfl) | cases e
 ·intro a ts ih u n m o1 o2 s1 s2 e
  cases u with
  | tup b us =>
   cases e
   obtain ⟨n',_,s1⟩:=DP s1
   obtain ⟨m',_,s2⟩:=DP s2
   have q:=o1.1.symm.trans o2.1
   simp only [Option.some.injEq,HO.tup.injEq] at q
   simp only [T.dat,lists ts ih us n' m' o1.2 o2.2 s1 s2 q]
  | lst b us =>
   cases e
   have h1:=o1.1
   rcases o2.1 with h | ⟨_,h⟩ <;> rw [h] at h1 <;> cases h1
  | exn b c=>rw [T.dat,Bj] at s2; cases s2
  | _=>cases e
 ·intro a ts ih u n m o1 o2 s1 s2 e
  cases u with
  | tup b us =>
   cases e
   have h1:=o2.1
   rcases o1.1 with h | ⟨_,h⟩ <;> rw [h] at h1 <;> cases h1
  | lst b us =>
   cases e
   obtain ⟨n',_,s1⟩:=DQ s1
   obtain ⟨m',_,s2⟩:=DQ s2
   have q:=GA o1.1 o2.1
   simp only [T.dat,lists ts ih us n' m' o1.2 o2.2 s1 s2 q]
  | exn b c=>rw [T.dat,Bj] at s2; cases s2
  | _=>cases e
 ·intro a c u n m _ _ h; rw [T.dat,Bj] at h; cases h
section
variable {p:Px} {EX:EXT} {tn:List Nat} {X:Cx} {pos:Pos}
theorem FB (hK:X.K=p.K) {pins:List (Addr × Obj)} {σ:St} {H:Hp} {s:Shared} {A:Around} (I:Inv X pins σ H s) {t u:T} {x y:Value} (hu:A.units + 60 < cLine) (o1:t.Ok p H) (o2:u.Ok p H) (s1:t.dat.shp 8=true) (s2:u.dat.shp 8=true) (r1:RelV t.val x) (r2:RelV u.val y) :
  SeqAt.EqAt A s x y (t.dat.eqv u.dat):=by
 intro prog w E Q hQ
 obtain ⟨as,q1⟩:=RD.reads (X:=X) I (hK ▸ FA t 8 o1 s1) r1
 obtain ⟨bs,q2⟩:=RD.reads (X:=X) I (hK ▸ FA u 8 o2 s2) r2
 obtain ⟨c1,d1⟩:=G5 _ 8 s1
 obtain ⟨c2,d2⟩:=G5 _ 8 s2
 refine PySem.SeqAt.eqBoolOverData prog w A E s x y _ _ as bs Q q1 q2 c1 c2 (by omega) ?_
 rw [<- Ij _ _ 8 8 s1 s2]
 exact hQ
noncomputable def eqS (us:List T) (t:T) (y:Value):Bool:=@decide (∃ u ∈ us,RelV u.val y/\u.dat.eqv t.dat=true) (Classical.propDecidable _)
theorem E7 {H:Hp} {us:List T} {t u:T} {y:Value} (ok:T.Oks p H us) (sh:∀ w ∈ us,w.dat.shp 8=true) (hu:u ∈ us) (r:RelV u.val y):eqS us t y=u.dat.eqv t.dat:=by
 unfold eqS
 cases e:u.dat.eqv t.dat with
 | true=>exact @decide_eq_true _ (Classical.propDecidable _) ⟨u,hu,r,e⟩
 | false =>
  refine @decide_eq_false _ (Classical.propDecidable _) ?_
  rintro ⟨w,hw,r',e'⟩
  rw [T.det w u 8 8 (T.oks_iff.mp ok w hw) (T.oks_iff.mp ok u hu) (sh w hw) (sh u hu) (RelV.inj r' r)] at e'
  rw [e] at e'; cases e'
theorem EA {H:Hp} {us:List T} {t:T} (ok:T.Oks p H us) (sh:∀ w ∈ us,w.dat.shp 8=true):∀ (ws:List T) (ys:List Value),(∀ w ∈ ws,w ∈ us)->Vals (ws.map T.val) ys->ys.any (eqS us t)=ws.any fun w=>w.dat.eqv t.dat
 | [],_,_,.nil=>rfl
 | w :: ws,_,h,.cons r q=>by
  rw [ab9,ab9,E7 ok sh (h w (aac ..)) r,EA ok sh ws _ (fun x hx=>h x (aab _ hx)) q]
theorem DZ:∀ {ws:List T} {ys:List Value} {y:Value},Vals (ws.map T.val) ys->y ∈ ys->∃ w ∈ ws,RelV w.val y
 | [],_,y,.nil,h=>nomatch h
 | w :: ws,_,y,.cons r q,h=>by
  rcases aaj.mp h with rfl | h
  ·exact ⟨w,aac ..,r⟩
  ·obtain ⟨w',hw,r'⟩:=DZ q h
   exact ⟨w',aab _ hw,r'⟩
noncomputable def Kr (p:Px) (neg:Bool):R2:=fun x y H Q=>∃ (t:T) (a:Addr) (us:List T),x=t.val/\y=.ref a/\(Rd H a (.lst (us.map T.val))\/H a=some (.tup (us.map T.val)))/\T.Oks p H us/\t.Ok p H/\t.dat.shp 8=true/\(∀ w ∈ us,w.dat.shp 8=true) /\
 Q (.bl (if neg then !(us.any fun w=>w.dat.eqv t.dat) else us.any fun w=>w.dat.eqv t.dat)) H
theorem Qf (hK:X.K=p.K) (hu:X.A.units + 64 < cLine):OpR X (compareOp .In) (Kr p false):=by
 intro pins s σ H x y v u Q I rx ry h
 obtain ⟨t,a,us,rfl,rfl,hq,ok,o1,s1,s2,q⟩:=h
 cases ry
 rcases hq with hq | hq
 ·obtain ⟨its,r,pl,hz⟩:=I.list (.inl hq)
  refine SeqAt.in_listAt (eqS us t) pl.isList (fun w hw=>?_) ⟨.bl _,H,I,rfl,?_⟩
  ·obtain ⟨w',hw',r'⟩:=DZ r (by simpa using hw)
   rw [E7 ok s2 hw' r']
   exact FB hK I (by show X.A.units + 1 + 60 < cLine; omega) (T.oks_iff.mp ok w' hw') o1 (s2 w' hw') s1 r' rx
  ·rw [show its.toArray.any (eqS us t)=its.any (eqS us t) by simp,EA ok s2 us its (fun _ h=>h) r]
   exact q
 ·obtain ⟨its,r,pl,hz⟩:=I.tuple (SqT.of hq)
  refine SeqAt.in_tupleAt (eqS us t) pl (fun w hw=>?_) ⟨.bl _,H,I,rfl,?_⟩
  ·obtain ⟨w',hw',r'⟩:=DZ r (by simpa using hw)
   rw [E7 ok s2 hw' r']
   exact FB hK I (by show X.A.units + 1 + 60 < cLine; omega) (T.oks_iff.mp ok w' hw') o1 (s2 w' hw') s1 r' rx
  ·rw [show its.toArray.any (eqS us t)=its.any (eqS us t) by simp,EA ok s2 us its (fun _ h=>h) r]
   exact q
theorem LE (hK:X.K=p.K) (hu:X.A.units + 64 < cLine):OpR X (compareOp .NotIn) (Kr p true):=by
 intro pins s σ H x y v u Q I rx ry h
 obtain ⟨t,a,us,rfl,rfl,hq,ok,o1,s1,s2,q⟩:=h
 cases ry
 rcases hq with hq | hq
 ·obtain ⟨its,r,pl,hz⟩:=I.list (.inl hq)
  refine SeqAt.notIn_listAt (eqS us t) pl.isList (fun w hw=>?_) ⟨.bl _,H,I,rfl,?_⟩
  ·obtain ⟨w',hw',r'⟩:=DZ r (by simpa using hw)
   rw [E7 ok s2 hw' r']
   exact FB hK I (by show X.A.units + 1 + 60 < cLine; omega) (T.oks_iff.mp ok w' hw') o1 (s2 w' hw') s1 r' rx
  ·rw [show its.toArray.any (eqS us t)=its.any (eqS us t) by simp,EA ok s2 us its (fun _ h=>h) r]
   exact q
 ·obtain ⟨its,r,pl,hz⟩:=I.tuple (SqT.of hq)
  refine SeqAt.notIn_tupleAt (eqS us t) pl (fun w hw=>?_) ⟨.bl _,H,I,rfl,?_⟩
  ·obtain ⟨w',hw',r'⟩:=DZ r (by simpa using hw)
   rw [E7 ok s2 hw' r']
   exact FB hK I (by show X.A.units + 1 + 60 < cLine; omega) (T.oks_iff.mp ok w' hw') o1 (s2 w' hw') s1 r' rx
  ·rw [show its.toArray.any (eqS us t)=its.any (eqS us t) by simp,EA ok s2 us its (fun _ h=>h) r]
   exact q
end
section
variable {p:Px} {EX:EXT} {tn:List Nat} {X:Cx} {pos:Pos}
noncomputable def A9:C2->CmpOp
 | .lt=>.Lt
 | .le=>.LtE
 | .gt=>.Gt
 | .ge=>.GtE
 | .eq=>.Eq
 | .ne=>.NotEq
 | .inn=>.In
 | .nin=>.NotIn
noncomputable def Qg (p:Px) (neg:Bool):R2:=fun x y H Q=>∃ t u:T,x=t.val/\y=u.val/\t.Ok p H/\u.Ok p H/\t.dat.shp 8=true/\u.dat.shp 8=true/\Q (.bl (if neg then !t.dat.eqv u.dat else t.dat.eqv u.dat)) H
noncomputable def Ik (p:Px):C2->R2
 | .lt=>rI0 fun i j=>.bl (decide (i < j))
 | .le=>rI0 fun i j=>.bl (decide (i<=j))
 | .gt=>rI0 fun i j=>.bl (decide (j < i))
 | .ge=>rI0 fun i j=>.bl (decide (j<=i))
 | .eq=>Qg p false
 | .ne=>Qg p true
 | .inn=>Kr p false
 | .nin=>Kr p true
theorem DR (hK:X.K=p.K) (hu:X.A.units + 64 < cLine):∀ o:C2,OpR X (compareOp (A9 o)) (Ik p o)
 | .lt=>Rh
 | .le=>Ri
 | .gt=>Rj
 | .ge=>Rk
 | .eq=>by
  intro pins s σ H x y v u Q I rx ry h
  obtain ⟨t,w,rfl,rfl,o1,o2,s1,s2,q⟩:=h
  refine P7 hu pins s σ H _ _ v u Q I rx ry ⟨_,_,hK ▸ FA t 8 o1 s1,hK ▸ FA w 8 o2 s2,Eg s1,Eg s2,?_⟩
  rw [<- Ij _ _ 8 8 s1 s2]; exact q
 | .ne=>by
  intro pins s σ H x y v u Q I rx ry h
  obtain ⟨t,w,rfl,rfl,o1,o2,s1,s2,q⟩:=h
  refine P8 hu pins s σ H _ _ v u Q I rx ry ⟨_,_,hK ▸ FA t 8 o1 s1,hK ▸ FA w 8 o2 s2,Eg s1,Eg s2,?_⟩
  rw [<- Ij _ _ 8 8 s1 s2]; exact q
 | .inn=>Qf hK hu
 | .nin=>LE hK hu
theorem Il {t:T}:∀ us:List T,((T.dats us).any fun y=>D.eqv y t.dat)=us.any fun w=>w.dat.eqv t.dat
 | []=>rfl
 | u :: r=>by simp [T.dats,Il r]
theorem EN {f:D->Bool}:∀ {us:List T},(T.dats us).all f=true->∀ w ∈ us,f w.dat=true
 | [],_,w,h=>nomatch h
 | u :: r,h,w,hw=>by
  simp only [T.dats,aaA,aak] at h
  rcases aaj.mp hw with rfl | hw
  ·exact h.1
  ·exact EN h.2 w hw
theorem HP {β:Type} {t:T} {us:List T} {σ:St} {H:Hp} {f:Bool->Res β} {Kc:β->Prop} (h:Lg p EX σ ((inD t.dat (T.dats us)).bind f) H Kc):t.dat.shp 8=true/\(∀ w ∈ us,w.dat.shp 8=true)/\Lg p EX σ (f (us.any fun w=>w.dat.eqv t.dat)) H Kc:=by
 have h:=h.bind
 unfold inD at h
 obtain ⟨hc,h⟩:=h.guard
 rw [aak] at hc
 rw [Il] at h
 exact ⟨hc.1,fun w hw=>EN hc.2 w hw,h⟩
theorem Ks {B:Addr->Prop} {H H2:Hp} {ja jb ka kb:Nat} {t u:T} {o:C2} {σ:St} {Kc:D->Prop} {Q:VK} (r:Rs p B H H2 ja ka t) (r':Rs p B H H2 jb kb u) (h:Lg p EX σ (c2 o t.dat u.dat) H Kc) (hQ:∀ b,Kc (.bl b)->Q (.bl b) H2):Ik p o t.val u.val H2 Q:=by
 cases o with
 | lt =>
  obtain ⟨i,j,rfl,rfl,h⟩:=By (Q:=fun r=>Lg p EX σ r H Kc) id h
  exact ⟨_,_,rfl,rfl,hQ _ h⟩
 | le =>
  obtain ⟨i,j,rfl,rfl,h⟩:=By (Q:=fun r=>Lg p EX σ r H Kc) id h
  exact ⟨_,_,rfl,rfl,hQ _ h⟩
 | gt =>
  obtain ⟨i,j,rfl,rfl,h⟩:=By (Q:=fun r=>Lg p EX σ r H Kc) id h
  exact ⟨_,_,rfl,rfl,hQ _ h⟩
 | ge =>
  obtain ⟨i,j,rfl,rfl,h⟩:=By (Q:=fun r=>Lg p EX σ r H Kc) id h
  exact ⟨_,_,rfl,rfl,hQ _ h⟩
 | eq =>
  simp only [c2] at h
  obtain ⟨hc,h⟩:=h.guard
  rw [aak] at hc
  exact ⟨t,u,rfl,rfl,r.ok,r'.ok,hc.1,hc.2,hQ _ h⟩
 | ne =>
  simp only [c2] at h
  obtain ⟨hc,h⟩:=h.guard
  rw [aak] at hc
  exact ⟨t,u,rfl,rfl,r.ok,r'.ok,hc.1,hc.2,hQ _ h⟩
 | inn =>
  cases u <;> first | exact nE h | skip
  ·obtain ⟨s1,s2,h⟩:=HP h
   exact ⟨t,_,_,rfl,rfl,.inr r'.ok.1,r'.ok.2,r.ok,s1,s2,hQ _ h⟩
  ·obtain ⟨s1,s2,h⟩:=HP h
   exact ⟨t,_,_,rfl,rfl,.inl r'.ok.1,r'.ok.2,r.ok,s1,s2,hQ _ h⟩
 | nin =>
  cases u <;> first | exact nE h | skip
  ·obtain ⟨s1,s2,h⟩:=HP h
   exact ⟨t,_,_,rfl,rfl,.inr r'.ok.1,r'.ok.2,r.ok,s1,s2,hQ _ h⟩
  ·obtain ⟨s1,s2,h⟩:=HP h
   exact ⟨t,_,_,rfl,rfl,.inl r'.ok.1,r'.ok.2,r.ok,s1,s2,hQ _ h⟩
theorem KE.bl {B:Addr->Prop} {H H2:Hp} {j k:Nat} {Q:VK} {b:Bool} (s:Same H H2) (h:KE p B H j k Q (.bl b)):Q (.bl b) H2:=h (.bl b) H2 rfl (Rs.scal s rfl)
theorem Qh {x y:E} {o:C2} {τ:Ft} {H:Hp} {Kc:D->Prop} {Q:VK} {j1 k1 j2 k2:Nat} (hF:Fok p tn τ H) (h1:jk tn x=some (j1,k1)) (h2:jk tn y=some (j2,k2))
  (h:Lg p EX (vτ τ) ((ev x (dτ τ)).bind fun a=>(ev y (dτ τ)).bind fun b=>c2 o a b) H Kc) (hQ:∀ b H2,Same H H2->Kc (.bl b)->Q (.bl b) H2):tOp (Ik p o) (lE p EX tn x) (lE p EX tn y) (vτ τ) H Q:=by
 refine l1 hF h1 h fun d t H1 ht R h=>l2 hF R.same h2 h fun d' t' H2 ht' R' h=>?_
 subst ht ht'
 exact Ks (R.fwd R'.same) (R'.back R.same) h fun b hb=>hQ b H2 (R.same.trans R'.same) hb
theorem Oj (hK:X.K=p.K) (hu:X.A.units + 64 < cLine) {a b:Expr} {x y:E} {o:C2} (ha:PE X a (lE p EX tn x)) (hb:PE X b (lE p EX tn y)) (hm:behindInMarks (A9 o) b=false):PE X (.Compare a [A9 o] [b] pos) (lE p EX tn (.cmp o x y)):=by
 refine PE.mono (NW (DR hK hu o) ha hb hm) fun σ H Q h=>?_
 obtain ⟨τ,rfl,hF,j,k,hj,h⟩:=h
 simp only [jk] at hj
 obtain ⟨⟨j1,k1⟩,h1,hj⟩:=bS hj
 obtain ⟨⟨j2,k2⟩,h2,hj⟩:=bS hj
 simp only [ev] at h
 exact Qh hF h1 h2 h fun b H2 s hb=>KE.bl s hb
theorem MO (hK:X.K=p.K) (hu:X.A.units + 64 < cLine) {a b:Expr} {x y:E} {o:C2} (ha:PE X a (lE p EX tn x)) (hb:PE X b (lE p EX tn y)) (hm:behindInMarks (A9 o) b=false):PT X (.Compare a [A9 o] [b] pos) (lT p EX tn (.cmp o x y)):=by
 refine PT.mono (NX (DR hK hu o) ha hb hm) fun σ H Q h=>?_
 obtain ⟨τ,rfl,hF,hj,h⟩:=h
 obtain ⟨q,hj⟩:=aav.mp hj
 simp only [jk] at hj
 obtain ⟨⟨j1,k1⟩,h1,hj⟩:=bS hj
 obtain ⟨⟨j2,k2⟩,h2,hj⟩:=bS hj
 simp only [tv,ev] at h
 exact Qh hF h1 h2 h.bind fun b H2 s hb=>⟨b,rfl,hb H2 s⟩
theorem LF {x y z:E} {o o':C2} {τ:Ft} {H:Hp} {Kc:D->Prop} {Q:VK} {j1 k1 j2 k2 j3 k3:Nat} (hF:Fok p tn τ H) (h1:jk tn x=some (j1,k1)) (h2:jk tn y=some (j2,k2)) (h3:jk tn z=some (j3,k3))
  (h:Lg p EX (vτ τ) (ev (.chain o o' x y z) (dτ τ)) H Kc) (hQ:∀ b H2,Same H H2->Kc (.bl b)->Q (.bl b) H2):HY (Ik p o) (Ik p o') (lE p EX tn x) (lE p EX tn y) (lE p EX tn z) (vτ τ) H Q:=by
 simp only [ev] at h
 refine l1 hF h1 h fun d t H1 ht R h=>l2 hF R.same h2 h fun d' t' H2 ht' R' h=>?_
 subst ht ht'
 refine Ks (R.fwd R'.same) (R'.back R.same) h.bind fun b h=>⟨b,rfl,?_⟩
 have s2:=R.same.trans R'.same
 cases b with
 | false=>exact hQ false H2 s2 h
 | true =>
  refine l2 hF s2 h3 h fun d'' t'' H3 ht'' R'' h=>?_
  subst ht''
  exact Ks ((R'.back R.same).fwd R''.same) (R''.back s2) h fun b hb=>hQ b H3 (s2.trans R''.same) hb
theorem LH (hK:X.K=p.K) (hu:X.A.units + 64 < cLine) {a b c:Expr} {x y z:E} {o o':C2} (ha:PE X a (lE p EX tn x)) (hb:PE X b (lE p EX tn y)) (hc:PE X c (lE p EX tn z)) (hm:lastMarks [A9 o,A9 o'] [b,c]=false):PE X (.Compare a [A9 o,A9 o'] [b,c] pos) (lE p EX tn (.chain o o' x y z)):=by
 refine PE.mono (Mw (DR hK hu o) (DR hK hu o') ha hb hc hm) fun σ H Q h=>?_
 obtain ⟨τ,rfl,hF,j,k,hj,h⟩:=h
 simp only [jk] at hj
 obtain ⟨⟨j1,k1⟩,h1,hj⟩:=bS hj
 obtain ⟨⟨j2,k2⟩,h2,hj⟩:=bS hj
 obtain ⟨⟨j3,k3⟩,h3,hj⟩:=bS hj
 exact LF hF h1 h2 h3 h fun b H2 s hb=>KE.bl s hb
theorem Kt (hK:X.K=p.K) (hu:X.A.units + 64 < cLine) {a b c:Expr} {x y z:E} {o o':C2} (ha:PE X a (lE p EX tn x)) (hb:PE X b (lE p EX tn y)) (hc:PE X c (lE p EX tn z)) (hm:lastMarks [A9 o,A9 o'] [b,c]=false):PT X (.Compare a [A9 o,A9 o'] [b,c] pos) (lT p EX tn (.chain o o' x y z)):=by
 refine PT.mono (Mx (DR hK hu o) (DR hK hu o') ha hb hc hm) fun σ H Q h=>?_
 obtain ⟨τ,rfl,hF,hj,h⟩:=h
 obtain ⟨q,hj⟩:=aav.mp hj
 simp only [jk] at hj
 obtain ⟨⟨j1,k1⟩,h1,hj⟩:=bS hj
 obtain ⟨⟨j2,k2⟩,h2,hj⟩:=bS hj
 obtain ⟨⟨j3,k3⟩,h3,hj⟩:=bS hj
 unfold tv at h
 exact LF hF h1 h2 h3 h.bind fun b H2 s hb=>⟨b,rfl,hb H2 s⟩
theorem Ol {t:T}:decide (t.val=V.non)=(match t.dat with | .non=>true | _=>false):=by
 cases t <;> rfl
theorem Qi {x:E} {n:Bool} {τ:Ft} {H:Hp} {Kc:D->Prop} {Q:VK} {j1 k1:Nat} (hF:Fok p tn τ H) (h1:jk tn x=some (j1,k1)) (h:Lg p EX (vτ τ) (ev (.isN n x) (dτ τ)) H Kc) (hQ:∀ b H2,Same H H2->Kc (.bl b)->Q (.bl b) H2) :
  lE p EX tn x (vτ τ) H fun v H1=>Q (.bl (if n then !decide (v=.non) else decide (v=.non))) H1:=by
 simp only [ev] at h
 refine l1 hF h1 h fun d t H1 ht R h=>?_
 subst ht
 refine hQ _ H1 R.same ?_
 have h:Kc (.bl (match t.dat with | .non=>!n | _=>n)):=h
 rw [Ol]
 cases n <;> cases t <;> exact h
theorem Om {a:Expr} {x:E} {n:Bool} {j pos'} (ha:PE X a (lE p EX tn x)):PE X (.Compare a [if n then .IsNot else .Is] [.Constant .none j pos'] pos) (lE p EX tn (.isN n x)):=by
 have key:∀ σ H Q,lE p EX tn (.isN n x) σ H Q->lE p EX tn x σ H fun v H1=>Q (.bl (if n then !decide (v=.non) else decide (v=.non))) H1:=by
  intro σ H Q h
  obtain ⟨τ,rfl,hF,j,k,hj,h⟩:=h
  simp only [jk] at hj
  obtain ⟨⟨j1,k1⟩,h1,hj⟩:=bS hj
  exact Qi hF h1 h fun b H2 s hb=>KE.bl s hb
 cases n with
 | true=>exact PE.mono (K6 (JC ha)) fun σ H Q h=>key σ H Q h
 | false=>exact PE.mono (K6 (K5 ha)) fun σ H Q h=>key σ H Q h
theorem MP {a:Expr} {x:E} {n:Bool} {j pos'} (ha:PE X a (lE p EX tn x)):PT X (.Compare a [if n then .IsNot else .Is] [.Constant .none j pos'] pos) (lT p EX tn (.isN n x)):=by
 have key:∀ σ H Q,lT p EX tn (.isN n x) σ H Q->lE p EX tn x σ H fun v H1=>∃ c,V.bl (if n then !decide (v=.non) else decide (v=.non))=V.bl c/\Q c H1:=by
  intro σ H Q h
  obtain ⟨τ,rfl,hF,hj,h⟩:=h
  obtain ⟨q,hj⟩:=aav.mp hj
  simp only [jk] at hj
  obtain ⟨⟨j1,k1⟩,h1,hj⟩:=bS hj
  unfold tv at h
  exact Qi (Q:=fun v H1=>∃ c,v=V.bl c/\Q c H1) hF h1 h.bind fun b H2 s hb=>⟨b,rfl,hb H2 s⟩
 cases n with
 | true=>exact PT.mono (K7 (JC ha)) fun σ H Q h=>key σ H Q h
 | false=>exact PT.mono (K7 (K5 ha)) fun σ H Q h=>key σ H Q h
end
section
variable {p:Px} {EX:EXT} {tn:List Nat} {X:Cx} {pos:Pos}
theorem On {a:Expr} {x:E} (ha:PE X a (lE p EX tn x)):PE X (.UnaryOp .USub a pos) (lE p EX tn (.neg x)):=by
 refine PE.mono (Rg PJ ha) fun σ H Q h=>?_
 obtain ⟨τ,rfl,hF,j,k,hj,h⟩:=h
 simp only [jk] at hj
 obtain ⟨⟨j1,k1⟩,h1,hj⟩:=bS hj
 simp only [ev] at h
 refine l1 hF h1 h fun d t H1 ht R h=>?_
 subst ht
 cases t <;> simp only [T.dat] at h
 all_goals first | exact nE h | exact ⟨_,rfl,h (.int _) H1 rfl (Rs.scal R.same rfl)⟩
theorem Oo {a:Expr} {x:E} (ha:PE X a (lE p EX tn x)):PE X (.UnaryOp .Not a pos) (lE p EX tn (.not x)):=by
 refine PE.mono (Pp ha) fun σ H Q h=>?_
 obtain ⟨τ,rfl,hF,j,k,hj,h⟩:=h
 simp only [jk] at hj
 obtain ⟨⟨j1,k1⟩,h1,hj⟩:=bS hj
 simp only [ev] at h
 refine l1 hF h1 h fun d t H1 ht R h=>?_
 subst ht
 cases t <;> simp only [T.dat] at h
 all_goals first | exact nE h | exact ⟨_,rfl,h (.bl _) H1 rfl (Rs.scal R.same rfl)⟩
theorem MQ {H:Hp} {t:T} {σ:St} {H0:Hp} {Kc:Bool->Prop} (hK:X.K=p.K) (ok:t.Ok p H) (h:Lg p EX σ (Bw t.dat) H0 Kc):∃ b,My X.K t.val H b/\Kc b:=by
 cases t <;> simp only [T.dat,Bw] at h
 ·exact ⟨false,rfl,h⟩
 ·exact ⟨_,rfl,h⟩
 ·exact ⟨_,rfl,h⟩
 ·exact nE h
 ·rename_i a ts
  refine ⟨_,.inr (.inl ⟨_,SqT.of ok.1,rfl⟩),?_⟩
  have h:Kc (!(T.dats ts).isEmpty):=h
  cases ts <;> exact h
 ·rename_i a ts
  refine ⟨_,.inl ⟨_,.inl ok.1,rfl⟩,?_⟩
  have h:Kc (!(T.dats ts).isEmpty):=h
  cases ts <;> exact h
 ·exact nE h
noncomputable def Im:Expr->Bool
 | .UnaryOp .Not _ _=>false
 | .BoolOp _ _ _=>false
 | .IfExp _ _ _ _=>false
 | .Compare _ _ _ _=>false
 | _=>true
theorem LJ {a:Expr} {env:Env} (h:Im a=true):∀ whole,isTrue a env whole=(do let v <- whole; standAt a.pos; holding [v] (truthy v)):=by
 intro whole
 cases a with
 | UnaryOp o x q=>cases o <;> first | rfl | cases h
 | BoolOp _ _ _=>cases h
 | IfExp _ _ _ _=>cases h
 | Compare _ _ _ _=>cases h
 | _=>rfl
theorem Ku (hK:X.K=p.K) {a:Expr} {x:E} (ha:PE X a (lE p EX tn x)) (hp:Im a=true):PT X a (lT p EX tn x):=by
 refine PT.mono (Mz ha (LJ hp)) fun σ H Q h=>?_
 obtain ⟨τ,rfl,hF,hj,h⟩:=h
 obtain ⟨⟨j,k⟩,hj⟩:=aav.mp hj
 refine l1 hF hj h fun d t H1 ht R h=>?_
 subst ht
 obtain ⟨b,tb,hb⟩:=MQ (X:=X) hK R.ok h
 exact ⟨b,tb,hb H1 R.same⟩
theorem MR {a:Expr} {x:E} (ha:PT X a (lT p EX tn x)):PT X (.UnaryOp .Not a pos) (lT p EX tn (.not x)):=by
 refine PT.mono (Pm ha) fun σ H Q h=>?_
 obtain ⟨τ,rfl,hF,hj,h⟩:=h
 obtain ⟨q,hj⟩:=aav.mp hj
 simp only [jk] at hj
 obtain ⟨⟨j1,k1⟩,h1,hj⟩:=bS hj
 refine ⟨τ,rfl,hF,by rw [h1]; rfl,?_⟩
 unfold tv at h ⊢
 simp only [ev] at h
 cases q:ev x (dτ τ) with
 | ok d =>
  rw [q] at h
  simp only [Res.bind_ok] at h ⊢
  cases d <;> simp only [Res.bind_bad] at h
  all_goals first | exact nE h | exact h
 | exc c=>rw [q] at h; exact h
 | bad=>rw [q] at h; exact h
theorem Qj {a:Expr} {x:E} {k0:Bool} (ha:PE X a (lE p EX tn x)):PE X (.BoolOp (if k0 then .And else .Or) [a] pos) (lE p EX tn (.bo k0 (.cons x .nil))):=by
 refine PE.mono (Pn ha) fun σ H Q h=>?_
 obtain ⟨τ,rfl,hF,j,k,hj,h⟩:=h
 simp only [jk,jks] at hj
 obtain ⟨⟨j1,k1⟩,h1,hj⟩:=bS hj
 simp only [ev,evBo] at h
 have hj:=Option.some.inj hj
 refine ⟨τ,rfl,hF,j1,k1,h1,h.mono (Same.refl _) fun d _ hd t H' ht R=>hd t H' ht (R.le ?_ ?_)⟩
 ·simp at hj; omega
 ·simp at hj
  obtain ⟨h1,h2⟩:=hj
  rw [<- h2]
  split
  ·exact aby ..
  ·exact aas _
theorem Op {a b:Expr} {rest:List Expr} {x y:E} {r:Es} {k0:Bool} (ha:PE X a (lE p EX tn x)) (hb:PE X (.BoolOp (if k0 then .And else .Or) (b :: rest) pos) (lE p EX tn (.bo k0 (.cons y r)))) :
  PE X (.BoolOp (if k0 then .And else .Or) (a :: b :: rest) pos) (lE p EX tn (.bo k0 (.cons x (.cons y r)))):=by
 have key:∀ σ H Q,lE p EX tn (.bo k0 (.cons x (.cons y r))) σ H Q->lE p EX tn x σ H fun v H1=>∃ c,v=.bl c/\if c=k0 then lE p EX tn (.bo k0 (.cons y r)) σ H1 Q else Q (.bl c) H1:=by
  intro σ H Q h
  obtain ⟨τ,rfl,hF,j,k,hj,h⟩:=h
  simp only [jk,jks] at hj
  obtain ⟨⟨j1,k1⟩,h1,hj⟩:=bS hj
  obtain ⟨⟨j2,k2⟩,h2,hj⟩:=bS hj
  have hj:=Option.some.inj hj
  simp only [Prod.mk.injEq] at hj
  simp only [ev,evBo] at h
  refine l1 hF h1 h fun d t H1 ht R h=>?_
  subst ht
  cases t <;> simp only [T.dat] at h
  all_goals first | exact nE h | skip
  rename_i c
  refine ⟨c,rfl,?_⟩
  by_cases z:c=k0
  ·rw [if_pos z] at h ⊢
   refine ⟨τ,rfl,hF.same R.same,j2,k2,by simp only [jk,jks]; exact h2,?_⟩
   simp only [ev]
   refine h.mono R.same fun d _ hd t H' ht R'=>hd t H' ht ((R'.back R.same).le (by omega) ?_)
   rw [<- hj.2]
   split
   ·exact abh ..
   ·exact aas _
  ·rw [if_neg z] at h ⊢
   exact h (.bl c) H1 rfl (Rs.scal R.same rfl)
 cases k0 with
 | true =>
  refine PE.mono (Po ha hb) fun σ H Q h=>?_
  refine (show ∀ (A B:VK),(∀ v H,A v H->B v H)->lE p EX tn x σ H A->lE p EX tn x σ H B from ?_) _ _ ?_ (key σ H Q h)
  ·rintro A B m ⟨τ,e,hF,j,k,hj,h⟩
   exact ⟨τ,e,hF,j,k,hj,h.mono (Same.refl _) fun d _ hd t H' ht R=>m _ _ (hd t H' ht R)⟩
  ·rintro v H1 ⟨c,rfl,h⟩
   exact ⟨c,rfl,by cases c <;> simpa using h⟩
 | false =>
  refine PE.mono (Ra ha hb) fun σ H Q h=>?_
  refine (show ∀ (A B:VK),(∀ v H,A v H->B v H)->lE p EX tn x σ H A->lE p EX tn x σ H B from ?_) _ _ ?_ (key σ H Q h)
  ·rintro A B m ⟨τ,e,hF,j,k,hj,h⟩
   exact ⟨τ,e,hF,j,k,hj,h.mono (Same.refl _) fun d _ hd t H' ht R=>m _ _ (hd t H' ht R)⟩
  ·rintro v H1 ⟨c,rfl,h⟩
   exact ⟨c,rfl,by cases c <;> simpa using h⟩
theorem Oq {a:Expr} {x:E} {k0:Bool} (ha:PT X a (lT p EX tn x)):PW X (.BoolOp (if k0 then .And else .Or) [a] pos) (lT p EX tn (.bo k0 (.cons x .nil))):=by
 have key:∀ σ H Q,lT p EX tn (.bo k0 (.cons x .nil)) σ H Q->lT p EX tn x σ H Q:=by
  rintro σ H Q ⟨τ,rfl,hF,hj,h⟩
  refine ⟨τ,rfl,hF,?_,by simpa only [tv,ev,evBo] using h⟩
  obtain ⟨q,hj⟩:=aav.mp hj
  simp only [jk,jks] at hj
  obtain ⟨⟨j1,k1⟩,h1,hj⟩:=bS hj
  rw [h1]; rfl
 cases k0 with
 | true=>exact fun wh pins s σ H Q I h=>NU ha wh pins s σ H Q I (key σ H Q h)
 | false=>exact fun wh pins s σ H Q I h=>Pk ha wh pins s σ H Q I (key σ H Q h)
theorem MT {a b:Expr} {rest:List Expr} {x y:E} {r:Es} {k0:Bool} (ha:PT X a (lT p EX tn x)) (hb:PW X (.BoolOp (if k0 then .And else .Or) (b :: rest) pos) (lT p EX tn (.bo k0 (.cons y r)))) :
  PW X (.BoolOp (if k0 then .And else .Or) (a :: b :: rest) pos) (lT p EX tn (.bo k0 (.cons x (.cons y r)))):=by
 have key:∀ σ H Q,lT p EX tn (.bo k0 (.cons x (.cons y r))) σ H Q->lT p EX tn x σ H fun c H1=>if c=k0 then lT p EX tn (.bo k0 (.cons y r)) σ H1 Q else Q c H1:=by
  rintro σ H Q ⟨τ,rfl,hF,hj,h⟩
  obtain ⟨q,hj⟩:=aav.mp hj
  simp only [jk,jks] at hj
  obtain ⟨⟨j1,k1⟩,h1,hj⟩:=bS hj
  obtain ⟨⟨j2,k2⟩,h2,hj⟩:=bS hj
  refine ⟨τ,rfl,hF,by rw [h1]; rfl,?_⟩
  simp only [tv,ev,evBo] at h ⊢
  cases q:ev x (dτ τ) with
  | ok d =>
   rw [q] at h
   simp only [Res.bind_ok] at h ⊢
   cases d <;> simp only [Res.bind_bad] at h
   all_goals first | exact nE h | skip
   rename_i c
   show ∀ H',Same H H'->if c=k0 then _ else _
   intro H' s
   by_cases z:c=k0
   ·rw [if_pos z] at h ⊢
    refine ⟨τ,rfl,hF.same s,by simp only [jk,jks]; rw [h2]; rfl,?_⟩
    simp only [tv,ev]
    exact h.mono s fun b _ hb H2 s2=>hb H2 (s.trans s2)
   ·rw [if_neg z] at h ⊢
    exact h H' s
  | exc c=>rw [q] at h; exact h
  | bad=>rw [q] at h; exact h
 have mon:∀ (σ:St) (H:Hp) (A B:Bool->Hp->Prop),(∀ v H,A v H->B v H)->lT p EX tn x σ H A->lT p EX tn x σ H B:=by
  rintro σ H A B m ⟨τ,e,hF,hj,h⟩
  exact ⟨τ,e,hF,hj,h.mono (Same.refl _) fun b _ hb H' s=>m _ _ (hb H' s)⟩
 cases k0 with
 | true=>exact fun wh pins s σ H Q I h=>Pl ha hb wh pins s σ H Q I (mon _ _ _ _ (fun c H1 h=>by cases c <;> simpa using h) (key σ H Q h))
 | false=>exact fun wh pins s σ H Q I h=>Q7 ha hb wh pins s σ H Q I (mon _ _ _ _ (fun c H1 h=>by cases c <;> simpa using h) (key σ H Q h))
theorem Os {c a b:Expr} {x y z:E} (hc:PT X c (lT p EX tn x)) (ha:PE X a (lE p EX tn y)) (hb:PE X b (lE p EX tn z)):PE X (.IfExp c a b pos) (lE p EX tn (.ifx x y z)):=by
 refine PE.mono (Mp hc ha hb) fun σ H Q h=>?_
 obtain ⟨τ,rfl,hF,j,k,hj,h⟩:=h
 simp only [jk] at hj
 obtain ⟨⟨j1,k1⟩,h1,hj⟩:=bS hj
 obtain ⟨⟨j2,k2⟩,h2,hj⟩:=bS hj
 obtain ⟨⟨j3,k3⟩,h3,hj⟩:=bS hj
 have hj:=Option.some.inj hj
 simp only [Prod.mk.injEq] at hj
 simp only [ev] at h
 have hk2:k<=k2:=by rw [<- hj.2]; split; exact aby ..; exact aas _
 have hk3:k<=k3:=by rw [<- hj.2]; split; exact abh ..; exact aas _
 refine ⟨τ,rfl,hF,by rw [h1]; rfl,h.bind.mono (Same.refl _) fun t _ ht H' s=>?_⟩
 cases t with
 | true =>
  rw [if_pos rfl] at ht ⊢
  exact ⟨τ,rfl,hF.same s,j2,k2,h2,ht.mono s fun d _ hd t H2 ht R=>hd t H2 ht ((R.back s).le (by omega) hk2)⟩
 | false =>
  rw [if_neg (by decide)] at ht ⊢
  exact ⟨τ,rfl,hF.same s,j3,k3,h3,ht.mono s fun d _ hd t H2 ht R=>hd t H2 ht ((R.back s).le (by omega) hk3)⟩
end
section
variable {p:Px} {EX:EXT} {tn:List Nat} {X:Cx} {pos:Pos}
theorem Io (n:Nat) (i:Int):L2.ixN n i=ixN n i:=rfl
theorem HQ {ts:List T} {i:Int} {σ:St} {H:Hp} {Kc:D->Prop} (h:Lg p EX σ (atD (T.dats ts) i) H Kc):∃ t ∈ ts,atI (ts.map T.val) i=some t.val/\Kc t.dat:=by
 unfold atD at h
 rw [Ad] at h
 cases q:ixN ts.length i with
 | none=>rw [q] at h; exact nE h
 | some j =>
  rw [q] at h
  simp only [aaO] at h
  rw [T.dats_map,aao] at h
  cases e:ts[j]? with
  | none=>rw [e] at h; exact nE h
  | some t =>
   rw [e] at h
   refine ⟨t,aae e,?_,h⟩
   unfold atI
   rw [aaa,Io,q]
   show (ts.map T.val)[j]?=_
   rw [aao,e]; rfl
theorem Rs.sub {B:Addr->Prop} {H H1:Hp} {j k j':Nat} {t u:T} (r:Rs p B H H1 j k t) (ok:u.Ok p H1) (h:∀ a ∈ u.rest j',a ∈ t.rest j):Rs p B H H1 j' 0 u :=
 ⟨r.same,ok,fun a m=>r.src a (h a m),by rw [T.adr_zero]; simp,T.nd_zero u⟩
noncomputable def Bb:Expr->Bool
 | .Slice _ _ _ _=>false
 | _=>true
theorem Eh {b:Expr} (h:Bb b=true):JG b:=by
 intro o i
 cases b <;> first | rfl | cases h
theorem Qk (hK:X.K=p.K):IxR X (fun x y H Q=>PV X.K x y H Q\/PX X.K x y H Q):=Ez.or Ia
theorem Ql (hK:X.K=p.K) {a b:Expr} {x y:E} (ha:PE X a (lE p EX tn x)) (hb:PE X b (lE p EX tn y)) (hp:Bb b=true):PE X (.Subscript a b pos) (lE p EX tn (.ix x y)):=by
 refine PE.mono (Fx (Qk hK) ha hb (Eh hp)) fun σ H Q h=>?_
 obtain ⟨τ,rfl,hF,j,k,hj,h⟩:=h
 simp only [jk] at hj
 obtain ⟨⟨j1,k1⟩,h1,hj⟩:=bS hj
 obtain ⟨⟨j2,k2⟩,h2,hj⟩:=bS hj
 obtain ⟨hc,e⟩:=Dr hj
 cases e
 have hc:=of_decide_eq_true hc
 subst hc
 simp only [ev] at h
 refine l1 hF h1 h fun d t H1 ht R h=>l2 hF R.same h2 h fun d' t' H2 ht' R' h=>?_
 subst ht ht'
 have R:=R.fwd R'.same
 cases t <;> cases t' <;> simp only [T.dat,ixD] at h
 all_goals first | exact nE h | skip
 ·obtain ⟨u,hu,e,h⟩:=HQ h
  exact .inr ⟨_,_,_,_,rfl,rfl,SqT.of R.ok.1,e,h u H2 rfl (R.sub (T.oks_iff.mp R.ok.2 u hu) fun b m=>T.mem_rests.mpr ⟨u,hu,m⟩)⟩
 ·obtain ⟨u,hu,e,h⟩:=HQ h
  exact .inl ⟨_,_,_,_,rfl,rfl,.inl R.ok.1,e,h u H2 rfl (R.sub (T.oks_iff.mp R.ok.2 u hu) fun b m=>aab _ (T.mem_rests.mpr ⟨u,hu,m⟩))⟩
theorem Ot {a b:Expr} {x y:E} (ha:PE X a (lE p EX tn x)) (hb:PE X b (lE p EX tn y)) (hp:Bb b=true):PE X (.Subscript a b pos) (lE p EX tn (.ixL x y)):=by
 refine PE.mono (Fx Ez ha hb (Eh hp)) fun σ H Q h=>?_
 obtain ⟨τ,rfl,hF,j,k,hj,h⟩:=h
 simp only [jk] at hj
 obtain ⟨⟨j1,k1⟩,h1,hj⟩:=bS hj
 obtain ⟨⟨j2,k2⟩,h2,hj⟩:=bS hj
 have hj:=Option.some.inj hj
 simp only [Prod.mk.injEq] at hj
 obtain ⟨rfl,rfl⟩:=hj
 simp only [ev] at h
 refine l1 hF h1 h fun d t H1 ht R h=>l2 hF R.same h2 h fun d' t' H2 ht' R' h=>?_
 subst ht ht'
 have R:=R.fwd R'.same
 cases t <;> cases t' <;> simp only [T.dat,DW] at h
 all_goals first | exact nE h | skip
 obtain ⟨u,hu,e,h⟩:=HQ h
 refine ⟨_,_,_,_,rfl,rfl,.inl R.ok.1,e,h u H2 rfl (R.sub (T.oks_iff.mp R.ok.2 u hu) fun b m=>?_)⟩
 cases j1 with
 | zero=>exact aab _ (T.mem_rests.mpr ⟨u,hu,m⟩)
 | succ j1=>exact T.mem_rests.mpr ⟨u,hu,m⟩
theorem Ou {a b:Expr} {x y:E} (ha:PE X a (lE p EX tn x)) (hb:PE X b (lE p EX tn y)) (hp:Bb b=true):PE X (.Subscript a b pos) (lE p EX tn (.ixT x y)):=by
 refine PE.mono (Fx Ia ha hb (Eh hp)) fun σ H Q h=>?_
 obtain ⟨τ,rfl,hF,j,k,hj,h⟩:=h
 simp only [jk] at hj
 obtain ⟨⟨j1,k1⟩,h1,hj⟩:=bS hj
 obtain ⟨⟨j2,k2⟩,h2,hj⟩:=bS hj
 have hj:=Option.some.inj hj
 simp only [Prod.mk.injEq] at hj
 obtain ⟨rfl,rfl⟩:=hj
 simp only [ev] at h
 refine l1 hF h1 h fun d t H1 ht R h=>l2 hF R.same h2 h fun d' t' H2 ht' R' h=>?_
 subst ht ht'
 have R:=R.fwd R'.same
 cases t <;> cases t' <;> simp only [T.dat,DX] at h
 all_goals first | exact nE h | skip
 obtain ⟨u,hu,e,h⟩:=HQ h
 exact ⟨_,_,_,_,rfl,rfl,SqT.of R.ok.1,e,h u H2 rfl (R.sub (T.oks_iff.mp R.ok.2 u hu) fun b m=>T.mem_rests.mpr ⟨u,hu,m⟩)⟩
theorem GB (n d:Nat) (o:Option Int):HT.sIx n d o=sIx n d o:=by
 cases o with
 | none=>rfl
 | some v=>exact Int.ofNat_inj.mp (by rw [<- HT.clip_eq v n d]; unfold sIx; simp only; split <;> omega)
theorem JN {α β:Type} (f:α->β) (xs:List α) (lo hi:Option Int):(cut xs lo hi).map f=cut (xs.map f) lo hi:=by
 unfold cut; rw [abd,abl,aaa]
theorem JO (ts:List T) (lo hi:Option Int):E1 (ts.map T.val) lo hi=(cut ts lo hi).map T.val:=by
 unfold E1 cut
 rw [abd,abl,aaa,GB,GB]
theorem FC {α:Type} {xs:List α} {lo hi:Option Int} {x:α} (h:x ∈ cut xs lo hi):x ∈ xs:=abq (abr h)
noncomputable def lO (p:Px) (EX:EXT) (tn:List Nat) (e:E):TO:=fun σ H Q=>∃ τ,σ=vτ τ/\Fok p tn τ H/\(jk tn e).isSome=true/\Lg p EX σ (Ca e.isCN (ev e (dτ τ))) H fun o=>∀ H',Same H H'->Q o H'
theorem Hy:PO X none (lO p EX tn .cN):=by
 intro pins s σ H Q I h
 obtain ⟨τ,rfl,hF,hj,h⟩:=h
 exact N0 pins s _ H Q I (h H (Same.refl _))
theorem Hz {e:Expr} {x:E} (he:PE X e (lE p EX tn x)) (hx:x.isCN=false):PO X (some e) (lO p EX tn x):=by
 intro pins s σ H Q I h
 obtain ⟨τ,rfl,hF,hj,h⟩:=h
 obtain ⟨⟨j,k⟩,hj⟩:=aav.mp hj
 unfold Ca at h
 rw [hx,if_neg (by decide)] at h
 refine N1 he pins s _ H Q I (l1 hF hj h fun d t H1 ht R h=>?_)
 subst ht
 cases t <;> simp only [T.dat,CQ] at h
 all_goals first | exact nE h | exact ⟨_,rfl,h H1 R.same⟩
theorem JP:∀ {ts:List T},(T.dats ts).all D.scal=true->∀ t ∈ ts,t.sc=true
 | [],_,t,h=>nomatch h
 | u :: r,h,t,ht=>by
  simp only [T.dats,aaA,aak] at h
  rcases aaj.mp ht with rfl | ht
  ·cases t <;> first | rfl | cases h.1
  ·exact JP h.2 t ht
theorem Ov {t:T} {j:Nat} (h:t.sc=true):t.rest j=[]:=by cases t <;> first | rfl | cases h
theorem Qm {t:T} {j:Nat} (h:t.sc=true):t.adr j=[]:=by cases t <;> first | rfl | cases h
theorem Ip {ts:List T} {j:Nat} (h:∀ t ∈ ts,t.sc=true):T.rests ts j=[]:=by
 refine aaN.mpr fun b hb=>?_
 obtain ⟨t,ht,q⟩:=T.mem_rests.mp hb
 rw [Ov (h t ht)] at q; cases q
theorem JQ {ts:List T} {j:Nat} (h:∀ t ∈ ts,t.sc=true):T.adrs ts j=[]:=by
 refine aaN.mpr fun b hb=>?_
 obtain ⟨t,ht,q⟩:=T.mem_adrs.mp hb
 rw [Qm (h t ht)] at q; cases q
theorem MU {B:Addr->Prop} {H H1:Hp} {j k:Nat} {a:Addr} {ts:List T} (s:Same H H1) (ok:(T.tup a ts).Ok p H1) (h:∀ t ∈ ts,t.sc=true):Rs p B H H1 j k (.tup a ts) :=
 ⟨s,ok,by simp only [T.rest]; rw [Ip h]; simp,by simp only [T.adr]; rw [JQ h]; simp,by unfold T.Nd; simp only [T.adr,T.rest]; rw [Ip h,JQ h]; simp⟩
theorem Ow {a:Expr} {lo hi:Option Expr} {p2:Pos} {x y z:E} (ha:PE X a (lE p EX tn x)) (hl:PO X lo (lO p EX tn y)) (hh:PO X hi (lO p EX tn z)):PE X (.Subscript a (.Slice lo hi none p2) pos) (lE p EX tn (.slc x y z)):=by
 refine PE.mono (MB (N2.or PU) ha hl hh) fun σ H Q h=>?_
 obtain ⟨τ,rfl,hF,j,k,hj,h⟩:=h
 simp only [jk] at hj
 obtain ⟨⟨j1,k1⟩,h1,hj⟩:=bS hj
 obtain ⟨q2,h2,hj⟩:=bS hj
 obtain ⟨q3,h3,hj⟩:=bS hj
 obtain ⟨hc,e⟩:=Dr hj
 cases e
 have hc:=of_decide_eq_true hc
 simp only [ev] at h
 refine l1 hF h1 h fun d t H1 ht R h=>?_
 subst ht
 refine ⟨τ,rfl,hF.same R.same,by rw [h2]; rfl,h.bind.mono R.same fun l _ h H2 s2=>?_⟩
 refine ⟨τ,rfl,hF.same (R.same.trans s2),by rw [h3]; rfl,h.bind.mono (R.same.trans s2) fun u _ h H3 s3=>?_⟩
 have R:=R.fwd (s2.trans s3)
 cases t with
 | tup b ts =>
  simp only [T.dat,CK] at h
  obtain ⟨⟨g1,g2⟩,h⟩:=h.guard
  refine .inr ⟨b,_,rfl,SqT.of R.ok.1,?_,fun q hq=>?_⟩
  ·rw [aaa,GB,GB,<- Ad]; exact g2
  ·rw [JO]
   have sn:=Same.new (o:=.tup ((cut ts l u).map T.val)) hq
   refine h (.tup q (cut ts l u)) _ (by simp only [T.dat,T.dats_map,JN]) (MU (R.same.trans sn) ⟨AJ,T.oks_iff.mpr fun w hw=>((T.oks_iff.mp R.ok.2 w (FC hw))).same sn⟩ fun w hw=>JP g1 w (FC hw))
 | lst b ts =>
  simp only [T.dat,CK] at h
  refine .inl ⟨b,_,rfl,.inl R.ok.1,fun q hq=>?_⟩
  rw [JO]
  refine h (.lst q (cut ts l u)) _ (by simp only [T.dat,T.dats_map,JN]) (E6 R.same (T.oks_iff.mpr fun w hw=>T.oks_iff.mp R.ok.2 w (FC hw)) (fun c m=>?_) hq)
  obtain ⟨w,hw,m⟩:=T.mem_rests.mp m
  exact R.elems hc c (T.mem_rests.mpr ⟨w,FC hw,m⟩)
 | _=>exact nE h
end
noncomputable def spF (p:Px) (F:Fn):Sp:=fun vs H Q E=>∃ ts:List T,vs=ts.map T.val/\T.Oks p H ts/\ts.length=F.ar/\match F.den (T.dats ts) with
 | .ok d=>∀ t H',t.dat=d->Rs p (fun a=>a ∈ T.rests ts 0) H H' 0 F.dep t->Q t.val H'
 | .exc c=>p.has c=true->∀ H',Same H H'->E (.ref (p.cl c)) none H'
 | .bad=>False
noncomputable def Kv (p:Px) (X:Cx) (F:Fn):Prop:=∃ ps:List Str,ps.length=F.ar/\Has X.prog X.w X.K X.mg X.base F.name F.lv ps (spF p F)
theorem E8:∀ (m:Nat) (t:T) (k:Nat),t.dat.flat m k=true->t.rest k=[]
 | 0,t,k,h=>by simp [D.flat] at h
 | m + 1,t,k,h=>by
  cases t with
  | tup a ts =>
   simp only [T.dat,D.flat] at h
   simp only [T.rest]
   refine aaN.mpr fun b hb=>?_
   obtain ⟨t,ht,q⟩:=T.mem_rests.mp hb
   rw [E8 m t k (EN h t ht)] at q; cases q
  | lst a ts =>
   cases k with
   | zero=>simp [T.dat,D.flat] at h
   | succ k =>
    simp only [T.dat,D.flat] at h
    simp only [T.rest]
    refine aaN.mpr fun b hb=>?_
    obtain ⟨t,ht,q⟩:=T.mem_rests.mp hb
    rw [E8 m t k (EN h t ht)] at q; cases q
  | _=>rfl
noncomputable def Ar:Expr->Bool
 | .Starred _ _=>false
 | _=>true
theorem Ai {e:Expr} {es:List Expr} {env:Env} (h:Ar e=true):starEach (e :: es) env=(false,eval e env) :: starEach es env:=by
 cases e <;> first | rfl | cases h
theorem AB {pos:Pos} {env:Env}:∀ {es:List Expr},es.all Ar=true->(backTo pos (starEach es env)).any (·.1)=false
 | [],_=>rfl
 | e :: es,h=>by
  rw [aaA,aak] at h
  rw [Ai h.1]
  have ih:=AB (pos:=pos) (env:=env) h.2
  unfold backTo at ih ⊢
  rw [aaz,ab9,ih]; rfl
section
variable {p:Px} {EX:EXT} {tn:List Nat} {X:Cx} {pos np:Pos}
theorem MV {F:Fn} {e:Expr} {es:List Expr} {x:E} {xs:Es} (hx:E2 (CXe X.prog X.w) X EX) (hF:Kv p X F) (hr:Room F.lv X.A) (hg:Gl X F.name) (hdb:(F.name==("__debug__" : Str))=false) (ha:PA X (e :: es) (lEs p EX tn (.cons x xs))) (hst:(e :: es).all Ar=true) (hl:(Es.cons x xs).len=F.ar) :
  PE X (.Call (.Name F.name np) (e :: es) [] pos) (lE p EX tn (.call F (.cons x xs))):=by
 obtain ⟨ps,hps,hF⟩:=hF
 rw [aaA,aak] at hst
 refine PE.mono (NI hF hr hg hx ha hdb (Ai hst.1) (AB hst.2)) fun σ H Q h=>?_
 obtain ⟨τ,rfl,hFr,j,k,hj,h⟩:=h
 simp only [jk] at hj
 obtain ⟨⟨j1,k1⟩,h1,hj⟩:=bS hj
 obtain ⟨hc,e⟩:=Dr hj
 cases e
 have hc:j1=0:=of_decide_eq_true hc
 subst hc
 simp only [ev] at h
 refine ⟨τ,rfl,hFr,0,k1,h1,h.bind.mono (Same.refl _) fun ds e hd ts H1 hts R=>?_⟩
 show spF p F (ts.map T.val ++ []) H1 Q (EX (vτ τ))
 rw [aaK]
 refine ⟨ts,rfl,R.ok,?_,?_⟩
 ·rw [<- Ad,hts,Cc _ _ _ e,hl]
 ·rw [hts]
  cases q:F.den ds with
  | ok d =>
   rw [q] at hd
   intro t H' ht R'
   refine hd t H' ht ⟨R.same.trans R'.same,R'.ok,fun a m=>?_,fun a m=>⟨R.same.free (R'.new a m).1,(R'.new a m).2⟩,R'.nd⟩
   rcases R'.src a m with z | z
   ·exact .inl (R.same.free z)
   ·exact R.src a z
  | exc c =>
   rw [q] at hd
   exact fun hc H' s=>hd hc H' (R.same.trans s)
  | bad=>rw [q] at hd; exact hd
theorem T.adr_rest:∀ (t:T) {d K:Nat},t.rest d=[]->d<=K->t.adr K=t.adr d:=by
 have lists:∀ (ts:List T),(∀ t ∈ ts,∀ {d K:Nat},t.rest d=[]->d<=K->t.adr K=t.adr d)->∀ {d K:Nat},T.rests ts d=[]->d<=K->T.adrs ts K=T.adrs ts d:=by
  intro ts
  induction ts with
  | nil=>intro _ d K _ _; rfl
  | cons t r ih =>
   intro h d K hr hk
   simp only [T.rests,List.append_eq_nil_iff] at hr
   show t.adr K ++ T.adrs r K=t.adr d ++ T.adrs r d
   rw [h t (aac ..) hr.1 hk,ih (fun u hu=>h u (aab _ hu)) hr.2 hk]
 refine T.ind (by intros; rfl) (by intros; rfl) (by intros; rfl) (by intros; rfl) (fun a ts ih d K h hk=>?_) (fun a ts ih d K h hk=>?_) (by intros; rfl)
 ·exact lists ts ih h hk
 ·cases d with
  | zero=>cases h
  | succ d =>
   cases K with
   | zero=>omega
   | succ K=>exact congrArg (a :: ·) (lists ts ih h (abE hk))
theorem LK {F:Fn} {e:Expr} {es:List Expr} {x:E} {xs:Es} (hx:E2 (CXe X.prog X.w) X EX) (hF:Kv p X F) (hr:Room F.lv X.A) (hg:Gl X F.name) (hdb:(F.name==("__debug__" : Str))=false) (ha:PA X (e :: es) (lEs p EX tn (.cons x xs))) (hst:(e :: es).all Ar=true) (hl:(Es.cons x xs).len=F.ar) :
  PE X (.Call (.Name F.name np) (e :: es) [] pos) (lE p EX tn (.callB F (.cons x xs))):=by
 obtain ⟨ps,hps,hF⟩:=hF
 rw [aaA,aak] at hst
 refine PE.mono (NI hF hr hg hx ha hdb (Ai hst.1) (AB hst.2)) fun σ H Q h=>?_
 obtain ⟨τ,rfl,hFr,j,k,hj,h⟩:=h
 simp only [jk] at hj
 obtain ⟨⟨j1,k1⟩,h1,hj⟩:=bS hj
 have hj:=Option.some.inj hj
 simp only [Prod.mk.injEq] at hj
 obtain ⟨rfl,rfl⟩:=hj
 simp only [ev] at h
 refine ⟨τ,rfl,hFr,j1,k1,h1,h.bind.mono (Same.refl _) fun ds e hd ts H1 hts R=>?_⟩
 show spF p F (ts.map T.val ++ []) H1 Q (EX (vτ τ))
 rw [aaK]
 refine ⟨ts,rfl,R.ok,?_,?_⟩
 ·rw [<- Ad,hts,Cc _ _ _ e,hl]
 ·rw [hts]
  cases q:F.den ds with
  | ok d =>
   rw [q] at hd
   obtain ⟨hf,hd⟩:=Lg.guard hd
   intro t H' ht R'
   subst ht
   have r0:=E8 9 t F.dep hf
   have up:∀ a,a ∈ t.rest 0->a ∈ t.adr F.dep:=fun a m=>by
    rcases (T.all_iff t F.dep).mp m with z | z
    ·exact z
    ·rw [r0] at z; cases z
   refine hd t H' rfl ⟨R.same.trans R'.same,R'.ok,fun a m=>.inl (R.same.free (R'.new a (up a m)).1),fun a m=>?_,?_⟩
   ·have:=R'.new a (up a ((T.all_iff t 9).mpr (.inl m)))
    exact ⟨R.same.free this.1,this.2⟩
   ·by_cases c9:9<=F.dep
    ·exact T.nd_le t c9 R'.nd
    ·have e9:=T.adr_rest t r0 (show F.dep<=9 by omega)
     refine ⟨by rw [e9]; exact R'.nd.1,fun a m _=>?_⟩
     have:=T.rest_le t (show F.dep<=9 by omega) m
     rw [r0] at this; cases this
  | exc c =>
   rw [q] at hd
   exact fun hc H' s=>hd hc H' (R.same.trans s)
  | bad=>rw [q] at hd; exact hd
theorem Cd {b:Bi} {e:Expr} {es:List Expr} {x:E} {xs:Es} {ex:Expr} {r:List V->Hp->VK->Prop} (hp:PE X ex (tCB r (lEs p EX tn (.cons x xs))))
  (hr:∀ (B:Addr->Prop) (H H1:Hp) (j1 k1 j k:Nat) (ts:List T) (σ:St) (Q:VK),RsL p B H H1 j1 k1 ts->(match b with | .list=>gj (decide (j1=0)) (0,1) | .tupleL=>gj (decide (j1<=1)) (0,0) | _=>some (0,9))=some (j,k) ->
   Lg p EX σ (biD b (T.dats ts)) H (KE p B H j k Q)->r (ts.map T.val) H1 Q):PE X ex (lE p EX tn (.bi b (.cons x xs))):=by
 refine PE.mono hp fun σ H Q h=>?_
 obtain ⟨τ,rfl,hFr,j,k,hj,h⟩:=h
 simp only [jk] at hj
 obtain ⟨⟨j1,k1⟩,h1,hj⟩:=bS hj
 simp only [ev] at h
 refine ⟨τ,rfl,hFr,j1,k1,h1,h.bind.mono (Same.refl _) fun ds e hd ts H1 hts R=>?_⟩
 subst hts
 exact hr (Sh tn τ) H H1 j1 k1 j k ts _ Q R hj hd
theorem Ox {B:Addr->Prop} {H H1:Hp} {a:Addr} {ts:List T} (s:Same H H1) (ok:T.Oks p H1 ts) (src:∀ b ∈ T.rests ts 0,H b=none\/B b) (hn:H1 a=none):Rs p B H (L2.upd H1 a (.tup (ts.map T.val))) 0 0 (.tup a ts) :=
 LB ⟨s,ok,src,by rw [T.adrs_zero]; simp,T.nds_zero ts⟩ hn
theorem E9:∀ {ts:List T} {bs:List Bool},BN (T.dats ts)=some bs->ts.map T.val=bs.map V.bl
 | [],bs,h=>by simp [T.dats,BN] at h; subst h; rfl
 | t :: r,bs,h=>by
  cases t <;> simp only [T.dats,T.dat,BN] at h
  all_goals first | cases h | skip
  obtain ⟨bs',h1,rfl⟩:=aap.mp h
  simp [T.val,E9 h1]
theorem FN:∀ {ts:List T} {bs:List Int},B4 (T.dats ts)=some bs->ts.map T.val=bs.map V.int
 | [],bs,h=>by simp [T.dats,B4] at h; subst h; rfl
 | t :: r,bs,h=>by
  cases t <;> simp only [T.dats,T.dat,B4] at h
  all_goals first | cases h | skip
  obtain ⟨bs',h1,rfl⟩:=aap.mp h
  simp [T.val,FN h1]
section
variable {e:Expr} {es:List Expr} {x:E} {xs:Es} (hg:∀ y:Str,y ∈ (["len", "min", "max", "abs", "int", "list", "tuple", "all", "any", "sum", "sorted", "isinstance", "str", "range", "enumerate", "zip", "reversed"]:List Str)->X.mg y=none)
 (ha:PA X (e :: es) (lEs p EX tn (.cons x xs))) (hst:(e :: es).all Ar=true)
include hg ha hst
theorem Oy (hgl:Gl X "len"):PE X (.Call (.Name "len" np) (e :: es) [] pos) (lE p EX tn (.bi .len (.cons x xs))):=by
 rw [aaA,aak] at hst
 refine Cd (es:=es) (e:=e) (CJ Ic hgl (hg _ (by simp)) PySem.boot_len ha (by decide) (by decide) (Ai hst.1) (AB hst.2)) fun B H H1 j1 k1 j k ts σ Q R hj h=>?_
 rcases ts with _ | ⟨t,_ | ⟨u,r⟩⟩
 ·exact nE h
 ·cases t with
  | lst a us=>exact ⟨a,_,rfl,.inl (.inl R.ok.1.1),by have:=h (.int _) H1 rfl (Rs.scal R.same rfl); rw [Ad,<- aaa (f:=T.val)] at this; exact this⟩
  | tup a us=>exact ⟨a,_,rfl,.inr (SqT.of R.ok.1.1),by have:=h (.int _) H1 rfl (Rs.scal R.same rfl); rw [Ad,<- aaa (f:=T.val)] at this; exact this⟩
  | _=>exact nE h
 ·exact nE h
theorem Oz (hgl:Gl X "int"):PE X (.Call (.Name "int" np) (e :: es) [] pos) (lE p EX tn (.bi .int (.cons x xs))):=by
 rw [aaA,aak] at hst
 refine Cd (es:=es) (e:=e) (E0 Lj hgl (hg _ (by simp)) (by decide +kernel) ha (by decide) (by decide) (Ai hst.1) (AB hst.2)) fun B H H1 j1 k1 j k ts σ Q R hj h=>?_
 rcases ts with _ | ⟨t,_ | ⟨u,r⟩⟩
 ·exact nE h
 ·cases t with
  | int i=>exact .inl ⟨i,rfl,h (.int _) H1 rfl (Rs.scal R.same rfl)⟩
  | bl b=>exact .inr ⟨b,rfl,h (.int _) H1 rfl (Rs.scal R.same rfl)⟩
  | _=>exact nE h
 ·exact nE h
theorem MW (hgl:Gl X "list"):PE X (.Call (.Name "list" np) (e :: es) [] pos) (lE p EX tn (.bi .list (.cons x xs))):=by
 rw [aaA,aak] at hst
 refine Cd (es:=es) (e:=e) (E0 Id hgl (hg _ (by simp)) (by decide +kernel) ha (by decide) (by decide) (Ai hst.1) (AB hst.2)) fun B H H1 j1 k1 j k ts σ Q R hj h=>?_
 obtain ⟨hc,ej⟩:=Dr hj
 cases ej
 have hc:j1=0:=of_decide_eq_true hc
 subst hc
 rcases ts with _ | ⟨t,_ | ⟨u,r⟩⟩
 ·exact nE h
 ·cases t with
  | lst a us=>exact ⟨a,_,rfl,.inl (.inl R.ok.1.1),fun l hl=>h (.lst l us) _ rfl (E6 R.same R.ok.1.2 (fun c m=>R.src c (by simp [T.rests,T.rest,m])) hl)⟩
  | tup a us=>exact ⟨a,_,rfl,.inr (SqT.of R.ok.1.1),fun l hl=>h (.lst l us) _ rfl (E6 R.same R.ok.1.2 (fun c m=>R.src c (by simp [T.rests,T.rest,m])) hl)⟩
  | _=>exact nE h
 ·exact nE h
theorem Kw (hgl:Gl X "tuple"):PE X (.Call (.Name "tuple" np) (e :: es) [] pos) (lE p EX tn (.bi .tupleL (.cons x xs))):=by
 rw [aaA,aak] at hst
 refine Cd (es:=es) (e:=e) (E0 HG hgl (hg _ (by simp)) (by decide +kernel) ha (by decide) (by decide) (Ai hst.1) (AB hst.2)) fun B H H1 j1 k1 j k ts σ Q R hj h=>?_
 obtain ⟨hc,ej⟩:=Dr hj
 cases ej
 have hc:j1<=1:=of_decide_eq_true hc
 rcases ts with _ | ⟨t,_ | ⟨u,r⟩⟩
 ·exact nE h
 ·cases t with
  | lst a us=>exact ⟨a,_,rfl,.inl ⟨.inl R.ok.1.1,fun l hl=>h (.tup l us) _ rfl (Ox R.same R.ok.1.2 (fun c m=>R.src c (by
    simp only [T.rests,aaK]
    exact T.rest_le (.lst a us) hc (j':=1) m)) hl)⟩⟩
  | _=>exact nE h
 ·exact nE h
theorem OA (hcm:X.calm=true) (hgl:Gl X "all"):PE X (.Call (.Name "all" np) (e :: es) [] pos) (lE p EX tn (.bi .all (.cons x xs))):=by
 rw [aaA,aak] at hst
 refine Cd (es:=es) (e:=e) (CJ (Lx hcm) hgl (hg _ (by simp)) (by decide +kernel) ha (by decide) (by decide) (Ai hst.1) (AB hst.2)) fun B H H1 j1 k1 j k ts σ Q R hj h=>?_
 rcases ts with _ | ⟨t,_ | ⟨u,r⟩⟩
 ·exact nE h
 ·cases t with
  | lst a us =>
   have h:Lg p EX σ ((DB (BN (T.dats us))).bind _) H (KE p B H j k Q):=h
   cases q:BN (T.dats us) with
   | none=>rw [q] at h; exact nE h
   | some bs =>
    rw [q] at h
    exact ⟨a,bs,rfl,.inl (E9 q ▸ R.ok.1.1),h (.bl _) H1 rfl (Rs.scal R.same rfl)⟩
  | _=>exact nE h
 ·exact nE h
end
end
section
variable {p:Px} {EX:EXT} {tn:List Nat} {X:Cx} {pos np:Pos}
theorem Ky {ns:List Int} {its:List Value} (h:Vals (ns.map V.int) its):∃ xs:Array (Int × Tok),its.toArray=intItems xs/\ns=xs.toList.map (·.1):=by
 have hi:=Kj h
 obtain ⟨xs,hx⟩:=hi.allInts.items
 refine ⟨xs,hx,?_⟩
 rw [<- nums_intItems,<- hx,<- hi.numsOf]
noncomputable def Rt:List V->Hp->VK->Prop:=fun xs H Q=>∃ (l:Addr) (ns:List Int) (M:Int),xs=[.ref l]/\Rd H l (.lst (ns.map V.int))/\ns.max?=some M/\Q (.int M) H
theorem LL (hc:X.calm=true):CB X (.builtin "max") Rt:=by
 intro pins s σ H xs us Q I r h
 obtain ⟨l,ns,M,rfl,hS,hM,q⟩:=h
 obtain ⟨u,rfl,ru⟩:=EM r
 cases (show u=Value.ref l from ru)
 obtain ⟨its,rr,pl,_⟩:=I.list (.inl hS)
 obtain ⟨xs,hx,rfl⟩:=Ky rr
 have hl:=pl.isList
 rw [hx] at hl
 have hne:0 < xs.size:=by
  rcases abS xs.size with z | z
  ·have:xs.toList=[]:=abP (by simpa using z)
   rw [this] at hM; cases hM
  ·exact z
 refine max_intList (I.ok.hd hc) hl hne fun v h' tk hv hk=>?_
 obtain ⟨t,rfl⟩:=intItems_at hv
 obtain ⟨h1,h2⟩:=argBest_gt (numAt xs) (xs.size - 1)
 have e:M=numAt xs (argBest (fun i j=>decide (numAt xs i > numAt xs j)) (xs.size - 1)):=by
  have:(xs.toList.map (·.1)).max?=some (numAt xs (argBest (fun i j=>decide (numAt xs i > numAt xs j)) (xs.size - 1))):=by
   refine ab5.mpr ⟨?_,fun a ha=>?_⟩
   ·rw [numAt_eq]; exact getD_mem (by rw [aaa,Array.length_toList]; omega)
   ·obtain ⟨j,hj,rfl⟩:=mem_getD ha
    rw [aaa,Array.length_toList] at hj
    rw [<- numAt_eq]; exact h2 j (by omega)
  exact Option.some.inj (hM.symm.trans this)
 exact ⟨.int M,H,I.kept (t':=tk) hk,⟨t,by rw [e]⟩,q⟩
noncomputable def Ru:List V->Hp->VK->Prop:=fun xs H Q=>∃ (i j k:Int),xs=[.int i,.int j,.int k]/\Q (.int (max (max i j) k)) H
theorem LM (hc:X.calm=true):CB X (.builtin "max") Ru:=by
 intro pins s σ H xs us Q I r h
 obtain ⟨i,j,k,rfl,q⟩:=h
 obtain ⟨u,r',rfl,⟨t,rfl⟩,r2⟩:∃ u r',us=u :: r'/\(∃ t,u=Value.int i t)/\Vals [.int j,.int k] r':=by
  cases r with | cons a b=>exact ⟨_,_,rfl,a,b⟩
 obtain ⟨v,w',rfl,⟨t1,rfl⟩,⟨t2,rfl⟩⟩:=HN r2
 refine max_three_ints (I.ok.hd hc) fun h' tk kk=>⟨.int (max (max i j) k),H,I.kept kk,?_,q⟩
 by_cases h1:j > i
 ·by_cases h2:k > j
  ·rw [if_pos h1,if_pos h2]; exact ⟨_,by congr 1; omega⟩
  ·rw [if_pos h1,if_neg h2]; exact ⟨_,by congr 1; omega⟩
 ·by_cases h2:k > i
  ·rw [if_neg h1,if_pos h2]; exact ⟨_,by congr 1; omega⟩
  ·rw [if_neg h1,if_neg h2]; exact ⟨_,by congr 1; omega⟩
section
variable {e:Expr} {es:List Expr} {x:E} {xs:Es} (hg:∀ y:Str,y ∈ (["len", "min", "max", "abs", "int", "list", "tuple", "all", "any", "sum", "sorted", "isinstance", "str", "range", "enumerate", "zip", "reversed"]:List Str)->X.mg y=none)
 (ha:PA X (e :: es) (lEs p EX tn (.cons x xs))) (hst:(e :: es).all Ar=true)
include hg ha hst
theorem OB (hcm:X.calm=true) (hgl:Gl X "max"):PE X (.Call (.Name "max" np) (e :: es) [] pos) (lE p EX tn (.bi .max (.cons x xs))):=by
 rw [aaA,aak] at hst
 refine Cd (es:=es) (e:=e) (CJ (Lh hcm) hgl (hg _ (by simp)) (by decide +kernel) ha (by decide) (by decide) (Ai hst.1) (AB hst.2)) fun B H H1 j1 k1 j k ts σ Q R hj h=>?_
 rcases ts with _ | ⟨t,_ | ⟨u,_ | ⟨v,r⟩⟩⟩
 ·exact nE h
 ·exact nE h
 ·obtain ⟨i,m,rfl,rfl,h⟩:=By (t:=t) (u:=u) (Q:=fun r=>Lg p EX σ r H (KE p B H j k Q)) id h
  refine ⟨i,m,rfl,?_⟩
  have:=h (.int _) H1 rfl (Rs.scal R.same rfl)
  have e:(if m > i then m else i)=max i m:=by split <;> omega
  rw [e]; exact this
 ·exact nE h
theorem MX (hcm:X.calm=true) (hgl:Gl X "max"):PE X (.Call (.Name "max" np) (e :: es) [] pos) (lE p EX tn (.bi .max3 (.cons x xs))):=by
 rw [aaA,aak] at hst
 refine Cd (es:=es) (e:=e) (CJ (LM hcm) hgl (hg _ (by simp)) (by decide +kernel) ha (by decide) (by decide) (Ai hst.1) (AB hst.2)) fun B H H1 j1 k1 j k ts σ Q R hj h=>?_
 rcases ts with _ | ⟨t,_ | ⟨u,_ | ⟨v,_ | ⟨w,r⟩⟩⟩⟩
 ·exact nE h
 ·exact nE h
 ·exact nE h
 ·obtain ⟨i,m,rfl,rfl,h⟩:=By (t:=t) (u:=u) (Q:=fun r=>Lg p EX σ r H (KE p B H j k Q)) id h
  obtain ⟨l,rfl,h⟩:=G4 (t:=v) (Q:=fun r=>Lg p EX σ r H (KE p B H j k Q)) id h
  exact ⟨_,_,_,rfl,h (.int _) H1 rfl (Rs.scal R.same rfl)⟩
 ·exact nE h
theorem MY (hcm:X.calm=true) (hgl:Gl X "max"):PE X (.Call (.Name "max" np) (e :: es) [] pos) (lE p EX tn (.bi .maxL (.cons x xs))):=by
 rw [aaA,aak] at hst
 refine Cd (es:=es) (e:=e) (CJ (LL hcm) hgl (hg _ (by simp)) (by decide +kernel) ha (by decide) (by decide) (Ai hst.1) (AB hst.2)) fun B H H1 j1 k1 j k ts σ Q R hj h=>?_
 rcases ts with _ | ⟨t,_ | ⟨u,r⟩⟩
 ·exact nE h
 ·cases t with
  | lst a us =>
   have h:Lg p EX σ ((DB (B4 (T.dats us))).bind fun ns=>(DB ns.max?).bind fun n=>.ok (.int n)) H (KE p B H j k Q):=h
   cases q:B4 (T.dats us) with
   | none=>rw [q] at h; exact nE h
   | some ns =>
    rw [q] at h
    have h:Lg p EX σ ((DB ns.max?).bind fun n=>.ok (.int n)) H (KE p B H j k Q):=h
    cases q2:ns.max? with
    | none=>rw [q2] at h; exact nE h
    | some M =>
     rw [q2] at h
     exact ⟨a,ns,M,rfl,FN q ▸ R.ok.1.1,q2,h (.int _) H1 rfl (Rs.scal R.same rfl)⟩
  | _=>exact nE h
 ·exact nE h
theorem OC (hcm:X.calm=true) (hgl:Gl X "min"):PE X (.Call (.Name "min" np) (e :: es) [] pos) (lE p EX tn (.bi .min (.cons x xs))):=by
 rw [aaA,aak] at hst
 refine Cd (es:=es) (e:=e) (CJ (Li hcm) hgl (hg _ (by simp)) (by decide +kernel) ha (by decide) (by decide) (Ai hst.1) (AB hst.2)) fun B H H1 j1 k1 j k ts σ Q R hj h=>?_
 rcases ts with _ | ⟨t,_ | ⟨u,_ | ⟨v,r⟩⟩⟩
 ·exact nE h
 ·exact nE h
 ·obtain ⟨i,m,rfl,rfl,h⟩:=By (t:=t) (u:=u) (Q:=fun r=>Lg p EX σ r H (KE p B H j k Q)) id h
  refine ⟨i,m,rfl,?_⟩
  have:=h (.int _) H1 rfl (Rs.scal R.same rfl)
  have e:(if m < i then m else i)=min i m:=by split <;> omega
  rw [e]; exact this
 ·exact nE h
end
end
structure ItOk (p:Px) (B:Addr->Prop) (H H1:Hp) (J:L2.It) (us:List T) (j:Nat) (ds:List D):Prop where
 same:Same H H1
 ok:T.Oks p H1 us
 src:∀ a ∈ T.rests us j,H a=none\/B a
 len:ds.length<=sizeLine
 go:∀ (i:Nat) (H':Hp),T.Oks p H' us->i < ds.length->J.go i H'
 stop:∀ (i:Nat) (H':Hp),T.Oks p H' us->ds.length<=i->J.stop i H'
 yld:∀ (i:Nat) (H':Hp) (v:V) (H'':Hp) (d:D),T.Oks p H' us->ds[i]?=some d->J.yld i H' v H''->Same H' H''/\∃ t:T,t.val=v/\t.dat=d/\t.Ok p H''/\(∀ a ∈ t.rest 0,a ∈ T.rests us 0)/\∀ a ∈ t.rest 0,H a=none\/B a
noncomputable def lI (p:Px) (EX:EXT) (tn:List Nat) (it:It):TI:=fun σ H R=>∃ τ,σ=vτ τ/\Fok p tn τ H/\∃ j,jkI tn it=some j/\Lg p EX σ (evI it (dτ τ)) H fun ds=>∀ J us H1,ItOk p (Sh tn τ) H H1 J us j ds->R J H1
theorem PI.mono {X:Cx} {tg e:Expr} {t t':TI} (h:PI X tg e t) (m:∀ σ H Q,t' σ H Q->t σ H Q):PI X tg e t':=fun pins s σ H Q I q=>h pins s σ H Q I (m _ _ _ q)
section
variable {p:Px} {EX:EXT} {tn:List Nat} {X:Cx} {pos np:Pos} {tg:Expr}
theorem EO {ts:List T} {i:Nat} {d:D} (h:(T.dats ts)[i]?=some d):∃ t,ts[i]?=some t/\t.dat=d:=by
 rw [T.dats_map,aao] at h
 obtain ⟨t,h1,h2⟩:=aap.mp h
 exact ⟨t,h1,h2⟩
theorem Fa (hK:X.K=p.K) {B:Addr->Prop} {H H1:Hp} {j k:Nat} {a:Addr} {ts:List T} (r:Rs p B H H1 j k (.lst a ts)) (hj:j<=1) (hl:ts.length<=sizeLine):ItOk p B H H1 (Itl X.K a) [.lst a ts] j (T.dats ts) where
 same:=r.same
 ok:=⟨r.ok,trivial⟩
 src:=fun b m=>r.src b (by simpa [T.rests] using m)
 len:=by rw [Ad]; exact hl
 go:=fun i H' ok h=>by
  rw [Ad] at h
  exact ⟨_,(ts.map T.val)[i]'(by simpa using h),.inl ok.1.1,by simp [h]⟩
 stop:=fun i H' ok h=>⟨_,.inl ok.1.1,by simpa [Ad] using h⟩
 yld:=fun i H' v H'' d ok h y=>by
  obtain ⟨rfl,y⟩:=y
  obtain ⟨t,ht,e⟩:=EO h
  have:=y _ (.inl ok.1.1)
  rw [aao,ht] at this
  refine ⟨Same.refl _,t,Option.some.inj this,e,T.oks_iff.mp ok.1.2 t (aae ht),fun b m=>by simp only [T.rests,T.rest,aaK]; exact aab _ (T.mem_rests.mpr ⟨t,aae ht,m⟩),fun b m=>r.elems hj b (T.mem_rests.mpr ⟨t,aae ht,m⟩)⟩
theorem MZ {B:Addr->Prop} {H H1:Hp} {k:Nat} {a:Addr} {ts:List T} (r:Rs p B H H1 0 k (.tup a ts)) (hl:ts.length<=sizeLine):ItOk p B H H1 (Itt X.K a) [.tup a ts] 0 (T.dats ts) where
 same:=r.same
 ok:=⟨r.ok,trivial⟩
 src:=fun b m=>r.src b (by simpa [T.rests] using m)
 len:=by rw [Ad]; exact hl
 go:=fun i H' ok h=>by
  rw [Ad] at h
  exact ⟨_,(ts.map T.val)[i]'(by simpa using h),SqT.of ok.1.1,by simp [h]⟩
 stop:=fun i H' ok h=>⟨_,SqT.of ok.1.1,by simpa [Ad] using h⟩
 yld:=fun i H' v H'' d ok h y=>by
  obtain ⟨rfl,y⟩:=y
  obtain ⟨t,ht,e⟩:=EO h
  have:=y _ (SqT.of ok.1.1)
  rw [aao,ht] at this
  refine ⟨Same.refl _,t,Option.some.inj this,e,T.oks_iff.mp ok.1.2 t (aae ht),fun b m=>by simp only [T.rests,T.rest,aaK]; exact T.mem_rests.mpr ⟨t,aae ht,m⟩,fun b m=>r.src b (T.mem_rests.mpr ⟨t,aae ht,m⟩)⟩
noncomputable def Se (K:Frag) (tl:TE):TI:=fun σ H R=>tl σ H fun x H1=>∃ a,x=.ref a/\((∃ xs,SqL K H1 a xs/\(xs.length<=sizeLine->R (Itl K a) H1))\/(∃ xs,SqT K H1 a xs/\(xs.length<=sizeLine->R (Itt K a) H1)))
theorem Iq {l:Expr} {tl:TE} (hl:PE X l tl):PI X tg l (Se X.K tl):=by
 intro pins s σ H R I h
 refine thn (hl pins s σ H _ I h) fun v s1 ⟨x,H1,I1,r1,q1⟩=>?_
 obtain ⟨a,e,q1⟩:=q1
 subst e
 cases r1
 rcases q1 with ⟨xs,hq,q⟩ | ⟨xs,hq,q⟩
 ·obtain ⟨its,rv,pl,hz⟩:=I1.list hq
  refine wpAny_pyIter_list pl.isList ?_
  refine ⟨s1.heap.objs.size,[s1.heap.objs.size],_,_,H1,rfl,I1.kept (t':=s1.toks) fun b o e=>Heap.get?_push_of_some _ e,Lc a _,⟨_,Heap.get?_push_size _ rfl,rfl,rfl⟩,fun b hb=>?_,q hz⟩
  have e:b=s1.heap.objs.size:=by simpa using hb
  subst e
  exact I1.fpOk (aan _) (I1.hok.fresh (aan _))
 ·obtain ⟨its,rv,pl,hz⟩:=I1.tuple hq
  refine wpAny_pyIter_tuple (show s1.heap.IsTuple a its.toArray from pl) ?_
  refine ⟨s1.heap.objs.size,[s1.heap.objs.size],_,_,H1,rfl,I1.kept (t':=s1.toks) fun b o e=>Heap.get?_push_of_some _ e,Ka a _,⟨_,Heap.get?_push_size _ rfl,rfl,rfl⟩,fun b hb=>?_,q hz⟩
  have e:b=s1.heap.objs.size:=by simpa using hb
  subst e
  exact I1.fpOk (aan _) (I1.hok.fresh (aan _))
theorem M0 (hK:X.K=p.K) {e:Expr} {x:E} (he:PE X e (lE p EX tn x)):PI X tg e (lI p EX tn (.seq x)):=by
 refine PI.mono (Iq he) fun σ H R h=>?_
 obtain ⟨τ,rfl,hF,j,hj,h⟩:=h
 simp only [jkI] at hj
 obtain ⟨⟨j1,k1⟩,h1,hj⟩:=bS hj
 split at hj
 ·rename_i z
  cases hj
  have z:j1=0:=z
  subst z
  simp only [evI] at h
  refine l1 hF h1 h fun d t H1 ht r h=>?_
  subst ht
  cases t with
  | lst a ts=>exact ⟨a,rfl,.inl ⟨_,.inl r.ok.1,fun hz=>h _ _ _ (Fa hK r (by omega) (by simpa using hz))⟩⟩
  | tup a ts=>exact ⟨a,rfl,.inr ⟨_,SqT.of r.ok.1,fun hz=>h _ _ _ (MZ r (by simpa using hz))⟩⟩
  | _=>exact nE h
 ·cases hj
theorem LP (hK:X.K=p.K) {e:Expr} {x:E} (he:PE X e (lE p EX tn x)):PI X tg e (lI p EX tn (.seqL x)):=by
 refine PI.mono (Iq he) fun σ H R h=>?_
 obtain ⟨τ,rfl,hF,j,hj,h⟩:=h
 simp only [jkI] at hj
 obtain ⟨⟨j1,k1⟩,h1,hj⟩:=bS hj
 split at hj
 ·rename_i z
  cases hj
  simp only [evI] at h
  refine l1 hF h1 h fun d t H1 ht r h=>?_
  subst ht
  cases t with
  | lst a ts=>exact ⟨a,rfl,.inl ⟨_,.inl r.ok.1,fun hz=>h _ _ _ (Fa hK r z (by simpa using hz))⟩⟩
  | _=>exact nE h
 ·cases hj
theorem Kz {B:Addr->Prop} {H H1:Hp} {a b:Int} (s:Same H H1) (hl:(b - a).toNat<=LIM):ItOk p B H H1 (Itr a (b - a).toNat) [] 0 (An a b) where
 same:=s
 ok:=trivial
 src:=fun c m=>nomatch m
 len:=by unfold An; rw [aaa,abe]; exact hl
 go:=fun i H' _ h=>by unfold An at h; rw [aaa,abe] at h; exact h
 stop:=fun i H' _ h=>by unfold An at h; rw [aaa,abe] at h; exact h
 yld:=fun i H' v H'' d _ h y=>by
  obtain ⟨rfl,rfl⟩:=y
  unfold An at h
  rw [aao] at h
  obtain ⟨n,h1,h2⟩:=aap.mp h
  have:n=i:=by
   obtain ⟨_,e⟩:=aaq.mp h1
   simpa using e.symm
  subst this
  exact ⟨Same.refl _,.int (a + n),rfl,h2,trivial,by simp [T.rest],by simp [T.rest]⟩
theorem M1 {i:Int} (h:E5 i=true):-(2 ^ 62)<=i/\i < 2 ^ 62:=by
 unfold E5 at h
 rw [aak] at h
 exact ⟨of_decide_eq_true h.1,of_decide_eq_true h.2⟩
theorem OD {e:Expr} {x:E} (he:PE X e (lE p EX tn x)) (hst:Ar e=true) (hg:Gl X "range") (hm:X.mg "range" = none):PI X tg (.Call (.Name "range" np) [e] [] pos) (lI p EX tn (.r1 x)):=by
 refine PI.mono (Ld hg hm (Db he EZ (Ai hst)) (Ai hst)) fun σ H R h=>?_
 obtain ⟨τ,rfl,hF,j,hj,h⟩:=h
 simp only [jkI] at hj
 obtain ⟨⟨j1,k1⟩,h1,hj⟩:=bS hj
 cases hj
 simp only [evI] at h
 refine l1 hF h1 h fun d t H1 ht r h=>?_
 subst ht
 cases t with
 | int b =>
  obtain ⟨hc,h⟩:=Lg.guard (r:=.ok (An 0 b)) h
  rw [aak,aak] at hc
  obtain ⟨h3,h4⟩:=M1 hc.1.2
  have hl:=of_decide_eq_true hc.2
  have:=h _ _ _ (Kz (p:=p) r.same hl)
  rw [abV] at this
  exact ⟨b,rfl,h3,h4,this⟩
 | _=>exact nE h
end
noncomputable def BP:List Nat->List T->Ft->Option Ft
 | [],[],τ=>some τ
 | i :: is,t :: ts,τ=>BP is ts (τ.set i (some t))
 | _,_,_=>none
noncomputable def Cr:Tg->T->Ft->Option Ft
 | .nm i,t,τ=>some (τ.set i (some t))
 | .tp is,.tup _ ts,τ=>BP is ts τ
 | .tp is,.lst _ ts,τ=>BP is ts τ
 | _,_,_=>none
theorem DS (τ:Ft) (i:Nat) (t:T):dτ (τ.set i (some t))=(dτ τ).set i (some t.dat):=by unfold dτ; rw [aa0]; rfl
theorem FD (τ:Ft) (i:Nat) (t:T):vτ (τ.set i (some t))=(vτ τ).set i (some t.val):=by unfold vτ; rw [aa0]; rfl
theorem GC:∀ (is:List Nat) (ts:List T) (τ:Ft),E4 is (T.dats ts) (dτ τ)=(BP is ts τ).map dτ
 | [],[],τ=>rfl
 | [],t :: ts,τ=>rfl
 | i :: is,[],τ=>rfl
 | i :: is,t :: ts,τ=>by simp only [T.dats,E4,BP]; rw [<- DS,GC is ts]
theorem Fb (g:Tg) (t:T) (τ:Ft):CC g t.dat (dτ τ)=(Cr g t τ).map dτ:=by
 cases g with
 | nm i=>simp only [CC,Cr,aaP,DS]
 | tp is=>cases t <;> first | rfl | exact GC is _ τ
noncomputable def Cu:List Nat->TGs
 | []=>Ps
 | i :: r=>NC (Ee i) (Cu r)
noncomputable def lG (K:Frag):Tg->TG
 | .nm i=>Ee i
 | .tp is=>fun v σ H Q=>Pt K is.length (Cu is) v σ H Q\/P9 K is.length (Cu is) v σ H Q
theorem Fc {H:Hp} {Q:L2.St->Hp->Prop}:∀ {is:List Nat} {ts:List T} {τ τ':Ft},BP is ts τ=some τ'->Q (vτ τ') H->Cu is (ts.map T.val) (vτ τ) H Q
 | [],[],τ,τ',h,q=>by cases h; exact ⟨rfl,q⟩
 | [],t :: ts,τ,τ',h,q=>by cases h
 | i :: is,[],τ,τ',h,q=>by cases h
 | i :: is,t :: ts,τ,τ',h,q=>by
  refine ⟨t.val,ts.map T.val,rfl,?_⟩
  show Cu is (ts.map T.val) ((vτ τ).set i (some t.val)) H Q
  rw [<- FD]
  exact Fc (τ:=τ.set i (some t)) h q
theorem Eo:∀ {is:List Nat} {ts:List T} {τ τ':Ft},BP is ts τ=some τ'->ts.length=is.length
 | [],[],τ,τ',h=>rfl
 | [],t :: ts,τ,τ',h=>by cases h
 | i :: is,[],τ,τ',h=>by cases h
 | i :: is,t :: ts,τ,τ',h=>by simp [Eo (is:=is) (ts:=ts) (τ:=τ.set i (some t)) h]
theorem KA {K:Frag} {p:Px} {H:Hp} {g:Tg} {t:T} {τ τ':Ft} {Q:L2.St->Hp->Prop} (ok:t.Ok p H) (h:Cr g t τ=some τ') (q:Q (vτ τ') H):lG K g t.val (vτ τ) H Q:=by
 cases g with
 | nm i =>
  cases h
  show Q ((vτ τ).set i (some t.val)) H
  rw [<- FD]; exact q
 | tp is =>
  cases t with
  | tup a ts=>exact .inl ⟨a,ts.map T.val,rfl,SqT.of ok.1,by rw [aaa]; exact Eo h,Fc h q⟩
  | lst a ts=>exact .inr ⟨a,ts.map T.val,rfl,.inl ok.1,by rw [aaa]; exact Eo h,Fc h q⟩
  | _=>cases h
noncomputable def Tg.sl:Tg->List Nat
 | .nm i=>[i]
 | .tp is=>is
theorem Ep {n:Nat} {H:Hp} {Q:L2.St->Hp->Prop}:∀ {is:List Nat} {vs:List V} {σ:L2.St},(∀ i ∈ is,i < n)->Cu is vs σ H Q->Cu is vs σ H fun σ' H'=>Q σ' H'/\σ'.length=σ.length/\∀ i,n<=i->σ'[i]?=σ[i]?
 | [],vs,σ,_,h=>by obtain ⟨e,q⟩:=h; exact ⟨e,q,rfl,fun _ _=>rfl⟩
 | i :: is,vs,σ,hi,h=>by
  obtain ⟨v,r,e,h⟩:=h
  refine ⟨v,r,e,?_⟩
  have h2:=Ep (n:=n) (is:=is) (σ:=σ.set i (some v)) (fun j hj=>hi j (aab _ hj)) h
  have mono:∀ {is:List Nat} {vs:List V} {σ:L2.St} {H:Hp} {A B:L2.St->Hp->Prop},(∀ s h,A s h->B s h)->Cu is vs σ H A->Cu is vs σ H B:=by
   intro is
   induction is with
   | nil=>intro vs σ H A B m h; exact ⟨h.1,m _ _ h.2⟩
   | cons i is ih =>
    intro vs σ H A B m h
    obtain ⟨v,r,e,h⟩:=h
    exact ⟨v,r,e,ih m h⟩
  refine mono (fun s h q=>⟨q.1,by rw [q.2.1,aaF],fun k hk=>?_⟩) h2
  rw [q.2.2 k hk,aau (by have:=hi i (aac ..); omega)]
theorem FE {K:Frag} {n:Nat} {g:Tg} (hg:∀ i ∈ g.sl,i < n) {v:V} {σ:L2.St} {H:Hp} {Q:L2.St->Hp->Prop} (h:lG K g v σ H Q):lG K g v σ H fun σ' H'=>Q σ' H'/\σ'.length=σ.length/\∀ i,n<=i->σ'[i]?=σ[i]?:=by
 cases g with
 | nm i=>exact ⟨h,by rw [aaF],fun k hk=>by rw [aau (by have:=hg i (aaS.mpr rfl); omega)]⟩
 | tp is =>
  rcases h with ⟨a,xs,e,s,l,h⟩ | ⟨a,xs,e,s,l,h⟩
  ·exact .inl ⟨a,xs,e,s,l,Ep hg h⟩
  ·exact .inr ⟨a,xs,e,s,l,Ep hg h⟩
theorem Er {P:Option T->Prop}:∀ {is:List Nat} {ts:List T} {τ τ':Ft},BP is ts τ=some τ'->(∀ t ∈ ts,P (some t))->∀ i o,τ'[i]?=some o->P o\/(i ∉ is/\τ[i]?=some o)
 | [],[],τ,τ',h,_,i,o,e=>by cases h; exact .inr ⟨by simp,e⟩
 | [],t :: ts,τ,τ',h,_,_,_,_=>by cases h
 | i :: is,[],τ,τ',h,_,_,_,_=>by cases h
 | i :: is,t :: ts,τ,τ',h,hp,j,o,e=>by
  rcases Er (P:=P) (is:=is) (ts:=ts) (τ:=τ.set i (some t)) h (fun u hu=>hp u (aab _ hu)) j o e with q | ⟨q1,q2⟩
  ·exact .inl q
  ·by_cases z:i=j
   ·subst z
    rw [abj ] at q2
    cases w:τ[i]? with
    | none=>rw [w] at q2; cases q2
    | some x =>
     rw [w] at q2
     have:o=some t:=by simpa using q2.symm
     subst this
     exact .inl (hp t (aac ..))
   ·rw [aau z] at q2
    refine .inr ⟨?_,q2⟩
    intro m
    rcases aaj.mp m with rfl | m
    ·exact z rfl
    ·exact q1 m
theorem GD {P:Option T->Prop} {g:Tg} {t:T} {τ τ':Ft} (h:Cr g t τ=some τ') (hp:P (some t)) (hp':∀ a ts,(t=.tup a ts\/t=.lst a ts)->∀ u ∈ ts,P (some u)) (i:Nat) (o:Option T) (e:τ'[i]?=some o):P o\/(i ∉ g.sl/\τ[i]?=some o):=by
 cases g with
 | nm k =>
  cases h
  by_cases z:k=i
  ·subst z
   rw [abj] at e
   cases w:τ[k]? with
   | none=>rw [w] at e; cases e
   | some x =>
    rw [w] at e
    have:o=some t:=by simpa using e.symm
    subst this; exact .inl hp
  ·rw [aau z] at e
   exact .inr ⟨by simpa [Tg.sl] using fun q=>z q.symm,e⟩
 | tp is =>
  cases t with
  | tup a ts=>exact Er (P:=P) h (fun u hu=>hp' a ts (.inl rfl) u hu) i o e
  | lst a ts=>exact Er (P:=P) h (fun u hu=>hp' a ts (.inr rfl) u hu) i o e
  | _=>cases h
theorem EB:∀ {is:List Nat} {ts:List T} {τ τ':Ft},BP is ts τ=some τ'->τ'.length=τ.length
 | [],[],τ,τ',h=>by cases h; rfl
 | [],t :: ts,τ,τ',h=>by cases h
 | i :: is,[],τ,τ',h=>by cases h
 | i :: is,t :: ts,τ,τ',h=>by rw [EB (is:=is) (ts:=ts) (τ:=τ.set i (some t)) h,aaF]
theorem HH {g:Tg} {t:T} {τ τ':Ft} (h:Cr g t τ=some τ'):τ'.length=τ.length:=by
 cases g with
 | nm k=>cases h; rw [aaF]
 | tp is=>cases t <;> first | cases h | exact EB h
noncomputable def FY (nl:Nat) (fr:List Nat) (τ:Ft):Ft:=aai nl none ++ fr.map fun j=>(τ[j]?).join
theorem OE (nl:Nat) (fr:List Nat) (τ:Ft):dτ (FY nl fr τ)=blk nl fr (dτ τ):=by
 unfold dτ FY blk
 rw [aam,aa8,aa1]
 congr 1
 refine abw fun j _=>?_
 simp only [Function.comp,aao]
 cases τ[j]? with
 | none=>rfl
 | some o=>rfl
theorem OF (nl:Nat) (fr:List Nat) (τ:Ft):vτ (FY nl fr τ)=A8 nl fr (vτ τ):=by
 unfold vτ FY A8
 rw [aam,aa8,aa1]
 congr 1
 refine abw fun j _=>?_
 simp only [Function.comp,aao]
 cases τ[j]? with
 | none=>rfl
 | some o=>rfl
noncomputable abbrev tnB (nl:Nat) (fr:List Nat) (tn:List Nat):List Nat:=aai nl 0 ++ fr.map fun j=>tn.getD j 99
theorem JR {nl:Nat} {fr:List Nat} {tn:List Nat} {τ:Ft} {i:Nat} {t:T} {j:Nat} (h:(FY nl fr τ)[i]?=some (some t)) (hj:(tnB nl fr tn)[i]?=some j) (hlt:j < 90):∃ k:Nat,τ[k]?=some (some t)/\tn[k]?=some j:=by
 unfold FY at h
 unfold tnB at hj
 by_cases hi:i < nl
 ·rw [aaG (by simpa using hi),aaL] at h
  split at h <;> cases h
 ·rw [aax (by simpa using hi),aaY,aao] at h hj
  obtain ⟨k,e1,e2⟩:=aap.mp h
  rw [e1] at hj
  have e3:tn.getD k 99=j:=by simpa using hj
  refine ⟨k,?_,?_⟩
  ·cases w:τ[k]? with
   | none=>rw [w] at e2; cases e2
   | some o=>rw [w] at e2; exact congrArg some e2
  ·rw [aaB] at e3
   cases w:tn[k]? with
   | none=>rw [w] at e3; simp at e3; omega
   | some x=>rw [w] at e3; exact congrArg some e3
theorem T.nds_append {ts us:List T} {k:Nat} (h1:T.Nds ts k) (h2:T.Nds us k) (c1:∀ a ∈ T.adrs ts k,a ∉ T.rests us 0) (c2:∀ a ∈ T.adrs us k,a ∉ T.rests ts 0):T.Nds (ts ++ us) k:=by
 unfold T.Nds
 rw [T.adrs_append,T.rests_append]
 refine ⟨ack.mpr ⟨h1.1,h2.1,fun a ha b hb e=>?_⟩,fun a ha hb=>?_⟩
 ·subst e; exact c1 a ha ((T.alls_iff us k).mpr (.inl hb))
 ·rcases aaf.mp ha with ha | ha <;> rcases aaf.mp hb with hb | hb
  ·exact h1.2 a ha hb
  ·exact c2 a hb ((T.alls_iff ts k).mpr (.inr ha))
  ·exact c1 a hb ((T.alls_iff us k).mpr (.inr ha))
  ·exact h2.2 a ha hb
theorem Fd {f:D->Res (Option D)}:∀ (ds:List D) (c:Nat),A7 f ds ≠ .exc c
 | [],c=>by simp [A7]
 | d :: ds,c=>by
  simp only [A7]
  cases f d with
  | ok o =>
   simp only
   cases q:A7 f ds with
   | ok r=>simp
   | exc c'=>exact absurd q (Fd ds c')
   | bad=>simp
  | exc c'=>simp
  | bad=>simp
theorem Jq {f:D->Res (Option D)} {d:D} {ds r:List D} (h:A7 f (d :: ds)=.ok r):∃ o r',f d=.ok o/\A7 f ds=.ok r'/\r=o.toList ++ r':=by
 simp only [A7] at h
 cases q:f d with
 | ok o =>
  rw [q] at h
  obtain ⟨r',h1,h2⟩:=Res.bind_eq_ok h
  cases h2
  refine ⟨o,r',rfl,h1,?_⟩
  cases o <;> rfl
 | exc c=>rw [q] at h; cases h
 | bad=>rw [q] at h; cases h
noncomputable abbrev EX0:EXT:=fun _ _ _ _=>False
section
variable {p:Px} {EX:EXT} {tn:List Nat} {X:Cx} {pos np:Pos}
theorem JS {K:Frag} {nl:Nat} {fr:List Nat} {g:Tg} {it:It} {k:Nat} {f:D->Res (Option D)} {tc:TT} {elt:E} {τ:Ft} {H:Hp} {Q:VK} {ji:Nat} (hF:Fok p tn τ H) (hji:jkI tn it=some ji) (hg:∀ i ∈ g.sl,i < nl) (hk:jk (tnB nl fr tn) elt=some (0,k))
  (hf:∀ (d:D) (o:Option D),f d=.ok o->∃ δ',CC g d (blk nl fr (dτ τ))=some δ'/\∀ (τ4:Ft) (H3:Hp) (N:Bool->Hp->Prop),dτ τ4=δ'->Fok p (tnB nl fr tn) τ4 H3 ->
   (∀ b H5,Same H3 H5->(match o with | none=>b=false | some x=>b=true/\ev elt δ'=.ok x)->N b H5)->tc (vτ τ4) H3 N)
  (h:Lg p EX (vτ τ) ((evI it (dτ τ)).bind fun ds=>(A7 f ds).bind fun r=>.ok (.lst r)) H (KE p (Sh tn τ) H 0 (k + 1) Q)) :
  Fz nl fr (lI p EX tn it) (fun _=>lG K g) (fun _=>tc) (fun _=>lE p EX0 (tnB nl fr tn) elt) (vτ τ) H Q:=by
 refine ⟨τ,rfl,hF,ji,hji,h.bind.mono (Same.refl _) fun ds _ hd J us H1 IT=>?_⟩
 cases q:A7 f ds with
 | exc c=>exact absurd q (Fd ds c)
 | bad=>rw [q] at hd; exact nE hd
 | ok r =>
 rw [q] at hd
 have hd:KE p (Sh tn τ) H 0 (k + 1) Q (.lst r):=hd
 intro z D hD
 have hDH:H D=none:=IT.same.free hD
 refine ⟨fun i m acc H2=>m=ds.length - i/\i<=ds.length/\∃ (ts:List T) (r':List Pu.D),acc=ts.map T.val/\A7 f (ds.drop i)=.ok r'/\T.dats ts ++ r'=r/\ts.length<=i/\H2 D=some (.lst acc)/\(∀ a u,a ≠ D->H1 a=some u->H2 a=some u) /\
  T.Oks p H2 ts/\(∀ a ∈ T.rests ts 0,(H a=none\/Sh tn τ a)/\a ≠ D)/\(∀ a ∈ T.adrs ts k,H1 a=none/\∃ vs,H2 a=some (.lst vs))/\T.Nds ts k,⟨ds.length,by simp,aas _,[],r,rfl,by simpa using q,rfl,aan _,AJ,fun a u n e=>by rw [Aj n]; exact e,trivial,by simp [T.rests],by simp [T.adrs],by simp [T.Nds,T.adrs]⟩,?_⟩
 rintro i m acc H2 ⟨rfl,hi,ts,r',rfl,hr,hc,hts,hD2,kp,ok,src,new,nd⟩
 refine ⟨hD2,?_⟩
 have s2:Same H H2:=fun a u e=>kp a u (fun z=>by rw [z,hDH] at e; cases e) (IT.same a u e)
 have usok:T.Oks p H2 us:=T.oks_iff.mpr fun u hu=>(T.oks_iff.mp IT.ok u hu).keep fun a w e _=>kp a w (fun z=>by rw [z,hD] at e; cases e) e
 have out:D ∉ T.rests ts 0:=fun m=>(src D m).2 rfl
 rcases acg i ds.length with hlt | hge
 ·refine .inr ⟨IT.go i H2 usok hlt,fun x H3 y=>?_⟩
  have hdi:ds[i]?=some ds[i]:=aal hlt
  obtain ⟨s3,t,rfl,ht,tok,tus,tsrc⟩:=IT.yld i H2 x H3 ds[i] usok hdi y
  have hdrop:ds.drop i=ds[i] :: ds.drop (i + 1):=abx hlt
  rw [hdrop] at hr
  obtain ⟨o,r'',hfo,hr'',rfl⟩:=Jq hr
  obtain ⟨δ',hasg,hev⟩:=hf _ o hfo
  rw [<- ht,<- OE,Fb] at hasg
  obtain ⟨τ4,h4,hδ⟩:=aap.mp hasg
  have sH3:Same H H3:=s2.trans s3
  have tusD:∀ a ∈ t.rest 0,a ≠ D:=fun a m z=>by
   obtain ⟨w,hw,m⟩:=T.mem_rests.mp (tus a m)
   exact (T.oks_iff.mp IT.ok w hw).dom m (z ▸ hD)
  have slot:∀ (n:Nat) (w:T),τ4[n]?=some (some w)->(w.Ok p H3/\∀ a ∈ w.rest 0,(H a=none\/Sh tn τ a)/\a ≠ D/\H1 a ≠ none)\/(n ∉ g.sl/\(FY nl fr τ)[n]?=some (some w)):=by
   intro n w e
   refine (GD (P:=fun o=>∀ w,o=some w->(w.Ok p H3/\∀ a ∈ w.rest 0,(H a=none\/Sh tn τ a)/\a ≠ D/\H1 a ≠ none)) h4 (fun w e=>?_) (fun a ts' e u hu w e'=>?_) n (some w) e).imp (fun q=>q w rfl) id
   ·cases e
    refine ⟨tok,fun a m=>⟨tsrc a m,tusD a m,fun z=>?_⟩⟩
    obtain ⟨w',hw',m'⟩:=T.mem_rests.mp (tus a m)
    exact (T.oks_iff.mp IT.ok w' hw').dom m' z
   ·cases e'
    have sub:∀ b ∈ u.rest 0,b ∈ t.rest 0:=fun b m=>by
     rcases e with rfl | rfl
     ·exact T.mem_rests.mpr ⟨u,hu,m⟩
     ·exact aab _ (T.mem_rests.mpr ⟨u,hu,m⟩)
    have uok:u.Ok p H3:=by
     rcases e with rfl | rfl
     ·exact T.oks_iff.mp tok.2 u hu
     ·exact T.oks_iff.mp tok.2 u hu
    refine ⟨uok,fun b m=>?_⟩
    have m:=sub b m
    refine ⟨tsrc b m,tusD b m,fun z=>?_⟩
    obtain ⟨w',hw',m'⟩:=T.mem_rests.mp (tus b m)
    exact (T.oks_iff.mp IT.ok w' hw').dom m' z
  have F4:Fok p (tnB nl fr tn) τ4 H3:=fun n w j e ej hj=>by
   rcases slot n w e with q | ⟨_,q⟩
   ·exact q.1
   ·obtain ⟨k',e1,e2⟩:=JR q ej hj
    exact (hF k' w j e1 e2 hj).same sH3
  have S4:∀ a,Sh (tnB nl fr tn) τ4 a->(H a=none\/Sh tn τ a)/\a ≠ D/\H1 a ≠ none:=by
   rintro a ⟨n,w,j,e,ej,hj,m⟩
   rcases slot n w e with q | ⟨_,q⟩
   ·exact q.2 a (T.rest_le w (aas j) m)
   ·obtain ⟨k',e1,e2⟩:=JR q ej hj
    have sh:Sh tn τ a:=⟨k',w,j,e1,e2,hj,m⟩
    have hd:=hF.dom sh
    exact ⟨.inr sh,fun z=>hd (z ▸ hDH),fun z=>hd (IT.same.free z)⟩
  rw [<- OF]
  refine KA tok h4 (hev τ4 H3 _ hδ F4 fun b H5 s5 hb=>?_)
  have s25:Same H2 H5:=s3.trans s5
  cases o with
  | none =>
   subst hb
   rw [if_neg (by decide)]
   refine ⟨ds.length - (i + 1),by omega,rfl,hlt,ts,r'',rfl,hr'',?_,by omega,s25 _ _ hD2,fun a u n e=>s25 _ _ (kp a u n e),ok.same s25,src,fun a m=>⟨(new a m).1,let ⟨vs,e⟩:=(new a m).2; ⟨vs,s25 _ _ e⟩⟩,nd⟩
   simpa using hc
  | some xo =>
   obtain ⟨rfl,he⟩:=hb
   rw [if_pos rfl]
   refine ⟨τ4,rfl,F4.same s5,0,k,hk,?_⟩
   rw [hδ,he]
   intro t' H6 ht' R
   have s26:Same H2 H6:=s25.trans R.same
   have hD6:H6 D=some (.lst (ts.map T.val)):=s26 _ _ hD2
   refine ⟨hD6,by rw [aaa]; exact Nat.lt_of_le_of_lt hts (aaw hlt IT.len),ds.length - (i + 1),by omega,rfl,hlt,ts ++ [t'],r'',by simp,hr'',?_,by simp; omega,AJ,fun a u n e=>by rw [Aj n]; exact s26 _ _ (kp a u n e),?_,?_,?_,?_⟩
   ·rw [T.dats_map,aam,<- T.dats_map]
    simpa [ht'] using hc
   ·-- all of them stand
    have tD:∀ a ∈ t'.rest 0,a ≠ D:=fun a m z=>by
     rcases R.src a m with q | q
     ·rw [z,s25 _ _ hD2] at q; cases q
     ·exact (S4 a q).2.1 z
    refine T.oks_iff.mpr fun w hw=>?_
    have kk:(∀ a ∈ w.rest 0,a ≠ D)->w.Ok p H6->w.Ok p (L2.upd H6 D (.lst (ts.map T.val ++ [t'.val]))):=fun hne hok=>hok.keep fun a u e hq=>by
     rw [Aj ?_]; exact e
     rintro rfl
     rcases hq with hq | hq
     ·exact hne a hq rfl
     ·rw [hD6] at e
      exact hq _ (Option.some.inj e).symm
    rcases aaf.mp hw with hw | hw
    ·exact kk (fun a m=>(src a (T.mem_rests.mpr ⟨w,hw,m⟩)).2) ((T.oks_iff.mp ok w hw).same s26)
    ·cases aaS.mp hw
     exact kk tD R.ok
   ·intro a m
    rw [T.rests_append,aaf] at m
    rcases m with m | m
    ·exact src a m
    ·have m:a ∈ t'.rest 0:=by simpa [T.rests] using m
     rcases R.src a m with q | q
     ·exact ⟨.inl (sH3.trans s5 |>.free q),fun z=>by rw [z,s25 _ _ hD2] at q; cases q⟩
     ·exact ⟨(S4 a q).1,(S4 a q).2.1⟩
   ·intro a m
    rw [T.adrs_append,aaf] at m
    rcases m with m | m
    ·obtain ⟨n1,vs,e⟩:=new a m
     have aD:a ≠ D:=fun z=>out (by rw [<- z]; exact (T.alls_iff ts k).mpr (.inl m))
     refine ⟨n1,vs,?_⟩
     rw [Aj aD]
     exact s26 _ _ e
    ·have m:a ∈ t'.adr k:=by simpa [T.adrs] using m
     obtain ⟨n1,vs,e⟩:=R.new a m
     have aD:a ≠ D:=fun z=>by rw [z,s25 _ _ hD2] at n1; cases n1
     refine ⟨?_,vs,by rw [Aj aD]; exact e⟩
     cases w:H1 a with
     | none=>rfl
     | some u=>rw [s25 _ _ (kp a u aD w)] at n1; cases n1
   ·refine T.nds_append nd (T.nds_cons.mpr ⟨R.nd,by simp [T.Nds,T.adrs],by simp [T.rests],by simp [T.adrs]⟩) (fun a m m'=>?_) (fun a m m'=>?_)
    ·have m':a ∈ t'.rest 0:=by simpa [T.rests] using m'
     rcases R.src a m' with q | q
     ·obtain ⟨_,vs,e⟩:=new a m
      rw [s25 _ _ e] at q; cases q
     ·exact (S4 a q).2.2 (new a m).1
    ·have m:a ∈ t'.adr k:=by simpa [T.adrs] using m
     obtain ⟨w,hw,m'⟩:=T.mem_rests.mp m'
     exact ((T.oks_iff.mp ok w hw).same s25).dom m' (R.new a m).1
 ·have hil:i=ds.length:=ab0 hi hge
  refine .inl ⟨IT.stop i H2 usok hge,hd (.lst D ts) H2 ?_ ⟨s2,⟨.inl hD2,ok⟩,fun a m=>?_,fun a m=>?_,?_,fun a m m'=>?_⟩⟩
  ·subst hil
   rw [List.drop_length] at hr
   simp only [A7] at hr
   cases hr
   simp only [T.dat,aaK] at hc ⊢
   rw [hc]
  ·simp only [T.rest,aaj] at m
   rcases m with rfl | m
   ·exact .inl hDH
   ·exact (src a m).1
  ·simp only [T.adr,aaj] at m
   rcases m with rfl | m
   ·exact ⟨hDH,_,hD2⟩
   ·exact ⟨IT.same.free (new a m).1,(new a m).2⟩
  ·simp only [T.adr,aaC]
   exact ⟨fun m=>out ((T.alls_iff ts k).mpr (.inl m)),nd.1⟩
  ·simp only [T.adr,T.rest,aaj] at m m'
   rcases m' with rfl | m'
   ·exact out ((T.alls_iff ts k).mpr (.inr m))
   ·exact nd.2 a m m'
structure ScOk (X:Cx) (scope:Scope) (loc:List Str) (fr:List Nat) (frn:List Str):Prop where
 hfr:∀ (j:Nat) (k:Nat) (x:Str),fr[j]?=some k->frn[j]?=some x->X.N[k]?=some x/\X.env.kindOf x=some .cell/\(x,NameKind.free) ∈ scope.names
 hln:frn.length=fr.length
 hcell:∀ y ∈ scope.names,y.2 ≠ .cell
 hkind:scope.kind=.function
 hnames:∀ y ∈ scope.names,y.2=.local->scope.names.lookup y.1=some .local
 hfree:∀ y ∈ scope.names,y.2=.free->X.env.kindOf y.1=some .cell
 hkin:∀ (x:Str),x ∈ frn->(relabel scope X.env).names.lookup x=some .cell
 hsc:X.env.scope.kind=.function
theorem Ir {K:Frag} {nl:Nat} {fr:List Nat} {g:Tg} {it:It} {elt:E} {σ:L2.St} {H:Hp} {Q:VK} (hg:∀ i ∈ g.sl,i < nl) (h:lE p EX tn (.comp0 nl fr g it elt) σ H Q):Fz nl fr (lI p EX tn it) (fun _=>lG K g) (fun _=>NH) (fun _=>lE p EX0 (tnB nl fr tn) elt) σ H Q:=by
 obtain ⟨τ,rfl,hF,j,k,hj,h⟩:=h
 simp only [jk] at hj
 obtain ⟨ji,h1,hj⟩:=bS hj
 obtain ⟨⟨j2,k2⟩,h2,hj⟩:=bS hj
 obtain ⟨hc,e⟩:=Dr hj
 cases e
 have hc:j2=0:=of_decide_eq_true hc
 subst hc
 simp only [ev] at h
 refine JS hF h1 hg h2 (fun d o e=>?_) h
 split at e
 ·rename_i δ' hd
  obtain ⟨x,e1,e2⟩:=Res.bind_eq_ok e
  cases e2
  exact ⟨δ',hd,fun τ4 H3 N _ _ hN=>hN true H3 (Same.refl _) ⟨rfl,e1⟩⟩
 ·cases e
theorem Iu {K:Frag} {nl:Nat} {fr:List Nat} {g:Tg} {it:It} {cond elt:E} {σ:L2.St} {H:Hp} {Q:VK} (hg:∀ i ∈ g.sl,i < nl) (h:lE p EX tn (.comp1 nl fr g it cond elt) σ H Q):Fz nl fr (lI p EX tn it) (fun _=>lG K g) (fun _=>lT p EX0 (tnB nl fr tn) cond) (fun _=>lE p EX0 (tnB nl fr tn) elt) σ H Q:=by
 obtain ⟨τ,rfl,hF,j,k,hj,h⟩:=h
 simp only [jk] at hj
 obtain ⟨ji,h1,hj⟩:=bS hj
 obtain ⟨q3,h3,hj⟩:=bS hj
 obtain ⟨⟨j2,k2⟩,h2,hj⟩:=bS hj
 obtain ⟨hc,e⟩:=Dr hj
 cases e
 have hc:j2=0:=of_decide_eq_true hc
 subst hc
 simp only [ev] at h
 refine JS hF h1 hg h2 (fun d o e=>?_) h
 split at e
 ·rename_i δ' hd
  obtain ⟨b,e1,e2⟩:=Res.bind_eq_ok e
  refine ⟨δ',hd,fun τ4 H3 N e4 F4 hN=>⟨τ4,rfl,F4,by rw [h3]; rfl,?_⟩⟩
  unfold tv
  rw [e4,e1]
  intro H5 s5
  refine hN b H5 s5 ?_
  cases b with
  | true =>
   rw [if_pos rfl] at e2
   obtain ⟨x,e5,e6⟩:=Res.bind_eq_ok e2
   cases e6
   exact ⟨rfl,e5⟩
  | false =>
   rw [if_neg (by decide)] at e2
   cases e2; rfl
 ·cases e
theorem LQ {elt tg iter:Expr} {scope:Scope} {loc:List Str} {fr:List Nat} {frn:List Str} {g:Tg} {it:It} {x:E} (hc:X.calm=true) (S:ScOk X scope loc fr frn) (hi:PI X tg iter (lI p EX tn it)) (hg:∀ i ∈ g.sl,i < loc.length)
  (hb:∀ z:Bk,PG (X.blk scope z.C z.fp (loc ++ frn) z.s z.H) tg (lG X.K g)/\PE (X.blk scope z.C z.fp (loc ++ frn) z.s z.H) elt (lE p EX0 (tnB loc.length fr tn) x)) (hs:∀ y,foldedSetIterable iter X.env y=pure y) :
  PE X (.ListComp elt [⟨tg,iter,[],0⟩] scope pos) (lE p EX tn (.comp0 loc.length fr g it x)) :=
 PE.mono (JK loc fr frn hc hi S.hfr S.hln S.hcell S.hkind S.hnames S.hfree S.hkin S.hsc (fun _ _ _ _ _ h=>FE hg h) (fun z=>⟨(hb z).1,JI,(hb z).2⟩) hs) fun σ H Q h=>Ir hg h
theorem LR {elt tg iter cnd:Expr} {scope:Scope} {loc:List Str} {fr:List Nat} {frn:List Str} {g:Tg} {it:It} {c x:E} (hc:X.calm=true) (S:ScOk X scope loc fr frn) (hi:PI X tg iter (lI p EX tn it)) (hg:∀ i ∈ g.sl,i < loc.length)
  (hb:∀ z:Bk,PG (X.blk scope z.C z.fp (loc ++ frn) z.s z.H) tg (lG X.K g)/\PT (X.blk scope z.C z.fp (loc ++ frn) z.s z.H) cnd (lT p EX0 (tnB loc.length fr tn) c)/\PE (X.blk scope z.C z.fp (loc ++ frn) z.s z.H) elt (lE p EX0 (tnB loc.length fr tn) x)) (hs:∀ y,foldedSetIterable iter X.env y=pure y) :
  PE X (.ListComp elt [⟨tg,iter,[cnd],0⟩] scope pos) (lE p EX tn (.comp1 loc.length fr g it c x)) :=
 PE.mono (JK loc fr frn hc hi S.hfr S.hln S.hcell S.hkind S.hnames S.hfree S.hkin S.hsc (fun _ _ _ _ _ h=>FE hg h) (fun z=>⟨(hb z).1,JJ (hb z).2.1,(hb z).2.2⟩) hs) fun σ H Q h=>Iu hg h
theorem PS.mono {X:Cx} {st:Stmt} {t t':TS} (h:PS X st t) (m:∀ D σ H,t' D σ H->t D σ H):PS X st t':=fun pins s σ H D I q=>h pins s σ H D I (m _ _ _ q)
theorem KB {elt tg iter:Expr} {scope:Scope} {loc:List Str} {fr:List Nat} {frn:List Str} {g:Tg} {it:It} {x:E} {y:Str} {k:Nat} {py spos:Pos} (hc:X.calm=true) (S:ScOk X scope loc fr frn) (hi:PI X tg iter (lI p EX tn it)) (hg:∀ i ∈ g.sl,i < loc.length)
  (hb:∀ z:Bk,PG (X.blk scope z.C z.fp (loc ++ frn) z.s z.H) tg (lG X.K g)/\PE (X.blk scope z.C z.fp (loc ++ frn) z.s z.H) elt (lE p EX0 (tnB loc.length fr tn) x)) (hs:∀ y,foldedSetIterable iter X.env y=pure y)
  (hN:X.N.Nodup) (hk:X.N[k]?=some y) (hx:Loc X.env.scope y) (hf:X.fn y=true\/X.env.scope.names.lookup y=some .local) (hsw:swapsWith (.ListComp elt [⟨tg,iter,[],0⟩] scope pos) (some (.Name y py)) spos.line X.env=pure true) :
  PS X (.Assign [.Name y py] (.ListComp elt [⟨tg,iter,[],0⟩] scope pos) spos) (EV (lE p EX tn (.comp0 loc.length fr g it x)) (Ee k)) :=
 PS.mono (Gx loc fr frn hc hi S.hfr S.hln S.hcell S.hkind S.hnames S.hfree S.hkin S.hsc (fun _ _ _ _ _ h=>FE hg h) (fun z=>⟨(hb z).1,JI,(hb z).2⟩) hs hN hk hx hf hsw) fun D σ H h=>Ir hg h
theorem KC {elt tg iter cnd:Expr} {scope:Scope} {loc:List Str} {fr:List Nat} {frn:List Str} {g:Tg} {it:It} {c x:E} {y:Str} {k:Nat} {py spos:Pos} (hc:X.calm=true) (S:ScOk X scope loc fr frn) (hi:PI X tg iter (lI p EX tn it)) (hg:∀ i ∈ g.sl,i < loc.length)
  (hb:∀ z:Bk,PG (X.blk scope z.C z.fp (loc ++ frn) z.s z.H) tg (lG X.K g)/\PT (X.blk scope z.C z.fp (loc ++ frn) z.s z.H) cnd (lT p EX0 (tnB loc.length fr tn) c)/\PE (X.blk scope z.C z.fp (loc ++ frn) z.s z.H) elt (lE p EX0 (tnB loc.length fr tn) x)) (hs:∀ y,foldedSetIterable iter X.env y=pure y)
  (hN:X.N.Nodup) (hk:X.N[k]?=some y) (hx:Loc X.env.scope y) (hf:X.fn y=true\/X.env.scope.names.lookup y=some .local) (hsw:swapsWith (.ListComp elt [⟨tg,iter,[cnd],0⟩] scope pos) (some (.Name y py)) spos.line X.env=pure true) :
  PS X (.Assign [.Name y py] (.ListComp elt [⟨tg,iter,[cnd],0⟩] scope pos) spos) (EV (lE p EX tn (.comp1 loc.length fr g it c x)) (Ee k)) :=
 PS.mono (Gx loc fr frn hc hi S.hfr S.hln S.hcell S.hkind S.hnames S.hfree S.hkin S.hsc (fun _ _ _ _ _ h=>FE hg h) (fun z=>⟨(hb z).1,JJ (hb z).2.1,(hb z).2.2⟩) hs hN hk hx hf hsw) fun D σ H h=>Iu hg h
end
structure CkC where
 N:List Str
 sc:Scope
 fn:Bool
 rz:Bool
 cm:Bool
noncomputable def Et (sc:Scope) (x:Str):Bool:=match sc.names.lookup x with
 | some .local=>true
 | some .cell=>true
 | some .free=>true
 | _=>false
noncomputable def EQ (c:CkC) (x:Str):Bool:=match c.sc.names.lookup x with
 | some .local=>true
 | some .cell=>c.fn
 | _=>false
noncomputable def glB (sc:Scope) (x:Str):Bool:=match sc.names.lookup x with
 | some .globalImplicit=>true
 | _=>false
noncomputable def BD (x:Str):Bool:=!(x==("__debug__" : Str)) && !(x==("__classdict__" : Str))
noncomputable def Ei (scope outer:Scope):Scope :=
 { scope with names:=scope.names.map fun (n,k)=>if (k==.free && outer.kind==.function && outer.names.lookup n==some .cell) then (n,.cell) else (n,k) }
theorem Iv (scope:Scope) (env:Env):relabel scope env=Ei scope env.scope:=rfl
noncomputable def Fe:List Str:=["len", "min", "max", "abs", "int", "list", "tuple", "all", "any", "sum", "sorted", "isinstance", "str", "range", "enumerate", "zip", "reversed"]
noncomputable def ckG (c:CkC):Tg->Expr->Bool
 | .nm i,.Name x _=>(c.N[i]?==some x) && EQ c x
 | .tp is,.Tuple es _ _=>ckGs c is es && c.cm
 | _,_=>false
where ckGs (c:CkC):List Nat->List Expr->Bool
 | [],[]=>true
 | i :: is,.Name x _ :: es=>(c.N[i]?==some x) && EQ c x && ckGs c is es
 | _,_=>false
noncomputable def scB (c:CkC) (scope:Scope) (loc:List Str) (fr:List Nat) (frn:List Str):Bool :=
 decide (frn.length=fr.length) && ((fr.zip frn).all fun q=>(c.N[q.1]?==some q.2) && (c.sc.names.lookup q.2==some .cell) && scope.names.contains (q.2,NameKind.free)) &&
 (scope.names.all fun y=>(y.2 != .cell) && (y.2 != .local || scope.names.lookup y.1==some .local) && (y.2 != .free || c.sc.names.lookup y.1==some .cell)) && (scope.kind==.function) && (c.sc.kind==.function) &&
 (frn.all fun x=>(Ei scope c.sc).names.lookup x==some .cell) && decide (loc ++ frn).Nodup
noncomputable def ER (c:CkC) (fr:List Nat):List Str:=fr.map fun j=>c.N.getD j ""
noncomputable def DH:Expr->List Str
 | .Name x _=>[x]
 | .Tuple es _ _=>es.filterMap fun | .Name x _=>some x | _=>none
 | _=>[]
noncomputable def Ds:Expr->Bool
 | .Set _ _ _=>false
 | _=>true
noncomputable def FZ:List Str:=["RoomError", "BadShape", "NoNode", "NoPage", "NotRooms", "NotATree", "BadRoom", "Unlike", "BadScale", "BadStore", "BadName", "BadLength", "Twice", "Full", "NoThing", "NoDeed", "NoLine"]
noncomputable def A5 (n:Nat):Str:=FZ.getD n "RoomError"
theorem KD (n:Nat):(A5 n==("__debug__" : Str))=false:=by
 have h:∀ x ∈ FZ,(x==("__debug__" : Str))=false:=by decide
 unfold A5
 rw [aaB]
 cases q:FZ[n]? with
 | none=>decide
 | some x=>exact h x (aae q)
noncomputable def G6:Kd->String
 | .int => "int"
 | .bool => "bool"
 | .str => "str"
 | .list => "list"
 | .tuple => "tuple"
 | .dict => "dict"
 | .verr => "ValueError"
 | .cls _ => ""
noncomputable def EC:Kd->Str
 | .cls n=>A5 n
 | k=>Str.ofString (G6 k)
noncomputable def M2 (c:CkC) (k:Kd):Expr->Bool
 | .Name x _=>(x==EC k) && glB c.sc x
 | _=>false
noncomputable def LT:Bi->Str
 | .len => "len"
 | .min => "min"
 | .max => "max"
 | .max3 => "max"
 | .maxL => "max"
 | .int => "int"
 | .list => "list"
 | .tupleL => "tuple"
 | .all => "all"
noncomputable def Qn:Bi->Bool
 | _=>true
noncomputable def D0:Bi->Bool
 | .len=>true
 | .int=>true
 | .list=>true
 | .tupleL=>true
 | _=>false
mutual
noncomputable def E.tst:E->Bool
 | .ifx _ _ _=>false
 | .not a=>a.tst
 | .bo _ es=>es.tsts
 | _=>true
noncomputable def Es.tsts:Es->Bool
 | .nil=>true
 | .cons e r=>e.tst && r.tsts
end
noncomputable def FF (gens:List Comprehension) (f:Expr->Expr->List Expr->Bool):Bool:=match gens with
 | [⟨tg,iter,ifs,n⟩]=>decide (n=0) && f tg iter ifs
 | _=>false
noncomputable def KG (es:List Expr) (f:Expr->Bool):Bool:=match es with
 | [e]=>f e
 | _=>false
theorem DI {gens:List Comprehension} {f:Expr->Expr->List Expr->Bool} (h:FF gens f=true):∃ tg iter ifs,gens=[⟨tg,iter,ifs,0⟩]/\f tg iter ifs=true:=by
 unfold FF at h
 split at h
 ·rw [aak] at h
  cases of_decide_eq_true h.1
  exact ⟨_,_,_,rfl,h.2⟩
 ·cases h
theorem Iw {es:List Expr} {f:Expr->Bool} (h:KG es f=true):∃ e,es=[e]/\f e=true:=by
 unfold KG at h
 split at h
 ·exact ⟨_,rfl,h⟩
 ·cases h
noncomputable def LU:Expr->Bool
 | .Constant .none _ _=>true
 | _=>false
noncomputable def GE (b:Bool) (f:Expr->Bool):Option Expr->Bool
 | none=>b
 | some l=>!b && f l
mutual
noncomputable def ckE (c:CkC):E->Expr->Bool
 | .nm i,.Name x _=>(c.N[i]?==some x) && Et c.sc x && BD x
 | .cN,.Constant .none _ _=>true
 | .cB b,.Constant (.bool b') _ _=>b==b'
 | .cI i,.Constant (.int i') _ _=>i==i'
 | .cS x,.Constant (.str x') _ _=>x==x'
 | .gl x d,.Name y _=>(x==y) && glB c.sc y && BD y && D.scal d
 | .tup es,.Tuple xs _ _=>ckEs c es xs && decide (es.len<=1000)
 | .lst es,.List xs _=>ckEs c es xs && decide (es.len<=1000)
 | .bin o a b,.BinOp l op r _=>(op==Kq o) && ckE c a l && ckE c b r
 | .neg a,.UnaryOp .USub l _=>ckE c a l
 | .not a,.UnaryOp .Not l _=>ckE c a l
 | .cmp o a b,.Compare l [op] [r] _=>(op==A9 o) && ckE c a l && ckE c b r && Ds r
 | .chain o o' a b d,.Compare l [op,op'] [r,r'] _=>(op==A9 o) && (op'==A9 o') && ckE c a l && ckE c b r && ckE c d r' && Ds r'
 | .isN n a,.Compare l [op] [r] _=>(op==if n then .IsNot else .Is) && LU r && ckE c a l
 | .bo k es,.BoolOp op xs _=>(op==if k then .And else .Or) && ckEs c es xs
 | .ifx t a b,.IfExp t' a' b' _=>ckE c t t' && t.tst && ckE c a a' && ckE c b b'
 | .ix a i,.Subscript a' i' _=>ckE c a a' && ckE c i i' && Bb i'
 | .ixL a i,.Subscript a' i' _=>ckE c a a' && ckE c i i' && Bb i'
 | .ixT a i,.Subscript a' i' _=>ckE c a a' && ckE c i i' && Bb i'
 | .slc a lo hi,.Subscript a' (.Slice lo' hi' none _) _=>ckE c a a' && GE lo.isCN (ckE c lo) lo' && GE hi.isCN (ckE c hi) hi'
 | .call f es,.Call (.Name x _) xs [] _=>(x==f.name) && glB c.sc x && BD x && ckEs c es xs && decide (es.len=f.ar) && decide (0 < es.len) && c.cm
 | .callB f es,.Call (.Name x _) xs [] _=>(x==f.name) && glB c.sc x && BD x && ckEs c es xs && decide (es.len=f.ar) && decide (0 < es.len) && c.cm
 | .bi b es,.Call (.Name x _) xs [] _=>(x==LT b) && glB c.sc x && Qn b && ckEs c es xs && decide (0 < es.len) && (c.cm || D0 b)
 | .isi a k,.Call (.Name x _) [l,r] [] _=>(x==("isinstance" : Str)) && glB c.sc x && ckE c a l && M2 c k r && Ar l
 | .comp0 nl fr g it elt,.ListComp elt' gens scope _=>FF gens fun tg iter ifs=>c.cm && ifs.isEmpty && scB c scope (DH tg) fr (ER c fr) && decide (nl=(DH tg).length) && (g.sl.all fun i=>decide (i < nl)) && ckI c tg it iter && Ds iter &&
   ckG ⟨DH tg ++ ER c fr,Ei scope c.sc,false,false,c.cm⟩ g tg && ckE ⟨DH tg ++ ER c fr,Ei scope c.sc,false,false,c.cm⟩ elt elt'
 | .comp1 nl fr g it cond elt,.ListComp elt' gens scope _=>FF gens fun tg iter ifs=>KG ifs fun cnd=>c.cm && scB c scope (DH tg) fr (ER c fr) && decide (nl=(DH tg).length) && (g.sl.all fun i=>decide (i < nl)) && ckI c tg it iter && Ds iter &&
   ckG ⟨DH tg ++ ER c fr,Ei scope c.sc,false,false,c.cm⟩ g tg && ckE ⟨DH tg ++ ER c fr,Ei scope c.sc,false,false,c.cm⟩ cond cnd && cond.tst && ckE ⟨DH tg ++ ER c fr,Ei scope c.sc,false,false,c.cm⟩ elt elt'
 | _,_=>false
noncomputable def ckEs (c:CkC):Es->List Expr->Bool
 | .nil,[]=>true
 | .cons e r,x :: xs=>ckE c e x && Ar x && ckEs c r xs
 | _,_=>false
noncomputable def ckI (c:CkC) (tg:Expr):It->Expr->Bool
 | .seq e,x=>ckE c e x
 | .seqL e,x=>ckE c e x
 | .r1 a,.Call (.Name x _) [l] [] _=>(x==("range" : Str)) && glB c.sc x && ckE c a l && Ar l
 | _,_=>false
end
inductive Nd1 where
 | fn (F:Fn)
 | cl (n:Nat)
 | rs (n:Nat)
 | gl (x:Str) (d:D)
mutual
noncomputable def E.need:E->List Nd1
 | .nm _=>[]
 | .cN=>[]
 | .cB _=>[]
 | .cI _=>[]
 | .cS _=>[]
 | .gl x d=>[.gl x d]
 | .tup es=>es.need
 | .lst es=>es.need
 | .bin _ a b=>a.need ++ b.need
 | .neg a=>a.need
 | .not a=>a.need
 | .cmp _ a b=>a.need ++ b.need
 | .chain _ _ a b c=>a.need ++ (b.need ++ c.need)
 | .isN _ a=>a.need
 | .bo _ es=>es.need
 | .ifx c a b=>c.need ++ (a.need ++ b.need)
 | .ix a i=>a.need ++ i.need
 | .ixL a i=>a.need ++ i.need
 | .ixT a i=>a.need ++ i.need
 | .slc a lo hi=>a.need ++ (lo.need ++ hi.need)
 | .call f es=>.fn f :: es.need
 | .callB f es=>.fn f :: es.need
 | .bi _ es=>es.need
 | .isi a k=>(match k with | .cls n=>[.cl n] | _=>[]) ++ a.need
 | .comp0 _ _ _ it elt=>it.need ++ elt.need
 | .comp1 _ _ _ it cond elt=>it.need ++ (cond.need ++ elt.need)
noncomputable def Es.need:Es->List Nd1
 | .nil=>[]
 | .cons e r=>e.need ++ r.need
noncomputable def It.need:It->List Nd1
 | .seq e=>e.need
 | .seqL e=>e.need
 | .r1 a=>a.need
end
noncomputable def dT:D->T
 | .bl b=>.bl b
 | .int i=>.int i
 | .str x=>.str x
 | _=>.non
theorem Qo {d:D} (h:D.scal d=true):(dT d).dat=d/\(dT d).sc=true:=by cases d <;> first | exact ⟨rfl,rfl⟩ | cases h
noncomputable def NeedOk (p:Px) (lv:Nat) (X:Cx):Nd1->Prop
 | .fn F=>F.lv<=lv/\Kv p X F
 | .cl n=>p.has n=true/\X.mg (A5 n)=some (.ref (p.cl n))
 | .rs n=>p.has n=true/\nsIn X.K mainGlobals (A5 n)=some (some (.ref (p.cl n)))/\excIn X.K (p.cl n) G1 "ValueError.__new__" = true
 | .gl x d=>∃ u,X.mg x=some u/\RelV (dT d).val u
structure Kx (p:Px):Prop where
 no:p.has 999=false
 x:∀ c,p.has c=true->XCls p.K (p.cl c)
 kb:∀ c,p.has c=true->∀ T ∈ (["int", "bool", "str", "list", "tuple", "dict"]:List String),kitOne p.K (.ref (p.cl c)) (.type T)=some false
 kv:∀ c,p.has c=true->kitOne p.K (.ref (p.cl c)) (.type "ValueError")=some true
 kc:∀ c d,p.has c=true->p.has d=true->kitOne p.K (.ref (p.cl c)) (.ref (p.cl d))=some (isa c d)
structure Ct (p:Px) (c:CkC) (lv:Nat) (X:Cx) (EX:EXT):Prop where
 K:X.K=p.K
 N:X.N=c.N
 sc:X.env.scope=c.sc
 nd:X.N.Nodup
 calm:c.cm=true->X.calm=true
 room:c.cm=true->Room lv X.A
 un:X.A.units + 64 < cLine
 blt:∀ y ∈ Fe,X.mg y=none
 bt:∀ y ∈ (["bool", "dict", "ValueError"]:List Str),X.mg y=none
 pass:E2 (CXe X.prog X.w) X EX
 fn:c.fn=true->∀ x,X.fn x=true
 kx:Kx p
section
variable {p:Px} {c:CkC} {lv:Nat} {X:Cx} {EX:EXT} {tn:List Nat} {pos np:Pos}
theorem Ct.gl (C:Ct p c lv X EX) {x:Str} (h:glB c.sc x=true):Gl X x:=by
 unfold glB at h
 show X.env.scope.names.lookup x=_
 rw [C.sc]
 split at h
 ·assumption
 ·cases h
theorem Ct.vis (C:Ct p c lv X EX) {x:Str} (h:Et c.sc x=true):Vis X.env.scope x:=by
 unfold Et at h
 unfold Vis
 rw [C.sc]
 split at h
 ·exact .inl ‹_›
 ·exact .inr (.inl ‹_›)
 ·exact .inr (.inr ‹_›)
 ·cases h
theorem Ct.loc (C:Ct p c lv X EX) {x:Str} (h:EQ c x=true):L2.Loc X.env.scope x/\(X.fn x=true\/X.env.scope.names.lookup x=some .local):=by
 unfold EQ at h
 unfold L2.Loc
 rw [C.sc]
 split at h
 ·rename_i e; exact ⟨.inl e,.inr e⟩
 ·rename_i e; exact ⟨.inr e,.inl (C.fn h x)⟩
 ·cases h
theorem BQ {x:Str} (h:BD x=true):(x==("__debug__" : Str))=false/\(x==("__classdict__" : Str))=false:=by
 unfold BD at h
 rw [aak,abU,abU] at h
 exact h
theorem Ct.hu (C:Ct p c lv X EX):X.A.units + 64 < cLine:=C.un
theorem NM (C:Ct p c lv X EX):∀ {is:List Nat} {es:List Expr},ckG.ckGs c is es=true->PGs X es (Cu is)/\(assignEach es X.env).length=is.length/\(assignEach es X.env).findIdx? (·.1)=none
 | [],[],_=>⟨JE,rfl,rfl⟩
 | [],e :: es,h=>nF h
 | i :: is,[],h=>nF h
 | i :: is,e :: es,h=>by
  cases e with
  | Name x q =>
   have h:((c.N[i]?==some x) && EQ c x && ckG.ckGs c is es)=true:=h
   rw [aak,aak] at h
   obtain ⟨⟨h1,h2⟩,h3⟩:=h
   obtain ⟨a1,a2,a3⟩:=NM C h3
   obtain ⟨l1,l2⟩:=C.loc h2
   refine ⟨FT (JD C.nd (by rw [C.N]; exact beq_iff_eq.mp h1) l1 l2) a1 rfl,?_,?_⟩
   ·show (assignEach es X.env).length + 1=_; rw [a2]; rfl
   ·show List.findIdx? (·.1) ((false,_) :: assignEach es X.env)=none
    rw [List.findIdx?_cons,a3]; rfl
  | _=>exact nF h
theorem F0 (C:Ct p c lv X EX) {g:Tg} {e:Expr} (h:ckG c g e=true):PG X e (lG X.K g):=by
 cases g with
 | nm i =>
  cases e with
  | Name x q =>
   have h:((c.N[i]?==some x) && EQ c x)=true:=h
   rw [aak] at h
   obtain ⟨l1,l2⟩:=C.loc h.2
   exact JD C.nd (by rw [C.N]; exact beq_iff_eq.mp h.1) l1 l2
  | _=>exact nF h
 | tp is =>
  cases e with
  | Tuple es k q =>
   rw [show ckG c (.tp is) (.Tuple es k q)=(ckG.ckGs c is es && c.cm) from rfl,aak] at h
   obtain ⟨a1,a2,a3⟩:=NM C h.1
   intro pins s σ H v u Q I r hw
   rcases hw with hw | hw
   ·exact K9 (C.calm h.2) a1 a2 a3 pins s σ H v u Q I r hw
   ·exact Qa (C.calm h.2) a1 a2 a3 pins s σ H v u Q I r hw
  | _=>exact nF h
theorem JT {α β:Type} {xs:List α} {ys:List β} {j:Nat} {a:α} {b:β} (h1:xs[j]?=some a) (h2:ys[j]?=some b):(a,b) ∈ xs.zip ys:=by
 have:(xs.zip ys)[j]?=some (a,b):=by rw [List.getElem?_zip_eq_some]; exact ⟨h1,h2⟩
 exact aae this
theorem HR (C:Ct p c lv X EX) {scope:Scope} {loc:List Str} {fr:List Nat} {frn:List Str} (h:scB c scope loc fr frn=true):ScOk X scope loc fr frn/\(loc ++ frn).Nodup:=by
 unfold scB at h
 simp only [aak,decide_eq_true_eq,aaH,beq_iff_eq,bne_iff_ne,Bool.or_eq_true] at h
 obtain ⟨⟨⟨⟨⟨⟨h1,h2⟩,h3⟩,h4⟩,h5⟩,h6⟩,h7⟩:=h
 refine ⟨⟨fun j k x e1 e2=>?_,h1,fun y hy=>(h3 y hy).1.1,h4,fun y hy e=>?_,fun y hy e=>?_,fun x hx=>?_,by rw [C.sc]; exact h5⟩,h7⟩
 ·obtain ⟨⟨q1,q2⟩,q3⟩:=h2 (k,x) (JT e1 e2)
  refine ⟨by rw [C.N]; exact q1,?_,by simpa using q3⟩
  show X.env.scope.names.lookup x=_
  rw [C.sc]; exact q2
 ·rcases (h3 y hy).1.2 with q | q
  ·exact absurd e q
  ·exact q
 ·rcases (h3 y hy).2 with q | q
  ·exact absurd e q
  ·show X.env.scope.names.lookup y.1=_
   rw [C.sc]; exact q
 ·rw [Iv,C.sc]; exact h6 x hx
theorem Ct.blk (C:Ct p c lv X EX) {scope:Scope} {N:List Str} (hN:N.Nodup) (z:Bk):Ct p ⟨N,Ei scope c.sc,false,false,c.cm⟩ lv (X.blk scope z.C z.fp N z.s z.H) EX0 where
 K:=C.K
 N:=rfl
 sc:=by show relabel scope X.env=_; rw [Iv,C.sc]
 nd:=hN
 calm:=C.calm
 room:=C.room
 un:=C.un
 blt:=C.blt
 bt:=C.bt
 pass:=fun _ _ _ _ _ _ _ h=>by
  obtain ⟨_,_,_,_,_,_,_,_,_,_,_,_,_,_,_,_,_,_,z⟩:=h
  exact z.elim
 fn:=fun z=>nomatch z
 kx:=C.kx
theorem NeedOk.blk {scope:Scope} {N:List Str} {z:Bk} {n:Nd1} (h:NeedOk p lv X n):NeedOk p lv (X.blk scope z.C z.fp N z.s z.H) n:=by
 cases n <;> exact h
theorem Dg {e:Expr} {env:Env} (h:Ds e=true):∀ y,foldedSetIterable e env y=pure y:=by
 intro y
 cases e <;> first | rfl | cases h
theorem DJ {op:CmpOp} {e:Expr} (h:Ds e=true):behindInMarks op e=false:=by
 cases e <;> first | rfl | cases h
end
section
variable {p:Px} {c:CkC} {lv:Nat} {X:Cx} {EX:EXT} {tn:List Nat} {pos np:Pos}
theorem AH (C:Ct p c lv X EX) {e:Expr} {x:E} (h:PE X e (lE p EX tn x)) (hp:Im e=true):PE X e (lE p EX tn x)/\(x.tst=true->PT X e (lT p EX tn x)):=⟨h,fun _=>Ku C.K h hp⟩
noncomputable def kdV (p:Px):Kd->Value
 | .cls n=>.ref (p.cl n)
 | k=>.type (G6 k)
noncomputable def KH (p:Px):Kd->Prop
 | .cls n=>p.has n=true
 | _=>True
theorem Qp (C:Ct p c lv X EX) {H:Hp} {t:T} (ok:t.Ok p H):∃ ty,TyX X.K H t.val ty/\∀ k b,CL t.dat k=.ok b->KH p k->kitOne X.K ty (kdV p k)=some b:=by
 cases t with
 | non=>exact ⟨_,.of .non,fun k b h _=>by cases k <;> cases h <;> rfl⟩
 | bl x=>exact ⟨_,.of (.bl x),fun k b h _=>by cases k <;> cases h <;> rfl⟩
 | int x=>exact ⟨_,.of (.int x),fun k b h _=>by cases k <;> cases h <;> rfl⟩
 | str x=>exact ⟨_,.of (.str x),fun k b h _=>by cases k <;> cases h <;> rfl⟩
 | tup a ts=>exact ⟨_,.of (.tup ok.1),fun k b h _=>by cases k <;> cases h <;> rfl⟩
 | lst a ts =>
  rcases ok.1 with e | ⟨o,e⟩
  ·exact ⟨_,.of (.lst e),fun k b h _=>by cases k <;> cases h <;> rfl⟩
  ·exact ⟨_,.of (.frz e),fun k b h _=>by cases k <;> cases h <;> rfl⟩
 | exn a n =>
  by_cases hn:n=999
  ·subst hn
   refine ⟨_,.dct (by rw [ok.1]; rfl),fun k b h _=>?_⟩
   cases k <;> cases h <;> rfl
  ·have hs:=ok.2.resolve_left hn
   have hn':(n==999)=false:=beq_eq_false_iff_ne.mpr hn
   refine ⟨_,.exc (by rw [ok.1]; unfold exO; rw [if_neg hn]) (C.K ▸ C.kx.x n hs),fun k b h hh=>?_⟩
   rw [C.K]
   have kb:=C.kx.kb n hs
   cases k with
   | verr =>
    have h:(if (n==999)=true then Res.bad else Res.ok true)=Res.ok b:=h
    rw [hn',if_neg (by decide)] at h
    cases h; exact C.kx.kv n hs
   | cls m =>
    have h:(if (n==999)=true then Res.bad else Res.ok (isa n m))=Res.ok b:=h
    rw [hn',if_neg (by decide)] at h
    cases h; exact C.kx.kc n m hs hh
   | dict =>
    have h:Res.ok (n==999)=Res.ok b:=h
    rw [hn'] at h
    cases h; exact kb _ (by decide)
   | _=>cases h; exact kb _ (by decide)
theorem OG (C:Ct p c lv X EX) {l r:Expr} {x:E} {k:Kd} {v:V} {cv:Value} (hl:PE X l (lE p EX tn x)) (hr:PE X r (tC v)) (hst:Ar l=true) (hst':Ar r=true) (hgl:Gl X "isinstance") (hcv:clV v=some cv)
  (hk:∀ (H:Hp) (t:T) (b:Bool),t.Ok p H->CL t.dat k=.ok b->∃ ty,TyX X.K H t.val ty/\kitOne X.K ty cv=some b):PE X (.Call (.Name "isinstance" np) [l,r] [] pos) (lE p EX tn (.isi x k)):=by
 refine PE.mono (CJ MH hgl (C.blt _ (by simp [Fe])) (by decide +kernel) (Db hl (Db hr EZ (Ai hst')) (Ai hst)) (by decide) (by decide) (Ai hst) (AB (by simp [hst']))) fun σ H Q h=>?_
 obtain ⟨τ,rfl,hF,j,k',hj,h⟩:=h
 simp only [jk] at hj
 obtain ⟨⟨j1,k1⟩,h1,hj⟩:=bS hj
 simp only [ev] at h
 refine l1 hF h1 h fun d t H1 ht R h=>?_
 subst ht
 cases q:CL t.dat k with
 | ok b =>
  rw [q] at h
  obtain ⟨ty,h2,h3⟩:=hk H1 t b R.ok q
  exact ⟨t.val,v,cv,ty,b,rfl,hcv,h2,h3,h (.bl b) H1 rfl (Rs.scal R.same rfl)⟩
 | exc n =>
  rw [q] at h
  cases t with
  | exn a c =>
   have hx:∀ f,dX (T.exn a c).dat f ≠ .exc n:=fun f e=>by
    unfold T.dat dX at e
    split at e <;> simp_all
    split at e <;> cases e
   cases k with
   | verr=>exact absurd (show dX (T.exn a c).dat (fun _=>true)=.exc n from q) (hx _)
   | cls m=>exact absurd (show dX (T.exn a c).dat (fun c=>isa c m)=.exc n from q) (hx _)
   | _=>cases q
  | _=>cases k <;> cases q
 | bad=>rw [q] at h; exact nE h
theorem Qq (C:Ct p c lv X EX) {k:Kd} {r:Expr} (h:M2 c k r=true) (hn:∀ n,k=.cls n->NeedOk p lv X (.cl n)):∃ v cv,PE X r (tC v)/\clV v=some cv/\Ar r=true/\∀ (H:Hp) (t:T) (b:Bool),t.Ok p H->CL t.dat k=.ok b->∃ ty,TyX X.K H t.val ty/\kitOne X.K ty cv=some b:=by
 cases r with
 | Name x q =>
  have h:((x==EC k) && glB c.sc x)=true:=h
  rw [aak,beq_iff_eq] at h
  obtain ⟨rfl,h⟩:=h
  have fin:KH p k->∀ (H:Hp) (t:T) (b:Bool),t.Ok p H->CL t.dat k=.ok b->∃ ty,TyX X.K H t.val ty/\kitOne X.K ty (kdV p k)=some b:=fun hk H t b ok e=>let ⟨ty,a,f⟩:=Qp C ok; ⟨ty,a,f _ _ e hk⟩
  have key:(∃ n,k=.cls n)\/(KH p k/\kdV p k=.type (G6 k)/\X.mg (EC k)=none/\bootBuiltins (EC k)=some (.type (G6 k))/\EC k ≠ "__name__" /\ (EC k==("__debug__" : Str))=false):=by
   cases k with
   | cls n=>exact .inl ⟨n,rfl⟩
   | bool=>exact .inr ⟨trivial,rfl,C.bt _ (by decide),by decide +kernel,by decide,by decide⟩
   | dict=>exact .inr ⟨trivial,rfl,C.bt _ (by decide),by decide +kernel,by decide,by decide⟩
   | verr=>exact .inr ⟨trivial,rfl,C.bt _ (by decide),by decide +kernel,by decide,by decide⟩
   | _=>exact .inr ⟨trivial,rfl,C.blt _ (by decide),by decide +kernel,by decide,by decide⟩
  rcases key with ⟨n,rfl⟩ | ⟨k1,k2,k3,k4,k5,k6⟩
  ·obtain ⟨h1,h2⟩:=hn n rfl
   exact ⟨.ref (p.cl n),.ref (p.cl n),JB (C.gl h) h2 rfl (KD n),rfl,rfl,fin h1⟩
  ·exact ⟨.ty (G6 k),.type (G6 k),NT (C.gl h) k3 k4 rfl k5 k6,rfl,rfl,k2 ▸ fin k1⟩
 | _=>exact nF h
end
theorem Aa {a b:Bool} (h:(a && b)=true):a=true/\b=true:=aak _ _ |>.mp h
theorem Ao {p:Px} {lv:Nat} {X:Cx} {a b:List Nd1} (h:∀ n ∈ a ++ b,NeedOk p lv X n):(∀ n ∈ a,NeedOk p lv X n)/\∀ n ∈ b,NeedOk p lv X n:=⟨fun n m=>h n (aay _ m),fun n m=>h n (aah _ m)⟩
theorem Ce {c:CkC}:∀ {es:Es} {xs:List Expr},ckEs c es xs=true->xs.all Ar=true/\xs.length=es.len
 | .nil,[],_=>⟨rfl,rfl⟩
 | .nil,x :: xs,h=>nF h
 | .cons e r,[],h=>nF h
 | .cons e r,x :: xs,h=>by
  have h:(ckE c e x && Ar x && ckEs c r xs)=true:=h
  obtain ⟨h,h3⟩:=Aa h
  obtain ⟨h1,h2⟩:=Aa h
  obtain ⟨a,b⟩:=Ce h3
  exact ⟨by rw [aaA,h2,a]; rfl,by rw [aaV,b,Es.len]⟩
mutual
theorem snd {p:Px} {lv:Nat}:∀ (x:E) {c:CkC} {X:Cx} {EX:EXT} {tn:List Nat} (C:Ct p c lv X EX) (e:Expr),(∀ n ∈ x.need,NeedOk p lv X n)->ckE c x e=true->PE X e (lE p EX tn x)/\(x.tst=true->PT X e (lT p EX tn x))
 | .nm i,c,X,EX,tn,C,e,hn,h=>by
  cases e with
  | Name y q =>
   have h:((c.N[i]?==some y) && Et c.sc y && BD y)=true:=h
   obtain ⟨h,h3⟩:=Aa h
   obtain ⟨h1,h2⟩:=Aa h
   obtain ⟨d1,d2⟩:=BQ h3
   exact AH C (Qd (by rw [C.N]; exact beq_iff_eq.mp h1) (C.vis h2) d1 d2) rfl
  | _=>exact nF h
 | .cN,c,X,EX,tn,C,e,hn,h=>by
  cases e with
  | Constant k j q =>
   cases k with
   | none=>exact AH C (Gz (t:=.non) Pi rfl (fun _=>rfl)) rfl
   | _=>exact nF h
  | _=>exact nF h
 | .cB b,c,X,EX,tn,C,e,hn,h=>by
  cases e with
  | Constant k j q =>
   cases k with
   | bool b' =>
    cases beq_iff_eq.mp (show (b==b')=true from h)
    exact AH C (Gz (t:=.bl b) Q5 rfl (fun _=>rfl)) rfl
   | _=>exact nF h
  | _=>exact nF h
 | .cI b,c,X,EX,tn,C,e,hn,h=>by
  cases e with
  | Constant k j q =>
   cases k with
   | int b' =>
    cases beq_iff_eq.mp (show (b==b')=true from h)
    exact AH C (Gz (t:=.int b) Ph rfl (fun _=>rfl)) rfl
   | _=>exact nF h
  | _=>exact nF h
 | .cS b,c,X,EX,tn,C,e,hn,h=>by
  cases e with
  | Constant k j q =>
   cases k with
   | str b' =>
    cases beq_iff_eq.mp (show (b==b')=true from h)
    exact AH C (Gz (t:=.str b) Pj rfl (fun _=>rfl)) rfl
   | _=>exact nF h
  | _=>exact nF h
 | .gl y d,c,X,EX,tn,C,e,hn,h=>by
  cases e with
  | Name y' q =>
   have h:((y==y') && glB c.sc y' && BD y' && D.scal d)=true:=h
   obtain ⟨h,h4⟩:=Aa h
   obtain ⟨h,h3⟩:=Aa h
   obtain ⟨h1,h2⟩:=Aa h
   cases beq_iff_eq.mp h1
   obtain ⟨u,m,r⟩:=hn (.gl y d) (aaS.mpr rfl)
   obtain ⟨e1,e2⟩:=Qo h4
   exact AH C (Gz (t:=dT d) (JB (C.gl h2) m r (BQ h3).1) e2 (fun _=>by rw [e1]; rfl)) rfl
  | _=>exact nF h
 | .tup es,c,X,EX,tn,C,e,hn,h=>by
  cases e with
  | Tuple xs k q =>
   obtain ⟨h1,h2⟩:=Aa (show (ckEs c es xs && decide (es.len<=1000))=true from h)
   exact AH C (Oa (sndA es C xs hn h1).1 (of_decide_eq_true h2)) rfl
  | _=>exact nF h
 | .lst es,c,X,EX,tn,C,e,hn,h=>by
  cases e with
  | List xs q =>
   obtain ⟨h1,h2⟩:=Aa (show (ckEs c es xs && decide (es.len<=1000))=true from h)
   exact AH C (Ob (sndA es C xs hn h1).1 (of_decide_eq_true h2)) rfl
  | _=>exact nF h
 | .bin o a b,c,X,EX,tn,C,e,hn,h=>by
  cases e with
  | BinOp l op r q =>
   obtain ⟨h,h3⟩:=Aa (show ((op==Kq o) && ckE c a l && ckE c b r)=true from h)
   obtain ⟨h1,h2⟩:=Aa h
   cases beq_iff_eq.mp h1
   obtain ⟨n1,n2⟩:=Ao hn
   exact AH C (Oi (snd a C l n1 h2).1 (snd b C r n2 h3).1) rfl
  | _=>exact nF h
 | .neg a,c,X,EX,tn,C,e,hn,h=>by
  cases e with
  | UnaryOp o l q =>
   cases o with
   | USub=>exact AH C (On (snd a C l hn h).1) rfl
   | _=>exact nF h
  | _=>exact nF h
 | .not a,c,X,EX,tn,C,e,hn,h=>by
  cases e with
  | UnaryOp o l q =>
   cases o with
   | Not =>
    obtain ⟨h1,h2⟩:=snd a C (tn:=tn) l hn h
    exact ⟨Oo h1,fun ht=>MR (h2 ht)⟩
   | _=>exact nF h
  | _=>exact nF h
 | .cmp o a b,c,X,EX,tn,C,e,hn,h=>by
  cases e with
  | Compare l ops rs q =>
   match ops,rs,h with
   | [op],[r],h =>
    obtain ⟨h,h4⟩:=Aa (show ((op==A9 o) && ckE c a l && ckE c b r && Ds r)=true from h)
    obtain ⟨h,h3⟩:=Aa h
    obtain ⟨h1,h2⟩:=Aa h
    cases beq_iff_eq.mp h1
    obtain ⟨n1,n2⟩:=Ao hn
    have A:=(snd a C (tn:=tn) l n1 h2).1
    have B:=(snd b C (tn:=tn) r n2 h3).1
    exact ⟨Oj C.K C.hu A B (DJ h4),fun _=>MO C.K C.hu A B (DJ h4)⟩
   | [],_,h=>exact nF h
   | [_],[],h=>exact nF h
   | [_],_ :: _ :: _,h=>exact nF h
   | _ :: _ :: _,_,h=>exact nF h
  | _=>exact nF h
 | .chain o o' a b d,c,X,EX,tn,C,e,hn,h=>by
  cases e with
  | Compare l ops rs q =>
   match ops,rs,h with
   | [op,op'],[r,r'],h =>
    obtain ⟨h,h6⟩:=Aa (show ((op==A9 o) && (op'==A9 o') && ckE c a l && ckE c b r && ckE c d r' && Ds r')=true from h)
    obtain ⟨h,h5⟩:=Aa h
    obtain ⟨h,h4⟩:=Aa h
    obtain ⟨h,h3⟩:=Aa h
    obtain ⟨h1,h2⟩:=Aa h
    cases beq_iff_eq.mp h1
    cases beq_iff_eq.mp h2
    obtain ⟨n1,n2⟩:=Ao hn
    obtain ⟨n2,n3⟩:=Ao n2
    have A:=(snd a C (tn:=tn) l n1 h3).1
    have B:=(snd b C (tn:=tn) r n2 h4).1
    have D:=(snd d C (tn:=tn) r' n3 h5).1
    exact ⟨LH C.K C.hu A B D (DJ h6),fun _=>Kt C.K C.hu A B D (DJ h6)⟩
   | [],_,h=>exact nF h
   | [_],_,h=>exact nF h
   | [_,_],[],h=>exact nF h
   | [_,_],[_],h=>exact nF h
   | [_,_],_ :: _ :: _ :: _,h=>exact nF h
   | _ :: _ :: _ :: _,_,h=>exact nF h
  | _=>exact nF h
 | .isN n a,c,X,EX,tn,C,e,hn,h=>by
  cases e with
  | Compare l ops rs q =>
   match ops,rs,h with
   | [op],[r],h =>
    obtain ⟨h,h3⟩:=Aa (show ((op==if n then .IsNot else .Is) && LU r && ckE c a l)=true from h)
    obtain ⟨h1,h2⟩:=Aa h
    cases beq_iff_eq.mp h1
    have A:=(snd a C (tn:=tn) l hn h3).1
    cases r with
    | Constant k j q' =>
     cases k with
     | none=>exact ⟨Om A,fun _=>MP A⟩
     | _=>cases h2
    | _=>cases h2
   | [],_,h=>exact nF h
   | [_],[],h=>exact nF h
   | [_],_ :: _ :: _,h=>exact nF h
   | _ :: _ :: _,_,h=>exact nF h
  | _=>exact nF h
 | .bo k es,c,X,EX,tn,C,e,hn,h=>by
  cases e with
  | BoolOp op xs q =>
   obtain ⟨h1,h2⟩:=Aa (show ((op==if k then .And else .Or) && ckEs c es xs)=true from h)
   cases beq_iff_eq.mp h1
   obtain ⟨a1,a2⟩:=(sndA es C (tn:=tn) xs hn h2).2 k q
   exact ⟨a1,fun ht=>(a2 ht).pt⟩
  | _=>exact nF h
 | .ifx t a b,c,X,EX,tn,C,e,hn,h=>by
  cases e with
  | IfExp t' a' b' q =>
   obtain ⟨h,h4⟩:=Aa (show (ckE c t t' && t.tst && ckE c a a' && ckE c b b')=true from h)
   obtain ⟨h,h3⟩:=Aa h
   obtain ⟨h1,h2⟩:=Aa h
   obtain ⟨n1,n2⟩:=Ao hn
   obtain ⟨n2,n3⟩:=Ao n2
   exact ⟨Os ((snd t C t' n1 h1).2 h2) (snd a C a' n2 h3).1 (snd b C b' n3 h4).1,fun z=>nomatch z⟩
  | _=>exact nF h
 | .ix a i,c,X,EX,tn,C,e,hn,h=>by
  cases e with
  | Subscript l r q =>
   obtain ⟨h,h3⟩:=Aa (show (ckE c a l && ckE c i r && Bb r)=true from h)
   obtain ⟨h1,h2⟩:=Aa h
   obtain ⟨n1,n2⟩:=Ao hn
   exact AH C (Ql C.K (snd a C l n1 h1).1 (snd i C r n2 h2).1 h3) rfl
  | _=>exact nF h
 | .ixL a i,c,X,EX,tn,C,e,hn,h=>by
  cases e with
  | Subscript l r q =>
   obtain ⟨h,h3⟩:=Aa (show (ckE c a l && ckE c i r && Bb r)=true from h)
   obtain ⟨h1,h2⟩:=Aa h
   obtain ⟨n1,n2⟩:=Ao hn
   exact AH C (Ot (snd a C l n1 h1).1 (snd i C r n2 h2).1 h3) rfl
  | _=>exact nF h
 | .ixT a i,c,X,EX,tn,C,e,hn,h=>by
  cases e with
  | Subscript l r q =>
   obtain ⟨h,h3⟩:=Aa (show (ckE c a l && ckE c i r && Bb r)=true from h)
   obtain ⟨h1,h2⟩:=Aa h
   obtain ⟨n1,n2⟩:=Ao hn
   exact AH C (Ou (snd a C l n1 h1).1 (snd i C r n2 h2).1 h3) rfl
  | _=>exact nF h
 | .slc a lo hi,c,X,EX,tn,C,e,hn,h=>by
  cases e with
  | Subscript l r q =>
   cases r with
   | Slice lo' hi' st q2 =>
    cases st with
    | none =>
     obtain ⟨h,h3⟩:=Aa (show (ckE c a l && GE lo.isCN (ckE c lo) lo' && GE hi.isCN (ckE c hi) hi')=true from h)
     obtain ⟨h1,h2⟩:=Aa h
     obtain ⟨n1,n2⟩:=Ao hn
     obtain ⟨n2,n3⟩:=Ao n2
     have cn:∀ {y:E},y.isCN=true->y=.cN:=fun {y} z=>by cases y <;> first | rfl | cases z
     have P1:PO X lo' (lO p EX tn lo):=by
      cases lo' with
      | none=>cases cn h2; exact Hy
      | some l' =>
       obtain ⟨g1,g2⟩:=Aa h2
       exact Hz (snd lo C l' n2 g2).1 (by simpa using g1)
     have P2:PO X hi' (lO p EX tn hi):=by
      cases hi' with
      | none=>cases cn h3; exact Hy
      | some l' =>
       obtain ⟨g1,g2⟩:=Aa h3
       exact Hz (snd hi C l' n3 g2).1 (by simpa using g1)
     exact AH C (Ow (snd a C l n1 h1).1 P1 P2) rfl
    | some _=>exact nF h
   | _=>exact nF h
  | _=>exact nF h
 | .call f es,c,X,EX,tn,C,e,hn,h=>by
  cases e with
  | Call fn xs ks q =>
   cases fn with
   | Name y q' =>
    cases ks with
    | nil =>
     obtain ⟨h,h7⟩:=Aa (show ((y==f.name) && glB c.sc y && BD y && ckEs c es xs && decide (es.len=f.ar) && decide (0 < es.len) && c.cm)=true from h)
     obtain ⟨h,h6⟩:=Aa h
     obtain ⟨h,h5⟩:=Aa h
     obtain ⟨h,h4⟩:=Aa h
     obtain ⟨h,h3⟩:=Aa h
     obtain ⟨h1,h2⟩:=Aa h
     cases beq_iff_eq.mp h1
     obtain ⟨s1,s2⟩:=Ce h4
     obtain ⟨f1,f2⟩:=hn (.fn f) (aac ..)
     have A:=(sndA es C (tn:=tn) xs (fun n m=>hn n (aab _ m)) h4).1
     cases es with
     | nil=>cases of_decide_eq_true h6
     | cons e1 r1 =>
      cases xs with
      | nil=>cases s2
      | cons x1 xr=>exact AH C (MV C.pass f2 ((C.room h7).mono f1) (C.gl h2) (BQ h3).1 A s1 (of_decide_eq_true h5)) rfl
    | cons _ _=>exact nF h
   | _=>exact nF h
  | _=>exact nF h
 | .callB f es,c,X,EX,tn,C,e,hn,h=>by
  cases e with
  | Call fn xs ks q =>
   cases fn with
   | Name y q' =>
    cases ks with
    | nil =>
     obtain ⟨h,h7⟩:=Aa (show ((y==f.name) && glB c.sc y && BD y && ckEs c es xs && decide (es.len=f.ar) && decide (0 < es.len) && c.cm)=true from h)
     obtain ⟨h,h6⟩:=Aa h
     obtain ⟨h,h5⟩:=Aa h
     obtain ⟨h,h4⟩:=Aa h
     obtain ⟨h,h3⟩:=Aa h
     obtain ⟨h1,h2⟩:=Aa h
     cases beq_iff_eq.mp h1
     obtain ⟨s1,s2⟩:=Ce h4
     obtain ⟨f1,f2⟩:=hn (.fn f) (aac ..)
     have A:=(sndA es C (tn:=tn) xs (fun n m=>hn n (aab _ m)) h4).1
     cases es with
     | nil=>cases of_decide_eq_true h6
     | cons e1 r1 =>
      cases xs with
      | nil=>cases s2
      | cons x1 xr=>exact AH C (LK C.pass f2 ((C.room h7).mono f1) (C.gl h2) (BQ h3).1 A s1 (of_decide_eq_true h5)) rfl
    | cons _ _=>exact nF h
   | _=>exact nF h
  | _=>exact nF h
 | .bi b es,c,X,EX,tn,C,e,hn,h=>by
  cases e with
  | Call fn xs ks q =>
   cases fn with
   | Name y q' =>
    cases ks with
    | nil =>
     obtain ⟨h,h6⟩:=Aa (show ((y==LT b) && glB c.sc y && Qn b && ckEs c es xs && decide (0 < es.len) && (c.cm || D0 b))=true from h)
     obtain ⟨h,h5⟩:=Aa h
     obtain ⟨h,h4⟩:=Aa h
     obtain ⟨h,h3⟩:=Aa h
     obtain ⟨h1,h2⟩:=Aa h
     cases beq_iff_eq.mp h1
     obtain ⟨s1,s2⟩:=Ce h4
     have A:=(sndA es C (tn:=tn) xs hn h4).1
     cases es with
     | nil=>cases of_decide_eq_true h5
     | cons e1 r1 =>
      cases xs with
      | nil=>cases s2
      | cons x1 xr =>
       refine AH C ?_ rfl
       cases b with
       | len=>exact Oy C.blt A s1 (C.gl h2)
       | min=>exact OC C.blt A s1 (C.calm (by rw [show D0 .min=false from rfl,abG] at h6; exact h6)) (C.gl h2)
       | max=>exact OB C.blt A s1 (C.calm (by rw [show D0 .max=false from rfl,abG] at h6; exact h6)) (C.gl h2)
       | max3=>exact MX C.blt A s1 (C.calm (by rw [show D0 .max3=false from rfl,abG] at h6; exact h6)) (C.gl h2)
       | maxL=>exact MY C.blt A s1 (C.calm (by rw [show D0 .maxL=false from rfl,abG] at h6; exact h6)) (C.gl h2)
       | int=>exact Oz C.blt A s1 (C.gl h2)
       | list=>exact MW C.blt A s1 (C.gl h2)
       | tupleL=>exact Kw C.blt A s1 (C.gl h2)
       | all=>exact OA C.blt A s1 (C.calm (by rw [show D0 .all=false from rfl,abG] at h6; exact h6)) (C.gl h2)
    | cons _ _=>exact nF h
   | _=>exact nF h
  | _=>exact nF h
 | .isi a k,c,X,EX,tn,C,e,hn,h=>by
  cases e with
  | Call fn xs ks q =>
   cases fn with
   | Name y q' =>
    match xs,ks,h with
    | [l,r],[],h =>
     obtain ⟨h,h5⟩:=Aa (show ((y==("isinstance" : Str)) && glB c.sc y && ckE c a l && M2 c k r && Ar l)=true from h)
     obtain ⟨h,h4⟩:=Aa h
     obtain ⟨h,h3⟩:=Aa h
     obtain ⟨h1,h2⟩:=Aa h
     cases beq_iff_eq.mp h1
     obtain ⟨n1,n2⟩:=Ao hn
     obtain ⟨v,cv,e1,e2,e3,e4⟩:=Qq C h4 (fun n e=>n1 _ (by subst e; exact aaS.mpr rfl))
     exact AH C (OG C (snd a C l n2 h3).1 e1 h5 e3 (C.gl h2) e2 e4) rfl
    | [],_,h=>exact nF h
    | [_],_,h=>exact nF h
    | _ :: _ :: _ :: _,_,h=>exact nF h
    | [_,_],_ :: _,h=>exact nF h
   | _=>exact nF h
  | _=>exact nF h
 | .comp0 nl fr g it elt,c,X,EX,tn,C,e,hn,h=>by
  cases e with
  | ListComp elt' gens scope q =>
   obtain ⟨tg,iter,ifs,rfl,h⟩:=DI h
   obtain ⟨h,h7⟩:=Aa h
   obtain ⟨h,h6⟩:=Aa h
   obtain ⟨h,h5⟩:=Aa h
   obtain ⟨h,h4⟩:=Aa h
   obtain ⟨h,h3⟩:=Aa h
   obtain ⟨h,h2⟩:=Aa h
   obtain ⟨h,h1⟩:=Aa h
   obtain ⟨hcm,h0⟩:=Aa h
   cases ifs with
   | cons _ _=>cases h0
   | nil =>
   have h2:=of_decide_eq_true h2
   subst h2
   obtain ⟨S,nd⟩:=HR C h1
   obtain ⟨n1,n2⟩:=Ao hn
   refine AH C (LQ (C.calm hcm) S (sndI it C iter n1 h4) (fun i hi=>of_decide_eq_true (aaH.mp h3 i hi)) (fun z=>⟨?_,?_⟩) (Dg h5)) rfl
   ·exact F0 (C.blk nd z) h6
   ·exact (snd elt (C.blk nd z) elt' (fun n m=>(n2 n m).blk) h7).1
  | _=>exact nF h
 | .comp1 nl fr g it cond elt,c,X,EX,tn,C,e,hn,h=>by
  cases e with
  | ListComp elt' gens scope q =>
   obtain ⟨tg,iter,ifs,rfl,h⟩:=DI h
   obtain ⟨cnd,rfl,h⟩:=Iw h
   obtain ⟨h,h9⟩:=Aa h
   obtain ⟨h,h8⟩:=Aa h
   obtain ⟨h,h7⟩:=Aa h
   obtain ⟨h,h6⟩:=Aa h
   obtain ⟨h,h5⟩:=Aa h
   obtain ⟨h,h4⟩:=Aa h
   obtain ⟨h,h3⟩:=Aa h
   obtain ⟨h,h2⟩:=Aa h
   obtain ⟨hcm,h1⟩:=Aa h
   have h2:=of_decide_eq_true h2
   subst h2
   obtain ⟨S,nd⟩:=HR C h1
   obtain ⟨n1,n2⟩:=Ao hn
   obtain ⟨n2,n3⟩:=Ao n2
   refine AH C (LR (C.calm hcm) S (sndI it C iter n1 h4) (fun i hi=>of_decide_eq_true (aaH.mp h3 i hi)) (fun z=>⟨?_,?_,?_⟩) (Dg h5)) rfl
   ·exact F0 (C.blk nd z) h6
   ·exact (snd cond (C.blk nd z) cnd (fun n m=>(n2 n m).blk) h7).2 h8
   ·exact (snd elt (C.blk nd z) elt' (fun n m=>(n3 n m).blk) h9).1
  | _=>exact nF h
theorem sndA {p:Px} {lv:Nat}:∀ (es:Es) {c:CkC} {X:Cx} {EX:EXT} {tn:List Nat} (C:Ct p c lv X EX) (xs:List Expr),(∀ n ∈ es.need,NeedOk p lv X n)->ckEs c es xs=true ->
  PA X xs (lEs p EX tn es)/\∀ (k:Bool) (q:Pos),PE X (.BoolOp (if k then .And else .Or) xs q) (lE p EX tn (.bo k es))/\(es.tsts=true->PW X (.BoolOp (if k then .And else .Or) xs q) (lT p EX tn (.bo k es)))
 | .nil,c,X,EX,tn,C,xs,hn,h=>by
  cases xs with
  | nil =>
   refine ⟨MM,fun k q=>⟨fun pins s σ H Q I h=>?_,fun _ wh pins s σ H Q I h=>?_⟩⟩
   ·obtain ⟨τ,rfl,hF,j,k',hj,h⟩:=h
    simp only [ev,evBo] at h
    exact nE h
   ·obtain ⟨τ,rfl,hF,hj,h⟩:=h
    simp only [tv,ev,evBo] at h
    exact nE h
  | cons _ _=>exact nF h
 | .cons e r,c,X,EX,tn,C,xs,hn,h=>by
  cases xs with
  | nil=>exact nF h
  | cons x xs =>
   obtain ⟨h,h3⟩:=Aa (show (ckE c e x && Ar x && ckEs c r xs)=true from h)
   obtain ⟨h1,h2⟩:=Aa h
   obtain ⟨n1,n2⟩:=Ao hn
   obtain ⟨A1,A2⟩:=snd e C (tn:=tn) x n1 h1
   obtain ⟨B1,B2⟩:=sndA r C (tn:=tn) xs n2 h3
   refine ⟨LA A1 B1 (Ai h2),fun k q=>?_⟩
   cases r with
   | nil =>
    cases xs with
    | nil=>exact ⟨Qj A1,fun z=>Oq (A2 (Aa (show (e.tst && true)=true from z)).1)⟩
    | cons _ _=>exact nF h3
   | cons e' r' =>
    cases xs with
    | nil=>exact nF h3
    | cons x' xs' =>
     obtain ⟨C1,C2⟩:=B2 k q
     exact ⟨Op A1 C1,fun z=>let ⟨z1,z2⟩:=Aa (show (e.tst && (Es.cons e' r').tsts)=true from z); MT (A2 z1) (C2 z2)⟩
theorem sndI {p:Px} {lv:Nat}:∀ (it:It) {c:CkC} {X:Cx} {EX:EXT} {tn:List Nat} {tg:Expr} (C:Ct p c lv X EX) (e:Expr),(∀ n ∈ it.need,NeedOk p lv X n)->ckI c tg it e=true->PI X tg e (lI p EX tn it)
 | .seq a,c,X,EX,tn,tg,C,e,hn,h=>M0 C.K (snd a C e hn h).1
 | .seqL a,c,X,EX,tn,tg,C,e,hn,h=>LP C.K (snd a C e hn h).1
 | .r1 a,c,X,EX,tn,tg,C,e,hn,h=>by
  cases e with
  | Call fn xs ks q =>
   cases fn with
   | Name y q' =>
    match xs,ks,h with
    | [l],[],h =>
     obtain ⟨h,h4⟩:=Aa (show ((y==("range" : Str)) && glB c.sc y && ckE c a l && Ar l)=true from h)
     obtain ⟨h,h3⟩:=Aa h
     obtain ⟨h1,h2⟩:=Aa h
     cases beq_iff_eq.mp h1
     exact OD (snd a C l hn h3).1 h4 (C.gl h2) (C.blt _ (by simp [Fe]))
    | [],_,h=>exact nF h
    | _ :: _ :: _,_,h=>exact nF h
    | [_],_ :: _,h=>exact nF h
   | _=>exact nF h
  | _=>exact nF h
end
inductive Md where
 | sh
 | ow (k:Nat)
 | br (k:Nat)
 | dead
 deriving DecidableEq
noncomputable abbrev Ms:=List Md
noncomputable def Md.tn:Md->Nat
 | .sh=>0
 | .ow k=>k
 | .br k=>k
 | .dead=>99
noncomputable def Md.le:Md->Md->Bool
 | _,.dead=>true
 | .sh,.sh=>true
 | .ow _,.sh=>true
 | .ow k,.ow k'=>decide (0 < k'/\k'<=k)
 | .br k,.br k'=>decide (k=k')
 | _,_=>false
noncomputable def Md.small:Md->Bool
 | .ow k=>decide (0 < k/\k < 90)
 | .br k=>decide (k < 90)
 | _=>true
noncomputable def Md.meet (a b:Md):Md:=if a=b then a else match a,b with
 | .ow k,.ow k'=>if 0 < min k k' then .ow (min k k') else .sh
 | .ow _,.sh=>.sh
 | .sh,.ow _=>.sh
 | _,_=>.dead
noncomputable def tnM (m:Ms):List Nat:=m.map Md.tn
theorem Ba {m:Ms} {i j:Nat} (h:(tnM m)[i]?=some j):∃ d,m[i]?=some d/\d.tn=j:=by
 unfold tnM at h
 rw [aao] at h
 exact aap.mp h
theorem AX {m:Ms} {i:Nat} {d:Md} (h:m[i]?=some d):(tnM m)[i]?=some d.tn:=by
 unfold tnM; rw [aao,h]; rfl
noncomputable def Own (m:Ms) (τ:Ft) (a:Addr):Prop:=∃ (i:Nat) (t:T) (k:Nat),τ[i]?=some (some t)/\m[i]?=some (.ow k)/\a ∈ t.adr k
noncomputable def Md.low:Md->Nat
 | .sh=>0
 | .ow _=>0
 | .br k=>k
 | .dead=>99
structure Sf (p:Px) (H0:Hp) (A0:Addr->Prop) (m:Ms) (τ:Ft) (H:Hp):Prop where
 len:τ.length=m.length
 small:∀ d ∈ m,d.small=true
 same:Same H0 H
 ok:Fok p (tnM m) τ H
 own:∀ (i:Nat) (t:T) (k:Nat) (a:Addr),τ[i]?=some (some t)->m[i]?=some (.ow k)->a ∈ t.adr k->H0 a=none/\∃ vs,H a=some (.lst vs)
 src:∀ a,Sh (tnM m) τ a->H0 a=none\/A0 a
 nd:∀ (i:Nat) (t:T) (k:Nat),τ[i]?=some (some t)->m[i]?=some (.ow k)->t.Nd k
 sep:∀ (i j:Nat) (t u:T) (k:Nat) (d:Md),i ≠ j->τ[i]?=some (some t)->m[i]?=some (.ow k)->τ[j]?=some (some u)->m[j]?=some d->d ≠ .dead->∀ a ∈ t.adr k,a ∉ u.rest d.low
 top:∀ (i j:Nat) (t u:T) (k k2:Nat),τ[i]?=some (some t)->m[i]?=some (.ow k)->τ[j]?=some (some u)->m[j]?=some (.br k2)->∀ a ts,t=.lst a ts->a ∉ u.rest 0
section
variable {p:Px} {H0:Hp} {A0:Addr->Prop} {m m':Ms} {τ:Ft} {H H':Hp}
theorem Sf.at (S:Sf p H0 A0 m τ H) {i:Nat} {t:T} {d:Md} (e:τ[i]?=some (some t)) (h:m[i]?=some d) (hd:d ≠ .dead):t.Ok p H:=by
 refine S.ok i t d.tn e (AX h) ?_
 have:=S.small d (aae h)
 cases d with
 | sh=>exact (by decide:(0:Nat) < 90)
 | ow k=>exact (of_decide_eq_true this).2
 | br k=>exact of_decide_eq_true this
 | dead=>exact absurd rfl hd
theorem Sf.ownOk (S:Sf p H0 A0 m τ H) {a:Addr} (o:Own m τ a):H0 a=none/\∃ vs,H a=some (.lst vs):=by
 obtain ⟨i,t,k,e,h,q⟩:=o
 exact S.own i t k a e h q
theorem Sf.disj (S:Sf p H0 A0 m τ H) {a:Addr} (o:Own m τ a):¬ Sh (tnM m) τ a:=by
 rintro ⟨j,u,jj,e',h',l,q'⟩
 obtain ⟨i,t,k,e,h,q⟩:=o
 obtain ⟨d,hd,rfl⟩:=Ba h'
 have hdd:d ≠ .dead:=fun z=>by subst z; exact absurd l (by decide)
 by_cases z:i=j
 ·subst z
  rw [h] at hd; cases hd
  rw [e] at e'
  cases e'
  exact (S.nd i _ k e h).2 a q' q
 ·refine S.sep i j t u k d z e h e' hd hdd a q (T.rest_le u ?_ q')
  cases d <;> simp [Md.low,Md.tn]
theorem Sf.grow (S:Sf p H0 A0 m τ H) (s:Same H H'):Sf p H0 A0 m τ H' :=
 ⟨S.len,S.small,S.same.trans s,S.ok.same s,fun i t k a e h q=>⟨(S.own i t k a e h q).1,let ⟨vs,z⟩:=(S.own i t k a e h q).2; ⟨vs,s _ _ z⟩⟩,S.src,S.nd,S.sep,S.top⟩
noncomputable def leM (m m':Ms):Bool:=decide (m.length=m'.length) && (m.zip m').all fun q=>q.1.le q.2
theorem Dh (h:leM m m'=true) {i:Nat} {d':Md} (e:m'[i]?=some d'):∃ d,m[i]?=some d/\d.le d'=true:=by
 unfold leM at h
 obtain ⟨h1,h2⟩:=Aa h
 have h1:=of_decide_eq_true h1
 have hi:i < m.length:=by
  rw [h1]; exact (aaq.mp e).1
 refine ⟨m[i],aal hi,aaH.mp h2 (m[i],d') (JT (aal hi) e)⟩
theorem F1 {m:Ms} (h:∀ d ∈ m,d.small=true):leM m m=true:=by
 unfold leM
 simp only [decide_true,abc]
 refine aaH.mpr fun q hq=>?_
 obtain ⟨i,hi,e⟩:=abi hq
 have hi':i < m.length:=by simpa using hi
 have hs:=h m[i] (List.getElem_mem hi')
 have:q=(m[i],m[i]):=by rw [<- e]; simp
 rw [this]
 generalize m[i]=d at hs
 cases d <;> simp_all [Md.le,Md.small]
theorem Sf.weak (S:Sf p H0 A0 m τ H) (h:leM m m'=true):Sf p H0 A0 m' τ H:=by
 have hl:m.length=m'.length:=of_decide_eq_true (Aa (show (decide (m.length=m'.length) && _)=true from h)).1
 have shd:∀ a,Sh (tnM m') τ a->Sh (tnM m) τ a\/Own m τ a:=by
  rintro a ⟨i,t,j,e,ej,l,q⟩
  obtain ⟨d',hd',rfl⟩:=Ba ej
  obtain ⟨d,hd,le⟩:=Dh h hd'
  have sm:=S.small d (aae hd)
  cases d' with
  | dead=>exact absurd l (by decide)
  | sh =>
   cases d with
   | sh=>exact .inl ⟨i,t,0,e,AX hd,by decide,q⟩
   | ow k =>
    rcases (T.all_iff t k).mp q with z | z
    ·exact .inr ⟨i,t,k,e,hd,z⟩
    ·exact .inl ⟨i,t,k,e,AX hd,(of_decide_eq_true sm).2,z⟩
   | _=>cases le
  | ow k' =>
   cases d with
   | ow k =>
    rcases (T.all_iff t k).mp (T.rest_le t (aas _) q) with z | z
    ·exact .inr ⟨i,t,k,e,hd,z⟩
    ·exact .inl ⟨i,t,k,e,AX hd,(of_decide_eq_true sm).2,z⟩
   | _=>cases le
  | br k' =>
   cases d with
   | br k =>
    have:k=k':=of_decide_eq_true le
    subst this
    exact .inl ⟨i,t,k,e,AX hd,of_decide_eq_true sm,q⟩
   | _=>cases le
 have ownd:∀ {i:Nat} {k':Nat},m'[i]?=some (.ow k')->∃ k,m[i]?=some (.ow k)/\k'<=k:=by
  intro i k' hd'
  obtain ⟨d,hd,le⟩:=Dh h hd'
  cases d with
  | ow k=>exact ⟨k,hd,(of_decide_eq_true le).2⟩
  | _=>cases le
 refine ⟨S.len.trans hl,fun d' hd'=>?_,S.same,fun i t j e ej l=>?_,fun i t k' a e hk q=>?_,fun a sh=>?_,fun i t k' e hk=>?_,fun i j t u k' d' ne e hk e' hd' nd a q=>?_,fun i j t u k' k2 e hk e' hd' a ts z=>?_⟩
 ·obtain ⟨i,hi,rfl⟩:=abi hd'
  obtain ⟨d,hd,le⟩:=Dh h (aal hi)
  have sm:=S.small d (aae hd)
  generalize m'[i]=d' at le
  cases d' <;> cases d <;> simp_all [Md.le,Md.small] <;> omega
 ·obtain ⟨d',hd',rfl⟩:=Ba ej
  obtain ⟨d,hd,le⟩:=Dh h hd'
  refine S.at e hd fun z=>?_
  subst z
  cases d' <;> first | exact absurd l (by decide) | cases le
 ·obtain ⟨k,hd,le⟩:=ownd hk
  exact S.own i t k a e hd (T.adr_le t le q)
 ·rcases shd a sh with z | z
  ·exact S.src a z
  ·exact .inl (S.ownOk z).1
 ·obtain ⟨k,hd,le⟩:=ownd hk
  exact T.nd_le t le (S.nd i t k e hd)
 ·obtain ⟨k,hd,le⟩:=ownd hk
  obtain ⟨d,hdj,lj⟩:=Dh h hd'
  have hdd:d ≠ .dead:=fun z=>by subst z; cases d' <;> first | exact nd rfl | cases lj
  refine fun q'=>S.sep i j t u k d ne e hd e' hdj hdd a (T.adr_le t le q) (T.rest_le u ?_ q')
  cases d' <;> cases d <;> first | exact aas _ | (cases lj; done) | exact absurd rfl nd | skip
  exact Nat.le_of_eq (of_decide_eq_true lj)
 ·obtain ⟨k,hd,le⟩:=ownd hk
  obtain ⟨d,hdj,lj⟩:=Dh h hd'
  cases d with
  | br k3=>exact S.top i j t u k k3 e hd e' hdj a ts z
  | _=>cases lj
structure Stp (m m':Ms) (wr:List Nat) (τ τ':Ft) (H H':Hp):Prop where
 keep:∀ a u,H a=some u->¬ Own m τ a->H' a=some u
 grow:∀ a,Own m' τ' a->Own m τ a\/H a=none
 wr:∀ i,i ∉ wr->τ'[i]?=τ[i]?
theorem Own.weak (h:leM m m'=true) {a:Addr} (o:Own m' τ a):Own m τ a:=by
 obtain ⟨i,t,k,e,hk,q⟩:=o
 obtain ⟨d,hd,le⟩:=Dh h hk
 cases d with
 | ow k2=>exact ⟨i,t,k2,e,hd,T.adr_le t (of_decide_eq_true le).2 q⟩
 | _=>cases le
theorem Stp.refl (wr:List Nat) (h:leM m m'=true) (s:Same H H'):Stp m m' wr τ τ H H':=⟨fun a u e _=>s a u e,fun a o=>.inl (o.weak h),fun _ _=>rfl⟩
theorem Stp.trans {m1 m2 m3:Ms} {w1 w2:List Nat} {τ1 τ2 τ3:Ft} {H1 H2 H3:Hp} (a:Stp m1 m2 w1 τ1 τ2 H1 H2) (b:Stp m2 m3 w2 τ2 τ3 H2 H3):Stp m1 m3 (w1 ++ w2) τ1 τ3 H1 H3:=by
 refine ⟨fun x u e n=>b.keep x u (a.keep x u e n) fun o=>?_,fun x o=>?_,fun i hi=>?_⟩
 ·rcases a.grow x o with z | z
  ·exact n z
  ·rw [e] at z; cases z
 ·rcases b.grow x o with z | z
  ·exact a.grow x z
  ·cases q:H1 x with
   | none=>exact .inr rfl
   | some u =>
    refine .inl (Classical.byContradiction fun n=>?_)
    rw [a.keep x u q n] at z; cases z
 ·rw [b.wr i (fun h=>hi (aah _ h)),a.wr i (fun h=>hi (aay _ h))]
theorem Stp.mono {w1 w2:List Nat} {τ':Ft} (a:Stp m m' w1 τ τ' H H') (h:∀ i ∈ w1,i ∈ w2):Stp m m' w2 τ τ' H H':=⟨a.keep,a.grow,fun i hi=>a.wr i fun q=>hi (h i q)⟩
end
noncomputable def mdK (k:Nat):Md:=if k=0 then .sh else .ow k
theorem Ff {k k':Nat} (h:mdK k=.ow k'):k'=k/\k ≠ 0:=by unfold mdK at h; split at h <;> simp_all
theorem Qr {k k':Nat} (h:mdK k=.br k'):False:=by unfold mdK at h; split at h <;> simp_all
section
variable {p:Px} {H0:Hp} {A0:Addr->Prop} {m m':Ms} {τ:Ft} {H H1:Hp}
theorem Ac {α:Type} {l:List α} {x i:Nat} {v w:α} (h:(l.set x v)[i]?=some w):(i=x/\w=v)\/(i ≠ x/\l[i]?=some w):=by
 by_cases z:x=i
 ·subst z
  rw [abj] at h
  cases q:l[x]? with
  | none=>rw [q] at h; cases h
  | some y =>
   rw [q] at h
   exact .inl ⟨rfl,by simpa using h.symm⟩
 ·rw [aau z] at h
  exact .inr ⟨fun e=>z e.symm,h⟩
theorem Qs {x k ke:Nat} {t:T} (S:Sf p H0 A0 m τ H) (R:Rs p (Sh (tnM m) τ) H H1 0 ke t) (hk:k<=ke) (hx:x < m.length) (h90:k < 90):Sf p H0 A0 (m.set x (mdK k)) (τ.set x (some t)) H1/\Stp m (m.set x (mdK k)) [x] τ (τ.set x (some t)) H H1:=by
 have S1:=S.grow R.same
 have dom:∀ {i:Nat} {u:T} {d:Md},τ[i]?=some (some u)->m[i]?=some d->d ≠ .dead->∀ a ∈ u.rest 0,H a ≠ none:=fun e hd nd a q=>(S.at e hd nd).dom q
 have tnew:∀ a ∈ t.adr k,H a=none:=fun a q=>(R.new a (T.adr_le t hk q)).1
 have town:∀ a,Own m τ a->a ∉ t.rest 0:=fun a o q=>by
  rcases R.src a q with z | z
  ·obtain ⟨_,vs,e⟩:=S.ownOk o
   rw [e] at z; cases z
  ·exact S.disj o z
 have owns:∀ a,Own (m.set x (mdK k)) (τ.set x (some t)) a->a ∈ t.adr k\/Own m τ a:=by
  rintro a ⟨i,u,k',e,hk',q⟩
  rcases Ac e with ⟨rfl,e2⟩ | ⟨ne,e⟩
  ·cases e2
   rcases Ac hk' with ⟨_,z⟩ | ⟨z,_⟩
   ·obtain ⟨rfl,_⟩:=Ff z.symm
    exact .inl q
   ·exact absurd rfl z
  ·rcases Ac hk' with ⟨z,_⟩ | ⟨_,z⟩
   ·exact absurd z ne
   ·exact .inr ⟨i,u,k',e,z,q⟩
 refine ⟨⟨by rw [aaF,aaF]; exact S.len,fun d hd=>?_,S1.same,fun i u j e ej l=>?_,fun i u k' a e hk' q=>?_,fun a sh=>?_,fun i u k' e hk'=>?_,fun i j u w k' d ne e hk' e' hd nd a q=>?_,fun i j u w k' k2 e hk' e' hd a ts z=>?_⟩,
  fun a u e _=>R.same a u e,fun a o=>?_,fun i hi=>?_⟩
 ·rcases abf hd with z | z
  ·exact S.small d z
  ·subst z
   unfold mdK
   split
   ·rfl
   ·exact decide_eq_true ⟨by omega,h90⟩
 ·obtain ⟨d,hd,rfl⟩:=Ba ej
  rcases Ac e with ⟨rfl,e2⟩ | ⟨ne,e⟩
  ·cases e2; exact R.ok
  ·rcases Ac hd with ⟨z,_⟩ | ⟨_,z⟩
   ·exact absurd z ne
   ·exact S1.ok i u _ e (AX z) l
 ·rcases Ac e with ⟨rfl,e2⟩ | ⟨ne,e⟩
  ·cases e2
   rcases Ac hk' with ⟨_,z⟩ | ⟨z,_⟩
   ·obtain ⟨rfl,_⟩:=Ff z.symm
    have:=R.new a (T.adr_le _ hk q)
    exact ⟨S.same.free this.1,this.2⟩
   ·exact absurd rfl z
  ·rcases Ac hk' with ⟨z,_⟩ | ⟨_,z⟩
   ·exact absurd z ne
   ·exact S1.own i u k' a e z q
 ·obtain ⟨i,u,j,e,ej,l,q⟩:=sh
  obtain ⟨d,hd,rfl⟩:=Ba ej
  rcases Ac e with ⟨rfl,e2⟩ | ⟨ne,e⟩
  ·cases e2
   rcases R.src a (T.rest_le _ (aas _) q) with z | z
   ·exact .inl (S.same.free z)
   ·exact S.src a z
  ·rcases Ac hd with ⟨z,_⟩ | ⟨_,z⟩
   ·exact absurd z ne
   ·exact S.src a ⟨i,u,_,e,AX z,l,q⟩
 ·rcases Ac e with ⟨rfl,e2⟩ | ⟨ne,e⟩
  ·cases e2
   rcases Ac hk' with ⟨_,z⟩ | ⟨z,_⟩
   ·obtain ⟨rfl,_⟩:=Ff z.symm
    exact T.nd_le _ hk R.nd
   ·exact absurd rfl z
  ·rcases Ac hk' with ⟨z,_⟩ | ⟨_,z⟩
   ·exact absurd z ne
   ·exact S.nd i u k' e z
 ·rcases Ac e with ⟨rfl,e2⟩ | ⟨n1,e1⟩
  ·cases e2
   rcases Ac hk' with ⟨_,z⟩ | ⟨z,_⟩
   ·obtain ⟨rfl,_⟩:=Ff z.symm
    rcases Ac e' with ⟨z',_⟩ | ⟨n2,e3⟩
    ·exact absurd z'.symm ne
    ·rcases Ac hd with ⟨z',_⟩ | ⟨_,hd3⟩
     ·exact absurd z' n2
     ·exact fun q'=>dom e3 hd3 nd a (T.rest_le w (aas _) q') (tnew a q)
   ·exact absurd rfl z
  ·rcases Ac hk' with ⟨z,_⟩ | ⟨_,hk3⟩
   ·exact absurd z n1
   ·rcases Ac e' with ⟨z4,e2⟩ | ⟨n2,e3⟩
    ·cases e2
     exact fun q'=>town a ⟨i,u,k',e1,hk3,q⟩ (T.rest_le _ (aas _) q')
    ·rcases Ac hd with ⟨z,_⟩ | ⟨_,hd3⟩
     ·exact absurd z n2
     ·exact S.sep i j u w k' d ne e1 hk3 e3 hd3 nd a q
 ·rcases Ac hd with ⟨_,z'⟩ | ⟨n2,hd3⟩
  ·exact (Qr z'.symm).elim
  ·rcases Ac e' with ⟨z',_⟩ | ⟨_,e3⟩
   ·exact absurd z' n2
   ·rcases Ac e with ⟨z4,e2⟩ | ⟨n1,e1⟩
    ·cases e2
     rcases Ac hk' with ⟨_,z'⟩ | ⟨z',_⟩
     ·obtain ⟨z5,hk0⟩:=Ff z'.symm
      subst z
      have mem:a ∈ (T.lst a ts).adr k:=by
       cases k with
       | zero=>exact absurd rfl hk0
       | succ n=>exact aac ..
      exact fun q'=>dom e3 hd3 (by intro c; cases c) a q' (tnew a mem)
     ·exact absurd z4 z'
    ·rcases Ac hk' with ⟨z',_⟩ | ⟨_,hk3⟩
     ·exact absurd z' n1
     ·exact S.top i j u w k' k2 e1 hk3 e3 hd3 a ts z
 ·rcases owns a o with z | z
  ·exact .inr (tnew a z)
  ·exact .inl z
 ·rw [aau (fun z=>hi (by simp [z]))]
noncomputable def Ah (m:Ms) (is:List Nat) (d:Md):Ms:=is.foldl (fun m i=>m.set i d) m
theorem DC (d:Md):∀ (is:List Nat) (m:Ms),(Ah m is d).length=m.length
 | [],m=>rfl
 | i :: is,m=>by show (Ah (m.set i d) is d).length=_; rw [DC d is,aaF]
theorem DK {d d':Md}:∀ {is:List Nat} {m:Ms} {i:Nat},(Ah m is d)[i]?=some d'->(i ∈ is/\d'=d)\/(i ∉ is/\m[i]?=some d')
 | [],m,i,h=>.inr ⟨by simp,h⟩
 | j :: is,m,i,h=>by
  rcases DK (is:=is) (m:=m.set j d) h with ⟨z1,z2⟩ | ⟨z1,z2⟩
  ·exact .inl ⟨aab _ z1,z2⟩
  ·rcases Ac z2 with ⟨rfl,e⟩ | ⟨ne,e⟩
   ·exact .inl ⟨aac ..,e⟩
   ·exact .inr ⟨fun q=>by rcases aaj.mp q with q | q; exact ne q; exact z1 q,e⟩
theorem Fg:∀ {is:List Nat} {ts:List T} {τ τ':Ft} {i:Nat},BP is ts τ=some τ'->i ∉ is->τ'[i]?=τ[i]?
 | [],[],τ,τ',i,h,_=>by cases h; rfl
 | [],t :: ts,τ,τ',i,h,_=>by cases h
 | j :: is,[],τ,τ',i,h,_=>by cases h
 | j :: is,t :: ts,τ,τ',i,h,hi=>by
  rw [Fg (is:=is) (ts:=ts) (τ:=τ.set j (some t)) h (fun q=>hi (aab _ q)),aau (fun z=>hi (by simp [z]))]
theorem Jr {g:Tg} {t:T} {τ τ':Ft} {i:Nat} (h:Cr g t τ=some τ') (hi:i ∉ g.sl):τ'[i]?=τ[i]?:=by
 cases g with
 | nm k=>cases h; rw [aau (fun z=>hi (by simp [Tg.sl,z]))]
 | tp is=>cases t <;> first | cases h | exact Fg h hi
theorem OH {is:List Nat} {τ':Ft} (S:Sf p H0 A0 m τ H) (s:Same H H1) (hlen:τ'.length=τ.length) (hin:∀ (i:Nat) (u:T),i ∈ is->τ'[i]?=some (some u)->u.Ok p H1/\∀ a ∈ u.rest 0,(H0 a=none\/A0 a)/\¬ Own m τ a) (hout:∀ i,i ∉ is->τ'[i]?=τ[i]?) :
  Sf p H0 A0 (Ah m is .sh) τ' H1/\Stp m (Ah m is .sh) is τ τ' H H1:=by
 have S1:=S.grow s
 have AH:∀ {i:Nat} {u:T} {d:Md},τ'[i]?=some (some u)->(Ah m is .sh)[i]?=some d->(d=.sh/\u.Ok p H1/\∀ a ∈ u.rest 0,(H0 a=none\/A0 a)/\¬ Own m τ a)\/(τ[i]?=some (some u)/\m[i]?=some d):=by
  intro i u d e hd
  rcases DK hd with ⟨z1,z2⟩ | ⟨z1,z2⟩
  ·exact .inl ⟨z2,hin i u z1 e⟩
  ·exact .inr ⟨(hout i z1) ▸ e,z2⟩
 have town:∀ {u:T},(∀ a ∈ u.rest 0,(H0 a=none\/A0 a)/\¬ Own m τ a)->∀ a,Own m τ a->a ∉ u.rest 0:=fun src a o q=>(src a q).2 o
 refine ⟨⟨by rw [hlen,DC]; exact S.len,fun d hd=>?_,S1.same,fun i u j e ej l=>?_,fun i u k' a e hk' q=>?_,fun a sh=>?_,fun i u k' e hk'=>?_,fun i j u w k' d ne e hk' e' hd nd a q=>?_,fun i j u w k' k2 e hk' e' hd a ts z=>?_⟩,
  fun a u e _=>s a u e,fun a o=>?_,fun i hi=>hout i hi⟩
 ·obtain ⟨i,hi,rfl⟩:=abi hd
  rcases DK (aal hi) with ⟨_,z⟩ | ⟨_,z⟩
  ·rw [z]; rfl
  ·exact S.small _ (aae z)
 ·obtain ⟨d,hd,rfl⟩:=Ba ej
  rcases AH e hd with ⟨_,q,_⟩ | ⟨q1,q2⟩
  ·exact q
  ·exact S1.ok i u _ q1 (AX q2) l
 ·rcases AH e hk' with ⟨z,_⟩ | ⟨q1,q2⟩
  ·cases z
  ·exact S1.own i u k' a q1 q2 q
 ·obtain ⟨i,u,j,e,ej,l,q⟩:=sh
  obtain ⟨d,hd,rfl⟩:=Ba ej
  rcases AH e hd with ⟨_,_,q'⟩ | ⟨q1,q2⟩
  ·exact (q' a (T.rest_le u (aas _) q)).1
  ·exact S.src a ⟨i,u,_,q1,AX q2,l,q⟩
 ·rcases AH e hk' with ⟨z,_⟩ | ⟨q1,q2⟩
  ·cases z
  ·exact S.nd i u k' q1 q2
 ·rcases AH e hk' with ⟨z,_⟩ | ⟨q1,q2⟩
  ·cases z
  ·rcases AH e' hd with ⟨_,_,q'⟩ | ⟨q3,q4⟩
   ·exact fun q5=>town q' a ⟨i,u,k',q1,q2,q⟩ (T.rest_le w (aas _) q5)
   ·exact S.sep i j u w k' d ne q1 q2 q3 q4 nd a q
 ·rcases AH e hk' with ⟨z,_⟩ | ⟨q1,q2⟩
  ·cases z
  ·rcases AH e' hd with ⟨z',_⟩ | ⟨q3,q4⟩
   ·cases z'
   ·exact S.top i j u w k' k2 q1 q2 q3 q4 a ts z
 ·obtain ⟨i,u,k',e,hk',q⟩:=o
  rcases AH e hk' with ⟨z,_⟩ | ⟨q1,q2⟩
  ·cases z
  ·exact .inl ⟨i,u,k',q1,q2,q⟩
theorem Sf.fine (S:Sf p H0 A0 m τ H) {a:Addr} (h:H a=none\/Sh (tnM m) τ a):(H0 a=none\/A0 a)/\¬ Own m τ a:=by
 rcases h with z | z
 ·refine ⟨.inl (S.same.free z),fun o=>?_⟩
  obtain ⟨_,vs,e⟩:=S.ownOk o
  rw [e] at z; cases z
 ·exact ⟨S.src a z,fun o=>S.disj o z⟩
theorem LV {g:Tg} {t:T} {τ':Ft} (S:Sf p H0 A0 m τ H) (s:Same H H1) (ok:t.Ok p H1) (src:∀ a ∈ t.rest 0,(H0 a=none\/A0 a)/\¬ Own m τ a) (h:Cr g t τ=some τ'):Sf p H0 A0 (Ah m g.sl .sh) τ' H1/\Stp m (Ah m g.sl .sh) g.sl τ τ' H H1:=by
 refine OH S s (HH h) (fun i u hi e=>?_) (fun i hi=>Jr h hi)
 rcases GD (P:=fun o=>∀ w,o=some w->w.Ok p H1/\∀ a ∈ w.rest 0,(H0 a=none\/A0 a)/\¬ Own m τ a) h (fun w e=>by cases e; exact ⟨ok,src⟩)
   (fun a ts e u hu w e'=>by
    cases e'
    rcases e with e | e
    ·subst e
     exact ⟨T.oks_iff.mp ok.2 u hu,fun b q=>src b (T.mem_rests.mpr ⟨u,hu,q⟩)⟩
    ·subst e
     exact ⟨T.oks_iff.mp ok.2 u hu,fun b q=>src b (aab _ (T.mem_rests.mpr ⟨u,hu,q⟩))⟩) i (some u) e with q | ⟨q,_⟩
 ·exact q u rfl
 ·exact absurd hi q
theorem Rv {g:Tg} {t:T} {τ':Ft} (S:Sf p H0 A0 m τ H) (s:Same H H1) (ok:t.Ok p H1) (src:∀ a ∈ t.rest 0,H a=none\/Sh (tnM m) τ a) (h:Cr g t τ=some τ'):Sf p H0 A0 (Ah m g.sl .sh) τ' H1/\Stp m (Ah m g.sl .sh) g.sl τ τ' H H1 :=
 LV S s ok (fun a q=>S.fine (src a q)) h
end
noncomputable def AK:List (Bool × Int)->T->Option T
 | [],t=>some t
 | (false,i) :: r,.lst _ ts=>(ixN ts.length i).bind fun j=>(ts[j]?).bind fun t=>AK r t
 | (true,i) :: r,.tup _ ts=>(ixN ts.length i).bind fun j=>(ts[j]?).bind fun t=>AK r t
 | _,_=>none
noncomputable def D1 (s:T):List (Bool × Int)->T->Option T
 | [],_=>some s
 | (false,i) :: r,.lst a ts=>(ixN ts.length i).bind fun j=>(ts[j]?).bind fun t=>(D1 s r t).map fun t'=>.lst a (ts.set j t')
 | (true,i) :: r,.tup a ts=>(ixN ts.length i).bind fun j=>(ts[j]?).bind fun t=>(D1 s r t).map fun t'=>.tup a (ts.set j t')
 | _,_=>none
noncomputable def lnP:List (Bool × Int)->Nat
 | []=>0
 | (false,_) :: r=>lnP r + 1
 | (true,_) :: r=>lnP r
theorem Du {α:Type} {l:List α} {j:Nat} {x:α} (h:l[j]?=some x):∃ l1 l2,l=l1 ++ x :: l2/\∀ y,l.set j y=l1 ++ y :: l2:=by
 obtain ⟨hj,e⟩:=aaq.mp h
 refine ⟨l.take j,l.drop (j + 1),?_,fun y=>?_⟩
 ·rw [<- e,List.getElem_cons_drop,List.take_append_drop]
 ·rw [List.set_eq_take_append_cons_drop,if_pos hj]
theorem CO {l1 l2:List T} {c:T} {k:Nat}:T.Nds (l1 ++ c :: l2) k ↔ T.Nds (l1 ++ l2) k/\c.Nd k/\(∀ a ∈ c.adr k,a ∉ T.rests (l1 ++ l2) 0)/\(∀ a ∈ T.adrs (l1 ++ l2) k,a ∉ c.rest 0):=by
 induction l1 with
 | nil =>
  rw [aa4,aa4,T.nds_cons]
  exact ⟨fun ⟨a,b,c,d⟩=>⟨b,a,c,d⟩,fun ⟨b,a,c,d⟩=>⟨a,b,c,d⟩⟩
 | cons x l1 ih =>
  rw [aa2,aa2,T.nds_cons,T.nds_cons,ih]
  simp only [T.rests_append,T.adrs_append,T.rests,T.adrs,aaf,not_or]
  constructor
  ·rintro ⟨h1,⟨h2,h3,h4,h5⟩,h6,h7⟩
   refine ⟨⟨h1,h2,fun a q=>⟨(h6 a q).1,(h6 a q).2.2⟩,fun a q=>h7 a ?_⟩,h3,fun a q=>⟨fun z=>h7 a (.inr (.inl q)) z,h4 a q⟩,fun a q=>?_⟩
   ·rcases q with q | q
    ·exact .inl q
    ·exact .inr (.inr q)
   ·rcases q with q | q
    ·exact (h6 a q).2.1
    ·exact h5 a q
  ·rintro ⟨⟨h1,h2,h6,h7⟩,h3,h4,h5⟩
   refine ⟨h1,⟨h2,h3,fun a q=>(h4 a q).2,fun a q=>h5 a (.inr q)⟩,fun a q=>⟨(h6 a q).1,h5 a (.inl q),(h6 a q).2⟩,fun a q=>?_⟩
   rcases q with q | q | q
   ·exact h7 a (.inl q)
   ·exact (h4 a q).1
   ·exact h7 a (.inr q)
section
variable {p:Px}
theorem Dv:∀ (q:List (Bool × Int)) {t s:T} {k:Nat},AK q t=some s->lnP q<=k->(∀ b ∈ s.rest 0,b ∈ t.rest 0)/\(∀ b ∈ s.adr (k - lnP q),b ∈ t.adr k)
 | [],t,s,k,h,_=>by cases h; exact ⟨fun b q=>q,fun b q=>q⟩
 | (false,i) :: r,.lst a ts,s,k,h,hl=>by
  simp only [AK] at h
  obtain ⟨j,_,h⟩:=bS h
  obtain ⟨c,hc,h⟩:=bS h
  cases k with
  | zero=>simp [lnP] at hl
  | succ k =>
   obtain ⟨h1,h2⟩:=Dv r (k:=k) h (by simp [lnP] at hl; exact hl)
   refine ⟨fun b q=>aab _ (T.mem_rests.mpr ⟨c,aae hc,h1 b q⟩),fun b q=>aab _ (T.mem_adrs.mpr ⟨c,aae hc,h2 b ?_⟩)⟩
   have:k + 1 - lnP ((false,i) :: r)=k - lnP r:=by simp only [lnP]; omega
   rw [this] at q; exact q
 | (true,i) :: r,.tup a ts,s,k,h,hl=>by
  simp only [AK] at h
  obtain ⟨j,_,h⟩:=bS h
  obtain ⟨c,hc,h⟩:=bS h
  obtain ⟨h1,h2⟩:=Dv r (k:=k) h hl
  exact ⟨fun b q=>T.mem_rests.mpr ⟨c,aae hc,h1 b q⟩,fun b q=>T.mem_adrs.mpr ⟨c,aae hc,h2 b q⟩⟩
 | (false,i) :: r,.tup a ts,s,k,h,_=>by cases h
 | (true,i) :: r,.lst a ts,s,k,h,_=>by cases h
 | (b,i) :: r,.non,s,k,h,_=>by cases b <;> cases h
 | (b,i) :: r,.bl _,s,k,h,_=>by cases b <;> cases h
 | (b,i) :: r,.int _,s,k,h,_=>by cases b <;> cases h
 | (b,i) :: r,.str _,s,k,h,_=>by cases b <;> cases h
 | (b,i) :: r,.exn _ _,s,k,h,_=>by cases b <;> cases h
theorem LW {l1 l2:List T} {c c':T} {k:Nat} {F N:Addr->Prop} (hFN:∀ b,F b->N b) (nds:T.Nds (l1 ++ c :: l2) k) (nd':c'.Nd k) (hA:∀ b ∈ c'.adr k,b ∈ c.adr k\/F b) (hB:∀ b ∈ c'.rest k,b ∈ c.rest k\/N b) (hF:∀ b,F b->b ∉ T.rests (l1 ++ c :: l2) 0) (hN:∀ b,N b->b ∉ T.adrs (l1 ++ c :: l2) k) :
  T.Nds (l1 ++ c' :: l2) k/\(∀ b ∈ T.adrs (l1 ++ c' :: l2) k,b ∈ T.adrs (l1 ++ c :: l2) k\/F b)/\(∀ b ∈ T.rests (l1 ++ c' :: l2) k,b ∈ T.rests (l1 ++ c :: l2) k\/N b):=by
 obtain ⟨m1,m2,m3,m4⟩:=CO.mp nds
 have inm:∀ b,b ∈ T.rests (l1 ++ l2) 0->b ∈ T.rests (l1 ++ c :: l2) 0:=fun b q=>by
  simp only [T.rests_append,T.rests,aaf] at q ⊢
  rcases q with q | q
  ·exact .inl q
  ·exact .inr (.inr q)
 have ina:∀ b,b ∈ T.adrs (l1 ++ l2) k->b ∈ T.adrs (l1 ++ c :: l2) k:=fun b q=>by
  simp only [T.adrs_append,T.adrs,aaf] at q ⊢
  rcases q with q | q
  ·exact .inl q
  ·exact .inr (.inr q)
 have cm:∀ b,b ∈ c.adr k->b ∈ T.adrs (l1 ++ c :: l2) k:=fun b q=>by
  simp only [T.adrs_append,T.adrs,aaf]
  exact .inr (.inl q)
 refine ⟨CO.mpr ⟨m1,nd',fun b q q'=>?_,fun b q q'=>?_⟩,fun b q=>?_,fun b q=>?_⟩
 ·rcases hA b q with z | z
  ·exact m3 b z q'
  ·exact hF b z (inm b q')
 ·rcases (T.all_iff c' k).mp q' with z | z
  ·rcases hA b z with y | y
   ·exact m4 b q ((T.all_iff c k).mpr (.inl y))
   ·exact hN b (hFN b y) (ina b q)
  ·rcases hB b z with y | y
   ·exact m4 b q ((T.all_iff c k).mpr (.inr y))
   ·exact hN b y (ina b q)
 ·simp only [T.adrs_append,T.adrs,aaf] at q ⊢
  rcases q with q | q | q
  ·exact .inl (.inl q)
  ·exact (hA b q).imp (fun z=>.inr (.inl z)) id
  ·exact .inl (.inr (.inr q))
 ·simp only [T.rests_append,T.rests,aaf] at q ⊢
  rcases q with q | q | q
  ·exact .inl (.inl q)
  ·exact (hB b q).imp (fun z=>.inr (.inl z)) id
  ·exact .inl (.inr (.inr q))
theorem Di {H H':Hp} {a:Addr} {t:T} (hkeep:∀ b w,H b=some w->b ≠ a->H' b=some w) (hpl:∃ vs,H a=some (.lst vs)) (ok:t.Ok p H) (hn:a ∉ t.rest 0):t.Ok p H':=by
 refine ok.keep fun b w e q=>hkeep b w e fun z=>?_
 subst z
 rcases q with q | q
 ·exact hn q
 ·obtain ⟨vs,z⟩:=hpl
  rw [z] at e
  exact q vs (Option.some.inj e).symm
theorem Ix {H H':Hp} {a:Addr} {ts us:List T} {F N:Addr->Prop} (hkeep:∀ b w,H b=some w->b ≠ a->H' b=some w) (hpl:∃ vs,H a=some (.lst vs)) (hs:(T.lst a us).Ok p H') (hFN:∀ b,F b->N b) :
  ∀ (q:List (Bool × Int)) {t:T} {k:Nat},AK q t=some (.lst a ts)->lnP q < k->t.Nd k->t.Ok p H->(∀ b,F b->b ∉ t.rest 0)->(∀ b,N b->b ∉ t.adr k)->(∀ b ∈ T.adrs us (k - 1 - lnP q),b ∈ T.adrs ts (k - 1 - lnP q)\/F b) ->
   (∀ b ∈ T.rests us (k - 1 - lnP q),b ∈ T.rests ts (k - 1 - lnP q)\/N b)->T.Nds us (k - 1 - lnP q) ->
   ∃ t',D1 (.lst a us) q t=some t'/\t'.val=t.val/\t'.Ok p H'/\t'.Nd k/\(∀ b ∈ t'.adr k,b ∈ t.adr k\/F b)/\(∀ b ∈ t'.rest k,b ∈ t.rest k\/N b)
 | [],t,k,h,hl,nd,ok,hF,hN,hA,hB,hnd=>by
  cases h
  cases k with
  | zero=>cases hl
  | succ k =>
   have e:k + 1 - 1 - lnP []=k:=by simp [lnP]
   rw [e] at hA hB hnd
   obtain ⟨n1,n2⟩:=nd
   simp only [T.adr,aaC] at n1
   refine ⟨_,rfl,rfl,hs,⟨?_,fun b m m'=>?_⟩,fun b m=>?_,fun b m=>hB b m⟩
   ·simp only [T.adr,aaC]
    refine ⟨fun m=>?_,hnd.1⟩
    rcases hA a m with z | z
    ·exact n1.1 z
    ·exact hF a z (aac ..)
   ·simp only [T.adr,T.rest,aaj] at m m'
    rcases m' with rfl | m'
    ·rcases hB b m with z | z
     ·exact n2 b z (aac ..)
     ·exact hN b z (aac ..)
    ·exact hnd.2 b m m'
   ·simp only [T.adr,aaj] at m ⊢
    rcases m with m | m
    ·exact .inl (.inl m)
    ·exact (hA b m).imp .inr id
 | (false,i) :: r,.lst b0 cs,k,h,hl,nd,ok,hF,hN,hA,hB,hnd=>by
  simp only [AK] at h
  obtain ⟨j,hj,h⟩:=bS h
  obtain ⟨c,hc,h⟩:=bS h
  cases k with
  | zero=>cases hl
  | succ k =>
   have hl':lnP r < k:=by simp only [lnP] at hl; omega
   have e:k + 1 - 1 - lnP ((false,i) :: r)=k - 1 - lnP r:=by simp only [lnP]; omega
   rw [e] at hA hB hnd
   obtain ⟨n1,n2⟩:=nd
   simp only [T.adr,T.rest,aaC] at n1 n2
   have nds:T.Nds cs k:=⟨n1.2,fun x hx hy=>n2 x hx (aab _ hy)⟩
   have hcm:=aae hc
   obtain ⟨l1,l2,e1,e2⟩:=Du hc
   rw [e1] at nds
   obtain ⟨m1,m2,m3,m4⟩:=CO.mp nds
   obtain ⟨ain,aad⟩:=Dv r (k:=k) h (by omega)
   have aadr:a ∈ c.adr k:=aad a (by
    have:k - lnP r=(k - lnP r - 1) + 1:=by omega
    rw [this]; exact aac ..)
   obtain ⟨c',p1,p2,p3,p4,p5,p6⟩:=Ix hkeep hpl hs hFN r h hl' m2 (T.oks_iff.mp ok.2 c hcm) (fun b f q=>hF b f (aab _ (T.mem_rests.mpr ⟨c,hcm,q⟩))) (fun b n q=>hN b n (aab _ (T.mem_adrs.mpr ⟨c,hcm,q⟩))) hA hB hnd
   obtain ⟨q1,q2,q3⟩:=LW hFN nds p4 p5 p6 (fun b f q=>hF b f (aab _ (by rw [e1]; exact q))) (fun b n q=>hN b n (aab _ (by rw [e1]; exact q)))
   have ab:b0 ≠ a:=fun z=>n1.1 (by rw [z,T.mem_adrs]; exact ⟨c,hcm,aadr⟩)
   have hv:(l1 ++ c' :: l2).map T.val=cs.map T.val:=by rw [e1]; simp [p2]
   refine ⟨.lst b0 (l1 ++ c' :: l2),by simp only [D1,hj,aaO,hc,p1,aaP,e2],rfl,⟨?_,T.oks_iff.mpr fun w hw=>?_⟩,⟨?_,fun b m m'=>?_⟩,fun b m=>?_,fun b m=>?_⟩
   ·rw [hv]
    rcases ok.1 with z | ⟨o,z⟩
    ·exact .inl (hkeep _ _ z ab)
    ·exact .inr ⟨o,hkeep _ _ z ab⟩
   ·rcases aaf.mp hw with hw | hw
    ·refine Di hkeep hpl (T.oks_iff.mp ok.2 w (by rw [e1]; exact aay _ hw)) fun q=>m3 a aadr ?_
     rw [T.rests_append]; exact aay _ (T.mem_rests.mpr ⟨w,hw,q⟩)
    ·rcases aaj.mp hw with rfl | hw
     ·exact p3
     ·refine Di hkeep hpl (T.oks_iff.mp ok.2 w (by rw [e1]; exact aah _ (aab _ hw))) fun q=>m3 a aadr ?_
      rw [T.rests_append]; exact aah _ (T.mem_rests.mpr ⟨w,hw,q⟩)
   ·simp only [T.adr,aaC]
    refine ⟨fun m=>?_,q1.1⟩
    rcases q2 b0 m with z | z
    ·exact n1.1 (by rw [e1]; exact z)
    ·exact hF b0 z (aac ..)
   ·simp only [T.adr,T.rest,aaj] at m m'
    rcases m' with rfl | m'
    ·rcases q3 b m with z | z
     ·exact n2 b (by rw [e1]; exact z) (aac ..)
     ·exact hN b z (aac ..)
    ·exact q1.2 b m m'
   ·simp only [T.adr,aaj] at m ⊢
    rcases m with m | m
    ·exact .inl (.inl m)
    ·rw [e1]; exact (q2 b m).imp .inr id
   ·simp only [T.rest] at m ⊢
    rw [e1]; exact q3 b m
 | (true,i) :: r,.tup b0 cs,k,h,hl,nd,ok,hF,hN,hA,hB,hnd=>by
  simp only [AK] at h
  obtain ⟨j,hj,h⟩:=bS h
  obtain ⟨c,hc,h⟩:=bS h
  have hl':lnP r < k:=hl
  have nds:T.Nds cs k:=nd
  have hcm:=aae hc
  obtain ⟨l1,l2,e1,e2⟩:=Du hc
  rw [e1] at nds
  obtain ⟨m1,m2,m3,m4⟩:=CO.mp nds
  obtain ⟨ain,aad⟩:=Dv r (k:=k) h (by omega)
  have aadr:a ∈ c.adr k:=aad a (by
   have:k - lnP r=(k - lnP r - 1) + 1:=by omega
   rw [this]; exact aac ..)
  obtain ⟨c',p1,p2,p3,p4,p5,p6⟩:=Ix hkeep hpl hs hFN r h hl' m2 (T.oks_iff.mp ok.2 c hcm) (fun b f q=>hF b f (T.mem_rests.mpr ⟨c,hcm,q⟩)) (fun b n q=>hN b n (T.mem_adrs.mpr ⟨c,hcm,q⟩)) hA hB hnd
  obtain ⟨q1,q2,q3⟩:=LW hFN nds p4 p5 p6 (fun b f q=>hF b f (by rw [T.rest,e1]; exact q)) (fun b n q=>hN b n (by rw [T.adr,e1]; exact q))
  have ab:b0 ≠ a:=fun z=>by
   obtain ⟨vs,y⟩:=hpl
   have:=ok.1
   rw [z,y] at this; cases this
  have hv:(l1 ++ c' :: l2).map T.val=cs.map T.val:=by rw [e1]; simp [p2]
  refine ⟨.tup b0 (l1 ++ c' :: l2),by simp only [D1,hj,aaO,hc,p1,aaP,e2],rfl,⟨?_,T.oks_iff.mpr fun w hw=>?_⟩,q1,fun b m=>?_,fun b m=>?_⟩
  ·rw [hv]; exact hkeep _ _ ok.1 ab
  ·rcases aaf.mp hw with hw | hw
   ·refine Di hkeep hpl (T.oks_iff.mp ok.2 w (by rw [e1]; exact aay _ hw)) fun q=>m3 a aadr ?_
    rw [T.rests_append]; exact aay _ (T.mem_rests.mpr ⟨w,hw,q⟩)
   ·rcases aaj.mp hw with rfl | hw
    ·exact p3
    ·refine Di hkeep hpl (T.oks_iff.mp ok.2 w (by rw [e1]; exact aah _ (aab _ hw))) fun q=>m3 a aadr ?_
     rw [T.rests_append]; exact aah _ (T.mem_rests.mpr ⟨w,hw,q⟩)
  ·simp only [T.adr] at m ⊢
   rw [e1]; exact q2 b m
  ·simp only [T.rest] at m ⊢
   rw [e1]; exact q3 b m
 | (false,i) :: r,.tup a ts,k,h,_,_,_,_,_,_,_,_=>by cases h
 | (true,i) :: r,.lst a ts,k,h,_,_,_,_,_,_,_,_=>by cases h
 | (b,i) :: r,.non,k,h,_,_,_,_,_,_,_,_=>by cases b <;> cases h
 | (b,i) :: r,.bl _,k,h,_,_,_,_,_,_,_,_=>by cases b <;> cases h
 | (b,i) :: r,.int _,k,h,_,_,_,_,_,_,_,_=>by cases b <;> cases h
 | (b,i) :: r,.str _,k,h,_,_,_,_,_,_,_,_=>by cases b <;> cases h
 | (b,i) :: r,.exn _ _,k,h,_,_,_,_,_,_,_,_=>by cases b <;> cases h
end
theorem GF:∀ (q:List (Bool × Int)) {t s:T} {k:Nat},AK q t=some s->lnP q<=k->t.Nd k->s.Nd (k - lnP q)
 | [],t,s,k,h,_,n=>by cases h; exact n
 | (false,i) :: r,.lst a ts,s,k,h,hl,n=>by
  simp only [AK] at h
  obtain ⟨j,_,h⟩:=bS h
  obtain ⟨c,hc,h⟩:=bS h
  cases k with
  | zero=>simp [lnP] at hl
  | succ k =>
   obtain ⟨n1,n2⟩:=n
   simp only [T.adr,T.rest,aaC] at n1 n2
   have nds:T.Nds ts k:=⟨n1.2,fun x hx hy=>n2 x hx (aab _ hy)⟩
   obtain ⟨l1,l2,e1,_⟩:=Du hc
   rw [e1] at nds
   have:=GF r (k:=k) h (by simp [lnP] at hl; exact hl) (CO.mp nds).2.1
   have e:k + 1 - lnP ((false,i) :: r)=k - lnP r:=by simp only [lnP]; omega
   rw [e]; exact this
 | (true,i) :: r,.tup a ts,s,k,h,hl,n=>by
  simp only [AK] at h
  obtain ⟨j,_,h⟩:=bS h
  obtain ⟨c,hc,h⟩:=bS h
  have nds:T.Nds ts k:=n
  obtain ⟨l1,l2,e1,_⟩:=Du hc
  rw [e1] at nds
  exact GF r (k:=k) h hl (CO.mp nds).2.1
 | (false,i) :: r,.tup a ts,s,k,h,_,_=>by cases h
 | (true,i) :: r,.lst a ts,s,k,h,_,_=>by cases h
 | (b,i) :: r,.non,s,k,h,_,_=>by cases b <;> cases h
 | (b,i) :: r,.bl _,s,k,h,_,_=>by cases b <;> cases h
 | (b,i) :: r,.int _,s,k,h,_,_=>by cases b <;> cases h
 | (b,i) :: r,.str _,s,k,h,_,_=>by cases b <;> cases h
 | (b,i) :: r,.exn _ _,s,k,h,_,_=>by cases b <;> cases h
theorem F2 (ts:List T) (j:Nat) (t:T):T.dats (ts.set j t)=(T.dats ts).set j t.dat:=by rw [T.dats_map,T.dats_map,aa0]
theorem ED {f:List D->Option (List D)}:∀ (q:List (Bool × Int)) {t:T} {d':D},BV f q t.dat=some d'->∃ a ts ds',AK q t=some (.lst a ts)/\f (T.dats ts)=some ds'/\∀ us t',T.dats us=ds'->D1 (.lst a us) q t=some t'->t'.dat=d'
 | [],t,d',h=>by
  cases t with
  | lst a ts =>
   simp only [T.dat,BV] at h
   obtain ⟨ds',h1,rfl⟩:=aap.mp h
   exact ⟨a,ts,ds',rfl,h1,fun us t' e1 e2=>by cases e2; simp [T.dat,e1]⟩
  | _=>cases h
 | (b,i) :: r,t,d',h=>by
  cases b with
  | false =>
   cases t with
   | lst a ts =>
    simp only [T.dat,BV,Ad] at h
    obtain ⟨j,hj,h⟩:=bS h
    obtain ⟨d,hd,h⟩:=bS h
    obtain ⟨d2,h1,rfl⟩:=aap.mp h
    obtain ⟨c,hc,rfl⟩:=EO hd
    obtain ⟨a',ts',ds',s1,s2,s3⟩:=ED r h1
    refine ⟨a',ts',ds',by simp only [AK,hj,aaO,hc,s1],s2,fun us t' e1 e2=>?_⟩
    simp only [D1,hj,aaO,hc] at e2
    obtain ⟨c',e3,rfl⟩:=aap.mp e2
    simp only [T.dat,F2,s3 us c' e1 e3]
   | _=>cases h
  | true =>
   cases t with
   | tup a ts =>
    simp only [T.dat,BV,Ad] at h
    obtain ⟨j,hj,h⟩:=bS h
    obtain ⟨d,hd,h⟩:=bS h
    obtain ⟨d2,h1,rfl⟩:=aap.mp h
    obtain ⟨c,hc,rfl⟩:=EO hd
    obtain ⟨a',ts',ds',s1,s2,s3⟩:=ED r h1
    refine ⟨a',ts',ds',by simp only [AK,hj,aaO,hc,s1],s2,fun us t' e1 e2=>?_⟩
    simp only [D1,hj,aaO,hc] at e2
    obtain ⟨c',e3,rfl⟩:=aap.mp e2
    simp only [T.dat,F2,s3 us c' e1 e3]
   | _=>cases h
section
variable {p:Px} {H0:Hp} {A0:Addr->Prop} {m m1:Ms} {τ:Ft} {H H1:Hp}
theorem LX {x k:Nat} {t:T} {q:List (Bool × Int)} {a:Addr} {ts us:List T} {F N:Addr->Prop} (S:Sf p H0 A0 m τ H) (s:Same H H1) (hx:τ[x]?=some (some t)) (hm:m[x]?=some (.ow k)) (hq:AK q t=some (.lst a ts)) (hl:lnP q < k) (hus:T.Oks p H1 us) (hFN:∀ b,F b->N b)
  (hA:∀ b ∈ T.adrs us (k - 1 - lnP q),b ∈ T.adrs ts (k - 1 - lnP q)\/F b) (hB:∀ b ∈ T.rests us (k - 1 - lnP q),b ∈ T.rests ts (k - 1 - lnP q)\/N b) (hnd:T.Nds us (k - 1 - lnP q))
  (f0:∀ b,F b->b ∉ t.rest 0) (f1:∀ b,F b->H0 b=none/\∃ vs,H1 b=some (.lst vs)) (f4:∀ b,F b->Own m τ b\/H b=none) (n0:∀ b,N b->b ∉ t.adr k) (n1:∀ b,N b->H0 b=none\/A0 b)
  (hlen:m1.length=m.length) (hmx:m1[x]?=some (.ow k)) (hmo:∀ (j:Nat) (d:Md),j ≠ x->m1[j]?=some d->d ≠ .dead->m[j]?=some d/\(q ≠ []->∀ k2,d ≠ .br k2))
  (f2:∀ (j:Nat) (u:T) (d:Md),j ≠ x->τ[j]?=some (some u)->m1[j]?=some d->d ≠ .dead->∀ b,F b->b ∉ u.rest d.low) (n2:∀ (i:Nat) (u:T) (k':Nat),i ≠ x->τ[i]?=some (some u)->m1[i]?=some (.ow k')->∀ b,N b->b ∉ u.adr k') :
  ∃ t',D1 (.lst a us) q t=some t'/\t'.val=t.val/\Sf p H0 A0 m1 (τ.set x (some t')) (L2.upd H1 a (.lst (us.map T.val)))/\Stp m m1 [x] τ (τ.set x (some t')) H (L2.upd H1 a (.lst (us.map T.val))):=by
 have S1:=S.grow s
 obtain ⟨ain,aad⟩:=Dv q (k:=k) hq (by omega)
 have ek:k - lnP q=(k - 1 - lnP q) + 1:=by omega
 have aadr:a ∈ t.adr k:=aad a (by rw [ek]; exact aac ..)
 have arest:a ∈ t.rest 0:=(T.all_iff t k).mpr (.inl aadr)
 have nds:=GF q hq (by omega:lnP q<=k) (S.nd x t k hx hm)
 rw [ek] at nds
 obtain ⟨nd1,nd2⟩:=nds
 simp only [T.adr,T.rest,aaC] at nd1 nd2
 have hpl:∃ vs,H1 a=some (.lst vs):=(S1.own x t k a hx hm aadr).2
 have hkeep:∀ b w,H1 b=some w->b ≠ a->L2.upd H1 a (.lst (us.map T.val)) b=some w:=fun b w e n=>by rw [Aj n]; exact e
 have aus:a ∉ T.rests us 0:=fun z=>by
  rcases (T.alls_iff us (k - 1 - lnP q)).mp z with z | z
  ·rcases hA a z with y | y
   ·exact nd1.1 y
   ·exact f0 a y arest
  ·rcases hB a z with y | y
   ·exact nd2 a y (aac ..)
   ·exact n0 a y aadr
 have hs:(T.lst a us).Ok p (L2.upd H1 a (.lst (us.map T.val))):=⟨.inl AJ,T.oks_iff.mpr fun u hu=>Di hkeep hpl (T.oks_iff.mp hus u hu) fun z=>aus (T.mem_rests.mpr ⟨u,hu,z⟩)⟩
 obtain ⟨t',p1,p2,p3,p4,p5,p6⟩:=Ix hkeep hpl hs hFN q hq hl (S.nd x t k hx hm) (S1.at hx hm (by intro c; cases c)) f0 n0 hA hB hnd
 have all':∀ b ∈ t'.rest 0,b ∈ t.rest 0\/N b:=fun b z=>by
  rcases (T.all_iff t' k).mp z with z | z
  ·exact (p5 b z).imp (fun y=>(T.all_iff t k).mpr (.inl y)) (hFN b)
  ·exact (p6 b z).imp (fun y=>(T.all_iff t k).mpr (.inr y)) id
 have sm0:0 < k/\k < 90:=of_decide_eq_true (S.small _ (aae hm))
 have sm:=sm0.2
 have other:∀ {j:Nat} {u:T} {d:Md},j ≠ x->τ[j]?=some (some u)->m1[j]?=some d->d ≠ .dead->u.Ok p (L2.upd H1 a (.lst (us.map T.val))):=by
  intro j u d ne e hd nd
  obtain ⟨h1,h2⟩:=hmo j d ne hd nd
  refine Di hkeep hpl (S1.at e h1 nd) ?_
  cases d with
  | sh=>exact S.sep x j t u k _ (Ne.symm ne) hx hm e h1 nd a aadr
  | ow k2=>exact S.sep x j t u k _ (Ne.symm ne) hx hm e h1 nd a aadr
  | br k2 =>
   cases q with
   | nil =>
    cases hq
    exact S.top x j _ u k k2 hx hm e h1 a ts rfl
   | cons _ _=>exact absurd rfl (h2 (by simp) k2)
  | dead=>exact absurd rfl nd
 refine ⟨t',p1,p2,⟨by rw [aaF,hlen]; exact S.len,fun d hd=>?_,fun b u e=>?_,fun i u j e ej l=>?_,fun i u k' b e hk' z=>?_,fun b sh=>?_,fun i u k' e hk'=>?_,fun i j u w k' d ne e hk' e' hd nd b z=>?_,fun i j u w k' k2 e hk' e' hd b cs z=>?_⟩,
  fun b u e n=>?_,fun b o=>?_,fun i hi=>?_⟩
 ·obtain ⟨i,hi,rfl⟩:=abi hd
  by_cases z:i=x
  ·subst z
   rw [aal hi] at hmx
   rw [Option.some.inj hmx]
   exact decide_eq_true sm0
  ·by_cases y:m1[i]=.dead
   ·rw [y]; rfl
   ·exact S.small _ (aae (hmo i _ z (aal hi) y).1)
 ·rw [Aj (fun z=>by
   have:=(S.own x t k a hx hm aadr).1
   rw [z] at e
   rw [this] at e; cases e)]
  exact S1.same b u e
 ·obtain ⟨d,hd,rfl⟩:=Ba ej
  rcases Ac e with ⟨rfl,e2⟩ | ⟨ne,e1⟩
  ·cases e2; exact p3
  ·exact other ne e1 hd (fun z=>by subst z; exact absurd l (by decide))
 ·rcases Ac e with ⟨rfl,e2⟩ | ⟨ne,e1⟩
  ·cases e2
   rw [hmx] at hk'
   cases hk'
   rcases p5 b z with y | y
   ·obtain ⟨y1,vs,y2⟩:=S1.own i t k b hx hm y
    by_cases w:b=a
    ·subst w; exact ⟨y1,_,AJ⟩
    ·exact ⟨y1,vs,hkeep _ _ y2 w⟩
   ·obtain ⟨y1,vs,y2⟩:=f1 b y
    exact ⟨y1,vs,hkeep _ _ y2 fun w=>f0 b y (w ▸ arest)⟩
  ·obtain ⟨h1,_⟩:=hmo i _ ne hk' (by intro c; cases c)
   obtain ⟨y1,vs,y2⟩:=S1.own i u k' b e1 h1 z
   exact ⟨y1,vs,hkeep _ _ y2 fun w=>S.sep x i t u k _ (Ne.symm ne) hx hm e1 h1 (by intro c; cases c) a aadr (w ▸ (T.all_iff u k').mpr (.inl z))⟩
 ·obtain ⟨i,u,j,e,ej,l,z⟩:=sh
  obtain ⟨d,hd,rfl⟩:=Ba ej
  rcases Ac e with ⟨rfl,e2⟩ | ⟨ne,e1⟩
  ·cases e2
   rw [hmx] at hd
   cases hd
   rcases p6 b z with y | y
   ·exact S.src b ⟨i,t,k,hx,AX hm,sm,y⟩
   ·exact n1 b y
  ·obtain ⟨h1,_⟩:=hmo i _ ne hd (fun z=>by subst z; exact absurd l (by decide))
   exact S.src b ⟨i,u,_,e1,AX h1,l,z⟩
 ·rcases Ac e with ⟨rfl,e2⟩ | ⟨ne,e1⟩
  ·cases e2
   rw [hmx] at hk'
   cases hk'
   exact p4
  ·exact S.nd i u k' e1 (hmo i _ ne hk' (by intro c; cases c)).1
 ·rcases Ac e with ⟨rfl,e2⟩ | ⟨ne1,e1⟩
  ·cases e2
   rw [hmx] at hk'
   cases hk'
   rcases Ac e' with ⟨z',_⟩ | ⟨ne2,e3⟩
   ·exact absurd z'.symm ne
   ·rcases p5 b z with y | y
    ·exact S.sep i j t w k d ne hx hm e3 (hmo j d ne2 hd nd).1 nd b y
    ·exact f2 j w d ne2 e3 hd nd b y
  ·obtain ⟨h1,_⟩:=hmo i _ ne1 hk' (by intro c; cases c)
   rcases Ac e' with ⟨z',e2⟩ | ⟨ne2,e3⟩
   ·cases e2
    subst z'
    rw [hmx] at hd
    cases hd
    intro y
    rcases all' b y with y | y
    ·exact S.sep i j u t k' _ ne e1 h1 hx hm (by intro c; cases c) b z y
    ·exact n2 i u k' ne1 e1 hk' b y z
   ·exact S.sep i j u w k' d ne e1 h1 e3 (hmo j d ne2 hd nd).1 nd b z
 ·have ne2:j ≠ x:=fun y=>by subst y; rw [hmx] at hd; cases hd
  rcases Ac e' with ⟨y,_⟩ | ⟨_,e3⟩
  ·exact absurd y ne2
  obtain ⟨h3,h4⟩:=hmo j _ ne2 hd (by intro c; cases c)
  rcases Ac e with ⟨rfl,e2⟩ | ⟨ne1,e1⟩
  ·cases e2
   rw [hmx] at hk'
   cases hk'
   cases q with
   | nil =>
    cases hq
    cases p1
    cases z
    exact S.top i j _ w k k2 hx hm e3 h3 _ ts rfl
   | cons _ _=>exact absurd rfl (h4 (by simp) k2)
  ·exact S.top i j u w k' k2 e1 (hmo i _ ne1 hk' (by intro c; cases c)).1 e3 h3 b cs z
 ·rw [Aj (show b ≠ a from fun z=>n ⟨x,t,k,hx,hm,by rw [z]; exact aadr⟩)]
  exact s b u e
 ·obtain ⟨i,u,k',e,hk',z⟩:=o
  rcases Ac e with ⟨rfl,e2⟩ | ⟨ne,e1⟩
  ·cases e2
   rw [hmx] at hk'
   cases hk'
   rcases p5 b z with y | y
   ·exact .inl ⟨i,t,k,hx,hm,y⟩
   ·exact f4 b y
  ·exact .inl ⟨i,u,k',e1,(hmo i _ ne hk' (by intro c; cases c)).1,z⟩
 ·rw [aau (fun z=>hi (by simp [z]))]
end
structure Zx where
 p:Px
 H0:Hp
 A0:Addr->Prop
 EX:EXT
 mx:Ms
 dep:Nat
noncomputable def Um.kind:Um->Nat
 | .append=>1
 | .insert=>3
 | .extend=>2
 | _=>0
mutual
noncomputable def wrS:S->List Nat
 | .asg x _ _=>[x]
 | .dem _ _=>[]
 | .dead _=>[]
 | .asgT xs _=>xs
 | .set x _ _ _=>[x]
 | .mut x _ _ _=>[x]
 | .expr _=>[]
 | .iff _ a b=>wrSs a ++ wrSs b
 | .wh _ b=>wrSs b
 | .for_ g _ b=>g.sl ++ wrSs b
 | .ret _=>[]
 | .raise _ _=>[]
 | .swp x _ _=>[x]
noncomputable def wrSs:Ss->List Nat
 | .nil=>[]
 | .cons s r=>wrS s ++ wrSs r
end
noncomputable def Rw (a b:Ms):Ms:=List.zipWith Md.meet a b
noncomputable def KI:Option Ms->Option Ms->Option Ms
 | none,b=>b
 | a,none=>a
 | some a,some b=>some (Rw a b)
noncomputable def okJ:Option Ms->Option Ms->Bool
 | some a,some r=>leM a r
 | none,_=>true
 | some _,none=>false
noncomputable def It.nmOf:It->Option Nat
 | .seqL (.nm x)=>some x
 | _=>none
noncomputable def rk (m:Ms) (e:E):Option Nat:=match e with
 | .nm i=>match m[i]? with
  | some (.ow k)=>some k
  | some .sh=>some 0
  | _=>none
 | e=>(jk (tnM m) e).bind fun x=>if x.1=0 then some x.2 else none
noncomputable def B5 (m:Ms):Ms:=m.map fun d=>match d with
 | .br _=>.dead
 | d=>d
noncomputable def D2 (m:Ms):List (Bool × E)->Bool
 | []=>true
 | (_,e) :: r=>(jk (tnM m) e).isSome && D2 m r
noncomputable def lnE:List (Bool × E)->Nat
 | []=>0
 | (false,_) :: r=>lnE r + 1
 | (true,_) :: r=>lnE r
noncomputable def Es.mvOf (m:Ms):Es->Option (Nat × Nat)
 | .cons (.nm y) .nil=>match m[y]? with
  | some (.ow k)=>some (y,k)
  | _=>none
 | _=>none
mutual
noncomputable def msS (mx:Ms) (dep:Nat):S->Ms->Option (Option Ms)
 | .asg x k e,m=>(jk (tnM m) e).bind fun c=>if c.1=0/\k<=c.2/\x < m.length/\k < 90/\leM m mx=true then some (some (m.set x (mdK k))) else none
 | .dem x k,m=>if leM m (m.set x (mdK k))=true then some (some (m.set x (mdK k))) else none
 | .dead x,m=>if leM m (m.set x .dead)=true then some (some (m.set x .dead)) else none
 | .asgT xs e,m=>(jk (tnM m) e).bind fun c=>if c.1=0/\leM m mx=true then some (some (Ah m xs .sh)) else none
 | .set x p i e,m=>(jk (tnM m) e).bind fun c=>(jk (tnM m) i).bind fun _=>match m[x]? with
  | some (.ow k)=>if c.1=0/\lnE p < k/\k - 1 - lnE p<=c.2/\D2 m p=true/\leM m mx=true then some (some (if p.isEmpty then m else B5 m)) else none
  | _=>none
 | .mut x p u es,m=>match m[x]? with
  | some (.ow k)=>if lnE p < k/\D2 m p=true/\leM m mx=true then (match es.mvOf m with
    | some (y,ky)=>if u=.append/\y ≠ x/\k - 1 - lnE p<=ky/\p.isEmpty=true then some (some (m.set y (.br ky))) else none
    | none=>(jks (tnM m) es).bind fun c=>if (c.1=0\/(u=.extend/\c.1<=1))/\(k - 1 - lnE p=0\/(u.kind=1/\k - 1 - lnE p<=c.2)\/(u.kind=2/\k - lnE p<=c.2)\/u.kind=0) then some (some (if p.isEmpty then m else B5 m)) else none) else none
  | _=>none
 | .expr e,m=>(jk (tnM m) e).bind fun _=>if leM m mx=true then some (some m) else none
 | .iff c a b,m=>(jk (tnM m) c).bind fun _=>if leM m mx=true then (msSs mx dep a m).bind fun ra=>(msSs mx dep b m).bind fun rb=>if okJ ra (KI ra rb)=true/\okJ rb (KI ra rb)=true then some (KI ra rb) else none
  else none
 | .wh c b,m=>(jk (tnM m) c).bind fun _=>if leM m mx=true then (msSs mx dep b m).bind fun r=>match r with
   | none=>some (some m)
   | some mb=>if leM mb m=true then some (some m) else none
  else none
 | .for_ g it b,m=>(jkI (tnM m) it).bind fun j=>if leM m mx=true/\leM m (Ah m g.sl .dead)=true/\(j=0\/∃ x,it.nmOf=some x/\x ∉ wrSs b/\x ∉ g.sl) then (msSs mx dep b (Ah (Ah m g.sl .dead) g.sl .sh)).bind fun r=>match r with
   | none=>some (some (Ah m g.sl .dead))
   | some mb=>if leM mb (Ah m g.sl .dead)=true then some (some (Ah m g.sl .dead)) else none
  else none
 | .ret e,m=>(rk m e).bind fun k=>if dep<=k/\leM m mx=true then some none else none
 | .raise _ es,m=>(jks (tnM m) es).bind fun _=>if leM m mx=true then some none else none
 | .swp x i j,m=>match m[x]? with
  | some (.ow k)=>(jk (tnM m) (.nm i)).bind fun _=>(jk (tnM m) (.nm j)).bind fun _=>if 0 < k/\leM m mx=true then some (some m) else none
  | _=>none
noncomputable def msSs (mx:Ms) (dep:Nat):Ss->Ms->Option (Option Ms)
 | .nil,m=>some (some m)
 | .cons s r,m=>(msS mx dep s m).bind fun o=>match o with
  | none=>some none
  | some m1=>msSs mx dep r m1
end
noncomputable def lOut (Z:Zx) (m:Ms) (r:Option Ms) (w:List Nat) (o:Out) (τ:Ft) (H:Hp) (D:Ends):Prop:=match o with
 | .nxt δ'=>∀ (m':Ms) (τ':Ft) (H':Hp),r=some m'->dτ τ'=δ'->Sf Z.p Z.H0 Z.A0 m' τ' H'->Stp m m' w τ τ' H H'->D.nx (vτ τ') H'
 | .ret d=>∀ (t:T) (H':Hp),t.dat=d->Rs Z.p Z.A0 Z.H0 H' 0 Z.dep t->D.rt t.val H'
 | .exc c δ'=>Z.p.has c=true->∀ (τ':Ft) (H':Hp),dτ τ'=δ'->Sf Z.p Z.H0 Z.A0 Z.mx τ' H'->Stp m Z.mx w τ τ' H H'->Z.EX (vτ τ') (.ref (Z.p.cl c)) none H'
 | .bad=>False
noncomputable def lS (Z:Zx) (s:S):TS:=fun D σ H=>∃ τ m r,σ=vτ τ/\Sf Z.p Z.H0 Z.A0 m τ H/\msS Z.mx Z.dep s m=some r/\lOut Z m r (wrS s) (ex s (dτ τ)) τ H D
noncomputable def lSs (Z:Zx) (s:Ss):TS:=fun D σ H=>∃ τ m r,σ=vτ τ/\Sf Z.p Z.H0 Z.A0 m τ H/\msSs Z.mx Z.dep s m=some r/\lOut Z m r (wrSs s) (exs s (dτ τ)) τ H D
theorem PSs.mono {X:Cx} {st:List Stmt} {t t':TS} (h:PSs X st t) (m:∀ D σ H,t' D σ H->t D σ H):PSs X st t':=fun pins s σ H D I q=>h pins s σ H D I (m _ _ _ q)
section
variable {Z:Zx} {m:Ms} {r:Option Ms} {w:List Nat} {τ:Ft} {H:Hp} {D:Ends} {X:Cx} {pos:Pos}
theorem lOut.lg {α:Type} {q:Res α} {f:α->Out} (S:Sf Z.p Z.H0 Z.A0 m τ H) (hm:leM m Z.mx=true) (h:lOut Z m r w (q.out (dτ τ) f) τ H D):Lg Z.p Z.EX (vτ τ) q H fun a=>lOut Z m r w (f a) τ H D:=by
 cases q with
 | ok a=>exact h
 | exc c=>exact fun hc H' s=>h hc τ H' rfl ((S.weak hm).grow s) (Stp.refl w hm s)
 | bad=>exact h
theorem Aw {c:Prop} [Decidable c] {α:Type} {x y:α} (h:(if c then some x else none)=some y):c/\x=y:=by
 split at h
 ·exact ⟨‹_›,Option.some.inj h⟩
 ·cases h
theorem Qt {x k:Nat} {e:E} {σ:L2.St} (h:lS Z (.asg x k e) D σ H):∃ τ m,σ=vτ τ/\Sf Z.p Z.H0 Z.A0 m τ H/\EV (lE Z.p Z.EX (tnM m) e) (Ee x) D σ H:=by
 obtain ⟨τ,m,r,rfl,S,hr,h⟩:=h
 simp only [msS] at hr
 obtain ⟨⟨j1,k1⟩,h1,hr⟩:=bS hr
 obtain ⟨⟨c1,c2,c3,c4,c5⟩,rfl⟩:=Aw hr
 have c1:j1=0:=c1
 subst c1
 refine ⟨τ,m,rfl,S,τ,rfl,S.ok,0,k1,h1,?_⟩
 simp only [ex] at h
 refine (h.lg S c5).mono (Same.refl _) fun d _ h t H1 ht R=>?_
 subst ht
 obtain ⟨S2,P2⟩:=Qs S R c2 c3 c4
 show D.nx ((vτ τ).set x (some t.val)) H1
 rw [<- FD]
 exact h _ _ H1 rfl (DS τ x t) S2 P2
end
theorem KJ {m:Ms} {i:Nat} {d:Md} (h:(B5 m)[i]?=some d):(d=.dead)\/(m[i]?=some d/\∀ k2,d ≠ .br k2):=by
 unfold B5 at h
 rw [aao] at h
 obtain ⟨d',h1,h2⟩:=aap.mp h
 cases d' with
 | br k=>exact .inl h2.symm
 | sh=>cases h2; exact .inr ⟨h1,by simp⟩
 | ow k=>cases h2; exact .inr ⟨h1,by simp⟩
 | dead=>exact .inl h2.symm
theorem LY {m:Ms} {i k:Nat} (h:m[i]?=some (.ow k)):(B5 m)[i]?=some (.ow k):=by
 unfold B5; rw [aao,h]; rfl
section
variable {p:Px} {H0:Hp} {A0:Addr->Prop} {m:Ms} {τ:Ft} {H H1:Hp}
theorem Iy {x k:Nat} {t:T} {q:List (Bool × Int)} {a:Addr} {ts us es:List T} (S:Sf p H0 A0 m τ H) (s:Same H H1) (hx:τ[x]?=some (some t)) (hm:m[x]?=some (.ow k)) (hq:AK q t=some (.lst a ts)) (hl:lnP q < k) (hus:T.Oks p H1 us)
  (hA:∀ b ∈ T.adrs us (k - 1 - lnP q),b ∈ T.adrs ts (k - 1 - lnP q)\/b ∈ T.adrs es (k - 1 - lnP q)) (hB:∀ b ∈ T.rests us (k - 1 - lnP q),b ∈ T.rests ts (k - 1 - lnP q)\/b ∈ T.rests es 0)
  (hnd:T.Nds ts (k - 1 - lnP q)->(∀ b ∈ T.adrs es (k - 1 - lnP q),b ∉ T.rests ts 0)->(∀ b ∈ T.adrs ts (k - 1 - lnP q),b ∉ T.rests es 0)->T.Nds us (k - 1 - lnP q))
  (src:∀ b ∈ T.rests es 0,H b=none\/Sh (tnM m) τ b) (new:∀ b ∈ T.adrs es (k - 1 - lnP q),H b=none/\∃ vs,H1 b=some (.lst vs)) :
  ∃ t',D1 (.lst a us) q t=some t'/\t'.val=t.val/\Sf p H0 A0 (if q.isEmpty then m else B5 m) (τ.set x (some t')) (L2.upd H1 a (.lst (us.map T.val)))/\Stp m (if q.isEmpty then m else B5 m) [x] τ (τ.set x (some t')) H (L2.upd H1 a (.lst (us.map T.val))):=by
 have dom:∀ {j:Nat} {u:T} {d:Md},τ[j]?=some (some u)->m[j]?=some d->d ≠ .dead->∀ b ∈ u.rest 0,H b ≠ none:=fun e hd nd b z=>(S.at e hd nd).dom z
 obtain ⟨ain,aad⟩:=Dv q (k:=k) hq (by omega)
 have ek:k - lnP q=(k - 1 - lnP q) + 1:=by omega
 have nds:=GF q hq (by omega:lnP q<=k) (S.nd x t k hx hm)
 rw [ek] at nds aad
 have ndt:T.Nds ts (k - 1 - lnP q):=by
  obtain ⟨n1,n2⟩:=nds
  simp only [T.adr,T.rest,aaC] at n1 n2
  exact ⟨n1.2,fun b z y=>n2 b z (aab _ y)⟩
 have hxd:∀ b ∈ t.rest 0,H b ≠ none:=dom hx hm (by intro c; cases c)
 have notOwn:∀ b ∈ T.rests es 0,¬ Own m τ b:=fun b z o=>by
  rcases src b z with y | y
  ·obtain ⟨_,vs,e⟩:=S.ownOk o
   rw [e] at y; cases y
  ·exact S.disj o y
 have hm1:∀ (j:Nat) (d:Md),(if q.isEmpty then m else B5 m)[j]?=some d->d ≠ .dead->m[j]?=some d/\(q ≠ []->∀ k2,d ≠ .br k2):=by
  intro j d hd nd
  cases q with
  | nil=>exact ⟨hd,fun z=>absurd rfl z⟩
  | cons z r =>
   rcases KJ hd with y | ⟨y1,y2⟩
   ·exact absurd y nd
   ·exact ⟨y1,fun _=>y2⟩
 refine LX (F:=fun b=>b ∈ T.adrs es (k - 1 - lnP q)) (N:=fun b=>b ∈ T.rests es 0) S s hx hm hq hl hus (fun b z=>(T.alls_iff es _).mpr (.inl z)) hA hB ?_ (fun b z y=>hxd b y (new b z).1) (fun b z=>⟨S.same.free (new b z).1,(new b z).2⟩) (fun b z=>.inr (new b z).1)
  (fun b z y=>notOwn b z ⟨x,t,k,hx,hm,y⟩) (fun b z=>?_) ?_ ?_ (fun j d _ hd nd=>hm1 j d hd nd) (fun j u d ne e hd nd b z y=>?_) (fun i u k' ne e hk b z y=>?_)
 ·refine hnd ndt (fun b z y=>?_) (fun b z y=>?_)
  ·exact hxd b (ain b (aab _ y)) (new b z).1
  ·exact notOwn b y ⟨x,t,k,hx,hm,aad b (aab _ z)⟩
 ·rcases src b z with y | y
  ·exact .inl (S.same.free y)
  ·exact S.src b y
 ·split
  ·rfl
  ·unfold B5; rw [aaa]
 ·split
  ·exact hm
  ·exact LY hm
 ·exact dom e (hm1 j d hd nd).1 nd b (T.rest_le u (aas _) y) (new b z).1
 ·exact notOwn b z ⟨i,u,k',e,(hm1 i _ hk (by intro c; cases c)).1,y⟩
theorem Iz {ts:List T} {e:T} {k:Nat} (ne:e.Nd k) (h1:T.Nds ts k) (h2:∀ b ∈ T.adrs [e] k,b ∉ T.rests ts 0) (h3:∀ b ∈ T.adrs ts k,b ∉ T.rests [e] 0):T.Nds (ts ++ [e]) k :=
 T.nds_append h1 (T.nds_cons.mpr ⟨ne,by simp [T.Nds,T.adrs],by simp [T.rests],by simp [T.adrs]⟩) h3 h2
theorem OI {ts:List T} {j:Nat} {c e:T} {k:Nat} (hc:ts[j]?=some c) (ne:e.Nd k) (h1:T.Nds ts k) (h2:∀ b ∈ T.adrs [e] k,b ∉ T.rests ts 0) (h3:∀ b ∈ T.adrs ts k,b ∉ T.rests [e] 0) :
  T.Nds (ts.set j e) k/\(∀ b ∈ T.adrs (ts.set j e) k,b ∈ T.adrs ts k\/b ∈ T.adrs [e] k)/\(∀ b ∈ T.rests (ts.set j e) k,b ∈ T.rests ts k\/b ∈ T.rests [e] 0):=by
 obtain ⟨l1,l2,e1,e2⟩:=Du hc
 rw [e1] at h1 h2 h3
 rw [e2,e1]
 refine ⟨CO.mpr ⟨(CO.mp h1).1,ne,fun b z y=>h2 b (by simpa [T.adrs] using z) ?_,fun b z y=>h3 b ?_ (by simpa [T.rests] using y)⟩,fun b z=>?_,fun b z=>?_⟩
 ·simp only [T.rests_append,T.rests,aaf] at y ⊢
  rcases y with y | y
  ·exact .inl y
  ·exact .inr (.inr y)
 ·simp only [T.adrs_append,T.adrs,aaf] at z ⊢
  rcases z with z | z
  ·exact .inl z
  ·exact .inr (.inr z)
 ·simp only [T.adrs_append,T.adrs,aaf,aaK] at z ⊢
  rcases z with z | z | z
  ·exact .inl (.inl z)
  ·exact .inr z
  ·exact .inl (.inr (.inr z))
 ·simp only [T.rests_append,T.rests,aaf,aaK] at z ⊢
  rcases z with z | z | z
  ·exact .inl (.inl z)
  ·exact .inr (T.rest_le e (aas _) z)
  ·exact .inl (.inr (.inr z))
theorem IA {ts us:List T} {k:Nat} (h:us.Perm ts) (n:T.Nds ts k):T.Nds us k:=by
 induction h with
 | nil=>exact n
 | cons x _ ih =>
  rename_i l1 l2 hp
  obtain ⟨a,b,c,d⟩:=T.nds_cons.mp n
  refine T.nds_cons.mpr ⟨a,ih b,fun z hz y=>c z hz ?_,fun z hz=>d z ?_⟩
  ·obtain ⟨w,hw,q⟩:=T.mem_rests.mp y
   exact T.mem_rests.mpr ⟨w,hp.mem_iff.mp hw,q⟩
  ·obtain ⟨w,hw,q⟩:=T.mem_adrs.mp hz
   exact T.mem_adrs.mpr ⟨w,hp.mem_iff.mp hw,q⟩
 | swap x y l =>
  obtain ⟨a,b,c,d⟩:=T.nds_cons.mp n
  obtain ⟨a2,b2,c2,d2⟩:=T.nds_cons.mp b
  simp only [T.rests,T.adrs,aaf,not_or] at c d
  refine T.nds_cons.mpr ⟨a2,T.nds_cons.mpr ⟨a,b2,fun z hz=>(c z hz).2,fun z hz=>d z (.inr hz)⟩,fun z hz=>?_,fun z hz=>?_⟩
  ·simp only [T.rests,aaf,not_or]
   exact ⟨d z (.inl hz),c2 z hz⟩
  ·simp only [T.adrs,aaf] at hz
   rcases hz with hz | hz
   ·exact (c z hz).1
   ·exact d2 z hz
 | trans _ _ i1 i2=>exact i1 (i2 n)
theorem JU {ts us:List T} {k:Nat} (h:us.Sublist ts) (n:T.Nds ts k):T.Nds us k:=by
 induction h with
 | slnil=>exact n
 | cons x _ ih=>exact ih (T.nds_cons.mp n).2.1
 | cons_cons x hs ih =>
  rename_i l1 l2
  obtain ⟨a,b,c,d⟩:=T.nds_cons.mp n
  refine T.nds_cons.mpr ⟨a,ih b,fun z hz y=>c z hz ?_,fun z hz=>d z ?_⟩
  ·obtain ⟨w,hw,q⟩:=T.mem_rests.mp y
   exact T.mem_rests.mpr ⟨w,hs.subset hw,q⟩
  ·obtain ⟨w,hw,q⟩:=T.mem_adrs.mp hz
   exact T.mem_adrs.mpr ⟨w,hs.subset hw,q⟩
end
theorem Fh:∀ (q:List (Bool × E)) (δ:Fr) (c:Nat),evP q δ ≠ .exc c
 | [],δ,c=>by simp [evP]
 | (t,e) :: r,δ,c=>by
  simp only [evP]
  split
  ·cases h:evP r δ with
   | ok is=>simp
   | exc c'=>exact absurd h (Fh r δ c')
   | bad=>simp
  ·simp
theorem IB:∀ (q:List (Bool × E)) {δ:Fr} {b:Bool} {e:E} {is:List (Bool × Int)},evP (q ++ [(b,e)]) δ=.ok is->∃ js i,evP q δ=.ok js/\ev e δ=.ok (.int i)/\is=js ++ [(b,i)]
 | [],δ,b,e,is,h=>by
  simp only [aa4,evP] at h
  split at h
  ·rename_i i he
   simp only [Res.bind_ok] at h
   cases h
   exact ⟨[],i,rfl,he,rfl⟩
  ·cases h
 | (t,e') :: r,δ,b,e,is,h=>by
  simp only [aa2,evP] at h
  split at h
  ·rename_i i' he'
   obtain ⟨js',h1,h2⟩:=Res.bind_eq_ok h
   cases h2
   obtain ⟨js,i,h3,h4,rfl⟩:=IB r h1
   exact ⟨(t,i') :: js,i,by simp only [evP,he',h3,Res.bind_ok],h4,rfl⟩
  ·cases h
theorem Fi:∀ (q:List (Bool × Int)) {t s':T} {b:Bool} {i:Int},AK (q ++ [(b,i)]) t=some s'->∃ s,AK q t=some s/\AK [(b,i)] s=some s'
 | [],t,s',b,i,h=>⟨t,rfl,h⟩
 | (c,j) :: r,t,s',b,i,h=>by
  cases c with
  | false =>
   cases t with
   | lst a ts =>
    simp only [aa2,AK] at h ⊢
    obtain ⟨n,h1,h⟩:=bS h
    obtain ⟨u,h2,h⟩:=bS h
    obtain ⟨s,h3,h4⟩:=Fi r h
    exact ⟨s,by rw [h1]; simp only [aaO]; rw [h2]; exact h3,h4⟩
   | _=>cases h
  | true =>
   cases t with
   | tup a ts =>
    simp only [aa2,AK] at h ⊢
    obtain ⟨n,h1,h⟩:=bS h
    obtain ⟨u,h2,h⟩:=bS h
    obtain ⟨s,h3,h4⟩:=Fi r h
    exact ⟨s,by rw [h1]; simp only [aaO]; rw [h2]; exact h3,h4⟩
   | _=>cases h
theorem EF {p:Px} {H:Hp}:∀ (q:List (Bool × Int)) {t s:T},t.Ok p H->AK q t=some s->s.Ok p H
 | [],t,s,ok,h=>by cases h; exact ok
 | (c,j) :: r,t,s,ok,h=>by
  cases c with
  | false =>
   cases t with
   | lst a ts =>
    simp only [AK] at h
    obtain ⟨n,h1,h⟩:=bS h
    obtain ⟨u,h2,h⟩:=bS h
    exact EF r (T.oks_iff.mp ok.2 u (aae h2)) h
   | _=>cases h
  | true =>
   cases t with
   | tup a ts =>
    simp only [AK] at h
    obtain ⟨n,h1,h⟩:=bS h
    obtain ⟨u,h2,h⟩:=bS h
    exact EF r (T.oks_iff.mp ok.2 u (aae h2)) h
   | _=>cases h
theorem OJ {b:Bool} {i:Int} {s s':T} (h:AK [(b,i)] s=some s'):(∃ a ts,s=.lst a ts/\atI (ts.map T.val) i=some s'.val)\/(∃ a ts,s=.tup a ts/\atI (ts.map T.val) i=some s'.val):=by
 cases b with
 | false =>
  cases s with
  | lst a ts =>
   simp only [AK] at h
   obtain ⟨n,h1,h⟩:=bS h
   obtain ⟨u,h2,h⟩:=bS h
   cases h
   refine .inl ⟨a,ts,rfl,?_⟩
   unfold atI
   rw [aaa,Io,h1]
   show (ts.map T.val)[n]?=_
   rw [aao,h2]; rfl
  | _=>cases h
 | true =>
  cases s with
  | tup a ts =>
   simp only [AK] at h
   obtain ⟨n,h1,h⟩:=bS h
   obtain ⟨u,h2,h⟩:=bS h
   cases h
   refine .inr ⟨a,ts,rfl,?_⟩
   unfold atI
   rw [aaa,Io,h1]
   show (ts.map T.val)[n]?=_
   rw [aao,h2]; rfl
  | _=>cases h
noncomputable def NN (tn:List Nat) (q:List (Bool × E)):Prop:=∀ e ∈ q,(jk tn e.2).isSome=true
noncomputable def lPl (p:Px) (EX:EXT) (tn:List Nat) (x:Nat) (q:List (Bool × E)):TE:=fun σ H Q=>∃ τ t is s,σ=vτ τ/\Fok p tn τ H/\NN tn q/\τ[x]?=some (some t)/\t.Ok p H/\evP q (dτ τ)=.ok is/\AK is t=some s/\∀ H',Same H H'->Q s.val H'
noncomputable def Eu (c:CkC) (x:Nat):List (Bool × E)->Expr->Bool
 | [],.Name y _=>(c.N[x]?==some y) && Et c.sc y && BD y
 | (_,e) :: r,.Subscript o i _=>Eu c x r o && ckE c e i && Bb i
 | _,_=>false
section
variable {p:Px} {c:CkC} {lv:Nat} {X:Cx} {EX:EXT} {tn:List Nat} {pos np:Pos}
theorem KK (C:Ct p c lv X EX) {x:Nat}:∀ {rp:List (Bool × E)} {o:Expr},(∀ e ∈ rp,∀ n ∈ e.2.need,NeedOk p lv X n)->Eu c x rp o=true->PE X o (lPl p EX tn x rp.reverse)
 | [],o,hn,h=>by
  cases o with
  | Name y q =>
   obtain ⟨h,h3⟩:=Aa (show ((c.N[x]?==some y) && Et c.sc y && BD y)=true from h)
   obtain ⟨h1,h2⟩:=Aa h
   obtain ⟨d1,d2⟩:=BQ h3
   refine PE.mono (Ex (by rw [C.N]; exact beq_iff_eq.mp h1) (C.vis h2) d1 d2) fun σ H Q h=>?_
   obtain ⟨τ,t,is,s,rfl,hF,_,ht,ok,e,hs,hq⟩:=h
   simp only [List.reverse_nil,evP] at e
   cases e
   cases hs
   exact ⟨_,Cb ht,hq H (Same.refl _)⟩
  | _=>exact nF h
 | (b,e) :: rp,o,hn,h=>by
  cases o with
  | Subscript o' i q =>
   obtain ⟨h,h3⟩:=Aa (show (Eu c x rp o' && ckE c e i && Bb i)=true from h)
   obtain ⟨h1,h2⟩:=Aa h
   have A:=KK C (rp:=rp) (o:=o') (fun e he=>hn e (aab _ he)) h1
   have B:=(snd e C (tn:=tn) i (hn (b,e) (aac ..)) h2).1
   refine PE.mono (Fx (Ez.or Ia) A B (Eh h3)) fun σ H Q h=>?_
   rw [abC] at h
   obtain ⟨τ,t,is,s,rfl,hF,hj,ht,ok,ev1,hs,hq⟩:=h
   obtain ⟨js,n,e1,e2,rfl⟩:=IB _ ev1
   obtain ⟨s1,hs1,hs2⟩:=Fi _ hs
   refine ⟨τ,t,js,s1,rfl,hF,fun e he=>hj e (aay _ he),ht,ok,e1,hs1,fun H1 sm=>?_⟩
   obtain ⟨⟨j,k⟩,hj'⟩:=aav.mp (hj (b,e) (aah _ (aaS.mpr rfl)))
   refine ⟨τ,rfl,hF.same sm,j,k,hj',?_⟩
   rw [e2]
   intro t2 H2 ht2 R
   have hv:t2.val=.int n:=by cases t2 <;> simp [T.dat] at ht2 <;> simp [T.val,ht2]
   rw [hv]
   have ok1:=(EF _ ok hs1).same (sm.trans R.same)
   rcases OJ hs2 with ⟨a,ts,rfl,at1⟩ | ⟨a,ts,rfl,at1⟩
   ·exact .inl ⟨a,_,n,_,rfl,rfl,.inl ok1.1,at1,hq H2 (sm.trans R.same)⟩
   ·exact .inr ⟨a,_,n,_,rfl,rfl,SqT.of ok1.1,at1,hq H2 (sm.trans R.same)⟩
  | _=>exact nF h
theorem Ej {m:Ms}:∀ {q:List (Bool × E)},D2 m q=true->NN (tnM m) q
 | [],_=>fun e he=>nomatch he
 | (b,e) :: r,h=>by
  obtain ⟨h1,h2⟩:=Aa (show ((jk (tnM m) e).isSome && D2 m r)=true from h)
  intro e' he
  rcases aaj.mp he with rfl | he
  ·exact h1
  ·exact Ej h2 e' he
theorem IC:∀ {q:List (Bool × E)} {δ:Fr} {is:List (Bool × Int)},evP q δ=.ok is->lnP is=lnE q/\is.isEmpty=q.isEmpty
 | [],δ,is,h=>by simp only [evP] at h; cases h; exact ⟨rfl,rfl⟩
 | (b,e) :: r,δ,is,h=>by
  simp only [evP] at h
  split at h
  ·obtain ⟨js,h1,h2⟩:=Res.bind_eq_ok h
   cases h2
   have:=(IC h1).1
   cases b <;> simp [lnP,lnE,this]
  ·cases h
theorem G7 {δ:Fr} {x:Nat} {f:D->Option D} {Z:Zx} {m:Ms} {r:Option Ms} {w:List Nat} {τ:Ft} {H:Hp} {En:Ends} (h:lOut Z m r w (upd (dτ τ) x f) τ H En):∃ t d',τ[x]?=some (some t)/\f t.dat=some d'/\lOut Z m r w (.nxt ((dτ τ).set x (some d'))) τ H En:=by
 unfold upd at h
 cases q:(dτ τ)[x]? with
 | none=>rw [q] at h; exact nE h
 | some o =>
  rw [q] at h
  cases o with
  | none=>exact nE h
  | some d =>
   have:get (dτ τ) x=.ok d:=by unfold get; rw [q]
   obtain ⟨t,ht,rfl⟩:=De this
   simp only at h
   cases q2:f t.dat with
   | none=>rw [q2] at h; exact nE h
   | some d'=>rw [q2] at h; exact ⟨t,d',ht,q2,h⟩
end
theorem Fj {α β:Type} (f:α->β):∀ (l:List α) (i:Nat),(l.eraseIdx i).map f=(l.map f).eraseIdx i
 | [],_=>rfl
 | _ :: _,0=>rfl
 | a :: l,i + 1=>by simp [Fj f l i]
theorem F3 {τ:Ft} {x:Nat} {t t':T} (h:τ[x]?=some (some t)) (e:t'.val=t.val):vτ (τ.set x (some t'))=vτ τ:=by
 rw [FD,e]
 refine List.ext_getElem? fun i=>?_
 by_cases z:x=i
 ·subst z
  rw [abj,Cb h]; rfl
 ·rw [aau z]
theorem F5 {H:Hp} {a:Addr} {vs:List V} (h:Rd H a (.lst vs)) (hp:∃ ws,H a=some (.lst ws)):H a=some (.lst vs):=by
 obtain ⟨ws,e⟩:=hp
 rw [e,GA h (.inl e)]
section
variable {Z:Zx} {m:Ms} {r:Option Ms} {w:List Nat} {τ:Ft} {H:Hp} {D:Ends} {X:Cx} {pos:Pos} {σ:L2.St}
theorem Qu {x:Nat} {q:List (Bool × E)} {i e:E} (h:lS Z (.set x q i e) D σ H):∃ m,EV (lE Z.p Z.EX (tnM m) e) (Pv (lPl Z.p Z.EX (tnM m) x q) (lE Z.p Z.EX (tnM m) i) NG) D σ H:=by
 obtain ⟨τ,m,r,rfl,S,hr,h⟩:=h
 refine ⟨m,?_⟩
 simp only [msS] at hr
 obtain ⟨⟨j1,k1⟩,h1,hr⟩:=bS hr
 obtain ⟨⟨j2,k2⟩,h2,hr⟩:=bS hr
 split at hr
 ·rename_i k hmx
  obtain ⟨⟨c1,c2,c3,c4,c5⟩,rfl⟩:=Aw hr
  have c1:j1=0:=c1
  subst c1
  simp only [ex] at h
  refine ⟨τ,rfl,S.ok,0,k1,h1,(h.lg S c5).mono (Same.refl _) fun d _ h te H1 hte R=>?_⟩
  subst hte
  cases ep:evP q (dτ τ) with
  | exc c=>exact absurd ep (Fh _ _ _)
  | bad=>rw [ep] at h; exact nE h
  | ok is =>
  rw [ep] at h
  cases ei:ev i (dτ τ) with
  | exc c=>rw [ei] at h; exact nE h
  | bad=>rw [ei] at h; exact nE h
  | ok di =>
  rw [ei] at h
  cases di with
  | int n =>
   simp only at h
   obtain ⟨t,d',ht,hu,h⟩:=G7 (δ:=dτ τ) h
   obtain ⟨a,ts,ds',hs,hf,hd'⟩:=ED is hu
   unfold CS at hf
   obtain ⟨j,hj,rfl⟩:=aap.mp hf
   rw [Ad] at hj
   obtain ⟨l1,l2⟩:=IC ep
   refine ⟨τ,t,is,.lst a ts,rfl,S.ok.same R.same,Ej c4,ht,(S.at ht hmx (by intro c; cases c)).same R.same,ep,hs,fun H2 s2=>?_⟩
   refine ⟨τ,rfl,S.ok.same (R.same.trans s2),j2,k2,h2,?_⟩
   rw [ei]
   intro t2 H3 ht2 R3
   have hv:t2.val=.int n:=by cases t2 <;> simp [T.dat] at ht2 <;> simp [T.val,ht2]
   rw [hv]
   have s3:Same H1 H3:=s2.trans R3.same
   have sH3:Same H H3:=R.same.trans s3
   have S3:=S.grow sH3
   have hl:lnP is < k:=by rw [l1]; exact c2
   have aadr:a ∈ t.adr k:=(Dv is (k:=k) hs (by omega)).2 a (by
    have:k - lnP is=(k - lnP is - 1) + 1:=by omega
    rw [this]; exact aac ..)
   have okt:=EF _ (S3.at ht hmx (by intro c; cases c)) hs
   have hpl:=F5 okt.1 (S3.own x t k a ht hmx aadr).2
   have hjl:j < ts.length:=by
    unfold ixN at hj
    split at hj
    ·split at hj
     ·cases hj; omega
     ·cases hj
    ·split at hj
     ·cases hj; omega
     ·cases hj
   have hc:ts[j]?=some ts[j]:=aal hjl
   refine ⟨a,_,n,j,rfl,rfl,hpl,by rw [aaa]; exact hj,?_⟩
   rw [<- aa0]
   have R':Rs Z.p (Sh (tnM m) τ) H H3 0 (k - 1 - lnP is) te:=(R.fwd s3).le (aan _) (by rw [l1]; exact c3)
   obtain ⟨t',p1,p2,S4,P4⟩:=Iy (us:=ts.set j te) (es:=[te]) S sH3 ht hmx hs hl (T.oks_iff.mpr fun w hw=>by
     rcases abf hw with z | rfl
     ·exact T.oks_iff.mp okt.2 w z
     ·exact R'.ok)
    (fun b z=>(show b ∈ T.adrs ts _\/b ∈ T.adrs [te] _ from by
     obtain ⟨w,hw,z2⟩:=T.mem_adrs.mp z
     rcases abf hw with y | rfl
     ·exact .inl (T.mem_adrs.mpr ⟨w,y,z2⟩)
     ·exact .inr (by simpa [T.adrs] using z2)))
    (fun b z=>(by
     obtain ⟨w,hw,z2⟩:=T.mem_rests.mp z
     rcases abf hw with y | rfl
     ·exact .inl (T.mem_rests.mpr ⟨w,y,z2⟩)
     ·exact .inr (by simpa [T.rests] using T.rest_le w (aas _) z2)))
    (fun n1 n2 n3=>(OI hc R'.nd n1 n2 n3).1)
    (fun b z=>R'.src b (by simpa [T.rests] using z)) (fun b z=>R'.new b (by simpa [T.adrs] using z))
   have:=h _ _ _ (by rw [l2]) (by rw [DS,hd' _ _ (F2 ..) p1]) S4 P4
   rw [F3 ht p2] at this
   exact this
  | _=>exact nE h
 ·cases hr
theorem JV {K:Frag} {H:Hp} {a:Addr} {vs:List V} (h:H a=some (.lst vs)):tyV K "list" (.ref a) H:=.inl ⟨rfl,_,SqL.of h⟩
theorem ID {x:Nat} {q:List (Bool × E)} {u:Um} {es:Es} {k:Nat} (S:Sf Z.p Z.H0 Z.A0 m τ H) (hmx:m[x]?=some (.ow k)) (c2:lnE q < k) (c4:D2 m q=true) (h:lOut Z m r [x] (ex (.mut x q u es) (dτ τ)) τ H D) :
  ∃ t is ds a ts ds',τ[x]?=some (some t)/\evP q (dτ τ)=.ok is/\evs es (dτ τ)=.ok ds/\AK is t=some (.lst a ts)/\lnP is=lnE q/\is.isEmpty=q.isEmpty/\umD u ds (T.dats ts)=some ds' /\
   (∀ H3,Same H H3->H3 a=some (.lst (ts.map T.val))/\T.Oks Z.p H3 ts/\a ∈ t.adr k) /\
   (∀ us m' H3 t',T.dats us=ds'->r=some m'->D1 (.lst a us) is t=some t'->t'.val=t.val->Sf Z.p Z.H0 Z.A0 m' (τ.set x (some t')) (L2.upd H3 a (.lst (us.map T.val)))->Stp m m' [x] τ (τ.set x (some t')) H (L2.upd H3 a (.lst (us.map T.val)))->D.nx (vτ τ) (L2.upd H3 a (.lst (us.map T.val)))):=by
 simp only [ex] at h
 cases ep:evP q (dτ τ) with
 | exc c=>exact absurd ep (Fh _ _ _)
 | bad=>rw [ep] at h; exact nE h
 | ok is =>
 rw [ep] at h
 cases ee:evs es (dτ τ) with
 | exc c=>rw [ee] at h; exact nE h
 | bad=>rw [ee] at h; exact nE h
 | ok ds =>
 rw [ee] at h
 simp only at h
 obtain ⟨t,d',ht,hu,h⟩:=G7 (δ:=dτ τ) h
 obtain ⟨a,ts,ds',hs,hf,hd'⟩:=ED is hu
 obtain ⟨l1,l2⟩:=IC ep
 refine ⟨t,is,ds,a,ts,ds',ht,rfl,rfl,hs,l1,l2,hf,fun H3 sH3=>?_,fun us m' H3 t' e1 e2 p1 p2 S4 P4=>?_⟩
 ·have S3:=S.grow sH3
  have hl:lnP is < k:=by rw [l1]; exact c2
  have aadr:a ∈ t.adr k:=(Dv is (k:=k) hs (by omega)).2 a (by
   have:k - lnP is=(k - lnP is - 1) + 1:=by omega
   rw [this]; exact aac ..)
  have okt:=EF _ (S3.at ht hmx (by intro c; cases c)) hs
  exact ⟨F5 okt.1 (S3.own x t k a ht hmx aadr).2,okt.2,aadr⟩
 ·have:=h m' _ _ e2 (by rw [DS,hd' us t' e1 p1]) S4 P4
  rw [F3 ht p2] at this
  exact this
noncomputable def rUm:Um->V->List V->Hp->VK->Prop
 | .append=>Fy
 | .extend=>fun x vs H Q=>∃ l b xs zs,x=.ref l/\vs=[.ref b]/\H l=some (.lst xs)/\Rd H b (.lst zs)/\xs.length + zs.length<=sizeLine/\Q .non (L2.upd H l (.lst (xs ++ zs)))
 | .pop=>PY
 | .popAt=>Lp
 | .clear=>Lq
 | .reverse=>Ih
 | .insert=>JL
noncomputable def M3:V->List V->Hp->VK->Prop:=fun x vs H Q=>∃ l b xs zs,x=.ref l/\vs=[.ref b]/\H l=some (.lst xs)/\Rd H b (.lst zs)/\xs.length + zs.length<=sizeLine/\Q .non (L2.upd H l (.lst (xs ++ zs)))
end
section
variable {X:Cx}
theorem KM:MtM X "list.extend" M3:=by
 intro pins s σ H x vs v us Q I rx rv h
 obtain ⟨l,b,xs,zs,rfl,rfl,hH,hB,hz,q⟩:=h
 cases rx
 obtain ⟨u,rfl,ru⟩:=rv.one
 cases ru
 obtain ⟨z,its,n,r,hl,e⟩:=I.lstM hH
 obtain ⟨z2,its2,n2,r2,hl2,e2⟩:=Inv.lstR I hB
 have hsz:its.toArray.size + its2.toArray.size<=sizeLine:=by rw [aag,aag]; omega
 have hlong:¬ (!its.toArray.isEmpty && Builtin.List.listTooLong (its.toArray.size + its2.toArray.size))=true:=by
  rw [Ig hsz,abR]
  exact aaQ
 refine call_meets F.slot_list_extend ⟨_,e,rfl⟩ F.entry_list_extend (F.args_list_extend_2 _ _)
  (AutoSeq1.list_extend_list_list_0 l its.toArray n b its2.toArray n2 hlong (by rw [aag]; omega) (by omega)) ⟨e,e2,?_⟩
 refine ⟨.non,_,I.lset (its':=its ++ its2) hH e (by simp) (r.append r2) ?_,rfl,q⟩
 rw [aar]
 omega
end
section
variable {Z:Zx} {m:Ms} {r:Option Ms} {w:List Nat} {τ:Ft} {H:Hp} {D:Ends} {X:Cx} {pos:Pos} {σ:L2.St}
theorem OK {x:Nat} {q:List (Bool × E)} {u:Um} {es:Es} {k:Nat} (hK:X.K=Z.p.K) (S:Sf Z.p Z.H0 Z.A0 m τ H) (hmx:m[x]?=some (.ow k)) (c2:lnE q < k) (c4:D2 m q=true) {j1 k1:Nat} (h1:jks (tnM m) es=some (j1,k1))
  (hc:(j1=0\/(u=.extend/\j1<=1))/\(k - 1 - lnE q=0\/(u.kind=1/\k - 1 - lnE q<=k1)\/(u.kind=2/\k - lnE q<=k1)\/u.kind=0)) (hr:r=some (if q.isEmpty then m else B5 m)) (h:lOut Z m r [x] (ex (.mut x q u es) (dτ τ)) τ H D) :
  lPl Z.p Z.EX (tnM m) x q (vτ τ) H fun v H1=>tyV X.K "list" v H1/\lEs Z.p Z.EX (tnM m) es (vτ τ) H1 fun vs H2=>rUm u v vs H2 fun _ H3=>D.nx (vτ τ) H3:=by
 obtain ⟨t,is,ds,a,ts,ds',ht,ep,ee,hs,l1,l2,hf,hpl,hnx⟩:=ID S hmx c2 c4 h
 subst hr
 refine ⟨τ,t,is,.lst a ts,rfl,S.ok,Ej c4,ht,S.at ht hmx (by intro c; cases c),ep,hs,fun H1 s1=>⟨JV (hpl H1 s1).1,?_⟩⟩
 refine ⟨τ,rfl,S.ok.same s1,j1,k1,h1,?_⟩
 rw [ee]
 intro tes H2 hte R
 subst hte
 have s2:Same H H2:=s1.trans R.same
 obtain ⟨p0,okt,aadr⟩:=hpl H2 s2
 have hl:lnP is < k:=by rw [l1]; exact c2
 have fin:∀ us es',T.dats us=ds'->T.Oks Z.p H2 us->(∀ b ∈ T.adrs us (k - 1 - lnP is),b ∈ T.adrs ts (k - 1 - lnP is)\/b ∈ T.adrs es' (k - 1 - lnP is))->(∀ b ∈ T.rests us (k - 1 - lnP is),b ∈ T.rests ts (k - 1 - lnP is)\/b ∈ T.rests es' 0) ->
   (T.Nds ts (k - 1 - lnP is)->(∀ b ∈ T.adrs es' (k - 1 - lnP is),b ∉ T.rests ts 0)->(∀ b ∈ T.adrs ts (k - 1 - lnP is),b ∉ T.rests es' 0)->T.Nds us (k - 1 - lnP is))->(∀ b ∈ T.rests es' 0,H b=none\/Sh (tnM m) τ b)->(∀ b ∈ T.adrs es' (k - 1 - lnP is),H b=none/\∃ vs,H2 b=some (.lst vs)) ->
   D.nx (vτ τ) (L2.upd H2 a (.lst (us.map T.val))):=by
  intro us es' e1 e2 e3 e4 e5 e6 e7
  obtain ⟨t',p1,p2,S4,P4⟩:=Iy (us:=us) (es:=es') S s2 ht hmx hs hl e2 e3 e4 e5 e6 e7
  rw [l2] at S4 P4
  exact hnx us _ H2 t' e1 rfl p1 p2 S4 P4
 have hz:ts.length<=sizeLine\/True:=.inr trivial
 cases u with
 | append =>
  rcases tes with _ | ⟨te,_ | ⟨te2,ter⟩⟩
  ·cases hf
  ·simp only [T.dats,umD] at hf
   obtain ⟨hlt,rfl⟩:=Aw hf
   have hj:j1=0:=by
    rcases hc.1 with z | ⟨z,_⟩
    ·exact z
    ·cases z
   subst hj
   have hk1:k - 1 - lnP is<=k1\/k - 1 - lnP is=0:=by
    rw [l1]
    rcases hc.2 with z | ⟨_,z⟩ | ⟨z,_⟩ | z
    ·exact .inr z
    ·exact .inl z
    ·cases z
    ·cases z
   refine ⟨a,_,te.val,rfl,rfl,p0,by rw [aaa,<- Ad]; exact hlt,?_⟩
   have:=fin (ts ++ [te]) [te] (by rw [T.dats_map,aam,<- T.dats_map]; rfl) (T.oks_iff.mpr fun w hw=>by
     rcases aaf.mp hw with z | z
     ·exact T.oks_iff.mp okt w z
     ·exact T.oks_iff.mp R.ok w z)
    (fun b z=>by rw [T.adrs_append,aaf] at z; exact z) (fun b z=>by
     rw [T.rests_append,aaf] at z
     refine z.imp id fun z=>?_
     simp only [T.rests,aaK] at z ⊢
     exact T.rest_le te (aas _) z)
    (fun n1 n2 n3=>Iz (by
     rcases hk1 with z | z
     ·exact (T.nds_le z R.nd:T.Nds [te] _) |> fun w=>(T.nds_cons.mp w).1
     ·rw [z]; exact T.nd_zero te) n1 n2 n3)
    (fun b z=>(R.src b z).imp s1.free id) (fun b z=>by
     rcases hk1 with y | y
     ·obtain ⟨w,hw,z⟩:=T.mem_adrs.mp z
      have:=R.new b (T.mem_adrs.mpr ⟨w,hw,T.adr_le w y z⟩)
      exact ⟨s1.free this.1,this.2⟩
     ·rw [y,T.adrs_zero] at z; cases z)
   rw [aam] at this
   exact this
  ·have:umD .append (T.dats (te :: te2 :: ter)) (T.dats ts)=none:=rfl
   rw [this] at hf; cases hf
 | extend =>
  rcases tes with _ | ⟨te,_ | ⟨te2,ter⟩⟩
  ·cases hf
  ·cases te with
   | lst b0 es' =>
    simp only [T.dats,T.dat,umD] at hf
    obtain ⟨hlt,rfl⟩:=Aw hf
    have hj:j1<=1:=by
     rcases hc.1 with z | ⟨_,z⟩
     ·omega
     ·exact z
    have hk1:k - 1 - lnP is + 1<=k1\/k - 1 - lnP is=0:=by
     rw [l1]
     rcases hc.2 with z | ⟨z,_⟩ | ⟨_,z⟩ | z
     ·exact .inr z
     ·cases z
     ·exact .inl (by omega)
     ·cases z
    refine ⟨a,b0,_,_,rfl,rfl,p0,R.ok.1.1,by rw [aaa,aaa,<- Ad,<- Ad]; exact hlt,?_⟩
    have nde:T.Nds es' (k - 1 - lnP is):=by
     rcases hk1 with z | z
     ·obtain ⟨n1,n2⟩:=(T.nds_cons.mp (T.nds_le z R.nd)).1
      simp only [T.adr,T.rest,aaC] at n1 n2
      exact ⟨n1.2,fun b y w=>n2 b y (aab _ w)⟩
     ·rw [z]; exact T.nds_zero _
    have:=fin (ts ++ es') es' (by rw [T.dats_map,aam,<- T.dats_map,<- T.dats_map]) (T.oks_iff.mpr fun w hw=>by
      rcases aaf.mp hw with z | z
      ·exact T.oks_iff.mp okt w z
      ·exact T.oks_iff.mp R.ok.1.2 w z)
     (fun b z=>by rw [T.adrs_append,aaf] at z; exact z) (fun b z=>by
      rw [T.rests_append,aaf] at z
      refine z.imp id fun z=>?_
      obtain ⟨w,hw,z2⟩:=T.mem_rests.mp z
      exact T.mem_rests.mpr ⟨w,hw,T.rest_le w (aas _) z2⟩)
     (fun n1 n2 n3=>T.nds_append n1 nde n3 n2)
     (fun b z=>(R.src b (by
      simp only [T.rests,aaK]
      exact T.rest_le (.lst b0 es') hj (j':=1) z)).imp s1.free id) (fun b z=>by
      rcases hk1 with y | y
      ·have:=R.new b (T.mem_adrs.mpr ⟨.lst b0 es',aaS.mpr rfl,T.adr_le (.lst b0 es') y (aab _ z)⟩)
       exact ⟨s1.free this.1,this.2⟩
      ·rw [y,T.adrs_zero] at z; cases z)
    rw [aam] at this
    exact this
   | _=>cases hf
  ·have:umD .extend (T.dats (te :: te2 :: ter)) (T.dats ts)=none:=rfl
   rw [this] at hf; cases hf
 | insert =>
  rcases tes with _ | ⟨te1,_ | ⟨te,_ | ⟨te3,ter⟩⟩⟩
  ·cases hf
  ·cases te1 <;> cases hf
  ·cases te1 with
   | int i =>
    simp only [T.dats,T.dat,umD,Kp] at hf
    obtain ⟨hlt,rfl⟩:=Aw hf
    have hj:j1=0:=by
     rcases hc.1 with z | ⟨z,_⟩
     ·exact z
     ·cases z
    subst hj
    have hk0:k - 1 - lnP is=0:=by
     rw [l1]
     rcases hc.2 with z | ⟨z,_⟩ | ⟨z,_⟩ | z
     ·exact z
     ·cases z
     ·cases z
     ·cases z
    have hlen:(T.dats ts).length=(ts.map T.val).length:=by rw [Ad,aaa]
    have hpos:DY (T.dats ts).length i=L2.FX (ts.map T.val).length i:=by
     rw [hlen]
     unfold DY L2.FX
     split <;> omega
    refine ⟨a,_,i,te.val,rfl,rfl,p0,hlt.2.1,hlt.2.2,by rw [<- hlen]; exact hlt.1,?_⟩
    rw [<- hpos]
    generalize DY (T.dats ts).length i=n at *
    have:=fin (ts.take n ++ te :: ts.drop n) [te] (by rw [T.dats_map,T.dats_map,aam,aaz,abd,abl]) (T.oks_iff.mpr fun w hw=>by
      rcases aaf.mp hw with z | z
      ·exact T.oks_iff.mp okt w (abr z)
      ·rcases aaj.mp z with rfl | z
       ·exact T.oks_iff.mp R.ok w (by simp)
       ·exact T.oks_iff.mp okt w (abq z))
     (fun b z=>by rw [hk0,T.adrs_zero] at z; cases z) (fun b z=>by
      rw [hk0] at z ⊢
      obtain ⟨w,hw,z2⟩:=T.mem_rests.mp z
      rcases aaf.mp hw with y | y
      ·exact .inl (T.mem_rests.mpr ⟨w,abr y,z2⟩)
      ·rcases aaj.mp y with rfl | y
       ·exact .inr (T.mem_rests.mpr ⟨w,aaS.mpr rfl,z2⟩)
       ·exact .inl (T.mem_rests.mpr ⟨w,abq y,z2⟩))
     (fun _ _ _=>by rw [hk0]; exact T.nds_zero _)
     (fun b z=>(R.src b (by
      obtain ⟨w,hw,z2⟩:=T.mem_rests.mp z
      exact T.mem_rests.mpr ⟨w,aab _ hw,z2⟩)).imp s1.free id) (fun b z=>by rw [hk0,T.adrs_zero] at z; cases z)
    rw [aam,aaz,abd,abl] at this
    exact this
   | _=>cases hf
  ·have:umD .insert (T.dats (te1 :: te :: te3 :: ter)) (T.dats ts)=none:=by cases te1 <;> rfl
   rw [this] at hf; cases hf
 | pop =>
  rcases tes with _ | ⟨te,ter⟩
  ·simp only [T.dats,umD] at hf
   split at hf
   ·cases hf
   ·rename_i hne
    cases hf
    have hlen:0 < ts.length:=by
     rcases abS ts.length with z | z
     ·exact absurd (by rw [abP z]; rfl) hne
     ·exact z
    refine ⟨a,_,(ts.map T.val)[(ts.map T.val).length - 1]'(by simp; omega),rfl,rfl,p0,aal (by simp; omega),?_⟩
    have:=fin ts.dropLast [] (by rw [T.dats_map,T.dats_map,acl]) (T.oks_iff.mpr fun w hw=>T.oks_iff.mp okt w (abK _ hw))
     (fun b z=>by
      obtain ⟨w,hw,z2⟩:=T.mem_adrs.mp z
      exact .inl (T.mem_adrs.mpr ⟨w,abK _ hw,z2⟩)) (fun b z=>by
      obtain ⟨w,hw,z2⟩:=T.mem_rests.mp z
      exact .inl (T.mem_rests.mpr ⟨w,abK _ hw,z2⟩))
     (fun n1 _ _=>JU (List.dropLast_sublist ts) n1) (fun b z=>nomatch z) (fun b z=>nomatch z)
    rw [acl] at this
    exact this
  ·have:umD .pop (T.dats (te :: ter)) (T.dats ts)=none:=rfl
   rw [this] at hf; cases hf
 | popAt =>
  rcases tes with _ | ⟨te,_ | ⟨te2,ter⟩⟩
  ·cases hf
  ·cases te with
   | int i =>
    simp only [T.dats,T.dat,umD,un1,G3] at hf
    split at hf
    ·rename_i hb
     obtain ⟨j,hj,rfl⟩:=aap.mp hf
     rw [Ad] at hj
     obtain ⟨q1,q2,_,_⟩:=L2.G0 (n:=ts.length) (i:=i) (j:=j) hj
     refine ⟨a,_,i,j,(ts.map T.val)[j]'(by simpa using q2),rfl,rfl,p0,hb.1,hb.2,by rw [aaa]; exact q1,aal (by simpa using q2),?_⟩
     have sub:∀ w ∈ ts.eraseIdx j,w ∈ ts:=fun w hw=>(ab6 ts j).subset hw
     have:=fin (ts.eraseIdx j) [] (by rw [T.dats_map,T.dats_map,Fj]) (T.oks_iff.mpr fun w hw=>T.oks_iff.mp okt w (sub w hw))
      (fun b z=>by
       obtain ⟨w,hw,z2⟩:=T.mem_adrs.mp z
       exact .inl (T.mem_adrs.mpr ⟨w,sub w hw,z2⟩)) (fun b z=>by
       obtain ⟨w,hw,z2⟩:=T.mem_rests.mp z
       exact .inl (T.mem_rests.mpr ⟨w,sub w hw,z2⟩))
      (fun n1 _ _=>JU (ab6 ts j) n1) (fun b z=>nomatch z) (fun b z=>nomatch z)
     rw [Fj] at this
     exact this
    ·cases hf
   | _=>cases hf
  ·have:umD .popAt (T.dats (te :: te2 :: ter)) (T.dats ts)=none:=rfl
   rw [this] at hf; cases hf
 | clear =>
  rcases tes with _ | ⟨te,ter⟩
  ·cases hf
   refine ⟨a,_,rfl,rfl,p0,?_⟩
   exact fin [] [] rfl trivial (fun b z=>nomatch z) (fun b z=>nomatch z) (fun n1 _ _=>by simp [T.Nds,T.adrs]) (fun b z=>nomatch z) (fun b z=>nomatch z)
  ·have:umD .clear (T.dats (te :: ter)) (T.dats ts)=none:=rfl
   rw [this] at hf; cases hf
 | reverse =>
  rcases tes with _ | ⟨te,ter⟩
  ·cases hf
   refine ⟨a,_,rfl,rfl,p0,?_⟩
   have:=fin ts.reverse [] (by rw [T.dats_map,T.dats_map,List.map_reverse]) (T.oks_iff.mpr fun w hw=>T.oks_iff.mp okt w (abt.mp hw))
    (fun b z=>by
     obtain ⟨w,hw,z2⟩:=T.mem_adrs.mp z
     exact .inl (T.mem_adrs.mpr ⟨w,abt.mp hw,z2⟩)) (fun b z=>by
     obtain ⟨w,hw,z2⟩:=T.mem_rests.mp z
     exact .inl (T.mem_rests.mpr ⟨w,abt.mp hw,z2⟩))
    (fun n1 _ _=>IA (List.reverse_perm ts) n1) (fun b z=>nomatch z) (fun b z=>nomatch z)
   rw [List.map_reverse] at this
   exact this
  ·have:umD .reverse (T.dats (te :: ter)) (T.dats ts)=none:=rfl
   rw [this] at hf; cases hf
end
section
variable {p:Px} {H0:Hp} {A0:Addr->Prop} {m:Ms} {τ:Ft} {H H1:Hp}
theorem Rx {y ky:Nat} {ty:T} (S:Sf p H0 A0 (m.set y .dead) τ H) (hy:τ[y]?=some (some ty)) (hm:y < m.length) (h90:ky < 90) (ok:ty.Ok p H) (src:∀ a ∈ ty.rest ky,H0 a=none\/A0 a)
  (sep:∀ (i:Nat) (t:T) (k:Nat),τ[i]?=some (some t)->(m.set y .dead)[i]?=some (.ow k)->∀ a ∈ t.adr k,a ∉ ty.rest ky) (top:∀ (i:Nat) (t:T) (k:Nat),τ[i]?=some (some t)->(m.set y .dead)[i]?=some (.ow k)->∀ a ts,t=.lst a ts->a ∉ ty.rest 0):Sf p H0 A0 (m.set y (.br ky)) τ H:=by
 have back:∀ {i:Nat} {d:Md},(m.set y (.br ky))[i]?=some d->(i=y/\d=.br ky)\/(i ≠ y/\(m.set y .dead)[i]?=some d):=by
  intro i d h
  rcases Ac h with z | ⟨z1,z2⟩
  ·exact .inl z
  ·exact .inr ⟨z1,by rw [aau (Ne.symm z1)]; exact z2⟩
 have ow':∀ {i k:Nat},(m.set y (.br ky))[i]?=some (.ow k)->(m.set y .dead)[i]?=some (.ow k):=by
  intro i k h
  rcases back h with ⟨_,z⟩ | ⟨_,z⟩
  ·cases z
  ·exact z
 refine ⟨by have:=S.len; rw [aaF] at this ⊢; exact this,fun d hd=>?_,S.same,fun i t j e ej l=>?_,fun i t k a e hk q=>S.own i t k a e (ow' hk) q,fun a sh=>?_,fun i t k e hk=>S.nd i t k e (ow' hk),fun i j t u k d ne e hk e' hd nd a q=>?_,fun i j t u k k2 e hk e' hd a ts z=>?_⟩
 ·obtain ⟨i,hi,rfl⟩:=abi hd
  rcases back (aal hi) with ⟨_,z⟩ | ⟨_,z⟩
  ·rw [z]; exact decide_eq_true h90
  ·exact S.small _ (aae z)
 ·obtain ⟨d,hd,rfl⟩:=Ba ej
  rcases back hd with ⟨rfl,z⟩ | ⟨_,z⟩
  ·rw [hy] at e; cases e; exact ok
  ·exact S.ok i t _ e (AX z) l
 ·obtain ⟨i,t,j,e,ej,l,q⟩:=sh
  obtain ⟨d,hd,rfl⟩:=Ba ej
  rcases back hd with ⟨rfl,z⟩ | ⟨_,z⟩
  ·rw [hy] at e; cases e; subst z; exact src a q
  ·exact S.src a ⟨i,t,_,e,AX z,l,q⟩
 ·rcases back hd with ⟨rfl,z⟩ | ⟨_,z⟩
  ·rw [hy] at e'; cases e'; subst z; exact sep i t k e (ow' hk) a q
  ·exact S.sep i j t u k d ne e (ow' hk) e' z nd a q
 ·rcases back hd with ⟨rfl,z'⟩ | ⟨_,z'⟩
  ·rw [hy] at e'; cases e'; exact top i t k e (ow' hk) a ts z
  ·exact S.top i j t u k k2 e (ow' hk) e' z' a ts z
theorem OL {x y k ky:Nat} {ty:T} {a:Addr} {ts:List T} (S:Sf p H0 A0 m τ H) (s:Same H H1) (hx:τ[x]?=some (some (.lst a ts))) (hm:m[x]?=some (.ow k)) (hy:τ[y]?=some (some ty)) (hmy:m[y]?=some (.ow ky)) (hne:y ≠ x) (hk:k - 1<=ky) :
  Sf p H0 A0 (m.set y (.br ky)) (τ.set x (some (.lst a (ts ++ [ty])))) (L2.upd H1 a (.lst ((ts ++ [ty]).map T.val)))/\Stp m (m.set y (.br ky)) [x] τ (τ.set x (some (.lst a (ts ++ [ty])))) H (L2.upd H1 a (.lst ((ts ++ [ty]).map T.val))):=by
 have S1:=S.grow s
 have sm:0 < k/\k < 90:=of_decide_eq_true (S.small _ (aae hm))
 have smy:0 < ky/\ky < 90:=of_decide_eq_true (S.small _ (aae hmy))
 have no:∀ {k0:Nat},Md.ow k0 ≠ .dead:=by intro k0 c; cases c
 have hyl:y < m.length:=(aaq.mp hmy).1
 have sxy:∀ b ∈ (T.lst a ts).adr k,b ∉ ty.rest 0:=S.sep x y _ ty k _ (Ne.symm hne) hx hm hy hmy no
 have syx:∀ b ∈ ty.adr ky,b ∉ (T.lst a ts).rest 0:=S.sep y x ty _ ky _ hne hy hmy hx hm no
 obtain ⟨k',rfl⟩:∃ k',k=k' + 1:=⟨k - 1,by omega⟩
 have aadr:a ∈ (T.lst a ts).adr (k' + 1):=aac ..
 have ndx:=S.nd x _ _ hx hm
 have ndt:T.Nds ts k':=by
  obtain ⟨n1,n2⟩:=ndx
  simp only [T.adr,T.rest,aaC] at n1 n2
  exact ⟨n1.2,fun b z y=>n2 b z (aab _ y)⟩
 have hk':k'<=ky:=by omega
 have okx:=S1.at hx hm no
 have oky:=S1.at hy hmy no
 have e0:k' + 1 - 1 - lnP []=k':=by simp [lnP]
 obtain ⟨t',p1,p2,S2,P2⟩:=LX (F:=fun b=>b ∈ ty.adr k') (N:=fun b=>b ∈ ty.rest 0) (m1:=m.set y .dead) (us:=ts ++ [ty]) (q:=[]) S s hx hm rfl (by simp [lnP])
  (T.oks_iff.mpr fun w hw=>by
   rcases aaf.mp hw with z | z
   ·exact T.oks_iff.mp okx.2 w z
   ·cases aaS.mp z; exact oky)
  (fun b z=>(T.all_iff ty k').mpr (.inl z))
  (by
   rw [e0]
   intro b z
   rw [T.adrs_append,aaf] at z
   exact z.imp id fun z=>by simpa [T.adrs] using z)
  (by
   rw [e0]
   intro b z
   rw [T.rests_append,aaf] at z
   exact z.imp id fun z=>T.rest_le ty (aas k') (by simpa [T.rests] using z))
  (by
   rw [e0]
   exact Iz (T.nd_le ty hk' (S.nd y ty ky hy hmy)) ndt (fun b z w=>syx b (T.adr_le ty hk' (by simpa [T.adrs] using z)) (aab _ w)) (fun b z w=>sxy b (aab _ z) (by simpa [T.rests] using w)))
  (fun b z=>syx b (T.adr_le ty hk' z)) (fun b z=>S1.own y ty ky b hy hmy (T.adr_le ty hk' z)) (fun b z=>.inl ⟨y,ty,ky,hy,hmy,T.adr_le ty hk' z⟩) (fun b z w=>sxy b w z)
  (fun b z=>by
   rcases (T.all_iff ty ky).mp z with w | w
   ·exact .inl (S.own y ty ky b hy hmy w).1
   ·exact S.src b ⟨y,ty,ky,hy,AX hmy,smy.2,w⟩)
  (by rw [aaF]) (by rw [aau hne]; exact hm)
  (fun j d ne hd nd=>by
   rcases Ac hd with ⟨_,z⟩ | ⟨_,z⟩
   ·exact absurd z nd
   ·exact ⟨z,fun w=>absurd rfl w⟩)
  (fun j u d ne e hd nd b z=>by
   rcases Ac hd with ⟨_,w⟩ | ⟨w,hd⟩
   ·exact absurd w nd
   ·exact S.sep y j ty u ky d (Ne.symm w) hy hmy e hd nd b (T.adr_le ty hk' z))
  (fun i u k2 ne e hk2 b z w=>by
   rcases Ac hk2 with ⟨_,w'⟩ | ⟨w',hk2⟩
   ·cases w'
   ·exact S.sep i y u ty k2 _ w' e hk2 hy hmy no b w z)
 cases p1
 have hy':(τ.set x (some (.lst a (ts ++ [ty]))))[y]?=some (some ty):=by rw [aau (Ne.symm hne)]; exact hy
 have atop:a ∉ ty.rest 0:=sxy a aadr
 refine ⟨Rx S2 hy' hyl smy.2 ?_ (fun b z=>S.src b ⟨y,ty,ky,hy,AX hmy,smy.2,z⟩) (fun i t k2 e hk2 b z w=>?_) (fun i t k2 e hk2 b cs z=>?_),P2.keep,fun b o=>P2.grow b ?_,P2.wr⟩
 ·refine Di (H:=H1) (fun b w e n=>by rw [Aj n]; exact e) (S1.own x _ _ a hx hm aadr).2 oky atop
 ·rcases Ac e with ⟨rfl,e2⟩ | ⟨n1,e1⟩
  ·cases e2
   rcases Ac hk2 with ⟨w',_⟩ | ⟨_,hk2⟩
   ·exact hne w'.symm
   ·rw [hm] at hk2
    cases hk2
    simp only [T.adr,T.adrs_append,T.adrs,aaj,aaf,aaK] at z
    rcases z with rfl | z | z
    ·exact atop (T.rest_le ty (aas _) w)
    ·exact sxy b (aab _ z) (T.rest_le ty (aas _) w)
    ·exact (S.nd y ty ky hy hmy).2 b w (T.adr_le ty hk' z)
  ·rcases Ac hk2 with ⟨_,w'⟩ | ⟨w',hk2⟩
   ·cases w'
   ·exact S.sep i y t ty k2 _ w' e1 hk2 hy hmy no b z (T.rest_le ty (aas _) w)
 ·rcases Ac e with ⟨rfl,e2⟩ | ⟨n1,e1⟩
  ·cases e2
   cases z
   exact atop
  ·rcases Ac hk2 with ⟨_,w'⟩ | ⟨w',hk2⟩
   ·cases w'
   ·subst z
    have:=of_decide_eq_true (S.small _ (aae hk2))
    refine S.sep i y _ ty k2 _ w' e1 hk2 hy hmy no b ?_
    obtain ⟨k3,rfl⟩:∃ k3,k2=k3 + 1:=⟨k2 - 1,by omega⟩
    exact aac ..
 ·obtain ⟨i,t,k2,e,hk2,z⟩:=o
  refine ⟨i,t,k2,e,?_,z⟩
  rcases Ac hk2 with ⟨_,w'⟩ | ⟨w',hk2⟩
  ·cases w'
  ·rw [aau (Ne.symm w')]; exact hk2
end
section
variable {Z:Zx} {m:Ms} {r:Option Ms} {τ:Ft} {H:Hp} {D:Ends} {X:Cx}
theorem Qv {x y k ky:Nat} (S:Sf Z.p Z.H0 Z.A0 m τ H) (hmx:m[x]?=some (.ow k)) (hmy:m[y]?=some (.ow ky)) (hne:y ≠ x) (hk:k - 1<=ky) (hr:r=some (m.set y (.br ky))) (h:lOut Z m r [x] (ex (.mut x [] .append (.cons (.nm y) .nil)) (dτ τ)) τ H D) :
  lPl Z.p Z.EX (tnM m) x [] (vτ τ) H fun v H1=>tyV X.K "list" v H1/\(NF (J8 y) PM) (vτ τ) H1 fun vs H2=>Fy v vs H2 fun _ H3=>D.nx (vτ τ) H3:=by
 have sm:0 < k/\k < 90:=of_decide_eq_true (S.small _ (aae hmx))
 obtain ⟨t,is,ds,a,ts,ds',ht,ep,ee,hs,l1,l2,hf,hpl,hnx⟩:=ID S hmx (by simp [lnE]; omega) rfl h
 cases ep
 cases hs
 subst hr
 simp only [evs,ev] at ee
 obtain ⟨d,e1,ee⟩:=Res.bind_eq_ok ee
 cases ee
 obtain ⟨ty,hy,rfl⟩:=De e1
 simp only [umD] at hf
 obtain ⟨hlt,rfl⟩:=Aw hf
 refine ⟨τ,_,[],.lst a ts,rfl,S.ok,Ej rfl,ht,S.at ht hmx (by intro c; cases c),rfl,rfl,fun H1 s1=>⟨JV (hpl H1 s1).1,?_⟩⟩
 refine ⟨ty.val,Cb hy,?_⟩
 show Fy (.ref a) [ty.val] H1 (fun _ H3=>D.nx (vτ τ) H3)
 refine ⟨a,_,ty.val,rfl,rfl,(hpl H1 s1).1,by rw [aaa,<- Ad]; exact hlt,?_⟩
 obtain ⟨S2,P2⟩:=OL S s1 ht hmx hy hmy hne hk
 have:=hnx (ts ++ [ty]) _ H1 _ (by rw [T.dats_map,aam,<- T.dats_map]; rfl) rfl rfl rfl S2 P2
 rw [aam] at this
 exact this
end
section
variable {Z:Zx} {m:Ms} {r:Option Ms} {w:List Nat} {τ:Ft} {H:Hp} {D:Ends} {X:Cx} {pos:Pos} {σ:L2.St}
theorem OM {K:Frag} {xs:List Nat} {e:E} (h:lS Z (.asgT xs e) D σ H):∃ m,EV (lE Z.p Z.EX (tnM m) e) (lG K (.tp xs)) D σ H:=by
 obtain ⟨τ,m,r,rfl,S,hr,h⟩:=h
 refine ⟨m,?_⟩
 simp only [msS] at hr
 obtain ⟨⟨j1,k1⟩,h1,hr⟩:=bS hr
 obtain ⟨⟨c1,c2⟩,rfl⟩:=Aw hr
 have c1:j1=0:=c1
 subst c1
 simp only [ex] at h
 refine ⟨τ,rfl,S.ok,0,k1,h1,(h.lg S c2).mono (Same.refl _) fun d _ h t H1 ht R=>?_⟩
 subst ht
 rw [Fb] at h
 cases q:Cr (.tp xs) t τ with
 | none=>rw [q] at h; exact nE h
 | some τ' =>
  rw [q] at h
  obtain ⟨S2,P2⟩:=Rv S R.same R.ok R.src q
  exact KA R.ok q (h _ τ' H1 rfl rfl S2 P2)
theorem ON {e:E} (h:lS Z (.expr e) D σ H):∃ m,NB (lE Z.p Z.EX (tnM m) e) D σ H:=by
 obtain ⟨τ,m,r,rfl,S,hr,h⟩:=h
 refine ⟨m,?_⟩
 simp only [msS] at hr
 obtain ⟨⟨j1,k1⟩,h1,hr⟩:=bS hr
 obtain ⟨c2,rfl⟩:=Aw hr
 simp only [ex] at h
 exact ⟨τ,rfl,S.ok,j1,k1,h1,(h.lg S c2).mono (Same.refl _) fun d _ h t H1 ht R=>h m τ H1 rfl rfl (S.grow R.same) (Stp.refl _ (F1 S.small) R.same)⟩
theorem M4 {c:Nat} {es:Es} (h:lS Z (.raise c es) D σ H):∃ m,lEs Z.p Z.EX (tnM m) es σ H fun vs H1=>vs.length=es.len/\(Z.p.has c=true->Z.EX σ (.ref (Z.p.cl c)) none H1):=by
 obtain ⟨τ,m,r,rfl,S,hr,h⟩:=h
 refine ⟨m,?_⟩
 simp only [msS] at hr
 obtain ⟨⟨j1,k1⟩,h1,hr⟩:=bS hr
 obtain ⟨c2,rfl⟩:=Aw hr
 simp only [ex] at h
 refine ⟨τ,rfl,S.ok,j1,k1,h1,(h.lg S c2).mono (Same.refl _) fun ds e h ts H1 hts R=>⟨?_,fun hc=>h hc τ H1 rfl ((S.weak c2).grow R.same) (Stp.refl _ c2 R.same)⟩⟩
 rw [aaa,<- Ad,hts,Cc _ _ _ e]
theorem Qw {e:E} (h:lS Z (.ret e) D σ H):(∃ (i:Nat) (t:T),e=.nm i/\σ[i]?=some (some t.val)/\D.rt t.val H)\/∃ m,lE Z.p Z.EX (tnM m) e σ H D.rt:=by
 obtain ⟨τ,m,r,rfl,S,hr,h⟩:=h
 simp only [msS] at hr
 obtain ⟨k,hk,hr⟩:=bS hr
 obtain ⟨⟨c1,c2⟩,rfl⟩:=Aw hr
 simp only [ex] at h
 have gen:∀ j,(jk (tnM m) e=some (j,k))->j=0->∃ m,lE Z.p Z.EX (tnM m) e (vτ τ) H D.rt:=by
  intro j hj hz
  subst hz
  refine ⟨m,τ,rfl,S.ok,0,k,hj,(h.lg S c2).mono (Same.refl _) fun d _ h t H1 ht R=>h t H1 ht ⟨S.same.trans R.same,R.ok,fun a q=>?_,fun a q=>?_,T.nd_le t c1 R.nd⟩⟩
  ·rcases R.src a q with z | z
   ·exact .inl (S.same.free z)
   ·exact S.src a z
  ·have:=R.new a (T.adr_le t c1 q)
   exact ⟨S.same.free this.1,this.2⟩
 by_cases hnm:∃ i,e=.nm i
 ·obtain ⟨i,rfl⟩:=hnm
  simp only [rk] at hk
  cases q:get (dτ τ) i with
  | exc c=>unfold get at q; split at q <;> cases q
  | bad=>simp only [ev,q] at h; exact nE h
  | ok d =>
   obtain ⟨t,ht,rfl⟩:=De q
   simp only [ev,q] at h
   refine .inl ⟨i,t,rfl,Cb ht,h t H rfl ?_⟩
   split at hk
   ·rename_i k0 hm
    cases hk
    have sm:0 < k/\k < 90:=of_decide_eq_true (S.small _ (aae hm))
    refine ⟨S.same,S.at ht hm (by intro c; cases c),fun a z=>?_,fun a z=>S.own i t k a ht hm (T.adr_le t c1 z),T.nd_le t c1 (S.nd i t k ht hm)⟩
    rcases (T.all_iff t k).mp z with y | y
    ·exact .inl (S.own i t k a ht hm y).1
    ·exact S.src a ⟨i,t,k,ht,AX hm,sm.2,y⟩
   ·rename_i hm
    cases hk
    have c1:Z.dep=0:=by omega
    rw [c1]
    exact ⟨S.same,S.at ht hm (by intro c; cases c),fun a z=>S.src a ⟨i,t,0,ht,AX hm,by decide,z⟩,by rw [T.adr_zero]; simp,T.nd_zero t⟩
   ·cases hk
 ·refine .inr ?_
  have:rk m e=(jk (tnM m) e).bind fun x=>if x.1=0 then some x.2 else none:=by
   cases e <;> first | rfl | exact absurd ⟨_,rfl⟩ hnm
  rw [this] at hk
  obtain ⟨⟨j1,k1⟩,h1,hk⟩:=bS hk
  obtain ⟨z,rfl⟩:=Aw hk
  exact gen j1 h1 z
theorem lOut.weak {r1 r2:Option Ms} {w1 w2:List Nat} {o:Out} (h:lOut Z m r2 w2 o τ H D) (hj:okJ r1 r2=true) (hw:∀ i ∈ w1,i ∈ w2):lOut Z m r1 w1 o τ H D:=by
 cases o with
 | nxt δ' =>
  intro m' τ' H' e1 e2 S P
  subst e1
  cases r2 with
  | none=>cases hj
  | some m2=>exact h m2 τ' H' rfl e2 (S.weak hj) ⟨P.keep,fun a o=>P.grow a (o.weak hj),fun i hi=>P.wr i fun q=>hi (hw i q)⟩
 | ret d=>exact h
 | exc c δ'=>exact fun hc τ' H' e S P=>h hc τ' H' e S (P.mono hw)
 | bad=>exact h
theorem Qx {c:E} {a b:Ss} (h:lS Z (.iff c a b) D σ H):∃ m,Pq (lT Z.p Z.EX (tnM m) c) (lSs Z a) (lSs Z b) D σ H:=by
 obtain ⟨τ,m,r,rfl,S,hr,h⟩:=h
 refine ⟨m,?_⟩
 simp only [msS] at hr
 obtain ⟨⟨j1,k1⟩,h1,hr⟩:=bS hr
 split at hr
 ·rename_i c2
  obtain ⟨ra,h2,hr⟩:=bS hr
  obtain ⟨rb,h3,hr⟩:=bS hr
  obtain ⟨⟨c3,c4⟩,rfl⟩:=Aw hr
  simp only [ex] at h
  refine ⟨τ,rfl,S.ok,by rw [h1]; rfl,(h.lg S c2).mono (Same.refl _) fun t _ h H1 s1=>?_⟩
  have S1:=S.grow s1
  have shift:∀ {o:Out} {r0:Option Ms} {w0:List Nat},lOut Z m r0 w0 o τ H D->lOut Z m r0 w0 o τ H1 D:=by
   intro o r0 w0 h
   cases o with
   | nxt δ'=>exact fun m' τ' H' e1 e2 S P=>h m' τ' H' e1 e2 S ⟨fun a u e n=>P.keep a u (s1 a u e) n,fun a o=>(P.grow a o).imp id s1.free,P.wr⟩
   | ret d=>exact h
   | exc c δ'=>exact fun hc τ' H' e S P=>h hc τ' H' e S ⟨fun a u e n=>P.keep a u (s1 a u e) n,fun a o=>(P.grow a o).imp id s1.free,P.wr⟩
   | bad=>exact h
  cases t with
  | true =>
   rw [if_pos rfl] at h
   show (if true=true then lSs Z a D (vτ τ) H1 else lSs Z b D (vτ τ) H1)
   rw [if_pos rfl]
   exact ⟨τ,m,ra,rfl,S1,h2,shift (h.weak c3 fun i hi=>aay _ hi)⟩
  | false =>
   rw [if_neg (by decide)] at h
   show (if false=true then lSs Z a D (vτ τ) H1 else lSs Z b D (vτ τ) H1)
   rw [if_neg (by decide)]
   exact ⟨τ,m,rb,rfl,S1,h3,shift (h.weak c4 fun i hi=>aah _ hi)⟩
 ·cases hr
theorem lOut.shift {H1:Hp} {o:Out} (s1:Same H H1) (h:lOut Z m r w o τ H D):lOut Z m r w o τ H1 D:=by
 cases o with
 | nxt δ'=>exact fun m' τ' H' e1 e2 S P=>h m' τ' H' e1 e2 S ⟨fun a u e n=>P.keep a u (s1 a u e) n,fun a o=>(P.grow a o).imp id s1.free,P.wr⟩
 | ret d=>exact h
 | exc c δ'=>exact fun hc τ' H' e S P=>h hc τ' H' e S ⟨fun a u e n=>P.keep a u (s1 a u e) n,fun a o=>(P.grow a o).imp id s1.free,P.wr⟩
 | bad=>exact h
theorem lOut.after {m1:Ms} {τ1:Ft} {H1:Hp} {w1 w2:List Nat} {o:Out} (P:Stp m m1 w1 τ τ1 H H1) (hw1:∀ i ∈ w1,i ∈ w) (hw2:∀ i ∈ w2,i ∈ w) (h:lOut Z m r w o τ H D):lOut Z m1 r w2 o τ1 H1 D:=by
 cases o with
 | nxt δ'=>exact fun m' τ' H' e1 e2 S Q=>h m' τ' H' e1 e2 S ((P.trans Q).mono fun i hi=>by
   rcases aaf.mp hi with z | z
   ·exact hw1 i z
   ·exact hw2 i z)
 | ret d=>exact h
 | exc c δ'=>exact fun hc τ' H' e S Q=>h hc τ' H' e S ((P.trans Q).mono fun i hi=>by
   rcases aaf.mp hi with z | z
   ·exact hw1 i z
   ·exact hw2 i z)
 | bad=>exact h
theorem Qy {s:S} {rest:Ss} (h:lSs Z (.cons s rest) D σ H):lS Z s { D with nx:=lSs Z rest D } σ H:=by
 obtain ⟨τ,m,r,rfl,S,hr,h⟩:=h
 simp only [msSs] at hr
 obtain ⟨r1,h1,hr⟩:=bS hr
 refine ⟨τ,m,r1,rfl,S,h1,?_⟩
 simp only [exs] at h
 cases q:ex s (dτ τ) with
 | nxt δ' =>
  rw [q] at h
  intro m' τ' H' e1 e2 S' P
  subst e1
  simp only at hr
  refine ⟨τ',m',r,rfl,S',hr,?_⟩
  rw [e2]
  exact h.after P (fun i hi=>aay _ hi) (fun i hi=>aah _ hi)
 | ret d=>rw [q] at h; exact h
 | exc c δ' =>
  rw [q] at h
  exact fun hc τ' H' e S' P=>h hc τ' H' e S' (P.mono fun i hi=>aay _ hi)
 | bad=>rw [q] at h; exact h
theorem Qz (h:lSs Z .nil D σ H):D.nx σ H:=by
 obtain ⟨τ,m,r,rfl,S,hr,h⟩:=h
 cases hr
 exact h m τ H rfl rfl S (Stp.refl _ (F1 S.small) (Same.refl _))
theorem OO {s:S} {rest:Ss} (hs:(∃ x k,s=.dem x k)\/(∃ x,s=.dead x)) (h:lSs Z (.cons s rest) D σ H):lSs Z rest D σ H:=by
 obtain ⟨τ,m,r,rfl,S,hr,h⟩:=h
 simp only [msSs] at hr
 obtain ⟨r1,h1,hr⟩:=bS hr
 rcases hs with ⟨x,k,rfl⟩ | ⟨x,rfl⟩
 ·simp only [msS] at h1
  obtain ⟨c,rfl⟩:=Aw h1
  refine ⟨τ,_,r,rfl,S.weak c,hr,?_⟩
  simp only [exs,ex,Out.then_nxt] at h
  exact h.after (w1:=[]) (Stp.refl _ c (Same.refl _)) (fun i hi=>nomatch hi) (fun i hi=>aah _ hi)
 ·simp only [msS] at h1
  obtain ⟨c,rfl⟩:=Aw h1
  refine ⟨τ,_,r,rfl,S.weak c,hr,?_⟩
  simp only [exs,ex,Out.then_nxt] at h
  exact h.after (w1:=[]) (Stp.refl _ c (Same.refl _)) (fun i hi=>nomatch hi) (fun i hi=>aah _ hi)
end
section
variable {Z:Zx} {m:Ms} {r:Option Ms} {w:List Nat} {τ:Ft} {H:Hp} {D:Ends} {X:Cx} {pos:Pos} {σ:L2.St}
theorem Ry {c:E} {b:Ss} (h:lS Z (.wh c b) D σ H):∃ m,Lb (lT Z.p Z.EX (tnM m) c) (lSs Z b) D σ H:=by
 obtain ⟨τ,m,r,rfl,S,hr,h⟩:=h
 refine ⟨m,?_⟩
 simp only [msS] at hr
 obtain ⟨⟨j1,k1⟩,h1,hr⟩:=bS hr
 split at hr
 ·rename_i c2
  obtain ⟨rb,h2,hr⟩:=bS hr
  have hrb:r=some m/\okJ rb (some m)=true:=by
   cases rb with
   | none=>exact ⟨(Option.some.inj hr).symm,rfl⟩
   | some mb =>
    obtain ⟨z,e⟩:=Aw hr
    exact ⟨e.symm,z⟩
  obtain ⟨rfl,hj⟩:=hrb
  simp only [ex] at h
  refine ⟨fun n σ H'=>∃ τ',σ=vτ τ'/\Sf Z.p Z.H0 Z.A0 m τ' H'/\Stp m m (wrSs b) τ τ' H H'/\lOut Z m (some m) (wrSs b) (AO (tv c) (exs b) n (dτ τ')) τ H D,⟨FU,τ,rfl,S,Stp.refl _ (F1 S.small) (Same.refl _),h⟩,?_⟩
  rintro n σ' H' ⟨τ',rfl,S',P',h'⟩
  cases n with
  | zero=>exact nE h'
  | succ n =>
   simp only [AO] at h'
   have hb:=h'.after (w:=wrSs b) (w1:=wrSs b) (w2:=wrSs b) P' (fun _ z=>z) (fun _ z=>z)
   refine ⟨τ',rfl,S'.ok,by rw [h1]; rfl,(hb.lg S' c2).mono (Same.refl _) fun t et hb2 H1 s1=>?_⟩
   rw [et] at h'
   simp only [Res.out_ok] at h'
   cases t with
   | false =>
    show (if false=true then _ else D.nx (vτ τ') H1)
    rw [if_neg (by decide)]
    rw [if_neg (by decide)] at h'
    exact h' m τ' H1 rfl rfl (S'.grow s1) ⟨fun a u e n=>s1 _ _ (P'.keep a u e n),P'.grow,P'.wr⟩
   | true =>
    rw [if_pos rfl] at h' hb2
    show (if true=true then _ else _)
    rw [if_pos rfl]
    refine ⟨fun σ2 H2=>∃ τ2,σ2=vτ τ2/\Sf Z.p Z.H0 Z.A0 m τ2 H2/\Stp m m (wrSs b) τ τ2 H H2/\lOut Z m (some m) (wrSs b) (AO (tv c) (exs b) n (dτ τ2)) τ H D,fun σ2 H2 q=>⟨n,Nat.lt_succ_self n,q⟩,?_⟩
    refine ⟨τ',m,rb,rfl,S'.grow s1,h2,?_⟩
    have hb3:=hb2.shift s1
    have P1:Stp m m (wrSs b) τ τ' H H1:=⟨fun a u e n=>s1 _ _ (P'.keep a u e n),P'.grow,P'.wr⟩
    cases q:exs b (dτ τ') with
    | nxt δ2 =>
     rw [q] at h'
     intro m' τ2 H2 e1 e2 S2 P2
     subst e1
     have hle:leM m' m=true:=hj
     refine ⟨τ2,rfl,S2.weak hle,((P1.trans P2).mono (w2:=wrSs b) (fun i hi=>by simpa using hi)) |> fun P3=>⟨P3.keep,fun a o=>P3.grow a (Own.weak hle o),P3.wr⟩,?_⟩
     rw [e2]; exact h'
    | ret d=>rw [q] at hb3; exact hb3
    | exc c' δ'=>rw [q] at hb3; exact hb3
    | bad=>rw [q] at hb3; exact hb3
 ·cases hr
theorem Stp.lesser {m1 m2:Ms} {τ':Ft} {H':Hp} (h:leM m1 m2=true) (P:Stp m m1 w τ τ' H H'):Stp m m2 w τ τ' H H':=⟨P.keep,fun a o=>P.grow a (Own.weak h o),P.wr⟩
theorem IE {K:Frag} {g:Tg} {b:Ss} {J:L2.It} {us:List T} {ds:List Pu.D} {j:Nat} {H1:Hp} {rb:Option Ms} (S:Sf Z.p Z.H0 Z.A0 m τ H) (IT:ItOk Z.p (Sh (tnM m) τ) H H1 J us j ds) (hd:leM m (Ah m g.sl .dead)=true)
  (h2:msSs Z.mx Z.dep b (Ah (Ah m g.sl .dead) g.sl .sh)=some rb) (hj:okJ rb (some (Ah m g.sl .dead))=true)
  (per:∀ (τ':Ft) (H':Hp),Sf Z.p Z.H0 Z.A0 (Ah m g.sl .dead) τ' H'->Stp m (Ah m g.sl .dead) (g.sl ++ wrSs b) τ τ' H1 H'->T.Oks Z.p H' us)
  (h:lOut Z m (some (Ah m g.sl .dead)) (g.sl ++ wrSs b) (AC g (exs b) ds (dτ τ)) τ H1 D) :
  ∃ W:Nat->Nat->L2.St->Hp->Prop,(∃ n,W 0 n (vτ τ) H1)/\∀ i n σ H,W i n σ H->(J.stop i H/\D.nx σ H)\/(J.go i H/\∃ N:L2.St->Hp->Prop,(∀ σ' H',N σ' H'->∃ n',n' < n/\W (i + 1) n' σ' H')/\∀ x H',J.yld i H x H'->lG K g x σ H' fun σ2 H2=>lSs Z b { D with nx:=N,ct:=N,bk:=D.nx } σ2 H2):=by
 have S1:=S.grow IT.same
 have fineU:∀ a,(H a=none\/Sh (tnM m) τ a)->(Z.H0 a=none\/Z.A0 a)/\¬ Own m τ a:=fun a q=>S.fine q
 refine ⟨fun i n σ H'=>n=ds.length - i/\i<=ds.length/\∃ τ',σ=vτ τ'/\Sf Z.p Z.H0 Z.A0 (Ah m g.sl .dead) τ' H'/\Stp m (Ah m g.sl .dead) (g.sl ++ wrSs b) τ τ' H1 H'/\lOut Z m (some (Ah m g.sl .dead)) (g.sl ++ wrSs b) (AC g (exs b) (ds.drop i) (dτ τ')) τ H1 D,
  ⟨ds.length,by simp,aas _,τ,rfl,S1.weak hd,Stp.refl _ hd (Same.refl _),by simpa using h⟩,?_⟩
 rintro i n σ' H' ⟨rfl,hi,τ',rfl,S',P',h'⟩
 have usok:=per τ' H' S' P'
 rcases acg i ds.length with hlt | hge
 ·have hdi:ds[i]?=some ds[i]:=aal hlt
  rw [abx hlt] at h'
  simp only [AC] at h'
  refine .inr ⟨IT.go i H' usok hlt,fun σ2 H2=>∃ τ2,σ2=vτ τ2/\Sf Z.p Z.H0 Z.A0 (Ah m g.sl .dead) τ2 H2/\Stp m (Ah m g.sl .dead) (g.sl ++ wrSs b) τ τ2 H1 H2/\lOut Z m (some (Ah m g.sl .dead)) (g.sl ++ wrSs b) (AC g (exs b) (ds.drop (i + 1)) (dτ τ2)) τ H1 D,
   fun σ2 H2 q=>⟨ds.length - (i + 1),by omega,rfl,hlt,q⟩,fun x H'' y=>?_⟩
  obtain ⟨s2,t,rfl,ht,tok,tus,tsrc⟩:=IT.yld i H' x H'' ds[i] usok hdi y
  rw [<- ht,Fb] at h'
  cases q:Cr g t τ' with
  | none=>rw [q] at h'; exact nE h'
  | some τ2 =>
   rw [q] at h'
   simp only [aaP] at h'
   have src:∀ a ∈ t.rest 0,(Z.H0 a=none\/Z.A0 a)/\¬ Own (Ah m g.sl .dead) τ' a:=fun a z=>by
    refine ⟨(fineU a (tsrc a z)).1,fun o=>?_⟩
    rcases P'.grow a o with w | w
    ·exact (fineU a (tsrc a z)).2 w
    ·obtain ⟨v,hv,z2⟩:=T.mem_rests.mp (tus a z)
     exact (T.oks_iff.mp IT.ok v hv).dom z2 w
   obtain ⟨S2,P2⟩:=LV S' s2 tok src q
   refine KA tok q ⟨τ2,_,rb,rfl,S2,h2,?_⟩
   have P3:=P'.trans P2
   have h3:=h'.after (w:=g.sl ++ wrSs b) (w2:=wrSs b) P3 (fun i hi=>by
    simp only [aaf] at hi ⊢
    rcases hi with (hi | hi) | hi
    ·exact .inl hi
    ·exact .inr hi
    ·exact .inl hi) (fun i hi=>aah _ hi)
   cases e:exs b (dτ τ2) with
   | nxt δ3 =>
    rw [e] at h'
    intro m' τ3 H3 e1 e2 S3 P4
    subst e1
    have hle:leM m' (Ah m g.sl .dead)=true:=hj
    refine ⟨τ3,rfl,S3.weak hle,Stp.lesser hle ((P3.trans P4).mono fun i hi=>?_),?_⟩
    ·simp only [aaf] at hi ⊢
     rcases hi with ((hi | hi) | hi) | hi
     ·exact .inl hi
     ·exact .inr hi
     ·exact .inl hi
     ·exact .inr hi
    ·rw [e2]; exact h'
   | ret d=>rw [e] at h3; exact h3
   | exc c' δ'=>rw [e] at h3; exact h3
   | bad=>rw [e] at h3; exact h3
 ·refine .inl ⟨IT.stop i H' usok hge,?_⟩
  have hil:i=ds.length:=ab0 hi hge
  subst hil
  rw [List.drop_length] at h'
  exact h' _ τ' H' rfl rfl S' P'
theorem QA {K:Frag} {g:Tg} {it:It} {b:Ss} (h:lS Z (.for_ g it b) D σ H):(∃ m,Pw (lI Z.p Z.EX (tnM m) it) (lG K g) (lSs Z b) D σ H) \/
  (∃ x,it=.seqL (.nm x)/\∃ v a xs,σ[x]?=some (some v)/\v=.ref a/\SqL X.K H a xs/\(X.K=Z.p.K->xs.length<=sizeLine->∃ W:Nat->Nat->L2.St->Hp->Prop,(∃ n,W 0 n σ H)/\∀ i n σ H,W i n σ H->((Itl X.K a).stop i H/\D.nx σ H)\/((Itl X.K a).go i H/\∃ N:L2.St->Hp->Prop,(∀ σ' H',N σ' H'->∃ n',n' < n/\W (i + 1) n' σ' H') /\
   ∀ x H',(Itl X.K a).yld i H x H'->lG K g x σ H' fun σ2 H2=>lSs Z b { D with nx:=N,ct:=N,bk:=D.nx } σ2 H2))):=by
 obtain ⟨τ,m,r,rfl,S,hr,h⟩:=h
 simp only [msS] at hr
 obtain ⟨j,h1,hr⟩:=bS hr
 split at hr
 ·rename_i c
  obtain ⟨c1,c2,c3⟩:=c
  obtain ⟨rb,h2,hr⟩:=bS hr
  have hrb:r=some (Ah m g.sl .dead)/\okJ rb (some (Ah m g.sl .dead))=true:=by
   cases rb with
   | none=>exact ⟨(Option.some.inj hr).symm,rfl⟩
   | some mb =>
    obtain ⟨z,e⟩:=Aw hr
    exact ⟨e.symm,z⟩
  obtain ⟨rfl,hj⟩:=hrb
  simp only [ex] at h
  by_cases z:j=0
  ·subst z
   refine .inl ⟨m,τ,rfl,S.ok,0,h1,(h.lg S c1).mono (Same.refl _) fun ds _ h J us H1 IT=>?_⟩
   refine IE S IT c2 h2 hj (fun τ' H' S' P'=>?_) (h.shift IT.same)
   have S1:=S.grow IT.same
   refine T.oks_iff.mpr fun u hu=>(T.oks_iff.mp IT.ok u hu).keep fun a w e q=>P'.keep a w e fun o=>?_
   rcases q with q | q
   ·exact (S.fine (IT.src a (T.mem_rests.mpr ⟨u,hu,q⟩))).2 o
   ·obtain ⟨_,vs,e2⟩:=S1.ownOk o
    rw [e2] at e
    exact q vs (Option.some.inj e).symm
  ·rcases c3 with c3 | ⟨x,c3,c4,c5⟩
   ·exact absurd c3 z
   ·have hit:it=.seqL (.nm x):=by
     unfold It.nmOf at c3
     split at c3
     ·cases c3; rfl
     ·cases c3
    subst hit
    refine .inr ⟨x,rfl,?_⟩
    have hlg:=h.lg S c1
    cases q:get (dτ τ) x with
    | exc c=>unfold get at q; split at q <;> cases q
    | bad=>simp only [evI,ev,q,Res.bind_bad] at hlg; exact nE hlg
    | ok d =>
     obtain ⟨t,ht,rfl⟩:=De q
     simp only [evI,ev,q,Res.bind_ok] at hlg
     cases t with
     | lst a ts =>
      simp only [jkI] at h1
      obtain ⟨⟨j1,k1⟩,h3,h1⟩:=bS h1
      obtain ⟨hj1,e1⟩:=Aw h1
      have e1:j1=j:=e1
      subst e1
      simp only [jk] at h3
      split at h3
      ·rename_i j' hj'
       obtain ⟨hlt,e⟩:=Dr h3
       cases e
       have okt:=S.ok x _ j1 ht hj' (of_decide_eq_true hlt)
       refine ⟨_,a,ts.map T.val,Cb ht,rfl,.inl okt.1,fun hK hz=>?_⟩
       have R:Rs Z.p (Sh (tnM m) τ) H H j1 0 (.lst a ts):=⟨Same.refl _,okt,fun b m'=>.inr ⟨x,_,j1,ht,hj',of_decide_eq_true hlt,m'⟩,by rw [T.adr_zero]; simp,T.nd_zero _⟩
       refine IE S (Fa hK R hj1 (by simpa using hz)) c2 h2 hj (fun τ' H' S' P'=>?_) hlg
       obtain ⟨d,hd,ed⟩:=Ba hj'
       have hdd:d ≠ .dead:=fun w=>by subst w; subst ed; exact absurd (of_decide_eq_true hlt) (by decide)
       have hx':(Ah m g.sl .dead)[x]?=some d:=by
        have hlen:x < (Ah m g.sl .dead).length:=by rw [DC]; exact (aaq.mp hd).1
        rcases DK (aal hlen) with ⟨w,_⟩ | ⟨_,w⟩
        ·exact absurd w c5
        ·rw [aal hlen]
         rw [hd] at w
         exact w.symm
       refine ⟨S'.at (i:=x) (by rw [P'.wr x (fun w=>by rcases aaf.mp w with w | w; exact c5 w; exact c4 w)]; exact ht) hx' hdd,trivial⟩
      ·cases h3
     | _=>exact nE hlg
 ·cases hr
end
noncomputable def OwnN (m:Ms) (τ:Ft) (I:List Nat) (a:Addr):Prop:=∃ (i:Nat) (t:T) (k:Nat),i ∉ I/\τ[i]?=some (some t)/\m[i]?=some (.ow k)/\a ∈ t.adr k
section
variable {p:Px} {H0:Hp} {A0:Addr->Prop} {m:Ms} {τ:Ft} {H H1 H2:Hp}
theorem OwnN.own {I:List Nat} {a:Addr} (h:OwnN m τ I a):Own m τ a:=let ⟨i,t,k,_,e,q,z⟩:=h; ⟨i,t,k,e,q,z⟩
end
section
variable {Z:Zx} {D:Ends} {X:Cx} {σ:L2.St} {H:Hp}
theorem QB {x i j:Nat} (h:lS Z (.swp x i j) D σ H):∃ (a:Addr) (vs:List V) (A B:Int) (p q:Nat) (v w:V),σ[x]?=some (some (.ref a))/\σ[i]?=some (some (.int A))/\σ[j]?=some (some (.int B))/\L2.ixN vs.length A=some p/\L2.ixN vs.length B=some q/\vs[p]?=some v/\vs[q]?=some w/\H a=some (.lst vs)/\∀ H1,Same H H1->H1 a=some (.lst vs)/\D.nx σ (L2.upd H1 a (.lst ((vs.set p w).set q v))):=by
 obtain ⟨τ,m,r,rfl,S,hr,h⟩:=h
 simp only [msS] at hr
 split at hr
 ·rename_i k hmx
  obtain ⟨⟨j1,k1⟩,hj1,hr⟩:=bS hr
  obtain ⟨⟨j2,k2⟩,hj2,hr⟩:=bS hr
  obtain ⟨⟨c1,c2⟩,hr⟩:=Aw hr
  cases hr
  simp only [ex] at h
  cases ei:get (dτ τ) i with
  | exc c=>rw [ei] at h; exact nE h
  | bad=>rw [ei] at h; exact nE h
  | ok di =>
  cases ej:get (dτ τ) j with
  | exc c=>rw [ei,ej] at h; cases di <;> exact nE h
  | bad=>rw [ei,ej] at h; cases di <;> exact nE h
  | ok dj =>
  rw [ei,ej] at h
  cases di with
  | int A =>
   cases dj with
   | int B =>
    simp only at h
    obtain ⟨ti,hti,eti⟩:=De ei
    obtain ⟨tj,htj,etj⟩:=De ej
    have vi:ti.val=.int A:=by cases ti <;> simp [T.dat] at eti <;> simp [T.val,eti]
    have vj:tj.val=.int B:=by cases tj <;> simp [T.dat] at etj <;> simp [T.val,etj]
    obtain ⟨t,d',ht,hu,h⟩:=G7 (δ:=dτ τ) h
    obtain ⟨a,ts,ds',hs,hf,hd'⟩:=ED [] hu
    have hs':t=.lst a ts:=Option.some.inj hs
    subst hs'
    unfold Gy at hf
    rw [Ad] at hf
    obtain ⟨p,hp,hf⟩:=bS hf
    obtain ⟨q,hq,hf⟩:=bS hf
    obtain ⟨dp,hdp,hf⟩:=bS hf
    obtain ⟨dq,hdq,hf⟩:=bS hf
    have hf:=Option.some.inj hf
    rw [T.dats_map,aao] at hdp hdq
    obtain ⟨tp,etp,rfl⟩:=aap.mp hdp
    obtain ⟨tq,etq,rfl⟩:=aap.mp hdq
    obtain ⟨lp,gp⟩:=aaq.mp etp
    obtain ⟨lq,gq⟩:=aaq.mp etq
    have perm:((ts.set p tq).set q tp).Perm ts:=by rw [<- gp,<- gq]; exact List.set_set_perm lp lq
    have pl:∀ H3,Same H H3->H3 a=some (.lst (ts.map T.val))/\T.Oks Z.p H3 ts:=fun H3 sH3=>by
     have S3:=S.grow sH3
     have aadr:a ∈ (T.lst a ts).adr k:=by
      have:k=(k - 1) + 1:=by omega
      rw [this]; exact aac ..
     have okt:=S3.at ht hmx (by intro c; cases c)
     exact ⟨F5 okt.1 (S3.own x _ k a ht hmx aadr).2,okt.2⟩
    have e1:(vτ τ)[x]?=some (some (.ref a)):=Cb ht
    refine ⟨a,ts.map T.val,A,B,p,q,tp.val,tq.val,e1,by rw [Cb hti,vi],by rw [Cb htj,vj],by rw [aaa]; exact hp,by rw [aaa]; exact hq,by rw [aao,etp]; rfl,by rw [aao,etq]; rfl,(pl H (Same.refl _)).1,fun H1 s1=>⟨(pl H1 s1).1,?_⟩⟩
    obtain ⟨t',p1,p2,S4,P4⟩:=Iy (us:=(ts.set p tq).set q tp) (es:=[]) (q:=[]) S s1 ht hmx hs (by show 0 < k; exact c1) (T.oks_iff.mpr fun w hw=>T.oks_iff.mp (pl H1 s1).2 w (perm.mem_iff.mp hw))
     (fun b z=>by
      obtain ⟨w,hw,z2⟩:=T.mem_adrs.mp z
      exact .inl (T.mem_adrs.mpr ⟨w,perm.mem_iff.mp hw,z2⟩)) (fun b z=>by
      obtain ⟨w,hw,z2⟩:=T.mem_rests.mp z
      exact .inl (T.mem_rests.mpr ⟨w,perm.mem_iff.mp hw,z2⟩))
     (fun n1 _ _=>IA perm n1) (fun b z=>nomatch z) (fun b z=>nomatch z)
    have hdd:T.dats ((ts.set p tq).set q tp)=ds':=by
     rw [<- hf,T.dats_map,T.dats_map,aa0,aa0]
    have:=h m _ _ rfl (by rw [DS,hd' _ t' hdd p1]) S4 P4
    rw [F3 ht p2,aa0,aa0] at this
    exact this
   | _=>exact nE h
  | _=>cases dj <;> exact nE h
 ·cases hr
end
noncomputable def Dj:List (Bool × E)->List Nd1
 | []=>[]
 | (_,e) :: r=>e.need ++ Dj r
mutual
noncomputable def S.need:S->List Nd1
 | .asg _ _ e=>e.need
 | .dem _ _=>[]
 | .dead _=>[]
 | .asgT _ e=>e.need
 | .set _ q i e=>Dj q ++ (i.need ++ e.need)
 | .mut _ q _ es=>Dj q ++ es.need
 | .expr e=>e.need
 | .iff c a b=>c.need ++ (a.need ++ b.need)
 | .wh c b=>c.need ++ b.need
 | .for_ _ it b=>it.need ++ b.need
 | .ret e=>e.need
 | .swp _ _ _=>[]
 | .raise c es=>.rs c :: es.need
noncomputable def Ss.need:Ss->List Nd1
 | .nil=>[]
 | .cons s r=>s.need ++ r.need
end
noncomputable def IF:Um->Str
 | .append => "append"
 | .extend => "extend"
 | .insert => "insert"
 | .pop => "pop"
 | .popAt => "pop"
 | .clear => "clear"
 | .reverse => "reverse"
noncomputable def M5:Um->Nat->Bool
 | .append,n=>decide (n=1)
 | .extend,n=>decide (n=1)
 | .popAt,n=>decide (n=1)
 | .insert,n=>decide (n=2)
 | _,n=>decide (n=0)
noncomputable def Cf:Expr->Bool
 | .ListComp _ _ _ _=>false
 | .SetComp _ _ _ _=>false
 | .DictComp _ _ _ _ _=>false
 | _=>true
noncomputable def Fk:Expr->Bool
 | .Tuple _ _ _=>false
 | _=>true
noncomputable def IG (c:CkC):List Expr->Bool
 | [.Name x _,.Name y _]=>(c.sc.names.lookup x==some .cell) || (c.sc.names.lookup y==some .cell)
 | _=>false
noncomputable def IH:Expr->Bool
 | .Call _ _ _ _=>false
 | _=>true
noncomputable def two:Expr->Option (Expr × Expr)
 | .Tuple es _ _=>match es with
  | [a,b]=>some (a,b)
  | _=>none
 | _=>none
noncomputable def nmOf:Expr->Option (Str × Pos)
 | .Name x p=>some (x,p)
 | _=>none
noncomputable def FG:Stmt->Option (Str × Str × Str × Str × Str × Str × Str × Str)
 | .Assign [.Tuple [.Subscript (.Name a _) (.Name b _) _,.Subscript (.Name c _) (.Name d _) _] _ _] (.Tuple [.Subscript (.Name e _) (.Name f _) _,.Subscript (.Name g _) (.Name h _) _] _ _) _=>some (a,b,c,d,e,f,g,h)
 | _=>none
theorem M6 {st:Stmt} {a b c d e f g h:Str} (q:FG st=some (a,b,c,d,e,f,g,h)):∃ p1 p2 p3 p4 p5 p6 k1 p7 p8 p9 p10 p11 p12 p13 k2 p14 p15,st=.Assign [.Tuple [.Subscript (.Name a p1) (.Name b p2) p3,.Subscript (.Name c p4) (.Name d p5) p6] k1 p7] (.Tuple [.Subscript (.Name e p8) (.Name f p9) p10,.Subscript (.Name g p11) (.Name h p12) p13] k2 p14) p15:=by
 unfold FG at q
 split at q
 ·cases q; exact ⟨_,_,_,_,_,_,_,_,_,_,_,_,_,_,_,_,_,rfl⟩
 ·cases q
mutual
noncomputable def ckS (c:CkC):S->Stmt->Bool
 | .asg x _ e,.Assign [.Name y _] e' _=>(c.N[x]?==some y) && EQ c y && ckE c e e'
 | .asgT xs e,.Assign [.Tuple ts k q] e' _=>ckG c (.tp xs) (.Tuple ts k q) && ckE c e e' && (Fk e' || IG c ts)
 | .set x q i e,.Assign [.Subscript o i' _] e' _=>Eu c x q.reverse o && ckE c i i' && Bb i' && ckE c e e' && Cf e'
 | .mut x q u es,.Expr (.Call (.Attribute o name ap) xs [] cp) _=>Eu c x q.reverse o && (name==IF u) && ckEs c es xs && (ap.endLine==cp.line) && IH o && decide (es.len < 20) && M5 u es.len
 | .expr e,.Expr e' _=>ckE c e e' && Cf e'
 | .iff t a b,.If t' a' b' _=>ckE c t t' && t.tst && ckSs c a a' && ckSs c b b'
 | .wh t b,.While t' b' [] _=>ckE c t t' && t.tst && ckSs c b b' && c.rz
 | .for_ g it b,.For tg it' b' [] _=>ckG c g tg && ckI c tg it it' && Ds it' && ckSs c b b' && c.rz && c.cm
 | .ret e,.Return (some e') _=>ckE c e e'
 | .raise n es,.Raise (some (.Call (.Name x _) xs [] _)) none _=>(x==A5 n) && glB c.sc x && BD x && ckEs c es xs && decide (0 < es.len) && decide (es.len<=1000) && c.rz && c.cm
 | .swp x i j,st=>match FG st with
  | some (n1,n2,n3,n4,n5,n6,n7,n8)=>ckE c (.nm x) (.Name n1 st.pos) && ckE c (.nm i) (.Name n2 st.pos) && ckE c (.nm j) (.Name n4 st.pos) && (n3==n1) && (n5==n1) && (n7==n1) && (n6==n4) && (n8==n2) && c.cm
  | none=>false
 | _,_=>false
noncomputable def ckSs (c:CkC):Ss->List Stmt->Bool
 | .nil,[]=>true
 | .cons (.dem _ _) r,st=>ckSs c r st
 | .cons (.dead _) r,st=>ckSs c r st
 | .cons s r,x :: xs=>ckS c s x && ckSs c r xs
 | _,_=>false
end
structure Cs (Z:Zx) (c:CkC) (lv:Nat) (X:Cx) (E:XK):Prop where
 ct:Ct Z.p c lv X Z.EX
 ex:c.rz=true->Z.EX=fun _=>E
 xw:c.rz=true->Kn X E
 po:c.rz=true->PassesOwn (model X.prog X.w) X.A X.env X.xe
 kind:c.sc.kind=.function
 stk:X.stack=X.env :: X.outer
 frm:X.env.frame=some X.env.locals
section
variable {Z:Zx} {c:CkC} {lv:Nat} {X:Cx} {E:XK} {pos:Pos}
theorem GG {e:Expr} {t:Option Expr} {n:Nat} {env:Env} (h:Cf e=true):swapsWith e t n env=pure false:=by
 cases e <;> first | rfl | cases h
theorem FO {q:List (Bool × Pu.E)}:∀ e ∈ q,∀ n ∈ e.2.need,n ∈ Dj q:=by
 induction q with
 | nil=>intro e he; cases he
 | cons a q ih =>
  intro e he n hn
  obtain ⟨b,e0⟩:=a
  rcases aaj.mp he with rfl | he
  ·exact aay _ hn
  ·exact aah _ (ih e he n hn)
theorem M7 (C:Cs Z c lv X E) {x k:Nat} {e:Pu.E} {y:Str} {py:Pos} {e':Expr} (hn:∀ n ∈ e.need,NeedOk Z.p lv X n) (h1:(c.N[x]?==some y)=true) (h2:EQ c y=true) (h3:ckE c e e'=true):PS X (.Assign [.Name y py] e' pos) (lS Z (.asg x k e)):=by
 have hN:X.N[x]?=some y:=by rw [C.ct.N]; exact beq_iff_eq.mp h1
 obtain ⟨l1,l2⟩:=C.ct.loc h2
 intro pins s σ H D I h
 obtain ⟨τ,m,rfl,S,h⟩:=Qt h
 by_cases hc:Cf e'=true
 ·exact La C.ct.nd hN l1 (snd e C.ct (tn:=tnM m) e' hn h3).1 (GG hc) l2 pins s _ H D I h
 ·cases e' with
  | ListComp elt' gens scope q =>
   have hsw:∃ b:Bool,swapsWith (.ListComp elt' gens scope q) (some (.Name y py)) pos.line X.env=pure b:=⟨_,rfl⟩
   obtain ⟨b,hsw⟩:=hsw
   cases b with
   | false=>exact La C.ct.nd hN l1 (snd e C.ct (tn:=tnM m) _ hn h3).1 hsw l2 pins s _ H D I h
   | true =>
    cases e with
    | comp0 nl fr g it elt =>
     obtain ⟨tg,iter,ifs,rfl,h3⟩:=DI h3
     obtain ⟨h3,g7⟩:=Aa h3
     obtain ⟨h3,g6⟩:=Aa h3
     obtain ⟨h3,g5⟩:=Aa h3
     obtain ⟨h3,g4⟩:=Aa h3
     obtain ⟨h3,g3⟩:=Aa h3
     obtain ⟨h3,g2⟩:=Aa h3
     obtain ⟨h3,g1⟩:=Aa h3
     obtain ⟨gc,g0⟩:=Aa h3
     cases ifs with
     | cons _ _=>cases g0
     | nil =>
     have g2:=of_decide_eq_true g2
     subst g2
     obtain ⟨Sc,nd⟩:=HR C.ct g1
     obtain ⟨n1,n2⟩:=Ao hn
     refine KB (C.ct.calm gc) Sc (sndI it C.ct (tn:=tnM m) iter n1 g4) (fun i hi=>of_decide_eq_true (aaH.mp g3 i hi)) (fun z=>⟨?_,?_⟩) (Dg g5) C.ct.nd hN l1 l2 hsw pins s _ H D I h
     ·exact F0 (C.ct.blk nd z) g6
     ·exact (snd elt (C.ct.blk nd z) elt' (fun n m=>(n2 n m).blk) g7).1
    | comp1 nl fr g it cond elt =>
     obtain ⟨tg,iter,ifs,rfl,h3⟩:=DI h3
     obtain ⟨cnd,rfl,h3⟩:=Iw h3
     obtain ⟨h3,g9⟩:=Aa h3
     obtain ⟨h3,g8⟩:=Aa h3
     obtain ⟨h3,g7⟩:=Aa h3
     obtain ⟨h3,g6⟩:=Aa h3
     obtain ⟨h3,g5⟩:=Aa h3
     obtain ⟨h3,g4⟩:=Aa h3
     obtain ⟨h3,g3⟩:=Aa h3
     obtain ⟨h3,g2⟩:=Aa h3
     obtain ⟨gc,g1⟩:=Aa h3
     have g2:=of_decide_eq_true g2
     subst g2
     obtain ⟨Sc,nd⟩:=HR C.ct g1
     obtain ⟨n1,n2⟩:=Ao hn
     obtain ⟨n2,n3⟩:=Ao n2
     refine KC (C.ct.calm gc) Sc (sndI it C.ct (tn:=tnM m) iter n1 g4) (fun i hi=>of_decide_eq_true (aaH.mp g3 i hi)) (fun z=>⟨?_,?_,?_⟩) (Dg g5) C.ct.nd hN l1 l2 hsw pins s _ H D I h
     ·exact F0 (C.ct.blk nd z) g6
     ·exact (snd cond (C.ct.blk nd z) cnd (fun n m=>(n2 n m).blk) g7).2 g8
     ·exact (snd elt (C.ct.blk nd z) elt' (fun n m=>(n3 n m).blk) g9).1
    | _=>exact nF h3
  | SetComp _ _ _ _ =>
   cases e with
   | _=>exact nF h3
  | DictComp _ _ _ _ _ =>
   cases e with
   | _=>exact nF h3
  | _=>exact absurd rfl hc
theorem LZ {ts:List Expr} {k:Nat} {q:Pos} {e':Expr} {env:Env} (h:Fk e'=true):swappedStores [.Tuple ts k q] e' env=pure none:=by
 cases e' <;> first | rfl | cases h
theorem M8 (x:Str) (p:Pos):(Expr.Name x p).pos=p:=rfl
theorem L3 {x y:Str} {px py q:Pos} {k:Nat} {e':Expr} {env:Env} (h:env.kindOf x=some .cell\/env.kindOf y=some .cell):swappedStores [.Tuple [.Name x px,.Name y py] k q] e' env=pure none:=by
 cases e' with
 | Tuple vs k2 q2 =>
  have key:([Expr.Name x px,.Name y py].filterMap fun | .Name id pos=>(if env.kindOf id==some .local && pos.line==px.line then some id else none) | _=>none).length ≠ 2:=by
   rcases h with h | h <;> simp only [aa5,ach,h] <;> simp <;> split <;> simp
  have key2:(([Expr.Name x px,.Name y py].filterMap fun | .Name id pos=>(if env.kindOf id==some .local && pos.line==px.line then some id else none) | _=>none).length != 2)=true:=by simpa using key
  unfold swappedStores
  simp only [aaV,List.length_nil,List.head?_cons,aaP,Option.getD_some,M8,aat,Nat.reduceAdd,key2,Bool.true_or,if_true,pure_bind]
  split
  ·rfl
  ·split
   ·rfl
   ·exact if_pos (abQ.mpr (.inl key2))
 | _=>rfl
theorem M9 {c:CkC} {ts:List Expr} {k:Nat} {q:Pos} {e':Expr} {env:Env} (hs:env.scope=c.sc) (h:(Fk e' || IG c ts)=true):swappedStores [.Tuple ts k q] e' env=pure none:=by
 rcases abQ.mp h with h | h
 ·exact LZ h
 ·unfold IG at h
  split at h
  ·refine L3 ?_
   rw [abQ,beq_iff_eq,beq_iff_eq,<- hs] at h
   exact h
  ·cases h
theorem II {ts:List Expr} {k:Nat} {q:Pos} {e':Expr} {env:Env} {n:Nat}:swapsWithSole [.Tuple ts k q] e' n env=pure false:=by
 cases e' <;> rfl
theorem Na {o i:Expr} {q:Pos} {e':Expr} {env:Env} {n:Nat} (h:Cf e'=true):swapsWithSole [.Subscript o i q] e' n env=pure false:=by
 cases e' <;> first | rfl | cases h
theorem L4 (C:Cs Z c lv X E) {xs:List Nat} {e:Pu.E} {ts:List Expr} {k:Nat} {q:Pos} {e':Expr} (hn:∀ n ∈ e.need,NeedOk Z.p lv X n) (h1:ckG c (.tp xs) (.Tuple ts k q)=true) (h2:ckE c e e'=true) (h3:(Fk e' || IG c ts)=true):PS X (.Assign [.Tuple ts k q] e' pos) (lS Z (.asgT xs e)):=by
 intro pins s σ H D I h
 obtain ⟨m,h⟩:=OM (K:=X.K) h
 exact HX (snd e C.ct (tn:=tnM m) e' hn h2).1 (F0 C.ct h1) II (M9 C.ct.sc h3) rfl pins s σ H D I h
theorem L5 (C:Cs Z c lv X E) {e:Pu.E} {e':Expr} (hn:∀ n ∈ e.need,NeedOk Z.p lv X n) (h1:ckE c e e'=true) (h2:Cf e'=true):PS X (.Expr e' pos) (lS Z (.expr e)):=by
 intro pins s σ H D I h
 obtain ⟨m,h⟩:=ON h
 exact B8 (snd e C.ct (tn:=tnM m) e' hn h1).1 (GG h2) pins s σ H D I h
theorem Nb (C:Cs Z c lv X E) {x:Nat} {q:List (Bool × Pu.E)} {i e:Pu.E} {o i' e':Expr} {p2:Pos} (n1:∀ n ∈ Dj q,NeedOk Z.p lv X n) (n2:∀ n ∈ i.need,NeedOk Z.p lv X n) (n3:∀ n ∈ e.need,NeedOk Z.p lv X n)
  (h1:Eu c x q.reverse o=true) (h2:ckE c i i'=true) (h3:Bb i'=true) (h4:ckE c e e'=true) (h5:Cf e'=true):PS X (.Assign [.Subscript o i' p2] e' pos) (lS Z (.set x q i e)):=by
 intro pins s σ H D I h
 obtain ⟨m,h⟩:=Qu h
 have A:=KK C.ct (tn:=tnM m) (x:=x) (rp:=q.reverse) (o:=o) (fun e he n hn=>n1 n (FO e (abt.mp he) n hn)) h1
 rw [abL] at A
 have hw:swappedStores [.Subscript o i' p2] e' X.env=pure none:=by cases e' <;> rfl
 refine HX (snd e C.ct (tn:=tnM m) e' n3 h4).1 (HW A (snd i C.ct (tn:=tnM m) i' n2 h2).1 FW (fun v=>?_)) (Na h5) hw rfl pins s σ H D I h
 cases i' <;> first | rfl | cases h3
theorem F6 {p:Px} {EX:EXT} {tn:List Nat} {K:Frag} {u:V->List V->Hp->VK->Prop} {x:Nat} {q:List (Bool × Pu.E)} {σ:L2.St} {H:Hp} {Q:Hp->Prop} (h:lPl p EX tn x q σ H fun v H1=>tyV K "list" v H1/\lEs p EX tn .nil σ H1 fun vs H2=>u v vs H2 fun _ H3=>Q H3) :
  lPl p EX tn x q σ H fun v H1=>tyV K "list" v H1/\u v [] H1 fun _ H3=>Q H3:=by
 obtain ⟨τ,t,is,s,e1,e2,e3,e4,e5,e6,e7,h⟩:=h
 refine ⟨τ,t,is,s,e1,e2,e3,e4,e5,e6,e7,fun H' s'=>?_⟩
 obtain ⟨h1,τ2,rfl,hF,j,k,hj,h2⟩:=h H' s'
 exact ⟨h1,h2 [] H' rfl ⟨Same.refl _,trivial,by simp [T.rests],by simp [T.adrs],by simp [T.Nds,T.adrs]⟩⟩
theorem L6 {x:Nat} {rp:List (Bool × Pu.E)} {o:Expr} {name:Str} {env:Env} (h:Eu c x rp o=true):attributeBase o name env (eval o env)=eval o env:=by
 cases rp with
 | nil=>cases o <;> first | rfl | exact nF h
 | cons a r=>obtain ⟨b,e⟩:=a; cases o <;> first | rfl | exact nF h
theorem Nc (C:Cs Z c lv X E) {x:Nat} {q:List (Bool × Pu.E)} {u:Um} {es:Es} {o:Expr} {xs:List Expr} {ap cp:Pos} (n1:∀ n ∈ Dj q,NeedOk Z.p lv X n) (n2:∀ n ∈ es.need,NeedOk Z.p lv X n)
  (h1:Eu c x q.reverse o=true) (h2:ckEs c es xs=true) (h3:(ap.endLine==cp.line)=true) (h5:M5 u es.len=true):PS X (.Expr (.Call (.Attribute o (IF u) ap) xs [] cp) pos) (lS Z (.mut x q u es)):=by
 intro pins s σ H D I h
 obtain ⟨τ,m,r,rfl,S,hr,h⟩:=h
 have A:PE X o (lPl Z.p Z.EX (tnM m) x q):=by
  have A:=KK C.ct (tn:=tnM m) (x:=x) (rp:=q.reverse) (o:=o) (fun e he n hn=>n1 n (FO e (abt.mp he) n hn)) h1
  rwa [abL] at A
 have hb:∀ name:Str,attributeBase o name X.env (eval o X.env)=eval o X.env:=fun name=>L6 h1
 obtain ⟨st,sl⟩:=Ce h2
 simp only [msS] at hr
 split at hr
 ·rename_i k hmx
  split at hr
  ·rename_i hc
   obtain ⟨c1,c2,c3⟩:=hc
   cases hmv:es.mvOf m with
   | some yk =>
    obtain ⟨y,ky⟩:=yk
    rw [hmv] at hr
    obtain ⟨⟨d1,d2,d3,d4⟩,rfl⟩:=Aw hr
    subst d1
    have hq:q=[]:=by cases q with | nil=>rfl | cons _ _=>cases d4
    subst hq
    have hes:es=.cons (.nm y) .nil/\m[y]?=some (.ow ky):=by
     unfold Es.mvOf at hmv
     split at hmv
     ·split at hmv
      ·cases hmv; exact ⟨rfl,‹_›⟩
      ·cases hmv
     ·cases hmv
    obtain ⟨rfl,hmy⟩:=hes
    cases xs with
    | nil=>cases sl
    | cons a xr =>
     cases xr with
     | cons _ _=>cases sl
     | nil =>
      obtain ⟨g,_⟩:=Aa (show (ckE c (.nm y) a && Ar a && ckEs c .nil [])=true from h2)
      obtain ⟨g1,g2⟩:=Aa g
      cases a with
      | Name z pz =>
       obtain ⟨g,g5⟩:=Aa (show ((c.N[y]?==some z) && Et c.sc z && BD z)=true from g1)
       obtain ⟨g3,g4⟩:=Aa g
       obtain ⟨e1,e2⟩:=BQ g5
       have hv:PE X (.Name z pz) (J8 y):=Ex (by rw [C.ct.N]; exact beq_iff_eq.mp g3) (C.ct.vis g4) e1 e2
       refine B8 (Gs PySem.F.plainAttrs_list PySem.F.slot_list_append PySem.F.type_list_append Ef A (Db hv EZ rfl) (hb _) rfl h3 rfl rfl) rfl pins s _ H D I ?_
       exact Qv (X:=X) S hmx hmy d2 (by simpa [lnE] using d3) rfl h
      | _=>exact nF g1
   | none =>
    rw [hmv] at hr
    obtain ⟨⟨j1,k1⟩,g1,hr⟩:=bS hr
    obtain ⟨hcc,rfl⟩:=Aw hr
    have B:=(sndA es C.ct (tn:=tnM m) xs n2 h2).1
    have M:=OK (X:=X) C.ct.K S hmx c1 c2 g1 hcc rfl h
    have one:∀ {y:Expr},Ar y=true->((backTo cp (starEach [y] X.env)).all (fun x=>!x.1) && (backToKw cp (keywordEach [] X.env)).all (fun x=>x.1.isSome) && decide ([y].length + ([]:List Keyword).length + (if ([]:List Keyword).isEmpty then 0 else 1) < 30))=true:=by
     intro y hy
     rw [Ai hy]; rfl
    cases u with
    | append =>
     have h5:es.len=1:=of_decide_eq_true h5
     match xs,sl,st with
     | [y],_,st =>
      have hy:Ar y=true:=by simpa using st
      exact B8 (Gs PySem.F.plainAttrs_list PySem.F.slot_list_append PySem.F.type_list_append Ef A B (hb _) (one hy) h3 (Ai hy) rfl) rfl pins s _ H D I M
     | [],sl,_=>rw [h5] at sl; cases sl
     | _ :: _ :: _,sl,_=>rw [h5] at sl; cases sl
    | extend =>
     have h5:es.len=1:=of_decide_eq_true h5
     match xs,sl,st with
     | [y],_,st =>
      have hy:Ar y=true:=by simpa using st
      exact B8 (Gs PySem.F.plainAttrs_list PySem.F.slot_list_extend PySem.F.type_list_extend KM A B (hb _) (one hy) h3 (Ai hy) rfl) rfl pins s _ H D I M
     | [],sl,_=>rw [h5] at sl; cases sl
     | _ :: _ :: _,sl,_=>rw [h5] at sl; cases sl
    | popAt =>
     have h5:es.len=1:=of_decide_eq_true h5
     match xs,sl,st with
     | [y],_,st =>
      have hy:Ar y=true:=by simpa using st
      exact B8 (Gs PySem.F.plainAttrs_list PySem.F.slot_list_pop PySem.F.type_list_pop MC A B (hb _) (one hy) h3 (Ai hy) rfl) rfl pins s _ H D I M
     | [],sl,_=>rw [h5] at sl; cases sl
     | _ :: _ :: _,sl,_=>rw [h5] at sl; cases sl
    | insert =>
     have h5:es.len=2:=of_decide_eq_true h5
     match xs,sl,st with
     | [y,y'],_,st =>
      have hy:Ar y=true/\Ar y'=true:=by simpa using st
      exact B8 (Gs PySem.F.plainAttrs_list PySem.F.slot_list_insert PySem.F.type_list_insert Ly A B (hb _) (by rw [Ai hy.1,Ai hy.2]; rfl) h3 (Ai hy.1) (by rw [Ai hy.2]; rfl)) rfl pins s _ H D I M
     | [],sl,_=>rw [h5] at sl; cases sl
     | [_],sl,_=>rw [h5] at sl; cases sl
     | _ :: _ :: _ :: _,sl,_=>rw [h5] at sl; cases sl
    | pop =>
     have h5:es.len=0:=of_decide_eq_true h5
     rw [h5] at sl
     cases xs with
     | cons _ _=>cases sl
     | nil =>
      cases es with
      | cons _ _=>cases h5
      | nil =>
       refine B8 (Ie PySem.F.plainAttrs_list PySem.F.slot_list_pop PySem.F.type_list_pop PZ A (hb _) h3) rfl pins s _ H D I ?_
       exact F6 M
    | clear =>
     have h5:es.len=0:=of_decide_eq_true h5
     rw [h5] at sl
     cases xs with
     | cons _ _=>cases sl
     | nil =>
      cases es with
      | cons _ _=>cases h5
      | nil =>
       refine B8 (Ie PySem.F.plainAttrs_list PySem.F.slot_list_clear PySem.F.type_list_clear MD A (hb _) h3) rfl pins s _ H D I ?_
       exact F6 M
    | reverse =>
     have h5:es.len=0:=of_decide_eq_true h5
     rw [h5] at sl
     cases xs with
     | cons _ _=>cases sl
     | nil =>
      cases es with
      | cons _ _=>cases h5
      | nil =>
       refine B8 (Ie PySem.F.plainAttrs_list PySem.F.slot_list_reverse PySem.F.type_list_reverse Km A (hb _) h3) rfl pins s _ H D I ?_
       exact F6 M
  ·cases hr
 ·cases hr
theorem L7 {a b c d:Expr} {p3 p6:Pos} {k:Nat} {q:Pos} {e':Expr} {env:Env}:swappedStores [.Tuple [.Subscript a b p3,.Subscript c d p6] k q] e' env=pure none:=by
 cases e' with
 | Tuple vs k2 q2 =>
  unfold swappedStores
  simp only [aaV,List.length_nil,aa5,ach,aat,Nat.reduceAdd]
  split
  ·rfl
  ·split
   ·rfl
   ·exact if_pos rfl
 | _=>rfl
theorem Nf (C:Cs Z c lv X E) {x i j:Nat} {n1 n2 n4:Str} {p0 p1 p2 p3 p4 p5 p6 p7 p8 p9 p10 p11 p12 p13 p14 p15:Pos} {k1 k2:Nat} (h1:ckE c (.nm x) (.Name n1 p0)=true) (h2:ckE c (.nm i) (.Name n2 p0)=true) (h3:ckE c (.nm j) (.Name n4 p0)=true) (hcm:c.cm=true) :
  PS X (.Assign [.Tuple [.Subscript (.Name n1 p1) (.Name n2 p2) p3,.Subscript (.Name n1 p4) (.Name n4 p5) p6] k1 p7] (.Tuple [.Subscript (.Name n1 p8) (.Name n4 p9) p10,.Subscript (.Name n1 p11) (.Name n2 p12) p13] k2 p14) p15) (lS Z (.swp x i j)):=by
 intro pins s σ H D I h
 have nm:∀ {y:Nat} {n:Str} {pp:Pos},ckE c (.nm y) (.Name n p0)=true->PE X (.Name n pp) (J8 y):=fun {y n pp} h=>by
  obtain ⟨g,g3⟩:=Aa (show ((c.N[y]?==some n) && Et c.sc n && BD n)=true from h)
  obtain ⟨g1,g2⟩:=Aa g
  obtain ⟨d1,d2⟩:=BQ g3
  exact Ex (by rw [C.ct.N]; exact beq_iff_eq.mp g1) (C.ct.vis g2) d1 d2
 obtain ⟨a,vs,A,B,p,q,v,w,e1,e2,e3,i1,i2,v1,v2,hH,hN⟩:=QB h
 have hlt:p < vs.length:=(aaq.mp v1).1
 have hlq:q < vs.length:=(aaq.mp v2).1
 refine HX (Lm (Db (Fx Ez (nm h1) (nm h3) (fun _ _=>rfl)) (Db (Fx Ez (nm h1) (nm h2) (fun _ _=>rfl)) EZ rfl) rfl)) (K9 (C.ct.calm hcm) (FT (HW (nm h1) (nm h2) FW) (FT (HW (nm h1) (nm h3) FW) JE)) rfl rfl) II L7 rfl pins s σ H D I ?_
 have at1:atI vs B=some w:=by unfold atI; rw [i2]; exact v2
 have at2:atI vs A=some v:=by unfold atI; rw [i1]; exact v1
 refine ⟨_,e1,_,e3,a,vs,B,w,rfl,rfl,SqL.of hH,at1,_,e1,_,e2,a,vs,A,v,rfl,rfl,SqL.of hH,at2,by show 2<=sizeLine; decide,fun t ht=>?_⟩
 have hta:a ≠ t:=fun z=>by rw [z,ht] at hH; cases hH
 have sm:Same H (L2.upd H t (.tup [w,v])):=fun b o e=>by
  have:b ≠ t:=fun z=>by rw [z,ht] at e; cases e
  rw [L2.Aj this]; exact e
 obtain ⟨hH1,hnx⟩:=hN _ sm
 refine ⟨t,[w,v],rfl,SqT.of L2.AJ,rfl,w,[v],rfl,_,e1,_,e2,a,vs,A,p,rfl,rfl,hH1,i1,v,[],rfl,_,e1,_,e3,a,vs.set p w,B,q,rfl,rfl,L2.AJ,by rw [aaF]; exact i2,rfl,?_⟩
 have eu:L2.upd (L2.upd (L2.upd H t (.tup [w,v])) a (.lst (vs.set p w))) a (.lst ((vs.set p w).set q v))=L2.upd (L2.upd H t (.tup [w,v])) a (.lst ((vs.set p w).set q v)):=by
  funext b
  by_cases z:b=a
  ·subst z; rw [L2.AJ,L2.AJ]
  ·rw [L2.Aj z,L2.Aj z,L2.Aj z]
 rw [eu]
 exact hnx
end
section
variable {Z:Zx} {c:CkC} {lv:Nat} {X:Cx} {E:XK} {pos:Pos}
theorem Ng (C:Cs Z c lv X E) {e:Pu.E} {e':Expr} (hn:∀ n ∈ e.need,NeedOk Z.p lv X n) (h1:ckE c e e'=true):PS X (.Return (some e') pos) (lS Z (.ret e)):=by
 intro pins s σ H D I h
 rcases Qw h with ⟨i,t,rfl,hs,hq⟩ | ⟨m,h⟩
 ·cases e' with
  | Name y q =>
   obtain ⟨g,h3⟩:=Aa (show ((c.N[i]?==some y) && Et c.sc y && BD y)=true from h1)
   obtain ⟨h1,h2⟩:=Aa g
   obtain ⟨d1,d2⟩:=BQ h3
   exact K8 (Ex (by rw [C.ct.N]; exact beq_iff_eq.mp h1) (C.ct.vis h2) d1 d2) pins s σ H D I ⟨_,hs,hq⟩
  | _=>exact nF h1
 ·exact K8 (snd e C.ct (tn:=tnM m) e' hn h1).1 pins s σ H D I h
theorem KN (C:Cs Z c lv X E) {n:Nat} {es:Es} {xs:List Expr} {np cp:Pos} (hn:∀ n ∈ es.need,NeedOk Z.p lv X n) (hr:NeedOk Z.p lv X (.rs n)) (h1:glB c.sc (A5 n)=true) (h2:BD (A5 n)=true) (h3:ckEs c es xs=true) (h4:0 < es.len) (h5:es.len<=1000) (hrz:c.rz=true) (hcm:c.cm=true) :
  PS X (.Raise (some (.Call (.Name (A5 n) np) xs [] cp)) none pos) (lS Z (.raise n es)):=by
 intro pins s σ H D I h
 obtain ⟨m,h⟩:=M4 h
 obtain ⟨r1,r2,r3⟩:=hr
 obtain ⟨s1,s2⟩:=Ce h3
 have A:=(sndA es C.ct (tn:=tnM m) xs hn h3).1
 cases xs with
 | nil=>rw [<- s2] at h4; cases h4
 | cons x xr =>
  rw [aaA,aak] at s1
  refine MJ (C.xw hrz) (C.ct.calm hcm) (C.ct.gl h1) r2 r3 A (BQ h2).1 (Ai s1.1) (AB s1.2) pins s σ H D I ?_
  obtain ⟨τ,e,hF,j,k,hj,h⟩:=h
  refine ⟨τ,e,hF,j,k,hj,h.mono (Same.refl _) fun ds _ hd ts H1 ht R=>?_⟩
  obtain ⟨q1,q2⟩:=hd ts H1 ht R
  refine ⟨by rw [q1]; exact aaJ h5 (by decide),?_⟩
  have:=q2 r1
  rw [C.ex hrz] at this
  exact this
end
mutual
theorem Sg {Z:Zx} {c:CkC} {lv:Nat} {X:Cx} {E:XK} (C:Cs Z c lv X E):∀ (s:S) (st:Stmt),(∀ n ∈ s.need,NeedOk Z.p lv X n)->ckS c s st=true->PS X st (lS Z s)
 | .asg x k e,st,hn,h=>by
  cases st with
  | Assign ts e' q =>
   match ts,h with
   | [t],h =>
    cases t with
    | Name y py =>
     obtain ⟨h,h3⟩:=Aa (show ((c.N[x]?==some y) && EQ c y && ckE c e e')=true from h)
     obtain ⟨h1,h2⟩:=Aa h
     exact M7 C hn h1 h2 h3
    | _=>exact nF h
   | [],h=>exact nF h
   | t :: _ :: _,h=>cases t <;> exact nF h
  | _=>exact nF h
 | .dem _ _,st,hn,h=>by cases st <;> exact nF h
 | .dead _,st,hn,h=>by cases st <;> exact nF h
 | .asgT xs e,st,hn,h=>by
  cases st with
  | Assign ts e' q =>
   match ts,h with
   | [t],h =>
    cases t with
    | Tuple es k py =>
     obtain ⟨h,h3⟩:=Aa (show (ckG c (.tp xs) (.Tuple es k py) && ckE c e e' && (Fk e' || IG c es))=true from h)
     obtain ⟨h1,h2⟩:=Aa h
     exact L4 C hn h1 h2 h3
    | _=>exact nF h
   | [],h=>exact nF h
   | t :: _ :: _,h=>cases t <;> exact nF h
  | _=>exact nF h
 | .set x q i e,st,hn,h=>by
  cases st with
  | Assign ts e' q2 =>
   match ts,h with
   | [t],h =>
    cases t with
    | Subscript o i' py =>
     obtain ⟨h,h5⟩:=Aa (show (Eu c x q.reverse o && ckE c i i' && Bb i' && ckE c e e' && Cf e')=true from h)
     obtain ⟨h,h4⟩:=Aa h
     obtain ⟨h,h3⟩:=Aa h
     obtain ⟨h1,h2⟩:=Aa h
     obtain ⟨n1,n2⟩:=Ao hn
     obtain ⟨n2,n3⟩:=Ao n2
     exact Nb C n1 n2 n3 h1 h2 h3 h4 h5
    | _=>exact nF h
   | [],h=>exact nF h
   | t :: _ :: _,h=>cases t <;> exact nF h
  | _=>exact nF h
 | .mut x q u es,st,hn,h=>by
  cases st with
  | Expr v q2 =>
   cases v with
   | Call f xs ks cp =>
    cases f with
    | Attribute o name ap =>
     cases ks with
     | nil =>
      obtain ⟨h,h8⟩:=Aa (show (Eu c x q.reverse o && (name==IF u) && ckEs c es xs && (ap.endLine==cp.line) && IH o && decide (es.len < 20) && M5 u es.len)=true from h)
      obtain ⟨h,h7⟩:=Aa h
      obtain ⟨h,h5⟩:=Aa h
      obtain ⟨h,h4⟩:=Aa h
      obtain ⟨h,h3⟩:=Aa h
      obtain ⟨h1,h2⟩:=Aa h
      cases beq_iff_eq.mp h2
      obtain ⟨n1,n2⟩:=Ao hn
      exact Nc C n1 n2 h1 h3 h4 h8
     | cons _ _=>exact nF h
    | _=>exact nF h
   | _=>exact nF h
  | _=>exact nF h
 | .expr e,st,hn,h=>by
  cases st with
  | Expr v q2 =>
   obtain ⟨h1,h2⟩:=Aa (show (ckE c e v && Cf v)=true from h)
   exact L5 C hn h1 h2
  | _=>exact nF h
 | .iff t a b,st,hn,h=>by
  cases st with
  | If t' a' b' q =>
   obtain ⟨h,h4⟩:=Aa (show (ckE c t t' && t.tst && ckSs c a a' && ckSs c b b')=true from h)
   obtain ⟨h,h3⟩:=Aa h
   obtain ⟨h1,h2⟩:=Aa h
   obtain ⟨n1,n2⟩:=Ao hn
   obtain ⟨n2,n3⟩:=Ao n2
   intro pins s σ H D I h
   obtain ⟨m,h⟩:=Qx h
   exact Rc ((snd t C.ct (tn:=tnM m) t' n1 h1).2 h2) (sndSs C a a' n2 h3) (sndSs C b b' n3 h4) pins s σ H D I h
  | _=>exact nF h
 | .wh t b,st,hn,h=>by
  cases st with
  | While t' b' el q =>
   cases el with
   | nil =>
    obtain ⟨h,hrz⟩:=Aa (show (ckE c t t' && t.tst && ckSs c b b' && c.rz)=true from h)
    obtain ⟨h,h3⟩:=Aa h
    obtain ⟨h1,h2⟩:=Aa h
    obtain ⟨n1,n2⟩:=Ao hn
    intro pins s σ H D I h
    obtain ⟨m,h⟩:=Ry h
    exact Mt (C.po hrz) ((snd t C.ct (tn:=tnM m) t' n1 h1).2 h2) (sndSs C b b' n2 h3) pins s σ H D I h
   | cons _ _=>exact nF h
  | _=>exact nF h
 | .for_ g it b,st,hn,h=>by
  cases st with
  | For tg it' b' el q =>
   cases el with
   | nil =>
    obtain ⟨h,hcm⟩:=Aa (show (ckG c g tg && ckI c tg it it' && Ds it' && ckSs c b b' && c.rz && c.cm)=true from h)
    obtain ⟨h,hrz⟩:=Aa h
    obtain ⟨h,h4⟩:=Aa h
    obtain ⟨h,h3⟩:=Aa h
    obtain ⟨h1,h2⟩:=Aa h
    obtain ⟨n1,n2⟩:=Ao hn
    have B:=sndSs C b b' n2 h4
    intro pins s σ H D I h
    rcases QA (K:=X.K) (X:=X) h with ⟨m,h⟩ | ⟨x,rfl,v,a,xs,e1,rfl,sq,hW⟩
    ·exact Lf (C.po hrz) (C.ct.calm hcm) (sndI it C.ct (tn:=tnM m) it' n1 h2) (F0 C.ct h1) B (Dg h3) pins s σ H D I h
    ·cases it' with
     | Name y q' =>
      obtain ⟨g,g3⟩:=Aa (show ((c.N[x]?==some y) && Et c.sc y && BD y)=true from h2)
      obtain ⟨g1,g2⟩:=Aa g
      obtain ⟨d1,d2⟩:=BQ g3
      refine Lf (C.po hrz) (C.ct.calm hcm) (Iq (Ex (by rw [C.ct.N]; exact beq_iff_eq.mp g1) (C.ct.vis g2) d1 d2)) (F0 C.ct h1) B (Dg h3) pins s σ H D I ?_
      exact ⟨_,e1,a,rfl,.inl ⟨xs,sq,hW C.ct.K⟩⟩
     | _=>exact nF h2
   | cons _ _=>exact nF h
  | _=>exact nF h
 | .ret e,st,hn,h=>by
  cases st with
  | Return v q =>
   cases v with
   | some e'=>exact Ng C hn h
   | none=>exact nF h
  | _=>exact nF h
 | .swp x i j,st,hn,h=>by
  cases q:FG st with
  | none =>
   have h:(match FG st with | some (n1,n2,n3,n4,n5,n6,n7,n8)=>ckE c (.nm x) (.Name n1 st.pos) && ckE c (.nm i) (.Name n2 st.pos) && ckE c (.nm j) (.Name n4 st.pos) && (n3==n1) && (n5==n1) && (n7==n1) && (n6==n4) && (n8==n2) && c.cm | none=>false)=true:=h
   rw [q] at h; cases h
  | some w =>
   obtain ⟨n1,n2,n3,n4,n5,n6,n7,n8⟩:=w
   have h:(match FG st with | some (n1,n2,n3,n4,n5,n6,n7,n8)=>ckE c (.nm x) (.Name n1 st.pos) && ckE c (.nm i) (.Name n2 st.pos) && ckE c (.nm j) (.Name n4 st.pos) && (n3==n1) && (n5==n1) && (n7==n1) && (n6==n4) && (n8==n2) && c.cm | none=>false)=true:=h
   rw [q] at h
   obtain ⟨h,h9⟩:=Aa (show (ckE c (.nm x) (.Name n1 st.pos) && ckE c (.nm i) (.Name n2 st.pos) && ckE c (.nm j) (.Name n4 st.pos) && (n3==n1) && (n5==n1) && (n7==n1) && (n6==n4) && (n8==n2) && c.cm)=true from h)
   obtain ⟨h,h8⟩:=Aa h
   obtain ⟨h,h7⟩:=Aa h
   obtain ⟨h,h6⟩:=Aa h
   obtain ⟨h,h5⟩:=Aa h
   obtain ⟨h,h4⟩:=Aa h
   obtain ⟨h,h3⟩:=Aa h
   obtain ⟨h1,h2⟩:=Aa h
   cases beq_iff_eq.mp h4
   cases beq_iff_eq.mp h5
   cases beq_iff_eq.mp h6
   cases beq_iff_eq.mp h7
   cases beq_iff_eq.mp h8
   obtain ⟨_,_,_,_,_,_,_,_,_,_,_,_,_,_,_,_,_,rfl⟩:=M6 q
   exact Nf C h1 h2 h3 h9
 | .raise n es,st,hn,h=>by
  cases st with
  | Raise v w q =>
   cases v with
   | none=>exact nF h
   | some v =>
    cases v with
    | Call f xs ks cp =>
     cases f with
     | Name x np =>
      cases ks with
      | nil =>
       cases w with
       | none =>
        obtain ⟨h,hcm⟩:=Aa (show ((x==A5 n) && glB c.sc x && BD x && ckEs c es xs && decide (0 < es.len) && decide (es.len<=1000) && c.rz && c.cm)=true from h)
        obtain ⟨h,hrz⟩:=Aa h
        obtain ⟨h,h6⟩:=Aa h
        obtain ⟨h,h5⟩:=Aa h
        obtain ⟨h,h4⟩:=Aa h
        obtain ⟨h,h3⟩:=Aa h
        obtain ⟨h1,h2⟩:=Aa h
        cases beq_iff_eq.mp h1
        exact KN C (fun n m=>hn n (aab _ m)) (hn _ (aac ..)) h2 h3 h4 (of_decide_eq_true h5) (of_decide_eq_true h6) hrz hcm
       | some _=>exact nF h
      | cons _ _=>exact nF h
     | _=>exact nF h
    | _=>exact nF h
  | _=>exact nF h
theorem sndSs {Z:Zx} {c:CkC} {lv:Nat} {X:Cx} {E:XK} (C:Cs Z c lv X E):∀ (s:Ss) (st:List Stmt),(∀ n ∈ s.need,NeedOk Z.p lv X n)->ckSs c s st=true->PSs X st (lSs Z s)
 | .nil,st,hn,h=>by
  cases st with
  | nil=>exact fun pins s σ H D I h=>NV pins s σ H D I (Qz h)
  | cons _ _=>exact nF h
 | .cons s r,st,hn,h=>by
  obtain ⟨n1,n2⟩:=Ao hn
  have skip:(∃ x k,s=.dem x k)\/(∃ x,s=.dead x)->ckSs c r st=true->PSs X st (lSs Z (.cons s r)):=fun hs h=>PSs.mono (sndSs C r st n2 h) fun D σ H q=>OO hs q
  by_cases hd:(∃ x k,s=.dem x k)\/(∃ x,s=.dead x)
  ·refine skip hd ?_
   rcases hd with ⟨x,k,rfl⟩ | ⟨x,rfl⟩
   ·exact h
   ·exact h
  ·cases st with
   | nil=>cases s <;> first | exact nF h | exact absurd (.inl ⟨_,_,rfl⟩) hd | exact absurd (.inr ⟨_,rfl⟩) hd
   | cons x xs =>
    have h:(ckS c s x && ckSs c r xs)=true:=by
     cases s <;> first | exact h | exact absurd (.inl ⟨_,_,rfl⟩) hd | exact absurd (.inr ⟨_,rfl⟩) hd
    obtain ⟨h1,h2⟩:=Aa h
    exact PSs.mono (Mq (Sg C s x n1 h1) (sndSs C r xs n2 h2)) fun D σ H q=>Qy q
end
structure Lw where
 p:Px
 P:Program
 w:World
 mg:Str->Option Value
 base:Heap
structure Lw.Ok (L:Lw):Prop where
 blt:∀ y ∈ Fe,L.mg y=none
 bt:∀ y ∈ (["bool", "dict", "ValueError"]:List Str),L.mg y=none
 kx:Kx L.p
noncomputable def Nh (L:Lw) (F:Fn):Prop:=∃ ps:List Str,ps.length=F.ar/\Has L.P L.w L.p.K L.mg L.base F.name F.lv ps (spF L.p F)
noncomputable def NeedG (L:Lw) (lv:Nat):Nd1->Prop
 | .fn F=>F.lv<=lv/\Nh L F
 | .cl n=>L.p.has n=true/\L.mg (A5 n)=some (.ref (L.p.cl n))
 | .rs n=>L.p.has n=true/\nsIn L.p.K mainGlobals (A5 n)=some (some (.ref (L.p.cl n)))/\excIn L.p.K (L.p.cl n) G1 "ValueError.__new__" = true
 | .gl x d=>∃ u,L.mg x=some u/\RelV (dT d).val u
noncomputable def AllN (f:Nd1->Prop):List Nd1->Prop
 | []=>True
 | n :: r=>f n/\AllN f r
theorem AllN.mem {f:Nd1->Prop}:∀ {l:List Nd1},AllN f l->∀ n ∈ l,f n
 | [],_,n,h=>by cases h
 | m :: r,h,n,hn=>by
  rcases aaj.mp hn with rfl | hn
  ·exact h.1
  ·exact AllN.mem h.2 n hn
noncomputable def Av (name:Str) (ar lv dep n:Nat) (body:Ss):Fn:=⟨name,ar,lv,dep,fun ds=>if ds.length=ar then run n body ds else .bad⟩
theorem Ak {x:Str} {ar lv dep n:Nat} {b:Ss} {ds:List D} (h:ds.length=ar):(Av x ar lv dep n b).den ds=run n b ds:=if_pos h
noncomputable def m0 (ar n:Nat):Ms:=aai ar .sh ++ aai (n - ar) .dead
noncomputable def τ0 (n:Nat) (ts:List T):Ft:=ts.map some ++ aai (n - ts.length) none
theorem vτ0 (N:List Str) (ts:List T):vτ (τ0 N.length ts)=L2.AG N (ts.map T.val):=by
 unfold vτ τ0 L2.AG
 rw [aam,aa1,aa1,aa8,aaa]
 rfl
theorem dτ0 (n:Nat) (ts:List T):dτ (τ0 n ts)=Pu.AG n (T.dats ts):=by
 unfold dτ τ0 Pu.AG
 rw [aam,aa1,T.dats_map,aa1,aa8,aaa]
 rfl
theorem IJ {ar n i:Nat} {d:Md} (h:(m0 ar n)[i]?=some d):(i < ar/\d=.sh)\/(ar<=i/\d=.dead):=by
 unfold m0 at h
 by_cases hi:i < ar
 ·rw [aaG (by simpa using hi),aaL,if_pos hi] at h
  exact .inl ⟨hi,(Option.some.inj h).symm⟩
 ·rw [aax (by simpa using hi),aaL] at h
  split at h
  ·exact .inr ⟨aaZ hi,(Option.some.inj h).symm⟩
  ·cases h
theorem JW {n i:Nat} {ts:List T} {t:T} (h:(τ0 n ts)[i]?=some (some t)):t ∈ ts:=by
 unfold τ0 at h
 have:=aae h
 rw [aaf] at this
 rcases this with z | z
 ·obtain ⟨u,hu,e⟩:=aaW.mp z
  cases e; exact hu
 ·have:=(abz.mp z).2; cases this
theorem JX {p:Px} {H:Hp}:∀ {ts:List T},T.Oks p H ts->∀ t ∈ ts,t.Ok p H
 | [],_,t,h=>by cases h
 | u :: r,h,t,ht=>by
  rcases aaj.mp ht with rfl | ht
  ·exact h.1
  ·exact JX h.2 t ht
theorem sf0 {p:Px} {H:Hp} {ts:List T} {n ar:Nat} (ok:T.Oks p H ts) (hl:ts.length=ar) (hn:ar<=n):Sf p H (fun a=>a ∈ T.rests ts 0) (m0 ar n) (τ0 n ts) H:=by
 have noOw:∀ {i k:Nat},(m0 ar n)[i]? ≠ some (.ow k):=fun {i k} h=>by
  rcases IJ h with ⟨_,z⟩ | ⟨_,z⟩ <;> cases z
 refine ⟨?_,fun d hd=>?_,Same.refl _,fun i t j h1 h2 h3=>JX ok t (JW h1),fun i t k a h1 h2=>absurd h2 noOw,?_,fun i t k h1 h2=>absurd h2 noOw,fun i j t u k d h0 h1 h2=>absurd h2 noOw,fun i j t u k k2 h1 h2=>absurd h2 noOw⟩
 ·unfold τ0 m0
  simp [hl]
 ·obtain ⟨i,hi⟩:=List.getElem?_of_mem hd
  rcases IJ hi with ⟨_,rfl⟩ | ⟨_,rfl⟩ <;> rfl
 ·rintro a ⟨i,t,j,h1,h2,h3,h4⟩
  obtain ⟨d,h5,rfl⟩:=Ba h2
  right
  refine T.mem_rests.mpr ⟨t,JW h1,?_⟩
  rcases IJ h5 with ⟨_,rfl⟩ | ⟨_,rfl⟩
  ·exact h4
  ·exact absurd h3 (by decide)
theorem NeedG.to {L:Lw} {lv:Nat} {n:Nd1} (h:NeedG L lv n) {X:Cx} (e1:X.prog=L.P) (e2:X.w=L.w) (e3:X.K=L.p.K) (e4:X.mg=L.mg) (e5:X.base=L.base):NeedOk L.p lv X n:=by
 cases n with
 | fn F =>
  refine ⟨h.1,?_⟩
  unfold Kv
  rw [e1,e2,e3,e4,e5]
  exact h.2
 | cl n=>show _/\_; rw [e4]; exact h
 | rs n=>show _/\_/\_; rw [e3]; exact h
 | gl x d=>show ∃ u,_; rw [e4]; exact h
theorem L8 {L:Lw} (O:L.Ok) {x:Str} {st:Stmt} {N ps:List Str} {ar lv dep:Nat} {body:Ss} {f:Addr} {fd:FuncData} (D:Fun L.p.K x x st f fd) (S:FnScope N ps (Ag st)) (har:ps.length=ar)
  (hck:ckSs ⟨N,Ag st,true,true,true⟩ body (AL st)=true) (hms:(msSs (aai N.length .dead) dep body (m0 ar N.length)).isSome=true) (hn:AllN (NeedG L lv) body.need):FnOk L.P L.w L.p.K L.mg L.base (CXe L.P L.w) (lv + 1) f fd ps (spF L.p (Av x ar (lv + 1) dep N.length body)):=by
 have hpl:ps.length<=N.length:=by have:=congrArg abD S.pre; rw [aaU] at this; omega
 refine Fun.okX D S (fun vs H Q E h=>?_) fun f cdv A outer s H vs Q E hr hsp=>?_
 ·obtain ⟨ts,rfl,_,h,_⟩:=h
  rw [aaa,h]; exact har.symm
 ·obtain ⟨ts,rfl,ok,hl,h⟩:=hsp
  have hl:ts.length=ar:=hl
  obtain ⟨r,hr'⟩:=aav.mp hms
  let Z:Zx:=⟨L.p,H,fun a=>a ∈ T.rests ts 0,fun _=>E,aai N.length .dead,dep⟩
  have C:Cs Z ⟨N,Ag st,true,true,true⟩ lv (BC (CXe L.P L.w) L.P L.w L.p.K L.mg L.base N x (Ag st) f cdv A outer s H E) E:=by
   refine ⟨⟨rfl,rfl,rfl,S.nd,fun _=>rfl,fun _=>hr,hr.units,O.blt,O.bt,?_,fun _ _=>rfl,O.kx⟩,fun _=>rfl,fun _=>MI fun _ _ _ h=>h,fun _=>PassesOwn.leaving,S.kind,rfl,rfl⟩
   intro pins σ H' s' e s'' I h
   exact Rn (fun _ _ _ h=>h) pins σ H' s' e s'' I h
  refine ⟨_,sndSs C body (AL st) (fun n hnm=>(hn.mem n hnm).to rfl rfl rfl rfl rfl) hck,τ0 N.length ts,m0 ar N.length,r,(vτ0 N ts).symm,sf0 ok hl (by omega),hr',?_⟩
  have h:match (if (T.dats ts).length=ar then run N.length body (T.dats ts) else .bad) with
   | .ok d=>∀ t H',t.dat=d->Rs L.p (fun a=>a ∈ T.rests ts 0) H H' 0 dep t->Q t.val H'
   | .exc c=>L.p.has c=true->∀ H',Same H H'->E (.ref (L.p.cl c)) none H'
   | .bad=>False:=h
  rw [if_pos (by rw [T.dats_map,aaa]; exact hl)] at h
  unfold run at h
  rw [dτ0]
  cases q:exs body (Pu.AG N.length (T.dats ts)) with
  | nxt δ =>
   rw [q] at h
   intro m' τ' H' e1 e2 S' P'
   exact h .non H' rfl (Rs.scal S'.same rfl)
  | ret d =>
   rw [q] at h
   exact h
  | exc c δ =>
   rw [q] at h
   intro hc τ' H' e S' P'
   exact h hc H' S'.same
  | bad=>rw [q] at h; exact h.elim
theorem OP {L:Lw} (O:L.Ok) {x:Str} {st:Stmt} {N ps:List Str} {ar lv dep:Nat} {body:Ss} (D:Df L.p.K L.mg x st ps) (S:FnScope N ps (Ag st)) (har:ps.length=ar)
  (hck:ckSs ⟨N,Ag st,true,true,true⟩ body (AL st)=true) (hms:(msSs (aai N.length .dead) dep body (m0 ar N.length)).isSome=true) (hn:AllN (NeedG L lv) body.need):Nh L (Av x ar (lv + 1) dep N.length body):=by
 obtain ⟨f,fd,F,m,b⟩:=D
 exact ⟨ps,har,f,fd,L8 O F S har hck hms hn,m,F.kp,b⟩
noncomputable def Si:Value->Bool
 | .type x=>x == "list"
 | _=>false
noncomputable def noL (K:Frag):Bool:=K.all fun e=>!Si e.2.cls
theorem L9 {a:Addr} {o:Obj}:∀ {K:Frag},K.lookup a=some o->(a,o) ∈ K
 | [],h=>by cases h
 | (b,u) :: r,h=>by
  by_cases e:a=b
  ·subst e
   rw [List.lookup_cons_self] at h
   cases h
   exact aac
  ·have:(a==b)=false:=by simpa using e
   rw [List.lookup_cons,this] at h
   exact aab _ (L9 h)
theorem QC {K:Frag} (h:noL K=true) {a:Addr} {o:Obj} (e:K.lookup a=some o):o.cls ≠ .type "list" := fun z=>by
 have:=aaH.mp h (a,o) (L9 e)
 rw [z] at this
 cases this
noncomputable def spL (K:Frag):Sp:=fun vs H Q E=>∃ (a:Addr) (ns:List Int),vs=[.ref a]/\ns.length<=63/\SqL K H a (ns.map V.int)/\∀ H',Q (.bl true) H'
theorem IK:∀ ns:List Int,(ns.map T.int).map T.val=ns.map V.int
 | []=>rfl
 | n :: r=>by rw [aaz,aaz,aaz,IK r]; rfl
theorem IL:∀ ns:List Int,T.dats (ns.map T.int)=ns.map D.int
 | []=>rfl
 | n :: r=>by rw [aaz,aaz,T.dats,IL r]; rfl
theorem JY {p:Px} {H:Hp}:∀ ns:List Int,T.Oks p H (ns.map T.int)
 | []=>trivial
 | n :: r=>⟨trivial,JY r⟩
theorem QD {P:Program} {w:World} {K:Frag} {mg:Str->Option Value} {base:Heap} {p:Px} {F:Fn} {f:Addr} {fd:FuncData} {ps:List Str} (hF:FnOk P w K mg base (CXe P w) F.lv f fd ps (spF p F)) (hp:p.K=K) (ha:F.ar=1) (hK:noL K=true)
  (hd:∀ ns:List Int,ns.length<=63->F.den [.lst (ns.map .int)]=.ok (.bl true)):FnOk P w K mg base (CXe P w) F.lv f fd ps (spL K):=by
 refine hF.imp fun vs H Q E h=>?_
 obtain ⟨a,ns,rfl,hl,hS,q⟩:=h
 have hR:Rd H a (.lst (ns.map V.int)):=by
  rcases hS with h | ⟨o,its,n,e,c,_⟩
  ·exact h
  ·exact absurd c (QC hK e)
 refine ⟨[.lst a (ns.map T.int)],rfl,⟨⟨by rw [IK]; exact hR,JY ns⟩,trivial⟩,ha.symm,?_⟩
 have e:T.dats [T.lst a (ns.map T.int)]=[.lst (ns.map .int)]:=by
  show [D.lst (T.dats (ns.map T.int))]=_
  rw [IL]
 rw [e,hd ns hl]
 intro t H' ht R
 cases t <;> first | cases ht | skip
 exact q H'
theorem Rz {l:PySem.W.OpenLaw} {k:Nat} {q:Program} {loose:List Str} {XP:(Str->Option Value)->Heap->Prop} {YP:World->Heap->Prop} {d:DefRec} {K:Params->PySem.W.Frag} {x:Str} (hn:l.most=some 63) (hdf:d.params.defaults=[]) (hr:Room k callerA)
  (hY:∀ (w:World) (h:Heap),YP w h->(K w.params).In h)
  (F:∀ (w:World) (mg:Str->Option Value) (fa:Addr) (h:Heap),(K w.params).In h->h.Ns mainGlobals mg->mg d.name=some (.ref fa) ->
   ∃ fd:FuncData,(∀ (s:Shared) (u:Value),BindsTo s fd ⟨[u],[]⟩ [(x,u)])/\∀ base:Heap,(K w.params).In base->base.Ns mainGlobals mg->FnOk l.prog w (K w.params) mg base (CXe l.prog w) k fa fd [x] (spL (K w.params))) :
  PySem.W.WalkO q loose XP YP l.row.toRowW d [] (fun f vs=>PySem.call f vs) :=
 L2.N4 (n:=63) (k:=k) (x:=x) (CX:=fun w=>CXe l.prog w) (sp:=fun w=>spL (K w.params)) hn (by decide) hdf hr hY F (fun _ _ a ns hl _ hS=>⟨a,ns,rfl,hl,hS,fun _=>rfl⟩) fun w H s e s' h=>by
  obtain ⟨_,_,_,_,_,_,_,_,_,_,_,_,_,_,_,_,_,_,z⟩:=h
  exact z
noncomputable def Az (K:Frag) (x:Str) (st:Stmt):Prop:=∃ (f:Addr) (oc:Value) (od an:Option Addr) (sl:Array (Option Value)) (kV dc pm cd ct:Value),nsIn K mainGlobals x=some (some (.ref f))/\K.lookup f=some ⟨oc,od,.func (fnOf x x (BM st) (AL st) (Ag st) .none kV dc pm an cd ct),sl⟩/\codeIn K cd x=true/\keepIn K (.ref f)=true
theorem AD {K:Frag} {x:Str} {st:Stmt} {f:Addr} {oc:Value} {od an:Option Addr} {sl:Array (Option Value)} {kV dc pm cd ct:Value} (a:nsIn K mainGlobals x=some (some (.ref f))) (l:K.lookup f=some ⟨oc,od,.func (fnOf x x (BM st) (AL st) (Ag st) .none kV dc pm an cd ct),sl⟩) (c:codeIn K cd x=true) (k:keepIn K (.ref f)=true):Az K x st:=⟨f,oc,od,an,sl,kV,dc,pm,cd,ct,a,l,c,k⟩
theorem Al {K:Frag} {h:Heap} {mg:Str->Option Value} {x:Str} {st:Stmt} {ps:List Str} (X:K.In h) (G:h.Ns mainGlobals mg) (t:Az K x st) (hb:∀ (kV doc pm:Value) (an:Option Addr) (cdv ct:Value) (us:List Value),us.length=ps.length->bindArgs (fnOf x x (BM st) (AL st) (Ag st) .none kV doc pm an cdv ct) ⟨us,[]⟩=pure (ps.zip us)):Df K mg x st ps:=by
 obtain ⟨f,oc,od,an,sl,kV,dc,pm,cd,ct,a,l,c,k⟩:=t
 exact Rp X G a l c k hb
theorem ba1 {fd:FuncData} {a0:Str} (h:∀ u0:Value,bindArgs fd ⟨[u0],[]⟩=pure [(a0,u0)]):∀ us:List Value,us.length=([a0]:List Str).length->bindArgs fd ⟨us,[]⟩=pure (([a0]:List Str).zip us)
 | [u0],_=>h u0
theorem ba2 {fd:FuncData} {a0 a1:Str} (h:∀ u0 u1:Value,bindArgs fd ⟨[u0,u1],[]⟩=pure [(a0,u0),(a1,u1)]):∀ us:List Value,us.length=([a0,a1]:List Str).length->bindArgs fd ⟨us,[]⟩=pure (([a0,a1]:List Str).zip us)
 | [u0,u1],_=>h u0 u1
theorem ba3 {fd:FuncData} {a0 a1 a2:Str} (h:∀ u0 u1 u2:Value,bindArgs fd ⟨[u0,u1,u2],[]⟩=pure [(a0,u0),(a1,u1),(a2,u2)]):∀ us:List Value,us.length=([a0,a1,a2]:List Str).length->bindArgs fd ⟨us,[]⟩=pure (([a0,a1,a2]:List Str).zip us)
 | [u0,u1,u2],_=>h u0 u1 u2
theorem ba4 {fd:FuncData} {a0 a1 a2 a3:Str} (h:∀ u0 u1 u2 u3:Value,bindArgs fd ⟨[u0,u1,u2,u3],[]⟩=pure [(a0,u0),(a1,u1),(a2,u2),(a3,u3)]):∀ us:List Value,us.length=([a0,a1,a2,a3]:List Str).length->bindArgs fd ⟨us,[]⟩=pure (([a0,a1,a2,a3]:List Str).zip us)
 | [u0,u1,u2,u3],_=>h u0 u1 u2 u3
structure ClsF (K:Frag) (x:Str) (C:Addr):Prop where
 q:nsIn K mainGlobals x=some (some (.ref C))
 x:XCls K C
 t:∀ T ∈ (["int", "bool", "str", "list", "tuple", "dict"]:List String),kitOne K (.ref C) (.type T)=some false
 v:kitOne K (.ref C) (.type "ValueError")=some true
theorem Sj {K:Frag} {x:Str} {C:Addr} {cd:ClassData} (q:nsIn K mainGlobals x=some (some (.ref C)))
  (ga:findIn K (.ref C) "__getattribute__" = some (some (.builtin "BaseException.__getattribute__"))) (gn:findIn K (.ref C) "__getattr__" = some none) (sb:subIn K (.ref C) (.type "BaseException")=some true)
  (cl:findIn K (.ref C) "__class__" = some (some (.builtin "object.__class__"))) (mo:mroIn K C (.type "object")=some true) (ty:typeIn K (.ref C)=some (.type "type")) (cc:clsIn K C=some cd)
  (t1:kitOne K (.ref C) (.type "int")=some false) (t2:kitOne K (.ref C) (.type "bool")=some false) (t3:kitOne K (.ref C) (.type "str")=some false) (t4:kitOne K (.ref C) (.type "list")=some false) (t5:kitOne K (.ref C) (.type "tuple")=some false) (t6:kitOne K (.ref C) (.type "dict")=some false)
  (v:kitOne K (.ref C) (.type "ValueError")=some true):ClsF K x C:=by
 refine ⟨q,⟨ga,gn,sb,cl,mo,ty,by rw [cc]; rfl⟩,fun T hT=>?_,v⟩
 simp only [aaj,abu,or_false] at hT
 rcases hT with rfl | rfl | rfl | rfl | rfl | rfl <;> assumption
noncomputable abbrev Cs':=List (Nat × Addr)
noncomputable def clA:Cs'->Nat->Addr
 | [],_=>0
 | (c,a) :: r,n=>if n=c then a else clA r n
noncomputable def Dk:Cs'->Nat->Bool
 | [],_=>false
 | (c,_) :: r,n=>n==c || Dk r n
noncomputable def AllC {α:Type} (f:α->Prop):List α->Prop
 | []=>True
 | q :: r=>f q/\AllC f r
theorem AllC.mem {α:Type} {f:α->Prop}:∀ {l:List α},AllC f l->∀ n ∈ l,f n
 | [],_,n,h=>by cases h
 | m :: r,h,n,hn=>by
  rcases aaj.mp hn with rfl | hn
  ·exact h.1
  ·exact AllC.mem h.2 n hn
theorem Dl:∀ {cs:Cs'} {n:Nat},Dk cs n=true->(n,clA cs n) ∈ cs
 | [],n,h=>by cases h
 | (c,a) :: r,n,h=>by
  unfold Dk at h
  unfold clA
  by_cases e:n=c
  ·subst e; rw [if_pos rfl]; exact aac
  ·rw [if_neg e]
   have:(n==c)=false:=by simpa using e
   rw [this,Bool.false_or] at h
   exact aab _ (Dl h)
theorem RA {K:Frag} {cs:Cs'} (h9:Dk cs 999=false) (h:AllC (fun q=>ClsF K (A5 q.1) q.2) cs) (y:AllC (fun q=>AllC (fun r=>kitOne K (.ref q.2) (.ref r.2)=some (isa q.1 r.1)) cs) cs):Kx ⟨K,clA cs,Dk cs⟩ :=
 ⟨h9,fun c hc=>(h.mem _ (Dl hc)).x,fun c hc=>(h.mem _ (Dl hc)).t,fun c hc=>(h.mem _ (Dl hc)).v,fun c d hc hd=>(y.mem _ (Dl hc)).mem _ (Dl hd)⟩
theorem RB {K:Frag} {P:Program} {w:World} {mg:Str->Option Value} {base h:Heap} {cs:Cs'} (h9:Dk cs 999=false) (X:K.In h) (G:h.Ns mainGlobals mg) (nb:AllC (fun y=>nsIn K mainGlobals y=some none) (Fe ++ (["bool", "dict", "ValueError"]:List Str))) (hc:AllC (fun q=>ClsF K (A5 q.1) q.2) cs) (y:AllC (fun q=>AllC (fun r=>kitOne K (.ref q.2) (.ref r.2)=some (isa q.1 r.1)) cs) cs):Lw.Ok ⟨⟨K,clA cs,Dk cs⟩,P,w,mg,base⟩ :=
 ⟨fun z hz=>mg_none_of X G (nb.mem z (aay _ hz)),fun z hz=>mg_none_of X G (nb.mem z (aah _ hz)),RA h9 hc y⟩
noncomputable def dfB (N:List Str) (ps:List Str) (st:Stmt) (b:Ss) (dep:Nat):Bool :=
 decide ((Ag st).kind=.function) && !(Ag st).isCoroutine && !(Ag st).isGenerator && decide N.Nodup && decide (N.take ps.length=ps) && ps.all (fun x=>decide ((Ag st).names.lookup x=some .local\/(Ag st).names.lookup x=some .cell)) && (Ag st).names.all (fun y=>decide (y.2 ≠ .free)) && ckSs ⟨N,Ag st,true,true,true⟩ b (AL st) && (msSs (aai N.length .dead) dep b (m0 ps.length N.length)).isSome
theorem EG {N ps:List Str} {st:Stmt} {b:Ss} {dep:Nat} (h:dfB N ps st b dep=true):FnScope N ps (Ag st)/\ckSs ⟨N,Ag st,true,true,true⟩ b (AL st)=true/\(msSs (aai N.length .dead) dep b (m0 ps.length N.length)).isSome=true:=by
 unfold dfB at h
 simp only [aak,decide_eq_true_eq,aaH,abU] at h
 obtain ⟨⟨⟨⟨⟨⟨⟨⟨h1,h2⟩,h3⟩,h4⟩,h5⟩,h6⟩,h7⟩,h8⟩,h9⟩:=h
 exact ⟨⟨h1,h2,h3,h4,h5,h6,h7⟩,h8,h9⟩
theorem Am {L:Lw} (O:L.Ok) {x:Str} {st:Stmt} {N ps:List Str} {lv dep:Nat} {b:Ss} (D:Df L.p.K L.mg x st ps) (h:dfB N ps st b dep=true) (hn:AllN (NeedG L lv) b.need):Nh L (Av x ps.length (lv + 1) dep N.length b) :=
 OP O D (EG h).1 rfl (EG h).2.1 (EG h).2.2 hn
theorem OQ {l:PySem.W.OpenLaw} {w:World} {K:Frag} {h:Heap} {mg:Str->Option Value} {fa:Addr} {cs:Cs'} {x:Str} {st:Stmt} {N:List Str} {lv dep:Nat} {b:Ss} (X:K.In h) (G:h.Ns mainGlobals mg) (hfa:mg "law" = some (.ref fa)) (t:Az K "law" st) (hck:dfB N [x] st b dep=true)
  (hb:∀ (kV dc pm:Value) (an:Option Addr) (cd ct:Value) (s:Shared) (v:Value),BindsTo s (fnOf "law" "law" (BM st) (AL st) (Ag st) .none kV dc pm an cd ct) ⟨[v],[]⟩ [(x,v)])
  (O:∀ base:Heap,Lw.Ok ⟨⟨K,clA cs,Dk cs⟩,l.prog,w,mg,base⟩) (hn:∀ base:Heap,AllN (NeedG ⟨⟨K,clA cs,Dk cs⟩,l.prog,w,mg,base⟩ lv) b.need) (nl:noL K=true)
  (hden:∀ ns:List Int,ns.length<=63->(Av "law" 1 (lv + 1) dep N.length b).den [.lst (ns.map .int)]=.ok (.bl true)) :
  ∃ fd:FuncData,(∀ (s:Shared) (v:Value),BindsTo s fd ⟨[v],[]⟩ [(x,v)])/\∀ base:Heap,K.In base->base.Ns mainGlobals mg->FnOk l.prog w K mg base (CXe l.prog w) (lv + 1) fa fd [x] (spL K):=by
 obtain ⟨f,oc,od,an,sl,kV,dc,pm,cd,ct,a,l',c,k⟩:=t
 have e:=hfa.symm.trans (mg_of X G a)
 cases e
 refine ⟨_,hb kV dc pm an cd ct,fun base _ _=>?_⟩
 exact QD (F:=Av "law" 1 (lv + 1) dep N.length b) (L8 (L:=⟨⟨K,clA cs,Dk cs⟩,l.prog,w,mg,base⟩) (O base) (Lu (st:=st) l' c k) (EG hck).1 rfl (EG hck).2.1 (EG hck).2.2 (hn base)) rfl rfl nl hden
end Pu
end
namespace Pu
open PySem PySem.Spec PyProof.Rows PySem.W L2
noncomputable def GH:Ss :=
 (.cons (.ret (.bo true (.cons (.isi (.nm 0) .int) (.cons (.not (.isi (.nm 0) .bool)) .nil))))
 .nil)
noncomputable def FP:Fn:=Av "is_whole" 1 1 9 1 GH
noncomputable def CT:Ss :=
 (.cons (.ret (.bo true (.cons (.call FP (.cons (.nm 0) .nil)) (.cons (.chain .le .le (.nm 1) (.nm 0) (.nm 2)) .nil))))
 .nil)
noncomputable def CD:Fn:=Av "is_between" 3 2 9 3 CT
theorem HJ (ds:List D) (h:ds.length=3):CD.den ds=run 3 CT ds:=Ak h
noncomputable def BR:Ss :=
 (.cons (.mut 2 [] .append (.cons (.nm 3) .nil))
 (.cons (.asg 3 0 (.bin .fdiv (.bin .sub (.bin .add (.nm 3) (.nm 1)) (.cI 1)) (.nm 1)))
 .nil))
noncomputable def D3:Ss :=
 (.cons (.asg 1 0 (.ix (.nm 0) (.cI 1)))
 (.cons (.asg 2 2 (.lst .nil))
 (.cons (.asg 3 0 (.ix (.nm 0) (.cI 0)))
 (.cons (.dem 2 1)
 (.cons (.wh (.cmp .gt (.nm 3) (.cI 1))
 BR)
 (.cons (.iff (.cmp .eq (.nm 3) (.cI 1))
 (.cons (.mut 2 [] .append (.cons (.nm 3) .nil))
 .nil)
 .nil)
 (.cons (.ret (.nm 2))
 .nil)))))))
noncomputable def Dw:Fn:=Av "levels" 1 1 1 4 D3
theorem HA (ds:List D) (h:ds.length=1):Dw.den ds=run 4 D3 ds:=Ak h
noncomputable def AM:Ss :=
 (.cons (.iff (.bo false (.cons (.not (.isi (.nm 1) .tuple)) (.cons (.cmp .ne (.bi .len (.cons (.nm 1) .nil)) (.cI 2)) .nil)))
 (.cons (.ret (.cB false))
 .nil)
 .nil)
 (.cons (.iff (.not (.call CD (.cons (.ix (.nm 1) (.cI 0)) (.cons (.cI 0) (.cons (.bin .sub (.bi .len (.cons (.nm 0) .nil)) (.cI 1)) .nil)))))
 (.cons (.ret (.cB false))
 .nil)
 .nil)
 (.cons (.ret (.call CD (.cons (.ix (.nm 1) (.cI 1)) (.cons (.cI 0) (.cons (.bin .sub (.ix (.nm 0) (.ix (.nm 1) (.cI 0))) (.cI 1)) .nil)))))
 .nil)))
noncomputable def Bl:Fn:=Av "is_counted_node" 2 3 9 2 AM
theorem Dx (ds:List D) (h:ds.length=2):Bl.den ds=run 2 AM ds:=Ak h
noncomputable def Dy:Ss :=
 (.cons (.ret (.call Bl (.cons (.call Dw (.cons (.nm 0) .nil)) (.cons (.nm 1) .nil))))
 .nil)
noncomputable def CU:Fn:=Av "is_node" 2 4 9 2 Dy
theorem GI (ds:List D) (h:ds.length=2):CU.den ds=run 2 Dy ds:=Ak h
noncomputable def CW:Ss :=
 (.cons (.iff (.not (.call CU (.cons (.nm 0) (.cons (.nm 1) .nil))))
 (.cons (.raise 2 (.cons (.cS "this is no node of the shape") .nil))
 .nil)
 .nil)
 .nil)
noncomputable def DD:Fn:=Av "check_node" 2 5 9 2 CW
theorem HK (ds:List D) (h:ds.length=2):DD.den ds=run 2 CW ds:=Ak h
noncomputable def Ek:Ss :=
 (.cons (.asg 2 0 (.bin .mul (.nm 2) (.ix (.nm 0) (.cI 1))))
 .nil)
noncomputable def GJ:Ss :=
 (.cons (.expr (.call DD (.cons (.nm 0) (.cons (.nm 1) .nil))))
 (.cons (.asg 2 0 (.cI 1))
 (.cons (.for_ (.nm 3) (.r1 (.ix (.nm 1) (.cI 0)))
 Ek)
 (.cons (.asg 4 0 (.bin .mul (.ix (.nm 1) (.cI 1)) (.nm 2)))
 (.cons (.ret (.tup (.cons (.nm 4) (.cons (.bi .min (.cons (.bin .add (.nm 4) (.nm 2)) (.cons (.ix (.nm 0) (.cI 0)) .nil))) .nil))))
 .nil)))))
noncomputable def DT:Fn:=Av "span" 2 6 0 5 GJ
theorem OR (ds:List D) (h:ds.length=2):DT.den ds=run 5 GJ ds:=Ak h
noncomputable def CM:Ss :=
 (.cons (.asg 2 0 (.ix (.nm 0) (.cI 1)))
 (.cons (.iff (.cmp .eq (.ix (.nm 0) (.cI 1)) (.ix (.nm 0) (.cI 0)))
 (.cons (.asg 2 0 (.bin .add (.ix (.nm 0) (.cI 0)) (.ix (.nm 1) (.cI 1))))
 .nil)
 .nil)
 (.cons (.asg 3 0 (.ix (.nm 1) (.cI 2)))
 (.cons (.iff (.cmp .eq (.ix (.nm 1) (.cI 2)) (.ix (.nm 1) (.cI 0)))
 (.cons (.asg 3 0 (.bin .add (.ix (.nm 1) (.cI 0)) (.ix (.nm 0) (.cI 2))))
 .nil)
 .nil)
 (.cons (.ret (.tup (.cons (.bin .add (.ix (.nm 0) (.cI 0)) (.ix (.nm 1) (.cI 0))) (.cons (.nm 2) (.cons (.nm 3) (.cons (.bi .max3 (.cons (.ix (.nm 0) (.cI 3)) (.cons (.ix (.nm 1) (.cI 3)) (.cons (.bin .add (.ix (.nm 0) (.cI 2)) (.ix (.nm 1) (.cI 1))) .nil)))) .nil))))))
 .nil)))))
noncomputable def Fl:Fn:=Av "joined" 2 1 0 4 CM
theorem Ma (ds:List D) (h:ds.length=2):Fl.den ds=run 4 CM ds:=Ak h
noncomputable def AR:Ss :=
 (.cons (.asg 5 0 (.tup (.cons (.ix (.nm 4) (.cI 0)) (.cons (.ix (.nm 4) (.cI 1)) .nil))))
 (.cons (.iff (.bo false (.cons (.not (.call CU (.cons (.nm 0) (.cons (.nm 5) .nil)))) (.cons (.cmp .ne (.ix (.call DT (.cons (.nm 0) (.cons (.nm 5) .nil))) (.cI 0)) (.nm 3)) .nil)))
 (.cons (.ret (.cB false))
 .nil)
 .nil)
 (.cons (.asg 3 0 (.ix (.call DT (.cons (.nm 0) (.cons (.nm 5) .nil))) (.cI 1)))
 .nil)))
noncomputable def Cv:Ss :=
 (.cons (.asg 3 0 (.ix (.nm 1) (.cI 0)))
 (.cons (.for_ (.nm 4) (.seq (.nm 2))
 AR)
 (.cons (.ret (.cmp .eq (.nm 3) (.ix (.nm 1) (.cI 1))))
 .nil)))
noncomputable def D4:Fn:=Av "lies_over" 3 7 9 6 Cv
theorem IM (ds:List D) (h:ds.length=3):D4.den ds=run 6 Cv ds:=Ak h
noncomputable def BK:Ss :=
 (.cons (.iff (.isN false (.nm 2))
 (.cons (.ret (.tup (.cons (.cI 0) (.cons (.nm 0) .nil))))
 .nil)
 .nil)
 (.cons (.ret (.tup (.cons (.cI 0) (.cons (.bi .max (.cons (.bin .sub (.bin .add (.nm 2) (.nm 1)) (.cI 1)) (.cons (.cI 0) .nil))) .nil))))
 .nil))
noncomputable def Cg:Fn:=Av "pages_ahead" 3 1 0 3 BK
theorem G8 (ds:List D) (h:ds.length=3):Cg.den ds=run 3 BK ds:=Ak h
noncomputable def AN:Ss :=
 (.cons (.asg 1 0 (.call Fl (.cons (.nm 1) (.cons (.ix (.nm 2) (.cI 2)) .nil))))
 .nil)
noncomputable def Ch:Ss :=
 (.cons (.asg 1 0 (.tup (.cons (.cI 0) (.cons (.cI 0) (.cons (.cI 0) (.cons (.cI 0) .nil))))))
 (.cons (.for_ (.nm 2) (.seq (.nm 0))
 AN)
 (.cons (.ret (.ix (.nm 1) (.cI 3)))
 .nil)))
noncomputable def CY:Fn:=Av "longest_told" 1 2 0 3 Ch
theorem GK (ds:List D) (h:ds.length=1):CY.den ds=run 3 Ch ds:=Ak h
noncomputable def FH:Ss :=
 (.cons (.asg 2 0 (.call DT (.cons (.nm 0) (.cons (.tup (.cons (.ix (.nm 1) (.cI 0)) (.cons (.ix (.nm 1) (.cI 1)) .nil))) .nil))))
 (.cons (.ret (.bin .sub (.ix (.nm 2) (.cI 1)) (.ix (.nm 2) (.cI 0))))
 .nil))
noncomputable def D5:Fn:=Av "width" 2 7 1 3 FH
theorem Ni (ds:List D) (h:ds.length=2):D5.den ds=run 3 FH ds:=Ak h
noncomputable def Cw:Ss :=
 (.cons (.iff (.not (.call D4 (.cons (.nm 0) (.cons (.call Cg (.cons (.ix (.nm 0) (.cI 0)) (.cons (.nm 1) (.cons (.nm 2) .nil)))) (.cons (.nm 3) .nil)))))
 (.cons (.ret (.cB false))
 .nil)
 .nil)
 (.cons (.iff (.not (.bi .all (.cons (.comp0 1 [0] (.nm 0) (.seq (.nm 3)) (.cmp .eq (.ix (.ix (.nm 0) (.cI 2)) (.cI 0)) (.call D5 (.cons (.nm 1) (.cons (.nm 0) .nil))))) .nil)))
 (.cons (.ret (.cB false))
 .nil)
 .nil)
 (.cons (.ret (.cmp .lt (.call CY (.cons (.nm 3) .nil)) (.nm 1)))
 .nil)))
noncomputable def B6:Fn:=Av "row_shows" 4 8 9 4 Cw
theorem IN (ds:List D) (h:ds.length=4):B6.den ds=run 4 Cw ds:=Ak h
theorem IO:B6.dep=9:=rfl
noncomputable def DE:Ss :=
 (.cons (.asg 2 0 (.bin .mod (.bin .add (.bin .add (.bin .mul (.nm 2) (.cI 48271)) (.bin .mod (.nm 3) (.cI 1000003))) (.cI 1)) (.cI 2147483647)))
 .nil)
noncomputable def CZ:Ss :=
 (.cons (.iff (.cmp .lt (.nm 1) (.bi .len (.cons (.nm 0) .nil)))
 (.cons (.ret (.ix (.nm 0) (.nm 1)))
 .nil)
 .nil)
 (.cons (.asg 2 0 (.cI 5))
 (.cons (.for_ (.nm 3) (.seq (.slc (.nm 0) .cN (.cI 63)))
 DE)
 (.cons (.ret (.bin .mod (.bin .add (.nm 2) (.bin .mul (.cI 7919) (.nm 1))) (.cI 1000003)))
 .nil))))
noncomputable def Cy:Fn:=Av "_law_cell" 2 1 0 4 CZ
theorem Js (ds:List D) (h:ds.length=2):Cy.den ds=run 4 CZ ds:=Ak h
noncomputable def CF:Ss :=
 (.cons (.asg 2 0 (.bin .mod (.bin .pow (.bin .add (.bin .add (.bin .mod (.nm 0) (.cI 2147483629)) (.bin .mul (.cI 1013) (.nm 1))) (.cI 7919)) (.cI 3)) (.cI 2147483647)))
 (.cons (.asg 3 0 (.bin .mod (.bin .add (.bin .add (.bin .mul (.nm 2) (.cI 40699)) (.bin .mul (.bin .mul (.cI 3793) (.nm 1)) (.nm 1))) (.cI 11)) (.cI 2147483399)))
 (.cons (.ret (.bin .fdiv (.nm 3) (.cI 101)))
 .nil)))
noncomputable def Ci:Fn:=Av "_law_mix" 2 1 1 4 CF
theorem G9 (ds:List D) (h:ds.length=2):Ci.den ds=run 4 CF ds:=Ak h
noncomputable def Ax:Ss :=
 (.cons (.iff (.cmp .lt (.nm 3) (.bin .pow (.cI 10) (.cI 18)))
 (.cons (.mut 5 [] .append (.cons (.bin .mod (.call Ci (.cons (.nm 3) (.cons (.nm 6) .nil))) (.ix (.nm 2) (.nm 6))) .nil))
 .nil)
 (.cons (.iff (.cmp .gt (.nm 4) (.cI 0))
 (.cons (.mut 5 [] .append (.cons (.bin .mod (.nm 4) (.ix (.nm 2) (.nm 6))) .nil))
 (.cons (.asg 4 0 (.bin .fdiv (.nm 4) (.ix (.nm 2) (.nm 6))))
 .nil))
 (.cons (.asg 7 0 (.call Cy (.cons (.nm 0) (.cons (.bin .mod (.bin .add (.bin .add (.nm 1) (.cI 1)) (.nm 6)) (.cI 63)) .nil))))
 (.cons (.mut 5 [] .append (.cons (.bin .mod (.call Ci (.cons (.nm 7) (.cons (.nm 6) .nil))) (.ix (.nm 2) (.nm 6))) .nil))
 .nil)))
 .nil))
 .nil)
noncomputable def CG:Ss :=
 (.cons (.asg 3 0 (.call Cy (.cons (.nm 0) (.cons (.nm 1) .nil))))
 (.cons (.asg 4 0 (.nm 3))
 (.cons (.asg 5 2 (.lst .nil))
 (.cons (.for_ (.nm 6) (.r1 (.bi .len (.cons (.nm 2) .nil)))
 Ax)
 (.cons (.ret (.nm 5))
 .nil)))))
noncomputable def At:Fn:=Av "_law_row" 3 2 2 8 CG
theorem Ha (ds:List D) (h:ds.length=3):At.den ds=run 8 CG ds:=Ak h
noncomputable def BE:Ss :=
 (.cons (.mut 4 [] .append (.cons (.cmp .eq (.bin .mod (.bin .add (.nm 5) (.ixL (.nm 3) (.cI 2))) (.cI 2)) (.cI 0)) .nil))
 (.cons (.asg 6 0 (.bin .sub (.nm 6) (.cI 1)))
 .nil))
noncomputable def AE:Ss :=
 (.cons (.asg 6 0 (.ixL (.nm 3) (.bin .add (.cI 3) (.nm 5))))
 (.cons (.iff (.cmp .eq (.ixL (.nm 3) (.cI 1)) (.cI 3))
 (.cons (.mut 4 [] .append (.cons (.cmp .eq (.ixL (.nm 3) (.cI 2)) (.cI 0)) .nil))
 .nil)
 (.cons (.iff (.cmp .gt (.ixL (.nm 3) (.cI 1)) (.cI 3))
 (.cons (.wh (.bo true (.cons (.cmp .lt (.bi .len (.cons (.nm 4) .nil)) (.ixL (.nm 3) (.cI 0))) (.cons (.cmp .ge (.nm 6) (.cI 0)) .nil)))
 BE)
 .nil)
 (.cons (.mut 4 [] .append (.cons (.cmp .ge (.nm 6) (.ix (.lst (.cons (.cI 6) (.cons (.cI 1) (.cons (.cI 10) .nil)))) (.ixL (.nm 3) (.cI 1)))) .nil))
 .nil))
 .nil))
 .nil))
noncomputable def CH:Ss :=
 (.cons (.asg 3 2 (.call At (.cons (.nm 0) (.cons (.nm 1) (.cons (.bin .add (.lst (.cons (.bin .add (.nm 2) (.cI 1)) (.cons (.cI 6) (.cons (.cI 2) .nil)))) (.bin .mul (.lst (.cons (.cI 12) .nil)) (.nm 2))) .nil)))))
 (.cons (.asg 4 2 (.lst .nil))
 (.cons (.dem 3 1)
 (.cons (.for_ (.nm 5) (.r1 (.ixL (.nm 3) (.cI 0)))
 AE)
 (.cons (.ret (.nm 4))
 .nil)))))
noncomputable def AS:Fn:=Av "_law_empties" 3 3 2 7 CH
theorem Hb (ds:List D) (h:ds.length=3):AS.den ds=run 7 CH ds:=Ak h
noncomputable def Cj:Ss :=
 (.cons (.asg 1 0 (.bin .add (.nm 1) (.cI 1)))
 .nil)
noncomputable def Ck:Ss :=
 (.cons (.asg 2 0 (.bin .add (.nm 2) (.cI 1)))
 .nil)
noncomputable def Cl:Ss :=
 (.cons (.asg 4 0 (.ix (.lst (.cons (.cI 0) (.cons (.bin .add (.nm 4) (.cI 1)) .nil))) (.bi .int (.cons (.nm 5) .nil))))
 (.cons (.asg 3 0 (.bi .max (.cons (.nm 3) (.cons (.nm 4) .nil))))
 .nil))
noncomputable def Dt:Ss :=
 (.cons (.asg 1 0 (.cI 0))
 (.cons (.wh (.bo true (.cons (.cmp .lt (.nm 1) (.bi .len (.cons (.nm 0) .nil))) (.cons (.ix (.nm 0) (.nm 1)) .nil)))
 Cj)
 (.cons (.asg 2 0 (.cI 0))
 (.cons (.wh (.bo true (.cons (.cmp .lt (.nm 2) (.bi .len (.cons (.nm 0) .nil))) (.cons (.ix (.nm 0) (.bin .sub (.bin .sub (.bi .len (.cons (.nm 0) .nil)) (.cI 1)) (.nm 2))) .nil)))
 Ck)
 (.cons (.asg 3 0 (.cI 0))
 (.cons (.asg 4 0 (.cI 0))
 (.cons (.for_ (.nm 5) (.seq (.nm 0))
 Cl)
 (.cons (.ret (.tup (.cons (.bi .len (.cons (.nm 0) .nil)) (.cons (.nm 1) (.cons (.nm 2) (.cons (.nm 3) .nil))))))
 .nil))))))))
noncomputable def C0:Fn:=Av "_law_block" 1 1 0 6 Dt
theorem IP (ds:List D) (h:ds.length=1):C0.den ds=run 6 Dt ds:=Ak h
noncomputable def CI:Ss :=
 (.cons (.ret (.bin .add (.cI 2) (.ix (.call At (.cons (.nm 0) (.cons (.nm 1) (.cons (.lst (.cons (.cI 7) .nil)) .nil)))) (.cI 0))))
 .nil)
noncomputable def Dm:Fn:=Av "_law_fan" 2 3 1 2 CI
theorem Hc (ds:List D) (h:ds.length=2):Dm.den ds=run 2 CI ds:=Ak h
noncomputable def AQ:Ss :=
 (.cons (.mut 2 [] .append (.cons (.bin .fdiv (.bin .sub (.bin .add (.ixL (.nm 2) (.neg (.cI 1))) (.nm 1)) (.cI 1)) (.nm 1)) .nil))
 .nil)
noncomputable def Bc:Ss :=
 (.cons (.iff (.cmp .eq (.nm 0) (.cI 0))
 (.cons (.ret (.lst .nil))
 .nil)
 .nil)
 (.cons (.asg 2 1 (.lst (.cons (.nm 0) .nil)))
 (.cons (.wh (.cmp .gt (.ixL (.nm 2) (.neg (.cI 1))) (.cI 1))
 AQ)
 (.cons (.ret (.nm 2))
 .nil))))
noncomputable def AA:Fn:=Av "_law_counts" 2 1 1 3 Bc
theorem DF (ds:List D) (h:ds.length=2):AA.den ds=run 3 Bc ds:=Ak h
noncomputable def Bm:Ss :=
 (.cons (.asg 4 0 (.bin .mul (.nm 4) (.nm 1)))
 .nil)
noncomputable def BW:Ss :=
 (.cons (.asg 4 0 (.cI 1))
 (.cons (.for_ (.nm 5) (.r1 (.nm 2))
 Bm)
 (.cons (.ret (.tup (.cons (.bin .mul (.nm 3) (.nm 4)) (.cons (.bi .min (.cons (.nm 0) (.cons (.bin .add (.bin .mul (.nm 3) (.nm 4)) (.nm 4)) .nil))) .nil))))
 .nil)))
noncomputable def Bd:Fn:=Av "_law_reach" 4 1 1 6 BW
theorem F7 (ds:List D) (h:ds.length=4):Bd.den ds=run 6 BW ds:=Ak h
noncomputable def AY:Ss :=
 (.cons (.mut 2 [] .extend (.cons (.comp0 1 [4] (.nm 0) (.r1 (.ixL (.nm 3) (.nm 4))) (.tup (.cons (.nm 1) (.cons (.nm 0) .nil)))) .nil))
 .nil)
noncomputable def Bo:Ss :=
 (.cons (.asg 2 2 (.lst .nil))
 (.cons (.asg 3 1 (.call AA (.cons (.nm 0) (.cons (.nm 1) .nil))))
 (.cons (.dem 2 1)
 (.cons (.for_ (.nm 4) (.r1 (.bi .len (.cons (.nm 3) .nil)))
 AY)
 (.cons (.ret (.nm 2))
 .nil)))))
noncomputable def AF:Fn:=Av "_law_nodes" 2 2 1 5 Bo
theorem D6 (ds:List D) (h:ds.length=2):AF.den ds=run 5 Bo ds:=Ak h
theorem F8:AF.dep=1:=rfl
noncomputable def Ay:Ss :=
 (.cons (.asg 9 0 (.bi .min (.cons (.nm 0) (.cons (.bin .add (.nm 5) (.nm 6)) .nil))))
 (.cons (.iff (.bo true (.cons (.cmp .eq (.bin .mod (.nm 5) (.nm 6)) (.cI 0)) (.cons (.cmp .le (.nm 9) (.nm 3)) .nil)))
 (.cons (.asg 7 0 (.tup (.cons (.nm 8) (.cons (.bin .fdiv (.nm 5) (.nm 6)) (.cons (.nm 9) .nil)))))
 .nil)
 .nil)
 (.cons (.asg 6 0 (.bin .mul (.nm 6) (.nm 1)))
 .nil)))
noncomputable def AZ:Ss :=
 (.cons (.asg 6 0 (.cI 1))
 (.cons (.asg 7 0 (.tup (.cons (.cI 0) (.cons (.nm 5) (.cons (.bin .add (.nm 5) (.cI 1)) .nil)))))
 (.cons (.for_ (.nm 8) (.r1 (.bi .len (.cons (.call AA (.cons (.nm 0) (.cons (.nm 1) .nil))) .nil)))
 Ay)
 (.cons (.mut 4 [] .append (.cons (.slc (.nm 7) .cN (.cI 2)) .nil))
 (.cons (.asg 5 0 (.ix (.nm 7) (.cI 2)))
 .nil)))))
noncomputable def Bp:Ss :=
 (.cons (.asg 4 2 (.lst .nil))
 (.cons (.asg 5 0 (.nm 2))
 (.cons (.wh (.cmp .lt (.nm 5) (.nm 3))
 AZ)
 (.cons (.ret (.nm 4))
 .nil))))
noncomputable def Be:Fn:=Av "_law_cover" 4 2 2 10 Bp
theorem D7 (ds:List D) (h:ds.length=4):Be.den ds=run 10 Bp ds:=Ak h
noncomputable def Bq:Ss :=
 (.cons (.asg 3 0 (.bin .add (.nm 3) (.cI 1)))
 .nil)
noncomputable def A3:Ss :=
 (.cons (.iff (.bo true (.cons (.ix (.nm 0) (.nm 2)) (.cons (.bo false (.cons (.cmp .eq (.nm 2) (.cI 0)) (.cons (.not (.ix (.nm 0) (.bin .sub (.nm 2) (.cI 1)))) .nil))) .nil)))
 (.cons (.asg 3 0 (.nm 2))
 (.cons (.wh (.bo true (.cons (.cmp .lt (.nm 3) (.bi .len (.cons (.nm 0) .nil))) (.cons (.ix (.nm 0) (.nm 3)) .nil)))
 Bq)
 (.cons (.mut 1 [] .append (.cons (.tup (.cons (.nm 2) (.cons (.nm 3) .nil))) .nil))
 .nil)))
 .nil)
 .nil)
noncomputable def BX:Ss :=
 (.cons (.asg 1 2 (.lst .nil))
 (.cons (.dem 1 1)
 (.cons (.for_ (.nm 2) (.r1 (.bi .len (.cons (.nm 0) .nil)))
 A3)
 (.cons (.ret (.nm 1))
 .nil))))
noncomputable def AT:Fn:=Av "_law_stretches" 1 1 1 4 BX
theorem F9 (ds:List D) (h:ds.length=1):AT.den ds=run 4 BX ds:=Ak h
noncomputable def Bx:Ss :=
 (.cons (.asg 5 2 (.call At (.cons (.nm 0) (.cons (.bin .add (.cI 3) (.nm 4)) (.cons (.lst (.cons (.cI 200) (.cons (.cI 4) (.cons (.cI 30) .nil)))) .nil)))))
 (.cons (.mut 3 [] .append (.cons (.bi .max (.cons (.cI 1) (.cons (.bin .add (.ix (.nm 2) (.bin .mod (.ixL (.nm 5) (.cI 0)) (.bi .len (.cons (.nm 2) .nil)))) (.ixL (.lst (.cons (.cI 0) (.cons (.cI 1) (.cons (.neg (.cI 1)) (.cons (.ixL (.nm 5) (.cI 2)) .nil))))) (.ixL (.nm 5) (.cI 1)))) .nil))) .nil))
 .nil))
noncomputable def Cm:Ss :=
 (.cons (.asg 2 0 (.bin .add (.comp0 2 [] (.tp [0,1]) (.seq (.call AT (.cons (.nm 1) .nil))) (.bin .sub (.nm 1) (.nm 0))) (.lst (.cons (.cI 1) .nil))))
 (.cons (.asg 3 2 (.lst (.cons (.cI 1) (.cons (.cI 2) (.cons (.bin .add (.bi .len (.cons (.nm 1) .nil)) (.cI 1)) (.cons (.cI 200) (.cons (.bi .max (.cons (.cI 1) (.cons (.bi .len (.cons (.nm 1) .nil)) .nil))) (.cons (.bi .maxL (.cons (.nm 2) .nil)) (.cons (.bin .pow (.cI 10) (.cI 30)) .nil)))))))))
 (.cons (.for_ (.nm 4) (.r1 (.cI 4))
 Bx)
 (.cons (.ret (.nm 3))
 .nil))))
noncomputable def Br:Fn:=Av "_law_many" 2 3 2 6 Cm
theorem GL (ds:List D) (h:ds.length=2):Br.den ds=run 6 Cm ds:=Ak h
theorem GM:Br.dep=2:=rfl
noncomputable def Aq:Ss :=
 (.cons (.iff (.cmp .ge (.bin .sub (.nm 3) (.nm 2)) (.nm 1))
 (.cons (.ret (.nm 2))
 .nil)
 .nil)
 .nil)
noncomputable def Bs:Ss :=
 (.cons (.for_ (.tp [2,3]) (.seq (.call AT (.cons (.nm 0) .nil)))
 Aq)
 (.cons (.ret .cN)
 .nil))
noncomputable def Bf:Fn:=Av "_law_row_first" 2 2 0 4 Bs
theorem D8 (ds:List D) (h:ds.length=2):Bf.den ds=run 4 Bs ds:=Ak h
theorem Ga:Bf.dep=0:=rfl
noncomputable def Bt:Ss :=
 (.cons (.asgT [6,7] (.call Bd (.cons (.bi .len (.cons (.nm 0) .nil)) (.cons (.nm 1) (.cons (.nm 4) (.cons (.nm 5) .nil))))))
 (.cons (.mut 3 [] .append (.cons (.tup (.cons (.nm 4) (.cons (.nm 5) (.cons (.call C0 (.cons (.slc (.nm 0) (.nm 6) (.nm 7)) .nil)) .nil)))) .nil))
 .nil))
noncomputable def BY:Ss :=
 (.cons (.asg 3 2 (.lst .nil))
 (.cons (.dem 3 1)
 (.cons (.for_ (.tp [4,5]) (.seq (.call Be (.cons (.bi .len (.cons (.nm 0) .nil)) (.cons (.nm 1) (.cons (.cI 0) (.cons (.nm 2) .nil))))))
 Bt)
 (.cons (.ret (.nm 3))
 .nil))))
noncomputable def Bg:Fn:=Av "_law_row_paper" 3 3 1 8 BY
theorem Gb (ds:List D) (h:ds.length=3):Bg.den ds=run 8 BY ds:=Ak h
theorem Gc:Bg.dep=1:=rfl
noncomputable def BF:Ss :=
 (.cons (.asg 2 0 (.ifx (.cmp .ne (.ix (.nm 0) (.cI 1)) (.ix (.nm 0) (.cI 0))) (.ix (.nm 0) (.cI 1)) (.bin .add (.ix (.nm 0) (.cI 0)) (.ix (.nm 1) (.cI 1)))))
 (.cons (.asg 3 0 (.ifx (.cmp .ne (.ix (.nm 1) (.cI 2)) (.ix (.nm 1) (.cI 0))) (.ix (.nm 1) (.cI 2)) (.bin .add (.ix (.nm 1) (.cI 0)) (.ix (.nm 0) (.cI 2)))))
 (.cons (.ret (.tup (.cons (.bin .add (.ix (.nm 0) (.cI 0)) (.ix (.nm 1) (.cI 0))) (.cons (.nm 2) (.cons (.nm 3) (.cons (.bi .maxL (.cons (.lst (.cons (.ix (.nm 0) (.cI 3)) (.cons (.ix (.nm 1) (.cI 3)) (.cons (.bin .add (.ix (.nm 0) (.cI 2)) (.ix (.nm 1) (.cI 1))) .nil)))) .nil)) .nil))))))
 .nil)))
noncomputable def Ev:Fn:=Av "_law_join" 2 1 0 4 BF
theorem Jt (ds:List D) (h:ds.length=2):Ev.den ds=run 4 BF ds:=Ak h
noncomputable def Af:Ss :=
 (.cons (.iff (.bo false (.cons (.not (.chain .le .lt (.cI 0) (.nm 8) (.bi .len (.cons (.nm 4) .nil)))) (.cons (.not (.chain .le .lt (.cI 0) (.nm 9) (.ixL (.nm 4) (.nm 8)))) .nil)))
 (.cons (.ret (.cB false))
 .nil)
 .nil)
 (.cons (.asgT [11,12] (.call Bd (.cons (.ix (.nm 0) (.cI 0)) (.cons (.ix (.nm 0) (.cI 1)) (.cons (.nm 8) (.cons (.nm 9) .nil))))))
 (.cons (.iff (.bo false (.cons (.cmp .ne (.nm 11) (.nm 6)) (.cons (.cmp .ne (.ix (.nm 10) (.cI 0)) (.bin .sub (.nm 12) (.nm 11))) .nil)))
 (.cons (.ret (.cB false))
 .nil)
 .nil)
 (.cons (.asg 6 0 (.nm 12))
 (.cons (.asg 7 0 (.call Ev (.cons (.nm 7) (.cons (.nm 10) .nil))))
 .nil)))))
noncomputable def BZ:Ss :=
 (.cons (.asg 4 1 (.call AA (.cons (.ix (.nm 0) (.cI 0)) (.cons (.ix (.nm 0) (.cI 1)) .nil))))
 (.cons (.asg 5 0 (.ix (.nm 0) (.cI 0)))
 (.cons (.iff (.isN true (.nm 2))
 (.cons (.asg 5 0 (.bin .sub (.bin .add (.nm 2) (.nm 1)) (.cI 1)))
 .nil)
 .nil)
 (.cons (.asg 6 0 (.cI 0))
 (.cons (.asg 7 0 (.tup (.cons (.cI 0) (.cons (.cI 0) (.cons (.cI 0) (.cons (.cI 0) .nil))))))
 (.cons (.for_ (.tp [8,9,10]) (.seq (.nm 3))
 Af)
 (.cons (.ret (.bo true (.cons (.cmp .eq (.nm 6) (.nm 5)) (.cons (.cmp .lt (.ix (.nm 7) (.cI 3)) (.nm 1)) .nil))))
 .nil)))))))
noncomputable def CN:Fn:=Av "_law_reads" 4 2 9 13 BZ
theorem Gd (ds:List D) (h:ds.length=4):CN.den ds=run 13 BZ ds:=Ak h
noncomputable def AU:Ss :=
 (.cons (.asg 3 1 (.bi .list (.cons (.nm 0) .nil)))
 (.cons (.iff (.cmp .eq (.nm 1) (.lst .nil))
 (.cons (.ret (.slc (.lst (.cons (.tup (.cons (.bin .sub (.ix (.nm 2) (.cI 1)) (.cI 20)) (.cons (.bin .sub (.ix (.nm 2) (.cI 2)) (.cI 20)) (.cons (.tup (.cons (.cI 1) (.cons (.cI 1) (.cons (.cI 1) (.cons (.cI 1) .nil))))) .nil)))) .nil)) .cN (.bin .mod (.ix (.nm 2) (.cI 0)) (.cI 2))))
 .nil)
 .nil)
 (.cons (.asgT [4,5] (.ix (.nm 1) (.bin .mod (.ix (.nm 2) (.cI 1)) (.bi .len (.cons (.nm 1) .nil)))))
 (.cons (.asg 6 0 (.bi .len (.cons (.comp1 1 [] (.nm 0) (.seq (.nm 1)) (.cmp .eq (.ix (.nm 0) (.cI 0)) (.cI 0)) (.nm 0)) .nil)))
 (.cons (.iff (.bo true (.cons (.bo false (.cons (.cmp .eq (.ix (.nm 2) (.cI 0)) (.cI 0)) (.cons (.cmp .eq (.nm 3) (.lst .nil)) .nil))) (.cons (.cmp .eq (.bin .mod (.ix (.nm 2) (.cI 3)) (.cI 4)) (.cI 0)) .nil)))
 (.cons (.ret (.bin .add (.nm 3) (.lst (.cons (.tup (.cons (.cI 0) (.cons (.nm 6) (.cons (.tup (.cons (.cI 0) (.cons (.cI 0) (.cons (.cI 0) (.cons (.cI 0) .nil))))) .nil)))) .nil))))
 .nil)
 .nil)
 (.cons (.iff (.bo false (.cons (.cmp .eq (.ix (.nm 2) (.cI 0)) (.cI 0)) (.cons (.cmp .eq (.nm 3) (.lst .nil)) .nil)))
 (.cons (.mut 3 [] .insert (.cons (.bin .mod (.ix (.nm 2) (.cI 2)) (.bin .add (.bi .len (.cons (.nm 3) .nil)) (.cI 1))) (.cons (.tup (.cons (.nm 4) (.cons (.nm 5) (.cons (.tup (.cons (.ix (.nm 2) (.cI 3)) (.cons (.cI 0) (.cons (.cI 0) (.cons (.ix (.nm 2) (.cI 4)) .nil))))) .nil)))) .nil)))
 (.cons (.ret (.nm 3))
 .nil))
 .nil)
 (.cons (.asg 7 0 (.bin .mod (.ix (.nm 2) (.cI 2)) (.bi .len (.cons (.nm 3) .nil))))
 (.cons (.asg 8 0 (.ixL (.nm 3) (.nm 7)))
 (.cons (.iff (.cmp .eq (.ix (.nm 2) (.cI 0)) (.cI 1))
 (.cons (.set 3 [] (.nm 7) (.tup (.cons (.bin .add (.ix (.nm 8) (.cI 0)) (.ix (.lst (.cons (.cI 1) (.cons (.neg (.cI 1)) (.cons (.cI 9) (.cons (.cI 0) .nil))))) (.bin .mod (.ix (.nm 2) (.cI 3)) (.cI 4)))) (.cons (.bin .add (.ix (.nm 8) (.cI 1)) (.ix (.lst (.cons (.cI 0) (.cons (.cI 0) (.cons (.cI 1) (.cons (.neg (.cI 1)) .nil))))) (.bin .mod (.ix (.nm 2) (.cI 3)) (.cI 4)))) (.cons (.ix (.nm 8) (.cI 2)) .nil)))))
 .nil)
 .nil)
 (.cons (.iff (.cmp .eq (.ix (.nm 2) (.cI 0)) (.cI 2))
 (.cons (.set 3 [] (.nm 7) (.tup (.cons (.ix (.nm 8) (.cI 0)) (.cons (.bin .add (.ix (.nm 8) (.cI 1)) (.ix (.lst (.cons (.cI 1) (.cons (.neg (.cI 1)) (.cons (.bin .pow (.cI 10) (.cI 30)) (.cons (.neg (.bin .pow (.cI 10) (.cI 30))) .nil))))) (.bin .mod (.ix (.nm 2) (.cI 3)) (.cI 4)))) (.cons (.ix (.nm 8) (.cI 2)) .nil)))))
 .nil)
 .nil)
 (.cons (.iff (.cmp .eq (.ix (.nm 2) (.cI 0)) (.cI 3))
 (.cons (.mut 3 [] .popAt (.cons (.nm 7) .nil))
 .nil)
 .nil)
 (.cons (.iff (.cmp .eq (.ix (.nm 2) (.cI 0)) (.cI 4))
 (.cons (.mut 3 [] .insert (.cons (.nm 7) (.cons (.nm 8) .nil)))
 .nil)
 .nil)
 (.cons (.iff (.cmp .eq (.ix (.nm 2) (.cI 0)) (.cI 5))
 (.cons (.asg 9 0 (.bin .mod (.ix (.nm 2) (.cI 1)) (.bi .len (.cons (.nm 3) .nil))))
 (.cons (.swp 3 7 9)
 .nil))
 .nil)
 (.cons (.iff (.cmp .gt (.ix (.nm 2) (.cI 0)) (.cI 5))
 (.cons (.asg 10 1 (.bi .list (.cons (.ix (.nm 8) (.cI 2)) .nil)))
 (.cons (.asg 11 0 (.bin .mod (.ix (.nm 2) (.cI 3)) (.cI 4)))
 (.cons (.set 10 [] (.nm 11) (.bin .add (.ixL (.nm 10) (.nm 11)) (.ix (.lst (.cons (.cI 1) (.cons (.neg (.cI 1)) (.cons (.cI 7) (.cons (.bin .pow (.cI 10) (.cI 30)) (.cons (.neg (.bin .pow (.cI 10) (.cI 30))) (.cons (.bin .sub (.cI 0) (.ixL (.nm 10) (.nm 11))) .nil))))))) (.bin .mod (.ix (.nm 2) (.cI 4)) (.cI 6)))))
 (.cons (.set 3 [] (.nm 7) (.tup (.cons (.ix (.nm 8) (.cI 0)) (.cons (.ix (.nm 8) (.cI 1)) (.cons (.bi .tupleL (.cons (.nm 10) .nil)) .nil)))))
 .nil))))
 .nil)
 (.cons (.ret (.nm 3))
 .nil)))))))))))))))
noncomputable def Bu:Fn:=Av "_law_bent" 3 1 1 12 AU
theorem B3 (ds:List D) (h:ds.length=3):Bu.den ds=run 12 AU ds:=Ak h
noncomputable def C3:Ss :=
 (.cons (.asg 13 1 (.bi .list (.cons (.nm 10) .nil)))
 (.cons (.asg 14 0 (.callB B6 (.cons (.nm 2) (.cons (.nm 12) (.cons (.nm 11) (.cons (.nm 13) .nil))))))
 (.cons (.iff (.bo false (.cons (.not (.isi (.nm 14) .bool)) (.cons (.cmp .ne (.nm 14) (.call CN (.cons (.nm 2) (.cons (.nm 12) (.cons (.nm 11) (.cons (.nm 10) .nil)))))) .nil)))
 (.cons (.ret (.cB false))
 .nil)
 .nil)
 (.cons (.iff (.cmp .ne (.nm 13) (.nm 10))
 (.cons (.ret (.cB false))
 .nil)
 .nil)
 .nil))))
noncomputable def C4:Ss :=
 (.cons (.for_ (.nm 12) (.seq (.lst (.cons (.nm 4) (.cons (.bin .add (.nm 4) (.cI 1)) (.cons (.bi .max (.cons (.cI 1) (.cons (.bin .sub (.nm 4) (.cI 1)) .nil))) .nil)))))
 C3)
 .nil)
noncomputable def C5:Ss :=
 (.cons (.asg 9 2 (.call At (.cons (.nm 0) (.cons (.bin .add (.cI 20) (.nm 8)) (.cons (.lst (.cons (.cI 9) (.cons (.cI 400) (.cons (.cI 60) (.cons (.cI 40) (.cons (.cI 60) .nil)))))) .nil)))))
 (.cons (.dem 9 0)
 (.cons (.asg 10 0 (.ix (.lst (.cons (.nm 7) (.cons (.call Bu (.cons (.nm 7) (.cons (.nm 3) (.cons (.nm 9) .nil)))) .nil))) (.bi .int (.cons (.cmp .gt (.nm 8) (.cI 0)) .nil))))
 (.cons (.for_ (.nm 11) (.seq (.lst (.cons (.nm 5) (.cons .cN (.cons (.cI 0) (.cons (.nm 6) (.cons (.bin .pow (.cI 10) (.cI 30)) .nil)))))))
 C4)
 .nil))))
noncomputable def C6:Ss :=
 (.cons (.asg 5 0 (.callB Bf (.cons (.nm 1) (.cons (.nm 4) .nil))))
 (.cons (.asg 6 0 (.ix (.nm 2) (.cI 0)))
 (.cons (.iff (.isN true (.nm 5))
 (.cons (.asg 6 0 (.bin .sub (.bin .add (.nm 5) (.nm 4)) (.cI 1)))
 .nil)
 .nil)
 (.cons (.asg 7 1 (.callB Bg (.cons (.nm 1) (.cons (.ix (.nm 2) (.cI 1)) (.cons (.nm 6) .nil)))))
 (.cons (.dem 7 0)
 (.cons (.for_ (.nm 8) (.r1 (.cI 4))
 C5)
 .nil))))))
noncomputable def Dz:Ss :=
 (.cons (.asg 1 2 (.call AS (.cons (.nm 0) (.cons (.cI 0) (.cons (.ix (.lst (.cons (.cI 120) (.cons (.cI 200) .nil))) (.bi .int (.cons (.cmp .eq (.ix (.call At (.cons (.nm 0) (.cons (.cI 9) (.cons (.lst (.cons (.cI 8) .nil)) .nil)))) (.cI 0)) (.cI 0)) .nil))) .nil)))))
 (.cons (.asg 2 1 (.tup (.cons (.bi .len (.cons (.nm 1) .nil)) (.cons (.call Dm (.cons (.nm 0) (.cons (.cI 1) .nil))) .nil))))
 (.cons (.asg 3 1 (.callB AF (.cons (.ixT (.nm 2) (.cI 0)) (.cons (.ixT (.nm 2) (.cI 1)) .nil))))
 (.cons (.dem 2 0)
 (.cons (.dem 3 0)
 (.cons (.for_ (.nm 4) (.seq (.callB Br (.cons (.nm 0) (.cons (.nm 1) .nil))))
 C6)
 (.cons (.ret (.cB true))
 .nil)))))))
noncomputable def ES:Fn:=Av "law" 1 9 9 15 Dz
theorem KO (ds:List D) (h:ds.length=1):ES.den ds=run 15 Dz ds:=Ak h
end Pu
section
namespace Pu
open PySem
theorem Au {tg:Tg} {b:Fr->Out} (P:Nat->Fr->Prop):∀ {ds:List D} {δ:Fr} (n:Nat),P n δ->(∀ i d δ,ds[i]?=some d->P (n + i) δ->∃ δ' δ'',CC tg d δ=some δ'/\b δ'=.nxt δ''/\P (n + i + 1) δ'')->∃ δ',AC tg b ds δ=.nxt δ'/\P (n + ds.length) δ'
 | [],δ,n,h0,_=>⟨δ,rfl,h0⟩
 | d :: ds,δ,n,h0,hs=>by
  obtain ⟨δ',δ'',e1,e2,h1⟩:=hs 0 d δ rfl h0
  obtain ⟨δ3,e3,h3⟩:=Au P (ds:=ds) (δ:=δ'') (n + 1) h1 fun i d δ hd hP=>by
   have:=hs (i + 1) d δ (by simpa using hd) (by rw [show n + (i + 1)=n + 1 + i by omega]; exact hP)
   rw [show n + (i + 1) + 1=n + 1 + i + 1 by omega] at this
   exact this
  refine ⟨δ3,?_,by rw [aaV,show n + (ds.length + 1)=n + 1 + ds.length by omega]; exact h3⟩
  unfold AC
  rw [e1]
  show (b δ').then _=_
  rw [e2]
  exact e3
theorem Cz (i j:Int):b2 .add (.int i) (.int j)=.ok (.int (i + j)):=rfl
theorem C7 (i j:Int):b2 .sub (.int i) (.int j)=.ok (.int (i - j)):=rfl
theorem BS (i j:Int) (h1:-(18446744073709551616) < i) (h2:i < 18446744073709551616):b2 .mul (.int i) (.int j)=.ok (.int (i * j)):=by
 show (if _ then _ else _)=_; rw [if_pos (.inl ⟨h1,h2⟩)]
theorem BT (i j:Int) (h1:-(18446744073709551616) < j) (h2:j < 18446744073709551616):b2 .mul (.int i) (.int j)=.ok (.int (i * j)):=by
 show (if _ then _ else _)=_; rw [if_pos (.inr ⟨h1,h2⟩)]
theorem CA (i j:Int) (h1:0 < j):b2 .mod (.int i) (.int j)=.ok (.int (i % j)):=by
 show (if _ then _ else _)=_; rw [if_pos h1]
theorem BU (i j:Int) (h1:0 < j) (h2:j < 1606938044258990275541962092341162602522202993782792835301376):b2 .fdiv (.int i) (.int j)=.ok (.int (i / j)):=by
 show (if _ then _ else _)=_; rw [if_pos ⟨h1,h2⟩]
theorem DA (i j:Int) (h1:0<=j) (h2:j<=1000000) (h3:i.natAbs < 18446744073709551616):b2 .pow (.int i) (.int j)=.ok (.int (i ^ j.toNat)):=by
 show (if _ then _ else _)=_; rw [if_pos ⟨h1,h2,h3⟩]
theorem DL (i j:Int):c2 .lt (.int i) (.int j)=.ok (.bl (decide (i < j))):=rfl
theorem DM (i j:Int):c2 .le (.int i) (.int j)=.ok (.bl (decide (i<=j))):=rfl
theorem DN (i j:Int):c2 .gt (.int i) (.int j)=.ok (.bl (decide (j < i))):=rfl
theorem DO (i j:Int):c2 .ge (.int i) (.int j)=.ok (.bl (decide (j<=i))):=rfl
theorem C8 (i j:Int):c2 .eq (.int i) (.int j)=.ok (.bl (i==j)):=rfl
theorem C9 (i j:Int):c2 .ne (.int i) (.int j)=.ok (.bl (!(i==j))):=rfl
theorem Dn (d:D) (r:Fr):get (some d :: r) 0=.ok d:=rfl
theorem Do (o:Option D) (r:Fr) (i:Nat):get (o :: r) (i + 1)=get r i:=by
 unfold get; rw [aaT]
theorem Ae {n:Nat} {b:Ss} {ds:List D} {d:D} (h:exs b (Pu.AG n ds)=.ret d):run n b ds=.ok d:=by
 unfold run; rw [h]
noncomputable def Fm (c k:Int):Int:=((((c % 2147483629 + 1013 * k + 7919) ^ 3 % 2147483647) * 40699 + 3793 * k * k + 11) % 2147483399) / 101
theorem JZ (c k:Int) (hk0:0<=k) (hk:k<=100000):Ci.den [.int c,.int k]=.ok (.int (Fm c k)):=by
 have h1:0<=c % 2147483629:=abM _ (by decide)
 have h2:c % 2147483629 < 2147483629:=abT _ (by decide)
 have h3:(c % 2147483629 + 1013 * k + 7919).natAbs < 18446744073709551616:=by omega
 have h4:-(18446744073709551616) < k:=by omega
 have h5:k < 18446744073709551616:=by omega
 rw [G9 _ rfl]
 simp [run,CF,exs,ex,ev,evs,get,Cz,BS,BT,CA,BU,DA,Pu.AG,h3,h4,h5,Fm]
theorem GN {ns:List Int} {d:D} (h:d ∈ ns.map D.int):∃ x,d=.int x:=by
 obtain ⟨x,_,e⟩:=aaW.mp h
 exact ⟨x,e.symm⟩
theorem KP {ns:List Int} {d:D} {lo hi:Option Int} {i:Nat} (h:(cut (ns.map D.int) lo hi)[i]?=some d):∃ x,d=.int x:=by
 have:=aae h
 unfold cut at this
 exact GN (abq (abr this))
theorem IQ {ns:List Int} {i:Int} (h0:0<=i) (h1:i < ns.length):∃ x,ns[i.toNat]?=some x/\atD (ns.map D.int) i=.ok (.int x):=by
 have hl:i.toNat < ns.length:=by omega
 refine ⟨ns[i.toNat],aal hl,?_⟩
 unfold atD ixN
 rw [aaa,if_pos h0,if_pos h1]
 simp [hl]
theorem IR (ns:List Int) (p:Int) (hp:0<=p):∃ i,Cy.den [.lst (ns.map .int),.int p]=.ok (.int i):=by
 rw [Js _ rfl]
 by_cases h:p < ns.length
 ·obtain ⟨x,_,e⟩:=IQ hp h
  refine ⟨x,?_⟩
  simp -implicitDefEqProofs [run,exs,ex,ev,evs,evI,evBo,tv,get,Bw,Cz,C7,BS,BT,CA,BU,DA,DL,DM,DN,DO,C8,C9,Pu.AG,biD,ixD,DW,DX,evP,upd,BV,umD,Dq,Cq,CL,Ca,CQ,E.isCN,CK,on1,on2,on3,Dc,Bv,Dp,Cp,El,Dd,Em,dI,dB,dS,dL,dT',un1,un0,CZ,h,e]
 ·obtain ⟨δ',e,s,o,rfl⟩:=Au (tg:=.nm 3) (b:=exs DE) (fun _ δ=>∃ (s:Int) (o:Option D),δ=[some (.lst (ns.map .int)),some (.int p),some (.int s),o]) (ds:=cut (ns.map D.int) none (some 63)) (δ:=[some (.lst (ns.map .int)),some (.int p),some (.int 5),none]) 0 ⟨5,none,rfl⟩ (by
   rintro i d δ hd ⟨s,o,rfl⟩
   obtain ⟨x,rfl⟩:=KP hd
   refine ⟨_,_,rfl,?_,(s * 48271 + x % 1000003 + 1) % 2147483647,some (.int x),rfl⟩
   simp -implicitDefEqProofs [run,exs,ex,ev,evs,evI,evBo,tv,get,Bw,Cz,C7,BS,BT,CA,BU,DA,DL,DM,DN,DO,C8,C9,Pu.AG,biD,ixD,DW,DX,evP,upd,BV,umD,Dq,Cq,CL,Ca,CQ,E.isCN,CK,on1,on2,on3,Dc,Bv,Dp,Cp,El,Dd,Em,dI,dB,dS,dL,dT',un1,un0,DE])
  refine ⟨(s + 7919 * p) % 1000003,?_⟩
  simp -implicitDefEqProofs [run,exs,ex,ev,evs,evI,evBo,tv,get,Bw,Cz,C7,BS,BT,CA,BU,DA,DL,DM,DN,DO,C8,C9,Pu.AG,biD,ixD,DW,DX,evP,upd,BV,umD,Dq,Cq,CL,Ca,CQ,E.isCN,CK,on1,on2,on3,Dc,Bv,Dp,Cp,El,Dd,Em,dI,dB,dS,dL,dT',un1,un0,CZ,h,e]
theorem BG {a b:Int} {i:Nat} {d:D} (h:(An a b)[i]?=some d):d=.int (a + i)/\(i:Int) < b - a:=by
 unfold An at h
 rw [aao] at h
 obtain ⟨j,hj,e⟩:=aap.mp h
 obtain ⟨h1,h2⟩:=aaq.mp hj
 rw [List.getElem_range] at h2
 subst h2
 rw [abe] at h1
 exact ⟨e.symm,by omega⟩
theorem BH (a b:Int):(An a b).length=(b - a).toNat:=by unfold An; simp
theorem Bz {a b:Int} (h1:-1000000<=a) (h2:a<=1000000) (h3:-1000000<=b) (h4:b<=1000000):Qb (.int a) (.int b)=.ok (An a b):=by
 show (if _ then _ else _)=_
 rw [if_pos]
 unfold E5 LIM
 simp -implicitDefEqProofs only [aak,decide_eq_true_eq]
 omega
theorem DU {ns:List Int} {i:Nat} {x:Int} (h:ns[i]?=some x):atD (ns.map D.int) (i:Int)=.ok (.int x):=by
 have hl:=(aaq.mp h).1
 obtain ⟨y,e1,e2⟩:=IQ (ns:=ns) (i:=(i:Int)) (by omega) (by omega)
 rw [aaX,h] at e1
 cases e1
 exact e2
theorem Hd:b2 .pow (.int 10) (.int 18)=.ok (.int 1000000000000000000):=by
 rw [DA _ _ (by decide) (by decide) (by decide)]; rfl
theorem He:b2 .pow (.int 10) (.int 59)=.ok (.int 100000000000000000000000000000000000000000000000000000000000):=by
 rw [DA _ _ (by decide) (by decide) (by decide)]; rfl
theorem BL (ds:List D) (d:D) (h:ds.length < 16777216):umD .append [d] ds=some (ds ++ [d]):=by
 show (if _ then _ else _)=_
 exact if_pos h
section
variable {ns S xs:List Int} {p c left:Int} {i:Nat} {s:Int} {o2:Option D} (hs:0 < s) (hat:atD (S.map D.int) (i:Int)=.ok (.int s)) (hi:i<=1000) (hx:xs.length<=1000)
include hs hat hi hx
theorem RC (h1:c < 1000000000000000000) :
  exs Ax [some (.lst (ns.map .int)),some (.int p),some (.lst (S.map .int)),some (.int c),some (.int left),some (.lst (xs.map .int)),some (.int i),o2]=.nxt [some (.lst (ns.map .int)),some (.int p),some (.lst (S.map .int)),some (.int c),some (.int left),some (.lst ((xs ++ [Fm c i % s]).map .int)),some (.int i),o2]:=by
 have hmx:=JZ c i (by omega) (by omega)
 have hap:=BL (xs.map D.int) (.int (Fm c i % s)) (by rw [aaa]; omega)
 simp -implicitDefEqProofs only [Ax,exs,ex,tv,ev,evs,evI,evBo,Dn,Do,Res.bind_ok,Res.out_ok,Out.then_nxt,Out.then_ret,aa3,aaT,Hd,He,Cz,C7,BS,BT,CA,BU,DL,DM,DN,DO,C8,C9,Bw,decide_true,decide_false,if_true,if_false,aaR,aba,abk,abp,evP,ixD,DW,DX,upd,BV,aaP,abW,aam,abm,biD,Dq,Cq,CL,on1,on2,on3,Dc,Bv,Dp,Cp,El,Dd,Em,dI,dB,dS,dL,dT',un1,un0,Ca,CQ,E.isCN,CK,reduceCtorEq,Int.reduceLT,Int.reduceLE,Int.reduceNeg,Int.reduceBEq,h1,hmx,hat,hs,hap]
theorem RE (h1:¬ c < 1000000000000000000) (h2:0 < left) (h3:s < 1606938044258990275541962092341162602522202993782792835301376) :
  exs Ax [some (.lst (ns.map .int)),some (.int p),some (.lst (S.map .int)),some (.int c),some (.int left),some (.lst (xs.map .int)),some (.int i),o2]=.nxt [some (.lst (ns.map .int)),some (.int p),some (.lst (S.map .int)),some (.int c),some (.int (left / s)),some (.lst ((xs ++ [left % s]).map .int)),some (.int i),o2]:=by
 have hap:=BL (xs.map D.int) (.int (left % s)) (by rw [aaa]; omega)
 simp -implicitDefEqProofs only [Ax,exs,ex,tv,ev,evs,evI,evBo,Dn,Do,Res.bind_ok,Res.out_ok,Out.then_nxt,Out.then_ret,aa3,aaT,Hd,He,Cz,C7,BS,BT,CA,BU,DL,DM,DN,DO,C8,C9,Bw,decide_true,decide_false,if_true,if_false,aaR,aba,abk,abp,evP,ixD,DW,DX,upd,BV,aaP,abW,aam,abm,biD,Dq,Cq,CL,on1,on2,on3,Dc,Bv,Dp,Cp,El,Dd,Em,dI,dB,dS,dL,dT',un1,un0,Ca,CQ,E.isCN,CK,reduceCtorEq,Int.reduceLT,Int.reduceLE,Int.reduceNeg,Int.reduceBEq,h1,h2,h3,hat,hs,hap]
theorem RF (h1:¬ c < 1000000000000000000) (h2:¬ 0 < left) {q:Int} (hq:Cy.den [.lst (ns.map .int),.int ((p + 1 + i) % 63)]=.ok (.int q)) :
  exs Ax [some (.lst (ns.map .int)),some (.int p),some (.lst (S.map .int)),some (.int c),some (.int left),some (.lst (xs.map .int)),some (.int i),o2]=.nxt [some (.lst (ns.map .int)),some (.int p),some (.lst (S.map .int)),some (.int c),some (.int left),some (.lst ((xs ++ [Fm q i % s]).map .int)),some (.int i),some (.int q)]:=by
 have hmx:=JZ q i (by omega) (by omega)
 have hap:=BL (xs.map D.int) (.int (Fm q i % s)) (by rw [aaa]; omega)
 simp -implicitDefEqProofs only [Ax,exs,ex,tv,ev,evs,evI,evBo,Dn,Do,Res.bind_ok,Res.out_ok,Out.then_nxt,Out.then_ret,aa3,aaT,Hd,He,Cz,C7,BS,BT,CA,BU,DL,DM,DN,DO,C8,C9,Bw,decide_true,decide_false,if_true,if_false,aaR,aba,abk,abp,evP,ixD,DW,DX,upd,BV,aaP,abW,aam,abm,biD,Dq,Cq,CL,on1,on2,on3,Dc,Bv,Dp,Cp,El,Dd,Em,dI,dB,dS,dL,dT',un1,un0,Ca,CQ,E.isCN,CK,reduceCtorEq,Int.reduceLT,Int.reduceLE,Int.reduceNeg,Int.reduceBEq,h1,h2,hq,hmx,hat,hs,hap,Int.reduceLT]
end
theorem EH (ns:List Int) (p:Int) (hp:0<=p) (S:List Int) (hl:S.length<=1000) (hS:∀ s ∈ S,0 < s/\s < 1606938044258990275541962092341162602522202993782792835301376) :
  ∃ xs:List Int,At.den [.lst (ns.map .int),.int p,.lst (S.map .int)]=.ok (.lst (xs.map .int))/\xs.length=S.length/\∀ (j:Nat) (x s:Int),xs[j]?=some x->S[j]?=some s->0<=x/\x < s:=by
 obtain ⟨c,hc⟩:=IR ns p hp
 obtain ⟨δ',e,left,xs,o1,o2,rfl,hx,hb⟩:=Au (tg:=.nm 6) (b:=exs Ax) (fun i δ=>∃ (left:Int) (xs:List Int) (o1 o2:Option D),δ=[some (.lst (ns.map .int)),some (.int p),some (.lst (S.map .int)),some (.int c),some (.int left),some (.lst (xs.map .int)),o1,o2]/\xs.length=i/\∀ (j:Nat) (x s:Int),xs[j]?=some x->S[j]?=some s->0<=x/\x < s)
  (ds:=An 0 (S.length:Int)) (δ:=[some (.lst (ns.map .int)),some (.int p),some (.lst (S.map .int)),some (.int c),some (.int c),some (.lst []),none,none]) 0 ⟨c,[],none,none,rfl,rfl,by simp⟩ (by
   rintro i d δ hd ⟨left,xs,o1,o2,rfl,hx,hb⟩
   obtain ⟨rfl,hi⟩:=BG hd
   have hx:xs.length=i:=by omega
   have hi':i < S.length:=by omega
   have hs:S[i]?=some S[i]:=aal hi'
   have hsp:=hS S[i] (List.getElem_mem hi')
   have hat:=DU hs
   generalize S[i]=s at hs hsp hat
   have fin:∀ z:Int,0<=z->z < s->∀ (j:Nat) (x s:Int),(xs ++ [z])[j]?=some x->S[j]?=some s->0<=x/\x < s:=by
    intro z h0 h1 j x s e1 e2
    by_cases hj:j < xs.length
    ·rw [aaG hj] at e1
     exact hb j x s e1 e2
    ·rw [aax (by omega)] at e1
     have:j=i:=by
      have:=(aaq.mp e1).1
      simp at this; omega
     subst this
     rw [hx,Nat.sub_self] at e1
     rw [hs] at e2
     cases e2; cases e1
     exact ⟨h0,h1⟩
   have md:∀ y:Int,0<=y % s/\y % s < s:=fun y=>⟨abM _ (by omega),abT _ hsp.1⟩
   have hz:(0:Int) + (i:Int)=(i:Int):=by omega
   rw [hz]
   have len:∀ z:Int,(xs ++ [z]).length=0 + i + 1:=fun z=>by rw [aar,hx]; simp
   by_cases h1:c < 1000000000000000000
   ·exact ⟨_,_,rfl,RC hsp.1 hat (by omega) (by omega) h1,left,xs ++ [Fm c i % s],some (.int i),o2,rfl,len _,fin _ (md _).1 (md _).2⟩
   ·by_cases h2:0 < left
    ·exact ⟨_,_,rfl,RE hsp.1 hat (by omega) (by omega) h1 h2 hsp.2,left / s,xs ++ [left % s],some (.int i),o2,rfl,len _,fin _ (md _).1 (md _).2⟩
    ·obtain ⟨q,hq⟩:=IR ns ((p + 1 + i) % 63) (abM _ (by decide))
     exact ⟨_,_,rfl,RF hsp.1 hat (by omega) (by omega) h1 h2 hq,left,xs ++ [Fm q i % s],some (.int i),some (.int q),rfl,len _,fin _ (md _).1 (md _).2⟩)
 refine ⟨xs,?_,by rw [hx,BH]; omega,hb⟩
 have hr:=Bz (a:=0) (b:=(S.length:Int)) (by omega) (by omega) (by omega) (by omega)
 refine (Ha _ rfl).trans (Ae ?_)
 simp -implicitDefEqProofs only [Pu.AG,abD,aai,aa2,aa4,CG,exs,ex,tv,ev,evs,evI,evBo,Dn,Do,Res.bind_ok,Res.out_ok,Out.then_nxt,Out.then_ret,aa3,aaT,Hd,He,Cz,C7,BS,BT,CA,BU,DL,DM,DN,DO,C8,C9,Bw,decide_true,decide_false,if_true,if_false,aaR,aba,abk,abp,evP,ixD,DW,DX,upd,BV,aaP,abW,aam,abm,biD,Dq,Cq,CL,on1,on2,on3,Dc,Bv,Dp,Cp,El,Dd,Em,dI,dB,dS,dL,dT',un1,un0,Ca,CQ,E.isCN,CK,reduceCtorEq,Int.reduceLT,Int.reduceLE,Int.reduceNeg,Int.reduceBEq,hc,aaa,hr,e]
theorem IS (i:Int):FP.den [.int i]=.ok (.bl true):=rfl
theorem Cn (i a b:Int):CD.den [.int i,.int a,.int b]=.ok (.bl (decide (a<=i/\i<=b))):=by
 refine (HJ _ rfl).trans (Ae ?_)
 by_cases h1:a<=i <;> by_cases h2:i<=b <;> simp -implicitDefEqProofs only [Pu.AG,abD,aai,aa2,aa4,CT,exs,ex,tv,ev,evs,evI,evBo,Dn,Do,Res.bind_ok,Res.out_ok,Out.then_nxt,Out.then_ret,aa3,aaT,Hd,He,Cz,C7,BS,BT,CA,BU,DL,DM,DN,DO,C8,C9,Bw,decide_true,decide_false,if_true,if_false,aaR,aba,abk,abp,evP,ixD,DW,DX,upd,BV,aaP,abW,aam,abm,biD,Dq,Cq,CL,on1,on2,on3,Dc,Bv,Dp,Cp,El,Dd,Em,dI,dB,dS,dL,dT',un1,un0,Ca,CQ,E.isCN,CK,reduceCtorEq,Int.reduceLT,Int.reduceLE,Int.reduceNeg,Int.reduceBEq,IS,h1,h2,and_self,and_true,and_false]
theorem at0 (a b:D):atD [a,b] 0=.ok a:=rfl
theorem at1 (a b:D):atD [a,b] 1=.ok b:=rfl
theorem OS (b:Bool):D.flat 9 9 (.bl b)=true:=rfl
theorem QE {xs:List Int} (h:xs.length=1):∃ a,xs=[a]:=by
 match xs,h with
 | [a],_=>exact ⟨a,rfl⟩
section
variable (a b c d e f:D)
theorem Sk:atD [a] 0=.ok a:=rfl
end
theorem Fo {f:D->Res (Option D)} {g:D->Option D}:∀ {ds:List D},(∀ d ∈ ds,f d=.ok (g d))->A7 f ds=.ok (ds.filterMap g)
 | [],_=>rfl
 | d :: ds,h=>by
  unfold A7
  rw [h d aac,Fo (ds:=ds) fun x hx=>h x (aab _ hx)]
  show Res.ok _=_
  rw [aa5]
  cases g d <;> rfl
theorem Ge {nl:Nat} {fr:List Nat} {tg:Tg} {it:It} {elt:E} {δ:Fr} {ds:List D} {g:D->D} (hi:evI it δ=.ok ds) (h:∀ d ∈ ds,∃ δ',CC tg d (blk nl fr δ)=some δ'/\ev elt δ'=.ok (g d)):ev (.comp0 nl fr tg it elt) δ=.ok (.lst (ds.map g)):=by
 rw [ev,hi,Res.bind_ok,Fo (g:=fun d=>some (g d)) (fun d hd=>by
  obtain ⟨δ',e1,e2⟩:=h d hd
  rw [e1]
  show (ev elt δ').bind _=_
  rw [e2]; rfl),Res.bind_ok,List.filterMap_eq_map']
theorem Nj {nl:Nat} {fr:List Nat} {tg:Tg} {it:It} {cond elt:E} {δ:Fr} {ds:List D} {b:D->Bool} {g:D->D} (hi:evI it δ=.ok ds) (h:∀ d ∈ ds,∃ δ',CC tg d (blk nl fr δ)=some δ'/\(ev cond δ').bind Bw=.ok (b d)/\(b d=true->ev elt δ'=.ok (g d))):ev (.comp1 nl fr tg it cond elt) δ=.ok (.lst ((ds.filter b).map g)):=by
 rw [ev,hi,Res.bind_ok,Fo (g:=fun d=>if b d then some (g d) else none) (fun d hd=>by
  obtain ⟨δ',e1,e2,e3⟩:=h d hd
  rw [e1]
  show ((ev cond δ').bind Bw).bind _=_
  rw [e2,Res.bind_ok]
  cases q:b d with
  | true=>rw [if_pos rfl,e3 q]; rfl
  | false=>rfl),Res.bind_ok]
 congr 2
 clear h hi
 induction ds with
 | nil=>rfl
 | cons d ds ih =>
  rw [aa5,List.filter_cons]
  cases q:b d with
  | true=>simp [ih]
  | false=>simp [ih]
theorem CP {c:Fr->Res Bool} {b:Fr->Out} (P:Nat->Fr->Prop):∀ (k n m:Nat) {δ:Fr},P m δ->(∀ i δ,m<=i->i < m + k->P i δ->c δ=.ok true/\∃ δ',b δ=.nxt δ'/\P (i + 1) δ')->(∀ δ,P (m + k) δ->c δ=.ok false)->k < n->∃ δ',AO c b n δ=.nxt δ'/\P (m + k) δ'
 | 0,n + 1,m,δ,h0,_,h2,_=>by
  refine ⟨δ,?_,h0⟩
  unfold AO
  rw [h2 δ h0]; rfl
 | k + 1,n + 1,m,δ,h0,h1,h2,hn=>by
  obtain ⟨e1,δ',e2,h3⟩:=h1 m δ (aan _) (by omega) h0
  obtain ⟨δ2,e4,h4⟩:=CP P k n (m + 1) h3 (fun i δ hi hl=>h1 i δ (by omega) (by omega)) (fun δ hd=>h2 δ (by rw [show m + (k + 1)=m + 1 + k by omega]; exact hd)) (by omega)
  refine ⟨δ2,?_,by rw [show m + (k + 1)=m + 1 + k by omega]; exact h4⟩
  unfold AO
  rw [e1,Res.out_ok,if_pos rfl,e2]
  exact e4
theorem Hf (a b:List D) (h:a.length + b.length<=16777216):b2 .add (.lst a) (.lst b)=.ok (.lst (a ++ b)):=by
 show (if _ then _ else _)=_
 exact if_pos h
noncomputable def cnt (p f i:Nat):Nat:=(p + f ^ i - 1) / f ^ i
theorem IU (p f:Nat):cnt p f 0=p:=by unfold cnt; simp
theorem IV {p f:Nat} (hf:1<=f) (i:Nat):cnt p f (i + 1)=(cnt p f i + f - 1) / f:=by
 unfold cnt
 have hw:0 < f ^ i:=abv (by omega)
 have h1:(p + f ^ i - 1) / f ^ i + f - 1=(p + f ^ (i + 1) - 1) / f ^ i:=by
  have e:p + f ^ (i + 1) - 1=(p + f ^ i - 1) + f ^ i * (f - 1):=by
   have:f ^ (i + 1)=f ^ i * (f - 1) + f ^ i:=by
    rw [abN,<- Nat.mul_succ]; congr 1; omega
   omega
  rw [e,Nat.add_mul_div_left _ _ hw]
  generalize (p + f ^ i - 1) / f ^ i=q
  omega
 rw [h1,Nat.div_div_eq_div_mul,abN]
structure Hs (p f h:Nat):Prop where
 one:cnt p f h=1
 more:∀ i,i < h->1 < cnt p f i
theorem J0 {p f h:Nat} (hf:1<=f) (hh:p<=f ^ h) (hp:1<=p):cnt p f h=1:=by
 unfold cnt
 have hw:0 < f ^ h:=abv (by omega)
 apply Nat.div_eq_of_lt_le <;> omega
theorem NO {p f:Nat} (hf:2<=f) (hp:1<=p):∀ n:Nat,p<=f ^ n->∃ h,h<=n/\Hs p f h
 | 0,h=>⟨0,aan _,J0 (by omega) h hp,fun i hi=>absurd hi (by omega)⟩
 | n + 1,h=>by
  by_cases hn:p<=f ^ n
  ·obtain ⟨k,h1,h2⟩:=NO hf hp n hn
   exact ⟨k,by omega,h2⟩
  ·refine ⟨n + 1,aan _,J0 (by omega) h hp,fun i hi=>?_⟩
   unfold cnt
   have hw:0 < f ^ i:=abv (by omega)
   have hm:f ^ i<=f ^ n:=abO (by omega) (by omega)
   have:2<=(p + f ^ i - 1) / f ^ i:=by
    rw [ab7 hw]; omega
   omega
theorem hs8 {p f:Nat} (hf:2<=f) (hp:1<=p) (hp2:p<=200):∃ h,h<=8/\Hs p f h:=by
 refine NO hf hp 8 (aaJ (show p<=2 ^ 8 by omega) (aca hf 8))
theorem Nk {f l:Nat} (hf:f<=8) (hl:l<=9):f ^ l<=134217728 :=
 aaJ (aca hf l) (aaJ (abO (by decide) hl) (by decide))
theorem IW {p f l j:Nat} (hf:1<=f):j < cnt p f l ↔ j * f ^ l < p:=by
 unfold cnt
 have hw:0 < f ^ l:=abv (by omega)
 rw [<- Nat.succ_le_iff,ab7 hw,acf]
 omega
theorem Fp {p f l:Nat} (hf:1<=f):cnt p f l<=p:=by
 apply aaZ
 intro h
 have:=(IW hf).mp h
 have hw:0 < f ^ l:=abv (by omega)
 have:=Nat.le_mul_of_pos_right p hw
 omega
noncomputable def mx (b:Nat->Bool):Nat->Nat
 | 0=>0
 | l + 1=>if b (l + 1) then l + 1 else mx b l
theorem KQ (b:Nat->Bool):∀ n,mx b n<=n
 | 0=>aan _
 | l + 1=>by unfold mx; split; exact aan _; exact Nat.le_succ_of_le (KQ b l)
theorem KR {b:Nat->Bool} (h0:b 0=true):∀ n,b (mx b n)=true
 | 0=>h0
 | l + 1=>by unfold mx; split; assumption; exact KR h0 l
theorem NP {b:Nat->Bool}:∀ n l,mx b n < l->l<=n->b l=false
 | 0,l,h,h2=>by unfold mx at h; omega
 | n + 1,l,h,h2=>by
  unfold mx at h
  split at h
  ·omega
  ·rename_i hb
   by_cases e:l=n + 1
   ·subst e; simpa using hb
   ·exact NP n l h (by omega)
noncomputable def okL (p f a e l:Nat):Bool:=a % f ^ l==0 && decide (min p (a + f ^ l)<=e)
theorem FI {p f a e l:Nat}:okL p f a e l=true ↔ a % f ^ l=0/\min p (a + f ^ l)<=e:=by unfold okL; simp
theorem Nl {p f a e l k:Nat} (hf:1<=f) (h:okL p f a e l=true) (hk:k<=l):okL p f a e k=true:=by
 rw [FI] at h ⊢
 refine ⟨Nat.mod_eq_zero_of_dvd (Nat.dvd_trans (Nat.pow_dvd_pow f hk) (Nat.dvd_of_mod_eq_zero h.1)),?_⟩
 have:f ^ k<=f ^ l:=abO hf hk
 omega
noncomputable def lvA (p f h e a:Nat):Nat:=mx (okL p f a e) h
noncomputable def nxA (p f h e a:Nat):Nat:=min p (a + f ^ lvA p f h e a)
noncomputable def cov (p f h e:Nat):Nat->Nat->List (Nat × Nat)
 | 0,_=>[]
 | n + 1,a=>if a < e then (lvA p f h e a,a / f ^ lvA p f h e a) :: cov p f h e n (nxA p f h e a) else []
theorem QF {p f a e:Nat} (h:a < e):okL p f a e 0=true:=by
 rw [FI,Nat.pow_zero,Nat.mod_one]; omega
theorem QG {p f h a e:Nat} (hae:a < e):a % f ^ lvA p f h e a=0/\nxA p f h e a<=e:=FI.mp (KR (QF hae) h)
theorem QH {p f h a e:Nat} (hf:1<=f) (hae:a < e) (hep:e<=p):a < nxA p f h e a:=by
 unfold nxA
 have:0 < f ^ lvA p f h e a:=abv (by omega)
 omega
end Pu
end
section
open Pu
local macro_rules | `(tactic| simp_arith [$xs,*] $[at $h:ident]?)=>`(tactic| simp -implicitDefEqProofs only [Pu.AG,abD,aai,aa2,aa4,↓reduceIte,aat,Nat.reduceAdd,Nat.reduceSub,aci,Int.reduceAdd,Int.reduceSub,Int.reduceMul,at0,at1,beq_self_eq_true,Bool.and_self,Bool.and_true,abc,abg,abR,exs,ex,tv,ev,evs,evI,evBo,Dn,Do,Res.bind_ok,Res.out_ok,Out.then_nxt,Out.then_ret,aa3,aaT,Hd,He,Cz,C7,BS,BT,CA,BU,DL,DM,DN,DO,C8,C9,Bw,decide_true,decide_false,if_true,if_false,aaR,aba,abk,abp,evP,ixD,DW,DX,upd,BV,aaP,abW,aam,abm,biD,Dq,Cq,CL,on1,on2,on3,Dc,Bv,Dp,Cp,El,Dd,Em,dI,dB,dS,dL,dT',un1,un0,Ca,CQ,E.isCN,CK,reduceCtorEq,Int.reduceLT,Int.reduceLE,Int.reduceNeg,Int.reduceBEq,$xs,*] $[at $h:ident]?)
namespace Pu
open PySem
theorem GO {c:Fr->Res Bool} {b:Fr->Out} {n:Nat} {δ δ':Fr} (h1:c δ=.ok true) (h2:b δ=.nxt δ'):AO c b (n + 1) δ=AO c b n δ':=by
 rw [AO,h1,Res.out_ok,if_pos rfl,h2,Out.then_nxt]
theorem Da {c:Fr->Res Bool} {b:Fr->Out} {n:Nat} {δ:Fr} (h1:c δ=.ok false):AO c b (n + 1) δ=.nxt δ:=by
 rw [AO,h1,Res.out_ok]; rfl
noncomputable def iN (n:Nat):D:=.int n
noncomputable def Ap (xs:List Nat):D:=.lst (xs.map iN)
noncomputable def lvD (p f h:Nat):List Nat:=(aaE (h + 1)).map (cnt p f)
noncomputable def shD (p f:Nat):D:=.tup [.int p,.int f]
noncomputable def A6 (l j:Nat):D:=.tup [.int l,.int j]
theorem Mb {m f:Nat} (hf:1<=f):((m:Int) + (f:Int) - 1) / (f:Int)=(((m + f - 1) / f:Nat):Int):=by
 rw [Int.natCast_ediv]; congr 1; omega
theorem IX {xs:List Nat} {i:Nat} (h:i < xs.length):atD (xs.map iN) (i:Int)=.ok (.int (xs[i]:Nat)):=by
 unfold atD ixN
 rw [aaa,if_pos (by omega),if_pos (by omega)]
 simp [h,iN]
theorem FJ (p f i:Nat):((aaE (i + 1)).map (cnt p f)).map iN=((aaE i).map (cnt p f)).map iN ++ [.int (cnt p f i)]:=by
 rw [ab1,aam,aam]; rfl
section
variable {p f h:Nat} (hf:2<=f) (hf8:f<=8) (H:Hs p f h) (hh:h<=8)
include hf hf8 H hh
theorem OT (xs:List D) (hl:xs.length<=1000) (i:Nat):exs BR [some (shD p f),some (.int f),some (.lst xs),some (.int (cnt p f i))]=.nxt [some (shD p f),some (.int f),some (.lst (xs ++ [.int (cnt p f i)])),some (.int (cnt p f (i + 1)))]:=by
 have hap:=BL xs (.int (cnt p f i)) (by omega)
 have h1:0 < (f:Int):=by omega
 have h2:(f:Int) < 1606938044258990275541962092341162602522202993782792835301376:=by omega
 rw [IV (by omega),<- Mb (by omega)]
 simp_arith [BR,hap,h1,h2]
theorem OU:AO (tv (.cmp .gt (.nm 3) (.cI 1))) (exs BR) FU [some (shD p f),some (.int f),some (.lst []),some (.int p)]=.nxt [some (shD p f),some (.int f),some (.lst (((aaE h).map (cnt p f)).map iN)),some (.int (1:Nat))]:=by
 obtain ⟨δ',e,rfl⟩:=CP (c:=tv (.cmp .gt (.nm 3) (.cI 1))) (b:=exs BR) (fun i δ=>δ=[some (shD p f),some (.int f),some (.lst (((aaE i).map (cnt p f)).map iN)),some (.int (cnt p f i))]) h FU 0 (δ:=[some (shD p f),some (.int f),some (.lst []),some (.int p)]) (by rw [IU]; rfl) (by
   rintro i δ _ hi rfl
   have:=H.more i (by omega)
   have h1:(1:Int) < (cnt p f i:Int):=by omega
   refine ⟨?_,_,OT hf hf8 H hh _ (by simp; omega) i,by rw [FJ]⟩
   simp_arith [h1]) (by
   rintro δ rfl
   rw [aat,H.one]
   rfl) (by unfold FU; omega)
 rw [e,aat,H.one]
theorem GP:Dw.den [shD p f]=.ok (Ap (lvD p f h)):=by
 have hl:=OU hf hf8 H hh
 have hap:=BL (((aaE h).map (cnt p f)).map iN) (.int (1:Nat)) (by simp; omega)
 have e:=FJ p f h
 rw [H.one] at e
 refine (HA _ rfl).trans (Ae ?_)
 unfold Ap lvD
 rw [e]
 unfold shD at hl ⊢
 have h1:((1:Nat):Int)=1:=rfl
 rw [h1] at hap hl ⊢
 simp_arith [D3,hl,hap]
end
theorem Ju (f:Nat):Dw.den [shD 0 f]=.ok (Ap []):=by
 refine (HA _ rfl).trans (Ae ?_)
 unfold shD Ap
 have h1:((0:Nat):Int)=0:=rfl
 have hl:AO (tv (.cmp .gt (.nm 3) (.cI 1))) (exs BR) FU [some (.tup [.int 0,.int f]),some (.int f),some (.lst []),some (.int 0)]=.nxt [some (.tup [.int 0,.int f]),some (.int f),some (.lst []),some (.int 0)]:=by
  unfold FU
  exact Da rfl
 rw [h1]
 simp_arith [D3,hl]
theorem Co (p f h:Nat):(lvD p f h).length=h + 1:=by unfold lvD; simp
theorem Hg {p f h i:Nat} (hi:i<=h):(lvD p f h)[i]'(by rw [Co]; omega)=cnt p f i:=by unfold lvD; simp
section
variable {p f h:Nat} (hf:2<=f) (hf8:f<=8) (H:Hs p f h) (hh:h<=8) {l j:Nat} (hl:l<=h) (hj:j < cnt p f l)
include hl hj
theorem OV:Bl.den [Ap (lvD p f h),A6 l j]=.ok (.bl true):=by
 have h1:=Cn (l:Int) 0 (((lvD p f h).length:Int) - 1)
 rw [Co,decide_eq_true (by omega)] at h1
 have h2:=Cn (j:Int) 0 ((cnt p f l:Int) - 1)
 rw [decide_eq_true (by omega)] at h2
 have h3:=IX (xs:=lvD p f h) (i:=l) (by rw [Co]; omega)
 rw [Hg hl] at h3
 have h4:(h:Int) + 1 - 1=h:=by omega
 refine (Dx _ rfl).trans (Ae ?_)
 unfold Ap A6
 have h5:=Co p f h
 simp_arith [AM,h1,h2,h3,h5,aaa,aat,Nat.reduceAdd,aci]
end
theorem OW {n:Nat} {b:Ss} {ds:List D} {δ:Fr} (h:exs b (Pu.AG n ds)=.nxt δ):run n b ds=.ok .non:=by
 unfold run; rw [h]
theorem HB (xs:List D) (h:xs.all (D.shp 7)=true):c2 .eq (.lst xs) (.lst [])=.ok (.bl xs.isEmpty):=by
 show (if (D.shp 8 (.lst xs) && D.shp 8 (.lst [])) then _ else _)=_
 rw [show D.shp 8 (.lst xs)=true from h,show D.shp 8 (.lst [])=true from rfl]
 cases xs <;> rfl
section
variable {p f h:Nat} (hf:2<=f) (hf8:f<=8) (H:Hs p f h) (hh:h<=8)
include hf hf8 H hh
section
variable {l j:Nat} (hl:l<=h) (hj:j < cnt p f l)
include hl hj
theorem Jv:CU.den [shD p f,A6 l j]=.ok (.bl true):=by
 have h1:=GP hf hf8 H hh
 have h2:=OV hl hj
 refine (GI _ rfl).trans (Ae ?_)
 simp_arith [Dy,h1,h2]
theorem Hh:DD.den [shD p f,A6 l j]=.ok .non:=by
 have h1:=Jv hf hf8 H hh hl hj
 refine (HK _ rfl).trans (OW (δ:=[some (shD p f),some (A6 l j)]) ?_)
 simp_arith [CW,h1]
end
theorem Mc (l j:Nat):∃ o,AC (.nm 3) (exs Ek) (An 0 (l:Int)) [some (shD p f),some (A6 l j),some (.int 1),none,none]=.nxt [some (shD p f),some (A6 l j),some (.int ((f ^ l:Nat):Int)),o,none]:=by
 obtain ⟨δ',e,o,rfl⟩:=Au (tg:=.nm 3) (b:=exs Ek) (fun i δ=>∃ o,δ=[some (shD p f),some (A6 l j),some (.int ((f ^ i:Nat):Int)),o,none]) (ds:=An 0 (l:Int)) (δ:=[some (shD p f),some (A6 l j),some (.int 1),none,none]) 0 ⟨none,rfl⟩ (by
  rintro i d δ hd ⟨o,rfl⟩
  refine ⟨_,_,rfl,?_,some d,rfl⟩
  have h1:-(18446744073709551616) < (f:Int):=by omega
  have h2:(f:Int) < 18446744073709551616:=by omega
  rw [abN,aat,abb]
  unfold shD
  simp_arith [Ek,h1,h2])
 rw [BH,abV,aaX,aat] at e
 exact ⟨o,e⟩
theorem Nm {l j:Nat} (hl:l<=h) (hj:j < cnt p f l):DT.den [shD p f,A6 l j]=.ok (A6 (j * f ^ l) (min p (j * f ^ l + f ^ l))):=by
 have hc:=Hh hf hf8 H hh hl hj
 obtain ⟨o,e⟩:=Mc hf hf8 H hh l j
 have hr:=Bz (a:=0) (b:=(l:Int)) (by omega) (by omega) (by omega) (by omega)
 have hw:=Nk (f:=f) (l:=l) hf8 (by omega)
 have h1:-(18446744073709551616) < ((f ^ l:Nat):Int):=by omega
 have h2:((f ^ l:Nat):Int) < 18446744073709551616:=by omega
 refine (OR _ rfl).trans (Ae ?_)
 generalize f ^ l=w at *
 have h3:(((min p (j * w + w):Nat)):Int)=min ((j:Int) * w + w) p:=by rw [<- abb]; omega
 unfold A6 at e hc ⊢
 unfold shD at e hc ⊢
 rw [h3,abb]
 simp_arith [GJ,hc,hr,e,h1,h2]
end
noncomputable def Ab (q:Nat × Nat):D:=A6 q.1 q.2
noncomputable def KS (p f h e n a:Nat):List D:=(cov p f h e n a).map Ab
theorem J1 (xs:List D) (d:D):atD (xs ++ [d]) (-1)=.ok d:=by
 unfold atD ixN
 rw [if_neg (by decide),if_pos (by rw [aar,abo]; omega),aar,abo]
 show (match (xs ++ [d])[((-1:Int) + ((xs.length + 1:Nat):Int)).toNat]? with | some d=>Res.ok d | none=>Res.bad)=_
 rw [show ((-1:Int) + ((xs.length + 1:Nat):Int)).toNat=xs.length by omega,aax (aan _),Nat.sub_self]
 rfl
section
variable {p f h:Nat} (hf:2<=f) (hf8:f<=8) (H:Hs p f h) (hh:h<=8)
include hf hf8 H hh
noncomputable def cL (p f i:Nat):D:=.lst (((aaE i).map (cnt p f)).map iN ++ [.int (cnt p f i)])
theorem OX (i:Nat) (hi:i<=8):exs AQ [some (.int p),some (.int f),some (cL p f i)]=.nxt [some (.int p),some (.int f),some (cL p f (i + 1))]:=by
 have h0:=J1 (((aaE i).map (cnt p f)).map iN) (.int (cnt p f i))
 have hap:=BL (((aaE i).map (cnt p f)).map iN ++ [.int (cnt p f i)]) (.int (cnt p f (i + 1))) (by simp; omega)
 have h1:0 < (f:Int):=by omega
 have h2:(f:Int) < 1606938044258990275541962092341162602522202993782792835301376:=by omega
 have e1:cL p f (i + 1)=.lst ((((aaE i).map (cnt p f)).map iN ++ [.int (cnt p f i)]) ++ [.int (cnt p f (i + 1))]):=by
  unfold cL; rw [FJ]
 rw [e1]
 rw [IV (by omega),<- Mb (by omega)] at hap ⊢
 unfold cL
 generalize ((aaE i).map (cnt p f)).map iN=xs at *
 simp_arith [AQ,h0,h1,h2,hap]
theorem OY:AO (tv (.cmp .gt (.ixL (.nm 2) (.neg (.cI 1))) (.cI 1))) (exs AQ) FU [some (.int p),some (.int f),some (cL p f 0)]=.nxt [some (.int p),some (.int f),some (cL p f h)]:=by
 have cd:∀ i,tv (.cmp .gt (.ixL (.nm 2) (.neg (.cI 1))) (.cI 1)) [some (.int p),some (.int f),some (cL p f i)]=.ok (decide (1 < (cnt p f i:Int))):=fun i=>by
  have h0:=J1 (((aaE i).map (cnt p f)).map iN) (.int (cnt p f i))
  unfold cL
  simp_arith [h0]
 obtain ⟨δ',e,rfl⟩:=CP (c:=tv (.cmp .gt (.ixL (.nm 2) (.neg (.cI 1))) (.cI 1))) (b:=exs AQ) (fun i δ=>δ=[some (.int p),some (.int f),some (cL p f i)]) h FU 0 (δ:=[some (.int p),some (.int f),some (cL p f 0)]) rfl (by
   rintro i δ _ hi rfl
   have:=H.more i (by omega)
   refine ⟨?_,_,OX hf hf8 H hh i (by omega),rfl⟩
   rw [cd,decide_eq_true (by omega)]) (by
   rintro δ rfl
   rw [aat,cd,H.one]
   rfl) (by unfold FU; omega)
 rw [e,aat]
theorem ET (hp:1<=p):AA.den [.int p,.int f]=.ok (Ap (lvD p f h)):=by
 have hl:=OY hf hf8 H hh
 have e:Ap (lvD p f h)=cL p f h:=by unfold Ap lvD cL; rw [FJ]
 have c1:((p:Int)==0)=false:=by simp; omega
 have e0:cL p f 0=.lst [.int p]:=by unfold cL; rw [IU]; rfl
 rw [e0] at hl
 rw [e]
 refine (DF _ rfl).trans (Ae ?_)
 simp_arith [Bc,c1,hl]
end
theorem FQ (f:Nat):AA.den [.int 0,.int f]=.ok (Ap []):=by
 refine (DF _ rfl).trans (Ae ?_)
 unfold Ap
 simp_arith [Bc]
theorem KT (p f l j:Nat) (hf8:f<=8):∃ o,AC (.nm 5) (exs Bm) (An 0 (l:Int)) [some (.int p),some (.int f),some (.int l),some (.int j),some (.int 1),none]=.nxt [some (.int p),some (.int f),some (.int l),some (.int j),some (.int ((f ^ l:Nat):Int)),o]:=by
 obtain ⟨δ',e,o,rfl⟩:=Au (tg:=.nm 5) (b:=exs Bm) (fun i δ=>∃ o,δ=[some (.int p),some (.int f),some (.int l),some (.int j),some (.int ((f ^ i:Nat):Int)),o]) (ds:=An 0 (l:Int)) (δ:=[some (.int p),some (.int f),some (.int l),some (.int j),some (.int 1),none]) 0 ⟨none,rfl⟩ (by
  rintro i d δ hd ⟨o,rfl⟩
  refine ⟨_,_,rfl,?_,some d,rfl⟩
  have h1:-(18446744073709551616) < (f:Int):=by omega
  have h2:(f:Int) < 18446744073709551616:=by omega
  rw [abN,aat,abb]
  simp_arith [Bm,h1,h2])
 rw [BH,abV,aaX,aat] at e
 exact ⟨o,e⟩
theorem Me (p f l j:Nat) (hf8:f<=8) (hl:l<=8):Bd.den [.int p,.int f,.int l,.int j]=.ok (A6 (j * f ^ l) (min p (j * f ^ l + f ^ l))):=by
 obtain ⟨o,e⟩:=KT p f l j hf8
 have hr:=Bz (a:=0) (b:=(l:Int)) (by omega) (by omega) (by omega) (by omega)
 have hw:=Nk (f:=f) (l:=l) hf8 (by omega)
 have h1:-(18446744073709551616) < ((f ^ l:Nat):Int):=by omega
 have h2:((f ^ l:Nat):Int) < 18446744073709551616:=by omega
 refine (F7 _ rfl).trans (Ae ?_)
 generalize f ^ l=w at *
 have h3:(((min p (j * w + w):Nat)):Int)=min (p:Int) ((j:Int) * w + w):=by rw [<- abb]; omega
 unfold A6
 rw [h3,abb]
 simp_arith [BW,hr,e,h1,h2]
mutual
theorem IY:∀ {n:Nat} {d:D},D.shp n d=true->D.eqv d d=true
 | _,.non,_=>by simp [D.eqv]
 | _,.bl b,_=>by simp [D.eqv]
 | _,.int i,_=>by simp [D.eqv]
 | _,.str x,_=>by simp [D.eqv]
 | n + 1,.tup ds,h=>by rw [D.eqv]; exact eqvs_refl (n:=n) h
 | n + 1,.lst ds,h=>by rw [D.eqv]; exact eqvs_refl (n:=n) h
 | 0,.tup ds,h=>by cases h
 | 0,.lst ds,h=>by cases h
 | _,.exn _,h=>by simp [D.shp] at h
theorem eqvs_refl:∀ {n:Nat} {ds:List D},ds.all (D.shp n)=true->D.eqvs ds ds=true
 | _,[],_=>by simp [D.eqvs]
 | n,d :: ds,h=>by
  rw [aaA,aak] at h
  rw [D.eqvs,IY h.1,eqvs_refl h.2]; rfl
end
theorem KU (d:D) (h:D.shp 8 d=true):c2 .ne d d=.ok (.bl false):=by
 show (if _ then _ else _)=_
 rw [h,IY h]; rfl
theorem Mf (qs:List (Nat × Nat)) (k:Nat):(qs.map Ab).all (D.shp (k + 1))=true:=by
 rw [aaH]
 intro d hd
 obtain ⟨n,_,rfl⟩:=aaW.mp hd
 cases k <;> rfl
theorem FK (i j:Nat) (a b:D) (δ:Fr):CC (.tp [i,j]) (.tup [a,b]) δ=some ((δ.set i (some a)).set j (some b)):=rfl
theorem QI (ds es:List D) (h:ds.length + es.length<=16777216):umD .extend [.lst es] ds=some (ds ++ es):=by
 show (if _ then _ else _)=_
 exact if_pos h
section
variable (a b c d e f g h:D)
theorem Gf:atD [a,b,c] 0=.ok a:=rfl
theorem Gg:atD [a,b,c] 1=.ok b:=rfl
theorem IZ:atD [a,b,c] 2=.ok c:=rfl
end
structure Sp (p f h:Nat):Prop where
 hf:2<=f
 hf8:f<=8
 hp:p<=200
 hh:h<=8
 hs:p=0\/Hs p f h
theorem RG {p f:Nat} (hp:p<=200) (hf:2<=f) (hf8:f<=8):∃ h,Sp p f h:=by
 by_cases h:p=0
 ·exact ⟨0,hf,hf8,hp,by decide,.inl h⟩
 ·obtain ⟨k,h1,h2⟩:=hs8 hf (by omega) hp
  exact ⟨k,hf,hf8,hp,h1,.inr h2⟩
theorem I0 (d:D):∀ n,(aai n [d]).flatten=aai n d
 | 0=>rfl
 | n + 1=>by rw [aa9,abn,I0 d n]; rfl
theorem QJ (d:D) (n:Nat) (h:n<=1000):b2 .mul (.lst [d]) (.int n)=.ok (.lst (aai n d)):=by
 rw [b2,Ii,if_pos]
 ·rw [aaX,I0]
 ·rw [aaX,abo]
  unfold LIM
  omega
theorem OZ (ns:List Int) (p:Int) (hp:0<=p):∃ f:Nat,2<=f/\f<=8/\Dm.den [.lst (ns.map .int),.int p]=.ok (.int f):=by
 obtain ⟨xs,hrow,hl,hb⟩:=EH ns p hp [7] (by decide) (by decide)
 obtain ⟨a,rfl⟩:=QE hl
 have ha:=hb 0 a 7 rfl rfl
 simp only [abm] at hrow
 refine ⟨(2 + a).toNat,by omega,by omega,?_⟩
 rw [aa6 (by omega)]
 refine (Hc _ rfl).trans (Ae ?_)
 simp_arith [CI,hrow,Sk]
theorem GQ:∀ ys:List Int,B4 (ys.map .int)=some ys
 | []=>rfl
 | y :: r=>by rw [aaz,B4,GQ r]; rfl
theorem Nn {ys:List Int} (h:ys ≠ []):ys.max?=some (ys.max?.getD 0):=by
 cases q:ys.max? with
 | none=>exact absurd (List.max?_eq_none_iff.mp q) h
 | some m=>rfl
noncomputable def tl (tr:List (List Int)) (l j:Nat):Int:=(tr.getD l []).getD j 0
noncomputable def Dim (tr:List (List Int)) (p f h:Nat):Prop:=tr.map abD=lvD p f h
theorem RH {rs:List Int} {i:Nat} (h:i < rs.length):atD (rs.map D.int) (i:Int)=.ok (.int (rs.getD i 0)):=by
 apply DU
 rw [aaB,aal h]; rfl
theorem QK (xs:List D) (a:Nat):cut xs none (some (a:Int))=xs.take a:=by
 have e2:sIx xs.length xs.length (some (a:Int))=min a xs.length:=by
  show (if (a:Int) < 0 then _ else _:Int).toNat=_
  rw [if_neg (by omega)]; omega
 unfold cut
 rw [e2]
 show (xs.drop 0).take (min a xs.length - 0)=_
 rw [List.drop_zero,Nat.sub_zero,<- List.take_eq_take_min]
theorem No {xs:List D} {i:Nat} (h:i < xs.length):atD xs (i:Int)=.ok xs[i]:=by
 unfold atD ixN
 rw [if_pos (by omega),if_pos (by omega)]
 simp [h]
theorem DV {y:Int} {n:Nat} (hn:0 < n):∃ k:Nat,k < n/\y % (n:Int)=k:=by
 have h1:=abM y (show (n:Int) ≠ 0 by omega)
 have h2:=abT y (show 0 < (n:Int) by omega)
 exact ⟨(y % (n:Int)).toNat,by omega,by omega⟩
structure Tri where
 l:Int
 j:Int
 t:Int
noncomputable def nlv (p h:Nat):Nat:=if p=0 then 0 else h + 1
noncomputable def lvS (p f h:Nat):List Nat:=if p=0 then [] else lvD p f h
noncomputable def Bh (p f h:Nat) (l j:Int):Bool:=decide (0<=l/\l < nlv p h/\0<=j/\j < cnt p f l.toNat)
theorem J2 (p f h:Nat):(lvS p f h).length=nlv p h:=by
 unfold lvS nlv
 split
 ·rfl
 ·rw [Co]
theorem FR {α:Type} (g:α->Bool):∀ xs:List α,BN (xs.map fun x=>.bl (g x))=some (xs.map g)
 | []=>rfl
 | x :: r=>by rw [aaz,BN,FR g r]; rfl
section
variable {p f h:Nat} (S:Sp p f h)
include S
theorem Jw:Dw.den [shD p f]=.ok (Ap (lvS p f h)):=by
 unfold lvS
 rcases S.hs with h0 | H
 ·subst h0; rw [if_pos rfl]; exact Ju f
 ·have:=H.one
  have h1:=Fp (p:=p) (f:=f) (l:=h) (by have:=S.hf; omega)
  rw [if_neg (by omega)]
  exact GP S.hf S.hf8 H S.hh
theorem Jx:AA.den [.int p,.int f]=.ok (Ap (lvS p f h)):=by
 unfold lvS
 rcases S.hs with h0 | H
 ·subst h0; rw [if_pos rfl]; exact FQ f
 ·have:=H.one
  have h1:=Fp (p:=p) (f:=f) (l:=h) (by have:=S.hf; omega)
  rw [if_neg (by omega)]
  exact ET S.hf S.hf8 H S.hh (by omega)
theorem Ja {l:Nat} (hl:l < nlv p h):atD ((lvS p f h).map iN) (l:Int)=.ok (.int (cnt p f l)):=by
 unfold nlv at hl
 unfold lvS
 split at hl
 ·omega
 ·rename_i h0
  rw [if_neg h0]
  have h3:=IX (xs:=lvD p f h) (i:=l) (by rw [Co]; omega)
  rw [Hg (by omega)] at h3
  exact h3
theorem Np (l j:Int):CU.den [shD p f,.tup [.int l,.int j]]=.ok (.bl (Bh p f h l j)):=by
 have h1:=Jw S
 have hl:=J2 p f h
 have b1:=Cn l 0 (((lvS p f h).length:Int) - 1)
 rw [hl] at b1
 have h2:Bl.den [Ap (lvS p f h),.tup [.int l,.int j]]=.ok (.bl (Bh p f h l j)):=by
  refine (Dx _ rfl).trans (Ae ?_)
  by_cases c1:0<=l/\l < nlv p h
  ·rw [decide_eq_true (by omega)] at b1
   have h3:=Ja S (l:=l.toNat) (by omega)
   rw [aa6 c1.1] at h3
   have b2:=Cn j 0 ((cnt p f l.toNat:Int) - 1)
   have e:Bh p f h l j=decide (0<=j/\j<=(cnt p f l.toNat:Int) - 1):=by
    unfold Bh
    rw [decide_eq_decide]; omega
   rw [e]
   unfold Ap
   simp_arith [AM,aaa,hl,b1,h3,b2]
  ·rw [decide_eq_false (by omega)] at b1
   have e:Bh p f h l j=false:=by unfold Bh; rw [decide_eq_false_iff_not]; omega
   rw [e]
   unfold Ap
   simp_arith [AM,aaa,hl,b1]
 refine (GI _ rfl).trans (Ae ?_)
 simp_arith [Dy,h1,h2]
theorem Jb {l j:Int} (h1:Bh p f h l j=true):∃ a b:Nat,l=a/\j=b/\a<=h/\b < cnt p f a/\p ≠ 0:=by
 have h2:=of_decide_eq_true h1
 have:p ≠ 0:=fun z=>by
  have:=h2.2.1
  unfold nlv at this
  rw [if_pos z] at this
  omega
 refine ⟨l.toNat,j.toNat,by omega,by omega,?_,by omega,this⟩
 have:=h2.2.1
 unfold nlv at this
 rw [if_neg (by assumption)] at this
 omega
noncomputable def spB (f:Nat) (l j:Int):Int:=((j.toNat * f ^ l.toNat:Nat):Int)
noncomputable def spE (p f:Nat) (l j:Int):Int:=((min p (j.toNat * f ^ l.toNat + f ^ l.toNat):Nat):Int)
theorem HC {l j:Int} (h1:Bh p f h l j=true):DT.den [shD p f,.tup [.int l,.int j]]=.ok (.tup [.int (spB f l j),.int (spE p f l j)]):=by
 obtain ⟨a,b,rfl,rfl,h2,h3,h4⟩:=Jb S h1
 rcases S.hs with h0 | H
 ·exact absurd h0 h4
 ·exact Nm S.hf S.hf8 H S.hh h2 h3
theorem GR {l j:Int} (h1:Bh p f h l j=true):Bd.den [.int p,.int f,.int l,.int j]=.ok (.tup [.int (spB f l j),.int (spE p f l j)]):=by
 obtain ⟨a,b,rfl,rfl,h2,h3,h4⟩:=Jb S h1
 have:=S.hh
 exact Me p f a b S.hf8 (by omega)
noncomputable def lo (p f h:Nat):List Tri->Int->Option Int
 | [],r=>some r
 | q :: qs,r=>if Bh p f h q.l q.j=true/\spB f q.l q.j=r then lo p f h qs (spE p f q.l q.j) else none
end
noncomputable def tri (l q r:Nat):D:=.tup [.int l,.int q,.int r]
theorem O0 (l q r:Nat):CK (tri l q r) none (some 2)=.ok (A6 l q):=rfl
theorem RI (a b c:D):atD [a,b,c] 2=.ok c:=rfl
noncomputable def cvN (p f a m:Nat):D:=tri m (a / f ^ m) (min p (a + f ^ m))
section
variable {p f h:Nat} (hf:2<=f) (hf8:f<=8) (H:Hs p f h) (hh:h<=8)
include hf hf8 H hh
section
variable {a e:Nat} (hae:a < e) (hep:e<=p)
include hae hep
theorem Nq (b:D) (xs:D) (i:Nat) (hi:i<=h) (nd:D) (o9:Option D) :
  ∃ o9',exs Ay [some (.int p),some (.int f),some b,some (.int e),some xs,some (.int a),some (.int ((f ^ i:Nat):Int)),some nd,some (.int i),o9]=.nxt [some (.int p),some (.int f),some b,some (.int e),some xs,some (.int a),some (.int ((f ^ (i + 1):Nat):Int)),some (if okL p f a e i then cvN p f a i else nd),some (.int i),o9']:=by
 refine ⟨some (.int (min (p:Int) (a + ((f ^ i:Nat):Int)))),?_⟩
 have hw0:0 < f ^ i:=abv (by omega)
 have hw:=Nk (f:=f) (l:=i) hf8 (by omega)
 have ok:=FI (p:=p) (f:=f) (a:=a) (e:=e) (l:=i)
 rw [abN,abb]
 unfold cvN tri
 generalize okL p f a e i=t at *
 generalize f ^ i=w at *
 have h1:0 < (w:Int):=by omega
 have h2:(w:Int) < 1606938044258990275541962092341162602522202993782792835301376:=by omega
 have h3:-(18446744073709551616) < (f:Int):=by omega
 have h4:(f:Int) < 18446744073709551616:=by omega
 have e1:((a:Int) % (w:Int)==0)=(a % w==0):=by
  rw [<- Int.natCast_emod,Bool.eq_iff_iff,beq_iff_eq,beq_iff_eq]
  omega
 have e2:((min p (a + w):Nat):Int)=min (p:Int) (a + (w:Int)):=by omega
 by_cases c1:a % w=0
 ·have d1:(a % w==0)=true:=by simpa using c1
  by_cases c2:min p (a + w)<=e
  ·have d2:min (p:Int) (a + (w:Int))<=e:=by omega
   have d3:t=true:=ok.mpr ⟨c1,c2⟩
   subst d3
   rw [if_pos rfl,Int.natCast_ediv,e2]
   simp_arith [Ay,h1,h2,h3,h4,e1,d1,d2]
  ·have d2:¬ min (p:Int) (a + (w:Int))<=e:=by omega
   have d3:t=false:=by cases t; rfl; exact absurd (ok.mp rfl).2 c2
   subst d3
   rw [if_neg aaQ]
   simp_arith [Ay,h1,h2,h3,h4,e1,d1,d2]
 ·have d1:(a % w==0)=false:=by simpa using c1
  have d3:t=false:=by cases t; rfl; exact absurd (ok.mp rfl).1 c1
  subst d3
  rw [if_neg aaQ]
  simp_arith [Ay,h1,h2,h3,h4,e1,d1]
theorem QL (i:Nat) (hi:i<=h):okL p f a e i=decide (i<=lvA p f h e a):=by
 rw [Bool.eq_iff_iff,decide_eq_true_eq]
 constructor
 ·intro h1
  apply aaZ
  intro h2
  have:=NP (b:=okL p f a e) h i h2 hi
  rw [this] at h1; cases h1
 ·intro h1
  exact Nl (by omega) (KR (QF hae) h) h1
theorem Nr (b:D) (xs:D) (o8 o9:Option D):∃ o8' o9',AC (.nm 8) (exs Ay) (An 0 ((h + 1:Nat):Int)) [some (.int p),some (.int f),some b,some (.int e),some xs,some (.int a),some (.int 1),some (tri 0 a (a + 1)),o8,o9]=.nxt [some (.int p),some (.int f),some b,some (.int e),some xs,some (.int a),some (.int ((f ^ (h + 1):Nat):Int)),some (cvN p f a (lvA p f h e a)),o8',o9']:=by
 obtain ⟨δ',e',o8',o9',rfl⟩:=Au (tg:=.nm 8) (b:=exs Ay) (fun i δ=>∃ o8 o9,δ=[some (.int p),some (.int f),some b,some (.int e),some xs,some (.int a),some (.int ((f ^ i:Nat):Int)),some (cvN p f a (min (i - 1) (lvA p f h e a))),o8,o9]) (ds:=An 0 ((h + 1:Nat):Int)) (δ:=[some (.int p),some (.int f),some b,some (.int e),some xs,some (.int a),some (.int 1),some (tri 0 a (a + 1)),o8,o9]) 0 ⟨o8,o9,by
   rw [show min (0 - 1) (lvA p f h e a)=0 by omega]
   unfold cvN
   rw [Nat.pow_zero,Nat.div_one,show min p (a + 1)=a + 1 by omega]; rfl⟩ (by
  rintro i d δ hd ⟨o8,o9,rfl⟩
  obtain ⟨rfl,hi⟩:=BG hd
  rw [abA,aat]
  obtain ⟨o9',e'⟩:=Nq hf hf8 H hh hae hep b xs i (by omega) (cvN p f a (min (i - 1) (lvA p f h e a))) o9
  refine ⟨_,_,rfl,e',some (.int i),o9',?_⟩
  rw [QL hf hf8 H hh hae hep i (by omega)]
  by_cases c:i<=lvA p f h e a
  ·rw [decide_eq_true c,if_pos rfl,show min (i + 1 - 1) (lvA p f h e a)=i by omega]
  ·rw [decide_eq_false c,if_neg aaQ,show min (i + 1 - 1) (lvA p f h e a)=min (i - 1) (lvA p f h e a) by omega])
 have hm:lvA p f h e a<=h:=KQ _ _
 rw [BH,show 0 + (((h + 1:Nat):Int) - 0).toNat=h + 1 by omega] at e'
 rw [show min (h + 1 - 1) (lvA p f h e a)=lvA p f h e a by omega] at e'
 exact ⟨o8',o9',e'⟩
theorem Mg (b:D) (xs:List D) (hx:xs.length<=1000) (o6 o7 o8 o9:Option D):∃ o6' o7' o8' o9',exs AZ [some (.int p),some (.int f),some b,some (.int e),some (.lst xs),some (.int a),o6,o7,o8,o9]=.nxt [some (.int p),some (.int f),some b,some (.int e),some (.lst (xs ++ [A6 (lvA p f h e a) (a / f ^ lvA p f h e a)])),some (.int (nxA p f h e a)),o6',o7',o8',o9']:=by
 obtain ⟨o8',o9',hl⟩:=Nr hf hf8 H hh hae hep b (.lst xs) o8 o9
 refine ⟨some (.int ((f ^ (h + 1):Nat):Int)),some (cvN p f a (lvA p f h e a)),o8',o9',?_⟩
 have hc:=ET hf hf8 H hh (by omega)
 have hr:=Bz (a:=0) (b:=((h + 1:Nat):Int)) (by omega) (by omega) (by omega) (by omega)
 have hap:=BL xs (A6 (lvA p f h e a) (a / f ^ lvA p f h e a)) (by omega)
 have hcut:=O0 (lvA p f h e a) (a / f ^ lvA p f h e a) (min p (a + f ^ lvA p f h e a))
 unfold Ap at hc
 unfold cvN at *
 unfold nxA
 have hll:=Co p f h
 unfold tri at *
 rw [show ((0:Nat):Int)=0 from rfl,show ((a + 1:Nat):Int)=(a:Int) + 1 by omega] at hl
 simp_arith [AZ,hc,hll,aaa,hr,hl,hcut,hap,RI,-CK]
end
theorem HD {e:Nat} (hep:e<=p) (b:D):∀ (n m a:Nat) (xs:List D) (o6 o7 o8 o9:Option D),e - a<=n->n < m->a<=e->xs.length + n<=1000->∃ o6' o7' o8' o9',AO (tv (.cmp .lt (.nm 5) (.nm 3))) (exs AZ) m [some (.int p),some (.int f),some b,some (.int e),some (.lst xs),some (.int a),o6,o7,o8,o9]=.nxt [some (.int p),some (.int f),some b,some (.int e),some (.lst (xs ++ KS p f h e n a)),some (.int e),o6',o7',o8',o9']
 | n,m + 1,a,xs,o6,o7,o8,o9,h1,h2,h3,h4=>by
  by_cases hae:a < e
  ·obtain ⟨n,rfl⟩:∃ k,n=k + 1:=⟨n - 1,by omega⟩
   have c1:(a:Int) < e:=by omega
   have hn:=QH (p:=p) (f:=f) (h:=h) (by omega) hae hep
   have hn2:=(QG (p:=p) (f:=f) (h:=h) hae).2
   obtain ⟨q6,q7,q8,q9,ht⟩:=Mg hf hf8 H hh hae hep b xs (by omega) o6 o7 o8 o9
   rw [GO (by simp_arith [c1]) ht]
   obtain ⟨q6',q7',q8',q9',e'⟩:=HD hep b n m (nxA p f h e a) (xs ++ [A6 (lvA p f h e a) (a / f ^ lvA p f h e a)]) q6 q7 q8 q9 (by omega) (by omega) hn2 (by simp; omega)
   refine ⟨q6',q7',q8',q9',?_⟩
   rw [e',acj]
   unfold KS
   rw [cov,if_pos hae]
   rfl
  ·have ha:a=e:=by omega
   subst ha
   have c1:¬ (a:Int) < a:=by omega
   refine ⟨o6,o7,o8,o9,?_⟩
   rw [Da (by simp_arith [c1])]
   unfold KS
   cases n with
   | zero=>simp [cov]
   | succ n=>rw [cov,if_neg hae]; simp
theorem KW {a e:Nat} (hae:a<=e) (hep:e<=p) (hp:p<=200):Be.den [.int p,.int f,.int a,.int e]=.ok (.lst (KS p f h e 200 a)):=by
 obtain ⟨o6,o7,o8,o9,e'⟩:=HD hf hf8 H hh hep (.int a) 200 FU a [] none none none none (by omega) (by unfold FU; omega) hae (by simp)
 rw [aa4] at e'
 refine (D7 _ rfl).trans (Ae ?_)
 simp_arith [Bp,e']
end
theorem GS (p f a:Nat):Be.den [.int p,.int f,.int a,.int a]=.ok (.lst []):=by
 have c3:¬ (a:Int) < a:=by omega
 have hl:AO (tv (.cmp .lt (.nm 5) (.nm 3))) (exs AZ) FU [some (.int p),some (.int f),some (.int a),some (.int a),some (.lst []),some (.int a),none,none,none,none]=.nxt [some (.int p),some (.int f),some (.int a),some (.int a),some (.lst []),some (.int a),none,none,none,none]:=by
  unfold FU
  exact Da (by simp_arith [c3])
 refine (D7 _ rfl).trans (Ae ?_)
 simp_arith [Bp,hl]
noncomputable def tw (es:List Bool) (i:Nat):Nat:=((es.drop i).takeWhile id).length
noncomputable def tv1 (es:List Bool) (i:Nat):Bool:=es.getD i false
noncomputable def st1 (es:List Bool) (i:Nat):Bool:=tv1 es i && (i==0 || !tv1 es (i - 1))
theorem Hi:∀ l:List Bool,(∀ t,t < (l.takeWhile id).length->l.getD t false=true)/\l.getD (l.takeWhile id).length false=false
 | []=>⟨fun t h=>by simp at h,rfl⟩
 | true :: r=>by
  obtain ⟨h1,h2⟩:=Hi r
  refine ⟨fun t h=>?_,by simpa using h2⟩
  cases t with
  | zero=>rfl
  | succ t=>simpa using h1 t (by simpa using h)
 | false :: r=>⟨fun t h=>by simp at h,rfl⟩
theorem HE (es:List Bool) (i t:Nat):(es.drop i).getD t false=tv1 es (i + t):=by
 unfold tv1
 rw [aaB,aaB,List.getElem?_drop]
theorem J3 {es:List Bool} {i t:Nat} (h:t < tw es i):tv1 es (i + t)=true:=by
 rw [<- HE]; exact (Hi (es.drop i)).1 t h
theorem QM (es:List Bool) (i:Nat):tv1 es (i + tw es i)=false:=by
 rw [<- HE]; exact (Hi (es.drop i)).2
theorem KY {es:List Bool} {i:Nat} (h:tv1 es i=true):i < es.length:=by
 apply Nat.lt_of_not_le
 intro z
 unfold tv1 at h
 rw [aaB,ab8 z] at h
 cases h
noncomputable def A4 (es:List Bool) (m:Nat):List (Nat × Nat):=((aaE m).filter (st1 es)).map fun i=>(i,i + tw es i)
noncomputable def blL (es:List Bool):D:=.lst (es.map .bl)
theorem GT {es:List Bool} {i:Nat} (h:i < es.length):atD (es.map D.bl) (i:Int)=.ok (.bl (tv1 es i)):=by
 rw [No (by rw [aaa]; exact h),abX]
 unfold tv1
 rw [aaB,aal h]; rfl
theorem Jc (es:List Bool) (m:Nat):(A4 es m).length<=m:=by
 unfold A4
 rw [aaa]
 have:=List.length_filter_le (st1 es) (aaE m)
 rw [abe] at this
 exact this
section
variable {es:List Bool} (hn:es.length<=200)
include hn
theorem Sl:tv1 es es.length=false:=by
 cases q:tv1 es es.length with
 | false=>rfl
 | true=>exact absurd (KY q) (aaM _)
theorem O1 (k:Nat) (hk:k < es.length) (fo:D):AO (tv (.bo true (.cons (.cmp .lt (.nm 3) (.bi .len (.cons (.nm 0) .nil))) (.cons (.ix (.nm 0) (.nm 3)) .nil)))) (exs Bq) FU [some (blL es),some fo,some (.int k),some (.int k)]=.nxt [some (blL es),some fo,some (.int k),some (.int ((k + tw es k:Nat):Int))]:=by
 have cd:∀ t:Nat,k + t<=es.length->tv (.bo true (.cons (.cmp .lt (.nm 3) (.bi .len (.cons (.nm 0) .nil))) (.cons (.ix (.nm 0) (.nm 3)) .nil))) [some (blL es),some fo,some (.int k),some (.int ((k + t:Nat):Int))]=.ok (tv1 es (k + t)):=fun t ht=>by
  unfold blL
  by_cases c:k + t < es.length
  ·have c':((k + t:Nat):Int) < es.length:=by omega
   have ha:=GT c
   simp_arith [aaa,c',ha]
  ·have c':¬ ((k + t:Nat):Int) < es.length:=by omega
   have:tv1 es (k + t)=false:=by rw [show k + t=es.length by omega]; exact Sl hn
   rw [this]
   simp_arith [aaa,c']
 have hle:k + tw es k<=es.length:=by
  apply aaZ
  intro z
  have:=KY (J3 (es:=es) (i:=k) (t:=es.length - k) (by omega))
  omega
 obtain ⟨δ',e,rfl⟩:=CP (c:=tv (.bo true (.cons (.cmp .lt (.nm 3) (.bi .len (.cons (.nm 0) .nil))) (.cons (.ix (.nm 0) (.nm 3)) .nil)))) (b:=exs Bq) (fun t δ=>δ=[some (blL es),some fo,some (.int k),some (.int ((k + t:Nat):Int))]) (tw es k) FU 0 (δ:=[some (blL es),some fo,some (.int k),some (.int k)]) rfl (by
   rintro t δ _ ht rfl
   refine ⟨by rw [cd t (by omega),J3 (by omega)],_,?_,rfl⟩
   rw [show ((k + (t + 1):Nat):Int)=((k + t:Nat):Int) + 1 by omega]
   simp_arith [Bq]) (by
   rintro δ rfl
   rw [aat,cd _ hle,QM]) (by unfold FU; omega)
 rw [e,aat]
theorem O2 (k:Nat) (hk:k < es.length) (o3:Option D):∃ o3',exs A3 [some (blL es),some (.lst ((A4 es k).map Ab)),some (.int k),o3]=.nxt [some (blL es),some (.lst ((A4 es (k + 1)).map Ab)),some (.int k),o3']:=by
 have ha:=GT hk
 have hrl:=Jc es k
 have hr:A4 es (k + 1)=A4 es k ++ if st1 es k then [(k,k + tw es k)] else []:=by
  unfold A4
  rw [ab1,List.filter_append,aam]
  congr 1
  cases q:st1 es k <;> simp [q]
 have hb:ev (.bo true (.cons (.ix (.nm 0) (.nm 2)) (.cons (.bo false (.cons (.cmp .eq (.nm 2) (.cI 0)) (.cons (.not (.ix (.nm 0) (.bin .sub (.nm 2) (.cI 1)))) .nil))) .nil))) [some (blL es),some (.lst ((A4 es k).map Ab)),some (.int k),o3]=.ok (.bl (st1 es k)):=by
  unfold st1
  unfold blL
  cases q:tv1 es k with
  | false =>
   rw [q] at ha
   simp_arith [ha]
  | true =>
   rw [q] at ha
   by_cases c:k=0
   ·subst c
    rw [show ((0:Nat):Int)=0 from rfl] at *
    simp_arith [ha,Bool.true_or]
   ·have c1:(k==0)=false:=beq_eq_false_iff_ne.mpr c
    have c2:((k:Int)==0)=false:=by rw [beq_eq_false_iff_ne]; omega
    have ha2:=GT (es:=es) (i:=k - 1) (by omega)
    rw [show ((k - 1:Nat):Int)=(k:Int) - 1 by omega] at ha2
    rw [c1]
    simp_arith [ha,c2,ha2,Bool.false_or]
 cases q:st1 es k with
 | true =>
  have hl:=O1 hn k hk (.lst ((A4 es k).map Ab))
  have hap:=BL ((A4 es k).map Ab) (.tup [.int k,.int ((k + tw es k:Nat):Int)]) (by rw [aaa]; omega)
  rw [q] at hr hb
  rw [hr,if_pos rfl,aam]
  refine ⟨some (.int ((k + tw es k:Nat):Int)),?_⟩
  show _=Out.nxt [some (blL es),some (.lst ((A4 es k).map Ab ++ [.tup [.int k,.int ((k + tw es k:Nat):Int)]])),some (.int k),some (.int ((k + tw es k:Nat):Int))]
  generalize (A4 es k).map Ab=rr at *
  generalize k + tw es k=m at *
  rw [A3,exs,ex,tv,hb,Res.bind_ok]
  simp_arith [hl,hap]
 | false =>
  rw [q] at hr hb
  rw [hr,if_neg aaQ,aaK]
  refine ⟨o3,?_⟩
  rw [A3,exs,ex,tv,hb,Res.bind_ok]
  simp_arith []
theorem EI:AT.den [blL es]=.ok (.lst ((A4 es es.length).map Ab)):=by
 have hr:=Bz (a:=0) (b:=(es.length:Int)) (by omega) (by omega) (by omega) (by omega)
 obtain ⟨δ',e,o2,o3,rfl⟩:=Au (tg:=.nm 2) (b:=exs A3) (fun k δ=>∃ o2 o3,δ=[some (blL es),some (.lst ((A4 es k).map Ab)),o2,o3]) (ds:=An 0 (es.length:Int)) (δ:=[some (blL es),some (.lst []),none,none]) 0 ⟨none,none,rfl⟩ (by
  rintro k d δ hd ⟨o2,o3,rfl⟩
  obtain ⟨rfl,hk⟩:=BG hd
  rw [abA,aat]
  obtain ⟨q3,e⟩:=O2 hn k (by omega) o3
  exact ⟨_,_,rfl,e,some (.int k),q3,rfl⟩)
 rw [BH,show 0 + ((es.length:Int) - 0).toNat=es.length by omega] at e
 refine (F9 _ rfl).trans (Ae ?_)
 generalize (A4 es es.length).map Ab=rr at *
 unfold blL at *
 simp_arith [BX,aaa,hr,e]
end
section
variable {xs:List Int} {c0 c1 c2:Int} {s p m:D} (a0:atD (xs.map D.int) 0=.ok (.int c0)) (a1:atD (xs.map D.int) 1=.ok (.int c1)) (a2:atD (xs.map D.int) 2=.ok (.int c2)) (h0:c0<=200) (b0:0<=c1) (b1:c1 < 6)
include a0 a1 a2 h0 b0 b1
theorem J4 (k:Nat):∀ (n w:Nat) (es:List Bool) (y:Int),(y + 1).toNat<=n->n < w->(es.length:Int)<=c0->∃ es' y',(es'.length:Int)<=c0/\AO (tv (.bo true (.cons (.cmp .lt (.bi .len (.cons (.nm 4) .nil)) (.ixL (.nm 3) (.cI 0))) (.cons (.cmp .ge (.nm 6) (.cI 0)) .nil)))) (exs BE) w [some s,some p,some m,some (.lst (xs.map .int)),some (blL es),some (.int k),some (.int y)]=.nxt [some s,some p,some m,some (.lst (xs.map .int)),some (blL es'),some (.int k),some (.int y')]
 | n,w + 1,es,y,h1,h2,h3=>by
  have l2:(0:Int) < 2:=by decide
  by_cases cc:(es.length:Int) < c0
  ·by_cases cy:0<=y
   ·obtain ⟨n,rfl⟩:∃ k,n=k + 1:=⟨n - 1,by omega⟩
    have hap:=BL (es.map D.bl) (.bl (((k:Int) + c2) % 2==0)) (by rw [aaa]; omega)
    have ht:exs BE [some s,some p,some m,some (.lst (xs.map .int)),some (blL es),some (.int k),some (.int y)]=.nxt [some s,some p,some m,some (.lst (xs.map .int)),some (blL (es ++ [((k:Int) + c2) % 2==0])),some (.int k),some (.int (y - 1))]:=by
     unfold blL
     rw [aam]
     simp_arith [BE,a2,l2,hap]
    rw [GO (by unfold blL; simp_arith [aaa,a0,cc,cy]) ht]
    exact J4 k n w (es ++ [((k:Int) + c2) % 2==0]) (y - 1) (by omega) (by omega) (by rw [aar]; simp; omega)
   ·refine ⟨es,y,h3,?_⟩
    rw [Da (by unfold blL; simp_arith [aaa,a0,cc,cy])]
  ·refine ⟨es,y,h3,?_⟩
   rw [Da (by unfold blL; simp_arith [aaa,a0,cc])]
theorem O3 (k:Nat) {x:Int} (x1:x < 12) (ak:atD (xs.map D.int) (3 + (k:Int))=.ok (.int x)) (hk:(k:Int) < c0) (es:List Bool) (h3:(es.length:Int)<=c0) (h4:c1<=3->es.length=k) (o6:Option D):∃ es' o6',(es'.length:Int)<=c0/\(c1<=3->es'.length=k + 1)/\exs AE [some s,some p,some m,some (.lst (xs.map .int)),some (blL es),some (.int k),o6]=.nxt [some s,some p,some m,some (.lst (xs.map .int)),some (blL es'),some (.int k),o6']:=by
 have hap:=fun b=>BL (es.map D.bl) (.bl b) (by rw [aaa]; omega)
 by_cases c3:c1=3
 ·subst c3
  have:=h4 (by omega)
  refine ⟨es ++ [c2==0],some (.int x),by rw [aar]; simp; omega,fun _=>by rw [aar]; simp; omega,?_⟩
  unfold blL
  rw [aam]
  simp_arith [AE,a1,a2,ak,hap]
 ·have d3:(c1==3)=false:=beq_eq_false_iff_ne.mpr c3
  by_cases c4:3 < c1
  ·obtain ⟨es',y',h5,e⟩:=J4 (s:=s) (p:=p) (m:=m) a0 a1 a2 h0 b0 b1 k 100 FU es x (by omega) (by unfold FU; omega) h3
   refine ⟨es',some (.int y'),h5,fun z=>absurd z (by omega),?_⟩
   unfold blL at *
   generalize es.map D.bl=w1 at *
   generalize es'.map D.bl=w2 at *
   simp_arith [AE,a1,ak,d3,c4,e]
  ·have:=h4 (by omega)
   obtain ⟨v,hv⟩:∃ v:Int,atD [.int 6,.int 1,.int 10] c1=.ok (.int v):=by
    have:c1=0\/c1=1\/c1=2:=by omega
    rcases this with rfl | rfl | rfl <;> exact ⟨_,rfl⟩
   refine ⟨es ++ [decide (v<=x)],some (.int x),by rw [aar]; simp; omega,fun _=>by rw [aar]; simp; omega,?_⟩
   unfold blL
   rw [aam]
   simp_arith [AE,a1,ak,d3,c4,hv,hap]
end
theorem FS (ns:List Int) (p:Int) (hp:0<=p) (m:Nat) (hm:m<=200):∃ es:List Bool,es.length<=m/\AS.den [.lst (ns.map .int),.int p,.int m]=.ok (blL es):=by
 obtain ⟨xs,hrow,hl,hb⟩:=EH ns p hp ([(m:Int) + 1,6,2] ++ aai m 12) (by simp; omega) (by
  intro s hs
  rcases aaf.mp hs with h | h
  ·simp only [aaj,abu,or_false] at h
   rcases h with rfl | rfl | rfl <;> omega
  ·rw [(abz.mp h).2]; decide)
 have hl:xs.length=m + 3:=by rw [hl,aar,aaY]; simp; omega
 have g:∀ i,i < m + 3->∃ x,xs[i]?=some x:=fun i hi=>⟨_,aal (by omega)⟩
 obtain ⟨c0,g0⟩:=g 0 (by omega)
 obtain ⟨c1,g1⟩:=g 1 (by omega)
 obtain ⟨c2,g2⟩:=g 2 (by omega)
 have b0:=hb 0 c0 ((m:Int) + 1) g0 (by simp)
 have b1:=hb 1 c1 6 g1 (by simp)
 have a0:atD (xs.map D.int) 0=.ok (.int c0):=DU g0
 have a1:atD (xs.map D.int) 1=.ok (.int c1):=DU g1
 have a2:atD (xs.map D.int) 2=.ok (.int c2):=DU g2
 obtain ⟨q,rfl⟩:∃ q:Nat,c0=q:=⟨c0.toNat,by omega⟩
 obtain ⟨δ',e,es,o5,o6,rfl,hel,_⟩:=Au (tg:=.nm 5) (b:=exs AE) (fun i δ=>∃ (es:List Bool) (o5 o6:Option D),δ=[some (.lst (ns.map .int)),some (.int p),some (.int m),some (.lst (xs.map .int)),some (blL es),o5,o6]/\(es.length:Int)<=q/\(c1<=3->es.length=i)) (ds:=An 0 (q:Int)) (δ:=[some (.lst (ns.map .int)),some (.int p),some (.int m),some (.lst (xs.map .int)),some (blL []),none,none]) 0 ⟨[],none,none,rfl,by simp,fun _=>rfl⟩ (by
  rintro i d δ hd ⟨es,o5,o6,rfl,hel,h4⟩
  obtain ⟨rfl,hi⟩:=BG hd
  rw [abA,aat]
  rw [aat] at h4
  obtain ⟨x,gx⟩:=g (3 + i) (by omega)
  have him:i < m:=by have:=b0.2; omega
  have hx:=hb (3 + i) x 12 gx (by rw [aax (by simp)]; simp [him])
  have ak:=DU gx
  rw [show ((3 + i:Nat):Int)=3 + (i:Int) by omega] at ak
  obtain ⟨es',o6',h5,h6,e⟩:=O3 (s:=.lst (ns.map .int)) (p:=.int p) (m:=.int m) a0 a1 a2 (by omega) b1.1 b1.2 i hx.2 ak (by omega) es hel h4 o6
  exact ⟨_,_,rfl,e,es',some (.int i),o6',rfl,h5,h6⟩)
 refine ⟨es,by omega,?_⟩
 have hr:=Bz (a:=0) (b:=(q:Int)) (by omega) (by omega) (by omega) (by omega)
 have hrep:=QJ (.int 12) m (by omega)
 have hadd:=Hf [.int ((m:Int) + 1),.int 6,.int 2] (aai m (.int 12)) (by simp; omega)
 rw [aam,aa8] at hrow
 refine (Hb _ rfl).trans (Ae ?_)
 generalize aai m (D.int 12)=zs at *
 simp only [abm,aa2,aa4] at hrow hadd
 have e:AC (.nm 5) (exs AE) (An 0 (q:Int)) [some (.lst (ns.map .int)),some (.int p),some (.int m),some (.lst (xs.map .int)),some (.lst []),none,none]=.nxt [some (.lst (ns.map .int)),some (.int p),some (.int m),some (.lst (xs.map .int)),some (blL es),o5,o6]:=e
 simp_arith [CH,hrep,hadd,hrow,a0,hr,e]
structure Bk where
 n:Int
 a:Int
 b:Int
 l:Int
noncomputable def Bk.d (x:Bk):D:=.tup [.int x.n,.int x.a,.int x.b,.int x.l]
noncomputable def jn (x y:Bk):Bk:=⟨x.n + y.n,if x.a=x.n then x.n + y.a else x.a,if y.b=y.n then y.n + x.b else y.b,max (max x.l y.l) (x.b + y.a)⟩
noncomputable def bst (x:Bk):Bool->Bk
 | true=>⟨x.n + 1,if x.a=x.n then x.n + 1 else x.a,x.b + 1,max x.l (x.b + 1)⟩
 | false=>⟨x.n + 1,x.a,0,x.l⟩
noncomputable def bk0:Bk:=⟨0,0,0,0⟩
noncomputable def bks (es:List Bool):Bk:=es.foldl bst bk0
theorem J5 (es:List Bool) (e:Bool):bks (es ++ [e])=bst (bks es) e:=by unfold bks; rw [List.foldl_append]; rfl
theorem Nt {P:List Bool->Prop} (h0:P []) (h1:∀ es e,P es->P (es ++ [e])) (es:List Bool):P es:=by
 have:∀ r:List Bool,P r.reverse:=fun r=>by
  induction r with
  | nil=>exact h0
  | cons x r ih=>rw [abC]; exact h1 _ _ ih
 have:=this es.reverse
 rwa [abL] at this
structure BkI (es:List Bool) (x:Bk):Prop where
 n:x.n=es.length
 a0:0<=x.a
 a1:x.a<=x.n
 b0:0<=x.b
 b1:x.b<=x.n
 ab:x.a=x.n ↔ x.b=x.n
 bl:x.b<=x.l
 ta:∀ j:Nat,(j:Int) < x.a->tv1 es j=true
 te:tv1 es x.a.toNat=false
 sa:∀ j:Nat,(j:Int) < x.b->tv1 es (es.length - 1 - j)=true
 se:x.b=x.n\/tv1 es (es.length - 1 - x.b.toNat)=false
theorem D9 (es:List Bool) (e:Bool) (j:Nat):tv1 (es ++ [e]) j=if j < es.length then tv1 es j else if j=es.length then e else false:=by
 unfold tv1
 rw [aaB,aaB]
 split
 ·rename_i h; rw [aaG h]
 ·rename_i h
  rw [aax (by omega)]
  split
  ·rename_i h2; subst h2; simp
  ·rename_i h2
   rw [ab8 (by simp; omega)]; rfl
theorem Mh {es:List Bool} {j:Nat} (h:es.length<=j):tv1 es j=false:=by
 cases q:tv1 es j with
 | false=>rfl
 | true=>have:=KY q; omega
theorem bki (es:List Bool):BkI es (bks es):=by
 refine Nt (P:=fun es=>BkI es (bks es)) ?_ (fun es e I=>?_) es
 ·exact ⟨rfl,abF _,abF _,abF _,abF _,Iff.rfl,abF _,fun j h=>absurd h (by show ¬ (j:Int) < 0; omega),rfl,fun j h=>absurd h (by show ¬ (j:Int) < 0; omega),.inl rfl⟩
 ·rw [J5]
  generalize bks es=x at *
  obtain ⟨n,a0,a1,b0,b1,ab,bl,ta,te,sa,se⟩:=I
  have hl:(es ++ [e]).length=es.length + 1:=by simp
  cases e with
  | false =>
   refine ⟨by rw [hl]; show x.n + 1=_; omega,a0,?_,abF _,?_,?_,?_,?_,?_,?_,?_⟩
   ·show x.a<=x.n + 1; omega
   ·show 0<=x.n + 1; omega
   ·show x.a=x.n + 1 ↔ (0:Int)=x.n + 1; omega
   ·show 0<=x.l; omega
   ·intro j hj
    have hj:(j:Int) < x.a:=hj
    rw [D9,if_pos (by omega)]; exact ta j hj
   ·show tv1 _ (Int.toNat x.a)=false
    rw [D9]
    split
    ·exact te
    ·split <;> rfl
   ·intro j hj
    have hj:(j:Int) < 0:=hj
    omega
   ·right
    show tv1 _ ((es ++ [false]).length - 1 - 0)=false
    rw [hl,D9,if_neg (by omega),if_pos (by omega)]
  | true =>
   refine ⟨by rw [hl]; show x.n + 1=_; omega,?_,?_,?_,?_,?_,?_,?_,?_,?_,?_⟩
   ·show (0:Int)<=(if x.a=x.n then x.n + 1 else x.a); split <;> omega
   ·show (if x.a=x.n then x.n + 1 else x.a)<=x.n + 1; split <;> omega
   ·show 0<=x.b + 1; omega
   ·show x.b + 1<=x.n + 1; omega
   ·show (if x.a=x.n then x.n + 1 else x.a)=x.n + 1 ↔ x.b + 1=x.n + 1
    by_cases c:x.a=x.n
    ·rw [if_pos c]; omega
    ·rw [if_neg c]; omega
   ·show x.b + 1<=max x.l (x.b + 1); omega
   ·intro j hj
    have hj:(j:Int) < (if x.a=x.n then x.n + 1 else x.a):=hj
    rw [D9]
    by_cases c:x.a=x.n
    ·rw [if_pos c] at hj
     split
     ·exact ta j (by omega)
     ·rw [if_pos (by omega)]
    ·rw [if_neg c] at hj
     rw [if_pos (by omega)]; exact ta j hj
   ·show tv1 _ (Int.toNat (if x.a=x.n then x.n + 1 else x.a))=false
    by_cases c:x.a=x.n
    ·rw [if_pos c]; exact Mh (by rw [hl]; omega)
    ·rw [if_neg c,D9,if_pos (by omega)]; exact te
   ·intro j hj
    have hj:(j:Int) < x.b + 1:=hj
    rw [hl,D9]
    cases j with
    | zero=>rw [if_neg (by omega),if_pos (by omega)]
    | succ j =>
     rw [if_pos (by omega),show es.length + 1 - 1 - (j + 1)=es.length - 1 - j by omega]
     exact sa j (by omega)
   ·rcases se with se | se
    ·left; show x.b + 1=x.n + 1; omega
    ·by_cases c:x.b=x.n
     ·left; show x.b + 1=x.n + 1; omega
     ·right
      show tv1 _ ((es ++ [true]).length - 1 - (x.b + 1).toNat)=false
      rw [hl,show es.length + 1 - 1 - (x.b + 1).toNat=es.length - 1 - x.b.toNat by omega,D9,if_pos (by omega)]
      exact se
theorem Ea (a b c d:D):atD [a,b,c,d] 0=.ok a:=rfl
theorem Fq (a b c d:D):atD [a,b,c,d] 1=.ok b:=rfl
theorem Fs (a b c d:D):atD [a,b,c,d] 2=.ok c:=rfl
theorem Ew (a b c d:D):atD [a,b,c,d] 3=.ok d:=rfl
theorem KZ (x y:Bk):Fl.den [x.d,y.d]=.ok (jn x y).d:=by
 refine (Ma _ rfl).trans (Ae ?_)
 obtain ⟨n,a,b,l⟩:=x
 obtain ⟨n',a',b',l'⟩:=y
 show _=Out.ret (.tup [.int (n + n'),.int (if a=n then n + a' else a),.int (if b'=n' then n' + b else b'),.int (max (max l l') (b + a'))])
 unfold Bk.d
 by_cases c:a=n
 ·subst c
  by_cases c2:b'=n'
  ·subst c2
   simp_arith [CM,Ea,Fq,Fs,Ew,if_true]
  ·have e2:(b'==n')=false:=beq_eq_false_iff_ne.mpr c2
   simp_arith [CM,Ea,Fq,Fs,Ew,if_true,c2,e2,if_false]
 ·have e1:(a==n)=false:=beq_eq_false_iff_ne.mpr c
  by_cases c2:b'=n'
  ·subst c2
   simp_arith [CM,Ea,Fq,Fs,Ew,if_true,c,e1,if_false]
  ·have e2:(b'==n')=false:=beq_eq_false_iff_ne.mpr c2
   simp_arith [CM,Ea,Fq,Fs,Ew,if_true,c,e1,c2,e2,if_false]
theorem Nu (x y:Bk):Ev.den [x.d,y.d]=.ok (jn x y).d:=by
 refine (Jt _ rfl).trans (Ae ?_)
 obtain ⟨n,a,b,l⟩:=x
 obtain ⟨n',a',b',l'⟩:=y
 have hi:B4 [.int l,.int l',.int (b + a')]=some [l,l',b + a']:=rfl
 have ho:∀ (x:List Int),DB (some x)=.ok x:=fun _=>rfl
 have ho2:∀ (x:Int),DB (some x)=.ok x:=fun _=>rfl
 have hm:[l,l',b + a'].max?=some (max (max l l') (b + a')):=rfl
 show _=Out.ret (.tup [.int (n + n'),.int (if a=n then n + a' else a),.int (if b'=n' then n' + b else b'),.int (max (max l l') (b + a'))])
 unfold Bk.d
 by_cases c:a=n
 ·subst c
  by_cases c2:b'=n'
  ·subst c2
   simp_arith [BF,Ea,Fq,Fs,Ew,if_true,hi,ho,ho2,hm]
  ·have e2:(b'==n')=false:=beq_eq_false_iff_ne.mpr c2
   simp_arith [BF,Ea,Fq,Fs,Ew,if_true,c2,e2,if_false,hi,ho,ho2,hm]
 ·have e1:(a==n)=false:=beq_eq_false_iff_ne.mpr c
  by_cases c2:b'=n'
  ·subst c2
   simp_arith [BF,Ea,Fq,Fs,Ew,if_true,c,e1,if_false,hi,ho,ho2,hm]
  ·have e2:(b'==n')=false:=beq_eq_false_iff_ne.mpr c2
   simp_arith [BF,Ea,Fq,Fs,Ew,if_true,c,e1,c2,e2,if_false,hi,ho,ho2,hm]
noncomputable def wc1:E:=.bo true (.cons (.cmp .lt (.nm 1) (.bi .len (.cons (.nm 0) .nil))) (.cons (.ix (.nm 0) (.nm 1)) .nil))
noncomputable def wc2:E:=.bo true (.cons (.cmp .lt (.nm 2) (.bi .len (.cons (.nm 0) .nil))) (.cons (.ix (.nm 0) (.bin .sub (.bin .sub (.bi .len (.cons (.nm 0) .nil)) (.cI 1)) (.nm 2))) .nil))
section
variable {es:List Bool} (hn:es.length<=200)
include hn
theorem QN:AO (tv wc1) (exs Cj) FU [some (blL es),some (.int 0),none,none,none,none]=.nxt [some (blL es),some (.int (bks es).a),none,none,none,none]:=by
 obtain ⟨n,a0,a1,b0,b1,ab,bl,ta,te,sa,se⟩:=bki es
 have cd:∀ t:Nat,t<=es.length->tv wc1 [some (blL es),some (.int (t:Nat)),none,none,none,none]=.ok (tv1 es t):=fun t ht=>by
  unfold blL wc1
  by_cases c:t < es.length
  ·have c':(t:Int) < es.length:=by omega
   have ha:=GT c
   simp_arith [aaa,c',ha]
  ·have c':¬ (t:Int) < es.length:=by omega
   rw [Mh (show es.length<=t by omega)]
   simp_arith [aaa,c']
 obtain ⟨δ',e,rfl⟩:=CP (c:=tv wc1) (b:=exs Cj) (fun t δ=>δ=[some (blL es),some (.int (t:Nat)),none,none,none,none]) (bks es).a.toNat FU 0 (δ:=[some (blL es),some (.int 0),none,none,none,none]) rfl (by
   rintro t δ _ ht rfl
   refine ⟨by rw [cd t (by omega),ta t (by omega)],_,?_,rfl⟩
   rw [Int.natCast_add,Int.natCast_one]
   simp_arith [Cj]) (by
   rintro δ rfl
   rw [aat,cd _ (by omega),te]) (by unfold FU; omega)
 rw [e,aat,aa6 a0]
theorem QO (x:D):AO (tv wc2) (exs Ck) FU [some (blL es),some x,some (.int 0),none,none,none]=.nxt [some (blL es),some x,some (.int (bks es).b),none,none,none]:=by
 obtain ⟨n,a0,a1,b0,b1,ab,bl,ta,te,sa,se⟩:=bki es
 have cd:∀ t:Nat,t<=es.length->tv wc2 [some (blL es),some x,some (.int (t:Nat)),none,none,none]=.ok (decide (t < es.length) && tv1 es (es.length - 1 - t)):=fun t ht=>by
  unfold blL wc2
  by_cases c:t < es.length
  ·have c':(t:Int) < es.length:=by omega
   have ha:=GT (es:=es) (i:=es.length - 1 - t) (by omega)
   rw [show ((es.length - 1 - t:Nat):Int)=(es.length:Int) - 1 - t by omega] at ha
   rw [decide_eq_true c,abc]
   simp_arith [aaa,c',ha]
  ·have c':¬ (t:Int) < es.length:=by omega
   rw [decide_eq_false c,abg]
   simp_arith [aaa,c']
 obtain ⟨δ',e,rfl⟩:=CP (c:=tv wc2) (b:=exs Ck) (fun t δ=>δ=[some (blL es),some x,some (.int (t:Nat)),none,none,none]) (bks es).b.toNat FU 0 (δ:=[some (blL es),some x,some (.int 0),none,none,none]) rfl (by
   rintro t δ _ ht rfl
   refine ⟨by rw [cd t (by omega),sa t (by omega),decide_eq_true (by omega)]; rfl,_,?_,rfl⟩
   rw [Int.natCast_add,Int.natCast_one]
   simp_arith [Ck]) (by
   rintro δ rfl
   rw [aat,cd _ (by omega)]
   rcases se with se | se
   ·rw [decide_eq_false (by omega)]; rfl
   ·rw [se,abR]) (by unfold FU; omega)
 rw [e,aat,aa6 b0]
theorem K0:C0.den [blL es]=.ok (bks es).d:=by
 have h1:=QN hn
 have h2:=QO hn (.int (bks es).a)
 obtain ⟨δ',e,o5,rfl⟩:=Au (tg:=.nm 5) (b:=exs Cl) (fun k δ=>∃ o5,δ=[some (blL es),some (.int (bks es).a),some (.int (bks es).b),some (.int (bks (es.take k)).l),some (.int (bks (es.take k)).b),o5]) (ds:=es.map .bl) (δ:=[some (blL es),some (.int (bks es).a),some (.int (bks es).b),some (.int 0),some (.int 0),none]) 0 ⟨none,rfl⟩ (by
  rintro k d δ hd ⟨o5,rfl⟩
  rw [aao] at hd
  obtain ⟨b,hb,rfl⟩:=aap.mp hd
  rw [aat]
  have ht:es.take (k + 1)=es.take k ++ [b]:=by
   obtain ⟨h,rfl⟩:=aaq.mp hb
   exact (List.take_succ_eq_append_getElem h)
  rw [ht,J5]
  obtain ⟨-,-,-,b0,-,-,bl,-,-,-,-⟩:=bki (es.take k)
  refine ⟨_,_,rfl,?_,some (.bl b),rfl⟩
  generalize bks (es.take k)=y at *
  cases b with
  | true =>
   have ha:atD [.int 0,.int (y.b + 1)] 1=.ok (.int (y.b + 1)):=rfl
   show _=Out.nxt [some (blL es),some (.int (bks es).a),some (.int (bks es).b),some (.int (max y.l (y.b + 1))),some (.int (y.b + 1)),some (.bl true)]
   simp_arith [Cl,ha]
  | false =>
   have ha:atD [.int 0,.int (y.b + 1)] 0=.ok (.int 0):=rfl
   have hm:max y.l 0=y.l:=by omega
   show _=Out.nxt [some (blL es),some (.int (bks es).a),some (.int (bks es).b),some (.int y.l),some (.int 0),some (.bl false)]
   simp_arith [Cl,ha,hm])
 rw [aaa,aat,List.take_length] at e
 refine (IP _ rfl).trans (Ae ?_)
 have hnn:=(bki es).n
 unfold Bk.d
 unfold wc1 at h1
 unfold wc2 at h2
 generalize bks es=y at *
 rw [hnn]
 unfold blL at *
 simp_arith [Dt,h1,h2,e,aaa]
end
noncomputable def Ec (p f n:Nat):List (Nat × Nat):=(aaE n).flatMap fun l=>(aaE (cnt p f l)).map fun j=>(l,j)
theorem Jd (p f n:Nat):Ec p f (n + 1)=Ec p f n ++ (aaE (cnt p f n)).map fun j=>(n,j):=by
 unfold Ec
 rw [ab1,List.flatMap_append]
 simp
theorem J6 {p f:Nat} (hf:1<=f):∀ n,(Ec p f n).length<=n * p
 | 0=>by simp [Ec]
 | n + 1=>by
  rw [Jd,aar,aaa,abe,acf]
  have:=J6 (p:=p) hf n
  have:=Fp (p:=p) (f:=f) (l:=n) hf
  omega
section
variable {p f h:Nat} (hf:2<=f) (hf8:f<=8) (H:Hs p f h) (hh:h<=8) (hp:p<=200) (hp1:1<=p)
include hf hf8 H hh hp hp1
theorem O4 (i:Nat) (hi:i<=h):exs AY [some (.int p),some (.int f),some (.lst ((Ec p f i).map Ab)),some (Ap (lvD p f h)),some (.int i)]=.nxt [some (.int p),some (.int f),some (.lst ((Ec p f (i + 1)).map Ab)),some (Ap (lvD p f h)),some (.int i)]:=by
 have h5:=IX (xs:=lvD p f h) (i:=i) (by rw [Co]; omega)
 rw [Hg hi] at h5
 have hc:=Fp (p:=p) (f:=f) (l:=i) (by omega)
 have hr:=Bz (a:=0) (b:=(cnt p f i:Int)) (by omega) (by omega) (by omega) (by omega)
 have hl:=J6 (p:=p) (f:=f) (by omega) i
 have hl2:i * p<=8 * 200:=Nat.mul_le_mul (by omega) hp
 have h2:=Ge (nl:=1) (fr:=[4]) (tg:=.nm 0) (it:=.r1 (.ixL (.nm 3) (.nm 4))) (elt:=.tup (.cons (.nm 1) (.cons (.nm 0) .nil))) (δ:=[some (.int p),some (.int f),some (.lst ((Ec p f i).map Ab)),some (Ap (lvD p f h)),some (.int i)]) (ds:=An 0 (cnt p f i)) (g:=fun d=>.tup [.int i,d]) (by
   unfold Ap
   simp_arith [h5,hr]) (fun d hd=>by
  refine ⟨[some d,some (.int i)],rfl,?_⟩
  simp_arith [])
 have e1:(An 0 (cnt p f i)).map (fun d=>D.tup [.int i,d])=((aaE (cnt p f i)).map fun j=>(i,j)).map Ab:=by
  unfold An
  rw [aa1,aa1,abV,aaX]
  apply abw
  intro j _
  show D.tup [.int i,.int (0 + (j:Int))]=A6 i j
  rw [abA]; rfl
 rw [e1] at h2
 have he:=QI ((Ec p f i).map Ab) (((aaE (cnt p f i)).map fun j=>(i,j)).map Ab) (by simp; omega)
 rw [Jd,aam]
 unfold Ap at h2 ⊢
 simp_arith [h5,hr] at h2
 simp_arith [AY,h5,hr,h2,he]
theorem Mi:AF.den [.int p,.int f]=.ok (.lst ((Ec p f (h + 1)).map Ab)):=by
 have hc:=ET hf hf8 H hh hp1
 have hr:=Bz (a:=0) (b:=((h + 1:Nat):Int)) (by omega) (by omega) (by omega) (by omega)
 obtain ⟨δ',e,o,rfl⟩:=Au (tg:=.nm 4) (b:=exs AY) (fun i δ=>∃ o,δ=[some (.int p),some (.int f),some (.lst ((Ec p f i).map Ab)),some (Ap (lvD p f h)),o]) (ds:=An 0 ((h + 1:Nat):Int)) (δ:=[some (.int p),some (.int f),some (.lst []),some (Ap (lvD p f h)),none]) 0 ⟨none,rfl⟩ (by
  rintro i d δ hd ⟨o,rfl⟩
  obtain ⟨rfl,hi⟩:=BG hd
  rw [abA,aat]
  exact ⟨_,_,rfl,O4 hf hf8 H hh hp hp1 i (by omega),some (.int i),rfl⟩)
 rw [BH,show 0 + (((h + 1:Nat):Int) - 0).toNat=h + 1 by omega] at e
 have hll:=Co p f h
 unfold Ap at hc e
 refine (D6 _ rfl).trans (Ae ?_)
 simp_arith [Bo,hc,hll,aaa,hr,e]
end
theorem RJ {xs:List D} {a b:Nat} (ha:a<=xs.length) (hb:b<=xs.length):cut xs (some (a:Int)) (some (b:Int))=(xs.drop a).take (b - a):=by
 have e1:sIx xs.length 0 (some (a:Int))=a:=by
  show (if (a:Int) < 0 then _ else _:Int).toNat=a
  rw [if_neg (by omega)]; omega
 have e2:sIx xs.length xs.length (some (b:Int))=b:=by
  show (if (b:Int) < 0 then _ else _:Int).toNat=b
  rw [if_neg (by omega)]; omega
 unfold cut
 rw [e1,e2]
noncomputable def bkN (es:List Bool) (f l j:Nat):Bk:=bks ((es.drop (j * f ^ l)).take (min es.length (j * f ^ l + f ^ l) - j * f ^ l))
theorem QP {es:List Bool} {a b:Nat} (ha:a<=es.length) (hb:b<=es.length):CK (blL es) (some (a:Int)) (some (b:Int))=.ok (blL ((es.drop a).take (b - a))):=by
 show Res.ok (D.lst (cut (es.map .bl) (some (a:Int)) (some (b:Int))))=_
 rw [RJ (by rw [aaa]; exact ha) (by rw [aaa]; exact hb)]
 unfold blL
 rw [abd,abl]
structure Eb where
 l:Int
 j:Int
 x:Bk
noncomputable def Eb.d (e:Eb):D:=.tup [.int e.l,.int e.j,e.x.d]
noncomputable def pgE:Option Nat->D
 | none=>.non
 | some k=>.int k
theorem O5 {es:List Bool} {q:Nat × Nat} (h:q ∈ A4 es es.length):q.1<=q.2/\q.2<=es.length:=by
 unfold A4 at h
 obtain ⟨i,hi,rfl⟩:=aaW.mp h
 have hi:=List.mem_range.mp (abY.mp hi).1
 have:tw es i<=es.length - i:=by
  unfold tw
  have:=(List.takeWhile_sublist (l:=es.drop i) (p:=id)).length_le
  rw [aa7] at this
  exact this
 refine ⟨?_,?_⟩
 ·show i<=i + tw es i; omega
 ·show i + tw es i<=es.length; omega
section
variable {es:List Bool} (hn:es.length<=200) (m:Int)
include hn
theorem Je (A:D):∀ (R:List (Nat × Nat)) (o2 o3:Option D),∃ p2 p3,AC (.tp [2,3]) (exs Aq) (R.map Ab) [some A,some (.int m),o2,o3]=match R.find? (fun q=>decide (m<=(q.2:Int) - q.1)) with
  | some q=>.ret (.int q.1)
  | none=>.nxt [some A,some (.int m),p2,p3]
 | [],o2,o3=>⟨o2,o3,rfl⟩
 | q :: r,o2,o3=>by
  rw [aaz,AC]
  show ∃ p2 p3,(exs Aq [some A,some (.int m),some (.int q.1),some (.int q.2)]).then _=_
  by_cases c:m<=(q.2:Int) - q.1
  ·rw [List.find?_cons_of_pos (by simpa using c)]
   refine ⟨none,none,?_⟩
   simp_arith [Aq,c]
  ·rw [List.find?_cons_of_neg (by simpa using c)]
   obtain ⟨p2,p3,e⟩:=Je A r (some (.int q.1)) (some (.int q.2))
   refine ⟨p2,p3,?_⟩
   have st:exs Aq [some A,some (.int m),some (.int q.1),some (.int q.2)]=.nxt [some A,some (.int m),some (.int q.1),some (.int q.2)]:=by
    simp_arith [Aq,c]
   rw [st,Out.then_nxt]; exact e
end
theorem NQ {p f h e:Nat} (hf:1<=f) (hep:e<=p):∀ n a,∀ q ∈ cov p f h e n a,q.1<=h/\q.2 < cnt p f q.1
 | 0,a=>fun q hq=>nomatch hq
 | n + 1,a=>by
  intro q hq
  rw [cov] at hq
  by_cases hae:a < e
  ·rw [if_pos hae] at hq
   rcases aaj.mp hq with rfl | hq
   ·refine ⟨KQ _ _,?_⟩
    show a / f ^ lvA p f h e a < cnt p f (lvA p f h e a)
    rw [IW hf]
    have:=Nat.div_mul_le_self a (f ^ lvA p f h e a)
    omega
   ·exact NQ hf hep n _ q hq
  ·rw [if_neg hae] at hq; cases hq
noncomputable def BA (p f h e:Nat):List (Nat × Nat):=if p=0 then [] else cov p f h e 200 0
noncomputable def Ed (es:List Bool) (f:Nat) (q:Nat × Nat):D:=.tup [.int q.1,.int q.2,(bkN es f q.1 q.2).d]
section
variable {es:List Bool} {f h:Nat} (S:Sp es.length f h)
include S
theorem O6 {e:Nat} (he:e<=es.length):∀ q ∈ BA es.length f h e,Bh es.length f h q.1 q.2=true:=fun q hq=>by
 unfold BA at hq
 by_cases c:es.length=0
 ·rw [if_pos c] at hq; cases hq
 ·rw [if_neg c] at hq
  have:=NQ (p:=es.length) (f:=f) (h:=h) (e:=e) (by have:=S.hf; omega) he 200 0 q hq
  unfold Bh nlv
  rw [if_neg c,aaX]
  exact decide_eq_true (by omega)
theorem Fu {p f h e:Nat}:∀ n a,(cov p f h e n a).length<=n
 | 0,a=>aan _
 | n + 1,a=>by
  rw [cov]
  split
  ·have:=Fu (p:=p) (f:=f) (h:=h) (e:=e) n (nxA p f h e a)
   simp only [aaV]; omega
  ·simp
theorem QR {e:Nat} (he:e<=es.length):Bg.den [blL es,.int f,.int e]=.ok (.lst ((BA es.length f h e).map (Ed es f))):=by
 have hp:=S.hp
 have hlen:(((es.map D.bl).length:Nat):Int)=(es.length:Int):=by rw [aaa]
 have hco:Be.den [.int es.length,.int f,.int 0,.int e]=.ok (.lst ((BA es.length f h e).map Ab)):=by
  unfold BA
  by_cases c:es.length=0
  ·rw [if_pos c]
   have e0:e=0:=by omega
   subst e0
   exact GS es.length f 0
  ·rw [if_neg c]
   have H:Hs es.length f h:=by
    rcases S.hs with z | z
    ·exact absurd z c
    ·exact z
   exact KW S.hf S.hf8 H S.hh (aas e) he S.hp
 have hin:=O6 S he
 have hcl:(BA es.length f h e).length<=200:=by
  unfold BA
  split
  ·simp
  ·exact Fu S 200 0
 obtain ⟨δ',e1,p4,p5,p6,p7,rfl⟩:=Au (tg:=.tp [4,5]) (b:=exs Bt) (fun i δ=>∃ p4 p5 p6 p7,δ=[some (blL es),some (.int f),some (.int e),some (.lst (((BA es.length f h e).take i).map (Ed es f))),p4,p5,p6,p7]) (ds:=(BA es.length f h e).map Ab) (δ:=[some (blL es),some (.int f),some (.int e),some (.lst []),none,none,none,none]) 0 ⟨none,none,none,none,rfl⟩ (by
  rintro i d δ hd ⟨p4,p5,p6,p7,rfl⟩
  rw [aao] at hd
  obtain ⟨⟨l,j⟩,hq,rfl⟩:=aap.mp hd
  have hnd:=hin _ (aae hq)
  rw [aat]
  have hre:=GR S hnd
  obtain ⟨a,b,ea,eb,hah,hbc,hp0⟩:=Jb S hnd
  have ea:l=a:=by have z:((l:Nat):Int)=(a:Int):=ea; omega
  have eb:j=b:=by have z:((j:Nat):Int)=(b:Int):=eb; omega
  subst ea eb
  have hlt:=(IW (show 1<=f by have:=S.hf; omega)).mp hbc
  have hc:=QP (es:=es) (a:=j * f ^ l) (b:=min es.length (j * f ^ l + f ^ l)) (by omega) (by omega)
  have hb:=K0 (es:=(es.drop (j * f ^ l)).take (min es.length (j * f ^ l + f ^ l) - j * f ^ l)) (by rw [aaU,aa7]; omega)
  have hb:C0.den [blL ((es.drop (j * f ^ l)).take (min es.length (j * f ^ l + f ^ l) - j * f ^ l))]=.ok (bkN es f l j).d:=hb
  have hap:=BL (((BA es.length f h e).take i).map (Ed es f)) (.tup [.int l,.int j,(bkN es f l j).d]) (by rw [aaa,aaU]; omega)
  have et:((BA es.length f h e).take (i + 1)).map (Ed es f)=((BA es.length f h e).take i).map (Ed es f) ++ [.tup [.int l,.int j,(bkN es f l j).d]]:=by
   rw [List.take_succ,hq,aam]; rfl
  rw [et]
  refine ⟨_,_,rfl,?_,some (.int l),some (.int j),some (.int (spB f l j)),some (.int (spE es.length f l j)),rfl⟩
  show exs Bt [some (blL es),some (.int f),some (.int e),some (.lst (((BA es.length f h e).take i).map (Ed es f))),some (.int l),some (.int j),p6,p7]=_
  clear et hq hd hin hnd
  unfold spB spE at *
  simp only [aaX] at *
  generalize (es.drop (j * f ^ l)).take (min es.length (j * f ^ l + f ^ l) - j * f ^ l)=ys at *
  generalize ((min es.length (j * f ^ l + f ^ l):Nat):Int)=hi at *
  generalize ((j * f ^ l:Nat):Int)=lo at *
  generalize ((BA es.length f h e).take i).map (Ed es f)=PP at *
  unfold blL at *
  generalize es.map D.bl=X at *
  generalize ys.map D.bl=Y at *
  generalize (bkN es f l j).d=B at *
  have hc:Res.ok (D.lst (cut X (some lo) (some hi)))=.ok (.lst Y):=hc
  have hc:cut X (some lo) (some hi)=Y:=by cases hc; rfl
  simp_arith [Bt,hlen,hre,FK,hc,hb,hap])
 rw [aaa,aat,List.take_length] at e1
 refine (Gb _ rfl).trans (Ae ?_)
 unfold blL at *
 generalize (BA es.length f h e).map (Ed es f)=PP at *
 generalize (BA es.length f h e).map Ab=CV at *
 generalize es.map D.bl=X at *
 simp_arith [BY,hlen,hco,e1]
end
theorem a30 (a b c:D):atD [a,b,c] 0=.ok a:=rfl
theorem a31 (a b c:D):atD [a,b,c] 1=.ok b:=rfl
theorem a32 (a b c:D):atD [a,b,c] 2=.ok c:=rfl
theorem Nv (o:Option Nat):D.flat 9 0 (pgE o)=true:=by cases o <;> rfl
theorem p30:b2 .pow (.int 10) (.int 30)=.ok (.int 1000000000000000000000000000000):=by
 rw [DA _ _ (by decide) (by decide) (by decide)]; rfl
theorem Sm {a b c d:Int} {y:Int} (h0:0<=y) (h1:y < 4):∃ v:Int,atD [.int a,.int b,.int c,.int d] y=.ok (.int v):=by
 have:y=0\/y=1\/y=2\/y=3:=by omega
 rcases this with rfl | rfl | rfl | rfl
 ·exact ⟨a,rfl⟩
 ·exact ⟨b,rfl⟩
 ·exact ⟨c,rfl⟩
 ·exact ⟨d,rfl⟩
theorem RK {xs:List Int} (h:xs.length=3):∃ a b c,xs=[a,b,c]:=by
 match xs,h with
 | [a,b,c],_=>exact ⟨a,b,c,rfl⟩
section
variable {es:List Bool} (hn:es.length<=200)
include hn
theorem Sn (ns lg ms:List Int) (hl:0 < lg.length) (hml:ms.length<=100) (hm:∀ m ∈ ms,1<=m) (k:Nat) (E:D) (o5:Option D):∃ (ms':List Int) (p5:Option D),ms'.length=ms.length + 1/\(∀ m ∈ ms',1<=m)/\exs Bx [some (.lst (ns.map .int)),some E,some (.lst (lg.map .int)),some (.lst (ms.map .int)),some (.int k),o5]=.nxt [some (.lst (ns.map .int)),some E,some (.lst (lg.map .int)),some (.lst (ms'.map .int)),some (.int k),p5]:=by
 obtain ⟨ys,hrow,hyl,hyb⟩:=EH ns (3 + (k:Int)) (by omega) [200,4,30] (by decide) (by decide)
 obtain ⟨y0,y1,y2,rfl⟩:=RK hyl
 have h1:=hyb 1 y1 _ rfl rfl
 simp only [abm] at hrow
 obtain ⟨i,hi,ei⟩:=DV (y:=y0) (n:=lg.length) hl
 have ha:=RH hi
 obtain ⟨v,hv⟩:=Sm (a:=0) (b:=1) (c:=-1) (d:=y2) h1.1 h1.2
 have hlen:(((lg.map D.int).length:Nat):Int)=(lg.length:Int):=by rw [aaa]
 have hp:0 < (lg.length:Int):=by omega
 have hap:=BL (ms.map D.int) (.int (max 1 (lg.getD i 0 + v))) (by rw [aaa]; omega)
 refine ⟨ms ++ [max 1 (lg.getD i 0 + v)],some (.lst [.int y0,.int y1,.int y2]),by simp,fun m hm'=>?_,?_⟩
 ·rcases aaf.mp hm' with z | z
  ·exact hm m z
  ·rw [aaS.mp z]; omega
 ·rw [aam,List.map_singleton]
  generalize lg.getD i 0=g at *
  generalize lg.map D.int=L at *
  generalize ms.map D.int=M at *
  generalize ns.map D.int=N at *
  simp_arith [Bx,hrow,a30,a31,a32,hlen,hp,ei,ha,hv,hap]
theorem QS (ns:List Int):∃ ms:List Int,(∀ m ∈ ms,1<=m)/\ms.length<=100/\Br.den [.lst (ns.map .int),blL es]=.ok (.lst (ms.map .int)):=by
 have hls:=EI hn
 have hlen:(((es.map D.bl).length:Nat):Int)=(es.length:Int):=by rw [aaa]
 have hc:=Ge (nl:=2) (fr:=[]) (tg:=.tp [0,1]) (it:=.seq (.call AT (.cons (.nm 1) .nil))) (elt:=.bin .sub (.nm 1) (.nm 0)) (δ:=[some (.lst (ns.map .int)),some (blL es),none,none,none,none]) (ds:=(A4 es es.length).map Ab) (g:=fun d=>match d with | .tup [.int a,.int b]=>.int (b - a) | d=>d) (by
   generalize blL es=X at *
   generalize (A4 es es.length).map Ab=N at *
   simp_arith [hls]) (fun d hd=>by
  obtain ⟨⟨a,b⟩,_,rfl⟩:=aaW.mp hd
  refine ⟨[some (.int a),some (.int b)],rfl,?_⟩
  show _=Res.ok (D.int ((b:Int) - (a:Int)))
  simp_arith [])
 rw [aa1] at hc
 have ee:(A4 es es.length).map ((fun d=>match d with | D.tup [.int a,.int b]=>D.int (b - a) | d=>d) ∘ Ab)=((A4 es es.length).map fun q=>(q.2:Int) - q.1).map .int:=by
  rw [aa1]
  apply abw
  intro q _
  rfl
 rw [ee] at hc
 have hrl:=Jc es es.length
 have hadd:=Hf (((A4 es es.length).map fun q=>(q.2:Int) - q.1).map D.int) [.int 1] (by rw [aaa,aaa]; simp; omega)
 obtain ⟨lg,hlg⟩:∃ lg:List Int,lg=((A4 es es.length).map fun q=>(q.2:Int) - q.1) ++ [1]:=⟨_,rfl⟩
 have e2:((A4 es es.length).map fun q=>(q.2:Int) - q.1).map D.int ++ [.int 1]=lg.map .int:=by rw [hlg,aam]; rfl
 rw [e2] at hadd
 have hlp:0 < lg.length:=by rw [hlg]; simp
 have hmx:=Nn (ys:=lg) (fun z=>by rw [z] at hlp; simp at hlp)
 obtain ⟨M,hM⟩:∃ M,M=lg.max?.getD 0:=⟨_,rfl⟩
 rw [<- hM] at hmx
 have hM1:1<=M:=(ab5.mp hmx).2 1 (by rw [hlg]; simp)
 have hii:DB (B4 (lg.map D.int))=.ok lg:=by rw [GQ]; rfl
 have hmm:DB lg.max?=.ok M:=by rw [hmx]; rfl
 have hr4:=Bz (a:=0) (b:=4) (by omega) (by omega) (by omega) (by omega)
 obtain ⟨δ',e1,ms,o4,o5,rfl,hml,hmb⟩:=Au (tg:=.nm 4) (b:=exs Bx) (fun i δ=>∃ (ms:List Int) (o4 o5:Option D),δ=[some (.lst (ns.map .int)),some (blL es),some (.lst (lg.map .int)),some (.lst (ms.map .int)),o4,o5]/\ms.length=7 + i/\∀ m ∈ ms,1<=m) (ds:=An 0 4) (δ:=[some (.lst (ns.map .int)),some (blL es),some (.lst (lg.map .int)),some (.lst ([1,2,(es.length:Int) + 1,200,max 1 (es.length:Int),M,1000000000000000000000000000000].map .int)),none,none]) 0 ⟨_,none,none,rfl,rfl,fun m hm=>by
  simp only [aaj,abu,or_false] at hm
  omega⟩ (by
  rintro i d δ hd ⟨ms,o4,o5,rfl,hml,hmb⟩
  obtain ⟨rfl,hi⟩:=BG hd
  rw [abA]
  obtain ⟨ms',p5,h1,h2,h3⟩:=Sn hn ns lg ms hlp (by omega) hmb i (blL es) o5
  exact ⟨_,_,rfl,h3,ms',some (.int i),p5,rfl,by omega,h2⟩)
 refine ⟨ms,hmb,by rw [hml,BH]; simp,(GL _ rfl).trans (Ae ?_)⟩
 simp only [abm] at e1
 clear ee e2 hlg hM hmx hmb
 generalize hC:E.comp0 2 [] (.tp [0,1]) (.seq (.call AT (.cons (.nm 1) .nil))) (.bin .sub (.nm 1) (.nm 0))=C at *
 rw [Cm,hC]
 generalize ((A4 es es.length).map fun q=>(q.2:Int) - q.1).map D.int=RR at *
 generalize hmsd:ms.map D.int=MS at *
 generalize lg.map D.int=LG at *
 generalize ns.map D.int=N at *
 unfold blL at *
 generalize es.map D.bl=X at *
 simp_arith [hc,hadd,hlen,hii,hmm,p30,hr4,e1]
end
noncomputable def IsF (es:List Bool) (m:Int):Option Nat->Prop
 | some b=>m<=(tw es b:Int)/\∀ c,c < b->(tw es c:Int) < m
 | none=>∀ c,(tw es c:Int) < m
theorem IsF.un {es:List Bool} {m:Int}:∀ {o p:Option Nat},IsF es m o->IsF es m p->o=p
 | none,none,_,_=>rfl
 | none,some b,h,k=>absurd k.1 (by have:=h b; omega)
 | some b,none,h,k=>absurd h.1 (by have:=k b; omega)
 | some b,some c,h,k=>by
  have h1:¬ b < c:=fun z=>by have:=k.2 b z; have:=h.1; omega
  have h2:¬ c < b:=fun z=>by have:=h.2 c z; have:=k.1; omega
  rw [show b=c by omega]
noncomputable def loB (p f h:Nat):List Eb->Int->Option Int
 | [],r=>some r
 | q :: qs,r=>if Bh p f h q.l q.j=true/\spB f q.l q.j=r then loB p f h qs (spE p f q.l q.j) else none
noncomputable def wdB (p f:Nat) (q:Eb):Bool:=q.x.n==spE p f q.l q.j - spB f q.l q.j
noncomputable def fdB (qs:List Eb) (b:Bk):Bk:=qs.foldl (fun b q=>jn b q.x) b
noncomputable def rdB (p f h:Nat):List Eb->Int->Bk->Option (Int × Bk)
 | [],r,b=>some (r,b)
 | q :: qs,r,b=>if Bh p f h q.l q.j=true then (if spB f q.l q.j=r/\wdB p f q=true then rdB p f h qs (spE p f q.l q.j) (jn b q.x) else none) else none
theorem Mj (p f h:Nat):∀ (qs:List Eb) (r:Int) (b:Bk),rdB p f h qs r b=if qs.all (wdB p f)=true then (loB p f h qs r).map fun e=>(e,fdB qs b) else none
 | [],r,b=>rfl
 | q :: qs,r,b=>by
  have ih:=Mj p f h qs (spE p f q.l q.j) (jn b q.x)
  have ef:fdB (q :: qs) b=fdB qs (jn b q.x):=rfl
  rw [rdB,loB,aaA,ef,ih]
  by_cases c1:Bh p f h q.l q.j=true
  ·by_cases c2:spB f q.l q.j=r
   ·cases c3:wdB p f q <;> simp [c1,c2]
   ·cases c3:wdB p f q <;> simp [c1,c2]
  ·cases c3:wdB p f q <;> simp [c1]
noncomputable def AI:Option Int->D
 | none=>.non
 | some k=>.int k
noncomputable def EU (p:Nat) (m:Int):Option Int->Int
 | none=>(p:Int)
 | some k=>k + m - 1
noncomputable def shV (p f h:Nat) (qs:List Eb) (e m:Int):Bool:=(loB p f h qs 0==some e) && (qs.all (wdB p f) && decide ((fdB qs bk0).l < m))
section
variable {p f h:Nat} (S:Sp p f h)
include S
theorem Jf (pg pa:D):∀ (qs:List Eb) (r:Int) (o4 o5:Option D),∃ o4' o5',AC (.nm 4) (exs AR) (qs.map Eb.d) [some (shD p f),some pg,some pa,some (.int r),o4,o5]=match loB p f h qs r with
  | none=>.ret (.bl false)
  | some r'=>.nxt [some (shD p f),some pg,some pa,some (.int r'),o4',o5']
 | [],r,o4,o5=>⟨o4,o5,rfl⟩
 | q :: qs,r,o4,o5=>by
  have hn:=Np S q.l q.j
  rw [aaz,AC,loB]
  show ∃ o4' o5',(exs AR [some (shD p f),some pg,some pa,some (.int r),some q.d,o5]).then _=_
  by_cases c1:Bh p f h q.l q.j=true
  ·have hs:=HC S c1
   rw [c1] at hn
   by_cases c2:spB f q.l q.j=r
   ·rw [if_pos ⟨c1,c2⟩]
    have d2:(spB f q.l q.j==r)=true:=beq_iff_eq.mpr c2
    have e:exs AR [some (shD p f),some pg,some pa,some (.int r),some q.d,o5]=.nxt [some (shD p f),some pg,some pa,some (.int (spE p f q.l q.j)),some q.d,some (.tup [.int q.l,.int q.j])]:=by
     unfold Eb.d
     simp_arith [AR,Gf,Gg,hn,hs,d2]
    rw [e,Out.then_nxt]
    exact Jf pg pa qs _ _ _
   ·rw [if_neg (fun z=>c2 z.2)]
    have d2:(spB f q.l q.j==r)=false:=beq_eq_false_iff_ne.mpr c2
    refine ⟨none,none,?_⟩
    unfold Eb.d
    simp_arith [AR,Gf,Gg,hn,hs,d2]
  ·rw [if_neg (fun z=>c1 z.1)]
   have c1':Bh p f h q.l q.j=false:=by simpa using c1
   rw [c1'] at hn
   refine ⟨none,none,?_⟩
   unfold Eb.d
   simp_arith [AR,Gf,Gg,hn]
theorem O7 (qs:List Eb) (b e:Int):D4.den [shD p f,.tup [.int b,.int e],.lst (qs.map Eb.d)]=.ok (.bl (loB p f h qs b==some e)):=by
 obtain ⟨o4,o5,hl⟩:=Jf S (.tup [.int b,.int e]) (.lst (qs.map Eb.d)) qs b none none
 refine (IM _ rfl).trans (Ae ?_)
 cases q:loB p f h qs b with
 | none =>
  rw [q] at hl
  show _=Out.ret (.bl false)
  simp_arith [Cv,hl]
 | some r =>
  rw [q] at hl
  have e1:((some r:Option Int)==some e)=(r==e):=rfl
  rw [e1]
  simp_arith [Cv,hl]
theorem Mk:∀ (qs:List Eb) (r e:Int),loB p f h qs r=some e->∀ q ∈ qs,Bh p f h q.l q.j=true
 | [],r,e,_=>fun q hq=>nomatch hq
 | q :: qs,r,e,hh=>by
  rw [loB] at hh
  by_cases c:Bh p f h q.l q.j=true/\spB f q.l q.j=r
  ·rw [if_pos c] at hh
   intro x hx
   rcases aaj.mp hx with rfl | hx
   ·exact c.1
   ·exact Mk qs _ e hh x hx
  ·rw [if_neg c] at hh; cases hh
theorem O8 {q:Eb} (hq:Bh p f h q.l q.j=true):D5.den [shD p f,q.d]=.ok (.int (spE p f q.l q.j - spB f q.l q.j)):=by
 have hs:=HC S hq
 refine (Ni _ rfl).trans (Ae ?_)
 unfold Eb.d
 generalize q.x.d=B at *
 generalize shD p f=s at *
 simp_arith [FH,Gf,Gg,hs]
theorem J7 (pa:D):∀ (qs:List Eb) (b:Bk) (o2:Option D),∃ o2',AC (.nm 2) (exs AN) (qs.map Eb.d) [some pa,some b.d,o2]=.nxt [some pa,some (fdB qs b).d,o2']
 | [],b,o2=>⟨o2,rfl⟩
 | q :: qs,b,o2=>by
  obtain ⟨o2',ih⟩:=J7 pa qs (jn b q.x) (some q.d)
  refine ⟨o2',?_⟩
  have hj:=KZ b q.x
  rw [aaz,AC]
  show (exs AN [some pa,some b.d,some q.d]).then _=_
  have st:exs AN [some pa,some b.d,some q.d]=.nxt [some pa,some (jn b q.x).d,some q.d]:=by
   unfold Eb.d
   generalize (jn b q.x).d=B1 at *
   generalize q.x.d=B at *
   generalize b.d=B0 at *
   simp_arith [AN,IZ,hj]
  rw [st,Out.then_nxt]
  exact ih
theorem So (qs:List Eb) (m:Int) (pg:D) (e:Int) (hpa:Cg.den [.int p,.int m,pg]=.ok (.tup [.int 0,.int e])):B6.den [shD p f,.int m,pg,.lst (qs.map Eb.d)]=.ok (.bl (shV p f h qs e m)):=by
 have h1:=O7 S qs 0 e
 refine (IN _ rfl).trans (Ae ?_)
 unfold shV
 by_cases c:loB p f h qs 0=some e
 ·have hin:=Mk S qs 0 e c
  have ce:(loB p f h qs 0==some e)=true:=beq_iff_eq.mpr c
  rw [ce] at h1 ⊢
  rw [abc]
  obtain ⟨o2,hlt⟩:=J7 S (.lst (qs.map Eb.d)) qs bk0 none
  have hlt:AC (.nm 2) (exs AN) (qs.map Eb.d) [some (.lst (qs.map Eb.d)),some (.tup [.int 0,.int 0,.int 0,.int 0]),none]=.nxt [some (.lst (qs.map Eb.d)),some (.tup [.int (fdB qs bk0).n,.int (fdB qs bk0).a,.int (fdB qs bk0).b,.int (fdB qs bk0).l]),o2]:=hlt
  have h2:CY.den [.lst (qs.map Eb.d)]=.ok (.int (fdB qs bk0).l):=by
   refine (GK _ rfl).trans (Ae ?_)
   generalize qs.map Eb.d=PP at *
   generalize fdB qs bk0=B at *
   simp_arith [Ch,hlt,Ew]
  have hc:=Ge (nl:=1) (fr:=[0]) (tg:=.nm 0) (it:=.seq (.nm 3)) (elt:=.cmp .eq (.ix (.ix (.nm 0) (.cI 2)) (.cI 0)) (.call D5 (.cons (.nm 1) (.cons (.nm 0) .nil)))) (δ:=[some (shD p f),some (.int m),some pg,some (.lst (qs.map Eb.d))]) (ds:=qs.map Eb.d) (g:=fun d=>match d with | .tup [.int a,.int b,.tup [.int n,_,_,_]]=>.bl (n==spE p f a b - spB f a b) | d=>d) (by
    generalize shD p f=s at *
    generalize qs.map Eb.d=PP at *
    simp_arith []) (fun d hd=>by
   obtain ⟨q,hq,rfl⟩:=aaW.mp hd
   have hw:=O8 S (hin q hq)
   refine ⟨[some q.d,some (shD p f)],rfl,?_⟩
   show _=Res.ok (D.bl (q.x.n==spE p f q.l q.j - spB f q.l q.j))
   unfold Eb.d Bk.d at *
   generalize shD p f=s at *
   generalize spE p f q.l q.j - spB f q.l q.j=W at *
   simp_arith [IZ,Ea,hw])
  rw [aa1] at hc
  have ee:qs.map ((fun d=>match d with | .tup [.int a,.int b,.tup [.int n,_,_,_]]=>.bl (n==spE p f a b - spB f a b) | d=>d) ∘ Eb.d)=qs.map fun q=>D.bl (wdB p f q):=rfl
  rw [ee] at hc
  have h3:=FR (wdB p f) qs
  have h4:(qs.map (wdB p f)).all id=qs.all (wdB p f):=by rw [List.all_map]; rfl
  have h5:(DB (BN (qs.map fun q=>D.bl (wdB p f q)))).bind (fun bs=>Res.ok (D.bl (bs.all id)))=.ok (.bl (qs.all (wdB p f))):=by
   rw [h3]
   show Res.ok (D.bl ((qs.map (wdB p f)).all id))=_
   rw [h4]
  clear ee hlt hin c h3 h4
  generalize hC:E.comp0 1 [0] (.nm 0) (.seq (.nm 3)) (.cmp .eq (.ix (.ix (.nm 0) (.cI 2)) (.cI 0)) (.call D5 (.cons (.nm 1) (.cons (.nm 0) .nil))))=C at *
  rw [Cw,hC]
  generalize (fdB qs bk0).l=L at *
  generalize (qs.map fun q=>D.bl (wdB p f q))=WB at *
  unfold shD at *
  generalize qs.map Eb.d=PP at *
  generalize qs.all (wdB p f)=BB at *
  cases BB with
  | true =>
   rw [abc]
   simp_arith [hpa,h1,hc,h5,h2]
  | false =>
   rw [abg]
   simp_arith [hpa,h1,hc,h5]
 ·have ce:(loB p f h qs 0==some e)=false:=beq_eq_false_iff_ne.mpr c
  rw [ce] at h1 ⊢
  rw [abg]
  unfold shD at *
  generalize qs.map Eb.d=PP at *
  simp_arith [Cw,hpa,h1]
theorem QT (pa m pg e:D):∀ (qs:List Eb) (r:Int) (b:Bk) (o8 o9 o10 o11 o12:Option D),∃ p8 p9 p10 p11 p12,AC (.tp [8,9,10]) (exs Af) (qs.map Eb.d) [some (shD p f),some m,some pg,some pa,some (Ap (lvS p f h)),some e,some (.int r),some b.d,o8,o9,o10,o11,o12]=match rdB p f h qs r b with
  | none=>.ret (.bl false)
  | some (r',b')=>.nxt [some (shD p f),some m,some pg,some pa,some (Ap (lvS p f h)),some e,some (.int r'),some b'.d,p8,p9,p10,p11,p12]
 | [],r,b,o8,o9,o10,o11,o12=>⟨o8,o9,o10,o11,o12,rfl⟩
 | q :: qs,r,b,o8,o9,o10,o11,o12=>by
  have hl:=J2 p f h
  rw [aaz,AC,rdB]
  show ∃ p8 p9 p10 p11 p12,(exs Af [some (shD p f),some m,some pg,some pa,some (Ap (lvS p f h)),some e,some (.int r),some b.d,some (.int q.l),some (.int q.j),some q.x.d,o11,o12]).then _=_
  by_cases c1:Bh p f h q.l q.j=true
  ·rw [if_pos c1]
   have h2:=of_decide_eq_true c1
   have hr:=GR S c1
   have h3:=Ja S (l:=q.l.toNat) (by omega)
   rw [aa6 h2.1] at h3
   have d1:=h2.1
   have d2:=h2.2.1
   have d3:=h2.2.2.1
   have d4:=h2.2.2.2
   have hj:=Nu b q.x
   obtain ⟨p8,p9,p10,p11,p12,ih⟩:=QT pa m pg e qs (spE p f q.l q.j) (jn b q.x) (some (.int q.l)) (some (.int q.j)) (some q.x.d) (some (.int (spB f q.l q.j))) (some (.int (spE p f q.l q.j)))
   by_cases c2:spB f q.l q.j=r
   ·have e2:(spB f q.l q.j==r)=true:=beq_iff_eq.mpr c2
    cases c3:wdB p f q with
    | true =>
     rw [if_pos ⟨c2,rfl⟩]
     refine ⟨p8,p9,p10,p11,p12,?_⟩
     have e3:(q.x.n==spE p f q.l q.j - spB f q.l q.j)=true:=c3
     have st:exs Af [some (shD p f),some m,some pg,some pa,some (Ap (lvS p f h)),some e,some (.int r),some b.d,some (.int q.l),some (.int q.j),some q.x.d,o11,o12]=.nxt [some (shD p f),some m,some pg,some pa,some (Ap (lvS p f h)),some e,some (.int (spE p f q.l q.j)),some (jn b q.x).d,some (.int q.l),some (.int q.j),some q.x.d,some (.int (spB f q.l q.j)),some (.int (spE p f q.l q.j))]:=by
      clear ih c1 h2 c3
      have hq:q.x.d=.tup [.int q.x.n,.int q.x.a,.int q.x.b,.int q.x.l]:=rfl
      rw [hq] at hj ⊢
      generalize (jn b q.x).d=BJ at *
      generalize b.d=B0 at *
      generalize spE p f q.l q.j=HI at *
      generalize spB f q.l q.j=LO at *
      unfold shD Ap
      simp_arith [Af,aaa,hl,h3,d1,d2,d3,d4,hr,FK,e2,Ea,e3,hj]
     rw [st,Out.then_nxt]
     exact ih
    | false =>
     rw [if_neg (fun z=>by cases z.2)]
     refine ⟨none,none,none,none,none,?_⟩
     have e3:(q.x.n==spE p f q.l q.j - spB f q.l q.j)=false:=c3
     clear ih c1 h2 c3 hj
     have hq:q.x.d=.tup [.int q.x.n,.int q.x.a,.int q.x.b,.int q.x.l]:=rfl
     rw [hq]
     generalize b.d=B0 at *
     generalize spE p f q.l q.j=HI at *
     generalize spB f q.l q.j=LO at *
     unfold shD Ap
     simp_arith [Af,aaa,hl,h3,d1,d2,d3,d4,hr,FK,e2,Ea,e3]
   ·rw [if_neg (fun z=>c2 z.1)]
    have e2:(spB f q.l q.j==r)=false:=beq_eq_false_iff_ne.mpr c2
    refine ⟨none,none,none,none,none,?_⟩
    clear ih c1 h2 hj
    generalize q.x.d=V at *
    generalize b.d=B0 at *
    generalize spE p f q.l q.j=HI at *
    generalize spB f q.l q.j=LO at *
    unfold shD Ap
    simp_arith [Af,aaa,hl,h3,d1,d2,d3,d4,hr,FK,e2]
  ·rw [if_neg c1]
   refine ⟨none,none,none,none,none,?_⟩
   unfold Bh at c1
   rw [decide_eq_true_eq] at c1
   generalize q.x.d=V at *
   generalize b.d=B0 at *
   unfold shD Ap
   by_cases d1:0<=q.l
   ·by_cases d2:q.l < nlv p h
    ·have h3:=Ja S (l:=q.l.toNat) (by omega)
     rw [aa6 d1] at h3
     by_cases d3:0<=q.j
     ·have d4:¬ q.j < cnt p f q.l.toNat:=fun z=>c1 ⟨d1,d2,d3,z⟩
      simp_arith [Af,aaa,hl,h3,d1,d2,d3,d4]
     ·simp_arith [Af,aaa,hl,h3,d1,d2,d3]
    ·simp_arith [Af,aaa,hl,d1,d2]
   ·simp_arith [Af,aaa,hl,d1]
theorem Sq (qs:List Eb) (m:Int) (o:Option Int):CN.den [shD p f,.int m,(AI o),.lst (qs.map Eb.d)]=.ok (.bl (shV p f h qs (EU p m o) m)):=by
 have hc:=Jx S
 obtain ⟨ee,hee⟩:∃ ee:Int,ee=(EU p m o):=⟨_,rfl⟩
 rw [<- hee]
 obtain ⟨PG,hPG⟩:∃ PG:D,PG=(AI o):=⟨_,rfl⟩
 rw [<- hPG]
 obtain ⟨p8,p9,p10,p11,p12,e⟩:=QT S (.lst (qs.map Eb.d)) (.int m) PG (.int ee) qs 0 bk0 none none none none none
 have e:AC (.tp [8,9,10]) (exs Af) (qs.map Eb.d) [some (.tup [.int p,.int f]),some (.int m),some PG,some (.lst (qs.map Eb.d)),some (Ap (lvS p f h)),some (.int ee),some (.int 0),some (.tup [.int 0,.int 0,.int 0,.int 0]),none,none,none,none,none]=_:=e
 have hend:ex (.iff (.isN true (.nm 2)) (.cons (.asg 5 0 (.bin .sub (.bin .add (.nm 2) (.nm 1)) (.cI 1))) .nil) .nil) [some (.tup [.int p,.int f]),some (.int m),some PG,some (.lst (qs.map Eb.d)),some (Ap (lvS p f h)),some (.int p),none,none,none,none,none,none,none]=.nxt [some (.tup [.int p,.int f]),some (.int m),some PG,some (.lst (qs.map Eb.d)),some (Ap (lvS p f h)),some (.int ee),none,none,none,none,none,none,none]:=by
  generalize Ap (lvS p f h)=N at *
  generalize qs.map Eb.d=QQ at *
  cases o with
  | none =>
   rw [hPG,hee]
   unfold AI EU
   simp_arith []
  | some k =>
   rw [hPG,hee]
   unfold AI EU
   simp_arith []
 have hr:=Mj p f h qs 0 bk0
 rw [hr] at e
 refine (Gd _ rfl).trans (Ae ?_)
 unfold shV
 generalize hS:Pu.S.iff (.isN true (.nm 2)) (.cons (.asg 5 0 (.bin .sub (.bin .add (.nm 2) (.nm 1)) (.cI 1))) .nil) .nil=s1 at *
 rw [BZ,hS]
 unfold shD at *
 clear hr hPG hee
 generalize Ap (lvS p f h)=N at *
 generalize qs.map Eb.d=QQ at *
 cases c3:qs.all (wdB p f) with
 | false =>
  rw [c3,if_neg (by decide)] at e
  rw [abg,abR]
  have e:_=Out.ret (.bl false):=e
  simp_arith [hc,hend,e]
 | true =>
  rw [c3,if_pos rfl] at e
  rw [abc]
  cases c4:loB p f h qs 0 with
  | none =>
   rw [c4] at e
   have e:_=Out.ret (.bl false):=e
   show _=Out.ret (.bl false)
   simp_arith [hc,hend,e]
  | some r =>
   rw [c4] at e
   have e:_=Out.nxt [some (.tup [.int p,.int f]),some (.int m),some PG,some (.lst QQ),some N,some (.int ee),some (.int r),some (.tup [.int (fdB qs bk0).n,.int (fdB qs bk0).a,.int (fdB qs bk0).b,.int (fdB qs bk0).l]),p8,p9,p10,p11,p12]:=e
   have e1:((some r:Option Int)==some ee)=(r==ee):=rfl
   rw [e1]
   generalize fdB qs bk0=B at *
   cases c5:(r==ee) with
   | false =>
    rw [abg]
    simp_arith [hc,hend,e,c5]
   | true =>
    rw [abc]
    simp_arith [hc,hend,e,c5,Ew]
end
theorem GU {n m:Nat} (h:n < m):ixN m (n:Int)=some n:=by
 unfold ixN; rw [if_pos (by omega),if_pos (by omega),aaX]
theorem NR {k:Nat} {d:D} {ds:List D} (h:k<=ds.length) (hl:ds.length<=100000):umD .insert [.int (k:Int),d] ds=some (ds.take k ++ d :: ds.drop k):=by
 have e:DY ds.length (k:Int)=k:=by
  unfold DY
  rw [if_neg (by omega)]
  omega
 rw [umD,Kp,e]
 refine if_pos ⟨?_,?_,?_⟩
 ·show ds.length < 16777216; omega
 ·omega
 ·omega
theorem RL {k:Nat} {ds:List D} (h:k < ds.length) (hl:ds.length<=100000):umD .popAt [.int (k:Int)] ds=some (ds.eraseIdx k):=by
 rw [umD,un1,G3,GU h]
 refine (if_pos ⟨?_,?_⟩).trans rfl
 ·omega
 ·omega
theorem QU {α β:Type} (g:α->β):∀ (xs:List α) (k:Nat),(xs.map g).eraseIdx k=(xs.eraseIdx k).map g
 | [],_=>by simp
 | x :: r,0=>rfl
 | x :: r,k + 1=>by rw [aaz,abB,abB,aaz,QU g r k]
theorem RM {qs:List Eb} {k j:Nat} (hk:k < qs.length) (hj:j < qs.length):∃ ps:List Eb,ps.length=qs.length/\Gy (k:Int) (j:Int) (qs.map Eb.d)=some (ps.map Eb.d):=by
 refine ⟨(qs.set k qs[j]).set j qs[k],by rw [aaF,aaF],?_⟩
 unfold Gy
 rw [aaa,GU hk,GU hj,aaO,aaO,aao,aao,aal hk,aal hj]
 show some _=some _
 rw [aa0,aa0]
theorem QV (qs:List Eb):(qs.map Eb.d).all (D.shp 7)=true:=by
 rw [aaH]
 intro d hd
 obtain ⟨q,_,rfl⟩:=aaW.mp hd
 rfl
theorem q4 {a b c d:Int} (y:Int):∃ v:Int,atD [.int a,.int b,.int c,.int d] (y % 4)=.ok (.int v):=by
 have:y % 4=0\/y % 4=1\/y % 4=2\/y % 4=3:=by omega
 rcases this with h | h | h | h <;> rw [h] <;> exact ⟨_,rfl⟩
theorem q6 {a b c d e g:Int} (y:Int):∃ v:Int,atD [.int a,.int b,.int c,.int d,.int e,.int g] (y % 6)=.ok (.int v):=by
 have:y % 6=0\/y % 6=1\/y % 6=2\/y % 6=3\/y % 6=4\/y % 6=5:=by omega
 rcases this with h | h | h | h | h | h <;> rw [h] <;> exact ⟨_,rfl⟩
theorem x50 (a b c d e:D):atD [a,b,c,d,e] 0=.ok a:=rfl
theorem x51 (a b c d e:D):atD [a,b,c,d,e] 1=.ok b:=rfl
theorem x52 (a b c d e:D):atD [a,b,c,d,e] 2=.ok c:=rfl
theorem x53 (a b c d e:D):atD [a,b,c,d,e] 3=.ok d:=rfl
theorem x54 (a b c d e:D):atD [a,b,c,d,e] 4=.ok e:=rfl
theorem Nw:b2 .pow (.int 10) (.int 30)=.ok (.int 1000000000000000000000000000000):=by
 rw [DA _ _ (by decide) (by decide) (by decide)]; rfl
theorem RN (x:Bk) (y3 y4:Int):∃ (w v u:Int) (z:Bk),y3 % 4=w/\atD [.int x.n,.int x.a,.int x.b,.int x.l] w=.ok (.int v)/\atD [.int 1,.int (-1),.int 7,.int 1000000000000000000000000000000,.int (-1000000000000000000000000000000),.int (0 - v)] (y4 % 6)=.ok (.int u)/\CS w (.int (v + u)) [.int x.n,.int x.a,.int x.b,.int x.l]=some [.int z.n,.int z.a,.int z.b,.int z.l]:=by
 have:y3 % 4=0\/y3 % 4=1\/y3 % 4=2\/y3 % 4=3:=by omega
 rcases this with h | h | h | h
 ·obtain ⟨u,hu⟩:=q6 (a:=1) (b:=-1) (c:=7) (d:=1000000000000000000000000000000) (e:=-1000000000000000000000000000000) (g:=0 - x.n) y4
  exact ⟨0,x.n,u,⟨x.n + u,x.a,x.b,x.l⟩,h,rfl,hu,rfl⟩
 ·obtain ⟨u,hu⟩:=q6 (a:=1) (b:=-1) (c:=7) (d:=1000000000000000000000000000000) (e:=-1000000000000000000000000000000) (g:=0 - x.a) y4
  exact ⟨1,x.a,u,⟨x.n,x.a + u,x.b,x.l⟩,h,rfl,hu,rfl⟩
 ·obtain ⟨u,hu⟩:=q6 (a:=1) (b:=-1) (c:=7) (d:=1000000000000000000000000000000) (e:=-1000000000000000000000000000000) (g:=0 - x.b) y4
  exact ⟨2,x.b,u,⟨x.n,x.a,x.b + u,x.l⟩,h,rfl,hu,rfl⟩
 ·obtain ⟨u,hu⟩:=q6 (a:=1) (b:=-1) (c:=7) (d:=1000000000000000000000000000000) (e:=-1000000000000000000000000000000) (g:=0 - x.l) y4
  exact ⟨3,x.l,u,⟨x.n,x.a,x.b,x.l + u⟩,h,rfl,hu,rfl⟩
noncomputable def Jg:Ss:=(.cons (.set 3 [] (.nm 7) (.tup (.cons (.bin .add (.ix (.nm 8) (.cI 0)) (.ix (.lst (.cons (.cI 1) (.cons (.neg (.cI 1)) (.cons (.cI 9) (.cons (.cI 0) .nil))))) (.bin .mod (.ix (.nm 2) (.cI 3)) (.cI 4)))) (.cons (.bin .add (.ix (.nm 8) (.cI 1)) (.ix (.lst (.cons (.cI 0) (.cons (.cI 0) (.cons (.cI 1) (.cons (.neg (.cI 1)) .nil))))) (.bin .mod (.ix (.nm 2) (.cI 3)) (.cI 4)))) (.cons (.ix (.nm 8) (.cI 2)) .nil))))) .nil)
noncomputable def Jh:Ss:=(.cons (.set 3 [] (.nm 7) (.tup (.cons (.ix (.nm 8) (.cI 0)) (.cons (.bin .add (.ix (.nm 8) (.cI 1)) (.ix (.lst (.cons (.cI 1) (.cons (.neg (.cI 1)) (.cons (.bin .pow (.cI 10) (.cI 30)) (.cons (.neg (.bin .pow (.cI 10) (.cI 30))) .nil))))) (.bin .mod (.ix (.nm 2) (.cI 3)) (.cI 4)))) (.cons (.ix (.nm 8) (.cI 2)) .nil))))) .nil)
noncomputable def Ji:Ss:=(.cons (.mut 3 [] .popAt (.cons (.nm 7) .nil)) .nil)
noncomputable def Jj:Ss:=(.cons (.mut 3 [] .insert (.cons (.nm 7) (.cons (.nm 8) .nil))) .nil)
noncomputable def Jk:Ss:=(.cons (.asg 9 0 (.bin .mod (.ix (.nm 2) (.cI 1)) (.bi .len (.cons (.nm 3) .nil)))) (.cons (.swp 3 7 9) .nil))
noncomputable def Jl:Ss:=(.cons (.asg 10 1 (.bi .list (.cons (.ix (.nm 8) (.cI 2)) .nil))) (.cons (.asg 11 0 (.bin .mod (.ix (.nm 2) (.cI 3)) (.cI 4))) (.cons (.set 10 [] (.nm 11) (.bin .add (.ixL (.nm 10) (.nm 11)) (.ix (.lst (.cons (.cI 1) (.cons (.neg (.cI 1)) (.cons (.cI 7) (.cons (.bin .pow (.cI 10) (.cI 30)) (.cons (.neg (.bin .pow (.cI 10) (.cI 30))) (.cons (.bin .sub (.cI 0) (.ixL (.nm 10) (.nm 11))) .nil))))))) (.bin .mod (.ix (.nm 2) (.cI 4)) (.cI 6))))) (.cons (.set 3 [] (.nm 7) (.tup (.cons (.ix (.nm 8) (.cI 0)) (.cons (.ix (.nm 8) (.cI 1)) (.cons (.bi .tupleL (.cons (.nm 10) .nil)) .nil))))) .nil))))
noncomputable def Jm:Ss:=.cons (.iff (.cmp .eq (.ix (.nm 2) (.cI 0)) (.cI 1)) Jg .nil) (.cons (.iff (.cmp .eq (.ix (.nm 2) (.cI 0)) (.cI 2)) Jh .nil) (.cons (.iff (.cmp .eq (.ix (.nm 2) (.cI 0)) (.cI 3)) Ji .nil) (.cons (.iff (.cmp .eq (.ix (.nm 2) (.cI 0)) (.cI 4)) Jj .nil) (.cons (.iff (.cmp .eq (.ix (.nm 2) (.cI 0)) (.cI 5)) Jk .nil) (.cons (.iff (.cmp .gt (.ix (.nm 2) (.cI 0)) (.cI 5)) Jl .nil) (.cons (.ret (.nm 3)) .nil))))))
theorem As {A:Ss} {c y0 y1 y2 y3 y4:Int} {o0 o1 o3 o4 o5 o6 o7 o8 o9 o10 o11:Option D} (h:(y0==c)=false) (r:Ss):exs (.cons (.iff (.cmp .eq (.ix (.nm 2) (.cI 0)) (.cI c)) A .nil) r) [o0,o1,some (.lst [.int y0,.int y1,.int y2,.int y3,.int y4]),o3,o4,o5,o6,o7,o8,o9,o10,o11]=exs r [o0,o1,some (.lst [.int y0,.int y1,.int y2,.int y3,.int y4]),o3,o4,o5,o6,o7,o8,o9,o10,o11]:=by
 simp_arith [x50,h]
theorem Fv {A r:Ss} {c y0 y1 y2 y3 y4:Int} {o0 o1 o3 o4 o5 o6 o7 o8 o9 o10 o11:Option D} {δ:Fr} (h:(y0==c)=true) (hA:exs A [o0,o1,some (.lst [.int y0,.int y1,.int y2,.int y3,.int y4]),o3,o4,o5,o6,o7,o8,o9,o10,o11]=.nxt δ):exs (.cons (.iff (.cmp .eq (.ix (.nm 2) (.cI 0)) (.cI c)) A .nil) r) [o0,o1,some (.lst [.int y0,.int y1,.int y2,.int y3,.int y4]),o3,o4,o5,o6,o7,o8,o9,o10,o11]=exs r δ:=by
 simp_arith [x50,h,hA]
theorem EJ {A r:Ss} {y0 y1 y2 y3 y4:Int} {o0 o1 o3 o4 o5 o6 o7 o8 o9 o10 o11:Option D} (h:¬ 5 < y0):exs (.cons (.iff (.cmp .gt (.ix (.nm 2) (.cI 0)) (.cI 5)) A .nil) r) [o0,o1,some (.lst [.int y0,.int y1,.int y2,.int y3,.int y4]),o3,o4,o5,o6,o7,o8,o9,o10,o11]=exs r [o0,o1,some (.lst [.int y0,.int y1,.int y2,.int y3,.int y4]),o3,o4,o5,o6,o7,o8,o9,o10,o11]:=by
 simp_arith [x50,h]
theorem O9 {A r:Ss} {y0 y1 y2 y3 y4:Int} {o0 o1 o3 o4 o5 o6 o7 o8 o9 o10 o11:Option D} {δ:Fr} (h:5 < y0) (hA:exs A [o0,o1,some (.lst [.int y0,.int y1,.int y2,.int y3,.int y4]),o3,o4,o5,o6,o7,o8,o9,o10,o11]=.nxt δ):exs (.cons (.iff (.cmp .gt (.ix (.nm 2) (.cI 0)) (.cI 5)) A .nil) r) [o0,o1,some (.lst [.int y0,.int y1,.int y2,.int y3,.int y4]),o3,o4,o5,o6,o7,o8,o9,o10,o11]=exs r δ:=by
 simp_arith [x50,h,hA]
theorem EK {v:D} {o0 o1 o2 o4 o5 o6 o7 o8 o9 o10 o11:Option D}:exs (.cons (.ret (.nm 3)) .nil) [o0,o1,o2,some v,o4,o5,o6,o7,o8,o9,o10,o11]=.ret v:=by
 simp_arith []
theorem QW (X0 X N R:List D) (y0 y1 y2 y3 y4 k el ej xn xa xb xl:Int) (o4 o5 o6:Option D) (v u:Int) (hv:atD [.int 1,.int (-1),.int 9,.int 0] (y3 % 4)=.ok (.int v)) (hu:atD [.int 0,.int 0,.int 1,.int (-1)] (y3 % 4)=.ok (.int u)) (h2:CS k (.tup [.int (el + v),.int (ej + u),.tup [.int xn,.int xa,.int xb,.int xl]]) X=some R):exs Jg [some (.lst X0),some (.lst N),some (.lst [.int y0,.int y1,.int y2,.int y3,.int y4]),some (.lst X),o4,o5,o6,some (.int k),some (.tup [.int el,.int ej,.tup [.int xn,.int xa,.int xb,.int xl]]),none,none,none]=.nxt [some (.lst X0),some (.lst N),some (.lst [.int y0,.int y1,.int y2,.int y3,.int y4]),some (.lst R),o4,o5,o6,some (.int k),some (.tup [.int el,.int ej,.tup [.int xn,.int xa,.int xb,.int xl]]),none,none,none]:=by
 have l4:(0:Int) < 4:=by decide
 simp_arith [Jg,x53,l4,Gf,Gg,IZ,hv,hu,h2]
theorem QX (X0 X N R:List D) (y0 y1 y2 y3 y4 k el ej xn xa xb xl:Int) (o4 o5 o6:Option D) (v:Int) (hv:atD [.int 1,.int (-1),.int 1000000000000000000000000000000,.int (-1000000000000000000000000000000)] (y3 % 4)=.ok (.int v)) (h2:CS k (.tup [.int el,.int (ej + v),.tup [.int xn,.int xa,.int xb,.int xl]]) X=some R):exs Jh [some (.lst X0),some (.lst N),some (.lst [.int y0,.int y1,.int y2,.int y3,.int y4]),some (.lst X),o4,o5,o6,some (.int k),some (.tup [.int el,.int ej,.tup [.int xn,.int xa,.int xb,.int xl]]),none,none,none]=.nxt [some (.lst X0),some (.lst N),some (.lst [.int y0,.int y1,.int y2,.int y3,.int y4]),some (.lst R),o4,o5,o6,some (.int k),some (.tup [.int el,.int ej,.tup [.int xn,.int xa,.int xb,.int xl]]),none,none,none]:=by
 have l4:(0:Int) < 4:=by decide
 simp_arith [Jh,x53,l4,Gf,Gg,IZ,Nw,hv,h2]
theorem QY (X0 X N R:List D) (y0 y1 y2 y3 y4 k el ej xn xa xb xl:Int) (o4 o5 o6:Option D) (hp:umD .popAt [.int k] X=some R):exs Ji [some (.lst X0),some (.lst N),some (.lst [.int y0,.int y1,.int y2,.int y3,.int y4]),some (.lst X),o4,o5,o6,some (.int k),some (.tup [.int el,.int ej,.tup [.int xn,.int xa,.int xb,.int xl]]),none,none,none]=.nxt [some (.lst X0),some (.lst N),some (.lst [.int y0,.int y1,.int y2,.int y3,.int y4]),some (.lst R),o4,o5,o6,some (.int k),some (.tup [.int el,.int ej,.tup [.int xn,.int xa,.int xb,.int xl]]),none,none,none]:=by
 simp_arith [Ji,hp]
theorem QZ (X0 X N R:List D) (y0 y1 y2 y3 y4 k el ej xn xa xb xl:Int) (o4 o5 o6:Option D) (hp:umD .insert [.int k,.tup [.int el,.int ej,.tup [.int xn,.int xa,.int xb,.int xl]]] X=some R):exs Jj [some (.lst X0),some (.lst N),some (.lst [.int y0,.int y1,.int y2,.int y3,.int y4]),some (.lst X),o4,o5,o6,some (.int k),some (.tup [.int el,.int ej,.tup [.int xn,.int xa,.int xb,.int xl]]),none,none,none]=.nxt [some (.lst X0),some (.lst N),some (.lst [.int y0,.int y1,.int y2,.int y3,.int y4]),some (.lst R),o4,o5,o6,some (.int k),some (.tup [.int el,.int ej,.tup [.int xn,.int xa,.int xb,.int xl]]),none,none,none]:=by
 simp_arith [Jj,hp]
theorem Q0 (X0 X N R:List D) (y0 y1 y2 y3 y4 k el ej xn xa xb xl:Int) (o4 o5 o6:Option D) (j:Int) (hl:0 < (X.length:Int)) (hj:y1 % (X.length:Int)=j) (hp:Gy k j X=some R):exs Jk [some (.lst X0),some (.lst N),some (.lst [.int y0,.int y1,.int y2,.int y3,.int y4]),some (.lst X),o4,o5,o6,some (.int k),some (.tup [.int el,.int ej,.tup [.int xn,.int xa,.int xb,.int xl]]),none,none,none]=.nxt [some (.lst X0),some (.lst N),some (.lst [.int y0,.int y1,.int y2,.int y3,.int y4]),some (.lst R),o4,o5,o6,some (.int k),some (.tup [.int el,.int ej,.tup [.int xn,.int xa,.int xb,.int xl]]),some (.int j),none,none]:=by
 simp_arith [Jk,x51,hl,hj,hp]
theorem Q1 (X0 X N R:List D) (y0 y1 y2 y3 y4 k el ej xn xa xb xl:Int) (o4 o5 o6:Option D) (w v u zn za zb zl:Int) (e1:y3 % 4=w) (e2:atD [.int xn,.int xa,.int xb,.int xl] w=.ok (.int v)) (e3:atD [.int 1,.int (-1),.int 7,.int 1000000000000000000000000000000,.int (-1000000000000000000000000000000),.int (0 - v)] (y4 % 6)=.ok (.int u)) (e4:CS w (.int (v + u)) [.int xn,.int xa,.int xb,.int xl]=some [.int zn,.int za,.int zb,.int zl]) (h2:CS k (.tup [.int el,.int ej,.tup [.int zn,.int za,.int zb,.int zl]]) X=some R):exs Jl [some (.lst X0),some (.lst N),some (.lst [.int y0,.int y1,.int y2,.int y3,.int y4]),some (.lst X),o4,o5,o6,some (.int k),some (.tup [.int el,.int ej,.tup [.int xn,.int xa,.int xb,.int xl]]),none,none,none]=.nxt [some (.lst X0),some (.lst N),some (.lst [.int y0,.int y1,.int y2,.int y3,.int y4]),some (.lst R),o4,o5,o6,some (.int k),some (.tup [.int el,.int ej,.tup [.int xn,.int xa,.int xb,.int xl]]),none,some (.lst [.int zn,.int za,.int zb,.int zl]),some (.int w)]:=by
 have l4:(0:Int) < 4:=by decide
 have l6:(0:Int) < 6:=by decide
 simp_arith [Jl,x53,x54,l4,l6,Gf,Gg,IZ,Nw,e1,e2,e3,e4,h2]
theorem Q2 (qs:List Eb) (hl:qs.length<=1000) (N:List D) (y0 y1 y2 y3 y4:Int) (h9:y0 < 9) (h1:1<=y0) {k2:Nat} (hk2:k2 < qs.length) {e:Eb} (he:e=qs[k2]) (hqp:0 < qs.length) (o4 o5 o6:Option D):∃ ps:List Eb,ps.length<=qs.length + 1/\exs Jm [some (.lst (qs.map Eb.d)),some (.lst N),some (.lst [.int y0,.int y1,.int y2,.int y3,.int y4]),some (.lst (qs.map Eb.d)),o4,o5,o6,some (.int k2),some (.tup [.int e.l,.int e.j,.tup [.int e.x.n,.int e.x.a,.int e.x.b,.int e.x.l]]),none,none,none]=.ret (.lst (ps.map Eb.d)):=by
 have hset:∀ (g:Eb),CS (k2:Int) (.tup [.int g.l,.int g.j,.tup [.int g.x.n,.int g.x.a,.int g.x.b,.int g.x.l]]) (qs.map Eb.d)=some ((qs.set k2 g).map Eb.d):=fun g=>by
  unfold CS
  rw [aaa,GU hk2,aa0]; rfl
 have hsl:∀ g:Eb,(qs.set k2 g).length<=qs.length + 1:=fun g=>by rw [aaF]; omega
 have ne:∀ {c:Int},y0 ≠ c->(y0==c)=false:=fun h=>beq_eq_false_iff_ne.mpr h
 have yes:∀ {c:Int},y0=c->(y0==c)=true:=fun h=>beq_iff_eq.mpr h
 have:y0=1\/y0=2\/y0=3\/y0=4\/y0=5\/5 < y0:=by omega
 unfold Jm
 rcases this with q | q | q | q | q | h5
 ·obtain ⟨v,hv⟩:=q4 (a:=1) (b:=-1) (c:=9) (d:=0) y3
  obtain ⟨u,hu⟩:=q4 (a:=0) (b:=0) (c:=1) (d:=-1) y3
  refine ⟨_,hsl ⟨e.l + v,e.j + u,e.x⟩,?_⟩
  rw [Fv (yes q) (QW _ _ _ _ _ _ _ _ _ _ _ _ _ _ _ _ _ _ _ v u hv hu (hset ⟨e.l + v,e.j + u,e.x⟩)),As (ne (by omega)),As (ne (by omega)),As (ne (by omega)),As (ne (by omega)),EJ (by omega),EK]
 ·obtain ⟨v,hv⟩:=q4 (a:=1) (b:=-1) (c:=1000000000000000000000000000000) (d:=-1000000000000000000000000000000) y3
  refine ⟨_,hsl ⟨e.l,e.j + v,e.x⟩,?_⟩
  rw [As (ne (by omega)),Fv (yes q) (QX _ _ _ _ _ _ _ _ _ _ _ _ _ _ _ _ _ _ _ v hv (hset ⟨e.l,e.j + v,e.x⟩)),As (ne (by omega)),As (ne (by omega)),As (ne (by omega)),EJ (by omega),EK]
 ·have hp:=RL (k:=k2) (ds:=qs.map Eb.d) (by rw [aaa]; exact hk2) (by rw [aaa]; omega)
  have hp:umD .popAt [.int (k2:Int)] (qs.map Eb.d)=some ((qs.eraseIdx k2).map Eb.d):=by rw [hp,QU]
  refine ⟨qs.eraseIdx k2,by have:=List.length_eraseIdx_le qs k2; omega,?_⟩
  rw [As (ne (by omega)),As (ne (by omega)),Fv (yes q) (QY _ _ _ _ _ _ _ _ _ _ _ _ _ _ _ _ _ _ _ hp),As (ne (by omega)),As (ne (by omega)),EJ (by omega),EK]
 ·have hins:=NR (k:=k2) (d:=e.d) (ds:=qs.map Eb.d) (by rw [aaa]; omega) (by rw [aaa]; omega)
  have hins:umD .insert [.int (k2:Int),.tup [.int e.l,.int e.j,.tup [.int e.x.n,.int e.x.a,.int e.x.b,.int e.x.l]]] (qs.map Eb.d)=some ((qs.take k2 ++ e :: qs.drop k2).map Eb.d):=by
   rw [aam,aaz,abd,abl]; exact hins
  refine ⟨qs.take k2 ++ e :: qs.drop k2,by rw [aar,aaV,aaU,aa7]; omega,?_⟩
  rw [As (ne (by omega)),As (ne (by omega)),As (ne (by omega)),Fv (yes q) (QZ _ _ _ _ _ _ _ _ _ _ _ _ _ _ _ _ _ _ _ hins),As (ne (by omega)),EJ (by omega),EK]
 ·obtain ⟨k3,hk3,ek3⟩:=DV (y:=y1) hqp
  obtain ⟨ps,hps,hsw⟩:=RM hk2 hk3
  refine ⟨ps,by omega,?_⟩
  have hl0:(0:Int) < (((qs.map Eb.d).length:Nat):Int):=by rw [aaa]; omega
  have ek3:y1 % (((qs.map Eb.d).length:Nat):Int)=(k3:Int):=by rw [aaa]; exact ek3
  rw [As (ne (by omega)),As (ne (by omega)),As (ne (by omega)),As (ne (by omega)),Fv (yes q) (Q0 _ _ _ _ _ _ _ _ _ _ _ _ _ _ _ _ _ _ _ _ hl0 ek3 hsw),EJ (by omega),EK]
 ·obtain ⟨w,v,u,z,e1,e2,e3,e4⟩:=RN e.x y3 y4
  refine ⟨_,hsl ⟨e.l,e.j,z⟩,?_⟩
  rw [As (ne (by omega)),As (ne (by omega)),As (ne (by omega)),As (ne (by omega)),As (ne (by omega)),O9 h5 (Q1 _ _ _ _ _ _ _ _ _ _ _ _ _ _ _ _ _ _ _ w v u z.n z.a z.b z.l e1 e2 e3 e4 (hset ⟨e.l,e.j,z⟩)),EK]
theorem Q3 (qs:List Eb) (nds:List (Nat × Nat)) (hl:qs.length<=1000) {y0:Int} (y1 y2 y3 y4:Int) (h0:0<=y0) (h9:y0 < 9):∃ ps:List Eb,ps.length<=qs.length + 1/\Bu.den [.lst (qs.map Eb.d),.lst (nds.map Ab),.lst [.int y0,.int y1,.int y2,.int y3,.int y4]]=.ok (.lst (ps.map Eb.d)):=by
 have hnn:=HB (nds.map Ab) (Mf _ 6)
 have l2:(0:Int) < 2:=by decide
 have l4:(0:Int) < 4:=by decide
 have l6:(0:Int) < 6:=by decide
 by_cases cn:nds=[]
 ·subst cn
  obtain ⟨k,hk,ek⟩:=DV (y:=y0) (n:=2) (by decide)
  have hcut:=QK [Eb.d ⟨y1 - 20,y2 - 20,⟨1,1,1,1⟩⟩] k
  refine ⟨[(⟨y1 - 20,y2 - 20,⟨1,1,1,1⟩⟩:Eb)].take k,by rw [aaU]; simp; omega,(B3 _ rfl).trans (Ae ?_)⟩
  rw [abd]
  simp only [abI,List.isEmpty_nil] at hnn ⊢
  have ek:y0 % 2=(k:Int):=ek
  have hcut:cut [D.tup [.int (y1 - 20),.int (y2 - 20),.tup [.int 1,.int 1,.int 1,.int 1]]] none (some (k:Int))=([(⟨y1 - 20,y2 - 20,⟨1,1,1,1⟩⟩:Eb)].map Eb.d).take k:=hcut
  generalize ([(⟨y1 - 20,y2 - 20,⟨1,1,1,1⟩⟩:Eb)].map Eb.d).take k=R at *
  generalize qs.map Eb.d=X at *
  simp_arith [AU,hnn,x50,x51,x52,l2,ek,hcut]
 ·have hem:(nds.map Ab).isEmpty=false:=by
   cases nds with
   | nil=>exact absurd rfl cn
   | cons a r=>rfl
  rw [hem] at hnn
  have hnp:=acb.mpr cn
  obtain ⟨k1,hk1,ek1⟩:=DV (y:=y1) hnp
  have hnl:(((nds.map Ab).length:Nat):Int)=(nds.length:Int):=by rw [aaa]
  have hn0:(0:Int) < (nds.length:Int):=by omega
  have hat:=No (xs:=nds.map Ab) (i:=k1) (by rw [aaa]; exact hk1)
  rw [abX] at hat
  obtain ⟨lv,pl,hq⟩:∃ lv pl:Nat,nds[k1]=(lv,pl):=⟨_,_,rfl⟩
  rw [hq] at hat
  have hat:atD (nds.map Ab) (k1:Int)=.ok (.tup [.int lv,.int pl]):=hat
  have as2:∀ (a b:D) (δ:Fr),CC (.tp [4,5]) (.tup [a,b]) δ=some ((δ.set 4 (some a)).set 5 (some b)):=fun a b δ=>rfl
  have hc:=Nj (nl:=1) (fr:=[]) (tg:=.nm 0) (it:=.seq (.nm 1)) (cond:=.cmp .eq (.ix (.nm 0) (.cI 0)) (.cI 0)) (elt:=.nm 0) (δ:=[some (.lst (qs.map Eb.d)),some (.lst (nds.map Ab)),some (.lst [.int y0,.int y1,.int y2,.int y3,.int y4]),some (.lst (qs.map Eb.d)),some (.int lv),some (.int pl),none,none,none,none,none,none]) (ds:=nds.map Ab) (b:=fun d=>match d with | .tup [.int a,_]=>a==0 | _=>false) (g:=fun d=>d) (by
    generalize nds.map Ab=N at *
    generalize qs.map Eb.d=X at *
    simp_arith []) (fun d hd=>by
   obtain ⟨⟨a,c⟩,_,rfl⟩:=aaW.mp hd
   refine ⟨[some (.tup [.int a,.int c])],rfl,?_,fun _=>?_⟩
   ·show _=Res.ok ((a:Int)==0)
    simp_arith []
   ·show _=Res.ok (D.tup [.int a,.int c])
    simp_arith [])
  obtain ⟨PL,hPL⟩:∃ PL:List D,PL=((nds.map Ab).filter fun d=>match d with | .tup [.int a,_]=>a==0 | _=>false).map fun d=>d:=⟨_,rfl⟩
  rw [<- hPL] at hc
  have hqn:=HB (qs.map Eb.d) (QV qs)
  have hql:(((qs.map Eb.d).length:Nat):Int)=(qs.length:Int):=by rw [aaa]
  have first:∀ cq:(y0==0)=true\/qs=[],∃ ps:List Eb,ps.length<=qs.length + 1/\Bu.den [.lst (qs.map Eb.d),.lst (nds.map Ab),.lst [.int y0,.int y1,.int y2,.int y3,.int y4]]=.ok (.lst (ps.map Eb.d)):=fun cq=>by
   have hor:evBo false (.cons (.cmp .eq (.ix (.nm 2) (.cI 0)) (.cI 0)) (.cons (.cmp .eq (.nm 3) (.lst .nil)) .nil)) [some (.lst (qs.map Eb.d)),some (.lst (nds.map Ab)),some (.lst [.int y0,.int y1,.int y2,.int y3,.int y4]),some (.lst (qs.map Eb.d)),some (.int lv),some (.int pl),some (.int (PL.length:Int)),none,none,none,none,none]=.ok (.bl true):=by
    rcases cq with cq | cq
    ·generalize nds.map Ab=N at *
     generalize qs.map Eb.d=X at *
     simp_arith [x50,cq]
    ·cases c0:(y0==0) with
     | true =>
      generalize nds.map Ab=N at *
      generalize qs.map Eb.d=X at *
      simp_arith [x50,c0]
     | false =>
      subst cq
      simp only [abI,List.isEmpty_nil] at hqn ⊢
      generalize nds.map Ab=N at *
      simp_arith [x50,c0,hqn]
   by_cases c3:y3 % 4=0
   ·refine ⟨qs ++ [⟨0,PL.length,⟨0,0,0,0⟩⟩],by simp,(B3 _ rfl).trans (Ae ?_)⟩
    have hadd:=Hf (qs.map Eb.d) [Eb.d ⟨0,(PL.length:Int),⟨0,0,0,0⟩⟩] (by rw [aaa]; simp; omega)
    have hadd:b2 .add (.lst (qs.map Eb.d)) (.lst [.tup [.int 0,.int (PL.length:Int),.tup [.int 0,.int 0,.int 0,.int 0]]])=.ok (.lst ((qs ++ [(⟨0,(PL.length:Int),⟨0,0,0,0⟩⟩:Eb)]).map Eb.d)):=by rw [aam]; exact hadd
    have ec3:(y3 % 4==0)=true:=beq_iff_eq.mpr c3
    clear hPL hem hqn
    generalize (qs ++ [(⟨0,(PL.length:Int),⟨0,0,0,0⟩⟩:Eb)]).map Eb.d=R at *
    generalize hBo:E.bo false (.cons (.cmp .eq (.ix (.nm 2) (.cI 0)) (.cI 0)) (.cons (.cmp .eq (.nm 3) (.lst .nil)) .nil))=BO at *
    have hor:ev BO [some (.lst (qs.map Eb.d)),some (.lst (nds.map Ab)),some (.lst [.int y0,.int y1,.int y2,.int y3,.int y4]),some (.lst (qs.map Eb.d)),some (.int lv),some (.int pl),some (.int (PL.length:Int)),none,none,none,none,none]=.ok (.bl true):=by rw [<- hBo,ev]; exact hor
    generalize hC:E.comp1 1 [] (.nm 0) (.seq (.nm 1)) (.cmp .eq (.ix (.nm 0) (.cI 0)) (.cI 0)) (.nm 0)=C at *
    rw [AU,hBo,hC]
    generalize nds.map Ab=N at *
    generalize qs.map Eb.d=X at *
    simp_arith [hnn,x50,x51,x52,x53,hnl,hn0,ek1,hat,as2,hc,hor,l4,ec3,hadd]
   ·obtain ⟨k2,hk2,ek2⟩:=DV (y:=y2) (n:=qs.length + 1) (by omega)
    have hins:=NR (k:=k2) (d:=Eb.d ⟨lv,pl,⟨y3,0,0,y4⟩⟩) (ds:=qs.map Eb.d) (by rw [aaa]; omega) (by rw [aaa]; omega)
    refine ⟨qs.take k2 ++ ⟨lv,pl,⟨y3,0,0,y4⟩⟩ :: qs.drop k2,by rw [aar,aaV,aaU,aa7]; omega,(B3 _ rfl).trans (Ae ?_)⟩
    have hins:umD .insert [.int (k2:Int),.tup [.int lv,.int pl,.tup [.int y3,.int 0,.int 0,.int y4]]] (qs.map Eb.d)=some ((qs.take k2 ++ (⟨lv,pl,⟨y3,0,0,y4⟩⟩:Eb) :: qs.drop k2).map Eb.d):=by
     rw [aam,aaz,abd,abl]; exact hins
    have ec3:(y3 % 4==0)=false:=beq_eq_false_iff_ne.mpr c3
    have hl1:((qs.length + 1:Nat):Int)=(qs.length:Int) + 1:=by omega
    rw [hl1] at ek2
    have hp1:(0:Int) < (qs.length:Int) + 1:=by omega
    clear hPL hem hqn hl1
    generalize (qs.take k2 ++ (⟨lv,pl,⟨y3,0,0,y4⟩⟩:Eb) :: qs.drop k2).map Eb.d=R at *
    generalize hBo:E.bo false (.cons (.cmp .eq (.ix (.nm 2) (.cI 0)) (.cI 0)) (.cons (.cmp .eq (.nm 3) (.lst .nil)) .nil))=BO at *
    have hor:ev BO [some (.lst (qs.map Eb.d)),some (.lst (nds.map Ab)),some (.lst [.int y0,.int y1,.int y2,.int y3,.int y4]),some (.lst (qs.map Eb.d)),some (.int lv),some (.int pl),some (.int (PL.length:Int)),none,none,none,none,none]=.ok (.bl true):=by rw [<- hBo,ev]; exact hor
    generalize hC:E.comp1 1 [] (.nm 0) (.seq (.nm 1)) (.cmp .eq (.ix (.nm 0) (.cI 0)) (.cI 0)) (.nm 0)=C at *
    rw [AU,hBo,hC]
    generalize nds.map Ab=N at *
    generalize qs.map Eb.d=X at *
    simp_arith [hnn,x50,x51,x52,x53,x54,hnl,hn0,ek1,hat,as2,hc,hor,l4,ec3,hql,hp1,ek2,hins]
  by_cases cq:qs=[]
  ·exact first (.inr cq)
  by_cases cz:y0=0
  ·exact first (.inl (beq_iff_eq.mpr cz))
  clear first
  have hqe:(qs.map Eb.d).isEmpty=false:=by
   cases qs with
   | nil=>exact absurd rfl cq
   | cons a r=>rfl
  rw [hqe] at hqn
  have hqp:=acb.mpr cq
  obtain ⟨k2,hk2,ek2⟩:=DV (y:=y2) hqp
  have hq0:(0:Int) < (qs.length:Int):=by omega
  have hat2:=No (xs:=qs.map Eb.d) (i:=k2) (by rw [aaa]; exact hk2)
  rw [abX] at hat2
  obtain ⟨e,he⟩:∃ e:Eb,e=qs[k2]:=⟨_,rfl⟩
  rw [<- he] at hat2
  have hat2:atD (qs.map Eb.d) (k2:Int)=.ok (.tup [.int e.l,.int e.j,.tup [.int e.x.n,.int e.x.a,.int e.x.b,.int e.x.l]]):=hat2
  have hset:∀ (g:Eb),CS (k2:Int) (.tup [.int g.l,.int g.j,.tup [.int g.x.n,.int g.x.a,.int g.x.b,.int g.x.l]]) (qs.map Eb.d)=some ((qs.set k2 g).map Eb.d):=fun g=>by
   unfold CS
   rw [aaa,GU hk2,aa0]; rfl
  have hsl:∀ g:Eb,(qs.set k2 g).length<=qs.length + 1:=fun g=>by rw [aaF]; omega
  clear hPL hem hqe cn
  have key:∀ ps:List Eb,exs Jm [some (.lst (qs.map Eb.d)),some (.lst (nds.map Ab)),some (.lst [.int y0,.int y1,.int y2,.int y3,.int y4]),some (.lst (qs.map Eb.d)),some (.int lv),some (.int pl),some (.int (PL.length:Int)),some (.int k2),some (.tup [.int e.l,.int e.j,.tup [.int e.x.n,.int e.x.a,.int e.x.b,.int e.x.l]]),none,none,none]=.ret (.lst (ps.map Eb.d))->Bu.den [.lst (qs.map Eb.d),.lst (nds.map Ab),.lst [.int y0,.int y1,.int y2,.int y3,.int y4]]=.ok (.lst (ps.map Eb.d)):=fun ps hT=>by
   have eb:AU=(.cons (.asg 3 1 (.bi .list (.cons (.nm 0) .nil))) (.cons (.iff (.cmp .eq (.nm 1) (.lst .nil)) (.cons (.ret (.slc (.lst (.cons (.tup (.cons (.bin .sub (.ix (.nm 2) (.cI 1)) (.cI 20)) (.cons (.bin .sub (.ix (.nm 2) (.cI 2)) (.cI 20)) (.cons (.tup (.cons (.cI 1) (.cons (.cI 1) (.cons (.cI 1) (.cons (.cI 1) .nil))))) .nil)))) .nil)) .cN (.bin .mod (.ix (.nm 2) (.cI 0)) (.cI 2)))) .nil) .nil) (.cons (.asgT [4,5] (.ix (.nm 1) (.bin .mod (.ix (.nm 2) (.cI 1)) (.bi .len (.cons (.nm 1) .nil))))) (.cons (.asg 6 0 (.bi .len (.cons (.comp1 1 [] (.nm 0) (.seq (.nm 1)) (.cmp .eq (.ix (.nm 0) (.cI 0)) (.cI 0)) (.nm 0)) .nil))) (.cons (.iff (.bo true (.cons (.bo false (.cons (.cmp .eq (.ix (.nm 2) (.cI 0)) (.cI 0)) (.cons (.cmp .eq (.nm 3) (.lst .nil)) .nil))) (.cons (.cmp .eq (.bin .mod (.ix (.nm 2) (.cI 3)) (.cI 4)) (.cI 0)) .nil))) (.cons (.ret (.bin .add (.nm 3) (.lst (.cons (.tup (.cons (.cI 0) (.cons (.nm 6) (.cons (.tup (.cons (.cI 0) (.cons (.cI 0) (.cons (.cI 0) (.cons (.cI 0) .nil))))) .nil)))) .nil)))) .nil) .nil) (.cons (.iff (.bo false (.cons (.cmp .eq (.ix (.nm 2) (.cI 0)) (.cI 0)) (.cons (.cmp .eq (.nm 3) (.lst .nil)) .nil))) (.cons (.mut 3 [] .insert (.cons (.bin .mod (.ix (.nm 2) (.cI 2)) (.bin .add (.bi .len (.cons (.nm 3) .nil)) (.cI 1))) (.cons (.tup (.cons (.nm 4) (.cons (.nm 5) (.cons (.tup (.cons (.ix (.nm 2) (.cI 3)) (.cons (.cI 0) (.cons (.cI 0) (.cons (.ix (.nm 2) (.cI 4)) .nil))))) .nil)))) .nil))) (.cons (.ret (.nm 3)) .nil)) .nil) (.cons (.asg 7 0 (.bin .mod (.ix (.nm 2) (.cI 2)) (.bi .len (.cons (.nm 3) .nil)))) (.cons (.asg 8 0 (.ixL (.nm 3) (.nm 7))) Jm)))))))):=rfl
   have cz':(y0==0)=false:=beq_eq_false_iff_ne.mpr cz
   refine (B3 _ rfl).trans (Ae ?_)
   rw [eb]
   clear hset hsl he eb
   generalize ps.map Eb.d=R at *
   generalize Jm=TL at *
   generalize hC:E.comp1 1 [] (.nm 0) (.seq (.nm 1)) (.cmp .eq (.ix (.nm 0) (.cI 0)) (.cI 0)) (.nm 0)=C at *
   generalize nds.map Ab=N at *
   generalize qs.map Eb.d=X at *
   simp_arith [hnn,x50,x51,x52,x53,x54,hnl,hn0,ek1,hat,as2,hc,cz',hqn,l4,hql,hq0,ek2,hat2,hT]
  obtain ⟨ps,p1,p2⟩:=Q2 qs hl (nds.map Ab) y0 y1 y2 y3 y4 h9 (by omega) hk2 he hqp (some (.int lv)) (some (.int pl)) (some (.int (PL.length:Int)))
  exact ⟨ps,p1,key ps p2⟩
theorem Nx (qs:List (Nat × Nat)):D.flat 9 1 (.lst (qs.map Ab))=true:=by
 show (qs.map Ab).all (D.flat 8 0)=true
 rw [aaH]
 intro d hd
 obtain ⟨q,_,rfl⟩:=aaW.mp hd
 rfl
theorem Ny (es:List Bool) (f:Nat) (qs:List (Nat × Nat)):D.flat 9 1 (.lst (qs.map (Ed es f)))=true:=by
 show (qs.map (Ed es f)).all (D.flat 8 0)=true
 rw [aaH]
 intro d hd
 obtain ⟨q,_,rfl⟩:=aaW.mp hd
 rfl
theorem K1 (f:Nat):AF.den [.int 0,.int f]=.ok (.lst []):=by
 have hc:=FQ f
 have hr:=Bz (a:=0) (b:=0) (by omega) (by omega) (by omega) (by omega)
 have e:∀ δ,AC (.nm 4) (exs AY) (An 0 0) δ=.nxt δ:=fun δ=>rfl
 refine (D6 _ rfl).trans (Ae ?_)
 unfold Ap at hc
 rw [abI] at hc
 simp_arith [Bo,hc,hr,e,Int.natCast_zero]
theorem RO (x:Bool):c2 .ne (.bl x) (.bl x)=.ok (.bl false):=by cases x <;> rfl
theorem Sr (p:Nat) {n:Int} (hn:1<=n) (o:Option Int) (ho:∀ k,o=some k->0<=k):Cg.den [.int p,.int n,AI o]=.ok (.tup [.int 0,.int (EU p n o)]):=by
 refine (G8 _ rfl).trans (Ae ?_)
 cases o with
 | none =>
  unfold AI EU
  simp_arith [BK]
 | some b =>
  have h0:=ho b rfl
  have e2:max (b + n - 1) 0=b + n - 1:=by omega
  unfold AI EU
  simp only
  simp_arith [BK,e2]
theorem Su {es:List Bool} (hn:es.length<=200) (m:Int):∃ o:Option Nat,Bf.den [blL es,.int m]=.ok (pgE o)/\∀ b,o=some b->(b:Int) + m<=es.length:=by
 have hls:=EI hn
 obtain ⟨R,hR⟩:∃ R,R=A4 es es.length:=⟨_,rfl⟩
 rw [<- hR] at hls
 obtain ⟨p2,p3,hl⟩:=Je hn m (blL es) R none none
 cases q:R.find? (fun q=>decide (m<=(q.2:Int) - q.1)) with
 | none =>
  rw [q] at hl
  refine ⟨none,(D8 _ rfl).trans (Ae ?_),fun b hb=>by cases hb⟩
  show _=Out.ret .non
  have hl:AC (.tp [2,3]) (exs Aq) (R.map Ab) [some (blL es),some (.int m),none,none]=.nxt [some (blL es),some (.int m),p2,p3]:=hl
  generalize blL es=X at *
  generalize R.map Ab=N at *
  simp_arith [Bs,hls,hl]
 | some w =>
  rw [q] at hl
  have hw:w ∈ R:=List.mem_of_find?_eq_some q
  have hp:=List.find?_some q
  have hp:m<=(w.2:Int) - w.1:=of_decide_eq_true hp
  rw [hR] at hw
  have hb:=O5 hw
  refine ⟨some w.1,(D8 _ rfl).trans (Ae ?_),fun b hb'=>by cases hb'; omega⟩
  show _=Out.ret (.int w.1)
  have hl:AC (.tp [2,3]) (exs Aq) (R.map Ab) [some (blL es),some (.int m),none,none]=.ret (.int w.1):=hl
  generalize blL es=X at *
  generalize R.map Ab=N at *
  simp_arith [Bs,hls,hl]
section
variable {es:List Bool} {f h:Nat} (S:Sp es.length f h)
include S
theorem Pa:∃ nds:List (Nat × Nat),AF.den [.int es.length,.int f]=.ok (.lst (nds.map Ab)):=by
 rcases S.hs with h0 | H
 ·refine ⟨[],?_⟩
  rw [h0]
  exact K1 f
 ·have:=H.one
  have h1:=Fp (p:=es.length) (f:=f) (l:=h) (by have:=S.hf; omega)
  exact ⟨_,Mi S.hf S.hf8 H S.hh S.hp (by omega)⟩
theorem RP (qs:List Eb) {n:Int} (hn:1<=n) (o:Option Int) (ho:∀ k,o=some k->0<=k) (o0 o1 o3 o4 o5 o6 o7 o8 o9 o13 o14:Option D):∃ p13 p14,exs C3 [o0,o1,some (shD es.length f),o3,o4,o5,o6,o7,o8,o9,some (.lst (qs.map Eb.d)),some (AI o),some (.int n),o13,o14]=.nxt [o0,o1,some (shD es.length f),o3,o4,o5,o6,o7,o8,o9,some (.lst (qs.map Eb.d)),some (AI o),some (.int n),p13,p14]:=by
 have h1:=So S qs n (AI o) _ (Sr es.length hn o ho)
 have h2:=Sq S qs n o
 have d1:B6.dep=9:=IO
 have hne:=KU (.lst (qs.map Eb.d)) (QV qs)
 refine ⟨some (.lst (qs.map Eb.d)),some (.bl (shV es.length f h qs (EU es.length n o) n)),?_⟩
 clear ho
 generalize shV es.length f h qs (EU es.length n o) n=B at *
 generalize qs.map Eb.d=Q at *
 generalize shD es.length f=s at *
 generalize AI o=PG at *
 simp_arith [C3,h1,h2,d1,OS,hne,RO]
theorem RQ (qs:List Eb) {m:Int} (hm:1<=m) (o:Option Int) (ho:∀ k,o=some k->0<=k) (o0 o1 o3 o5 o6 o7 o8 o9 o12 o13 o14:Option D):∃ p12 p13 p14,exs C4 [o0,o1,some (shD es.length f),o3,some (.int m),o5,o6,o7,o8,o9,some (.lst (qs.map Eb.d)),some (AI o),o12,o13,o14]=.nxt [o0,o1,some (shD es.length f),o3,some (.int m),o5,o6,o7,o8,o9,some (.lst (qs.map Eb.d)),some (AI o),p12,p13,p14]:=by
 obtain ⟨δ',e1,p12,p13,p14,rfl⟩:=Au (tg:=.nm 12) (b:=exs C3) (fun _ δ=>∃ p12 p13 p14,δ=[o0,o1,some (shD es.length f),o3,some (.int m),o5,o6,o7,o8,o9,some (.lst (qs.map Eb.d)),some (AI o),p12,p13,p14]) (ds:=[.int m,.int (m + 1),.int (max 1 (m - 1))]) (δ:=[o0,o1,some (shD es.length f),o3,some (.int m),o5,o6,o7,o8,o9,some (.lst (qs.map Eb.d)),some (AI o),o12,o13,o14]) 0 ⟨o12,o13,o14,rfl⟩ (by
  rintro i d δ hd ⟨p12,p13,p14,rfl⟩
  obtain ⟨n,hn,rfl⟩:∃ n:Int,1<=n/\d=.int n:=by
   have:=aae hd
   simp only [aaj,abu,or_false] at this
   rcases this with rfl | rfl | rfl
   ·exact ⟨_,hm,rfl⟩
   ·exact ⟨_,by omega,rfl⟩
   ·exact ⟨_,by omega,rfl⟩
  obtain ⟨q13,q14,e⟩:=RP S qs hn o ho o0 o1 o3 (some (.int m)) o5 o6 o7 o8 o9 p13 p14
  exact ⟨_,_,rfl,e,some (.int n),q13,q14,rfl⟩)
 refine ⟨p12,p13,p14,?_⟩
 clear ho
 generalize qs.map Eb.d=Q at *
 generalize shD es.length f=s at *
 generalize AI o=PG at *
 simp_arith [C4,e1]
theorem RS {xs:List Int} (h:xs.length=5):∃ a b c d e,xs=[a,b,c,d,e]:=by
 match xs,h with
 | [a,b,c,d,e],_=>exact ⟨a,b,c,d,e,rfl⟩
theorem RT (ns:List Int) (nds:List (Nat × Nat)) (qs:List Eb) (hq:qs.length<=1000) {m:Int} (hm:1<=m) (o:Option Int) (ho:∀ k,o=some k->0<=k) {en t:Int} (hen:0<=en) (ht:0<=t) (o1 o9 o10 o11 o12 o13 o14:Option D):∃ p9 p10 p11 p12 p13 p14,exs C5 [some (.lst (ns.map .int)),o1,some (shD es.length f),some (.lst (nds.map Ab)),some (.int m),some (AI o),some (.int en),some (.lst (qs.map Eb.d)),some (.int t),o9,o10,o11,o12,o13,o14]=.nxt [some (.lst (ns.map .int)),o1,some (shD es.length f),some (.lst (nds.map Ab)),some (.int m),some (AI o),some (.int en),some (.lst (qs.map Eb.d)),some (.int t),p9,p10,p11,p12,p13,p14]:=by
 obtain ⟨ys,hrow,hyl,hyb⟩:=EH ns (20 + t) (by omega) [9,400,60,40,60] (by decide) (by decide)
 obtain ⟨y0,y1,y2,y3,y4,rfl⟩:=RS S hyl
 have b0:=hyb 0 y0 9 rfl rfl
 obtain ⟨ps,hps,hbent⟩:=Q3 qs nds hq y1 y2 y3 y4 b0.1 b0.2
 have hrow:At.den [.lst (ns.map .int),.int (20 + t),.lst [.int 9,.int 400,.int 60,.int 40,.int 60]]=.ok (.lst [.int y0,.int y1,.int y2,.int y3,.int y4]):=hrow
 obtain ⟨rs,hat⟩:∃ rs:List Eb,atD [.lst (qs.map Eb.d),.lst (ps.map Eb.d)] (if (decide (0 < t))=true then (1:Int) else 0)=.ok (.lst (rs.map Eb.d)):=by
  by_cases c:0 < t
  ·exact ⟨ps,by rw [decide_eq_true c]; rfl⟩
  ·exact ⟨qs,by rw [decide_eq_false c]; rfl⟩
 obtain ⟨δ',e1,p11,p12,p13,p14,rfl⟩:=Au (tg:=.nm 11) (b:=exs C4) (fun _ δ=>∃ p11 p12 p13 p14,δ=[some (.lst (ns.map .int)),o1,some (shD es.length f),some (.lst (nds.map Ab)),some (.int m),some (AI o),some (.int en),some (.lst (qs.map Eb.d)),some (.int t),some (.lst [.int y0,.int y1,.int y2,.int y3,.int y4]),some (.lst (rs.map Eb.d)),p11,p12,p13,p14]) (ds:=[AI o,.non,.int 0,.int en,.int 1000000000000000000000000000000]) (δ:=[some (.lst (ns.map .int)),o1,some (shD es.length f),some (.lst (nds.map Ab)),some (.int m),some (AI o),some (.int en),some (.lst (qs.map Eb.d)),some (.int t),some (.lst [.int y0,.int y1,.int y2,.int y3,.int y4]),some (.lst (rs.map Eb.d)),o11,o12,o13,o14]) 0 ⟨o11,o12,o13,o14,rfl⟩ (by
  rintro i d δ hd ⟨p11,p12,p13,p14,rfl⟩
  obtain ⟨x,hx,rfl⟩:∃ x:Option Int,(∀ k,x=some k->0<=k)/\d=AI x:=by
   have:=aae hd
   simp only [aaj,abu,or_false] at this
   rcases this with rfl | rfl | rfl | rfl | rfl
   ·exact ⟨o,ho,rfl⟩
   ·exact ⟨none,(fun k h=>nomatch h),rfl⟩
   ·exact ⟨some 0,(fun k h=>by cases h; decide),rfl⟩
   ·exact ⟨some en,(fun k h=>by cases h; exact hen),rfl⟩
   ·exact ⟨some 1000000000000000000000000000000,(fun k h=>by cases h; decide),rfl⟩
  obtain ⟨q12,q13,q14,e⟩:=RQ S rs hm x hx (some (.lst (ns.map .int))) o1 (some (.lst (nds.map Ab))) (some (AI o)) (some (.int en)) (some (.lst (qs.map Eb.d))) (some (.int t)) (some (.lst [.int y0,.int y1,.int y2,.int y3,.int y4])) p12 p13 p14
  exact ⟨_,_,rfl,e,some (AI x),q12,q13,q14,rfl⟩)
 refine ⟨some (.lst [.int y0,.int y1,.int y2,.int y3,.int y4]),some (.lst (rs.map Eb.d)),p11,p12,p13,p14,?_⟩
 clear ho hyb
 generalize rs.map Eb.d=R at *
 generalize ps.map Eb.d=P at *
 generalize qs.map Eb.d=Q at *
 generalize nds.map Ab=N at *
 generalize shD es.length f=s at *
 generalize AI o=PG at *
 simp_arith [C5,hrow,hbent,hat,Nw,e1]
theorem RU (ns:List Int) (nds:List (Nat × Nat)) {m:Int} (hm:1<=m) (o5 o6 o7 o8 o9 o10 o11 o12 o13 o14:Option D):∃ p5 p6 p7 p8 p9 p10 p11 p12 p13 p14,exs C6 [some (.lst (ns.map .int)),some (blL es),some (shD es.length f),some (.lst (nds.map Ab)),some (.int m),o5,o6,o7,o8,o9,o10,o11,o12,o13,o14]=.nxt [some (.lst (ns.map .int)),some (blL es),some (shD es.length f),some (.lst (nds.map Ab)),some (.int m),p5,p6,p7,p8,p9,p10,p11,p12,p13,p14]:=by
 obtain ⟨o,h1,h2⟩:=Su S.hp m
 obtain ⟨en,hen,hend⟩:∃ en:Nat,en<=es.length/\ex (.iff (.isN true (.nm 5)) (.cons (.asg 6 0 (.bin .sub (.bin .add (.nm 5) (.nm 4)) (.cI 1))) .nil) .nil) [some (.lst (ns.map .int)),some (blL es),some (shD es.length f),some (.lst (nds.map Ab)),some (.int m),some (pgE o),some (.int es.length),o7,o8,o9,o10,o11,o12,o13,o14]=.nxt [some (.lst (ns.map .int)),some (blL es),some (shD es.length f),some (.lst (nds.map Ab)),some (.int m),some (pgE o),some (.int en),o7,o8,o9,o10,o11,o12,o13,o14]:=by
  generalize shD es.length f=s at *
  generalize blL es=X at *
  generalize nds.map Ab=N at *
  cases o with
  | none =>
   refine ⟨es.length,aan _,?_⟩
   unfold pgE
   simp_arith []
  | some b =>
   have h3:=h2 b rfl
   have e1:(((b:Int) + m - 1).toNat:Int)=(b:Int) + m - 1:=aa6 (by omega)
   refine ⟨((b:Int) + m - 1).toNat,by omega,?_⟩
   rw [e1]
   unfold pgE
   simp_arith []
 have hlp:=QR S hen
 have hcl:(cov es.length f h en 200 0).length<=200:=Fu S 200 0
 obtain ⟨qs,hq,eqs⟩:∃ qs:List Eb,qs.length<=1000/\(BA es.length f h en).map (Ed es f)=qs.map Eb.d:=by
  refine ⟨(BA es.length f h en).map fun q=>⟨q.1,q.2,bkN es f q.1 q.2⟩,?_,?_⟩
  ·rw [aaa]
   unfold BA
   split
   ·simp
   ·omega
  ·rw [aa1]; rfl
 have fl:=Ny es f (BA es.length f h en)
 rw [eqs] at hlp fl
 obtain ⟨ox,hox,eox⟩:∃ ox:Option Int,(∀ k,ox=some k->0<=k)/\pgE o=AI ox:=by
  cases o with
  | none=>exact ⟨none,(fun k h=>nomatch h),rfl⟩
  | some b=>exact ⟨some b,(fun k h=>by cases h; omega),rfl⟩
 have f1:=Nv o
 rw [eox] at h1 hend f1
 have d1:Bf.dep=0:=Ga
 have d2:Bg.dep=1:=Gc
 have hr4:=Bz (a:=0) (b:=4) (by omega) (by omega) (by omega) (by omega)
 obtain ⟨δ',e1,p8,p9,p10,p11,p12,p13,p14,rfl⟩:=Au (tg:=.nm 8) (b:=exs C5) (fun _ δ=>∃ p8 p9 p10 p11 p12 p13 p14,δ=[some (.lst (ns.map .int)),some (blL es),some (shD es.length f),some (.lst (nds.map Ab)),some (.int m),some (AI ox),some (.int en),some (.lst (qs.map Eb.d)),p8,p9,p10,p11,p12,p13,p14]) (ds:=An 0 4) (δ:=[some (.lst (ns.map .int)),some (blL es),some (shD es.length f),some (.lst (nds.map Ab)),some (.int m),some (AI ox),some (.int en),some (.lst (qs.map Eb.d)),o8,o9,o10,o11,o12,o13,o14]) 0 ⟨o8,o9,o10,o11,o12,o13,o14,rfl⟩ (by
  rintro i d δ hd ⟨p8,p9,p10,p11,p12,p13,p14,rfl⟩
  obtain ⟨rfl,hi⟩:=BG hd
  obtain ⟨q9,q10,q11,q12,q13,q14,e⟩:=RT S ns nds qs hq hm ox hox (en:=en) (t:=0 + (i:Int)) (by omega) (by omega) (some (blL es)) p9 p10 p11 p12 p13 p14
  exact ⟨_,_,rfl,e,some (.int (0 + (i:Int))),q9,q10,q11,q12,q13,q14,rfl⟩)
 refine ⟨some (AI ox),some (.int en),some (.lst (qs.map Eb.d)),p8,p9,p10,p11,p12,p13,p14,?_⟩
 clear hox eox eqs h2 hcl
 generalize hS:Pu.S.iff (.isN true (.nm 5)) (.cons (.asg 6 0 (.bin .sub (.bin .add (.nm 5) (.nm 4)) (.cI 1))) .nil) .nil=s1 at *
 rw [C6,hS]
 unfold shD at *
 generalize qs.map Eb.d=Q at *
 generalize blL es=X at *
 generalize nds.map Ab=N at *
 generalize AI ox=PG at *
 simp_arith [h1,d1,f1,hend,hlp,d2,fl,hr4,e1]
end
theorem Pb:∀ ns:List Int,ns.length<=63->ES.den [.lst (ns.map .int)]=.ok (.bl true):=by
 intro ns _
 obtain ⟨ys,hrow,hyl,hyb⟩:=EH ns 9 (by decide) [8] (by decide) (by decide)
 obtain ⟨y,rfl⟩:=QE hyl
 simp only [abm] at hrow
 have az:∀ y:Int,atD [D.int y] 0=.ok (.int y):=fun y=>rfl
 obtain ⟨es,hel,hem⟩:∃ es:List Bool,es.length<=200/\ev (.call AS (.cons (.nm 0) (.cons (.cI 0) (.cons (.ix (.lst (.cons (.cI 120) (.cons (.cI 200) .nil))) (.bi .int (.cons (.cmp .eq (.ix (.call At (.cons (.nm 0) (.cons (.cI 9) (.cons (.lst (.cons (.cI 8) .nil)) .nil)))) (.cI 0)) (.cI 0)) .nil))) .nil)))) [some (.lst (ns.map .int)),none,none,none,none,none,none,none,none,none,none,none,none,none,none]=.ok (blL es):=by
  by_cases c:y=0
  ·obtain ⟨es,h1,h2⟩:=FS ns 0 (by decide) 200 (by decide)
   have h2:AS.den [.lst (ns.map .int),.int 0,.int 200]=.ok (blL es):=h2
   refine ⟨es,h1,?_⟩
   have e1:(y==0)=true:=beq_iff_eq.mpr c
   generalize blL es=X at *
   generalize ns.map D.int=N at *
   simp_arith [hrow,az,e1,h2]
  ·obtain ⟨es,h1,h2⟩:=FS ns 0 (by decide) 120 (by decide)
   have h2:AS.den [.lst (ns.map .int),.int 0,.int 120]=.ok (blL es):=h2
   refine ⟨es,by omega,?_⟩
   have e1:(y==0)=false:=beq_eq_false_iff_ne.mpr c
   generalize blL es=X at *
   generalize ns.map D.int=N at *
   simp_arith [hrow,az,e1,h2]
 obtain ⟨f,hf,hf8,hfan⟩:=OZ ns 1 (by decide)
 obtain ⟨ms,hms,hml,hmany⟩:=QS hel ns
 obtain ⟨h,S⟩:=RG (p:=es.length) (f:=f) hel hf hf8
 obtain ⟨nds,hnds⟩:=Pa S
 have d1:Br.dep=2:=GM
 have d2:AF.dep=1:=F8
 have hfl:=Nx nds
 have hfm:D.flat 9 2 (.lst (ms.map .int))=true:=by
  show (ms.map D.int).all (D.flat 8 1)=true
  rw [aaH]
  intro d hd
  obtain ⟨x,rfl⟩:=GN hd
  rfl
 have hlen:(((es.map D.bl).length:Nat):Int)=(es.length:Int):=by rw [aaa]
 obtain ⟨δ',e1,p4,p5,p6,p7,p8,p9,p10,p11,p12,p13,p14,rfl⟩:=Au (tg:=.nm 4) (b:=exs C6) (fun _ δ=>∃ p4 p5 p6 p7 p8 p9 p10 p11 p12 p13 p14,δ=[some (.lst (ns.map .int)),some (blL es),some (shD es.length f),some (.lst (nds.map Ab)),p4,p5,p6,p7,p8,p9,p10,p11,p12,p13,p14]) (ds:=ms.map .int) (δ:=[some (.lst (ns.map .int)),some (blL es),some (shD es.length f),some (.lst (nds.map Ab)),none,none,none,none,none,none,none,none,none,none,none]) 0 ⟨none,none,none,none,none,none,none,none,none,none,none,rfl⟩ (by
  rintro i d δ hd ⟨p4,p5,p6,p7,p8,p9,p10,p11,p12,p13,p14,rfl⟩
  obtain ⟨m,hm,rfl⟩:=aaW.mp (aae hd)
  obtain ⟨q5,q6,q7,q8,q9,q10,q11,q12,q13,q14,e⟩:=RU S ns nds (hms m hm) p5 p6 p7 p8 p9 p10 p11 p12 p13 p14
  exact ⟨_,_,rfl,e,some (.int m),q5,q6,q7,q8,q9,q10,q11,q12,q13,q14,rfl⟩)
 refine (KO _ rfl).trans (Ae ?_)
 clear hms hrow az
 show exs Dz [some (.lst (ns.map .int)),none,none,none,none,none,none,none,none,none,none,none,none,none,none]=_
 generalize hE:E.call AS (.cons (.nm 0) (.cons (.cI 0) (.cons (.ix (.lst (.cons (.cI 120) (.cons (.cI 200) .nil))) (.bi .int (.cons (.cmp .eq (.ix (.call At (.cons (.nm 0) (.cons (.cI 9) (.cons (.lst (.cons (.cI 8) .nil)) .nil)))) (.cI 0)) (.cI 0)) .nil))) .nil)))=EE at *
 rw [Dz,hE]
 unfold blL shD at *
 generalize nds.map Ab=ND at *
 generalize es.map D.bl=X at *
 generalize ms.map D.int=M at *
 generalize ns.map D.int=N at *
 simp_arith [hem,hfan,hlen,hnds,d2,hfl,hmany,d1,hfm,e1]
end Pu
end
namespace Pu
open PySem PySem.Spec PyProof.Rows PySem.W L2
noncomputable def top (i:Nat):Stmt:=PySem.Challenge.pw_ullage_k76_rows_shown.main.body.getD i (.Pass ⟨0,0,0,0⟩)
theorem Jy:dfB ["thing"] ["thing"] (top 4) GH 9=true:=by decide +kernel
theorem HL:dfB ["thing", "least", "most"] ["thing", "least", "most"] (top 5) CT 9=true:=by decide +kernel
theorem Ml:dfB ["shape", "fan", "counts", "many"] ["shape"] (top 7) D3 1=true:=by decide +kernel
theorem Fw:dfB ["counts", "thing"] ["counts", "thing"] (top 9) AM 9=true:=by decide +kernel
theorem K2:dfB ["shape", "thing"] ["shape", "thing"] (top 8) Dy 9=true:=by decide +kernel
theorem HM:dfB ["shape", "thing"] ["shape", "thing"] (top 10) CW 9=true:=by decide +kernel
theorem Pc:dfB ["shape", "node", "width", "level", "begin"] ["shape", "node"] (top 11) GJ 0=true:=by decide +kernel
theorem Mm:dfB ["one", "other", "ahead", "behind"] ["one", "other"] (top 13) CM 0=true:=by decide +kernel
theorem Jn:dfB ["shape", "pages", "paper", "reached", "entry", "node"] ["shape", "pages", "paper"] (top 15) Cv 9=true:=by decide +kernel
theorem Hj:dfB ["pages", "many", "page"] ["pages", "many", "page"] (top 17) BK 0=true:=by decide +kernel
theorem GV:dfB ["paper", "block", "entry"] ["paper"] (top 20) Ch 0=true:=by decide +kernel
theorem Nz:dfB ["shape", "entry", "pages"] ["shape", "entry"] (top 19) FH 1=true:=by decide +kernel
theorem Jo:dfB ["shape", "many", "page", "paper"] ["shape", "many", "page", "paper"] (top 18) Cw 9=true:=by decide +kernel
theorem Jz:dfB ["_law_script", "_law_place", "_law_seed", "_law_cell_here"] ["_law_script", "_law_place"] (top 22) CZ 0=true:=by decide +kernel
theorem Hk:dfB ["_law_cell_here", "_law_k", "_law_one", "_law_two"] ["_law_cell_here", "_law_k"] (top 23) CF 1=true:=by decide +kernel
theorem Hl:dfB ["_law_script", "_law_place", "_law_sizes", "_law_cell_here", "_law_left", "_law_some", "_law_k", "_law_other"] ["_law_script", "_law_place", "_law_sizes"] (top 24) CG 2=true:=by decide +kernel
theorem Hm:dfB ["_law_script", "_law_place", "_law_most", "_law_some", "_law_found", "_law_k", "_law_here"] ["_law_script", "_law_place", "_law_most"] (top 25) CH 2=true:=by decide +kernel
theorem Jp:dfB ["_law_empties_here", "_law_ahead", "_law_behind", "_law_longest", "_law_here", "_law_empty"] ["_law_empties_here"] (top 26) Dt 0=true:=by decide +kernel
theorem Hn:dfB ["_law_script", "_law_place"] ["_law_script", "_law_place"] (top 28) CI 1=true:=by decide +kernel
theorem FL:dfB ["_law_pages", "_law_fan_here", "_law_found"] ["_law_pages", "_law_fan_here"] (top 29) Bc 1=true:=by decide +kernel
theorem Gh:dfB ["_law_pages", "_law_fan_here", "_law_level", "_law_place", "_law_wide", "_law_k"] ["_law_pages", "_law_fan_here", "_law_level", "_law_place"] (top 30) BW 1=true:=by decide +kernel
theorem Gi:dfB ["_law_pages", "_law_fan_here", "_law_found", "_law_counts_here", "_law_level"] ["_law_pages", "_law_fan_here"] (top 31) Bo 1=true:=by decide +kernel
theorem Gj:dfB ["_law_pages", "_law_fan_here", "_law_begin", "_law_end", "_law_found", "_law_at", "_law_wide", "_law_node", "_law_level", "_law_high"] ["_law_pages", "_law_fan_here", "_law_begin", "_law_end"] (top 32) Bp 2=true:=by decide +kernel
theorem Gk:dfB ["_law_empties_here", "_law_found", "_law_begin", "_law_end"] ["_law_empties_here"] (top 33) BX 1=true:=by decide +kernel
theorem GW:dfB ["_law_script", "_law_empties_here", "_law_longs", "_law_found", "_law_k", "_law_some"] ["_law_script", "_law_empties_here"] (top 34) Cm 2=true:=by decide +kernel
theorem Gm:dfB ["_law_empties_here", "_law_many_here", "_law_begin", "_law_end"] ["_law_empties_here", "_law_many_here"] (top 35) Bs 0=true:=by decide +kernel
theorem Gn:dfB ["_law_empties_here", "_law_fan_here", "_law_end", "_law_paper", "_law_level", "_law_place", "_law_low", "_law_high"] ["_law_empties_here", "_law_fan_here", "_law_end"] (top 36) BY 1=true:=by decide +kernel
theorem JA:dfB ["_law_one", "_law_other", "_law_ahead", "_law_behind"] ["_law_one", "_law_other"] (top 37) BF 0=true:=by decide +kernel
theorem Go:dfB ["_law_shape", "_law_many_here", "_law_page", "_law_paper", "_law_counts_here", "_law_end", "_law_at", "_law_all_of", "_law_level", "_law_place", "_law_block_here", "_law_low", "_law_high"] ["_law_shape", "_law_many_here", "_law_page", "_law_paper"] (top 38) BZ 9=true:=by decide +kernel
theorem GX:dfB ["_law_paper", "_law_nodes_here", "_law_some", "_law_made", "_law_level", "_law_place", "_law_pages", "_law_at", "_law_row_here", "_law_other", "_law_block_here", "_law_which"] ["_law_paper", "_law_nodes_here", "_law_some"] (top 39) AU 1=true:=by decide +kernel
theorem K3:dfB ["_law_script", "_law_empties_here", "_law_shape", "_law_nodes_here", "_law_many_here", "_law_page", "_law_end", "_law_paper", "_law_k", "_law_some", "_law_bent_here", "_law_here", "_law_number", "_law_handed", "_law_found"] ["_law_script"] (top 40) Dz 9=true:=by decide +kernel
set_option maxHeartbeats 0 in
theorem Q4 {l:PySem.W.OpenLaw} {w:World} {K:PySem.W.Frag} {h:Heap} {mg:Str->Option Value} {fa:Addr} {C2:Addr} (X:K.In h) (G:h.Ns mainGlobals mg) (hfa:mg "law" = some (.ref fa)) (t0:Az K "is_whole" (top 4)) (t1:Az K "is_between" (top 5)) (t2:Az K "levels" (top 7)) (t3:Az K "is_counted_node" (top 9)) (t4:Az K "is_node" (top 8)) (t5:Az K "check_node" (top 10)) (t6:Az K "span" (top 11)) (t7:Az K "joined" (top 13)) (t8:Az K "lies_over" (top 15)) (t9:Az K "pages_ahead" (top 17)) (t10:Az K "longest_told" (top 20)) (t11:Az K "width" (top 19)) (t12:Az K "row_shows" (top 18)) (t13:Az K "_law_cell" (top 22)) (t14:Az K "_law_mix" (top 23)) (t15:Az K "_law_row" (top 24)) (t16:Az K "_law_empties" (top 25)) (t17:Az K "_law_block" (top 26)) (t18:Az K "_law_fan" (top 28)) (t19:Az K "_law_counts" (top 29)) (t20:Az K "_law_reach" (top 30)) (t21:Az K "_law_nodes" (top 31)) (t22:Az K "_law_cover" (top 32)) (t23:Az K "_law_stretches" (top 33)) (t24:Az K "_law_many" (top 34)) (t25:Az K "_law_row_first" (top 35)) (t26:Az K "_law_row_paper" (top 36)) (t27:Az K "_law_join" (top 37)) (t28:Az K "_law_reads" (top 38)) (t29:Az K "_law_bent" (top 39)) (t30:Az K "law" (top 40)) (n_len:nsIn K mainGlobals "len" = some none) (n_min:nsIn K mainGlobals "min" = some none) (n_max:nsIn K mainGlobals "max" = some none) (n_abs:nsIn K mainGlobals "abs" = some none) (n_int:nsIn K mainGlobals "int" = some none) (n_list:nsIn K mainGlobals "list" = some none) (n_tuple:nsIn K mainGlobals "tuple" = some none) (n_all:nsIn K mainGlobals "all" = some none) (n_any:nsIn K mainGlobals "any" = some none) (n_sum:nsIn K mainGlobals "sum" = some none) (n_sorted:nsIn K mainGlobals "sorted" = some none) (n_isinstance:nsIn K mainGlobals "isinstance" = some none) (n_str:nsIn K mainGlobals "str" = some none) (n_range:nsIn K mainGlobals "range" = some none) (n_enumerate:nsIn K mainGlobals "enumerate" = some none) (n_zip:nsIn K mainGlobals "zip" = some none) (n_reversed:nsIn K mainGlobals "reversed" = some none) (n_bool:nsIn K mainGlobals "bool" = some none) (n_dict:nsIn K mainGlobals "dict" = some none) (n_ValueError:nsIn K mainGlobals "ValueError" = some none) (c2:ClsF K "NoNode" C2) (e2:excIn K C2 G1 "ValueError.__new__" = true) (y2_2:kitOne K (.ref C2) (.ref C2)=some true) (nl:noL K=true)
  (hden:∀ ns:List Int,ns.length<=63->ES.den [.lst (ns.map .int)]=.ok (.bl true)) :
  ∃ fd:FuncData,(∀ (s:Shared) (v:Value),BindsTo s fd ⟨[v],[]⟩ [("_law_script",v)])/\∀ base:Heap,K.In base->base.Ns mainGlobals mg->FnOk l.prog w K mg base (CXe l.prog w) 9 fa fd ["_law_script"] (spL K):=by
 have O:∀ base:Heap,Lw.Ok ⟨⟨K,clA [(2,C2)],Dk [(2,C2)]⟩,l.prog,w,mg,base⟩:=fun base=>RB rfl X G ⟨n_len,n_min,n_max,n_abs,n_int,n_list,n_tuple,n_all,n_any,n_sum,n_sorted,n_isinstance,n_str,n_range,n_enumerate,n_zip,n_reversed,n_bool,n_dict,n_ValueError,trivial⟩ ⟨c2,trivial⟩ ⟨⟨y2_2,trivial⟩,trivial⟩
 refine OQ (cs:=[(2,C2)]) (lv:=8) X G hfa t30 K3 (fun _ _ _ _ _ _ s v=>.of_eq rfl) O (fun base=>?_) nl hden
 have rs2:=(⟨rfl,c2.q,e2⟩:NeedG ⟨⟨K,clA [(2,C2)],Dk [(2,C2)]⟩,l.prog,w,mg,base⟩ 0 (.rs 2))
 have cl2:=(⟨rfl,PySem.W.mg_of X G c2.q⟩:NeedG ⟨⟨K,clA [(2,C2)],Dk [(2,C2)]⟩,l.prog,w,mg,base⟩ 0 (.cl 2))
 have h_is_whole:=Am (lv:=0) (O base) (Al X G t0 fun _ _ _ _ _ _=>ba1 fun _=>rfl) Jy trivial
 have h_is_between:=Am (lv:=1) (O base) (Al X G t1 fun _ _ _ _ _ _=>ba3 fun _ _ _=>rfl) HL ⟨⟨by decide,h_is_whole⟩,trivial⟩
 have h_levels:=Am (lv:=0) (O base) (Al X G t2 fun _ _ _ _ _ _=>ba1 fun _=>rfl) Ml trivial
 have h_is_counted_node:=Am (lv:=2) (O base) (Al X G t3 fun _ _ _ _ _ _=>ba2 fun _ _=>rfl) Fw ⟨⟨by decide,h_is_between⟩,⟨by decide,h_is_between⟩,trivial⟩
 have h_is_node:=Am (lv:=3) (O base) (Al X G t4 fun _ _ _ _ _ _=>ba2 fun _ _=>rfl) K2 ⟨⟨by decide,h_is_counted_node⟩,⟨by decide,h_levels⟩,trivial⟩
 have h_check_node:=Am (lv:=4) (O base) (Al X G t5 fun _ _ _ _ _ _=>ba2 fun _ _=>rfl) HM ⟨⟨by decide,h_is_node⟩,rs2,trivial⟩
 have h_span:=Am (lv:=5) (O base) (Al X G t6 fun _ _ _ _ _ _=>ba2 fun _ _=>rfl) Pc ⟨⟨by decide,h_check_node⟩,trivial⟩
 have h_joined:=Am (lv:=0) (O base) (Al X G t7 fun _ _ _ _ _ _=>ba2 fun _ _=>rfl) Mm trivial
 have h_lies_over:=Am (lv:=6) (O base) (Al X G t8 fun _ _ _ _ _ _=>ba3 fun _ _ _=>rfl) Jn ⟨⟨by decide,h_is_node⟩,⟨by decide,h_span⟩,⟨by decide,h_span⟩,trivial⟩
 have h_pages_ahead:=Am (lv:=0) (O base) (Al X G t9 fun _ _ _ _ _ _=>ba3 fun _ _ _=>rfl) Hj trivial
 have h_longest_told:=Am (lv:=1) (O base) (Al X G t10 fun _ _ _ _ _ _=>ba1 fun _=>rfl) GV ⟨⟨by decide,h_joined⟩,trivial⟩
 have h_width:=Am (lv:=6) (O base) (Al X G t11 fun _ _ _ _ _ _=>ba2 fun _ _=>rfl) Nz ⟨⟨by decide,h_span⟩,trivial⟩
 have h_row_shows:=Am (lv:=7) (O base) (Al X G t12 fun _ _ _ _ _ _=>ba4 fun _ _ _ _=>rfl) Jo ⟨⟨by decide,h_lies_over⟩,⟨by decide,h_pages_ahead⟩,⟨by decide,h_width⟩,⟨by decide,h_longest_told⟩,trivial⟩
 have h_law_cell:=Am (lv:=0) (O base) (Al X G t13 fun _ _ _ _ _ _=>ba2 fun _ _=>rfl) Jz trivial
 have h_law_mix_k11:=Am (lv:=0) (O base) (Al X G t14 fun _ _ _ _ _ _=>ba2 fun _ _=>rfl) Hk trivial
 have h_law_row_k11:=Am (lv:=1) (O base) (Al X G t15 fun _ _ _ _ _ _=>ba3 fun _ _ _=>rfl) Hl ⟨⟨by decide,h_law_cell⟩,⟨by decide,h_law_mix_k11⟩,⟨by decide,h_law_cell⟩,⟨by decide,h_law_mix_k11⟩,trivial⟩
 have h_law_empties:=Am (lv:=2) (O base) (Al X G t16 fun _ _ _ _ _ _=>ba3 fun _ _ _=>rfl) Hm ⟨⟨by decide,h_law_row_k11⟩,trivial⟩
 have h_law_block:=Am (lv:=0) (O base) (Al X G t17 fun _ _ _ _ _ _=>ba1 fun _=>rfl) Jp trivial
 have h_law_fan_k22:=Am (lv:=2) (O base) (Al X G t18 fun _ _ _ _ _ _=>ba2 fun _ _=>rfl) Hn ⟨⟨by decide,h_law_row_k11⟩,trivial⟩
 have h_law_counts_k11:=Am (lv:=0) (O base) (Al X G t19 fun _ _ _ _ _ _=>ba2 fun _ _=>rfl) FL trivial
 have h_law_reach_k12:=Am (lv:=0) (O base) (Al X G t20 fun _ _ _ _ _ _=>ba4 fun _ _ _ _=>rfl) Gh trivial
 have h_law_nodes_k12:=Am (lv:=1) (O base) (Al X G t21 fun _ _ _ _ _ _=>ba2 fun _ _=>rfl) Gi ⟨⟨by decide,h_law_counts_k11⟩,trivial⟩
 have h_law_cover_k13:=Am (lv:=1) (O base) (Al X G t22 fun _ _ _ _ _ _=>ba4 fun _ _ _ _=>rfl) Gj ⟨⟨by decide,h_law_counts_k11⟩,trivial⟩
 have h_law_stretches:=Am (lv:=0) (O base) (Al X G t23 fun _ _ _ _ _ _=>ba1 fun _=>rfl) Gk trivial
 have h_law_many_k75:=Am (lv:=2) (O base) (Al X G t24 fun _ _ _ _ _ _=>ba2 fun _ _=>rfl) GW ⟨⟨by decide,h_law_stretches⟩,⟨by decide,h_law_row_k11⟩,trivial⟩
 have h_law_row_first:=Am (lv:=1) (O base) (Al X G t25 fun _ _ _ _ _ _=>ba2 fun _ _=>rfl) Gm ⟨⟨by decide,h_law_stretches⟩,trivial⟩
 have h_law_row_paper:=Am (lv:=2) (O base) (Al X G t26 fun _ _ _ _ _ _=>ba3 fun _ _ _=>rfl) Gn ⟨⟨by decide,h_law_cover_k13⟩,⟨by decide,h_law_reach_k12⟩,⟨by decide,h_law_block⟩,trivial⟩
 have h_law_join:=Am (lv:=0) (O base) (Al X G t27 fun _ _ _ _ _ _=>ba2 fun _ _=>rfl) JA trivial
 have h_law_reads_k76:=Am (lv:=1) (O base) (Al X G t28 fun _ _ _ _ _ _=>ba4 fun _ _ _ _=>rfl) Go ⟨⟨by decide,h_law_counts_k11⟩,⟨by decide,h_law_reach_k12⟩,⟨by decide,h_law_join⟩,trivial⟩
 have h_law_bent_k76:=Am (lv:=0) (O base) (Al X G t29 fun _ _ _ _ _ _=>ba3 fun _ _ _=>rfl) GX trivial
 exact ⟨⟨by decide,h_law_empties⟩,⟨by decide,h_law_row_k11⟩,⟨by decide,h_law_fan_k22⟩,⟨by decide,h_law_nodes_k12⟩,⟨by decide,h_law_many_k75⟩,⟨by decide,h_law_row_first⟩,⟨by decide,h_law_row_paper⟩,⟨by decide,h_law_row_k11⟩,⟨by decide,h_law_bent_k76⟩,⟨by decide,h_row_shows⟩,⟨by decide,h_law_reads_k76⟩,trivial⟩
end Pu
open PySem PySem.W PyProof.Rows
noncomputable def PySem.W.Fast.tw7918714867870327103:Nat:=0
noncomputable def PySem.W.Fast.tw14337549825112933499:Nat:=0
noncomputable def PySem.W.Fast.tw4861566788742670343:Nat:=0
noncomputable def PySem.W.Fast.tw6187851880511070874:Nat:=0
noncomputable def PySem.W.Fast.tw17001731019063321035:Nat:=0
noncomputable def PySem.W.Fast.tw10232708450052331835:Nat:=0
noncomputable def PySem.W.Fast.tw4142103798976318603:Nat:=0
noncomputable def PySem.W.Fast.tw13244509352514184096:Nat:=0
noncomputable def PySem.W.Fast.tw15693619093992204330:Nat:=0
noncomputable def PySem.W.Fast.tw11565450412261494148:Nat:=0
noncomputable def PySem.W.Fast.tw7194517413630336453:Nat:=0
noncomputable def PySem.W.Fast.tw17103739708528760149:Nat:=0
noncomputable def PySem.W.Fast.tw6316076939955897915:Nat:=0
noncomputable def PySem.W.Fast.tw5811552693862343350:Nat:=0
noncomputable def PySem.W.Fast.tw3277682370373927323:Nat:=0
noncomputable def PySem.W.Fast.tw15860385089947630249:Nat:=0
noncomputable def PySem.W.Fast.tw15339454405109822400:Nat:=0
noncomputable def PySem.W.Fast.tw2262965240153520367:Nat:=0
noncomputable def PySem.W.Fast.tw12797096845622004627:Nat:=0
noncomputable def PySem.W.Fast.tw14884406058668134952:Nat:=0
noncomputable def PySem.W.Fast.tw16268401249175713194:Nat:=0
noncomputable def PySem.W.Fast.tw15824561716120229251:Nat:=0
noncomputable def PySem.W.Fast.tw16970489539069698715:Nat:=0
noncomputable def PySem.W.Fast.tw1525506114084166784:Nat:=0
noncomputable def PySem.W.Fast.tw6804346797265322884:Nat:=0
noncomputable def PySem.W.Fast.tw1777063617222801331:Nat:=0
noncomputable def PySem.W.Fast.tw3219153632550222043:Nat:=0
noncomputable def PySem.W.Fast.tw2954697745448225991:Nat:=0
noncomputable def PySem.W.Fast.tw5463620053294694485:Nat:=0
noncomputable def PySem.W.Fast.tw5089233347635880375:Nat:=0
noncomputable def PySem.W.Fast.tw15315606443891866321:Nat:=0
noncomputable def PySem.W.Fast.tw12867793436104904115:Nat:=0
noncomputable def PySem.W.Fast.tw5247790301975557865:Nat:=0
noncomputable def PySem.W.Fast.tw1335322542895531914:Nat:=0
noncomputable def PySem.W.Fast.tw9104136560144332306:Nat:=0
noncomputable def PySem.W.Fast.tw6110701205911693608:Nat:=0
noncomputable def PySem.W.Fast.tw17909957873590333774:Nat:=0
noncomputable def PySem.W.Fast.tw1012201349483743529:Nat:=0
noncomputable def PySem.W.Fast.tw11441810297276404528:Nat:=0
noncomputable def PySem.W.Fast.tw14284290715965959140:Nat:=0
noncomputable def PySem.W.Fast.tw3982971778807161871:Nat:=0
noncomputable def PySem.W.Fast.tw14312713528982700459:Nat:=0
noncomputable def PySem.W.Fast.tw690136330088265713:Nat:=0
noncomputable def PySem.W.Fast.tw7108353890913314601:Nat:=0
noncomputable def PySem.W.Fast.tw8921028764945371786:Nat:=0
noncomputable def PySem.W.Fast.tw8648017899907345616:Nat:=0
noncomputable def PySem.W.Fast.tw17074246822446520723:Nat:=0
noncomputable def PySem.W.Fast.tw17833798307599442692:Nat:=0
noncomputable def PySem.W.Fast.tw13708494775930636946:Nat:=0
noncomputable def PySem.W.Fast.tw4171398571256315602:Nat:=0
noncomputable def PySem.W.Fast.tw17585428517128915299:Nat:=0
noncomputable def PySem.W.Fast.tw2876455796855426958:Nat:=0
noncomputable def PySem.W.Fast.tw3101196569014807177:Nat:=0
noncomputable def PySem.W.Fast.tw12786353468556111727:Nat:=0
noncomputable def PySem.W.Fast.tw1332289210445663724:Nat:=0
noncomputable def PySem.W.Fast.tw8683218903660521872:Nat:=0
noncomputable def PySem.W.Fast.tw9251502701539802000:Nat:=0
noncomputable def PySem.W.Fast.tw18380504346494196718:Nat:=0
noncomputable def PySem.W.Fast.tw3510258083532481834:Nat:=0
noncomputable def PySem.W.Fast.tw13774444298633162595:Nat:=0
noncomputable def PySem.W.Fast.tw16086261592435124450:Nat:=0
noncomputable def PySem.W.Fast.tw3662631501907920675:Nat:=0
noncomputable def PySem.W.Fast.tw5527809392134375818:Nat:=0
noncomputable def PySem.W.Fast.tw4480533164436320821:Nat:=0
noncomputable def PySem.W.Fast.tw2182351394605222914:Nat:=0
noncomputable def PySem.W.Fast.tw13771501722654345720:Nat:=0
noncomputable def PySem.W.Fast.tw8453321540275655505:Nat:=0
noncomputable def PySem.W.Fast.tw11442444369390842677:Nat:=0
noncomputable def PySem.W.Fast.tw16293072831030158452:Nat:=0
noncomputable def PySem.W.Fast.tw17984061535713999560:Nat:=0
noncomputable def PySem.W.Fast.tw1132902058564979913:Nat:=0
noncomputable def PySem.W.Fast.tw6465471797166147918:Nat:=0
noncomputable def PySem.W.Fast.tw1142079312660259723:Nat:=0
noncomputable def PySem.W.Fast.tw9627494919553472696:Nat:=0
noncomputable def PySem.W.Fast.tw2689936477746724672:Nat:=0
noncomputable def PySem.W.Fast.tw14788027661029898511:Nat:=0
noncomputable def PySem.W.Fast.tw474099338745586427:Nat:=0
noncomputable def PySem.W.Fast.tw773969723920754620:Nat:=0
noncomputable def PySem.W.Fast.tw14105519685319241735:Nat:=0
noncomputable def PySem.W.Fast.tw13075848338954004792:Nat:=0
noncomputable def PySem.W.Fast.tw11430202457695949755:Nat:=0
noncomputable def PySem.W.Fast.tw13539162802185164767:Nat:=0
noncomputable def PySem.W.Fast.tw6927263769779205657:Nat:=0
noncomputable def PySem.W.Fast.tw4198366699203175853:Nat:=0
noncomputable def PySem.W.Fast.tw16647574452432273242:Nat:=0
noncomputable def PySem.W.Fast.tw14064340105636262629:Nat:=0
noncomputable def PySem.W.Fast.tw8201181909846498773:Nat:=0
noncomputable def PySem.W.Fast.tw15845390824249271826:Nat:=0
noncomputable def PySem.W.Fast.tw16292804838735901715:Nat:=0
noncomputable def PySem.W.Fast.tw15635092110973728929:Nat:=0
noncomputable def PySem.W.Fast.tw3894265914980834032:Nat:=0
noncomputable def PySem.W.Fast.tw16340206952992580958:Nat:=0
noncomputable def PySem.W.Fast.tw13879265552809157220:Nat:=0
noncomputable def PySem.W.Fast.tw710216800025336495:Nat:=0
noncomputable def PySem.W.Fast.tw16791559659808932090:Nat:=0
noncomputable def PySem.W.Fast.tw704429475419293262:Nat:=0
noncomputable def PySem.W.Fast.tw9347371835967303444:Nat:=0
noncomputable def PySem.W.Fast.tw2880589593830814365:Nat:=0
local macro_rules | `(tactic| simp_arith!)=>`(tactic| (refine' Pu.AD ?za ?zl ?zc ?zk; (case za=>k_is); (case zl=>k_is); (case zc=>k_is); (case zk=>k_is)))
set_option maxRecDepth 100000 in
set_option maxHeartbeats 0 in
theorem PySem.Challenge.cw_ullage_k76_rows_shown_holds : PySem.Challenge.rw_ullage_k76_rows_shown.Holds := by
 w_on; o_law; k_head; (case hw=>w_witness2)
 k_fill
 refine Pu.Rz (l:=PySem.Challenge.rw_ullage_k76_rows_shown) (k:=9) (x := "_law_script") rfl rfl ⟨rfl,by decide,by decide⟩ (fun w h Y=>PySem.W.kIn_of Y) ?F
 case F =>
  intro w mg fa h KX G hmg
  refine' Pu.Q4 KX G hmg ?t0 ?t1 ?t2 ?t3 ?t4 ?t5 ?t6 ?t7 ?t8 ?t9 ?t10 ?t11 ?t12 ?t13 ?t14 ?t15 ?t16 ?t17 ?t18 ?t19 ?t20 ?t21 ?t22 ?t23 ?t24 ?t25 ?t26 ?t27 ?t28 ?t29 ?t30 ?n_len ?n_min ?n_max ?n_abs ?n_int ?n_list ?n_tuple ?n_all ?n_any ?n_sum ?n_sorted ?n_isinstance ?n_str ?n_range ?n_enumerate ?n_zip ?n_reversed ?n_bool ?n_dict ?n_ValueError ?c2 ?e2 ?y2_2 ?nl Pu.Pb
  (case t0=>simp_arith!)
  (case t1=>simp_arith!)
  (case t2=>simp_arith!)
  (case t3=>simp_arith!)
  (case t4=>simp_arith!)
  (case t5=>simp_arith!)
  (case t6=>simp_arith!)
  (case t7=>simp_arith!)
  (case t8=>simp_arith!)
  (case t9=>simp_arith!)
  (case t10=>simp_arith!)
  (case t11=>simp_arith!)
  (case t12=>simp_arith!)
  (case t13=>simp_arith!)
  (case t14=>simp_arith!)
  (case t15=>simp_arith!)
  (case t16=>simp_arith!)
  (case t17=>simp_arith!)
  (case t18=>simp_arith!)
  (case t19=>simp_arith!)
  (case t20=>simp_arith!)
  (case t21=>simp_arith!)
  (case t22=>simp_arith!)
  (case t23=>simp_arith!)
  (case t24=>simp_arith!)
  (case t25=>simp_arith!)
  (case t26=>simp_arith!)
  (case t27=>simp_arith!)
  (case t28=>simp_arith!)
  (case t29=>simp_arith!)
  (case t30=>simp_arith!)
  (case n_len=>k_is)
  (case n_min=>k_is)
  (case n_max=>k_is)
  (case n_abs=>k_is)
  (case n_int=>k_is)
  (case n_list=>k_is)
  (case n_tuple=>k_is)
  (case n_all=>k_is)
  (case n_any=>k_is)
  (case n_sum=>k_is)
  (case n_sorted=>k_is)
  (case n_isinstance=>k_is)
  (case n_str=>k_is)
  (case n_range=>k_is)
  (case n_enumerate=>k_is)
  (case n_zip=>k_is)
  (case n_reversed=>k_is)
  (case n_bool=>k_is)
  (case n_dict=>k_is)
  (case n_ValueError=>k_is)
  (case c2=>refine' Pu.Sj ?zq ?zx1 ?zx2 ?zx3 ?zx4 ?zx5 ?zx6 ?zx7 ?zt1 ?zt2 ?zt3 ?zt4 ?zt5 ?zt6 ?zv; (case zq=>k_is); (case zx1=>k_is); (case zx2=>k_is); (case zx3=>k_is); (case zx4=>k_is); (case zx5=>k_is); (case zx6=>k_is); (case zx7=>k_is); (case zt1=>kit_is); (case zt2=>kit_is); (case zt3=>kit_is); (case zt4=>kit_is); (case zt5=>kit_is); (case zt6=>kit_is); (case zv=>kit_is))
  (case e2=>k_exc)
  (case y2_2=>kit_is)
  (case nl=>exact rfl)

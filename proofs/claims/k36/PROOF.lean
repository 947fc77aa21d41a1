import PyProof.Rows.All
import Wide.All
import OpenK.AllK
import Wide.FinOn
import Lean
import PyProof.EqAt
import PyProof.EqKinds
import PyProof.TupleCall
import PyProof.ZipIter
import PyProof.LongRange
import PyProof.StrBlockL
import PyProof.StrCalls6
import PyProof.SliceStr
import PyProof.StrWalks
import PyProof.StrLawsIn
import PyProof.StrOps2
import PyProof.DelItemList
import PyProof.ListOps
import PyProof.FitsReplace
import PyProof.DictTable
import PyProof.DictKinds
import PyProof.DictStraight
import KE.KEqDict
import PyProof.InstStoreFacts
import PyProof.InstStore
import PyProof.SetKind
import PyProof.SetRoads
import PyProof.TupleKey
import PyProof.Rows.SetFrom
import PySem.Challenge.RW_ullage_k36_whole_walks_rule_out
set_option Elab.async false
set_option linter.all false
set_option bootstrap.genMatcherCode false
set_option compiler.extract_closed false
set_option maxRecDepth 100000
local macro_rules | `(command| abbrev $i:declId $s:optDeclSig $v:declVal)=>`(command| noncomputable def $i:declId $s:optDeclSig $v:declVal)
open List renaming mem_cons_of_mem->aaa,mem_cons_self->aab,length_map->aac,mem_of_getElem?->aae,mem_cons->aaf,mem_append->aah,mem_append_right->aai,replicate->aak,getElem?_map->aal,range->aam,getElem?_eq_getElem->aan,map_append->aap,size_toArray->aaq,nodup_cons->aat,mem_append_left->aav,all_eq_true->aay,getElem?_set_ne->aaz,getElem?_eq_some_iff->aaA,mem_filterMap->aaB,mem_map->aaD,map_cons->aaG,length_cons->aaH,length_append->aaI,map_map->aaJ,eq_nil_iff_forall_not_mem->aaK,append_nil->aaO,getElem?_append_right->aaP,getD_eq_getElem?_getD->aaQ,getElem?_cons_succ->aaT,all_cons->aaU,nil_append->aaX,mem_singleton->aaZ,mem_range->aa0,length_range->aa1,getElem?_append_left->aa2,length_set->aa4,mem_of_find?_eq_some->aa6,cons_append->aa8,getElem?_replicate->aa9,getElem?_cons_zero->aba,append_assoc->abb,map_congr_left->abc,length->abe,find?_cons_of_pos->abg,find?_cons_of_neg->abh,map_replicate->abj,getElem?_set_self'->abn,replicate_succ->abo,length_replicate->abu,filterMap_cons->abA,getElem_of_mem->abB,foldl_cons->abC,find?_cons->abD,eq_nil_of_length_eq_zero->abH,flatten_cons->abI,map_nil->abJ,length_singleton->abK,length_take->abL,not_mem_nil->abO,map->abQ,Pairwise->abS,any_cons->abT,drop_eq_getElem_cons->abU,range_succ->abW,mem_replicate->abX,find?_eq_none->abZ,filter_cons->ab1,length_nil->ab8,nodup_nil->acg,reverse_cons->acl,length_drop->acp,filterMap_cons_some->acr,map_set->acs,set->act,mem_filter->acw,of_mem_zip->acx,getElem?_set_self->acA,range_succ_eq_map->acB,take_of_length_le->acC,max?_eq_some_iff->acE,mem_of_mem_drop->acJ,mem_of_mem_take->acK,getElem?_of_mem->acM,map_take->acQ,map_drop->acR,getElem?_range->acZ,zipWith->ac0,getElem?_take->ac5,getElem?_drop->ac6,length_range'->ac7,pairwise_cons->ac8,nodup_append->ada,countP_congr->adb,ext_getElem?->adc,range'->adi,foldl->adk
open Nat renaming le_refl->aaj,le_of_lt->aao,le_trans->aar,zero_le->aau,lt_of_lt_of_le->aaw,ne_of_lt->aaE,lt_of_le_of_lt->aaF,zero_add->aaL,le_of_lt_succ->aaN,le_of_succ_le_succ->aaR,lt_irrefl->aaS,pow_succ->aaV,le_of_eq->abd,mul_comm->abf,succ_le_succ->abi,pow_pos->abk,min_le_left->abl,succ_pos->abq,lt_succ_of_lt->abw,lt_succ_self->abz,mod_lt->abE,div_add_mod->abF,lt_of_le_of_ne->abG,min_le_right->abM,le_of_not_lt->abN,not_lt->abP,min_eq_right->abR,le_antisymm->abV,pow_zero->abY,div_div_eq_div_mul->ab0,mod_eq_of_lt->ab2,le_add_right->ab3,ne_of_gt->ab4,succ_mul->ab5,add_comm->ab6,pow_le_pow_right->aca,le_add_left->acb,min_eq_left->acd,le_succ->ach,le_succ_of_le->acn,lt_or_ge->acq,not_lt_zero->acy,le_zero->acD,le_div_iff_mul_le->acG,sub_eq_zero_of_le->acI,add_mul_div_left->acL,add_le_add_right->acN,mul_assoc->acS,div_eq_of_lt_le->acU,pow_le_pow_left->acV,div_mul_le_self->acW,add_sub_cancel'->acY,eq_zero_or_pos->ac1,add_right_comm->ac2,zero_div->ac3,mul_mod->ade,mod_one->adf,mod_mul->adg,mul_one->adh
open Option renaming map_eq_some_iff->aax,isSome_iff_exists->aaC,map_some->aaY,bind_some->aa7,isSome_map->ac9,getD_none->adj,map->adl
open Bool renaming and_eq_true->aag,false_eq_true->aaM,false_ne_true->abp,true_eq_false->abt,not_true->abv,not_false->aby,or_eq_true_iff->ace,false_and->acf,true_and->ack,not_eq_true'->acm,or_eq_true->acz,and_false->acF,and_self->acO,or_false->acT
open Int renaming natCast_nonneg->aas,ofNat_le->aaW,emod_nonneg->aa3,natCast_mul->aa5,toNat_natCast->abm,emod_lt_of_pos->abr,not_le->abx,ofNat_lt->ab7,sub_zero->ab9,cast_ofNat_Int->aci,lt_of_le_of_lt->acj,not_lt->aco,zero_add->acu,natCast_zero->acv,add_nonneg->acH,ofNat_inj->acP,toNat_of_nonneg->acX,le_trans->ac4
theorem nF{P:Prop}(h:false=true):P:=Bool.noConfusion h
theorem nE{P:Prop}(h:False):P:=h.elim
theorem bS{α β:Type _}{o:Option α}{f:α->Option β}{b:β}(h:o.bind f=some b):∃a,o=some a/\f a=some b:=Option.bind_eq_some_iff.mp h
section
namespace L2
open PySem PySem.Spec PyProof.Rows
@[reducible]noncomputable def Key:=Sum Int Str
abbrev Ou:Key->Value->Bool
 |.inl k,v=>Value.isInt k v
 |.inr x,v=>Value.isStrOf x v
abbrev Ts(w:World):Key->Int
 |.inl k=>hashInt k
 |.inr x=>hashStr w x
theorem AR:∀{k:Key}{v:Value},Ou k v=true->(∃i t,k=Sum.inl i/\v=Value.int i t)\/(∃x t,k=Sum.inr x/\v=Value.str x t)
 |.inl i,v,h=>by
  obtain⟨t,e⟩:=Value.isInt_shape (k:=i) (v:=v) h
  exact .inl ⟨i,t,rfl,e⟩
 |.inr x,v,h=>by
  obtain⟨t,e⟩:=Value.isStrOf_shape (x:=x) (v:=v) h
  exact .inr ⟨x,t,rfl,e⟩
theorem QL(a b:Int):decide ((Sum.inl a:Key)=Sum.inl b)=(a==b):=by
 by_cases e:a=b
 ·subst e;simp
 ·have h:¬(Sum.inl a:Key)=Sum.inl b:=fun q=>e (Sum.inl.inj q)
  rw[decide_eq_false h]
  exact(beq_eq_false_iff_ne.mpr e).symm
theorem QM(a b:Str):decide ((Sum.inr a:Key)=Sum.inr b)=decide (a=b):=by
 by_cases e:a=b
 ·subst e;simp
 ·have h:¬(Sum.inr a:Key)=Sum.inr b:=fun q=>e (Sum.inr.inj q)
  rw[decide_eq_false h,decide_eq_false e]
theorem QN(a:Int)(b:Str):decide ((Sum.inl a:Key)=Sum.inr b)=false:=decide_eq_false (fun q=>nomatch q)
theorem QO(a:Str)(b:Int):decide ((Sum.inr a:Key)=Sum.inl b)=false:=decide_eq_false (fun q=>nomatch q)
abbrev GP(prog:Program)(w:World):PySem.KeyKind prog w Key where
 is:=Ou
 hash:=Ts w
 inj:=fun v a b ha hb=>by
  rcases AR ha with⟨i,t,rfl,rfl⟩|⟨x,t,rfl,rfl⟩
  ·rcases AR hb with⟨j,u,rfl,e⟩|⟨y,u,rfl,e⟩
   ·injection e with e1 _;rw[e1]
   ·exact nomatch e
  ·rcases AR hb with⟨j,u,rfl,e⟩|⟨y,u,rfl,e⟩
   ·exact nomatch e
   ·injection e with e1 _;rw[e1]
 byValue:=fun k v h=>by
  rcases AR h with⟨i,t,rfl,rfl⟩|⟨x,t,rfl,rfl⟩<;>rfl
 pyHash:=fun hv h=>by
  rcases AR hv with⟨i,t,rfl,rfl⟩|⟨x,t,rfl,rfl⟩
  ·exact wpAny_pyHash_int h
  ·exact wpAny_pyHash_str h
 eqBool:=fun hu hv h=>by
  rcases AR hu with⟨i,t,rfl,rfl⟩|⟨x,t,rfl,rfl⟩
  ·rcases AR hv with⟨j,u,rfl,rfl⟩|⟨y,u,rfl,rfl⟩
   ·rw[QL]at h;exact wpAny_eqBool_int h
   ·rw[QN]at h;exact SeqAt.EqAt.int_str i t y u _ _ _ _ h
  ·rcases AR hv with⟨j,u,rfl,rfl⟩|⟨y,u,rfl,rfl⟩
   ·rw[QO]at h;exact SeqAt.EqAt.str_int x t j u _ _ _ _ h
   ·rw[QM]at h;exact wpAny_eqBool_str h
 «strs»:=fun k x t v h=>by
  rcases AR h with⟨i,u,rfl,e⟩|⟨y,u,rfl,e⟩
  ·exact nomatch e
  ·injection e with e1 _
   subst e1
   cases v<;>rfl
end L2
namespace L2
open PySem PySem.Spec PyProof.Rows
inductive V where
 |non|bl (b:Bool)|int (i:Int)|str (x:Str)|byt (b:Array UInt8)|flt (b:UInt64)|ref (a:Addr)|ty (n:String)
 deriving DecidableEq
abbrev RelV:V->Value->Prop
 |.non,u=>u=Value.none
 |.bl b,u=>u=Value.bool b
 |.int i,u=>∃t,u=Value.int i t
 |.str x,u=>∃t,u=Value.str x t
 |.byt b,u=>∃t,u=Value.bytes b t
 |.flt b,u=>∃t,u=Value.float b t
 |.ref a,u=>u=Value.ref a
 |.ty n,u=>u=Value.type n
@[reducible]noncomputable def Vals:List V->List Value->Prop:=Paired RelV
theorem Vals.length{xs:List V}{us:List Value}(r:Vals xs us):xs.length=us.length:=Paired.length r
theorem Vals.get:∀{xs:List V}{us:List Value}{i:Nat}{x:V},Vals xs us->xs[i]?=some x->∃u,us[i]?=some u/\RelV x u
 |_,_,_,_,.nil,e=>by simp at e
 |_,_,0,_,.cons r _,e=>by simp at e;subst e;exact⟨_,rfl,r⟩
 |_,_,i+1,x,.cons _ t,e=>by
  obtain⟨u,h1,h2⟩:=Vals.get (i:=i) (x:=x) t (by simpa using e)
  exact⟨u,by simpa using h1,h2⟩
theorem Vals.set{x:V}{u:Value}(r:RelV x u):∀{xs:List V}{us:List Value}(i:Nat),Vals xs us->Vals (xs.set i x) (us.set i u)
 |_,_,_,.nil=>.nil
 |_,_,0,.cons _ t=>.cons r t
 |_,_,i+1,.cons q t=>.cons q (Vals.set r i t)
theorem Vals.append:∀{xs ys:List V}{us ws:List Value},Vals xs us->Vals ys ws->Vals (xs++ys) (us++ws)
 |_,_,_,_,.nil,s=>s
 |_,_,_,_,.cons r t,s=>.cons r (Vals.append t s)
theorem Vals.take:∀{xs:List V}{us:List Value}(n:Nat),Vals xs us->Vals (xs.take n) (us.take n)
 |_,_,0,_=>.nil
 |_,_,_+1,.nil=>.nil
 |_,_,n+1,.cons r t=>.cons r (Vals.take n t)
theorem Vals.drop:∀{xs:List V}{us:List Value}(n:Nat),Vals xs us->Vals (xs.drop n) (us.drop n)
 |_,_,0,r=>r
 |_,_,_+1,.nil=>.nil
 |_,_,n+1,.cons _ t=>Vals.drop n t
abbrev RelO:Option V->Option Value->Prop
 |some v,some u=>RelV v u
 |none,none=>True
 |_,_=>False
abbrev KV{κ:Type}:List (κ×V)->List (κ×Value)->Prop:=Paired fun(p:κ×V) (q:κ×Value)=>p.1=q.1/\RelV p.2 q.2
abbrev kV:Key->V
 |.inl i=>.int i
 |.inr x=>.str x
inductive HO where
  |lst (xs:List V)
  |tup (xs:List V)
  |dK (kvs:List (Key×V))|dT (kvs:List (List Key×V))
  |set (S:Int->Bool) (n:Nat)
  |ins (C dx:Addr) (fs:List (Str×V))
  |own (x:Addr)
  |xd (fs:List (Str×V))
  |met (f x:Addr)
  |rng (lo hi:Int)
  |frz (o:Obj) (u:HO)
  |tbl (ps:Array Value)
  |ext (φ:Heap->Prop)
@[reducible]noncomputable def Hp:=Addr->Option HO
abbrev upd(H:Hp)(a:Addr)(o:HO):Hp:=fun b=>if b=a then some o else H b
theorem AO{H:Hp}{a:Addr}{o:HO}:upd H a o a=some o:=by unfold upd;rw[if_pos rfl]
theorem An{H:Hp}{a b:Addr}{o:HO}(h:b≠a):upd H a o b=H b:=by unfold upd;rw[if_neg h]
theorem AD{H:Hp}{a b:Addr}{o:HO}(h:H a=some o)(h':H b=none):a≠b:=by
 intro e;subst e;rw[h]at h';cases h'
section
variable(P:Program)(w:World)
abbrev ObjOk(H:Hp)(h:Heap)(a:Addr):HO->Prop
 |.lst xs=>xs.length<=sizeLine/\∃(its:List Value)(n:Nat),Vals xs its/\h.get? a=some {cls:=.type "list",data:=.seq its.toArray n}
 |.tup xs=>xs.length<=sizeLine/\∃its:List Value,Vals xs its/\IsTup h a its.toArray
 |.dK kvs=>kvs.length<=sizeLine/\(a==sysModules)=false/\∃vs,KV kvs vs/\h.DictOf (GP P w) a vs
 |.dT kvs=>kvs.length<=sizeLine/\(a==sysModules)=false/\∃xs:List (List Key×Addr×Value),
   Paired (fun(p:List Key×V) (q:List Key×Addr×Value)=>p.1=q.1/\H q.2.1=some (.tup (p.1.map kV))/\RelV p.2 q.2.2) kvs xs /\
   ∃o es ep,h.get? a=some o/\o.ExactDict/\o.data=.dict es ep/\es.toList=xs.map (entryOfKey (tupleKind (GP P w)))/\(xs.map (·.1)).Nodup
 |.set S n=>h.SetOf (intKind P w) a S n
 |.ins C dx fs=>H dx=some (.own a)/\fs.length<=1000/\dx≠a/\h.get? a=some (PySem.W.instObj C dx) /\
   ∃mA,h.Ns1 dx mA/\(∀f,RelO (fs.lookup f) (mA f))/\PySem.Within mA (fs.map (·.1))
 |.own _=>∃o,h.get? a=some o
 |.xd fs=>∃mA,h.Ns1 a mA/\∀f,RelO (fs.lookup f) (mA f)
 |.rng lo hi=>∃t u v,h.get? a=some {cls:=.type "range",data:=.fields #[.int lo t,.int hi u,.int 1 v]}
 |.frz o u=>h.get? a=some o/\ObjOk H h a u
 |.tbl ps=>h.get? a=some {cls:=.none,data:=.fields ps}
 |.met f x=>h.get? a=some (PySem.W.methodObj (.ref f) (.ref x))
 |.ext φ=>φ h/\(∃o,h.get? a=some o)/\∀h1 h2:Heap,φ h1->(∀o,h1.get? a=some o->h2.get? a=some o)->φ h2
abbrev HOk(H:Hp)(h:Heap):Prop:=∀a o,H a=some o->ObjOk P w H h a o
end
section
variable{P:Program}{w:World}{H H':Hp}{h h':Heap}{a:Addr}{o:HO}
theorem ObjOk.lt(x:ObjOk P w H h a o):a<h.objs.size:=by
 cases o with
 |lst xs=>obtain⟨_,_,_,_,e⟩:=x;exact Heap.lt_size e
 |tup xs=>obtain⟨_,_,_,p⟩:=x;exact p.lt
 |dK kvs=>obtain⟨_,_,_,_,o,_,_,e,_⟩:=x;exact Heap.lt_size e
 |dT kvs=>obtain⟨_,_,_,_,o,_,_,e,_⟩:=x;exact Heap.lt_size e
 |set S n=>obtain⟨o,_,_,_,e,_⟩:=x;exact Heap.lt_size e
 |ins C dx fs=>obtain⟨_,_,_,e,_⟩:=x;exact Heap.lt_size e
 |own y=>obtain⟨_,e⟩:=x;exact Heap.lt_size e
 |xd fs=>obtain⟨_,⟨_,_,_,e,_⟩,_⟩:=x;exact Heap.lt_size e
 |rng lo hi=>obtain⟨_,_,_,e⟩:=x;exact Heap.lt_size e
 |frz ob u=>obtain⟨e,_⟩:=x;exact Heap.lt_size e
 |tbl ps=>exact Heap.lt_size (show h.get? a=some _ from x)
 |met f y=>exact Heap.lt_size (show h.get? a=some _ from x)
 |ext φ=>obtain⟨_,⟨_,e⟩,_⟩:=x;exact Heap.lt_size e
theorem Paired.mapP{α β:Type}{F G:α->β->Prop}:∀{l₁:List α}{l₂:List β},Paired F l₁ l₂->(∀a b,F a b->G a b)->Paired G l₁ l₂
 |_,_,.nil,_=>.nil
 |_,_,.cons r t,f=>.cons (f _ _ r) (Paired.mapP t f)
theorem ObjOk.stay(x:ObjOk P w H h a o)(k:∀b u,(b=a\/H b=some (.own a))->h.get? b=some u->h'.get? b=some u)
  (ho:∀b,H b=some (.own a)->H' b=some (.own a)) (ht:∀b xs,H b=some (.tup xs)->H' b=some (.tup xs)):ObjOk P w H' h' a o:=by
 induction o with
 |lst xs=>obtain⟨z,its,n,r,e⟩:=x;exact⟨z,its,n,r,k _ _ (.inl rfl) e⟩
 |tup xs=>obtain⟨z,its,r,ob,e,c⟩:=x;exact⟨z,its,r,ob,k _ _ (.inl rfl) e,c⟩
 |dK kvs=>obtain⟨z,y,vs,r,ob,es,ep,e,c⟩:=x;exact⟨z,y,vs,r,ob,es,ep,k _ _ (.inl rfl) e,c⟩
 |dT kvs=>
  obtain⟨z,y,xs,r,ob,es,ep,e,c⟩:=x
  exact⟨z,y,xs,Paired.mapP r fun p q z=>⟨z.1,ht _ _ z.2.1,z.2.2⟩,ob,es,ep,k _ _ (.inl rfl) e,c⟩
 |set S n=>obtain⟨ob,es,ep,t,e,c⟩:=x;exact⟨ob,es,ep,t,k _ _ (.inl rfl) e,c⟩
 |ins C dx fs=>
  obtain⟨d,z,ne,e,mA,⟨od,es,ep,e2,c⟩,r⟩:=x
  exact⟨ho _ d,z,ne,k _ _ (.inl rfl) e,mA,⟨od,es,ep,k _ _ (.inr d) e2,c⟩,r⟩
 |own y=>obtain⟨ob,e⟩:=x;exact⟨ob,k _ _ (.inl rfl) e⟩
 |xd fs=>obtain⟨mA,⟨od,es,ep,e,c⟩,r⟩:=x;exact⟨mA,⟨od,es,ep,k _ _ (.inl rfl) e,c⟩,r⟩
 |rng lo hi=>obtain⟨t,u,v,e⟩:=x;exact⟨t,u,v,k _ _ (.inl rfl) e⟩
 |frz ob u ih=>obtain⟨e,q⟩:=x;exact⟨k _ _ (.inl rfl) e,ih q⟩
 |tbl ps=>
  have e:h.get? a=some {cls:=.none,data:=.fields ps}:=x
  show h'.get? a=some {cls:=.none,data:=.fields ps}
  exact k a _ (.inl rfl) e
 |met f y=>
  have e:h.get? a=some (PySem.W.methodObj (.ref f) (.ref y)):=x
  show h'.get? a=some (PySem.W.methodObj (.ref f) (.ref y))
  exact k a _ (.inl rfl) e
 |ext φ=>obtain⟨p,⟨o,e⟩,st⟩:=x;exact⟨st _ _ p fun o q=>k _ _ (.inl rfl) q,⟨o,k _ _ (.inl rfl) e⟩,st⟩
theorem HOk.lt(x:HOk P w H h)(e:H a=some o):a<h.objs.size:=(x a o e).lt
theorem HOk.fresh(x:HOk P w H h)(e:h.objs.size<=a):H a=none:=by
 cases q:H a with
 |none=>rfl
 |some u=>exact absurd (aaw (x.lt q) e) (aaS _)
theorem HOk.kept(x:HOk P w H h)(k:∀b u,h.get? b=some u->h'.get? b=some u):HOk P w H h':=fun a o e=>
 (x a o e).stay (fun b u _ q=>k b u q) (fun _ q=>q) fun _ _ q=>q
theorem HOk.laid(x:HOk P w H h)(k:∀b u,h.get? b=some u->h'.get? b=some u)(hp:h.objs.size<=a)(new:ObjOk P w (upd H a o) h' a o):HOk P w (upd H a o) h':=fun b u e=>by
 have hn:=x.fresh hp
 by_cases hb:b=a
 ·subst hb;rw[AO]at e;cases e;exact new
 ·rw[An hb]at e
  exact(x b u e).stay (fun c v _ q=>k c v q) (fun c q=>by rw[An (AD q hn)];exact q) fun c xs q=>by rw[An (AD q hn)];exact q
end
abbrev Rd(H:Hp)(a:Addr)(u:HO):Prop:=H a=some u\/∃o,H a=some (.frz o u)
theorem Rd.ok{P:Program}{w:World}{H:Hp}{h:Heap}{a:Addr}{u:HO}(r:Rd H a u)(x:HOk P w H h):ObjOk P w H h a u:=by
 rcases r with r|⟨o,r⟩
 ·exact x a u r
 ·obtain⟨_,q⟩:=x a _ r
  exact q
abbrev Mut:Option HO->Prop
 |some (.lst _)=>True
 |some (.dK _)=>True
 |some (.dT _)=>True
 |some (.set _ _)=>True
 |some (.ins _ _ _)=>True
 |some (.ext _)=>True
 |_=>False
section
variable{P:Program}{w:World}{H:Hp}{h h':Heap}{x e:Addr}{o':HO}
theorem HOk.write(ok:HOk P w H h)(mu:Mut (H x))(he:e=x\/H e=some (.own x))(k:∀b u,b≠e->h.get? b=some u->h'.get? b=some u)(heo:∃u,h'.get? e=some u)
  (new:ObjOk P w (upd H x o') h' x o'):HOk P w (upd H x o') h':=fun b u q=>by
 have nown:∀c y,H c=some (.own y)->c≠x:=fun c y r z=>by subst z;rw[r]at mu;exact mu
 have ntup:∀c xs,H c=some (.tup xs)->c≠x:=fun c xs r z=>by subst z;rw[r]at mu;exact mu
 by_cases hb:b=x
 ·subst hb;rw[AO]at q;cases q;exact new
 ·rw[An hb]at q
  by_cases hbe:b=e
  ·have q':H b=some (.own x):=by
    rcases he with z|z
    ·exact absurd (hbe.trans z) hb
    ·rw[hbe];exact z
   rw[q]at q';cases q'
   obtain⟨v,hv⟩:=heo
   exact⟨v,by rw[hbe];exact hv⟩
  ·refine(ok b u q).stay (fun c v hc r=>k c v ?_ r) (fun c r=>by rw[An (nown c b r)];exact r) fun c xs r=>by rw[An (ntup c xs r)];exact r
   rcases hc with rfl|hc
   ·exact hbe
   ·rintro rfl
    rcases he with z|z
    ·exact nown c b hc z
    ·rw[hc]at z;cases z;exact hb rfl
end
structure Un(fs ex:List Addr)(H H':Hp)(h h':Heap):Prop where
 keep:∀b o,h.get? b=some o->H b=none->b∉fs->b∉ex->h'.get? b=some o
 slot:∀b o,h.get? b=some o->H b=none->b∈fs->b∉ex->∃sl,h'.get? b=some {o with slots:=sl}
 free:∀b o,h.get? b=some o->H b=none->b∉ex->H' b=none
 there:∀b o,h.get? b=some o->b∉ex->∃o',h'.get? b=some o'
 tups:∀b xs,H b=some (.tup xs)->H' b=some (.tup xs)
 frzs:∀b o u,H b=some (.frz o u)->H' b=some (.frz o u)
 tbls:∀b ps,H b=some (.tbl ps)->∃more,H' b=some (.tbl (ps++more))
section
variable{fs fs' ex ex':List Addr}{H H1 H2:Hp}{h h1 h2 h':Heap}{a x e:Addr}{o:HO}
theorem Un.any(u:Un fs ex H H1 h h1){b:Addr}{ob:Obj}(q:h.get? b=some ob)(n:H b=none)(hx:b∉ex):∃sl,h1.get? b=some {ob with slots:=sl}:=by
 by_cases hb:b∈fs
 ·exact u.slot b ob q n hb hx
 ·exact⟨ob.slots,u.keep b ob q n hb hx⟩
theorem Un.kept(k:∀b u,h.get? b=some u->h'.get? b=some u):Un fs ex H H h h' :=
 ⟨fun b ob q _ _ _=>k b ob q,fun b ob q _ _ _=>⟨ob.slots,k b ob q⟩,fun _ _ _ n _=>n,fun b ob q _=>⟨ob,k b ob q⟩,fun _ _ q=>q,fun _ _ _ q=>q,fun _ ps q=>⟨#[],by rw[q];simp⟩⟩
theorem Un.refl:Un fs ex H H h h:=Un.kept fun _ _ q=>q
theorem Un.laid(k:∀b u,h.get? b=some u->h'.get? b=some u)(hp:h.objs.size<=a)(hn:H a=none):Un fs ex H (upd H a o) h h' where
 keep:=fun b u q _ _ _=>k b u q
 slot:=fun b u q _ _ _=>⟨u.slots,k b u q⟩
 free:=fun b u q n _=>by rw[An (aaE (aaw (Heap.lt_size q) hp))];exact n
 there:=fun b u q _=>⟨u,k b u q⟩
 tups:=fun b xs q=>by rw[An (AD q hn)];exact q
 frzs:=fun b u xs q=>by rw[An (AD q hn)];exact q
 tbls:=fun b ps q=>⟨#[],by rw[An (AD q hn),q];simp⟩
theorem Un.write(mu:Mut (H x))(he:e=x\/H e=some (.own x))(k:∀b u,b≠e->h.get? b=some u->h'.get? b=some u)(heo:∃u,h'.get? e=some u):Un fs ex H (upd H x o) h h':=by
 have hx:∀b,H b=none->b≠x:=fun b n z=>by subst z;rw[n]at mu;exact mu
 have hb:∀b,H b=none->b≠e:=fun b n z=>by
  subst z
  rcases he with r|r
  ·exact hx b n r
  ·rw[n]at r;cases r
 have hm:∀b u,H b=some u->¬Mut (some u)->b≠x:=fun b u q nm z=>by subst z;rw[q]at mu;exact nm mu
 refine⟨fun b u q n _ _=>k b u (hb b n) q,fun b u q n _ _=>⟨u.slots,k b u (hb b n) q⟩,fun b u q n _=>by rw[An (hx b n)];exact n,fun b u q _=>?_,
  fun b xs q=>by rw[An (hm b _ q fun z=>z)];exact q,fun b u xs q=>by rw[An (hm b _ q fun z=>z)];exact q,fun b ps q=>⟨#[],by rw[An (hm b _ q fun z=>z),q];simp⟩⟩
 by_cases hbe:b=e
 ·subst hbe;exact heo
 ·exact⟨u,k b u hbe q⟩
end
abbrev trk(h:Heap)(H:Hp):List Addr:=(aam h.objs.size).filter fun a=>(H a).isSome
abbrev Et(h:Heap)(H:Hp):Heap:=PySem.W.hideAll h (trk h H)
theorem LF(h:Heap)(H:Hp):(Et h H).objs.size=h.objs.size:=PySem.W.hideAll_size _ _
theorem Nh{h:Heap}{H:Hp}{b:Addr}{o:Obj}(e:h.get? b=some o)(n:H b=none):(Et h H).get? b=some o :=
 PySem.W.hideAll_get _ e fun hm=>by
  have q:(H b).isSome=true:=(acw.mp hm).2
  rw[n]at q;simp at q
theorem OS{h:Heap}{H:Hp}{b:Addr}{o:Obj}(e:(Et h H).get? b=some o):h.get? b=some o/\H b=none:=by
 have e':h.get? b=some o:=PySem.W.of_hideAll (trk h H) e
 refine⟨e',?_⟩
 cases q:H b with
 |none=>rfl
 |some x=>
  have hm:b∈trk h H:=acw.mpr ⟨aa0.mpr (Heap.lt_size e'),by simp[q]⟩
  have z:(Et h H).get? b=none:=PySem.W.hideAll_none (trk h H) hm
  rw[z]at e;cases e
structure Mod(K:PySem.W.Frag)(mg:Str->Option Value)(base:Heap):Prop where
 kin:K.In base
 glob:base.Ns mainGlobals mg
 blt:∃mb,base.Ns builtinsNs mb/\∀x:Str,x≠"__name__" -> mb x=bootBuiltins x
 nolimit:base.NoLimit
structure Cx where
 prog:Program
 w:World
 K:PySem.W.Frag
 mg:Str->Option Value
 base:Heap
 A:Around
 N:List Str
 s₀:Shared
 H₀:Hp
 env:Env
 outer:List Env
 stack:List Env
 ex:List Addr
 fn:Str->Bool
 calm:Bool
 pn:List (Addr×Obj)
 xe:Value->Shared->Prop
abbrev frs(l:List Env):List Addr:=l.filterMap (·.frame)
@[reducible]noncomputable def Cx.fs(X:Cx):List Addr:=frs X.outer
abbrev Vis(sc:Scope)(x:Str):Prop:=sc.names.lookup x=some .local\/sc.names.lookup x=some .cell\/sc.names.lookup x=some .free
abbrev Loc(sc:Scope)(x:Str):Prop:=sc.names.lookup x=some .local\/sc.names.lookup x=some .cell
abbrev Tt(env:Env)(h:Heap)(m:Str->Option Value)(x:Str)(u:Value):Prop :=
 (env.kindOf x=some .local/\m x=some u)\/((env.kindOf x=some .cell\/env.kindOf x=some .free)/\∃c,env.cells.lookup x=some c/\h.IsCell c (some u))
structure Cx.Ok(X:Cx):Prop where
 mod:Mod X.K X.mg X.base
 kind:X.env.scope.kind=.function
 glob:X.env.globals=mainGlobals
 blt:X.env.builtins=builtinsNs
 above:X.s₀.heap.objs.size<=X.env.locals
 inj:∀x y c,X.env.cells.lookup x=some c->X.env.cells.lookup y=some c->x=y
 has:∀x,(X.env.kindOf x=some .cell\/X.env.kindOf x=some .free)->∃c,X.env.cells.lookup x=some c
 cab:∀x c,X.fn x=true->X.env.cells.lookup x=some c->X.s₀.heap.objs.size<=c
 hd:X.calm=true->X.A.handled=none
 frames:X.A.frames=some X.stack
 stk:X.stack=X.outer\/(X.stack=X.env::X.outer/\X.env.frame=some X.env.locals)
 exf:∀b∈X.ex,b≠X.env.locals/\∀x c,X.env.cells.lookup x=some c->c≠b
 bs:∀b o,X.base.get? b=some o->X.s₀.heap.get? b=some o/\X.H₀ b=none
 bsz:X.base.objs.size<=X.s₀.heap.objs.size
 noex:∀b o,X.base.get? b=some o->b∉X.ex
 exfs:∀b∈X.ex,b∉X.fs
 funs:X.s₀.heap.FunFrames X.base X.outer
 frf:∀b∈X.fs,X.H₀ b=none
structure Inv(X:Cx)(pins:List (Addr×Obj))(σ:List (Option V))(H:Hp)(s:Shared):Prop where
 ok:X.Ok
 os:s.os=X.s₀.os
 bare:AllBare s.gens
 base:Un X.fs X.ex X.H₀ H X.s₀.heap s.heap
 loc:∃m,s.heap.Ns X.env.locals m/\∀(i:Nat)(x:Str)(v:V),X.N[i]?=some x->σ[i]?=some (some v)->Vis X.env.scope x->∃u,RelV v u/\Tt X.env s.heap m x u
 cell:∀x c,X.env.cells.lookup x=some c->∃v,s.heap.IsCell c v
 free:H X.env.locals=none
 freeC:∀x c,X.env.cells.lookup x=some c->H c=none
 pin:∀p∈X.pn++pins,s.heap.get? p.1=some p.2/\H p.1=none/\p.1≠X.env.locals/\p.1∉X.fs/\∀v,p.2.data≠.cell v
 hok:HOk X.prog X.w H s.heap
 len:σ.length=X.N.length
section
variable{X:Cx}{pins:List (Addr×Obj)}{σ:List (Option V)}{H H':Hp}{s:Shared}{h':Heap}
theorem Cx.Ok.nofr(ok:X.Ok){b:Addr}{o:Obj}(e:X.base.get? b=some o):b∉X.fs:=fun hb=>by
 have:=(ok.funs.mem hb).1
 rw[e]at this;cases this
theorem Inv.bs(I:Inv X pins σ H s):∀b o,X.base.get? b=some o->s.heap.get? b=some o/\H b=none:=fun b o e=>
 ⟨I.base.keep b o (I.ok.bs b o e).1 (I.ok.bs b o e).2 (I.ok.nofr e) (I.ok.noex b o e),I.base.free b o (I.ok.bs b o e).1 (I.ok.bs b o e).2 (I.ok.noex b o e)⟩
theorem Inv.bk(I:Inv X pins σ H s):∀b o,X.base.get? b=some o->s.heap.get? b=some o:=fun b o e=>(I.bs b o e).1
theorem Inv.mod(I:Inv X pins σ H s):Mod X.K X.mg X.base:=I.ok.mod
theorem Inv.kIn(I:Inv X pins σ H s):X.K.In s.heap:=I.ok.mod.kin.keeps I.bk
theorem Inv.fr(I:Inv X pins σ H s):∃m,Fr X.base X.env.locals s.heap m :=
 let ⟨m,hn,_⟩:=I.loc
 ⟨m,hn,I.bk,aar I.ok.bsz I.ok.above⟩
theorem Inv.lt(I:Inv X pins σ H s):X.env.locals<s.heap.objs.size:=let ⟨_,hn,_⟩:=I.loc;hn.lt
theorem Inv.sz(I:Inv X pins σ H s):X.s₀.heap.objs.size<=s.heap.objs.size:=aar I.ok.above (aao I.lt)
theorem Inv.nofs(I:Inv X pins σ H s){a:Addr}(h:s.heap.objs.size<=a):a∉X.fs:=fun hb=>by
 obtain⟨_,o,ho,_⟩:=I.ok.funs.mem hb
 exact absurd (aaw (Heap.lt_size ho) (aar I.sz h)) (aaS _)
theorem Inv.cne(I:Inv X pins σ H s):∀x c,X.env.cells.lookup x=some c->c≠X.env.locals:=fun x c e z=>by
 obtain⟨v,o,ho,hd⟩:=I.cell x c e
 obtain⟨m,⟨o',es,ep,ho',hd',_⟩,_⟩:=I.loc
 rw[z,ho']at ho;cases ho;rw[hd']at hd;cases hd
theorem Inv.funs(I:Inv X pins σ H s):s.heap.FunFrames X.base X.outer:=by
 have all:∀(l:List Env),(∀b∈frs l,b∈X.fs)->X.s₀.heap.FunFrames X.base l->s.heap.FunFrames X.base l:=by
  intro l
  induction l with
  |nil=>intro _ _;trivial
  |cons env r ih=>
   intro hs hl
   obtain⟨hk,⟨L,o,hf,hn,ho,hd⟩,hr⟩:=hl
   have hL:L∈X.fs:=hs L (by unfold frs;rw[abA,hf];exact aab)
   obtain⟨sl,e⟩:=I.base.slot L o ho (I.ok.frf L hL) hL fun z=>I.ok.exfs L z hL
   exact⟨hk,⟨L,_,hf,hn,e,hd⟩,ih (fun b hb=>hs b (by unfold frs;rw[abA,hf];exact aaa _ hb)) hr⟩
 exact all X.outer (fun _ hb=>hb) I.ok.funs
theorem Inv.stack(I:Inv X pins σ H s):s.heap.FunFrames X.base X.stack:=by
 rcases I.ok.stk with e|⟨e,hf⟩
 ·rw[e];exact I.funs
 ·rw[e]
  obtain⟨m,hn,_⟩:=I.loc
  refine .cons (by rw[I.ok.kind];decide) hf hn ?_ I.funs
  exact Heap.get?_none_of_le (aar I.ok.bsz I.ok.above)
theorem Inv.stkSub(I:Inv X pins σ H s):∀b∈frs X.stack,b∈X.env.locals::X.fs:=fun b hb=>by
 rcases I.ok.stk with e|⟨e,hf⟩
 ·rw[e]at hb;exact aaa _ hb
 ·rw[e]at hb
  unfold frs at hb
  rw[abA,hf]at hb
  exact hb
theorem Inv.stkFree(I:Inv X pins σ H s):∀b∈frs X.stack,H b=none:=fun b hb=>by
 rcases aaf.mp (I.stkSub b hb) with e|hb
 ·rw[e];exact I.free
 ·obtain⟨_,o,ho,_⟩:=I.ok.funs.mem hb
  exact I.base.free b o ho (I.ok.frf b hb) fun z=>I.ok.exfs b z hb
theorem Inv.step{g':Array GenState}{t':Nat}{d':Drawn}{ch:List Addr}(I:Inv X pins σ H s)
  (hch:∀b∈ch,(b∈X.ex\/X.s₀.heap.objs.size<=b)/\b≠X.env.locals/\(∀x c,X.env.cells.lookup x=some c->c≠b)/\∀p∈X.pn++pins,p.1≠b)
  (keep:∀b o,b≠X.env.locals->b∉X.fs->b∉ch->s.heap.get? b=some o->H b=none->h'.get? b=some o)
  (slot:∀b o,b≠X.env.locals->b∈X.fs->b∉ch->s.heap.get? b=some o->H b=none->∃sl,h'.get? b=some {o with slots:=sl}) (free:∀b o,b∉ch->s.heap.get? b=some o->H b=none->H' b=none)
  (there:∀b o,b∉ch->s.heap.get? b=some o->∃o',h'.get? b=some o')
  (tups:∀b xs,H b=some (.tup xs)->H' b=some (.tup xs)) (frzs:∀b o u,H b=some (.frz o u)->H' b=some (.frz o u)) (tbls:∀b ps,H b=some (.tbl ps)->∃more,H' b=some (.tbl (ps++more)))
  (ns:∀m,s.heap.Ns X.env.locals m->h'.Ns X.env.locals m) (hok:HOk X.prog X.w H' h') (hg:AllBare g') :
  Inv X pins σ H' {s with heap:=h',gens:=g',drawn:=d',toks:=t'}:=by
 have neL:∀b o,X.s₀.heap.get? b=some o->b≠X.env.locals:=fun b o e=>aaE (aaw (Heap.lt_size e) I.ok.above)
 have neC:∀b o,X.s₀.heap.get? b=some o->b∉X.ex->b∉ch:=fun b o e hx hb=>by
  rcases (hch b hb).1 with z|z
  ·exact hx z
  ·exact absurd (aaw (Heap.lt_size e) z) (aaS _)
 have cellK:∀x c,X.env.cells.lookup x=some c->∀v,s.heap.IsCell c v->h'.IsCell c v:=fun x c e v ⟨o,ho,hd⟩=>by
  have nch:c∉ch:=fun z=>(hch c z).2.2.1 x c e rfl
  by_cases hc:c∈X.fs
  ·obtain⟨sl,q⟩:=slot c o (I.cne x c e) hc nch ho (I.freeC x c e)
   exact⟨_,q,hd⟩
  ·exact⟨o,keep c o (I.cne x c e) hc nch ho (I.freeC x c e),hd⟩
 refine⟨I.ok,I.os,hg,⟨fun b o e n hb hx=>?_,fun b o e n hb hx=>?_,fun b o e n hx=>?_,fun b o e hx=>?_,fun b xs e=>tups b xs (I.base.tups b xs e),fun b o xs e=>frzs b o xs (I.base.frzs b o xs e),fun b ps e=>?_⟩,?_,fun x c e=>?_,?_,fun x c e=>?_,fun p hp=>?_,hok,I.len⟩
 ·exact keep b o (neL b o e) hb (neC b o e hx) (I.base.keep b o e n hb hx) (I.base.free b o e n hx)
 ·obtain⟨sl,e1⟩:=I.base.slot b o e n hb hx
  obtain⟨sl',e2⟩:=slot b _ (neL b o e) hb (neC b o e hx) e1 (I.base.free b o e n hx)
  exact⟨sl',e2⟩
 ·obtain⟨o',e1⟩:=I.base.there b o e hx
  exact free b o' (neC b o e hx) e1 (I.base.free b o e n hx)
 ·obtain⟨o',e1⟩:=I.base.there b o e hx
  exact there b o' (neC b o e hx) e1
 ·obtain⟨m1,e1⟩:=I.base.tbls b ps e
  obtain⟨m2,e2⟩:=tbls b _ e1
  exact⟨m1++m2,by rw[e2,Array.append_assoc]⟩
 ·obtain⟨m,hn,hl⟩:=I.loc
  refine⟨m,ns m hn,fun i x v e1 e2 e3=>?_⟩
  obtain⟨u,r,l⟩:=hl i x v e1 e2 e3
  refine⟨u,r,?_⟩
  rcases l with l|⟨k,c,e,z⟩
  ·exact .inl l
  ·exact .inr ⟨k,c,e,cellK x c e _ z⟩
 ·obtain⟨v,z⟩:=I.cell x c e
  exact⟨v,cellK x c e v z⟩
 ·obtain⟨m,⟨o,_,_,ho,_⟩,_⟩:=I.loc
  exact free _ o (fun z=>(hch _ z).2.1 rfl) ho I.free
 ·obtain⟨v,o,ho,hd⟩:=I.cell x c e
  exact free c o (fun z=>(hch c z).2.2.1 x c e rfl) ho (I.freeC x c e)
 ·obtain⟨e,n,ne,nf,d⟩:=I.pin p hp
  have nch:p.1∉ch:=fun z=>(hch p.1 z).2.2.2 p hp rfl
  exact⟨keep p.1 p.2 ne nf nch e n,free p.1 p.2 nch e n,ne,nf,d⟩
theorem Inv.un{t':Nat}(I:Inv X pins σ H s)(u:Un X.fs [] H H' s.heap h')(hok:HOk X.prog X.w H' h'):Inv X pins σ H' {s with heap:=h',toks:=t'}:=by
 obtain⟨m,⟨o,es,ep,ho,r⟩,_⟩:=id I.loc
 obtain⟨sl,hL⟩:=u.any ho I.free (by simp)
 exact I.step (g':=s.gens) (d':=s.drawn) (ch:=[]) (fun _ z=>nomatch z) (fun b o _ hb _ e n=>u.keep b o e n hb (by simp)) (fun b o _ hb _ e n=>u.slot b o e n hb (by simp)) (fun b o _ e n=>u.free b o e n (by simp)) (fun b o _ e=>u.there b o e (by simp)) u.tups u.frzs u.tbls (fun m' hm=>by
  obtain⟨o',es',ep',ho',r'⟩:=hm
  rw[ho]at ho';cases ho'
  exact⟨_,es',ep',hL,r'⟩) hok I.bare
theorem Inv.call{g':Array GenState}{t':Nat}{d':Drawn}{ch:List Addr}(I:Inv X pins σ H s)(u:Un (frs X.stack) ch H H' s.heap h')(hok:HOk X.prog X.w H' h')(hg:AllBare g')
  (hch:∀b∈ch,(b∈X.ex\/X.s₀.heap.objs.size<=b)/\b≠X.env.locals/\(∀x c,X.env.cells.lookup x=some c->c≠b)/\∀p∈X.pn++pins,p.1≠b) :
  Inv X pins σ H' {s with heap:=h',gens:=g',drawn:=d',toks:=t'}:=by
 obtain⟨m,⟨o,es,ep,ho,r⟩,_⟩:=id I.loc
 obtain⟨sl,hL⟩:=u.any ho I.free fun z=>(hch _ z).2.1 rfl
 exact I.step (ch:=ch) hch (fun b o hL hb hc e n=>u.keep b o e n (fun z=>(aaf.mp (I.stkSub b z)).elim hL hb) hc) (fun b o _ _ hc e n=>u.any e n hc) (fun b o hc e n=>u.free b o e n hc) (fun b o hc e=>u.there b o e hc) u.tups u.frzs u.tbls (fun m' hm=>by
  obtain⟨o',es',ep',ho',r'⟩:=hm
  rw[ho]at ho';cases ho'
  exact⟨_,es',ep',hL,r'⟩) hok hg
theorem Inv.turned{t':Nat}{it:Addr}(I:Inv X pins σ H s)(k:∀b o,b≠it->s.heap.get? b=some o->h'.get? b=some o)(hn:H it=none)(hL:it≠X.env.locals)
  (h1:it∈X.ex\/X.s₀.heap.objs.size<=it) (h2:∀x c,X.env.cells.lookup x=some c->c≠it) (h3:∀p∈X.pn++pins,p.1≠it):Inv X pins σ H {s with heap:=h',toks:=t'}:=by
 have nit:∀b u,H b=some u->b≠it:=fun b u e z=>by rw[z,hn]at e;cases e
 refine I.step (g':=s.gens) (d':=s.drawn) (ch:=[it]) (fun b hb=>?_) (fun b o _ _ hc e _=>k b o (fun z=>hc (by simp[z])) e) (fun b o _ _ hc e _=>⟨o.slots,k b o (fun z=>hc (by simp[z])) e⟩) (fun _ _ _ _ n=>n)
  (fun b o hc e=>⟨o,k b o (fun z=>hc (by simp[z])) e⟩) (fun _ _ e=>e) (fun _ _ _ e=>e) (fun b ps e=>⟨#[],by rw[e];simp⟩) (fun m hm=>?_) (fun b u e=>?_) I.bare
 ·have e:b=it:=by simpa using hb
  subst e
  exact⟨h1,hL,h2,h3⟩
 ·obtain⟨o,es,ep,ho,r⟩:=hm
  exact⟨o,es,ep,k _ o (Ne.symm hL) ho,r⟩
 ·refine(I.hok b u e).stay (fun c v hc q=>k c v ?_ q) (fun _ q=>q) fun _ _ q=>q
  rcases hc with z|z
  ·rw[z];exact nit b u e
  ·exact nit c _ z
theorem Inv.tok(I:Inv X pins σ H s)(t:Nat):Inv X pins σ H {s with toks:=t}:=I.un (h':=s.heap) (t':=t) Un.refl I.hok
theorem Inv.kept{t':Nat}(I:Inv X pins σ H s)(k:∀b u,s.heap.get? b=some u->h'.get? b=some u):Inv X pins σ H {s with heap:=h',toks:=t'}:=I.un (Un.kept k) (I.hok.kept k)
theorem Inv.laid{a:Addr}{o:HO}{t':Nat}(I:Inv X pins σ H s)(k:∀b u,s.heap.get? b=some u->h'.get? b=some u)(hp:s.heap.objs.size<=a)(new:ObjOk X.prog X.w (upd H a o) h' a o) :
  Inv X pins σ (upd H a o) {s with heap:=h',toks:=t'}:=I.un (Un.laid k hp (I.hok.fresh hp)) (I.hok.laid k hp new)
theorem Inv.write{x e:Addr}{o:HO}{t':Nat}(I:Inv X pins σ H s)(mu:Mut (H x))(he:e=x\/H e=some (.own x))(k:∀b u,b≠e->s.heap.get? b=some u->h'.get? b=some u)(heo:∃u,h'.get? e=some u)
  (new:ObjOk X.prog X.w (upd H x o) h' x o):Inv X pins σ (upd H x o) {s with heap:=h',toks:=t'}:=I.un (Un.write mu he k heo) (I.hok.write mu he k heo new)
theorem Inv.weak{σ':List (Option V)}(I:Inv X pins σ H s)(hl:σ'.length=σ.length)(w:∀(i:Nat) v,σ'[i]?=some (some v)->σ[i]?=some (some v)):Inv X pins σ' H s :=
 ⟨I.ok,I.os,I.bare,I.base,let ⟨m,hn,hl'⟩:=I.loc;⟨m,hn,fun i x v e1 e2 e3=>hl' i x v e1 (w i v e2) e3⟩,I.cell,I.free,I.freeC,I.pin,I.hok,hl.trans I.len⟩
theorem Inv.pins_of{pins':List (Addr×Obj)}(I:Inv X pins σ H s)(h:∀p∈pins',s.heap.get? p.1=some p.2/\H p.1=none/\p.1≠X.env.locals/\p.1∉X.fs/\∀v,p.2.data≠.cell v):Inv X pins' σ H s :=
 ⟨I.ok,I.os,I.bare,I.base,I.loc,I.cell,I.free,I.freeC,fun p hp=>(aah.mp hp).elim (fun z=>I.pin p (aav _ z)) (h p),I.hok,I.len⟩
theorem Id{N:List Str}(hN:N.Nodup){i j:Nat}{x:Str}(a:N[i]?=some x)(b:N[j]?=some x):i=j:=by
 obtain⟨h1,e1⟩:=aaA.mp a
 obtain⟨h2,e2⟩:=aaA.mp b
 exact(List.getElem_inj hN).mp (e1.trans e2.symm)
theorem Hr{M:Model}{A:Around}{E:Value->Shared->Prop}{i:Nat}{x:Str}{v:V}{u:Value}{Q:Unit->Shared->Prop}(I:Inv X pins σ H s)(hN:X.N.Nodup)(hi:X.N[i]?=some x)(hx:Loc X.env.scope x)(r:RelV v u)
  (h:∀s',Inv X pins (σ.set i (some v)) H s'->(∃a,Heap.SameBut a s.heap s'.heap/\(a=X.env.locals\/X.env.cells.lookup x=some a))->Q () s') (hf:X.fn x=true\/X.env.scope.names.lookup x=some .local:=by first|exact .inl rfl|exact .inr rfl|assumption):wpAny M A (storeName X.env x u) Q E s:=by
 obtain⟨m,hn,hl⟩:=id I.loc
 have hcls:(X.env.scope.kind==.class||(X.env.scope.kind==.module&&X.env.locals != X.env.globals))=false:=by rw[I.ok.kind];rfl
 have hiσ:i < σ.length:=by rw[I.len];exact(aaA.mp hi).1
 have cne:=I.cne
 have tracked:∀{a:Addr}{h':Heap},(∃o,s.heap.get? a=some o/\H a=none)->Heap.SameBut a s.heap h'->HOk X.prog X.w H h':=fun {a h'} ha hs b ob e=>by
  obtain⟨_,_,hfree⟩:=ha
  refine(I.hok b ob e).stay (fun c w' hc q=>(hs.2 c ?_).trans q) (fun _ q=>q) fun _ _ q=>q
  rintro rfl
  rcases hc with rfl|hc
  ·rw[hfree]at e;cases e
  ·rw[hfree]at hc;cases hc
 rcases hx with hk|hk
 ·refine wpAny_storeName_local hk hn (fun h' hn' hs=>?_) hcls
  obtain⟨oL,_,_,hoL,_⟩:=id hn
  refine h _ ⟨I.ok,I.os,I.bare,⟨fun b o e n hb hx=>?_,fun b o e n hb hx=>?_,I.base.free,fun b o e hx=>?_,I.base.tups,I.base.frzs,I.base.tbls⟩,⟨_,hn',fun j y v' e1 e2 e3=>?_⟩,fun y c e=>?_,I.free,I.freeC,fun p hp=>?_,tracked ⟨oL,hoL,I.free⟩ hs,by simpa using I.len⟩ ⟨_,hs,.inl rfl⟩
  ·exact(hs.2 b (aaE (aaw (Heap.lt_size e) I.ok.above))).trans (I.base.keep b o e n hb hx)
  ·obtain⟨sl,e1⟩:=I.base.slot b o e n hb hx
   exact⟨sl,(hs.2 b (aaE (aaw (Heap.lt_size e) I.ok.above))).trans e1⟩
  ·obtain⟨o',e1⟩:=I.base.there b o e hx
   exact⟨o',(hs.2 b (aaE (aaw (Heap.lt_size e) I.ok.above))).trans e1⟩
  ·by_cases hj:j=i
   ·subst hj
    rw[hi]at e1;cases e1
    rw[acA hiσ]at e2
    cases e2
    exact⟨u,r,.inl ⟨hk,by simp⟩⟩
   ·rw[aaz (Ne.symm hj)]at e2
    obtain⟨u',r',q⟩:=hl j y v' e1 e2 e3
    refine⟨u',r',?_⟩
    rcases q with⟨k,e⟩|⟨k,c,e,z⟩
    ·refine .inl ⟨k,?_⟩
     have:y≠x:=fun e=>hj (Id hN e1 (e▸hi))
     simp[this,e]
    ·exact .inr ⟨k,c,e,z.sameBut hs (cne y c e)⟩
  ·obtain⟨w',z⟩:=I.cell y c e
   exact⟨w',z.sameBut hs (cne y c e)⟩
  ·obtain⟨e,n,ne,nf,d⟩:=I.pin p hp
   exact⟨(hs.2 p.1 ne).trans e,n,ne,nf,d⟩
 ·have hfn:X.fn x=true:=by
   rcases hf with z|z
   ·exact z
   ·rw[z]at hk;cases hk
  obtain⟨c,hc⟩:=I.ok.has x (.inl hk)
  obtain⟨w',z⟩:=I.cell x c hc
  refine wpAny_storeName_cell I.ok.kind hk hc z (fun h' hc' hs=>?_)
  obtain⟨oc,hoc,hocd⟩:=id z
  refine h {s with heap:=h'} ⟨I.ok,I.os,I.bare,⟨fun b o e n hb hx=>?_,fun b o e n hb hx=>?_,I.base.free,fun b o e hx=>?_,I.base.tups,I.base.frzs,I.base.tbls⟩,⟨m,hn.sameBut hs (Ne.symm (cne x c hc)),fun j y v' e1 e2 e3=>?_⟩,fun y c' e=>?_,I.free,I.freeC,fun p hp=>?_,tracked ⟨oc,hoc,I.freeC x c hc⟩ hs,by simpa using I.len⟩ ⟨c,hs,.inr hc⟩
  ·exact(hs.2 b (aaE (aaw (Heap.lt_size e) (I.ok.cab x c hfn hc)))).trans (I.base.keep b o e n hb hx)
  ·obtain⟨sl,e1⟩:=I.base.slot b o e n hb hx
   exact⟨sl,(hs.2 b (aaE (aaw (Heap.lt_size e) (I.ok.cab x c hfn hc)))).trans e1⟩
  ·obtain⟨o',e1⟩:=I.base.there b o e hx
   exact⟨o',(hs.2 b (aaE (aaw (Heap.lt_size e) (I.ok.cab x c hfn hc)))).trans e1⟩
  ·by_cases hj:j=i
   ·subst hj
    rw[hi]at e1;cases e1
    rw[acA hiσ]at e2
    cases e2
    exact⟨u,r,.inr ⟨.inl hk,c,hc,hc'⟩⟩
   ·rw[aaz (Ne.symm hj)]at e2
    obtain⟨u',r',q⟩:=hl j y v' e1 e2 e3
    refine⟨u',r',?_⟩
    rcases q with q|⟨k,c',e,z'⟩
    ·exact .inl q
    ·refine .inr ⟨k,c',e,z'.sameBut hs ?_⟩
     rintro rfl
     exact hj (Id hN e1 (I.ok.inj _ _ _ e hc▸hi))
  ·by_cases hcc:c'=c
   ·subst hcc;exact⟨_,hc'⟩
   ·obtain⟨w2,z2⟩:=I.cell y c' e
    exact⟨w2,z2.sameBut hs hcc⟩
  ·obtain⟨e,n,ne,nf,d⟩:=I.pin p hp
   refine⟨(hs.2 p.1 ?_).trans e,n,ne,nf,d⟩
   intro q
   rw[q,hoc]at e
   have q':oc=p.2:=Option.some.inj e
   exact d w' (by rw[<- q'];exact hocd)
theorem Ie{M:Model}{A:Around}{E:Value->Shared->Prop}{i:Nat}{x:Str}{v:V}{u:Value}{Q:Unit->Shared->Prop}(I:Inv X pins σ H s)(hN:X.N.Nodup)(hi:X.N[i]?=some x)(hx:Loc X.env.scope x)(r:RelV v u)
  (h:∀s',Inv X pins (σ.set i (some v)) H s'->Q () s') (hf:X.fn x=true\/X.env.scope.names.lookup x=some .local:=by first|exact .inl rfl|exact .inr rfl|assumption):wpAny M A (storeName X.env x u) Q E s :=
 Hr I hN hi hx r (fun s' I' _=>h s' I') hf
theorem Inv.call'{s':Shared}{ch:List Addr}(I:Inv X pins σ H s)(ho:s'.os=s.os)(u:Un (frs X.stack) ch H H' s.heap s'.heap)(hok:HOk X.prog X.w H' s'.heap)(hg:AllBare s'.gens)
  (hch:∀b∈ch,(b∈X.ex\/X.s₀.heap.objs.size<=b)/\b≠X.env.locals/\(∀x c,X.env.cells.lookup x=some c->c≠b)/\∀p∈X.pn++pins,p.1≠b):Inv X pins σ H' s':=by
 obtain⟨h',g',d',t',o'⟩:=s'
 have e:o'=s.os:=ho
 subst e
 exact I.call (g':=g') (t':=t') (d':=d') u hok hg hch
end
@[reducible]noncomputable def XK:=Value->Option Addr->Hp->Prop
@[reducible]noncomputable def St:=List (Option V)
@[reducible]noncomputable def VK:=V->Hp->Prop
@[reducible]noncomputable def TE:=St->Hp->VK->Prop
@[reducible]noncomputable def TT:=St->Hp->(Bool->Hp->Prop)->Prop
@[reducible]noncomputable def TA:=St->Hp->(List V->Hp->Prop)->Prop
structure Ends where
 nx:St->Hp->Prop
 rt:VK
 bk:St->Hp->Prop:=fun _ _=>False
 ct:St->Hp->Prop:=fun _ _=>False
@[reducible]noncomputable def TS:=Ends->St->Hp->Prop
abbrev EP(X:Cx)(pins:List (Addr×Obj))(σ:St)(Q:VK)(u:Value)(s':Shared):Prop:=∃v H',Inv X pins σ H' s'/\RelV v u/\Q v H'
abbrev TP(X:Cx)(pins:List (Addr×Obj))(σ:St)(Q:Bool->Hp->Prop)(b:Bool)(s':Shared):Prop:=∃H',Inv X pins σ H' s'/\Q b H'
abbrev AP(X:Cx)(pins:List (Addr×Obj))(σ:St)(Q:List V->Hp->Prop)(us:List Value)(s':Shared):Prop:=∃vs H',Inv X pins σ H' s'/\Vals vs us/\Q vs H'
abbrev SP(X:Cx)(pins:List (Addr×Obj))(D:Ends)(f:Flow)(s':Shared):Prop :=
 match f with
 |.next=>∃σ' H',Inv X pins σ' H' s'/\D.nx σ' H'
 |.brk=>∃σ' H',Inv X pins σ' H' s'/\D.bk σ' H'
 |.cont=>∃σ' H',Inv X pins σ' H' s'/\D.ct σ' H'
 |.ret u=>∃v σ' H',Inv X pins σ' H' s'/\RelV v u/\D.rt v H'
abbrev PE(X:Cx)(e:Expr)(t:TE):Prop :=
 ∀(pins:List (Addr×Obj))(s:Shared)(σ:St)(H:Hp)(Q:VK),Inv X pins σ H s->t σ H Q->wpAny (model X.prog X.w) X.A (eval e X.env) (EP X pins σ Q) X.xe s
abbrev PT(X:Cx)(e:Expr)(t:TT):Prop :=
 ∀(pins:List (Addr×Obj))(s:Shared)(σ:St)(H:Hp)(Q:Bool->Hp->Prop),Inv X pins σ H s->t σ H Q->wpAny (model X.prog X.w) X.A (isTrue e X.env (eval e X.env)) (TP X pins σ Q) X.xe s
abbrev PW(X:Cx)(e:Expr)(t:TT):Prop :=
 ∀(whole:Sem Value)(pins:List (Addr×Obj))(s:Shared)(σ:St)(H:Hp)(Q:Bool->Hp->Prop),Inv X pins σ H s->t σ H Q->wpAny (model X.prog X.w) X.A (isTrue e X.env whole) (TP X pins σ Q) X.xe s
theorem PW.pt{X:Cx}{e:Expr}{t:TT}(h:PW X e t):PT X e t:=h _
abbrev PA(X:Cx)(es:List Expr)(t:TA):Prop :=
 ∀(pos:Pos)(pins:List (Addr×Obj))(s:Shared)(σ:St)(H:Hp)(Q:List V->Hp->Prop),Inv X pins σ H s->t σ H Q->wpAny (model X.prog X.w) X.A (spliced (backTo pos (starEach es X.env))) (AP X pins σ Q) X.xe s
abbrev PS(X:Cx)(st:Stmt)(t:TS):Prop :=
 ∀(pins:List (Addr×Obj))(s:Shared)(σ:St)(H:Hp)(D:Ends),Inv X pins σ H s->t D σ H->wpAny (model X.prog X.w) X.A (exec st X.env) (SP X pins D) X.xe s
abbrev PSs(X:Cx)(st:List Stmt)(t:TS):Prop :=
 ∀(pins:List (Addr×Obj))(s:Shared)(σ:St)(H:Hp)(D:Ends),Inv X pins σ H s->t D σ H->wpAny (model X.prog X.w) X.A (execs st X.env) (SP X pins D) X.xe s
theorem thn{α:Type}{t:Sem α}{Q Q':α->Shared->Prop}{M:Model}{A:Around}{E:Value->Shared->Prop}{s:Shared}(h:wpAny M A t Q E s)(hQ:∀a s,Q a s->Q' a s):wpAny M A t Q' E s:=wpAny_mono h hQ fun _ _ x=>x
section
variable{X:Cx}
theorem bin{a b:Expr}{ta tb:TE}(ha:PE X a ta)(hb:PE X b tb){pins:List (Addr×Obj)}{s:Shared}{σ:St}{H:Hp}{R:V->V->Hp->Prop}(I:Inv X pins σ H s)(h:ta σ H fun x H1=>tb σ H1 fun y H2=>R x y H2)
  {α:Type} {Q:α->Shared->Prop} {f:Value->Value->Sem α}
  (hf:∀v u s2 x y H2,Inv X pins σ H2 s2->RelV x v->RelV y u->R x y H2->wpAny (model X.prog X.w) X.A (f v u) Q X.xe s2) :
  wpAny (model X.prog X.w) X.A (eval a X.env) (fun v s₁=>wpAny (model X.prog X.w) X.A (eval b X.env) (fun u s₂=>wpAny (model X.prog X.w) X.A (f v u) Q X.xe s₂) X.xe s₁) X.xe s:=by
 refine thn (ha pins s σ H _ I h) fun v s1 ⟨x,H1,I1,r1,q1⟩=>?_
 refine thn (hb pins s1 σ H1 _ I1 q1) fun u s2 ⟨y,H2,I2,r2,q2⟩=>?_
 exact hf v u s2 x y H2 I2 r1 r2 q2
abbrev Ni(i:Nat):TE:=fun σ H Q=>∃v,σ[i]?=some (some v)/\Q v H
abbrev tC(v:V):TE:=fun _ H Q=>Q v H
theorem ER{i:Nat}{x:Str}{pos:Pos}(hN:X.N[i]?=some x)(hv:Vis X.env.scope x)(hd:(x==("__debug__" : Str))=false:=by decide)(hcd:(x==("__classdict__" : Str))=false:=by decide):PE X (.Name x pos) (Ni i):=by
 intro pins s σ H Q I h
 obtain⟨v,e,h⟩:=h
 obtain⟨m,hn,hl⟩:=I.loc
 obtain⟨u,r,l⟩:=hl i x v hN e hv
 have fin:EP X pins σ Q u s:=⟨v,H,I,r,h⟩
 rcases l with⟨hk,hm⟩|⟨hk,c,hc,hcell⟩
 ·exact wpAny_Name (wpAny_loadName_local I.ok.kind hk hn hm fin) hd
 ·rcases hk with hk|hk
  ·exact wpAny_Name (wpAny_loadName_cell I.ok.kind hk hc hcell fin) hd
  ·exact wpAny_Name (wpAny_loadName_free I.ok.kind hk hc hcell fin hcd) hd
theorem QP{i j pos}:PE X (.Constant (.int i) j pos) (tC (.int i)):=fun _ _ _ H _ I h=>wpAny_Constant_int ⟨.int i,H,I.tok _,⟨_,rfl⟩,h⟩
theorem SF{b j pos}:PE X (.Constant (.bool b) j pos) (tC (.bl b)):=fun _ _ _ H _ I h=>Constant_bool ⟨.bl b,H,I,rfl,h⟩
theorem QQ{j pos}:PE X (.Constant .none j pos) (tC .non):=fun _ _ _ H _ I h=>Constant_none ⟨.non,H,I,rfl,h⟩
theorem QR{x j pos}:PE X (.Constant (.str x) j pos) (tC (.str x)):=fun _ _ _ H _ I h=>Calls.Constant_str ⟨.str x,H,I.tok _,⟨_,rfl⟩,h⟩
abbrev Gl(X:Cx)(x:Str):Prop:=X.env.kindOf x=some .globalImplicit
theorem GQ{E:Value->Shared->Prop}{pins:List (Addr×Obj)}{s:Shared}{σ:St}{H:Hp}{x:Str}{u:Value}{pos:Pos}{Q:Value->Shared->Prop}(I:Inv X pins σ H s)(hg:Gl X x)(hm:X.mg x=some u)(h:Q u s)
  (hd:(x==("__debug__" : Str))=false:=by decide):wpAny (model X.prog X.w) X.A (eval (.Name x pos) X.env) Q E s :=
 Calls.Name_function_global I.ok.kind hg (Calls.loadGlobal_global (by rw[I.ok.glob];exact I.mod.glob.keeps I.bk) hm h) hd
theorem CD{E:Value->Shared->Prop}{pins:List (Addr×Obj)}{s:Shared}{σ:St}{H:Hp}{x:Str}{u:Value}{pos:Pos}{Q:Value->Shared->Prop}(I:Inv X pins σ H s)(hg:Gl X x)(hm:X.mg x=none)(hv:bootBuiltins x=some u)(h:Q u s)
  (hn:x≠"__name__":=by decide) (hd:(x==("__debug__" : Str))=false:=by decide):wpAny (model X.prog X.w) X.A (eval (.Name x pos) X.env) Q E s:=by
 obtain⟨mb,h1,h2⟩:=I.mod.blt
 exact Calls.Name_function_global I.ok.kind hg (Calls.loadGlobal_builtin (by rw[I.ok.glob];exact I.mod.glob.keeps I.bk) hm (by rw[I.ok.blt];exact h1.keeps I.bk) ((h2 x hn).trans hv) h) hd
theorem JQ{x:Str}{v:V}{u:Value}{pos:Pos}(hg:Gl X x)(hm:X.mg x=some u)(r:RelV v u)(hd:(x==("__debug__" : Str))=false:=by decide):PE X (.Name x pos) (tC v) :=
 fun _ _ _ H _ I h=>GQ I hg hm ⟨v,H,I,r,h⟩ hd
theorem OT{x:Str}{v:V}{u:Value}{pos:Pos}(hg:Gl X x)(hm:X.mg x=none)(hv:bootBuiltins x=some u)(r:RelV v u)(hn:x≠"__name__":=by decide)(hd:(x==("__debug__" : Str))=false:=by decide):PE X (.Name x pos) (tC v) :=
 fun _ _ _ H _ I h=>CD I hg hm hv ⟨v,H,I,r,h⟩ hn hd
variable{a b:Expr}{ta tb:TE}{pos:Pos}
abbrev PC(X:Cx)(op:CmpOp)(a b:Expr)(t:TE):Prop :=
 ∀(pins:List (Addr×Obj))(s:Shared)(σ:St)(H:Hp)(Q:VK),Inv X pins σ H s->t σ H Q->
  wpAny (model X.prog X.w) X.A (eval a X.env) (fun v s₁=>wpAny (model X.prog X.w) X.A (eval b X.env) (fun u s₂=>wpAny (model X.prog X.w) X.A (compareOp op v u) (EP X pins σ Q) X.xe s₂) X.xe s₁) X.xe s
theorem Ig(b:Expr){op:CmpOp}(h:op≠.In)(h2:op≠.NotIn):behindInMarks op b=false:=by
 have e1:(op==CmpOp.In)=false:=by cases op<;>first|rfl|exact absurd rfl h
 have e2:(op==CmpOp.NotIn)=false:=by cases op<;>first|rfl|exact absurd rfl h2
 cases b<;>simp[behindInMarks,e1,e2]
abbrev Tu(ta:TE):TE:=fun σ H Q=>ta σ H fun x H1=>Q (.bl (decide (x=.non))) H1
abbrev SG(ta:TE):TE:=fun σ H Q=>ta σ H fun x H1=>Q (.bl (!decide (x=.non))) H1
theorem RelV.none_iff{x:V}{v:Value}(r:RelV x v):(v==Value.none)=decide (x=.non):=by
 cases x with
 |non=>cases r;rfl
 |bl _=>cases r;rfl
 |int _=>obtain⟨t,rfl⟩:=r;rfl
 |str _=>obtain⟨t,rfl⟩:=r;rfl
 |byt _=>obtain⟨t,rfl⟩:=r;rfl
 |flt _=>obtain⟨t,rfl⟩:=r;rfl
 |ref _=>cases r;rfl
 |ty _=>cases r;rfl
theorem LH{j pos'}(ha:PE X a ta):PC X .Is a (.Constant .none j pos') (Tu ta):=by
 intro pins s σ H Q I h
 refine thn (ha pins s σ H _ I h) fun v s1 ⟨x,H1,I1,r1,q1⟩=>?_
 exact Constant_none (is_none_gen ⟨.bl _,H1,I1,by rw[r1.none_iff];rfl,q1⟩)
theorem JR{j pos'}(ha:PE X a ta):PC X .IsNot a (.Constant .none j pos') (SG ta):=by
 intro pins s σ H Q I h
 refine thn (ha pins s σ H _ I h) fun v s1 ⟨x,H1,I1,r1,q1⟩=>?_
 exact Constant_none (isnot_none_gen ⟨.bl _,H1,I1,by rw[r1.none_iff];rfl,q1⟩)
abbrev tB(t:TE):TT:=fun σ H Q=>t σ H fun x H1=>∃c,x=.bl c/\Q c H1
theorem LJ{op:CmpOp}{t:TE}(h:PC X op a b t)(h1:behindInMarks op b=false:=by first|exact Ig _ (by decide) (by decide)|rfl):PE X (.Compare a [op] [b] pos) t:=fun pins s σ H Q I hw=>wpAny_Compare1 (h pins s σ H Q I hw) h1
theorem LK{op:CmpOp}{t:TE}(h:PC X op a b t)(h1:behindInMarks op b=false:=by first|exact Ig _ (by decide) (by decide)|rfl):PT X (.Compare a [op] [b] pos) (tB t):=by
 intro pins s σ H Q I hw
 refine wpAny_isTrue_Compare1 (thn (h pins s σ H _ I hw) fun v s1 h1=>thn h1 fun u s2 h2=>thn h2 fun c s3 ⟨x,H1,I1,r1,q1⟩=>?_) h1
 obtain⟨d,rfl,q⟩:=q1
 cases r1
 exact wpAny_truthy_bool ⟨H1,I1,q⟩
variable{tA tB':TT}{rest:List Expr}
abbrev Tv(t u:TT):TT:=fun σ H Q=>t σ H fun c H1=>if c=true then u σ H1 Q else Q false H1
abbrev tOr(t u:TT):TT:=fun σ H Q=>t σ H fun c H1=>if c=true then Q true H1 else u σ H1 Q
abbrev Tw(t:TT):TT:=fun σ H Q=>t σ H fun c H1=>Q (!c) H1
theorem OU(ha:PT X a tA):PW X (.BoolOp .And [a] pos) tA:=by
 intro wh pins s σ H Q I h
 refine isTrue_and (thn (ha pins s σ H Q I h) fun c s1 e=>?_)
 cases c with
 |true=>exact isTrue_and_nil e
 |false=>exact e
theorem QS(ha:PT X a tA):PW X (.BoolOp .Or [a] pos) tA:=by
 intro wh pins s σ H Q I h
 refine isTrue_or (thn (ha pins s σ H Q I h) fun c s1 e=>?_)
 cases c with
 |false=>exact isTrue_or_nil e
 |true=>exact e
theorem QT(ha:PT X a tA)(hb:PW X (.BoolOp .And (b::rest) pos) tB'):PW X (.BoolOp .And (a::b::rest) pos) (Tv tA tB'):=by
 intro wh pins s σ H Q I h
 refine isTrue_and (thn (ha pins s σ H _ I h) fun c s1 ⟨H1,I1,q1⟩=>?_)
 cases c with
 |true=>exact hb wh pins s1 σ H1 Q I1 q1
 |false=>exact⟨H1,I1,q1⟩
theorem SH(ha:PT X a tA)(hb:PW X (.BoolOp .Or (b::rest) pos) tB'):PW X (.BoolOp .Or (a::b::rest) pos) (tOr tA tB'):=by
 intro wh pins s σ H Q I h
 refine isTrue_or (thn (ha pins s σ H _ I h) fun c s1 ⟨H1,I1,q1⟩=>?_)
 cases c with
 |true=>exact⟨H1,I1,q1⟩
 |false=>exact hb wh pins s1 σ H1 Q I1 q1
theorem QU(ha:PT X a tA):PT X (.UnaryOp .Not a pos) (Tw tA):=by
 intro pins s σ H Q I h
 exact isTrue_not (ha pins s σ H (fun c H1=>Q (!c) H1) I h)
abbrev SI(ta tb:TE):TE:=fun σ H Q=>ta σ H fun x H1=>∃c,x=.bl c/\if c=true then tb σ H1 Q else Q (.bl false) H1
abbrev Tx(ta tb:TE):TE:=fun σ H Q=>ta σ H fun x H1=>∃c,x=.bl c/\if c=true then Q (.bl true) H1 else tb σ H1 Q
abbrev SJ(ta:TE):TE:=fun σ H Q=>ta σ H fun x H1=>∃c,x=.bl c/\Q (.bl (!c)) H1
theorem QV{op}{t:TE}(h:PE X a t):PE X (.BoolOp op [a] pos) t:=fun pins s σ H Q I hw=>BoolOp_one (h pins s σ H Q I hw)
theorem QW(ha:PE X a ta)(hb:PE X (.BoolOp .And (b::rest) pos) tb):PE X (.BoolOp .And (a::b::rest) pos) (SI ta tb):=by
 intro pins s σ H Q I h
 refine BoolOp_and (thn (ha pins s σ H _ I h) fun v s1 ⟨x,H1,I1,r1,q1⟩=>?_)
 obtain⟨c,rfl,q1⟩:=q1
 cases r1
 refine wpAny_truthy_bool ?_
 cases c with
 |true=>exact hb pins s1 σ H1 Q I1 q1
 |false=>exact⟨.bl false,H1,I1,rfl,q1⟩
theorem SK(ha:PE X a ta)(hb:PE X (.BoolOp .Or (b::rest) pos) tb):PE X (.BoolOp .Or (a::b::rest) pos) (Tx ta tb):=by
 intro pins s σ H Q I h
 refine BoolOp_or (thn (ha pins s σ H _ I h) fun v s1 ⟨x,H1,I1,r1,q1⟩=>?_)
 obtain⟨c,rfl,q1⟩:=q1
 cases r1
 refine wpAny_truthy_bool ?_
 cases c with
 |false=>exact hb pins s1 σ H1 Q I1 q1
 |true=>exact⟨.bl true,H1,I1,rfl,q1⟩
theorem QX(ha:PE X a ta):PE X (.UnaryOp .Not a pos) (SJ ta):=by
 intro pins s σ H Q I h
 refine UnaryOp_ (thn (ha pins s σ H _ I h) fun v s1 ⟨x,H1,I1,r1,q1⟩=>?_)
 obtain⟨c,rfl,q1⟩:=q1
 cases r1
 exact not_of (wpAny_truthy_bool ⟨.bl (!c),H1,I1,rfl,q1⟩)
end
abbrev SqL(K:PySem.W.Frag)(H:Hp)(a:Addr)(xs:List V):Prop :=
 Rd H a (.lst xs) \/
  ∃(o:Obj)(its:Array Value)(n:Nat),K.lookup a=some o/\o.cls=.type "list" /\ o.dict=none/\o.data=.seq its n/\its.size<=sizeLine/\Vals xs its.toList
abbrev SqT(K:PySem.W.Frag)(H:Hp)(a:Addr)(xs:List V):Prop :=
 Rd H a (.tup xs) \/
  ∃(o:Obj)(its:Array Value)(n:Nat),K.lookup a=some o/\o.cls=.type "tuple" /\ o.data=.seq its n/\its.size<=sizeLine/\Vals xs its.toList
abbrev Ty:Value->Option V
 |.none=>some .non
 |.bool b=>some (.bl b)
 |.int i _=>some (.int i)
 |.str x _=>some (.str x)
 |.bytes b _=>some (.byt b)
 |.float b _=>some (.flt b)
 |.ref a=>some (.ref a)
 |.type n=>some (.ty n)
 |_=>none
theorem RelV.abs{x:V}{u:Value}(r:RelV x u):Ty u=some x:=by
 cases x with
 |non=>cases r;rfl
 |bl _=>cases r;rfl
 |int _=>obtain⟨t,rfl⟩:=r;rfl
 |str _=>obtain⟨t,rfl⟩:=r;rfl
 |byt _=>obtain⟨t,rfl⟩:=r;rfl
 |flt _=>obtain⟨t,rfl⟩:=r;rfl
 |ref _=>cases r;rfl
 |ty _=>cases r;rfl
theorem RelV.inj{x y:V}{u:Value}(r:RelV x u)(q:RelV y u):x=y:=Option.some.inj (r.abs.symm.trans q.abs)
theorem Vals.inj:∀{xs ys:List V}{us:List Value},Vals xs us->Vals ys us->xs=ys
 |_,_,_,.nil,.nil=>rfl
 |_,_,_,.cons r t,.cons r' t'=>by rw[r.inj r',Vals.inj t t']
section
variable{X:Cx}{pins:List (Addr×Obj)}{σ:St}{H:Hp}{s:Shared}{a:Addr}{xs ys:List V}
theorem SqL.of{K:PySem.W.Frag}(h:H a=some (.lst xs)):SqL K H a xs:=.inl (.inl h)
theorem SqT.of{K:PySem.W.Frag}(h:H a=some (.tup xs)):SqT K H a xs:=.inl (.inl h)
theorem Inv.list(I:Inv X pins σ H s)(h:SqL X.K H a xs):∃its:List Value,Vals xs its/\PlainL s.heap a its.toArray/\xs.length<=sizeLine:=by
 rcases h with h|⟨o,its,n,hk,hc,hd,hs,hz,r⟩
 ·obtain⟨z,its,n,r,e⟩:=h.ok I.hok
  exact⟨its,r,⟨_,n,e,rfl,rfl,rfl⟩,z⟩
 ·refine⟨its.toList,r,⟨o,n,I.kIn a o hk,hc,hd,by simpa using hs⟩,?_⟩
  have e:=r.length
  simp only[Array.length_toList]at e
  omega
theorem Inv.tuple(I:Inv X pins σ H s)(h:SqT X.K H a xs):∃its:List Value,Vals xs its/\IsTup s.heap a its.toArray/\xs.length<=sizeLine:=by
 rcases h with h|⟨o,its,n,hk,hc,hs,hz,r⟩
 ·obtain⟨z,its,r,p⟩:=h.ok I.hok
  exact⟨its,r,p,z⟩
 ·refine⟨its.toList,r,⟨o,I.kIn a o hk,hc,n,by simpa using hs⟩,?_⟩
  have e:=r.length
  simp only[Array.length_toList]at e
  omega
theorem Inv.list_inj(I:Inv X pins σ H s)(h:SqL X.K H a xs)(h':SqL X.K H a ys):xs=ys:=by
 obtain⟨its,r,⟨o,n,e,_,_,d⟩,_⟩:=I.list h
 obtain⟨its',r',⟨o',n',e',_,_,d'⟩,_⟩:=I.list h'
 rw[e]at e';cases e'
 rw[d]at d'
 injection d' with d1 _
 have:its=its':=by simpa using congrArg Array.toList d1
 subst this
 exact r.inj r'
theorem Inv.tuple_inj(I:Inv X pins σ H s)(h:SqT X.K H a xs)(h':SqT X.K H a ys):xs=ys:=by
 obtain⟨its,r,⟨o,e,_,n,d⟩,_⟩:=I.tuple h
 obtain⟨its',r',⟨o',e',_,n',d'⟩,_⟩:=I.tuple h'
 rw[e]at e';cases e'
 rw[d]at d'
 injection d' with d1 _
 have:its=its':=by simpa using congrArg Array.toList d1
 subst this
 exact r.inj r'
end
section
variable{X:Cx}{st:Stmt}{rest:List Stmt}{t u:TS}{e:Expr}{te:TE}{pos:Pos}
abbrev SL:TS:=fun D σ H=>D.nx σ H
abbrev Tz(t u:TS):TS:=fun D σ H=>t {D with nx:=u D} σ H
theorem OV:PSs X [] SL:=fun _ _ σ H _ I h=>wpAny_execs_nil ⟨σ,H,I,h⟩
theorem Nj(h1:PS X st t)(h2:PSs X rest u):PSs X (st::rest) (Tz t u):=by
 intro pins s σ H D I h
 refine wpAny_execs_cons (thn (h1 pins s σ H {D with nx:=u D} I h) fun f s1 q=>?_)
 cases f with
 |next=>
  obtain⟨σ',H',I',q⟩:=q
  exact h2 pins s1 σ' H' D I' q
 |ret v=>exact q
 |brk=>exact q
 |cont=>exact q
theorem Inv.quiet{pins:List (Addr×Obj)}{σ:St}{H:Hp}{s:Shared}(I:Inv X pins σ H s):interactive X.env=false:=by simp[interactive,I.ok.kind]
abbrev Ov(te:TE):TS:=fun D σ H=>te σ H fun _ H1=>D.nx σ H1
theorem Ee(he:PE X e te)(hs:swapsWith e none pos.line X.env=pure false:=by rfl):PS X (.Expr e pos) (Ov te):=by
 intro pins s σ H D I h
 exact wpAny_Expr_any (thn (he pins s σ H _ I h) fun v s1 ⟨x,H1,I1,r1,q1⟩=>⟨σ,H1,I1,q1⟩) I.quiet hs
abbrev TB(te:TE):TS:=fun D σ H=>te σ H D.rt
theorem LL(he:PE X e te):PS X (.Return (some e) pos) (TB te):=by
 intro pins s σ H D I h
 exact wpAny_Return_some (thn (he pins s σ H _ I h) fun v s1 ⟨x,H1,I1,r1,q1⟩=>⟨x,σ,H1,I1,r1,q1⟩)
abbrev QY(c:TT)(t u:TS):TS:=fun D σ H=>c σ H fun b H1=>if b=true then t D σ H1 else u D σ H1
theorem SM{c:Expr}{a b:List Stmt}{tc:TT}(hc:PT X c tc)(ha:PSs X a t)(hb:PSs X b u):PS X (.If c a b pos) (QY tc t u):=by
 intro pins s σ H D I h
 refine wpAny_If (thn (hc pins s σ H _ I h) fun d s1 ⟨H1,I1,q1⟩=>?_)
 cases d with
 |true=>exact ha pins s1 σ H1 D I1 q1
 |false=>exact hb pins s1 σ H1 D I1 q1
end
@[reducible]noncomputable def TG:=V->St->Hp->(St->Hp->Prop)->Prop
@[reducible]noncomputable def TGs:=List V->St->Hp->(St->Hp->Prop)->Prop
abbrev PG(X:Cx)(target:Expr)(t:TG):Prop :=
 ∀(pins:List (Addr×Obj))(s:Shared)(σ:St)(H:Hp)(v:V)(u:Value)(Q:St->Hp->Prop),Inv X pins σ H s->RelV v u->t v σ H Q->
  wpAny (model X.prog X.w) X.A (assign target X.env u) (fun _ s'=>∃σ' H',Inv X pins σ' H' s'/\Q σ' H') X.xe s
abbrev PGs(X:Cx)(ts:List Expr)(t:TGs):Prop :=
 ∀(pins:List (Addr×Obj))(s:Shared)(σ:St)(H:Hp)(vs:List V)(us:List Value)(Q:St->Hp->Prop),Inv X pins σ H s->Vals vs us->t vs σ H Q->
  wpAny (model X.prog X.w) X.A (assignInOrder ((assignEach ts X.env).map (·.2)) us) (fun _ s'=>∃σ' H',Inv X pins σ' H' s'/\Q σ' H') X.xe s
section
variable{X:Cx}{pos:Pos}
abbrev Eu(i:Nat):TG:=fun v σ H Q=>Q (σ.set i (some v)) H
theorem JS{i:Nat}{x:Str}(hN:X.N.Nodup)(hi:X.N[i]?=some x)(hx:Loc X.env.scope x)(hf:X.fn x=true\/X.env.scope.names.lookup x=some .local:=by first|exact .inl rfl|exact .inr rfl|assumption):PG X (.Name x pos) (Eu i):=by
 intro pins s σ H v u Q I r h
 exact wpAny_assign_Name (Ie I hN hi hx r (fun s' I'=>⟨_,H,I',h⟩) hf)
abbrev QZ:TGs:=fun vs σ H Q=>vs=[]/\Q σ H
abbrev Ow(t:TG)(u:TGs):TGs:=fun vs σ H Q=>∃v r,vs=v::r/\t v σ H fun σ' H'=>u r σ' H' Q
theorem OW:PGs X [] QZ:=by
 intro pins s σ H vs us Q I r h
 obtain⟨e,h⟩:=h
 subst e
 cases r
 exact assignInOrder_nil ⟨σ,H,I,h⟩
theorem Nk{e:Expr}{es:List Expr}{t:TG}{u:TGs}(h1:PG X e t)(h2:PGs X es u)
  (hs:(assignEach (e::es) X.env).map (·.2)=assign e X.env::(assignEach es X.env).map (·.2):=by rfl):PGs X (e::es) (Ow t u):=by
 intro pins s σ H vs us Q I r h
 obtain⟨v,vr,e1,h⟩:=h
 subst e1
 cases r with
 |cons r rr=>
  rw[hs]
  refine assignInOrder_cons (thn (h1 pins s σ H _ _ _ I r h) fun _ s1 ⟨σ1,H1,I1,q1⟩=>?_)
  exact h2 pins s1 σ1 H1 _ _ Q I1 rr q1
abbrev Q0(K:PySem.W.Frag)(n:Nat)(t:TGs):TG:=fun v σ H Q=>∃a xs,v=.ref a/\SqT K H a xs/\xs.length=n/\t xs σ H Q
theorem Q1{es:List Expr}{k:Nat}{t:TGs}{n:Nat}(hc:X.calm=true)(h:PGs X es t)
  (hn:(assignEach es X.env).length=n:=by rfl) (hst:(assignEach es X.env).findIdx? (·.1)=none:=by rfl):PG X (.Tuple es k pos) (Q0 X.K n t):=by
 intro pins s σ H v u Q I r hw
 obtain⟨a,xs,e1,hq,hl,hw⟩:=hw
 subst e1
 cases r
 obtain⟨its,rv,ht,hz⟩:=I.tuple hq
 refine assign_Tuple_tuple (I.ok.hd hc) ht (by simp[hn,<- hl,rv.length]) hst fun h' hx=>?_
 have I1:Inv X pins σ H {s with heap:=h'}:=I.kept (t':=s.toks) fun b o e=>hx b o (aaE (Heap.lt_size e)) e
 exact h pins _ σ H xs _ Q I1 (by simpa using rv) hw
abbrev GR(te:TE)(g:TG):TS:=fun D σ H=>te σ H fun x H1=>g x σ H1 D.nx
theorem Q2{tg e:Expr}{te:TE}{g:TG}(he:PE X e te)(hg:PG X tg g)(hs:swapsWithSole [tg] e pos.line X.env=pure false:=by rfl)(hw:swappedStores [tg] e X.env=pure none:=by rfl)
  (h1:(assignEach [tg] X.env).map (·.2)=[assign tg X.env]:=by rfl):PS X (.Assign [tg] e pos) (GR te g):=by
 intro pins s σ H D I h
 refine wpAny_Assign_stores (thn (he pins s σ H _ I h) fun v s1 ⟨x,H1,I1,r1,q1⟩=>?_) hs hw
 rw[h1]
 exact thn (hg pins s1 σ H1 x v _ I1 r1 q1) fun _ s2 q=>q
theorem LM{i:Nat}{x:Str}{e:Expr}{te:TE}{pos':Pos}(hN:X.N.Nodup)(hi:X.N[i]?=some x)(hx:Loc X.env.scope x)(he:PE X e te)(hs:swapsWith e (some (.Name x pos')) pos.line X.env=pure false:=by rfl)(hf:X.fn x=true\/X.env.scope.names.lookup x=some .local:=by first|exact .inl rfl|exact .inr rfl|assumption) :
  PS X (.Assign [.Name x pos'] e pos) (GR te (Eu i)):=by
 intro pins s σ H D I h
 refine wpAny_Assign_Name (thn (he pins s σ H _ I h) fun v s1 ⟨y,H1,I1,r1,q1⟩=>?_) hs
 exact Ie I1 hN hi hx r1 (fun s2 I2=>⟨_,H1,I2,q1⟩) hf
end
section
variable{X:Cx}{pos:Pos}
abbrev LO(c:TT)(tb:TS):TS:=fun D σ H=>∃W:Nat->St->Hp->Prop,(∃m,W m σ H)/\∀m σ H,W m σ H->
 c σ H fun b H1=>if b=true then ∃N:St->Hp->Prop,(∀σ' H',N σ' H'->∃m',m'<m/\W m' σ' H')/\tb {D with nx:=N,ct:=N,bk:=D.nx} σ H1 else D.nx σ H1
theorem Nl{c:Expr}{body:List Stmt}{tc:TT}{tb:TS}(hp:PassesOwn (model X.prog X.w) X.A X.env X.xe)(hc:PT X c tc)(hb:PSs X body tb):PS X (.While c body [] pos) (LO tc tb):=by
 intro pins s σ H D I h
 obtain⟨W,⟨m0,w0⟩,turn⟩:=h
 refine wpAny_While (codeAny_whileLoop (fun n s'=>∃σ' H',Inv X pins σ' H' s'/\W n σ' H') ?_ m0 ⟨σ,H,I,w0⟩)
 rintro n s1 ⟨σ1,H1,I1,w1⟩
 refine wpAny_passesOwn hp (thn (hc pins s1 σ1 H1 _ I1 (turn n σ1 H1 w1)) fun b s2 ⟨H2,I2,q2⟩=>?_)
 cases b with
 |true=>
  obtain⟨N,hN,q2⟩:=q2
  rw[if_pos rfl]
  refine wpAny_passesOwn hp (thn (hb pins s2 σ1 H2 _ I2 q2) fun f s3 q3=>?_)
  cases f with
  |next=>
   obtain⟨σ3,H3,I3,n3⟩:=q3
   obtain⟨m',hm,w3⟩:=hN σ3 H3 n3
   exact⟨m',hm,σ3,H3,I3,w3⟩
  |cont=>
   obtain⟨σ3,H3,I3,n3⟩:=q3
   obtain⟨m',hm,w3⟩:=hN σ3 H3 n3
   exact⟨m',hm,σ3,H3,I3,w3⟩
  |brk=>exact q3
  |ret v=>exact q3
 |false=>
  rw[if_neg abp]
  exact wpAny_execs_nil ⟨σ1,H2,I2,q2⟩
end
structure It where
 go:Nat->Hp->Prop
 yld:Nat->Hp->V->Hp->Prop
 stop:Nat->Hp->Prop
abbrev FpOk(X:Cx)(pins:List (Addr×Obj))(H:Hp)(b:Addr):Prop :=
 H b=none/\b≠X.env.locals/\b∉X.fs/\(b∈X.ex\/X.s₀.heap.objs.size<=b)/\(∀x c,X.env.cells.lookup x=some c->c≠b)/\∀p∈X.pn++pins,p.1≠b
theorem Inv.fpOk{X:Cx}{pins:List (Addr×Obj)}{σ:St}{H H':Hp}{s:Shared}{b:Addr}(I:Inv X pins σ H s)(hb:s.heap.objs.size<=b)(hn:H' b=none):FpOk X pins H' b:=by
 refine⟨hn,ab4 (aaw I.lt hb),I.nofs hb,.inr (aar I.sz hb),fun x c e z=>?_,fun p hp z=>?_⟩
 ·obtain⟨v,q⟩:=I.cell x c e
  exact absurd (aaw q.lt (by rw[z];exact hb)) (aaS _)
 ·exact absurd (aaw (Heap.lt_size (I.pin p hp).1) (by rw[z];exact hb)) (aaS _)
structure Turn(P:Program)(w:World)(K:PySem.W.Frag)(tg:Expr)(J:It)(fp:List Addr)(it:Addr)(tn:Nat->Heap->Prop):Prop where
 mem:it∈fp
 obj:∀i h,tn i h->∀b∈fp,∃o,h.get? b=some o/\∀v,o.data≠.cell v
 keep:∀i h h',tn i h->(∀b∈fp,∀o,h.get? b=some o->h'.get? b=some o)->tn i h'
 item:∀(X:Cx),X.prog=P->X.w=w->X.K=K->X.calm=true->∀(i:Nat)(pins:List (Addr×Obj))(s:Shared)(σ:St)(H:Hp)(E:Value->Shared->Prop),Inv X pins σ H s->(∀b∈fp,FpOk X pins H b)->tn i s.heap->J.go i H->
  wpAny (model P w) X.A (pyNext (.ref it)) (fun r s1=>∃u,r=some u /\
   wpAny (model P w) X.A (letOwnedTupleGo tg (.ref it) u) (fun _ s2=>∃x H',Inv X pins σ H' s2/\RelV x u/\J.yld i H x H'/\tn (i+1) s2.heap/\∀b∈fp,H' b=none) E s1) E s
 done:∀(X:Cx),X.prog=P->X.w=w->X.K=K->X.calm=true->∀(i:Nat)(pins:List (Addr×Obj))(s:Shared)(σ:St)(H:Hp)(E:Value->Shared->Prop),Inv X pins σ H s->(∀b∈fp,FpOk X pins H b)->tn i s.heap->J.stop i H->
  wpAny (model P w) X.A (pyNext (.ref it)) (fun r s1=>r=none/\Inv X pins σ H s1) E s
 self:∀(A:Around)(i:Nat)(s:Shared)(Q:Value->Shared->Prop)(E:Value->Shared->Prop),tn i s.heap->Q (.ref it) s->wpAny (model P w) A (pyIter (.ref it)) Q E s
@[reducible]noncomputable def TI:=St->Hp->(It->Hp->Prop)->Prop
abbrev PIE(X:Cx)(pins:List (Addr×Obj))(σ:St)(tg:Expr)(R:It->Hp->Prop)(itv:Value)(s2:Shared):Prop :=
 ∃(it:Addr)(fp:List Addr)(tn:Nat->Heap->Prop)(J:It)(H':Hp),itv=.ref it/\Inv X pins σ H' s2/\Turn X.prog X.w X.K tg J fp it tn/\tn 0 s2.heap/\(∀b∈fp,FpOk X pins H' b)/\R J H'
abbrev PI(X:Cx)(tg iter:Expr)(wi:TI):Prop :=
 ∀(pins:List (Addr×Obj))(s:Shared)(σ:St)(H:Hp)(R:It->Hp->Prop),Inv X pins σ H s->wi σ H R->
  wpAny (model X.prog X.w) X.A (eval iter X.env) (fun v s1=>wpAny (model X.prog X.w) X.A (pyIter v) (PIE X pins σ tg R) X.xe s1) X.xe s
theorem Kz{M:Model}{A:Around}{E:Value->Shared->Prop}{s:Shared}{tg:Expr}{it:Addr}{u:Value}{o:Obj}{n:String}{vs:Array Value}{Q:Unit->Shared->Prop}(ho:s.heap.get? it=some o)(hc:o.cls=.type n)(hd:o.data=.fields vs)
  (hn:["enumerate", "zip", "dict_itemiterator", "dict_reverseitemiterator", "odict_iterator", "itertools.zip_longest", "itertools.pairwise"].contains n=false) (hQ:Q () s):wpAny M A (letOwnedTupleGo tg (.ref it) u) Q E s:=by
 unfold letOwnedTupleGo
 cases tg<;>first
  |exact wpAny_pure hQ
  | (cases u<;>first
    |exact wpAny_pure hQ
    | (refine wpAny_bind (wpAny_load ho ?_)
       rw[hc,hd]
       show wpAny M A (if(["enumerate", "zip", "dict_itemiterator", "dict_reverseitemiterator", "odict_iterator", "itertools.zip_longest", "itertools.pairwise"].contains n&&vs[0]?==some (rawInt _))=true then _ else _) Q E s
       rw[if_neg (by intro h;rw[hn,acf]at h;cases h)]
       exact wpAny_pure hQ))
abbrev Itl(K:PySem.W.Frag)(a:Addr):It :=
 ⟨fun i H=>∃xs x,SqL K H a xs/\xs[i]?=some x,fun i H x H'=>H'=H/\∀xs,SqL K H a xs->xs[i]?=some x,fun i H=>∃xs,SqL K H a xs/\xs.length<=i⟩
abbrev Itt(K:PySem.W.Frag)(a:Addr):It :=
 ⟨fun i H=>∃xs x,SqT K H a xs/\xs[i]?=some x,fun i H x H'=>H'=H/\∀xs,SqT K H a xs->xs[i]?=some x,fun i H=>∃xs,SqT K H a xs/\xs.length<=i⟩
abbrev Itr(lo:Int)(n:Nat):It:=⟨fun i _=>i<n,fun i H x H'=>H'=H/\x=.int (lo+i),fun i _=>n<=i⟩
theorem LP{P:Program}{w:World}{K:PySem.W.Frag}{tg:Expr}(a it:Addr):Turn P w K tg (Itl K a) [it] it (fun i h=>h.IsListIter it a i) where
 mem:=by simp
 obj:=fun i h st b hb=>by
  have e:b=it:=by simpa using hb
  subst e
  obtain⟨o,e,c,d⟩:=st
  exact⟨o,e,fun v z=>by rw[d]at z;cases z⟩
 keep:=fun i h h' st k=>st.at fun o e=>k it (by simp) o e
 item:=by
  intro X hP hw hK hc i pins s σ H E I hf st hg
  subst hP hw hK
  obtain⟨xs,x,hq,hx⟩:=hg
  obtain⟨its,rv,p,hz⟩:=I.list hq
  obtain⟨u,hu,ru⟩:=rv.get hx
  obtain⟨f0,f1,f2,f3,f4,f5⟩:=hf it (by simp)
  refine wpAny_pyNext_list_item st p.isList (x:=u) (by simpa using hu) fun h' st' sb=>?_
  have I1:Inv X pins σ H {s with heap:=h'}:=I.turned (t':=s.toks) (fun b o hb e=>(sb.2 b hb).trans e) f0 f1 f3 f4 f5
  obtain⟨o,e,c,d⟩:=id st'
  exact⟨u,rfl,Kz (s:={s with heap:=h'}) e c d (by decide) ⟨x,H,I1,ru,⟨rfl,fun ys hy=>by rw[I.list_inj hy hq];exact hx⟩,st',fun b hb=>(hf b hb).1⟩⟩
 done:=by
  intro X hP hw hK hc i pins s σ H E I hf st hg
  subst hP hw hK
  obtain⟨xs,hq,hx⟩:=hg
  obtain⟨its,rv,p,hz⟩:=I.list hq
  obtain⟨f0,f1,f2,f3,f4,f5⟩:=hf it (by simp)
  have hl:=rv.length
  exact wpAny_pyNext_list_end (I.ok.hd hc) st p.isList (by simp;omega) fun h' eb=>⟨rfl,I.turned (t':=s.toks) (fun b o hb e=>eb b o hb e) f0 f1 f3 f4 f5⟩
 self:=fun _ _ _ _ _ st h=>wpAny_pyIter_listiter st h
theorem KA{P:Program}{w:World}{K:PySem.W.Frag}{tg:Expr}(a it:Addr):Turn P w K tg (Itt K a) [it] it (fun i h=>h.IsTupleIter it a i) where
 mem:=by simp
 obj:=fun i h st b hb=>by
  have e:b=it:=by simpa using hb
  subst e
  obtain⟨o,e,c,d⟩:=st
  exact⟨o,e,fun v z=>by rw[d]at z;cases z⟩
 keep:=fun i h h' st k=>st.at fun o e=>k it (by simp) o e
 item:=by
  intro X hP hw hK hc i pins s σ H E I hf st hg
  subst hP hw hK
  obtain⟨xs,x,hq,hx⟩:=hg
  obtain⟨its,rv,p,hz⟩:=I.tuple hq
  obtain⟨u,hu,ru⟩:=rv.get hx
  obtain⟨f0,f1,f2,f3,f4,f5⟩:=hf it (by simp)
  refine wpAny_pyNext_tuple_item st (show s.heap.IsTuple a its.toArray from p) (x:=u) (by simpa using hu) fun h' st' sb=>?_
  have I1:Inv X pins σ H {s with heap:=h'}:=I.turned (t':=s.toks) (fun b o hb e=>(sb.2 b hb).trans e) f0 f1 f3 f4 f5
  obtain⟨o,e,c,d⟩:=id st'
  exact⟨u,rfl,Kz (s:={s with heap:=h'}) e c d (by decide) ⟨x,H,I1,ru,⟨rfl,fun ys hy=>by rw[I.tuple_inj hy hq];exact hx⟩,st',fun b hb=>(hf b hb).1⟩⟩
 done:=by
  intro X hP hw hK hc i pins s σ H E I hf st hg
  subst hP hw hK
  obtain⟨xs,hq,hx⟩:=hg
  obtain⟨its,rv,p,hz⟩:=I.tuple hq
  obtain⟨f0,f1,f2,f3,f4,f5⟩:=hf it (by simp)
  have hl:=rv.length
  exact wpAny_pyNext_tuple_end (I.ok.hd hc) st (show s.heap.IsTuple a its.toArray from p) (by simp;omega) fun h' eb=>⟨rfl,I.turned (t':=s.toks) (fun b o hb e=>eb b o hb e) f0 f1 f3 f4 f5⟩
 self:=fun _ _ _ _ _ st h=>wpAny_pyIter_tupleiter st h
theorem KB{P:Program}{w:World}{K:PySem.W.Frag}{tg:Expr}(it:Addr)(lo:Int)(n:Nat):Turn P w K tg (Itr lo n) [it] it (fun i h=>IsRangeIter h it (lo+(i:Nat)*1) ((n:Int)-(i:Nat)) 1) where
 mem:=by simp
 obj:=fun i h st b hb=>by
  have e:b=it:=by simpa using hb
  subst e
  exact⟨_,st,fun v z=>by
   have z':Data.fields _=Data.cell v:=z
   cases z'⟩
 keep:=fun i h h' st k=>k it (by simp) _ st
 item:=by
  intro X hP hw hK hc i pins s σ H E I hf st hg
  subst hP hw hK
  obtain⟨f0,f1,f2,f3,f4,f5⟩:=hf it (by simp)
  have W:=Walks.range (prog:=X.prog) (w:=X.w) (I.ok.hd hc) it lo 1 n
  refine W.item i s _ _ hg st fun v h' tk hv st' kk=>?_
  obtain⟨t,rfl⟩:=hv
  have I1:Inv X pins σ H {s with heap:=h',toks:=tk}:=I.turned (fun b o hb e=>kk b o (by simpa using hb) e) f0 f1 f3 f4 f5
  refine⟨_,rfl,Kz (s:={s with heap:=h',toks:=tk}) (n := "range_iterator") st' rfl rfl (by decide) ⟨.int (lo+i),H,I1,⟨t,?_⟩,⟨rfl,rfl⟩,st',fun b hb=>(hf b hb).1⟩⟩
  rw[Int.mul_one]
 done:=by
  intro X hP hw hK hc i pins s σ H E I hf st hg
  subst hP hw hK
  obtain⟨f0,f1,f2,f3,f4,f5⟩:=hf it (by simp)
  exact wpAny_pyNext_range_end (I.ok.hd hc) st (by have:n<=i:=hg;omega) fun h' eb=>⟨rfl,I.turned (t':=s.toks) (fun b o hb e=>eb b o hb e) f0 f1 f3 f4 f5⟩
 self:=fun _ _ _ _ _ st h=>wpAny_pyIter_rangeiter st h
section
variable{X:Cx}{tg:Expr}
theorem Ih{pins:List (Addr×Obj)}{σ:St}{H:Hp}{s:Shared}{R:It->Hp->Prop}{E:Value->Shared->Prop}{lo hi:Int}{t u v:Tok}{tk:Nat}(I:Inv X pins σ H s)(h1:-(2^62)<=lo)(h2:lo<2^62)(h3:-(2^62)<=hi)(h4:hi<2^62)
  (q:R (Itr lo (hi-lo).toNat) H):wpAny (model X.prog X.w) X.A (pyIter (.ref s.heap.objs.size)) (PIE X pins σ tg R) E {s with heap:=s.heap.push {cls:=.type "range",data:=.fields #[.int lo t,.int hi u,.int 1 v]},toks:=tk}:=by
 refine wpAny_pyIter_range (IsRange.new ..) (small_one h1 h2 h3 h4) ?_
 have I1:Inv X pins σ H {s with heap:=s.heap.push {cls:=.type "range",data:=.fields #[.int lo t,.int hi u,.int 1 v]},toks:=tk}:=I.kept fun b o e=>Heap.get?_push_of_some _ e
 refine⟨(s.heap.push {cls:=.type "range",data:=.fields #[.int lo t,.int hi u,.int 1 v]}).objs.size,[(s.heap.push {cls:=.type "range",data:=.fields #[.int lo t,.int hi u,.int 1 v]}).objs.size],_,_,H,rfl,
  I1.kept (t':=tk) fun b o e=>Heap.get?_push_of_some _ e,KB _ lo (hi-lo).toNat,?_,fun b hb=>?_,q⟩
 ·have e1:lo+((0:Nat):Int)*1=lo:=by simp
  have e2:(((hi-lo).toNat:Nat):Int)-((0:Nat):Int)=Builtin.Range.rangeSize lo hi 1:=by rw[rangeSize_one];split<;>omega
  show IsRangeIter _ _ (lo+((0:Nat):Int)*1) ((((hi-lo).toNat:Nat):Int)-((0:Nat):Int)) 1
  rw[e1,e2]
  exact Heap.get?_push_size _ rfl
 ·have e:b=(s.heap.push {cls:=.type "range",data:=.fields #[.int lo t,.int hi u,.int 1 v]}).objs.size:=by simpa using hb
  subst e
  exact I1.fpOk (aaj _) (I1.hok.fresh (aaj _))
abbrev SN(ta:TA):TI:=fun σ H R=>ta σ H fun vs H1=>∃j:Int,vs=[.int j]/\-(2^62)<=j/\j<2^62/\R (Itr 0 j.toNat) H1
abbrev SO(ta:TA):TI:=fun σ H R=>ta σ H fun vs H1=>∃i j:Int,vs=[.int i,.int j]/\(-(2^62)<=i/\i<2^62/\-(2^62)<=j/\j<2^62)/\R (Itr i (j-i).toNat) H1
theorem LQ{a:Expr}{ta:TA}{p pos:Pos}(hg:Gl X "range")(hm:X.mg "range" = none)(ha:PA X [a] ta)(hs:starEach [a] X.env=[(false,eval a X.env)]:=by rfl):PI X tg (.Call (.Name "range" p) [a] [] pos) (SN ta):=by
 intro pins s σ H R I h
 refine Call_ (CD I hg hm boot_range (PyProof.Rows.callWith_type1 (thn (ha pos pins s σ H _ I h) fun us s1 ⟨vs,H1,I1,r1,q1⟩=>?_) hs rfl))
 obtain⟨j,e,q1,q2,q⟩:=q1
 subst e
 cases r1 with
 |cons r rr=>
  cases rr
  obtain⟨t,rfl⟩:=r
  exact call_range_1 (Ih I1 (by omega) (by omega) q1 q2 (by simpa using q))
theorem LR{a b:Expr}{ta:TA}{p pos:Pos}(hg:Gl X "range")(hm:X.mg "range" = none)(ha:PA X [a,b] ta)(hs:starEach [a,b] X.env=[(false,eval a X.env),(false,eval b X.env)]:=by rfl)(hs2:starEach [b] X.env=[(false,eval b X.env)]:=by rfl) :
  PI X tg (.Call (.Name "range" p) [a,b] [] pos) (SO ta):=by
 intro pins s σ H R I h
 refine Call_ (CD I hg hm boot_range (PyProof.Rows.callWith_type1 (thn (ha pos pins s σ H _ I h) fun us s1 ⟨vs,H1,I1,r1,q1⟩=>?_) (by rw[hs,hs2]) (by rw[hs2];rfl)))
 obtain⟨i,j,e,⟨q1,q2,q3,q4⟩,q⟩:=q1
 subst e
 cases r1 with
 |cons r rr=>
  cases rr with
  |cons r' rr=>
   cases rr
   obtain⟨t,rfl⟩:=r
   obtain⟨t',rfl⟩:=r'
   exact call_range_2 (Ih I1 q1 q2 q3 q4 q)
abbrev Q3(wi:TI)(g:TG)(tb:TS):TS:=fun D σ H=>wi σ H fun J H1=>∃W:Nat->Nat->St->Hp->Prop,(∃m,W 0 m σ H1)/\∀i m σ H,W i m σ H->
 (J.stop i H/\D.nx σ H)\/(J.go i H/\∃N:St->Hp->Prop,(∀σ' H',N σ' H'->∃m',m'<m/\W (i+1) m' σ' H')/\∀x H',J.yld i H x H'->g x σ H' fun σ2 H2=>tb {D with nx:=N,ct:=N,bk:=D.nx} σ2 H2)
abbrev ES(fp:List Addr)(h:Heap):List (Addr×Obj):=fp.filterMap fun b=>(h.get? b).map fun o=>(b,o)
theorem Dx{fp:List Addr}{h:Heap}{b:Addr}{o:Obj}(hb:b∈fp)(e:h.get? b=some o):(b,o)∈ES fp h:=aaB.mpr ⟨b,hb,by rw[e];rfl⟩
theorem LT{fp:List Addr}{h:Heap}{p:Addr×Obj}(hp:p∈ES fp h):p.1∈fp/\h.get? p.1=some p.2:=by
 obtain⟨b,hb,e⟩:=aaB.mp hp
 cases q:h.get? b with
 |none=>rw[q]at e;cases e
 |some o=>
  rw[q]at e
  have e':(b,o)=p:=Option.some.inj e
  subst e'
  exact⟨hb,q⟩
theorem Inv.pinned{pins:List (Addr×Obj)}{σ:St}{H:Hp}{s:Shared}{fp:List Addr}(I:Inv X pins σ H s)(hf:∀b∈fp,FpOk X pins H b)(ho:∀b∈fp,∃o,s.heap.get? b=some o/\∀v,o.data≠.cell v):Inv X (pins++ES fp s.heap) σ H s :=
 I.pins_of fun p hp=>(aah.mp hp).elim (fun z=>I.pin p (aai _ z)) fun z=>by
  obtain⟨hb,e⟩:=LT z
  obtain⟨f0,f1,f2,_⟩:=hf p.1 hb
  obtain⟨o,e',d⟩:=ho p.1 hb
  rw[e]at e';cases e'
  exact⟨e,f0,f1,f2,d⟩
theorem Inv.unpinned{pins pl:List (Addr×Obj)}{σ:St}{H:Hp}{s:Shared}(I:Inv X (pins++pl) σ H s):Inv X pins σ H s:=I.pins_of fun p hp=>I.pin p (aai _ (aav _ hp))
theorem LU{iter:Expr}{body:List Stmt}{wi:TI}{g:TG}{tb:TS}{pos:Pos}(hp:PassesOwn (model X.prog X.w) X.A X.env X.xe)(hc:X.calm=true)(hi:PI X tg iter wi)(hg:PG X tg g)(hb:PSs X body tb)
  (hs:∀x,foldedSetIterable iter X.env x=pure x:=by intro _;rfl):PS X (.For tg iter body [] pos) (Q3 wi g tb):=by
 intro pins s σ H D I h
 refine wpAny_For (thn (hi pins s σ H _ I h) fun v s1 h1=>thn h1 fun itv s2 h2=>?_) hs
 obtain⟨it,fp,tn,J,H2,e,I2,T,st2,f2,W,⟨m0,w0⟩,turn⟩:=h2
 subst e
 have stat:∀{H':Hp},(∀b∈fp,H' b=none)->∀b∈fp,FpOk X pins H' b:=fun hn b hb=>⟨hn b hb,(f2 b hb).2⟩
 refine codeAny_forLoop_any (fun n s'=>∃i σ' H',Inv X pins σ' H' s'/\tn i s'.heap/\(∀b∈fp,H' b=none)/\W i n σ' H') ?_ m0 ⟨0,σ,H2,I2,st2,fun b hb=>(f2 b hb).1,w0⟩
 rintro n s3 ⟨i,σ3,H3,I3,st3,fr3,w3⟩
 rcases turn i n σ3 H3 w3 with⟨stop,qn⟩|⟨go,N,hN,step⟩
 ·refine wpAny_passesOwn hp (thn (T.done X rfl rfl rfl hc i pins s3 σ3 H3 X.xe I3 (stat fr3) st3 stop) fun r s4 ⟨hr,I4⟩=>?_)
  subst hr
  exact wpAny_execs_nil ⟨σ3,H3,I4,qn⟩
 ·refine wpAny_passesOwn hp (thn (T.item X rfl rfl rfl hc i pins s3 σ3 H3 X.xe I3 (stat fr3) st3 go) fun r s4 ⟨u,hr,h4⟩=>?_)
  subst hr
  refine wpAny_passesOwn hp (thn h4 fun _ s5 ⟨x,H5,I5,r5,y5,st5,fr5⟩=>?_)
  have I5':=I5.pinned (stat fr5) (T.obj _ _ st5)
  refine wpAny_passesOwn hp (thn (hg _ s5 σ3 H5 x u _ I5' r5 (step x H5 y5)) fun _ s6 ⟨σ6,H6,I6,q6⟩=>?_)
  refine wpAny_passesOwn hp (thn (hb _ s6 σ6 H6 _ I6 q6) fun f s7 q7=>?_)
  have again:∀{σ7:St}{H7:Hp},Inv X (pins++ES fp s5.heap) σ7 H7 s7->N σ7 H7->∃m,m<n/\∃i σ' H',Inv X pins σ' H' s7/\tn i s7.heap/\(∀b∈fp,H' b=none)/\W i m σ' H':=fun {σ7 H7} I7 n7=>by
   obtain⟨m',hm,w7⟩:=hN σ7 H7 n7
   refine⟨m',hm,i+1,σ7,H7,I7.unpinned,T.keep _ _ _ st5 fun b hb o e=>(I7.pin (b,o) (aai _ (aai _ (Dx hb e)))).1,fun b hb=>?_,w7⟩
   obtain⟨o,e,d⟩:=T.obj _ _ st5 b hb
   exact(I7.pin (b,o) (aai _ (aai _ (Dx hb e)))).2.1
  cases f with
  |next=>obtain⟨σ7,H7,I7,n7⟩:=q7;exact again I7 n7
  |cont=>obtain⟨σ7,H7,I7,n7⟩:=q7;exact again I7 n7
  |brk=>obtain⟨σ7,H7,I7,q7⟩:=q7;exact⟨σ7,H7,I7.unpinned,q7⟩
  |ret v=>obtain⟨x7,σ7,H7,I7,r7,q7⟩:=q7;exact⟨x7,σ7,H7,I7.unpinned,r7,q7⟩
end
@[reducible]noncomputable def R2:=V->V->Hp->VK->Prop
abbrev OpR(X:Cx)(f:Value->Value->Sem Value)(r:R2):Prop :=
 ∀(pins:List (Addr×Obj))(s:Shared)(σ:St)(H:Hp)(x y:V)(v u:Value)(Q:VK),Inv X pins σ H s->RelV x v->RelV y u->r x y H Q->
  wpAny (model X.prog X.w) X.A (f v u) (EP X pins σ Q) X.xe s
abbrev UnR(X:Cx)(f:Value->Sem Value)(r:V->Hp->VK->Prop):Prop :=
 ∀(pins:List (Addr×Obj))(s:Shared)(σ:St)(H:Hp)(x:V)(v:Value)(Q:VK),Inv X pins σ H s->RelV x v->r x H Q->
  wpAny (model X.prog X.w) X.A (f v) (EP X pins σ Q) X.xe s
abbrev CF(X:Cx)(f:Value)(r:List V->Hp->VK->Prop):Prop :=
 ∀(pins:List (Addr×Obj))(s:Shared)(σ:St)(H:Hp)(xs:List V)(us:List Value)(Q:VK),Inv X pins σ H s->Vals xs us->r xs H Q->
  wpAny (model X.prog X.w) X.A (call f us) (EP X pins σ Q) X.xe s
abbrev TC(X:Cx)(r:V->Hp->(Bool->Hp->Prop)->Prop):Prop :=
 ∀(pins:List (Addr×Obj))(s:Shared)(σ:St)(H:Hp)(x:V)(v:Value)(Q:Bool->Hp->Prop),Inv X pins σ H s->RelV x v->r x H Q->
  wpAny (model X.prog X.w) X.A (truthy v) (TP X pins σ Q) X.xe s
abbrev tOp(r:R2)(ta tb:TE):TE:=fun σ H Q=>ta σ H fun x H1=>tb σ H1 fun y H2=>r x y H2 Q
abbrev tUn(r:V->Hp->VK->Prop)(ta:TE):TE:=fun σ H Q=>ta σ H fun x H1=>r x H1 Q
abbrev rI(C:Int->Int->Prop)(g:Int->Int->V):R2:=fun x y H Q=>∃i j,x=.int i/\y=.int j/\C i j/\Q (g i j) H
abbrev rI0(g:Int->Int->V):R2:=fun x y H Q=>∃i j,x=.int i/\y=.int j/\Q (g i j) H
abbrev rU(g:Int->V):V->Hp->VK->Prop:=fun x H Q=>∃i,x=.int i/\Q (g i) H
section
variable{X:Cx}{a b c:Expr}{ta tb tc:TE}{pos:Pos}
theorem Nm(ha:PE X a ta)(hb:PE X b tb){pins:List (Addr×Obj)}{s:Shared}{σ:St}{H:Hp}{R:V->V->Hp->Prop}(I:Inv X pins σ H s)
  (h:ta σ H fun x H1=>tb σ H1 fun y H2=>R x y H2) {Q:Value->Shared->Prop} {f:Value->Value->Sem Value}
  (hf:∀v u s2 x y H2,Inv X pins σ H2 s2->RelV x v->RelV y u->R x y H2->wpAny (model X.prog X.w) X.A (f v u) Q X.xe s2) :
  wpAny (model X.prog X.w) X.A (eval a X.env) (fun v s₁=>wpAny (model X.prog X.w) X.A (eval b X.env) (fun u s₂=>wpAny (model X.prog X.w) X.A (f v u) Q X.xe s₂) X.xe s₁) X.xe s:=by
 refine thn (ha pins s σ H _ I h) fun v s1 ⟨x,H1,I1,r1,q1⟩=>?_
 refine thn (hb pins s1 σ H1 _ I1 q1) fun u s2 ⟨y,H2,I2,r2,q2⟩=>?_
 exact hf v u s2 x y H2 I2 r1 r2 q2
theorem SQ{op:Operator}{r:R2}(ho:OpR X (binaryOp op) r)(ha:PE X a ta)(hb:PE X b tb):PE X (.BinOp a op b pos) (tOp r ta tb):=by
 intro pins s σ H Q I h
 exact wpAny_BinOp (Nm ha hb I h fun v u s2 x y H2 I2 rx ry q=>ho pins s2 σ H2 x y v u Q I2 rx ry q)
theorem SR{op:UnaryOp}{r:V->Hp->VK->Prop}(ho:UnR X (unaryOp op) r)(ha:PE X a ta):PE X (.UnaryOp op a pos) (tUn r ta):=by
 intro pins s σ H Q I h
 exact UnaryOp_ (thn (ha pins s σ H _ I h) fun v s1 ⟨x,H1,I1,r1,q1⟩=>ho pins s1 σ H1 x v Q I1 r1 q1)
theorem opI{f:Value->Value->Sem Value}{C:Int->Int->Prop}{g:Int->Int->Int}
  (rule:∀(i j:Int)(t u:Tok)(s:Shared)(Q:Value->Shared->Prop)(E:Value->Shared->Prop),C i j->Q (.int (g i j) s.toks) {s with toks:=s.toks+1}->wpAny (model X.prog X.w) X.A (f (.int i t) (.int j u)) Q E s) :
  OpR X f (rI C fun i j=>.int (g i j)):=by
 intro pins s σ H x y v u Q I rx ry h
 obtain⟨i,j,rfl,rfl,hc,q⟩:=h
 obtain⟨t,rfl⟩:=rx
 obtain⟨t',rfl⟩:=ry
 exact rule i j t t' s _ _ hc ⟨.int (g i j),H,I.tok _,⟨_,rfl⟩,q⟩
theorem Q4{f:Value->Value->Sem Value}{g:Int->Int->Int}
  (rule:∀(i j:Int)(t u:Tok)(s:Shared)(Q:Value->Shared->Prop)(E:Value->Shared->Prop),Q (.int (g i j) s.toks) {s with toks:=s.toks+1}->wpAny (model X.prog X.w) X.A (f (.int i t) (.int j u)) Q E s) :
  OpR X f (rI0 fun i j=>.int (g i j)):=by
 intro pins s σ H x y v u Q I rx ry h
 obtain⟨i,j,rfl,rfl,q⟩:=h
 obtain⟨t,rfl⟩:=rx
 obtain⟨t',rfl⟩:=ry
 exact rule i j t t' s _ _ ⟨.int (g i j),H,I.tok _,⟨_,rfl⟩,q⟩
theorem KC{f:Value->Value->Sem Value}{g:Int->Int->Bool}
  (rule:∀(i j:Int)(t u:Tok)(s:Shared)(Q:Value->Shared->Prop)(E:Value->Shared->Prop),Q (.bool (g i j)) s->wpAny (model X.prog X.w) X.A (f (.int i t) (.int j u)) Q E s) :
  OpR X f (rI0 fun i j=>.bl (g i j)):=by
 intro pins s σ H x y v u Q I rx ry h
 obtain⟨i,j,rfl,rfl,q⟩:=h
 obtain⟨t,rfl⟩:=rx
 obtain⟨t',rfl⟩:=ry
 exact rule i j t t' s _ _ ⟨.bl (g i j),H,I,rfl,q⟩
abbrev Q5(i j:Int):Prop:=0<=j/\j<=1000000/\i.natAbs<2^64
abbrev CMul(i j:Int):Prop:=(-(2^64)<i/\i<2^64)\/(-(2^64)<j/\j<2^64)
theorem CMul.ok{i j:Int}(h:CMul i j):IntMulOk i j:=by
 rcases h with⟨h1,h2⟩|⟨h1,h2⟩
 ·exact .of_left (intBits_le_64 h1 h2)
 ·exact .of_right (intBits_le_64 h1 h2)
theorem Q6:OpR X (binaryOp .Add) (rI0 fun i j=>.int (i+j)):=Q4 fun _ _ _ _ _ _ _ q=>add_int q
theorem Q7:OpR X (binaryOp .Sub) (rI0 fun i j=>.int (i-j)):=Q4 fun _ _ _ _ _ _ _ q=>sub_int q
theorem Q8:OpR X (binaryOp .Mod) (rI (fun _ j=>0<j) fun i j=>.int (i%j)):=opI fun i j _ _ _ _ _ hc q=>by
 have h1:(0:Int)<j:=hc
 exact mod_int' (by omega) (by rw[Int.fmod_eq_emod_of_nonneg i (by omega)];exact q)
theorem Q9:OpR X (binaryOp .Pow) (rI Q5 fun i j=>.int (i^j.toNat)):=opI fun _ _ _ _ _ _ _ hc q=>pow_int_small hc.1 hc.2.1 hc.2.2 q
theorem unI{f:Value->Sem Value}{g:Int->Int}
  (rule:∀(i:Int)(t:Tok)(s:Shared)(Q:Value->Shared->Prop)(E:Value->Shared->Prop),Q (.int (g i) s.toks) {s with toks:=s.toks+1}->wpAny (model X.prog X.w) X.A (f (.int i t)) Q E s) :
  UnR X f (rU fun i=>.int (g i)):=by
 intro pins s σ H x v Q I rx h
 obtain⟨i,rfl,q⟩:=h
 obtain⟨t,rfl⟩:=rx
 exact rule i t s _ _ ⟨.int (g i),H,I.tok _,⟨_,rfl⟩,q⟩
theorem Ra:UnR X (unaryOp .USub) (rU fun i=>.int (-i)):=unI fun _ _ _ _ _ q=>neg_int q
end
section
variable{X:Cx}{a b c:Expr}{ta tb tc:TE}{pos:Pos}
theorem SS:OpR X (compareOp .Lt) (rI0 fun i j=>.bl (decide (i<j))):=KC fun _ _ _ _ _ _ _ q=>lt_int q
theorem ST:OpR X (compareOp .LtE) (rI0 fun i j=>.bl (decide (i<=j))):=KC fun _ _ _ _ _ _ _ q=>le_int q
theorem SU:OpR X (compareOp .Gt) (rI0 fun i j=>.bl (decide (j<i))):=KC fun _ _ _ _ _ _ _ q=>gt_int q
theorem SV:OpR X (compareOp .GtE) (rI0 fun i j=>.bl (decide (j<=i))):=KC fun _ _ _ _ _ _ _ q=>ge_int q
theorem OpR.or{f:Value->Value->Sem Value}{r r':R2}(h:OpR X f r)(h':OpR X f r'):OpR X f (fun x y H Q=>r x y H Q\/r' x y H Q):=by
 intro pins s σ H x y v u Q I rx ry q
 rcases q with q|q
 ·exact h pins s σ H x y v u Q I rx ry q
 ·exact h' pins s σ H x y v u Q I rx ry q
theorem OX{op:CmpOp}{r:R2}(ho:OpR X (compareOp op) r)(ha:PE X a ta)(hb:PE X b tb)(hm:behindInMarks op b=false):PE X (.Compare a [op] [b] pos) (tOp r ta tb):=by
 intro pins s σ H Q I h
 exact wpAny_Compare1 (Nm ha hb I h fun v u s2 x y H2 I2 rx ry q=>ho pins s2 σ H2 x y v u Q I2 rx ry q) hm
abbrev Ox(t:TE):TT:=fun σ H Q=>t σ H fun x H'=>∃k,x=.bl k/\Q k H'
theorem OY{op:CmpOp}{r:R2}(ho:OpR X (compareOp op) r)(ha:PE X a ta)(hb:PE X b tb)(hm:behindInMarks op b=false):PT X (.Compare a [op] [b] pos) (Ox (tOp r ta tb)):=by
 intro pins s σ H Q I h
 refine wpAny_isTrue_Compare1 (thn (ha pins s σ H _ I h) fun v s1 ⟨x,H1,I1,r1,q1⟩=>thn (hb pins s1 σ H1 _ I1 q1) fun u s2 ⟨y,H2,I2,r2,q2⟩=>
  thn (ho pins s2 σ H2 x y v u _ I2 r1 r2 q2) fun c s3 ⟨z,H3,I3,r3,k,e,q3⟩=>?_) hm
 subst e
 cases r3
 exact wpAny_truthy_bool ⟨H3,I3,q3⟩
abbrev Ii(r r':R2)(ta tb tc:TE):TE:=fun σ H Q=>ta σ H fun x H1=>tb σ H1 fun y H2=>r x y H2 fun z H3=>∃k,z=.bl k /\
 (if k=true then tc σ H3 fun w' H4=>r' y w' H4 Q else Q (.bl false) H3)
theorem Nn{op op':CmpOp}{r r':R2}(ho:OpR X (compareOp op) r)(ho':OpR X (compareOp op') r')(ha:PE X a ta)(hb:PE X b tb)(hc:PE X c tc)
  (hm:lastMarks [op,op'] [b,c]=false:=by with_unfolding_all rfl):PE X (.Compare a [op,op'] [b,c] pos) (Ii r r' ta tb tc):=by
 intro pins s σ H Q I h
 refine Compare_chain (thn (ha pins s σ H _ I h) fun v s1 ⟨x,H1,I1,r1,q1⟩=>chain_link (thn (hb pins s1 σ H1 _ I1 q1) fun u s2 ⟨y,H2,I2,r2,q2⟩=>
  thn (ho pins s2 σ H2 x y v u _ I2 r1 r2 q2) fun d s3 ⟨z,H3,I3,r3,k,e,q3⟩=>?_)) hm
 subst e
 cases r3
 refine wpAny_truthy_bool ?_
 cases k with
 |false=>exact ite_ff ⟨.bl false,H3,I3,rfl,q3⟩
 |true=>exact ite_tt (chain_last (thn (hc pins s3 σ H3 _ I3 q3) fun w' s4 ⟨z',H4,I4,r4,q4⟩=>ho' pins s4 σ H4 y z' u w' Q I4 r2 r4 q4))
theorem No{op op':CmpOp}{r r':R2}(ho:OpR X (compareOp op) r)(ho':OpR X (compareOp op') r')(ha:PE X a ta)(hb:PE X b tb)(hc:PE X c tc)
  (hm:lastMarks [op,op'] [b,c]=false:=by with_unfolding_all rfl):PT X (.Compare a [op,op'] [b,c] pos) (Ox (Ii r r' ta tb tc)):=by
 intro pins s σ H Q I h
 refine isTrue_chain (thn (ha pins s σ H _ I h) fun v s1 ⟨x,H1,I1,r1,q1⟩=>test_link (thn (hb pins s1 σ H1 _ I1 q1) fun u s2 ⟨y,H2,I2,r2,q2⟩=>
  thn (ho pins s2 σ H2 x y v u _ I2 r1 r2 q2) fun d s3 ⟨z,H3,I3,r3,k,e,q3⟩=>?_)) hm
 subst e
 cases r3
 refine wpAny_truthy_bool ?_
 cases k with
 |false=>
  obtain⟨k',e',q'⟩:=q3
  cases e'
  exact ite_ff ⟨H3,I3,q'⟩
 |true=>
  refine ite_tt (test_last (thn (hc pins s3 σ H3 _ I3 q3) fun w' s4 ⟨z',H4,I4,r4,q4⟩=>thn (ho' pins s4 σ H4 y z' u w' _ I4 r2 r4 q4) fun d' s5 ⟨z2,H5,I5,r5,k2,e2,q5⟩=>?_))
  subst e2
  cases r5
  exact wpAny_truthy_bool ⟨H5,I5,q5⟩
abbrev Np(K:PySem.W.Frag)(x:V)(H:Hp)(k:Bool):Prop :=
 match x with
 |.non=>k=false
 |.bl b=>k=b
 |.int i=>k=(i != 0)
 |.str y=>y.length<=sizeLine/\k=((y.length:Int) != 0)
 |.byt y=>y.size<=sizeLine/\k=((y.size:Int) != 0)
 |.ref p=>(∃xs,SqL K H p xs/\k=!xs.isEmpty)\/(∃xs,SqT K H p xs/\k=!xs.isEmpty)\/∃kvs,H p=some (.dK kvs)/\k=!kvs.isEmpty
 |_=>False
theorem KD{κ:Type}{kvs:List (κ×V)}{vs:List (κ×Value)}(r:KV kvs vs):(!vs.isEmpty)=!kvs.isEmpty:=by
 cases r<;>rfl
theorem Gb{xs:List V}{its:List Value}(r:Vals xs its):(!its.toArray.isEmpty)=!xs.isEmpty:=by
 cases r<;>simp
theorem Gc:(sizeLine:Nat)<2^63:=by rw[sizeLine_eq];decide
theorem Rb:TC X (fun x H Q=>∃k,Np X.K x H k/\Q k H):=by
 intro pins s σ H x v Q I rx h
 obtain⟨k,e,q⟩:=h
 have hl:=Gc
 have hs:sizeLine=16777216:=sizeLine_eq
 cases x with
 |non=>
  cases rx
  have e':k=false:=e
  subst e'
  exact truthy_none ⟨H,I,q⟩
 |bl b=>
  cases rx
  have e':k=b:=e
  subst e'
  exact wpAny_truthy_bool ⟨H,I,q⟩
 |int i=>
  obtain⟨t,rfl⟩:=rx
  have e':k=(i != 0):=e
  subst e'
  exact PySem.P.truthy_int ⟨H,I,q⟩
 |str y=>
  obtain⟨t,rfl⟩:=rx
  obtain⟨hy,e'⟩:y.length<=sizeLine/\k=((y.length:Int) != 0):=e
  subst e'
  exact PySem.P.truthy_str (by omega) ⟨H,I.tok _,q⟩
 |byt y=>
  obtain⟨t,rfl⟩:=rx
  obtain⟨hy,e'⟩:y.size<=sizeLine/\k=((y.size:Int) != 0):=e
  subst e'
  exact PySem.W.truthy_bytes (by omega) ⟨H,I.tok _,q⟩
 |ref p=>
  cases rx
  have e':(∃xs,SqL X.K H p xs/\k=!xs.isEmpty)\/(∃xs,SqT X.K H p xs/\k=!xs.isEmpty)\/∃kvs,H p=some (.dK kvs)/\k=!kvs.isEmpty:=e
  rcases e' with⟨xs,hx,e'⟩|⟨xs,hx,e'⟩|⟨kvs,hx,e'⟩
  ·subst e'
   obtain⟨its,r,pl,hz⟩:=I.list hx
   have hlen:=r.length
   exact wpAny_truthy_list pl.isList (by simp only[aaq];omega) ⟨H,I.tok _,by rw[Gb r];exact q⟩
  ·subst e'
   obtain⟨its,r,pl,hz⟩:=I.tuple hx
   have hlen:=r.length
   exact truthy_tuple pl (by simp only[aaq];omega) ⟨H,I.tok _,by rw[Gb r];exact q⟩
  ·subst e'
   obtain⟨hz,hS,vs,r,m⟩:kvs.length<=sizeLine/\(p==sysModules)=false/\∃vs,KV kvs vs/\s.heap.DictOf (GP X.prog X.w) p vs:=I.hok p _ hx
   have hlen:kvs.length=vs.length:=Paired.length r
   exact wpAny_truthy_dict hS m (by omega) ⟨H,I.tok _,by rw[KD r];exact q⟩
 |_=>exact nE e
theorem Nq(ha:PE X a ta)(he:∀whole,isTrue a X.env whole=(do let v <- whole;standAt a.pos;holding [v] (truthy v))) :
  PT X a (fun σ H Q=>ta σ H fun x H'=>∃k,Np X.K x H' k/\Q k H'):=by
 intro pins s σ H Q I h
 exact isTrue_plain (thn (ha pins s σ H _ I h) fun v s1 ⟨x,H1,I1,r1,q1⟩=>Rb pins s1 σ H1 x v Q I1 r1 q1) (he _)
theorem KG:OpR X (binaryOp .Add) (fun x y H Q=>∃i j,x=.str i/\y=.str j/\i.length+j.length<=sizeLine/\Q (.str (i++j)) H):=by
 intro pins s σ H x y v u Q I rx ry h
 obtain⟨i,j,rfl,rfl,hz,q⟩:=h
 obtain⟨t,rfl⟩:=rx
 obtain⟨t',rfl⟩:=ry
 exact add_str (fun t' tk=>⟨.str (i++j),H,I.tok _,⟨_,rfl⟩,q⟩) hz
theorem Gd{x:V}{us:List Value}(r:Vals [x] us):∃u,us=[u]/\RelV x u:=by
 cases r with
 |cons r1 r2=>cases r2;exact⟨_,rfl,r1⟩
theorem KH{x y:V}{us:List Value}(r:Vals [x,y] us):∃u w',us=[u,w']/\RelV x u/\RelV y w':=by
 cases r with
 |cons r1 r2=>
  cases r2 with
  |cons r3 r4=>cases r4;exact⟨_,_,rfl,r1,r3⟩
theorem LV(hc:X.calm=true):CF X (.builtin "max") (fun xs H Q=>∃i j,xs=[.int i,.int j]/\Q (.int (if j>i then j else i)) H):=by
 intro pins s σ H xs us Q I r h
 obtain⟨i,j,rfl,q⟩:=h
 obtain⟨u,w',rfl,⟨t,rfl⟩,⟨t',rfl⟩⟩:=KH r
 refine max_two_ints (I.ok.hd hc) fun h' tk k=>⟨_,H,I.kept k,?_,q⟩
 by_cases hj:j>i
 ·rw[if_pos hj,if_pos hj];exact⟨_,rfl⟩
 ·rw[if_neg hj,if_neg hj];exact⟨_,rfl⟩
theorem LW(hc:X.calm=true):CF X (.builtin "min") (fun xs H Q=>∃i j,xs=[.int i,.int j]/\Q (.int (if j<i then j else i)) H):=by
 intro pins s σ H xs us Q I r h
 obtain⟨i,j,rfl,q⟩:=h
 obtain⟨u,w',rfl,⟨t,rfl⟩,⟨t',rfl⟩⟩:=KH r
 refine min_two_ints (I.ok.hd hc) fun h' tk k=>⟨_,H,I.kept k,?_,q⟩
 by_cases hj:j<i
 ·rw[if_pos hj,if_pos hj];exact⟨_,rfl⟩
 ·rw[if_neg hj,if_neg hj];exact⟨_,rfl⟩
theorem LX:CF X (.type "int") (fun xs H Q=>(∃i,xs=[.int i]/\Q (.int i) H)\/∃k,xs=[.bl k]/\Q (.int (if k then 1 else 0)) H):=by
 intro pins s σ H xs us Q I r h
 rcases h with⟨i,rfl,q⟩|⟨k,rfl,q⟩
 ·obtain⟨u,rfl,t,rfl⟩:=Gd r
  exact call_int_int ⟨.int i,H,I,⟨_,rfl⟩,q⟩
 ·obtain⟨u,rfl,r1⟩:=Gd r
  cases r1
  exact call_int_bool ⟨.int (if k then 1 else 0),H,I.tok _,⟨_,rfl⟩,q⟩
end
structure ObjM(h:Heap)(x dx C:Addr)(mA:Str->Option Value):Prop where
 obj:h.get? x=some (PySem.W.instObj C dx)
 ns:h.Ns1 dx mA
 ne:dx≠x
theorem LY{h:Heap}{dx:Addr}{mA:Str->Option Value}(n:h.Ns1 dx mA):∃od,h.get? dx=some od/\∀name,PySem.W.lookIn name od=some (mA name):=by
 obtain⟨o,es,ep,ho,hd,hk,_,hm⟩:=n
 refine⟨o,ho,fun name=>?_⟩
 have e:=hm name
 unfold nsFind findBy at e
 rw[<- Array.find?_toList]at e
 unfold PySem.W.lookIn
 rw[hd]
 dsimp only
 split
 ·rename_i y q
  rw[q]at e
  exact congrArg some e
 ·rename_i q
  rw[q]at e
  have a:es.toList.any (·.refKey)=false:=by
   rw[List.any_eq_false]
   intro y hy
   obtain⟨z,t,hkey⟩:=hk y (Array.mem_toList_iff.mp hy)
   simp[DictEntry.refKey,hkey]
  have a':¬es.toList.any (·.refKey)=true:=by rw[a];exact abp
  rw[if_neg a']
  exact congrArg some e
theorem ObjM.look{h:Heap}{x dx C:Addr}{mA:Str->Option Value}(I:ObjM h x dx C mA):∃od,PySem.W.InstAt h x (PySem.W.instObj C dx) C (some od)/\∀name,PySem.W.lookIn name od=some (mA name) :=
 let ⟨od,ho,hl⟩:=LY I.ns
 ⟨od,⟨I.obj,rfl,rfl,ho⟩,hl⟩
section
variable{P:Program}{w:World}{H H':Hp}{h h':Heap}{a C dx:Addr}{fs fs':List (Str×V)}
theorem OZ(hok:HOk P w H h)(e:H a=some (.ins C dx fs)):∃mA,ObjM h a dx C mA/\(∀f,RelO (fs.lookup f) (mA f))/\PySem.Within mA (fs.map (·.1))/\fs.length<=1000/\H dx=some (.own a):=by
 obtain⟨d,z,ne,ob,mA,n,r,q⟩:=(show ObjOk P w H h a (.ins C dx fs) from hok a _ e)
 exact⟨mA,⟨ob,n,ne⟩,r,q,z,d⟩
end
structure Cls(K:PySem.W.Frag)(C:Addr):Prop where
 pg:PySem.W.plainGet K C Str.empty=true
 hd:PySem.W.hasDictIn K C=true
 po:PySem.W.plainOver K C=true
 sa:PySem.W.findIn K (.ref C) "__setattr__" = some (some (.builtin "object.__setattr__"))
theorem Cls.get{K:PySem.W.Frag}{C:Addr}(c:Cls K C)(f:Str):PySem.W.plainGet K C f=true:=c.pg
section
variable{X:Cx}{pins:List (Addr×Obj)}{σ:St}{H:Hp}{s:Shared}{a C dx:Addr}{fs:List (Str×V)}{f:Str}{v:V}{A:Around}{E:Value->Shared->Prop}
theorem Inv.made(I:Inv X pins σ H s):Inv X pins σ (upd (upd H s.heap.objs.size (.own (s.heap.objs.size+1))) (s.heap.objs.size+1) (.ins C s.heap.objs.size []))
  {s with heap:=(s.heap.push PySem.W.emptyDict).push (PySem.W.instObj C s.heap.objs.size)}:=by
 have e1:(s.heap.push PySem.W.emptyDict).get? s.heap.objs.size=some PySem.W.emptyDict:=Heap.get?_push_size s.heap rfl
 have e2:((s.heap.push PySem.W.emptyDict).push (PySem.W.instObj C s.heap.objs.size)).get? (s.heap.objs.size+1)=some (PySem.W.instObj C s.heap.objs.size):=by
  have:=Heap.get?_push_size (s.heap.push PySem.W.emptyDict) (o:=PySem.W.instObj C s.heap.objs.size) rfl
  rwa [Heap.size_push]at this
 have e3:(s.heap.push PySem.W.emptyDict).Ns s.heap.objs.size (fun _=>none):=⟨PySem.W.emptyDict,#[],_,e1,rfl,(fun e he=>absurd he (by simp)),fun _=>rfl⟩
 have I1:=I.laid (a:=s.heap.objs.size) (o:=.own (s.heap.objs.size+1)) (h':=s.heap.push PySem.W.emptyDict) (t':=s.toks) (fun b u q=>Heap.get?_push_of_some _ q) (aaj _) ⟨_,e1⟩
 refine I1.laid (a:=s.heap.objs.size+1) (o:=.ins C s.heap.objs.size []) (t':=s.toks) (fun b u q=>Heap.get?_push_of_some _ q) (abd (Heap.size_push _ _)) ?_
 have ne:s.heap.objs.size≠s.heap.objs.size+1:=aaE (abz _)
 refine⟨by rw[An ne,AO],aau _,ne,e2,fun _=>none,(Heap.Ns1.of_empty e3).at fun o q=>Heap.get?_push_of_some _ q,fun _=>True.intro,fun y hy=>absurd rfl hy⟩
end
section
variable{X:Cx}{pins:List (Addr×Obj)}{σ:St}{H:Hp}{s:Shared}{A:Around}{E:Value->Shared->Prop}{Q:Value->Shared->Prop}{c:Value}{b:Bool}
inductive TyOf(K:PySem.W.Frag)(H:Hp):V->Value->Prop where
 |non:TyOf K H .non (.type "NoneType")
 |bl (x:Bool):TyOf K H (.bl x) (.type "bool")
 |int (i:Int):TyOf K H (.int i) (.type "int")
 |str (x:Str):TyOf K H (.str x) (.type "str")
 |flt (x:UInt64):TyOf K H (.flt x) (.type "float")
 |lst {a:Addr} {xs:List V} (e:H a=some (.lst xs)):TyOf K H (.ref a) (.type "list")
 |frz {a:Addr} {o:Obj} {xs:List V} (e:H a=some (.frz o (.lst xs))):TyOf K H (.ref a) (.type "list")
 |tup {a:Addr} {xs:List V} (e:H a=some (.tup xs)):TyOf K H (.ref a) (.type "tuple")
 |dK {a:Addr} {kvs:List (Key×V)} (e:H a=some (.dK kvs)):TyOf K H (.ref a) (.type "dict")
 |dT {a:Addr} {kvs:List (List Key×V)} (e:H a=some (.dT kvs)):TyOf K H (.ref a) (.type "dict")
 |ins {a C dx:Addr} {fs:List (Str×V)} (e:H a=some (.ins C dx fs)) (cl:Cls K C) (ha:PySem.W.findIn K (.ref C) "__class__" = some (some (.builtin "object.__class__")))
   (hn:PySem.W.specialIn K (.builtin "object.__class__") "__get__" = some (some (.builtin "getset_descriptor.__get__"))) (htk:PySem.W.takesIn K (.builtin "object.__class__")=some true)
   (hm:PySem.W.mroIn K C (.type "object")=some true):TyOf K H (.ref a) (.ref C)
theorem LZ{x:V}{u t:Value}(I:Inv X pins σ H s)(rx:RelV x u)(ty:TyOf X.K H x t)(e:PySem.W.kitOne X.K t c=some b)(h:∀tk,Q (.bool b) {s with toks:=tk}) :
  wpAny (model X.prog X.w) A (call (.builtin "isinstance") [u,c]) Q E s:=by
 cases ty with
 |non=>cases (show u=Value.none from rx);exact PySem.W.kia_one PySem.W.kitx_none I.kIn True.intro e (fun z=>nomatch z) h
 |bl y=>cases (show u=Value.bool y from rx);exact PySem.W.kia_one PySem.W.kitx_bool I.kIn True.intro e (fun z=>nomatch z) h
 |int i=>obtain⟨t,q⟩:=(show ∃t,u=Value.int i t from rx);cases q;exact PySem.W.kia_one PySem.W.kitx_int I.kIn True.intro e (fun z=>nomatch z) h
 |str y=>obtain⟨t,q⟩:=(show ∃t,u=Value.str y t from rx);cases q;exact PySem.W.kia_one PySem.W.kitx_str I.kIn True.intro e (fun z=>nomatch z) h
 |flt y=>obtain⟨t,q⟩:=(show ∃t,u=Value.float y t from rx);cases q;exact PySem.W.kia_one PySem.W.kitx_float I.kIn True.intro e (fun z=>nomatch z) h
 |@lst a xs ea=>
  cases (show u=Value.ref a from rx)
  obtain⟨_,_,n,_,h1⟩:=(show ObjOk X.prog X.w H s.heap a (.lst xs) from I.hok a _ ea)
  exact PySem.W.kia_one PySem.W.kitx_list I.kIn ⟨_,h1,rfl⟩ e (fun z=>nomatch z) h
 |@frz a ob xs ea=>
  cases (show u=Value.ref a from rx)
  obtain⟨_,_,_,n,_,h1⟩:=(show ObjOk X.prog X.w H s.heap a (.frz ob (.lst xs)) from I.hok a _ ea)
  exact PySem.W.kia_one PySem.W.kitx_list I.kIn ⟨_,h1,rfl⟩ e (fun z=>nomatch z) h
 |@tup a xs ea=>
  cases (show u=Value.ref a from rx)
  obtain⟨_,_,_,p⟩:=(show ObjOk X.prog X.w H s.heap a (.tup xs) from I.hok a _ ea)
  obtain⟨o,h1,h2,_⟩:=p
  exact PySem.W.kia_one PySem.W.kitx_tuple I.kIn ⟨o,h1,h2⟩ e (fun z=>nomatch z) h
 |@dK a kvs ea=>
  cases (show u=Value.ref a from rx)
  obtain⟨_,_,vs,_,p⟩:=(show ObjOk X.prog X.w H s.heap a (.dK kvs) from I.hok a _ ea)
  obtain⟨o,es,ep,h1,h2,_⟩:=p
  exact PySem.W.kia_one PySem.W.kitx_dict I.kIn ⟨o,h1,h2.1⟩ e (fun z=>nomatch z) h
 |@dT a kvs ea=>
  cases (show u=Value.ref a from rx)
  obtain⟨_,_,xs,_,o,es,ep,h1,h2,_⟩:=(show ObjOk X.prog X.w H s.heap a (.dT kvs) from I.hok a _ ea)
  exact PySem.W.kia_one PySem.W.kitx_dict I.kIn ⟨o,h1,h2.1⟩ e (fun z=>nomatch z) h
 |@ins a C dx fs ea cl ha hn htk hm=>
  cases (show u=Value.ref a from rx)
  obtain⟨mA,O,_⟩:=OZ I.hok ea
  obtain⟨od,J,_⟩:=O.look
  exact PySem.W.kia_one (PySem.W.kitx_own (cl.get _) cl.hd ha hn htk hm) I.kIn J e (fun z=>nomatch z) h
end
structure Room(k:Nat)(A:Around):Prop where
 hd:A.handled=none
 dp:A.depth+3*k+5<recursionLimit
 un:A.units+16*k+200<cLine
theorem Room.mono{j k:Nat}{A:Around}(r:Room k A)(h:j<=k):Room j A:=⟨r.hd,by have:=r.dp;omega,by have:=r.un;omega⟩
theorem Room.deeper{k:Nat}{A:Around}(r:Room (k+1) A)(env:Env):Room k (A.deeper env) :=
 ⟨r.hd,by have:=r.dp;show A.depth+1+3*k+5<_;omega,by have:=r.un;show A.units+3+16*k+200<_;omega⟩
theorem Room.depth{k:Nat}{A:Around}(r:Room k A):A.depth<recursionLimit:=by have:=r.dp;omega
theorem Room.units{k:Nat}{A:Around}(r:Room k A):A.units+64<cLine:=by have:=r.un;omega
abbrev Rc:TA:=fun _ H Q=>Q [] H
abbrev Oy(ta:TE)(tr:TA):TA:=fun σ H Q=>ta σ H fun x H1=>tr σ H1 fun xs H2=>Q (x::xs) H2
section
variable{X:Cx}{e:Expr}{es:List Expr}{te:TE}{t:TA}{pos:Pos}
theorem CG:PA X [] Rc:=fun _ _ _ _ H Q I h=>Calls.spliced_nil ⟨[],H,I,.nil,h⟩
theorem Bc(ha:PE X e te)(hr:PA X es t)(hs:starEach (e::es) X.env=(false,eval e X.env)::starEach es X.env:=by rfl):PA X (e::es) (Oy te t):=by
 intro pos pins s σ H Q I h
 rw[hs]
 show wpAny _ _ (spliced ((false,eval e X.env)::backTo pos (starEach es X.env))) _ _ s
 refine Calls.spliced_cons (thn (ha pins s σ H _ I h) fun u s1 ⟨x,H1,I1,r1,q1⟩=>?_)
 exact thn (hr pos pins s1 σ H1 _ I1 q1) fun us s2 ⟨xs,H2,I2,r2,q2⟩=>⟨x::xs,H2,I2,.cons r1 r2,q2⟩
abbrev TD(t:TA):TE:=fun σ H Q=>t σ H fun xs H1=>xs.length<=sizeLine/\∀p,H1 p=none->Q (.ref p) (upd H1 p (.tup xs))
abbrev TF(t:TA):TE:=fun σ H Q=>t σ H fun xs H1=>xs.length<=sizeLine/\∀p,H1 p=none->Q (.ref p) (upd H1 p (.lst xs))
theorem Re{x1}(h:PA X es t):PE X (.Tuple es x1 pos) (TD t):=by
 intro pins s σ H Q I hq
 refine wpAny_Tuple_spliced (thn (h pos pins s σ H _ I hq) fun us s1 ⟨xs,H1,I1,r,z,q⟩=>⟨by rw[<- r.length];exact z,?_⟩)
 have hf:H1 s1.heap.objs.size=none:=I1.hok.fresh (aaj _)
 refine⟨.ref s1.heap.objs.size,upd H1 s1.heap.objs.size (.tup xs),I1.laid (t':=s1.toks) (fun b u e=>Heap.get?_push_of_some _ e) (aaj _) ?_,rfl,q _ hf⟩
 exact⟨z,us,r,⟨_,Heap.get?_push_size _ rfl,rfl,_,rfl⟩⟩
theorem Rf(h:PA X es t):PE X (.List es pos) (TF t):=by
 intro pins s σ H Q I hq
 refine wpAny_List_spliced (thn (h pos pins s σ H _ I hq) fun us s1 ⟨xs,H1,I1,r,z,q⟩=>⟨by rw[<- r.length];exact z,?_⟩)
 have hf:H1 s1.heap.objs.size=none:=I1.hok.fresh (aaj _)
 refine⟨.ref s1.heap.objs.size,upd H1 s1.heap.objs.size (.lst xs),I1.laid (t':=s1.toks) (fun b u e=>Heap.get?_push_of_some _ e) (aaj _) ?_,rfl,q _ hf⟩
 exact⟨z,us,0,r,Heap.get?_push_size _ rfl⟩
end
@[reducible]noncomputable def Sp:=List V->Hp->VK->XK->Prop
@[reducible]noncomputable def CXT:=List Env->Hp->Shared->XK->Value->Shared->Prop
structure Env0(P:Program)(w:World)(K:PySem.W.Frag)(mg:Str->Option Value)(base:Heap)(A:Around)(outer:List Env)(s:Shared)(H:Hp):Prop where
 frames:A.frames=some outer
 mod:Mod K mg base
 bs:∀b o,base.get? b=some o->s.heap.get? b=some o/\H b=none
 bsz:base.objs.size<=s.heap.objs.size
 funs:s.heap.FunFrames base outer
 frf:∀b∈frs outer,H b=none
 hok:HOk P w H s.heap
 bare:AllBare s.gens
abbrev CE(outer:List Env)(P:Program)(w:World)(H:Hp)(s:Shared)(Q:VK)(u:Value)(s':Shared):Prop :=
 ∃v H',s'.os=s.os/\AllBare s'.gens/\Un (frs outer) [] H H' s.heap s'.heap/\HOk P w H' s'.heap/\RelV v u/\Q v H'
abbrev CR(CX:CXT)(outer:List Env)(P:Program)(w:World)(H:Hp)(s:Shared)(Q:VK)(E:XK)(r:Result)(s':Shared):Prop :=
 match r with
 |.ok (.ret u)=>CE outer P w H s Q u s'
 |.ok _=>False
 |.error e=>CX outer H s E e s'
structure FnOk(P:Program)(w:World)(K:PySem.W.Frag)(mg:Str->Option Value)(base:Heap)(CX:CXT)(k:Nat)(f:Addr)(fd:FuncData)(ps:List Str)(sp:Sp):Prop where
 len:∀vs H Q E,sp vs H Q E->vs.length=ps.length
 run:∀(A:Around)(outer:List Env)(s:Shared)(H:Hp)(args:Args)(us:List Value)(vs:List V)(Q:VK)(E:XK),Room k A->Env0 P w K mg base A outer s H->BindsTo s fd args (ps.zip us)->Vals vs us->sp vs H Q E->
  codeAny (model P w) A (.call (.ref f) args) (CR CX outer P w H s Q E) s
theorem FnOk.imp{P:Program}{w:World}{K:PySem.W.Frag}{mg:Str->Option Value}{base:Heap}{CX:CXT}{k:Nat}{f:Addr}{fd:FuncData}{ps:List Str}{sp sp':Sp}(F:FnOk P w K mg base CX k f fd ps sp)
  (h:∀vs H Q E,sp' vs H Q E->sp vs H Q E):FnOk P w K mg base CX k f fd ps sp' :=
 ⟨fun vs H Q E q=>F.len vs H Q E (h _ _ _ _ q),fun A outer s H args us vs Q E hr he hb hv hs=>F.run A outer s H args us vs Q E hr he hb hv (h _ _ _ _ hs)⟩
section
variable{X:Cx}{pins:List (Addr×Obj)}{σ:St}{H:Hp}{s s':Shared}
theorem Inv.env0(I:Inv X pins σ H s):Env0 X.prog X.w X.K X.mg X.base X.A X.stack s H :=
 ⟨I.ok.frames,I.ok.mod,I.bs,aar I.ok.bsz I.sz,I.stack,I.stkFree,I.hok,I.bare⟩
theorem Inv.after{Q:VK}{u:Value}(I:Inv X pins σ H s)(h:CE X.stack X.prog X.w H s Q u s'):EP X pins σ Q u s':=by
 obtain⟨v,H',os,bare,un,hok,r,q⟩:=h
 obtain⟨hh,g,d,t,os'⟩:=s'
 obtain rfl:os'=s.os:=os
 exact⟨v,H',I.call (h':=hh) (g':=g) (d':=d) (t':=t) (ch:=[]) un hok bare (fun b z=>absurd z (by simp)),r,q⟩
end
abbrev Binds(K:PySem.W.Frag)(fd:FuncData)(ps:List Str)(ds:List Value):Prop :=
 ∀(s:Shared)(us:List Value),K.In s.heap->(us++ds).length=ps.length->BindsTo s fd ⟨us,[]⟩ (ps.zip (us++ds))
theorem Binds.all{K:PySem.W.Frag}{fd:FuncData}{ps:List Str}(h:∀us:List Value,us.length=ps.length->bindArgs fd ⟨us,[]⟩=pure (ps.zip us)):Binds K fd ps []:=fun s us _ hl=>by
 rw[aaO]at hl ⊢
 exact .of_eq (h us hl)
abbrev Rg(CX:CXT)(X:Cx)(E:XK):Prop:=∀(pins:List (Addr×Obj))(σ:St)(H:Hp)(s:Shared)(e:Value)(s':Shared),Inv X pins σ H s->CX X.stack H s E e s'->X.xe e s'
structure FnScope(N P:List Str)(sc:Scope):Prop where
 kind:sc.kind=.function
 co:sc.isCoroutine=false
 gen:sc.isGenerator=false
 nd:N.Nodup
 pre:N.take P.length=P
 par:∀x∈P,sc.names.lookup x=some .local\/sc.names.lookup x=some .cell
 nofree:∀y∈sc.names,y.2≠.free
theorem Ht{kindOf:Str->Option NameKind}{x:Str}:∀{binds:List (Str×Value)}{m:Str->Option Value},(∀v,(x,v)∉binds)->bindL kindOf binds m x=m x
 |[],_,_=>rfl
 | (n,v)::r,m,h=>by
  unfold bindL
  rw[Ht fun w hw=>h w (aaa _ hw)]
  split
  ·have:x≠n:=by rintro rfl;exact h v aab
   simp[this]
  ·rfl
theorem Hu{kindOf:Str->Option NameKind}{x:Str}:∀{binds:List (Str×Value)}{m:Str->Option Value},(∀v,(x,v)∉binds)->bindC kindOf binds m x=m x
 |[],_,_=>rfl
 | (n,v)::r,m,h=>by
  unfold bindC
  rw[Hu fun w hw=>h w (aaa _ hw)]
  split
  ·rfl
  ·have:x≠n:=by rintro rfl;exact h v aab
   simp[this]
theorem Hv{kindOf:Str->Option NameKind}{x:Str}{v:Value}:∀{P:List Str}{vs:List Value}{i:Nat}{m:Str->Option Value},P.Nodup->P[i]?=some x->vs[i]?=some v->kindOf x=some .local->
  bindL kindOf (P.zip vs) m x=some v
 |[],_,_,_,_,h,_,_=>by simp at h
 |_::_,[],_,_,_,_,h,_=>by simp at h
 |p::P,w::vs,0,m,nd,h1,h2,hk=>by
  simp at h1 h2;subst h1;subst h2
  show bindL kindOf ((p,w)::P.zip vs) m p=_
  unfold bindL
  rw[Ht fun v hv=>(aat.mp nd).1 (acx hv).1,if_pos hk]
  simp
 |p::P,w::vs,i+1,m,nd,h1,h2,hk=>by
  show bindL kindOf ((p,w)::P.zip vs) m x=_
  unfold bindL
  exact Hv (i:=i) (aat.mp nd).2 (by simpa using h1) (by simpa using h2) hk
theorem Hw{kindOf:Str->Option NameKind}{x:Str}{v:Value}:∀{P:List Str}{vs:List Value}{i:Nat}{m:Str->Option Value},P.Nodup->P[i]?=some x->vs[i]?=some v->kindOf x≠some .local->
  bindC kindOf (P.zip vs) m x=some v
 |[],_,_,_,_,h,_,_=>by simp at h
 |_::_,[],_,_,_,_,h,_=>by simp at h
 |p::P,w::vs,0,m,nd,h1,h2,hk=>by
  simp at h1 h2;subst h1;subst h2
  show bindC kindOf ((p,w)::P.zip vs) m p=_
  unfold bindC
  rw[Hu fun v hv=>(aat.mp nd).1 (acx hv).1,if_neg hk]
  simp
 |p::P,w::vs,i+1,m,nd,h1,h2,hk=>by
  show bindC kindOf ((p,w)::P.zip vs) m x=_
  unfold bindC
  exact Hw (i:=i) (aat.mp nd).2 (by simpa using h1) (by simpa using h2) hk
abbrev AE(N:List Str)(vs:List V):St:=vs.map some++aak (N.length-vs.length) none
abbrev Ax(CX:CXT)(P:Program)(w:World)(K:PySem.W.Frag)(mg:Str->Option Value)(base:Heap)(N:List Str)(qual:Str)(scope:Scope)(f:Addr)(cd:Value)(A:Around)(outer:List Env)(s:Shared)(H:Hp)(E:XK):Cx where
 prog:=P
 w:=w
 K:=K
 mg:=mg
 base:=base
 A:=A.deeper (envOfC qual scope s.heap.objs.size f cd)
 N:=N
 s₀:=s
 H₀:=H
 env:=envOfC qual scope s.heap.objs.size f cd
 outer:=outer
 stack:=envOfC qual scope s.heap.objs.size f cd::outer
 ex:=[]
 calm:=true
 fn:=fun _=>true
 pn:=[]
 xe:=fun e s'=>wpAny (model P w) (A.deeper (envOfC qual scope s.heap.objs.size f cd)) (leaving (envOfC qual scope s.heap.objs.size f cd) e) (fun _ s''=>CX outer H s E e s'') (fun e' s''=>CX outer H s E e' s'') s'
theorem Ij{sc:Scope}{n:Nat}{x:Str}(h:sc.names.lookup x=some .cell):∃c,(cellsFrom n sc.names []).lookup x=some c:=by
 have q:=PySem.W.cellsFrom_some sc.names n [] (.inl h)
 exact aaC.mp q
theorem L3{CX:CXT}{P:Program}{w:World}{K:PySem.W.Frag}{mg:Str->Option Value}{base:Heap}{N ps:List Str}{qual:Str}{scope:Scope}{f:Addr}{cd:Value}{A:Around}{outer:List Env}{s s1:Shared}{H:Hp}{E:XK}{us:List Value}{vs:List V}
  (S:FnScope N ps scope) (hd:A.handled=none) (e0:Env0 P w K mg base A outer s H) (hl:vs.length=ps.length) (r:Vals vs us)
  (x:InCallC s s.heap.objs.size (bindL (envOfC qual scope s.heap.objs.size f cd).kindOf (ps.zip us) fun _=>none) (cellsFrom (s.heap.objs.size+1) scope.names []) (bindC (envOfC qual scope s.heap.objs.size f cd).kindOf (ps.zip us) fun _=>none) s1) :
  Inv (Ax CX P w K mg base N qual scope f cd A outer s H E) [] (AE N vs) H s1:=by
 have hpl:ps.length<=N.length:=by have:=congrArg abe S.pre;rw[abL]at this;omega
 obtain⟨h1,tk,rfl,hk⟩:=x.done
 have noA:∀b:Addr,b∉(Ax CX P w K mg base N qual scope f cd A outer s H E).ex:=fun b z=>absurd (show b∈([]:List Addr) from z) (by simp)
 refine⟨⟨e0.mod,S.kind,rfl,rfl,aaj _,fun y z c h1 h2=>?_,fun y hy=>?_,fun y c _ h=>?_,fun _=>hd,Around.frames_deeper e0.frames,.inr ⟨rfl,rfl⟩,fun b z=>absurd z (noA b),e0.bs,e0.bsz,fun b _ _=>noA b,fun b z=>absurd z (noA b),e0.funs,e0.frf⟩,
  rfl,e0.bare,Un.kept hk,⟨_,x.toInCall.ns,fun i y v h1 h2 h3=>?_⟩,fun y c h=>⟨_,x.cell y c h⟩,e0.hok.fresh (aaj _),fun y c h=>?_,fun p hp=>absurd (show p∈([]:List (Addr×Obj)) from hp) (by simp),e0.hok.kept hk,?_⟩
 ·exact name_of_addr x.apart (PySem.mem_of_lookup h1) (PySem.mem_of_lookup h2)
 ·have hy:scope.names.lookup y=some .cell\/scope.names.lookup y=some .free:=hy
  rcases hy with hy|hy
  ·exact Ij hy
  ·exact absurd rfl (S.nofree _ (PySem.mem_of_lookup hy))
 ·exact aao (x.above y c (PySem.mem_of_lookup h))
 ·have hi:i<vs.length:=by
   unfold AE at h2
   by_cases hi:i<vs.length
   ·exact hi
   ·rw[aaP (by simpa using hi)]at h2
    rw[aa9]at h2
    split at h2<;>cases h2
  have ha:vs[i]?=some v:=by
   unfold AE at h2
   rw[aa2 (by simpa using hi),aal]at h2
   cases e:vs[i]? with
   |none=>rw[e]at h2;cases h2
   |some a=>rw[e]at h2;cases h2;rfl
  obtain⟨u,hu,rv⟩:=r.get ha
  have hp:ps[i]?=some y:=by
   rw[<- S.pre,List.getElem?_take_of_lt (by omega)];exact h1
  have ndP:ps.Nodup:=by rw[<- S.pre];exact S.nd.sublist (List.take_sublist _ _)
  refine⟨u,rv,?_⟩
  rcases S.par y (aae hp) with k|k
  ·exact .inl ⟨k,Hv ndP hp hu k⟩
  ·obtain⟨c,e⟩:=Ij (n:=s.heap.objs.size+1) k
   refine .inr ⟨.inl k,c,e,?_⟩
   have q:=x.cell y c e
   rw[Hw ndP hp hu (by show scope.names.lookup y≠_;rw[k];decide)]at q
   exact q
 ·exact e0.hok.fresh (aao (x.above y c (PySem.mem_of_lookup h)))
 ·unfold AE
  show _=N.length
  rw[aaI,aac,abu]
  omega
theorem SW{CX:CXT}{P:Program}{w:World}{K:PySem.W.Frag}{mg:Str->Option Value}{base:Heap}{k:Nat}{f:Addr}{name qual:Str}{params:Arguments}{body:List Stmt}{scope:Scope}{dV kV doc pm cdv ct oc:Value}{an od:Option Addr}
  {osl:Array (Option Value)} {N ps:List Str} {sp:Sp} (lk:K.lookup f=some ⟨oc,od,.func (PySem.W.fnOf name qual params body scope dV kV doc pm an cdv ct),osl⟩) (hcd:PySem.W.codeIn K cdv qual=true) (S:FnScope N ps scope)
  (len:∀vs H Q E,sp vs H Q E->vs.length=ps.length)
  (hbody:∀(A:Around)(outer:List Env)(s:Shared)(H:Hp)(vs:List V)(Q:VK)(E:XK),Room k (A.deeper (envOfC qual scope s.heap.objs.size f cdv))->sp vs H Q E->
   ∃t,PSs (Ax CX P w K mg base N qual scope f cdv A outer s H E) body t/\t {nx:=fun _ H'=>Q .non H',rt:=Q} (AE N vs) H) :
  FnOk P w K mg base CX (k+1) f (PySem.W.fnOf name qual params body scope dV kV doc pm an cdv ct) ps sp:=by
 refine⟨len,fun A outer s H args us vs Q E hr e0 hb r hsp=>?_⟩
 have hl:=len _ _ _ _ hsp
 have KX:K.In s.heap:=e0.mod.kin.keeps fun b o e=>(e0.bs b o e).1
 have lim:s.heap.NoLimit:=e0.mod.nolimit.keeps fun b o e=>(e0.bs b o e).1
 have hkind:∀y∈ps.zip us,scope.names.lookup y.1=some .local\/(scope.names.lookup y.1=some .cell/\((cellsFrom (s.heap.objs.size+1) scope.names []).lookup y.1).isSome=true):=fun⟨n,v⟩ hy=>by
  rcases S.par n (acx hy).1 with q|q
  ·exact .inl q
  ·exact .inr ⟨q,PySem.W.cellsFrom_some _ _ _ (.inl q)⟩
 refine codeAny_call_function hr.depth (KX _ _ lk) rfl S.co S.gen rfl (PySem.W.codeRec_of KX hcd) (hb _ _ _ _ ?_)
 refine wpAny_newFunctionEnv_cells S.kind hkind fun env he s1 x=>?_
 subst he
 refine⟨lim.keeps x.toInCall.keep,codeAny_func ?_⟩
 obtain⟨t,ht,hq⟩:=hbody A outer s H vs Q E (hr.deeper _) hsp
 have I:Inv (Ax CX P w K mg base N qual scope f cdv A outer s H E) [] (AE N vs) H s1:=L3 S hr.hd e0 hl r x
 refine wpAny_mono (ht [] s1 (AE N vs) H _ I hq) (fun fl s' hs=>?_) fun e s' hs=>hs
 have fin:∀{σ':St}{H':Hp}{v:V}{u:Value},Inv (Ax CX P w K mg base N qual scope f cdv A outer s H E) [] σ' H' s'->RelV v u->Q v H'->CE outer P w H s Q u s' :=
  fun {σ' H' v u} J rv q=>⟨v,H',J.os,J.bare,J.base,J.hok,rv,q⟩
 cases fl with
 |ret u=>
  obtain⟨v,σ',H',J,rv,q⟩:=hs
  exact fin J rv q
 |next=>
  obtain⟨σ',H',J,q⟩:=hs
  exact fin (v:=V.non) (u:=Value.none) J rfl q
 |brk=>
  obtain⟨_,_,_,q⟩:=hs
  exact False.elim q
 |cont=>
  obtain⟨_,_,_,q⟩:=hs
  exact False.elim q
section
variable{X:Cx}{x:Str}{p pos:Pos}{e:Expr}{es:List Expr}{t:TA}{id T:String}{r:List V->Hp->VK->Prop}
abbrev tCB(r:List V->Hp->VK->Prop)(t:TA):TE:=fun σ H Q=>t σ H fun vs H1=>r vs H1 Q
theorem C6(hc:CF X (.builtin id) r)(hg:Gl X x)(hm:X.mg x=none)(hv:bootBuiltins x=some (.builtin id))(ha:PA X (e::es) t)(hn:x≠"__name__":=by decide)(hdb:(x==("__debug__" : Str))=false:=by decide)
  (he:starEach (e::es) X.env=(false,eval e X.env)::starEach es X.env:=by rfl) (hpl:(backTo pos (starEach es X.env)).any (·.1)=false:=by rfl):PE X (.Call (.Name x p) (e::es) [] pos) (tCB r t):=by
 intro pins s σ H Q I h
 refine wpAny_Call_Name_kw (CD I hg hm hv ?_ hn hdb)
 exact PyProof.Rows.callWith_builtin1 (thn (ha pos pins s σ H _ I h) fun us s1 ⟨vs,H1,I1,r1,q1⟩=>hc pins s1 σ H1 vs us Q I1 r1 q1) he hpl
theorem ET(hc:CF X (.type T) r)(hg:Gl X x)(hm:X.mg x=none)(hv:bootBuiltins x=some (.type T))(ha:PA X (e::es) t)(hn:x≠"__name__":=by decide)(hdb:(x==("__debug__" : Str))=false:=by decide)
  (he:starEach (e::es) X.env=(false,eval e X.env)::starEach es X.env:=by rfl) (hpl:(backTo pos (starEach es X.env)).any (·.1)=false:=by rfl):PE X (.Call (.Name x p) (e::es) [] pos) (tCB r t):=by
 intro pins s σ H Q I h
 refine wpAny_Call_Name_kw (CD I hg hm hv ?_ hn hdb)
 exact PyProof.Rows.callWith_type1 (thn (ha pos pins s σ H _ I h) fun us s1 ⟨vs,H1,I1,r1,q1⟩=>hc pins s1 σ H1 vs us Q I1 r1 q1) he hpl
end
end L2
namespace HT
open PySem PyProof.Rows
section
variable{prog:Program}{w:World}{A:Around}{E:Value->Shared->Prop}{s:Shared}
abbrev sIx(n d:Nat):Option Int->Nat
 |none=>d
 |some v=>if v<0 then(v+(n:Int)).toNat else min v.toNat n
theorem Rh(n d:Nat)(hd:d<=n)(o:Option Int):sIx n d o<=n:=by
 cases o with
 |none=>exact hd
 |some v=>
  show(if v<0 then(v+(n:Int)).toNat else min v.toNat n)<=n
  by_cases hv:v<0
  ·rw[if_pos hv];omega
  ·rw[if_neg hv];exact abM _ _
theorem clip_eq(v:Int)(n d:Nat):(if v<0 then max (v+(n:Int)) 0 else min v (n:Int))=((sIx n d (some v):Nat):Int):=by
 show(if v<0 then max (v+(n:Int)) 0 else min v (n:Int))=(((if v<0 then(v+(n:Int)).toNat else min v.toNat n):Nat):Int)
 by_cases hv:v<0
 ·simp only[if_pos hv];omega
 ·simp only[if_neg hv];omega
theorem KI(lo hi:Option Int)(n:Nat):Builtin.Slice.sliceAdjust lo hi 1 (n:Int)=(((sIx n 0 lo:Nat):Int),((sIx n n hi:Nat):Int)):=by
 have h1:¬((1:Int)<0):=by omega
 unfold Builtin.Slice.sliceAdjust
 simp only[h1,if_false]
 refine Prod.ext ?_ ?_
 ·cases lo with
  |none=>rfl
  |some v=>exact clip_eq v n 0
 ·cases hi with
  |none=>rfl
  |some v=>exact clip_eq v n n
theorem KJ(i j:Nat):Builtin.Slice.slicePlaces (i:Int) (j:Int) 1=j-i:=by
 unfold Builtin.Slice.slicePlaces
 have h1:(1:Int)>0:=by omega
 simp only[h1,if_true,Int.ediv_one]
 split<;>omega
theorem Ge{v:Value}{o:Option Int}{Q:Option Int->Shared->Prop}(p:IsPart v o)(h:Q o s):wpAny (model prog w) A (Builtin.Slice.slicePartIndex v) Q E s:=by
 cases p with
 |none=>exact slicePart_none h
 |int i t=>exact slicePart_int h
theorem FO{sl:Addr}{vl vu:Value}{lo hi:Option Int}{n:Nat}{Q:Int×Int×Nat->Shared->Prop}(hs:s.heap.IsSliceOf sl vl vu .none)(pl:IsPart vl lo)(pu:IsPart vu hi)
  (h:Q (((sIx n 0 lo:Nat):Int),1,sIx n n hi-sIx n 0 lo) s):wpAny (model prog w) A (Builtin.Slice.sliceApplied (.ref sl) (pure (n:Int))) Q E s:=by
 obtain⟨os,hos,hcs,hds⟩:=id hs
 unfold Builtin.Slice.sliceApplied Builtin.Slice.sliceFields
 refine wpAny_bind (wpAny_bind (wpAny_field hos hds (x:=vl) rfl (wpAny_bind (wpAny_field hos hds (x:=vu) rfl (wpAny_bind (wpAny_field hos hds (x:=.none) rfl (wpAny_pure ?_)))))))
 refine wpAny_bind (slicePart_none ?_)
 show wpAny _ _ (if((1:Int)==0)=true then _ else _) _ _ s
 rw[if_neg (by decide)]
 refine wpAny_bind (Ge pl (wpAny_bind (Ge pu (wpAny_bind (wpAny_pure ?_)))))
 show wpAny _ _ (match Builtin.Slice.sliceAdjust lo hi 1 (n:Int) with|(lo,hi)=>pure (lo,(1:Int),Builtin.Slice.slicePlaces lo hi 1)) _ _ s
 rw[KI lo hi n]
 show wpAny _ _ (pure (((sIx n 0 lo:Nat):Int),(1:Int),Builtin.Slice.slicePlaces ((sIx n 0 lo:Nat):Int) ((sIx n n hi:Nat):Int) 1)) _ _ s
 rw[KJ]
 exact wpAny_pure h
theorem Nr(xs:Array Value)(i k:Nat):((aam k).filterMap fun(m:Nat)=>xs[((i:Int)+(m:Int)*1).toNat]?).toArray=((xs.toList.drop i).take k).toArray:=by
 have e:(fun(m:Nat)=>xs[((i:Int)+(m:Int)*1).toNat]?)=fun m=>xs[i+m]?:=by
  funext m
  have:((i:Int)+(m:Int)*1).toNat=i+m:=by omega
  rw[this]
 rw[e]
 have:=pick_run xs i k
 rw[List.filterMap_map]at this
 have e2:((fun x=>xs[x]?) ∘ fun x=>i+x)=fun m=>xs[i+m]?:=rfl
 rw[e2]at this
 rw[this]
theorem getItem_tuple_cut{t sl:Addr}{items:Array Value}{vl vu:Value}{lo hi:Option Int}{Q:Value->Shared->Prop}(ht:IsTup s.heap t items)(hs:s.heap.IsSliceOf sl vl vu .none)(pl:IsPart vl lo)(pu:IsPart vu hi)
  (hw:¬(sIx items.size 0 lo=0/\sIx items.size items.size hi=items.size))
  (h:Q (.ref s.heap.objs.size) {s with heap:=s.heap.push {cls:=.type "tuple",data:=.seq ((items.toList.drop (sIx items.size 0 lo)).take (sIx items.size items.size hi-sIx items.size 0 lo)).toArray}})
  (hsz:items.size<=sizeLine):wpAny (model prog w) A (getItem (.ref t) (.ref sl)) Q E s:=by
 have htake:sizeOk (.seq ((items.toList.drop (sIx items.size 0 lo)).take (sIx items.size items.size hi-sIx items.size 0 lo)).toArray):=by
  show((items.toList.drop (sIx items.size 0 lo)).take (sIx items.size items.size hi-sIx items.size 0 lo)).toArray.size<=sizeLine
  rw[aaq,abL,acp,Array.length_toList]
  omega
 have hj:sIx items.size items.size hi<=items.size:=Rh _ _ (aaj _) hi
 obtain⟨os,hos,hcs,hds⟩:=id hs
 have hTs:s.TypeIs (.ref sl) "slice":=⟨os,hos,hcs⟩
 unfold getItem
 try with_reducible refine wpAny_holding ?_
 first|refine wpAny_bind (wpAny_pure ?_)|skip
 refine wpAny_bind (wpAny_sequenceKey ht.typeIs (by decide) ?_)
 refine wpAny_bind (wpAny_callSpecial?_slot (name:=Str.ofString "__getitem__") ht.typeIs PyProof.Rows.slot_tuple_getitem
  (wpAny_call_entry PyProof.Rows.slot_tuple_getitem ht.typeIs entry_tuple_getitem ?_ (args_tuple_getitem _ _)))
 show wpAny _ _ (Builtin.Tuple.tupleItemsOf (.ref t) >>= _) _ _ s
 refine wpAny_bind (tupleItemsOf_ ht ?_)
 refine wpAny_bind (wpAny_typeOf hTs ?_)
 rw[if_pos (by decide)]
 refine wpAny_bind (FO hs pl pu ?_)
 have hno:¬((((sIx items.size 0 lo:Nat):Int)==0&&(1:Int)==1&&(sIx items.size items.size hi-sIx items.size 0 lo)==items.size)=true):=by
  intro q
  rw[aag,aag]at q
  have q1:((sIx items.size 0 lo:Nat):Int)=0:=eq_of_beq q.1.1
  have q2:sIx items.size items.size hi-sIx items.size 0 lo=items.size:=eq_of_beq q.2
  exact hw ⟨by omega,by omega⟩
 show wpAny _ _ (if(((sIx items.size 0 lo:Nat):Int)==0&&(1:Int)==1&&(sIx items.size items.size hi-sIx items.size 0 lo)==items.size)=true then _ else _) _ _ s
 rw[if_neg hno,Nr]
 first
  |exact wpAny_bind (m:=Builtin.Tuple.tupleExact _) (wpAny_newObj_type (wpAny_pure ⟨_,rfl,wpAny_pure h⟩) htake)
  |exact wpAny_bind (m:=Builtin.Tuple.tupleExact _) (wpAny_newObj_type (wpAny_bind (wpAny_pure (wpAny_pure ⟨_,rfl,wpAny_pure h⟩))) htake)
  |exact wpAny_bind (wpAny_bind (m:=Builtin.Tuple.tupleExact _) (wpAny_newObj_type (wpAny_pure (wpAny_pure ⟨_,rfl,wpAny_pure h⟩)) htake))
  |exact wpAny_bind (wpAny_bind (m:=Builtin.Tuple.tupleExact _) (wpAny_newObj_type (wpAny_pure ⟨_,rfl,wpAny_pure h⟩) htake))
end
end HT
namespace L2
open PySem PySem.Spec PyProof.Rows
@[reducible]noncomputable def TO:=St->Hp->(Option Int->Hp->Prop)->Prop
abbrev PO(X:Cx)(e:Option Expr)(t:TO):Prop :=
 ∀(pins:List (Addr×Obj))(s:Shared)(σ:St)(H:Hp)(Q:Option Int->Hp->Prop),Inv X pins σ H s->t σ H Q->
  wpAny (model X.prog X.w) X.A (evalPart e X.env) (fun u s'=>∃o H',Inv X pins σ H' s'/\IsPart u o/\Q o H') X.xe s
abbrev O0:TO:=fun _ H Q=>Q none H
abbrev SX(t:TE):TO:=fun σ H Q=>t σ H fun x H1=>∃i,x=.int i/\Q (some i) H1
theorem KK{ns:List Int}:∀{us:List Value},Vals (ns.map V.int) us->IntsAre us ns:=by
 induction ns with
 |nil=>intro us r;rw[abJ]at r;cases r;exact .nil
 |cons n ns ih=>
  intro us r
  rw[aaG]at r
  cases r with
  |cons r1 r2=>
   obtain⟨t,e⟩:=r1
   subst e
   exact .cons n t (ih r2)
section
variable{X:Cx}{e:Expr}{te:TE}{lo hi:Option Expr}{tl th:TO}{pos p2:Pos}
theorem O1:PO X none O0:=by
 intro pins s σ H Q I h
 rw[evalPart_none]
 exact wpAny_pure ⟨none,H,I,.none,h⟩
theorem O2(h:PE X e te):PO X (some e) (SX te):=by
 intro pins s σ H Q I hw
 rw[evalPart_some]
 refine thn (h pins s σ H _ I hw) fun u s1 ⟨x,H1,I1,r1,q1⟩=>?_
 obtain⟨i,rfl,q⟩:=q1
 obtain⟨t,rfl⟩:=r1
 exact⟨some i,H1,I1,.int i t,q⟩
abbrev SlR(X:Cx)(r:V->Option Int->Option Int->Hp->VK->Prop):Prop :=
 ∀(pins:List (Addr×Obj))(s:Shared)(σ:St)(H:Hp)(x:V)(v vl vu:Value)(lo hi:Option Int)(sl:Addr)(Q:VK),Inv X pins σ H s->RelV x v->s.heap.IsSliceOf sl vl vu .none->IsPart vl lo->IsPart vu hi->r x lo hi H Q->
  ∃T id,typeLookup (.type T) "__getitem__" = pure (some (.builtin id))/\s.TypeIs v T/\wpAny (model X.prog X.w) X.A (getItem v (.ref sl)) (EP X pins σ Q) X.xe s
theorem SlR.or{r r':V->Option Int->Option Int->Hp->VK->Prop}(h:SlR X r)(h':SlR X r'):SlR X (fun x lo hi H Q=>r x lo hi H Q\/r' x lo hi H Q):=by
 intro pins s σ H x v vl vu lo hi sl Q I rx hs pl pu q
 rcases q with q|q
 ·exact h pins s σ H x v vl vu lo hi sl Q I rx hs pl pu q
 ·exact h' pins s σ H x v vl vu lo hi sl Q I rx hs pl pu q
abbrev tSl(r:V->Option Int->Option Int->Hp->VK->Prop)(te:TE)(tl th:TO):TE:=fun σ H Q=>te σ H fun x H1=>tl σ H1 fun l H2=>th σ H2 fun u H3=>r x l u H3 Q
theorem Nt{r:V->Option Int->Option Int->Hp->VK->Prop}(hr:SlR X r)(he:PE X e te)(hl:PO X lo tl)(hu:PO X hi th):PE X (.Subscript e (.Slice lo hi none p2) pos) (tSl r te tl th):=by
 intro pins s σ H Q I h
 refine Subscript_ (thn (he pins s σ H _ I h) fun v s1 ⟨x,H1,I1,r1,q1⟩=>?_)
 refine wpAny_Slice (thn (hl pins s1 σ H1 _ I1 q1) fun vl s2 ⟨l,H2,I2,pl,q2⟩=>thn (hu pins s2 σ H2 _ I2 q2) fun vu s3 ⟨u,H3,I3,pu,q3⟩=>?_)
 rw[evalPart_none]
 refine wpAny_pure ?_
 have I4:Inv X pins σ H3 {s3 with heap:=s3.heap.push {cls:=.type "slice",data:=.fields #[vl,vu,.none]}}:=I3.kept (t':=s3.toks) fun b ob q=>Heap.get?_push_of_some _ q
 obtain⟨T,id,hT,ht,hg⟩:=hr pins {s3 with heap:=s3.heap.push {cls:=.type "slice",data:=.fields #[vl,vu,.none]}} σ H3 x v vl vu l u s3.heap.objs.size Q I4 r1 (Heap.IsSliceOf.new ..) pl pu q3
 show wpAny (model X.prog X.w) X.A (subscriptTail e (.Slice lo hi none p2) v (.ref s3.heap.objs.size)) (EP X pins σ Q) X.xe {s3 with heap:=s3.heap.push {cls:=.type "slice",data:=.fields #[vl,vu,.none]}}
 exact tail_any (ops:=[.ref s3.heap.objs.size,v]) ht hT hg (by with_unfolding_all rfl)
abbrev EU(xs:List V)(lo hi:Option Int):List V:=(xs.drop (HT.sIx xs.length 0 lo)).take (HT.sIx xs.length xs.length hi-HT.sIx xs.length 0 lo)
theorem FH(xs:List V)(lo hi:Option Int):(EU xs lo hi).length<=xs.length:=by
 unfold EU
 rw[abL,acp]
 omega
abbrev TH(K:PySem.W.Frag):V->Option Int->Option Int->Hp->VK->Prop:=fun x lo hi H Q=>∃a xs,x=.ref a/\SqT K H a xs /\
 ¬(HT.sIx xs.length 0 lo=0/\HT.sIx xs.length xs.length hi=xs.length)/\∀p,H p=none->Q (.ref p) (upd H p (.tup (EU xs lo hi)))
theorem Ri:SlR X (TH X.K):=by
 intro pins s σ H x v vl vu lo hi sl Q I rx hs pl pu h
 obtain⟨a,xs,rfl,hx,hw,q⟩:=h
 cases rx
 obtain⟨its,r,ht,hz⟩:=I.tuple hx
 have hlen:its.toArray.size=xs.length:=by rw[aaq];exact r.length.symm
 refine⟨"tuple",_,PyProof.Rows.slot_tuple_getitem.lookup,ht.typeIs,?_⟩
 refine HT.getItem_tuple_cut ht hs pl pu (by rw[hlen];exact hw) ?_ (by rw[hlen];exact hz)
 rw[hlen]
 refine⟨.ref s.heap.objs.size,_,I.laid (t':=s.toks) (o:=.tup (EU xs lo hi)) (fun b ob q=>Heap.get?_push_of_some _ q) (aaj _) ?_,rfl,q _ (I.hok.fresh (aaj _))⟩
 exact⟨aar (FH xs lo hi) hz,_,(r.drop (HT.sIx xs.length 0 lo)).take (HT.sIx xs.length xs.length hi-HT.sIx xs.length 0 lo),IsTup.new _ _⟩
end
abbrev ixN(n:Nat)(i:Int):Option Nat:=if 0<=i then(if i<n then some i.toNat else none) else if -(n:Int)<=i then some (i+n).toNat else none
abbrev atI{α:Type}(xs:List α)(i:Int):Option α:=(ixN xs.length i).bind fun j=>xs[j]?
theorem O4{n:Nat}{i:Int}{j:Nat}(h:ixN n i=some j):seqIndex? i n=some j/\j<n/\-(n:Int)<=i/\i<n:=by
 unfold ixN at h
 by_cases h0:0<=i
 ·rw[if_pos h0]at h
  by_cases h1:i<n
  ·rw[if_pos h1]at h
   have e:i.toNat=j:=Option.some.inj h
   exact⟨by rw[seqIndex_of h0 h1,e],by omega,by omega,h1⟩
  ·rw[if_neg h1]at h;cases h
 ·rw[if_neg h0]at h
  by_cases h1:-(n:Int)<=i
  ·rw[if_pos h1]at h
   have e:(i+n).toNat=j:=Option.some.inj h
   exact⟨by rw[seqIndex_neg (by omega) h1,e],by omega,h1,by omega⟩
  ·rw[if_neg h1]at h;cases h
theorem JT{α:Type}{xs:List α}{i:Int}{v:α}(h:atI xs i=some v):∃j,seqIndex? i xs.length=some j/\xs[j]?=some v/\j<xs.length/\-(xs.length:Int)<=i/\i<xs.length:=by
 unfold atI at h
 cases e:ixN xs.length i with
 |none=>rw[e]at h;cases h
 |some j=>
  rw[e]at h
  obtain⟨h1,h2,h3,h4⟩:=O4 e
  exact⟨j,h1,h,h2,h3,h4⟩
abbrev JU(b:Expr):Prop:=∀o i,subscripted b false o i=operate [o,i] (getItem o i)
abbrev IxR(X:Cx)(r:R2):Prop :=
 ∀(value slice:Expr)(pins:List (Addr×Obj))(s:Shared)(σ:St)(H:Hp)(x y:V)(v u:Value)(Q:VK),Inv X pins σ H s->RelV x v->RelV y u->r x y H Q->
  subscripted slice false v u=operate [v,u] (getItem v u)->wpAny (model X.prog X.w) X.A (subscriptTail value slice v u) (EP X pins σ Q) X.xe s
abbrev MtR(X:Cx)(id:String)(r:V->List V->Hp->VK->Prop):Prop :=
 ∀(pins:List (Addr×Obj))(s:Shared)(σ:St)(H:Hp)(x:V)(xs:List V)(v:Value)(us:List Value)(Q:VK),Inv X pins σ H s->RelV x v->Vals xs us->r x xs H Q->
  wpAny (model X.prog X.w) X.A (call (.builtin id) (v::us)) (EP X pins σ Q) X.xe s
section
variable{X:Cx}{a b:Expr}{ta tb:TE}{pos:Pos}
theorem IxR.or{r r':R2}(h:IxR X r)(h':IxR X r'):IxR X (fun x y H Q=>r x y H Q\/r' x y H Q):=by
 intro value slice pins s σ H x y v u Q I rx ry q hs
 rcases q with q|q
 ·exact h value slice pins s σ H x y v u Q I rx ry q hs
 ·exact h' value slice pins s σ H x y v u Q I rx ry q hs
theorem KM{r:R2}(hr:IxR X r)(ha:PE X a ta)(hb:PE X b tb)(hs:JU b):PE X (.Subscript a b pos) (tOp r ta tb):=by
 intro pins s σ H Q I h
 exact Subscript_ (Nm ha hb I h fun v u s2 x y H2 I2 rx ry q=>hr a b pins s2 σ H2 x y v u Q I2 rx ry q (hs _ _))
abbrev Rj(K:PySem.W.Frag):R2:=fun x y H Q=>∃p xs i v,x=.ref p/\y=.int i/\SqL K H p xs/\atI xs i=some v/\Q v H
abbrev Rk(K:PySem.W.Frag):R2:=fun x y H Q=>∃p xs i v,x=.ref p/\y=.int i/\SqT K H p xs/\atI xs i=some v/\Q v H
theorem GS:IxR X (Rj X.K):=by
 intro value slice pins s σ H x y v u Q I rx ry h hs
 obtain⟨p,xs,i,z,rfl,rfl,hq,he,q⟩:=h
 cases rx
 obtain⟨t,rfl⟩:=ry
 obtain⟨its,r,pl,hz⟩:=I.list hq
 obtain⟨j,h1,h2,h3,h4,h5⟩:=JT he
 obtain⟨w,ew,rw'⟩:=r.get h2
 have hl:=r.length
 have hn:=Gc
 have fin:EP X pins σ Q w s:=⟨z,H,I,rw',q⟩
 by_cases h0:0<=i
 ·have hj:i.toNat=j:=by
   rw[seqIndex_of h0 h5]at h1
   exact Option.some.inj h1
  exact item_listR pl.isList h0 (by omega) (by rw[hj];simpa using ew) fin hs
 ·have hj:(i+(its.toArray.size:Int)).toNat=j:=by
   rw[seqIndex_neg (by omega) h4]at h1
   rw[aaq,<- hl]
   exact Option.some.inj h1
  exact subscriptTail_builtinR (x:=w) pl.isList.typeIs slot_list_getitem.lookup
   (wpAny_getItem_list_neg (Q:=fun r s'=>r=w/\EP X pins σ Q r s') pl.isList (by omega) (by rw[aaq]<;>omega) (by omega) (by rw[hj];simpa using ew) ⟨rfl,fin⟩) hs
theorem L4:IxR X (Rk X.K):=by
 intro value slice pins s σ H x y v u Q I rx ry h hs
 obtain⟨p,xs,i,z,rfl,rfl,hq,he,q⟩:=h
 cases rx
 obtain⟨t,rfl⟩:=ry
 obtain⟨its,r,pl,hz⟩:=I.tuple hq
 obtain⟨j,h1,h2,h3,h4,h5⟩:=JT he
 obtain⟨w,ew,rw'⟩:=r.get h2
 have hl:=r.length
 have hn:=Gc
 have fin:EP X pins σ Q w s:=⟨z,H,I,rw',q⟩
 exact subscriptTail_builtinR (x:=w) pl.typeIs slot_tuple_getitem.lookup
  (getItem_tuple (j:=j) (Q:=fun r s'=>r=w/\EP X pins σ Q r s') pl (by omega) (by omega) (by rw[aaq,<- hl];exact h1) (by simpa using ew) ⟨rfl,fin⟩) hs
theorem Ik(lo hi:Option Int)(n:Nat):(sliceBounds lo hi none n).1=((HT.sIx n 0 lo:Nat):Int)/\(sliceBounds lo hi none n).2.1=((HT.sIx n n hi:Nat):Int)/\(sliceBounds lo hi none n).2.2=1:=by
 refine⟨?_,?_,rfl⟩
 ·cases lo with
  |none=>simp[sliceBounds,HT.sIx]
  |some i=>
   simp only[sliceBounds,HT.sIx,adj,show(1:Int)>0 by decide,if_true]
   by_cases h:i<0
   ·simp only[h,if_true]<;>omega
   ·simp only[h,if_false]<;>omega
 ·cases hi with
  |none=>simp[sliceBounds,HT.sIx]
  |some i=>
   simp only[sliceBounds,HT.sIx,adj,show(1:Int)>0 by decide,if_true]
   by_cases h:i<0
   ·simp only[h,if_true]<;>omega
   ·simp only[h,if_false]<;>omega
theorem HM(its:List Value)(lo hi:Option Int):slicePick its.toArray lo hi none=((its.drop (HT.sIx its.length 0 lo)).take (HT.sIx its.length its.length hi-HT.sIx its.length 0 lo)).toArray:=by
 obtain⟨h1,h2,h3⟩:=Ik lo hi its.toArray.size
 unfold slicePick
 rw[h1,h2,h3]
 simp only[sliceRange_one,pick_run,aaq]<;>rfl
abbrev TJ(K:PySem.W.Frag):V->Option Int->Option Int->Hp->VK->Prop:=fun x lo hi H Q=>∃a xs,x=.ref a/\SqL K H a xs/\∀p,H p=none->Q (.ref p) (upd H p (.lst (EU xs lo hi)))
theorem O5:SlR X (TJ X.K):=by
 intro pins s σ H x v vl vu lo hi sl Q I rx hs pl pu h
 obtain⟨a,xs,rfl,hx,q⟩:=h
 cases rx
 obtain⟨its,r,ht,hz⟩:=I.list hx
 have hlen:=r.length
 refine⟨"list",_,slot_list_getitem.lookup,ht.isList.typeIs,?_⟩
 refine wpAny_getItem_list_slice ht.isList hs pl pu .none (by simp) ?_ (by rw[aaq]<;>omega)
 rw[HM,<- hlen]
 refine⟨.ref s.heap.objs.size,_,I.laid (t':=s.toks) (o:=.lst (EU xs lo hi)) (fun b ob q=>Heap.get?_push_of_some _ q) (aaj _) ?_,rfl,q _ (I.hok.fresh (aaj _))⟩
 exact⟨aar (FH xs lo hi) hz,_,0,(r.drop (HT.sIx xs.length 0 lo)).take (HT.sIx xs.length xs.length hi-HT.sIx xs.length 0 lo),Heap.get?_push_size _ rfl⟩
theorem Il:CF X (.builtin "len") (fun xs H Q=>∃p ys,xs=[.ref p]/\(SqL X.K H p ys\/SqT X.K H p ys)/\Q (.int ys.length) H):=by
 intro pins s σ H xs us Q I r h
 obtain⟨p,ys,rfl,hq,q⟩:=h
 obtain⟨u,rfl,rx⟩:=Gd r
 cases rx
 have hn:=Gc
 rcases hq with hq|hq
 ·obtain⟨its,r',pl,hz⟩:=I.list hq
  have hlen:=r'.length
  exact Calls.call_len_list pl.isList (by simp only[aaq]<;>omega) ⟨.int ys.length,H,I.tok _,⟨s.toks+1,by rw[aaq,hlen]⟩,q⟩
 ·obtain⟨its,r',pl,hz⟩:=I.tuple hq
  have hlen:=r'.length
  exact len_tuple pl (by simp only[aaq]<;>omega) ⟨.int ys.length,H,I.tok _,⟨s.toks+1,by rw[aaq,hlen]⟩,q⟩
theorem Im:CF X (.type "list") (fun xs H Q=>∃p ys,xs=[.ref p]/\(SqL X.K H p ys\/SqT X.K H p ys)/\∀l,H l=none->Q (.ref l) (upd H l (.lst ys))):=by
 intro pins s σ H xs us Q I r h
 obtain⟨p,ys,rfl,hq,q⟩:=h
 obtain⟨u,rfl,rx⟩:=Gd r
 cases rx
 have fin:∀(its:List Value),Vals ys its->ys.length<=sizeLine->∀(h':Heap)(c':Nat),(∀b o',s.heap.get? b=some o'->h'.get? b=some o')->
   h'.get? s.heap.objs.size=some {cls:=.type "list",dict:=none,data:=.seq its.toArray c',slots:=#[]}->EP X pins σ Q (.ref s.heap.objs.size) {s with heap:=h'}:=fun its r' hz h' c' kp e=>
  ⟨.ref s.heap.objs.size,_,I.laid (t':=s.toks) kp (aaj _) (show ObjOk X.prog X.w _ h' _ (.lst ys) from⟨hz,its,c',r',e⟩),rfl,q _ (I.hok.fresh (aaj _))⟩
 rcases hq with hq|hq
 ·obtain⟨its,r',pl,hz⟩:=I.list hq
  have hlen:=r'.length
  obtain⟨o,ho,hc,n,hd⟩:=pl.isList
  exact call_list_seq p (.inl rfl) ho hc hd (fun h' c' kp e=>fin its r' hz h' c' kp e) (by simp only[aaq]<;>omega)
 ·obtain⟨its,r',pl,hz⟩:=I.tuple hq
  have hlen:=r'.length
  obtain⟨o,ho,hc,n,hd⟩:=pl
  exact call_list_seq p (.inr rfl) ho hc hd (fun h' c' kp e=>fin its r' hz h' c' kp e) (by simp only[aaq]<;>omega)
abbrev tyV(K:PySem.W.Frag)(T:String)(x:V)(H:Hp):Prop:=match x with
 |.str _=>T = "str"
 |.int _=>T = "int"
 |.ref p=>(T = "list" /\ ∃xs,SqL K H p xs)\/(T = "tuple" /\ ∃o,K.lookup p=some o/\o.cls=.type "tuple" /\ o.dict=none) \/
   (T = "dict" /\ ((∃kvs,H p=some (.dK kvs))\/∃kvs,H p=some (.dT kvs)))\/(T = "set" /\ ∃S n,H p=some (.set S n))
 |_=>False
theorem L5{pins:List (Addr×Obj)}{σ:St}{H:Hp}{s:Shared}{T:String}{x:V}{v:Value}(I:Inv X pins σ H s)(r:RelV x v)(ty:tyV X.K T x H) :
  s.TypeIs v T/\∀a,v=.ref a->∃ob,s.heap.get? a=some ob/\ob.dict=none:=by
 cases x with
 |str z=>
  obtain⟨t,rfl⟩:=r
  cases (show T = "str" from ty)
  exact⟨typeIs_str s z t,fun _ e=>nomatch e⟩
 |int i=>
  obtain⟨t,rfl⟩:=r
  cases (show T = "int" from ty)
  exact⟨typeIs_int s i t,fun _ e=>nomatch e⟩
 |ref p=>
  cases r
  rcases ty with⟨rfl,xs,hq⟩|⟨rfl,o,hk,hc,hd⟩|⟨rfl,hk⟩|⟨rfl,S,n,hk⟩
  ·obtain⟨its,_,pl,_⟩:=I.list hq
   refine⟨pl.isList.typeIs,fun a e=>?_⟩
   cases e
   obtain⟨o,n,e,c,hd,_⟩:=pl
   exact⟨o,e,hd⟩
  ·refine⟨⟨o,I.kIn p o hk,hc⟩,fun a e=>?_⟩
   cases e
   exact⟨o,I.kIn _ o hk,hd⟩
  ·have z:∃o,s.heap.get? p=some o/\o.ExactDict:=by
    rcases hk with⟨kvs,hk⟩|⟨kvs,hk⟩
    ·obtain⟨_,_,_,_,o,_,_,e,ex,_⟩:=I.hok p _ hk
     exact⟨o,e,ex⟩
    ·obtain⟨_,_,_,_,o,_,_,e,ex,_⟩:=I.hok p _ hk
     exact⟨o,e,ex⟩
   obtain⟨o,e,ex⟩:=z
   refine⟨⟨o,e,ex.1⟩,fun a e2=>?_⟩
   cases e2
   exact⟨o,e,ex.2.1⟩
  ·obtain⟨o,_,_,_,e,ex,_⟩:=I.hok p _ hk
   refine⟨⟨o,e,ex.1⟩,fun a e2=>?_⟩
   cases e2
   exact⟨o,e,ex.2.1⟩
 |_=>exact False.elim ty
abbrev TK(K:PySem.W.Frag)(T:String)(r:V->List V->Hp->VK->Prop)(to:TE):TE:=fun σ H Q=>to σ H fun x H1=>tyV K T x H1/\r x [] H1 Q
abbrev tBM(K:PySem.W.Frag)(T:String)(r:V->List V->Hp->VK->Prop)(to:TE)(t:TA):TE:=fun σ H Q=>to σ H fun x H1=>tyV K T x H1/\t σ H1 fun xs H2=>r x xs H2 Q
variable{o e:Expr}{es:List Expr}{to:TE}{t:TA}{name:Str}{apos cpos:Pos}{T id:String}{r:V->List V->Hp->VK->Prop}
theorem Rl(pa:PlainAttrs T)(slot:Slot T name id)(hty:typeOf (.builtin id)=pure (.type "method_descriptor"))(hm:MtR X id r)(ho:PE X o to)
  (hbase:attributeBase o name X.env (eval o X.env)=eval o X.env:=by rfl) (hline:(apos.endLine==cpos.line)=true:=by rfl):PE X (.Call (.Attribute o name apos) [] [] cpos) (TK X.K T r to):=by
 intro pins s σ H Q I h
 refine wpAny_Call_method0_late hbase hline (thn (ho pins s σ H _ I h) fun v s1 ⟨x,H1,I1,r1,ty,q1⟩=>?_)
 obtain⟨h1,h2⟩:=L5 I1 r1 ty
 exact⟨T,id,pa,slot,hty,h1,h2,Calls.callWith_builtin rfl (PySem.evalArgs_none (hm pins s1 σ H1 x [] v [] Q I1 r1 .nil q1))⟩
theorem KN(pa:PlainAttrs T)(slot:Slot T name id)(hty:typeOf (.builtin id)=pure (.type "method_descriptor"))(hm:MtR X id r)(ho:PE X o to)(ha:PA X (e::es) t)
  (hbase:attributeBase o name X.env (eval o X.env)=eval o X.env:=by rfl)
  (hfew:((backTo cpos (starEach (e::es) X.env)).all (fun x=>!x.1)&&(backToKw cpos (keywordEach [] X.env)).all (fun x=>x.1.isSome)
  &&decide ((e::es).length+([]:List Keyword).length+(if([]:List Keyword).isEmpty then 0 else 1)<30))=true:=by rfl)
  (hline:(apos.endLine==cpos.line)=true:=by rfl) (hs:starEach (e::es) X.env=(false,eval e X.env)::starEach es X.env:=by rfl) (hplain:(backTo cpos (starEach es X.env)).any (·.1)=false:=by rfl) :
  PE X (.Call (.Attribute o name apos) (e::es) [] cpos) (tBM X.K T r to t):=by
 intro pins s σ H Q I h
 refine wpAny_Call_method_late hbase hfew hline rfl (thn (ho pins s σ H _ I h) fun v s1 ⟨x,H1,I1,r1,ty,q1⟩=>?_)
 obtain⟨h1,h2⟩:=L5 I1 r1 ty
 refine⟨T,id,pa,slot,hty,h1,h2,?_⟩
 have hA:=ha cpos pins s1 σ H1 _ I1 q1
 rw[hs]at hA ⊢
 refine Calls.callWith_builtin (by show(false||(backTo cpos (starEach es X.env)).any (·.1))=false;rw[hplain]<;>rfl) (Calls.evalArgs_plain ?_)
 exact thn hA fun us s2 ⟨vs,H2,I2,r2,q2⟩=>hm pins s2 σ H2 x vs v us Q I2 r1 r2 q2
/- xs.append(e),list.index on a module's tuple .. are MtR facts of 06m -/
end
abbrev MtM(X:Cx)(id:String)(r:V->List V->Hp->VK->Prop):Prop :=
 ∀(pins:List (Addr×Obj))(s:Shared)(σ:St)(H:Hp)(x:V)(xs:List V)(v:Value)(us:List Value)(Q:VK),Inv X pins σ H s->RelV x v->Vals xs us->r x xs H Q->
  wpAny (model X.prog X.w) X.A (call (.builtin id) (v::us)) (EP X pins σ Q) X.xe s
theorem Vals.one:∀{x:V}{us:List Value},Vals [x] us->∃u,us=[u]/\RelV x u
 |_,_,.cons r .nil=>⟨_,rfl,r⟩
theorem Vals.two:∀{x y:V}{us:List Value},Vals [x,y] us->∃u v,us=[u,v]/\RelV x u/\RelV y v
 |_,_,_,.cons r (.cons q .nil)=>⟨_,_,rfl,r,q⟩
theorem Vals.zero:∀{us:List Value},Vals [] us->us=[]
 |_,.nil=>rfl
theorem Vals.reverse{xs:List V}{us:List Value}(h:Vals xs us):Vals xs.reverse us.reverse:=by
 induction h with
 |nil=>exact .nil
 |cons r t ih=>rw[acl,acl];exact Vals.append ih (.cons r .nil)
theorem Vals.rep{xs:List V}{us:List Value}(h:Vals xs us):∀k:Nat,Vals (aak k xs).flatten (aak k us).flatten
 |0=>.nil
 |k+1=>by
  rw[abo,abo,abI,abI]
  exact Vals.append h (Vals.rep h k)
theorem Hx(its:List Value):∀(k:Nat)(acc:List Value),
  adk (fun x1 x2=>x1++x2) acc.toArray (aak k its.toArray)=(acc++(aak k its).flatten).toArray
 |0,acc=>by simp
 |k+1,acc=>by
  have e:acc.toArray++its.toArray=(acc++its).toArray:=by simp
  have e2:(acc++its)++(aak k its).flatten=acc++(aak (k+1) its).flatten:=by
   rw[abo,abI,abb]
  rw[<- e2,<- Hx its k (acc++its),<- e,abo,abC]
section
variable{X:Cx}{pins:List (Addr×Obj)}{σ:St}{H:Hp}{s:Shared}{l b:Addr}{xs ys zs:List V}
theorem Inv.lset{its its':List Value}{n:Nat}{f:Array Value->Array Value}{t':Nat}(I:Inv X pins σ H s)(hH:H l=some (.lst xs))
  (e:s.heap.get? l=some {cls:=.type "list",data:=.seq its.toArray n}) (hf:f its.toArray=its'.toArray) (hv:Vals ys its') (hz:ys.length<=sizeLine) :
  Inv X pins σ (upd H l (.lst ys)) {s with heap:=s.heap.update l (Obj.mapSeq f),toks:=t'}:=by
 have q:=PySem.IsL.update e f
 rw[hf]at q
 refine I.write (x:=l) (e:=l) (by rw[hH];exact trivial) (.inl rfl) (fun b' u hb hu=>(Heap.get?_update_other s.heap (Obj.mapSeq f) (Ne.symm hb)).trans hu) ⟨_,q⟩ ?_
 exact⟨hz,its',_,hv,q⟩
theorem Inv.lnew{its:List Value}{t':Nat}(I:Inv X pins σ H s)(hv:Vals ys its)(hz:ys.length<=sizeLine) :
  Inv X pins σ (upd H s.heap.objs.size (.lst ys)) {s with heap:=s.heap.push {cls:=.type "list",data:=.seq its.toArray},toks:=t'} :=
 I.laid (fun _ _ q=>Heap.get?_push_of_some _ q) (aaj _) ⟨hz,its,0,hv,Heap.get?_push_size _ rfl⟩
theorem Inv.fresh(I:Inv X pins σ H s):H s.heap.objs.size=none:=I.hok.fresh (aaj _)
theorem Inv.lstM(I:Inv X pins σ H s)(hH:H l=some (.lst xs)):xs.length<=sizeLine/\∃(its:List Value)(n:Nat),Vals xs its/\xs.length=its.length/\s.heap.get? l=some {cls:=.type "list",data:=.seq its.toArray n}:=by
 obtain⟨z,its,n,r,e⟩:=I.hok l _ hH
 exact⟨z,its,n,r,r.length,e⟩
theorem Io{n:Nat}(h:n<=sizeLine):Builtin.List.listTooLong n=false:=by
 unfold Builtin.List.listTooLong
 exact decide_eq_false (by omega)
end
section
variable{X:Cx}
abbrev Fk:V->List V->Hp->VK->Prop:=fun x vs H Q=>∃l xs y,x=.ref l/\vs=[y]/\H l=some (.lst xs)/\xs.length<sizeLine/\Q .non (upd H l (.lst (xs++[y])))
theorem EV:MtM X "list.append" Fk:=by
 intro pins s σ H x vs v us Q I rx rv h
 obtain⟨l,xs,y,rfl,rfl,hH,hz,q⟩:=h
 cases rx
 obtain⟨u,rfl,ru⟩:=rv.one
 obtain⟨z,its,n,r,hl,e⟩:=I.lstM hH
 refine call_meets F.slot_list_append ⟨_,e,rfl⟩ F.entry_list_append (F.args_list_append_2 _ _) (PySem.list_append l its.toArray n u (by rw[aaq];omega)) ⟨e,?_⟩
 refine⟨.non,_,I.lset (its':=its++[u]) hH e (by simp) (r.append (.cons ru .nil)) ?_,rfl,q⟩
 rw[aaI,abK]
 omega
abbrev L6:V->List V->Hp->VK->Prop:=fun x vs H Q=>∃l xs,x=.ref l/\vs=[]/\H l=some (.lst xs)/\Q .non (upd H l (.lst []))
theorem Nu:MtM X "list.clear" L6:=by
 intro pins s σ H x vs v us Q I rx rv h
 obtain⟨l,xs,rfl,rfl,hH,q⟩:=h
 cases rx
 have hus:=rv.zero
 subst hus
 obtain⟨z,its,n,r,hl,e⟩:=I.lstM hH
 refine call_meets F.slot_list_clear ⟨_,e,rfl⟩ F.entry_list_clear (F.args_list_clear_1 _) (AutoSeq1.list_clear_list_0 l its.toArray n (by rw[aaq];omega)) ⟨e,?_⟩
 exact⟨.non,_,I.lset (its':=[]) (ys:=[]) hH e rfl .nil (aau _),rfl,q⟩
theorem O6{α:Type}(xs:List α)(k:Nat):(aak k xs).flatten.length=k*xs.length:=by
 induction k with
 |zero=>simp
 |succ k ih=>rw[abo,abI,aaI,ih,ab5,ab6]
end
end L2
namespace Att
open PySem PySem.W PySem.Calls PyProof.Rows
theorem Gf{P:Params}{h:Heap}:∀(ns:List Int)(vs:List Value),WellAll P h vs (ns.map WData.int)->IntsAre vs ns:=by
 intro ns
 induction ns with
 |nil=>
  intro vs w
  rw[abJ]at w
  cases w
  exact .nil
 |cons n ns ih=>
  intro vs w
  rw[aaG]at w
  cases w with
  |cons a b=>
   cases a
   exact .cons _ _ (ih _ b)
theorem L7{l:OpenLaw}{n:Nat}(hn:l.most=some n){P:Params}{h:Heap}{args:List WData}{vals:List Value}
  (hpre:l.row.toRowW.claim.pre args=true) (hwl:WellAll P h vals args) :
  ∃a vs ns,vals=[Value.ref a]/\args=[WData.list (ns.map WData.int)]/\h.get? a=some {cls:=.type "list",data:=.seq vs.toArray}/\IntsAre vs ns/\ns.length<=n:=by
 have hsh:WShape.hasAll [] args [.list .int]=true:=(pre_splitW hpre).1
 have hc:l.pre.holds [] {args:=args}=true:=(pre_splitW hpre).2
 obtain⟨d,r,rfl,h1,h2⟩:=hasAllW_cons hsh
 obtain rfl:=hasAllW_nil h2
 obtain⟨xs,rfl,h3⟩:=hasW_list h1
 obtain⟨ns,rfl⟩:=items_int h3
 have hlen:ns.length<=n:=by
  unfold OpenLaw.pre at hc
  have h4:(WTm.not (.lt (.lit (.int (n:Int))) (.len (.arg 0)))).holds [] {args:=[.list (ns.map .int)]}=true:=by
   have h4:=(holds_andW hc).1
   rw[hn]at h4
   exact h4
  have h5:=condW_of h4 (w_not (w_lt w_lit (w_len_list (w_arg rfl))))
  rw[aac]at h5
  refine abN fun q=>?_
  have q':(n:Int)<((ns.length:Nat):Int):=by omega
  first
   | (rw[decide_eq_true q']at h5;exact absurd h5 (by decide))
   | (simp at h5;omega)
 cases hwl with
 |cons w1 w2=>
  cases w2
  cases w1 with
  |list ho hall=>exact⟨_,_,ns,rfl,rfl,ho,Gf ns _ hall,hlen⟩
theorem L8(l:OpenLaw)(args:List WData):l.row.toRowW.claim.post args (.bool true) args=true :=
 postW_of (r:=l.row.toRowW) (X:=(true==true))
  (show WShape.has [] (.bool true) .bool=true by first|rfl|decide|simp[WShape.has,WShape.arms,WShape.armsAll])
  (show(WTm.eq .res (.lit (.bool true))).value [] {args:=args,res:=some (.bool true),after:=args}=some (.bool (true==true)) from w_eq_bool (w_res rfl) w_lit) rfl
theorem attach_call{l:OpenLaw}{n:Nat}{q:Program}{loose:List Str}{XP:(Str->Option Value)->Heap->Prop}{YP:World->Heap->Prop}{d:DefRec}
  (hn:l.most=some n) (hdf:d.params.defaults=[])
  (call:∀(w:World)(s₀ s₁:Shared)(mg mb:Str->Option Value)(fa:Addr)(o:Obj)(pm cd doc:Value)(a:Addr)(vs:List Value)(ns:List Int),
   Ground q loose [] XP w s₀ mg mb s₁.heap->YP w s₁.heap->
   s₁.heap.get? fa=some o->o.data=.func (docDef d.name d.params d.body d.scope pm cd doc)->s₁.heap.CodeRec cd d.name->mg d.name=some (.ref fa)->
   s₁.heap.get? a=some {cls:=.type "list",data:=.seq vs.toArray}->IntsAre vs ns->ns.length<=n->s₁.gens=#[]->
   codeAny (model l.prog w) callerA (.call (.ref fa) ⟨[.ref a],[]⟩) (fun r s'=>r=.ok (.ret (.bool true))/\OldK s₁.heap s'.heap/\s'.os=s₁.os/\AllBare s'.gens) s₁) :
  WalkO q loose XP YP l.row.toRowW d [] (fun f vs=>PySem.call f vs):=by
 intro w s₀ s₁ mg mb G Y fa o pm cd doc dV kV ho hd hcd hD hmg hg args vals as hpre hlay hrd hwl hlo
 obtain rfl:dV=.none:=Dflts.none hD hdf
 obtain rfl:kV=.none:=Dflts.noKw hD
 obtain⟨a,vs,ns,rfl,rfl,hobj,hints,hlen⟩:=L7 hn hpre hwl
 refine enter_call (codeAny_mono (call w s₀ s₁ mg mb fa o pm cd doc a vs ns G Y ho (fd_plain hd) hcd hmg hobj hints hlen hg) fun r s' hq=>?_)
 obtain⟨rfl,h2,h3,h4⟩:=hq
 exact⟨.inl ⟨.bool true,.bool true,[],rfl,fun _=>rfl,.bool true,L8 l _,fun _=>⟨abS.nil,fun _ hm=>(nomatch hm)⟩⟩,h2,h3,h4⟩
end Att
namespace L2
open PySem PySem.Spec PyProof.Rows
theorem Hy:∀{vs:List Value}{ns:List Int},IntsAre vs ns->Vals (ns.map V.int) vs
 |_,_,.nil=>.nil
 |_,_,.cons n t h=>.cons ⟨t,rfl⟩ (Hy h)
abbrev Nv(H:Hp):Prop:=∀b,H b=none\/∃o xs,H b=some (.frz o (.lst xs))
theorem Nw{P:Program}{w:World}{K:PySem.W.Frag}{mg mb:Str->Option Value}{CX:CXT}{k:Nat}{fa a:Addr}{fd:FuncData}{x:Str}{sp:Sp}{s₁:Shared}{vs:List Value}{ns:List Int}
  (KX:K.In s₁.heap) (hns:s₁.heap.Ns mainGlobals mg) (hb:s₁.heap.Ns builtinsNs mb) (hbb:∀x:Str,x≠"__name__" -> mb x=bootBuiltins x) (hlim:s₁.heap.NoLimit) (hg:s₁.gens=#[])
  (ha:s₁.heap.get? a=some {cls:=.type "list",data:=.seq vs.toArray}) (hi:IntsAre vs ns) (hl:ns.length<=sizeLine) (hr:Room k callerA)
  (F:∀base:Heap,K.In base->base.Ns mainGlobals mg->FnOk P w K mg base CX k fa fd [x] sp) (hbind:∀(s:Shared)(u:Value),BindsTo s fd ⟨[u],[]⟩ [(x,u)])
  (hsp:∀H:Hp,Nv H->SqL K H a (ns.map V.int)->sp [.ref a] H (fun v _=>v=.bl true) fun _ _ _=>False)
  (hCX:∀H e s',CX [] H s₁ (fun _ _ _=>False) e s'->False) :
  codeAny (model P w) callerA (.call (.ref fa) ⟨[.ref a],[]⟩) (fun r s'=>r=.ok (.ret (.bool true))/\OldK s₁.heap s'.heap/\s'.os=s₁.os/\AllBare s'.gens) s₁:=by
 have rv:=Hy hi
 have lenV:=hi.length
 have core:∀H:Hp,Nv H->SqL K H a (ns.map V.int)->HOk P w H s₁.heap->(∀b,H b≠none->b=a)->(H a≠none->K.lookup a=none)->
   codeAny (model P w) callerA (.call (.ref fa) ⟨[.ref a],[]⟩) (fun r s'=>r=.ok (.ret (.bool true))/\OldK s₁.heap s'.heap/\s'.os=s₁.os/\AllBare s'.gens) s₁:=by
  intro H hO hS hok hA hK
  have base_of:∀{b:Addr}{o:Obj},s₁.heap.get? b=some o->H b=none->(Et s₁.heap H).get? b=some o:=fun e n=>Nh e n
  have noA:∀{b:Addr}{o:Obj}{es:Array DictEntry}{ep:Nat},s₁.heap.get? b=some o->o.data=.dict es ep->H b=none:=fun {b o es ep} e d=>by
   cases q:H b with
   |none=>rfl
   |some u=>
    have e':b=a:=hA b (by rw[q];simp)
    subst e'
    rw[ha]at e;cases e
    have d':Data.seq vs.toArray _=Data.dict es ep:=d
    cases d'
  have nsK:∀{b:Addr}{m:Str->Option Value},s₁.heap.Ns b m->(Et s₁.heap H).Ns b m:=fun {b m} ⟨o,es,ep,e,d,r⟩=>⟨o,es,ep,base_of e (noA e d),d,r⟩
  have hKb:K.In (Et s₁.heap H):=fun b o e=>base_of (KX b o e) (by
   cases q:H b with
   |none=>rfl
   |some u=>
    have e':b=a:=hA b (by rw[q];simp)
    subst e'
    rw[hK (by rw[q];simp)]at e;cases e)
  have hM:Mod K mg (Et s₁.heap H):=⟨hKb,nsK hns,⟨mb,nsK hb,hbb⟩,let ⟨mc,h1,h2⟩:=hlim;⟨mc,nsK h1,h2⟩⟩
  have e0:Env0 P w K mg (Et s₁.heap H) callerA [] s₁ H:=⟨rfl,hM,fun b o e=>OS e,abd (LF _ _),trivial,fun b hb=>absurd (show b∈([]:List Addr) from hb) (by simp),hok,.of_eq hg⟩
  refine codeAny_mono ((F _ hKb (nsK hns)).run callerA [] s₁ H ⟨[.ref a],[]⟩ [.ref a] [.ref a] _ _ hr e0 (hbind s₁ (.ref a)) (.cons rfl .nil) (hsp H hO hS)) fun r s' h=>?_
  cases r with
  |error e=>exact(hCX H e s' h).elim
  |ok fl=>
   cases fl with
   |next=>exact False.elim h
   |brk=>exact False.elim h
   |cont=>exact False.elim h
   |ret u=>
    obtain⟨v,H',os,bare,un,hok',r',q⟩:=h
    have q':v=.bl true:=q
    subst q'
    obtain rfl:u=Value.bool true:=r'
    refine⟨rfl,OldK.of_keep fun b o e=>?_,os,bare⟩
    cases q:H b with
    |none=>exact un.keep b o e q (by intro z;exact absurd (show b∈([]:List Addr) from z) (by simp)) (by simp)
    |some u=>
     rcases hO b with z|⟨ob,xs,z⟩
     ·rw[q]at z;cases z
     ·have z2:=un.frzs b ob _ z
      obtain⟨e1,_⟩:=hok b _ z
      obtain⟨e2,_⟩:=hok' b _ z2
      rw[e]at e1;cases e1
      exact e2
 cases hk:K.lookup a with
 |some o=>
  have e:=KX a o hk
  rw[ha]at e
  cases e
  refine core (fun _=>none) (fun _=>.inl rfl) (.inr ⟨_,vs.toArray,_,hk,rfl,rfl,rfl,by rw[aaq,lenV];exact hl,by simpa using rv⟩) (fun b u z=>by have z':(none:Option HO)=some u:=z;cases z') (fun b z=>absurd rfl z) fun z=>absurd rfl z
 |none=>
  refine core (fun b=>if b=a then some (.frz {cls:=.type "list",data:=.seq vs.toArray} (.lst (ns.map V.int))) else none) (fun b=>?_) (.inl (.inr ⟨{cls:=.type "list",data:=.seq vs.toArray},if_pos rfl⟩)) (fun b u z=>?_) (fun b z=>?_) fun _=>hk
  ·by_cases hb:b=a
   ·exact .inr ⟨_,_,if_pos hb⟩
   ·exact .inl (if_neg hb)
  ·by_cases hb:b=a
   ·have z':=(if_pos hb).symm.trans z
    cases z'
    subst hb
    exact⟨ha,by rw[aac];exact hl,vs,_,rv,ha⟩
   ·have z':=(if_neg hb).symm.trans z
    cases z'
  ·by_cases hb:b=a
   ·exact hb
   ·exact absurd (if_neg hb) z
theorem O7{l:PySem.W.OpenLaw}{n k:Nat}{q:Program}{loose:List Str}{XP:(Str->Option Value)->Heap->Prop}{YP:World->Heap->Prop}{d:DefRec}{K:Params->PySem.W.Frag}{CX:World->CXT}{sp:World->Sp}{x:Str}
  (hn:l.most=some n) (hn2:n<=sizeLine) (hdf:d.params.defaults=[]) (hr:Room k callerA)
  (hY:∀(w:World)(h:Heap),YP w h->(K w.params).In h)
  (F:∀(w:World)(mg:Str->Option Value)(fa:Addr)(h:Heap),(K w.params).In h->h.Ns mainGlobals mg->mg d.name=some (.ref fa)->
   ∃fd:FuncData,(∀(s:Shared)(u:Value),BindsTo s fd ⟨[u],[]⟩ [(x,u)]) /\
    ∀base:Heap,(K w.params).In base->base.Ns mainGlobals mg->FnOk l.prog w (K w.params) mg base (CX w) k fa fd [x] (sp w))
  (hsp:∀(w:World)(H:Hp)(a:Addr)(ns:List Int),ns.length<=n->Nv H->SqL (K w.params) H a (ns.map V.int)->sp w [.ref a] H (fun v _=>v=.bl true) fun _ _ _=>False)
  (hCX:∀(w:World)(H:Hp)(s:Shared)(e:Value)(s':Shared),CX w [] H s (fun _ _ _=>False) e s'->False) :
  PySem.W.WalkO q loose XP YP l.row.toRowW d [] (fun f vs=>PySem.call f vs):=by
 refine Att.attach_call hn hdf fun w s₀ s₁ mg mb fa o pm cd doc a vs ns G Y ho hd hcd hmg hobj hints hlen hg=>?_
 have KX:=hY w _ Y
 obtain⟨fd,hb,hF⟩:=F w mg fa _ KX G.T.g hmg
 exact Nw KX G.T.g G.T.b G.T.builtins G.T.nolimit hg hobj hints (aar hlen hn2) hr hF hb (fun H hO hS=>hsp w H a ns hlen hO hS) fun H e s'=>hCX w H s₁ e s'
abbrev BK(s:Stmt):Arguments:=match s with
 |.FunctionDef _ a _ _ _ _ _ _ _ _=>a
 |_=>{posonlyargs:=[],args:=[],vararg:=none,kwonlyargs:=[],kw_defaults:=[],kwarg:=none,defaults:=[]}
abbrev AG(s:Stmt):List Stmt:=match s with
 |.FunctionDef _ _ b _ _ _ _ _ _ _=>b
 |_=>[]
abbrev Ak(s:Stmt):Scope:=match s with
 |.FunctionDef _ _ _ _ _ _ sc _ _ _=>sc
 |_=>{kind:=.function,names:=[],isGenerator:=false,isCoroutine:=false}
structure Fun(K:PySem.W.Frag)(x qual:Str)(st:Stmt)(f:Addr)(fd:FuncData):Prop where
 ex:∃(oc:Value)(od:Option Addr)(kV doc pm:Value)(an:Option Addr)(cdv ct:Value)(osl:Array (Option Value)),
  fd=PySem.W.fnOf x qual (BK st) (AG st) (Ak st) .none kV doc pm an cdv ct/\K.lookup f=some ⟨oc,od,.func fd,osl⟩/\PySem.W.codeIn K cdv qual=true
 kp:PySem.W.keepIn K (.ref f)=true
section
variable{P:Program}{w:World}{K:PySem.W.Frag}{mg:Str->Option Value}{base:Heap}
theorem Fun.binds{x qual:Str}{st:Stmt}{f:Addr}{fd:FuncData}{ps:List Str}(F:Fun K x qual st f fd)
  (h:∀(kV doc pm:Value)(an:Option Addr)(cdv ct:Value)(us:List Value),us.length=ps.length->bindArgs (PySem.W.fnOf x qual (BK st) (AG st) (Ak st) .none kV doc pm an cdv ct) ⟨us,[]⟩=pure (ps.zip us)):Binds K fd ps []:=by
 obtain⟨oc,od,kV,doc,pm,an,cdv,ct,osl,rfl,lk,hcd⟩:=F.ex
 exact .all (h kV doc pm an cdv ct)
theorem L9{x qual:Str}{st:Stmt}{f:Addr}{oc:Value}{od an:Option Addr}{osl:Array (Option Value)}{kV doc pm cdv ct:Value}(l:K.lookup f=some ⟨oc,od,.func (PySem.W.fnOf x qual (BK st) (AG st) (Ak st) .none kV doc pm an cdv ct),osl⟩)
  (c:PySem.W.codeIn K cdv qual=true) (k:PySem.W.keepIn K (.ref f)=true):Fun K x qual st f (PySem.W.fnOf x qual (BK st) (AG st) (Ak st) .none kV doc pm an cdv ct):=⟨⟨oc,od,kV,doc,pm,an,cdv,ct,osl,rfl,l,c⟩,k⟩
end
abbrev Same(H H':Hp):Prop:=∀b o,H b=some o->H' b=some o
theorem Same.refl(H:Hp):Same H H:=fun _ _ h=>h
theorem Same.trans{H H1 H2:Hp}(a:Same H H1)(b:Same H1 H2):Same H H2:=fun c o h=>b c o (a c o h)
theorem Same.free{H H':Hp}(e:Same H H'){l:Addr}(h:H' l=Option.none):H l=Option.none:=by
 cases q:H l with
 |none=>rfl
 |some o=>
  rw[e l o q]at h
  cases h
theorem Same.seq{K:PySem.W.Frag}{H H':Hp}{a:Addr}{xs:List V}(e:Same H H')(h:SqL K H a xs):SqL K H' a xs:=by
 rcases h with (h|⟨o,h⟩)|h
 ·exact .inl (.inl (e _ _ h))
 ·exact .inl (.inr ⟨o,e _ _ h⟩)
 ·exact .inr h
end L2
end
section
namespace L2
open PySem PySem.Spec PyProof.Rows
section
variable{κ:Type}[DecidableEq κ]
abbrev Dq(kvs:List (κ×V))(k:κ):Option V:=(kvs.find? fun kv=>decide (kv.1=k)).map (·.2)
abbrev EW(kvs:List (κ×V))(k:κ)(v:V):List (κ×V) :=
 if(kvs.any fun kv=>decide (kv.1=k))=true then kvs.map (fun kv=>if kv.1=k then(kv.1,v) else kv) else kvs++[(k,v)]
abbrev Oz(kvs:List (κ×V))(k:κ):List (κ×V):=kvs.filter fun kv=>decide (kv.1≠k)
theorem FP{p:κ×V}{r:List (κ×V)}{k:κ}(e:p.1=k):Dq (p::r) k=some p.2:=by simp[Dq,abD,e]
theorem FQ{p:κ×V}{r:List (κ×V)}{k:κ}(e:¬p.1=k):Dq (p::r) k=Dq r k:=by simp[Dq,abD,e]
theorem Ip(k:κ):∀kvs:List (κ×V),(kvs.any fun kv=>decide (kv.1=k))=(Dq kvs k).isSome
 |[]=>rfl
 |p::r=>by
  rw[abT]
  by_cases e:p.1=k
  ·simp only[FP e,decide_eq_true e,Bool.true_or,Option.isSome_some]
  ·rw[FQ e,decide_eq_false e,Bool.false_or];exact Ip k r
theorem RelO.isSome_eq{o:Option V}{u:Option Value}(r:RelO o u):o.isSome=u.isSome:=by
 cases o with
 |none=>cases u with
  |none=>rfl
  |some _=>exact nE r
 |some _=>cases u with
  |none=>exact nE r
  |some _=>rfl
theorem RelO.getD{o:Option V}{u:Option Value}{d:V}{d':Value}(r:RelO o u)(rd:RelV d d'):RelV (o.getD d) (u.getD d'):=by
 cases o with
 |none=>cases u with
  |none=>exact rd
  |some _=>exact nE r
 |some _=>cases u with
  |none=>exact nE r
  |some _=>exact r
theorem KV.val{kvs:List (κ×V)}{vs:List (κ×Value)}(r:KV kvs vs)(k:κ):RelO (Dq kvs k) (valueAt vs k):=by
 unfold KV at r
 induction r with
 |nil=>exact True.intro
 |@cons p q ps qs h t ih=>
  obtain⟨h1,h2⟩:=h
  by_cases e:p.1=k
  ·have e':q.1=k:=h1.symm.trans e
   have b:valueAt (q::qs) k=some q.2:=by simp[valueAt,abD,e']
   rw[FP e,b];exact h2
  ·have e':¬q.1=k:=fun z=>e (h1.trans z)
   have b:valueAt (q::qs) k=valueAt qs k:=by simp[valueAt,abD,e']
   rw[FQ e,b];exact ih
theorem KV.any{kvs:List (κ×V)}{vs:List (κ×Value)}(r:KV kvs vs)(k:κ):(kvs.any fun kv=>decide (kv.1=k))=vs.any fun kv=>decide (kv.1=k):=by
 unfold KV at r
 induction r with
 |nil=>rfl
 |cons h t ih=>rw[abT,abT,ih,h.1]
theorem KV.repl{kvs:List (κ×V)}{vs:List (κ×Value)}(r:KV kvs vs)(k:κ){y:V}{u:Value}(ry:RelV y u) :
  KV (kvs.map fun kv=>if kv.1=k then(kv.1,y) else kv) (vs.map fun kv=>if kv.1=k then(kv.1,u) else kv):=by
 unfold KV at r ⊢
 induction r with
 |nil=>exact .nil
 |@cons p q ps qs h t ih=>
  rw[aaG,aaG]
  refine .cons ?_ ih
  obtain⟨h1,h2⟩:=h
  by_cases e:p.1=k
  ·rw[if_pos e,if_pos (h1.symm.trans e)];exact⟨h1,ry⟩
  ·rw[if_neg e,if_neg (fun z=>e (h1.trans z))];exact⟨h1,h2⟩
theorem KV.put{kvs:List (κ×V)}{vs:List (κ×Value)}(r:KV kvs vs)(k:κ){y:V}{u:Value}(ry:RelV y u):KV (EW kvs k y) (stored vs k u):=by
 unfold EW stored
 rw[r.any k]
 by_cases e:(vs.any fun kv=>decide (kv.1=k))=true
 ·rw[if_pos e,if_pos e];exact r.repl k ry
 ·rw[if_neg e,if_neg e];exact Paired.snoc r ⟨rfl,ry⟩
theorem KV.drop{kvs:List (κ×V)}{vs:List (κ×Value)}(r:KV kvs vs)(k:κ):KV (Oz kvs k) (without vs k):=by
 unfold KV at r ⊢
 unfold Oz without
 induction r with
 |nil=>exact .nil
 |@cons p q ps qs h t ih=>
  obtain⟨h1,h2⟩:=h
  rw[ab1,ab1]
  by_cases e:p.1=k
  ·have a:¬decide (p.1≠k)=true:=by simp[e]
   have b:¬decide (q.1≠k)=true:=by simp[h1.symm.trans e]
   rw[if_neg a,if_neg b];exact ih
  ·have e':¬q.1=k:=fun z=>e (h1.trans z)
   have a:decide (p.1≠k)=true:=by simp[e]
   have b:decide (q.1≠k)=true:=by simp[e']
   rw[if_pos a,if_pos b];exact .cons ⟨h1,h2⟩ ih
theorem KV.length{kvs:List (κ×V)}{vs:List (κ×Value)}(r:KV kvs vs):kvs.length=vs.length:=Paired.length r
end
@[reducible]noncomputable def KT(H:Hp):List (List Key×V)->List (List Key×Addr×Value)->Prop:=Paired fun p q=>p.1=q.1/\H q.2.1=some (.tup (p.1.map kV))/\RelV p.2 q.2.2
theorem KT.val{H:Hp}{kvs:List (List Key×V)}{xs:List (List Key×Addr×Value)}(r:KT H kvs xs)(k:List Key):RelO (Dq kvs k) ((atKey xs k).map (·.2)):=by
 induction r with
 |nil=>exact True.intro
 |@cons p q ps qs h t ih=>
  obtain⟨h1,_,h2⟩:=h
  by_cases e:p.1=k
  ·have e':q.1=k:=h1.symm.trans e
   have b:atKey (q::qs) k=some q.2:=by simp[atKey,abD,e']
   rw[FP e,b];exact h2
  ·have e':¬q.1=k:=fun z=>e (h1.trans z)
   have b:atKey (q::qs) k=atKey qs k:=by simp[atKey,abD,e']
   rw[FQ e,b];exact ih
theorem KT.repl{H:Hp}{kvs:List (List Key×V)}{xs:List (List Key×Addr×Value)}(r:KT H kvs xs)(k:List Key){y:V}{u:Value}(ry:RelV y u) :
  KT H (kvs.map fun kv=>if kv.1=k then(kv.1,y) else kv) (xs.map (putAt k u)):=by
 induction r with
 |nil=>exact .nil
 |@cons p q ps qs h t ih=>
  rw[aaG,aaG]
  refine .cons ?_ ih
  obtain⟨h1,h2,h3⟩:=h
  unfold putAt
  by_cases e:p.1=k
  ·rw[if_pos e,if_pos (h1.symm.trans e)];exact⟨h1,h2,ry⟩
  ·rw[if_neg e,if_neg (fun z=>e (h1.trans z))];exact⟨h1,h2,h3⟩
theorem KT.put{H:Hp}{kvs:List (List Key×V)}{xs:List (List Key×Addr×Value)}(r:KT H kvs xs)(k:List Key){b:Addr}{y:V}{u:Value}(hb:H b=some (.tup (k.map kV)))(ry:RelV y u) :
  KT H (EW kvs k y) (storedH xs k b u):=by
 have e:(kvs.any fun kv=>decide (kv.1=k))=(atKey xs k).isSome:=by
  rw[Ip,(r.val k).isSome_eq,ac9]
 unfold EW storedH
 rw[e]
 by_cases q:(atKey xs k).isSome=true
 ·rw[if_pos q,if_pos q];exact r.repl k ry
 ·rw[if_neg q,if_neg q];exact Paired.snoc r ⟨rfl,hb,ry⟩
theorem KT.keeps{H H':Hp}{kvs:List (List Key×V)}{xs:List (List Key×Addr×Value)}(r:KT H kvs xs)(ht:∀b ys,H b=some (.tup ys)->H' b=some (.tup ys)):KT H' kvs xs :=
 Paired.mapP r fun _ _ z=>⟨z.1,ht _ _ z.2.1,z.2.2⟩
section
variable{P:Program}{w:World}{H:Hp}{h:Heap}{a:Addr}
theorem Ev{u:HO}(ok:HOk P w H h)(e:Rd H a u):ObjOk P w H h a u:=e.ok ok
end
abbrev DGet(H:Hp)(a:Addr)(y:V)(r:Option V):Prop :=
 (∃kvs k,Rd H a (.dK kvs)/\y=kV k/\r=Dq kvs k)\/∃kvs k b,Rd H a (.dT kvs)/\y=.ref b/\H b=some (.tup (k.map kV))/\r=Dq kvs k
abbrev DPut(H:Hp)(a:Addr)(y v:V)(H':Hp):Prop :=
 (∃kvs k,H a=some (.dK kvs)/\y=kV k/\kvs.length<sizeLine/\H'=upd H a (.dK (EW kvs k v))) \/
 ∃kvs k b,H a=some (.dT kvs)/\y=.ref b/\H b=some (.tup (k.map kV))/\kvs.length<sizeLine/\H'=upd H a (.dT (EW kvs k v))
theorem DGet.k{H:Hp}{a:Addr}{kvs:List (Key×V)}{k:Key}(e:H a=some (.dK kvs)):DGet H a (kV k) (Dq kvs k):=.inl ⟨kvs,k,.inl e,rfl,rfl⟩
theorem DGet.t{H:Hp}{a b:Addr}{kvs:List (List Key×V)}{k:List Key}(e:H a=some (.dT kvs))(eb:H b=some (.tup (k.map kV))):DGet H a (.ref b) (Dq kvs k):=.inr ⟨kvs,k,b,.inl e,rfl,eb,rfl⟩
theorem DPut.k{H:Hp}{a:Addr}{kvs:List (Key×V)}{k:Key}{v:V}(e:H a=some (.dK kvs))(hl:kvs.length<sizeLine):DPut H a (kV k) v (upd H a (.dK (EW kvs k v))):=.inl ⟨kvs,k,e,rfl,hl,rfl⟩
theorem DPut.t{H:Hp}{a b:Addr}{kvs:List (List Key×V)}{k:List Key}{v:V}(e:H a=some (.dT kvs))(eb:H b=some (.tup (k.map kV)))(hl:kvs.length<sizeLine) :
  DPut H a (.ref b) v (upd H a (.dT (EW kvs k v))):=.inr ⟨kvs,k,b,e,rfl,eb,hl,rfl⟩
section
variable{X:Cx}{pins:List (Addr×Obj)}{σ:St}{H:Hp}{s:Shared}{a:Addr}{y v:V}{u r:Value}{o:Option V}{A:Around}{E:Value->Shared->Prop}
theorem Inv.big(I:Inv X pins σ H s):sysModules<s.heap.objs.size:=by
 have h:mainGlobals<s.heap.objs.size:=(I.mod.glob.keeps I.bk).lt
 exact Nat.lt_trans (by decide) h
end
end L2
end
section
set_option maxHeartbeats 1000000
namespace L2
open PySem PySem.Spec PyProof.Rows PySem.W
section
variable{prog:Program}{w:World}{A:Around}{E:Value->Shared->Prop}{s:Shared}{K:Frag}{e C:Addr}{ox:Obj}
structure XCls(K:Frag)(C:Addr):Prop where
 ga:findIn K (.ref C) "__getattribute__" = some (some (.builtin "BaseException.__getattribute__"))
 gn:findIn K (.ref C) "__getattr__" = some none
 sb:subIn K (.ref C) (.type "BaseException")=some true
 cl:findIn K (.ref C) "__class__" = some (some (.builtin "object.__class__"))
 mo:mroIn K C (.type "object")=some true
 ty:typeIn K (.ref C)=some (.type "type")
 cc:(clsIn K C).isSome=true
abbrev XAt(e C:Addr)(h:Heap):Prop:=∃oe,h.get? e=some oe/\oe.cls=.ref C
abbrev XDt(e C dx:Addr)(h:Heap):Prop:=∃oe,h.get? e=some oe/\oe.cls=.ref C/\oe.dict=some dx/\∀c,oe.data≠.cls c
theorem XDt.at{h:Heap}{dx:Addr}(I:XDt e C dx h):XAt e C h:=let ⟨oe,h1,h2,_⟩:=I;⟨oe,h1,h2⟩
theorem XAt.type{M:Model}{h:Heap}(I:XAt e C h):Looks M h (typeOf (.ref e)) (.ref C):=by
 obtain⟨oe,h1,h2⟩:=I
 exact h2▸(Looks.ld h1).andThen .now
theorem Rm{R:Result->Shared->Prop}(X:K.In s.heap)(I:XAt e C s.heap)(c:XCls K C)(h:R (.ok (.ret (.ref C))) s) :
  codeAny (model prog w) A (.call (.builtin "getset_descriptor.__get__") ⟨[.builtin "object.__class__",.ref e,.ref C],[]⟩) R s:=by
 obtain⟨hh,g,d,t,os⟩:=s
 have hT5:(⟨hh,g,d,t,os⟩:Shared).TypeIs (.builtin "object.__class__") "getset_descriptor":=F.typeOf_object_class
 have L0:=I.type (M:=model prog w)
 have L1:=looks_mroIn (M:=model prog w) X c.mo
 refine codeAny_call_builtin F.slot_gs_get.plain F.entry_gs_get (F.slot_gs_get.check _ _ _ _ _ _ _ _ hT5 (F.args_gs_get _ _ _) ?_)
 repeat (any_goals (first|assumption|refine L0.at ?_|refine L1.at ?_|refine wpAny_bind (L0.at ?_)|refine wpAny_bind (L1.at ?_)|wp_step))
 refine⟨Code.quiet_builtin _ (by decide +kernel),codeAny_builtin KF.entry_class ?_⟩
 unfold Builtin.«object.__class__» shownTypeOf
 repeat (any_goals (first|assumption|refine L0.at ?_|refine wpAny_bind (L0.at ?_)|wp_step))
theorem O8{tk:Tok}{R:Result->Shared->Prop}(X:K.In s.heap)(I:XAt e C s.heap)(c:XCls K C)(h:R (.ok (.ret (.ref C))) s) :
  codeAny (model prog w) A (.call (.builtin "BaseException.__getattribute__") ⟨[.ref e,.str "__class__" tk],[]⟩) R s:=by
 obtain⟨hh,g,d,t,os⟩:=s
 have L0:=I.type (M:=model prog w)
 have LS:=looks_subIn (M:=model prog w) X c.sb
 have LI:Looks (model prog w) hh (isInstance (.ref e) (.type "BaseException")) true:=L0.andThen LS
 have LC:=looks_findIn (M:=model prog w) X c.cl
 refine codeAny_call_builtin (by decide +kernel) F.entry_bexc_ga ?_
 have hk:builtinKind "BaseException.__getattribute__" = some .slot:=by decide +kernel
 have hsplit:splitId "BaseException.__getattribute__" = some ("BaseException", "__getattribute__"):=by decide +kernel
 have ha:=F.args_bexc_ga (.ref e) (.str "__class__" tk)
 simp only[checkBuiltinCall,hk,hsplit]
 refine wpAny_bind (LI.at ?_)
 unfold argsOk at ha
 simp only[abv,aaM,if_false]
 refine wpAny_of_eq ha ?_
 have hT5:(⟨hh,g,d,t,os⟩:Shared).TypeIs (.builtin "object.__class__") "getset_descriptor":=F.typeOf_object_class
 have f5:=F.typeOf_object_class
 have f6:=F.slot_gs_get.lookup
 have f7:=F.slot_gs_set.lookup
 repeat (any_goals (first|assumption|refine L0.at ?_|refine wpAny_bind (L0.at ?_)|refine LC.at ?_|refine wpAny_bind (LC.at ?_)|wp_step))
 exact Rm X I c (wpAny_pure h)
theorem O9{Q:Option Value->Shared->Prop}(X:K.In s.heap)(I:XAt e C s.heap)(c:XCls K C)(h:Q (some (.ref C)) {s with toks:=s.toks+1}) :
  wpAny (model prog w) A (getAttr? (.ref e) "__class__") Q E s:=by
 obtain⟨hh,g,d,t,os⟩:=s
 have L0:=I.type (M:=model prog w)
 have LG:=looks_findIn (M:=model prog w) X c.ga
 have LN:=looks_findIn (M:=model prog w) X c.gn
 have fb1:=F.excAttr_ValueError.ga.bind (.ref e)
 unfold getAttr? getAttrBy? getAttrBy
 repeat (first|refine wpAny_bind (L0.at ?_)|refine wpAny_bind (LG.at ?_)|refine wpAny_bind (LN.at ?_)|refine LN.at ?_|wp_step)
 exact O8 (s:=⟨hh,g,d,t+1,os⟩) X I c (handed_on rfl (wpAny_pure h))
theorem Iq(c:XCls K C):KitX K (.ref e) (.ref C) (XAt e C) where
 ty:=fun _ _ _ I=>I.type
 it:=fun M h X _=>by
  have hc:=c.cc
  unfold clsIn at hc
  split at hc
  ·rename_i ho
   intro A' Q' E' s' k q
   unfold isType loadHead
   exact wpAny_bind (wpAny_loadPart (k _ _ (X _ _ ho)) (wpAny_pure q))
  ·cases hc
 ne:=fun h tp dd its n sl X htp=>by
  refine Bool.eq_false_iff.mpr fun q=>?_
  have e:C=tp:=Value.ref.inj (beq_iff_eq.mp q)
  subst e
  have hc:=c.cc
  unfold clsIn at hc
  split at hc
  ·rename_i ho
   have z:=(X _ _ ho).symm.trans htp
   cases z
  ·cases hc
 ca:=fun X I k=>O9 X I c k
end
abbrev xO(a C:Addr):HO:=.ext (XAt a C)
abbrev xA(a C dx:Addr):HO:=.ext (XDt a C dx)
abbrev dO(a:Addr):HO:=.ext (KitAt a "dict")
inductive TyX(K:Frag)(H:Hp):V->Value->Prop where
 |dct {a:Addr} (y:H a=some (dO a)):TyX K H (.ref a) (.type "dict")
 |of {x:V} {t:Value} (y:TyOf K H x t):TyX K H x t
 |exc {a C:Addr} (y:H a=some (xO a C)) (c:XCls K C):TyX K H (.ref a) (.ref C)
 |exa {a C dx:Addr} (y:H a=some (xA a C dx)) (c:XCls K C):TyX K H (.ref a) (.ref C)
abbrev clV:V->Option Value
 |.ty n=>some (.type n)
 |.ref C=>some (.ref C)
 |_=>none
abbrev TM(K:Frag):List V->Hp->VK->Prop:=fun xs H Q=>∃x c cv t b,xs=[x,c]/\clV c=some cv/\TyX K H x t/\kitOne K t cv=some b/\Q (.bl b) H
theorem Nx{X:Cx}:CF X (.builtin "isinstance") (TM X.K):=by
 intro pins s σ H xs us Q I r h
 obtain⟨x,c,cv,t,b,rfl,hc,ty,e,q⟩:=h
 obtain⟨u,w',rfl,ru,rw'⟩:=KH r
 have ec:w'=cv:=by
  cases c with
  |ty n=>cases hc;exact rw'
  |ref C=>cases hc;exact rw'
  |_=>cases hc
 subst ec
 have fin:∀tk,EP X pins σ Q (.bool b) {s with toks:=tk}:=fun tk=>⟨.bl b,H,I.tok tk,rfl,q⟩
 cases ty with
 |@dct a y=>
  cases (show u=Value.ref a from ru)
  exact kia_one kitx_dict I.kIn (I.hok a _ y).1 e (fun z=>nomatch z) fin
 |of y=>exact LZ I ru y e fin
 |@exc a C y c=>
  cases (show u=Value.ref a from ru)
  exact kia_one (Iq c) I.kIn (I.hok a _ y).1 e (fun z=>nomatch z) fin
 |@exa a C dx y c=>
  cases (show u=Value.ref a from ru)
  exact kia_one (Iq c) I.kIn (show XDt a C dx s.heap from(I.hok a _ y).1).at e (fun z=>nomatch z) fin
abbrev DK(h h':Heap):Prop:=∀b o,h.get? b=some o->∃o',h'.get? b=some o'/\o'.dict=o.dict
theorem DK.refl(h:Heap):DK h h:=fun b o e=>⟨o,e,rfl⟩
theorem DK.trans{h h1 h2:Heap}(a:DK h h1)(b:DK h1 h2):DK h h2:=fun x o e=>by
 obtain⟨o1,e1,d1⟩:=a x o e
 obtain⟨o2,e2,d2⟩:=b x o1 e1
 exact⟨o2,e2,d2.trans d1⟩
inductive Tame{α:Type}:Sem α->Prop
 |pure (a:α):Tame (.pure a)
 |raise (e:Value):Tame (.raise e)
 |unsupported (x:String):Tame (.unsupported x)
 |rule {x:String} {k:Unit->Sem α} (h:∀u,Tame (k u)):Tame (.rule x k)
 |at {p:Pos} {k:Unit->Sem α} (h:∀u,Tame (k u)):Tame (.at p k)
 |load {a:Addr} {x:Option Value} {k:Obj->Sem α} (h:∀u,Tame (k u)):Tame (.load a x k)
 |update {a:Addr} {x:Option Value} {f:Obj->Obj} {k:Unit->Sem α} (d:∀o,(f o).dict=o.dict) (fr:∀o,o.isFreed=false->(f o).isFreed=false) (h:∀u,Tame (k u)):Tame (.update a x f k)
 |alloc {o:Obj} {k:Addr->Sem α} (h:∀u,Tame (k u)):Tame (.alloc o k)
 |point {l:List Value} {k:Unit->Sem α} (h:∀u,Tame (k u)):Tame (.point l k)
 |fresh {k:Tok->Sem α} (h:∀u,Tame (k u)):Tame (.fresh k)
 |ask {k:Setting->Sem α} (h:∀u,Tame (k u)):Tame (.ask k)
 |handled {o:Bool} {k:Option Value->Sem α} (h:∀u,Tame (k u)):Tame (.handled o k)
 |register {a:Addr} {k:Unit->Sem α}:Tame (.register a k)
 |loadIfAlive {a:Addr} {k:Option Obj->Sem α} (h:∀u,Tame (k u)):Tame (.loadIfAlive a k)
 |stack {k:List (Code×Pos)->Sem α} (h:∀u,Tame (k u)):Tame (.stack k)
theorem Tame.bind{α β:Type}{t:Sem α}{f:α->Sem β}(h:Tame t)(hf:∀a,Tame (f a)):Tame (t >>= f):=by
 induction h with
 |pure a=>exact hf a
 |raise e=>exact .raise e
 |unsupported x=>exact .unsupported x
 |rule _ ih=>exact .rule ih
 |«at» _ ih=>exact .at ih
 |load _ ih=>exact .load ih
 |update d fr _ ih=>exact .update d fr ih
 |alloc _ ih=>exact .alloc ih
 |point _ ih=>exact .point ih
 |fresh _ ih=>exact .fresh ih
 |ask _ ih=>exact .ask ih
 |handled _ ih=>exact .handled ih
 |register=>exact .register
 |loadIfAlive _ ih=>exact .loadIfAlive ih
 |stack _ ih=>exact .stack ih
theorem Tame.wp{α:Type}{M:Model}{Γ:PySem.Ctx}{Q:α->Pos->Shared->Prop}{E:Value->Pos->Shared->Prop}{t:Sem α}(h:Tame t):∀{p:Pos}{s:Shared},Sem.wp M Γ t Q E p s->Sem.wp M Γ t (fun a p' s'=>Q a p' s'/\DK s.heap s'.heap) (fun e p' s'=>E e p' s'/\DK s.heap s'.heap) p s:=by
 have up:∀{α:Type}{t:Sem α}{Q:α->Pos->Shared->Prop}{E:Value->Pos->Shared->Prop}{p:Pos}{s:Shared}{h:Heap},DK h s.heap->Sem.wp M Γ t (fun a p' s'=>Q a p' s'/\DK s.heap s'.heap) (fun e p' s'=>E e p' s'/\DK s.heap s'.heap) p s->Sem.wp M Γ t (fun a p' s'=>Q a p' s'/\DK h s'.heap) (fun e p' s'=>E e p' s'/\DK h s'.heap) p s :=
  fun d z=>Sem.wp_mono M Γ _ (fun _ _ _ q=>⟨q.1,d.trans q.2⟩) (fun _ _ _ q=>⟨q.1,d.trans q.2⟩) _ _ z
 induction h with
 |pure a=>intro p s z;exact⟨z,DK.refl _⟩
 |raise e=>intro p s z;exact⟨z,DK.refl _⟩
 |unsupported x=>intro p s z;exact z
 |rule _ ih=>intro p s z;exact ih _ z
 |«at» _ ih=>intro p s z;exact ih _ z
 |load _ ih=>intro p s ⟨o,e,z⟩;exact⟨o,e,ih _ z⟩
 |@update a x f k d fr _ ih=>
  intro p s ⟨e,z⟩
  refine⟨e,up (h:=s.heap) ?_ (ih _ z)⟩
  intro b o q
  by_cases c:b=a
  ·subst c
   have hf:=(Heap.get?_some_iff.mp q).2
   exact⟨f o,Heap.get?_update_self _ q (fr o hf),d o⟩
  ·exact⟨o,(Heap.get?_update_ne _ _ _ _ c).trans q,rfl⟩
 |@alloc o k _ ih=>
  intro p s z
  show Sem.wp M Γ (k s.heap.objs.size) _ _ p {s with heap:=s.heap.push o}
  refine up (h:=s.heap) ?_ (ih _ z)
  exact fun b o q=>⟨o,Heap.get?_push_of_some _ q,rfl⟩
 |point _ ih=>intro p s z;exact ih _ z
 |fresh _ ih=>intro p s z;exact ih _ z
 |ask _ ih=>intro p s z;exact ih _ z
 |handled _ ih=>intro p s z;exact ih _ z
 |register=>intro p s z;exact z
 |loadIfAlive _ ih=>intro p s z;exact ih _ z
 |stack _ ih=>intro p s z;exact ih _ z
theorem Tame.any{α:Type}{M:Model}{A:Around}{Q:α->Shared->Prop}{E:Value->Shared->Prop}{t:Sem α}{s:Shared}(h:Tame t)(z:wpAny M A t Q E s):wpAny M A t (fun a s'=>Q a s'/\DK s.heap s'.heap) (fun e s'=>E e s'/\DK s.heap s'.heap) s:=fun Γ p hΓ=>h.wp (z Γ p hΓ)
theorem BC{a:Addr}:Tame (load a):=.load fun _=>.pure _
theorem AV{a:Addr}{x:Option Value}:Tame (loadPart a x):=.load fun _=>.pure _
theorem BD{o:Obj}:Tame (alloc o):=.alloc fun _=>.pure _
theorem BE:Tame stack:=.stack fun _=>.pure _
theorem AW{a:Addr}:Tame (register a):=.register
theorem Bp{α:Type}{x:String}:Tame (unsupported x:Sem α):=.unsupported _
theorem BV{α:Type}{x:α}:Tame (pure x:Sem α):=.pure _
theorem BW{x:String}:Tame (rule x):=.rule fun _=>.pure _
theorem Ma(f:Array Value->Array Value)(o:Obj):(Obj.mapFields f o).dict=o.dict:=by
 obtain⟨c,d,dt,sl⟩:=o
 cases dt<;>rfl
theorem Mb(f:Array Value->Array Value)(o:Obj)(h:o.isFreed=false):(Obj.mapFields f o).isFreed=false:=by
 obtain⟨c,d,dt,sl⟩:=o
 cases dt<;>first|rfl|exact h
theorem BX{a:Addr}{f:Array Value->Array Value}:Tame (update a (Obj.mapFields f)):=.update (Ma f) (Mb f) fun _=>.pure _
theorem Ew{v:Value}{i:Nat}:Tame (field v i):=by
 unfold field fieldsOf
 repeat' (first|exact BC|exact AV|exact BD|exact BE|exact AW|exact Bp|exact BV|exact BW|exact BX|assumption|refine Tame.bind ?_ fun _=>?_|split|(intro _)|(dsimp only))
theorem FR{a:Addr}{i:Nat}{x:Value}:Tame (updateField a i x):=by
 unfold updateField
 repeat' (first|exact BC|exact AV|exact BD|exact BE|exact AW|exact Bp|exact BV|exact BW|exact BX|assumption|refine Tame.bind ?_ fun _=>?_|split|(intro _)|(dsimp only))
theorem EQ{v x:Value}{i:Nat}:Tame (setField v i x):=by
 unfold setField
 split
 ·exact FR
 ·exact Bp
theorem GT{x:String}{vs:List Value}:Tame (newFields x vs):=by
 unfold newFields newObj newObjAsIs classHasDel
 repeat' (first|exact BC|exact AV|exact BD|exact BE|exact AW|exact Bp|exact BV|exact BW|exact BX|assumption|refine Tame.bind ?_ fun _=>?_|split|(intro _)|(dsimp only))
theorem GU:Tame frameEnvs:=by
 unfold frameEnvs
 repeat' (first|exact BC|exact AV|exact BD|exact BE|exact AW|exact Bp|exact BV|exact BW|exact BX|assumption|refine Tame.bind ?_ fun _=>?_|split|(intro _)|(dsimp only))
theorem HN{env:Env}{b:Bool}{l:List Env}:Tame (keptBack env b l):=by
 cases l with
 |nil=>unfold keptBack underTheClaimsCaller;repeat' (first|exact BC|exact AV|exact BD|exact BE|exact AW|exact Bp|exact BV|exact BW|exact BX|assumption|refine Tame.bind ?_ fun _=>?_|split|(intro _)|(dsimp only))
 |cons c l=>exact .pure _
theorem Jx{env:Env}{l:List Env}:Tame (behindIsImport env l):=by
 have:=@Ew env.code 12
 unfold behindIsImport
 repeat' (first|exact BC|exact AV|exact BD|exact BE|exact AW|exact Bp|exact BV|exact BW|exact BX|assumption|refine Tame.bind ?_ fun _=>?_|split|(intro _)|(dsimp only))
theorem Gg:∀l:List Env,Tame (readyFrames l)
 |[]=>.pure _
 |env::outer=>by
  have h1:=Gg outer
  have h2:=@Jx env outer
  have h3:=fun b=>@HN env b outer
  unfold readyFrames
  split
  ·refine Tame.bind BC fun o=>?_
   split
   ·exact .pure _
   ·exact Tame.bind h2 fun b=>Tame.bind (h3 b) fun v=>Tame.bind (.update (fun _=>rfl) (fun o h=>by obtain⟨c,d,dt,sl⟩:=o;cases dt<;>first|rfl|exact h) fun _=>.pure _) fun _=>h1
  ·exact Bp
theorem Ir{env:Env}:Tame (PySem.frameOf env):=by
 have h1:=GU
 unfold PySem.frameOf
 refine Tame.bind h1 fun l=>?_
 refine Tame.bind ?_ fun o=>?_
 ·cases List.dropWhile (fun x=>x.frame != env.frame) l with
  |nil=>exact .pure _
  |cons e r=>unfold frameObject;exact Tame.bind (Gg _) fun _=>.pure _
 ·cases o<;>first|exact .pure _|exact .unsupported _
theorem KO{f:Addr}{b:Bool}:Tame (entryPlaceOf f b):=by
 unfold entryPlaceOf
 repeat' (first|exact BC|exact AV|exact BD|exact BE|exact AW|exact Bp|exact BV|exact BW|exact BX|assumption|refine Tame.bind ?_ fun _=>?_|split|(intro _)|(dsimp only))
theorem GV{e:Value}{f:Option Addr}:Tame (setFlight e f):=by
 have h1:=@Ew e 1
 have h2:=fun v x=>@EQ v x 3
 unfold setFlight
 refine Tame.bind h1 fun v=>?_
 split
 ·exact h2 _ _
 ·exact .pure _
theorem GW{e:Value}{env:Env}:Tame (noteFrame e env):=by
 have h1:=fun v i=>@Ew v i
 have h2:=fun v x i=>@EQ v x i
 have h3:=Ir (env:=env)
 have h4:=fun f b=>@KO f b
 unfold noteFrame
 split
 ·refine Tame.bind (h1 _ _) fun v=>?_
  have h5:∀f,Tame (do setField e 1 (<- EntryCells.newEntry v (<- PySem.frameOf env) .none (rawInt f) .none (<- entryPlaceOf f (v != .none)))):=fun f=>Tame.bind h3 fun _=>Tame.bind (h4 _ _) fun _=>Tame.bind GT fun _=>h2 _ _ _
  dsimp only
  split
  ·refine Tame.bind (h1 _ _) fun v=>?_
   split
   ·exact .pure _
   ·exact Tame.bind (h2 _ _ _) fun _=>h5 _
  ·exact h5 _
 ·exact Bp
theorem EY{e:Value}{env:Env}:Tame (leaving env e):=Tame.bind GW fun _=>GV
theorem ObjOk.there{P:Program}{w:World}{H:Hp}{h:Heap}{a:Addr}{o:HO}(x:ObjOk P w H h a o):∃ob,h.get? a=some ob:=by
 induction o with
 |lst xs=>obtain⟨_,_,_,_,e⟩:=x;exact⟨_,e⟩
 |tup xs=>obtain⟨_,_,_,ob,e,_⟩:=x;exact⟨_,e⟩
 |dK kvs=>obtain⟨_,_,_,_,ob,_,_,e,_⟩:=x;exact⟨_,e⟩
 |dT kvs=>obtain⟨_,_,_,_,ob,_,_,e,_⟩:=x;exact⟨_,e⟩
 |set S n=>obtain⟨ob,_,_,_,e,_⟩:=x;exact⟨_,e⟩
 |ins C dx fs=>obtain⟨_,_,_,e,_⟩:=x;exact⟨_,e⟩
 |own y=>exact x
 |xd fs=>obtain⟨_,⟨od,_,_,e,_⟩,_⟩:=x;exact⟨_,e⟩
 |rng lo hi=>obtain⟨_,_,_,e⟩:=x;exact⟨_,e⟩
 |frz ob u _=>exact⟨_,x.1⟩
 |tbl ps=>exact⟨_,x⟩
 |met f y=>exact⟨_,x⟩
 |ext φ=>exact x.2.1
theorem HOk.hide{P:Program}{w:World}{H:Hp}{h:Heap}(x:HOk P w H h){fs:List Addr}(hf:∀b∈fs,H b=none):HOk P w H (hideAll h fs):=fun a o e=>
 (x a o e).stay (fun b u hb q=>hideAll_get _ q fun z=>by
  have n:=hf b z
  rcases hb with rfl|hb
  ·rw[n]at e;cases e
  ·rw[n]at hb;cases hb) (fun _ q=>q) fun _ _ q=>q
abbrev CXe(P:Program)(w:World):CXT:=fun outer H s E ev s'=>∃(e:Addr)(cls a0:Value)(H':Hp)(B:Heap)(od:Option Addr),ev=.ref e/\s'.os=s.os/\AllBare s'.gens/\Heap.FlyingW B outer e cls a0 s'.heap/\HOk P w H' B/\H' e=none /\
 (∀b o,s.heap.get? b=some o->H b=none->b∉frs outer->B.get? b=some o)/\(∀b o,s.heap.get? b=some o->H b=none->b∈frs outer->∃sl,s'.heap.get? b=some {o with slots:=sl}) /\
 (∀b o,s.heap.get? b=some o->H b=none->H' b=none)/\(∀b o,s.heap.get? b=some o->b∉frs outer->∃o',B.get? b=some o') /\
 (∀b xs,H b=some (.tup xs)->H' b=some (.tup xs))/\(∀b o u,H b=some (.frz o u)->H' b=some (.frz o u))/\(∀b ps,H b=some (.tbl ps)->∃more,H' b=some (.tbl (ps++more)))/\(∀dx,od=some dx->∃oe,s'.heap.get? e=some oe/\oe.dict=some dx)/\E cls od H'
abbrev KP(X:Cx)(E:XK):Prop:=∀(pins:List (Addr×Obj))(σ:St)(H:Hp)(s:Shared)(h':Heap)(e C:Addr)(vs:List Value),Inv X pins σ H s->Heap.MadeExcOf s.heap h' e (.ref C) vs->E (.ref C) none H->X.xe (.ref e) {s with heap:=h'}
section
variable{P:Program}{w:World}{K:Frag}{mg:Str->Option Value}{base:Heap}{N:List Str}{qual:Str}{scope:Scope}{f:Addr}{cd:Value}{A:Around}{outer:List Env}{s₀:Shared}{H₀:Hp}{E E':XK}
theorem Ny(hE:∀c d H,E c d H->E' c d H):KP (Ax (CXe P w) P w K mg base N qual scope f cd A outer s₀ H₀ E') E:=by
 intro pins σ H s h' e C vs I hx he
 show wpAny _ _ (leaving _ (.ref e)) _ _ _
 have hfr:∀env∈(Ax (CXe P w) P w K mg base N qual scope f cd A outer s₀ H₀ E').stack,∀b,env.frame=some b->b∈frs (Ax (CXe P w) P w K mg base N qual scope f cd A outer s₀ H₀ E').stack:=fun env h b hb=>aaB.mpr ⟨env,h,hb⟩
 have hB:=I.hok.hide I.stkFree
 have hff:=funFrames_hide I.stack hfr
 have en:H e=none:=by
  cases q:H e with
  |none=>rfl
  |some o=>obtain⟨ob,z⟩:=(I.hok e o q).there;rw[hx.new]at z;cases z
 refine wpAny_leaves_madeW (base:=hideAll s.heap (frs (Ax (CXe P w) P w K mg base N qual scope f cd A outer s₀ H₀ E').stack)) I.ok.frames rfl (fun b o q=>of_hideAll _ q) hff hx fun h2 t fl _ _ up=>?_
 have sub:∀b∈frs outer,b∈frs (Ax (CXe P w) P w K mg base N qual scope f cd A outer s₀ H₀ E').stack:=fun b hb=>by
  obtain⟨env,h1,h2⟩:=aaB.mp hb
  exact aaB.mpr ⟨env,aaa _ h1,h2⟩
 have nloc:∀b o,s₀.heap.get? b=some o->b≠s₀.heap.objs.size:=fun b o q z=>by
  have:=Heap.lt_size q
  exact aaS _ (z▸this)
 have nfr:∀b o,s₀.heap.get? b=some o->b∉frs outer->b∉frs (Ax (CXe P w) P w K mg base N qual scope f cd A outer s₀ H₀ E').stack:=fun b o q hb z=>by
  obtain⟨env,h1,h2⟩:=aaB.mp z
  rcases aaf.mp h1 with rfl|h1
  ·exact nloc b o q (Option.some.inj h2).symm
  ·exact hb (aaB.mpr ⟨env,h1,h2⟩)
 have nx:∀b:Addr,b∉(Ax (CXe P w) P w K mg base N qual scope f cd A outer s₀ H₀ E').ex:=fun b z=>absurd (show b∈([]:List Addr) from z) (by simp)
 refine⟨e,.ref C,.ref t,H,_,none,rfl,I.os,I.bare,fl,hB,en,fun b o q n hb=>hideAll_get _ (I.base.keep b o q n hb (nx b)) (nfr b o q hb),fun b o q n hb=>?_,fun b o q n=>I.base.free b o q n (nx b),fun b o q hb=>?_,I.base.tups,I.base.frzs,I.base.tbls,(fun _ z=>nomatch z),hE _ _ _ he⟩
 ·obtain⟨sl,e1⟩:=I.base.slot b o q n hb (nx b)
  obtain⟨⟨hn,o2,ho2,hnf⟩⟩:=And.intro (I.stack.mem (sub b hb)) trivial
  rw[e1]at ho2
  cases ho2
  obtain⟨sl2,e2⟩:=up b _ (hx.keeps b _ e1) hnf
  exact⟨sl2,e2⟩
 ·obtain⟨o',e1⟩:=I.base.there b o q (nx b)
  exact⟨o',hideAll_get _ e1 (nfr b o q hb)⟩
theorem SY(hE:∀c d H,E c d H->E' c d H):Rg (CXe P w) (Ax (CXe P w) P w K mg base N qual scope f cd A outer s₀ H₀ E') E:=by
 intro pins σ H s ev s' I h
 obtain⟨e,cls,a0,H',B,od,rfl,ho,hg,fl,hok,en,keep,slot,free,there,tups,frzs,tbls,hdd,he⟩:=h
 show wpAny _ _ (leaving _ (.ref e)) _ _ _
 refine wpAny_mono (EY.any (wpAny_leaves_onW (Q:=fun _ s2=>∃h2,s2={s' with heap:=h2}/\Heap.FlyingW B outer e cls a0 h2/\s'.heap.UpToSlots h2) (base:=B) I.ok.frames rfl fl fun h2 fl2 up=>⟨h2,rfl,fl2,up⟩)) (fun _ s2 q2=>?_) fun _ _ z=>z.1
 obtain⟨⟨h2,rfl,fl2,up⟩,dk⟩:=q2
 have sub:∀b∈frs outer,b∈frs (Ax (CXe P w) P w K mg base N qual scope f cd A outer s₀ H₀ E').stack:=fun b hb=>by
  obtain⟨env,h1,h2⟩:=aaB.mp hb
  exact aaB.mpr ⟨env,aaa _ h1,h2⟩
 have nfr:∀b o,s₀.heap.get? b=some o->b∉frs outer->b∉frs (Ax (CXe P w) P w K mg base N qual scope f cd A outer s₀ H₀ E').stack:=fun b o q hb z=>by
  obtain⟨env,h1,h2⟩:=aaB.mp z
  rcases aaf.mp h1 with rfl|h1
  ·exact aaS _ ((Option.some.inj h2).symm▸Heap.lt_size q)
  ·exact hb (aaB.mpr ⟨env,h1,h2⟩)
 have nx:∀b:Addr,b∉(Ax (CXe P w) P w K mg base N qual scope f cd A outer s₀ H₀ E').ex:=fun b z=>absurd (show b∈([]:List Addr) from z) (by simp)
 have frNF:∀b o,s'.heap.get? b=some o->b∈frs (Ax (CXe P w) P w K mg base N qual scope f cd A outer s₀ H₀ E').stack->∃sl,h2.get? b=some {o with slots:=sl}:=fun b o q hb=>by
  obtain⟨hn,o2,ho2,hnf⟩:=fl.2.2.1.mem hb
  rw[q]at ho2
  cases ho2
  exact up b _ q hnf
 refine⟨e,cls,a0,H',B,od,rfl,ho.trans I.os,hg,fl2,hok,en,fun b o q n hb=>keep b o (I.base.keep b o q n hb (nx b)) (I.base.free b o q n (nx b)) (nfr b o q hb),fun b o q n hb=>?_,
  fun b o q n=>?_,fun b o q hb=>?_,fun b xs q=>tups b xs (I.base.tups b xs q),fun b o u q=>frzs b o u (I.base.frzs b o u q),fun b ps q=>?_,fun dx z=>(by obtain⟨oe,q1,q2⟩:=hdd dx z;obtain⟨o',q3,q4⟩:=dk e oe q1;exact⟨o',q3,q4.trans q2⟩),hE _ _ _ he⟩
 ·obtain⟨sl,e1⟩:=I.base.slot b o q n hb (nx b)
  obtain⟨sl1,e2⟩:=slot b _ e1 (I.base.free b o q n (nx b)) (sub b hb)
  obtain⟨sl2,e3⟩:=frNF b _ e2 (sub b hb)
  exact⟨sl2,e3⟩
 ·obtain⟨o',e1⟩:=I.base.there b o q (nx b)
  exact free b o' e1 (I.base.free b o q n (nx b))
 ·obtain⟨o',e1⟩:=I.base.there b o q (nx b)
  exact there b o' e1 (nfr b o q hb)
 ·obtain⟨m1,e1⟩:=I.base.tbls b ps q
  obtain⟨m2,e2⟩:=tbls b _ e1
  exact⟨m1++m2,by rw[e2,Array.append_assoc]⟩
end
section
variable{X:Cx}{C:Addr}{x:Str}{e:Expr}{es:List Expr}{t:TA}{E:XK}{np cpos pos:Pos}
@[reducible]def DO:List Value:=[.type "ValueError",.type "Exception",.type "BaseException",.type "object"]
theorem Rn{h:Heap}(KX:X.K.In h)(G:h.Ns mainGlobals X.mg)(B:∃mb,h.Ns builtinsNs mb/\∀x:Str,x≠"__name__" -> mb x=bootBuiltins x)(L:h.NoLimit)(hm:nsIn X.K mainGlobals x=some (some (.ref C)))(hC:excIn X.K C DO "ValueError.__new__" = true) :
  OwnCls x C DO "ValueError.__new__" X.mg h:=by
 obtain⟨mb,Bn,hb⟩:=B
 obtain⟨o,es,ep,ho,hd,hs,hf⟩:=id G
 have T:TopRead default (es.toList.filterMap fun d=>match d.key with|.str n _=>some n|_=>none) X.mg mb h:=⟨G,Bn,L,hb,fun y _ hy _ _ _=>by
  rw[<- hf y]
  unfold nsFind findBy
  rw[Option.map_eq_none_iff,Array.find?_eq_none]
  intro d hm hy2
  obtain⟨n,tk,ek⟩:=hs d hm
  rw[ek]at hy2
  have en:n=y:=by simpa[Value.isStr] using hy2
  exact hy (aaB.mpr ⟨d,by simpa using hm,by rw[ek,en]⟩)⟩
 exact own_of_in KX T hm hC
theorem Nz(hw:KP X E)(hc:X.calm=true)(hg:Gl X x)(hn:nsIn X.K mainGlobals x=some (some (.ref C)))(hC:excIn X.K C DO "ValueError.__new__" = true)(ha:PA X (e::es) t)(hd:(x==("__debug__" : Str))=false:=by decide)
  (he:starEach (e::es) X.env=(false,eval e X.env)::starEach es X.env:=by rfl) (hpl:(backTo cpos (starEach es X.env)).any (·.1)=false:=by rfl) :
  PS X (.Raise (some (.Call (.Name x np) (e::es) [] cpos)) none pos) (fun D σ H=>t σ H fun vs H1=>vs.length<=sizeLine/\E (.ref C) none H1):=by
 intro pins s σ H D I h
 have O:=Rn (X:=X) I.mod.kin I.mod.glob I.mod.blt I.mod.nolimit hn hC
 obtain⟨bm,N',nm,q,bs,hdct,sn,sub,ab,col,dd,k0,k1,k2,k3,k5,mN,hCo,hN,hni,T⟩:=O.obj
 refine wpAny_Raise_call_subT (nm:=nm) (q:=q) (N:=N') (bs:=bs) (bm:=bm) (hdct:=hdct) (sn:=sn) (sub:=sub) (ab:=ab) (col:=col) (dd:=dd) (k0:=k0) (k1:=k1) (k2:=k2) (k3:=k3) (k5:=k5) PySem.F.excBase_ValueError (mN:=mN) (T.hasType rfl) (I.ok.hd hc) (by rw[he];exact hpl) hni (GQ I hg O.bound ⟨rfl,?_⟩ hd)
 have h2:=ha cpos pins s σ H _ I h
 rw[he]at h2 ⊢
 exact Calls.evalArgs_plain (thn h2 fun us s1 ⟨vs,H1,I1,r,q⟩=>⟨rfl,r.length▸q.1,I1.bk _ _ hCo,hN.keeps I1.bk,T.keeps I1.bk,fun h' ex hx=>hw pins σ H1 s1 h' ex C us I1 hx q.2⟩)
end
@[reducible]noncomputable def EXT:=St->XK
abbrev EZ(CX:CXT)(X:Cx)(E:EXT):Prop:=∀(pins:List (Addr×Obj))(σ:St)(H:Hp)(s:Shared)(e:Value)(s':Shared),Inv X pins σ H s->CX X.stack H s (E σ) e s'->X.xe e s'
abbrev Mc(sp:Sp)(dvs:List V)(E:EXT)(t:TA):TE:=fun σ H Q=>t σ H fun vs H1=>sp (vs++dvs) H1 Q (E σ)
section
variable{X:Cx}{CX:CXT}{k:Nat}{f:Addr}{fd:FuncData}{ps:List Str}{sp:Sp}{dvs:List V}{ds:List Value}{E:EXT}{x:Str}{p pos:Pos}{e:Expr}{es:List Expr}{t:TA}
theorem NA(F:FnOk X.prog X.w X.K X.mg X.base CX k f fd ps sp)(hr:Room k X.A)(hg:Gl X x)(hm:X.mg x=some (.ref f))(hk:PySem.W.keepIn X.K (.ref f)=true)(hb:Binds X.K fd ps ds)(hd:Vals dvs ds)(hx:EZ CX X E)
  (ha:PA X (e::es) t) (hdb:(x==("__debug__" : Str))=false:=by decide) (he:starEach (e::es) X.env=(false,eval e X.env)::starEach es X.env:=by rfl) (hpl:(backTo pos (starEach es X.env)).any (·.1)=false:=by rfl) :
  PE X (.Call (.Name x p) (e::es) [] pos) (Mc sp dvs E t):=by
 intro pins s σ H Q I h
 refine wpAny_Call_Name_kw (GQ I hg hm ?_ hdb)
 refine PySem.W.callWith_K (h₀:=X.base) I.ok.mod.kin hk (thn (ha pos pins s σ H _ I h) fun us s1 ⟨vs,H1,I1,r,q⟩=>⟨I1.kIn,?_⟩) he hpl
 have r2:Vals (vs++dvs) (us++ds):=r.append hd
 have hl:(us++ds).length=ps.length:=r2.length▸F.len _ _ _ _ q
 refine wpAny_call (codeAny_mono (F.run X.A X.stack s1 H1 ⟨us,[]⟩ (us++ds) (vs++dvs) Q (E σ) hr I1.env0 (hb s1 us I1.kIn hl) r2 q) fun rr s' hq=>?_)
 rcases rr with ev|fl
 ·exact hx pins σ H1 s1 ev s' I1 hq
 ·cases fl with
  |ret u=>exact I1.after hq
  |next=>exact False.elim hq
  |brk=>exact False.elim hq
  |cont=>exact False.elim hq
end
@[reducible]noncomputable def JV(ifs:List Expr)(env:Env):Sem Bool:=forIn ifs true fun c r=>if r=true then do let ok <- isTrue c env (eval c env);pure (ForInStep.yield ok) else pure (ForInStep.yield r)
section
variable{prog:Program}{w:World}{A:Around}{R:Result->Shared->Prop}{s:Shared}{elt tg iter:Expr}{ifs:List Expr}{scope:Scope}{pos:Pos}{it acc:Value}{env:Env}
theorem Iu(I:Nat->Shared->Prop)
  (turn:∀n s,I n s->wpAny (model prog w) A (pyNext it) (fun r s1=>match r with
   |none=>R (.ok .next) s1
   |some v=>wpAny (model prog w) A (letOwnedTupleGo tg it v) (fun _ s2=>wpAny (model prog w) A (assign tg env v) (fun _ s3=>wpAny (model prog w) A (JV ifs env) (fun ok s4=>
     if ok=true then wpAny (model prog w) A (eval elt env) (fun x s5=>wpAny (model prog w) A (call (.builtin "list.append") [acc,x]) (fun _ s6=>∃m,m<n/\I m s6) (fun _ _=>False) s5) (fun _ _=>False) s4
     else ∃m,m<n/\I m s4) (fun _ _=>False) s3) (fun _ _=>False) s2) (fun _ _=>False) s1) (fun _ _=>False) s) (n:Nat) (h:I n s) :
  codeAny (model prog w) A (.compLoop (.ListComp elt [⟨tg,iter,ifs,0⟩] scope pos) 0 it acc env) R s:=by
 refine codeAny_loop rfl I (fun k s' hk=>?_) n h
 show wpAny _ A ((compTurn (.ListComp elt [⟨tg,iter,ifs,0⟩] scope pos) 0 it acc env).onRaise (fun z=>do noteFrame z env;theTreesLotGoes z)) _ _ s'
 refine wpAny_noted ?_
 rw[compTurn_list]
 have no:∀{Z:Value->Shared->Prop}(x:Value)(t:Shared),False->Z x t:=fun _ _ z=>z.elim
 refine wpAny_bind (wpAny_standAt ?_)
 refine wpAny_bind (wpAny_mono (turn k s' hk) (fun r s1 h1=>?_) no)
 rcases r with _|v
 ·exact wpAny_pure h1
 ·refine wpAny_bind (wpAny_mono h1 (fun _ s2 h2=>?_) no)
  refine wpAny_bind (wpAny_mono h2 (fun _ s3 h3=>?_) no)
  refine wpAny_bind (wpAny_mono h3 (fun ok s4 h4=>?_) no)
  cases ok with
  |false=>exact wpAny_pure ⟨rfl,h4⟩
  |true=>
   refine wpAny_bind ?_
   refine wpAny_bind (wpAny_mono h4 (fun x s5 h5=>?_) no)
   exact wpAny_bind (wpAny_mono h5 (fun _ s6 h6=>wpAny_pure (wpAny_pure ⟨rfl,h6⟩)) no)
abbrev BY(env:Env)(names:List (Str×NameKind))(cs:List (Str×Addr)):List (Str×Addr):=names.foldl (fun cs x=>if(x.2==NameKind.free)=true then(x.1,(env.cells.lookup x.1).getD 0)::cs else cs) cs
theorem Gh{α β:Type}(f:α->β->Sem (ForInStep β))(g:β->α->β):∀(l:List α)(b:β),(∀x∈l,∀b,f x b=pure (ForInStep.yield (g b x)))->forIn l b f=pure (l.foldl g b)
 |[],b,_=>rfl
 |x::l,b,h=>by
  rw[List.forIn_cons,h x (aab ..) b,abC]
  exact Gh f g l (g b x) fun y hy=>h y (aaa _ hy)
theorem KQ(h:∀x∈scope.names,x.2=.free->(env.cells.lookup x.1).isSome=true):closureFor scope env=pure (BY env scope.names []):=by
 unfold closureFor BY
 dsimp only
 rw[Gh _ (fun cs x=>if(x.2==NameKind.free)=true then(x.1,(env.cells.lookup x.1).getD 0)::cs else cs)]
 ·rfl
 ·rintro⟨n,k⟩ hx cs
  by_cases hk:(k==NameKind.free)=true
  ·obtain⟨c,hc⟩:=aaC.mp (h (n,k) hx (beq_iff_eq.mp hk))
   have hc':List.lookup n env.cells=some c:=hc
   dsimp only
   rw[if_pos hk,if_pos hk]
   unfold cellOf
   rw[hc']
   rfl
  ·dsimp only
   rw[if_neg hk,if_neg hk]
theorem CA(h:∀x∈scope.names,x.2=.free->(env.cells.lookup x.1).isSome=true){x:Str}{c:Addr}(e:(BY env scope.names []).lookup x=some c):env.cells.lookup x=some c:=by
 have gen:∀(l:List (Str×NameKind))(cs:List (Str×Addr)),(∀y∈l,y.2=.free->(env.cells.lookup y.1).isSome=true)->(∀p∈cs,env.cells.lookup p.1=some p.2)->∀p∈BY env l cs,env.cells.lookup p.1=some p.2:=by
  intro l
  induction l with
  |nil=>intro cs _ hc;exact hc
  |cons y l ih=>
   intro cs hl hc
   unfold BY
   rw[abC]
   refine ih _ (fun z hz=>hl z (aaa _ hz)) fun p hp=>?_
   split at hp
   ·rename_i hk
    rcases aaf.mp hp with rfl|hp
    ·obtain⟨c',hc'⟩:=aaC.mp (hl y (aab ..) (beq_iff_eq.mp hk))
     show env.cells.lookup y.1=some ((env.cells.lookup y.1).getD 0)
     rw[hc'];rfl
    ·exact hc p hp
   ·exact hc p hp
 exact gen scope.names [] h (fun p hp=>nomatch hp) (x,c) (PySem.mem_of_lookup e)
theorem Gi{x:Str}{c:Addr}(hm:(x,NameKind.free)∈scope.names)(h:∀x∈scope.names,x.2=.free->(env.cells.lookup x.1).isSome=true)(e:env.cells.lookup x=some c):(BY env scope.names []).lookup x=some c:=by
 have gen:∀(l:List (Str×NameKind))(cs:List (Str×Addr)),((x,NameKind.free)∈l\/∃d,(x,d)∈cs)->∃d,(x,d)∈BY env l cs:=by
  intro l
  induction l with
  |nil=>intro cs hc;rcases hc with z|z;cases z;exact z
  |cons y l ih=>
   intro cs hc
   unfold BY
   rw[abC]
   refine ih _ ?_
   rcases hc with hc|⟨d,hc⟩
   ·rcases aaf.mp hc with rfl|hc
    ·exact .inr ⟨_,by rw[if_pos (by rfl)];exact aab ..⟩
    ·exact .inl hc
   ·refine .inr ⟨d,?_⟩
    split
    ·exact aaa _ hc
    ·exact hc
 obtain⟨d,hd⟩:=gen scope.names [] (.inl hm)
 cases q:(BY env scope.names []).lookup x with
 |none=>
  rw[List.lookup_eq_none_iff]at q
  have:=q _ hd
  simp at this
 |some c'=>exact(CA h q).symm.trans e▸rfl
end
structure Bk where
 (C:Addr)
 (fp:List Addr)
 (s:Shared)
 (H:Hp)
@[reducible]noncomputable def Cx.blk(X:Cx)(scope:Scope)(C:Addr)(fp:List Addr)(N:List Str)(s:Shared)(H:Hp):Cx :=
 {X with N:=N,s₀:=s,H₀:=H,env:=compEnvC scope (BY X.env scope.names []) C X.env,outer:=X.stack,ex:=fp,fn:=fun _=>false,pn:=[],xe:=fun _ _=>False}
abbrev PTs(X:Cx)(ifs:List Expr)(t:TT):Prop :=
 ∀(pins:List (Addr×Obj))(s:Shared)(σ:St)(H:Hp)(Q:Bool->Hp->Prop),Inv X pins σ H s->t σ H Q->wpAny (model X.prog X.w) X.A (JV ifs X.env) (TP X pins σ Q) X.xe s
abbrev OA:TT:=fun _ H Q=>Q true H
theorem JW{X:Cx}:PTs X [] OA:=fun _ _ _ H _ I h=>wpAny_tests_nil ⟨H,I,h⟩
abbrev CH(nl:Nat)(fr:List Nat)(σ:St):St:=aak nl none++fr.map fun j=>(σ[j]?).join
abbrev Gj(nl:Nat)(fr:List Nat)(wi:TI)(gz:Bk->TG)(tcz:Bk->TT)(tez:Bk->TE):TE:=fun σ H Q=>wi σ H fun J H1=>∀(z:Bk)(D:Addr),H1 D=none->∃W:Nat->Nat->List V->Hp->Prop,(∃m,W 0 m [] (upd H1 D (.lst [])))/\∀i m acc H2,W i m acc H2->
 H2 D=some (.lst acc)/\((J.stop i H2/\Q (.ref D) H2)\/(J.go i H2/\∀x H3,J.yld i H2 x H3->gz z x (CH nl fr σ) H3 fun σ4 H4=>tcz z σ4 H4 fun b H5=>
  if b=true then tez z σ4 H5 fun v H6=>H6 D=some (.lst acc)/\acc.length<sizeLine/\∃m',m'<m/\W (i+1) m' (acc++[v]) (upd H6 D (.lst (acc++[v]))) else ∃m',m'<m/\W (i+1) m' acc H5))
mutual
inductive RD(K:Frag)(H:Hp):V->PyData->Prop where
 |non:RD K H .non .none
 |bl (b:Bool):RD K H (.bl b) (.bool b)
 |int (i:Int):RD K H (.int i) (.int i)
 |str (x:Str):RD K H (.str x) (.str x)
 |lst {a:Addr} {xs:List V} {ds:List PyData} (h:SqL K H a xs) (r:RDs K H xs ds):RD K H (.ref a) (.list ds)
 |tup {a:Addr} {xs:List V} {ds:List PyData} (h:SqT K H a xs) (r:RDs K H xs ds):RD K H (.ref a) (.tuple ds)
inductive RDs(K:Frag)(H:Hp):List V->List PyData->Prop where
 |nil:RDs K H [] []
 |cons {x:V} {xs:List V} {d:PyData} {ds:List PyData} (h:RD K H x d) (r:RDs K H xs ds):RDs K H (x::xs) (d::ds)
end
section
variable{X:Cx}{pins:List (Addr×Obj)}{σ:St}{H:Hp}{s:Shared}
mutual
theorem RD.reads(I:Inv X pins σ H s):∀{v:V}{d:PyData}{u:Value},RD X.K H v d->RelV v u->∃as,Reads s.heap u d as
 |_,_,_,.non,r=>by cases (show _=Value.none from r);exact⟨_,.none⟩
 |_,_,_,.bl b,r=>by cases (show _=Value.bool b from r);exact⟨_,.bool b⟩
 |_,_,_,.int i,r=>by obtain⟨t,q⟩:=(show ∃t,_=Value.int i t from r);cases q;exact⟨_,.int i t⟩
 |_,_,_,.str x,r=>by obtain⟨t,q⟩:=(show ∃t,_=Value.str x t from r);cases q;exact⟨_,.str x t⟩
 |_,_,_,.lst (a:=a) h rs,r=>by
  cases (show _=Value.ref a from r)
  obtain⟨its,rv,⟨o,n,hp,hc,_,hd⟩,_⟩:=I.list h
  obtain⟨as,ra⟩:=RDs.reads I rs rv
  exact⟨_,reads_list_at hp hc hd (by simpa using ra)⟩
 |_,_,_,.tup (a:=a) h rs,r=>by
  cases (show _=Value.ref a from r)
  obtain⟨its,rv,⟨o,h1,h2,n,h3⟩,_⟩:=I.tuple h
  obtain⟨as,ra⟩:=RDs.reads I rs rv
  exact⟨_,reads_tuple_at h1 h2 h3 (by simpa using ra)⟩
theorem RDs.reads(I:Inv X pins σ H s):∀{xs:List V}{ds:List PyData}{us:List Value},RDs X.K H xs ds->Vals xs us->∃as,ReadsAll s.heap us ds as
 |_,_,_,.nil,.nil=>⟨_,.nil⟩
 |_,_,_,.cons h r,.cons q t=>by
  obtain⟨as,e1⟩:=RD.reads I h q
  obtain⟨bs,e2⟩:=RDs.reads I r t
  exact⟨_,.cons e1 e2⟩
end
abbrev Ro(K:Frag)(neg:Bool):R2:=fun x y H Q=>∃d e,RD K H x d/\RD K H y e/\SeqAt.shaped d=true/\SeqAt.shaped e=true/\Q (.bl (if neg then !d.eqv e else d.eqv e)) H
theorem Rp(hu:X.A.units+64<cLine):OpR X (compareOp .Eq) (Ro X.K false):=by
 intro pins s σ H x y u w' Q I rx ry h
 obtain⟨d,e,h1,h2,s1,s2,q⟩:=h
 obtain⟨_,r1⟩:=h1.reads I rx
 obtain⟨_,r2⟩:=h2.reads I ry
 exact eq_dataH r1 r2 s1 s2 hu ⟨.bl (d.eqv e),H,I,rfl,q⟩
theorem Rq(hu:X.A.units+64<cLine):OpR X (compareOp .NotEq) (Ro X.K true):=by
 intro pins s σ H x y u w' Q I rx ry h
 obtain⟨d,e,h1,h2,s1,s2,q⟩:=h
 obtain⟨_,r1⟩:=h1.reads I rx
 obtain⟨_,r2⟩:=h2.reads I ry
 exact ne_dataH r1 r2 s1 s2 hu ⟨.bl (!d.eqv e),H,I,rfl,q⟩
end
section
variable{P:Program}{w:World}{K:Frag}{mg:Str->Option Value}{base:Heap}
theorem Fun.okX{x qual:Str}{st:Stmt}{f:Addr}{fd:FuncData}{N ps:List Str}{k:Nat}{sp:Sp}(F:Fun K x qual st f fd)(S:FnScope N ps (Ak st))(len:∀vs H Q E,sp vs H Q E->vs.length=ps.length)
  (hbody:∀(f:Addr)(cdv:Value)(A:Around)(outer:List Env)(s:Shared)(H:Hp)(vs:List V)(Q:VK)(E:XK),Room k (A.deeper (envOfC qual (Ak st) s.heap.objs.size f cdv))->sp vs H Q E->
   ∃t,PSs (Ax (CXe P w) P w K mg base N qual (Ak st) f cdv A outer s H E) (AG st) t/\t {nx:=fun _ H'=>Q .non H',rt:=Q} (AE N vs) H):FnOk P w K mg base (CXe P w) (k+1) f fd ps sp:=by
 obtain⟨oc,od,kV,doc,pm,an,cdv,ct,osl,rfl,lk,hcd⟩:=F.ex
 exact SW lk hcd S len fun A outer s H vs Q E hr hsp=>hbody f cdv A outer s H vs Q E hr hsp
abbrev Df(K:Frag)(mg:Str->Option Value)(x:Str)(st:Stmt)(ps:List Str):Prop:=∃f fd,Fun K x x st f fd/\mg x=some (.ref f)/\Binds K fd ps []
abbrev Has(P:Program)(w:World)(K:Frag)(mg:Str->Option Value)(base:Heap)(x:Str)(k:Nat)(ps:List Str)(sp:Sp):Prop :=
 ∃f fd,FnOk P w K mg base (CXe P w) k f fd ps sp/\mg x=some (.ref f)/\PySem.W.keepIn K (.ref f)=true/\Binds K fd ps []
theorem Df.has{x:Str}{st:Stmt}{N ps:List Str}{k:Nat}{sp:Sp}(D:Df K mg x st ps)(S:FnScope N ps (Ak st))(len:∀vs H Q E,sp vs H Q E->vs.length=ps.length)
  (hbody:∀(f:Addr)(cdv:Value)(A:Around)(outer:List Env)(s:Shared)(H:Hp)(vs:List V)(Q:VK)(E:XK),Room k (A.deeper (envOfC x (Ak st) s.heap.objs.size f cdv))->sp vs H Q E->
   ∃t,PSs (Ax (CXe P w) P w K mg base N x (Ak st) f cdv A outer s H E) (AG st) t/\t {nx:=fun _ H'=>Q .non H',rt:=Q} (AE N vs) H):Has P w K mg base x (k+1) ps sp:=by
 obtain⟨f,fd,F,m,b⟩:=D
 exact⟨f,fd,F.okX S len hbody,m,F.kp,b⟩
theorem SZ{h:Heap}{x:Str}{st:Stmt}{ps:List Str}{f:Addr}{oc:Value}{od an:Option Addr}{osl:Array (Option Value)}{kV doc pm cdv ct:Value}(X:K.In h)(G:h.Ns mainGlobals mg)(a:nsIn K mainGlobals x=some (some (.ref f)))
  (l:K.lookup f=some ⟨oc,od,.func (PySem.W.fnOf x x (BK st) (AG st) (Ak st) .none kV doc pm an cdv ct),osl⟩) (c:PySem.W.codeIn K cdv x=true) (k:PySem.W.keepIn K (.ref f)=true)
  (hb:∀(kV doc pm:Value)(an:Option Addr)(cdv ct:Value)(us:List Value),us.length=ps.length->bindArgs (PySem.W.fnOf x x (BK st) (AG st) (Ak st) .none kV doc pm an cdv ct) ⟨us,[]⟩=pure (ps.zip us)):Df K mg x st ps:=by
 have F:=L9 (st:=st) l c k
 exact⟨f,_,F,mg_of X G a,F.binds hb⟩
end
section
variable{X:Cx}{k:Nat}{ps:List Str}{sp:Sp}{E:XK}{EX:EXT}{x:Str}{p pos:Pos}{e:Expr}{es:List Expr}{t:TA}
theorem OB(F:Has X.prog X.w X.K X.mg X.base x k ps sp)(hr:Room k X.A)(hg:Gl X x)(hx:EZ (CXe X.prog X.w) X EX)(ha:PA X (e::es) t)(hdb:(x==("__debug__" : Str))=false:=by decide)
  (he:starEach (e::es) X.env=(false,eval e X.env)::starEach es X.env:=by rfl) (hpl:(backTo pos (starEach es X.env)).any (·.1)=false:=by rfl):PE X (.Call (.Name x p) (e::es) [] pos) (Mc sp [] EX t):=by
 obtain⟨f,fd,F,m,kp,b⟩:=F
 exact NA F hr hg m kp b .nil hx ha hdb he hpl
end
theorem Same.new{H:Hp}{p:Addr}{o:HO}(h:H p=none):Same H (upd H p o):=fun b u e=>by rw[An (AD e h)];exact e
theorem Same.put{H H1:Hp}{p:Addr}{o:HO}(s:Same H H1)(h:H p=none):Same H (upd H1 p o):=fun b u e=>by rw[An (AD e h)];exact s b u e
theorem Same.tup{K:Frag}{H H':Hp}{a:Addr}{xs:List V}(e:Same H H')(h:SqT K H a xs):SqT K H' a xs:=by
 rcases h with (h|⟨o,h⟩)|h
 ·exact .inl (.inl (e _ _ h))
 ·exact .inl (.inr ⟨o,e _ _ h⟩)
 ·exact .inr h
mutual
theorem Same.rd{K:Frag}{H H':Hp}(e:Same H H'):∀{x:V}{d:PyData},RD K H x d->RD K H' x d
 |_,_,.non=>.non
 |_,_,.bl b=>.bl b
 |_,_,.int i=>.int i
 |_,_,.str x=>.str x
 |_,_,.lst h r=>.lst (e.seq h) (Same.rds e r)
 |_,_,.tup h r=>.tup (e.tup h) (Same.rds e r)
theorem Same.rds{K:Frag}{H H':Hp}(e:Same H H'):∀{xs:List V}{ds:List PyData},RDs K H xs ds->RDs K H' xs ds
 |_,_,.nil=>.nil
 |_,_,.cons h r=>.cons (Same.rd e h) (Same.rds e r)
end
theorem Iv{X:Cx}{use:Option (Value->Sem Unit)}{R:Value->Shared->Prop}{ipos:Pos}{pins:List (Addr×Obj)}{s:Shared}{σ:St}{H:Hp}{Q:VK}{elt tg iter:Expr}{ifs:List Expr}{scope:Scope}{pos:Pos}{wi:TI}{gz:Bk->TG}{tcz:Bk->TT}{tez:Bk->TE}(loc:List Str)(fr:List Nat)(frn:List Str)(hc:X.calm=true)(hi:PI X tg iter wi)
  (hfr:∀(j:Nat)(k:Nat)(x:Str),fr[j]?=some k->frn[j]?=some x->X.N[k]?=some x/\X.env.kindOf x=some .cell/\(x,NameKind.free)∈scope.names) (hln:frn.length=fr.length)
  (hcell:∀y∈scope.names,y.2≠.cell) (hkind:scope.kind=.function) (hnames:∀y∈scope.names,y.2=.local->scope.names.lookup y.1=some .local) (hfree:∀y∈scope.names,y.2=.free->X.env.kindOf y.1=some .cell)
  (hkin:∀(x:Str),x∈frn->(relabel scope X.env).names.lookup x=some .cell) (hsc:X.env.scope.kind=.function)
  (hgk:∀(z:Bk)(v:V)(σ:St)(H:Hp)(Q:St->Hp->Prop),gz z v σ H Q->gz z v σ H fun σ' H'=>Q σ' H'/\σ'.length=σ.length/\∀i,loc.length<=i->σ'[i]?=σ[i]?)
  (hblk:∀(z:Bk),PG (X.blk scope z.C z.fp (loc++frn) z.s z.H) tg (gz z)/\PTs (X.blk scope z.C z.fp (loc++frn) z.s z.H) ifs (tcz z)/\PE (X.blk scope z.C z.fp (loc++frn) z.s z.H) elt (tez z))
  (I:Inv X pins σ H s) (h:Gj loc.length fr wi gz tcz tez σ H Q)
  (haf:∀(D C:Addr)(H':Hp)(s':Shared)(m:Str->Option Value),s'.heap.Ns C m->(∀h',Heap.SameBut C s'.heap h'->Inv X pins σ H' {s' with heap:=h'})->
   (X.s₀.heap.objs.size<=C/\C≠X.env.locals/\(∀x c,X.env.cells.lookup x=some c->c≠C)/\(∀p∈X.pn++pins,p.1≠C)/\H' C=none/\C∉frs X.stack)->Q (.ref D) H'->compPost (model X.prog X.w) X.A X.xe use R (.ref D) C (.ok .next) s')
  (hs:∀x,foldedSetIterable iter X.env x=pure x):wpAny (model X.prog X.w) X.A (comprehension (.ListComp elt [⟨tg,iter,ifs,0⟩] scope pos) scope X.env ipos (newList []) false (eval iter X.env) use) R X.xe s:=by
 have hcs:∀x∈scope.names,x.2=.free->(X.env.cells.lookup x.1).isSome=true:=fun x hx hf=>by
  obtain⟨c,e⟩:=I.ok.has x.1 (.inl (hfree x hx hf))
  rw[e];rfl
 refine wpAny_comprehension_free rfl hs (KQ hcs) hkind hnames (thn (hi pins s σ H _ I h) fun v s1 h1=>thn h1 fun itv s2 h2=>?_)
 obtain⟨it,fp,tn,J,H2,rfl,I2,T,st2,f2,q2⟩:=h2
 refine wpAny_newList (items:=[]) ?_ (by simp)
 have eD:H2 s2.heap.objs.size=none:=I2.hok.fresh (aaj _)
 have pk:∀(o:Obj) b u,s2.heap.get? b=some u->(s2.heap.push o).get? b=some u:=fun o b u e=>Heap.get?_push_of_some _ e
 have I3:=I2.laid (a:=s2.heap.objs.size) (o:=.lst []) (t':=s2.toks) (h':=s2.heap.push {cls:=.type "list",data:=.seq ([]:List Value).toArray}) (pk _) (aaj _)
  ⟨aau _,[],0,.nil,Heap.get?_push_size _ rfl⟩
 generalize hs3:(⟨s2.heap.push {cls:=.type "list",data:=.seq ([]:List Value).toArray},s2.gens,s2.drawn,s2.toks,s2.os⟩:Shared)=s3 at I3 ⊢
 have k3:∀b u,s2.heap.get? b=some u->s3.heap.get? b=some u:=fun b u e=>by rw[<- hs3];exact pk _ b u e
 have tk3:s3.os=s2.os/\s3.gens=s2.gens:=by rw[<- hs3];exact⟨rfl,rfl⟩
 have z3:s3.heap.objs.size=s2.heap.objs.size+1:=by rw[<- hs3];exact Heap.size_push ..
 refine wpAny_newFunctionEnv hcell (by intro y hy;simp at hy) (fun h4 hns hsb=>?_) hkind
 have k4:∀b u,s3.heap.get? b=some u->h4.get? b=some u:=fun b u e=>hsb.extBut b u (aaE (Heap.lt_size e)) (Heap.get?_push_of_some _ e)
 have fpl:∀b∈fp,b<s2.heap.objs.size:=fun b hb=>by
  obtain⟨o,e,_⟩:=T.obj 0 _ st2 b hb
  exact Heap.lt_size e
 obtain⟨W,⟨m0,w0⟩,turn⟩:=q2 ⟨s3.heap.objs.size,fp,s3,upd H2 s2.heap.objs.size (.lst [])⟩ _ eD
 have ok4:(X.blk scope s3.heap.objs.size fp (loc++frn) s3 (upd H2 s2.heap.objs.size (.lst []))).Ok:=by
  refine⟨I.ok.mod,hkind,I.ok.glob,I.ok.blt,aaj _,fun x y c e1 e2=>I.ok.inj x y c (CA hcs e1) (CA hcs e2),fun x hx=>?_,fun x c z=>(nomatch z),I.ok.hd,I.ok.frames,.inl rfl,fun b hb=>⟨?_,fun x c e=>(f2 b hb).2.2.2.2.1 x c (CA hcs e)⟩,I3.bs,aar I.ok.bsz I3.sz,
   fun b o e hb=>?_,fun b hb z=>?_,I3.stack,I3.stkFree⟩
  ·have hm:(x,NameKind.free)∈scope.names:=by
    have:∃k',(k'=NameKind.cell\/k'=NameKind.free)/\(relabel scope X.env).names.lookup x=some k':=by
     rcases hx with z|z
     ·exact⟨_,.inl rfl,z⟩
     ·exact⟨_,.inr rfl,z⟩
    obtain⟨k',hk',z⟩:=this
    have zm:=PySem.mem_of_lookup z
    unfold relabel at zm
    obtain⟨⟨n,k⟩,hn,e⟩:=aaD.mp zm
    dsimp only at e
    split at e
    ·rename_i hk
     cases e
     have:k=NameKind.free:=by
      cases k<;>first|rfl|(simp at hk)
     rw[<- this];exact hn
    ·cases e
     rcases hk' with rfl|rfl
     ·exact absurd rfl (hcell _ hn)
     ·exact hn
   obtain⟨c,e⟩:=I.ok.has x (.inl (hfree _ hm rfl))
   exact⟨c,Gi hm hcs e⟩
  ·have:=fpl b hb
   exact aaE (by rw[z3];exact abw this)
  ·rcases (f2 b hb).2.2.2.1 with z|z
   ·exact I.ok.noex b o e z
   ·exact absurd (aaw (Heap.lt_size (I.ok.bs b o e).1) z) (aaS _)
  ·have:=I2.stkSub b z
   rcases aaf.mp this with rfl|y
   ·exact(f2 _ hb).2.1 rfl
   ·exact(f2 b hb).2.2.1 y
 have I4:Inv (X.blk scope s3.heap.objs.size fp (loc++frn) s3 (upd H2 s2.heap.objs.size (.lst []))) [] (CH loc.length fr σ) (upd H2 s2.heap.objs.size (.lst [])) {s3 with heap:=h4,toks:=s3.toks+([]:List (Str×Value)).length}:=by
  refine⟨ok4,rfl,I3.bare,Un.kept k4,⟨_,hns,fun i x v e1 e2 e3=>?_⟩,fun x c e=>?_,I3.hok.fresh (aaj _),fun x c e=>I3.freeC x c (CA hcs e),fun p hp=>(nomatch hp),I3.hok.kept k4,?_⟩
  ·unfold CH at e2
   by_cases hi:i<loc.length
   ·rw[aa2 (by simpa using hi),aa9]at e2
    split at e2<;>cases e2
   ·rw[aaP (by simpa using hi),abu,aal]at e2
    have e1':frn[i-loc.length]?=some x:=by
     have:(loc++frn)[i]?=some x:=e1
     rw[aaP (abN hi)]at this
     exact this
    cases ek:fr[i-loc.length]? with
    |none=>rw[ek]at e2;cases e2
    |some k=>
     rw[ek]at e2
     have e2':(σ[k]?).join=some v:=Option.some.inj e2
     have e2'':σ[k]?=some (some v):=by
      cases q:σ[k]? with
      |none=>rw[q]at e2';cases e2'
      |some y=>rw[q]at e2';exact congrArg some e2'
     obtain⟨n1,n2,n3⟩:=hfr _ k x ek e1'
     obtain⟨m,_,hl⟩:=I3.loc
     obtain⟨u,ru,lk⟩:=hl k x v n1 e2'' (.inr (.inl n2))
     refine⟨u,ru,.inr ⟨.inl (hkin x (aae e1')),?_⟩⟩
     rcases lk with⟨z,_⟩|⟨_,c,ec,ic⟩
     ·rw[n2]at z;cases z
     ·obtain⟨o,ho,hd⟩:=ic
      exact⟨c,Gi n3 hcs ec,o,k4 _ _ ho,hd⟩
  ·obtain⟨v,o,ho,hd⟩:=I3.cell x c (CA hcs e)
   exact⟨v,o,k4 _ _ ho,hd⟩
  ·unfold CH
   show _=(loc++frn).length
   rw[aaI,aaI,abu,aac,hln]
 have stat:∀{H':Hp},(∀b∈fp,H' b=none)->∀b∈fp,FpOk (X.blk scope s3.heap.objs.size fp (loc++frn) s3 (upd H2 s2.heap.objs.size (.lst []))) [] H' b:=fun hn b hb=>
  ⟨hn b hb,(ok4.exf b hb).1,ok4.exfs b hb,.inl hb,(ok4.exf b hb).2,fun p hp=>(nomatch hp)⟩
 have fp3:∀b∈fp,(upd H2 s2.heap.objs.size (.lst [])) b=none:=fun b hb=>by
  rw[An (aaE (fpl b hb))];exact(f2 b hb).1
 obtain⟨pg,pt,pe⟩:=hblk ⟨s3.heap.objs.size,fp,s3,upd H2 s2.heap.objs.size (.lst [])⟩
 have st4:tn 0 h4:=T.keep 0 _ _ st2 fun b _ o e=>k4 b o (k3 b o e)
 have after:∀{i:Nat}{H':Hp}{s':Shared}{acc:List V}{σ':St},Inv (X.blk scope s3.heap.objs.size fp (loc++frn) s3 (upd H2 s2.heap.objs.size (.lst []))) [] σ' H' s'->Q (.ref s2.heap.objs.size) H'->
   compPost (model X.prog X.w) X.A X.xe use R (.ref s2.heap.objs.size) s3.heap.objs.size (.ok .next) s':=by
  intro i H' s' acc σ' I5 q
  obtain⟨m,hn,_⟩:=I5.loc
  refine haf s2.heap.objs.size s3.heap.objs.size H' s' m hn (fun h' hb=>?_) ⟨I3.sz,ab4 I3.lt,fun x c e z=>?_,fun p hp z=>?_,I5.free,fun z=>?_⟩ q
  ·have same:∀b o,s3.heap.get? b=some o->h'.get? b=s'.heap.get? b:=fun b o e=>hb.2 b (aaE (Heap.lt_size e))
   have u:=I5.base
   have un:Un (frs X.stack) fp (upd H2 s2.heap.objs.size (.lst [])) H' s3.heap h':=⟨fun b o e n h1 h2=>(same b o e).trans (u.keep b o e n h1 h2),fun b o e n h1 h2=>by
     obtain⟨sl,z⟩:=u.slot b o e n h1 h2
     exact⟨sl,(same b o e).trans z⟩,u.free,fun b o e h1=>by
     obtain⟨o',z⟩:=u.there b o e h1
     exact⟨o',(same b o e).trans z⟩,u.tups,u.frzs,u.tbls⟩
   have hok:HOk X.prog X.w H' h':=fun b o e=>by
    have fC:H' s3.heap.objs.size=none:=I5.free
    refine(I5.hok b o e).stay (fun c w' hc z=>(hb.2 c ?_).trans z) (fun _ z=>z) fun _ _ z=>z
    rintro rfl
    rcases hc with rfl|hc
    ·rw[fC]at e;cases e
    ·rw[fC]at hc;cases hc
   exact I3.call' (s':={s' with heap:=h'}) (ch:=fp) I5.os un hok I5.bare (fun b hb=>⟨(f2 b hb).2.2.2.1,(f2 b hb).2.1,(f2 b hb).2.2.2.2.1,(f2 b hb).2.2.2.2.2⟩)
  ·obtain⟨v,hcell⟩:=I3.cell x c e
   exact absurd (z▸hcell.lt) (aaS _)
  ·exact absurd (z▸Heap.lt_size (I3.pin p hp).1) (aaS _)
  ·rcases aaf.mp (I3.stkSub _ z) with y|y
   ·exact absurd (y▸I3.lt) (aaS _)
   ·exact I3.nofs (aaj _) y
 have loop:∀s5:Shared,s5={s3 with heap:=h4,toks:=s3.toks+([]:List (Str×Value)).length}->
   codeAny (model X.prog X.w) X.A (.compLoop (.ListComp elt [⟨tg,iter,ifs,0⟩] scope pos) 0 (.ref it) (.ref s2.heap.objs.size) (compEnvC scope (BY X.env scope.names []) s3.heap.objs.size X.env))
    (compPost (model X.prog X.w) X.A X.xe use R (.ref s2.heap.objs.size) s3.heap.objs.size) s5:=by
  rintro s5 rfl
  refine Iu (fun n s'=>∃i acc H',Inv (X.blk scope s3.heap.objs.size fp (loc++frn) s3 (upd H2 s2.heap.objs.size (.lst []))) [] (CH loc.length fr σ) H' s'/\tn i s'.heap/\(∀b∈fp,H' b=none)/\W i n acc H') ?_ m0
   ⟨0,[],_,I4,st4,fp3,w0⟩
  rintro n s6 ⟨i,acc,H6,I6,st6,fr6,w6⟩
  obtain⟨hD,alt⟩:=turn i n acc H6 w6
  rcases alt with⟨stop,q⟩|⟨go,step⟩
  ·refine thn (T.done (X.blk scope s3.heap.objs.size fp (loc++frn) s3 (upd H2 s2.heap.objs.size (.lst []))) rfl rfl rfl hc i [] s6 _ H6 (fun _ _=>False) I6 (stat fr6) st6 stop) fun r s7 ⟨hr,I7⟩=>?_
   subst hr
   exact after (i:=i) (acc:=acc) I7 q
  ·refine thn (T.item (X.blk scope s3.heap.objs.size fp (loc++frn) s3 (upd H2 s2.heap.objs.size (.lst []))) rfl rfl rfl hc i [] s6 _ H6 (fun _ _=>False) I6 (stat fr6) st6 go) fun r s7 ⟨u,hr,h7⟩=>?_
   subst hr
   refine thn h7 fun _ s8 ⟨x,H8,I8,r8,y8,st8,fr8⟩=>?_
   have I8':=I8.pinned (stat fr8) (T.obj _ _ st8)
   have back:∀{σ9:St}{H9:Hp}{s9:Shared},Inv (X.blk scope s3.heap.objs.size fp (loc++frn) s3 (upd H2 s2.heap.objs.size (.lst []))) ([]++ES fp s8.heap) σ9 H9 s9->σ9.length=(CH loc.length fr σ).length->(∀i,loc.length<=i->σ9[i]?=(CH loc.length fr σ)[i]?)->
     Inv (X.blk scope s3.heap.objs.size fp (loc++frn) s3 (upd H2 s2.heap.objs.size (.lst []))) [] (CH loc.length fr σ) H9 s9/\tn (i+1) s9.heap/\(∀b∈fp,H9 b=none):=by
    intro σ9 H9 s9 I9 hl hk
    refine⟨(I9.unpinned).weak hl.symm fun j v ej=>?_,T.keep _ _ _ st8 fun b hb o e=>(I9.pin (b,o) (aai _ (aai _ (Dx hb e)))).1,fun b hb=>?_⟩
    ·by_cases hj:j<loc.length
     ·unfold CH at ej
      rw[aa2 (by simpa using hj),aa9]at ej
      split at ej<;>cases ej
     ·rw[hk j (abN hj)];exact ej
    ·obtain⟨o,e,d⟩:=T.obj _ _ st8 b hb
     exact(I9.pin (b,o) (aai _ (aai _ (Dx hb e)))).2.1
   refine thn (pg _ s8 _ H8 x u _ I8' r8 (hgk _ _ _ _ _ (step x H8 y8))) fun _ s9 ⟨σ9,H9,I9,q9,l9,k9⟩=>?_
   refine thn (pt _ s9 σ9 H9 _ I9 q9) fun ok s10 ⟨H10,I10,q10⟩=>?_
   cases ok with
   |false=>
    rw[if_neg (by decide)]at q10 ⊢
    obtain⟨m',hm,w'⟩:=q10
    obtain⟨b1,b2,b3⟩:=back I10 l9 k9
    exact⟨m',hm,i+1,acc,H10,b1,b2,b3,w'⟩
   |true=>
    rw[if_pos rfl]at q10 ⊢
    refine thn (pe _ s10 σ9 H10 _ I10 q10) fun y s11 ⟨v,H11,I11,r11,hD11,hz,m',hm,w'⟩=>?_
    refine thn (EV _ s11 σ9 H11 (.ref s2.heap.objs.size) [v] (.ref s2.heap.objs.size) [y] (fun _ H12=>W (i+1) m' (acc++[v]) H12) I11 rfl (.cons r11 .nil) ⟨_,acc,v,rfl,rfl,hD11,hz,w'⟩) fun _ s12 ⟨_,H12,I12,_,w12⟩=>?_
    obtain⟨b1,b2,b3⟩:=back I12 l9 k9
    exact⟨m',hm,i+1,_,H12,b1,b2,b3,w12⟩
 exact codeAny_compStart_list (loop _ rfl) (T.self X.A 0 _ _ _ st4 (loop _ rfl))
theorem Inv.but{X:Cx}{pins:List (Addr×Obj)}{s:Shared}{σ:St}{H:Hp}{C:Addr}{h':Heap}(I:Inv X pins σ H s)(hC:X.s₀.heap.objs.size<=C/\C≠X.env.locals/\(∀x c,X.env.cells.lookup x=some c->c≠C)/\(∀p∈X.pn++pins,p.1≠C)/\H C=none/\C∉frs X.stack)
  (hb:Heap.SameBut C s.heap h'):Inv X pins σ H {s with heap:=h'}:=by
 obtain⟨h1,h2,h3,h4,h5,h6⟩:=hC
 have same:∀b,b∉[C]->h'.get? b=s.heap.get? b:=fun b z=>hb.2 b (fun e=>z (by simp[e]))
 refine I.call' (s':={s with heap:=h'}) (ch:=[C]) rfl ⟨fun b o e _ _ z=>(same b z).trans e,fun b o e _ _ z=>⟨o.slots,(same b z).trans e⟩,fun b o e n z=>n,fun b o e z=>⟨o,(same b z).trans e⟩,fun _ _ e=>e,fun _ _ _ e=>e,fun _ ps e=>⟨#[],by simpa using e⟩⟩ ?_ I.bare
  (fun b z=>by
   have:b=C:=by simpa using z
   subst this
   exact⟨.inr h1,h2,h3,h4⟩)
 intro b o e
 refine(I.hok b o e).stay (fun c w' hc z=>(hb.2 c ?_).trans z) (fun _ z=>z) fun _ _ z=>z
 rintro rfl
 rcases hc with rfl|hc
 ·rw[h5]at e;cases e
 ·rw[h5]at hc;cases hc
theorem KR{X:Cx}{elt tg iter:Expr}{ifs:List Expr}{scope:Scope}{pos spos py:Pos}{y:Str}{k:Nat}{wi:TI}{gz:Bk->TG}{tcz:Bk->TT}{tez:Bk->TE}(loc:List Str)(fr:List Nat)(frn:List Str)(hc:X.calm=true)(hi:PI X tg iter wi)
  (hfr:∀(j:Nat)(k:Nat)(x:Str),fr[j]?=some k->frn[j]?=some x->X.N[k]?=some x/\X.env.kindOf x=some .cell/\(x,NameKind.free)∈scope.names) (hln:frn.length=fr.length)
  (hcell:∀y∈scope.names,y.2≠.cell) (hkind:scope.kind=.function) (hnames:∀y∈scope.names,y.2=.local->scope.names.lookup y.1=some .local) (hfree:∀y∈scope.names,y.2=.free->X.env.kindOf y.1=some .cell)
  (hkin:∀(x:Str),x∈frn->(relabel scope X.env).names.lookup x=some .cell) (hsc:X.env.scope.kind=.function)
  (hgk:∀(z:Bk)(v:V)(σ:St)(H:Hp)(Q:St->Hp->Prop),gz z v σ H Q->gz z v σ H fun σ' H'=>Q σ' H'/\σ'.length=σ.length/\∀i,loc.length<=i->σ'[i]?=σ[i]?)
  (hblk:∀(z:Bk),PG (X.blk scope z.C z.fp (loc++frn) z.s z.H) tg (gz z)/\PTs (X.blk scope z.C z.fp (loc++frn) z.s z.H) ifs (tcz z)/\PE (X.blk scope z.C z.fp (loc++frn) z.s z.H) elt (tez z))
  (hs:∀x,foldedSetIterable iter X.env x=pure x) (hN:X.N.Nodup) (hk:X.N[k]?=some y) (hx:Loc X.env.scope y) (hf:X.fn y=true\/X.env.scope.names.lookup y=some .local)
  (hsw:swapsWith (.ListComp elt [⟨tg,iter,ifs,0⟩] scope pos) (some (.Name y py)) spos.line X.env=pure true) :
  PS X (.Assign [.Name y py] (.ListComp elt [⟨tg,iter,ifs,0⟩] scope pos) spos) (GR (Gj loc.length fr wi gz tcz tez) (Eu k)):=by
 intro pins s σ H D I h
 rw[exec_Assign_Name_used _ _ _ _ hsw]
 refine wpAny_bind (wpAny_standAt (wpAny_bind ?_))
 show wpAny _ X.A (do let _ <- comprehension (.ListComp elt [⟨tg,iter,ifs,0⟩] scope pos) scope X.env _ (newList []) false (eval iter X.env) (some (assign (.Name y py) X.env))) _ _ s
 refine wpAny_bind (wpAny_mono (Iv (R:=fun _ s'=>SP X pins D .next s') loc fr frn hc hi hfr hln hcell hkind hnames hfree hkin hsc hgk hblk I h (fun D' C H' s' m hn hI hC q=>?_) hs) (fun _ s' hq=>wpAny_pure (wpAny_pure hq)) fun _ _ e=>e)
 have I7:Inv X pins σ H' s':=hI s'.heap ⟨rfl,fun _ _=>rfl⟩
 refine wpAny_assign_Name (Hr (v:=.ref D') I7 hN hk hx rfl (fun s8 I8 ⟨a,sb,ha⟩=>?_) hf)
 refine⟨m,hn.sameBut sb ?_,fun h9 sb9=>⟨_,H',I8.but hC sb9,q⟩⟩
 rcases ha with rfl|ha
 ·exact hC.2.1
 ·exact fun z=>hC.2.2.1 _ _ ha z.symm
theorem Pa{X:Cx}{elt tg iter:Expr}{ifs:List Expr}{scope:Scope}{pos:Pos}{wi:TI}{gz:Bk->TG}{tcz:Bk->TT}{tez:Bk->TE}(loc:List Str)(fr:List Nat)(frn:List Str)(hc:X.calm=true)(hi:PI X tg iter wi)
  (hfr:∀(j:Nat)(k:Nat)(x:Str),fr[j]?=some k->frn[j]?=some x->X.N[k]?=some x/\X.env.kindOf x=some .cell/\(x,NameKind.free)∈scope.names) (hln:frn.length=fr.length)
  (hcell:∀y∈scope.names,y.2≠.cell) (hkind:scope.kind=.function) (hnames:∀y∈scope.names,y.2=.local->scope.names.lookup y.1=some .local) (hfree:∀y∈scope.names,y.2=.free->X.env.kindOf y.1=some .cell)
  (hkin:∀(x:Str),x∈frn->(relabel scope X.env).names.lookup x=some .cell) (hsc:X.env.scope.kind=.function)
  (hgk:∀(z:Bk)(v:V)(σ:St)(H:Hp)(Q:St->Hp->Prop),gz z v σ H Q->gz z v σ H fun σ' H'=>Q σ' H'/\σ'.length=σ.length/\∀i,loc.length<=i->σ'[i]?=σ[i]?)
  (hblk:∀(z:Bk),PG (X.blk scope z.C z.fp (loc++frn) z.s z.H) tg (gz z)/\PTs (X.blk scope z.C z.fp (loc++frn) z.s z.H) ifs (tcz z)/\PE (X.blk scope z.C z.fp (loc++frn) z.s z.H) elt (tez z))
  (hs:∀x,foldedSetIterable iter X.env x=pure x:=by intro _;rfl):PE X (.ListComp elt [⟨tg,iter,ifs,0⟩] scope pos) (Gj loc.length fr wi gz tcz tez):=by
 intro pins s σ H Q I h
 rw[eval_ListComp]
 exact Iv (use:=none) (R:=EP X pins σ Q) loc fr frn hc hi hfr hln hcell hkind hnames hfree hkin hsc hgk hblk I h (fun D C H' s' m hn hI _ q=>⟨m,hn,fun h' sb=>⟨.ref D,H',hI h' sb,rfl,q⟩⟩) hs
end L2
end
section
namespace L2
open PySem PySem.Spec PyProof.Rows PySem.W
theorem Ex(a:Int):∀{acc:List Value}{k n:Nat},acc.length=n->(∀j v,acc[j]?=some v->∃t,v=Value.int (a+((k+j:Nat):Int)) t)->Vals ((aam n).map fun i=>V.int (a+((k+i:Nat):Int))) acc
 |[],k,n,hl,_=>by subst hl;exact .nil
 |u::r,k,n,hl,h=>by
  subst hl
  obtain⟨t,rfl⟩:=h 0 u rfl
  rw[aaH,acB,aaG,aaJ]
  refine .cons ⟨t,rfl⟩ ?_
  have:=Ex a (acc:=r) (k:=k+1) rfl fun j v e=>by
   obtain⟨t,e⟩:=h (j+1) v (by simpa using e)
   exact⟨t,by rw[e];congr 2;omega⟩
  rw[abc (g:=fun i=>V.int (a+((k+1+i:Nat):Int))) (fun i _=>by show V.int _=V.int _;congr 2;omega)]
  exact this
section
variable{X:Cx}
abbrev tLR(ta:TA):TE:=fun σ H Q=>ta σ H fun vs H1=>∃i j:Int,vs=[.int i,.int j]/\(-(2^62)<=i/\i<2^62/\-(2^62)<=j/\j<2^62)/\(j-i).toNat<=2^24/\∀l,H1 l=none->Q (.ref l) (upd H1 l (.lst ((aam (j-i).toNat).map fun k=>.int (i+(k:Nat)))))
theorem NB{a b:Expr}{ta:TA}{p1 p2 pos pos2:Pos}(hc:X.calm=true)(hgl:Gl X "list")(hml:X.mg "list" = none)(hg:Gl X "range")(hm:X.mg "range" = none)(ha:PA X [a,b] ta)(hs:starEach [a,b] X.env=[(false,eval a X.env),(false,eval b X.env)])(hs2:starEach [b] X.env=[(false,eval b X.env)]) :
  PE X (.Call (.Name "list" p1) [.Call (.Name "range" p2) [a,b] [] pos2] [] pos) (tLR ta):=by
 intro pins s σ H Q I h
 refine wpAny_Call_Name_kw (CD I hgl hml (show bootBuiltins "list" = some (.type "list") by decide +kernel) ?_)
 refine PyProof.Rows.callWith_type1 (rest:=[]) ?_ rfl rfl
 show wpAny _ _ (spliced ((false,eval (.Call (.Name "range" p2) [a,b] [] pos2) X.env)::backTo pos (starEach [] X.env))) _ _ s
 refine Calls.spliced_cons ?_
 refine Call_ (CD I hg hm boot_range (PyProof.Rows.callWith_type1 (thn (ha pos2 pins s σ H _ I h) fun us s1 ⟨vs,H1,I1,r1,q1⟩=>?_) (by rw[hs,hs2]) (by rw[hs2];rfl)))
 obtain⟨i,j,e,⟨q1,q2,q3,q4⟩,hz,q⟩:=q1
 subst e
 cases r1 with
 |cons r rr=>
  cases rr with
  |cons r' rr=>
   cases rr
   obtain⟨t,rfl⟩:=r
   obtain⟨t',rfl⟩:=r'
   refine call_range_2 ?_
   refine Calls.spliced_nil ?_
   have hn:Builtin.Range.rangeSize i j 1=(((j-i).toNat:Nat):Int):=by rw[rangeSize_one];split<;>omega
   refine call_list_range (I1.ok.hd hc) (IsRange.new ..) (small_one q1 q2 q3 q4) hn hz fun h' tk acc c' hk hS hacc=>?_
   obtain⟨z1,z2⟩:=hacc
   have I2:Inv X pins σ H1 {s1 with heap:=s1.heap.push {cls:=.type "range",data:=.fields #[.int i t,.int j t',.int 1 s1.toks]},toks:=s1.toks+1}:=I1.kept (t':=s1.toks+1) fun b o e=>Heap.get?_push_of_some _ e
   have hf:=I2.hok.fresh (aaj _)
   refine⟨.ref _,upd H1 _ (.lst ((aam (j-i).toNat).map fun k=>.int (i+(k:Nat)))),I2.laid (t':=tk) hk (aaj _) ?_,rfl,q _ hf⟩
   refine⟨by rw[aac,aa1];exact hz,acc.toList,c',?_,hS⟩
   have:=Ex i (acc:=acc.toList) (k:=0) (n:=(j-i).toNat) (by simpa using z1) fun k v e=>by
    obtain⟨t,e⟩:=z2 k v (by simpa using e)
    exact⟨t,by rw[e];congr 2<;>omega⟩
   simpa using this
abbrev TN(ta:TA):TE:=fun σ H Q=>ta σ H fun vs H1=>∃j:Int,vs=[.int j]/\(-(2^62)<=j/\j<2^62)/\(j-0).toNat<=2^24/\∀l,H1 l=none->Q (.ref l) (upd H1 l (.lst ((aam (j-0).toNat).map fun k=>.int (0+(k:Nat)))))
theorem Me{b:Expr}{ta:TA}{p1 p2 pos pos2:Pos}(hc:X.calm=true)(hgl:Gl X "list")(hml:X.mg "list" = none)(hg:Gl X "range")(hm:X.mg "range" = none)(ha:PA X [b] ta)(hs:starEach [b] X.env=[(false,eval b X.env)]) :
  PE X (.Call (.Name "list" p1) [.Call (.Name "range" p2) [b] [] pos2] [] pos) (TN ta):=by
 intro pins s σ H Q I h
 refine wpAny_Call_Name_kw (CD I hgl hml (show bootBuiltins "list" = some (.type "list") by decide +kernel) ?_)
 refine PyProof.Rows.callWith_type1 (rest:=[]) ?_ rfl rfl
 show wpAny _ _ (spliced ((false,eval (.Call (.Name "range" p2) [b] [] pos2) X.env)::backTo pos (starEach [] X.env))) _ _ s
 refine Calls.spliced_cons ?_
 refine Call_ (CD I hg hm boot_range (PyProof.Rows.callWith_type1 (thn (ha pos2 pins s σ H _ I h) fun us s1 ⟨vs,H1,I1,r1,q1⟩=>?_) hs rfl))
 obtain⟨j,e,⟨q3,q4⟩,hz,q⟩:=q1
 subst e
 cases r1 with
 |cons r' rr=>
   cases rr
   obtain⟨t',rfl⟩:=r'
   refine call_range_1 ?_
   refine Calls.spliced_nil ?_
   have hn:Builtin.Range.rangeSize 0 j 1=(((j-0).toNat:Nat):Int):=by rw[rangeSize_one];split<;>omega
   refine call_list_range (I1.ok.hd hc) (IsRange.new ..) (small_one (by decide) (by decide) q3 q4) hn hz fun h' tk acc c' hk hS hacc=>?_
   obtain⟨z1,z2⟩:=hacc
   have I2:Inv X pins σ H1 {s1 with heap:=s1.heap.push {cls:=.type "range",data:=.fields #[.int 0 s1.toks,.int j t',.int 1 (s1.toks+1)]},toks:=s1.toks+1+1}:=I1.kept (t':=s1.toks+1+1) fun b o e=>Heap.get?_push_of_some _ e
   have hf:=I2.hok.fresh (aaj _)
   refine⟨.ref _,upd H1 _ (.lst ((aam (j-0).toNat).map fun k=>.int (0+(k:Nat)))),I2.laid (t':=tk) hk (aaj _) ?_,rfl,q _ hf⟩
   refine⟨by rw[aac,aa1];exact hz,acc.toList,c',?_,hS⟩
   have:=Ex 0 (acc:=acc.toList) (k:=0) (n:=(j-0).toNat) (by simpa using z1) fun k v e=>by
    obtain⟨t,e⟩:=z2 k v (by simpa using e)
    exact⟨t,by rw[e];congr 2<;>omega⟩
   simpa using this
theorem Vals.tk{xs:List V}{us:List Value}(h:Vals xs us):∀n,Vals (xs.take n) (us.take n)/\Vals (xs.drop n) (us.drop n):=by
 induction h with
 |nil=>intro n;cases n<;>exact⟨.nil,.nil⟩
 |cons h1 h2 ih=>
  intro n
  cases n with
  |zero=>exact⟨.nil,.cons h1 h2⟩
  |succ n=>exact⟨.cons h1 (ih n).1,(ih n).2⟩
end
end L2
end
section
namespace L2
open PySem PySem.Spec PyProof PyProof.Rows PySem.W
section
variable{prog:Program}{w:World}{A:Around}{E:Value->Shared->Prop}
theorem Mf{it l:Addr}{items:Array Value}(hne:l≠it):∀(n i:Nat)(s:Shared)(Q:List Value->Shared->Prop),s.heap.IsListIter it l i->s.heap.IsList l items->i+n<=items.size->(∀h',h'.IsListIter it l (i+n)->Heap.SameBut it s.heap h'->Q ((items.toList.drop i).take n) {s with heap:=h'})->wpAny (model prog w) A (draw (.ref it) n) Q E s
 |0,i,s,Q,hit,_,_,hQ=>wpAny_pure (by simpa using hQ s.heap hit (Heap.SameBut.refl ..))
 |n+1,i,s,Q,hit,hl,hle,hQ=>by
  have hz:i<items.size:=by omega
  show wpAny _ _ (pyNext (.ref it) >>= _) Q E s;refine wpAny_bind (wpAny_pyNext_list_item hit hl (x:=items[i]) (by simp[hz]) fun h1 hit1 hs1=>?_)
  have hl1:h1.IsList l items:=by
   obtain⟨o,e,c⟩:=hl
   exact⟨o,(hs1.2 l hne).trans e,c⟩
  refine wpAny_bind (wpAny_holding (Mf hne n (i+1) _ _ hit1 hl1 (by omega) fun h2 hit2 hs2=>wpAny_pure ?_))
  have hd:items.toList.drop i=items[i]::items.toList.drop (i+1):=by simp[abU,hz]
  have:=hQ h2 (by rw[show i+(n+1)=i+1+n by omega];exact hit2) ⟨hs2.1.trans hs1.1,fun b hb=>(hs2.2 b hb).trans (hs1.2 b hb)⟩
  rw[hd,List.take_succ_cons]at this;exact this
theorem Pb{s:Shared}{l:Addr}{items:Array Value}{Q:List Value->Shared->Prop}(hh:A.handled=none)(hl:s.heap.IsList l items)(hQ:∀h',Heap.ExtBut s.heap.objs.size s.heap h'->Q items.toList {s with heap:=h'}):wpAny (model prog w) A (unpackItems (.ref l) items.size none) Q E s:=by
 have hlt:l≠s.heap.objs.size:=by obtain⟨o,ho,_⟩:=hl;exact aaE (Heap.lt_size ho)
 unfold unpackItems notIterableAtAll
 refine wpAny_bind (wpAny_bind (wpAny_specialOf hl.typeIs slot_list_iter.lookup (wpAny_pure ?_)))
 simp only[aaM,if_false];refine wpAny_bind (wpAny_holding (wpAny_pyIter_list hl ?_))
 have hl0:(s.heap.push {cls:=.type "list_iterator",data:=.fields #[.ref l,.int 0 0]}).IsList l items:=by
  obtain⟨o,e,c⟩:=hl
  exact⟨o,Heap.get?_push_of_some _ e,c⟩
 refine wpAny_bind (wpAny_holding (Mf hlt items.size 0 _ _ ⟨_,Heap.get?_push_size _ rfl,rfl,rfl⟩ hl0 (by omega) fun h1 hit1 hs1=>?_))
 have hall:List.take items.size (List.drop 0 items.toList)=items.toList:=by
  rw[List.drop_zero];exact acC (by simp)
 rw[hall,if_neg (by simp)]
 have hl1:h1.IsList l items:=by
  obtain⟨o,e,c⟩:=hl0
  exact⟨o,(hs1.2 l hlt).trans e,c⟩
 refine wpAny_bind (wpAny_holding (wpAny_pyNext_list_end hh hit1 hl1 (by simp) fun h2 he2=>?_))
 simp only[Option.isSome_none,aaM,if_false]
 exact wpAny_pure (hQ h2 fun b o hb e=>he2 b o hb ((hs1.2 b hb).trans (Heap.get?_push_of_some _ e)))
end
section
variable{X:Cx}{pos:Pos}
abbrev Rr(K:PySem.W.Frag)(n:Nat)(t:TGs):TG:=fun v σ H Q=>∃a xs,v=.ref a/\SqL K H a xs/\xs.length=n/\t xs σ H Q
theorem Rt{es:List Expr}{k:Nat}{t:TGs}{n:Nat}(hc:X.calm=true)(h:PGs X es t)(hn:(assignEach es X.env).length=n)(hst:(assignEach es X.env).findIdx? (·.1)=none):PG X (.Tuple es k pos) (Rr X.K n t):=by
 intro pins s σ H v u Q I r hw
 obtain⟨a,xs,rfl,hq,hl,hw⟩:=hw
 cases r
 obtain⟨its,rv,pl,hz⟩:=I.list hq
 rw[assign_Tuple]
 refine wpAny_bind (wpAny_standAt ?_)
 unfold unpack
 rw[hst,hn,<- hl,rv.length,show its.length=its.toArray.size by simp]
 refine wpAny_bind (wpAny_holding (Pb (I.ok.hd hc) pl.isList fun h' hx=>?_))
 have I1:Inv X pins σ H {s with heap:=h'}:=I.kept (t':=s.toks) fun b o e=>hx b o (aaE (Heap.lt_size e)) e
 exact h pins _ σ H xs _ Q I1 (by simpa using rv) hw
end
end L2
end
section
namespace L2
open PySem PySem.Spec PyProof.Rows PySem.W
open AutoSeq1 (wpAny_loadPart')
theorem FpOk.upd{X:Cx}{pins:List (Addr×Obj)}{H:Hp}{c t:Addr}{o:HO}(h:FpOk X pins H c)(n:c≠t):FpOk X pins (upd H t o) c:=by
 obtain⟨f0,f1,f2,f3,f4,f5⟩:=h
 exact⟨by rw[An n];exact f0,f1,f2,f3,f4,f5⟩
end L2
end
section
set_option maxHeartbeats 1000000
namespace L2
open PySem PySem.Spec PyProof.Rows PySem.W
theorem FI{h base base':Heap}(k:∀b,base.get? b=none->base'.get? b=none):∀{l:List Env},h.FunFrames base l->h.FunFrames base' l
 |[],_=>trivial
 |env::rest,hl=>by
  obtain⟨hk,⟨L,o,hf,hn,ho,hd⟩,hr⟩:=hl
  exact⟨hk,⟨L,o,hf,k L hn,ho,hd⟩,FI k hr⟩
end L2
end
section
namespace L2
open PySem PySem.Spec PyProof.Rows
abbrev PEk(X:Cx)(e:Expr)(t:TE):Prop :=
 ∀(pins:List (Addr×Obj))(s:Shared)(σ:St)(H:Hp)(Q:VK),Inv X pins σ H s->0<s.toks->t σ H Q->wpAny (model X.prog X.w) X.A (eval e X.env) (EP X pins σ Q) X.xe s
section
variable{X:Cx}{a b e o:Expr}{es:List Expr}{ta tb te to:TE}{t:TA}{pos:Pos}
theorem PE.k(h:PE X e te):PEk X e te:=fun pins s σ H Q I _ q=>h pins s σ H Q I q
end
end L2
end
section
set_option maxHeartbeats 1000000
namespace L2
open PySem PySem.Spec PyProof.Rows PySem.W
open Builtin Builtin.ObjectAttr
abbrev xcB(C C0:Addr)(cd:ClassData)(sl:Array (Option Value)):Bool:=match cd.mro,sl.toList with
 |.ref C'::.ref D::bm,[_,_,_,_,some (.builtin n),_]=>C'==C&&D==C0&&bm==DO&&n == "ValueError.__new__"&&!cd.hasDel&&cd.hasDict
 |_,_=>false
abbrev TQ(K:Frag)(C:Addr):Prop:=∃C0 dd cd sl,K.lookup C=some ⟨.type "type",dd,.cls cd,sl⟩/\xcB C C0 cd sl=true/\excIn K C0 DO "ValueError.__new__" = true
@[reducible]noncomputable def TR(us:List Value):Obj:={cls:=.type "tuple",data:=.seq us.toArray}
@[reducible]noncomputable def NC(C t:Addr):Obj:={cls:=.ref C,data:=.fields #[.ref t,.none,.none,.none,.bool false,.none]}
section
variable{prog:Program}{w:World}{A:Around}{E:Value->Shared->Prop}{h:Heap}{g:Array GenState}{d:Drawn}{t:Nat}{os:OsState}
variable{nm q:Str}{C N x:Addr}{bs bm:List Value}{sn:List Str}{sub:List Value}{ab:Bool}{col:Option Bool}{dd:Option Addr}{k0 k1 k2 k3 k5:Option Value}{newId:String}
 {name:Str} {v:Value}
end
theorem HOk.laidN{P:Program}{w:World}{H:Hp}{h h':Heap}{a:Addr}{o:HO}(x:HOk P w H h)(k:∀b u,h.get? b=some u->h'.get? b=some u)(hn:H a=none)(new:ObjOk P w (upd H a o) h' a o):HOk P w (upd H a o) h':=fun b u e=>by
 by_cases hb:b=a
 ·subst hb;rw[AO]at e;cases e;exact new
 ·rw[An hb]at e
  exact(x b u e).stay (fun c v _ q=>k c v q) (fun c q=>by rw[An (AD q hn)];exact q) fun c xs q=>by rw[An (AD q hn)];exact q
theorem Inv.laidN{X:Cx}{pins:List (Addr×Obj)}{σ:St}{H:Hp}{s:Shared}{h':Heap}{a:Addr}{o:HO}{t':Nat}(I:Inv X pins σ H s)(k:∀b u,s.heap.get? b=some u->h'.get? b=some u)(hp:s.heap.get? a=none)(hn:H a=none)(new:ObjOk X.prog X.w (upd H a o) h' a o) :
  Inv X pins σ (upd H a o) {s with heap:=h',toks:=t'}:=I.un ⟨fun b u q _ _ _=>k b u q,fun b u q _ _ _=>⟨u.slots,k b u q⟩,fun b u q n _=>by rw[An (fun z=>by subst z;rw[hp]at q;cases q)];exact n,fun b u q _=>⟨u,k b u q⟩,fun b xs q=>by rw[An (AD q hn)];exact q,fun b u xs q=>by rw[An (AD q hn)];exact q,fun b ps q=>⟨#[],by rw[An (AD q hn),Array.append_empty];exact q⟩⟩ (I.hok.laidN k hn new)
abbrev xB(a C t:Addr):HO:=.ext fun h=>h.get? a=some (NC C t)
abbrev xE(a C t dx:Addr):HO:=.ext fun h=>h.get? a=some {NC C t with dict:=some dx}
structure XOwn(K:Frag)(C:Addr)(f:Str):Prop where
 cls:TQ K C
 sa:findIn K (.ref C) "__setattr__" = some (some (.builtin "object.__setattr__"))
 na:findIn K (.ref C) f=some none
abbrev spI(C:Addr)(f:Str):Sp:=fun vs H Q _=>∃a t v,vs=[.ref a,v]/\H a=some (xB a C t)/\∀dx ob H3,H dx=none->dx≠a->H3 a=some (xE a C t dx)->H3 dx=some (.frz ob (.xd [(f,v)]))->(∀b,b≠a->b≠dx->H3 b=H b)->Q .non H3
end L2
end
section
set_option maxHeartbeats 1000000
namespace L2
open PySem PySem.Spec PyProof.Rows PySem.W
abbrev without(H:Hp)(e:Addr):Hp:=fun b=>if b=e then none else H b
theorem B5{H:Hp}{e b:Addr}(h:b≠e):without H e b=H b:=if_neg h
theorem CI{H:Hp}{e:Addr}:without H e e=none:=if_pos rfl
abbrev Mg(X:Cx)(E:XK):Prop:=∀(pins:List (Addr×Obj))(σ:St)(H:Hp)(s:Shared)(e C t dx:Addr),Inv X pins σ H s->(∀o,X.s₀.heap.get? e=some o->e∈X.ex)->H e=some (xE e C t dx)->E (.ref C) (some dx) (without H e)->X.xe (.ref e) s
section
variable{P:Program}{w:World}{K:Frag}{mg:Str->Option Value}{base:Heap}{N:List Str}{qual:Str}{scope:Scope}{f:Addr}{cd:Value}{A:Around}{outer:List Env}{s₀:Shared}{H₀:Hp}{E E':XK}
theorem Mh(hE:∀c d H,E c d H->E' c d H):Mg (Ax (CXe P w) P w K mg base N qual scope f cd A outer s₀ H₀ E') E:=by
 intro pins σ H s e C t dx I e0 hx he
 have e0:s₀.heap.get? e=none:=by
  cases z:s₀.heap.get? e with
  |none=>rfl
  |some o=>exact absurd (show e∈([]:List Addr) from e0 o z) (by simp)
 show wpAny _ _ (leaving _ (.ref e)) _ _ _
 have hfr:∀env∈(Ax (CXe P w) P w K mg base N qual scope f cd A outer s₀ H₀ E').stack,∀b,env.frame=some b->b∈frs (Ax (CXe P w) P w K mg base N qual scope f cd A outer s₀ H₀ E').stack:=fun env h b hb=>aaB.mpr ⟨env,h,hb⟩
 have hoe:s.heap.get? e=some {NC C t with dict:=some dx}:=(I.hok e _ hx).1
 have hok':HOk P w (without H e) s.heap:=fun b o q=>by
  have hb:b≠e:=fun z=>by rw[z,CI]at q;cases q
  rw[B5 hb]at q
  refine(I.hok b o q).stay (fun c u _ z=>z) (fun c z=>?_) fun c xs z=>?_
  ·rw[B5 (fun y=>by rw[y,hx]at z;cases z)];exact z
  ·rw[B5 (fun y=>by rw[y,hx]at z;cases z)];exact z
 have nst:∀b∈frs (Ax (CXe P w) P w K mg base N qual scope f cd A outer s₀ H₀ E').stack,H b=none:=I.stkFree
 have hB:=hok'.hide (fs:=e::frs (Ax (CXe P w) P w K mg base N qual scope f cd A outer s₀ H₀ E').stack) fun b hb=>by
  rcases aaf.mp hb with rfl|hb
  ·exact CI
  ·by_cases z:b=e
   ·rw[z];exact CI
   ·rw[B5 z];exact nst b hb
 have hff:=funFrames_hide I.stack hfr
 have hff2:s.heap.FunFrames (hideAll s.heap (e::frs (Ax (CXe P w) P w K mg base N qual scope f cd A outer s₀ H₀ E').stack)) (Ax (CXe P w) P w K mg base N qual scope f cd A outer s₀ H₀ E').stack:=FI (fun b q=>by
  cases q2:(hideAll s.heap (e::frs (Ax (CXe P w) P w K mg base N qual scope f cd A outer s₀ H₀ E').stack)).get? b with
  |none=>rfl
  |some u=>
   exfalso
   have h1:=of_hideAll _ q2
   by_cases z:b∈e::frs (Ax (CXe P w) P w K mg base N qual scope f cd A outer s₀ H₀ E').stack
   ·rw[hideAll_none _ z]at q2;cases q2
   ·rw[hideAll_get _ h1 (fun y=>z (aaa _ y))]at q;cases q) hff
 have hen:(hideAll s.heap (e::frs (Ax (CXe P w) P w K mg base N qual scope f cd A outer s₀ H₀ E').stack)).get? e=none:=hideAll_none _ (aab ..)
 refine wpAny_mono (EY.any (wpAny_leaving_firstW (Q:=fun _ s2=>∃h2,s2={s with heap:=h2}/\Heap.LeftW (hideAll s.heap (e::frs (Ax (CXe P w) P w K mg base N qual scope f cd A outer s₀ H₀ E').stack)) (Ax (CXe P w) P w K mg base N qual scope f cd A outer s₀ H₀ E').stack e (.ref C) (.ref t) s.heap h2) (a0:=.ref t) I.ok.frames hff2 rfl hoe (fun b o q=>of_hideAll _ q) hen rfl rfl rfl fun h2 hL=>⟨h2,rfl,hL⟩)) (fun _ s2 q2=>?_) fun _ _ z=>z.1
 obtain⟨⟨h2,rfl,k1,⟨_,_,k2⟩,k3,up⟩,dk⟩:=q2
 have sub:∀b∈frs outer,b∈frs (Ax (CXe P w) P w K mg base N qual scope f cd A outer s₀ H₀ E').stack:=fun b hb=>by
  obtain⟨env,h1,h2⟩:=aaB.mp hb
  exact aaB.mpr ⟨env,aaa _ h1,h2⟩
 have nloc:∀b o,s₀.heap.get? b=some o->b≠s₀.heap.objs.size:=fun b o q z=>by
  have:=Heap.lt_size q
  exact aaS _ (z▸this)
 have nfr:∀b o,s₀.heap.get? b=some o->b∉frs outer->b∉e::frs (Ax (CXe P w) P w K mg base N qual scope f cd A outer s₀ H₀ E').stack:=fun b o q hb z=>by
  rcases aaf.mp z with rfl|z
  ·rw[e0]at q;cases q
  ·obtain⟨env,h1,h2⟩:=aaB.mp z
   rcases aaf.mp h1 with rfl|h1
   ·exact nloc b o q (Option.some.inj h2).symm
   ·exact hb (aaB.mpr ⟨env,h1,h2⟩)
 have nx:∀b:Addr,b∉(Ax (CXe P w) P w K mg base N qual scope f cd A outer s₀ H₀ E').ex:=fun b z=>absurd (show b∈([]:List Addr) from z) (by simp)
 have wo:∀b u,H b=some u->(∀φ,u≠.ext φ)->without H e b=some u:=fun b u q n=>by
  rw[B5 (fun z=>by rw[z,hx]at q;cases q;exact n _ rfl)];exact q
 refine⟨e,.ref C,.ref t,without H e,_,some dx,rfl,I.os,I.bare,⟨k1,hen,k2,k3⟩,hB,CI,fun b o q n hb=>hideAll_get _ (I.base.keep b o q n hb (nx b)) (nfr b o q hb),fun b o q n hb=>?_,fun b o q n=>?_,fun b o q hb=>?_,fun b xs q=>wo _ _ (I.base.tups b xs q) (fun φ z=>by cases z),fun b o u q=>wo _ _ (I.base.frzs b o u q) (fun φ z=>by cases z),fun b ps q=>?_,fun dx' z=>?_,hE _ _ _ he⟩
 ·obtain⟨sl,e1⟩:=I.base.slot b o q n hb (nx b)
  obtain⟨⟨hn,o2,ho2,hnf⟩⟩:=And.intro (I.stack.mem (sub b hb)) trivial
  rw[e1]at ho2
  cases ho2
  obtain⟨sl2,e2⟩:=up b _ e1 hnf
  exact⟨sl2,e2⟩
 ·have hb:b≠e:=fun z=>by rw[z,e0]at q;cases q
  rw[B5 hb];exact I.base.free b o q n (nx b)
 ·obtain⟨o',e1⟩:=I.base.there b o q (nx b)
  exact⟨o',hideAll_get _ e1 (nfr b o q hb)⟩
 ·obtain⟨more,q2⟩:=I.base.tbls b ps q
  exact⟨more,wo _ _ q2 fun φ z=>by cases z⟩
 ·cases z
  obtain⟨o',q3,q4⟩:=dk e _ hoe
  exact⟨o',q3,q4⟩
end
structure Room0(k:Nat)(A:Around):Prop where
 dp:A.depth+3*k+5<recursionLimit
 un:A.units+16*k+200<cLine
theorem Room.r0{k:Nat}{A:Around}(r:Room k A):Room0 k A:=⟨r.dp,r.un⟩
theorem Room0.mono{j k:Nat}{A:Around}(r:Room0 k A)(h:j<=k):Room0 j A:=⟨by have:=r.dp;omega,by have:=r.un;omega⟩
theorem Room0.deeper{k:Nat}{A:Around}(r:Room0 (k+1) A)(env:Env):Room0 k (A.deeper env) :=
 ⟨by have:=r.dp;show A.depth+1+3*k+5<_;omega,by have:=r.un;show A.units+3+16*k+200<_;omega⟩
theorem Room0.units{k:Nat}{A:Around}(r:Room0 k A):A.units+64<cLine:=by have:=r.un;omega
@[reducible]noncomputable def Sp0:=List V->Hp->VK->Prop
structure FnOk0(P:Program)(w:World)(K:Frag)(mg:Str->Option Value)(base:Heap)(k:Nat)(f:Addr)(fd:FuncData)(ps:List Str)(sp:Sp0):Prop where
 len:∀vs H Q,sp vs H Q->vs.length=ps.length
 run:∀(A:Around)(outer:List Env)(s:Shared)(H:Hp)(args:Args)(us:List Value)(vs:List V)(Q:VK),Room0 k A->Env0 P w K mg base A outer s H->BindsTo s fd args (ps.zip us)->Vals vs us->sp vs H Q->
  codeAny (model P w) A (.call (.ref f) args) (CR (CXe P w) outer P w H s Q fun _ _ _=>False) s
section
variable{P:Program}{w:World}{K:Frag}{mg:Str->Option Value}{base:Heap}
abbrev Ru(P:Program)(w:World)(K:Frag)(mg:Str->Option Value)(base:Heap)(x:Str)(k:Nat)(ps:List Str)(sp:Sp0):Prop :=
 ∃f fd,FnOk0 P w K mg base k f fd ps sp/\mg x=some (.ref f)/\PySem.W.keepIn K (.ref f)=true/\Binds K fd ps []
end
end L2
end
section
namespace Pu
open PySem (Str)
inductive D where
 |non
 |bl (b:Bool)
 |int (i:Int)
 |str (x:Str)
 |tup (ds:List D)
 |lst (ds:List D)
 |exn (c:Nat)
 |dic (ks:List (Sum Int Str)) (ds:List D)
 |dit (ks:List (List (Sum Int Str))) (ds:List D)
inductive Res(α:Type) where
 |ok (a:α)
 |exc (c:Nat)
 |bad
namespace Res
abbrev bind{α β:Type}:Res α->(α->Res β)->Res β
 |.ok a,f=>f a
 |.exc c,_=>.exc c
 |.bad,_=>.bad
@[simp] theorem bind_ok{α β:Type}(a:α)(f:α->Res β):(Res.ok a).bind f=f a:=rfl
@[simp] theorem bind_exc{α β:Type}(c:Nat)(f:α->Res β):(Res.exc c:Res α).bind f=.exc c:=rfl
@[simp] theorem bind_bad{α β:Type}(f:α->Res β):(Res.bad:Res α).bind f=.bad:=rfl
theorem bind_eq_ok{α β:Type}{r:Res α}{f:α->Res β}{b:β}(h:r.bind f=.ok b):∃a,r=.ok a/\f a=.ok b:=by
 cases r<;>simp_all
end Res
mutual
noncomputable def D.eqv:D->D->Bool
 |.non,.non=>true
 |.bl a,.bl b=>a==b
 |.bl a,.int j=>(if a then 1 else 0)==j
 |.int i,.bl b=>i==(if b then 1 else 0)
 |.int i,.int j=>i==j
 |.str x,.str y=>x==y
 |.lst xs,.lst ys=>D.eqvs xs ys
 |.tup xs,.tup ys=>D.eqvs xs ys
 |_,_=>false
noncomputable def D.eqvs:List D->List D->Bool
 |[],[]=>true
 |x::xs,y::ys=>D.eqv x y&&D.eqvs xs ys
 |_,_=>false
end
abbrev D.shp:Nat->D->Bool
 |_,.non=>true
 |_,.bl _=>true
 |_,.int _=>true
 |_,.str x=>x.cps.all (· < 0x110000)
 |0,.tup _=>false
 |0,.lst _=>false
 |n+1,.tup ds=>ds.all (D.shp n)
 |n+1,.lst ds=>ds.all (D.shp n)
 |_,.exn _=>false
 |_,.dic _ _=>false
 |_,.dit _ _=>false
abbrev D.sm:Nat->D->D->Bool
 |_,.non,.non=>true
 |_,.bl a,.bl b=>a==b
 |_,.int a,.int b=>a==b
 |_,.str a,.str b=>a==b
 |n+1,.tup xs,.tup ys=>xs.length==ys.length&&(ac0 (D.sm n) xs ys).all id
 |n+1,.lst xs,.lst ys=>xs.length==ys.length&&(ac0 (D.sm n) xs ys).all id
 |_,.dic [] [],.dic [] []=>true
 |_,_,_=>false
abbrev D.flat:Nat->Nat->D->Bool
 |0,_,_=>false
 |_+1,_,.non=>true
 |_+1,_,.bl _=>true
 |_+1,_,.int _=>true
 |_+1,_,.str _=>true
 |_+1,_,.exn _=>true
 |m+1,k,.tup ds=>ds.all (D.flat m k)
 |_+1,0,.lst _=>false
 |m+1,k+1,.lst ds=>ds.all (D.flat m k)
 |_+1,0,.dic _ _=>false
 |m+1,k+1,.dic _ ds=>ds.all (D.flat m k)
 |_+1,0,.dit _ _=>false
 |m+1,k+1,.dit _ ds=>ds.all (D.flat m k)
@[reducible]noncomputable def LIM:Nat:=16777216
@[reducible]noncomputable def Fr:=List (Option D)
structure Fn where
 name:Str
 ar:Nat
 lv:Nat
 dep:Nat
 den:List D->Res D
set_option genSizeOf false
set_option genSizeOfSpec false
set_option genInjectivity false
inductive B2 where
 |add|sub|mul|fdiv|mod|pow
 deriving DecidableEq
inductive C2 where
 |lt|le|gt|ge|eq|ne|inn|nin
 deriving DecidableEq
inductive Kd where
 |int|bool|str|list|tuple|dict|verr|cls (n:Nat)
 deriving DecidableEq
inductive Bi where
 |len|min|max|maxL|int|list
 deriving DecidableEq
inductive Tg where
 |nm (i:Nat)
 |tp (is:List Nat)
 deriving DecidableEq
mutual
inductive E where
 |nm (i:Nat)
 |cN
 |cB (b:Bool)
 |cI (i:Int)
 |cS (x:Str)
 |gl (x:Str) (d:D)
 |tup (es:Es)
 |lst (es:Es)
 |bin (o:B2) (a b:E)
 |neg (a:E)
 |not (a:E)
 |cmp (o:C2) (a b:E)
 |chain (o o':C2) (a b c:E)
 |isN (n:Bool) (a:E)
 |bo (and:Bool) (es:Es)
 |ix (a i:E)
 |ixL (a i:E)
 |slc (a lo hi:E)
 |call (f:Fn) (es:Es)
 |callB (f:Fn) (es:Es)
 |bi (b:Bi) (es:Es)
 |listI (it:It)
 |isi (a:E) (k:Kd)
 |lenSet (e:E)
 |comp0 (nl:Nat) (fr:List Nat) (tg:Tg) (it:It) (elt:E)
inductive Es where
 |nil
 |cons (e:E) (r:Es)
inductive It where
 |seq (e:E)
 |seqL (e:E)
 |r1 (a:E)
 |r2 (a b:E)
end
abbrev get(δ:Fr)(i:Nat):Res D:=match δ[i]? with
 |some (some d)=>.ok d
 |_=>.bad
abbrev on1:List D->(D->Res D)->Res D
 |[a],f=>f a
 |_,_=>.bad
abbrev on2:List D->(D->D->Res D)->Res D
 |[a,b],f=>f a b
 |_,_=>.bad
abbrev on3:List D->(D->D->D->Res D)->Res D
 |[a,b,c],f=>f a b c
 |_,_=>.bad
abbrev Dr:D->(Int->Res D)->Res D
 |.int i,f=>f i
 |_,_=>.bad
abbrev Bt(a b:D)(f:Int->Int->Res D):Res D:=Dr a fun i=>Dr b fun j=>f i j
abbrev C7:D->(List D->Res D)->Res D
 |.lst ds,f=>f ds
 |.tup ds,f=>f ds
 |_,_=>.bad
abbrev KS:D->D->Res D
 |.int i,.int j=>.ok (.int (i+j))
 |.lst a,.lst b=>if a.length+b.length<=LIM then .ok (.lst (a++b)) else .bad
 |.str a,.str b=>if a.length+b.length<=LIM then .ok (.str (a++b)) else .bad
 |_,_=>.bad
abbrev Iw:D->D->Res D
 |.int i,.int j=>if(-(2^64)<i/\i<2^64)\/(-(2^64)<j/\j<2^64) then .ok (.int (i*j)) else if i.natAbs<2^400/\j.natAbs<2^400 then .ok (.int (i*j)) else .bad
 |.lst a,.int k=>if -(2^63)<=k/\k<2^63/\a.length*k.toNat<=LIM then .ok (.lst (aak k.toNat a).flatten) else .bad
 |_,_=>.bad
abbrev b2:B2->D->D->Res D
 |.add,a,b=>KS a b
 |.sub,a,b=>Bt a b fun i j=>.ok (.int (i-j))
 |.mul,a,b=>Iw a b
 |.fdiv,a,b=>Bt a b fun i j=>if 0<j/\j<2^200 then .ok (.int (i/j)) else .bad
 |.mod,a,b=>Bt a b fun i j=>if 0<j then .ok (.int (i%j)) else .bad
 |.pow,a,b=>Bt a b fun i j=>if 0<=j/\j<=1000000/\i.natAbs<2^64 then .ok (.int (i^j.toNat)) else .bad
abbrev D.scal:D->Bool
 |.non|.bl _|.int _|.str _=>true
 |_=>false
abbrev inD(x:D)(ys:List D):Res Bool:=if D.shp 8 x&&ys.all (D.shp 8) then .ok (ys.any fun y=>D.eqv y x) else .bad
abbrev c2:C2->D->D->Res D
 |.lt,a,b=>Bt a b fun i j=>.ok (.bl (decide (i<j)))
 |.le,a,b=>Bt a b fun i j=>.ok (.bl (decide (i<=j)))
 |.gt,a,b=>Bt a b fun i j=>.ok (.bl (decide (j<i)))
 |.ge,a,b=>Bt a b fun i j=>.ok (.bl (decide (j<=i)))
 |.eq,x,y=>if D.shp 8 x&&D.shp 8 y then .ok (.bl (D.eqv x y)) else .bad
 |.ne,x,y=>if D.shp 8 x&&D.shp 8 y then .ok (.bl (!D.eqv x y)) else .bad
 |.inn,x,y=>C7 y fun ys=>(inD x ys).bind fun b=>.ok (.bl b)
 |.nin,x,y=>C7 y fun ys=>(inD x ys).bind fun b=>.ok (.bl !b)
abbrev ixN(n:Nat)(i:Int):Option Nat:=if 0<=i then(if i<n then some i.toNat else none) else if -(n:Int)<=i then some (i+n).toNat else none
abbrev atD(ds:List D)(i:Int):Res D:=match (ixN ds.length i).bind (fun j=>ds[j]?) with
 |some d=>.ok d
 |none=>.bad
abbrev ixD:D->D->Res D
 |.lst ds,.int i=>atD ds i
 |.tup ds,.int i=>atD ds i
 |_,_=>.bad
abbrev DP:D->D->Res D
 |.lst ds,.int i=>atD ds i
 |_,_=>.bad
abbrev Ey:D->D->Res D
 |.tup ds,.int i=>atD ds i
 |_,_=>.bad
abbrev sIx(n d:Nat):Option Int->Nat
 |none=>d
 |some v=>(if v<0 then max (v+(n:Int)) 0 else min v (n:Int)).toNat
abbrev cut{α:Type}(xs:List α)(lo hi:Option Int):List α:=(xs.drop (sIx xs.length 0 lo)).take (sIx xs.length xs.length hi-sIx xs.length 0 lo)
abbrev CJ:D->Res (Option Int)
 |.int i=>.ok (some i)
 |_=>.bad
abbrev B6(n:Bool)(r:Res D):Res (Option Int):=if n then .ok none else r.bind CJ
abbrev E.isCN:E->Bool
 |.cN=>true
 |_=>false
abbrev Ds:D->Option Int->Option Int->Res D
 |.lst ds,lo,hi=>.ok (.lst (cut ds lo hi))
 |.tup ds,lo,hi=>if ds.all D.scal=true/\¬(sIx ds.length 0 lo=0/\sIx ds.length ds.length hi=ds.length) then .ok (.tup (cut ds lo hi)) else .bad
 |_,_,_=>.bad
abbrev Cq:D->Res Bool
 |.non=>.ok false
 |.bl b=>.ok b
 |.int i=>.ok (i != 0)
 |.lst ds=>.ok (!ds.isEmpty)
 |.tup ds=>.ok (!ds.isEmpty)
 |_=>.bad
abbrev isa(c d:Nat):Bool:=c==d||d==0
abbrev dI:D->Bool
 |.int _=>true
 |.bl _=>true
 |_=>false
abbrev dB:D->Bool
 |.bl _=>true
 |_=>false
abbrev dS:D->Bool
 |.str _=>true
 |_=>false
abbrev dL:D->Bool
 |.lst _=>true
 |_=>false
abbrev dT':D->Bool
 |.tup _=>true
 |_=>false
abbrev dD:D->Bool
 |.exn c=>c==999
 |.dic _ _=>true
 |.dit _ _=>true
 |_=>false
abbrev Rv(c:Nat):Int:=if(c-1000)%2=0 then(((c-1000)/2:Nat):Int) else -(((c-1000)/2:Nat):Int)
abbrev kcX(c:Nat):Nat:=if 1000<=c then 4 else c
abbrev noA{α:Type}:Res α->Res α
 |.exc c=>if 1000<=c then .bad else .exc c
 |r=>r
abbrev dX:D->(Nat->Bool)->Res Bool
 |.exn c,f=>if c==999 then .bad else .ok (f (kcX c))
 |_,_=>.bad
abbrev Ce(d:D):Kd->Res Bool
 |.int=>.ok (dI d)
 |.bool=>.ok (dB d)
 |.str=>.ok (dS d)
 |.list=>.ok (dL d)
 |.tuple=>.ok (dT' d)
 |.dict=>.ok (dD d)
 |.verr=>dX d fun _=>true
 |.cls n=>dX d fun c=>isa c n
abbrev CK:List D->Option (List Int)
 |[]=>some []
 |.int i::r=>(CK r).map (i::·)
 |_=>none
abbrev JX:List D->Option (List Bool)
 |[]=>some []
 |.bl i::r=>(JX r).map (i::·)
 |_=>none
abbrev DQ{α:Type}:Option α->Res α
 |some a=>.ok a
 |none=>.bad
abbrev Dh:D->(List Int->Res D)->Res D
 |.lst ds,f=>(DQ (CK ds)).bind f
 |_,_=>.bad
abbrev CL:D->(List Bool->Res D)->Res D
 |.lst ds,f=>(DQ (JX ds)).bind f
 |_,_=>.bad
abbrev Ez:D->(List D->Res D)->Res D
 |.lst ds,f=>f ds
 |_,_=>.bad
abbrev D9:D->Res D
 |.int i=>.ok (.int i)
 |.bl b=>.ok (.int (if b then 1 else 0))
 |_=>.bad
abbrev Dy:List D->Option (List (Int×Int))
 |[]=>some []
 |.tup [.int a,.int b]::r=>(Dy r).map ((a,b)::·)
 |_=>none
abbrev E0(q:Int×Int):Bool:=decide (0<=q.1/\q.1<9/\0<=q.2/\q.2<200)
abbrev GX:D->Res D
 |.lst ds=>(DQ (Dy ds)).bind fun ps=>if ps.Nodup/\ps.all E0=true/\ps.length<=1000 then .ok (.int (ps.length:Nat)) else .bad
 |_=>.bad
abbrev biD:Bi->List D->Res D
 |.len,ds=>on1 ds fun d=>C7 d fun ds=>.ok (.int ds.length)
 |.min,ds=>on2 ds fun a b=>Bt a b fun i j=>.ok (.int (min i j))
 |.max,ds=>on2 ds fun a b=>Bt a b fun i j=>.ok (.int (max i j))
 |.maxL,ds=>on1 ds fun d=>Dh d fun ns=>(DQ ns.max?).bind fun n=>.ok (.int n)
 |.int,ds=>on1 ds D9
 |.list,ds=>on1 ds fun d=>C7 d fun ds=>.ok (.lst ds)
abbrev Ef:List Nat->List D->Fr->Option Fr
 |[],[],δ=>some δ
 |i::is,d::ds,δ=>Ef is ds (δ.set i (some d))
 |_,_,_=>none
abbrev Di:Tg->D->Fr->Option Fr
 |.nm i,d,δ=>some (δ.set i (some d))
 |.tp is,.tup ds,δ=>Ef is ds δ
 |.tp is,.lst ds,δ=>Ef is ds δ
 |_,_,_=>none
abbrev A7(f:D->Res (Option D)):List D->Res (List D)
 |[]=>.ok []
 |d::ds=>match f d with
  |.ok o=>(A7 f ds).bind fun r=>.ok (match o with|some x=>x::r|none=>r)
  |_=>.bad
abbrev blk(nl:Nat)(fr:List Nat)(δ:Fr):Fr:=aak nl none++fr.map fun j=>(δ[j]?).join
abbrev Al(a b:Int):List D:=(aam (b-a).toNat).map fun(i:Nat)=>D.int (a+i)
abbrev CM:D->Res (List D)
 |.lst ds=>.ok ds
 |.tup ds=>.ok ds
 |_=>.bad
abbrev Ci:D->Res (List D)
 |.lst ds=>.ok ds
 |_=>.bad
abbrev Bu(i:Int):Bool:=decide (-(2^62)<=i)&&decide (i<2^62)
abbrev Ix:D->D->Res (List D)
 |.int a,.int b=>if Bu a&&Bu b&&decide ((b-a).toNat<=LIM) then .ok (Al a b) else .bad
 |_,_=>.bad
mutual
noncomputable def ev:E->Fr->Res D
 |.nm i,δ=>get δ i
 |.cN,_=>.ok .non
 |.cB b,_=>.ok (.bl b)
 |.cI i,_=>.ok (.int i)
 |.cS x,_=>.ok (.str x)
 |.gl _ d,_=>.ok d
 |.tup es,δ=>(evs es δ).bind fun ds=>.ok (.tup ds)
 |.lst es,δ=>(evs es δ).bind fun ds=>.ok (.lst ds)
 |.bin o a b,δ=>(ev a δ).bind fun x=>(ev b δ).bind fun y=>b2 o x y
 |.neg a,δ=>(ev a δ).bind fun x=>match x with|.int i=>.ok (.int (-i))|_=>.bad
 |.not a,δ=>(ev a δ).bind fun x=>match x with|.bl b=>.ok (.bl !b)|_=>.bad
 |.cmp o a b,δ=>(ev a δ).bind fun x=>(ev b δ).bind fun y=>c2 o x y
 |.chain o o' a b c,δ=>(ev a δ).bind fun x=>(ev b δ).bind fun y=>(c2 o x y).bind fun r=>match r with
  |.bl true=>(ev c δ).bind fun z=>c2 o' y z
  |.bl false=>.ok (.bl false)
  |_=>.bad
 |.isN n a,δ=>(ev a δ).bind fun x=>.ok (.bl (match x with|.non=>!n|_=>n))
 |.bo k es,δ=>evBo k es δ
 |.ix a i,δ=>(ev a δ).bind fun x=>(ev i δ).bind fun y=>ixD x y
 |.ixL a i,δ=>(ev a δ).bind fun x=>(ev i δ).bind fun y=>DP x y
 |.slc a lo hi,δ=>(ev a δ).bind fun x=>(B6 lo.isCN (ev lo δ)).bind fun l=>(B6 hi.isCN (ev hi δ)).bind fun h=>Ds x l h
 |.call f es,δ=>(evs es δ).bind fun ds=>f.den ds
 |.callB f es,δ=>(evs es δ).bind fun ds=>(f.den ds).bind fun d=>if D.flat 9 f.dep d then .ok d else .bad
 |.bi b es,δ=>(evs es δ).bind fun ds=>biD b ds
 |.listI it,δ=>(evI it δ).bind fun ds=>.ok (.lst ds)
 |.isi a k,δ=>(ev a δ).bind fun x=>(Ce x k).bind fun b=>.ok (.bl b)
 |.lenSet e,δ=>(ev e δ).bind GX
 |.comp0 nl fr tg it elt,δ=>(evI it δ).bind fun ds=>(A7 (fun d=>match Di tg d (blk nl fr δ) with
   |some δ'=>(ev elt δ').bind fun x=>.ok (some x)
   |none=>.bad) ds).bind fun r=>.ok (.lst r)
noncomputable def evs:Es->Fr->Res (List D)
 |.nil,_=>.ok []
 |.cons e r,δ=>(ev e δ).bind fun x=>(evs r δ).bind fun xs=>.ok (x::xs)
noncomputable def evBo(k:Bool):Es->Fr->Res D
 |.nil,_=>.bad
 |.cons e .nil,δ=>ev e δ
 |.cons e (.cons e' r),δ=>(ev e δ).bind fun x=>match x with
  |.bl c=>if c=k then evBo k (.cons e' r) δ else .ok (.bl c)
  |_=>.bad
noncomputable def evI:It->Fr->Res (List D)
 |.seq e,δ=>(ev e δ).bind CM
 |.seqL e,δ=>(ev e δ).bind Ci
 |.r1 a,δ=>(ev a δ).bind fun x=>Ix (.int 0) x
 |.r2 a b,δ=>(ev a δ).bind fun x=>(ev b δ).bind fun y=>Ix x y
end
abbrev tv(e:E)(δ:Fr):Res Bool:=(ev e δ).bind Cq
inductive Um where
 |append|extend|clear
 deriving DecidableEq
mutual
inductive S where
 |asg (x:Nat) (k:Nat) (e:E)
 |dem (x:Nat) (k:Nat)
 |dead (x:Nat)
 |asgT (xs:List Nat) (e:E)
 |mut (x:Nat) (path:List (Bool×E)) (m:Um) (es:Es)
 |expr (e:E)
 |iff (c:E) (a b:Ss)
 |wh (c:E) (b:Ss)
 |for_ (tg:Tg) (it:It) (b:Ss)
 |ret (e:E)
 |raise (c:Nat) (es:Es)
inductive Ss where
 |nil
 |cons (s:S) (r:Ss)
end
inductive Out where
 |nxt (δ:Fr)
 |ret (d:D)
 |exc (c:Nat) (δ:Fr)
 |bad
abbrev evP:List (Bool×E)->Fr->Res (List (Bool×Int))
 |[],_=>.ok []
 | (t,e)::r,δ=>match ev e δ with
  |.ok (.int i)=>(evP r δ).bind fun is=>.ok ((t,i)::is)
  |_=>.bad
abbrev Cf(f:List D->Option (List D)):List (Bool×Int)->D->Option D
 |[],.lst ds=>(f ds).map D.lst
 | (false,i)::r,.lst ds=>(ixN ds.length i).bind fun j=>(ds[j]?).bind fun d=>(Cf f r d).map fun d'=>.lst (ds.set j d')
 | (true,i)::r,.tup ds=>(ixN ds.length i).bind fun j=>(ds[j]?).bind fun d=>(Cf f r d).map fun d'=>.tup (ds.set j d')
 |_,_=>none
abbrev un1{α:Type}:List D->(D->Option α)->Option α
 |[d],f=>f d
 |_,_=>none
abbrev un0{α:Type}:List D->Option α->Option α
 |[],r=>r
 |_,_=>none
abbrev S0(ds:List D):D->Option (List D)
 |.lst es=>if ds.length+es.length<=LIM then some (ds++es) else none
 |_=>none
abbrev umD:Um->List D->List D->Option (List D)
 |.append,es,ds=>un1 es fun d=>if ds.length<LIM then some (ds++[d]) else none
 |.extend,es,ds=>un1 es (S0 ds)
 |.clear,es,_=>un0 es (some [])
abbrev upd(δ:Fr)(x:Nat)(f:D->Option D):Out:=match δ[x]? with
 |some (some d)=>match f d with
  |some d'=>.nxt (δ.set x (some d'))
  |none=>.bad
 |_=>.bad
abbrev Res.out{α:Type}(r:Res α)(δ:Fr)(f:α->Out):Out:=match r with
 |.ok a=>f a
 |.exc c=>.exc c δ
 |.bad=>.bad
@[simp] theorem Res.out_ok{α:Type}(a:α)(δ:Fr)(f:α->Out):(Res.ok a).out δ f=f a:=rfl
@[simp] theorem Res.out_exc{α:Type}(c:Nat)(δ:Fr)(f:α->Out):(Res.exc c:Res α).out δ f=.exc c δ:=rfl
@[simp] theorem Res.out_bad{α:Type}(δ:Fr)(f:α->Out):(Res.bad:Res α).out δ f=.bad:=rfl
abbrev Out.then(o:Out)(f:Fr->Out):Out:=match o with
 |.nxt δ=>f δ
 |.ret d=>.ret d
 |.exc c δ=>.exc c δ
 |.bad=>.bad
@[simp] theorem Out.then_nxt(δ:Fr)(f:Fr->Out):(Out.nxt δ).then f=f δ:=rfl
@[simp] theorem Out.then_ret(d:D)(f:Fr->Out):(Out.ret d).then f=.ret d:=rfl
@[simp] theorem Out.then_exc(c:Nat)(δ:Fr)(f:Fr->Out):(Out.exc c δ).then f=.exc c δ:=rfl
@[simp] theorem Out.then_bad(f:Fr->Out):Out.bad.then f=.bad:=rfl
abbrev AM(c:Fr->Res Bool)(b:Fr->Out):Nat->Fr->Out
 |0,_=>.bad
 |n+1,δ=>(c δ).out δ fun t=>if t then(b δ).then (AM c b n) else .nxt δ
abbrev AU(tg:Tg)(b:Fr->Out):List D->Fr->Out
 |[],δ=>.nxt δ
 |d::ds,δ=>match Di tg d δ with
  |some δ'=>(b δ').then (AU tg b ds)
  |none=>.bad
abbrev FU:Nat:=1073741824
mutual
noncomputable def ex:S->Fr->Out
 |.dem _ _,δ=>.nxt δ
 |.dead _,δ=>.nxt δ
 |.asg x _ e,δ=>(ev e δ).out δ fun d=>.nxt (δ.set x (some d))
 |.asgT xs e,δ=>(ev e δ).out δ fun d=>match Di (.tp xs) d δ with
  |some δ'=>.nxt δ'
  |none=>.bad
 |.mut x p m es,δ=>match evP p δ,evs es δ with
  |.ok q,.ok ds=>upd δ x (Cf (umD m ds) q)
  |_,_=>.bad
 |.expr e,δ=>(ev e δ).out δ fun _=>.nxt δ
 |.iff c a b,δ=>(tv c δ).out δ fun t=>if t then exs a δ else exs b δ
 |.wh c b,δ=>AM (tv c) (exs b) FU δ
 |.for_ tg it b,δ=>(evI it δ).out δ fun ds=>AU tg (exs b) ds δ
 |.ret e,δ=>(ev e δ).out δ fun d=>.ret d
 |.raise c es,δ=>(evs es δ).out δ fun _=>.exc c δ
noncomputable def exs:Ss->Fr->Out
 |.nil,δ=>.nxt δ
 |.cons s r,δ=>(ex s δ).then (exs r)
end
abbrev AE(n:Nat)(ds:List D):Fr:=ds.map some++aak (n-ds.length) none
abbrev run(n:Nat)(b:Ss)(ds:List D):Res D:=match exs b (AE n ds) with
 |.nxt _=>.ok .non
 |.ret d=>.ok d
 |.exc c _=>.exc c
 |.bad=>.bad
end Pu
end
section
namespace Pu
open PySem PySem.W L2
inductive T where
 |non
 |bl (b:Bool)
 |int (i:Int)
 |str (x:Str)
 |tup (a:Addr) (ts:List T)
 |lst (a:Addr) (ts:List T)
 |exn (a:Addr) (c:Nat)
 |dic (a:Addr) (ks:List (Sum Int Str)) (ts:List T)
 |dit (a:Addr) (ks:List (List (Sum Int Str))) (ts:List T)
abbrev T.val:T->V
 |.non=>.non
 |.bl b=>.bl b
 |.int i=>.int i
 |.str x=>.str x
 |.tup a _=>.ref a
 |.lst a _=>.ref a
 |.exn a _=>.ref a
 |.dic a _ _=>.ref a
 |.dit a _ _=>.ref a
mutual
noncomputable def T.dat:T->D
 |.non=>.non
 |.bl b=>.bl b
 |.int i=>.int i
 |.str x=>.str x
 |.tup _ ts=>.tup (T.dats ts)
 |.lst _ ts=>.lst (T.dats ts)
 |.exn _ c=>.exn c
 |.dic _ ks ts=>.dic ks (T.dats ts)
 |.dit _ ks ts=>.dit ks (T.dats ts)
noncomputable def T.dats:List T->List D
 |[]=>[]
 |t::r=>t.dat::T.dats r
end
theorem T.dats_map:∀ts:List T,T.dats ts=ts.map T.dat
 |[]=>rfl
 |t::r=>by simp[T.dats,T.dats_map r]
structure Px where
 K:Frag
 cl:Nat->Addr
 has:Nat->Bool
abbrev exO(p:Px)(a:Addr)(c:Nat):HO:=if c=999 then dO a else xO a (p.cl c)
abbrev XOk(p:Px)(H:Hp)(a:Addr)(c:Nat):Prop:=((H a=some (exO p a c)/\(c=999\/p.has c=true))/\c<1000)\/((∃dx ob,H a=some (xA a (p.cl 4) dx)/\H dx=some (.frz ob (.xd [("at",.int (Rv c))]))/\p.has 4=true)/\1000<=c)
mutual
noncomputable def T.Ok(p:Px)(H:Hp):T->Prop
 |.dic a ks ts=>(H a=some (.dK (ks.zip (ts.map T.val)))/\ks.Nodup/\ks.length=ts.length)/\T.Oks p H ts
 |.dit a ks ts=>(H a=some (.dT (ks.zip (ts.map T.val)))/\ks.Nodup/\ks.length=ts.length)/\T.Oks p H ts
 |.tup a ts=>H a=some (.tup (ts.map T.val))/\T.Oks p H ts
 |.lst a ts=>Rd H a (.lst (ts.map T.val))/\T.Oks p H ts
 |.exn a c=>XOk p H a c
 |.non=>True
 |.bl _=>True
 |.int _=>True
 |.str _=>True
noncomputable def T.Oks(p:Px)(H:Hp):List T->Prop
 |[]=>True
 |t::r=>t.Ok p H/\T.Oks p H r
noncomputable def T.adr:T->Nat->List Addr
 |.tup _ ts,k=>T.adrs ts k
 |.lst _ _,0=>[]
 |.lst a ts,k+1=>a::T.adrs ts k
 |.non,_=>[]
 |.bl _,_=>[]
 |.int _,_=>[]
 |.str _,_=>[]
 |.exn _ _,_=>[]
 |.dic _ _ _,0=>[]
 |.dic a _ ts,k+1=>a::T.adrs ts k
 |.dit _ _ _,0=>[]
 |.dit a _ ts,k+1=>a::T.adrs ts k
noncomputable def T.adrs:List T->Nat->List Addr
 |[],_=>[]
 |t::r,k=>t.adr k++T.adrs r k
noncomputable def T.rest:T->Nat->List Addr
 |.tup _ ts,k=>T.rests ts k
 |.lst a ts,0=>a::T.rests ts 0
 |.lst _ ts,k+1=>T.rests ts k
 |.non,_=>[]
 |.bl _,_=>[]
 |.int _,_=>[]
 |.str _,_=>[]
 |.exn _ _,_=>[]
 |.dic a _ ts,0=>a::T.rests ts 0
 |.dic _ _ ts,k+1=>T.rests ts k
 |.dit a _ ts,0=>a::T.rests ts 0
 |.dit _ _ ts,k+1=>T.rests ts k
noncomputable def T.rests:List T->Nat->List Addr
 |[],_=>[]
 |t::r,k=>t.rest k++T.rests r k
end
theorem T.ind{P:T->Prop}(h0:P .non)(h1:∀b,P (.bl b))(h2:∀i,P (.int i))(h3:∀x,P (.str x))(h4:∀a ts,(∀t∈ts,P t)->P (.tup a ts))(h5:∀a ts,(∀t∈ts,P t)->P (.lst a ts))(h6:∀a c,P (.exn a c))(h7:∀a ks ts,(∀t∈ts,P t)->P (.dic a ks ts))(h8:∀a ks ts,(∀t∈ts,P t)->P (.dit a ks ts)):∀t,P t
 |.non=>h0
 |.bl b=>h1 b
 |.int i=>h2 i
 |.str x=>h3 x
 |.tup a ts=>h4 a ts fun t h=>T.ind h0 h1 h2 h3 h4 h5 h6 h7 h8 t
 |.lst a ts=>h5 a ts fun t h=>T.ind h0 h1 h2 h3 h4 h5 h6 h7 h8 t
 |.exn a c=>h6 a c
 |.dic a ks ts=>h7 a ks ts fun t h=>T.ind h0 h1 h2 h3 h4 h5 h6 h7 h8 t
 |.dit a ks ts=>h8 a ks ts fun t h=>T.ind h0 h1 h2 h3 h4 h5 h6 h7 h8 t
termination_by t=>t
theorem T.oks_iff{p:Px}{H:Hp}:∀{ts:List T},T.Oks p H ts ↔ ∀t∈ts,t.Ok p H
 |[]=>by simp[T.Oks]
 |t::r=>by simp[T.Oks,T.oks_iff (ts:=r)]
theorem T.mem_adrs{a:Addr}{k:Nat}:∀{ts:List T},a∈T.adrs ts k ↔ ∃t∈ts,a∈t.adr k
 |[]=>by simp[T.adrs]
 |t::r=>by simp[T.adrs,T.mem_adrs (ts:=r)]
theorem T.mem_rests{a:Addr}{k:Nat}:∀{ts:List T},a∈T.rests ts k ↔ ∃t∈ts,a∈t.rest k
 |[]=>by simp[T.rests]
 |t::r=>by simp[T.rests,T.mem_rests (ts:=r)]
theorem T.adrs_append{k:Nat}:∀{ts us:List T},T.adrs (ts++us) k=T.adrs ts k++T.adrs us k
 |[],us=>by simp[T.adrs]
 |t::r,us=>by simp[T.adrs,T.adrs_append (ts:=r)]
theorem T.rests_append{k:Nat}:∀{ts us:List T},T.rests (ts++us) k=T.rests ts k++T.rests us k
 |[],us=>by simp[T.rests]
 |t::r,us=>by simp[T.rests,T.rests_append (ts:=r)]
theorem T.adr_zero:∀t:T,t.adr 0=[]:=by
 refine T.ind rfl (fun _=>rfl) (fun _=>rfl) (fun _=>rfl) (fun a ts ih=>?_) (fun _ _ _=>by simp[T.adr]) (fun _ _=>rfl) (fun _ _ _ _=>by simp[T.adr]) (fun _ _ _ _=>by simp[T.adr])
 simp only[T.adr]
 refine aaK.mpr fun b hb=>?_
 obtain⟨t,ht,h⟩:=T.mem_adrs.mp hb
 rw[ih t ht]at h;cases h
theorem T.adrs_zero(ts:List T):T.adrs ts 0=[]:=by
 refine aaK.mpr fun b hb=>?_
 obtain⟨t,ht,h⟩:=T.mem_adrs.mp hb
 rw[T.adr_zero]at h;cases h
theorem T.all_iff{a:Addr}:∀(t:T)(k:Nat),a∈t.rest 0 ↔ a∈t.adr k\/a∈t.rest k:=by
 refine T.ind (by simp[T.rest,T.adr]) (by simp[T.rest,T.adr]) (by simp[T.rest,T.adr]) (by simp[T.rest,T.adr]) (fun b ts ih k=>?_) (fun b ts ih k=>?_) (by simp[T.rest,T.adr]) (fun b ks ts ih k=>?_) (fun b ks ts ih k=>?_)
 ·simp only[T.rest,T.adr,T.mem_rests,T.mem_adrs]
  constructor
  ·rintro⟨t,ht,h⟩
   rcases (ih t ht k).mp h with h|h
   ·exact .inl ⟨t,ht,h⟩
   ·exact .inr ⟨t,ht,h⟩
  ·rintro(⟨t,ht,h⟩|⟨t,ht,h⟩)
   ·exact⟨t,ht,(ih t ht k).mpr (.inl h)⟩
   ·exact⟨t,ht,(ih t ht k).mpr (.inr h)⟩
 ·cases k with
  |zero=>simp[T.adr]
  |succ k=>
   simp only[T.rest,T.adr,T.mem_rests,T.mem_adrs,aaf]
   constructor
   ·rintro(h|⟨t,ht,h⟩)
    ·exact .inl (.inl h)
    rcases (ih t ht k).mp h with h|h
    ·exact .inl (.inr ⟨t,ht,h⟩)
    ·exact .inr ⟨t,ht,h⟩
   ·rintro((h|⟨t,ht,h⟩)|⟨t,ht,h⟩)
    ·exact .inl h
    ·exact .inr ⟨t,ht,(ih t ht k).mpr (.inl h)⟩
    ·exact .inr ⟨t,ht,(ih t ht k).mpr (.inr h)⟩
 ·cases k with
  |zero=>simp[T.adr]
  |succ k=>
   simp only[T.rest,T.adr,T.mem_rests,T.mem_adrs,aaf]
   constructor
   ·rintro(h|⟨t,ht,h⟩)
    ·exact .inl (.inl h)
    rcases (ih t ht k).mp h with h|h
    ·exact .inl (.inr ⟨t,ht,h⟩)
    ·exact .inr ⟨t,ht,h⟩
   ·rintro((h|⟨t,ht,h⟩)|⟨t,ht,h⟩)
    ·exact .inl h
    ·exact .inr ⟨t,ht,(ih t ht k).mpr (.inl h)⟩
    ·exact .inr ⟨t,ht,(ih t ht k).mpr (.inr h)⟩
 ·cases k with
  |zero=>simp[T.adr]
  |succ k=>
   simp only[T.rest,T.adr,T.mem_rests,T.mem_adrs,aaf]
   constructor
   ·rintro(h|⟨t,ht,h⟩)
    ·exact .inl (.inl h)
    rcases (ih t ht k).mp h with h|h
    ·exact .inl (.inr ⟨t,ht,h⟩)
    ·exact .inr ⟨t,ht,h⟩
   ·rintro((h|⟨t,ht,h⟩)|⟨t,ht,h⟩)
    ·exact .inl h
    ·exact .inr ⟨t,ht,(ih t ht k).mpr (.inl h)⟩
    ·exact .inr ⟨t,ht,(ih t ht k).mpr (.inr h)⟩
theorem T.alls_iff{a:Addr}(ts:List T)(k:Nat):a∈T.rests ts 0 ↔ a∈T.adrs ts k\/a∈T.rests ts k:=by
 simp only[T.mem_rests,T.mem_adrs]
 constructor
 ·rintro⟨t,ht,h⟩
  rcases (T.all_iff t k).mp h with h|h
  ·exact .inl ⟨t,ht,h⟩
  ·exact .inr ⟨t,ht,h⟩
 ·rintro(⟨t,ht,h⟩|⟨t,ht,h⟩)
  ·exact⟨t,ht,(T.all_iff t k).mpr (.inl h)⟩
  ·exact⟨t,ht,(T.all_iff t k).mpr (.inr h)⟩
theorem T.rest_le{a:Addr}:∀(t:T){j j':Nat},j<=j'->a∈t.rest j'->a∈t.rest j:=by
 refine T.ind (by simp[T.rest]) (by simp[T.rest]) (by simp[T.rest]) (by simp[T.rest]) (fun b ts ih j j' hj h=>?_) (fun b ts ih j j' hj h=>?_) (by simp[T.rest]) (fun b ks ts ih j j' hj h=>?_) (fun b ks ts ih j j' hj h=>?_)
 ·simp only[T.rest,T.mem_rests]at h ⊢
  obtain⟨t,ht,h⟩:=h
  exact⟨t,ht,ih t ht hj h⟩
 ·cases j' with
  |zero=>cases acD.mp hj;exact h
  |succ j'=>
   simp only[T.rest,T.mem_rests]at h
   obtain⟨t,ht,h⟩:=h
   cases j with
   |zero=>exact aaa _ (T.mem_rests.mpr ⟨t,ht,ih t ht (aau _) h⟩)
   |succ j=>exact T.mem_rests.mpr ⟨t,ht,ih t ht (aaR hj) h⟩
 ·cases j' with
  |zero=>cases acD.mp hj;exact h
  |succ j'=>
   simp only[T.rest,T.mem_rests]at h
   obtain⟨t,ht,h⟩:=h
   cases j with
   |zero=>exact aaa _ (T.mem_rests.mpr ⟨t,ht,ih t ht (aau _) h⟩)
   |succ j=>exact T.mem_rests.mpr ⟨t,ht,ih t ht (aaR hj) h⟩
 ·cases j' with
  |zero=>cases acD.mp hj;exact h
  |succ j'=>
   simp only[T.rest,T.mem_rests]at h
   obtain⟨t,ht,h⟩:=h
   cases j with
   |zero=>exact aaa _ (T.mem_rests.mpr ⟨t,ht,ih t ht (aau _) h⟩)
   |succ j=>exact T.mem_rests.mpr ⟨t,ht,ih t ht (aaR hj) h⟩
theorem T.adr_le{a:Addr}:∀(t:T){j j':Nat},j<=j'->a∈t.adr j->a∈t.adr j':=by
 refine T.ind (by simp[T.adr]) (by simp[T.adr]) (by simp[T.adr]) (by simp[T.adr]) (fun b ts ih j j' hj h=>?_) (fun b ts ih j j' hj h=>?_) (by simp[T.adr]) (fun b ks ts ih j j' hj h=>?_) (fun b ks ts ih j j' hj h=>?_)
 ·simp only[T.adr,T.mem_adrs]at h ⊢
  obtain⟨t,ht,h⟩:=h
  exact⟨t,ht,ih t ht hj h⟩
 ·cases j with
  |zero=>simp[T.adr]at h
  |succ j=>
   cases j' with
   |zero=>omega
   |succ j'=>
    simp only[T.adr,aaf,T.mem_adrs]at h ⊢
    rcases h with h|⟨t,ht,h⟩
    ·exact .inl h
    ·exact .inr ⟨t,ht,ih t ht (aaR hj) h⟩
 ·cases j with
  |zero=>simp[T.adr]at h
  |succ j=>
   cases j' with
   |zero=>omega
   |succ j'=>
    simp only[T.adr,aaf,T.mem_adrs]at h ⊢
    rcases h with h|⟨t,ht,h⟩
    ·exact .inl h
    ·exact .inr ⟨t,ht,ih t ht (aaR hj) h⟩
 ·cases j with
  |zero=>simp[T.adr]at h
  |succ j=>
   cases j' with
   |zero=>omega
   |succ j'=>
    simp only[T.adr,aaf,T.mem_adrs]at h ⊢
    rcases h with h|⟨t,ht,h⟩
    ·exact .inl h
    ·exact .inr ⟨t,ht,ih t ht (aaR hj) h⟩
abbrev T.Nd(t:T)(k:Nat):Prop:=(t.adr k).Nodup/\∀a∈t.rest k,a∉t.adr k
abbrev T.Nds(ts:List T)(k:Nat):Prop:=(T.adrs ts k).Nodup/\∀a∈T.rests ts k,a∉T.adrs ts k
theorem T.nd_zero(t:T):t.Nd 0:=by unfold T.Nd;rw[T.adr_zero];exact⟨acg,fun _ _ h=>nomatch h⟩
theorem T.nds_zero(ts:List T):T.Nds ts 0:=by unfold T.Nds;rw[T.adrs_zero];exact⟨acg,fun _ _ h=>nomatch h⟩
theorem T.nds_cons{t:T}{r:List T}{k:Nat}:T.Nds (t::r) k ↔ t.Nd k/\T.Nds r k/\(∀a∈t.adr k,a∉T.rests r 0)/\(∀a∈T.adrs r k,a∉t.rest 0):=by
 unfold T.Nds T.Nd
 simp only[T.adrs,T.rests,ada,aah]
 constructor
 ·rintro⟨⟨n1,n2,n3⟩,h⟩
  refine⟨⟨n1,fun a ha hb=>h a (.inl ha) (.inl hb)⟩,⟨n2,fun a ha hb=>h a (.inr ha) (.inr hb)⟩,fun a ha hb=>?_,fun a ha hb=>?_⟩
  ·rcases (T.alls_iff r k).mp hb with q|q
   ·exact n3 a ha a q rfl
   ·exact h a (.inr q) (.inl ha)
  ·rcases (T.all_iff t k).mp hb with q|q
   ·exact n3 a q a ha rfl
   ·exact h a (.inl q) (.inr ha)
 ·rintro⟨⟨n1,h1⟩,⟨n2,h2⟩,c1,c2⟩
  refine⟨⟨n1,n2,fun a ha b hb e=>?_⟩,fun a ha hb=>?_⟩
  ·subst e
   exact c1 a ha ((T.alls_iff r k).mpr (.inl hb))
  ·rcases ha with ha|ha<;>rcases hb with hb|hb
   ·exact h1 a ha hb
   ·exact c2 a hb ((T.all_iff t k).mpr (.inr ha))
   ·exact c1 a hb ((T.alls_iff r k).mpr (.inr ha))
   ·exact h2 a ha hb
theorem T.nd_down:∀(t:T){k:Nat},t.Nd (k+1)->t.Nd k:=by
 have lists:∀(ts:List T),(∀t∈ts,∀{k:Nat},t.Nd (k+1)->t.Nd k)->∀{k:Nat},T.Nds ts (k+1)->T.Nds ts k:=by
  intro ts
  induction ts with
  |nil=>intro _ k _;exact⟨by simp[T.adrs],by simp[T.rests]⟩
  |cons t r ih=>
   intro h k n
   obtain⟨n1,n2,c1,c2⟩:=T.nds_cons.mp n
   exact T.nds_cons.mpr ⟨h t (aab ..) n1,ih (fun u hu=>h u (aaa _ hu)) n2,fun a ha=>c1 a (T.adr_le t (ach k) ha),fun a ha=>c2 a (by
    obtain⟨u,hu,hq⟩:=T.mem_adrs.mp ha
    exact T.mem_adrs.mpr ⟨u,hu,T.adr_le u (ach k) hq⟩)⟩
 refine T.ind (fun _=>by simp[T.Nd,T.adr]) (fun _ _=>by simp[T.Nd,T.adr]) (fun _ _=>by simp[T.Nd,T.adr]) (fun _ _=>by simp[T.Nd,T.adr]) (fun a ts ih k n=>?_) (fun a ts ih k n=>?_) (fun _ _ _=>by simp[T.Nd,T.adr]) (fun a ks ts ih k n=>?_) (fun a ks ts ih k n=>?_)
 ·exact lists ts ih n
 ·cases k with
  |zero=>exact T.nd_zero _
  |succ k=>
   obtain⟨n1,n2⟩:=n
   simp only[T.adr,T.rest,aat]at n1 n2
   have:=lists ts ih (k:=k) ⟨n1.2,fun b hb hc=>n2 b hb (aaa _ hc)⟩
   refine⟨?_,?_⟩
   ·simp only[T.adr,aat]
    refine⟨fun h=>n1.1 ?_,this.1⟩
    obtain⟨u,hu,hq⟩:=T.mem_adrs.mp h
    exact T.mem_adrs.mpr ⟨u,hu,T.adr_le u (ach k) hq⟩
   ·intro b hb hc
    simp only[T.adr,T.rest,aaf]at hb hc
    rcases hc with rfl|hc
    ·have h0:=(T.alls_iff ts (k+1)).mp ((T.alls_iff ts k).mpr (.inr hb))
     rcases h0 with h0|h0
     ·exact n1.1 h0
     ·exact n2 b h0 (aab ..)
    ·exact this.2 b hb hc
 ·cases k with
  |zero=>exact T.nd_zero _
  |succ k=>
   obtain⟨n1,n2⟩:=n
   simp only[T.adr,T.rest,aat]at n1 n2
   have:=lists ts ih (k:=k) ⟨n1.2,fun b hb hc=>n2 b hb (aaa _ hc)⟩
   refine⟨?_,?_⟩
   ·simp only[T.adr,aat]
    refine⟨fun h=>n1.1 ?_,this.1⟩
    obtain⟨u,hu,hq⟩:=T.mem_adrs.mp h
    exact T.mem_adrs.mpr ⟨u,hu,T.adr_le u (ach k) hq⟩
   ·intro b hb hc
    simp only[T.adr,T.rest,aaf]at hb hc
    rcases hc with rfl|hc
    ·have h0:=(T.alls_iff ts (k+1)).mp ((T.alls_iff ts k).mpr (.inr hb))
     rcases h0 with h0|h0
     ·exact n1.1 h0
     ·exact n2 b h0 (aab ..)
    ·exact this.2 b hb hc
 ·cases k with
  |zero=>exact T.nd_zero _
  |succ k=>
   obtain⟨n1,n2⟩:=n
   simp only[T.adr,T.rest,aat]at n1 n2
   have:=lists ts ih (k:=k) ⟨n1.2,fun b hb hc=>n2 b hb (aaa _ hc)⟩
   refine⟨?_,?_⟩
   ·simp only[T.adr,aat]
    refine⟨fun h=>n1.1 ?_,this.1⟩
    obtain⟨u,hu,hq⟩:=T.mem_adrs.mp h
    exact T.mem_adrs.mpr ⟨u,hu,T.adr_le u (ach k) hq⟩
   ·intro b hb hc
    simp only[T.adr,T.rest,aaf]at hb hc
    rcases hc with rfl|hc
    ·have h0:=(T.alls_iff ts (k+1)).mp ((T.alls_iff ts k).mpr (.inr hb))
     rcases h0 with h0|h0
     ·exact n1.1 h0
     ·exact n2 b h0 (aab ..)
    ·exact this.2 b hb hc
theorem T.nd_le(t:T){k k':Nat}(h:k<=k')(n:t.Nd k'):t.Nd k:=by
 induction k' with
 |zero=>cases acD.mp h;exact n
 |succ k' ih=>
  rcases acq k (k'+1) with q|q
  ·exact ih (aaN q) (T.nd_down t n)
  ·cases abV h q;exact n
theorem T.nds_le{ts:List T}{k k':Nat}(h:k<=k')(n:T.Nds ts k'):T.Nds ts k:=by
 have:=T.nd_le (.tup 0 ts) h (k':=k') n
 exact this
abbrev HO.mu:HO->Bool
 |.lst _=>true
 |.dK _=>true
 |.dT _=>true
 |_=>false
abbrev Mu(H:Hp)(a:Addr):Prop:=∃o,H a=some o/\HO.mu o=true
theorem Mu.l{H:Hp}{a:Addr}{vs:List V}(h:H a=some (.lst vs)):Mu H a:=⟨_,h,rfl⟩
theorem Rw{p:Px}{a:Addr}{c:Nat}:HO.mu (exO p a c)=false:=by
 unfold exO
 split<;>rfl
theorem T.Ok.keep'{p:Px}{H H':Hp}:∀(t:T),(∀a u,H a=some u->(a∈t.rest 0\/HO.mu u=false)->H' a=some u)->t.Ok p H->t.Ok p H':=by
 refine T.ind (P:=fun t=>(∀a u,H a=some u->(a∈t.rest 0\/HO.mu u=false)->H' a=some u)->t.Ok p H->t.Ok p H') (fun _ h=>h) (fun _ _ h=>h) (fun _ _ h=>h) (fun _ _ h=>h) (fun a ts ih k h=>?_) (fun a ts ih k h=>?_) (fun a c k h=>?_) (fun a ks ts ih k h=>?_) (fun a ks ts ih k h=>?_)
 ·obtain⟨h1,h2⟩:=h
  refine⟨k _ _ h1 (.inr rfl),T.oks_iff.mpr fun t ht=>ih t ht (fun b u e q=>k b u e ?_) (T.oks_iff.mp h2 t ht)⟩
  rcases q with q|q
  ·exact .inl (T.mem_rests.mpr ⟨t,ht,q⟩)
  ·exact .inr q
 ·obtain⟨h1,h2⟩:=h
  refine⟨?_,T.oks_iff.mpr fun t ht=>ih t ht (fun b u e q=>k b u e ?_) (T.oks_iff.mp h2 t ht)⟩
  ·rcases h1 with h1|⟨o,h1⟩
   ·exact .inl (k _ _ h1 (.inl (aab ..)))
   ·exact .inr ⟨o,k _ _ h1 (.inl (aab ..))⟩
  ·rcases q with q|q
   ·exact .inl (aaa _ (T.mem_rests.mpr ⟨t,ht,q⟩))
   ·exact .inr q
 ·rcases h with⟨h,lt⟩|⟨⟨dx,ob,h1,h2,h3⟩,ge⟩
  ·exact .inl ⟨⟨k _ _ h.1 (.inr Rw),h.2⟩,lt⟩
  ·exact .inr ⟨⟨dx,ob,k _ _ h1 (.inr rfl),k _ _ h2 (.inr rfl),h3⟩,ge⟩
 ·obtain⟨⟨h1,h3⟩,h2⟩:=h
  refine⟨⟨k _ _ h1 (.inl (aab ..)),h3⟩,T.oks_iff.mpr fun t ht=>ih t ht (fun b u e q=>k b u e ?_) (T.oks_iff.mp h2 t ht)⟩
  rcases q with q|q
  ·exact .inl (aaa _ (T.mem_rests.mpr ⟨t,ht,q⟩))
  ·exact .inr q
 ·obtain⟨⟨h1,h3⟩,h2⟩:=h
  refine⟨⟨k _ _ h1 (.inl (aab ..)),h3⟩,T.oks_iff.mpr fun t ht=>ih t ht (fun b u e q=>k b u e ?_) (T.oks_iff.mp h2 t ht)⟩
  rcases q with q|q
  ·exact .inl (aaa _ (T.mem_rests.mpr ⟨t,ht,q⟩))
  ·exact .inr q
theorem T.Ok.keep{p:Px}{H H':Hp}{t:T}(k:∀a u,H a=some u->(a∈t.rest 0\/HO.mu u=false)->H' a=some u)(h:t.Ok p H):t.Ok p H':=T.Ok.keep' t k h
theorem T.Ok.same{p:Px}{H H':Hp}{t:T}(s:Same H H')(h:t.Ok p H):t.Ok p H':=h.keep fun a u e _=>s a u e
theorem T.Oks.same{p:Px}{H H':Hp}{ts:List T}(s:Same H H')(h:T.Oks p H ts):T.Oks p H' ts:=T.oks_iff.mpr fun t ht=>(T.oks_iff.mp h t ht).same s
theorem Pc{H:Hp}{a:Addr}{u:HO}(h:Rd H a u):H a≠none:=by
 rcases h with h|⟨o,h⟩<;>rw[h]<;>simp
theorem T.Ok.dom'{p:Px}{H:Hp}{a:Addr}:∀(t:T),t.Ok p H->a∈t.rest 0->H a≠none:=by
 refine T.ind (P:=fun t=>t.Ok p H->a∈t.rest 0->H a≠none) (fun _ h=>nomatch h) (fun _ _ h=>nomatch h) (fun _ _ h=>nomatch h) (fun _ _ h=>nomatch h) (fun b ts ih k h=>?_) (fun b ts ih k h=>?_) (fun _ _ _ h=>nomatch h) (fun b ks ts ih k h=>?_) (fun b ks ts ih k h=>?_)
 ·obtain⟨t,ht,q⟩:=T.mem_rests.mp h
  exact ih t ht (T.oks_iff.mp k.2 t ht) q
 ·rcases aaf.mp h with rfl|h
  ·exact Pc k.1
  ·obtain⟨t,ht,q⟩:=T.mem_rests.mp h
   exact ih t ht (T.oks_iff.mp k.2 t ht) q
 ·rcases aaf.mp h with rfl|h
  ·rw[k.1.1];exact fun z=>nomatch z
  ·obtain⟨t,ht,q⟩:=T.mem_rests.mp h
   exact ih t ht (T.oks_iff.mp k.2 t ht) q
 ·rcases aaf.mp h with rfl|h
  ·rw[k.1.1];exact fun z=>nomatch z
  ·obtain⟨t,ht,q⟩:=T.mem_rests.mp h
   exact ih t ht (T.oks_iff.mp k.2 t ht) q
theorem T.Ok.dom{p:Px}{H:Hp}{a:Addr}{t:T}(h:t.Ok p H)(m:a∈t.rest 0):H a≠none:=T.Ok.dom' t h m
theorem T.Ok.domk{p:Px}{H:Hp}{a:Addr}{t:T}{k:Nat}(h:t.Ok p H)(m:a∈t.adr k):H a≠none:=h.dom ((T.all_iff t k).mpr (.inl m))
end Pu
end
section
namespace Pu
open PySem PySem.Spec PyProof.Rows PySem.W L2
abbrev gj(c:Bool)(x:Nat×Nat):Option (Nat×Nat):=if c then some x else none
mutual
noncomputable def jk(tn:List Nat):E->Option (Nat×Nat)
 |.nm i=>match tn[i]? with
  |some j=>gj (decide (j<90)) (j,0)
  |none=>none
 |.cN=>some (0,9)
 |.cB _=>some (0,9)
 |.cI _=>some (0,9)
 |.cS _=>some (0,9)
 |.gl _ d=>gj (D.scal d) (0,9)
 |.tup es=>jks tn es
 |.lst es=>(jks tn es).bind fun x=>some (if x.1=0 then(0,x.2+1) else(x.1+1,0))
 |.bin _ a b=>(jk tn a).bind fun x=>(jk tn b).bind fun y=>gj (decide (x.1<=1)&&decide (y.1<=1)) (0,1)
 |.neg a=>(jk tn a).bind fun _=>some (0,9)
 |.not a=>(jk tn a).bind fun _=>some (0,9)
 |.cmp _ a b=>(jk tn a).bind fun _=>(jk tn b).bind fun _=>some (0,9)
 |.chain _ _ a b c=>(jk tn a).bind fun _=>(jk tn b).bind fun _=>(jk tn c).bind fun _=>some (0,9)
 |.isN _ a=>(jk tn a).bind fun _=>some (0,9)
 |.bo _ es=>jks tn es
 |.ix a i=>(jk tn a).bind fun x=>(jk tn i).bind fun _=>gj (decide (x.1=0)) (0,0)
 |.ixL a i=>(jk tn a).bind fun x=>(jk tn i).bind fun _=>some (x.1-1,0)
 |.slc a lo hi=>(jk tn a).bind fun x=>(jk tn lo).bind fun _=>(jk tn hi).bind fun _=>gj (decide (x.1<=1)) (0,1)
 |.call f es=>(jks tn es).bind fun x=>gj (decide (x.1=0)) (0,f.dep)
 |.callB f es=>(jks tn es).bind fun _=>some (0,9)
 |.bi b es=>(jks tn es).bind fun x=>match b with
  |.list=>gj (decide (x.1=0)) (0,1)
  |_=>some (0,9)
 |.listI it=>(jkI tn it).bind fun x=>some (0,1)
 |.isi a _=>(jk tn a).bind fun _=>some (0,9)
 |.lenSet a=>(jk tn a).bind fun _=>some (0,9)
 |.comp0 nl fr _ it elt=>(jkI tn it).bind fun _=>(jk (aak nl 0++fr.map fun j=>tn.getD j 99) elt).bind fun x=>gj (decide (x.1=0)) (0,x.2+1)
noncomputable def jks(tn:List Nat):Es->Option (Nat×Nat)
 |.nil=>some (0,9)
 |.cons e r=>(jk tn e).bind fun x=>(jks tn r).bind fun y=>some (max x.1 y.1,if max x.1 y.1=0 then min x.2 y.2 else 0)
noncomputable def jkI(tn:List Nat):It->Option Nat
 |.seq e=>(jk tn e).bind fun x=>if x.1=0 then some 0 else none
 |.seqL e=>(jk tn e).bind fun x=>if x.1<=1 then some x.1 else none
 |.r1 a=>(jk tn a).bind fun _=>some 0
 |.r2 a b=>(jk tn a).bind fun _=>(jk tn b).bind fun _=>some 0
end
@[reducible]noncomputable def St:=L2.St
@[reducible]noncomputable def Ft:=List (Option T)
abbrev vτ(τ:Ft):St:=τ.map (adl T.val)
abbrev dτ(τ:Ft):Fr:=τ.map (adl T.dat)
abbrev Fok(p:Px)(tn:List Nat)(τ:Ft)(H:Hp):Prop:=∀(i:Nat)(t:T)(j:Nat),τ[i]?=some (some t)->tn[i]?=some j->j<90->t.Ok p H
abbrev Sh(tn:List Nat)(τ:Ft)(a:Addr):Prop:=∃(i:Nat)(t:T)(j:Nat),τ[i]?=some (some t)/\tn[i]?=some j/\j<90/\a∈t.rest j
theorem Fok.same{p:Px}{tn:List Nat}{τ:Ft}{H H':Hp}(h:Fok p tn τ H)(s:Same H H'):Fok p tn τ H':=fun i t j e e' l=>(h i t j e e' l).same s
theorem Fok.dom{p:Px}{tn:List Nat}{τ:Ft}{H:Hp}(h:Fok p tn τ H){a:Addr}(s:Sh tn τ a):H a≠none:=by
 obtain⟨i,t,j,e,e',l,m⟩:=s
 exact(h i t j e e' l).dom (T.rest_le t (aau j) m)
theorem C8{τ:Ft}{i:Nat}{t:T}(h:τ[i]?=some (some t)):(vτ τ)[i]?=some (some t.val):=by simp[vτ,h]
theorem Eg{τ:Ft}{i:Nat}{d:D}(h:get (dτ τ) i=.ok d):∃t,τ[i]?=some (some t)/\t.dat=d:=by
 unfold get dτ at h
 rw[aal]at h
 cases q:τ[i]? with
 |none=>rw[q]at h;cases h
 |some o=>
  rw[q]at h
  cases o with
  |none=>cases h
  |some t=>exact⟨t,rfl,by simpa using h⟩
structure Rs(p:Px)(B:Addr->Prop)(H H':Hp)(j k:Nat)(t:T):Prop where
 same:Same H H'
 ok:t.Ok p H'
 src:∀a∈t.rest j,H a=none\/B a
 new:∀a∈t.adr k,H a=none/\Mu H' a
 nd:t.Nd k
structure RsL(p:Px)(B:Addr->Prop)(H H':Hp)(j k:Nat)(ts:List T):Prop where
 same:Same H H'
 ok:T.Oks p H' ts
 src:∀a∈T.rests ts j,H a=none\/B a
 new:∀a∈T.adrs ts k,H a=none/\Mu H' a
 nd:T.Nds ts k
theorem Rs.back{p:Px}{B:Addr->Prop}{H H1 H2:Hp}{j k:Nat}{t:T}(r:Rs p B H1 H2 j k t)(s:Same H H1):Rs p B H H2 j k t :=
 ⟨s.trans r.same,r.ok,fun a m=>(r.src a m).imp s.free id,fun a m=>⟨s.free (r.new a m).1,(r.new a m).2⟩,r.nd⟩
theorem Rs.fwd{p:Px}{B:Addr->Prop}{H H1 H2:Hp}{j k:Nat}{t:T}(r:Rs p B H H1 j k t)(s:Same H1 H2):Rs p B H H2 j k t :=
 ⟨r.same.trans s,r.ok.same s,r.src,fun a m=>⟨(r.new a m).1,let ⟨vs,e,mu⟩:=(r.new a m).2;⟨vs,s _ _ e,mu⟩⟩,r.nd⟩
theorem Rs.le{p:Px}{B:Addr->Prop}{H H1:Hp}{j k j' k':Nat}{t:T}(r:Rs p B H H1 j k t)(hj:j<=j')(hk:k'<=k):Rs p B H H1 j' k' t :=
 ⟨r.same,r.ok,fun a m=>r.src a (T.rest_le t hj m),fun a m=>r.new a (T.adr_le t hk m),T.nd_le t hk r.nd⟩
theorem RsL.back{p:Px}{B:Addr->Prop}{H H1 H2:Hp}{j k:Nat}{t:List T}(r:RsL p B H1 H2 j k t)(s:Same H H1):RsL p B H H2 j k t :=
 ⟨s.trans r.same,r.ok,fun a m=>(r.src a m).imp s.free id,fun a m=>⟨s.free (r.new a m).1,(r.new a m).2⟩,r.nd⟩
abbrev T.sc:T->Bool
 |.non=>true
 |.bl _=>true
 |.int _=>true
 |.str _=>true
 |_=>false
theorem Rs.scal{p:Px}{B:Addr->Prop}{H H':Hp}{j k:Nat}{t:T}(s:Same H H')(h:t.sc=true):Rs p B H H' j k t:=by
 cases t<;>first|exact⟨s,trivial,by simp[T.rest],by simp[T.adr],by simp[T.Nd,T.adr]⟩|cases h
abbrev TU(c:Nat)(H:Hp)(od:Option Addr):Prop:=(c<1000/\od=none)\/(1000<=c/\∃dx ob,od=some dx/\H dx=some (.frz ob (.xd [("at",.int (Rv c))])))
abbrev XW(p:Px)(E:XK)(c:Nat)(H:Hp):Prop:=∀od,TU c H od->E (.ref (p.cl (kcX c))) od H
abbrev Lg{α:Type}(p:Px)(EX:EXT)(σ:St)(r:Res α)(H:Hp)(Kc:α->Prop):Prop:=match r with
 |.ok a=>Kc a
 |.exc c=>p.has (kcX c)=true->∀H',Same H H'->XW p (EX σ) c H'
 |.bad=>False
theorem Lg.bind{α β:Type}{p:Px}{EX:EXT}{σ:St}{r:Res α}{f:α->Res β}{H:Hp}{Kc:β->Prop}(h:Lg p EX σ (r.bind f) H Kc):Lg p EX σ r H fun a=>Lg p EX σ (f a) H Kc:=by
 cases r<;>exact h
theorem Lg.mono{α:Type}{p:Px}{EX:EXT}{σ:St}{r:Res α}{H H1:Hp}{Kc Kc':α->Prop}(h:Lg p EX σ r H Kc)(s:Same H H1)(m:∀a,r=.ok a->Kc a->Kc' a):Lg p EX σ r H1 Kc':=by
 cases r with
 |ok a=>exact m a rfl h
 |exc c=>exact fun hc H' s'=>h hc H' (s.trans s')
 |bad=>exact h
theorem Lg.guard{α:Type}{p:Px}{EX:EXT}{σ:St}{c:Prop}[Decidable c]{r:Res α}{H:Hp}{Kc:α->Prop}(h:Lg p EX σ (if c then r else .bad) H Kc):c/\Lg p EX σ r H Kc:=by
 split at h
 ·exact⟨‹_›,h⟩
 ·exact nE h
@[reducible]noncomputable def KE(p:Px)(B:Addr->Prop)(H:Hp)(j k:Nat)(Q:VK):D->Prop:=fun d=>∀t H',t.dat=d->Rs p B H H' j k t->Q t.val H'
@[reducible]noncomputable def KL(p:Px)(B:Addr->Prop)(H:Hp)(j k:Nat)(Q:List V->Hp->Prop):List D->Prop:=fun ds=>∀ts H',T.dats ts=ds->RsL p B H H' j k ts->Q (ts.map T.val) H'
abbrev lE(p:Px)(EX:EXT)(tn:List Nat)(e:E):TE:=fun σ H Q=>∃τ,σ=vτ τ/\Fok p tn τ H/\∃j k,jk tn e=some (j,k)/\Lg p EX σ (ev e (dτ τ)) H (KE p (Sh tn τ) H j k Q)
abbrev lEs(p:Px)(EX:EXT)(tn:List Nat)(es:Es):TA:=fun σ H Q=>∃τ,σ=vτ τ/\Fok p tn τ H/\∃j k,jks tn es=some (j,k)/\Lg p EX σ (evs es (dτ τ)) H (KL p (Sh tn τ) H j k Q)
abbrev lT(p:Px)(EX:EXT)(tn:List Nat)(e:E):TT:=fun σ H Q=>∃τ,σ=vτ τ/\Fok p tn τ H/\(jk tn e).isSome=true/\Lg p EX σ (tv e (dτ τ)) H fun b=>∀H',Same H H'->Q b H'
theorem PE.mono{X:Cx}{e:Expr}{t t':TE}(h:PE X e t)(m:∀σ H Q,t' σ H Q->t σ H Q):PE X e t':=fun pins s σ H Q I q=>h pins s σ H Q I (m _ _ _ q)
theorem PT.mono{X:Cx}{e:Expr}{t t':TT}(h:PT X e t)(m:∀σ H Q,t' σ H Q->t σ H Q):PT X e t':=fun pins s σ H Q I q=>h pins s σ H Q I (m _ _ _ q)
theorem PA.mono{X:Cx}{e:List Expr}{t t':TA}(h:PA X e t)(m:∀σ H Q,t' σ H Q->t σ H Q):PA X e t':=fun pos pins s σ H Q I q=>h pos pins s σ H Q I (m _ _ _ q)
section
variable{p:Px}{EX:EXT}{tn:List Nat}{X:Cx}{pos:Pos}
theorem D0{c:Bool}{x:Nat×Nat}{j k:Nat}(h:gj c x=some (j,k)):c=true/\x=(j,k):=by
 unfold gj at h
 split at h
 ·exact⟨‹_›,Option.some.inj h⟩
 ·cases h
theorem l1{x:E}{β:Type}{f:D->Res β}{τ:Ft}{H:Hp}{Kc:β->Prop}{Q:VK}{ja ka:Nat}(hF:Fok p tn τ H)(hj:jk tn x=some (ja,ka))(h:Lg p EX (vτ τ) ((ev x (dτ τ)).bind f) H Kc)
  (m:∀d t H1,t.dat=d->Rs p (Sh tn τ) H H1 ja ka t->Lg p EX (vτ τ) (f d) H Kc->Q t.val H1):lE p EX tn x (vτ τ) H Q :=
 ⟨τ,rfl,hF,ja,ka,hj,h.bind.mono (Same.refl _) fun d _ hd t H1 ht R=>m d t H1 ht R hd⟩
theorem l2{x:E}{β:Type}{f:D->Res β}{τ:Ft}{H H1:Hp}{Kc:β->Prop}{Q:VK}{ja ka:Nat}(hF:Fok p tn τ H)(s:Same H H1)(hj:jk tn x=some (ja,ka))(h:Lg p EX (vτ τ) ((ev x (dτ τ)).bind f) H Kc)
  (m:∀d t H2,t.dat=d->Rs p (Sh tn τ) H1 H2 ja ka t->Lg p EX (vτ τ) (f d) H Kc->Q t.val H2):lE p EX tn x (vτ τ) H1 Q :=
 ⟨τ,rfl,hF.same s,ja,ka,hj,h.bind.mono s fun d _ hd t H2 ht R=>m d t H2 ht R hd⟩
theorem Rx{i:Nat}{x:Str}(hN:X.N[i]?=some x)(hv:Vis X.env.scope x)(hd:(x==("__debug__" : Str))=false)(hcd:(x==("__classdict__" : Str))=false):PE X (.Name x pos) (lE p EX tn (.nm i)):=by
 refine PE.mono (ER hN hv hd hcd) fun σ H Q h=>?_
 obtain⟨τ,rfl,hF,j,k,hj,h⟩:=h
 simp only[jk]at hj
 split at hj
 ·rename_i j' hj'
  obtain⟨hlt,e⟩:=D0 hj
  cases e
  simp only[ev]at h
  cases q:get (dτ τ) i with
  |ok d=>
   rw[q]at h
   obtain⟨t,ht,e⟩:=Eg q
   exact⟨t.val,C8 ht,h t H e ⟨Same.refl _,hF i t j ht hj' (of_decide_eq_true hlt),fun a m=>.inr ⟨i,t,j,ht,hj',of_decide_eq_true hlt,m⟩,by rw[T.adr_zero];simp,T.nd_zero t⟩⟩
  |exc c=>rw[q]at h;unfold get at q;split at q<;>cases q
  |bad=>rw[q]at h;exact h.elim
 ·cases hj
theorem Gk{e:Expr}{x:E}{t:T}(hp:PE X e (tC t.val))(hs:t.sc=true)(he:∀δ,ev x δ=.ok t.dat):PE X e (lE p EX tn x):=by
 refine PE.mono hp fun σ H Q h=>?_
 obtain⟨τ,rfl,hF,j,k,hj,h⟩:=h
 rw[he]at h
 exact h t H rfl (Rs.scal (Same.refl _) hs)
theorem Pd{B:Addr->Prop}{H H1 H2:Hp}{j1 k1 j2 k2:Nat}{t:T}{ts:List T}(hB:∀a,B a->H a≠none)(r:Rs p B H H1 j1 k1 t)(q:RsL p B H1 H2 j2 k2 ts):RsL p B H H2 (max j1 j2) (if max j1 j2=0 then min k1 k2 else 0) (t::ts):=by
 have r2:=r.fwd q.same
 refine⟨r2.same,⟨r2.ok,q.ok⟩,fun a m=>?_,fun a m=>?_,?_⟩
 ·simp only[T.rests,aah]at m
  rcases m with m|m
  ·exact r.src a (T.rest_le t (Nat.le_max_left ..) m)
  ·obtain⟨u,hu,m⟩:=T.mem_rests.mp m
   exact(q.src a (T.mem_rests.mpr ⟨u,hu,T.rest_le u (Nat.le_max_right ..) m⟩)).imp r.same.free id
 ·split at m
  ·simp only[T.adrs,aah]at m
   rcases m with m|m
   ·exact r2.new a (T.adr_le t (abl ..) m)
   ·obtain⟨u,hu,m⟩:=T.mem_adrs.mp m
    have z:=q.new a (T.mem_adrs.mpr ⟨u,hu,T.adr_le u (abM ..) m⟩)
    exact⟨r.same.free z.1,z.2⟩
  ·rw[T.adrs_zero]at m;cases m
 ·split
  ·rename_i hz
   have h1:j1=0:=by omega
   have h2:j2=0:=by omega
   subst h1 h2
   refine T.nds_cons.mpr ⟨T.nd_le t (abl ..) r.nd,T.nds_le (abM ..) q.nd,fun a m m'=>?_,fun a m m'=>?_⟩
   ·have m1:=T.adr_le t (abl k1 k2) m
    rcases q.src a m' with z|z
    ·exact r.ok.domk m1 z
    ·exact hB a z (r.new a m1).1
   ·obtain⟨u,hu,m⟩:=T.mem_adrs.mp m
    exact r.ok.dom m' (q.new a (T.mem_adrs.mpr ⟨u,hu,T.adr_le u (abM ..) m⟩)).1
  ·exact T.nds_zero _
theorem ND:PA X [] (lEs p EX tn .nil):=by
 refine PA.mono CG fun σ H Q h=>?_
 obtain⟨τ,rfl,hF,j,k,hj,h⟩:=h
 exact h [] H rfl ⟨Same.refl _,trivial,by simp[T.rests],by simp[T.adrs],by simp[T.Nds,T.adrs]⟩
theorem Mi{e:Expr}{es:List Expr}{x:E}{xs:Es}(he:PE X e (lE p EX tn x))(hes:PA X es (lEs p EX tn xs))(hs:starEach (e::es) X.env=(false,eval e X.env)::starEach es X.env):PA X (e::es) (lEs p EX tn (.cons x xs)):=by
 refine PA.mono (Bc he hes hs) fun σ H Q h=>?_
 obtain⟨τ,rfl,hF,j,k,hj,h⟩:=h
 simp only[jks]at hj
 obtain⟨⟨j1,k1⟩,h1,hj⟩:=bS hj
 obtain⟨⟨j2,k2⟩,h2,hj⟩:=bS hj
 cases hj
 simp only[evs]at h
 refine l1 hF h1 h fun d t H1 ht R h=>?_
 refine⟨τ,rfl,hF.same R.same,j2,k2,h2,h.bind.mono R.same fun ds _ hd ts H2 hts R2=>?_⟩
 exact hd (t::ts) H2 (by simp[T.dats,ht,hts]) (Pd (fun a=>hF.dom) R R2)
end
section
variable{p:Px}{EX:EXT}{tn:List Nat}{X:Cx}{pos:Pos}
theorem Ry{B:Addr->Prop}{H H1:Hp}{j k:Nat}{a:Addr}{ts:List T}(r:RsL p B H H1 j k ts)(hn:H1 a=none):Rs p B H (L2.upd H1 a (.tup (ts.map T.val))) j k (.tup a ts):=by
 have s:=Same.new (o:=.tup (ts.map T.val)) hn
 exact⟨r.same.trans s,⟨AO,r.ok.same s⟩,r.src,fun b m=>⟨(r.new b m).1,let ⟨vs,e,mu⟩:=(r.new b m).2;⟨vs,s _ _ e,mu⟩⟩,r.nd⟩
theorem Mj{B:Addr->Prop}{H H1:Hp}{j k:Nat}{a:Addr}{ts:List T}(r:RsL p B H H1 j k ts)(hn:H1 a=none) :
  Rs p B H (L2.upd H1 a (.lst (ts.map T.val))) (if j=0 then 0 else j+1) (if j=0 then k+1 else 0) (.lst a ts):=by
 have s:=Same.new (o:=.lst (ts.map T.val)) hn
 have ha:H a=none:=r.same.free hn
 refine⟨r.same.trans s,⟨.inl AO,r.ok.same s⟩,fun b m=>?_,fun b m=>?_,?_⟩
 ·split at m
  ·rename_i e
   subst e
   simp only[T.rest,aaf]at m
   rcases m with rfl|m
   ·exact .inl ha
   ·exact r.src b m
  ·exact r.src b m
 ·split at m
  ·simp only[T.adr,aaf]at m
   rcases m with rfl|m
   ·exact⟨ha,_,AO,rfl⟩
   ·exact⟨(r.new b m).1,let ⟨vs,e,mu⟩:=(r.new b m).2;⟨vs,s _ _ e,mu⟩⟩
  ·rw[T.adr_zero]at m;cases m
 ·split
  ·rename_i e
   subst e
   have out:a∉T.rests ts 0:=fun m=>by
    obtain⟨t,ht,m⟩:=T.mem_rests.mp m
    exact(T.oks_iff.mp r.ok t ht).dom m hn
   refine⟨?_,fun b m m'=>?_⟩
   ·simp only[T.adr,aat]
    exact⟨fun m=>out ((T.alls_iff ts k).mpr (.inl m)),r.nd.1⟩
   ·simp only[T.adr,T.rest,aaf]at m m'
    rcases m' with rfl|m'
    ·exact out ((T.alls_iff ts k).mpr (.inr m))
    ·exact r.nd.2 b m m'
  ·exact T.nd_zero _
theorem Aj:∀ts:List T,(T.dats ts).length=ts.length:=fun ts=>by rw[T.dats_map,aac]
abbrev Es.len:Es->Nat
 |.nil=>0
 |.cons _ r=>r.len+1
theorem B7:∀(es:Es)(δ:Fr)(ds:List D),evs es δ=.ok ds->ds.length=es.len
 |.nil,δ,ds,h=>by simp only[evs]at h;cases h;rfl
 |.cons e r,δ,ds,h=>by
  simp only[evs]at h
  obtain⟨x,_,h⟩:=Res.bind_eq_ok h
  obtain⟨xs,h2,h⟩:=Res.bind_eq_ok h
  cases h
  rw[aaH,B7 r δ xs h2,Es.len]
theorem Pe{es:List Expr}{xs:Es}{k1:Nat}(h:PA X es (lEs p EX tn xs))(hl:xs.len<=1000):PE X (.Tuple es k1 pos) (lE p EX tn (.tup xs)):=by
 refine PE.mono (Re h) fun σ H Q h=>?_
 obtain⟨τ,rfl,hF,j,k,hj,h⟩:=h
 simp only[ev]at h
 refine⟨τ,rfl,hF,j,k,hj,h.bind.mono (Same.refl _) fun ds e hd ts H1 hts R=>⟨?_,fun a ha=>hd (.tup a ts) _ (by simp[T.dat,hts]) (Ry R ha)⟩⟩
 have:=B7 _ _ _ e
 rw[aac,<- Aj,hts,this]
 exact aar hl (by decide)
theorem Pf{es:List Expr}{xs:Es}(h:PA X es (lEs p EX tn xs))(hl:xs.len<=1000):PE X (.List es pos) (lE p EX tn (.lst xs)):=by
 refine PE.mono (Rf h) fun σ H Q h=>?_
 obtain⟨τ,rfl,hF,j,k,hj,h⟩:=h
 simp only[jk]at hj
 obtain⟨⟨j1,k1⟩,h1,hj⟩:=bS hj
 simp only[ev]at h
 refine⟨τ,rfl,hF,j1,k1,h1,h.bind.mono (Same.refl _) fun ds e hd ts H1 hts R=>⟨?_,fun a ha=>hd (.lst a ts) _ (by simp[T.dat,hts]) ?_⟩⟩
 ·have:=B7 _ _ _ e
  rw[aac,<- Aj,hts,this]
  exact aar hl (by decide)
 ·have q:=Mj R ha
  have hj:=Option.some.inj hj
  by_cases z:j1=0
  ·subst z;simp only[if_true]at q;simp at hj;obtain⟨rfl,rfl⟩:=hj;exact q
  ·simp only[if_neg z]at q;simp[z]at hj;obtain⟨rfl,rfl⟩:=hj;exact q
abbrev KU:B2->Operator
 |.add=>.Add
 |.sub=>.Sub
 |.mul=>.Mult
 |.fdiv=>.FloorDiv
 |.mod=>.Mod
 |.pow=>.Pow
theorem Inv.lstR{pins:List (Addr×Obj)}{σ:St}{H:Hp}{s:Shared}{l:Addr}{xs:List V}(I:Inv X pins σ H s)(hH:Rd H l (.lst xs)):xs.length<=sizeLine/\∃(its:List Value)(n:Nat),Vals xs its/\xs.length=its.length/\s.heap.get? l=some {cls:=.type "list",data:=.seq its.toArray n}:=by
 obtain⟨z,its,n,r,e⟩:=hH.ok I.hok
 exact⟨z,its,n,r,r.length,e⟩
abbrev OC:R2:=fun x y H Q=>∃l b xs zs,x=.ref l/\y=.ref b/\Rd H l (.lst xs)/\Rd H b (.lst zs)/\xs.length+zs.length<=sizeLine/\∀q,H q=none->Q (.ref q) (L2.upd H q (.lst (xs++zs)))
theorem Pg:OpR X (binaryOp .Add) OC:=by
 intro pins s σ H x y v u Q I rx ry h
 obtain⟨l,b,xs,zs,rfl,rfl,hH,hB,hz,q⟩:=h
 cases rx
 cases ry
 obtain⟨z,its,n,r,hl,e⟩:=Inv.lstR I hH
 obtain⟨z2,its2,n2,r2,hl2,e2⟩:=Inv.lstR I hB
 refine PySem.P.add_list e e2 ?_ (by rw[aaq,aaq];omega)
 have ea:its.toArray++its2.toArray=(its++its2).toArray:=by simp
 rw[ea]
 exact⟨.ref _,_,I.lnew (t':=s.toks) (r.append r2) (by rw[aaI];omega),rfl,q _ I.fresh⟩
abbrev OD:R2:=fun x y H Q=>∃l k xs,x=.ref l/\y=.int k/\Rd H l (.lst xs)/\-(2^63)<=k/\k<2^63/\xs.length*k.toNat<=sizeLine /\
 ∀q,H q=none->Q (.ref q) (L2.upd H q (.lst (aak k.toNat xs).flatten))
abbrev OE(_ j:Int):Prop:=0<j/\j<2^200
theorem NE:OpR X (binaryOp .FloorDiv) (rI OE fun i j=>.int (i/j)):=opI fun i j _ _ _ _ _ hc q=>by
 have e:i/j=i.fdiv j:=(Int.fdiv_eq_ediv_of_nonneg _ (Int.le_of_lt hc.1)).symm
 rw[e]at q
 refine floordiv_int (by have:=hc.1;omega) q (.inl (PyProof.noPylong_of_log2 ?_))
 have h1:j.natAbs<2^200:=by
  have e1:(j.natAbs:Int)=j:=Int.natAbs_of_nonneg (Int.le_of_lt hc.1)
  have e2:(j.natAbs:Int)<((2^200:Nat):Int):=by rw[e1];exact hc.2
  exact ab7.mp e2
 have:j.natAbs.log2<200:=by
  refine(Nat.log2_lt (by have:=hc.1;omega)).mpr h1
 omega
theorem Ph:OpR X (binaryOp .Mult) OD:=by
 intro pins s σ H x y v u Q I rx ry h
 obtain⟨l,k,xs,rfl,rfl,hH,h1,h2,hz,q⟩:=h
 cases rx
 obtain⟨t,rfl⟩:=ry
 obtain⟨z,its,n,r,hl,e⟩:=Inv.lstR I hH
 have hlen:its.toArray.size*k.toNat<=sizeLine:=by rw[aaq,<- hl];exact hz
 have hcap:¬its.toArray.size*k.toNat>(2^63-1)/8:=by
  have:(sizeLine:Nat)<=(2^63-1)/8:=by decide
  omega
 have hfit:¬(!Builtin.List.listFitsIndex k)=true:=by
  rw[fitsIndex_both h1 h2]
  exact abp
 have hlong:¬Builtin.List.listTooLong (its.toArray.size*k.toNat)=true:=by
  rw[Io hlen]
  exact abp
 have hnew:adk (fun x1 x2=>x1++x2) #[] (aak (if its.toArray.isEmpty=true then 0 else k.toNat) its.toArray)=(aak k.toNat its).flatten.toArray:=by
  have f0:∀m:Nat,adk (fun x1 x2=>x1++x2) #[] (aak m its.toArray)=(aak m its).flatten.toArray:=fun m=>by
   have:=Hx its m []
   rw[aaX]at this
   exact this
  rw[f0]
  cases its with
  |nil=>simp
  |cons a r'=>rw[if_neg (by simp)]
 refine wpAny_binaryOp_repeat_ref (T := "list") (U := "int") (by decide) ⟨_,e,rfl⟩ (fun s'=>typeIs_int s' k t) noFill_list_mul F.fills_int_mul F.slot_int_rmul repeat_list F.slot_int_index.lookup
  (call_meets F.slot_int_rmul (typeIs_int s k t) F.entry_int_rmul (F.args_int_rmul_2 _ _) (int___rmul___int_list k t l its.toArray n)
   ⟨e,rfl,⟨_,e,rfl⟩,call_meets F.slot_list_mul ⟨_,e,rfl⟩ F.entry_list_mul (F.args_list_mul_2 _ _) (AutoListH.list___mul___list_int_3 l its.toArray n k t hfit hcap hlong) ⟨e,?_⟩⟩)
 rw[hnew]
 exact⟨.ref _,_,I.lnew (t':=s.toks) (r.rep k.toNat) (by rw[O6,abf];exact hz),rfl,q _ I.fresh⟩
abbrev CMulB(i j:Int):Prop:=CMul i j\/(i.natAbs<2^400/\j.natAbs<2^400)
theorem JY{k:Int}(h:k.natAbs<2^400):Builtin.Int.intBits k<=400:=by
 unfold Builtin.Int.intBits
 split
 ·exact aau _
 ·have:k.natAbs.log2<400:=by
   rcases ac1 k.natAbs with h0|hp
   ·rw[h0];decide
   ·exact(Nat.log2_lt (ab4 hp)).mpr h
  omega
theorem CMulB.ok{i j:Int}(h:CMulB i j):IntMulOk i j:=by
 rcases h with h|⟨h1,h2⟩
 ·exact h.ok
 ·have b1:=JY h1
  have b2:=JY h2
  have:Builtin.Int.intTooBig (Builtin.Int.intBits i+Builtin.Int.intBits j)=false:=by
   unfold Builtin.Int.intTooBig bitsLine
   exact decide_eq_false (by omega)
  unfold IntMulOk
  rw[this]
  simp
theorem Pi:OpR X (binaryOp .Mult) (rI CMulB fun i j=>.int (i*j)):=opI fun _ _ _ _ _ _ _ hc q=>mul_int q hc.ok
abbrev Rz:B2->R2
 |.add=>fun x y H Q=>rI0 (fun i j=>.int (i+j)) x y H Q\/(OC x y H Q\/∃i j,x=.str i/\y=.str j/\i.length+j.length<=sizeLine/\Q (.str (i++j)) H)
 |.sub=>rI0 fun i j=>.int (i-j)
 |.mul=>fun x y H Q=>rI CMulB (fun i j=>.int (i*j)) x y H Q\/OD x y H Q
 |.fdiv=>rI OE fun i j=>.int (i/j)
 |.mod=>rI (fun _ j=>0<j) fun i j=>.int (i%j)
 |.pow=>rI Q5 fun i j=>.int (i^j.toNat)
theorem Pj:∀o:B2,OpR X (binaryOp (KU o)) (Rz o)
 |.add=>Q6.or (Pg.or KG)
 |.sub=>Q7
 |.mul=>Pi.or Ph
 |.fdiv=>NE
 |.mod=>Q8
 |.pow=>Q9
theorem Rs.elems{B:Addr->Prop}{H H1:Hp}{j k:Nat}{a:Addr}{ts:List T}(r:Rs p B H H1 j k (.lst a ts))(hj:j<=1):∀b∈T.rests ts 0,H b=none\/B b:=fun b m=>by
 refine r.src b (T.rest_le _ hj (j':=1) ?_)
 exact m
theorem DR{B:Addr->Prop}{H H1:Hp}{a:Addr}{ts:List T}(s:Same H H1)(ok:T.Oks p H1 ts)(src:∀b∈T.rests ts 0,H b=none\/B b)(hn:H1 a=none):Rs p B H (L2.upd H1 a (.lst (ts.map T.val))) 0 1 (.lst a ts):=by
 have:=Mj (j:=0) (k:=0) (p:=p) (B:=B) (H:=H) (a:=a) (ts:=ts) ⟨s,ok,src,by rw[T.adrs_zero];simp,T.nds_zero ts⟩ hn
 exact this
theorem JZ{t:T}{f:Int->Res D}{Q:Res D->Prop}(hb:¬Q .bad)(h:Q (Dr t.dat f)):∃i,t=.int i/\Q (f i):=by
 cases t with
 |int i=>exact⟨i,rfl,h⟩
 |_=>exact absurd h hb
theorem BL{t u:T}{f:Int->Int->Res D}{Q:Res D->Prop}(hb:¬Q .bad)(h:Q (Bt t.dat u.dat f)):∃i j,t=.int i/\u=.int j/\Q (f i j):=by
 obtain⟨i,rfl,h⟩:=JZ (t:=t) hb h
 obtain⟨j,rfl,h⟩:=JZ (t:=u) hb h
 exact⟨i,j,rfl,rfl,h⟩
theorem Pk{t u:T}{Q:Res D->Prop}(hb:¬Q .bad)(h:Q (KS t.dat u.dat)):(∃i j,t=.int i/\u=.int j/\Q (.ok (.int (i+j))))\/(∃x y,t=.str x/\u=.str y/\Q (KS (.str x) (.str y)))\/∃a ts b us,t=.lst a ts/\u=.lst b us/\Q (KS (.lst (T.dats ts)) (.lst (T.dats us))):=by
 cases t with
 |int i=>
  cases u with
  |int j=>exact .inl ⟨i,j,rfl,rfl,h⟩
  |_=>exact absurd h hb
 |str x=>
  cases u with
  |str y=>exact .inr (.inl ⟨x,y,rfl,rfl,h⟩)
  |_=>exact absurd h hb
 |lst a ts=>
  cases u with
  |lst b us=>exact .inr (.inr ⟨a,ts,b,us,rfl,rfl,h⟩)
  |_=>exact absurd h hb
 |_=>exact absurd h hb
theorem Pl{t u:T}{Q:Res D->Prop}(hb:¬Q .bad)(h:Q (Iw t.dat u.dat)):(∃i j,t=.int i/\u=.int j/\Q (Iw (.int i) (.int j)))\/∃a ts k,t=.lst a ts/\u=.int k/\Q (Iw (.lst (T.dats ts)) (.int k)):=by
 cases t with
 |int i=>
  cases u with
  |int j=>exact .inl ⟨i,j,rfl,rfl,h⟩
  |_=>exact absurd h hb
 |lst a ts=>
  cases u with
  |int k=>exact .inr ⟨a,ts,k,rfl,rfl,h⟩
  |_=>exact absurd h hb
 |_=>exact absurd h hb
theorem S5{B:Addr->Prop}{H H2:Hp}{ja jb ka kb:Nat}{t u:T}{o:B2}{σ:St}{Q:VK}(r:Rs p B H H2 ja ka t)(r':Rs p B H H2 jb kb u)(ha:ja<=1)(hb:jb<=1)(h:Lg p EX σ (b2 o t.dat u.dat) H (KE p B H 0 1 Q)):Rz o t.val u.val H2 Q:=by
 have sc:∀w:T,w.sc=true->Rs p B H H2 0 1 w:=fun w hw=>Rs.scal r.same hw
 cases o with
 |add=>
  rcases Pk (Q:=fun r=>Lg p EX σ r H _) id h with⟨i,j,rfl,rfl,h⟩|⟨x,y,rfl,rfl,h⟩|⟨a,ts,b,us,rfl,rfl,h⟩
  ·exact .inl ⟨_,_,rfl,rfl,h (.int _) H2 rfl (sc _ rfl)⟩
  ·obtain⟨hl,h⟩:=h.guard
   exact .inr (.inr ⟨_,_,rfl,rfl,hl,h (.str _) H2 rfl (sc _ rfl)⟩)
  ·skip
   obtain⟨hl,h⟩:=h.guard
   ·refine .inr (.inl ⟨a,b,_,_,rfl,rfl,r.ok.1,r'.ok.1,?_,fun q hq=>?_⟩)
    ·rw[aac,aac,<- Aj,<- Aj];exact hl
    ·rw[<- aap]
     refine h (.lst q (ts++us)) _ (by simp[T.dat,T.dats_map]) (DR r.same (T.oks_iff.mpr fun w hw=>?_) (fun c m=>?_) hq)
     ·rcases aah.mp hw with hw|hw
      ·exact T.oks_iff.mp r.ok.2 w hw
      ·exact T.oks_iff.mp r'.ok.2 w hw
     ·rw[T.rests_append,aah]at m
      rcases m with m|m
      ·exact r.elems ha c m
      ·exact r'.elems hb c m
 |sub=>
  obtain⟨i,j,rfl,rfl,h⟩:=BL (Q:=fun r=>Lg p EX σ r H _) id h
  exact⟨_,_,rfl,rfl,h (.int _) H2 rfl (sc _ rfl)⟩
 |mul=>
  rcases Pl (Q:=fun r=>Lg p EX σ r H _) id h with⟨i,j,rfl,rfl,h⟩|⟨a,ts,k,rfl,rfl,h⟩
  ·by_cases c:(-(2^64)<i/\i<2^64)\/(-(2^64)<j/\j<2^64)
   ·have h:Lg p EX σ (if(-(2^64)<i/\i<2^64)\/(-(2^64)<j/\j<2^64) then Res.ok (D.int (i*j)) else if i.natAbs<2^400/\j.natAbs<2^400 then .ok (.int (i*j)) else .bad) H _:=h
    rw[if_pos c]at h
    exact .inl ⟨_,_,rfl,rfl,.inl c,h (.int _) H2 rfl (sc _ rfl)⟩
   ·have h:Lg p EX σ (if(-(2^64)<i/\i<2^64)\/(-(2^64)<j/\j<2^64) then Res.ok (D.int (i*j)) else if i.natAbs<2^400/\j.natAbs<2^400 then .ok (.int (i*j)) else .bad) H _:=h
    rw[if_neg c]at h
    obtain⟨hl,h⟩:=h.guard
    exact .inl ⟨_,_,rfl,rfl,.inr hl,h (.int _) H2 rfl (sc _ rfl)⟩
  ·skip
   obtain⟨⟨h1,h2,h3⟩,h⟩:=h.guard
   ·refine .inr ⟨a,k,_,rfl,rfl,r.ok.1,h1,h2,?_,fun q hq=>?_⟩
    ·rw[aac,<- Aj];exact h3
    ·have e:(aak k.toNat (ts.map T.val)).flatten=(aak k.toNat ts).flatten.map T.val:=by
      rw[List.map_flatten,abj]
     rw[e]
     refine h (.lst q (aak k.toNat ts).flatten) _ ?_ (DR r.same (T.oks_iff.mpr fun w hw=>?_) (fun c m=>?_) hq)
     ·rw[T.dat,T.dats_map,T.dats_map,List.map_flatten,abj]
     ·obtain⟨l,hl,hw⟩:=List.mem_flatten.mp hw
      rw[(abX.mp hl).2]at hw
      exact T.oks_iff.mp r.ok.2 w hw
     ·obtain⟨w,hw,m⟩:=T.mem_rests.mp m
      obtain⟨l,hl,hw⟩:=List.mem_flatten.mp hw
      rw[(abX.mp hl).2]at hw
      exact r.elems ha c (T.mem_rests.mpr ⟨w,hw,m⟩)
 |fdiv=>
  obtain⟨i,j,rfl,rfl,h⟩:=BL (Q:=fun r=>Lg p EX σ r H _) id h
  obtain⟨hl,h⟩:=h.guard
  exact⟨_,_,rfl,rfl,hl,h (.int _) H2 rfl (sc _ rfl)⟩
 |mod=>
  obtain⟨i,j,rfl,rfl,h⟩:=BL (Q:=fun r=>Lg p EX σ r H _) id h
  obtain⟨hl,h⟩:=h.guard
  exact⟨_,_,rfl,rfl,hl,h (.int _) H2 rfl (sc _ rfl)⟩
 |pow=>
  obtain⟨i,j,rfl,rfl,h⟩:=BL (Q:=fun r=>Lg p EX σ r H _) id h
  obtain⟨hl,h⟩:=h.guard
  exact⟨_,_,rfl,rfl,hl,h (.int _) H2 rfl (sc _ rfl)⟩
theorem Pm{a b:Expr}{x y:E}{o:B2}(ha:PE X a (lE p EX tn x))(hb:PE X b (lE p EX tn y)):PE X (.BinOp a (KU o) b pos) (lE p EX tn (.bin o x y)):=by
 refine PE.mono (SQ (Pj o) ha hb) fun σ H Q h=>?_
 obtain⟨τ,rfl,hF,j,k,hj,h⟩:=h
 simp only[jk]at hj
 obtain⟨⟨j1,k1⟩,h1,hj⟩:=bS hj
 obtain⟨⟨j2,k2⟩,h2,hj⟩:=bS hj
 obtain⟨hc,e⟩:=D0 hj
 cases e
 simp only[aag,decide_eq_true_eq]at hc
 simp only[ev]at h
 refine l1 hF h1 h fun d t H1 ht R h=>l2 hF R.same h2 h fun d' t' H2 ht' R' h=>?_
 subst ht ht'
 exact S5 (R.fwd R'.same) (R'.back R.same) hc.1 hc.2 h
end
mutual
noncomputable def D.py:D->PyData
 |.non=>.none
 |.bl b=>.bool b
 |.int i=>.int i
 |.str x=>.str x
 |.tup ds=>.tuple (D.pys ds)
 |.lst ds=>.list (D.pys ds)
 |.exn _=>.none
 |.dic _ _=>.none
 |.dit _ _=>.none
noncomputable def D.pys:List D->List PyData
 |[]=>[]
 |d::r=>d.py::D.pys r
end
theorem D.ind{P:D->Prop}(h0:P .non)(h1:∀b,P (.bl b))(h2:∀i,P (.int i))(h3:∀x,P (.str x))(h4:∀ts,(∀t∈ts,P t)->P (.tup ts))(h5:∀ts,(∀t∈ts,P t)->P (.lst ts))(h6:∀c,P (.exn c))(h7:∀ks ts,P (.dic ks ts))(h8:∀ks ts,P (.dit ks ts)):∀t,P t
 |.non=>h0
 |.bl b=>h1 b
 |.int i=>h2 i
 |.str x=>h3 x
 |.tup ts=>h4 ts fun t h=>D.ind h0 h1 h2 h3 h4 h5 h6 h7 h8 t
 |.lst ts=>h5 ts fun t h=>D.ind h0 h1 h2 h3 h4 h5 h6 h7 h8 t
 |.exn c=>h6 c
 |.dic ks ts=>h7 ks ts
 |.dit ks ts=>h8 ks ts
termination_by t=>t
theorem Bd{n c:Nat}:D.shp n (.exn c)=false:=by cases n<;>rfl
theorem Be{n:Nat}{ks:List (Sum Int Str)}{ds:List D}:D.shp n (.dic ks ds)=false:=by cases n<;>rfl
theorem Bf{n:Nat}{ks:List (List (Sum Int Str))}{ds:List D}:D.shp n (.dit ks ds)=false:=by cases n<;>rfl
theorem DI{n:Nat}{ds:List D}(h:D.shp n (.tup ds)=true):∃m,n=m+1/\∀d∈ds,D.shp m d=true:=by
 cases n with
 |zero=>cases h
 |succ m=>exact⟨m,rfl,by simpa[D.shp] using h⟩
theorem DJ{n:Nat}{ds:List D}(h:D.shp n (.lst ds)=true):∃m,n=m+1/\∀d∈ds,D.shp m d=true:=by
 cases n with
 |zero=>cases h
 |succ m=>exact⟨m,rfl,by simpa[D.shp] using h⟩
theorem Iy:∀(d e:D)(n m:Nat),d.shp n=true->e.shp m=true->d.eqv e=d.py.eqv e.py:=by
 have lists:∀(ds:List D),(∀d∈ds,∀(e:D)(n m:Nat),d.shp n=true->e.shp m=true->d.eqv e=d.py.eqv e.py)->∀(es:List D)(n m:Nat),(∀d∈ds,d.shp n=true)->(∀e∈es,e.shp m=true)->D.eqvs ds es=PyData.eqvAll (D.pys ds) (D.pys es):=by
  intro ds
  induction ds with
  |nil=>intro _ es n m _ _;cases es<;>simp[D.eqvs,D.pys,PyData.eqvAll]
  |cons d r ih=>
   intro h es n m h1 h2
   cases es with
   |nil=>simp[D.eqvs,D.pys,PyData.eqvAll]
   |cons e s=>
    simp only[D.eqvs,D.pys,PyData.eqvAll]
    rw[h d (aab ..) e n m (h1 d (aab ..)) (h2 e (aab ..)),ih (fun x hx=>h x (aaa _ hx)) s n m (fun x hx=>h1 x (aaa _ hx)) (fun x hx=>h2 x (aaa _ hx))]
 refine D.ind ?_ ?_ ?_ ?_ ?_ ?_ ?_ ?_ ?_
 ·intro e n m _ h;cases e<;>simp[D.eqv,D.py,PyData.eqv,Bd,Be,Bf]at h ⊢
 ·intro b e n m _ h;cases e<;>simp[D.eqv,D.py,PyData.eqv,Bd,Be,Bf]at h ⊢
 ·intro b e n m _ h;cases e<;>simp[D.eqv,D.py,PyData.eqv,Bd,Be,Bf]at h ⊢
 ·intro b e n m _ h;cases e<;>simp[D.eqv,D.py,PyData.eqv,Bd,Be,Bf]at h ⊢
 ·intro ds ih e n m h1 h2
  cases e with
  |tup es=>
   obtain⟨n',_,h1⟩:=DI h1
   obtain⟨m',_,h2⟩:=DI h2
   simp only[D.eqv,D.py,PyData.eqv]
   exact lists ds ih es n' m' h1 h2
  |exn c=>rw[Bd]at h2;cases h2
  |dic ks cs=>rw[Be]at h2;cases h2
  |dit ks cs=>rw[Bf]at h2;cases h2
  |_=>simp[D.eqv,D.py,PyData.eqv]
 ·intro ds ih e n m h1 h2
  cases e with
  |lst es=>
   obtain⟨n',_,h1⟩:=DJ h1
   obtain⟨m',_,h2⟩:=DJ h2
   simp only[D.eqv,D.py,PyData.eqv]
   exact lists ds ih es n' m' h1 h2
  |exn c=>rw[Bd]at h2;cases h2
  |dic ks cs=>rw[Be]at h2;cases h2
  |dit ks cs=>rw[Bf]at h2;cases h2
  |_=>simp[D.eqv,D.py,PyData.eqv]
 ·intro c e n m h;rw[Bd]at h;cases h
 ·intro ks cs e n m h;rw[Be]at h;cases h
 ·intro ks cs e n m h;rw[Bf]at h;cases h
theorem GY:∀(d:D)(n:Nat),d.shp n=true->d.py.canLay0=true/\d.py.depth<=n:=by
 have lists:∀(ds:List D),(∀d∈ds,∀(n:Nat),d.shp n=true->d.py.canLay0=true/\d.py.depth<=n)->∀n,(∀d∈ds,d.shp n=true)->PyData.canLayAll0 (D.pys ds)=true/\PyData.depthAll (D.pys ds)<=n:=by
  intro ds
  induction ds with
  |nil=>intro _ n _;simp[D.pys,PyData.canLayAll0,PyData.depthAll]
  |cons d r ih=>
   intro h n h1
   obtain⟨a1,a2⟩:=h d (aab ..) n (h1 d (aab ..))
   obtain⟨b1,b2⟩:=ih (fun x hx=>h x (aaa _ hx)) n (fun x hx=>h1 x (aaa _ hx))
   simp only[D.pys,PyData.canLayAll0,PyData.depthAll,a1,b1,acO,true_and]
   omega
 refine D.ind ?_ ?_ ?_ ?_ ?_ ?_ ?_ ?_ ?_
 ·intro n h;simp[D.py,PyData.canLay0,PyData.depth]
 ·intro b n h;simp[D.py,PyData.canLay0,PyData.depth]
 ·intro b n h;simp[D.py,PyData.canLay0,PyData.depth]
 ·intro x n h
  simp only[D.py,PyData.canLay0,PyData.depth,aau,and_true]
  cases n<;>exact h
 ·intro ds ih n h
  obtain⟨m,rfl,h'⟩:=DI h
  have:=lists ds ih m h'
  simp only[D.py,PyData.canLay0,PyData.depth]
  exact⟨this.1,by omega⟩
 ·intro ds ih n h
  obtain⟨m,rfl,h'⟩:=DJ h
  have:=lists ds ih m h'
  simp only[D.py,PyData.canLay0,PyData.depth]
  exact⟨this.1,by omega⟩
 ·intro c n h;rw[Bd]at h;cases h
 ·intro ks cs n h;rw[Be]at h;cases h
 ·intro ks cs n h;rw[Bf]at h;cases h
theorem D1{d:D}(h:d.shp 8=true):SeqAt.shaped d.py=true:=by
 obtain⟨h1,h2⟩:=GY d 8 h
 unfold SeqAt.shaped
 rw[h1,ack]
 exact decide_eq_true (by omega)
theorem Ev{p:Px}{H:Hp}:∀(t:T)(n:Nat),t.Ok p H->t.dat.shp n=true->RD p.K H t.val t.dat.py:=by
 have lists:∀(ts:List T),(∀t∈ts,∀n,t.Ok p H->t.dat.shp n=true->RD p.K H t.val t.dat.py)->∀n,T.Oks p H ts->(∀d∈T.dats ts,d.shp n=true)->RDs p.K H (ts.map T.val) (D.pys (T.dats ts)):=by
  intro ts
  induction ts with
  |nil=>intro _ _ _ _;exact .nil
  |cons t r ih=>
   intro h n ok hs
   exact .cons (h t (aab ..) n ok.1 (hs _ (by simp[T.dats]))) (ih (fun u hu=>h u (aaa _ hu)) n ok.2 (fun d hd=>hs d (by simp[T.dats,hd])))
 refine T.ind (fun _ _ _=>.non) (fun b _ _ _=>.bl b) (fun i _ _ _=>.int i) (fun x _ _ _=>.str x) (fun a ts ih n ok h=>?_) (fun a ts ih n ok h=>?_) (fun a c n ok h=>?_) (fun a ks ts _ n ok h=>by rw[T.dat,Be]at h;cases h) (fun a ks ts _ n ok h=>by rw[T.dat,Bf]at h;cases h)
 ·obtain⟨m,rfl,h'⟩:=DI h
  exact .tup (SqT.of ok.1) (lists ts ih m ok.2 h')
 ·obtain⟨m,rfl,h'⟩:=DJ h
  exact .lst (.inl ok.1) (lists ts ih m ok.2 h')
 ·rw[T.dat,Bd]at h;cases h
theorem KW{H:Hp}{a:Addr}{xs ys:List V}(h:Rd H a (.lst xs))(h':Rd H a (.lst ys)):xs=ys:=by
 rcases h with h|⟨o,h⟩<;>rcases h' with h'|⟨o',h'⟩<;>rw[h]at h'<;>cases h'<;>rfl
theorem T.det{p:Px}{H:Hp}:∀(t u:T)(n m:Nat),t.Ok p H->u.Ok p H->t.dat.shp n=true->u.dat.shp m=true->t.val=u.val->t.dat=u.dat:=by
 have lists:∀(ts:List T),(∀t∈ts,∀(u:T)(n m:Nat),t.Ok p H->u.Ok p H->t.dat.shp n=true->u.dat.shp m=true->t.val=u.val->t.dat=u.dat)->∀(us:List T)(n m:Nat),T.Oks p H ts->T.Oks p H us->
   (∀d∈T.dats ts,d.shp n=true)->(∀d∈T.dats us,d.shp m=true)->ts.map T.val=us.map T.val->T.dats ts=T.dats us:=by
  intro ts
  induction ts with
  |nil=>intro _ us n m _ _ _ _ e;cases us with|nil=>rfl|cons u r=>simp at e
  |cons t r ih=>
   intro h us n m o1 o2 s1 s2 e
   cases us with
   |nil=>simp at e
   |cons u q=>
    simp only[aaG,List.cons.injEq]at e
    simp only[T.dats,List.cons.injEq]
    exact⟨h t (aab ..) u n m o1.1 o2.1 (s1 _ (by simp[T.dats])) (s2 _ (by simp[T.dats])) e.1,ih (fun x hx=>h x (aaa _ hx)) q n m o1.2 o2.2 (fun d hd=>s1 d (by simp[T.dats,hd])) (fun d hd=>s2 d (by simp[T.dats,hd])) e.2⟩
 refine T.ind ?_ ?_ ?_ ?_ ?_ ?_ ?_ ?_ ?_
 ·intro u n m _ _ _ _ e;cases u<;>first|rfl|cases e
 ·intro b u n m _ _ _ _ e;cases u<;>first|(cases e;rfl)|cases e
 ·intro b u n m _ _ _ _ e;cases u<;>first|(cases e;rfl)|cases e
 ·intro b u n m _ _ _ _ e;cases u<;>first|(cases e;rfl)|cases e
 ·intro a ts ih u n m o1 o2 s1 s2 e
  cases u with
  |tup b us=>
   cases e
   obtain⟨n',_,s1⟩:=DI s1
   obtain⟨m',_,s2⟩:=DI s2
   have q:=o1.1.symm.trans o2.1
   simp only[Option.some.injEq,HO.tup.injEq]at q
   simp only[T.dat,lists ts ih us n' m' o1.2 o2.2 s1 s2 q]
  |lst b us=>
   cases e
   have h1:=o1.1
   rcases o2.1 with h|⟨_,h⟩<;>rw[h]at h1<;>cases h1
  |exn b c=>rw[T.dat,Bd]at s2;cases s2
  |dic b ks cs=>rw[T.dat,Be]at s2;cases s2
  |dit b ks cs=>rw[T.dat,Bf]at s2;cases s2
  |_=>cases e
 ·intro a ts ih u n m o1 o2 s1 s2 e
  cases u with
  |tup b us=>
   cases e
   have h1:=o2.1
   rcases o1.1 with h|⟨_,h⟩<;>rw[h]at h1<;>cases h1
  |lst b us=>
   cases e
   obtain⟨n',_,s1⟩:=DJ s1
   obtain⟨m',_,s2⟩:=DJ s2
   have q:=KW o1.1 o2.1
   simp only[T.dat,lists ts ih us n' m' o1.2 o2.2 s1 s2 q]
  |exn b c=>rw[T.dat,Bd]at s2;cases s2
  |dic b ks cs=>rw[T.dat,Be]at s2;cases s2
  |dit b ks cs=>rw[T.dat,Bf]at s2;cases s2
  |_=>cases e
 ·intro a c u n m _ _ h;rw[T.dat,Bd]at h;cases h
 ·intro a ks ts _ u n m _ _ h;rw[T.dat,Be]at h;cases h
 ·intro a ks ts _ u n m _ _ h;rw[T.dat,Bf]at h;cases h
section
variable{p:Px}{EX:EXT}{tn:List Nat}{X:Cx}{pos:Pos}
theorem Fl(hK:X.K=p.K){pins:List (Addr×Obj)}{σ:St}{H:Hp}{s:Shared}{A:Around}(I:Inv X pins σ H s){t u:T}{x y:Value}(hu:A.units+60<cLine)(o1:t.Ok p H)(o2:u.Ok p H)(s1:t.dat.shp 8=true)(s2:u.dat.shp 8=true)(r1:RelV t.val x)(r2:RelV u.val y) :
  SeqAt.EqAt A s x y (t.dat.eqv u.dat):=by
 intro prog w E Q hQ
 obtain⟨as,q1⟩:=RD.reads (X:=X) I (hK▸Ev t 8 o1 s1) r1
 obtain⟨bs,q2⟩:=RD.reads (X:=X) I (hK▸Ev u 8 o2 s2) r2
 obtain⟨c1,d1⟩:=GY _ 8 s1
 obtain⟨c2,d2⟩:=GY _ 8 s2
 refine PySem.SeqAt.eqBoolOverData prog w A E s x y _ _ as bs Q q1 q2 c1 c2 (by omega) ?_
 rw[<- Iy _ _ 8 8 s1 s2]
 exact hQ
abbrev eqS(us:List T)(t:T)(y:Value):Bool:=@decide (∃u∈us,RelV u.val y/\u.dat.eqv t.dat=true) (Classical.propDecidable _)
theorem E1{H:Hp}{us:List T}{t u:T}{y:Value}(ok:T.Oks p H us)(sh:∀w∈us,w.dat.shp 8=true)(hu:u∈us)(r:RelV u.val y):eqS us t y=u.dat.eqv t.dat:=by
 unfold eqS
 cases e:u.dat.eqv t.dat with
 |true=>exact @decide_eq_true _ (Classical.propDecidable _) ⟨u,hu,r,e⟩
 |false=>
  refine @decide_eq_false _ (Classical.propDecidable _) ?_
  rintro⟨w,hw,r',e'⟩
  rw[T.det w u 8 8 (T.oks_iff.mp ok w hw) (T.oks_iff.mp ok u hu) (sh w hw) (sh u hu) (RelV.inj r' r)]at e'
  rw[e]at e';cases e'
theorem Eh{H:Hp}{us:List T}{t:T}(ok:T.Oks p H us)(sh:∀w∈us,w.dat.shp 8=true):∀(ws:List T)(ys:List Value),(∀w∈ws,w∈us)->Vals (ws.map T.val) ys->ys.any (eqS us t)=ws.any fun w=>w.dat.eqv t.dat
 |[],_,_,.nil=>rfl
 |w::ws,_,h,.cons r q=>by
  rw[abT,abT,E1 ok sh (h w (aab ..)) r,Eh ok sh ws _ (fun x hx=>h x (aaa _ hx)) q]
theorem DS:∀{ws:List T}{ys:List Value}{y:Value},Vals (ws.map T.val) ys->y∈ys->∃w∈ws,RelV w.val y
 |[],_,y,.nil,h=>nomatch h
 |w::ws,_,y,.cons r q,h=>by
  rcases aaf.mp h with rfl|h
  ·exact⟨w,aab ..,r⟩
  ·obtain⟨w',hw,r'⟩:=DS q h
   exact⟨w',aaa _ hw,r'⟩
abbrev KY(p:Px)(neg:Bool):R2:=fun x y H Q=>∃(t:T)(a:Addr)(us:List T),x=t.val/\y=.ref a/\(Rd H a (.lst (us.map T.val))\/H a=some (.tup (us.map T.val)))/\T.Oks p H us/\t.Ok p H/\t.dat.shp 8=true/\(∀w∈us,w.dat.shp 8=true) /\
 Q (.bl (if neg then !(us.any fun w=>w.dat.eqv t.dat) else us.any fun w=>w.dat.eqv t.dat)) H
theorem RA(hK:X.K=p.K)(hu:X.A.units+64<cLine):OpR X (compareOp .In) (KY p false):=by
 intro pins s σ H x y v u Q I rx ry h
 obtain⟨t,a,us,rfl,rfl,hq,ok,o1,s1,s2,q⟩:=h
 cases ry
 rcases hq with hq|hq
 ·obtain⟨its,r,pl,hz⟩:=I.list (.inl hq)
  refine SeqAt.in_listAt (eqS us t) pl.isList (fun w hw=>?_) ⟨.bl _,H,I,rfl,?_⟩
  ·obtain⟨w',hw',r'⟩:=DS r (by simpa using hw)
   rw[E1 ok s2 hw' r']
   exact Fl hK I (by show X.A.units+1+60<cLine;omega) (T.oks_iff.mp ok w' hw') o1 (s2 w' hw') s1 r' rx
  ·rw[show its.toArray.any (eqS us t)=its.any (eqS us t) by simp,Eh ok s2 us its (fun _ h=>h) r]
   exact q
 ·obtain⟨its,r,pl,hz⟩:=I.tuple (SqT.of hq)
  refine SeqAt.in_tupleAt (eqS us t) pl (fun w hw=>?_) ⟨.bl _,H,I,rfl,?_⟩
  ·obtain⟨w',hw',r'⟩:=DS r (by simpa using hw)
   rw[E1 ok s2 hw' r']
   exact Fl hK I (by show X.A.units+1+60<cLine;omega) (T.oks_iff.mp ok w' hw') o1 (s2 w' hw') s1 r' rx
  ·rw[show its.toArray.any (eqS us t)=its.any (eqS us t) by simp,Eh ok s2 us its (fun _ h=>h) r]
   exact q
theorem Mk(hK:X.K=p.K)(hu:X.A.units+64<cLine):OpR X (compareOp .NotIn) (KY p true):=by
 intro pins s σ H x y v u Q I rx ry h
 obtain⟨t,a,us,rfl,rfl,hq,ok,o1,s1,s2,q⟩:=h
 cases ry
 rcases hq with hq|hq
 ·obtain⟨its,r,pl,hz⟩:=I.list (.inl hq)
  refine SeqAt.notIn_listAt (eqS us t) pl.isList (fun w hw=>?_) ⟨.bl _,H,I,rfl,?_⟩
  ·obtain⟨w',hw',r'⟩:=DS r (by simpa using hw)
   rw[E1 ok s2 hw' r']
   exact Fl hK I (by show X.A.units+1+60<cLine;omega) (T.oks_iff.mp ok w' hw') o1 (s2 w' hw') s1 r' rx
  ·rw[show its.toArray.any (eqS us t)=its.any (eqS us t) by simp,Eh ok s2 us its (fun _ h=>h) r]
   exact q
 ·obtain⟨its,r,pl,hz⟩:=I.tuple (SqT.of hq)
  refine SeqAt.notIn_tupleAt (eqS us t) pl (fun w hw=>?_) ⟨.bl _,H,I,rfl,?_⟩
  ·obtain⟨w',hw',r'⟩:=DS r (by simpa using hw)
   rw[E1 ok s2 hw' r']
   exact Fl hK I (by show X.A.units+1+60<cLine;omega) (T.oks_iff.mp ok w' hw') o1 (s2 w' hw') s1 r' rx
  ·rw[show its.toArray.any (eqS us t)=its.any (eqS us t) by simp,Eh ok s2 us its (fun _ h=>h) r]
   exact q
end
section
variable{p:Px}{EX:EXT}{tn:List Nat}{X:Cx}{pos:Pos}
abbrev A3:C2->CmpOp
 |.lt=>.Lt
 |.le=>.LtE
 |.gt=>.Gt
 |.ge=>.GtE
 |.eq=>.Eq
 |.ne=>.NotEq
 |.inn=>.In
 |.nin=>.NotIn
abbrev RB(p:Px)(neg:Bool):R2:=fun x y H Q=>∃t u:T,x=t.val/\y=u.val/\t.Ok p H/\u.Ok p H/\t.dat.shp 8=true/\u.dat.shp 8=true/\Q (.bl (if neg then !t.dat.eqv u.dat else t.dat.eqv u.dat)) H
abbrev Iz(p:Px):C2->R2
 |.lt=>rI0 fun i j=>.bl (decide (i<j))
 |.le=>rI0 fun i j=>.bl (decide (i<=j))
 |.gt=>rI0 fun i j=>.bl (decide (j<i))
 |.ge=>rI0 fun i j=>.bl (decide (j<=i))
 |.eq=>RB p false
 |.ne=>RB p true
 |.inn=>KY p false
 |.nin=>KY p true
theorem DL(hK:X.K=p.K)(hu:X.A.units+64<cLine):∀o:C2,OpR X (compareOp (A3 o)) (Iz p o)
 |.lt=>SS
 |.le=>ST
 |.gt=>SU
 |.ge=>SV
 |.eq=>by
  intro pins s σ H x y v u Q I rx ry h
  obtain⟨t,w,rfl,rfl,o1,o2,s1,s2,q⟩:=h
  refine Rp hu pins s σ H _ _ v u Q I rx ry ⟨_,_,hK▸Ev t 8 o1 s1,hK▸Ev w 8 o2 s2,D1 s1,D1 s2,?_⟩
  rw[<- Iy _ _ 8 8 s1 s2];exact q
 |.ne=>by
  intro pins s σ H x y v u Q I rx ry h
  obtain⟨t,w,rfl,rfl,o1,o2,s1,s2,q⟩:=h
  refine Rq hu pins s σ H _ _ v u Q I rx ry ⟨_,_,hK▸Ev t 8 o1 s1,hK▸Ev w 8 o2 s2,D1 s1,D1 s2,?_⟩
  rw[<- Iy _ _ 8 8 s1 s2];exact q
 |.inn=>RA hK hu
 |.nin=>Mk hK hu
theorem IA{t:T}:∀us:List T,((T.dats us).any fun y=>D.eqv y t.dat)=us.any fun w=>w.dat.eqv t.dat
 |[]=>rfl
 |u::r=>by simp[T.dats,IA r]
theorem C9{f:D->Bool}:∀{us:List T},(T.dats us).all f=true->∀w∈us,f w.dat=true
 |[],_,w,h=>nomatch h
 |u::r,h,w,hw=>by
  simp only[T.dats,aaU,aag]at h
  rcases aaf.mp hw with rfl|hw
  ·exact h.1
  ·exact C9 h.2 w hw
theorem HX{β:Type}{t:T}{us:List T}{σ:St}{H:Hp}{f:Bool->Res β}{Kc:β->Prop}(h:Lg p EX σ ((inD t.dat (T.dats us)).bind f) H Kc):t.dat.shp 8=true/\(∀w∈us,w.dat.shp 8=true)/\Lg p EX σ (f (us.any fun w=>w.dat.eqv t.dat)) H Kc:=by
 have h:=h.bind
 unfold inD at h
 obtain⟨hc,h⟩:=h.guard
 rw[aag]at hc
 rw[IA]at h
 exact⟨hc.1,fun w hw=>C9 hc.2 w hw,h⟩
theorem KZ{B:Addr->Prop}{H H2:Hp}{ja jb ka kb:Nat}{t u:T}{o:C2}{σ:St}{Kc:D->Prop}{Q:VK}(r:Rs p B H H2 ja ka t)(r':Rs p B H H2 jb kb u)(h:Lg p EX σ (c2 o t.dat u.dat) H Kc)(hQ:∀b,Kc (.bl b)->Q (.bl b) H2):Iz p o t.val u.val H2 Q:=by
 cases o with
 |lt=>
  obtain⟨i,j,rfl,rfl,h⟩:=BL (Q:=fun r=>Lg p EX σ r H Kc) id h
  exact⟨_,_,rfl,rfl,hQ _ h⟩
 |le=>
  obtain⟨i,j,rfl,rfl,h⟩:=BL (Q:=fun r=>Lg p EX σ r H Kc) id h
  exact⟨_,_,rfl,rfl,hQ _ h⟩
 |gt=>
  obtain⟨i,j,rfl,rfl,h⟩:=BL (Q:=fun r=>Lg p EX σ r H Kc) id h
  exact⟨_,_,rfl,rfl,hQ _ h⟩
 |ge=>
  obtain⟨i,j,rfl,rfl,h⟩:=BL (Q:=fun r=>Lg p EX σ r H Kc) id h
  exact⟨_,_,rfl,rfl,hQ _ h⟩
 |eq=>
  simp only[c2]at h
  obtain⟨hc,h⟩:=h.guard
  rw[aag]at hc
  exact⟨t,u,rfl,rfl,r.ok,r'.ok,hc.1,hc.2,hQ _ h⟩
 |ne=>
  simp only[c2]at h
  obtain⟨hc,h⟩:=h.guard
  rw[aag]at hc
  exact⟨t,u,rfl,rfl,r.ok,r'.ok,hc.1,hc.2,hQ _ h⟩
 |inn=>
  cases u<;>first|exact nE h|skip
  ·obtain⟨s1,s2,h⟩:=HX h
   exact⟨t,_,_,rfl,rfl,.inr r'.ok.1,r'.ok.2,r.ok,s1,s2,hQ _ h⟩
  ·obtain⟨s1,s2,h⟩:=HX h
   exact⟨t,_,_,rfl,rfl,.inl r'.ok.1,r'.ok.2,r.ok,s1,s2,hQ _ h⟩
 |nin=>
  cases u<;>first|exact nE h|skip
  ·obtain⟨s1,s2,h⟩:=HX h
   exact⟨t,_,_,rfl,rfl,.inr r'.ok.1,r'.ok.2,r.ok,s1,s2,hQ _ h⟩
  ·obtain⟨s1,s2,h⟩:=HX h
   exact⟨t,_,_,rfl,rfl,.inl r'.ok.1,r'.ok.2,r.ok,s1,s2,hQ _ h⟩
theorem KE.bl{B:Addr->Prop}{H H2:Hp}{j k:Nat}{Q:VK}{b:Bool}(s:Same H H2)(h:KE p B H j k Q (.bl b)):Q (.bl b) H2:=h (.bl b) H2 rfl (Rs.scal s rfl)
theorem RC{x y:E}{o:C2}{τ:Ft}{H:Hp}{Kc:D->Prop}{Q:VK}{j1 k1 j2 k2:Nat}(hF:Fok p tn τ H)(h1:jk tn x=some (j1,k1))(h2:jk tn y=some (j2,k2))
  (h:Lg p EX (vτ τ) ((ev x (dτ τ)).bind fun a=>(ev y (dτ τ)).bind fun b=>c2 o a b) H Kc) (hQ:∀b H2,Same H H2->Kc (.bl b)->Q (.bl b) H2):tOp (Iz p o) (lE p EX tn x) (lE p EX tn y) (vτ τ) H Q:=by
 refine l1 hF h1 h fun d t H1 ht R h=>l2 hF R.same h2 h fun d' t' H2 ht' R' h=>?_
 subst ht ht'
 exact KZ (R.fwd R'.same) (R'.back R.same) h fun b hb=>hQ b H2 (R.same.trans R'.same) hb
theorem Pn(hK:X.K=p.K)(hu:X.A.units+64<cLine){a b:Expr}{x y:E}{o:C2}(ha:PE X a (lE p EX tn x))(hb:PE X b (lE p EX tn y))(hm:behindInMarks (A3 o) b=false):PE X (.Compare a [A3 o] [b] pos) (lE p EX tn (.cmp o x y)):=by
 refine PE.mono (OX (DL hK hu o) ha hb hm) fun σ H Q h=>?_
 obtain⟨τ,rfl,hF,j,k,hj,h⟩:=h
 simp only[jk]at hj
 obtain⟨⟨j1,k1⟩,h1,hj⟩:=bS hj
 obtain⟨⟨j2,k2⟩,h2,hj⟩:=bS hj
 simp only[ev]at h
 exact RC hF h1 h2 h fun b H2 s hb=>KE.bl s hb
theorem NF(hK:X.K=p.K)(hu:X.A.units+64<cLine){a b:Expr}{x y:E}{o:C2}(ha:PE X a (lE p EX tn x))(hb:PE X b (lE p EX tn y))(hm:behindInMarks (A3 o) b=false):PT X (.Compare a [A3 o] [b] pos) (lT p EX tn (.cmp o x y)):=by
 refine PT.mono (OY (DL hK hu o) ha hb hm) fun σ H Q h=>?_
 obtain⟨τ,rfl,hF,hj,h⟩:=h
 obtain⟨q,hj⟩:=aaC.mp hj
 simp only[jk]at hj
 obtain⟨⟨j1,k1⟩,h1,hj⟩:=bS hj
 obtain⟨⟨j2,k2⟩,h2,hj⟩:=bS hj
 simp only[tv,ev]at h
 exact RC hF h1 h2 h.bind fun b H2 s hb=>⟨b,rfl,hb H2 s⟩
theorem Ml{x y z:E}{o o':C2}{τ:Ft}{H:Hp}{Kc:D->Prop}{Q:VK}{j1 k1 j2 k2 j3 k3:Nat}(hF:Fok p tn τ H)(h1:jk tn x=some (j1,k1))(h2:jk tn y=some (j2,k2))(h3:jk tn z=some (j3,k3))
  (h:Lg p EX (vτ τ) (ev (.chain o o' x y z) (dτ τ)) H Kc) (hQ:∀b H2,Same H H2->Kc (.bl b)->Q (.bl b) H2):Ii (Iz p o) (Iz p o') (lE p EX tn x) (lE p EX tn y) (lE p EX tn z) (vτ τ) H Q:=by
 simp only[ev]at h
 refine l1 hF h1 h fun d t H1 ht R h=>l2 hF R.same h2 h fun d' t' H2 ht' R' h=>?_
 subst ht ht'
 refine KZ (R.fwd R'.same) (R'.back R.same) h.bind fun b h=>⟨b,rfl,?_⟩
 have s2:=R.same.trans R'.same
 cases b with
 |false=>exact hQ false H2 s2 h
 |true=>
  refine l2 hF s2 h3 h fun d'' t'' H3 ht'' R'' h=>?_
  subst ht''
  exact KZ ((R'.back R.same).fwd R''.same) (R''.back s2) h fun b hb=>hQ b H3 (s2.trans R''.same) hb
theorem Mm(hK:X.K=p.K)(hu:X.A.units+64<cLine){a b c:Expr}{x y z:E}{o o':C2}(ha:PE X a (lE p EX tn x))(hb:PE X b (lE p EX tn y))(hc:PE X c (lE p EX tn z))(hm:lastMarks [A3 o,A3 o'] [b,c]=false):PE X (.Compare a [A3 o,A3 o'] [b,c] pos) (lE p EX tn (.chain o o' x y z)):=by
 refine PE.mono (Nn (DL hK hu o) (DL hK hu o') ha hb hc hm) fun σ H Q h=>?_
 obtain⟨τ,rfl,hF,j,k,hj,h⟩:=h
 simp only[jk]at hj
 obtain⟨⟨j1,k1⟩,h1,hj⟩:=bS hj
 obtain⟨⟨j2,k2⟩,h2,hj⟩:=bS hj
 obtain⟨⟨j3,k3⟩,h3,hj⟩:=bS hj
 exact Ml hF h1 h2 h3 h fun b H2 s hb=>KE.bl s hb
theorem K0(hK:X.K=p.K)(hu:X.A.units+64<cLine){a b c:Expr}{x y z:E}{o o':C2}(ha:PE X a (lE p EX tn x))(hb:PE X b (lE p EX tn y))(hc:PE X c (lE p EX tn z))(hm:lastMarks [A3 o,A3 o'] [b,c]=false):PT X (.Compare a [A3 o,A3 o'] [b,c] pos) (lT p EX tn (.chain o o' x y z)):=by
 refine PT.mono (No (DL hK hu o) (DL hK hu o') ha hb hc hm) fun σ H Q h=>?_
 obtain⟨τ,rfl,hF,hj,h⟩:=h
 obtain⟨q,hj⟩:=aaC.mp hj
 simp only[jk]at hj
 obtain⟨⟨j1,k1⟩,h1,hj⟩:=bS hj
 obtain⟨⟨j2,k2⟩,h2,hj⟩:=bS hj
 obtain⟨⟨j3,k3⟩,h3,hj⟩:=bS hj
 unfold tv at h
 exact Ml hF h1 h2 h3 h.bind fun b H2 s hb=>⟨b,rfl,hb H2 s⟩
theorem Po{t:T}:decide (t.val=V.non)=(match t.dat with|.non=>true|_=>false):=by
 cases t<;>rfl
theorem RE{x:E}{n:Bool}{τ:Ft}{H:Hp}{Kc:D->Prop}{Q:VK}{j1 k1:Nat}(hF:Fok p tn τ H)(h1:jk tn x=some (j1,k1))(h:Lg p EX (vτ τ) (ev (.isN n x) (dτ τ)) H Kc)(hQ:∀b H2,Same H H2->Kc (.bl b)->Q (.bl b) H2) :
  lE p EX tn x (vτ τ) H fun v H1=>Q (.bl (if n then !decide (v=.non) else decide (v=.non))) H1:=by
 simp only[ev]at h
 refine l1 hF h1 h fun d t H1 ht R h=>?_
 subst ht
 refine hQ _ H1 R.same ?_
 have h:Kc (.bl (match t.dat with|.non=>!n|_=>n)):=h
 rw[Po]
 cases n<;>cases t<;>exact h
theorem Pp{a:Expr}{x:E}{n:Bool}{j pos'}(ha:PE X a (lE p EX tn x)):PE X (.Compare a [if n then .IsNot else .Is] [.Constant .none j pos'] pos) (lE p EX tn (.isN n x)):=by
 have key:∀σ H Q,lE p EX tn (.isN n x) σ H Q->lE p EX tn x σ H fun v H1=>Q (.bl (if n then !decide (v=.non) else decide (v=.non))) H1:=by
  intro σ H Q h
  obtain⟨τ,rfl,hF,j,k,hj,h⟩:=h
  simp only[jk]at hj
  obtain⟨⟨j1,k1⟩,h1,hj⟩:=bS hj
  exact RE hF h1 h fun b H2 s hb=>KE.bl s hb
 cases n with
 |true=>exact PE.mono (LJ (JR ha)) fun σ H Q h=>key σ H Q h
 |false=>exact PE.mono (LJ (LH ha)) fun σ H Q h=>key σ H Q h
theorem NG{a:Expr}{x:E}{n:Bool}{j pos'}(ha:PE X a (lE p EX tn x)):PT X (.Compare a [if n then .IsNot else .Is] [.Constant .none j pos'] pos) (lT p EX tn (.isN n x)):=by
 have key:∀σ H Q,lT p EX tn (.isN n x) σ H Q->lE p EX tn x σ H fun v H1=>∃c,V.bl (if n then !decide (v=.non) else decide (v=.non))=V.bl c/\Q c H1:=by
  intro σ H Q h
  obtain⟨τ,rfl,hF,hj,h⟩:=h
  obtain⟨q,hj⟩:=aaC.mp hj
  simp only[jk]at hj
  obtain⟨⟨j1,k1⟩,h1,hj⟩:=bS hj
  unfold tv at h
  exact RE (Q:=fun v H1=>∃c,v=V.bl c/\Q c H1) hF h1 h.bind fun b H2 s hb=>⟨b,rfl,hb H2 s⟩
 cases n with
 |true=>exact PT.mono (LK (JR ha)) fun σ H Q h=>key σ H Q h
 |false=>exact PT.mono (LK (LH ha)) fun σ H Q h=>key σ H Q h
end
section
variable{p:Px}{EX:EXT}{tn:List Nat}{X:Cx}{pos:Pos}
theorem Pq{a:Expr}{x:E}(ha:PE X a (lE p EX tn x)):PE X (.UnaryOp .USub a pos) (lE p EX tn (.neg x)):=by
 refine PE.mono (SR Ra ha) fun σ H Q h=>?_
 obtain⟨τ,rfl,hF,j,k,hj,h⟩:=h
 simp only[jk]at hj
 obtain⟨⟨j1,k1⟩,h1,hj⟩:=bS hj
 simp only[ev]at h
 refine l1 hF h1 h fun d t H1 ht R h=>?_
 subst ht
 cases t<;>simp only[T.dat]at h
 all_goals first|exact nE h|exact⟨_,rfl,h (.int _) H1 rfl (Rs.scal R.same rfl)⟩
theorem Pr{a:Expr}{x:E}(ha:PE X a (lE p EX tn x)):PE X (.UnaryOp .Not a pos) (lE p EX tn (.not x)):=by
 refine PE.mono (QX ha) fun σ H Q h=>?_
 obtain⟨τ,rfl,hF,j,k,hj,h⟩:=h
 simp only[jk]at hj
 obtain⟨⟨j1,k1⟩,h1,hj⟩:=bS hj
 simp only[ev]at h
 refine l1 hF h1 h fun d t H1 ht R h=>?_
 subst ht
 cases t<;>simp only[T.dat]at h
 all_goals first|exact nE h|exact⟨_,rfl,h (.bl _) H1 rfl (Rs.scal R.same rfl)⟩
theorem NH{H:Hp}{t:T}{σ:St}{H0:Hp}{Kc:Bool->Prop}(hK:X.K=p.K)(ok:t.Ok p H)(h:Lg p EX σ (Cq t.dat) H0 Kc):∃b,Np X.K t.val H b/\Kc b:=by
 cases t<;>simp only[T.dat,Cq]at h
 ·exact⟨false,rfl,h⟩
 ·exact⟨_,rfl,h⟩
 ·exact⟨_,rfl,h⟩
 ·exact nE h
 ·rename_i a ts
  refine⟨_,.inr (.inl ⟨_,SqT.of ok.1,rfl⟩),?_⟩
  have h:Kc (!(T.dats ts).isEmpty):=h
  cases ts<;>exact h
 ·rename_i a ts
  refine⟨_,.inl ⟨_,.inl ok.1,rfl⟩,?_⟩
  have h:Kc (!(T.dats ts).isEmpty):=h
  cases ts<;>exact h
 ·exact nE h
 ·exact nE h
 ·exact nE h
abbrev IB:Expr->Bool
 |.UnaryOp .Not _ _=>false
 |.BoolOp _ _ _=>false
 |.IfExp _ _ _ _=>false
 |.Compare _ _ _ _=>false
 |_=>true
theorem Mn{a:Expr}{env:Env}(h:IB a=true):∀whole,isTrue a env whole=(do let v <- whole;standAt a.pos;holding [v] (truthy v)):=by
 intro whole
 cases a with
 |UnaryOp o x q=>cases o<;>first|rfl|cases h
 |BoolOp _ _ _=>cases h
 |IfExp _ _ _ _=>cases h
 |Compare _ _ _ _=>cases h
 |_=>rfl
theorem K1(hK:X.K=p.K){a:Expr}{x:E}(ha:PE X a (lE p EX tn x))(hp:IB a=true):PT X a (lT p EX tn x):=by
 refine PT.mono (Nq ha (Mn hp)) fun σ H Q h=>?_
 obtain⟨τ,rfl,hF,hj,h⟩:=h
 obtain⟨⟨j,k⟩,hj⟩:=aaC.mp hj
 refine l1 hF hj h fun d t H1 ht R h=>?_
 subst ht
 obtain⟨b,tb,hb⟩:=NH (X:=X) hK R.ok h
 exact⟨b,tb,hb H1 R.same⟩
theorem NI{a:Expr}{x:E}(ha:PT X a (lT p EX tn x)):PT X (.UnaryOp .Not a pos) (lT p EX tn (.not x)):=by
 refine PT.mono (QU ha) fun σ H Q h=>?_
 obtain⟨τ,rfl,hF,hj,h⟩:=h
 obtain⟨q,hj⟩:=aaC.mp hj
 simp only[jk]at hj
 obtain⟨⟨j1,k1⟩,h1,hj⟩:=bS hj
 refine⟨τ,rfl,hF,by rw[h1];rfl,?_⟩
 unfold tv at h ⊢
 simp only[ev]at h
 cases q:ev x (dτ τ) with
 |ok d=>
  rw[q]at h
  simp only[Res.bind_ok]at h ⊢
  cases d<;>simp only[Res.bind_bad]at h
  all_goals first|exact nE h|exact h
 |exc c=>rw[q]at h;exact h
 |bad=>rw[q]at h;exact h
theorem RF{a:Expr}{x:E}{k0:Bool}(ha:PE X a (lE p EX tn x)):PE X (.BoolOp (if k0 then .And else .Or) [a] pos) (lE p EX tn (.bo k0 (.cons x .nil))):=by
 refine PE.mono (QV ha) fun σ H Q h=>?_
 obtain⟨τ,rfl,hF,j,k,hj,h⟩:=h
 simp only[jk,jks]at hj
 obtain⟨⟨j1,k1⟩,h1,hj⟩:=bS hj
 simp only[ev,evBo]at h
 have hj:=Option.some.inj hj
 refine⟨τ,rfl,hF,j1,k1,h1,h.mono (Same.refl _) fun d _ hd t H' ht R=>hd t H' ht (R.le ?_ ?_)⟩
 ·simp at hj;omega
 ·simp at hj
  obtain⟨h1,h2⟩:=hj
  rw[<- h2]
  split
  ·exact abl ..
  ·exact aau _
theorem Ps{a b:Expr}{rest:List Expr}{x y:E}{r:Es}{k0:Bool}(ha:PE X a (lE p EX tn x))(hb:PE X (.BoolOp (if k0 then .And else .Or) (b::rest) pos) (lE p EX tn (.bo k0 (.cons y r)))) :
  PE X (.BoolOp (if k0 then .And else .Or) (a::b::rest) pos) (lE p EX tn (.bo k0 (.cons x (.cons y r)))):=by
 have key:∀σ H Q,lE p EX tn (.bo k0 (.cons x (.cons y r))) σ H Q->lE p EX tn x σ H fun v H1=>∃c,v=.bl c/\if c=k0 then lE p EX tn (.bo k0 (.cons y r)) σ H1 Q else Q (.bl c) H1:=by
  intro σ H Q h
  obtain⟨τ,rfl,hF,j,k,hj,h⟩:=h
  simp only[jk,jks]at hj
  obtain⟨⟨j1,k1⟩,h1,hj⟩:=bS hj
  obtain⟨⟨j2,k2⟩,h2,hj⟩:=bS hj
  have hj:=Option.some.inj hj
  simp only[Prod.mk.injEq]at hj
  simp only[ev,evBo]at h
  refine l1 hF h1 h fun d t H1 ht R h=>?_
  subst ht
  cases t<;>simp only[T.dat]at h
  all_goals first|exact nE h|skip
  rename_i c
  refine⟨c,rfl,?_⟩
  by_cases z:c=k0
  ·rw[if_pos z]at h ⊢
   refine⟨τ,rfl,hF.same R.same,j2,k2,by simp only[jk,jks];exact h2,?_⟩
   simp only[ev]
   refine h.mono R.same fun d _ hd t H' ht R'=>hd t H' ht ((R'.back R.same).le (by omega) ?_)
   rw[<- hj.2]
   split
   ·exact abM ..
   ·exact aau _
  ·rw[if_neg z]at h ⊢
   exact h (.bl c) H1 rfl (Rs.scal R.same rfl)
 cases k0 with
 |true=>
  refine PE.mono (QW ha hb) fun σ H Q h=>?_
  refine(show ∀(A B:VK),(∀v H,A v H->B v H)->lE p EX tn x σ H A->lE p EX tn x σ H B from ?_) _ _ ?_ (key σ H Q h)
  ·rintro A B m ⟨τ,e,hF,j,k,hj,h⟩
   exact⟨τ,e,hF,j,k,hj,h.mono (Same.refl _) fun d _ hd t H' ht R=>m _ _ (hd t H' ht R)⟩
  ·rintro v H1 ⟨c,rfl,h⟩
   exact⟨c,rfl,by cases c<;>simpa using h⟩
 |false=>
  refine PE.mono (SK ha hb) fun σ H Q h=>?_
  refine(show ∀(A B:VK),(∀v H,A v H->B v H)->lE p EX tn x σ H A->lE p EX tn x σ H B from ?_) _ _ ?_ (key σ H Q h)
  ·rintro A B m ⟨τ,e,hF,j,k,hj,h⟩
   exact⟨τ,e,hF,j,k,hj,h.mono (Same.refl _) fun d _ hd t H' ht R=>m _ _ (hd t H' ht R)⟩
  ·rintro v H1 ⟨c,rfl,h⟩
   exact⟨c,rfl,by cases c<;>simpa using h⟩
theorem Pv{a:Expr}{x:E}{k0:Bool}(ha:PT X a (lT p EX tn x)):PW X (.BoolOp (if k0 then .And else .Or) [a] pos) (lT p EX tn (.bo k0 (.cons x .nil))):=by
 have key:∀σ H Q,lT p EX tn (.bo k0 (.cons x .nil)) σ H Q->lT p EX tn x σ H Q:=by
  rintro σ H Q ⟨τ,rfl,hF,hj,h⟩
  refine⟨τ,rfl,hF,?_,by simpa only[tv,ev,evBo] using h⟩
  obtain⟨q,hj⟩:=aaC.mp hj
  simp only[jk,jks]at hj
  obtain⟨⟨j1,k1⟩,h1,hj⟩:=bS hj
  rw[h1];rfl
 cases k0 with
 |true=>exact fun wh pins s σ H Q I h=>OU ha wh pins s σ H Q I (key σ H Q h)
 |false=>exact fun wh pins s σ H Q I h=>QS ha wh pins s σ H Q I (key σ H Q h)
theorem NJ{a b:Expr}{rest:List Expr}{x y:E}{r:Es}{k0:Bool}(ha:PT X a (lT p EX tn x))(hb:PW X (.BoolOp (if k0 then .And else .Or) (b::rest) pos) (lT p EX tn (.bo k0 (.cons y r)))) :
  PW X (.BoolOp (if k0 then .And else .Or) (a::b::rest) pos) (lT p EX tn (.bo k0 (.cons x (.cons y r)))):=by
 have key:∀σ H Q,lT p EX tn (.bo k0 (.cons x (.cons y r))) σ H Q->lT p EX tn x σ H fun c H1=>if c=k0 then lT p EX tn (.bo k0 (.cons y r)) σ H1 Q else Q c H1:=by
  rintro σ H Q ⟨τ,rfl,hF,hj,h⟩
  obtain⟨q,hj⟩:=aaC.mp hj
  simp only[jk,jks]at hj
  obtain⟨⟨j1,k1⟩,h1,hj⟩:=bS hj
  obtain⟨⟨j2,k2⟩,h2,hj⟩:=bS hj
  refine⟨τ,rfl,hF,by rw[h1];rfl,?_⟩
  simp only[tv,ev,evBo]at h ⊢
  cases q:ev x (dτ τ) with
  |ok d=>
   rw[q]at h
   simp only[Res.bind_ok]at h ⊢
   cases d<;>simp only[Res.bind_bad]at h
   all_goals first|exact nE h|skip
   rename_i c
   show ∀H',Same H H'->if c=k0 then _ else _
   intro H' s
   by_cases z:c=k0
   ·rw[if_pos z]at h ⊢
    refine⟨τ,rfl,hF.same s,by simp only[jk,jks];rw[h2];rfl,?_⟩
    simp only[tv,ev]
    exact h.mono s fun b _ hb H2 s2=>hb H2 (s.trans s2)
   ·rw[if_neg z]at h ⊢
    exact h H' s
  |exc c=>rw[q]at h;exact h
  |bad=>rw[q]at h;exact h
 have mon:∀(σ:St)(H:Hp)(A B:Bool->Hp->Prop),(∀v H,A v H->B v H)->lT p EX tn x σ H A->lT p EX tn x σ H B:=by
  rintro σ H A B m ⟨τ,e,hF,hj,h⟩
  exact⟨τ,e,hF,hj,h.mono (Same.refl _) fun b _ hb H' s=>m _ _ (hb H' s)⟩
 cases k0 with
 |true=>exact fun wh pins s σ H Q I h=>QT ha hb wh pins s σ H Q I (mon _ _ _ _ (fun c H1 h=>by cases c<;>simpa using h) (key σ H Q h))
 |false=>exact fun wh pins s σ H Q I h=>SH ha hb wh pins s σ H Q I (mon _ _ _ _ (fun c H1 h=>by cases c<;>simpa using h) (key σ H Q h))
end
section
variable{p:Px}{EX:EXT}{tn:List Nat}{X:Cx}{pos:Pos}
theorem IC(n:Nat)(i:Int):L2.ixN n i=ixN n i:=rfl
theorem K3{ts:List T}{i:Int}{σ:St}{H:Hp}{Kc:D->Prop}(h:Lg p EX σ (atD (T.dats ts) i) H Kc):∃t∈ts,atI (ts.map T.val) i=some t.val/\Kc t.dat:=by
 unfold atD at h
 rw[Aj]at h
 cases q:ixN ts.length i with
 |none=>rw[q]at h;exact nE h
 |some j=>
  rw[q]at h
  simp only[aa7]at h
  rw[T.dats_map,aal]at h
  cases e:ts[j]? with
  |none=>rw[e]at h;exact nE h
  |some t=>
   rw[e]at h
   refine⟨t,aae e,?_,h⟩
   unfold atI
   rw[aac,IC,q]
   show(ts.map T.val)[j]?=_
   rw[aal,e];rfl
theorem Rs.sub{B:Addr->Prop}{H H1:Hp}{j k j':Nat}{t u:T}(r:Rs p B H H1 j k t)(ok:u.Ok p H1)(h:∀a∈u.rest j',a∈t.rest j):Rs p B H H1 j' 0 u :=
 ⟨r.same,ok,fun a m=>r.src a (h a m),by rw[T.adr_zero];simp,T.nd_zero u⟩
abbrev CN:Expr->Bool
 |.Slice _ _ _ _=>false
 |_=>true
theorem E3{b:Expr}(h:CN b=true):JU b:=by
 intro o i
 cases b<;>first|rfl|cases h
theorem RG(hK:X.K=p.K):IxR X (fun x y H Q=>Rj X.K x y H Q\/Rk X.K x y H Q):=GS.or L4
theorem RH(hK:X.K=p.K){a b:Expr}{x y:E}(ha:PE X a (lE p EX tn x))(hb:PE X b (lE p EX tn y))(hp:CN b=true):PE X (.Subscript a b pos) (lE p EX tn (.ix x y)):=by
 refine PE.mono (KM (RG hK) ha hb (E3 hp)) fun σ H Q h=>?_
 obtain⟨τ,rfl,hF,j,k,hj,h⟩:=h
 simp only[jk]at hj
 obtain⟨⟨j1,k1⟩,h1,hj⟩:=bS hj
 obtain⟨⟨j2,k2⟩,h2,hj⟩:=bS hj
 obtain⟨hc,e⟩:=D0 hj
 cases e
 have hc:=of_decide_eq_true hc
 subst hc
 simp only[ev]at h
 refine l1 hF h1 h fun d t H1 ht R h=>l2 hF R.same h2 h fun d' t' H2 ht' R' h=>?_
 subst ht ht'
 have R:=R.fwd R'.same
 cases t<;>cases t'<;>simp only[T.dat,ixD]at h
 all_goals first|exact nE h|skip
 ·obtain⟨u,hu,e,h⟩:=K3 h
  exact .inr ⟨_,_,_,_,rfl,rfl,SqT.of R.ok.1,e,h u H2 rfl (R.sub (T.oks_iff.mp R.ok.2 u hu) fun b m=>T.mem_rests.mpr ⟨u,hu,m⟩)⟩
 ·obtain⟨u,hu,e,h⟩:=K3 h
  exact .inl ⟨_,_,_,_,rfl,rfl,.inl R.ok.1,e,h u H2 rfl (R.sub (T.oks_iff.mp R.ok.2 u hu) fun b m=>aaa _ (T.mem_rests.mpr ⟨u,hu,m⟩))⟩
theorem Pw{a b:Expr}{x y:E}(ha:PE X a (lE p EX tn x))(hb:PE X b (lE p EX tn y))(hp:CN b=true):PE X (.Subscript a b pos) (lE p EX tn (.ixL x y)):=by
 refine PE.mono (KM GS ha hb (E3 hp)) fun σ H Q h=>?_
 obtain⟨τ,rfl,hF,j,k,hj,h⟩:=h
 simp only[jk]at hj
 obtain⟨⟨j1,k1⟩,h1,hj⟩:=bS hj
 obtain⟨⟨j2,k2⟩,h2,hj⟩:=bS hj
 have hj:=Option.some.inj hj
 simp only[Prod.mk.injEq]at hj
 obtain⟨rfl,rfl⟩:=hj
 simp only[ev]at h
 refine l1 hF h1 h fun d t H1 ht R h=>l2 hF R.same h2 h fun d' t' H2 ht' R' h=>?_
 subst ht ht'
 have R:=R.fwd R'.same
 cases t<;>cases t'<;>simp only[T.dat,DP]at h
 all_goals first|exact nE h|skip
 obtain⟨u,hu,e,h⟩:=K3 h
 refine⟨_,_,_,_,rfl,rfl,.inl R.ok.1,e,h u H2 rfl (R.sub (T.oks_iff.mp R.ok.2 u hu) fun b m=>?_)⟩
 cases j1 with
 |zero=>exact aaa _ (T.mem_rests.mpr ⟨u,hu,m⟩)
 |succ j1=>exact T.mem_rests.mpr ⟨u,hu,m⟩
theorem Gm(n d:Nat)(o:Option Int):HT.sIx n d o=sIx n d o:=by
 cases o with
 |none=>rfl
 |some v=>exact acP.mp (by rw[<- HT.clip_eq v n d];unfold sIx;simp only;split<;>omega)
theorem J0{α β:Type}(f:α->β)(xs:List α)(lo hi:Option Int):(cut xs lo hi).map f=cut (xs.map f) lo hi:=by
 unfold cut;rw[acQ,acR,aac]
theorem J1(ts:List T)(lo hi:Option Int):EU (ts.map T.val) lo hi=(cut ts lo hi).map T.val:=by
 unfold EU cut
 rw[acQ,acR,aac,Gm,Gm]
theorem Fm{α:Type}{xs:List α}{lo hi:Option Int}{x:α}(h:x∈cut xs lo hi):x∈xs:=acJ (acK h)
abbrev lO(p:Px)(EX:EXT)(tn:List Nat)(e:E):TO:=fun σ H Q=>∃τ,σ=vτ τ/\Fok p tn τ H/\(jk tn e).isSome=true/\Lg p EX σ (B6 e.isCN (ev e (dτ τ))) H fun o=>∀H',Same H H'->Q o H'
theorem Hz:PO X none (lO p EX tn .cN):=by
 intro pins s σ H Q I h
 obtain⟨τ,rfl,hF,hj,h⟩:=h
 exact O1 pins s _ H Q I (h H (Same.refl _))
theorem HA{e:Expr}{x:E}(he:PE X e (lE p EX tn x))(hx:x.isCN=false):PO X (some e) (lO p EX tn x):=by
 intro pins s σ H Q I h
 obtain⟨τ,rfl,hF,hj,h⟩:=h
 obtain⟨⟨j,k⟩,hj⟩:=aaC.mp hj
 unfold B6 at h
 rw[hx,if_neg (by decide)]at h
 refine O2 he pins s _ H Q I (l1 hF hj h fun d t H1 ht R h=>?_)
 subst ht
 cases t<;>simp only[T.dat,CJ]at h
 all_goals first|exact nE h|exact⟨_,rfl,h H1 R.same⟩
theorem J2:∀{ts:List T},(T.dats ts).all D.scal=true->∀t∈ts,t.sc=true
 |[],_,t,h=>nomatch h
 |u::r,h,t,ht=>by
  simp only[T.dats,aaU,aag]at h
  rcases aaf.mp ht with rfl|ht
  ·cases t<;>first|rfl|cases h.1
  ·exact J2 h.2 t ht
theorem Py{t:T}{j:Nat}(h:t.sc=true):t.rest j=[]:=by cases t<;>first|rfl|cases h
theorem RI{t:T}{j:Nat}(h:t.sc=true):t.adr j=[]:=by cases t<;>first|rfl|cases h
theorem ID{ts:List T}{j:Nat}(h:∀t∈ts,t.sc=true):T.rests ts j=[]:=by
 refine aaK.mpr fun b hb=>?_
 obtain⟨t,ht,q⟩:=T.mem_rests.mp hb
 rw[Py (h t ht)]at q;cases q
theorem J3{ts:List T}{j:Nat}(h:∀t∈ts,t.sc=true):T.adrs ts j=[]:=by
 refine aaK.mpr fun b hb=>?_
 obtain⟨t,ht,q⟩:=T.mem_adrs.mp hb
 rw[RI (h t ht)]at q;cases q
theorem NK{B:Addr->Prop}{H H1:Hp}{j k:Nat}{a:Addr}{ts:List T}(s:Same H H1)(ok:(T.tup a ts).Ok p H1)(h:∀t∈ts,t.sc=true):Rs p B H H1 j k (.tup a ts) :=
 ⟨s,ok,by simp only[T.rest];rw[ID h];simp,by simp only[T.adr];rw[J3 h];simp,by unfold T.Nd;simp only[T.adr,T.rest];rw[ID h,J3 h];simp⟩
theorem Pz{a:Expr}{lo hi:Option Expr}{p2:Pos}{x y z:E}(ha:PE X a (lE p EX tn x))(hl:PO X lo (lO p EX tn y))(hh:PO X hi (lO p EX tn z)):PE X (.Subscript a (.Slice lo hi none p2) pos) (lE p EX tn (.slc x y z)):=by
 refine PE.mono (Nt (O5.or Ri) ha hl hh) fun σ H Q h=>?_
 obtain⟨τ,rfl,hF,j,k,hj,h⟩:=h
 simp only[jk]at hj
 obtain⟨⟨j1,k1⟩,h1,hj⟩:=bS hj
 obtain⟨q2,h2,hj⟩:=bS hj
 obtain⟨q3,h3,hj⟩:=bS hj
 obtain⟨hc,e⟩:=D0 hj
 cases e
 have hc:=of_decide_eq_true hc
 simp only[ev]at h
 refine l1 hF h1 h fun d t H1 ht R h=>?_
 subst ht
 refine⟨τ,rfl,hF.same R.same,by rw[h2];rfl,h.bind.mono R.same fun l _ h H2 s2=>?_⟩
 refine⟨τ,rfl,hF.same (R.same.trans s2),by rw[h3];rfl,h.bind.mono (R.same.trans s2) fun u _ h H3 s3=>?_⟩
 have R:=R.fwd (s2.trans s3)
 cases t with
 |tup b ts=>
  simp only[T.dat,Ds]at h
  obtain⟨⟨g1,g2⟩,h⟩:=h.guard
  refine .inr ⟨b,_,rfl,SqT.of R.ok.1,?_,fun q hq=>?_⟩
  ·rw[aac,Gm,Gm,<- Aj];exact g2
  ·rw[J1]
   have sn:=Same.new (o:=.tup ((cut ts l u).map T.val)) hq
   refine h (.tup q (cut ts l u)) _ (by simp only[T.dat,T.dats_map,J0]) (NK (R.same.trans sn) ⟨AO,T.oks_iff.mpr fun w hw=>((T.oks_iff.mp R.ok.2 w (Fm hw))).same sn⟩ fun w hw=>J2 g1 w (Fm hw))
 |lst b ts=>
  simp only[T.dat,Ds]at h
  refine .inl ⟨b,_,rfl,.inl R.ok.1,fun q hq=>?_⟩
  rw[J1]
  refine h (.lst q (cut ts l u)) _ (by simp only[T.dat,T.dats_map,J0]) (DR R.same (T.oks_iff.mpr fun w hw=>T.oks_iff.mp R.ok.2 w (Fm hw)) (fun c m=>?_) hq)
  obtain⟨w,hw,m⟩:=T.mem_rests.mp m
  exact R.elems hc c (T.mem_rests.mpr ⟨w,Fm hw,m⟩)
 |_=>exact nE h
end
abbrev spF(p:Px)(F:Fn):Sp:=fun vs H Q E=>∃ts:List T,vs=ts.map T.val/\T.Oks p H ts/\ts.length=F.ar/\match F.den (T.dats ts) with
 |.ok d=>∀t H',t.dat=d->Rs p (fun a=>a∈T.rests ts 0) H H' 0 F.dep t->Q t.val H'
 |.exc c=>p.has (kcX c)=true->∀H',Same H H'->XW p E c H'
 |.bad=>False
abbrev RJ(p:Px)(F:Fn):Sp0:=fun vs H Q=>∃ts:List T,vs=ts.map T.val/\T.Oks p H ts/\ts.length=F.ar/\match F.den (T.dats ts) with
 |.ok d=>∀t H',t.dat=d->Rs p (fun a=>a∈T.rests ts 0) H H' 0 F.dep t->Q t.val H'
 |_=>False
abbrev OF(p:Px)(X:Cx)(F:Fn):Prop:=∃ps:List Str,ps.length=F.ar/\Ru X.prog X.w X.K X.mg X.base F.name F.lv ps (RJ p F)
abbrev K4(p:Px)(X:Cx)(F:Fn):Prop:=∃ps:List Str,ps.length=F.ar/\Has X.prog X.w X.K X.mg X.base F.name F.lv ps (spF p F)
abbrev spM(p:Px)(F:Fn):Sp:=fun vs H Q _=>∃(t:T)(ts:List T),vs=t.val::ts.map T.val/\t.Ok p H/\T.Oks p H ts/\ts.length+1=F.ar/\t.Nd 2/\(∀b∈t.adr 2,(Mu H b)/\b∉T.rests ts 0)/\∃d,F.den (t.dat::T.dats ts)=.ok d /\
 ∀(t':T)(H':Hp),t'.dat=d->t'.val=t.val->t'.Ok p H'->t'.Nd 2->(∀b u,H b=some u->b∉t.adr 2->H' b=some u)->(∀b∈t'.adr 2,(b∈t.adr 2\/H b=none)/\Mu H' b)->Q .non H'
abbrev RK(p:Px)(X:Cx)(F:Fn):Prop:=∃ps:List Str,ps.length=F.ar/\Has X.prog X.w X.K X.mg X.base F.name F.lv ps (spM p F)
abbrev spN(p:Px)(F:Fn):Sp:=fun vs H Q _=>∃(ts:List T)(a:Addr)(us:List T),vs=ts.map T.val/\T.Oks p H ts/\ts.length=F.ar/\ts[F.dep-1000]?=some (.lst a us)/\(∀(i:Nat)(u:T),i≠F.dep-1000->ts[i]?=some u->a∉u.rest 0)/\a∉T.rests us 0/\(Mu H a) /\
 ∃(b:Bool)(ds:List D),F.den (T.dats ts)=.ok (.tup [.bl b,.lst ds])/\∀(us':List T)(H':Hp),T.dats us'=ds->(T.lst a us').Ok p H'->(Mu H' a)->(∀c u,H c=some u->c≠a->H' c=some u)->Q (.bl b) H'
abbrev RL(p:Px)(X:Cx)(F:Fn):Prop:=∃ps:List Str,ps.length=F.ar/\Has X.prog X.w X.K X.mg X.base F.name F.lv ps (spN p F)
theorem Dn:∀(m:Nat)(t:T)(k:Nat),t.dat.flat m k=true->t.rest k=[]
 |0,t,k,h=>by simp[D.flat]at h
 |m+1,t,k,h=>by
  cases t with
  |tup a ts=>
   simp only[T.dat,D.flat]at h
   simp only[T.rest]
   refine aaK.mpr fun b hb=>?_
   obtain⟨t,ht,q⟩:=T.mem_rests.mp hb
   rw[Dn m t k (C9 h t ht)]at q;cases q
  |lst a ts=>
   cases k with
   |zero=>simp[T.dat,D.flat]at h
   |succ k=>
    simp only[T.dat,D.flat]at h
    simp only[T.rest]
    refine aaK.mpr fun b hb=>?_
    obtain⟨t,ht,q⟩:=T.mem_rests.mp hb
    rw[Dn m t k (C9 h t ht)]at q;cases q
  |dic a ks ts=>
   cases k with
   |zero=>simp[T.dat,D.flat]at h
   |succ k=>
    simp only[T.dat,D.flat]at h
    simp only[T.rest]
    refine aaK.mpr fun b hb=>?_
    obtain⟨t,ht,q⟩:=T.mem_rests.mp hb
    rw[Dn m t k (C9 h t ht)]at q;cases q
  |dit a ks ts=>
   cases k with
   |zero=>simp[T.dat,D.flat]at h
   |succ k=>
    simp only[T.dat,D.flat]at h
    simp only[T.rest]
    refine aaK.mpr fun b hb=>?_
    obtain⟨t,ht,q⟩:=T.mem_rests.mp hb
    rw[Dn m t k (C9 h t ht)]at q;cases q
  |_=>rfl
abbrev Ah:Expr->Bool
 |.Starred _ _=>false
 |_=>true
theorem Am{e:Expr}{es:List Expr}{env:Env}(h:Ah e=true):starEach (e::es) env=(false,eval e env)::starEach es env:=by
 cases e<;>first|rfl|cases h
theorem AS{pos:Pos}{env:Env}:∀{es:List Expr},es.all Ah=true->(backTo pos (starEach es env)).any (·.1)=false
 |[],_=>rfl
 |e::es,h=>by
  rw[aaU,aag]at h
  rw[Am h.1]
  have ih:=AS (pos:=pos) (env:=env) h.2
  unfold backTo at ih ⊢
  rw[aaG,abT,ih];rfl
section
variable{p:Px}{EX:EXT}{tn:List Nat}{X:Cx}{pos np:Pos}
theorem NL{F:Fn}{e:Expr}{es:List Expr}{x:E}{xs:Es}(hx:EZ (CXe X.prog X.w) X EX)(hF:K4 p X F)(hr:Room F.lv X.A)(hg:Gl X F.name)(hdb:(F.name==("__debug__" : Str))=false)(ha:PA X (e::es) (lEs p EX tn (.cons x xs)))(hst:(e::es).all Ah=true)(hl:(Es.cons x xs).len=F.ar) :
  PE X (.Call (.Name F.name np) (e::es) [] pos) (lE p EX tn (.call F (.cons x xs))):=by
 obtain⟨ps,hps,hF⟩:=hF
 rw[aaU,aag]at hst
 refine PE.mono (OB hF hr hg hx ha hdb (Am hst.1) (AS hst.2)) fun σ H Q h=>?_
 obtain⟨τ,rfl,hFr,j,k,hj,h⟩:=h
 simp only[jk]at hj
 obtain⟨⟨j1,k1⟩,h1,hj⟩:=bS hj
 obtain⟨hc,e⟩:=D0 hj
 cases e
 have hc:j1=0:=of_decide_eq_true hc
 subst hc
 simp only[ev]at h
 refine⟨τ,rfl,hFr,0,k1,h1,h.bind.mono (Same.refl _) fun ds e hd ts H1 hts R=>?_⟩
 show spF p F (ts.map T.val++[]) H1 Q (EX (vτ τ))
 rw[aaO]
 refine⟨ts,rfl,R.ok,?_,?_⟩
 ·rw[<- Aj,hts,B7 _ _ _ e,hl]
 ·rw[hts]
  cases q:F.den ds with
  |ok d=>
   rw[q]at hd
   intro t H' ht R'
   refine hd t H' ht ⟨R.same.trans R'.same,R'.ok,fun a m=>?_,fun a m=>⟨R.same.free (R'.new a m).1,(R'.new a m).2⟩,R'.nd⟩
   rcases R'.src a m with z|z
   ·exact .inl (R.same.free z)
   ·exact R.src a z
  |exc c=>
   rw[q]at hd
   exact fun hc H' s=>hd hc H' (R.same.trans s)
  |bad=>rw[q]at hd;exact hd
theorem T.adr_rest:∀(t:T){d K:Nat},t.rest d=[]->d<=K->t.adr K=t.adr d:=by
 have lists:∀(ts:List T),(∀t∈ts,∀{d K:Nat},t.rest d=[]->d<=K->t.adr K=t.adr d)->∀{d K:Nat},T.rests ts d=[]->d<=K->T.adrs ts K=T.adrs ts d:=by
  intro ts
  induction ts with
  |nil=>intro _ d K _ _;rfl
  |cons t r ih=>
   intro h d K hr hk
   simp only[T.rests,List.append_eq_nil_iff]at hr
   show t.adr K++T.adrs r K=t.adr d++T.adrs r d
   rw[h t (aab ..) hr.1 hk,ih (fun u hu=>h u (aaa _ hu)) hr.2 hk]
 refine T.ind (by intros;rfl) (by intros;rfl) (by intros;rfl) (by intros;rfl) (fun a ts ih d K h hk=>?_) (fun a ts ih d K h hk=>?_) (by intros;rfl) (fun a ks ts ih d K h hk=>?_) (fun a ks ts ih d K h hk=>?_)
 ·exact lists ts ih h hk
 ·cases d with
  |zero=>cases h
  |succ d=>
   cases K with
   |zero=>omega
   |succ K=>exact congrArg (a::·) (lists ts ih h (aaR hk))
 ·cases d with
  |zero=>cases h
  |succ d=>
   cases K with
   |zero=>omega
   |succ K=>exact congrArg (a::·) (lists ts ih h (aaR hk))
 ·cases d with
  |zero=>cases h
  |succ d=>
   cases K with
   |zero=>omega
   |succ K=>exact congrArg (a::·) (lists ts ih h (aaR hk))
theorem Mo{F:Fn}{e:Expr}{es:List Expr}{x:E}{xs:Es}(hx:EZ (CXe X.prog X.w) X EX)(hF:K4 p X F)(hr:Room F.lv X.A)(hg:Gl X F.name)(hdb:(F.name==("__debug__" : Str))=false)(ha:PA X (e::es) (lEs p EX tn (.cons x xs)))(hst:(e::es).all Ah=true)(hl:(Es.cons x xs).len=F.ar) :
  PE X (.Call (.Name F.name np) (e::es) [] pos) (lE p EX tn (.callB F (.cons x xs))):=by
 obtain⟨ps,hps,hF⟩:=hF
 rw[aaU,aag]at hst
 refine PE.mono (OB hF hr hg hx ha hdb (Am hst.1) (AS hst.2)) fun σ H Q h=>?_
 obtain⟨τ,rfl,hFr,j,k,hj,h⟩:=h
 simp only[jk]at hj
 obtain⟨⟨j1,k1⟩,h1,hj⟩:=bS hj
 have hj:=Option.some.inj hj
 simp only[Prod.mk.injEq]at hj
 obtain⟨rfl,rfl⟩:=hj
 simp only[ev]at h
 refine⟨τ,rfl,hFr,j1,k1,h1,h.bind.mono (Same.refl _) fun ds e hd ts H1 hts R=>?_⟩
 show spF p F (ts.map T.val++[]) H1 Q (EX (vτ τ))
 rw[aaO]
 refine⟨ts,rfl,R.ok,?_,?_⟩
 ·rw[<- Aj,hts,B7 _ _ _ e,hl]
 ·rw[hts]
  cases q:F.den ds with
  |ok d=>
   rw[q]at hd
   obtain⟨hf,hd⟩:=Lg.guard hd
   intro t H' ht R'
   subst ht
   have r0:=Dn 9 t F.dep hf
   have up:∀a,a∈t.rest 0->a∈t.adr F.dep:=fun a m=>by
    rcases (T.all_iff t F.dep).mp m with z|z
    ·exact z
    ·rw[r0]at z;cases z
   refine hd t H' rfl ⟨R.same.trans R'.same,R'.ok,fun a m=>.inl (R.same.free (R'.new a (up a m)).1),fun a m=>?_,?_⟩
   ·have:=R'.new a (up a ((T.all_iff t 9).mpr (.inl m)))
    exact⟨R.same.free this.1,this.2⟩
   ·by_cases c9:9<=F.dep
    ·exact T.nd_le t c9 R'.nd
    ·have e9:=T.adr_rest t r0 (show F.dep<=9 by omega)
     refine⟨by rw[e9];exact R'.nd.1,fun a m _=>?_⟩
     have:=T.rest_le t (show F.dep<=9 by omega) m
     rw[r0]at this;cases this
  |exc c=>
   rw[q]at hd
   exact fun hc H' s=>hd hc H' (R.same.trans s)
  |bad=>rw[q]at hd;exact hd
theorem DM{b:Bi}{e:Expr}{es:List Expr}{x:E}{xs:Es}{ex:Expr}{r:List V->Hp->VK->Prop}(hp:PE X ex (tCB r (lEs p EX tn (.cons x xs))))
  (hr:∀(B:Addr->Prop)(H H1:Hp)(j1 k1 j k:Nat)(ts:List T)(σ:St)(Q:VK),RsL p B H H1 j1 k1 ts->(match b with|.list=>gj (decide (j1=0)) (0,1)|_=>some (0,9))=some (j,k)->
   Lg p EX σ (biD b (T.dats ts)) H (KE p B H j k Q)->r (ts.map T.val) H1 Q):PE X ex (lE p EX tn (.bi b (.cons x xs))):=by
 refine PE.mono hp fun σ H Q h=>?_
 obtain⟨τ,rfl,hFr,j,k,hj,h⟩:=h
 simp only[jk]at hj
 obtain⟨⟨j1,k1⟩,h1,hj⟩:=bS hj
 simp only[ev]at h
 refine⟨τ,rfl,hFr,j1,k1,h1,h.bind.mono (Same.refl _) fun ds e hd ts H1 hts R=>?_⟩
 subst hts
 exact hr (Sh tn τ) H H1 j1 k1 j k ts _ Q R hj hd
theorem FJ:∀{ts:List T}{bs:List Int},CK (T.dats ts)=some bs->ts.map T.val=bs.map V.int
 |[],bs,h=>by simp[T.dats,CK]at h;subst h;rfl
 |t::r,bs,h=>by
  cases t<;>simp only[T.dats,T.dat,CK]at h
  all_goals first|cases h|skip
  obtain⟨bs',h1,rfl⟩:=aax.mp h
  simp[T.val,FJ h1]
section
variable{e:Expr}{es:List Expr}{x:E}{xs:Es}(hg:∀y:Str,y∈(["len", "min", "max", "abs", "int", "list", "tuple", "all", "any", "sum", "sorted", "isinstance", "str", "range", "enumerate", "zip", "reversed"]:List Str)->X.mg y=none)
 (ha:PA X (e::es) (lEs p EX tn (.cons x xs))) (hst:(e::es).all Ah=true)
include hg ha hst
theorem PB(hgl:Gl X "len"):PE X (.Call (.Name "len" np) (e::es) [] pos) (lE p EX tn (.bi .len (.cons x xs))):=by
 rw[aaU,aag]at hst
 refine DM (es:=es) (e:=e) (C6 Il hgl (hg _ (by simp)) PySem.boot_len ha (by decide) (by decide) (Am hst.1) (AS hst.2)) fun B H H1 j1 k1 j k ts σ Q R hj h=>?_
 rcases ts with _|⟨t,_|⟨u,r⟩⟩
 ·exact nE h
 ·cases t with
  |lst a us=>exact⟨a,_,rfl,.inl (.inl R.ok.1.1),by have:=h (.int _) H1 rfl (Rs.scal R.same rfl);rw[Aj,<- aac (f:=T.val)]at this;exact this⟩
  |tup a us=>exact⟨a,_,rfl,.inr (SqT.of R.ok.1.1),by have:=h (.int _) H1 rfl (Rs.scal R.same rfl);rw[Aj,<- aac (f:=T.val)]at this;exact this⟩
  |_=>exact nE h
 ·exact nE h
theorem PD(hgl:Gl X "int"):PE X (.Call (.Name "int" np) (e::es) [] pos) (lE p EX tn (.bi .int (.cons x xs))):=by
 rw[aaU,aag]at hst
 refine DM (es:=es) (e:=e) (ET LX hgl (hg _ (by simp)) (by decide +kernel) ha (by decide) (by decide) (Am hst.1) (AS hst.2)) fun B H H1 j1 k1 j k ts σ Q R hj h=>?_
 rcases ts with _|⟨t,_|⟨u,r⟩⟩
 ·exact nE h
 ·cases t with
  |int i=>exact .inl ⟨i,rfl,h (.int _) H1 rfl (Rs.scal R.same rfl)⟩
  |bl b=>exact .inr ⟨b,rfl,h (.int _) H1 rfl (Rs.scal R.same rfl)⟩
  |_=>exact nE h
 ·exact nE h
theorem NM(hgl:Gl X "list"):PE X (.Call (.Name "list" np) (e::es) [] pos) (lE p EX tn (.bi .list (.cons x xs))):=by
 rw[aaU,aag]at hst
 refine DM (es:=es) (e:=e) (ET Im hgl (hg _ (by simp)) (by decide +kernel) ha (by decide) (by decide) (Am hst.1) (AS hst.2)) fun B H H1 j1 k1 j k ts σ Q R hj h=>?_
 obtain⟨hc,ej⟩:=D0 hj
 cases ej
 have hc:j1=0:=of_decide_eq_true hc
 subst hc
 rcases ts with _|⟨t,_|⟨u,r⟩⟩
 ·exact nE h
 ·cases t with
  |lst a us=>exact⟨a,_,rfl,.inl (.inl R.ok.1.1),fun l hl=>h (.lst l us) _ rfl (DR R.same R.ok.1.2 (fun c m=>R.src c (by simp[T.rests,T.rest,m])) hl)⟩
  |tup a us=>exact⟨a,_,rfl,.inr (SqT.of R.ok.1.1),fun l hl=>h (.lst l us) _ rfl (DR R.same R.ok.1.2 (fun c m=>R.src c (by simp[T.rests,T.rest,m])) hl)⟩
  |_=>exact nE h
 ·exact nE h
end
end
theorem HB:∀{us:List T}{ps:List (Int×Int)},Dy (T.dats us)=some ps->∃qs:List (Addr×Int×Int),us=qs.map (fun q=>T.tup q.1 [.int q.2.1,.int q.2.2])/\ps=qs.map fun q=>(q.2.1,q.2.2)
 |[],ps,h=>by cases h;exact⟨[],rfl,rfl⟩
 |.tup a [.int x,.int y]::r,ps,h=>by
  have h:(Dy (T.dats r)).map ((x,y)::·)=some ps:=h
  obtain⟨ps',h1,rfl⟩:=aax.mp h
  obtain⟨qs,e1,e2⟩:=HB h1
  exact⟨(a,x,y)::qs,by rw[e1];rfl,by rw[e2];rfl⟩
 |.tup a []::r,ps,h=>by cases h
 |.tup a [u]::r,ps,h=>by cases u<;>cases h
 |.tup a (.int x::u::v::w)::r,ps,h=>by cases u<;>cases h
 |.tup a (.non::u::w)::r,ps,h=>by cases h
 |.tup a (.bl _::u::w)::r,ps,h=>by cases h
 |.tup a (.str _::u::w)::r,ps,h=>by cases h
 |.tup a (.tup _ _::u::w)::r,ps,h=>by cases h
 |.tup a (.lst _ _::u::w)::r,ps,h=>by cases h
 |.tup a (.exn _ _::u::w)::r,ps,h=>by cases h
 |.tup a [.int x,.non]::r,ps,h=>by cases h
 |.tup a [.int x,.bl _]::r,ps,h=>by cases h
 |.tup a [.int x,.str _]::r,ps,h=>by cases h
 |.tup a [.int x,.tup _ _]::r,ps,h=>by cases h
 |.tup a [.int x,.lst _ _]::r,ps,h=>by cases h
 |.tup a [.int x,.exn _ _]::r,ps,h=>by cases h
 |.non::r,ps,h=>by cases h
 |.bl _::r,ps,h=>by cases h
 |.int _::r,ps,h=>by cases h
 |.str _::r,ps,h=>by cases h
 |.lst _ _::r,ps,h=>by cases h
 |.exn _ _::r,ps,h=>by cases h
section
variable{p:Px}{EX:EXT}{tn:List Nat}{X:Cx}{pos np:Pos}
theorem K5{ns:List Int}{its:List Value}(h:Vals (ns.map V.int) its):∃xs:Array (Int×Tok),its.toArray=intItems xs/\ns=xs.toList.map (·.1):=by
 have hi:=KK h
 obtain⟨xs,hx⟩:=hi.allInts.items
 refine⟨xs,hx,?_⟩
 rw[<- nums_intItems,<- hx,<- hi.numsOf]
abbrev S6:List V->Hp->VK->Prop:=fun xs H Q=>∃(l:Addr)(ns:List Int)(M:Int),xs=[.ref l]/\Rd H l (.lst (ns.map V.int))/\ns.max?=some M/\Q (.int M) H
theorem Mp(hc:X.calm=true):CF X (.builtin "max") S6:=by
 intro pins s σ H xs us Q I r h
 obtain⟨l,ns,M,rfl,hS,hM,q⟩:=h
 obtain⟨u,rfl,ru⟩:=Gd r
 cases (show u=Value.ref l from ru)
 obtain⟨its,rr,pl,_⟩:=I.list (.inl hS)
 obtain⟨xs,hx,rfl⟩:=K5 rr
 have hl:=pl.isList
 rw[hx]at hl
 have hne:0<xs.size:=by
  rcases ac1 xs.size with z|z
  ·have:xs.toList=[]:=abH (by simpa using z)
   rw[this]at hM;cases hM
  ·exact z
 refine max_intList (I.ok.hd hc) hl hne fun v h' tk hv hk=>?_
 obtain⟨t,rfl⟩:=intItems_at hv
 obtain⟨h1,h2⟩:=argBest_gt (numAt xs) (xs.size-1)
 have e:M=numAt xs (argBest (fun i j=>decide (numAt xs i>numAt xs j)) (xs.size-1)):=by
  have:(xs.toList.map (·.1)).max?=some (numAt xs (argBest (fun i j=>decide (numAt xs i>numAt xs j)) (xs.size-1))):=by
   refine acE.mpr ⟨?_,fun a ha=>?_⟩
   ·rw[numAt_eq];exact getD_mem (by rw[aac,Array.length_toList];omega)
   ·obtain⟨j,hj,rfl⟩:=mem_getD ha
    rw[aac,Array.length_toList]at hj
    rw[<- numAt_eq];exact h2 j (by omega)
  exact Option.some.inj (hM.symm.trans this)
 exact⟨.int M,H,I.kept (t':=tk) hk,⟨t,by rw[e]⟩,q⟩
section
variable{e:Expr}{es:List Expr}{x:E}{xs:Es}(hg:∀y:Str,y∈(["len", "min", "max", "abs", "int", "list", "tuple", "all", "any", "sum", "sorted", "isinstance", "str", "range", "enumerate", "zip", "reversed"]:List Str)->X.mg y=none)
 (ha:PA X (e::es) (lEs p EX tn (.cons x xs))) (hst:(e::es).all Ah=true)
include hg ha hst
theorem PF(hcm:X.calm=true)(hgl:Gl X "max"):PE X (.Call (.Name "max" np) (e::es) [] pos) (lE p EX tn (.bi .max (.cons x xs))):=by
 rw[aaU,aag]at hst
 refine DM (es:=es) (e:=e) (C6 (LV hcm) hgl (hg _ (by simp)) (by decide +kernel) ha (by decide) (by decide) (Am hst.1) (AS hst.2)) fun B H H1 j1 k1 j k ts σ Q R hj h=>?_
 rcases ts with _|⟨t,_|⟨u,_|⟨v,r⟩⟩⟩
 ·exact nE h
 ·exact nE h
 ·obtain⟨i,m,rfl,rfl,h⟩:=BL (t:=t) (u:=u) (Q:=fun r=>Lg p EX σ r H (KE p B H j k Q)) id h
  refine⟨i,m,rfl,?_⟩
  have:=h (.int _) H1 rfl (Rs.scal R.same rfl)
  have e:(if m>i then m else i)=max i m:=by split<;>omega
  rw[e];exact this
 ·exact nE h
theorem NN(hcm:X.calm=true)(hgl:Gl X "max"):PE X (.Call (.Name "max" np) (e::es) [] pos) (lE p EX tn (.bi .maxL (.cons x xs))):=by
 rw[aaU,aag]at hst
 refine DM (es:=es) (e:=e) (C6 (Mp hcm) hgl (hg _ (by simp)) (by decide +kernel) ha (by decide) (by decide) (Am hst.1) (AS hst.2)) fun B H H1 j1 k1 j k ts σ Q R hj h=>?_
 rcases ts with _|⟨t,_|⟨u,r⟩⟩
 ·exact nE h
 ·cases t with
  |lst a us=>
   have h:Lg p EX σ ((DQ (CK (T.dats us))).bind fun ns=>(DQ ns.max?).bind fun n=>.ok (.int n)) H (KE p B H j k Q):=h
   cases q:CK (T.dats us) with
   |none=>rw[q]at h;exact nE h
   |some ns=>
    rw[q]at h
    have h:Lg p EX σ ((DQ ns.max?).bind fun n=>.ok (.int n)) H (KE p B H j k Q):=h
    cases q2:ns.max? with
    |none=>rw[q2]at h;exact nE h
    |some M=>
     rw[q2]at h
     exact⟨a,ns,M,rfl,FJ q▸R.ok.1.1,q2,h (.int _) H1 rfl (Rs.scal R.same rfl)⟩
  |_=>exact nE h
 ·exact nE h
theorem PH(hcm:X.calm=true)(hgl:Gl X "min"):PE X (.Call (.Name "min" np) (e::es) [] pos) (lE p EX tn (.bi .min (.cons x xs))):=by
 rw[aaU,aag]at hst
 refine DM (es:=es) (e:=e) (C6 (LW hcm) hgl (hg _ (by simp)) (by decide +kernel) ha (by decide) (by decide) (Am hst.1) (AS hst.2)) fun B H H1 j1 k1 j k ts σ Q R hj h=>?_
 rcases ts with _|⟨t,_|⟨u,_|⟨v,r⟩⟩⟩
 ·exact nE h
 ·exact nE h
 ·obtain⟨i,m,rfl,rfl,h⟩:=BL (t:=t) (u:=u) (Q:=fun r=>Lg p EX σ r H (KE p B H j k Q)) id h
  refine⟨i,m,rfl,?_⟩
  have:=h (.int _) H1 rfl (Rs.scal R.same rfl)
  have e:(if m<i then m else i)=min i m:=by split<;>omega
  rw[e];exact this
 ·exact nE h
end
end
end Pu
end
section
namespace Pt
open PySem PySem.SetTable
abbrev it5:Nat->Nat->Nat
 |0,i=>i
 |k+1,i=>5*it5 k i+1
theorem GZ(a:Nat):∀b i,it5 (a+b) i=it5 b (it5 a i)
 |0,i=>rfl
 |b+1,i=>by
  show 5*it5 (a+b) i+1=5*it5 b (it5 a i)+1
  rw[GZ a b i]
theorem J4(d:Nat):∀k i,it5 k (i+d)=it5 k i+5^k*d
 |0,i=>by simp[it5]
 |k+1,i=>by
  show 5*it5 k (i+d)+1=5*it5 k i+1+5^(k+1)*d
  rw[J4 d k i,aaV,abf (5^k) 5,acS]
  omega
theorem NO(m:Nat):5^m%4=1:=by
 induction m with
 |zero=>rfl
 |succ m ih=>rw[aaV,ade,ih]
theorem J5:∀e i,∃c,it5 (2^e) i=i+2^e*(2*c+1)
 |0,i=>⟨2*i,by show 5*i+1=i+1*(2*(2*i)+1);omega⟩
 |e+1,i=>by
  obtain⟨c,hc⟩:=J5 e i
  have h5:=NO (2^e)
  obtain⟨q,hq⟩:∃q,5^(2^e)=4*q+1:=⟨5^(2^e)/4,by omega⟩
  have e2:(2:Nat)^(e+1)=2^e+2^e:=by rw[aaV];omega
  refine⟨2*(q*c)+c+q,?_⟩
  rw[e2,GZ,hc,J4,hc,hq]
  generalize 2^e=P
  grind
theorem J6:∀e i j,∃k,k<2^e/\it5 k i%2^e=j%2^e
 |0,i,j=>⟨0,by decide,by rw[abY,adf,adf]⟩
 |e+1,i,j=>by
  obtain⟨k,hk,h⟩:=J6 e i j
  have e2:(2:Nat)^(e+1)=2^e*2:=aaV ..
  obtain⟨c,hc⟩:=J5 e (it5 k i)
  have hP:0<2^e:=abk (by decide)
  have m1:=adg (x:=it5 k i) (a:=2^e) (b:=2)
  have m2:=adg (x:=j) (a:=2^e) (b:=2)
  by_cases hd:it5 k i/2^e%2=j/2^e%2
  ·exact⟨k,by omega,by rw[e2,m1,m2,h,hd]⟩
  ·refine⟨k+2^e,by omega,?_⟩
   have m3:=adg (x:=it5 k i+2^e*(2*c+1)) (a:=2^e) (b:=2)
   rw[Nat.add_mul_mod_self_left,acL _ _ hP]at m3
   rw[GZ,hc,e2,m3,m2,h]
   congr 2
   omega
abbrev lps(mask:Nat):Nat->Nat->Nat->Nat×Nat
 |0,i,b=>(i,b)
 |n+1,i,b=>lps mask n (leap mask i b).1 (leap mask i b).2
theorem G0(mask:Nat):∀a n i b,lps mask (a+n) i b=lps mask n (lps mask a i b).1 (lps mask a i b).2
 |0,n,i,b=>by rw[aaL];rfl
 |a+1,n,i,b=>by
  rw[ac2]
  exact G0 mask a n _ _
theorem K6(mask:Nat):∀n i b,(lps mask n i b).2=b/32^n
 |0,i,b=>by simp[lps]
 |n+1,i,b=>by
  show(lps mask n (leap mask i b).1 (leap mask i b).2).2=_
  rw[K6 mask n]
  show b/32/32^n=_
  rw[ab0,aaV,abf]
theorem OG{mask M:Nat}(hM:mask+1=M):∀n i,(lps mask n i 0).1%M=it5 n i%M
 |0,i=>rfl
 |n+1,i=>by
  have h1:lps mask (n+1) i 0=lps mask 1 (lps mask n i 0).1 (lps mask n i 0).2:=G0 mask n 1 i 0
  have h2:(lps mask n i 0).2=0:=by rw[K6];exact ac3 _
  rw[h1,h2]
  show(((lps mask n i 0).1*5+1+0/32)%(mask+1))%M=(5*it5 n i+1)%M
  rw[hM,Nat.mod_mod,ac3,Nat.add_zero,abf,Nat.add_mod,ade,OG hM n i,<- ade,<- Nat.add_mod]
theorem IE(mask:Nat):∀n i b,i<=mask->(lps mask n i b).1<=mask
 |0,i,b,h=>h
 |n+1,i,b,h=>IE mask n _ _ (aaN (abE _ (abq _)))
theorem J7{mask e:Nat}(hM:mask+1=2^e){i b:Nat}(hi:i<=mask)(hb:b<2^64){j:Nat}(hj:j<=mask):∃n,n<14+mask/\(lps mask n i b).1=j:=by
 have h13:(lps mask 13 i b).2=0:=by
  rw[K6]
  exact Nat.div_eq_of_lt (aaw hb (by decide))
 obtain⟨k,hk,h⟩:=J6 e (lps mask 13 i b).1 j
 refine⟨13+k,by omega,?_⟩
 rw[G0,h13]
 have h1:=OG hM k (lps mask 13 i b).1
 have h2:=IE mask k (lps mask 13 i b).1 0 (IE mask 13 i b hi)
 rw[h,ab2 (by omega),ab2 (by omega)]at h1
 exact h1
theorem J8(h:Int):bits h<2^64:=by
 unfold bits
 have h1:=aa3 h (b:=(2^64:Int)) (by decide)
 have h2:=abr h (b:=(2^64:Int)) (by decide)
 omega
theorem IF{α:Type}[BEq α][LawfulBEq α]:∀{l m:List α},l.Nodup->(∀x∈l,x∈m)->l.length<=m.length
 |[],m,_,_=>aau _
 |x::l,m,n,h=>by
  obtain⟨n1,n2⟩:=aat.mp n
  have hx:=h x aab
  have:=IF (l:=l) (m:=m.erase x) n2 fun y hy=>(List.mem_erase_of_ne (fun z:y=x=>n1 (by rw[<- z];exact hy))).mpr (h y (aaa _ hy))
  rw[List.length_erase_of_mem hx]at this
  have:=List.length_pos_of_mem hx
  rw[aaH];omega
theorem PJ{mask:Nat}{l:List Nat}(h:l.length<=mask):∃j,j<=mask/\j∉l:=by
 refine Classical.byContradiction fun c=>?_
 have:=IF (l:=aam (mask+1)) (m:=l) List.nodup_range fun x hx=>Classical.byContradiction fun n=>c ⟨x,aaN (aa0.mp hx),n⟩
 rw[aa1]at this
 omega
section
variable{t:SetTable}(hd:t.dummies=#[])
include hd
theorem Mq{j:Nat}(h:j∉t.place.toList):t.slot j=.empty:=by
 unfold slot
 have h1:(t.place[below t.place j]?==some j)=false:=by
  rw[beq_eq_false_iff_ne]
  intro e
  rw[<- Array.getElem?_toList]at e
  exact h (aae e)
 have h2:has t.dummies j=false:=by
  unfold has
  rw[hd]
  simp
 simp[h1,h2]
theorem PK{j:Nat}:t.slot j≠.dummy:=by
 unfold slot
 have h2:has t.dummies j=false:=by
  unfold has
  rw[hd]
  simp
 intro z
 simp only[h2]at z
 split at z<;>cases z
theorem Mr{j i:Nat}(h:t.slot j=.live i):i<t.place.size:=by
 unfold slot at h
 dsimp only at h
 split at h
 ·rename_i e
  cases h
  exact(Array.getElem?_eq_some_iff.mp (beq_iff_eq.mp e)).1
 ·split at h<;>cases h
theorem Mt{hashAt:Nat->Int}{h:Int}(hh:∀i,i<t.place.size->hashAt i≠h):∀(m F j i b:Nat),(∃j',probe.go t hashAt h (m+1+F) ⟨j,m,i,b,none⟩=some (.empty j' none))\/(t.slot j≠.empty/\probe.go t hashAt h (m+1+F) ⟨j,m,i,b,none⟩=probe.go t hashAt h F ⟨(leap t.mask i b).1,runEnd t.mask (leap t.mask i b).1-(leap t.mask i b).1,(leap t.mask i b).1,(leap t.mask i b).2,none⟩)
 |m,F,j,i,b=>by
  have step:t.slot j=.empty\/(t.slot j≠.empty/\probe.go t hashAt h (m+1+F) ⟨j,m,i,b,none⟩=probe.go t hashAt h (m+F) (t.advance ⟨j,m,i,b,none⟩)):=by
   rw[show m+1+F=(m+F)+1 by omega]
   cases e:t.slot j with
   |empty=>exact .inl rfl
   |dummy=>exact absurd e (PK hd)
   |live k=>
    refine .inr ⟨by simp,?_⟩
    have hk:=hh k (Mr hd e)
    have hk:(hashAt k==h)=false:=by simpa using hk
    show(match t.slot j with
     |.empty=>some (Met.empty j none)
     |.dummy=>probe.go t hashAt h (m+F) (t.advance ⟨j,m,i,b,some j⟩)
     |.live i'=>if hashAt i'==h then some (.candidate j i' (t.advance ⟨j,m,i,b,none⟩)) else probe.go t hashAt h (m+F) (t.advance ⟨j,m,i,b,none⟩))=_
    rw[e]
    show(if(hashAt k==h)=true then _ else _)=_
    rw[hk];rfl
  rcases step with e|⟨ne,e⟩
  ·refine .inl ⟨j,?_⟩
   rw[show m+1+F=(m+F)+1 by omega]
   unfold probe.go
   simp only[e]
  ·cases m with
   |zero=>
    refine .inr ⟨ne,?_⟩
    rw[e,aaL]
    rfl
   |succ m=>
    rcases Mt hh m F (j+1) i b with⟨j',q⟩|⟨_,q⟩
    ·refine .inl ⟨j',?_⟩
     rw[e];exact q
    ·refine .inr ⟨ne,?_⟩
     rw[e];exact q
theorem IG{hashAt:Nat->Int}{h:Int}(hh:∀i,i<t.place.size->hashAt i≠h):∀(n F i b:Nat),10*n<F->t.slot (lps t.mask n i b).1=.empty->∃j',probe.go t hashAt h F ⟨i,runEnd t.mask i-i,i,b,none⟩=some (.empty j' none)
 |n,F,i,b,hF,he=>by
  have hr:runEnd t.mask i-i<=9:=by unfold runEnd;split<;>omega
  by_cases hi:t.slot i=.empty
  ·refine⟨i,?_⟩
   cases F with
   |zero=>omega
   |succ F=>
    unfold probe.go
    simp only[hi]
  ·cases n with
   |zero=>exact absurd he hi
   |succ n=>
    obtain⟨G,hG⟩:∃G,F=(runEnd t.mask i-i)+1+G:=⟨F-((runEnd t.mask i-i)+1),by omega⟩
    rcases Mt hd hh (runEnd t.mask i-i) G i i b with⟨j',q⟩|⟨_,q⟩
    ·exact⟨j',by rw[hG];exact q⟩
    ·rw[hG,q]
     exact IG hh n G _ _ (by omega) he
theorem Jy{e:Nat}(hM:t.mask+1=2^e)(hs:t.place.size<=t.mask){hashAt:Nat->Int}{h:Int}(hh:∀i,i<t.place.size->hashAt i≠h):∃j',t.probe hashAt h (t.probeStart h)=some (.empty j' none):=by
 obtain⟨j,hj,hn⟩:=PJ (mask:=t.mask) (l:=t.place.toList) (by simpa using hs)
 have hi:bits h%(t.mask+1)<=t.mask:=aaN (abE _ (abq _))
 obtain⟨n,hn1,hn2⟩:=J7 hM hi (J8 h) hj
 exact IG hd hh n _ _ _ (by unfold turns;omega) (by rw[hn2];exact Mq hd hn)
end
theorem Gn{mask:Nat}{owner:Array (Option Nat)}:∀(n F i b:Nat),n<F->(owner.getD (lps mask n i b).1 (some 0)).isNone=true->∃j,layClean.free mask owner F i b=some j/\(owner.getD j (some 0)).isNone=true
 |n,0,i,b,h,_=>absurd h (acy _)
 |n,F+1,i,b,hF,he=>by
  unfold layClean.free
  cases e:(aam (runEnd mask i+1-i)).find? (fun k=>(owner.getD (i+k) (some 0)).isNone) with
  |some k=>exact⟨i+k,rfl,List.find?_some (p:=fun k=>(owner.getD (i+k) (some 0)).isNone) e⟩
  |none=>
   have hn:=abZ.mp e
   cases n with
   |zero=>
    have hr:i<=runEnd mask i:=by unfold runEnd;split<;>omega
    exact absurd he (hn 0 (aa0.mpr (by omega)))
   |succ n=>exact Gn n F _ _ (Nat.lt_of_succ_lt_succ hF) he
abbrev G1(owner:Array (Option Nat))(mask:Nat):Nat:=(aam (mask+1)).countP fun j=>(owner.getD j none).isSome
theorem Go{f g:Nat->Bool}{j:Nat}(hf:f j=false)(hg:g j=true)(hx:∀x,x≠j->g x=f x):∀{l:List Nat},l.Nodup->j∈l->l.countP g=l.countP f+1
 |[],_,h=>by cases h
 |x::l,n,h=>by
  obtain⟨n1,n2⟩:=aat.mp n
  rw[List.countP_cons,List.countP_cons]
  by_cases e:x=j
  ·subst e
   have:l.countP g=l.countP f:=adb fun y hy=>by rw[hx y fun z=>n1 (by rw[<- z];exact hy)]
   rw[this,hf,hg];simp
  ·have ih:=Go hf hg hx n2 ((aaf.mp h).resolve_left fun z=>e z.symm)
   rw[ih,hx x e];omega
structure Own(owner:Array (Option Nat))(mask n:Nat):Prop where
 sz:owner.size=mask+1
 ct:G1 owner mask=n
 lt:∀j k,owner.getD j none=some k->k<n
theorem NP{owner:Array (Option Nat)}{j:Nat}(h:(owner.getD j (some 0)).isNone=true):j<owner.size/\owner.getD j none=none:=by
 by_cases hj:j<owner.size
 ·refine⟨hj,?_⟩
  simp[Array.getD,hj]at h ⊢
  exact h
 ·simp[Array.getD,hj]at h
theorem Own.free{owner:Array (Option Nat)}{mask n e:Nat}(O:Own owner mask n)(hM:mask+1=2^e)(hn:n<=mask)(h:Int):∃j,layClean.free mask owner (turns mask) (bits h%(mask+1)) (bits h)=some j/\(owner.getD j (some 0)).isNone=true:=by
 obtain⟨j,hj,hf⟩:∃j,j<=mask/\owner.getD j none=none:=by
  refine Classical.byContradiction fun c=>?_
  have:G1 owner mask=mask+1:=by
   unfold G1
   rw[List.countP_eq_length.mpr fun x hx=>?_,aa1]
   cases q:owner.getD x none with
   |none=>exact absurd ⟨x,aaN (aa0.mp hx),q⟩ c
   |some k=>rfl
  rw[O.ct]at this;omega
 have hj2:(owner.getD j (some 0)).isNone=true:=by
  have:j<owner.size:=by rw[O.sz];omega
  simp[Array.getD,this]at hf ⊢
  exact hf
 obtain⟨k,hk,e2⟩:=J7 hM (aaN (abE (bits h) (abq mask))) (J8 h) hj
 exact Gn k _ _ _ (by unfold turns;omega) (by rw[e2];exact hj2)
theorem Own.put{owner:Array (Option Nat)}{mask n j:Nat}(O:Own owner mask n)(hj:(owner.getD j (some 0)).isNone=true):Own (owner.setIfInBounds j (some n)) mask (n+1):=by
 obtain⟨h1,h2⟩:=NP hj
 have gs:∀x,(owner.setIfInBounds j (some n)).getD x none=if x=j then some n else owner.getD x none:=fun x=>by
  simp only[Array.getD_eq_getD_getElem?,Array.getElem?_setIfInBounds]
  by_cases e:x=j
  ·subst e;simp[h1]
  ·rw[if_neg (fun z=>e z.symm),if_neg e]
 refine⟨by rw[Array.size_setIfInBounds];exact O.sz,?_,fun x k e=>?_⟩
 ·unfold G1
  rw[Go (f:=fun x=>(owner.getD x none).isSome) (j:=j) (by rw[h2];rfl) (by rw[gs,if_pos rfl];rfl) (fun x hx=>by rw[gs,if_neg hx]) List.nodup_range (aa0.mpr (by rw[<- O.sz];exact h1))]
  rw[<- O.ct];rfl
 ·rw[gs]at e
  split at e
  ·cases e;exact abz n
  ·exact abw (O.lt x k e)
theorem Mv{mask e:Nat}(hM:mask+1=2^e):∀(hs:List Int)(owner:Array (Option Nat))(n:Nat),Own owner mask n->n+hs.length<=mask+1->∃owner',(hs.foldl (init:=some (owner,n)) fun acc h=>do
  let (owner,k) <- acc
  let j <- layClean.free mask owner (turns mask) (bits h%(mask+1)) (bits h)
  pure (owner.setIfInBounds j (some k),k+1))=some (owner',n+hs.length)/\Own owner' mask (n+hs.length)
 |[],owner,n,O,_=>⟨owner,rfl,O⟩
 |h::hs,owner,n,O,hl=>by
  rw[aaH]at hl
  obtain⟨j,e1,e2⟩:=O.free hM (by omega) h
  obtain⟨ow,e3,O3⟩:=Mv hM hs _ (n+1) (O.put e2) (by omega)
  refine⟨ow,?_,?_⟩
  ·rw[abC,aaH,show n+(hs.length+1)=n+1+hs.length by omega]
   rw[<- e3]
   simp[e1]
  ·rw[aaH,show n+(hs.length+1)=n+1+hs.length by omega];exact O3
theorem TV(mask:Nat):Own (Array.replicate (mask+1) none) mask 0:=by
 refine⟨by simp,?_,fun j k h=>?_⟩
 ·unfold G1
  rw[List.countP_eq_zero]
  intro x hx
  simp[Array.getD,Array.getElem_replicate]
 ·simp[Array.getD,Array.getElem_replicate]at h
end Pt
end
section
namespace Pt
open PySem
abbrev rt(a:Nat):Nat:=((a*2147483648)%18446744073709551616+a/8589934592)*11400714785074694791%18446744073709551616
abbrev ln(acc h:Nat):Nat:=rt ((acc+h*14029467366897019727)%18446744073709551616)
theorem RM{a b:Nat}(ha:a<18446744073709551616)(hb:b<18446744073709551616)(h:rt a=rt b):a=b:=by
 have e1:∀x:Nat,((x*2147483648)%18446744073709551616+x/8589934592)<18446744073709551616->rt x*614540362697595703%18446744073709551616=(x*2147483648)%18446744073709551616+x/8589934592:=by
  intro x hx
  unfold rt
  generalize (x*2147483648)%18446744073709551616+x/8589934592=y at *
  omega
 have hx:∀x:Nat,x<18446744073709551616->((x*2147483648)%18446744073709551616+x/8589934592)<18446744073709551616:=by intro x h;omega
 have h1:=e1 a (hx a ha)
 have h2:=e1 b (hx b hb)
 rw[h,h2]at h1
 have k:∀x:Nat,(x*2147483648)%18446744073709551616=(x%8589934592)*2147483648:=fun x=>Nat.mul_mod_mul_right 2147483648 x 8589934592
 rw[k a,k b]at h1
 clear h2 e1 hx k h
 have a1:=abF a (8589934592)
 have b1:=abF b (8589934592)
 have a2:a/8589934592<2147483648:=by omega
 have b2:b/8589934592<2147483648:=by omega
 generalize a/8589934592=x at *
 generalize b/8589934592=y at *
 generalize a%8589934592=u at *
 generalize b%8589934592=v at *
 omega
abbrev hA(l:Nat):Nat:=ln 2870177450012600261 l
abbrev ok1(l l' d:Nat):Bool:=(l==l'&&d==0)||(hA l+d*14029467366897019727)%18446744073709551616 != hA l'%18446744073709551616
abbrev TW:Bool:=(aam 9).all fun l=>(aam 9).all fun l'=>(aam 200).all fun d=>ok1 l l' d
theorem PL:TW=true:=by decide +kernel
abbrev K2:Nat:=2 ^^^ (2870177450012600261 ^^^ 3527539)
abbrev TX:Bool:=(aam 9).all fun l=>(aam 200).all fun j=>(ln (hA l) j+K2)%18446744073709551616 != 18446744073709551615
theorem PM:TX=true:=by decide +kernel
theorem RN{l l' d:Nat}(h:ok1 l l' d=true):(l=l'/\d=0)\/(hA l+d*14029467366897019727)%18446744073709551616≠hA l'%18446744073709551616:=by
 unfold ok1 at h
 rcases (acz _ _).mp h with h|h
 ·rw[aag]at h
  exact .inl ⟨eq_of_beq h.1,eq_of_beq h.2⟩
 ·exact .inr (bne_iff_ne.mp h)
theorem PN{l l' d:Nat}(hl:l<9)(hl':l'<9)(hd:d<200):ok1 l l' d=true:=by
 have c:((aam 9).all fun l=>(aam 9).all fun l'=>(aam 200).all fun d=>ok1 l l' d)=true:=PL
 have c1:=aay.mp c l (aa0.mpr hl)
 have c2:=aay.mp c1 l' (aa0.mpr hl')
 exact aay.mp c2 d (aa0.mpr hd)
theorem RO{x y p:Nat}(h:(x+p)%18446744073709551616=(y+p)%18446744073709551616):x%18446744073709551616=y%18446744073709551616:=by omega
theorem RP{l l' j j':Nat}(hl:l<9)(hl':l'<9)(hj:j<200)(hjj:j'<=j)(h:(hA l+j*14029467366897019727)%18446744073709551616=(hA l'+j'*14029467366897019727)%18446744073709551616):l=l'/\j=j':=by
 obtain⟨d,rfl⟩:∃d,j=j'+d:=⟨j-j',by omega⟩
 have e:(hA l+d*14029467366897019727)%18446744073709551616=hA l'%18446744073709551616:=by
  refine RO (p:=j'*14029467366897019727) ?_
  rw[<- h,Nat.add_mul,Nat.add_assoc,ab6 (d*_)]
 rcases RN (PN hl hl' (show d<200 by omega)) with⟨a,b⟩|n
 ·exact⟨a,by omega⟩
 ·exact absurd e n
theorem RQ{l l' j j':Nat}(hl:l<9)(hl':l'<9)(hj:j<200)(hj':j'<200)(h:ln (hA l) j=ln (hA l') j'):l=l'/\j=j':=by
 have h:=RM (abE _ (by decide)) (abE _ (by decide)) h
 rcases Nat.le_total j' j with z|z
 ·exact RP hl hl' hj z h
 ·obtain⟨a,b⟩:=RP hl' hl hj' z h.symm
  exact⟨a.symm,b.symm⟩
theorem IH{l j:Nat}(hl:l<9)(hj:j<200):(ln (hA l) j+K2)%18446744073709551616≠18446744073709551615:=by
 have c:((aam 9).all fun l=>(aam 200).all fun j=>(ln (hA l) j+K2)%18446744073709551616 != 18446744073709551615)=true:=PM
 have c1:=aay.mp c l (aa0.mpr hl)
 exact bne_iff_ne.mp (aay.mp c1 j (aa0.mpr hj))
theorem S7:K2=2870177450013471924:=by decide +kernel
theorem S8(l j:Nat):(ln (hA l) j+K2)%18446744073709551616=(((((2870177450012600261+l*14029467366897019727)%18446744073709551616*2147483648%18446744073709551616+(2870177450012600261+l*14029467366897019727)%18446744073709551616/8589934592)*11400714785074694791%18446744073709551616+j*14029467366897019727)%18446744073709551616*2147483648%18446744073709551616+(((2870177450012600261+l*14029467366897019727)%18446744073709551616*2147483648%18446744073709551616+(2870177450012600261+l*14029467366897019727)%18446744073709551616/8589934592)*11400714785074694791%18446744073709551616+j*14029467366897019727)%18446744073709551616/8589934592)*11400714785074694791%18446744073709551616+2870177450013471924)%18446744073709551616:=by
 rw[S7]
 unfold ln hA ln rt
 rfl
theorem Mw{l j:Nat}(hl:l<9)(hj:j<200):Builtin.Tuple.tupleHashOf [(l:Int),(j:Int)]=if(ln (hA l) j+K2)%18446744073709551616<9223372036854775808 then(((ln (hA l) j+K2)%18446744073709551616:Nat):Int) else(((ln (hA l) j+K2)%18446744073709551616:Nat):Int)-18446744073709551616:=by
 have h1:((l:Int)%18446744073709551616).toNat=l:=by omega
 have h2:((j:Int)%18446744073709551616).toNat=j:=by omega
 have hn:=IH hl hj
 unfold Builtin.Tuple.tupleHashOf
 simp -implicitDefEqProofs only[abC,List.foldl_nil,aaH,ab8,Nat.reducePow,Nat.reduceAdd,aci,h1,h2,Nat.reduceSub,Nat.reduceXor]
 rw[<- S8]
 generalize (ln (hA l) j+K2)%18446744073709551616=Z at *
 rw[if_neg (by simpa using hn)]
theorem Mx{z:Nat}(hz:z<18446744073709551616)(hn:z≠18446744073709551615):reduceHash (if z<9223372036854775808 then(z:Int) else(z:Int)-18446744073709551616)=if z<9223372036854775808 then(z:Int) else(z:Int)-18446744073709551616:=by
 have c1:-9223372036854775808<=(if z<9223372036854775808 then(z:Int) else(z:Int)-18446744073709551616):=by split<;>omega
 have c2:(if z<9223372036854775808 then(z:Int) else(z:Int)-18446744073709551616)<9223372036854775808:=by split<;>omega
 have c3:(if z<9223372036854775808 then(z:Int) else(z:Int)-18446744073709551616)≠-1:=by split<;>omega
 generalize (if z<9223372036854775808 then(z:Int) else(z:Int)-18446744073709551616)=w at *
 unfold reduceHash
 rw[if_pos (by rw[aag,decide_eq_true_eq,decide_eq_true_eq];exact⟨c1,c2⟩),if_neg (by rw[beq_iff_eq];exact c3)]
theorem PP{x y:Nat}(hx:x<18446744073709551616)(hy:y<18446744073709551616)(h:(if x<9223372036854775808 then(x:Int) else(x:Int)-18446744073709551616)=if y<9223372036854775808 then(y:Int) else(y:Int)-18446744073709551616):x=y:=by
 split at h<;>split at h<;>omega
theorem S9{x y p:Nat}(hx:x<18446744073709551616)(hy:y<18446744073709551616)(h:(x+p)%18446744073709551616=(y+p)%18446744073709551616):x=y:=by
 have:=RO h
 rw[ab2 hx,ab2 hy]at this
 exact this
abbrev pH(l j:Nat):Int:=reduceHash (Builtin.Tuple.tupleHashOf [(l:Int),(j:Int)])
theorem OH(a h:Nat):ln a h<18446744073709551616:=abE _ (abq 18446744073709551615)
theorem pH_inj{l l' j j':Nat}(hl:l<9)(hl':l'<9)(hj:j<200)(hj':j'<200)(h:pH l j=pH l' j'):l=l'/\j=j':=by
 unfold pH at h
 rw[Mw hl hj,Mw hl' hj']at h
 have n1:=IH hl hj
 have n2:=IH hl' hj'
 have b1:=abE (ln (hA l) j+K2) (abq 18446744073709551615)
 have b2:=abE (ln (hA l') j'+K2) (abq 18446744073709551615)
 rw[Mx b1 n1,Mx b2 n2]at h
 exact RQ hl hl' hj hj' (S9 (OH ..) (OH ..) (PP b1 b2 h))
theorem RR{n:Nat}(h:n<1000):rawHash (n:Int)=n:=by
 have e1:(((n:Int).natAbs:Nat):Int)%((2^61-1:Nat):Int)=n:=by
  rw[Int.natAbs_natCast]
  exact Int.emod_eq_of_lt (aas n) (ab7.mpr (Nat.lt_trans h (by decide)))
 have e2:¬(n:Int)<0:=by omega
 have e3:¬((n:Int)==-1)=true:=by rw[beq_iff_eq];omega
 unfold rawHash
 rw[e1]
 dsimp only
 rw[if_neg e2,if_neg e3]
theorem hash_int{n:Nat}(h:n<1000):hashInt (n:Int)=n:=by
 have e3:¬((n:Int)==-1)=true:=by rw[beq_iff_eq];omega
 unfold hashInt
 rw[RR h,if_neg e3]
end Pt
end
section
namespace Pt
open PySem PySem.SetTable
structure Tab(es:Array (Int×Value))(t:SetTable):Prop where
 dm:t.dummies=#[]
 ps:t.place.size=es.size
 ld:es.size*5<t.mask*3
 pw:∃e,t.mask+1=2^e
 tw:3<=t.mask
theorem Tab.odd{es:Array (Int×Value)}{t:SetTable}(T:Tab es t):t.gaveWay=false:=by
 obtain⟨e,h⟩:=T.pw
 have ht:=T.tw
 unfold gaveWay
 cases e with
 |zero=>omega
 |succ e=>
  rw[aaV]at h
  rw[beq_eq_false_iff_ne];omega
theorem J9{es:Array (Int×Value)}{t:SetTable}(h1:t.dummies=#[])(h2:t.place.size=es.size)(h3:es.size<=t.mask):t.fits es.size=true:=by
 unfold SetTable.fits fill
 rw[h1,h2]
 simp;exact h3
theorem Tab.le{es:Array (Int×Value)}{t:SetTable}(T:Tab es t):es.size<t.mask:=by have:=T.ld;omega
theorem Tab.fits{es:Array (Int×Value)}{t:SetTable}(T:Tab es t):t.fits es.size=true:=J9 T.dm T.ps (aao T.le)
theorem TY(led:Bool):Tab #[] (.fresh 0 0 led):=⟨rfl,rfl,show 0*5<7*3 by decide,⟨3,rfl⟩,show 3<=7 by decide⟩
theorem II{α:Type}(xs:Array α)(p:Nat)(x:α):(insertAt xs p x).size=xs.size+1:=by
 rw[<- Array.length_toList,(insertAt_perm xs p x).length_eq,Array.length_toList,Array.size_push]
theorem PQ{α:Type}{xs:Array α}{p:Nat}{x y:α}(h:y∈(insertAt xs p x).toList):y∈xs.toList\/y=x:=by
 have:=(insertAt_perm xs p x).mem_iff.mp h
 rw[Array.toList_push,aah]at this
 exact this.imp id aaZ.mp
theorem RS{t:SetTable}(h:t.dummies=#[])(j:Nat):(t.put j).1.dummies=#[]/\(t.put j).1.place.size=t.place.size+1/\(t.put j).1.mask=t.mask:=by
 refine⟨?_,II ..,rfl⟩
 show(if has t.dummies j then _ else t.dummies)=_
 rw[h]
 simp[has]
theorem IJ:∀(F a n:Nat),(∃e,a=2^e)->n<a*2^F->(∃e,sizeAbove.go n F a=2^e)/\n<sizeAbove.go n F a/\a<=sizeAbove.go n F a
 |0,a,n,h,hn=>⟨h,by rw[abY,adh]at hn;exact hn,aaj _⟩
 |F+1,a,n,⟨e,h⟩,hn=>by
  unfold sizeAbove.go
  split
  ·have ih:=IJ F (a*2) n ⟨e+1,by rw[h,aaV]⟩ (by rw[aaV,abf (2^F) 2,<- acS]at hn;exact hn)
   exact⟨ih.1,ih.2.1,by omega⟩
  ·exact⟨⟨e,h⟩,by omega,aaj _⟩
theorem IK:∀(F a n b:Nat),a<=b->n*2<=b->sizeAbove.go n F a<=b
 |0,a,n,b,h,_=>h
 |F+1,a,n,b,h,hn=>by
  unfold sizeAbove.go
  split
  ·exact IK F (a*2) n b (by omega) hn
  ·exact h
theorem My{α β:Type}{f:α->Option β}:∀{l:List α},(∀x∈l,(f x).isSome=true)->(l.filterMap f).length=l.length
 |[],_=>rfl
 |x::l,h=>by
  obtain⟨y,e⟩:=aaC.mp (h x aab)
  rw[acr e,aaH,aaH,My fun z hz=>h z (aaa _ hz)]
theorem IL{α β:Type}{f:α->Option β}:∀l:List α,(l.filterMap f).length=l.countP fun x=>(f x).isSome
 |[]=>rfl
 |x::l=>by
  cases e:f x with
  |none=>rw[List.filterMap_cons_none e,List.countP_cons_of_neg (by rw[e];simp),IL l]
  |some y=>rw[acr e,List.countP_cons_of_pos (by rw[e];rfl),aaH,IL l]
theorem PR{mask e:Nat}(hM:mask+1=2^e)(hashes:Array Int)(hn:hashes.size<=mask+1)(fg mv:Nat)(led plain:Bool):∃t' order,laid mask fg mv led plain hashes=some (t',order)/\t'.mask=mask/\t'.dummies=#[]/\t'.place.size=hashes.size/\order.size=hashes.size/\∀k∈order.toList,k<hashes.size:=by
 obtain⟨owner,e1,O⟩:=Mv hM hashes.toList _ 0 (TV mask) (by simpa using hn)
 rw[aaL,Array.length_toList]at e1 O
 have e2:layClean mask hashes=some owner:=by
  unfold layClean
  rw[<- Array.foldl_toList]
  have:=congrArg (adl Prod.fst) e1
  exact this
 have hlen:((aam (mask+1)).filterMap fun j=>(owner.getD j none).map (j,·)).length=hashes.size:=by
  rw[IL,<- O.ct]
  unfold G1
  exact adb fun x _=>by rw[ac9]
 obtain⟨live,hl⟩:∃live,live=(aam (mask+1)).filterMap fun j=>(owner.getD j none).map (j,·):=⟨_,rfl⟩
 rw[<- hl]at hlen
 refine⟨{mask,place:=(live.map (·.1)).toArray,dummies:=#[],finger:=fg,led,moves:=mv,plain},(live.map (·.2)).toArray,?_,rfl,rfl,?_,?_,?_⟩
 ·unfold laid
  rw[e2,hl]
  rfl
 ·simp[hlen]
 ·simp[hlen]
 ·intro k hk
  rw[List.toList_toArray]at hk
  obtain⟨⟨j,k'⟩,hx,rfl⟩:=aaD.mp hk
  rw[hl]at hx
  obtain⟨x,_,hx⟩:=aaB.mp hx
  obtain⟨v,hv,e3⟩:=aax.mp hx
  cases e3
  exact O.lt _ _ hv
section
variable{prog:Program}{w:World}{A:Around}{E:Value->Shared->Prop}{s:Shared}
abbrev SetAt(h:Heap)(a:Addr)(hs:List Int)(n:Nat):Prop:=∃o es ep t,h.get? a=some o/\o.ExactSet/\o.data=.set es ep t/\Tab es t/\es.size=n/\∀e∈es.toList,e.1∈hs
theorem Jz{a:Addr}{o:Obj}{es:Array (Int×Value)}{ep:Nat}{t:SetTable}{x:Value}{h:Int}{Q:SetFound->Shared->Prop}(ho:s.heap.get? a=some o)(hd:o.data=.set es ep t)(T:Tab es t)(hh:∀e∈es.toList,e.1≠h)(hq:∀j,Q (.free j false) s) :
  wpAny (model prog w) A (setSearch a x h true) Q E s:=by
 unfold setSearch setSearchFrom
 refine wpAny_bind (wpAny_setState_of ho hd T.fits ?_)
 dsimp only
 rw[T.odd]
 simp only[aaM,↓reduceIte]
 obtain⟨e,hM⟩:=T.pw
 obtain⟨j,hj⟩:=Jy (t:=t) T.dm hM (by rw[T.ps];exact aao T.le) (hashAt:=fun i=>(es[i]?.map (·.1)).getD 0) (h:=h) (fun i hi=>by
  rw[T.ps]at hi
  rw[Array.getElem?_eq_getElem hi]
  exact hh _ (Array.getElem_mem_toList hi))
 split
 ·rename_i met hm
  have hm2:t.probe (fun i=>(es[i]?.map (·.1)).getD 0) h (t.probeStart h)=some met:=hm
  rw[hj]at hm2
  cases hm2
  exact wpAny_pure (hq j)
 ·rename_i hm
  exact(hm _ hj).elim
theorem NQ{a:Addr}{o:Obj}{es:Array (Int×Value)}{ep:Nat}{t:SetTable}{hs:List Int}{Q:Unit->Shared->Prop}(ho:s.heap.get? a=some o)(hex:o.ExactSet)(hd:o.data=.set es ep t)(hf:t.fits es.size=true)(h0:0<es.size)(hn:es.size<=1000)(hh:∀e∈es.toList,e.1∈hs)
  (hq:∀h',Heap.SameBut a s.heap h'->SetAt h' a hs es.size->Q () {s with heap:=h'}):wpAny (model prog w) A (setRelay a (grown es.size)) Q E s:=by
 have hg:grown es.size=es.size*4:=by unfold grown;rw[if_neg (by omega)]
 unfold setRelay
 refine wpAny_bind (wpAny_setState_of ho hd hf ?_)
 dsimp only
 rw[hg]
 obtain⟨⟨e,he⟩,h1,h2⟩:=IJ 64 8 (es.size*4) ⟨3,rfl⟩ (aaw (show es.size*4<8*2^10 by omega) (by decide))
 have h3:=IK 64 8 (es.size*4) 8192 (by decide) (by omega)
 have h4:¬sizeAbove (es.size*4)>sizeLine:=by
  have:sizeLine=16777216:=by decide
  show ¬sizeAbove.go (es.size*4) 64 8>sizeLine
  omega
 rw[if_neg h4]
 have hM:(sizeAbove (es.size*4)-1)+1=2^e:=by
  show sizeAbove.go (es.size*4) 64 8-1+1=_
  omega
 have hS:sizeAbove (es.size*4)=sizeAbove.go (es.size*4) 64 8:=rfl
 obtain⟨t',order,e1,m1,m2,m3,m4,m5⟩:=PR hM (es.map (·.1)) (by rw[Array.size_map];omega) t.finger (t.movedTo (sizeAbove (es.size*4)-1)) t.led t.plain
 have e2:t.relaid (es.map (·.1)) (es.size*4)=some (t',order):=e1
 rw[e2]
 rw[Array.size_map]at m3 m4 m5
 have hmem:∀y∈(order.filterMap (es[·]?)).toList,y∈es.toList:=fun y hy=>by
  rw[Array.toList_filterMap]at hy
  obtain⟨k,_,hk⟩:=aaB.mp hy
  rw[<- Array.getElem?_toList]at hk
  exact aae hk
 have hsz:(order.filterMap (es[·]?)).size=es.size:=by
  rw[<- Array.length_toList,Array.toList_filterMap,My (fun k hk=>by rw[Array.getElem?_eq_getElem (m5 k hk)];rfl),Array.length_toList,m4]
 refine wpAny_bind ?_
 show wpAny _ _ (do
  if(order.filterMap (es[·]?)).size != es.size then unsupported "internal:set-table-lost-an-element"
  pure (order.filterMap (es[·]?),t')) _ _ _
 rw[hsz]
 simp only[bne_self_eq_false,aaM,↓reduceIte]
 refine wpAny_pure ?_
 dsimp only
 refine wpAny_storeSet_of ho hd ?_ (by rw[hsz];exact aar hn (by decide))
 have hg2:(s.heap.update a (Obj.putSet (order.filterMap (es[·]?)) t')).get? a=some {o with data:=.set (order.filterMap (es[·]?)) (ep+1) t'}:=by
  have:=Heap.get?_update_self (Obj.putSet (order.filterMap (es[·]?)) t') ho (by rw[putSet_of _ _ hd];rfl)
  rw[putSet_of _ _ hd]at this
  exact this
 refine hq _ (Heap.SameBut.update s.heap a _) ⟨_,_,_,_,hg2,hex,rfl,⟨m2,by rw[m3,hsz],?_,⟨e,by rw[m1];exact hM⟩,?_⟩,hsz,fun y hy=>hh y (hmem y hy)⟩
 ·rw[hsz,m1];omega
 ·rw[m1];omega
theorem Mz{K:Type}[DecidableEq K]{knd:KeyKind prog w K}{ks:List K}{b:Addr}{Q:Bool->Shared->Prop}(hk:IsTupleKey knd s.heap ks b)(hv:∀v:Value,∀k,knd.is k v=true->∀n,∃r,hashByValue n v=pure r)(hq:∀v,Q v s):wpAny (model prog w) A (hashByValue 8 (.ref b)) Q E s:=by
 have hT:=hk.typeIs
 obtain⟨o,items,n,ho,_,hd,hi⟩:=hk
 unfold hashByValue
 refine wpAny_bind (wpAny_specialOf hT F.slot_tuple_hash.lookup ?_)
 dsimp only
 refine wpAny_bind (wpAny_seqItems ho hd ?_)
 have hall:∀v∈items.toList,∃k,knd.is k v=true:=by
  generalize items.toList=l at hi
  clear hd ho
  induction hi with
  |nil=>intro v hv;cases hv
  |cons h1 _ ih=>
   intro v hv
   rcases aaf.mp hv with rfl|hv
   ·exact⟨_,h1⟩
   ·exact ih v hv
 refine wpAny_bind ?_
 show wpAny _ _ (forIn items _ _) _ _ s
 rw[<- Array.forIn_toList]
 refine wpAny_forIn_list _ (fun rest r s'=>s'=s/\∀v∈rest,∃k,knd.is k v=true) _ ?_ ?_ _ _ ⟨rfl,hall⟩
 ·rintro v rest r s' ⟨rfl,ha⟩
  obtain⟨k,hk⟩:=ha v aab
  obtain⟨c,hc⟩:=hv v k hk 7
  rw[hc]
  refine wpAny_bind (wpAny_pure ?_)
  cases c with
  |true=>
   simp only[abv,aaM,if_false]
   exact wpAny_pure ⟨rfl,fun u hu'=>ha u (aaa _ hu')⟩
  |false=>
   simp only[aby,if_true]
   refine wpAny_pure ?_
   exact wpAny_pure (hq false)
 ·rintro r s' ⟨rfl,_⟩
  split<;>exact wpAny_pure (hq _)
theorem PU{k:Int}{v:Value}(h:(intKind prog w).is k v=true)(n:Nat):∃r,hashByValue n v=pure r:=by
 obtain⟨t,rfl⟩:=Value.isInt_shape h
 exact⟨true,by cases n<;>simp[hashByValue]⟩
theorem RT{a b:Addr}{ks:List Int}{h:Int}{hs:List Int}{n:Nat}{Q:Bool->Shared->Prop}(hk:IsTupleKey (intKind prog w) s.heap ks b)(S:SetAt s.heap a hs n)(hh:h∉hs)(hn:n<1000)
  (hq:∀h',Heap.SameBut a s.heap h'->SetAt h' a (h::hs) (n+1)->Q true {s with heap:=h'}):wpAny (model prog w) A (setAddHashed a (.ref b) h) Q E s:=by
 obtain⟨o,es,ep,t,ho,hex,hd,T,rfl,hm⟩:=S
 unfold setAddHashed setAddHashedIn
 refine wpAny_holding (wpAny_bind (wpAny_setState_of ho hd T.fits ?_))
 dsimp only
 have hsc:byScan (.ref b) es=false:=rfl
 rw[hsc]
 simp only[aaM,↓reduceIte]
 refine wpAny_bind (Jz ho hd T (fun e he z=>hh (z▸hm e he)) fun j=>?_)
 dsimp only
 refine wpAny_bind (wpAny_setState_of ho hd T.fits ?_)
 dsimp only
 obtain⟨p1,p2,p3⟩:=RS T.dm j
 generalize hp:t.put j=tp at *
 obtain⟨t1,p⟩:=tp
 dsimp only at p1 p2 p3 ⊢
 have fin:∀(t2:SetTable),t2.dummies=#[]->t2.place.size=t.place.size+1->t2.mask=t.mask->wpAny (model prog w) A (do
   storeSet a (insertAt es p (h,.ref b)) t2
   if(!false&&t2.tooFull)=true then do
    setRelay a (grown (es.size+1))
    pure true
   else pure true) Q E s:=fun t2 q1 q2 q3=>by
  have hsz:(insertAt es p (h,Value.ref b)).size=es.size+1:=II ..
  have hf2:t2.fits (insertAt es p (h,Value.ref b)).size=true:=J9 q1 (by rw[q2,T.ps,hsz]) (by rw[hsz,q3];exact T.le)
  have hm2:∀e∈(insertAt es p (h,Value.ref b)).toList,e.1∈h::hs:=fun e he=>by
   rcases PQ he with z|z
   ·exact aaa _ (hm e z)
   ·rw[z];exact aab
  have hg2:(s.heap.update a (Obj.putSet (insertAt es p (h,Value.ref b)) t2)).get? a=some {o with data:=.set (insertAt es p (h,Value.ref b)) (ep+1) t2}:=by
   have:=Heap.get?_update_self (Obj.putSet (insertAt es p (h,Value.ref b)) t2) ho (by rw[putSet_of _ _ hd];rfl)
   rw[putSet_of _ _ hd]at this
   exact this
  have hsb:=Heap.SameBut.update s.heap a (Obj.putSet (insertAt es p (h,Value.ref b)) t2)
  refine wpAny_bind (wpAny_storeSet_of ho hd ?_ (by rw[hsz];exact aar (Nat.succ_le_of_lt hn) (by decide)))
  split
  ·rw[<- hsz]
   refine wpAny_bind (NQ (s:={s with heap:=s.heap.update a (Obj.putSet (insertAt es p (h,Value.ref b)) t2)}) hg2 hex rfl hf2 (by rw[hsz];exact abq _) (by rw[hsz];exact hn) hm2 fun h' sb S'=>?_)
   rw[hsz]at S'
   exact wpAny_pure (hq h' (hsb.trans sb) S')
  ·rename_i nf
   refine wpAny_pure (hq _ hsb ⟨_,_,_,_,hg2,hex,rfl,⟨q1,by rw[q2,T.ps,hsz],?_,by rw[q3];exact T.pw,by rw[q3];exact T.tw⟩,hsz,hm2⟩)
   have nf:¬t2.tooFull=true:=by simpa using nf
   unfold tooFull fill at nf
   rw[q1,q2,T.ps]at nf
   rw[hsz]
   simp at nf
   omega
 split
 ·refine wpAny_bind (Mz hk (fun v k hv n=>PU hv n) fun v=>?_)
  cases v with
  |true=>exact fin t1 p1 p2 p3
  |false=>exact fin {t1 with plain:=false} p1 p2 p3
 ·refine wpAny_bind (wpAny_pure ?_)
  exact fin t1 p1 p2 p3
end
end Pt
end
section
namespace Pt
open PySem PySem.SetTable PyProof.Rows
abbrev pHI(q:Int×Int):Int:=reduceHash (Builtin.Tuple.tupleHashOf [hashInt q.1,hashInt q.2])
theorem NR(prog:Program)(w:World)(q:Int×Int):tupleKeyHash (intKind prog w) [q.1,q.2]=pHI q:=rfl
theorem IsTupleKey.mov{K:Type}[DecidableEq K]{prog:Program}{w:World}{knd:KeyKind prog w K}{h h':Heap}{ks:List K}{a:Addr}(k:IsTupleKey knd h ks a)(e:∀o,h.get? a=some o->h'.get? a=some o):IsTupleKey knd h' ks a:=by
 obtain⟨o,items,n,ho,r⟩:=k
 exact⟨o,items,n,e o ho,r⟩
theorem SetAt.mov{h h':Heap}{a:Addr}{hs:List Int}{n:Nat}(S:SetAt h a hs n)(e:∀o,h.get? a=some o->h'.get? a=some o):SetAt h' a hs n:=by
 obtain⟨o,es,ep,t,ho,r⟩:=S
 exact⟨o,es,ep,t,e o ho,r⟩
theorem Gp{α:Type}:∀{l:List α}{i:Nat}{x:α},l.Nodup->l[i]?=some x->x∉l.take i
 |[],i,x,_,h=>by simp at h
 |y::l,0,x,_,_=>by simp
 |y::l,i+1,x,n,h=>by
  obtain⟨n1,n2⟩:=aat.mp n
  rw[aaT]at h
  intro hm
  rcases aaf.mp hm with z|z
  ·exact n1 (z▸aae h)
  ·exact Gp n2 h z
section
variable{prog:Program}{w:World}{A:Around}{R:Result->Shared->Prop}{I:Addr}{fp wr:List Addr}{G:Array GenState->Array GenState->Prop}{n:Nat}{P:Nat->Value->Prop}{St:Nat->Shared->Prop}
theorem NS(W:WalksS prog w A.in1 I fp wr G n P St)(S:Addr)(hSf:S∉fp)(qs:List (Int×Int))(bs:List Addr)(hl:qs.length=n)(hlb:bs.length=n)(hP:∀i v,P i v->∃b,bs[i]?=some b/\v=.ref b)(hbS:∀b∈bs,b≠S/\b∉wr)
  (hu:A.in1.units<cLine) (hinj:(qs.map pHI).Nodup) (hn:n<=1000) :
  ∀(k i:Nat)(s:Shared),n-i=k->i<=n->St i s->SetAt s.heap S ((qs.map pHI).take i) i->(∀(j:Nat)(b:Addr)(q:Int×Int),bs[j]?=some b->qs[j]?=some q->IsTupleKey (intKind prog w) s.heap [q.1,q.2] b)->
   (∀s',Moved (S::wr) G s s'->SetAt s'.heap S (qs.map pHI) n->R (.ok (.ret .none)) s')->
   codeAny (model prog w) A (.builtin "set.update.loop" ⟨[.ref S,.ref I],[]⟩) R s:=by
 have hw:S∉wr:=fun h=>hSf (W.sub _ h)
 have hup:∀b∈wr,b∈S::wr:=fun b hb=>aaa _ hb
 intro k
 induction k with
 |zero=>
  intro i s hk hi hst hS hT hR
  obtain rfl:i=n:=by omega
  refine codeAny_builtin F.entry_set_update_loop ?_
  rw[Around.under_plainId F.plain_set_update_loop _]
  refine wpAny_bind (m:=pyNext (.ref I)) (W.done s _ _ hst fun s' hm=>?_)
  refine wpAny_pure (hR s' (hm.mono hup) ?_)
  rw[acC (by rw[aac];omega)]at hS
  exact hS.mov fun o e=>hm.heap S o hw e
 |succ k ih=>
  intro i s hk hi hst hS hT hR
  have lt:i<n:=by omega
  refine codeAny_builtin F.entry_set_update_loop ?_
  rw[Around.under_plainId F.plain_set_update_loop _]
  refine wpAny_bind (m:=pyNext (.ref I)) (W.item i s _ _ lt hst fun v s' hPv hst' hm=>?_)
  obtain⟨b,hb,rfl⟩:=hP i v hPv
  have hq:qs[i]?=some (qs[i]'(by omega)):=aan _
  generalize qs[i]'(by omega)=q at hq
  have hbm:=hbS b (aae hb)
  have hT':∀(j:Nat)(b:Addr)(q:Int×Int),bs[j]?=some b->qs[j]?=some q->IsTupleKey (intKind prog w) s'.heap [q.1,q.2] b:=fun j b q h1 h2=>IsTupleKey.mov (hT j b q h1 h2) fun o e=>hm.heap b o (hbS b (aae h1)).2 e
  have hS':=hS.mov (h':=s'.heap) fun o e=>hm.heap S o hw e
  refine wpAny_bind (m:=holding [Value.ref b] (setAdd S (.ref b))) (wpAny_holding ?_)
  unfold setAdd
  refine wpAny_holding (wpAny_bind (wpAny_pyHash_tuple hu (hT' i b q hb hq) ?_))
  rw[NR]
  have hnot:pHI q∉(qs.map pHI).take i:=Gp hinj (by rw[aal,hq];rfl)
  refine RT (s:={s' with toks:=s'.toks+([q.1,q.2].length+1)}) (hT' i b q hb hq) hS' hnot (by omega) fun h' sb S2=>?_
  refine wpAny_pure ⟨plainId_quiet F.plain_set_update_loop _,ih (i+1) _ (by omega) lt (W.frame _ s' _ _ hst' (ab3 _ _) fun c hc o e=>?_) ?_ (fun j b q h1 h2=>IsTupleKey.mov (hT' j b q h1 h2) fun o e=>?_) fun s2 hm2 S3=>?_⟩
  ·rw[sb.2 c (fun z:c=S=>hSf (by rw[<- z];exact hc))];exact e
  ·obtain⟨o,es,ep,t,h1,h2,h3,h4,h5,h6⟩:=S2
   refine⟨o,es,ep,t,h1,h2,h3,h4,h5,fun e he=>?_⟩
   rw[List.take_succ,aal,hq]
   rcases aaf.mp (h6 e he) with z|z
   ·rw[z];exact aai _ (by simp)
   ·exact aav _ z
  ·rw[sb.2 b (hbS b (aae h1)).1];exact e
  ·refine hR s2 (Moved.trans W.gtrans ((hm.mono hup).then_heap (ab3 _ _) fun c o hc e=>?_) hm2) S3
   rw[sb.2 c (fun z:c=S=>hc (by rw[z];exact aab))];exact e
end
@[reducible]noncomputable def fO(led:Bool):Obj:={cls:=.type "set",dict:=none,data:=.set #[] 0 (.fresh 0 0 led)}
section
variable{prog:Program}{w:World}{A:Around}{E:Value->Shared->Prop}{s:Shared}
set_option maxHeartbeats 3200000 in
theorem set_pairs{l:Addr}{items:Array Value}{qs:List (Int×Int)}{bs:List Addr}{Q:Value->Shared->Prop}(hh:A.handled=none)(hu:A.units+16<cLine)(hl:s.heap.IsList l items)(hi:items.toList=bs.map Value.ref)(hlq:qs.length=items.size)(hb:items.size<=1000)
  (hk:∀(j:Nat)(b:Addr)(q:Int×Int),bs[j]?=some b->qs[j]?=some q->IsTupleKey (intKind prog w) s.heap [q.1,q.2] b) (hinj:(qs.map pHI).Nodup)
  (hq:∀(h':Heap)(tk:Nat),SetAt h' s.heap.objs.size (qs.map pHI) items.size->(∀b o,s.heap.get? b=some o->h'.get? b=some o)->Q (.ref s.heap.objs.size) {s with heap:=h',toks:=tk}) :
  wpAny (model prog w) A (call (.type "set") [.ref l]) Q E s:=by
 obtain⟨c,tl,mro⟩:=F.called_set.mro
 have made:=F.called_set.made
 have sub:=F.called_set.sub
 have nt:=F.called_set.notType
 have cc:=F.called_set.canCreate
 have tc:=F.typeCall_set_1 (.ref l)
 refine wpAny_call (codeAny_of_tree ?_)
 show wpAny _ _ (callAny (.type "set") _) _ _ _
 refine wpAny_pure ⟨Code.quiet_builtin _ (by decide +kernel),codeAny_builtin F.entry_type_call ?_⟩
 rw[Around.under_plain (weight_type_call_type "set" [.ref l] []) rfl]
 repeat (any_goals (first|assumption|wp_step))
 refine codeAny_mono (code_set_new_1 (.ref l) (E:=E) (Q₁:=fun x s1=>∃led,x=.ref s.heap.objs.size/\s1={s with heap:=s.heap.push (fO led)}) fun led=>⟨led,rfl,rfl⟩) fun r s1 hr=>?_
 rcases r with e|fl
 ·exact hr
 cases fl with
 |ret obj=>
  obtain⟨led,rfl,rfl⟩:=hr
  have g0:(s.heap.push (fO led)).get? s.heap.objs.size=some (fO led):=Heap.get?_push_size _ rfl
  have ty:Shared.TypeIs {s with heap:=s.heap.push (fO led)} (.ref s.heap.objs.size) "set":=⟨_,g0,rfl⟩
  have lk:=F.called_set.init.lookup
  have bd:=F.called_set.init.bind (.ref s.heap.objs.size)
  repeat (any_goals (first|assumption|wp_step))
  refine codeAny_mono (codeAny_call_builtin (R:=wants (fun r s2=>r=.none/\∃h' tk,s2={s with heap:=h',toks:=tk}/\SetAt h' s.heap.objs.size (qs.map pHI) items.size/\∀b o,s.heap.get? b=some o->h'.get? b=some o) E) F.called_set.init.plain F.entry_set_init (check_set_init_1 ty ?_)) fun r2 s2 hr2=>?_
  ·obtain⟨ol,hol,hc1,nl,hd1⟩:=hl
   obtain⟨k1,k2,k3,k4⟩:=ol
   simp only at hc1 hd1
   subst hc1;subst hd1
   have hol':(s.heap.push (fO led)).get? l=some {cls:=.type "list",dict:=k2,data:=.seq items nl,slots:=k4}:=Heap.get?_push_of_some _ hol
   have u1:=F.sub_list_set
   have u2:=F.sub_list_frozenset
   have u3:(Value.type "list" == Value.type "dict")=false:=by decide
   have il:(s.heap.push (fO led)).IsList l items:=⟨_,hol',rfl,nl,rfl⟩
   unfold Builtin.«set.__init__» noKeywords Builtin.Frozenset.updateFrom
   generalize hPI:pyIter=PI
   wp_walk
   subst hPI
   refine wpAny_pyIter_list il (wpAny_bind (wpAny_runValue ?_))
   have lS:l<s.heap.objs.size:=Heap.lt_size hol
   have h3:A.in1.in1.in1.handled=none:=by simp[hh]
   have sz:(s.heap.push (fO led)).objs.size=s.heap.objs.size+1:=Heap.size_push ..
   have hne:l≠(s.heap.push (fO led)).objs.size:=by rw[sz];exact aaE (abw lS)
   have lt:∀(j:Nat)(b:Addr),bs[j]?=some b->b<s.heap.objs.size:=fun j b h=>by
    have hj:=(aaA.mp h).1
    have hlb:bs.length=items.size:=by have:=congrArg abe hi;rw[aac,Array.length_toList]at this;exact this.symm
    obtain⟨o,_,_,e,_⟩:=hk j b _ h (aan (show j<qs.length by omega))
    exact Heap.lt_size e
   refine NS ((Walks.list h3 _ l hne items).toS) s.heap.objs.size ?_ qs bs hlq ?_ (fun i v hv=>?_) (fun b hb=>?_) ?_ hinj hb (items.size-0) 0 _ (by omega) (aau _) ⟨⟨_,Heap.get?_push_size _ rfl,rfl,rfl⟩,il.push _⟩ ?_ (fun j b q h1 h2=>IsTupleKey.mov (hk j b q h1 h2) fun o e=>Heap.get?_push_of_some _ (Heap.get?_push_of_some _ e)) fun s' hm S'=>?_
   ·rw[sz];simp only[aaf,abO,or_false,not_or]
    exact⟨aaE (abz _),ab4 lS⟩
   ·have:=congrArg abe hi
    rw[aac,Array.length_toList]at this
    exact this.symm
   ·have hv:items[i]?=some v:=hv
    rw[<- Array.getElem?_toList,hi,aal]at hv
    obtain⟨b,hb,e⟩:=aax.mp hv
    exact⟨b,hb,e.symm⟩
   ·obtain⟨j,hj⟩:=acM hb
    have:=lt j b hj
    refine⟨aaE this,?_⟩
    simp only[aaf,abO,or_false]
    rw[sz];exact aaE (abw this)
   ·show A.units+1+1+1<cLine
    omega
   ·exact⟨_,#[],0,_,Heap.get?_push_of_some _ g0,⟨rfl,rfl,rfl⟩,rfl,TY led,rfl,fun e he=>by cases he⟩
   ·obtain⟨h',g',d',tk',os'⟩:=s'
    obtain rfl:g'=s.gens:=hm.gens
    obtain rfl:d'=s.drawn:=hm.drawn
    obtain rfl:os'=s.os:=hm.os
    show wpAny _ _ _ _ _ _
    refine wpAny_pure ?_
    show wpAny _ _ (ret Value.none) _ _ _
    refine wpAny_pure ⟨rfl,h',tk',rfl,S',fun b o e=>?_⟩
    have hb:=Heap.lt_size e
    refine hm.heap b o ?_ (Heap.get?_push_of_some _ (Heap.get?_push_of_some _ e))
    simp only[aaf,abO,or_false,not_or]
    rw[sz]
    exact⟨aaE hb,aaE (abw hb)⟩
  ·rcases r2 with e|fl2
   ·exact hr2
   cases fl2 with
   |ret r=>
    obtain⟨rfl,h',tk,rfl,S',kp⟩:=hr2
    repeat (any_goals (first|assumption|wp_step))
    exact hq _ _ S' kp
   |_=>exact hr2.elim
 |_=>exact hr.elim
end
end Pt
end
section
namespace Pu
open PySem PySem.Spec PyProof.Rows PySem.W L2
abbrev NT(a:Addr)(n:Nat):HO:=.ext fun h=>∃hs,Pt.SetAt h a hs n
section
variable{X:Cx}
theorem OI:∀{Cs:List Addr}{its:List Value},Vals (Cs.map V.ref) its->its=Cs.map Value.ref
 |[],its,h=>by cases h;rfl
 |C::r,its,h=>by
  cases h with
  |cons h1 h2=>rw[OI (Cs:=r) h2,show _=Value.ref C from h1];rfl
abbrev Ta:List V->Hp->VK->Prop:=fun xs H Q=>∃(l:Addr)(qs:List (Addr×Int×Int)),xs=[.ref l]/\Rd H l (.lst (qs.map fun q=>.ref q.1))/\(∀q∈qs,H q.1=some (.tup [.int q.2.1,.int q.2.2]))/\qs.length<=1000/\((qs.map fun q=>q.2).map Pt.pHI).Nodup/\∀a,H a=none->Q (.ref a) (L2.upd H a (NT a qs.length))
theorem MA(hc:X.calm=true)(hu:X.A.units+64<cLine):CF X (.type "set") Ta:=by
 intro pins s σ H xs us Q I r h
 obtain⟨l,qs,rfl,hl,ht,hn,hinj,q⟩:=h
 obtain⟨u,rfl,ru⟩:=r.one
 cases (show u=Value.ref l from ru)
 obtain⟨its,rv,pl,hz⟩:=I.list (.inl hl)
 have e1:(qs.map fun q=>V.ref q.1)=(qs.map (·.1)).map V.ref:=by rw[aaJ];rfl
 rw[e1]at rv
 have e2:=OI rv
 have hlen:its.toArray.size=qs.length:=by rw[aaq,e2,aac,aac]
 refine Pt.set_pairs (I.ok.hd hc) (by omega) pl.isList (bs:=qs.map (·.1)) (qs:=qs.map fun q=>q.2) (by simpa using e2) (by rw[aac,hlen]) (by rw[hlen];exact hn) (fun j b q hb hq=>?_) hinj fun h' tk S kp=>?_
 ·rw[aal]at hb hq
  obtain⟨x,hx,rfl⟩:=aax.mp hb
  rw[hx]at hq
  cases hq
  obtain⟨_,its2,rv2,o,ho,hcl,n,hd⟩:=I.hok x.1 _ (ht x (aae hx))
  refine⟨o,its2.toArray,n,ho,hcl,hd,?_⟩
  obtain⟨v1,v2,rfl,r1,r2⟩:=rv2.two
  obtain⟨t1,rfl⟩:=r1
  obtain⟨t2,rfl⟩:=r2
  exact .cons (by simp[intKind,Value.isInt]) (.cons (by simp[intKind,Value.isInt]) .nil)
 ·rw[hlen]at S
  refine⟨.ref s.heap.objs.size,L2.upd H s.heap.objs.size (NT s.heap.objs.size qs.length),I.laid (t':=tk) kp (aaj _) ⟨⟨_,S⟩,?_,fun h1 h2 ⟨hs,S1⟩ e=>⟨hs,S1.mov e⟩⟩,rfl,q _ I.fresh⟩
  obtain⟨o,_,_,_,ho,_⟩:=S
  exact⟨o,ho⟩
theorem MB:CF X (.builtin "len") (fun xs H Q=>∃a n,xs=[.ref a]/\H a=some (NT a n)/\n<=1000/\Q (.int n) H):=by
 intro pins s σ H xs us Q I r h
 obtain⟨a,n,rfl,ha,hn,q⟩:=h
 obtain⟨u,rfl,ru⟩:=r.one
 cases (show u=Value.ref a from ru)
 obtain⟨⟨hs,o,es,ep,t,ho,hex,hd,T,rfl,_⟩,_⟩:=I.hok a _ ha
 exact call_len_set ho hex hd T.fits (by omega) ⟨.int _,H,I.tok _,⟨_,rfl⟩,q⟩
end
theorem E4{α β:Type}{f:α->β}:∀{l:List α},(∀x∈l,∀y∈l,f x=f y->x=y)->l.Nodup->(l.map f).Nodup
 |[],_,_=>acg
 |x::l,h,n=>by
  obtain⟨n1,n2⟩:=aat.mp n
  rw[aaG,aat]
  refine⟨fun hm=>?_,E4 (fun a ha b hb=>h a (aaa _ ha) b (aaa _ hb)) n2⟩
  obtain⟨y,hy,e⟩:=aaD.mp hm
  exact n1 (by rw[<- h y (aaa _ hy) x aab e];exact hy)
theorem PV{x y:Int×Int}(hx:E0 x=true)(hy:E0 y=true)(h:Pt.pHI x=Pt.pHI y):x=y:=by
 obtain⟨a,b⟩:=x
 obtain⟨c,d⟩:=y
 have hx:=of_decide_eq_true hx
 have hy:=of_decide_eq_true hy
 dsimp only at hx hy
 obtain⟨l,rfl⟩:∃l:Nat,a=l:=⟨a.toNat,by omega⟩
 obtain⟨j,rfl⟩:∃l:Nat,b=l:=⟨b.toNat,by omega⟩
 obtain⟨l',rfl⟩:∃l:Nat,c=l:=⟨c.toNat,by omega⟩
 obtain⟨j',rfl⟩:∃l:Nat,d=l:=⟨d.toNat,by omega⟩
 unfold Pt.pHI at h
 dsimp only at h
 rw[Pt.hash_int (by omega),Pt.hash_int (by omega),Pt.hash_int (by omega),Pt.hash_int (by omega)]at h
 obtain⟨e1,e2⟩:=Pt.pH_inj (by omega) (by omega) (by omega) (by omega) h
 rw[e1,e2]
structure ItOk(p:Px)(B:Addr->Prop)(H H1:Hp)(J:L2.It)(us:List T)(j:Nat)(ds:List D):Prop where
 same:Same H H1
 ok:T.Oks p H1 us
 src:∀a∈T.rests us j,H a=none\/B a
 len:ds.length<=sizeLine
 go:∀(i:Nat)(H':Hp),T.Oks p H' us->i<ds.length->J.go i H'
 stop:∀(i:Nat)(H':Hp),T.Oks p H' us->ds.length<=i->J.stop i H'
 yld:∀(i:Nat)(H':Hp)(v:V)(H'':Hp)(d:D),T.Oks p H' us->ds[i]?=some d->J.yld i H' v H''->Same H' H''/\∃t:T,t.val=v/\t.dat=d/\t.Ok p H''/\(∀a∈t.rest 0,a∈T.rests us 0)/\∀a∈t.rest 0,H a=none\/B a
abbrev lI(p:Px)(EX:EXT)(tn:List Nat)(it:It):TI:=fun σ H R=>∃τ,σ=vτ τ/\Fok p tn τ H/\∃j,jkI tn it=some j/\Lg p EX σ (evI it (dτ τ)) H fun ds=>∀J us H1,ItOk p (Sh tn τ) H H1 J us j ds->R J H1
theorem PI.mono{X:Cx}{tg e:Expr}{t t':TI}(h:PI X tg e t)(m:∀σ H Q,t' σ H Q->t σ H Q):PI X tg e t':=fun pins s σ H Q I q=>h pins s σ H Q I (m _ _ _ q)
section
variable{p:Px}{EX:EXT}{tn:List Nat}{X:Cx}{pos np:Pos}{tg:Expr}
theorem EA{ts:List T}{i:Nat}{d:D}(h:(T.dats ts)[i]?=some d):∃t,ts[i]?=some t/\t.dat=d:=by
 rw[T.dats_map,aal]at h
 obtain⟨t,h1,h2⟩:=aax.mp h
 exact⟨t,h1,h2⟩
theorem E5(hK:X.K=p.K){B:Addr->Prop}{H H1:Hp}{j k:Nat}{a:Addr}{ts:List T}(r:Rs p B H H1 j k (.lst a ts))(hj:j<=1)(hl:ts.length<=sizeLine):ItOk p B H H1 (Itl X.K a) [.lst a ts] j (T.dats ts) where
 same:=r.same
 ok:=⟨r.ok,trivial⟩
 src:=fun b m=>r.src b (by simpa[T.rests] using m)
 len:=by rw[Aj];exact hl
 go:=fun i H' ok h=>by
  rw[Aj]at h
  exact⟨_,(ts.map T.val)[i]'(by simpa using h),.inl ok.1.1,by simp[h]⟩
 stop:=fun i H' ok h=>⟨_,.inl ok.1.1,by simpa[Aj] using h⟩
 yld:=fun i H' v H'' d ok h y=>by
  obtain⟨rfl,y⟩:=y
  obtain⟨t,ht,e⟩:=EA h
  have:=y _ (.inl ok.1.1)
  rw[aal,ht]at this
  refine⟨Same.refl _,t,Option.some.inj this,e,T.oks_iff.mp ok.1.2 t (aae ht),fun b m=>by simp only[T.rests,T.rest,aaO];exact aaa _ (T.mem_rests.mpr ⟨t,aae ht,m⟩),fun b m=>r.elems hj b (T.mem_rests.mpr ⟨t,aae ht,m⟩)⟩
theorem NU{B:Addr->Prop}{H H1:Hp}{k:Nat}{a:Addr}{ts:List T}(r:Rs p B H H1 0 k (.tup a ts))(hl:ts.length<=sizeLine):ItOk p B H H1 (Itt X.K a) [.tup a ts] 0 (T.dats ts) where
 same:=r.same
 ok:=⟨r.ok,trivial⟩
 src:=fun b m=>r.src b (by simpa[T.rests] using m)
 len:=by rw[Aj];exact hl
 go:=fun i H' ok h=>by
  rw[Aj]at h
  exact⟨_,(ts.map T.val)[i]'(by simpa using h),SqT.of ok.1.1,by simp[h]⟩
 stop:=fun i H' ok h=>⟨_,SqT.of ok.1.1,by simpa[Aj] using h⟩
 yld:=fun i H' v H'' d ok h y=>by
  obtain⟨rfl,y⟩:=y
  obtain⟨t,ht,e⟩:=EA h
  have:=y _ (SqT.of ok.1.1)
  rw[aal,ht]at this
  refine⟨Same.refl _,t,Option.some.inj this,e,T.oks_iff.mp ok.1.2 t (aae ht),fun b m=>by simp only[T.rests,T.rest,aaO];exact T.mem_rests.mpr ⟨t,aae ht,m⟩,fun b m=>r.src b (T.mem_rests.mpr ⟨t,aae ht,m⟩)⟩
abbrev TZ(K:Frag)(tl:TE):TI:=fun σ H R=>tl σ H fun x H1=>∃a,x=.ref a/\((∃xs,SqL K H1 a xs/\(xs.length<=sizeLine->R (Itl K a) H1))\/(∃xs,SqT K H1 a xs/\(xs.length<=sizeLine->R (Itt K a) H1)))
theorem IM{l:Expr}{tl:TE}(hl:PE X l tl):PI X tg l (TZ X.K tl):=by
 intro pins s σ H R I h
 refine thn (hl pins s σ H _ I h) fun v s1 ⟨x,H1,I1,r1,q1⟩=>?_
 obtain⟨a,e,q1⟩:=q1
 subst e
 cases r1
 rcases q1 with⟨xs,hq,q⟩|⟨xs,hq,q⟩
 ·obtain⟨its,rv,pl,hz⟩:=I1.list hq
  refine wpAny_pyIter_list pl.isList ?_
  refine⟨s1.heap.objs.size,[s1.heap.objs.size],_,_,H1,rfl,I1.kept (t':=s1.toks) fun b o e=>Heap.get?_push_of_some _ e,LP a _,⟨_,Heap.get?_push_size _ rfl,rfl,rfl⟩,fun b hb=>?_,q hz⟩
  have e:b=s1.heap.objs.size:=by simpa using hb
  subst e
  exact I1.fpOk (aaj _) (I1.hok.fresh (aaj _))
 ·obtain⟨its,rv,pl,hz⟩:=I1.tuple hq
  refine wpAny_pyIter_tuple (show s1.heap.IsTuple a its.toArray from pl) ?_
  refine⟨s1.heap.objs.size,[s1.heap.objs.size],_,_,H1,rfl,I1.kept (t':=s1.toks) fun b o e=>Heap.get?_push_of_some _ e,KA a _,⟨_,Heap.get?_push_size _ rfl,rfl,rfl⟩,fun b hb=>?_,q hz⟩
  have e:b=s1.heap.objs.size:=by simpa using hb
  subst e
  exact I1.fpOk (aaj _) (I1.hok.fresh (aaj _))
theorem NV(hK:X.K=p.K){e:Expr}{x:E}(he:PE X e (lE p EX tn x)):PI X tg e (lI p EX tn (.seq x)):=by
 refine PI.mono (IM he) fun σ H R h=>?_
 obtain⟨τ,rfl,hF,j,hj,h⟩:=h
 simp only[jkI]at hj
 obtain⟨⟨j1,k1⟩,h1,hj⟩:=bS hj
 split at hj
 ·rename_i z
  cases hj
  have z:j1=0:=z
  subst z
  simp only[evI]at h
  refine l1 hF h1 h fun d t H1 ht r h=>?_
  subst ht
  cases t with
  |lst a ts=>exact⟨a,rfl,.inl ⟨_,.inl r.ok.1,fun hz=>h _ _ _ (E5 hK r (by omega) (by simpa using hz))⟩⟩
  |tup a ts=>exact⟨a,rfl,.inr ⟨_,SqT.of r.ok.1,fun hz=>h _ _ _ (NU r (by simpa using hz))⟩⟩
  |_=>exact nE h
 ·cases hj
theorem MC(hK:X.K=p.K){e:Expr}{x:E}(he:PE X e (lE p EX tn x)):PI X tg e (lI p EX tn (.seqL x)):=by
 refine PI.mono (IM he) fun σ H R h=>?_
 obtain⟨τ,rfl,hF,j,hj,h⟩:=h
 simp only[jkI]at hj
 obtain⟨⟨j1,k1⟩,h1,hj⟩:=bS hj
 split at hj
 ·rename_i z
  cases hj
  simp only[evI]at h
  refine l1 hF h1 h fun d t H1 ht r h=>?_
  subst ht
  cases t with
  |lst a ts=>exact⟨a,rfl,.inl ⟨_,.inl r.ok.1,fun hz=>h _ _ _ (E5 hK r z (by simpa using hz))⟩⟩
  |_=>exact nE h
 ·cases hj
theorem Gq{B:Addr->Prop}{H H1:Hp}{a b:Int}(s:Same H H1)(hl:(b-a).toNat<=LIM):ItOk p B H H1 (Itr a (b-a).toNat) [] 0 (Al a b) where
 same:=s
 ok:=trivial
 src:=fun c m=>nomatch m
 len:=by unfold Al;rw[aac,aa1];exact hl
 go:=fun i H' _ h=>by unfold Al at h;rw[aac,aa1]at h;exact h
 stop:=fun i H' _ h=>by unfold Al at h;rw[aac,aa1]at h;exact h
 yld:=fun i H' v H'' d _ h y=>by
  obtain⟨rfl,rfl⟩:=y
  unfold Al at h
  rw[aal]at h
  obtain⟨n,h1,h2⟩:=aax.mp h
  have:n=i:=by
   obtain⟨_,e⟩:=aaA.mp h1
   simpa using e.symm
  subst this
  exact⟨Same.refl _,.int (a+n),rfl,h2,trivial,by simp[T.rest],by simp[T.rest]⟩
theorem A8{i:Int}(h:Bu i=true):-(2^62)<=i/\i<2^62:=by
 unfold Bu at h
 rw[aag]at h
 exact⟨of_decide_eq_true h.1,of_decide_eq_true h.2⟩
theorem PX{e:Expr}{x:E}(he:PE X e (lE p EX tn x))(hst:Ah e=true)(hg:Gl X "range")(hm:X.mg "range" = none):PI X tg (.Call (.Name "range" np) [e] [] pos) (lI p EX tn (.r1 x)):=by
 refine PI.mono (LQ hg hm (Bc he CG (Am hst)) (Am hst)) fun σ H R h=>?_
 obtain⟨τ,rfl,hF,j,hj,h⟩:=h
 simp only[jkI]at hj
 obtain⟨⟨j1,k1⟩,h1,hj⟩:=bS hj
 cases hj
 simp only[evI]at h
 refine l1 hF h1 h fun d t H1 ht r h=>?_
 subst ht
 cases t with
 |int b=>
  obtain⟨hc,h⟩:=Lg.guard (r:=.ok (Al 0 b)) h
  rw[aag,aag]at hc
  obtain⟨h3,h4⟩:=A8 hc.1.2
  have hl:=of_decide_eq_true hc.2
  have:=h _ _ _ (Gq (p:=p) r.same hl)
  rw[ab9]at this
  exact⟨b,rfl,h3,h4,this⟩
 |_=>exact nE h
theorem PY{e e':Expr}{x y:E}(he:PE X e (lE p EX tn x))(he':PE X e' (lE p EX tn y))(hst:Ah e=true)(hst':Ah e'=true)(hg:Gl X "range")(hm:X.mg "range" = none):PI X tg (.Call (.Name "range" np) [e,e'] [] pos) (lI p EX tn (.r2 x y)):=by
 refine PI.mono (LR hg hm (Bc he (Bc he' CG (Am hst')) (Am hst)) (by rw[Am hst,Am hst'];rfl) (Am hst')) fun σ H R h=>?_
 obtain⟨τ,rfl,hF,j,hj,h⟩:=h
 simp only[jkI]at hj
 obtain⟨⟨j1,k1⟩,h1,hj⟩:=bS hj
 obtain⟨⟨j2,k2⟩,h2,hj⟩:=bS hj
 cases hj
 simp only[evI]at h
 refine l1 hF h1 h fun d t H1 ht r h=>l2 hF r.same h2 h fun d' t' H2 ht' r' h=>?_
 subst ht ht'
 cases t with
 |int a=>
  cases t' with
  |int b=>
   obtain⟨hc,h⟩:=Lg.guard (r:=.ok (Al a b)) h
   rw[aag,aag]at hc
   exact⟨a,b,rfl,⟨(A8 hc.1.1).1,(A8 hc.1.1).2,(A8 hc.1.2).1,(A8 hc.1.2).2⟩,h _ _ _ (Gq (p:=p) (r.same.trans r'.same) (of_decide_eq_true hc.2))⟩
  |_=>exact nE h
 |_=>exact nE h
theorem Res.bind_assoc{α β γ:Type}(r:Res α)(f:α->Res β)(g:β->Res γ):(r.bind f).bind g=r.bind fun a=>(f a).bind g:=by cases r<;>rfl
theorem MD(hcm:X.calm=true){e e':Expr}{x y:E}{np2 pos2:Pos}(he:PE X e (lE p EX tn x))(he':PE X e' (lE p EX tn y))(hst:Ah e=true)(hst':Ah e'=true)(hgl:Gl X "list")(hml:X.mg "list" = none)(hg:Gl X "range")(hm:X.mg "range" = none):PE X (.Call (.Name "list" np) [.Call (.Name "range" np2) [e,e'] [] pos2] [] pos) (lE p EX tn (.listI (.r2 x y))):=by
 refine PE.mono (NB hcm hgl hml hg hm (Bc he (Bc he' CG (Am hst')) (Am hst)) (by rw[Am hst,Am hst'];rfl) (Am hst')) fun σ H Q h=>?_
 obtain⟨τ,rfl,hF,j,k,hj,h⟩:=h
 simp only[jk,jkI]at hj
 obtain⟨j0,hj0,hj⟩:=bS hj
 obtain⟨⟨j1,k1⟩,h1,hj0⟩:=bS hj0
 obtain⟨⟨j2,k2⟩,h2,hj0⟩:=bS hj0
 cases hj
 simp only[ev,evI,Res.bind_assoc]at h
 refine l1 hF h1 h fun d t H1 ht r h=>l2 hF r.same h2 h fun d' t' H2 ht' r' h=>?_
 subst ht ht'
 cases t with
 |int a=>
  cases t' with
  |int b=>
   have h:Lg p EX (vτ τ) ((if(Bu a&&Bu b&&decide ((b-a).toNat<=LIM))=true then Res.ok (Al a b) else .bad).bind fun ds=>.ok (.lst ds)) H (KE p (Sh tn τ) H 0 1 Q):=h
   by_cases hc:(Bu a&&Bu b&&decide ((b-a).toNat<=LIM))=true
   ·rw[if_pos hc,Res.bind_ok]at h
    rw[aag,aag]at hc
    refine⟨a,b,rfl,⟨(A8 hc.1.1).1,(A8 hc.1.1).2,(A8 hc.1.2).1,(A8 hc.1.2).2⟩,of_decide_eq_true hc.2,fun l hl=>?_⟩
    have e:(aam (b-a).toNat).map (fun k=>V.int (a+(k:Nat)))=((aam (b-a).toNat).map fun k=>T.int (a+(k:Nat))).map T.val:=by rw[aaJ];rfl
    rw[e]
    refine h (.lst l ((aam (b-a).toNat).map fun k=>T.int (a+(k:Nat)))) _ ?_ (DR (r.same.trans r'.same) (T.oks_iff.mpr fun w hw=>?_) (fun c m=>?_) hl)
    ·rw[T.dat,T.dats_map,aaJ];rfl
    ·obtain⟨_,_,rfl⟩:=aaD.mp hw;trivial
    ·obtain⟨w,hw,m⟩:=T.mem_rests.mp m
     obtain⟨_,_,rfl⟩:=aaD.mp hw
     simp[T.rest]at m
   ·rw[if_neg hc]at h;exact nE h
  |_=>exact nE h
 |_=>exact nE h
theorem K7(hcm:X.calm=true){e':Expr}{y:E}{np2 pos2:Pos}(he':PE X e' (lE p EX tn y))(hst':Ah e'=true)(hgl:Gl X "list")(hml:X.mg "list" = none)(hg:Gl X "range")(hm:X.mg "range" = none):PE X (.Call (.Name "list" np) [.Call (.Name "range" np2) [e'] [] pos2] [] pos) (lE p EX tn (.listI (.r1 y))):=by
 refine PE.mono (Me hcm hgl hml hg hm (Bc he' CG (Am hst')) (Am hst')) fun σ H Q h=>?_
 obtain⟨τ,rfl,hF,j,k,hj,h⟩:=h
 simp only[jk,jkI]at hj
 obtain⟨j0,hj0,hj⟩:=bS hj
 obtain⟨⟨j2,k2⟩,h2,hj0⟩:=bS hj0
 cases hj
 simp only[ev,evI,Res.bind_assoc]at h
 refine l1 hF h2 h fun d' t' H2 ht' r' h=>?_
 subst ht'
 cases t' with
  |int b=>
   have h:Lg p EX (vτ τ) ((if(Bu 0&&Bu b&&decide ((b-0).toNat<=LIM))=true then Res.ok (Al 0 b) else .bad).bind fun ds=>.ok (.lst ds)) H (KE p (Sh tn τ) H 0 1 Q):=h
   by_cases hc:(Bu 0&&Bu b&&decide ((b-0).toNat<=LIM))=true
   ·rw[if_pos hc,Res.bind_ok]at h
    rw[aag,aag]at hc
    refine⟨b,rfl,⟨(A8 hc.1.2).1,(A8 hc.1.2).2⟩,of_decide_eq_true hc.2,fun l hl=>?_⟩
    have e:(aam (b-0).toNat).map (fun k=>V.int (0+(k:Nat)))=((aam (b-0).toNat).map fun k=>T.int (0+(k:Nat))).map T.val:=by rw[aaJ];rfl
    rw[e]
    refine h (.lst l ((aam (b-0).toNat).map fun k=>T.int (0+(k:Nat)))) _ ?_ (DR r'.same (T.oks_iff.mpr fun w hw=>?_) (fun c m=>?_) hl)
    ·rw[T.dat,T.dats_map,aaJ];rfl
    ·obtain⟨_,_,rfl⟩:=aaD.mp hw;trivial
    ·obtain⟨w,hw,m⟩:=T.mem_rests.mp m
     obtain⟨_,_,rfl⟩:=aaD.mp hw
     simp[T.rest]at m
   ·rw[if_neg hc]at h;exact nE h
  |_=>exact nE h
end
abbrev BM:List Nat->List T->Ft->Option Ft
 |[],[],τ=>some τ
 |i::is,t::ts,τ=>BM is ts (τ.set i (some t))
 |_,_,_=>none
abbrev Cj:Tg->T->Ft->Option Ft
 |.nm i,t,τ=>some (τ.set i (some t))
 |.tp is,.tup _ ts,τ=>BM is ts τ
 |.tp is,.lst _ ts,τ=>BM is ts τ
 |_,_,_=>none
theorem Fo(τ:Ft)(i:Nat)(t:T):dτ (τ.set i (some t))=(dτ τ).set i (some t.dat):=by unfold dτ;rw[acs];rfl
theorem Fp(τ:Ft)(i:Nat)(t:T):vτ (τ.set i (some t))=(vτ τ).set i (some t.val):=by unfold vτ;rw[acs];rfl
theorem Gr:∀(is:List Nat)(ts:List T)(τ:Ft),Ef is (T.dats ts) (dτ τ)=(BM is ts τ).map dτ
 |[],[],τ=>rfl
 |[],t::ts,τ=>rfl
 |i::is,[],τ=>rfl
 |i::is,t::ts,τ=>by simp only[T.dats,Ef,BM];rw[<- Fo,Gr is ts]
theorem E6(g:Tg)(t:T)(τ:Ft):Di g t.dat (dτ τ)=(Cj g t τ).map dτ:=by
 cases g with
 |nm i=>simp only[Di,Cj,aaY,Fo]
 |tp is=>cases t<;>first|rfl|exact Gr is _ τ
abbrev Ck:List Nat->TGs
 |[]=>QZ
 |i::r=>Ow (Eu i) (Ck r)
abbrev lG(K:Frag):Tg->TG
 |.nm i=>Eu i
 |.tp is=>fun v σ H Q=>Q0 K is.length (Ck is) v σ H Q\/Rr K is.length (Ck is) v σ H Q
theorem E7{H:Hp}{Q:L2.St->Hp->Prop}:∀{is:List Nat}{ts:List T}{τ τ':Ft},BM is ts τ=some τ'->Q (vτ τ') H->Ck is (ts.map T.val) (vτ τ) H Q
 |[],[],τ,τ',h,q=>by cases h;exact⟨rfl,q⟩
 |[],t::ts,τ,τ',h,q=>by cases h
 |i::is,[],τ,τ',h,q=>by cases h
 |i::is,t::ts,τ,τ',h,q=>by
  refine⟨t.val,ts.map T.val,rfl,?_⟩
  show Ck is (ts.map T.val) ((vτ τ).set i (some t.val)) H Q
  rw[<- Fp]
  exact E7 (τ:=τ.set i (some t)) h q
theorem Ea:∀{is:List Nat}{ts:List T}{τ τ':Ft},BM is ts τ=some τ'->ts.length=is.length
 |[],[],τ,τ',h=>rfl
 |[],t::ts,τ,τ',h=>by cases h
 |i::is,[],τ,τ',h=>by cases h
 |i::is,t::ts,τ,τ',h=>by simp[Ea (is:=is) (ts:=ts) (τ:=τ.set i (some t)) h]
theorem K8{K:Frag}{p:Px}{H:Hp}{g:Tg}{t:T}{τ τ':Ft}{Q:L2.St->Hp->Prop}(ok:t.Ok p H)(h:Cj g t τ=some τ')(q:Q (vτ τ') H):lG K g t.val (vτ τ) H Q:=by
 cases g with
 |nm i=>
  cases h
  show Q ((vτ τ).set i (some t.val)) H
  rw[<- Fp];exact q
 |tp is=>
  cases t with
  |tup a ts=>exact .inl ⟨a,ts.map T.val,rfl,SqT.of ok.1,by rw[aac];exact Ea h,E7 h q⟩
  |lst a ts=>exact .inr ⟨a,ts.map T.val,rfl,.inl ok.1,by rw[aac];exact Ea h,E7 h q⟩
  |_=>cases h
abbrev Tg.sl:Tg->List Nat
 |.nm i=>[i]
 |.tp is=>is
theorem Eb{n:Nat}{H:Hp}{Q:L2.St->Hp->Prop}:∀{is:List Nat}{vs:List V}{σ:L2.St},(∀i∈is,i<n)->Ck is vs σ H Q->Ck is vs σ H fun σ' H'=>Q σ' H'/\σ'.length=σ.length/\∀i,n<=i->σ'[i]?=σ[i]?
 |[],vs,σ,_,h=>by obtain⟨e,q⟩:=h;exact⟨e,q,rfl,fun _ _=>rfl⟩
 |i::is,vs,σ,hi,h=>by
  obtain⟨v,r,e,h⟩:=h
  refine⟨v,r,e,?_⟩
  have h2:=Eb (n:=n) (is:=is) (σ:=σ.set i (some v)) (fun j hj=>hi j (aaa _ hj)) h
  have mono:∀{is:List Nat}{vs:List V}{σ:L2.St}{H:Hp}{A B:L2.St->Hp->Prop},(∀s h,A s h->B s h)->Ck is vs σ H A->Ck is vs σ H B:=by
   intro is
   induction is with
   |nil=>intro vs σ H A B m h;exact⟨h.1,m _ _ h.2⟩
   |cons i is ih=>
    intro vs σ H A B m h
    obtain⟨v,r,e,h⟩:=h
    exact⟨v,r,e,ih m h⟩
  refine mono (fun s h q=>⟨q.1,by rw[q.2.1,aa4],fun k hk=>?_⟩) h2
  rw[q.2.2 k hk,aaz (by have:=hi i (aab ..);omega)]
theorem Ka{K:Frag}{n:Nat}{g:Tg}(hg:∀i∈g.sl,i<n){v:V}{σ:L2.St}{H:Hp}{Q:L2.St->Hp->Prop}(h:lG K g v σ H Q):lG K g v σ H fun σ' H'=>Q σ' H'/\σ'.length=σ.length/\∀i,n<=i->σ'[i]?=σ[i]?:=by
 cases g with
 |nm i=>exact⟨h,by rw[aa4],fun k hk=>by rw[aaz (by have:=hg i (aaZ.mpr rfl);omega)]⟩
 |tp is=>
  rcases h with⟨a,xs,e,s,l,h⟩|⟨a,xs,e,s,l,h⟩
  ·exact .inl ⟨a,xs,e,s,l,Eb hg h⟩
  ·exact .inr ⟨a,xs,e,s,l,Eb hg h⟩
theorem Ec{P:Option T->Prop}:∀{is:List Nat}{ts:List T}{τ τ':Ft},BM is ts τ=some τ'->(∀t∈ts,P (some t))->∀i o,τ'[i]?=some o->P o\/(i∉is/\τ[i]?=some o)
 |[],[],τ,τ',h,_,i,o,e=>by cases h;exact .inr ⟨by simp,e⟩
 |[],t::ts,τ,τ',h,_,_,_,_=>by cases h
 |i::is,[],τ,τ',h,_,_,_,_=>by cases h
 |i::is,t::ts,τ,τ',h,hp,j,o,e=>by
  rcases Ec (P:=P) (is:=is) (ts:=ts) (τ:=τ.set i (some t)) h (fun u hu=>hp u (aaa _ hu)) j o e with q|⟨q1,q2⟩
  ·exact .inl q
  ·by_cases z:i=j
   ·subst z
    rw[abn ]at q2
    cases w:τ[i]? with
    |none=>rw[w]at q2;cases q2
    |some x=>
     rw[w]at q2
     have:o=some t:=by simpa using q2.symm
     subst this
     exact .inl (hp t (aab ..))
   ·rw[aaz z]at q2
    refine .inr ⟨?_,q2⟩
    intro m
    rcases aaf.mp m with rfl|m
    ·exact z rfl
    ·exact q1 m
theorem Gs{P:Option T->Prop}{g:Tg}{t:T}{τ τ':Ft}(h:Cj g t τ=some τ')(hp:P (some t))(hp':∀a ts,(t=.tup a ts\/t=.lst a ts)->∀u∈ts,P (some u))(i:Nat)(o:Option T)(e:τ'[i]?=some o):P o\/(i∉g.sl/\τ[i]?=some o):=by
 cases g with
 |nm k=>
  cases h
  by_cases z:k=i
  ·subst z
   rw[abn]at e
   cases w:τ[k]? with
   |none=>rw[w]at e;cases e
   |some x=>
    rw[w]at e
    have:o=some t:=by simpa using e.symm
    subst this;exact .inl hp
  ·rw[aaz z]at e
   exact .inr ⟨by simpa[Tg.sl] using fun q=>z q.symm,e⟩
 |tp is=>
  cases t with
  |tup a ts=>exact Ec (P:=P) h (fun u hu=>hp' a ts (.inl rfl) u hu) i o e
  |lst a ts=>exact Ec (P:=P) h (fun u hu=>hp' a ts (.inr rfl) u hu) i o e
  |_=>cases h
theorem Ei:∀{is:List Nat}{ts:List T}{τ τ':Ft},BM is ts τ=some τ'->τ'.length=τ.length
 |[],[],τ,τ',h=>by cases h;rfl
 |[],t::ts,τ,τ',h=>by cases h
 |i::is,[],τ,τ',h=>by cases h
 |i::is,t::ts,τ,τ',h=>by rw[Ei (is:=is) (ts:=ts) (τ:=τ.set i (some t)) h,aa4]
theorem HP{g:Tg}{t:T}{τ τ':Ft}(h:Cj g t τ=some τ'):τ'.length=τ.length:=by
 cases g with
 |nm k=>cases h;rw[aa4]
 |tp is=>cases t<;>first|cases h|exact Ei h
abbrev FS(nl:Nat)(fr:List Nat)(τ:Ft):Ft:=aak nl none++fr.map fun j=>(τ[j]?).join
theorem PZ(nl:Nat)(fr:List Nat)(τ:Ft):dτ (FS nl fr τ)=blk nl fr (dτ τ):=by
 unfold dτ FS blk
 rw[aap,abj,aaJ]
 congr 1
 refine abc fun j _=>?_
 simp only[Function.comp,aal]
 cases τ[j]? with
 |none=>rfl
 |some o=>rfl
theorem P0(nl:Nat)(fr:List Nat)(τ:Ft):vτ (FS nl fr τ)=CH nl fr (vτ τ):=by
 unfold vτ FS CH
 rw[aap,abj,aaJ]
 congr 1
 refine abc fun j _=>?_
 simp only[Function.comp,aal]
 cases τ[j]? with
 |none=>rfl
 |some o=>rfl
@[reducible]noncomputable def tnB(nl:Nat)(fr:List Nat)(tn:List Nat):List Nat:=aak nl 0++fr.map fun j=>tn.getD j 99
theorem Kb{nl:Nat}{fr:List Nat}{tn:List Nat}{τ:Ft}{i:Nat}{t:T}{j:Nat}(h:(FS nl fr τ)[i]?=some (some t))(hj:(tnB nl fr tn)[i]?=some j)(hlt:j<90):∃k:Nat,τ[k]?=some (some t)/\tn[k]?=some j:=by
 unfold FS at h
 unfold tnB at hj
 by_cases hi:i<nl
 ·rw[aa2 (by simpa using hi),aa9]at h
  split at h<;>cases h
 ·rw[aaP (by simpa using hi),abu,aal]at h hj
  obtain⟨k,e1,e2⟩:=aax.mp h
  rw[e1]at hj
  have e3:tn.getD k 99=j:=by simpa using hj
  refine⟨k,?_,?_⟩
  ·cases w:τ[k]? with
   |none=>rw[w]at e2;cases e2
   |some o=>rw[w]at e2;exact congrArg some e2
  ·rw[aaQ]at e3
   cases w:tn[k]? with
   |none=>rw[w]at e3;simp at e3;omega
   |some x=>rw[w]at e3;exact congrArg some e3
theorem T.nds_append{ts us:List T}{k:Nat}(h1:T.Nds ts k)(h2:T.Nds us k)(c1:∀a∈T.adrs ts k,a∉T.rests us 0)(c2:∀a∈T.adrs us k,a∉T.rests ts 0):T.Nds (ts++us) k:=by
 unfold T.Nds
 rw[T.adrs_append,T.rests_append]
 refine⟨ada.mpr ⟨h1.1,h2.1,fun a ha b hb e=>?_⟩,fun a ha hb=>?_⟩
 ·subst e;exact c1 a ha ((T.alls_iff us k).mpr (.inl hb))
 ·rcases aah.mp ha with ha|ha<;>rcases aah.mp hb with hb|hb
  ·exact h1.2 a ha hb
  ·exact c2 a hb ((T.alls_iff ts k).mpr (.inr ha))
  ·exact c1 a hb ((T.alls_iff us k).mpr (.inr ha))
  ·exact h2.2 a ha hb
theorem E8{f:D->Res (Option D)}:∀(ds:List D)(c:Nat),A7 f ds≠.exc c
 |[],c=>by simp[A7]
 |d::ds,c=>by
  simp only[A7]
  cases f d with
  |ok o=>
   simp only
   cases q:A7 f ds with
   |ok r=>simp
   |exc c'=>exact absurd q (E8 ds c')
   |bad=>simp
  |exc c'=>simp
  |bad=>simp
theorem JA{f:D->Res (Option D)}{d:D}{ds r:List D}(h:A7 f (d::ds)=.ok r):∃o r',f d=.ok o/\A7 f ds=.ok r'/\r=o.toList++r':=by
 simp only[A7]at h
 cases q:f d with
 |ok o=>
  rw[q]at h
  obtain⟨r',h1,h2⟩:=Res.bind_eq_ok h
  cases h2
  refine⟨o,r',rfl,h1,?_⟩
  cases o<;>rfl
 |exc c=>rw[q]at h;cases h
 |bad=>rw[q]at h;cases h
@[reducible]noncomputable def EX0:EXT:=fun _ _ _ _=>False
section
variable{p:Px}{EX:EXT}{tn:List Nat}{X:Cx}{pos np:Pos}
theorem P5{K:Frag}{nl:Nat}{fr:List Nat}{g:Tg}{it:It}{k:Nat}{f:D->Res (Option D)}{tc:TT}{elt:E}{τ:Ft}{H:Hp}{Q:VK}{ji:Nat}(hF:Fok p tn τ H)(hji:jkI tn it=some ji)(hg:∀i∈g.sl,i<nl)(hk:jk (tnB nl fr tn) elt=some (0,k))
  (hf:∀(d:D)(o:Option D),f d=.ok o->∃δ',Di g d (blk nl fr (dτ τ))=some δ'/\∀(τ4:Ft)(H3:Hp)(N:Bool->Hp->Prop),dτ τ4=δ'->Fok p (tnB nl fr tn) τ4 H3->
   (∀b H5,Same H3 H5->(match o with|none=>b=false|some x=>b=true/\ev elt δ'=.ok x)->N b H5)->tc (vτ τ4) H3 N)
  (h:Lg p EX (vτ τ) ((evI it (dτ τ)).bind fun ds=>(A7 f ds).bind fun r=>.ok (.lst r)) H (KE p (Sh tn τ) H 0 (k+1) Q)) :
  Gj nl fr (lI p EX tn it) (fun _=>lG K g) (fun _=>tc) (fun _=>lE p EX0 (tnB nl fr tn) elt) (vτ τ) H Q:=by
 refine⟨τ,rfl,hF,ji,hji,h.bind.mono (Same.refl _) fun ds _ hd J us H1 IT=>?_⟩
 cases q:A7 f ds with
 |exc c=>exact absurd q (E8 ds c)
 |bad=>rw[q]at hd;exact nE hd
 |ok r=>
 rw[q]at hd
 have hd:KE p (Sh tn τ) H 0 (k+1) Q (.lst r):=hd
 intro z D hD
 have hDH:H D=none:=IT.same.free hD
 refine⟨fun i m acc H2=>m=ds.length-i/\i<=ds.length/\∃(ts:List T)(r':List Pu.D),acc=ts.map T.val/\A7 f (ds.drop i)=.ok r'/\T.dats ts++r'=r/\ts.length<=i/\H2 D=some (.lst acc)/\(∀a u,a≠D->H1 a=some u->H2 a=some u) /\
  T.Oks p H2 ts/\(∀a∈T.rests ts 0,(H a=none\/Sh tn τ a)/\a≠D)/\(∀a∈T.adrs ts k,H1 a=none/\Mu H2 a)/\T.Nds ts k,⟨ds.length,by simp,aau _,[],r,rfl,by simpa using q,rfl,aaj _,AO,fun a u n e=>by rw[An n];exact e,trivial,by simp[T.rests],by simp[T.adrs],by simp[T.Nds,T.adrs]⟩,?_⟩
 rintro i m acc H2 ⟨rfl,hi,ts,r',rfl,hr,hc,hts,hD2,kp,ok,src,new,nd⟩
 refine⟨hD2,?_⟩
 have s2:Same H H2:=fun a u e=>kp a u (fun z=>by rw[z,hDH]at e;cases e) (IT.same a u e)
 have usok:T.Oks p H2 us:=T.oks_iff.mpr fun u hu=>(T.oks_iff.mp IT.ok u hu).keep fun a w e _=>kp a w (fun z=>by rw[z,hD]at e;cases e) e
 have out:D∉T.rests ts 0:=fun m=>(src D m).2 rfl
 rcases acq i ds.length with hlt|hge
 ·refine .inr ⟨IT.go i H2 usok hlt,fun x H3 y=>?_⟩
  have hdi:ds[i]?=some ds[i]:=aan hlt
  obtain⟨s3,t,rfl,ht,tok,tus,tsrc⟩:=IT.yld i H2 x H3 ds[i] usok hdi y
  have hdrop:ds.drop i=ds[i]::ds.drop (i+1):=abU hlt
  rw[hdrop]at hr
  obtain⟨o,r'',hfo,hr'',rfl⟩:=JA hr
  obtain⟨δ',hasg,hev⟩:=hf _ o hfo
  rw[<- ht,<- PZ,E6]at hasg
  obtain⟨τ4,h4,hδ⟩:=aax.mp hasg
  have sH3:Same H H3:=s2.trans s3
  have tusD:∀a∈t.rest 0,a≠D:=fun a m z=>by
   obtain⟨w,hw,m⟩:=T.mem_rests.mp (tus a m)
   exact(T.oks_iff.mp IT.ok w hw).dom m (z▸hD)
  have slot:∀(n:Nat)(w:T),τ4[n]?=some (some w)->(w.Ok p H3/\∀a∈w.rest 0,(H a=none\/Sh tn τ a)/\a≠D/\H1 a≠none)\/(n∉g.sl/\(FS nl fr τ)[n]?=some (some w)):=by
   intro n w e
   refine(Gs (P:=fun o=>∀w,o=some w->(w.Ok p H3/\∀a∈w.rest 0,(H a=none\/Sh tn τ a)/\a≠D/\H1 a≠none)) h4 (fun w e=>?_) (fun a ts' e u hu w e'=>?_) n (some w) e).imp (fun q=>q w rfl) id
   ·cases e
    refine⟨tok,fun a m=>⟨tsrc a m,tusD a m,fun z=>?_⟩⟩
    obtain⟨w',hw',m'⟩:=T.mem_rests.mp (tus a m)
    exact(T.oks_iff.mp IT.ok w' hw').dom m' z
   ·cases e'
    have sub:∀b∈u.rest 0,b∈t.rest 0:=fun b m=>by
     rcases e with rfl|rfl
     ·exact T.mem_rests.mpr ⟨u,hu,m⟩
     ·exact aaa _ (T.mem_rests.mpr ⟨u,hu,m⟩)
    have uok:u.Ok p H3:=by
     rcases e with rfl|rfl
     ·exact T.oks_iff.mp tok.2 u hu
     ·exact T.oks_iff.mp tok.2 u hu
    refine⟨uok,fun b m=>?_⟩
    have m:=sub b m
    refine⟨tsrc b m,tusD b m,fun z=>?_⟩
    obtain⟨w',hw',m'⟩:=T.mem_rests.mp (tus b m)
    exact(T.oks_iff.mp IT.ok w' hw').dom m' z
  have F4:Fok p (tnB nl fr tn) τ4 H3:=fun n w j e ej hj=>by
   rcases slot n w e with q|⟨_,q⟩
   ·exact q.1
   ·obtain⟨k',e1,e2⟩:=Kb q ej hj
    exact(hF k' w j e1 e2 hj).same sH3
  have S4:∀a,Sh (tnB nl fr tn) τ4 a->(H a=none\/Sh tn τ a)/\a≠D/\H1 a≠none:=by
   rintro a ⟨n,w,j,e,ej,hj,m⟩
   rcases slot n w e with q|⟨_,q⟩
   ·exact q.2 a (T.rest_le w (aau j) m)
   ·obtain⟨k',e1,e2⟩:=Kb q ej hj
    have sh:Sh tn τ a:=⟨k',w,j,e1,e2,hj,m⟩
    have hd:=hF.dom sh
    exact⟨.inr sh,fun z=>hd (z▸hDH),fun z=>hd (IT.same.free z)⟩
  rw[<- P0]
  refine K8 tok h4 (hev τ4 H3 _ hδ F4 fun b H5 s5 hb=>?_)
  have s25:Same H2 H5:=s3.trans s5
  cases o with
  |none=>
   subst hb
   rw[if_neg (by decide)]
   refine⟨ds.length-(i+1),by omega,rfl,hlt,ts,r'',rfl,hr'',?_,by omega,s25 _ _ hD2,fun a u n e=>s25 _ _ (kp a u n e),ok.same s25,src,fun a m=>⟨(new a m).1,let ⟨vs,e,mu⟩:=(new a m).2;⟨vs,s25 _ _ e,mu⟩⟩,nd⟩
   simpa using hc
  |some xo=>
   obtain⟨rfl,he⟩:=hb
   rw[if_pos rfl]
   refine⟨τ4,rfl,F4.same s5,0,k,hk,?_⟩
   rw[hδ,he]
   intro t' H6 ht' R
   have s26:Same H2 H6:=s25.trans R.same
   have hD6:H6 D=some (.lst (ts.map T.val)):=s26 _ _ hD2
   refine⟨hD6,by rw[aac];exact aaF hts (aaw hlt IT.len),ds.length-(i+1),by omega,rfl,hlt,ts++[t'],r'',by simp,hr'',?_,by simp;omega,AO,fun a u n e=>by rw[An n];exact s26 _ _ (kp a u n e),?_,?_,?_,?_⟩
   ·rw[T.dats_map,aap,<- T.dats_map]
    simpa[ht'] using hc
   ·-- all of them stand
    have tD:∀a∈t'.rest 0,a≠D:=fun a m z=>by
     rcases R.src a m with q|q
     ·rw[z,s25 _ _ hD2]at q;cases q
     ·exact(S4 a q).2.1 z
    refine T.oks_iff.mpr fun w hw=>?_
    have kk:(∀a∈w.rest 0,a≠D)->w.Ok p H6->w.Ok p (L2.upd H6 D (.lst (ts.map T.val++[t'.val]))):=fun hne hok=>hok.keep fun a u e hq=>by
     rw[An ?_];exact e
     rintro rfl
     rcases hq with hq|hq
     ·exact hne a hq rfl
     ·rw[hD6]at e
      cases e;exact nomatch (show true=false from hq)
    rcases aah.mp hw with hw|hw
    ·exact kk (fun a m=>(src a (T.mem_rests.mpr ⟨w,hw,m⟩)).2) ((T.oks_iff.mp ok w hw).same s26)
    ·cases aaZ.mp hw
     exact kk tD R.ok
   ·intro a m
    rw[T.rests_append,aah]at m
    rcases m with m|m
    ·exact src a m
    ·have m:a∈t'.rest 0:=by simpa[T.rests] using m
     rcases R.src a m with q|q
     ·exact⟨.inl (sH3.trans s5 |>.free q),fun z=>by rw[z,s25 _ _ hD2]at q;cases q⟩
     ·exact⟨(S4 a q).1,(S4 a q).2.1⟩
   ·intro a m
    rw[T.adrs_append,aah]at m
    rcases m with m|m
    ·obtain⟨n1,vs,e,mu⟩:=new a m
     have aD:a≠D:=fun z=>out (by rw[<- z];exact(T.alls_iff ts k).mpr (.inl m))
     refine⟨n1,vs,?_,mu⟩
     rw[An aD]
     exact s26 _ _ e
    ·have m:a∈t'.adr k:=by simpa[T.adrs] using m
     obtain⟨n1,vs,e,mu⟩:=R.new a m
     have aD:a≠D:=fun z=>by rw[z,s25 _ _ hD2]at n1;cases n1
     refine⟨?_,vs,by rw[An aD];exact e,mu⟩
     cases w:H1 a with
     |none=>rfl
     |some u=>rw[s25 _ _ (kp a u aD w)]at n1;cases n1
   ·refine T.nds_append nd (T.nds_cons.mpr ⟨R.nd,by simp[T.Nds,T.adrs],by simp[T.rests],by simp[T.adrs]⟩) (fun a m m'=>?_) (fun a m m'=>?_)
    ·have m':a∈t'.rest 0:=by simpa[T.rests] using m'
     rcases R.src a m' with q|q
     ·obtain⟨_,vs,e,mu⟩:=new a m
      rw[s25 _ _ e]at q;cases q
     ·exact(S4 a q).2.2 (new a m).1
    ·have m:a∈t'.adr k:=by simpa[T.adrs] using m
     obtain⟨w,hw,m'⟩:=T.mem_rests.mp m'
     exact((T.oks_iff.mp ok w hw).same s25).dom m' (R.new a m).1
 ·have hil:i=ds.length:=abV hi hge
  refine .inl ⟨IT.stop i H2 usok hge,hd (.lst D ts) H2 ?_ ⟨s2,⟨.inl hD2,ok⟩,fun a m=>?_,fun a m=>?_,?_,fun a m m'=>?_⟩⟩
  ·subst hil
   rw[List.drop_length]at hr
   simp only[A7]at hr
   cases hr
   simp only[T.dat,aaO]at hc ⊢
   rw[hc]
  ·simp only[T.rest,aaf]at m
   rcases m with rfl|m
   ·exact .inl hDH
   ·exact(src a m).1
  ·simp only[T.adr,aaf]at m
   rcases m with rfl|m
   ·exact⟨hDH,_,hD2,rfl⟩
   ·exact⟨IT.same.free (new a m).1,(new a m).2⟩
  ·simp only[T.adr,aat]
   exact⟨fun m=>out ((T.alls_iff ts k).mpr (.inl m)),nd.1⟩
  ·simp only[T.adr,T.rest,aaf]at m m'
   rcases m' with rfl|m'
   ·exact out ((T.alls_iff ts k).mpr (.inr m))
   ·exact nd.2 a m m'
structure ScOk(X:Cx)(scope:Scope)(loc:List Str)(fr:List Nat)(frn:List Str):Prop where
 hfr:∀(j:Nat)(k:Nat)(x:Str),fr[j]?=some k->frn[j]?=some x->X.N[k]?=some x/\X.env.kindOf x=some .cell/\(x,NameKind.free)∈scope.names
 hln:frn.length=fr.length
 hcell:∀y∈scope.names,y.2≠.cell
 hkind:scope.kind=.function
 hnames:∀y∈scope.names,y.2=.local->scope.names.lookup y.1=some .local
 hfree:∀y∈scope.names,y.2=.free->X.env.kindOf y.1=some .cell
 hkin:∀(x:Str),x∈frn->(relabel scope X.env).names.lookup x=some .cell
 hsc:X.env.scope.kind=.function
theorem IN{K:Frag}{nl:Nat}{fr:List Nat}{g:Tg}{it:It}{elt:E}{σ:L2.St}{H:Hp}{Q:VK}(hg:∀i∈g.sl,i<nl)(h:lE p EX tn (.comp0 nl fr g it elt) σ H Q):Gj nl fr (lI p EX tn it) (fun _=>lG K g) (fun _=>OA) (fun _=>lE p EX0 (tnB nl fr tn) elt) σ H Q:=by
 obtain⟨τ,rfl,hF,j,k,hj,h⟩:=h
 simp only[jk]at hj
 obtain⟨ji,h1,hj⟩:=bS hj
 obtain⟨⟨j2,k2⟩,h2,hj⟩:=bS hj
 obtain⟨hc,e⟩:=D0 hj
 cases e
 have hc:j2=0:=of_decide_eq_true hc
 subst hc
 simp only[ev]at h
 refine P5 hF h1 hg h2 (fun d o e=>?_) h
 split at e
 ·rename_i δ' hd
  obtain⟨x,e1,e2⟩:=Res.bind_eq_ok e
  cases e2
  exact⟨δ',hd,fun τ4 H3 N _ _ hN=>hN true H3 (Same.refl _) ⟨rfl,e1⟩⟩
 ·cases e
theorem ME{elt tg iter:Expr}{scope:Scope}{loc:List Str}{fr:List Nat}{frn:List Str}{g:Tg}{it:It}{x:E}(hc:X.calm=true)(S:ScOk X scope loc fr frn)(hi:PI X tg iter (lI p EX tn it))(hg:∀i∈g.sl,i<loc.length)
  (hb:∀z:Bk,PG (X.blk scope z.C z.fp (loc++frn) z.s z.H) tg (lG X.K g)/\PE (X.blk scope z.C z.fp (loc++frn) z.s z.H) elt (lE p EX0 (tnB loc.length fr tn) x)) (hs:∀y,foldedSetIterable iter X.env y=pure y) :
  PE X (.ListComp elt [⟨tg,iter,[],0⟩] scope pos) (lE p EX tn (.comp0 loc.length fr g it x)) :=
 PE.mono (Pa loc fr frn hc hi S.hfr S.hln S.hcell S.hkind S.hnames S.hfree S.hkin S.hsc (fun _ _ _ _ _ h=>Ka hg h) (fun z=>⟨(hb z).1,JW,(hb z).2⟩) hs) fun σ H Q h=>IN hg h
theorem PS.mono{X:Cx}{st:Stmt}{t t':TS}(h:PS X st t)(m:∀D σ H,t' D σ H->t D σ H):PS X st t':=fun pins s σ H D I q=>h pins s σ H D I (m _ _ _ q)
theorem K9{elt tg iter:Expr}{scope:Scope}{loc:List Str}{fr:List Nat}{frn:List Str}{g:Tg}{it:It}{x:E}{y:Str}{k:Nat}{py spos:Pos}(hc:X.calm=true)(S:ScOk X scope loc fr frn)(hi:PI X tg iter (lI p EX tn it))(hg:∀i∈g.sl,i<loc.length)
  (hb:∀z:Bk,PG (X.blk scope z.C z.fp (loc++frn) z.s z.H) tg (lG X.K g)/\PE (X.blk scope z.C z.fp (loc++frn) z.s z.H) elt (lE p EX0 (tnB loc.length fr tn) x)) (hs:∀y,foldedSetIterable iter X.env y=pure y)
  (hN:X.N.Nodup) (hk:X.N[k]?=some y) (hx:Loc X.env.scope y) (hf:X.fn y=true\/X.env.scope.names.lookup y=some .local) (hsw:swapsWith (.ListComp elt [⟨tg,iter,[],0⟩] scope pos) (some (.Name y py)) spos.line X.env=pure true) :
  PS X (.Assign [.Name y py] (.ListComp elt [⟨tg,iter,[],0⟩] scope pos) spos) (GR (lE p EX tn (.comp0 loc.length fr g it x)) (Eu k)) :=
 PS.mono (KR loc fr frn hc hi S.hfr S.hln S.hcell S.hkind S.hnames S.hfree S.hkin S.hsc (fun _ _ _ _ _ h=>Ka hg h) (fun z=>⟨(hb z).1,JW,(hb z).2⟩) hs hN hk hx hf hsw) fun D σ H h=>IN hg h
end
structure CkC where
 N:List Str
 sc:Scope
 fn:Bool
 rz:Bool
 cm:Bool
abbrev EB(sc:Scope)(x:Str):Bool:=match sc.names.lookup x with
 |some .local=>true
 |some .cell=>true
 |some .free=>true
 |_=>false
abbrev EC(c:CkC)(x:Str):Bool:=match c.sc.names.lookup x with
 |some .local=>true
 |some .cell=>c.fn
 |_=>false
abbrev glB(sc:Scope)(x:Str):Bool:=match sc.names.lookup x with
 |some .globalImplicit=>true
 |_=>false
abbrev BQ(x:Str):Bool:=!(x==("__debug__" : Str))&&!(x==("__classdict__" : Str))
abbrev Gu(scope outer:Scope):Scope :=
 {scope with names:=scope.names.map fun(n,k)=>if(k==.free&&outer.kind==.function&&outer.names.lookup n==some .cell) then(n,.cell) else(n,k)}
theorem IO(scope:Scope)(env:Env):relabel scope env=Gu scope env.scope:=rfl
abbrev BZ:List Str:=["len", "min", "max", "abs", "int", "list", "tuple", "all", "any", "sum", "sorted", "isinstance", "str", "range", "enumerate", "zip", "reversed"]
abbrev ckG(c:CkC):Tg->Expr->Bool
 |.nm i,.Name x _=>(c.N[i]?==some x)&&EC c x
 |.tp is,.Tuple es _ _=>ckGs c is es&&c.cm
 |_,_=>false
where ckGs (c:CkC):List Nat->List Expr->Bool
 |[],[]=>true
 |i::is,.Name x _::es=>(c.N[i]?==some x)&&EC c x&&ckGs c is es
 |_,_=>false
abbrev scB(c:CkC)(scope:Scope)(loc:List Str)(fr:List Nat)(frn:List Str):Bool :=
 decide (frn.length=fr.length)&&((fr.zip frn).all fun q=>(c.N[q.1]?==some q.2)&&(c.sc.names.lookup q.2==some .cell)&&scope.names.contains (q.2,NameKind.free)) &&
 (scope.names.all fun y=>(y.2 != .cell)&&(y.2 != .local||scope.names.lookup y.1==some .local)&&(y.2 != .free||c.sc.names.lookup y.1==some .cell))&&(scope.kind==.function)&&(c.sc.kind==.function) &&
 (frn.all fun x=>(Gu scope c.sc).names.lookup x==some .cell)&&decide (loc++frn).Nodup
abbrev La(c:CkC)(fr:List Nat):List Str:=fr.map fun j=>c.N.getD j ""
abbrev HY:Expr->List Str
 |.Name x _=>[x]
 |.Tuple es _ _=>es.filterMap fun|.Name x _=>some x|_=>none
 |_=>[]
abbrev OJ:Expr->Option (Str×Pos)
 |.Name x p=>some (x,p)
 |_=>none
theorem NW{e:Expr}{x:Str}{p:Pos}(h:OJ e=some (x,p)):e=.Name x p:=by cases e<;>cases h<;>rfl
abbrev TR:Expr->Option (List Expr×Nat×Pos)
 |.Tuple es k p=>some (es,k,p)
 |_=>none
abbrev Lb:Expr->Option (Expr×List Expr×List Keyword×Pos)
 |.Call f xs ks p=>some (f,xs,ks,p)
 |_=>none
theorem Ke{e f:Expr}{xs:List Expr}{ks:List Keyword}{p:Pos}(h:Lb e=some (f,xs,ks,p)):e=.Call f xs ks p:=by cases e<;>cases h<;>rfl
abbrev G2{α:Type}:List α->Option α
 |[a]=>some a
 |_=>none
theorem Fq{α:Type}{l:List α}{a:α}(h:G2 l=some a):l=[a]:=by
 cases l with
 |nil=>cases h
 |cons x r=>cases r<;>cases h<;>rfl
abbrev RU{α:Type}:List α->Option (α×α)
 |[a,b]=>some (a,b)
 |_=>none
theorem P6{α:Type}{l:List α}{a b:α}(h:RU l=some (a,b)):l=[a,b]:=by
 cases l with
 |nil=>cases h
 |cons x r=>cases r with
  |nil=>cases h
  |cons y r=>cases r<;>cases h<;>rfl
abbrev Fs(e:Expr):Option (Str×List Expr):=(Lb e).bind fun c=>(OJ c.1).bind fun n=>if c.2.2.1.isEmpty=true then some (n.1,c.2.1) else none
theorem ED{e:Expr}{x:Str}{xs:List Expr}(h:Fs e=some (x,xs)):∃p1 p2,e=.Call (.Name x p1) xs [] p2:=by
 unfold Fs at h
 obtain⟨c,g1,h⟩:=bS h
 obtain⟨n,g2,h⟩:=bS h
 have E:=Ke g1
 rw[NW g2]at E
 clear g1 g2
 split at h
 ·rename_i hc
  rw[List.isEmpty_iff.mp hc]at E
  cases h
  exact⟨_,_,E⟩
 ·cases h
abbrev G3(e:Expr):Option (Str×Str×Expr×Expr):=(Fs e).bind fun c=>(G2 c.2).bind fun i=>(Fs i).bind fun d=>(RU d.2).bind fun q=>some (c.1,d.1,q.1,q.2)
theorem P7{e:Expr}{x y:Str}{l r:Expr}(h:G3 e=some (x,y,l,r)):∃p1 p2 p3 p4,e=.Call (.Name x p1) [.Call (.Name y p2) [l,r] [] p3] [] p4:=by
 unfold G3 at h
 obtain⟨c,g1,h⟩:=bS h
 obtain⟨i,g2,h⟩:=bS h
 obtain⟨d,g3,h⟩:=bS h
 obtain⟨q,g4,h⟩:=bS h
 obtain⟨p1,p4,e1⟩:=ED g1
 obtain⟨p2,p3,e3⟩:=ED g3
 rw[Fq g2,e3,P6 g4]at e1
 cases h
 exact⟨_,_,_,_,e1⟩
abbrev Fu(e:Expr):Option (Str×Str×Expr):=(Fs e).bind fun c=>(G2 c.2).bind fun i=>(Fs i).bind fun d=>(G2 d.2).bind fun q=>some (c.1,d.1,q)
theorem NX{e:Expr}{x y:Str}{r:Expr}(h:Fu e=some (x,y,r)):∃p1 p2 p3 p4,e=.Call (.Name x p1) [.Call (.Name y p2) [r] [] p3] [] p4:=by
 unfold Fu at h
 obtain⟨c,g1,h⟩:=bS h
 obtain⟨i,g2,h⟩:=bS h
 obtain⟨d,g3,h⟩:=bS h
 obtain⟨q,g4,h⟩:=bS h
 obtain⟨p1,p4,e1⟩:=ED g1
 obtain⟨p2,p3,e3⟩:=ED g3
 rw[Fq g2,e3,Fq g4]at e1
 cases h
 exact⟨_,_,_,_,e1⟩
abbrev Dz:Expr->Bool
 |.Set _ _ _=>false
 |_=>true
abbrev FT:List Str:=["RoomError", "BadShape", "NoNode", "NoPage", "NotRooms", "NotATree", "BadRoom", "Unlike", "BadScale", "BadStore", "BadName", "BadLength", "Twice", "Full", "NoThing", "NoDeed", "NoLine"]
abbrev AC(n:Nat):Str:=FT.getD n "RoomError"
theorem Lc(n:Nat):(AC n==("__debug__" : Str))=false:=by
 have h:∀x∈FT,(x==("__debug__" : Str))=false:=by decide
 unfold AC
 rw[aaQ]
 cases q:FT[n]? with
 |none=>decide
 |some x=>exact h x (aae q)
abbrev G4:Kd->String
 |.int => "int"
 |.bool => "bool"
 |.str => "str"
 |.list => "list"
 |.tuple => "tuple"
 |.dict => "dict"
 |.verr => "ValueError"
 |.cls _ => ""
abbrev Ej:Kd->Str
 |.cls n=>AC n
 |k=>Str.ofString (G4 k)
abbrev NY(c:CkC)(k:Kd):Expr->Bool
 |.Name x _=>(x==Ej k)&&glB c.sc x
 |_=>false
abbrev MF:Bi->Str
 |.len => "len"
 |.min => "min"
 |.max => "max"
 |.maxL => "max"
 |.int => "int"
 |.list => "list"
abbrev RV:Bi->Bool
 |_=>true
abbrev E9:Bi->Bool
 |.len=>true
 |.int=>true
 |.list=>true
 |_=>false
abbrev RW(x:Str):Expr->Bool
 |.Name y _=>y==x
 |_=>false
theorem P8{x:Str}{e:Expr}(h:RW x e=true):∃q,e=.Name x q:=by
 cases e with
 |Name y q=>exact⟨q,by rw[beq_iff_eq.mp (show(y==x)=true from h)]⟩
 |_=>exact nF h
abbrev HZ(c:CkC)(f:Expr->Bool)(l:Expr):Bool:=match Lb l with
 |some (g,xs,ks,_)=>RW "set" g&&ks.isEmpty&&glB c.sc "set"&&c.cm&&(match G2 xs with
  |some e=>f e&&Ah e
  |none=>false)
 |none=>false
theorem NZ{c:CkC}{f:Expr->Bool}{l:Expr}(h:HZ c f l=true):∃q e p,l=.Call (.Name "set" q) [e] [] p/\glB c.sc "set" = true/\c.cm=true/\f e=true/\Ah e=true:=by
 unfold HZ at h
 cases e1:Lb l with
 |none=>rw[e1]at h;cases h
 |some z=>
  obtain⟨g,xs,ks,p⟩:=z
  rw[e1]at h
  dsimp only at h
  cases e2:G2 xs with
  |none=>rw[e2]at h;simp at h
  |some e=>
   rw[e2]at h
   simp only[aag]at h
   obtain⟨⟨⟨⟨h1,h2⟩,h3⟩,h4⟩,h5,h6⟩:=h
   obtain⟨q,rfl⟩:=P8 h1
   cases ks with
   |nil=>exact⟨q,e,p,by rw[Ke e1,Fq e2],h3,h4,h5,h6⟩
   |cons _ _=>cases h2
mutual
noncomputable def E.tst:E->Bool
 |.not a=>a.tst
 |.bo _ es=>es.tsts
 |_=>true
noncomputable def Es.tsts:Es->Bool
 |.nil=>true
 |.cons e r=>e.tst&&r.tsts
end
abbrev G5(gens:List Comprehension)(f:Expr->Expr->List Expr->Bool):Bool:=match gens with
 |[⟨tg,iter,ifs,n⟩]=>decide (n=0)&&f tg iter ifs
 |_=>false
theorem Gv{gens:List Comprehension}{f:Expr->Expr->List Expr->Bool}(h:G5 gens f=true):∃tg iter ifs,gens=[⟨tg,iter,ifs,0⟩]/\f tg iter ifs=true:=by
 unfold G5 at h
 split at h
 ·rw[aag]at h
  cases of_decide_eq_true h.1
  exact⟨_,_,_,rfl,h.2⟩
 ·cases h
abbrev isNone:Expr->Bool
 |.Constant .none _ _=>true
 |_=>false
abbrev Gw(b:Bool)(f:Expr->Bool):Option Expr->Bool
 |none=>b
 |some l=>!b&&f l
mutual
noncomputable def ckE(c:CkC):E->Expr->Bool
 |.nm i,.Name x _=>(c.N[i]?==some x)&&EB c.sc x&&BQ x
 |.cN,.Constant .none _ _=>true
 |.cB b,.Constant (.bool b') _ _=>b==b'
 |.cI i,.Constant (.int i') _ _=>i==i'
 |.cS x,.Constant (.str x') _ _=>x==x'
 |.gl x d,.Name y _=>(x==y)&&glB c.sc y&&BQ y&&D.scal d
 |.tup es,.Tuple xs _ _=>ckEs c es xs&&decide (es.len<=1000)
 |.lst es,.List xs _=>ckEs c es xs&&decide (es.len<=1000)
 |.bin o a b,.BinOp l op r _=>(op==KU o)&&ckE c a l&&ckE c b r
 |.neg a,.UnaryOp .USub l _=>ckE c a l
 |.not a,.UnaryOp .Not l _=>ckE c a l
 |.cmp o a b,.Compare l [op] [r] _=>(op==A3 o)&&ckE c a l&&ckE c b r&&Dz r
 |.chain o o' a b d,.Compare l [op,op'] [r,r'] _=>(op==A3 o)&&(op'==A3 o')&&ckE c a l&&ckE c b r&&ckE c d r'&&Dz r'
 |.isN n a,.Compare l [op] [r] _=>(op==if n then .IsNot else .Is)&&isNone r&&ckE c a l
 |.bo k es,.BoolOp op xs _=>(op==if k then .And else .Or)&&ckEs c es xs
 |.ix a i,.Subscript a' i' _=>ckE c a a'&&ckE c i i'&&CN i'
 |.ixL a i,.Subscript a' i' _=>ckE c a a'&&ckE c i i'&&CN i'
 |.slc a lo hi,.Subscript a' (.Slice lo' hi' none _) _=>ckE c a a'&&Gw lo.isCN (ckE c lo) lo'&&Gw hi.isCN (ckE c hi) hi'
 |.call f es,.Call (.Name x _) xs [] _=>(x==f.name)&&glB c.sc x&&BQ x&&ckEs c es xs&&decide (es.len=f.ar)&&decide (0<es.len)&&c.cm
 |.callB f es,.Call (.Name x _) xs [] _=>(x==f.name)&&glB c.sc x&&BQ x&&ckEs c es xs&&decide (es.len=f.ar)&&decide (0<es.len)&&c.cm
 |.bi b es,.Call (.Name x _) xs [] _=>(x==MF b)&&glB c.sc x&&RV b&&ckEs c es xs&&decide (0<es.len)&&(c.cm||E9 b)
 |.isi a k,.Call (.Name x _) [l,r] [] _=>(x==("isinstance" : Str))&&glB c.sc x&&ckE c a l&&NY c k r&&Ah l
 |.lenSet a,.Call (.Name x _) [l] [] _=>(x==("len" : Str))&&glB c.sc x&&HZ c (ckE c a) l
 |.listI (.r2 a b),e=>match G3 e with
  |some (x,y,l,r)=>(x==("list" : Str))&&glB c.sc x&&(y==("range" : Str))&&glB c.sc y&&ckE c a l&&Ah l&&ckE c b r&&Ah r&&c.cm
  |none=>false
 |.listI (.r1 b),e=>match Fu e with
  |some (x,y,r)=>(x==("list" : Str))&&glB c.sc x&&(y==("range" : Str))&&glB c.sc y&&ckE c b r&&Ah r&&c.cm
  |none=>false
 |.comp0 nl fr g it elt,.ListComp elt' gens scope _=>G5 gens fun tg iter ifs=>c.cm&&ifs.isEmpty&&scB c scope (HY tg) fr (La c fr)&&decide (nl=(HY tg).length)&&(g.sl.all fun i=>decide (i<nl))&&ckI c tg it iter&&Dz iter &&
   ckG ⟨HY tg++La c fr,Gu scope c.sc,false,false,c.cm⟩ g tg&&ckE ⟨HY tg++La c fr,Gu scope c.sc,false,false,c.cm⟩ elt elt'
 |_,_=>false
noncomputable def ckEs(c:CkC):Es->List Expr->Bool
 |.nil,[]=>true
 |.cons e r,x::xs=>ckE c e x&&Ah x&&ckEs c r xs
 |_,_=>false
noncomputable def ckI(c:CkC)(tg:Expr):It->Expr->Bool
 |.seq e,x=>ckE c e x
 |.seqL e,x=>ckE c e x
 |.r1 a,.Call (.Name x _) [l] [] _=>(x==("range" : Str))&&glB c.sc x&&ckE c a l&&Ah l
 |.r2 a b,.Call (.Name x _) [l,r] [] _=>(x==("range" : Str))&&glB c.sc x&&ckE c a l&&Ah l&&ckE c b r&&Ah r
 |_,_=>false
end
inductive Nd1 where
 |fn (F:Fn)
 |fm (F:Fn)
 |fc (F:Fn)
 |cl (n:Nat)
 |rs (n:Nat)
 |mk (n:Nat)
 |f0 (F:Fn)
 |ma
 |ax
 |gl (x:Str) (d:D)
mutual
noncomputable def E.need:E->List Nd1
 |.nm _=>[]
 |.cN=>[]
 |.cB _=>[]
 |.cI _=>[]
 |.cS _=>[]
 |.gl x d=>[.gl x d]
 |.tup es=>es.need
 |.lst es=>es.need
 |.bin _ a b=>a.need++b.need
 |.neg a=>a.need
 |.not a=>a.need
 |.cmp _ a b=>a.need++b.need
 |.chain _ _ a b c=>a.need++(b.need++c.need)
 |.isN _ a=>a.need
 |.bo _ es=>es.need
 |.ix a i=>a.need++i.need
 |.ixL a i=>a.need++i.need
 |.slc a lo hi=>a.need++(lo.need++hi.need)
 |.call f es=>.fn f::es.need
 |.callB f es=>.fn f::es.need
 |.bi _ es=>es.need
 |.listI it=>it.need
 |.isi a k=>(match k with|.cls n=>[.cl n]|_=>[])++a.need
 |.lenSet a=>a.need
 |.comp0 _ _ _ it elt=>it.need++elt.need
noncomputable def Es.need:Es->List Nd1
 |.nil=>[]
 |.cons e r=>e.need++r.need
noncomputable def It.need:It->List Nd1
 |.seq e=>e.need
 |.seqL e=>e.need
 |.r1 a=>a.need
 |.r2 a b=>a.need++b.need
end
abbrev dT:D->T
 |.bl b=>.bl b
 |.int i=>.int i
 |.str x=>.str x
 |_=>.non
theorem RX{d:D}(h:D.scal d=true):(dT d).dat=d/\(dT d).sc=true:=by cases d<;>first|exact⟨rfl,rfl⟩|cases h
abbrev NeedOk(p:Px)(lv:Nat)(X:Cx):Nd1->Prop
 |.fn F=>F.lv<=lv/\K4 p X F
 |.fm F=>F.lv<=lv/\RK p X F
 |.fc F=>F.lv<=lv/\RL p X F
 |.cl n=>p.has n=true/\X.mg (AC n)=some (.ref (p.cl n))
 |.rs n=>p.has n=true/\nsIn X.K mainGlobals (AC n)=some (some (.ref (p.cl n)))/\excIn X.K (p.cl n) DO "ValueError.__new__" = true
 |.f0 F=>F.lv<=lv/\OF p X F
 |.mk n=>p.has n=true/\nsIn X.K mainGlobals (AC n)=some (some (.ref (p.cl n)))/\excIn X.K (p.cl n) DO "ValueError.__new__" = true/\keepIn X.K (.ref (p.cl n))=true
 |.ma=>2<=lv/\p.has 4=true/\X.mg (AC 4)=some (.ref (p.cl 4))/\keepIn X.K (.ref (p.cl 4))=true/\XOwn X.K (p.cl 4) "at" /\ ∃fI fd ps,findIn X.K (.ref (p.cl 4)) "__init__" = some (some (.ref fI))/\typeIn X.K (.ref fI)=some (.type "function")/\FnOk X.prog X.w X.K X.mg X.base (CXe X.prog X.w) 1 fI fd ps (spI (p.cl 4) "at")/\Binds X.K fd ps []
 |.ax=>p.has 4=true/\XOwn X.K (p.cl 4) "at"
 |.gl x d=>∃u,X.mg x=some u/\RelV (dT d).val u
structure Kx(p:Px):Prop where
 no:p.has 999=false
 lt:∀c,p.has c=true->c<1000
 ks:∀c,p.has c=true->subIn p.K (.ref (p.cl c)) (.ref (p.cl c))=some true
 x:∀c,p.has c=true->XCls p.K (p.cl c)
 kb:∀c,p.has c=true->∀T∈(["int", "bool", "str", "list", "tuple", "dict"]:List String),kitOne p.K (.ref (p.cl c)) (.type T)=some false
 kv:∀c,p.has c=true->kitOne p.K (.ref (p.cl c)) (.type "ValueError")=some true
 kc:∀c d,p.has c=true->p.has d=true->kitOne p.K (.ref (p.cl c)) (.ref (p.cl d))=some (isa c d)
structure Ct(p:Px)(c:CkC)(lv:Nat)(X:Cx)(EX:EXT):Prop where
 K:X.K=p.K
 N:X.N=c.N
 sc:X.env.scope=c.sc
 nd:X.N.Nodup
 calm:c.cm=true->X.calm=true
 room:c.cm=true->Room lv X.A
 un:X.A.units+64<cLine
 r0:Room0 lv X.A
 blt:∀y∈BZ,X.mg y=none
 bt:∀y∈(["bool", "dict", "ValueError", "set"]:List Str),X.mg y=none
 pass:EZ (CXe X.prog X.w) X EX
 fn:c.fn=true->∀x,X.fn x=true
 kx:Kx p
 ph:c.rz=true->True
section
variable{p:Px}{c:CkC}{lv:Nat}{X:Cx}{EX:EXT}{tn:List Nat}{pos np:Pos}
theorem Ct.gl(C:Ct p c lv X EX){x:Str}(h:glB c.sc x=true):Gl X x:=by
 unfold glB at h
 show X.env.scope.names.lookup x=_
 rw[C.sc]
 split at h
 ·assumption
 ·cases h
theorem Ct.vis(C:Ct p c lv X EX){x:Str}(h:EB c.sc x=true):Vis X.env.scope x:=by
 unfold EB at h
 unfold Vis
 rw[C.sc]
 split at h
 ·exact .inl ‹_›
 ·exact .inr (.inl ‹_›)
 ·exact .inr (.inr ‹_›)
 ·cases h
theorem Ct.loc(C:Ct p c lv X EX){x:Str}(h:EC c x=true):L2.Loc X.env.scope x/\(X.fn x=true\/X.env.scope.names.lookup x=some .local):=by
 unfold EC at h
 unfold L2.Loc
 rw[C.sc]
 split at h
 ·rename_i e;exact⟨.inl e,.inr e⟩
 ·rename_i e;exact⟨.inr e,.inl (C.fn h x)⟩
 ·cases h
theorem B8{x:Str}(h:BQ x=true):(x==("__debug__" : Str))=false/\(x==("__classdict__" : Str))=false:=by
 unfold BQ at h
 rw[aag,acm,acm]at h
 exact h
theorem Ct.hu(C:Ct p c lv X EX):X.A.units+64<cLine:=C.un
theorem OK(C:Ct p c lv X EX):∀{is:List Nat}{es:List Expr},ckG.ckGs c is es=true->PGs X es (Ck is)/\(assignEach es X.env).length=is.length/\(assignEach es X.env).findIdx? (·.1)=none
 |[],[],_=>⟨OW,rfl,rfl⟩
 |[],e::es,h=>nF h
 |i::is,[],h=>nF h
 |i::is,e::es,h=>by
  cases e with
  |Name x q=>
   have h:((c.N[i]?==some x)&&EC c x&&ckG.ckGs c is es)=true:=h
   rw[aag,aag]at h
   obtain⟨⟨h1,h2⟩,h3⟩:=h
   obtain⟨a1,a2,a3⟩:=OK C h3
   obtain⟨l1,l2⟩:=C.loc h2
   refine⟨Nk (JS C.nd (by rw[C.N];exact beq_iff_eq.mp h1) l1 l2) a1 rfl,?_,?_⟩
   ·show(assignEach es X.env).length+1=_;rw[a2];rfl
   ·show List.findIdx? (·.1) ((false,_)::assignEach es X.env)=none
    rw[List.findIdx?_cons,a3];rfl
  |_=>exact nF h
theorem IP(C:Ct p c lv X EX){g:Tg}{e:Expr}(h:ckG c g e=true):PG X e (lG X.K g):=by
 cases g with
 |nm i=>
  cases e with
  |Name x q=>
   have h:((c.N[i]?==some x)&&EC c x)=true:=h
   rw[aag]at h
   obtain⟨l1,l2⟩:=C.loc h.2
   exact JS C.nd (by rw[C.N];exact beq_iff_eq.mp h.1) l1 l2
  |_=>exact nF h
 |tp is=>
  cases e with
  |Tuple es k q=>
   rw[show ckG c (.tp is) (.Tuple es k q)=(ckG.ckGs c is es&&c.cm) from rfl,aag]at h
   obtain⟨a1,a2,a3⟩:=OK C h.1
   intro pins s σ H v u Q I r hw
   rcases hw with hw|hw
   ·exact Q1 (C.calm h.2) a1 a2 a3 pins s σ H v u Q I r hw
   ·exact Rt (C.calm h.2) a1 a2 a3 pins s σ H v u Q I r hw
  |_=>exact nF h
theorem Kf{α β:Type}{xs:List α}{ys:List β}{j:Nat}{a:α}{b:β}(h1:xs[j]?=some a)(h2:ys[j]?=some b):(a,b)∈xs.zip ys:=by
 have:(xs.zip ys)[j]?=some (a,b):=by rw[List.getElem?_zip_eq_some];exact⟨h1,h2⟩
 exact aae this
theorem OL(C:Ct p c lv X EX){scope:Scope}{loc:List Str}{fr:List Nat}{frn:List Str}(h:scB c scope loc fr frn=true):ScOk X scope loc fr frn/\(loc++frn).Nodup:=by
 unfold scB at h
 simp only[aag,decide_eq_true_eq,aay,beq_iff_eq,bne_iff_ne,acz]at h
 obtain⟨⟨⟨⟨⟨⟨h1,h2⟩,h3⟩,h4⟩,h5⟩,h6⟩,h7⟩:=h
 refine⟨⟨fun j k x e1 e2=>?_,h1,fun y hy=>(h3 y hy).1.1,h4,fun y hy e=>?_,fun y hy e=>?_,fun x hx=>?_,by rw[C.sc];exact h5⟩,h7⟩
 ·obtain⟨⟨q1,q2⟩,q3⟩:=h2 (k,x) (Kf e1 e2)
  refine⟨by rw[C.N];exact q1,?_,by simpa using q3⟩
  show X.env.scope.names.lookup x=_
  rw[C.sc];exact q2
 ·rcases (h3 y hy).1.2 with q|q
  ·exact absurd e q
  ·exact q
 ·rcases (h3 y hy).2 with q|q
  ·exact absurd e q
  ·show X.env.scope.names.lookup y.1=_
   rw[C.sc];exact q
 ·rw[IO,C.sc];exact h6 x hx
theorem Ct.blk(C:Ct p c lv X EX){scope:Scope}{N:List Str}(hN:N.Nodup)(z:Bk):Ct p ⟨N,Gu scope c.sc,false,false,c.cm⟩ lv (X.blk scope z.C z.fp N z.s z.H) EX0 where
 K:=C.K
 N:=rfl
 sc:=by show relabel scope X.env=_;rw[IO,C.sc]
 nd:=hN
 calm:=C.calm
 room:=C.room
 un:=C.un
 r0:=C.r0
 blt:=C.blt
 bt:=C.bt
 pass:=fun _ _ _ _ _ _ _ h=>by
  obtain⟨_,_,_,_,_,_,_,_,_,_,_,_,_,_,_,_,_,_,_,_,z⟩:=h
  exact z.elim
 fn:=fun z=>nomatch z
 kx:=C.kx
 ph:=fun z=>nomatch z
theorem NeedOk.blk{scope:Scope}{N:List Str}{z:Bk}{n:Nd1}(h:NeedOk p lv X n):NeedOk p lv (X.blk scope z.C z.fp N z.s z.H) n:=by
 cases n<;>exact h
theorem EE{e:Expr}{env:Env}(h:Dz e=true):∀y,foldedSetIterable e env y=pure y:=by
 intro y
 cases e<;>first|rfl|cases h
theorem DA{op:CmpOp}{e:Expr}(h:Dz e=true):behindInMarks op e=false:=by
 cases e<;>first|rfl|cases h
end
section
variable{p:Px}{c:CkC}{lv:Nat}{X:Cx}{EX:EXT}{tn:List Nat}{pos np:Pos}
theorem AF(C:Ct p c lv X EX){e:Expr}{x:E}(h:PE X e (lE p EX tn x))(hp:IB e=true):PE X e (lE p EX tn x)/\(x.tst=true->PT X e (lT p EX tn x)):=⟨h,fun _=>K1 C.K h hp⟩
abbrev kdV(p:Px):Kd->Value
 |.cls n=>.ref (p.cl n)
 |k=>.type (G4 k)
abbrev Ia(p:Px):Kd->Prop
 |.cls n=>p.has n=true
 |_=>True
theorem RY(C:Ct p c lv X EX){H:Hp}{t:T}(ok:t.Ok p H):∃ty,TyX X.K H t.val ty/\∀k b,Ce t.dat k=.ok b->Ia p k->kitOne X.K ty (kdV p k)=some b:=by
 cases t with
 |non=>exact⟨_,.of .non,fun k b h _=>by cases k<;>cases h<;>rfl⟩
 |bl x=>exact⟨_,.of (.bl x),fun k b h _=>by cases k<;>cases h<;>rfl⟩
 |int x=>exact⟨_,.of (.int x),fun k b h _=>by cases k<;>cases h<;>rfl⟩
 |str x=>exact⟨_,.of (.str x),fun k b h _=>by cases k<;>cases h<;>rfl⟩
 |tup a ts=>exact⟨_,.of (.tup ok.1),fun k b h _=>by cases k<;>cases h<;>rfl⟩
 |lst a ts=>
  rcases ok.1 with e|⟨o,e⟩
  ·exact⟨_,.of (.lst e),fun k b h _=>by cases k<;>cases h<;>rfl⟩
  ·exact⟨_,.of (.frz e),fun k b h _=>by cases k<;>cases h<;>rfl⟩
 |dic a ks ts=>exact⟨_,.of (.dK ok.1.1),fun k b h _=>by cases k<;>cases h<;>rfl⟩
 |dit a ks ts=>exact⟨_,.of (.dT ok.1.1),fun k b h _=>by cases k<;>cases h<;>rfl⟩
 |exn a n=>
  have main:∀m,n≠999->p.has m=true->kcX n=m->TyX X.K H (V.ref a) (Value.ref (p.cl m))->∃ty,TyX X.K H (T.exn a n).val ty/\∀k b,Ce (T.exn a n).dat k=.ok b->Ia p k->kitOne X.K ty (kdV p k)=some b:=by
   intro m hn hs hk hty
   have hn':(n==999)=false:=beq_eq_false_iff_ne.mpr hn
   refine⟨_,hty,fun k b h hh=>?_⟩
   rw[C.K]
   have kb:=C.kx.kb m hs
   cases k with
   |verr=>
    have h:(if(n==999)=true then Res.bad else Res.ok true)=Res.ok b:=h
    rw[hn',if_neg (by decide)]at h
    cases h;exact C.kx.kv m hs
   |cls m'=>
    have h:(if(n==999)=true then Res.bad else Res.ok (isa (kcX n) m'))=Res.ok b:=h
    rw[hn',if_neg (by decide),hk]at h
    cases h;exact C.kx.kc m m' hs hh
   |dict=>
    have h:Res.ok (n==999)=Res.ok b:=h
    rw[hn']at h
    cases h;exact kb _ (by decide)
   |_=>cases h;exact kb _ (by decide)
  rcases ok with⟨ok,lt⟩|⟨⟨dx,ob,e1,e2,hs⟩,ge⟩
  ·by_cases hn:n=999
   ·subst hn
    refine⟨_,.dct (by rw[ok.1];rfl),fun k b h _=>?_⟩
    cases k<;>cases h<;>rfl
   ·have hs:=ok.2.resolve_left hn
    exact main n hn hs (if_neg (Nat.not_le_of_lt lt)) (.exc (by rw[ok.1];unfold exO;rw[if_neg hn]) (C.K▸C.kx.x n hs))
  ·exact main 4 (fun z=>by subst z;exact absurd ge (by decide)) hs (if_pos ge) (.exa e1 (C.K▸C.kx.x 4 hs))
theorem P9(C:Ct p c lv X EX){l r:Expr}{x:E}{k:Kd}{v:V}{cv:Value}(hl:PE X l (lE p EX tn x))(hr:PE X r (tC v))(hst:Ah l=true)(hst':Ah r=true)(hgl:Gl X "isinstance")(hcv:clV v=some cv)
  (hk:∀(H:Hp)(t:T)(b:Bool),t.Ok p H->Ce t.dat k=.ok b->∃ty,TyX X.K H t.val ty/\kitOne X.K ty cv=some b):PE X (.Call (.Name "isinstance" np) [l,r] [] pos) (lE p EX tn (.isi x k)):=by
 refine PE.mono (C6 Nx hgl (C.blt _ (by simp[BZ])) (by decide +kernel) (Bc hl (Bc hr CG (Am hst')) (Am hst)) (by decide) (by decide) (Am hst) (AS (by simp[hst']))) fun σ H Q h=>?_
 obtain⟨τ,rfl,hF,j,k',hj,h⟩:=h
 simp only[jk]at hj
 obtain⟨⟨j1,k1⟩,h1,hj⟩:=bS hj
 simp only[ev]at h
 refine l1 hF h1 h fun d t H1 ht R h=>?_
 subst ht
 cases q:Ce t.dat k with
 |ok b=>
  rw[q]at h
  obtain⟨ty,h2,h3⟩:=hk H1 t b R.ok q
  exact⟨t.val,v,cv,ty,b,rfl,hcv,h2,h3,h (.bl b) H1 rfl (Rs.scal R.same rfl)⟩
 |exc n=>
  rw[q]at h
  cases t with
  |exn a c=>
   have hx:∀f,dX (T.exn a c).dat f≠.exc n:=fun f e=>by
    unfold T.dat dX at e
    split at e<;>simp_all
    split at e<;>cases e
   cases k with
   |verr=>exact absurd (show dX (T.exn a c).dat (fun _=>true)=.exc n from q) (hx _)
   |cls m=>exact absurd (show dX (T.exn a c).dat (fun c=>isa c m)=.exc n from q) (hx _)
   |_=>cases q
  |_=>cases k<;>cases q
 |bad=>rw[q]at h;exact nE h
theorem RZ(C:Ct p c lv X EX){k:Kd}{r:Expr}(h:NY c k r=true)(hn:∀n,k=.cls n->NeedOk p lv X (.cl n)):∃v cv,PE X r (tC v)/\clV v=some cv/\Ah r=true/\∀(H:Hp)(t:T)(b:Bool),t.Ok p H->Ce t.dat k=.ok b->∃ty,TyX X.K H t.val ty/\kitOne X.K ty cv=some b:=by
 cases r with
 |Name x q=>
  have h:((x==Ej k)&&glB c.sc x)=true:=h
  rw[aag,beq_iff_eq]at h
  obtain⟨rfl,h⟩:=h
  have fin:Ia p k->∀(H:Hp)(t:T)(b:Bool),t.Ok p H->Ce t.dat k=.ok b->∃ty,TyX X.K H t.val ty/\kitOne X.K ty (kdV p k)=some b:=fun hk H t b ok e=>let ⟨ty,a,f⟩:=RY C ok;⟨ty,a,f _ _ e hk⟩
  have key:(∃n,k=.cls n)\/(Ia p k/\kdV p k=.type (G4 k)/\X.mg (Ej k)=none/\bootBuiltins (Ej k)=some (.type (G4 k))/\Ej k≠"__name__" /\ (Ej k==("__debug__" : Str))=false):=by
   cases k with
   |cls n=>exact .inl ⟨n,rfl⟩
   |bool=>exact .inr ⟨trivial,rfl,C.bt _ (by decide),by decide +kernel,by decide,by decide⟩
   |dict=>exact .inr ⟨trivial,rfl,C.bt _ (by decide),by decide +kernel,by decide,by decide⟩
   |verr=>exact .inr ⟨trivial,rfl,C.bt _ (by decide),by decide +kernel,by decide,by decide⟩
   |_=>exact .inr ⟨trivial,rfl,C.blt _ (by decide),by decide +kernel,by decide,by decide⟩
  rcases key with⟨n,rfl⟩|⟨k1,k2,k3,k4,k5,k6⟩
  ·obtain⟨h1,h2⟩:=hn n rfl
   exact⟨.ref (p.cl n),.ref (p.cl n),JQ (C.gl h) h2 rfl (Lc n),rfl,rfl,fin h1⟩
  ·exact⟨.ty (G4 k),.type (G4 k),OT (C.gl h) k3 k4 rfl k5 k6,rfl,rfl,k2▸fin k1⟩
 |_=>exact nF h
theorem Ld(C:Ct p c lv X EX){l:Expr}{x:E}{q1 q2 p2:Pos}(hl:PE X l (lE p EX tn x))(hst:Ah l=true)(g1:Gl X "len")(g2:Gl X "set")(hcm:X.calm=true):PE X (.Call (.Name "len" q1) [.Call (.Name "set" q2) [l] [] p2] [] pos) (lE p EX tn (.lenSet x)):=by
 refine PE.mono (C6 MB g1 (C.blt _ (by simp[BZ])) PySem.boot_len (Bc (ET (MA hcm C.un) g2 (C.bt _ (by decide)) (by decide +kernel) (Bc hl CG (Am hst)) (by decide) (by decide) (Am hst) rfl) CG rfl) (by decide) (by decide) rfl rfl) fun σ H Q h=>?_
 obtain⟨τ,rfl,hF,j,k',hj,h⟩:=h
 simp only[jk]at hj
 obtain⟨⟨j1,k1⟩,h1,hj⟩:=bS hj
 simp only[ev]at h
 refine l1 hF h1 h fun d t H1 ht R h=>?_
 subst ht
 cases t with
 |lst a us=>
  have h:Lg p EX (vτ τ) ((DQ (Dy (T.dats us))).bind fun ps=>if ps.Nodup/\ps.all E0=true/\ps.length<=1000 then Res.ok (D.int (ps.length:Nat)) else .bad) H (KE p (Sh tn τ) H j k' Q):=h
  cases q:Dy (T.dats us) with
  |none=>rw[q]at h;exact nE h
  |some ps=>
   rw[q]at h
   obtain⟨qs,rfl,rfl⟩:=HB q
   have h:Lg p EX (vτ τ) (if(qs.map fun q=>(q.2.1,q.2.2)).Nodup/\(qs.map fun q=>(q.2.1,q.2.2)).all E0=true/\(qs.map fun q=>(q.2.1,q.2.2)).length<=1000 then Res.ok (D.int ((qs.map fun q=>(q.2.1,q.2.2)).length:Nat)) else .bad) H (KE p (Sh tn τ) H j k' Q):=h
   by_cases hg:(qs.map fun q=>(q.2.1,q.2.2)).Nodup/\(qs.map fun q=>(q.2.1,q.2.2)).all E0=true/\(qs.map fun q=>(q.2.1,q.2.2)).length<=1000
   ·rw[if_pos hg]at h
    obtain⟨n1,n2,n3⟩:=hg
    rw[aac]at n3 h
    have ok:=R.ok
    have e:((qs.map fun q=>T.tup q.1 [.int q.2.1,.int q.2.2]).map T.val)=qs.map fun q=>V.ref q.1:=by rw[aaJ];rfl
    have o1:Rd H1 a (.lst ((qs.map fun q=>T.tup q.1 [.int q.2.1,.int q.2.2]).map T.val)):=ok.1
    rw[e]at o1
    refine⟨a,qs,rfl,o1,fun q hq=>(T.oks_iff.mp ok.2 _ (aaD.mpr ⟨q,hq,rfl⟩)).1,n3,E4 (fun x hx y hy z=>PV (aay.mp n2 x hx) (aay.mp n2 y hy) z) n1,fun b hb=>⟨b,qs.length,rfl,L2.AO,n3,h (.int _) _ rfl (Rs.scal (R.same.trans fun a' u z=>?_) rfl)⟩⟩
    rw[L2.An (fun y=>by subst y;rw[hb]at z;cases z)];exact z
   ·rw[if_neg hg]at h;exact nE h
 |_=>exact nE h
end
end Pu
end
section
set_option maxHeartbeats 1000000
namespace Pu
open PySem PySem.Spec PyProof.Rows PySem.W L2
theorem Aa{a b:Bool}(h:(a&&b)=true):a=true/\b=true:=aag _ _ |>.mp h
theorem AH{p:Px}{lv:Nat}{X:Cx}{a b:List Nd1}(h:∀n∈a++b,NeedOk p lv X n):(∀n∈a,NeedOk p lv X n)/\∀n∈b,NeedOk p lv X n:=⟨fun n m=>h n (aav _ m),fun n m=>h n (aai _ m)⟩
theorem B9{c:CkC}:∀{es:Es}{xs:List Expr},ckEs c es xs=true->xs.all Ah=true/\xs.length=es.len
 |.nil,[],_=>⟨rfl,rfl⟩
 |.nil,x::xs,h=>nF h
 |.cons e r,[],h=>nF h
 |.cons e r,x::xs,h=>by
  have h:(ckE c e x&&Ah x&&ckEs c r xs)=true:=h
  obtain⟨h,h3⟩:=Aa h
  obtain⟨h1,h2⟩:=Aa h
  obtain⟨a,b⟩:=B9 h3
  exact⟨by rw[aaU,h2,a];rfl,by rw[aaH,b,Es.len]⟩
mutual
theorem snd{p:Px}{lv:Nat}:∀(x:E){c:CkC}{X:Cx}{EX:EXT}{tn:List Nat}(C:Ct p c lv X EX)(e:Expr),(∀n∈x.need,NeedOk p lv X n)->ckE c x e=true->PE X e (lE p EX tn x)/\(x.tst=true->PT X e (lT p EX tn x))
 |.nm i,c,X,EX,tn,C,e,hn,h=>by
  cases e with
  |Name y q=>
   have h:((c.N[i]?==some y)&&EB c.sc y&&BQ y)=true:=h
   obtain⟨h,h3⟩:=Aa h
   obtain⟨h1,h2⟩:=Aa h
   obtain⟨d1,d2⟩:=B8 h3
   exact AF C (Rx (by rw[C.N];exact beq_iff_eq.mp h1) (C.vis h2) d1 d2) rfl
  |_=>exact nF h
 |.cN,c,X,EX,tn,C,e,hn,h=>by
  cases e with
  |Constant k j q=>
   cases k with
   |none=>exact AF C (Gk (t:=.non) QQ rfl (fun _=>rfl)) rfl
   |_=>exact nF h
  |_=>exact nF h
 |.cB b,c,X,EX,tn,C,e,hn,h=>by
  cases e with
  |Constant k j q=>
   cases k with
   |bool b'=>
    cases beq_iff_eq.mp (show(b==b')=true from h)
    exact AF C (Gk (t:=.bl b) SF rfl (fun _=>rfl)) rfl
   |_=>exact nF h
  |_=>exact nF h
 |.cI b,c,X,EX,tn,C,e,hn,h=>by
  cases e with
  |Constant k j q=>
   cases k with
   |int b'=>
    cases beq_iff_eq.mp (show(b==b')=true from h)
    exact AF C (Gk (t:=.int b) QP rfl (fun _=>rfl)) rfl
   |_=>exact nF h
  |_=>exact nF h
 |.cS b,c,X,EX,tn,C,e,hn,h=>by
  cases e with
  |Constant k j q=>
   cases k with
   |str b'=>
    cases beq_iff_eq.mp (show(b==b')=true from h)
    exact AF C (Gk (t:=.str b) QR rfl (fun _=>rfl)) rfl
   |_=>exact nF h
  |_=>exact nF h
 |.gl y d,c,X,EX,tn,C,e,hn,h=>by
  cases e with
  |Name y' q=>
   have h:((y==y')&&glB c.sc y'&&BQ y'&&D.scal d)=true:=h
   obtain⟨h,h4⟩:=Aa h
   obtain⟨h,h3⟩:=Aa h
   obtain⟨h1,h2⟩:=Aa h
   cases beq_iff_eq.mp h1
   obtain⟨u,m,r⟩:=hn (.gl y d) (aaZ.mpr rfl)
   obtain⟨e1,e2⟩:=RX h4
   exact AF C (Gk (t:=dT d) (JQ (C.gl h2) m r (B8 h3).1) e2 (fun _=>by rw[e1];rfl)) rfl
  |_=>exact nF h
 |.tup es,c,X,EX,tn,C,e,hn,h=>by
  cases e with
  |Tuple xs k q=>
   obtain⟨h1,h2⟩:=Aa (show(ckEs c es xs&&decide (es.len<=1000))=true from h)
   exact AF C (Pe (sndA es C xs hn h1).1 (of_decide_eq_true h2)) rfl
  |_=>exact nF h
 |.lst es,c,X,EX,tn,C,e,hn,h=>by
  cases e with
  |List xs q=>
   obtain⟨h1,h2⟩:=Aa (show(ckEs c es xs&&decide (es.len<=1000))=true from h)
   exact AF C (Pf (sndA es C xs hn h1).1 (of_decide_eq_true h2)) rfl
  |_=>exact nF h
 |.bin o a b,c,X,EX,tn,C,e,hn,h=>by
  cases e with
  |BinOp l op r q=>
   obtain⟨h,h3⟩:=Aa (show((op==KU o)&&ckE c a l&&ckE c b r)=true from h)
   obtain⟨h1,h2⟩:=Aa h
   cases beq_iff_eq.mp h1
   obtain⟨n1,n2⟩:=AH hn
   exact AF C (Pm (snd a C l n1 h2).1 (snd b C r n2 h3).1) rfl
  |_=>exact nF h
 |.neg a,c,X,EX,tn,C,e,hn,h=>by
  cases e with
  |UnaryOp o l q=>
   cases o with
   |USub=>exact AF C (Pq (snd a C l hn h).1) rfl
   |_=>exact nF h
  |_=>exact nF h
 |.not a,c,X,EX,tn,C,e,hn,h=>by
  cases e with
  |UnaryOp o l q=>
   cases o with
   |Not=>
    obtain⟨h1,h2⟩:=snd a C (tn:=tn) l hn h
    exact⟨Pr h1,fun ht=>NI (h2 ht)⟩
   |_=>exact nF h
  |_=>exact nF h
 |.cmp o a b,c,X,EX,tn,C,e,hn,h=>by
  cases e with
  |Compare l ops rs q=>
   match ops,rs,h with
   |[op],[r],h=>
    obtain⟨h,h4⟩:=Aa (show((op==A3 o)&&ckE c a l&&ckE c b r&&Dz r)=true from h)
    obtain⟨h,h3⟩:=Aa h
    obtain⟨h1,h2⟩:=Aa h
    cases beq_iff_eq.mp h1
    obtain⟨n1,n2⟩:=AH hn
    have A:=(snd a C (tn:=tn) l n1 h2).1
    have B:=(snd b C (tn:=tn) r n2 h3).1
    exact⟨Pn C.K C.hu A B (DA h4),fun _=>NF C.K C.hu A B (DA h4)⟩
   |[],_,h=>exact nF h
   |[_],[],h=>exact nF h
   |[_],_::_::_,h=>exact nF h
   |_::_::_,_,h=>exact nF h
  |_=>exact nF h
 |.chain o o' a b d,c,X,EX,tn,C,e,hn,h=>by
  cases e with
  |Compare l ops rs q=>
   match ops,rs,h with
   |[op,op'],[r,r'],h=>
    obtain⟨h,h6⟩:=Aa (show((op==A3 o)&&(op'==A3 o')&&ckE c a l&&ckE c b r&&ckE c d r'&&Dz r')=true from h)
    obtain⟨h,h5⟩:=Aa h
    obtain⟨h,h4⟩:=Aa h
    obtain⟨h,h3⟩:=Aa h
    obtain⟨h1,h2⟩:=Aa h
    cases beq_iff_eq.mp h1
    cases beq_iff_eq.mp h2
    obtain⟨n1,n2⟩:=AH hn
    obtain⟨n2,n3⟩:=AH n2
    have A:=(snd a C (tn:=tn) l n1 h3).1
    have B:=(snd b C (tn:=tn) r n2 h4).1
    have D:=(snd d C (tn:=tn) r' n3 h5).1
    exact⟨Mm C.K C.hu A B D (DA h6),fun _=>K0 C.K C.hu A B D (DA h6)⟩
   |[],_,h=>exact nF h
   |[_],_,h=>exact nF h
   |[_,_],[],h=>exact nF h
   |[_,_],[_],h=>exact nF h
   |[_,_],_::_::_::_,h=>exact nF h
   |_::_::_::_,_,h=>exact nF h
  |_=>exact nF h
 |.isN n a,c,X,EX,tn,C,e,hn,h=>by
  cases e with
  |Compare l ops rs q=>
   match ops,rs,h with
   |[op],[r],h=>
    obtain⟨h,h3⟩:=Aa (show((op==if n then .IsNot else .Is)&&isNone r&&ckE c a l)=true from h)
    obtain⟨h1,h2⟩:=Aa h
    cases beq_iff_eq.mp h1
    have A:=(snd a C (tn:=tn) l hn h3).1
    cases r with
    |Constant k j q'=>
     cases k with
     |none=>exact⟨Pp A,fun _=>NG A⟩
     |_=>cases h2
    |_=>cases h2
   |[],_,h=>exact nF h
   |[_],[],h=>exact nF h
   |[_],_::_::_,h=>exact nF h
   |_::_::_,_,h=>exact nF h
  |_=>exact nF h
 |.bo k es,c,X,EX,tn,C,e,hn,h=>by
  cases e with
  |BoolOp op xs q=>
   obtain⟨h1,h2⟩:=Aa (show((op==if k then .And else .Or)&&ckEs c es xs)=true from h)
   cases beq_iff_eq.mp h1
   obtain⟨a1,a2⟩:=(sndA es C (tn:=tn) xs hn h2).2 k q
   exact⟨a1,fun ht=>(a2 ht).pt⟩
  |_=>exact nF h
 |.ix a i,c,X,EX,tn,C,e,hn,h=>by
  cases e with
  |Subscript l r q=>
   obtain⟨h,h3⟩:=Aa (show(ckE c a l&&ckE c i r&&CN r)=true from h)
   obtain⟨h1,h2⟩:=Aa h
   obtain⟨n1,n2⟩:=AH hn
   exact AF C (RH C.K (snd a C l n1 h1).1 (snd i C r n2 h2).1 h3) rfl
  |_=>exact nF h
 |.ixL a i,c,X,EX,tn,C,e,hn,h=>by
  cases e with
  |Subscript l r q=>
   obtain⟨h,h3⟩:=Aa (show(ckE c a l&&ckE c i r&&CN r)=true from h)
   obtain⟨h1,h2⟩:=Aa h
   obtain⟨n1,n2⟩:=AH hn
   exact AF C (Pw (snd a C l n1 h1).1 (snd i C r n2 h2).1 h3) rfl
  |_=>exact nF h
 |.slc a lo hi,c,X,EX,tn,C,e,hn,h=>by
  cases e with
  |Subscript l r q=>
   cases r with
   |Slice lo' hi' st q2=>
    cases st with
    |none=>
     obtain⟨h,h3⟩:=Aa (show(ckE c a l&&Gw lo.isCN (ckE c lo) lo'&&Gw hi.isCN (ckE c hi) hi')=true from h)
     obtain⟨h1,h2⟩:=Aa h
     obtain⟨n1,n2⟩:=AH hn
     obtain⟨n2,n3⟩:=AH n2
     have cn:∀{y:E},y.isCN=true->y=.cN:=fun {y} z=>by cases y<;>first|rfl|cases z
     have P1:PO X lo' (lO p EX tn lo):=by
      cases lo' with
      |none=>cases cn h2;exact Hz
      |some l'=>
       obtain⟨g1,g2⟩:=Aa h2
       exact HA (snd lo C l' n2 g2).1 (by simpa using g1)
     have P2:PO X hi' (lO p EX tn hi):=by
      cases hi' with
      |none=>cases cn h3;exact Hz
      |some l'=>
       obtain⟨g1,g2⟩:=Aa h3
       exact HA (snd hi C l' n3 g2).1 (by simpa using g1)
     exact AF C (Pz (snd a C l n1 h1).1 P1 P2) rfl
    |some _=>exact nF h
   |_=>exact nF h
  |_=>exact nF h
 |.call f es,c,X,EX,tn,C,e,hn,h=>by
  cases e with
  |Call fn xs ks q=>
   cases fn with
   |Name y q'=>
    cases ks with
    |nil=>
     obtain⟨h,h7⟩:=Aa (show((y==f.name)&&glB c.sc y&&BQ y&&ckEs c es xs&&decide (es.len=f.ar)&&decide (0<es.len)&&c.cm)=true from h)
     obtain⟨h,h6⟩:=Aa h
     obtain⟨h,h5⟩:=Aa h
     obtain⟨h,h4⟩:=Aa h
     obtain⟨h,h3⟩:=Aa h
     obtain⟨h1,h2⟩:=Aa h
     cases beq_iff_eq.mp h1
     obtain⟨s1,s2⟩:=B9 h4
     obtain⟨f1,f2⟩:=hn (.fn f) (aab ..)
     have A:=(sndA es C (tn:=tn) xs (fun n m=>hn n (aaa _ m)) h4).1
     cases es with
     |nil=>cases of_decide_eq_true h6
     |cons e1 r1=>
      cases xs with
      |nil=>cases s2
      |cons x1 xr=>exact AF C (NL C.pass f2 ((C.room h7).mono f1) (C.gl h2) (B8 h3).1 A s1 (of_decide_eq_true h5)) rfl
    |cons _ _=>exact nF h
   |_=>exact nF h
  |_=>exact nF h
 |.lenSet a,c,X,EX,tn,C,e,hn,h=>by
  cases e with
  |Call fn xs ks q=>
   cases fn with
   |Name y q'=>
    match xs,ks,h with
    |[l],[],h=>
     obtain⟨h,h3⟩:=Aa (show((y==("len" : Str))&&glB c.sc y&&HZ c (ckE c a) l)=true from h)
     obtain⟨h1,h2⟩:=Aa h
     cases beq_iff_eq.mp h1
     obtain⟨q2,e,p2,rfl,g1,g2,g3,g4⟩:=NZ h3
     exact AF C (Ld C (snd a C e hn g3).1 g4 (C.gl h2) (C.gl g1) (C.calm g2)) rfl
    |[],_,h=>exact nF h
    |_::_::_,_,h=>exact nF h
    |[_],_::_,h=>exact nF h
   |_=>exact nF h
  |_=>exact nF h
 |.callB f es,c,X,EX,tn,C,e,hn,h=>by
  cases e with
  |Call fn xs ks q=>
   cases fn with
   |Name y q'=>
    cases ks with
    |nil=>
     obtain⟨h,h7⟩:=Aa (show((y==f.name)&&glB c.sc y&&BQ y&&ckEs c es xs&&decide (es.len=f.ar)&&decide (0<es.len)&&c.cm)=true from h)
     obtain⟨h,h6⟩:=Aa h
     obtain⟨h,h5⟩:=Aa h
     obtain⟨h,h4⟩:=Aa h
     obtain⟨h,h3⟩:=Aa h
     obtain⟨h1,h2⟩:=Aa h
     cases beq_iff_eq.mp h1
     obtain⟨s1,s2⟩:=B9 h4
     obtain⟨f1,f2⟩:=hn (.fn f) (aab ..)
     have A:=(sndA es C (tn:=tn) xs (fun n m=>hn n (aaa _ m)) h4).1
     cases es with
     |nil=>cases of_decide_eq_true h6
     |cons e1 r1=>
      cases xs with
      |nil=>cases s2
      |cons x1 xr=>exact AF C (Mo C.pass f2 ((C.room h7).mono f1) (C.gl h2) (B8 h3).1 A s1 (of_decide_eq_true h5)) rfl
    |cons _ _=>exact nF h
   |_=>exact nF h
  |_=>exact nF h
 |.bi b es,c,X,EX,tn,C,e,hn,h=>by
  cases e with
  |Call fn xs ks q=>
   cases fn with
   |Name y q'=>
    cases ks with
    |nil=>
     obtain⟨h,h6⟩:=Aa (show((y==MF b)&&glB c.sc y&&RV b&&ckEs c es xs&&decide (0<es.len)&&(c.cm||E9 b))=true from h)
     obtain⟨h,h5⟩:=Aa h
     obtain⟨h,h4⟩:=Aa h
     obtain⟨h,h3⟩:=Aa h
     obtain⟨h1,h2⟩:=Aa h
     cases beq_iff_eq.mp h1
     obtain⟨s1,s2⟩:=B9 h4
     have A:=(sndA es C (tn:=tn) xs hn h4).1
     cases es with
     |nil=>cases of_decide_eq_true h5
     |cons e1 r1=>
      cases xs with
      |nil=>cases s2
      |cons x1 xr=>
       refine AF C ?_ rfl
       cases b with
       |len=>exact PB C.blt A s1 (C.gl h2)
       |min=>exact PH C.blt A s1 (C.calm (by rw[show E9 .min=false from rfl,acT]at h6;exact h6)) (C.gl h2)
       |max=>exact PF C.blt A s1 (C.calm (by rw[show E9 .max=false from rfl,acT]at h6;exact h6)) (C.gl h2)
       |maxL=>exact NN C.blt A s1 (C.calm (by rw[show E9 .maxL=false from rfl,acT]at h6;exact h6)) (C.gl h2)
       |int=>exact PD C.blt A s1 (C.gl h2)
       |list=>exact NM C.blt A s1 (C.gl h2)
    |cons _ _=>exact nF h
   |_=>exact nF h
  |_=>exact nF h
 |.listI it,c,X,EX,tn,C,e,hn,h=>by
  cases it with
  |r2 a b=>
   cases q:G3 e with
   |none=>
    have h:(match G3 e with|some (x,y,l,r)=>(x==("list" : Str))&&glB c.sc x&&(y==("range" : Str))&&glB c.sc y&&ckE c a l&&Ah l&&ckE c b r&&Ah r&&c.cm|none=>false)=true:=h
    rw[q]at h;cases h
   |some w=>
    obtain⟨x,y,l,r⟩:=w
    have h:(match G3 e with|some (x,y,l,r)=>(x==("list" : Str))&&glB c.sc x&&(y==("range" : Str))&&glB c.sc y&&ckE c a l&&Ah l&&ckE c b r&&Ah r&&c.cm|none=>false)=true:=h
    rw[q]at h
    obtain⟨p1,p2,p3,p4,rfl⟩:=P7 q
    obtain⟨h,h9⟩:=Aa (show((x==("list" : Str))&&glB c.sc x&&(y==("range" : Str))&&glB c.sc y&&ckE c a l&&Ah l&&ckE c b r&&Ah r&&c.cm)=true from h)
    obtain⟨h,h8⟩:=Aa h
    obtain⟨h,h7⟩:=Aa h
    obtain⟨h,h6⟩:=Aa h
    obtain⟨h,h5⟩:=Aa h
    obtain⟨h,h4⟩:=Aa h
    obtain⟨h,h3⟩:=Aa h
    obtain⟨h1,h2⟩:=Aa h
    cases beq_iff_eq.mp h1
    cases beq_iff_eq.mp h3
    obtain⟨n1,n2⟩:=AH hn
    exact AF C (MD (C.calm h9) (snd a C l n1 h5).1 (snd b C r n2 h7).1 h6 h8 (C.gl h2) (C.blt _ (by simp[BZ])) (C.gl h4) (C.blt _ (by simp[BZ]))) rfl
  |r1 b=>
   cases q:Fu e with
   |none=>
    have h:(match Fu e with|some (x,y,r)=>(x==("list" : Str))&&glB c.sc x&&(y==("range" : Str))&&glB c.sc y&&ckE c b r&&Ah r&&c.cm|none=>false)=true:=h
    rw[q]at h;cases h
   |some w=>
    obtain⟨x,y,r⟩:=w
    have h:(match Fu e with|some (x,y,r)=>(x==("list" : Str))&&glB c.sc x&&(y==("range" : Str))&&glB c.sc y&&ckE c b r&&Ah r&&c.cm|none=>false)=true:=h
    rw[q]at h
    obtain⟨p1,p2,p3,p4,rfl⟩:=NX q
    obtain⟨h,h9⟩:=Aa (show((x==("list" : Str))&&glB c.sc x&&(y==("range" : Str))&&glB c.sc y&&ckE c b r&&Ah r&&c.cm)=true from h)
    obtain⟨h,h8⟩:=Aa h
    obtain⟨h,h7⟩:=Aa h
    obtain⟨h,h4⟩:=Aa h
    obtain⟨h,h3⟩:=Aa h
    obtain⟨h1,h2⟩:=Aa h
    cases beq_iff_eq.mp h1
    cases beq_iff_eq.mp h3
    exact AF C (K7 (C.calm h9) (snd b C r hn h7).1 h8 (C.gl h2) (C.blt _ (by simp[BZ])) (C.gl h4) (C.blt _ (by simp[BZ]))) rfl
  |_=>cases e<;>exact nF h
 |.isi a k,c,X,EX,tn,C,e,hn,h=>by
  cases e with
  |Call fn xs ks q=>
   cases fn with
   |Name y q'=>
    match xs,ks,h with
    |[l,r],[],h=>
     obtain⟨h,h5⟩:=Aa (show((y==("isinstance" : Str))&&glB c.sc y&&ckE c a l&&NY c k r&&Ah l)=true from h)
     obtain⟨h,h4⟩:=Aa h
     obtain⟨h,h3⟩:=Aa h
     obtain⟨h1,h2⟩:=Aa h
     cases beq_iff_eq.mp h1
     obtain⟨n1,n2⟩:=AH hn
     obtain⟨v,cv,e1,e2,e3,e4⟩:=RZ C h4 (fun n e=>n1 _ (by subst e;exact aaZ.mpr rfl))
     exact AF C (P9 C (snd a C l n2 h3).1 e1 h5 e3 (C.gl h2) e2 e4) rfl
    |[],_,h=>exact nF h
    |[_],_,h=>exact nF h
    |_::_::_::_,_,h=>exact nF h
    |[_,_],_::_,h=>exact nF h
   |_=>exact nF h
  |_=>exact nF h
 |.comp0 nl fr g it elt,c,X,EX,tn,C,e,hn,h=>by
  cases e with
  |ListComp elt' gens scope q=>
   obtain⟨tg,iter,ifs,rfl,h⟩:=Gv h
   obtain⟨h,h7⟩:=Aa h
   obtain⟨h,h6⟩:=Aa h
   obtain⟨h,h5⟩:=Aa h
   obtain⟨h,h4⟩:=Aa h
   obtain⟨h,h3⟩:=Aa h
   obtain⟨h,h2⟩:=Aa h
   obtain⟨h,h1⟩:=Aa h
   obtain⟨hcm,h0⟩:=Aa h
   cases ifs with
   |cons _ _=>cases h0
   |nil=>
   have h2:=of_decide_eq_true h2
   subst h2
   obtain⟨S,nd⟩:=OL C h1
   obtain⟨n1,n2⟩:=AH hn
   refine AF C (ME (C.calm hcm) S (sndI it C iter n1 h4) (fun i hi=>of_decide_eq_true (aay.mp h3 i hi)) (fun z=>⟨?_,?_⟩) (EE h5)) rfl
   ·exact IP (C.blk nd z) h6
   ·exact(snd elt (C.blk nd z) elt' (fun n m=>(n2 n m).blk) h7).1
  |_=>exact nF h
theorem sndA{p:Px}{lv:Nat}:∀(es:Es){c:CkC}{X:Cx}{EX:EXT}{tn:List Nat}(C:Ct p c lv X EX)(xs:List Expr),(∀n∈es.need,NeedOk p lv X n)->ckEs c es xs=true->
  PA X xs (lEs p EX tn es)/\∀(k:Bool)(q:Pos),PE X (.BoolOp (if k then .And else .Or) xs q) (lE p EX tn (.bo k es))/\(es.tsts=true->PW X (.BoolOp (if k then .And else .Or) xs q) (lT p EX tn (.bo k es)))
 |.nil,c,X,EX,tn,C,xs,hn,h=>by
  cases xs with
  |nil=>
   refine⟨ND,fun k q=>⟨fun pins s σ H Q I h=>?_,fun _ wh pins s σ H Q I h=>?_⟩⟩
   ·obtain⟨τ,rfl,hF,j,k',hj,h⟩:=h
    simp only[ev,evBo]at h
    exact nE h
   ·obtain⟨τ,rfl,hF,hj,h⟩:=h
    simp only[tv,ev,evBo]at h
    exact nE h
  |cons _ _=>exact nF h
 |.cons e r,c,X,EX,tn,C,xs,hn,h=>by
  cases xs with
  |nil=>exact nF h
  |cons x xs=>
   obtain⟨h,h3⟩:=Aa (show(ckE c e x&&Ah x&&ckEs c r xs)=true from h)
   obtain⟨h1,h2⟩:=Aa h
   obtain⟨n1,n2⟩:=AH hn
   obtain⟨A1,A2⟩:=snd e C (tn:=tn) x n1 h1
   obtain⟨B1,B2⟩:=sndA r C (tn:=tn) xs n2 h3
   refine⟨Mi A1 B1 (Am h2),fun k q=>?_⟩
   cases r with
   |nil=>
    cases xs with
    |nil=>exact⟨RF A1,fun z=>Pv (A2 (Aa (show(e.tst&&true)=true from z)).1)⟩
    |cons _ _=>exact nF h3
   |cons e' r'=>
    cases xs with
    |nil=>exact nF h3
    |cons x' xs'=>
     obtain⟨C1,C2⟩:=B2 k q
     exact⟨Ps A1 C1,fun z=>let ⟨z1,z2⟩:=Aa (show(e.tst&&(Es.cons e' r').tsts)=true from z);NJ (A2 z1) (C2 z2)⟩
theorem sndI{p:Px}{lv:Nat}:∀(it:It){c:CkC}{X:Cx}{EX:EXT}{tn:List Nat}{tg:Expr}(C:Ct p c lv X EX)(e:Expr),(∀n∈it.need,NeedOk p lv X n)->ckI c tg it e=true->PI X tg e (lI p EX tn it)
 |.seq a,c,X,EX,tn,tg,C,e,hn,h=>NV C.K (snd a C e hn h).1
 |.seqL a,c,X,EX,tn,tg,C,e,hn,h=>MC C.K (snd a C e hn h).1
 |.r1 a,c,X,EX,tn,tg,C,e,hn,h=>by
  cases e with
  |Call fn xs ks q=>
   cases fn with
   |Name y q'=>
    match xs,ks,h with
    |[l],[],h=>
     obtain⟨h,h4⟩:=Aa (show((y==("range" : Str))&&glB c.sc y&&ckE c a l&&Ah l)=true from h)
     obtain⟨h,h3⟩:=Aa h
     obtain⟨h1,h2⟩:=Aa h
     cases beq_iff_eq.mp h1
     exact PX (snd a C l hn h3).1 h4 (C.gl h2) (C.blt _ (by simp[BZ]))
    |[],_,h=>exact nF h
    |_::_::_,_,h=>exact nF h
    |[_],_::_,h=>exact nF h
   |_=>exact nF h
  |_=>exact nF h
 |.r2 a b,c,X,EX,tn,tg,C,e,hn,h=>by
  cases e with
  |Call fn xs ks q=>
   cases fn with
   |Name y q'=>
    match xs,ks,h with
    |[l,r],[],h=>
     obtain⟨h,h6⟩:=Aa (show((y==("range" : Str))&&glB c.sc y&&ckE c a l&&Ah l&&ckE c b r&&Ah r)=true from h)
     obtain⟨h,h5⟩:=Aa h
     obtain⟨h,h4⟩:=Aa h
     obtain⟨h,h3⟩:=Aa h
     obtain⟨h1,h2⟩:=Aa h
     cases beq_iff_eq.mp h1
     obtain⟨n1,n2⟩:=AH hn
     exact PY (snd a C l n1 h3).1 (snd b C r n2 h5).1 h4 h6 (C.gl h2) (C.blt _ (by simp[BZ]))
    |[],_,h=>exact nF h
    |[_],_,h=>exact nF h
    |_::_::_::_,_,h=>exact nF h
    |[_,_],_::_,h=>exact nF h
   |_=>exact nF h
  |_=>exact nF h
end
end Pu
end
section
namespace Pu
open PySem PySem.Spec PyProof.Rows PySem.W L2
inductive Md where
 |sh
 |ow (k:Nat)
 |br (k:Nat)
 |dead
 deriving DecidableEq
@[reducible]noncomputable def Ms:=List Md
abbrev Md.tn:Md->Nat
 |.sh=>0
 |.ow k=>k
 |.br k=>k
 |.dead=>99
abbrev Md.le:Md->Md->Bool
 |_,.dead=>true
 |.sh,.sh=>true
 |.ow _,.sh=>true
 |.ow k,.ow k'=>decide (0<k'/\k'<=k)
 |.br k,.br k'=>decide (k=k')
 |_,_=>false
abbrev Md.small:Md->Bool
 |.ow k=>decide (0<k/\k<90)
 |.br k=>decide (k<90)
 |_=>true
abbrev Md.meet(a b:Md):Md:=if a=b then a else match a,b with
 |.ow k,.ow k'=>if 0<min k k' then .ow (min k k') else .sh
 |.ow _,.sh=>.sh
 |.sh,.ow _=>.sh
 |_,_=>.dead
abbrev tnM(m:Ms):List Nat:=m.map Md.tn
theorem A4{m:Ms}{i j:Nat}(h:(tnM m)[i]?=some j):∃d,m[i]?=some d/\d.tn=j:=by
 unfold tnM at h
 rw[aal]at h
 exact aax.mp h
theorem AT{m:Ms}{i:Nat}{d:Md}(h:m[i]?=some d):(tnM m)[i]?=some d.tn:=by
 unfold tnM;rw[aal,h];rfl
abbrev Own(m:Ms)(τ:Ft)(a:Addr):Prop:=∃(i:Nat)(t:T)(k:Nat),τ[i]?=some (some t)/\m[i]?=some (.ow k)/\a∈t.adr k
abbrev Md.low:Md->Nat
 |.sh=>0
 |.ow _=>0
 |.br k=>k
 |.dead=>99
structure Sf(p:Px)(H0:Hp)(A0:Addr->Prop)(m:Ms)(τ:Ft)(H:Hp):Prop where
 len:τ.length=m.length
 small:∀d∈m,d.small=true
 same:Same H0 H
 ok:Fok p (tnM m) τ H
 own:∀(i:Nat)(t:T)(k:Nat)(a:Addr),τ[i]?=some (some t)->m[i]?=some (.ow k)->a∈t.adr k->H0 a=none/\Mu H a
 src:∀a,Sh (tnM m) τ a->H0 a=none\/A0 a
 nd:∀(i:Nat)(t:T)(k:Nat),τ[i]?=some (some t)->m[i]?=some (.ow k)->t.Nd k
 sep:∀(i j:Nat)(t u:T)(k:Nat)(d:Md),i≠j->τ[i]?=some (some t)->m[i]?=some (.ow k)->τ[j]?=some (some u)->m[j]?=some d->d≠.dead->∀a∈t.adr k,a∉u.rest d.low
 top:∀(i j:Nat)(t u:T)(k k2:Nat),τ[i]?=some (some t)->m[i]?=some (.ow k)->τ[j]?=some (some u)->m[j]?=some (.br k2)->∀a ts,t=.lst a ts->a∉u.rest 0
section
variable{p:Px}{H0:Hp}{A0:Addr->Prop}{m m':Ms}{τ:Ft}{H H':Hp}
theorem Sf.at(S:Sf p H0 A0 m τ H){i:Nat}{t:T}{d:Md}(e:τ[i]?=some (some t))(h:m[i]?=some d)(hd:d≠.dead):t.Ok p H:=by
 refine S.ok i t d.tn e (AT h) ?_
 have:=S.small d (aae h)
 cases d with
 |sh=>exact(by decide:(0:Nat)<90)
 |ow k=>exact(of_decide_eq_true this).2
 |br k=>exact of_decide_eq_true this
 |dead=>exact absurd rfl hd
theorem Sf.ownOk(S:Sf p H0 A0 m τ H){a:Addr}(o:Own m τ a):H0 a=none/\Mu H a:=by
 obtain⟨i,t,k,e,h,q⟩:=o
 exact S.own i t k a e h q
theorem Sf.disj(S:Sf p H0 A0 m τ H){a:Addr}(o:Own m τ a):¬Sh (tnM m) τ a:=by
 rintro⟨j,u,jj,e',h',l,q'⟩
 obtain⟨i,t,k,e,h,q⟩:=o
 obtain⟨d,hd,rfl⟩:=A4 h'
 have hdd:d≠.dead:=fun z=>by subst z;exact absurd l (by decide)
 by_cases z:i=j
 ·subst z
  rw[h]at hd;cases hd
  rw[e]at e'
  cases e'
  exact(S.nd i _ k e h).2 a q' q
 ·refine S.sep i j t u k d z e h e' hd hdd a q (T.rest_le u ?_ q')
  cases d<;>simp[Md.low,Md.tn]
theorem Sf.grow(S:Sf p H0 A0 m τ H)(s:Same H H'):Sf p H0 A0 m τ H' :=
 ⟨S.len,S.small,S.same.trans s,S.ok.same s,fun i t k a e h q=>⟨(S.own i t k a e h q).1,let ⟨vs,z,mu⟩:=(S.own i t k a e h q).2;⟨vs,s _ _ z,mu⟩⟩,S.src,S.nd,S.sep,S.top⟩
abbrev leM(m m':Ms):Bool:=decide (m.length=m'.length)&&(m.zip m').all fun q=>q.1.le q.2
theorem Da(h:leM m m'=true){i:Nat}{d':Md}(e:m'[i]?=some d'):∃d,m[i]?=some d/\d.le d'=true:=by
 unfold leM at h
 obtain⟨h1,h2⟩:=Aa h
 have h1:=of_decide_eq_true h1
 have hi:i<m.length:=by
  rw[h1];exact(aaA.mp e).1
 refine⟨m[i],aan hi,aay.mp h2 (m[i],d') (Kf (aan hi) e)⟩
theorem FV{m:Ms}(h:∀d∈m,d.small=true):leM m m=true:=by
 unfold leM
 simp only[decide_true,ack]
 refine aay.mpr fun q hq=>?_
 obtain⟨i,hi,e⟩:=abB hq
 have hi':i<m.length:=by simpa using hi
 have hs:=h m[i] (List.getElem_mem hi')
 have:q=(m[i],m[i]):=by rw[<- e];simp
 rw[this]
 generalize m[i]=d at hs
 cases d<;>simp_all[Md.le,Md.small]
theorem Sf.weak(S:Sf p H0 A0 m τ H)(h:leM m m'=true):Sf p H0 A0 m' τ H:=by
 have hl:m.length=m'.length:=of_decide_eq_true (Aa (show(decide (m.length=m'.length)&&_)=true from h)).1
 have shd:∀a,Sh (tnM m') τ a->Sh (tnM m) τ a\/Own m τ a:=by
  rintro a ⟨i,t,j,e,ej,l,q⟩
  obtain⟨d',hd',rfl⟩:=A4 ej
  obtain⟨d,hd,le⟩:=Da h hd'
  have sm:=S.small d (aae hd)
  cases d' with
  |dead=>exact absurd l (by decide)
  |sh=>
   cases d with
   |sh=>exact .inl ⟨i,t,0,e,AT hd,by decide,q⟩
   |ow k=>
    rcases (T.all_iff t k).mp q with z|z
    ·exact .inr ⟨i,t,k,e,hd,z⟩
    ·exact .inl ⟨i,t,k,e,AT hd,(of_decide_eq_true sm).2,z⟩
   |_=>cases le
  |ow k'=>
   cases d with
   |ow k=>
    rcases (T.all_iff t k).mp (T.rest_le t (aau _) q) with z|z
    ·exact .inr ⟨i,t,k,e,hd,z⟩
    ·exact .inl ⟨i,t,k,e,AT hd,(of_decide_eq_true sm).2,z⟩
   |_=>cases le
  |br k'=>
   cases d with
   |br k=>
    have:k=k':=of_decide_eq_true le
    subst this
    exact .inl ⟨i,t,k,e,AT hd,of_decide_eq_true sm,q⟩
   |_=>cases le
 have ownd:∀{i:Nat}{k':Nat},m'[i]?=some (.ow k')->∃k,m[i]?=some (.ow k)/\k'<=k:=by
  intro i k' hd'
  obtain⟨d,hd,le⟩:=Da h hd'
  cases d with
  |ow k=>exact⟨k,hd,(of_decide_eq_true le).2⟩
  |_=>cases le
 refine⟨S.len.trans hl,fun d' hd'=>?_,S.same,fun i t j e ej l=>?_,fun i t k' a e hk q=>?_,fun a sh=>?_,fun i t k' e hk=>?_,fun i j t u k' d' ne e hk e' hd' nd a q=>?_,fun i j t u k' k2 e hk e' hd' a ts z=>?_⟩
 ·obtain⟨i,hi,rfl⟩:=abB hd'
  obtain⟨d,hd,le⟩:=Da h (aan hi)
  have sm:=S.small d (aae hd)
  generalize m'[i]=d' at le
  cases d'<;>cases d<;>simp_all[Md.le,Md.small]<;>omega
 ·obtain⟨d',hd',rfl⟩:=A4 ej
  obtain⟨d,hd,le⟩:=Da h hd'
  refine S.at e hd fun z=>?_
  subst z
  cases d'<;>first|exact absurd l (by decide)|cases le
 ·obtain⟨k,hd,le⟩:=ownd hk
  exact S.own i t k a e hd (T.adr_le t le q)
 ·rcases shd a sh with z|z
  ·exact S.src a z
  ·exact .inl (S.ownOk z).1
 ·obtain⟨k,hd,le⟩:=ownd hk
  exact T.nd_le t le (S.nd i t k e hd)
 ·obtain⟨k,hd,le⟩:=ownd hk
  obtain⟨d,hdj,lj⟩:=Da h hd'
  have hdd:d≠.dead:=fun z=>by subst z;cases d'<;>first|exact nd rfl|cases lj
  refine fun q'=>S.sep i j t u k d ne e hd e' hdj hdd a (T.adr_le t le q) (T.rest_le u ?_ q')
  cases d'<;>cases d<;>first|exact aau _|(cases lj;done)|exact absurd rfl nd|skip
  exact abd (of_decide_eq_true lj)
 ·obtain⟨k,hd,le⟩:=ownd hk
  obtain⟨d,hdj,lj⟩:=Da h hd'
  cases d with
  |br k3=>exact S.top i j t u k k3 e hd e' hdj a ts z
  |_=>cases lj
abbrev up(l:List Nat):List Nat:=l++l.map (·+1000)
theorem R0{τ:Ft}{x i:Nat}{s:Option T}(h:i≠x):(vτ (τ.set x s))[i]?=(vτ τ)[i]?:=by
 unfold vτ
 rw[aal,aal,aaz (Ne.symm h)]
theorem R1{τ τ':Ft}{i:Nat}(h:τ'[i]?=τ[i]?):(vτ τ')[i]?=(vτ τ)[i]?:=by
 unfold vτ
 rw[aal,aal,h]
theorem N0{x i:Nat}{l:List Nat}(h:i+1000∉x::(x+1000)::l):i≠x:=fun z=>h (by rw[z];exact aaa _ (aab ..))
theorem nup{i:Nat}{l:List Nat}(h:i+1000∉up l):i∉l:=fun z=>h (aai _ (aaD.mpr ⟨i,z,rfl⟩))
theorem Qa(τ:Ft)(x:Nat)(t:T):vτ (τ.set x (some t))=(vτ τ).set x (some t.val):=by
 unfold vτ
 rw[acs];rfl
theorem R3{τ:Ft}{x:Nat}{t t':T}(h:τ[x]?=some (some t))(e:t'.val=t.val):vτ (τ.set x (some t'))=vτ τ:=by
 rw[Qa,e]
 refine adc fun i=>?_
 by_cases z:x=i
 ·subst z
  rw[abn,C8 h];rfl
 ·rw[aaz z]
structure Stp(m m':Ms)(w0:List Nat)(τ τ':Ft)(H H':Hp):Prop where
 keep:∀a u,H a=some u->¬Own m τ a->H' a=some u
 grow:∀a,Own m' τ' a->Own m τ a\/H a=none
 wr:∀i,i∉w0->τ'[i]?=τ[i]?
 ad:∀i,i+1000∉w0->(vτ τ')[i]?=(vτ τ)[i]?
theorem Own.weak(h:leM m m'=true){a:Addr}(o:Own m' τ a):Own m τ a:=by
 obtain⟨i,t,k,e,hk,q⟩:=o
 obtain⟨d,hd,le⟩:=Da h hk
 cases d with
 |ow k2=>exact⟨i,t,k2,e,hd,T.adr_le t (of_decide_eq_true le).2 q⟩
 |_=>cases le
theorem Stp.refl(wr:List Nat)(h:leM m m'=true)(s:Same H H'):Stp m m' wr τ τ H H':=⟨fun a u e _=>s a u e,fun a o=>.inl (o.weak h),fun _ _=>rfl,fun _ _=>rfl⟩
theorem Stp.trans{m1 m2 m3:Ms}{w1 w2:List Nat}{τ1 τ2 τ3:Ft}{H1 H2 H3:Hp}(a:Stp m1 m2 w1 τ1 τ2 H1 H2)(b:Stp m2 m3 w2 τ2 τ3 H2 H3):Stp m1 m3 (w1++w2) τ1 τ3 H1 H3:=by
 refine⟨fun x u e n=>b.keep x u (a.keep x u e n) fun o=>?_,fun x o=>?_,fun i hi=>?_,fun i hi=>(b.ad i fun h=>hi (aai _ h)).trans (a.ad i fun h=>hi (aav _ h))⟩
 ·rcases a.grow x o with z|z
  ·exact n z
  ·rw[e]at z;cases z
 ·rcases b.grow x o with z|z
  ·exact a.grow x z
  ·cases q:H1 x with
   |none=>exact .inr rfl
   |some u=>
    refine .inl (Classical.byContradiction fun n=>?_)
    rw[a.keep x u q n]at z;cases z
 ·rw[b.wr i (fun h=>hi (aai _ h)),a.wr i (fun h=>hi (aav _ h))]
theorem Stp.mono{w1 w2:List Nat}{τ':Ft}(a:Stp m m' w1 τ τ' H H')(h:∀i∈w1,i∈w2):Stp m m' w2 τ τ' H H':=⟨a.keep,a.grow,fun i hi=>a.wr i fun q=>hi (h i q),fun i hi=>a.ad i fun q=>hi (h _ q)⟩
end
abbrev mdK(k:Nat):Md:=if k=0 then .sh else .ow k
theorem Fa{k k':Nat}(h:mdK k=.ow k'):k'=k/\k≠0:=by unfold mdK at h;split at h<;>simp_all
theorem R4{k k':Nat}(h:mdK k=.br k'):False:=by unfold mdK at h;split at h<;>simp_all
section
variable{p:Px}{H0:Hp}{A0:Addr->Prop}{m m':Ms}{τ:Ft}{H H1:Hp}
theorem Ae{α:Type}{l:List α}{x i:Nat}{v w:α}(h:(l.set x v)[i]?=some w):(i=x/\w=v)\/(i≠x/\l[i]?=some w):=by
 by_cases z:x=i
 ·subst z
  rw[abn]at h
  cases q:l[x]? with
  |none=>rw[q]at h;cases h
  |some y=>
   rw[q]at h
   exact .inl ⟨rfl,by simpa using h.symm⟩
 ·rw[aaz z]at h
  exact .inr ⟨fun e=>z e.symm,h⟩
theorem R5{x k ke:Nat}{t:T}(S:Sf p H0 A0 m τ H)(R:Rs p (Sh (tnM m) τ) H H1 0 ke t)(hk:k<=ke)(hx:x<m.length)(h90:k<90):Sf p H0 A0 (m.set x (mdK k)) (τ.set x (some t)) H1/\Stp m (m.set x (mdK k)) [x,x+1000] τ (τ.set x (some t)) H H1:=by
 have S1:=S.grow R.same
 have dom:∀{i:Nat}{u:T}{d:Md},τ[i]?=some (some u)->m[i]?=some d->d≠.dead->∀a∈u.rest 0,H a≠none:=fun e hd nd a q=>(S.at e hd nd).dom q
 have tnew:∀a∈t.adr k,H a=none:=fun a q=>(R.new a (T.adr_le t hk q)).1
 have town:∀a,Own m τ a->a∉t.rest 0:=fun a o q=>by
  rcases R.src a q with z|z
  ·obtain⟨_,vs,e,mu⟩:=S.ownOk o
   rw[e]at z;cases z
  ·exact S.disj o z
 have owns:∀a,Own (m.set x (mdK k)) (τ.set x (some t)) a->a∈t.adr k\/Own m τ a:=by
  rintro a ⟨i,u,k',e,hk',q⟩
  rcases Ae e with⟨rfl,e2⟩|⟨ne,e⟩
  ·cases e2
   rcases Ae hk' with⟨_,z⟩|⟨z,_⟩
   ·obtain⟨rfl,_⟩:=Fa z.symm
    exact .inl q
   ·exact absurd rfl z
  ·rcases Ae hk' with⟨z,_⟩|⟨_,z⟩
   ·exact absurd z ne
   ·exact .inr ⟨i,u,k',e,z,q⟩
 refine⟨⟨by rw[aa4,aa4];exact S.len,fun d hd=>?_,S1.same,fun i u j e ej l=>?_,fun i u k' a e hk' q=>?_,fun a sh=>?_,fun i u k' e hk'=>?_,fun i j u w k' d ne e hk' e' hd nd a q=>?_,fun i j u w k' k2 e hk' e' hd a ts z=>?_⟩,
  fun a u e _=>R.same a u e,fun a o=>?_,fun i hi=>?_,fun i hi=>R0 (N0 hi)⟩
 ·rcases List.mem_or_eq_of_mem_set hd with z|z
  ·exact S.small d z
  ·subst z
   unfold mdK
   split
   ·rfl
   ·exact decide_eq_true ⟨by omega,h90⟩
 ·obtain⟨d,hd,rfl⟩:=A4 ej
  rcases Ae e with⟨rfl,e2⟩|⟨ne,e⟩
  ·cases e2;exact R.ok
  ·rcases Ae hd with⟨z,_⟩|⟨_,z⟩
   ·exact absurd z ne
   ·exact S1.ok i u _ e (AT z) l
 ·rcases Ae e with⟨rfl,e2⟩|⟨ne,e⟩
  ·cases e2
   rcases Ae hk' with⟨_,z⟩|⟨z,_⟩
   ·obtain⟨rfl,_⟩:=Fa z.symm
    have:=R.new a (T.adr_le _ hk q)
    exact⟨S.same.free this.1,this.2⟩
   ·exact absurd rfl z
  ·rcases Ae hk' with⟨z,_⟩|⟨_,z⟩
   ·exact absurd z ne
   ·exact S1.own i u k' a e z q
 ·obtain⟨i,u,j,e,ej,l,q⟩:=sh
  obtain⟨d,hd,rfl⟩:=A4 ej
  rcases Ae e with⟨rfl,e2⟩|⟨ne,e⟩
  ·cases e2
   rcases R.src a (T.rest_le _ (aau _) q) with z|z
   ·exact .inl (S.same.free z)
   ·exact S.src a z
  ·rcases Ae hd with⟨z,_⟩|⟨_,z⟩
   ·exact absurd z ne
   ·exact S.src a ⟨i,u,_,e,AT z,l,q⟩
 ·rcases Ae e with⟨rfl,e2⟩|⟨ne,e⟩
  ·cases e2
   rcases Ae hk' with⟨_,z⟩|⟨z,_⟩
   ·obtain⟨rfl,_⟩:=Fa z.symm
    exact T.nd_le _ hk R.nd
   ·exact absurd rfl z
  ·rcases Ae hk' with⟨z,_⟩|⟨_,z⟩
   ·exact absurd z ne
   ·exact S.nd i u k' e z
 ·rcases Ae e with⟨rfl,e2⟩|⟨n1,e1⟩
  ·cases e2
   rcases Ae hk' with⟨_,z⟩|⟨z,_⟩
   ·obtain⟨rfl,_⟩:=Fa z.symm
    rcases Ae e' with⟨z',_⟩|⟨n2,e3⟩
    ·exact absurd z'.symm ne
    ·rcases Ae hd with⟨z',_⟩|⟨_,hd3⟩
     ·exact absurd z' n2
     ·exact fun q'=>dom e3 hd3 nd a (T.rest_le w (aau _) q') (tnew a q)
   ·exact absurd rfl z
  ·rcases Ae hk' with⟨z,_⟩|⟨_,hk3⟩
   ·exact absurd z n1
   ·rcases Ae e' with⟨z4,e2⟩|⟨n2,e3⟩
    ·cases e2
     exact fun q'=>town a ⟨i,u,k',e1,hk3,q⟩ (T.rest_le _ (aau _) q')
    ·rcases Ae hd with⟨z,_⟩|⟨_,hd3⟩
     ·exact absurd z n2
     ·exact S.sep i j u w k' d ne e1 hk3 e3 hd3 nd a q
 ·rcases Ae hd with⟨_,z'⟩|⟨n2,hd3⟩
  ·exact(R4 z'.symm).elim
  ·rcases Ae e' with⟨z',_⟩|⟨_,e3⟩
   ·exact absurd z' n2
   ·rcases Ae e with⟨z4,e2⟩|⟨n1,e1⟩
    ·cases e2
     rcases Ae hk' with⟨_,z'⟩|⟨z',_⟩
     ·obtain⟨z5,hk0⟩:=Fa z'.symm
      subst z
      have mem:a∈(T.lst a ts).adr k:=by
       cases k with
       |zero=>exact absurd rfl hk0
       |succ n=>exact aab ..
      exact fun q'=>dom e3 hd3 (by intro c;cases c) a q' (tnew a mem)
     ·exact absurd z4 z'
    ·rcases Ae hk' with⟨z',_⟩|⟨_,hk3⟩
     ·exact absurd z' n1
     ·exact S.top i j u w k' k2 e1 hk3 e3 hd3 a ts z
 ·rcases owns a o with z|z
  ·exact .inr (tnew a z)
  ·exact .inl z
 ·rw[aaz (fun z=>hi (by simp[z]))]
abbrev Ao(m:Ms)(is:List Nat)(d:Md):Ms:=is.foldl (fun m i=>m.set i d) m
theorem Dt(d:Md):∀(is:List Nat)(m:Ms),(Ao m is d).length=m.length
 |[],m=>rfl
 |i::is,m=>by show(Ao (m.set i d) is d).length=_;rw[Dt d is,aa4]
theorem DB{d d':Md}:∀{is:List Nat}{m:Ms}{i:Nat},(Ao m is d)[i]?=some d'->(i∈is/\d'=d)\/(i∉is/\m[i]?=some d')
 |[],m,i,h=>.inr ⟨by simp,h⟩
 |j::is,m,i,h=>by
  rcases DB (is:=is) (m:=m.set j d) h with⟨z1,z2⟩|⟨z1,z2⟩
  ·exact .inl ⟨aaa _ z1,z2⟩
  ·rcases Ae z2 with⟨rfl,e⟩|⟨ne,e⟩
   ·exact .inl ⟨aab ..,e⟩
   ·exact .inr ⟨fun q=>by rcases aaf.mp q with q|q;exact ne q;exact z1 q,e⟩
theorem Fb:∀{is:List Nat}{ts:List T}{τ τ':Ft}{i:Nat},BM is ts τ=some τ'->i∉is->τ'[i]?=τ[i]?
 |[],[],τ,τ',i,h,_=>by cases h;rfl
 |[],t::ts,τ,τ',i,h,_=>by cases h
 |j::is,[],τ,τ',i,h,_=>by cases h
 |j::is,t::ts,τ,τ',i,h,hi=>by
  rw[Fb (is:=is) (ts:=ts) (τ:=τ.set j (some t)) h (fun q=>hi (aaa _ q)),aaz (fun z=>hi (by simp[z]))]
theorem JB{g:Tg}{t:T}{τ τ':Ft}{i:Nat}(h:Cj g t τ=some τ')(hi:i∉g.sl):τ'[i]?=τ[i]?:=by
 cases g with
 |nm k=>cases h;rw[aaz (fun z=>hi (by simp[Tg.sl,z]))]
 |tp is=>cases t<;>first|cases h|exact Fb h hi
theorem Qb{is:List Nat}{τ':Ft}(S:Sf p H0 A0 m τ H)(s:Same H H1)(hlen:τ'.length=τ.length)(hin:∀(i:Nat)(u:T),i∈is->τ'[i]?=some (some u)->u.Ok p H1/\∀a∈u.rest 0,(H0 a=none\/A0 a)/\¬Own m τ a)(hout:∀i,i∉is->τ'[i]?=τ[i]?) :
  Sf p H0 A0 (Ao m is .sh) τ' H1/\Stp m (Ao m is .sh) (up is) τ τ' H H1:=by
 have S1:=S.grow s
 have AF:∀{i:Nat}{u:T}{d:Md},τ'[i]?=some (some u)->(Ao m is .sh)[i]?=some d->(d=.sh/\u.Ok p H1/\∀a∈u.rest 0,(H0 a=none\/A0 a)/\¬Own m τ a)\/(τ[i]?=some (some u)/\m[i]?=some d):=by
  intro i u d e hd
  rcases DB hd with⟨z1,z2⟩|⟨z1,z2⟩
  ·exact .inl ⟨z2,hin i u z1 e⟩
  ·exact .inr ⟨(hout i z1)▸e,z2⟩
 have town:∀{u:T},(∀a∈u.rest 0,(H0 a=none\/A0 a)/\¬Own m τ a)->∀a,Own m τ a->a∉u.rest 0:=fun src a o q=>(src a q).2 o
 refine⟨⟨by rw[hlen,Dt];exact S.len,fun d hd=>?_,S1.same,fun i u j e ej l=>?_,fun i u k' a e hk' q=>?_,fun a sh=>?_,fun i u k' e hk'=>?_,fun i j u w k' d ne e hk' e' hd nd a q=>?_,fun i j u w k' k2 e hk' e' hd a ts z=>?_⟩,
  fun a u e _=>s a u e,fun a o=>?_,fun i hi=>hout i fun z=>hi (aav _ z),fun i hi=>R1 (hout i (nup hi))⟩
 ·obtain⟨i,hi,rfl⟩:=abB hd
  rcases DB (aan hi) with⟨_,z⟩|⟨_,z⟩
  ·rw[z];rfl
  ·exact S.small _ (aae z)
 ·obtain⟨d,hd,rfl⟩:=A4 ej
  rcases AF e hd with⟨_,q,_⟩|⟨q1,q2⟩
  ·exact q
  ·exact S1.ok i u _ q1 (AT q2) l
 ·rcases AF e hk' with⟨z,_⟩|⟨q1,q2⟩
  ·cases z
  ·exact S1.own i u k' a q1 q2 q
 ·obtain⟨i,u,j,e,ej,l,q⟩:=sh
  obtain⟨d,hd,rfl⟩:=A4 ej
  rcases AF e hd with⟨_,_,q'⟩|⟨q1,q2⟩
  ·exact(q' a (T.rest_le u (aau _) q)).1
  ·exact S.src a ⟨i,u,_,q1,AT q2,l,q⟩
 ·rcases AF e hk' with⟨z,_⟩|⟨q1,q2⟩
  ·cases z
  ·exact S.nd i u k' q1 q2
 ·rcases AF e hk' with⟨z,_⟩|⟨q1,q2⟩
  ·cases z
  ·rcases AF e' hd with⟨_,_,q'⟩|⟨q3,q4⟩
   ·exact fun q5=>town q' a ⟨i,u,k',q1,q2,q⟩ (T.rest_le w (aau _) q5)
   ·exact S.sep i j u w k' d ne q1 q2 q3 q4 nd a q
 ·rcases AF e hk' with⟨z,_⟩|⟨q1,q2⟩
  ·cases z
  ·rcases AF e' hd with⟨z',_⟩|⟨q3,q4⟩
   ·cases z'
   ·exact S.top i j u w k' k2 q1 q2 q3 q4 a ts z
 ·obtain⟨i,u,k',e,hk',q⟩:=o
  rcases AF e hk' with⟨z,_⟩|⟨q1,q2⟩
  ·cases z
  ·exact .inl ⟨i,u,k',q1,q2,q⟩
theorem Sf.fine(S:Sf p H0 A0 m τ H){a:Addr}(h:H a=none\/Sh (tnM m) τ a):(H0 a=none\/A0 a)/\¬Own m τ a:=by
 rcases h with z|z
 ·refine⟨.inl (S.same.free z),fun o=>?_⟩
  obtain⟨_,vs,e,mu⟩:=S.ownOk o
  rw[e]at z;cases z
 ·exact⟨S.src a z,fun o=>S.disj o z⟩
theorem MG{g:Tg}{t:T}{τ':Ft}(S:Sf p H0 A0 m τ H)(s:Same H H1)(ok:t.Ok p H1)(src:∀a∈t.rest 0,(H0 a=none\/A0 a)/\¬Own m τ a)(h:Cj g t τ=some τ'):Sf p H0 A0 (Ao m g.sl .sh) τ' H1/\Stp m (Ao m g.sl .sh) (up g.sl) τ τ' H H1:=by
 refine Qb S s (HP h) (fun i u hi e=>?_) (fun i hi=>JB h hi)
 rcases Gs (P:=fun o=>∀w,o=some w->w.Ok p H1/\∀a∈w.rest 0,(H0 a=none\/A0 a)/\¬Own m τ a) h (fun w e=>by cases e;exact⟨ok,src⟩)
   (fun a ts e u hu w e'=>by
    cases e'
    rcases e with e|e
    ·subst e
     exact⟨T.oks_iff.mp ok.2 u hu,fun b q=>src b (T.mem_rests.mpr ⟨u,hu,q⟩)⟩
    ·subst e
     exact⟨T.oks_iff.mp ok.2 u hu,fun b q=>src b (aaa _ (T.mem_rests.mpr ⟨u,hu,q⟩))⟩) i (some u) e with q|⟨q,_⟩
 ·exact q u rfl
 ·exact absurd hi q
theorem Tb{g:Tg}{t:T}{τ':Ft}(S:Sf p H0 A0 m τ H)(s:Same H H1)(ok:t.Ok p H1)(src:∀a∈t.rest 0,H a=none\/Sh (tnM m) τ a)(h:Cj g t τ=some τ'):Sf p H0 A0 (Ao m g.sl .sh) τ' H1/\Stp m (Ao m g.sl .sh) (up g.sl) τ τ' H H1 :=
 MG S s ok (fun a q=>S.fine (src a q)) h
end
abbrev AK:List (Bool×Int)->T->Option T
 |[],t=>some t
 | (false,i)::r,.lst _ ts=>(ixN ts.length i).bind fun j=>(ts[j]?).bind fun t=>AK r t
 | (true,i)::r,.tup _ ts=>(ixN ts.length i).bind fun j=>(ts[j]?).bind fun t=>AK r t
 |_,_=>none
abbrev DT(s:T):List (Bool×Int)->T->Option T
 |[],_=>some s
 | (false,i)::r,.lst a ts=>(ixN ts.length i).bind fun j=>(ts[j]?).bind fun t=>(DT s r t).map fun t'=>.lst a (ts.set j t')
 | (true,i)::r,.tup a ts=>(ixN ts.length i).bind fun j=>(ts[j]?).bind fun t=>(DT s r t).map fun t'=>.tup a (ts.set j t')
 |_,_=>none
abbrev lnP:List (Bool×Int)->Nat
 |[]=>0
 | (false,_)::r=>lnP r+1
 | (true,_)::r=>lnP r
theorem D2{α:Type}{l:List α}{j:Nat}{x:α}(h:l[j]?=some x):∃l1 l2,l=l1++x::l2/\∀y,l.set j y=l1++y::l2:=by
 obtain⟨hj,e⟩:=aaA.mp h
 refine⟨l.take j,l.drop (j+1),?_,fun y=>?_⟩
 ·rw[<- e,List.getElem_cons_drop,List.take_append_drop]
 ·rw[List.set_eq_take_append_cons_drop,if_pos hj]
theorem DN{l1 l2:List T}{c:T}{k:Nat}:T.Nds (l1++c::l2) k ↔ T.Nds (l1++l2) k/\c.Nd k/\(∀a∈c.adr k,a∉T.rests (l1++l2) 0)/\(∀a∈T.adrs (l1++l2) k,a∉c.rest 0):=by
 induction l1 with
 |nil=>
  rw[aaX,aaX,T.nds_cons]
  exact⟨fun⟨a,b,c,d⟩=>⟨b,a,c,d⟩,fun⟨b,a,c,d⟩=>⟨a,b,c,d⟩⟩
 |cons x l1 ih=>
  rw[aa8,aa8,T.nds_cons,T.nds_cons,ih]
  simp only[T.rests_append,T.adrs_append,T.rests,T.adrs,aah,not_or]
  constructor
  ·rintro⟨h1,⟨h2,h3,h4,h5⟩,h6,h7⟩
   refine⟨⟨h1,h2,fun a q=>⟨(h6 a q).1,(h6 a q).2.2⟩,fun a q=>h7 a ?_⟩,h3,fun a q=>⟨fun z=>h7 a (.inr (.inl q)) z,h4 a q⟩,fun a q=>?_⟩
   ·rcases q with q|q
    ·exact .inl q
    ·exact .inr (.inr q)
   ·rcases q with q|q
    ·exact(h6 a q).2.1
    ·exact h5 a q
  ·rintro⟨⟨h1,h2,h6,h7⟩,h3,h4,h5⟩
   refine⟨h1,⟨h2,h3,fun a q=>(h4 a q).2,fun a q=>h5 a (.inr q)⟩,fun a q=>⟨(h6 a q).1,h5 a (.inl q),(h6 a q).2⟩,fun a q=>?_⟩
   rcases q with q|q|q
   ·exact h7 a (.inl q)
   ·exact(h4 a q).1
   ·exact h7 a (.inr q)
section
variable{p:Px}
theorem DU:∀(q:List (Bool×Int)){t s:T}{k:Nat},AK q t=some s->lnP q<=k->(∀b∈s.rest 0,b∈t.rest 0)/\(∀b∈s.adr (k-lnP q),b∈t.adr k)
 |[],t,s,k,h,_=>by cases h;exact⟨fun b q=>q,fun b q=>q⟩
 | (false,i)::r,.lst a ts,s,k,h,hl=>by
  simp only[AK]at h
  obtain⟨j,_,h⟩:=bS h
  obtain⟨c,hc,h⟩:=bS h
  cases k with
  |zero=>simp[lnP]at hl
  |succ k=>
   obtain⟨h1,h2⟩:=DU r (k:=k) h (by simp[lnP]at hl;exact hl)
   refine⟨fun b q=>aaa _ (T.mem_rests.mpr ⟨c,aae hc,h1 b q⟩),fun b q=>aaa _ (T.mem_adrs.mpr ⟨c,aae hc,h2 b ?_⟩)⟩
   have:k+1-lnP ((false,i)::r)=k-lnP r:=by simp only[lnP];omega
   rw[this]at q;exact q
 | (true,i)::r,.tup a ts,s,k,h,hl=>by
  simp only[AK]at h
  obtain⟨j,_,h⟩:=bS h
  obtain⟨c,hc,h⟩:=bS h
  obtain⟨h1,h2⟩:=DU r (k:=k) h hl
  exact⟨fun b q=>T.mem_rests.mpr ⟨c,aae hc,h1 b q⟩,fun b q=>T.mem_adrs.mpr ⟨c,aae hc,h2 b q⟩⟩
 | (false,i)::r,.tup a ts,s,k,h,_=>by cases h
 | (true,i)::r,.lst a ts,s,k,h,_=>by cases h
 | (b,i)::r,.non,s,k,h,_=>by cases b<;>cases h
 | (b,i)::r,.bl _,s,k,h,_=>by cases b<;>cases h
 | (b,i)::r,.int _,s,k,h,_=>by cases b<;>cases h
 | (b,i)::r,.str _,s,k,h,_=>by cases b<;>cases h
 | (b,i)::r,.exn _ _,s,k,h,_=>by cases b<;>cases h
 | (b,i)::r,.dic _ _ _,s,k,h,_=>by cases b<;>cases h
 | (b,i)::r,.dit _ _ _,s,k,h,_=>by cases b<;>cases h
theorem MH{l1 l2:List T}{c c':T}{k:Nat}{F N:Addr->Prop}(hFN:∀b,F b->N b)(nds:T.Nds (l1++c::l2) k)(nd':c'.Nd k)(hA:∀b∈c'.adr k,b∈c.adr k\/F b)(hB:∀b∈c'.rest k,b∈c.rest k\/N b)(hF:∀b,F b->b∉T.rests (l1++c::l2) 0)(hN:∀b,N b->b∉T.adrs (l1++c::l2) k) :
  T.Nds (l1++c'::l2) k/\(∀b∈T.adrs (l1++c'::l2) k,b∈T.adrs (l1++c::l2) k\/F b)/\(∀b∈T.rests (l1++c'::l2) k,b∈T.rests (l1++c::l2) k\/N b):=by
 obtain⟨m1,m2,m3,m4⟩:=DN.mp nds
 have inm:∀b,b∈T.rests (l1++l2) 0->b∈T.rests (l1++c::l2) 0:=fun b q=>by
  simp only[T.rests_append,T.rests,aah]at q ⊢
  rcases q with q|q
  ·exact .inl q
  ·exact .inr (.inr q)
 have ina:∀b,b∈T.adrs (l1++l2) k->b∈T.adrs (l1++c::l2) k:=fun b q=>by
  simp only[T.adrs_append,T.adrs,aah]at q ⊢
  rcases q with q|q
  ·exact .inl q
  ·exact .inr (.inr q)
 have cm:∀b,b∈c.adr k->b∈T.adrs (l1++c::l2) k:=fun b q=>by
  simp only[T.adrs_append,T.adrs,aah]
  exact .inr (.inl q)
 refine⟨DN.mpr ⟨m1,nd',fun b q q'=>?_,fun b q q'=>?_⟩,fun b q=>?_,fun b q=>?_⟩
 ·rcases hA b q with z|z
  ·exact m3 b z q'
  ·exact hF b z (inm b q')
 ·rcases (T.all_iff c' k).mp q' with z|z
  ·rcases hA b z with y|y
   ·exact m4 b q ((T.all_iff c k).mpr (.inl y))
   ·exact hN b (hFN b y) (ina b q)
  ·rcases hB b z with y|y
   ·exact m4 b q ((T.all_iff c k).mpr (.inr y))
   ·exact hN b y (ina b q)
 ·simp only[T.adrs_append,T.adrs,aah]at q ⊢
  rcases q with q|q|q
  ·exact .inl (.inl q)
  ·exact(hA b q).imp (fun z=>.inr (.inl z)) id
  ·exact .inl (.inr (.inr q))
 ·simp only[T.rests_append,T.rests,aah]at q ⊢
  rcases q with q|q|q
  ·exact .inl (.inl q)
  ·exact(hB b q).imp (fun z=>.inr (.inl z)) id
  ·exact .inl (.inr (.inr q))
theorem Db{H H':Hp}{a:Addr}{t:T}(hkeep:∀b w,H b=some w->b≠a->H' b=some w)(hpl:Mu H a)(ok:t.Ok p H)(hn:a∉t.rest 0):t.Ok p H':=by
 refine ok.keep fun b w e q=>hkeep b w e fun z=>?_
 subst z
 rcases q with q|q
 ·exact hn q
 ·obtain⟨vs,z,mu⟩:=hpl
  rw[z]at e
  cases e
  rw[mu]at q;cases q
theorem IQ{H H':Hp}{a:Addr}{ts us:List T}{F N:Addr->Prop}(hkeep:∀b w,H b=some w->b≠a->H' b=some w)(hpl:Mu H a)(hs:(T.lst a us).Ok p H')(hFN:∀b,F b->N b) :
  ∀(q:List (Bool×Int)){t:T}{k:Nat},AK q t=some (.lst a ts)->lnP q<k->t.Nd k->t.Ok p H->(∀b,F b->b∉t.rest 0)->(∀b,N b->b∉t.adr k)->(∀b∈T.adrs us (k-1-lnP q),b∈T.adrs ts (k-1-lnP q)\/F b)->
   (∀b∈T.rests us (k-1-lnP q),b∈T.rests ts (k-1-lnP q)\/N b)->T.Nds us (k-1-lnP q)->
   ∃t',DT (.lst a us) q t=some t'/\t'.val=t.val/\t'.Ok p H'/\t'.Nd k/\(∀b∈t'.adr k,b∈t.adr k\/F b)/\(∀b∈t'.rest k,b∈t.rest k\/N b)
 |[],t,k,h,hl,nd,ok,hF,hN,hA,hB,hnd=>by
  cases h
  cases k with
  |zero=>cases hl
  |succ k=>
   have e:k+1-1-lnP []=k:=by simp[lnP]
   rw[e]at hA hB hnd
   obtain⟨n1,n2⟩:=nd
   simp only[T.adr,aat]at n1
   refine⟨_,rfl,rfl,hs,⟨?_,fun b m m'=>?_⟩,fun b m=>?_,fun b m=>hB b m⟩
   ·simp only[T.adr,aat]
    refine⟨fun m=>?_,hnd.1⟩
    rcases hA a m with z|z
    ·exact n1.1 z
    ·exact hF a z (aab ..)
   ·simp only[T.adr,T.rest,aaf]at m m'
    rcases m' with rfl|m'
    ·rcases hB b m with z|z
     ·exact n2 b z (aab ..)
     ·exact hN b z (aab ..)
    ·exact hnd.2 b m m'
   ·simp only[T.adr,aaf]at m ⊢
    rcases m with m|m
    ·exact .inl (.inl m)
    ·exact(hA b m).imp .inr id
 | (false,i)::r,.lst b0 cs,k,h,hl,nd,ok,hF,hN,hA,hB,hnd=>by
  simp only[AK]at h
  obtain⟨j,hj,h⟩:=bS h
  obtain⟨c,hc,h⟩:=bS h
  cases k with
  |zero=>cases hl
  |succ k=>
   have hl':lnP r<k:=by simp only[lnP]at hl;omega
   have e:k+1-1-lnP ((false,i)::r)=k-1-lnP r:=by simp only[lnP];omega
   rw[e]at hA hB hnd
   obtain⟨n1,n2⟩:=nd
   simp only[T.adr,T.rest,aat]at n1 n2
   have nds:T.Nds cs k:=⟨n1.2,fun x hx hy=>n2 x hx (aaa _ hy)⟩
   have hcm:=aae hc
   obtain⟨l1,l2,e1,e2⟩:=D2 hc
   rw[e1]at nds
   obtain⟨m1,m2,m3,m4⟩:=DN.mp nds
   obtain⟨ain,aad⟩:=DU r (k:=k) h (by omega)
   have aadr:a∈c.adr k:=aad a (by
    have:k-lnP r=(k-lnP r-1)+1:=by omega
    rw[this];exact aab ..)
   obtain⟨c',p1,p2,p3,p4,p5,p6⟩:=IQ hkeep hpl hs hFN r h hl' m2 (T.oks_iff.mp ok.2 c hcm) (fun b f q=>hF b f (aaa _ (T.mem_rests.mpr ⟨c,hcm,q⟩))) (fun b n q=>hN b n (aaa _ (T.mem_adrs.mpr ⟨c,hcm,q⟩))) hA hB hnd
   obtain⟨q1,q2,q3⟩:=MH hFN nds p4 p5 p6 (fun b f q=>hF b f (aaa _ (by rw[e1];exact q))) (fun b n q=>hN b n (aaa _ (by rw[e1];exact q)))
   have ab:b0≠a:=fun z=>n1.1 (by rw[z,T.mem_adrs];exact⟨c,hcm,aadr⟩)
   have hv:(l1++c'::l2).map T.val=cs.map T.val:=by rw[e1];simp[p2]
   refine⟨.lst b0 (l1++c'::l2),by simp only[DT,hj,aa7,hc,p1,aaY,e2],rfl,⟨?_,T.oks_iff.mpr fun w hw=>?_⟩,⟨?_,fun b m m'=>?_⟩,fun b m=>?_,fun b m=>?_⟩
   ·rw[hv]
    rcases ok.1 with z|⟨o,z⟩
    ·exact .inl (hkeep _ _ z ab)
    ·exact .inr ⟨o,hkeep _ _ z ab⟩
   ·rcases aah.mp hw with hw|hw
    ·refine Db hkeep hpl (T.oks_iff.mp ok.2 w (by rw[e1];exact aav _ hw)) fun q=>m3 a aadr ?_
     rw[T.rests_append];exact aav _ (T.mem_rests.mpr ⟨w,hw,q⟩)
    ·rcases aaf.mp hw with rfl|hw
     ·exact p3
     ·refine Db hkeep hpl (T.oks_iff.mp ok.2 w (by rw[e1];exact aai _ (aaa _ hw))) fun q=>m3 a aadr ?_
      rw[T.rests_append];exact aai _ (T.mem_rests.mpr ⟨w,hw,q⟩)
   ·simp only[T.adr,aat]
    refine⟨fun m=>?_,q1.1⟩
    rcases q2 b0 m with z|z
    ·exact n1.1 (by rw[e1];exact z)
    ·exact hF b0 z (aab ..)
   ·simp only[T.adr,T.rest,aaf]at m m'
    rcases m' with rfl|m'
    ·rcases q3 b m with z|z
     ·exact n2 b (by rw[e1];exact z) (aab ..)
     ·exact hN b z (aab ..)
    ·exact q1.2 b m m'
   ·simp only[T.adr,aaf]at m ⊢
    rcases m with m|m
    ·exact .inl (.inl m)
    ·rw[e1];exact(q2 b m).imp .inr id
   ·simp only[T.rest]at m ⊢
    rw[e1];exact q3 b m
 | (true,i)::r,.tup b0 cs,k,h,hl,nd,ok,hF,hN,hA,hB,hnd=>by
  simp only[AK]at h
  obtain⟨j,hj,h⟩:=bS h
  obtain⟨c,hc,h⟩:=bS h
  have hl':lnP r<k:=hl
  have nds:T.Nds cs k:=nd
  have hcm:=aae hc
  obtain⟨l1,l2,e1,e2⟩:=D2 hc
  rw[e1]at nds
  obtain⟨m1,m2,m3,m4⟩:=DN.mp nds
  obtain⟨ain,aad⟩:=DU r (k:=k) h (by omega)
  have aadr:a∈c.adr k:=aad a (by
   have:k-lnP r=(k-lnP r-1)+1:=by omega
   rw[this];exact aab ..)
  obtain⟨c',p1,p2,p3,p4,p5,p6⟩:=IQ hkeep hpl hs hFN r h hl' m2 (T.oks_iff.mp ok.2 c hcm) (fun b f q=>hF b f (T.mem_rests.mpr ⟨c,hcm,q⟩)) (fun b n q=>hN b n (T.mem_adrs.mpr ⟨c,hcm,q⟩)) hA hB hnd
  obtain⟨q1,q2,q3⟩:=MH hFN nds p4 p5 p6 (fun b f q=>hF b f (by rw[T.rest,e1];exact q)) (fun b n q=>hN b n (by rw[T.adr,e1];exact q))
  have ab:b0≠a:=fun z=>by
   obtain⟨vs,y,mu⟩:=hpl
   have:=ok.1
   rw[z,y]at this;cases this
   exact nomatch (show false=true from mu)
  have hv:(l1++c'::l2).map T.val=cs.map T.val:=by rw[e1];simp[p2]
  refine⟨.tup b0 (l1++c'::l2),by simp only[DT,hj,aa7,hc,p1,aaY,e2],rfl,⟨?_,T.oks_iff.mpr fun w hw=>?_⟩,q1,fun b m=>?_,fun b m=>?_⟩
  ·rw[hv];exact hkeep _ _ ok.1 ab
  ·rcases aah.mp hw with hw|hw
   ·refine Db hkeep hpl (T.oks_iff.mp ok.2 w (by rw[e1];exact aav _ hw)) fun q=>m3 a aadr ?_
    rw[T.rests_append];exact aav _ (T.mem_rests.mpr ⟨w,hw,q⟩)
   ·rcases aaf.mp hw with rfl|hw
    ·exact p3
    ·refine Db hkeep hpl (T.oks_iff.mp ok.2 w (by rw[e1];exact aai _ (aaa _ hw))) fun q=>m3 a aadr ?_
     rw[T.rests_append];exact aai _ (T.mem_rests.mpr ⟨w,hw,q⟩)
  ·simp only[T.adr]at m ⊢
   rw[e1];exact q2 b m
  ·simp only[T.rest]at m ⊢
   rw[e1];exact q3 b m
 | (false,i)::r,.tup a ts,k,h,_,_,_,_,_,_,_,_=>by cases h
 | (true,i)::r,.lst a ts,k,h,_,_,_,_,_,_,_,_=>by cases h
 | (b,i)::r,.non,k,h,_,_,_,_,_,_,_,_=>by cases b<;>cases h
 | (b,i)::r,.bl _,k,h,_,_,_,_,_,_,_,_=>by cases b<;>cases h
 | (b,i)::r,.int _,k,h,_,_,_,_,_,_,_,_=>by cases b<;>cases h
 | (b,i)::r,.str _,k,h,_,_,_,_,_,_,_,_=>by cases b<;>cases h
 | (b,i)::r,.exn _ _,k,h,_,_,_,_,_,_,_,_=>by cases b<;>cases h
 | (b,i)::r,.dic _ _ _,k,h,_,_,_,_,_,_,_,_=>by cases b<;>cases h
 | (b,i)::r,.dit _ _ _,k,h,_,_,_,_,_,_,_,_=>by cases b<;>cases h
end
theorem Gx:∀(q:List (Bool×Int)){t s:T}{k:Nat},AK q t=some s->lnP q<=k->t.Nd k->s.Nd (k-lnP q)
 |[],t,s,k,h,_,n=>by cases h;exact n
 | (false,i)::r,.lst a ts,s,k,h,hl,n=>by
  simp only[AK]at h
  obtain⟨j,_,h⟩:=bS h
  obtain⟨c,hc,h⟩:=bS h
  cases k with
  |zero=>simp[lnP]at hl
  |succ k=>
   obtain⟨n1,n2⟩:=n
   simp only[T.adr,T.rest,aat]at n1 n2
   have nds:T.Nds ts k:=⟨n1.2,fun x hx hy=>n2 x hx (aaa _ hy)⟩
   obtain⟨l1,l2,e1,_⟩:=D2 hc
   rw[e1]at nds
   have:=Gx r (k:=k) h (by simp[lnP]at hl;exact hl) (DN.mp nds).2.1
   have e:k+1-lnP ((false,i)::r)=k-lnP r:=by simp only[lnP];omega
   rw[e];exact this
 | (true,i)::r,.tup a ts,s,k,h,hl,n=>by
  simp only[AK]at h
  obtain⟨j,_,h⟩:=bS h
  obtain⟨c,hc,h⟩:=bS h
  have nds:T.Nds ts k:=n
  obtain⟨l1,l2,e1,_⟩:=D2 hc
  rw[e1]at nds
  exact Gx r (k:=k) h hl (DN.mp nds).2.1
 | (false,i)::r,.tup a ts,s,k,h,_,_=>by cases h
 | (true,i)::r,.lst a ts,s,k,h,_,_=>by cases h
 | (b,i)::r,.non,s,k,h,_,_=>by cases b<;>cases h
 | (b,i)::r,.bl _,s,k,h,_,_=>by cases b<;>cases h
 | (b,i)::r,.int _,s,k,h,_,_=>by cases b<;>cases h
 | (b,i)::r,.str _,s,k,h,_,_=>by cases b<;>cases h
 | (b,i)::r,.exn _ _,s,k,h,_,_=>by cases b<;>cases h
theorem IR(ts:List T)(j:Nat)(t:T):T.dats (ts.set j t)=(T.dats ts).set j t.dat:=by rw[T.dats_map,T.dats_map,acs]
theorem G6{f:List D->Option (List D)}:∀(q:List (Bool×Int)){t:T}{d':D},Cf f q t.dat=some d'->∃a ts ds',AK q t=some (.lst a ts)/\f (T.dats ts)=some ds'/\∀us t',T.dats us=ds'->DT (.lst a us) q t=some t'->t'.dat=d'
 |[],t,d',h=>by
  cases t with
  |lst a ts=>
   simp only[T.dat,Cf]at h
   obtain⟨ds',h1,rfl⟩:=aax.mp h
   exact⟨a,ts,ds',rfl,h1,fun us t' e1 e2=>by cases e2;simp[T.dat,e1]⟩
  |_=>cases h
 | (b,i)::r,t,d',h=>by
  cases b with
  |false=>
   cases t with
   |lst a ts=>
    simp only[T.dat,Cf,Aj]at h
    obtain⟨j,hj,h⟩:=bS h
    obtain⟨d,hd,h⟩:=bS h
    obtain⟨d2,h1,rfl⟩:=aax.mp h
    obtain⟨c,hc,rfl⟩:=EA hd
    obtain⟨a',ts',ds',s1,s2,s3⟩:=G6 r h1
    refine⟨a',ts',ds',by simp only[AK,hj,aa7,hc,s1],s2,fun us t' e1 e2=>?_⟩
    simp only[DT,hj,aa7,hc]at e2
    obtain⟨c',e3,rfl⟩:=aax.mp e2
    simp only[T.dat,IR,s3 us c' e1 e3]
   |_=>cases h
  |true=>
   cases t with
   |tup a ts=>
    simp only[T.dat,Cf,Aj]at h
    obtain⟨j,hj,h⟩:=bS h
    obtain⟨d,hd,h⟩:=bS h
    obtain⟨d2,h1,rfl⟩:=aax.mp h
    obtain⟨c,hc,rfl⟩:=EA hd
    obtain⟨a',ts',ds',s1,s2,s3⟩:=G6 r h1
    refine⟨a',ts',ds',by simp only[AK,hj,aa7,hc,s1],s2,fun us t' e1 e2=>?_⟩
    simp only[DT,hj,aa7,hc]at e2
    obtain⟨c',e3,rfl⟩:=aax.mp e2
    simp only[T.dat,IR,s3 us c' e1 e3]
   |_=>cases h
section
variable{p:Px}{H0:Hp}{A0:Addr->Prop}{m m1:Ms}{τ:Ft}{H H1:Hp}
theorem MI{x k:Nat}{t:T}{q:List (Bool×Int)}{a:Addr}{ts us:List T}{F N:Addr->Prop}(S:Sf p H0 A0 m τ H)(s:Same H H1)(hx:τ[x]?=some (some t))(hm:m[x]?=some (.ow k))(hq:AK q t=some (.lst a ts))(hl:lnP q<k)(hus:T.Oks p H1 us)(hFN:∀b,F b->N b)
  (hA:∀b∈T.adrs us (k-1-lnP q),b∈T.adrs ts (k-1-lnP q)\/F b) (hB:∀b∈T.rests us (k-1-lnP q),b∈T.rests ts (k-1-lnP q)\/N b) (hnd:T.Nds us (k-1-lnP q))
  (f0:∀b,F b->b∉t.rest 0) (f1:∀b,F b->H0 b=none/\Mu H1 b) (f4:∀b,F b->Own m τ b\/H b=none) (n0:∀b,N b->b∉t.adr k) (n1:∀b,N b->H0 b=none\/A0 b)
  (hlen:m1.length=m.length) (hmx:m1[x]?=some (.ow k)) (hmo:∀(j:Nat)(d:Md),j≠x->m1[j]?=some d->d≠.dead->m[j]?=some d/\(q≠[]->∀k2,d≠.br k2))
  (f2:∀(j:Nat)(u:T)(d:Md),j≠x->τ[j]?=some (some u)->m1[j]?=some d->d≠.dead->∀b,F b->b∉u.rest d.low) (n2:∀(i:Nat)(u:T)(k':Nat),i≠x->τ[i]?=some (some u)->m1[i]?=some (.ow k')->∀b,N b->b∉u.adr k') :
  ∃t',DT (.lst a us) q t=some t'/\t'.val=t.val/\Sf p H0 A0 m1 (τ.set x (some t')) (L2.upd H1 a (.lst (us.map T.val)))/\Stp m m1 [x] τ (τ.set x (some t')) H (L2.upd H1 a (.lst (us.map T.val))):=by
 have S1:=S.grow s
 obtain⟨ain,aad⟩:=DU q (k:=k) hq (by omega)
 have ek:k-lnP q=(k-1-lnP q)+1:=by omega
 have aadr:a∈t.adr k:=aad a (by rw[ek];exact aab ..)
 have arest:a∈t.rest 0:=(T.all_iff t k).mpr (.inl aadr)
 have nds:=Gx q hq (by omega:lnP q<=k) (S.nd x t k hx hm)
 rw[ek]at nds
 obtain⟨nd1,nd2⟩:=nds
 simp only[T.adr,T.rest,aat]at nd1 nd2
 have hpl:Mu H1 a:=(S1.own x t k a hx hm aadr).2
 have hkeep:∀b w,H1 b=some w->b≠a->L2.upd H1 a (.lst (us.map T.val)) b=some w:=fun b w e n=>by rw[An n];exact e
 have aus:a∉T.rests us 0:=fun z=>by
  rcases (T.alls_iff us (k-1-lnP q)).mp z with z|z
  ·rcases hA a z with y|y
   ·exact nd1.1 y
   ·exact f0 a y arest
  ·rcases hB a z with y|y
   ·exact nd2 a y (aab ..)
   ·exact n0 a y aadr
 have hs:(T.lst a us).Ok p (L2.upd H1 a (.lst (us.map T.val))):=⟨.inl AO,T.oks_iff.mpr fun u hu=>Db hkeep hpl (T.oks_iff.mp hus u hu) fun z=>aus (T.mem_rests.mpr ⟨u,hu,z⟩)⟩
 obtain⟨t',p1,p2,p3,p4,p5,p6⟩:=IQ hkeep hpl hs hFN q hq hl (S.nd x t k hx hm) (S1.at hx hm (by intro c;cases c)) f0 n0 hA hB hnd
 have all':∀b∈t'.rest 0,b∈t.rest 0\/N b:=fun b z=>by
  rcases (T.all_iff t' k).mp z with z|z
  ·exact(p5 b z).imp (fun y=>(T.all_iff t k).mpr (.inl y)) (hFN b)
  ·exact(p6 b z).imp (fun y=>(T.all_iff t k).mpr (.inr y)) id
 have sm0:0<k/\k<90:=of_decide_eq_true (S.small _ (aae hm))
 have sm:=sm0.2
 have other:∀{j:Nat}{u:T}{d:Md},j≠x->τ[j]?=some (some u)->m1[j]?=some d->d≠.dead->u.Ok p (L2.upd H1 a (.lst (us.map T.val))):=by
  intro j u d ne e hd nd
  obtain⟨h1,h2⟩:=hmo j d ne hd nd
  refine Db hkeep hpl (S1.at e h1 nd) ?_
  cases d with
  |sh=>exact S.sep x j t u k _ (Ne.symm ne) hx hm e h1 nd a aadr
  |ow k2=>exact S.sep x j t u k _ (Ne.symm ne) hx hm e h1 nd a aadr
  |br k2=>
   cases q with
   |nil=>
    cases hq
    exact S.top x j _ u k k2 hx hm e h1 a ts rfl
   |cons _ _=>exact absurd rfl (h2 (by simp) k2)
  |dead=>exact absurd rfl nd
 refine⟨t',p1,p2,⟨by rw[aa4,hlen];exact S.len,fun d hd=>?_,fun b u e=>?_,fun i u j e ej l=>?_,fun i u k' b e hk' z=>?_,fun b sh=>?_,fun i u k' e hk'=>?_,fun i j u w k' d ne e hk' e' hd nd b z=>?_,fun i j u w k' k2 e hk' e' hd b cs z=>?_⟩,
  fun b u e n=>?_,fun b o=>?_,fun i hi=>?_,fun i _=>by rw[R3 hx p2]⟩
 ·obtain⟨i,hi,rfl⟩:=abB hd
  by_cases z:i=x
  ·subst z
   rw[aan hi]at hmx
   rw[Option.some.inj hmx]
   exact decide_eq_true sm0
  ·by_cases y:m1[i]=.dead
   ·rw[y];rfl
   ·exact S.small _ (aae (hmo i _ z (aan hi) y).1)
 ·rw[An (fun z=>by
   have:=(S.own x t k a hx hm aadr).1
   rw[z]at e
   rw[this]at e;cases e)]
  exact S1.same b u e
 ·obtain⟨d,hd,rfl⟩:=A4 ej
  rcases Ae e with⟨rfl,e2⟩|⟨ne,e1⟩
  ·cases e2;exact p3
  ·exact other ne e1 hd (fun z=>by subst z;exact absurd l (by decide))
 ·rcases Ae e with⟨rfl,e2⟩|⟨ne,e1⟩
  ·cases e2
   rw[hmx]at hk'
   cases hk'
   rcases p5 b z with y|y
   ·obtain⟨y1,vs,y2,mu⟩:=S1.own i t k b hx hm y
    by_cases w:b=a
    ·subst w;exact⟨y1,_,AO,rfl⟩
    ·exact⟨y1,vs,hkeep _ _ y2 w,mu⟩
   ·obtain⟨y1,vs,y2,mu⟩:=f1 b y
    exact⟨y1,vs,hkeep _ _ y2 (fun w=>f0 b y (w▸arest)),mu⟩
  ·obtain⟨h1,_⟩:=hmo i _ ne hk' (by intro c;cases c)
   obtain⟨y1,vs,y2,mu⟩:=S1.own i u k' b e1 h1 z
   exact⟨y1,vs,hkeep _ _ y2 (fun w=>S.sep x i t u k _ (Ne.symm ne) hx hm e1 h1 (by intro c;cases c) a aadr (w▸(T.all_iff u k').mpr (.inl z))),mu⟩
 ·obtain⟨i,u,j,e,ej,l,z⟩:=sh
  obtain⟨d,hd,rfl⟩:=A4 ej
  rcases Ae e with⟨rfl,e2⟩|⟨ne,e1⟩
  ·cases e2
   rw[hmx]at hd
   cases hd
   rcases p6 b z with y|y
   ·exact S.src b ⟨i,t,k,hx,AT hm,sm,y⟩
   ·exact n1 b y
  ·obtain⟨h1,_⟩:=hmo i _ ne hd (fun z=>by subst z;exact absurd l (by decide))
   exact S.src b ⟨i,u,_,e1,AT h1,l,z⟩
 ·rcases Ae e with⟨rfl,e2⟩|⟨ne,e1⟩
  ·cases e2
   rw[hmx]at hk'
   cases hk'
   exact p4
  ·exact S.nd i u k' e1 (hmo i _ ne hk' (by intro c;cases c)).1
 ·rcases Ae e with⟨rfl,e2⟩|⟨ne1,e1⟩
  ·cases e2
   rw[hmx]at hk'
   cases hk'
   rcases Ae e' with⟨z',_⟩|⟨ne2,e3⟩
   ·exact absurd z'.symm ne
   ·rcases p5 b z with y|y
    ·exact S.sep i j t w k d ne hx hm e3 (hmo j d ne2 hd nd).1 nd b y
    ·exact f2 j w d ne2 e3 hd nd b y
  ·obtain⟨h1,_⟩:=hmo i _ ne1 hk' (by intro c;cases c)
   rcases Ae e' with⟨z',e2⟩|⟨ne2,e3⟩
   ·cases e2
    subst z'
    rw[hmx]at hd
    cases hd
    intro y
    rcases all' b y with y|y
    ·exact S.sep i j u t k' _ ne e1 h1 hx hm (by intro c;cases c) b z y
    ·exact n2 i u k' ne1 e1 hk' b y z
   ·exact S.sep i j u w k' d ne e1 h1 e3 (hmo j d ne2 hd nd).1 nd b z
 ·have ne2:j≠x:=fun y=>by subst y;rw[hmx]at hd;cases hd
  rcases Ae e' with⟨y,_⟩|⟨_,e3⟩
  ·exact absurd y ne2
  obtain⟨h3,h4⟩:=hmo j _ ne2 hd (by intro c;cases c)
  rcases Ae e with⟨rfl,e2⟩|⟨ne1,e1⟩
  ·cases e2
   rw[hmx]at hk'
   cases hk'
   cases q with
   |nil=>
    cases hq
    cases p1
    cases z
    exact S.top i j _ w k k2 hx hm e3 h3 _ ts rfl
   |cons _ _=>exact absurd rfl (h4 (by simp) k2)
  ·exact S.top i j u w k' k2 e1 (hmo i _ ne1 hk' (by intro c;cases c)).1 e3 h3 b cs z
 ·rw[An (show b≠a from fun z=>n ⟨x,t,k,hx,hm,by rw[z];exact aadr⟩)]
  exact s b u e
 ·obtain⟨i,u,k',e,hk',z⟩:=o
  rcases Ae e with⟨rfl,e2⟩|⟨ne,e1⟩
  ·cases e2
   rw[hmx]at hk'
   cases hk'
   rcases p5 b z with y|y
   ·exact .inl ⟨i,t,k,hx,hm,y⟩
   ·exact f4 b y
  ·exact .inl ⟨i,u,k',e1,(hmo i _ ne hk' (by intro c;cases c)).1,z⟩
 ·rw[aaz (fun z=>hi (by simp[z]))]
end
structure Zx where
 p:Px
 H0:Hp
 A0:Addr->Prop
 EX:EXT
 mx:Ms
 dep:Nat
abbrev Um.kind:Um->Nat
 |.append=>1
 |.extend=>2
 |_=>0
mutual
noncomputable def wrS:S->List Nat
 |.asg x _ _=>[x,x+1000]
 |.dem _ _=>[]
 |.dead _=>[]
 |.asgT xs _=>up xs
 |.mut x _ _ _=>[x]
 |.expr _=>[]
 |.iff _ a b=>wrSs a++wrSs b
 |.wh _ b=>wrSs b
 |.for_ g _ b=>up g.sl++wrSs b
 |.ret _=>[]
 |.raise _ _=>[]
noncomputable def wrSs:Ss->List Nat
 |.nil=>[]
 |.cons s r=>wrS s++wrSs r
end
abbrev Tc(a b:Ms):Ms:=ac0 Md.meet a b
abbrev Le:Option Ms->Option Ms->Option Ms
 |none,b=>b
 |a,none=>a
 |some a,some b=>some (Tc a b)
abbrev okJ:Option Ms->Option Ms->Bool
 |some a,some r=>leM a r
 |none,_=>true
 |some _,none=>false
abbrev It.nmOf:It->Option Nat
 |.seqL (.nm x)=>some x
 |_=>none
abbrev rk(m:Ms)(e:E):Option Nat:=match e with
 |.nm i=>match m[i]? with
  |some (.ow k)=>some k
  |some .sh=>some 0
  |_=>none
 |e=>(jk (tnM m) e).bind fun x=>if x.1=0 then some x.2 else none
abbrev Cl(m:Ms):Ms:=m.map fun d=>match d with
 |.br _=>.dead
 |d=>d
abbrev Ek(m:Ms):List (Bool×E)->Bool
 |[]=>true
 | (_,e)::r=>(jk (tnM m) e).isSome&&Ek m r
abbrev lnE:List (Bool×E)->Nat
 |[]=>0
 | (false,_)::r=>lnE r+1
 | (true,_)::r=>lnE r
abbrev Es.mvOf(m:Ms):Es->Option (Nat×Nat)
 |.cons (.nm y) .nil=>match m[y]? with
  |some (.ow k)=>some (y,k)
  |_=>none
 |_=>none
mutual
noncomputable def msS(mx:Ms)(dep:Nat):S->Ms->Option (Option Ms)
 |.asg x k e,m=>(jk (tnM m) e).bind fun c=>if c.1=0/\k<=c.2/\x<m.length/\k<90/\leM m mx=true then some (some (m.set x (mdK k))) else none
 |.dem x k,m=>if leM m (m.set x (mdK k))=true then some (some (m.set x (mdK k))) else none
 |.dead x,m=>if leM m (m.set x .dead)=true then some (some (m.set x .dead)) else none
 |.asgT xs e,m=>(jk (tnM m) e).bind fun c=>if c.1=0/\leM m mx=true then some (some (Ao m xs .sh)) else none
 |.mut x p u es,m=>match m[x]? with
  |some (.ow k)=>if lnE p<k/\Ek m p=true/\leM m mx=true then(match es.mvOf m with
    |some (y,ky)=>if u=.append/\y≠x/\k-1-lnE p<=ky/\p.isEmpty=true then some (some (m.set y (.br ky))) else none
    |none=>(jks (tnM m) es).bind fun c=>if(c.1=0\/(u=.extend/\c.1<=1))/\(k-1-lnE p=0\/(u.kind=1/\k-1-lnE p<=c.2)\/(u.kind=2/\k-lnE p<=c.2)\/u.kind=0) then some (some (if p.isEmpty then m else Cl m)) else none) else none
  |_=>none
 |.expr e,m=>(jk (tnM m) e).bind fun _=>if leM m mx=true then some (some m) else none
 |.iff c a b,m=>(jk (tnM m) c).bind fun _=>if leM m mx=true then(msSs mx dep a m).bind fun ra=>(msSs mx dep b m).bind fun rb=>if okJ ra (Le ra rb)=true/\okJ rb (Le ra rb)=true then some (Le ra rb) else none
  else none
 |.wh c b,m=>(jk (tnM m) c).bind fun _=>if leM m mx=true then(msSs mx dep b m).bind fun r=>match r with
   |none=>some (some m)
   |some mb=>if leM mb m=true then some (some m) else none
  else none
 |.for_ g it b,m=>(jkI (tnM m) it).bind fun j=>if leM m mx=true/\leM m (Ao m g.sl .dead)=true/\(j=0\/∃x,it.nmOf=some x/\x∉wrSs b/\x∉up g.sl) then(msSs mx dep b (Ao (Ao m g.sl .dead) g.sl .sh)).bind fun r=>match r with
   |none=>some (some (Ao m g.sl .dead))
   |some mb=>if leM mb (Ao m g.sl .dead)=true then some (some (Ao m g.sl .dead)) else none
  else none
 |.ret e,m=>(rk m e).bind fun k=>if(dep<=k/\dep<1000)/\leM m mx=true then some none else none
 |.raise _ es,m=>(jks (tnM m) es).bind fun _=>if leM m mx=true then some none else none
noncomputable def msSs(mx:Ms)(dep:Nat):Ss->Ms->Option (Option Ms)
 |.nil,m=>some (some m)
 |.cons s r,m=>(msS mx dep s m).bind fun o=>match o with
  |none=>some none
  |some m1=>msSs mx dep r m1
end
abbrev lRet(Z:Zx)(w:List Nat)(d:D)(τ:Ft)(E:Ends):Prop:=if Z.dep<1000 then ∀(t:T)(H':Hp),t.dat=d->Rs Z.p Z.A0 Z.H0 H' 0 Z.dep t->E.rt t.val H'
 else Z.dep∉w/\∀(b:Bool)(us:List T)(a:Addr)(H':Hp),d=.tup [.bl b,.lst (T.dats us)]->(vτ τ)[Z.dep-1000]?=some (some (.ref a))->(T.lst a us).Ok Z.p H'->(Mu H' a)->Same Z.H0 H'->E.rt (.bl b) H'
theorem lRet.lo{Z:Zx}{w:List Nat}{d:D}{τ:Ft}{E:Ends}(h:lRet Z w d τ E)(hd:Z.dep<1000){t:T}{H':Hp}(e:t.dat=d)(R:Rs Z.p Z.A0 Z.H0 H' 0 Z.dep t):E.rt t.val H':=by
 unfold lRet at h
 rw[if_pos hd]at h
 exact h t H' e R
theorem lRet.to{Z Z2:Zx}{w w2:List Nat}{d:D}{τ τ2:Ft}{E E2:Ends}(h:lRet Z w d τ E)(hw:∀i∈w2,i∈w)(hv:∀i,i+1000∉w->(vτ τ2)[i]?=(vτ τ)[i]?)(he:E2.rt=E.rt:=by rfl)(hz:lRet Z2 w2 d τ2 E2=lRet Z w2 d τ2 E2:=by rfl):lRet Z2 w2 d τ2 E2:=by
 rw[hz];clear hz
 unfold lRet at *
 rw[he]
 split
 ·rename_i c;rw[if_pos c]at h;exact h
 ·rename_i c
  rw[if_neg c]at h
  have e:Z.dep-1000+1000=Z.dep:=Nat.sub_add_cancel (abP.mp c)
  refine⟨fun z=>h.1 (hw _ z),fun b us a H' e1 e2=>h.2 b us a H' e1 ?_⟩
  rw[<- hv (Z.dep-1000) (by rw[e];exact h.1)]
  exact e2
abbrev lOut(Z:Zx)(m:Ms)(r:Option Ms)(w:List Nat)(o:Out)(τ:Ft)(H:Hp)(D:Ends):Prop:=match o with
 |.nxt δ'=>∀(m':Ms)(τ':Ft)(H':Hp),r=some m'->dτ τ'=δ'->Sf Z.p Z.H0 Z.A0 m' τ' H'->Stp m m' w τ τ' H H'->D.nx (vτ τ') H'
 |.ret d=>lRet Z w d τ D
 |.exc c δ'=>Z.p.has (kcX c)=true->∀(τ':Ft)(H':Hp),dτ τ'=δ'->Sf Z.p Z.H0 Z.A0 Z.mx τ' H'->Stp m Z.mx w τ τ' H H'->XW Z.p (Z.EX (vτ τ')) c H'
 |.bad=>False
abbrev lS(Z:Zx)(s:S):TS:=fun D σ H=>∃τ m r,σ=vτ τ/\Sf Z.p Z.H0 Z.A0 m τ H/\msS Z.mx Z.dep s m=some r/\lOut Z m r (wrS s) (ex s (dτ τ)) τ H D
abbrev lSs(Z:Zx)(s:Ss):TS:=fun D σ H=>∃τ m r,σ=vτ τ/\Sf Z.p Z.H0 Z.A0 m τ H/\msSs Z.mx Z.dep s m=some r/\lOut Z m r (wrSs s) (exs s (dτ τ)) τ H D
theorem PSs.mono{X:Cx}{st:List Stmt}{t t':TS}(h:PSs X st t)(m:∀D σ H,t' D σ H->t D σ H):PSs X st t':=fun pins s σ H D I q=>h pins s σ H D I (m _ _ _ q)
section
variable{Z:Zx}{m:Ms}{r:Option Ms}{w:List Nat}{τ:Ft}{H:Hp}{D:Ends}{X:Cx}{pos:Pos}
theorem lOut.lg{α:Type}{q:Res α}{f:α->Out}(S:Sf Z.p Z.H0 Z.A0 m τ H)(hm:leM m Z.mx=true)(h:lOut Z m r w (q.out (dτ τ) f) τ H D):Lg Z.p Z.EX (vτ τ) q H fun a=>lOut Z m r w (f a) τ H D:=by
 cases q with
 |ok a=>exact h
 |exc c=>exact fun hc H' s=>h hc τ H' rfl ((S.weak hm).grow s) (Stp.refl w hm s)
 |bad=>exact h
theorem AI{c:Prop}[Decidable c]{α:Type}{x y:α}(h:(if c then some x else none)=some y):c/\x=y:=by
 split at h
 ·exact⟨‹_›,Option.some.inj h⟩
 ·cases h
theorem R6{x k:Nat}{e:E}{σ:L2.St}(h:lS Z (.asg x k e) D σ H):∃τ m,σ=vτ τ/\Sf Z.p Z.H0 Z.A0 m τ H/\GR (lE Z.p Z.EX (tnM m) e) (Eu x) D σ H:=by
 obtain⟨τ,m,r,rfl,S,hr,h⟩:=h
 simp only[msS]at hr
 obtain⟨⟨j1,k1⟩,h1,hr⟩:=bS hr
 obtain⟨⟨c1,c2,c3,c4,c5⟩,rfl⟩:=AI hr
 have c1:j1=0:=c1
 subst c1
 refine⟨τ,m,rfl,S,τ,rfl,S.ok,0,k1,h1,?_⟩
 simp only[ex]at h
 refine(h.lg S c5).mono (Same.refl _) fun d _ h t H1 ht R=>?_
 subst ht
 obtain⟨S2,P2⟩:=R5 S R c2 c3 c4
 show D.nx ((vτ τ).set x (some t.val)) H1
 rw[<- Fp]
 exact h _ _ H1 rfl (Fo τ x t) S2 P2
end
theorem Lf{m:Ms}{i:Nat}{d:Md}(h:(Cl m)[i]?=some d):(d=.dead)\/(m[i]?=some d/\∀k2,d≠.br k2):=by
 unfold Cl at h
 rw[aal]at h
 obtain⟨d',h1,h2⟩:=aax.mp h
 cases d' with
 |br k=>exact .inl h2.symm
 |sh=>cases h2;exact .inr ⟨h1,by simp⟩
 |ow k=>cases h2;exact .inr ⟨h1,by simp⟩
 |dead=>exact .inl h2.symm
theorem MJ{m:Ms}{i k:Nat}(h:m[i]?=some (.ow k)):(Cl m)[i]?=some (.ow k):=by
 unfold Cl;rw[aal,h];rfl
section
variable{p:Px}{H0:Hp}{A0:Addr->Prop}{m:Ms}{τ:Ft}{H H1:Hp}
theorem R7{x k:Nat}{t:T}{q:List (Bool×Int)}{a:Addr}{ts us es:List T}(S:Sf p H0 A0 m τ H)(s:Same H H1)(hx:τ[x]?=some (some t))(hm:m[x]?=some (.ow k))(hq:AK q t=some (.lst a ts))(hl:lnP q<k)(hus:T.Oks p H1 us)
  (hA:∀b∈T.adrs us (k-1-lnP q),b∈T.adrs ts (k-1-lnP q)\/b∈T.adrs es (k-1-lnP q)) (hB:∀b∈T.rests us (k-1-lnP q),b∈T.rests ts (k-1-lnP q)\/b∈T.rests es 0)
  (hnd:T.Nds ts (k-1-lnP q)->(∀b∈T.adrs es (k-1-lnP q),b∉T.rests ts 0)->(∀b∈T.adrs ts (k-1-lnP q),b∉T.rests es 0)->T.Nds us (k-1-lnP q))
  (src:∀b∈T.rests es 0,H b=none\/Sh (tnM m) τ b) (new:∀b∈T.adrs es (k-1-lnP q),H b=none/\Mu H1 b) :
  ∃t',DT (.lst a us) q t=some t'/\t'.val=t.val/\Sf p H0 A0 (if q.isEmpty then m else Cl m) (τ.set x (some t')) (L2.upd H1 a (.lst (us.map T.val)))/\Stp m (if q.isEmpty then m else Cl m) [x] τ (τ.set x (some t')) H (L2.upd H1 a (.lst (us.map T.val))):=by
 have dom:∀{j:Nat}{u:T}{d:Md},τ[j]?=some (some u)->m[j]?=some d->d≠.dead->∀b∈u.rest 0,H b≠none:=fun e hd nd b z=>(S.at e hd nd).dom z
 obtain⟨ain,aad⟩:=DU q (k:=k) hq (by omega)
 have ek:k-lnP q=(k-1-lnP q)+1:=by omega
 have nds:=Gx q hq (by omega:lnP q<=k) (S.nd x t k hx hm)
 rw[ek]at nds aad
 have ndt:T.Nds ts (k-1-lnP q):=by
  obtain⟨n1,n2⟩:=nds
  simp only[T.adr,T.rest,aat]at n1 n2
  exact⟨n1.2,fun b z y=>n2 b z (aaa _ y)⟩
 have hxd:∀b∈t.rest 0,H b≠none:=dom hx hm (by intro c;cases c)
 have notOwn:∀b∈T.rests es 0,¬Own m τ b:=fun b z o=>by
  rcases src b z with y|y
  ·obtain⟨_,vs,e,mu⟩:=S.ownOk o
   rw[e]at y;cases y
  ·exact S.disj o y
 have hm1:∀(j:Nat)(d:Md),(if q.isEmpty then m else Cl m)[j]?=some d->d≠.dead->m[j]?=some d/\(q≠[]->∀k2,d≠.br k2):=by
  intro j d hd nd
  cases q with
  |nil=>exact⟨hd,fun z=>absurd rfl z⟩
  |cons z r=>
   rcases Lf hd with y|⟨y1,y2⟩
   ·exact absurd y nd
   ·exact⟨y1,fun _=>y2⟩
 refine MI (F:=fun b=>b∈T.adrs es (k-1-lnP q)) (N:=fun b=>b∈T.rests es 0) S s hx hm hq hl hus (fun b z=>(T.alls_iff es _).mpr (.inl z)) hA hB ?_ (fun b z y=>hxd b y (new b z).1) (fun b z=>⟨S.same.free (new b z).1,(new b z).2⟩) (fun b z=>.inr (new b z).1)
  (fun b z y=>notOwn b z ⟨x,t,k,hx,hm,y⟩) (fun b z=>?_) ?_ ?_ (fun j d _ hd nd=>hm1 j d hd nd) (fun j u d ne e hd nd b z y=>?_) (fun i u k' ne e hk b z y=>?_)
 ·refine hnd ndt (fun b z y=>?_) (fun b z y=>?_)
  ·exact hxd b (ain b (aaa _ y)) (new b z).1
  ·exact notOwn b y ⟨x,t,k,hx,hm,aad b (aaa _ z)⟩
 ·rcases src b z with y|y
  ·exact .inl (S.same.free y)
  ·exact S.src b y
 ·split
  ·rfl
  ·unfold Cl;rw[aac]
 ·split
  ·exact hm
  ·exact MJ hm
 ·exact dom e (hm1 j d hd nd).1 nd b (T.rest_le u (aau _) y) (new b z).1
 ·exact notOwn b z ⟨i,u,k',e,(hm1 i _ hk (by intro c;cases c)).1,y⟩
theorem IS{ts:List T}{e:T}{k:Nat}(ne:e.Nd k)(h1:T.Nds ts k)(h2:∀b∈T.adrs [e] k,b∉T.rests ts 0)(h3:∀b∈T.adrs ts k,b∉T.rests [e] 0):T.Nds (ts++[e]) k :=
 T.nds_append h1 (T.nds_cons.mpr ⟨ne,by simp[T.Nds,T.adrs],by simp[T.rests],by simp[T.adrs]⟩) h3 h2
end
theorem HC:∀(q:List (Bool×E))(δ:Fr)(c:Nat),evP q δ≠.exc c
 |[],δ,c=>by simp[evP]
 | (t,e)::r,δ,c=>by
  simp only[evP]
  split
  ·cases h:evP r δ with
   |ok is=>simp
   |exc c'=>exact absurd h (HC r δ c')
   |bad=>simp
  ·simp
theorem IU:∀(q:List (Bool×E)){δ:Fr}{b:Bool}{e:E}{is:List (Bool×Int)},evP (q++[(b,e)]) δ=.ok is->∃js i,evP q δ=.ok js/\ev e δ=.ok (.int i)/\is=js++[(b,i)]
 |[],δ,b,e,is,h=>by
  simp only[aaX,evP]at h
  split at h
  ·rename_i i he
   simp only[Res.bind_ok]at h
   cases h
   exact⟨[],i,rfl,he,rfl⟩
  ·cases h
 | (t,e')::r,δ,b,e,is,h=>by
  simp only[aa8,evP]at h
  split at h
  ·rename_i i' he'
   obtain⟨js',h1,h2⟩:=Res.bind_eq_ok h
   cases h2
   obtain⟨js,i,h3,h4,rfl⟩:=IU r h1
   exact⟨(t,i')::js,i,by simp only[evP,he',h3,Res.bind_ok],h4,rfl⟩
  ·cases h
theorem Fc:∀(q:List (Bool×Int)){t s':T}{b:Bool}{i:Int},AK (q++[(b,i)]) t=some s'->∃s,AK q t=some s/\AK [(b,i)] s=some s'
 |[],t,s',b,i,h=>⟨t,rfl,h⟩
 | (c,j)::r,t,s',b,i,h=>by
  cases c with
  |false=>
   cases t with
   |lst a ts=>
    simp only[aa8,AK]at h ⊢
    obtain⟨n,h1,h⟩:=bS h
    obtain⟨u,h2,h⟩:=bS h
    obtain⟨s,h3,h4⟩:=Fc r h
    exact⟨s,by rw[h1];simp only[aa7];rw[h2];exact h3,h4⟩
   |_=>cases h
  |true=>
   cases t with
   |tup a ts=>
    simp only[aa8,AK]at h ⊢
    obtain⟨n,h1,h⟩:=bS h
    obtain⟨u,h2,h⟩:=bS h
    obtain⟨s,h3,h4⟩:=Fc r h
    exact⟨s,by rw[h1];simp only[aa7];rw[h2];exact h3,h4⟩
   |_=>cases h
theorem Fv{p:Px}{H:Hp}:∀(q:List (Bool×Int)){t s:T},t.Ok p H->AK q t=some s->s.Ok p H
 |[],t,s,ok,h=>by cases h;exact ok
 | (c,j)::r,t,s,ok,h=>by
  cases c with
  |false=>
   cases t with
   |lst a ts=>
    simp only[AK]at h
    obtain⟨n,h1,h⟩:=bS h
    obtain⟨u,h2,h⟩:=bS h
    exact Fv r (T.oks_iff.mp ok.2 u (aae h2)) h
   |_=>cases h
  |true=>
   cases t with
   |tup a ts=>
    simp only[AK]at h
    obtain⟨n,h1,h⟩:=bS h
    obtain⟨u,h2,h⟩:=bS h
    exact Fv r (T.oks_iff.mp ok.2 u (aae h2)) h
   |_=>cases h
theorem Qc{b:Bool}{i:Int}{s s':T}(h:AK [(b,i)] s=some s'):(∃a ts,s=.lst a ts/\atI (ts.map T.val) i=some s'.val)\/(∃a ts,s=.tup a ts/\atI (ts.map T.val) i=some s'.val):=by
 cases b with
 |false=>
  cases s with
  |lst a ts=>
   simp only[AK]at h
   obtain⟨n,h1,h⟩:=bS h
   obtain⟨u,h2,h⟩:=bS h
   cases h
   refine .inl ⟨a,ts,rfl,?_⟩
   unfold atI
   rw[aac,IC,h1]
   show(ts.map T.val)[n]?=_
   rw[aal,h2];rfl
  |_=>cases h
 |true=>
  cases s with
  |tup a ts=>
   simp only[AK]at h
   obtain⟨n,h1,h⟩:=bS h
   obtain⟨u,h2,h⟩:=bS h
   cases h
   refine .inr ⟨a,ts,rfl,?_⟩
   unfold atI
   rw[aac,IC,h1]
   show(ts.map T.val)[n]?=_
   rw[aal,h2];rfl
  |_=>cases h
abbrev OM(tn:List Nat)(q:List (Bool×E)):Prop:=∀e∈q,(jk tn e.2).isSome=true
abbrev lPl(p:Px)(EX:EXT)(tn:List Nat)(x:Nat)(q:List (Bool×E)):TE:=fun σ H Q=>∃τ t is s,σ=vτ τ/\Fok p tn τ H/\OM tn q/\τ[x]?=some (some t)/\t.Ok p H/\evP q (dτ τ)=.ok is/\AK is t=some s/\∀H',Same H H'->Q s.val H'
abbrev FW(c:CkC)(x:Nat):List (Bool×E)->Expr->Bool
 |[],.Name y _=>(c.N[x]?==some y)&&EB c.sc y&&BQ y
 | (_,e)::r,.Subscript o i _=>FW c x r o&&ckE c e i&&CN i
 |_,_=>false
section
variable{p:Px}{c:CkC}{lv:Nat}{X:Cx}{EX:EXT}{tn:List Nat}{pos np:Pos}
theorem ON(C:Ct p c lv X EX){x:Nat}:∀{rp:List (Bool×E)}{o:Expr},(∀e∈rp,∀n∈e.2.need,NeedOk p lv X n)->FW c x rp o=true->PE X o (lPl p EX tn x rp.reverse)
 |[],o,hn,h=>by
  cases o with
  |Name y q=>
   obtain⟨h,h3⟩:=Aa (show((c.N[x]?==some y)&&EB c.sc y&&BQ y)=true from h)
   obtain⟨h1,h2⟩:=Aa h
   obtain⟨d1,d2⟩:=B8 h3
   refine PE.mono (ER (by rw[C.N];exact beq_iff_eq.mp h1) (C.vis h2) d1 d2) fun σ H Q h=>?_
   obtain⟨τ,t,is,s,rfl,hF,_,ht,ok,e,hs,hq⟩:=h
   simp only[List.reverse_nil,evP]at e
   cases e
   cases hs
   exact⟨_,C8 ht,hq H (Same.refl _)⟩
  |_=>exact nF h
 | (b,e)::rp,o,hn,h=>by
  cases o with
  |Subscript o' i q=>
   obtain⟨h,h3⟩:=Aa (show(FW c x rp o'&&ckE c e i&&CN i)=true from h)
   obtain⟨h1,h2⟩:=Aa h
   have A:=ON C (rp:=rp) (o:=o') (fun e he=>hn e (aaa _ he)) h1
   have B:=(snd e C (tn:=tn) i (hn (b,e) (aab ..)) h2).1
   refine PE.mono (KM (GS.or L4) A B (E3 h3)) fun σ H Q h=>?_
   rw[acl]at h
   obtain⟨τ,t,is,s,rfl,hF,hj,ht,ok,ev1,hs,hq⟩:=h
   obtain⟨js,n,e1,e2,rfl⟩:=IU _ ev1
   obtain⟨s1,hs1,hs2⟩:=Fc _ hs
   refine⟨τ,t,js,s1,rfl,hF,fun e he=>hj e (aav _ he),ht,ok,e1,hs1,fun H1 sm=>?_⟩
   obtain⟨⟨j,k⟩,hj'⟩:=aaC.mp (hj (b,e) (aai _ (aaZ.mpr rfl)))
   refine⟨τ,rfl,hF.same sm,j,k,hj',?_⟩
   rw[e2]
   intro t2 H2 ht2 R
   have hv:t2.val=.int n:=by cases t2<;>simp[T.dat]at ht2<;>simp[T.val,ht2]
   rw[hv]
   have ok1:=(Fv _ ok hs1).same (sm.trans R.same)
   rcases Qc hs2 with⟨a,ts,rfl,at1⟩|⟨a,ts,rfl,at1⟩
   ·exact .inl ⟨a,_,n,_,rfl,rfl,.inl ok1.1,at1,hq H2 (sm.trans R.same)⟩
   ·exact .inr ⟨a,_,n,_,rfl,rfl,SqT.of ok1.1,at1,hq H2 (sm.trans R.same)⟩
  |_=>exact nF h
theorem Fd{m:Ms}:∀{q:List (Bool×E)},Ek m q=true->OM (tnM m) q
 |[],_=>fun e he=>nomatch he
 | (b,e)::r,h=>by
  obtain⟨h1,h2⟩:=Aa (show((jk (tnM m) e).isSome&&Ek m r)=true from h)
  intro e' he
  rcases aaf.mp he with rfl|he
  ·exact h1
  ·exact Fd h2 e' he
theorem MK:∀{q:List (Bool×E)}{δ:Fr}{is:List (Bool×Int)},evP q δ=.ok is->lnP is=lnE q/\is.isEmpty=q.isEmpty
 |[],δ,is,h=>by simp only[evP]at h;cases h;exact⟨rfl,rfl⟩
 | (b,e)::r,δ,is,h=>by
  simp only[evP]at h
  split at h
  ·obtain⟨js,h1,h2⟩:=Res.bind_eq_ok h
   cases h2
   have:=(MK h1).1
   cases b<;>simp[lnP,lnE,this]
  ·cases h
theorem Qd{δ:Fr}{x:Nat}{f:D->Option D}{Z:Zx}{m:Ms}{r:Option Ms}{w:List Nat}{τ:Ft}{H:Hp}{En:Ends}(h:lOut Z m r w (upd (dτ τ) x f) τ H En):∃t d',τ[x]?=some (some t)/\f t.dat=some d'/\lOut Z m r w (.nxt ((dτ τ).set x (some d'))) τ H En:=by
 unfold upd at h
 cases q:(dτ τ)[x]? with
 |none=>rw[q]at h;exact nE h
 |some o=>
  rw[q]at h
  cases o with
  |none=>exact nE h
  |some d=>
   have:get (dτ τ) x=.ok d:=by unfold get;rw[q]
   obtain⟨t,ht,rfl⟩:=Eg this
   simp only at h
   cases q2:f t.dat with
   |none=>rw[q2]at h;exact nE h
   |some d'=>rw[q2]at h;exact⟨t,d',ht,q2,h⟩
end
theorem N1{τ:Ft}{x:Nat}{t t':T}(h:τ[x]?=some (some t))(e:t'.val=t.val):vτ (τ.set x (some t'))=vτ τ:=by
 rw[Fp,e]
 refine adc fun i=>?_
 by_cases z:x=i
 ·subst z
  rw[abn,C8 h];rfl
 ·rw[aaz z]
theorem N2{H:Hp}{a:Addr}{vs:List V}(h:Rd H a (.lst vs))(hp:Mu H a):H a=some (.lst vs):=by
 rcases h with h|⟨o,h⟩
 ·exact h
 ·obtain⟨ws,e,mu⟩:=hp
  rw[h]at e;cases e
  exact nomatch (show false=true from mu)
section
variable{Z:Zx}{m:Ms}{r:Option Ms}{w:List Nat}{τ:Ft}{H:Hp}{D:Ends}{X:Cx}{pos:Pos}{σ:L2.St}
theorem Kg{K:Frag}{H:Hp}{a:Addr}{vs:List V}(h:H a=some (.lst vs)):tyV K "list" (.ref a) H:=.inl ⟨rfl,_,SqL.of h⟩
theorem IV{x:Nat}{q:List (Bool×E)}{u:Um}{es:Es}{k:Nat}(S:Sf Z.p Z.H0 Z.A0 m τ H)(hmx:m[x]?=some (.ow k))(c2:lnE q<k)(c4:Ek m q=true)(h:lOut Z m r [x] (ex (.mut x q u es) (dτ τ)) τ H D) :
  ∃t is ds a ts ds',τ[x]?=some (some t)/\evP q (dτ τ)=.ok is/\evs es (dτ τ)=.ok ds/\AK is t=some (.lst a ts)/\lnP is=lnE q/\is.isEmpty=q.isEmpty/\umD u ds (T.dats ts)=some ds' /\
   (∀H3,Same H H3->H3 a=some (.lst (ts.map T.val))/\T.Oks Z.p H3 ts/\a∈t.adr k) /\
   (∀us m' H3 t',T.dats us=ds'->r=some m'->DT (.lst a us) is t=some t'->t'.val=t.val->Sf Z.p Z.H0 Z.A0 m' (τ.set x (some t')) (L2.upd H3 a (.lst (us.map T.val)))->Stp m m' [x] τ (τ.set x (some t')) H (L2.upd H3 a (.lst (us.map T.val)))->D.nx (vτ τ) (L2.upd H3 a (.lst (us.map T.val)))):=by
 simp only[ex]at h
 cases ep:evP q (dτ τ) with
 |exc c=>exact absurd ep (HC _ _ _)
 |bad=>rw[ep]at h;exact nE h
 |ok is=>
 rw[ep]at h
 cases ee:evs es (dτ τ) with
 |exc c=>rw[ee]at h;exact nE h
 |bad=>rw[ee]at h;exact nE h
 |ok ds=>
 rw[ee]at h
 simp only at h
 obtain⟨t,d',ht,hu,h⟩:=Qd (δ:=dτ τ) h
 obtain⟨a,ts,ds',hs,hf,hd'⟩:=G6 is hu
 obtain⟨l1,l2⟩:=MK ep
 refine⟨t,is,ds,a,ts,ds',ht,rfl,rfl,hs,l1,l2,hf,fun H3 sH3=>?_,fun us m' H3 t' e1 e2 p1 p2 S4 P4=>?_⟩
 ·have S3:=S.grow sH3
  have hl:lnP is<k:=by rw[l1];exact c2
  have aadr:a∈t.adr k:=(DU is (k:=k) hs (by omega)).2 a (by
   have:k-lnP is=(k-lnP is-1)+1:=by omega
   rw[this];exact aab ..)
  have okt:=Fv _ (S3.at ht hmx (by intro c;cases c)) hs
  exact⟨N2 okt.1 (S3.own x t k a ht hmx aadr).2,okt.2,aadr⟩
 ·have:=h m' _ _ e2 (by rw[Fo,hd' us t' e1 p1]) S4 P4
  rw[N1 ht p2]at this
  exact this
abbrev rUm:Um->V->List V->Hp->VK->Prop
 |.append=>Fk
 |.extend=>fun x vs H Q=>∃l b xs zs,x=.ref l/\vs=[.ref b]/\H l=some (.lst xs)/\Rd H b (.lst zs)/\xs.length+zs.length<=sizeLine/\Q .non (L2.upd H l (.lst (xs++zs)))
 |.clear=>L6
abbrev N3:V->List V->Hp->VK->Prop:=fun x vs H Q=>∃l b xs zs,x=.ref l/\vs=[.ref b]/\H l=some (.lst xs)/\Rd H b (.lst zs)/\xs.length+zs.length<=sizeLine/\Q .non (L2.upd H l (.lst (xs++zs)))
end
section
variable{X:Cx}
theorem Lh:MtM X "list.extend" N3:=by
 intro pins s σ H x vs v us Q I rx rv h
 obtain⟨l,b,xs,zs,rfl,rfl,hH,hB,hz,q⟩:=h
 cases rx
 obtain⟨u,rfl,ru⟩:=rv.one
 cases ru
 obtain⟨z,its,n,r,hl,e⟩:=I.lstM hH
 obtain⟨z2,its2,n2,r2,hl2,e2⟩:=Inv.lstR I hB
 have hsz:its.toArray.size+its2.toArray.size<=sizeLine:=by rw[aaq,aaq];omega
 have hlong:¬(!its.toArray.isEmpty&&Builtin.List.listTooLong (its.toArray.size+its2.toArray.size))=true:=by
  rw[Io hsz,acF]
  exact abp
 refine call_meets F.slot_list_extend ⟨_,e,rfl⟩ F.entry_list_extend (F.args_list_extend_2 _ _)
  (AutoSeq1.list_extend_list_list_0 l its.toArray n b its2.toArray n2 hlong (by rw[aaq];omega) (by omega)) ⟨e,e2,?_⟩
 refine⟨.non,_,I.lset (its':=its++its2) hH e (by simp) (r.append r2) ?_,rfl,q⟩
 rw[aaI]
 omega
end
section
variable{Z:Zx}{m:Ms}{r:Option Ms}{w:List Nat}{τ:Ft}{H:Hp}{D:Ends}{X:Cx}{pos:Pos}{σ:L2.St}
theorem Qe{x:Nat}{q:List (Bool×E)}{u:Um}{es:Es}{k:Nat}(hK:X.K=Z.p.K)(S:Sf Z.p Z.H0 Z.A0 m τ H)(hmx:m[x]?=some (.ow k))(c2:lnE q<k)(c4:Ek m q=true){j1 k1:Nat}(h1:jks (tnM m) es=some (j1,k1))
  (hc:(j1=0\/(u=.extend/\j1<=1))/\(k-1-lnE q=0\/(u.kind=1/\k-1-lnE q<=k1)\/(u.kind=2/\k-lnE q<=k1)\/u.kind=0)) (hr:r=some (if q.isEmpty then m else Cl m)) (h:lOut Z m r [x] (ex (.mut x q u es) (dτ τ)) τ H D) :
  lPl Z.p Z.EX (tnM m) x q (vτ τ) H fun v H1=>tyV X.K "list" v H1/\lEs Z.p Z.EX (tnM m) es (vτ τ) H1 fun vs H2=>rUm u v vs H2 fun _ H3=>D.nx (vτ τ) H3:=by
 obtain⟨t,is,ds,a,ts,ds',ht,ep,ee,hs,l1,l2,hf,hpl,hnx⟩:=IV S hmx c2 c4 h
 subst hr
 refine⟨τ,t,is,.lst a ts,rfl,S.ok,Fd c4,ht,S.at ht hmx (by intro c;cases c),ep,hs,fun H1 s1=>⟨Kg (hpl H1 s1).1,?_⟩⟩
 refine⟨τ,rfl,S.ok.same s1,j1,k1,h1,?_⟩
 rw[ee]
 intro tes H2 hte R
 subst hte
 have s2:Same H H2:=s1.trans R.same
 obtain⟨p0,okt,aadr⟩:=hpl H2 s2
 have hl:lnP is<k:=by rw[l1];exact c2
 have fin:∀us es',T.dats us=ds'->T.Oks Z.p H2 us->(∀b∈T.adrs us (k-1-lnP is),b∈T.adrs ts (k-1-lnP is)\/b∈T.adrs es' (k-1-lnP is))->(∀b∈T.rests us (k-1-lnP is),b∈T.rests ts (k-1-lnP is)\/b∈T.rests es' 0)->
   (T.Nds ts (k-1-lnP is)->(∀b∈T.adrs es' (k-1-lnP is),b∉T.rests ts 0)->(∀b∈T.adrs ts (k-1-lnP is),b∉T.rests es' 0)->T.Nds us (k-1-lnP is))->(∀b∈T.rests es' 0,H b=none\/Sh (tnM m) τ b)->(∀b∈T.adrs es' (k-1-lnP is),H b=none/\Mu H2 b)->
   D.nx (vτ τ) (L2.upd H2 a (.lst (us.map T.val))):=by
  intro us es' e1 e2 e3 e4 e5 e6 e7
  obtain⟨t',p1,p2,S4,P4⟩:=R7 (us:=us) (es:=es') S s2 ht hmx hs hl e2 e3 e4 e5 e6 e7
  rw[l2]at S4 P4
  exact hnx us _ H2 t' e1 rfl p1 p2 S4 P4
 have hz:ts.length<=sizeLine\/True:=.inr trivial
 cases u with
 |append=>
  rcases tes with _|⟨te,_|⟨te2,ter⟩⟩
  ·cases hf
  ·simp only[T.dats,umD]at hf
   obtain⟨hlt,rfl⟩:=AI hf
   have hj:j1=0:=by
    rcases hc.1 with z|⟨z,_⟩
    ·exact z
    ·cases z
   subst hj
   have hk1:k-1-lnP is<=k1\/k-1-lnP is=0:=by
    rw[l1]
    rcases hc.2 with z|⟨_,z⟩|⟨z,_⟩|z
    ·exact .inr z
    ·exact .inl z
    ·cases z
    ·cases z
   refine⟨a,_,te.val,rfl,rfl,p0,by rw[aac,<- Aj];exact hlt,?_⟩
   have:=fin (ts++[te]) [te] (by rw[T.dats_map,aap,<- T.dats_map];rfl) (T.oks_iff.mpr fun w hw=>by
     rcases aah.mp hw with z|z
     ·exact T.oks_iff.mp okt w z
     ·exact T.oks_iff.mp R.ok w z)
    (fun b z=>by rw[T.adrs_append,aah]at z;exact z) (fun b z=>by
     rw[T.rests_append,aah]at z
     refine z.imp id fun z=>?_
     simp only[T.rests,aaO]at z ⊢
     exact T.rest_le te (aau _) z)
    (fun n1 n2 n3=>IS (by
     rcases hk1 with z|z
     ·exact(T.nds_le z R.nd:T.Nds [te] _) |> fun w=>(T.nds_cons.mp w).1
     ·rw[z];exact T.nd_zero te) n1 n2 n3)
    (fun b z=>(R.src b z).imp s1.free id) (fun b z=>by
     rcases hk1 with y|y
     ·obtain⟨w,hw,z⟩:=T.mem_adrs.mp z
      have:=R.new b (T.mem_adrs.mpr ⟨w,hw,T.adr_le w y z⟩)
      exact⟨s1.free this.1,this.2⟩
     ·rw[y,T.adrs_zero]at z;cases z)
   rw[aap]at this
   exact this
  ·have:umD .append (T.dats (te::te2::ter)) (T.dats ts)=none:=rfl
   rw[this]at hf;cases hf
 |extend=>
  rcases tes with _|⟨te,_|⟨te2,ter⟩⟩
  ·cases hf
  ·cases te with
   |lst b0 es'=>
    simp only[T.dats,T.dat,umD]at hf
    obtain⟨hlt,rfl⟩:=AI hf
    have hj:j1<=1:=by
     rcases hc.1 with z|⟨_,z⟩
     ·omega
     ·exact z
    have hk1:k-1-lnP is+1<=k1\/k-1-lnP is=0:=by
     rw[l1]
     rcases hc.2 with z|⟨z,_⟩|⟨_,z⟩|z
     ·exact .inr z
     ·cases z
     ·exact .inl (by omega)
     ·cases z
    refine⟨a,b0,_,_,rfl,rfl,p0,R.ok.1.1,by rw[aac,aac,<- Aj,<- Aj];exact hlt,?_⟩
    have nde:T.Nds es' (k-1-lnP is):=by
     rcases hk1 with z|z
     ·obtain⟨n1,n2⟩:=(T.nds_cons.mp (T.nds_le z R.nd)).1
      simp only[T.adr,T.rest,aat]at n1 n2
      exact⟨n1.2,fun b y w=>n2 b y (aaa _ w)⟩
     ·rw[z];exact T.nds_zero _
    have:=fin (ts++es') es' (by rw[T.dats_map,aap,<- T.dats_map,<- T.dats_map]) (T.oks_iff.mpr fun w hw=>by
      rcases aah.mp hw with z|z
      ·exact T.oks_iff.mp okt w z
      ·exact T.oks_iff.mp R.ok.1.2 w z)
     (fun b z=>by rw[T.adrs_append,aah]at z;exact z) (fun b z=>by
      rw[T.rests_append,aah]at z
      refine z.imp id fun z=>?_
      obtain⟨w,hw,z2⟩:=T.mem_rests.mp z
      exact T.mem_rests.mpr ⟨w,hw,T.rest_le w (aau _) z2⟩)
     (fun n1 n2 n3=>T.nds_append n1 nde n3 n2)
     (fun b z=>(R.src b (by
      simp only[T.rests,aaO]
      exact T.rest_le (.lst b0 es') hj (j':=1) z)).imp s1.free id) (fun b z=>by
      rcases hk1 with y|y
      ·have:=R.new b (T.mem_adrs.mpr ⟨.lst b0 es',aaZ.mpr rfl,T.adr_le (.lst b0 es') y (aaa _ z)⟩)
       exact⟨s1.free this.1,this.2⟩
      ·rw[y,T.adrs_zero]at z;cases z)
    rw[aap]at this
    exact this
   |_=>cases hf
  ·have:umD .extend (T.dats (te::te2::ter)) (T.dats ts)=none:=rfl
   rw[this]at hf;cases hf
 |clear=>
  rcases tes with _|⟨te,ter⟩
  ·cases hf
   refine⟨a,_,rfl,rfl,p0,?_⟩
   exact fin [] [] rfl trivial (fun b z=>nomatch z) (fun b z=>nomatch z) (fun n1 _ _=>by simp[T.Nds,T.adrs]) (fun b z=>nomatch z) (fun b z=>nomatch z)
  ·have:umD .clear (T.dats (te::ter)) (T.dats ts)=none:=rfl
   rw[this]at hf;cases hf
end
section
variable{p:Px}{H0:Hp}{A0:Addr->Prop}{m:Ms}{τ:Ft}{H H1:Hp}
theorem Td{y ky:Nat}{ty:T}(S:Sf p H0 A0 (m.set y .dead) τ H)(hy:τ[y]?=some (some ty))(hm:y<m.length)(h90:ky<90)(ok:ty.Ok p H)(src:∀a∈ty.rest ky,H0 a=none\/A0 a)
  (sep:∀(i:Nat)(t:T)(k:Nat),τ[i]?=some (some t)->(m.set y .dead)[i]?=some (.ow k)->∀a∈t.adr k,a∉ty.rest ky) (top:∀(i:Nat)(t:T)(k:Nat),τ[i]?=some (some t)->(m.set y .dead)[i]?=some (.ow k)->∀a ts,t=.lst a ts->a∉ty.rest 0):Sf p H0 A0 (m.set y (.br ky)) τ H:=by
 have back:∀{i:Nat}{d:Md},(m.set y (.br ky))[i]?=some d->(i=y/\d=.br ky)\/(i≠y/\(m.set y .dead)[i]?=some d):=by
  intro i d h
  rcases Ae h with z|⟨z1,z2⟩
  ·exact .inl z
  ·exact .inr ⟨z1,by rw[aaz (Ne.symm z1)];exact z2⟩
 have ow':∀{i k:Nat},(m.set y (.br ky))[i]?=some (.ow k)->(m.set y .dead)[i]?=some (.ow k):=by
  intro i k h
  rcases back h with⟨_,z⟩|⟨_,z⟩
  ·cases z
  ·exact z
 refine⟨by have:=S.len;rw[aa4]at this ⊢;exact this,fun d hd=>?_,S.same,fun i t j e ej l=>?_,fun i t k a e hk q=>S.own i t k a e (ow' hk) q,fun a sh=>?_,fun i t k e hk=>S.nd i t k e (ow' hk),fun i j t u k d ne e hk e' hd nd a q=>?_,fun i j t u k k2 e hk e' hd a ts z=>?_⟩
 ·obtain⟨i,hi,rfl⟩:=abB hd
  rcases back (aan hi) with⟨_,z⟩|⟨_,z⟩
  ·rw[z];exact decide_eq_true h90
  ·exact S.small _ (aae z)
 ·obtain⟨d,hd,rfl⟩:=A4 ej
  rcases back hd with⟨rfl,z⟩|⟨_,z⟩
  ·rw[hy]at e;cases e;exact ok
  ·exact S.ok i t _ e (AT z) l
 ·obtain⟨i,t,j,e,ej,l,q⟩:=sh
  obtain⟨d,hd,rfl⟩:=A4 ej
  rcases back hd with⟨rfl,z⟩|⟨_,z⟩
  ·rw[hy]at e;cases e;subst z;exact src a q
  ·exact S.src a ⟨i,t,_,e,AT z,l,q⟩
 ·rcases back hd with⟨rfl,z⟩|⟨_,z⟩
  ·rw[hy]at e';cases e';subst z;exact sep i t k e (ow' hk) a q
  ·exact S.sep i j t u k d ne e (ow' hk) e' z nd a q
 ·rcases back hd with⟨rfl,z'⟩|⟨_,z'⟩
  ·rw[hy]at e';cases e';exact top i t k e (ow' hk) a ts z
  ·exact S.top i j t u k k2 e (ow' hk) e' z' a ts z
theorem Qf{x y k ky:Nat}{ty:T}{a:Addr}{ts:List T}(S:Sf p H0 A0 m τ H)(s:Same H H1)(hx:τ[x]?=some (some (.lst a ts)))(hm:m[x]?=some (.ow k))(hy:τ[y]?=some (some ty))(hmy:m[y]?=some (.ow ky))(hne:y≠x)(hk:k-1<=ky) :
  Sf p H0 A0 (m.set y (.br ky)) (τ.set x (some (.lst a (ts++[ty])))) (L2.upd H1 a (.lst ((ts++[ty]).map T.val)))/\Stp m (m.set y (.br ky)) [x] τ (τ.set x (some (.lst a (ts++[ty])))) H (L2.upd H1 a (.lst ((ts++[ty]).map T.val))):=by
 have S1:=S.grow s
 have sm:0<k/\k<90:=of_decide_eq_true (S.small _ (aae hm))
 have smy:0<ky/\ky<90:=of_decide_eq_true (S.small _ (aae hmy))
 have no:∀{k0:Nat},Md.ow k0≠.dead:=by intro k0 c;cases c
 have hyl:y<m.length:=(aaA.mp hmy).1
 have sxy:∀b∈(T.lst a ts).adr k,b∉ty.rest 0:=S.sep x y _ ty k _ (Ne.symm hne) hx hm hy hmy no
 have syx:∀b∈ty.adr ky,b∉(T.lst a ts).rest 0:=S.sep y x ty _ ky _ hne hy hmy hx hm no
 obtain⟨k',rfl⟩:∃k',k=k'+1:=⟨k-1,by omega⟩
 have aadr:a∈(T.lst a ts).adr (k'+1):=aab ..
 have ndx:=S.nd x _ _ hx hm
 have ndt:T.Nds ts k':=by
  obtain⟨n1,n2⟩:=ndx
  simp only[T.adr,T.rest,aat]at n1 n2
  exact⟨n1.2,fun b z y=>n2 b z (aaa _ y)⟩
 have hk':k'<=ky:=by omega
 have okx:=S1.at hx hm no
 have oky:=S1.at hy hmy no
 have e0:k'+1-1-lnP []=k':=by simp[lnP]
 obtain⟨t',p1,p2,S2,P2⟩:=MI (F:=fun b=>b∈ty.adr k') (N:=fun b=>b∈ty.rest 0) (m1:=m.set y .dead) (us:=ts++[ty]) (q:=[]) S s hx hm rfl (by simp[lnP])
  (T.oks_iff.mpr fun w hw=>by
   rcases aah.mp hw with z|z
   ·exact T.oks_iff.mp okx.2 w z
   ·cases aaZ.mp z;exact oky)
  (fun b z=>(T.all_iff ty k').mpr (.inl z))
  (by
   rw[e0]
   intro b z
   rw[T.adrs_append,aah]at z
   exact z.imp id fun z=>by simpa[T.adrs] using z)
  (by
   rw[e0]
   intro b z
   rw[T.rests_append,aah]at z
   exact z.imp id fun z=>T.rest_le ty (aau k') (by simpa[T.rests] using z))
  (by
   rw[e0]
   exact IS (T.nd_le ty hk' (S.nd y ty ky hy hmy)) ndt (fun b z w=>syx b (T.adr_le ty hk' (by simpa[T.adrs] using z)) (aaa _ w)) (fun b z w=>sxy b (aaa _ z) (by simpa[T.rests] using w)))
  (fun b z=>syx b (T.adr_le ty hk' z)) (fun b z=>S1.own y ty ky b hy hmy (T.adr_le ty hk' z)) (fun b z=>.inl ⟨y,ty,ky,hy,hmy,T.adr_le ty hk' z⟩) (fun b z w=>sxy b w z)
  (fun b z=>by
   rcases (T.all_iff ty ky).mp z with w|w
   ·exact .inl (S.own y ty ky b hy hmy w).1
   ·exact S.src b ⟨y,ty,ky,hy,AT hmy,smy.2,w⟩)
  (by rw[aa4]) (by rw[aaz hne];exact hm)
  (fun j d ne hd nd=>by
   rcases Ae hd with⟨_,z⟩|⟨_,z⟩
   ·exact absurd z nd
   ·exact⟨z,fun w=>absurd rfl w⟩)
  (fun j u d ne e hd nd b z=>by
   rcases Ae hd with⟨_,w⟩|⟨w,hd⟩
   ·exact absurd w nd
   ·exact S.sep y j ty u ky d (Ne.symm w) hy hmy e hd nd b (T.adr_le ty hk' z))
  (fun i u k2 ne e hk2 b z w=>by
   rcases Ae hk2 with⟨_,w'⟩|⟨w',hk2⟩
   ·cases w'
   ·exact S.sep i y u ty k2 _ w' e hk2 hy hmy no b w z)
 cases p1
 have hy':(τ.set x (some (.lst a (ts++[ty]))))[y]?=some (some ty):=by rw[aaz (Ne.symm hne)];exact hy
 have atop:a∉ty.rest 0:=sxy a aadr
 refine⟨Td S2 hy' hyl smy.2 ?_ (fun b z=>S.src b ⟨y,ty,ky,hy,AT hmy,smy.2,z⟩) (fun i t k2 e hk2 b z w=>?_) (fun i t k2 e hk2 b cs z=>?_),P2.keep,fun b o=>P2.grow b ?_,P2.wr,P2.ad⟩
 ·refine Db (H:=H1) (fun b w e n=>by rw[An n];exact e) (S1.own x _ _ a hx hm aadr).2 oky atop
 ·rcases Ae e with⟨rfl,e2⟩|⟨n1,e1⟩
  ·cases e2
   rcases Ae hk2 with⟨w',_⟩|⟨_,hk2⟩
   ·exact hne w'.symm
   ·rw[hm]at hk2
    cases hk2
    simp only[T.adr,T.adrs_append,T.adrs,aaf,aah,aaO]at z
    rcases z with rfl|z|z
    ·exact atop (T.rest_le ty (aau _) w)
    ·exact sxy b (aaa _ z) (T.rest_le ty (aau _) w)
    ·exact(S.nd y ty ky hy hmy).2 b w (T.adr_le ty hk' z)
  ·rcases Ae hk2 with⟨_,w'⟩|⟨w',hk2⟩
   ·cases w'
   ·exact S.sep i y t ty k2 _ w' e1 hk2 hy hmy no b z (T.rest_le ty (aau _) w)
 ·rcases Ae e with⟨rfl,e2⟩|⟨n1,e1⟩
  ·cases e2
   cases z
   exact atop
  ·rcases Ae hk2 with⟨_,w'⟩|⟨w',hk2⟩
   ·cases w'
   ·subst z
    have:=of_decide_eq_true (S.small _ (aae hk2))
    refine S.sep i y _ ty k2 _ w' e1 hk2 hy hmy no b ?_
    obtain⟨k3,rfl⟩:∃k3,k2=k3+1:=⟨k2-1,by omega⟩
    exact aab ..
 ·obtain⟨i,t,k2,e,hk2,z⟩:=o
  refine⟨i,t,k2,e,?_,z⟩
  rcases Ae hk2 with⟨_,w'⟩|⟨w',hk2⟩
  ·cases w'
  ·rw[aaz (Ne.symm w')];exact hk2
end
section
variable{Z:Zx}{m:Ms}{r:Option Ms}{τ:Ft}{H:Hp}{D:Ends}{X:Cx}
theorem R8{x y k ky:Nat}(S:Sf Z.p Z.H0 Z.A0 m τ H)(hmx:m[x]?=some (.ow k))(hmy:m[y]?=some (.ow ky))(hne:y≠x)(hk:k-1<=ky)(hr:r=some (m.set y (.br ky)))(h:lOut Z m r [x] (ex (.mut x [] .append (.cons (.nm y) .nil)) (dτ τ)) τ H D) :
  lPl Z.p Z.EX (tnM m) x [] (vτ τ) H fun v H1=>tyV X.K "list" v H1/\(Oy (Ni y) Rc) (vτ τ) H1 fun vs H2=>Fk v vs H2 fun _ H3=>D.nx (vτ τ) H3:=by
 have sm:0<k/\k<90:=of_decide_eq_true (S.small _ (aae hmx))
 obtain⟨t,is,ds,a,ts,ds',ht,ep,ee,hs,l1,l2,hf,hpl,hnx⟩:=IV S hmx (by simp[lnE];omega) rfl h
 cases ep
 cases hs
 subst hr
 simp only[evs,ev]at ee
 obtain⟨d,e1,ee⟩:=Res.bind_eq_ok ee
 cases ee
 obtain⟨ty,hy,rfl⟩:=Eg e1
 simp only[umD]at hf
 obtain⟨hlt,rfl⟩:=AI hf
 refine⟨τ,_,[],.lst a ts,rfl,S.ok,Fd rfl,ht,S.at ht hmx (by intro c;cases c),rfl,rfl,fun H1 s1=>⟨Kg (hpl H1 s1).1,?_⟩⟩
 refine⟨ty.val,C8 hy,?_⟩
 show Fk (.ref a) [ty.val] H1 (fun _ H3=>D.nx (vτ τ) H3)
 refine⟨a,_,ty.val,rfl,rfl,(hpl H1 s1).1,by rw[aac,<- Aj];exact hlt,?_⟩
 obtain⟨S2,P2⟩:=Qf S s1 ht hmx hy hmy hne hk
 have:=hnx (ts++[ty]) _ H1 _ (by rw[T.dats_map,aap,<- T.dats_map];rfl) rfl rfl rfl S2 P2
 rw[aap]at this
 exact this
end
section
variable{Z:Zx}{m:Ms}{r:Option Ms}{w:List Nat}{τ:Ft}{H:Hp}{D:Ends}{X:Cx}{pos:Pos}{σ:L2.St}
theorem Qg{K:Frag}{xs:List Nat}{e:E}(h:lS Z (.asgT xs e) D σ H):∃m,GR (lE Z.p Z.EX (tnM m) e) (lG K (.tp xs)) D σ H:=by
 obtain⟨τ,m,r,rfl,S,hr,h⟩:=h
 refine⟨m,?_⟩
 simp only[msS]at hr
 obtain⟨⟨j1,k1⟩,h1,hr⟩:=bS hr
 obtain⟨⟨c1,c2⟩,rfl⟩:=AI hr
 have c1:j1=0:=c1
 subst c1
 simp only[ex]at h
 refine⟨τ,rfl,S.ok,0,k1,h1,(h.lg S c2).mono (Same.refl _) fun d _ h t H1 ht R=>?_⟩
 subst ht
 rw[E6]at h
 cases q:Cj (.tp xs) t τ with
 |none=>rw[q]at h;exact nE h
 |some τ'=>
  rw[q]at h
  obtain⟨S2,P2⟩:=Tb S R.same R.ok R.src q
  exact K8 R.ok q (h _ τ' H1 rfl rfl S2 P2)
theorem Qh{e:E}(h:lS Z (.expr e) D σ H):∃m,Ov (lE Z.p Z.EX (tnM m) e) D σ H:=by
 obtain⟨τ,m,r,rfl,S,hr,h⟩:=h
 refine⟨m,?_⟩
 simp only[msS]at hr
 obtain⟨⟨j1,k1⟩,h1,hr⟩:=bS hr
 obtain⟨c2,rfl⟩:=AI hr
 simp only[ex]at h
 exact⟨τ,rfl,S.ok,j1,k1,h1,(h.lg S c2).mono (Same.refl _) fun d _ h t H1 ht R=>h m τ H1 rfl rfl (S.grow R.same) (Stp.refl _ (FV S.small) R.same)⟩
theorem R9{c:Nat}(h:c<1000):kcX c=c:=if_neg (Nat.not_le_of_lt h)
theorem N4{c:Nat}{es:Es}(hlt:c<1000)(h:lS Z (.raise c es) D σ H):∃m,lEs Z.p Z.EX (tnM m) es σ H fun vs H1=>vs.length=es.len/\(Z.p.has c=true->Z.EX σ (.ref (Z.p.cl c)) none H1):=by
 obtain⟨τ,m,r,rfl,S,hr,h⟩:=h
 refine⟨m,?_⟩
 simp only[msS]at hr
 obtain⟨⟨j1,k1⟩,h1,hr⟩:=bS hr
 obtain⟨c2,rfl⟩:=AI hr
 simp only[ex]at h
 refine⟨τ,rfl,S.ok,j1,k1,h1,(h.lg S c2).mono (Same.refl _) fun ds e h ts H1 hts R=>⟨?_,fun hc=>(by
  have k:=R9 hlt
  have:=h (by rw[k];exact hc) τ H1 rfl ((S.weak c2).grow R.same) (Stp.refl _ c2 R.same) none (.inl ⟨hlt,rfl⟩)
  rw[k]at this;exact this)⟩⟩
 rw[aac,<- Aj,hts,B7 _ _ _ e]
theorem Sa{e:E}(h:lS Z (.ret e) D σ H):(∃(i:Nat)(t:T),e=.nm i/\σ[i]?=some (some t.val)/\D.rt t.val H)\/∃m,lE Z.p Z.EX (tnM m) e σ H D.rt:=by
 obtain⟨τ,m,r,rfl,S,hr,h⟩:=h
 simp only[msS]at hr
 obtain⟨k,hk,hr⟩:=bS hr
 obtain⟨⟨⟨c1,c0⟩,c2⟩,rfl⟩:=AI hr
 simp only[ex]at h
 have gen:∀j,(jk (tnM m) e=some (j,k))->j=0->∃m,lE Z.p Z.EX (tnM m) e (vτ τ) H D.rt:=by
  intro j hj hz
  subst hz
  refine⟨m,τ,rfl,S.ok,0,k,hj,(h.lg S c2).mono (Same.refl _) fun d _ h t H1 ht R=>lRet.lo h c0 ht ⟨S.same.trans R.same,R.ok,fun a q=>?_,fun a q=>?_,T.nd_le t c1 R.nd⟩⟩
  ·rcases R.src a q with z|z
   ·exact .inl (S.same.free z)
   ·exact S.src a z
  ·have:=R.new a (T.adr_le t c1 q)
   exact⟨S.same.free this.1,this.2⟩
 by_cases hnm:∃i,e=.nm i
 ·obtain⟨i,rfl⟩:=hnm
  simp only[rk]at hk
  cases q:get (dτ τ) i with
  |exc c=>unfold get at q;split at q<;>cases q
  |bad=>simp only[ev,q]at h;exact nE h
  |ok d=>
   obtain⟨t,ht,rfl⟩:=Eg q
   simp only[ev,q]at h
   refine .inl ⟨i,t,rfl,C8 ht,lRet.lo h c0 rfl ?_⟩
   split at hk
   ·rename_i k0 hm
    cases hk
    have sm:0<k/\k<90:=of_decide_eq_true (S.small _ (aae hm))
    refine⟨S.same,S.at ht hm (by intro c;cases c),fun a z=>?_,fun a z=>S.own i t k a ht hm (T.adr_le t c1 z),T.nd_le t c1 (S.nd i t k ht hm)⟩
    rcases (T.all_iff t k).mp z with y|y
    ·exact .inl (S.own i t k a ht hm y).1
    ·exact S.src a ⟨i,t,k,ht,AT hm,sm.2,y⟩
   ·rename_i hm
    cases hk
    have c1:Z.dep=0:=by omega
    rw[c1]
    exact⟨S.same,S.at ht hm (by intro c;cases c),fun a z=>S.src a ⟨i,t,0,ht,AT hm,by decide,z⟩,by rw[T.adr_zero];simp,T.nd_zero t⟩
   ·cases hk
 ·refine .inr ?_
  have:rk m e=(jk (tnM m) e).bind fun x=>if x.1=0 then some x.2 else none:=by
   cases e<;>first|rfl|exact absurd ⟨_,rfl⟩ hnm
  rw[this]at hk
  obtain⟨⟨j1,k1⟩,h1,hk⟩:=bS hk
  obtain⟨z,rfl⟩:=AI hk
  exact gen j1 h1 z
theorem lOut.weak{r1 r2:Option Ms}{w1 w2:List Nat}{o:Out}(h:lOut Z m r2 w2 o τ H D)(hj:okJ r1 r2=true)(hw:∀i∈w1,i∈w2):lOut Z m r1 w1 o τ H D:=by
 cases o with
 |nxt δ'=>
  intro m' τ' H' e1 e2 S P
  subst e1
  cases r2 with
  |none=>cases hj
  |some m2=>exact h m2 τ' H' rfl e2 (S.weak hj) ⟨P.keep,fun a o=>P.grow a (o.weak hj),fun i hi=>P.wr i fun q=>hi (hw i q),fun i hi=>P.ad i fun q=>hi (hw _ q)⟩
 |ret d=>exact h.to hw fun _ _=>rfl
 |exc c δ'=>exact fun hc τ' H' e S P=>h hc τ' H' e S (P.mono hw)
 |bad=>exact h
theorem Sb{c:E}{a b:Ss}(h:lS Z (.iff c a b) D σ H):∃m,QY (lT Z.p Z.EX (tnM m) c) (lSs Z a) (lSs Z b) D σ H:=by
 obtain⟨τ,m,r,rfl,S,hr,h⟩:=h
 refine⟨m,?_⟩
 simp only[msS]at hr
 obtain⟨⟨j1,k1⟩,h1,hr⟩:=bS hr
 split at hr
 ·rename_i c2
  obtain⟨ra,h2,hr⟩:=bS hr
  obtain⟨rb,h3,hr⟩:=bS hr
  obtain⟨⟨c3,c4⟩,rfl⟩:=AI hr
  simp only[ex]at h
  refine⟨τ,rfl,S.ok,by rw[h1];rfl,(h.lg S c2).mono (Same.refl _) fun t _ h H1 s1=>?_⟩
  have S1:=S.grow s1
  have shift:∀{o:Out}{r0:Option Ms}{w0:List Nat},lOut Z m r0 w0 o τ H D->lOut Z m r0 w0 o τ H1 D:=by
   intro o r0 w0 h
   cases o with
   |nxt δ'=>exact fun m' τ' H' e1 e2 S P=>h m' τ' H' e1 e2 S ⟨fun a u e n=>P.keep a u (s1 a u e) n,fun a o=>(P.grow a o).imp id s1.free,P.wr,P.ad⟩
   |ret d=>exact h
   |exc c δ'=>exact fun hc τ' H' e S P=>h hc τ' H' e S ⟨fun a u e n=>P.keep a u (s1 a u e) n,fun a o=>(P.grow a o).imp id s1.free,P.wr,P.ad⟩
   |bad=>exact h
  cases t with
  |true=>
   rw[if_pos rfl]at h
   show(if true=true then lSs Z a D (vτ τ) H1 else lSs Z b D (vτ τ) H1)
   rw[if_pos rfl]
   exact⟨τ,m,ra,rfl,S1,h2,shift (h.weak c3 fun i hi=>aav _ hi)⟩
  |false=>
   rw[if_neg (by decide)]at h
   show(if false=true then lSs Z a D (vτ τ) H1 else lSs Z b D (vτ τ) H1)
   rw[if_neg (by decide)]
   exact⟨τ,m,rb,rfl,S1,h3,shift (h.weak c4 fun i hi=>aai _ hi)⟩
 ·cases hr
theorem lOut.shift{H1:Hp}{o:Out}(s1:Same H H1)(h:lOut Z m r w o τ H D):lOut Z m r w o τ H1 D:=by
 cases o with
 |nxt δ'=>exact fun m' τ' H' e1 e2 S P=>h m' τ' H' e1 e2 S ⟨fun a u e n=>P.keep a u (s1 a u e) n,fun a o=>(P.grow a o).imp id s1.free,P.wr,P.ad⟩
 |ret d=>exact h
 |exc c δ'=>exact fun hc τ' H' e S P=>h hc τ' H' e S ⟨fun a u e n=>P.keep a u (s1 a u e) n,fun a o=>(P.grow a o).imp id s1.free,P.wr,P.ad⟩
 |bad=>exact h
theorem lOut.after{m1:Ms}{τ1:Ft}{H1:Hp}{w1 w2:List Nat}{o:Out}(P:Stp m m1 w1 τ τ1 H H1)(hw1:∀i∈w1,i∈w)(hw2:∀i∈w2,i∈w)(h:lOut Z m r w o τ H D):lOut Z m1 r w2 o τ1 H1 D:=by
 cases o with
 |nxt δ'=>exact fun m' τ' H' e1 e2 S Q=>h m' τ' H' e1 e2 S ((P.trans Q).mono fun i hi=>by
   rcases aah.mp hi with z|z
   ·exact hw1 i z
   ·exact hw2 i z)
 |ret d=>exact h.to hw2 fun i hi=>P.ad i fun z=>hi (hw1 _ z)
 |exc c δ'=>exact fun hc τ' H' e S Q=>h hc τ' H' e S ((P.trans Q).mono fun i hi=>by
   rcases aah.mp hi with z|z
   ·exact hw1 i z
   ·exact hw2 i z)
 |bad=>exact h
theorem Sd{s:S}{rest:Ss}(h:lSs Z (.cons s rest) D σ H):lS Z s {D with nx:=lSs Z rest D} σ H:=by
 obtain⟨τ,m,r,rfl,S,hr,h⟩:=h
 simp only[msSs]at hr
 obtain⟨r1,h1,hr⟩:=bS hr
 refine⟨τ,m,r1,rfl,S,h1,?_⟩
 simp only[exs]at h
 cases q:ex s (dτ τ) with
 |nxt δ'=>
  rw[q]at h
  intro m' τ' H' e1 e2 S' P
  subst e1
  simp only at hr
  refine⟨τ',m',r,rfl,S',hr,?_⟩
  rw[e2]
  exact h.after P (fun i hi=>aav _ hi) (fun i hi=>aai _ hi)
 |ret d=>rw[q]at h;exact lRet.to (show lRet Z _ d τ D from h) (fun i hi=>aav _ hi) fun _ _=>rfl
 |exc c δ'=>
  rw[q]at h
  exact fun hc τ' H' e S' P=>h hc τ' H' e S' (P.mono fun i hi=>aav _ hi)
 |bad=>rw[q]at h;exact h
theorem Se(h:lSs Z .nil D σ H):D.nx σ H:=by
 obtain⟨τ,m,r,rfl,S,hr,h⟩:=h
 cases hr
 exact h m τ H rfl rfl S (Stp.refl _ (FV S.small) (Same.refl _))
theorem Qi{s:S}{rest:Ss}(hs:(∃x k,s=.dem x k)\/(∃x,s=.dead x))(h:lSs Z (.cons s rest) D σ H):lSs Z rest D σ H:=by
 obtain⟨τ,m,r,rfl,S,hr,h⟩:=h
 simp only[msSs]at hr
 obtain⟨r1,h1,hr⟩:=bS hr
 rcases hs with⟨x,k,rfl⟩|⟨x,rfl⟩
 ·simp only[msS]at h1
  obtain⟨c,rfl⟩:=AI h1
  refine⟨τ,_,r,rfl,S.weak c,hr,?_⟩
  simp only[exs,ex,Out.then_nxt]at h
  exact h.after (w1:=[]) (Stp.refl _ c (Same.refl _)) (fun i hi=>nomatch hi) (fun i hi=>aai _ hi)
 ·simp only[msS]at h1
  obtain⟨c,rfl⟩:=AI h1
  refine⟨τ,_,r,rfl,S.weak c,hr,?_⟩
  simp only[exs,ex,Out.then_nxt]at h
  exact h.after (w1:=[]) (Stp.refl _ c (Same.refl _)) (fun i hi=>nomatch hi) (fun i hi=>aai _ hi)
end
section
variable{Z:Zx}{m:Ms}{r:Option Ms}{w:List Nat}{τ:Ft}{H:Hp}{D:Ends}{X:Cx}{pos:Pos}{σ:L2.St}
theorem Te{c:E}{b:Ss}(h:lS Z (.wh c b) D σ H):∃m,LO (lT Z.p Z.EX (tnM m) c) (lSs Z b) D σ H:=by
 obtain⟨τ,m,r,rfl,S,hr,h⟩:=h
 refine⟨m,?_⟩
 simp only[msS]at hr
 obtain⟨⟨j1,k1⟩,h1,hr⟩:=bS hr
 split at hr
 ·rename_i c2
  obtain⟨rb,h2,hr⟩:=bS hr
  have hrb:r=some m/\okJ rb (some m)=true:=by
   cases rb with
   |none=>exact⟨(Option.some.inj hr).symm,rfl⟩
   |some mb=>
    obtain⟨z,e⟩:=AI hr
    exact⟨e.symm,z⟩
  obtain⟨rfl,hj⟩:=hrb
  simp only[ex]at h
  refine⟨fun n σ H'=>∃τ',σ=vτ τ'/\Sf Z.p Z.H0 Z.A0 m τ' H'/\Stp m m (wrSs b) τ τ' H H'/\lOut Z m (some m) (wrSs b) (AM (tv c) (exs b) n (dτ τ')) τ H D,⟨FU,τ,rfl,S,Stp.refl _ (FV S.small) (Same.refl _),h⟩,?_⟩
  rintro n σ' H' ⟨τ',rfl,S',P',h'⟩
  cases n with
  |zero=>exact nE h'
  |succ n=>
   simp only[AM]at h'
   have hb:=h'.after (w:=wrSs b) (w1:=wrSs b) (w2:=wrSs b) P' (fun _ z=>z) (fun _ z=>z)
   refine⟨τ',rfl,S'.ok,by rw[h1];rfl,(hb.lg S' c2).mono (Same.refl _) fun t et hb2 H1 s1=>?_⟩
   rw[et]at h'
   simp only[Res.out_ok]at h'
   cases t with
   |false=>
    show(if false=true then _ else D.nx (vτ τ') H1)
    rw[if_neg (by decide)]
    rw[if_neg (by decide)]at h'
    exact h' m τ' H1 rfl rfl (S'.grow s1) ⟨fun a u e n=>s1 _ _ (P'.keep a u e n),P'.grow,P'.wr,P'.ad⟩
   |true=>
    rw[if_pos rfl]at h' hb2
    show(if true=true then _ else _)
    rw[if_pos rfl]
    refine⟨fun σ2 H2=>∃τ2,σ2=vτ τ2/\Sf Z.p Z.H0 Z.A0 m τ2 H2/\Stp m m (wrSs b) τ τ2 H H2/\lOut Z m (some m) (wrSs b) (AM (tv c) (exs b) n (dτ τ2)) τ H D,fun σ2 H2 q=>⟨n,abz n,q⟩,?_⟩
    refine⟨τ',m,rb,rfl,S'.grow s1,h2,?_⟩
    have hb3:=hb2.shift s1
    have P1:Stp m m (wrSs b) τ τ' H H1:=⟨fun a u e n=>s1 _ _ (P'.keep a u e n),P'.grow,P'.wr,P'.ad⟩
    cases q:exs b (dτ τ') with
    |nxt δ2=>
     rw[q]at h'
     intro m' τ2 H2 e1 e2 S2 P2
     subst e1
     have hle:leM m' m=true:=hj
     refine⟨τ2,rfl,S2.weak hle,((P1.trans P2).mono (w2:=wrSs b) (fun i hi=>by simpa using hi)) |> fun P3=>⟨P3.keep,fun a o=>P3.grow a (Own.weak hle o),P3.wr,P3.ad⟩,?_⟩
     rw[e2];exact h'
    |ret d=>rw[q]at hb3;exact hb3
    |exc c' δ'=>rw[q]at hb3;exact hb3
    |bad=>rw[q]at hb3;exact hb3
 ·cases hr
theorem Stp.lesser{m1 m2:Ms}{τ':Ft}{H':Hp}(h:leM m1 m2=true)(P:Stp m m1 w τ τ' H H'):Stp m m2 w τ τ' H H':=⟨P.keep,fun a o=>P.grow a (Own.weak h o),P.wr,P.ad⟩
theorem IW{K:Frag}{g:Tg}{b:Ss}{J:L2.It}{us:List T}{ds:List Pu.D}{j:Nat}{H1:Hp}{rb:Option Ms}(S:Sf Z.p Z.H0 Z.A0 m τ H)(IT:ItOk Z.p (Sh (tnM m) τ) H H1 J us j ds)(hd:leM m (Ao m g.sl .dead)=true)
  (h2:msSs Z.mx Z.dep b (Ao (Ao m g.sl .dead) g.sl .sh)=some rb) (hj:okJ rb (some (Ao m g.sl .dead))=true)
  (per:∀(τ':Ft)(H':Hp),Sf Z.p Z.H0 Z.A0 (Ao m g.sl .dead) τ' H'->Stp m (Ao m g.sl .dead) (up g.sl++wrSs b) τ τ' H1 H'->T.Oks Z.p H' us)
  (h:lOut Z m (some (Ao m g.sl .dead)) (up g.sl++wrSs b) (AU g (exs b) ds (dτ τ)) τ H1 D) :
  ∃W:Nat->Nat->L2.St->Hp->Prop,(∃n,W 0 n (vτ τ) H1)/\∀i n σ H,W i n σ H->(J.stop i H/\D.nx σ H)\/(J.go i H/\∃N:L2.St->Hp->Prop,(∀σ' H',N σ' H'->∃n',n'<n/\W (i+1) n' σ' H')/\∀x H',J.yld i H x H'->lG K g x σ H' fun σ2 H2=>lSs Z b {D with nx:=N,ct:=N,bk:=D.nx} σ2 H2):=by
 have S1:=S.grow IT.same
 have fineU:∀a,(H a=none\/Sh (tnM m) τ a)->(Z.H0 a=none\/Z.A0 a)/\¬Own m τ a:=fun a q=>S.fine q
 refine⟨fun i n σ H'=>n=ds.length-i/\i<=ds.length/\∃τ',σ=vτ τ'/\Sf Z.p Z.H0 Z.A0 (Ao m g.sl .dead) τ' H'/\Stp m (Ao m g.sl .dead) (up g.sl++wrSs b) τ τ' H1 H'/\lOut Z m (some (Ao m g.sl .dead)) (up g.sl++wrSs b) (AU g (exs b) (ds.drop i) (dτ τ')) τ H1 D,
  ⟨ds.length,by simp,aau _,τ,rfl,S1.weak hd,Stp.refl _ hd (Same.refl _),by simpa using h⟩,?_⟩
 rintro i n σ' H' ⟨rfl,hi,τ',rfl,S',P',h'⟩
 have usok:=per τ' H' S' P'
 rcases acq i ds.length with hlt|hge
 ·have hdi:ds[i]?=some ds[i]:=aan hlt
  rw[abU hlt]at h'
  simp only[AU]at h'
  refine .inr ⟨IT.go i H' usok hlt,fun σ2 H2=>∃τ2,σ2=vτ τ2/\Sf Z.p Z.H0 Z.A0 (Ao m g.sl .dead) τ2 H2/\Stp m (Ao m g.sl .dead) (up g.sl++wrSs b) τ τ2 H1 H2/\lOut Z m (some (Ao m g.sl .dead)) (up g.sl++wrSs b) (AU g (exs b) (ds.drop (i+1)) (dτ τ2)) τ H1 D,
   fun σ2 H2 q=>⟨ds.length-(i+1),by omega,rfl,hlt,q⟩,fun x H'' y=>?_⟩
  obtain⟨s2,t,rfl,ht,tok,tus,tsrc⟩:=IT.yld i H' x H'' ds[i] usok hdi y
  rw[<- ht,E6]at h'
  cases q:Cj g t τ' with
  |none=>rw[q]at h';exact nE h'
  |some τ2=>
   rw[q]at h'
   simp only[aaY]at h'
   have src:∀a∈t.rest 0,(Z.H0 a=none\/Z.A0 a)/\¬Own (Ao m g.sl .dead) τ' a:=fun a z=>by
    refine⟨(fineU a (tsrc a z)).1,fun o=>?_⟩
    rcases P'.grow a o with w|w
    ·exact(fineU a (tsrc a z)).2 w
    ·obtain⟨v,hv,z2⟩:=T.mem_rests.mp (tus a z)
     exact(T.oks_iff.mp IT.ok v hv).dom z2 w
   obtain⟨S2,P2⟩:=MG S' s2 tok src q
   refine K8 tok q ⟨τ2,_,rb,rfl,S2,h2,?_⟩
   have P3:=P'.trans P2
   have h3:=h'.after (w:=up g.sl++wrSs b) (w2:=wrSs b) P3 (fun i hi=>by
    simp only[aah]at hi ⊢
    rcases hi with (hi|hi)|hi
    ·exact .inl hi
    ·exact .inr hi
    ·exact .inl hi) (fun i hi=>aai _ hi)
   cases e:exs b (dτ τ2) with
   |nxt δ3=>
    rw[e]at h'
    intro m' τ3 H3 e1 e2 S3 P4
    subst e1
    have hle:leM m' (Ao m g.sl .dead)=true:=hj
    refine⟨τ3,rfl,S3.weak hle,Stp.lesser hle ((P3.trans P4).mono fun i hi=>?_),?_⟩
    ·simp only[aah]at hi ⊢
     rcases hi with ((hi|hi)|hi)|hi
     ·exact .inl hi
     ·exact .inr hi
     ·exact .inl hi
     ·exact .inr hi
    ·rw[e2];exact h'
   |ret d=>rw[e]at h3;exact h3
   |exc c' δ'=>rw[e]at h3;exact h3
   |bad=>rw[e]at h3;exact h3
 ·refine .inl ⟨IT.stop i H' usok hge,?_⟩
  have hil:i=ds.length:=abV hi hge
  subst hil
  rw[List.drop_length]at h'
  exact h' _ τ' H' rfl rfl S' P'
theorem Sg{K:Frag}{g:Tg}{it:It}{b:Ss}(h:lS Z (.for_ g it b) D σ H):(∃m,Q3 (lI Z.p Z.EX (tnM m) it) (lG K g) (lSs Z b) D σ H) \/
  (∃x,it=.seqL (.nm x)/\∃v a xs,σ[x]?=some (some v)/\v=.ref a/\SqL X.K H a xs/\(X.K=Z.p.K->xs.length<=sizeLine->∃W:Nat->Nat->L2.St->Hp->Prop,(∃n,W 0 n σ H)/\∀i n σ H,W i n σ H->((Itl X.K a).stop i H/\D.nx σ H)\/((Itl X.K a).go i H/\∃N:L2.St->Hp->Prop,(∀σ' H',N σ' H'->∃n',n'<n/\W (i+1) n' σ' H') /\
   ∀x H',(Itl X.K a).yld i H x H'->lG K g x σ H' fun σ2 H2=>lSs Z b {D with nx:=N,ct:=N,bk:=D.nx} σ2 H2))):=by
 obtain⟨τ,m,r,rfl,S,hr,h⟩:=h
 simp only[msS]at hr
 obtain⟨j,h1,hr⟩:=bS hr
 split at hr
 ·rename_i c
  obtain⟨c1,c2,c3⟩:=c
  obtain⟨rb,h2,hr⟩:=bS hr
  have hrb:r=some (Ao m g.sl .dead)/\okJ rb (some (Ao m g.sl .dead))=true:=by
   cases rb with
   |none=>exact⟨(Option.some.inj hr).symm,rfl⟩
   |some mb=>
    obtain⟨z,e⟩:=AI hr
    exact⟨e.symm,z⟩
  obtain⟨rfl,hj⟩:=hrb
  simp only[ex]at h
  by_cases z:j=0
  ·subst z
   refine .inl ⟨m,τ,rfl,S.ok,0,h1,(h.lg S c1).mono (Same.refl _) fun ds _ h J us H1 IT=>?_⟩
   refine IW S IT c2 h2 hj (fun τ' H' S' P'=>?_) (h.shift IT.same)
   have S1:=S.grow IT.same
   refine T.oks_iff.mpr fun u hu=>(T.oks_iff.mp IT.ok u hu).keep fun a w e q=>P'.keep a w e fun o=>?_
   rcases q with q|q
   ·exact(S.fine (IT.src a (T.mem_rests.mpr ⟨u,hu,q⟩))).2 o
   ·obtain⟨_,vs,e2,mu⟩:=S1.ownOk o
    rw[e2]at e
    cases e;rw[mu]at q;cases q
  ·rcases c3 with c3|⟨x,c3,c4,c5⟩
   ·exact absurd c3 z
   ·have hit:it=.seqL (.nm x):=by
     unfold It.nmOf at c3
     split at c3
     ·cases c3;rfl
     ·cases c3
    subst hit
    refine .inr ⟨x,rfl,?_⟩
    have hlg:=h.lg S c1
    cases q:get (dτ τ) x with
    |exc c=>unfold get at q;split at q<;>cases q
    |bad=>simp only[evI,ev,q,Res.bind_bad]at hlg;exact nE hlg
    |ok d=>
     obtain⟨t,ht,rfl⟩:=Eg q
     simp only[evI,ev,q,Res.bind_ok]at hlg
     cases t with
     |lst a ts=>
      simp only[jkI]at h1
      obtain⟨⟨j1,k1⟩,h3,h1⟩:=bS h1
      obtain⟨hj1,e1⟩:=AI h1
      have e1:j1=j:=e1
      subst e1
      simp only[jk]at h3
      split at h3
      ·rename_i j' hj'
       obtain⟨hlt,e⟩:=D0 h3
       cases e
       have okt:=S.ok x _ j1 ht hj' (of_decide_eq_true hlt)
       refine⟨_,a,ts.map T.val,C8 ht,rfl,.inl okt.1,fun hK hz=>?_⟩
       have R:Rs Z.p (Sh (tnM m) τ) H H j1 0 (.lst a ts):=⟨Same.refl _,okt,fun b m'=>.inr ⟨x,_,j1,ht,hj',of_decide_eq_true hlt,m'⟩,by rw[T.adr_zero];simp,T.nd_zero _⟩
       refine IW S (E5 hK R hj1 (by simpa using hz)) c2 h2 hj (fun τ' H' S' P'=>?_) hlg
       obtain⟨d,hd,ed⟩:=A4 hj'
       have hdd:d≠.dead:=fun w=>by subst w;subst ed;exact absurd (of_decide_eq_true hlt) (by decide)
       have hx':(Ao m g.sl .dead)[x]?=some d:=by
        have hlen:x<(Ao m g.sl .dead).length:=by rw[Dt];exact(aaA.mp hd).1
        rcases DB (aan hlen) with⟨w,_⟩|⟨_,w⟩
        ·exact absurd (aav _ w) c5
        ·rw[aan hlen]
         rw[hd]at w
         exact w.symm
       refine⟨S'.at (i:=x) (by rw[P'.wr x (fun w=>by rcases aah.mp w with w|w;exact c5 w;exact c4 w)];exact ht) hx' hdd,trivial⟩
      ·cases h3
     |_=>exact nE hlg
 ·cases hr
end
abbrev OwnN(m:Ms)(τ:Ft)(I:List Nat)(a:Addr):Prop:=∃(i:Nat)(t:T)(k:Nat),i∉I/\τ[i]?=some (some t)/\m[i]?=some (.ow k)/\a∈t.adr k
section
variable{p:Px}{H0:Hp}{A0:Addr->Prop}{m:Ms}{τ:Ft}{H H1 H2:Hp}
theorem OwnN.own{I:List Nat}{a:Addr}(h:OwnN m τ I a):Own m τ a:=let ⟨i,t,k,_,e,q,z⟩:=h;⟨i,t,k,e,q,z⟩
end
section
variable{Z:Zx}{D:Ends}{X:Cx}{σ:L2.St}{H:Hp}
abbrev lOA(Z:Zx)(m m1:Ms)(w:List Nat)(y:Nat)(o:Out)(τ:Ft)(H:Hp)(D:Ends):Prop:=match o with
 |.nxt δ'=>∀(τ':Ft)(H':Hp)(a:Addr)(ts ts':List T),dτ τ'=δ'->τ[y]?=some (some (.lst a ts))->τ'[y]?=some (some (.lst a ts'))->Sf Z.p Z.H0 Z.A0 m1 τ' H'->Stp m m1 w τ τ' H H'->D.nx (vτ τ') H'
 |o=>lOut Z m (some m1) w o τ H D
theorem lOA.lg{α:Type}{m m1:Ms}{w:List Nat}{τ:Ft}{y:Nat}{q:Res α}{f:α->Out}(S:Sf Z.p Z.H0 Z.A0 m τ H)(hm:leM m Z.mx=true)(h:lOA Z m m1 w y (q.out (dτ τ) f) τ H D):Lg Z.p Z.EX (vτ τ) q H fun a=>lOA Z m m1 w y (f a) τ H D:=by
 cases q with
 |ok a=>exact h
 |exc c=>exact fun hc H' s=>h hc τ H' rfl ((S.weak hm).grow s) (Stp.refl w hm s)
 |bad=>exact h
theorem lOA.shift{H1:Hp}{m m1:Ms}{w:List Nat}{τ:Ft}{y:Nat}{o:Out}(s1:Same H H1)(h:lOA Z m m1 w y o τ H D):lOA Z m m1 w y o τ H1 D:=by
 cases o with
 |nxt δ'=>exact fun τ' H' a ts ts' e1 e2 e3 S P=>h τ' H' a ts ts' e1 e2 e3 S ⟨fun a u e n=>P.keep a u (s1 a u e) n,fun a o=>(P.grow a o).imp id s1.free,P.wr,P.ad⟩
 |ret d=>exact h
 |exc c δ'=>exact fun hc τ' H' e S P=>h hc τ' H' e S ⟨fun a u e n=>P.keep a u (s1 a u e) n,fun a o=>(P.grow a o).imp id s1.free,P.wr,P.ad⟩
 |bad=>exact h
abbrev vals(σ:L2.St):List Nat->Option (List V)
 |[]=>some []
 |i::r=>match σ[i]? with
  |some (some v)=>(vals σ r).map (v::·)
  |_=>none
end
abbrev EF:List (Bool×E)->List Nd1
 |[]=>[]
 | (_,e)::r=>e.need++EF r
mutual
noncomputable def S.need:S->List Nd1
 |.asg _ _ e=>e.need
 |.dem _ _=>[]
 |.dead _=>[]
 |.asgT _ e=>e.need
 |.mut _ q _ es=>EF q++es.need
 |.expr e=>e.need
 |.iff c a b=>c.need++(a.need++b.need)
 |.wh c b=>c.need++b.need
 |.for_ _ it b=>it.need++b.need
 |.ret e=>e.need
 |.raise c es=>.rs c::es.need
noncomputable def Ss.need:Ss->List Nd1
 |.nil=>[]
 |.cons s r=>s.need++r.need
end
abbrev IX:Um->Str
 |.append => "append"
 |.extend => "extend"
 |.clear => "clear"
abbrev N5:Um->Nat->Bool
 |.append,n=>decide (n=1)
 |.extend,n=>decide (n=1)
 |_,n=>decide (n=0)
abbrev El:Expr->Bool
 |.ListComp _ _ _ _=>false
 |.SetComp _ _ _ _=>false
 |.DictComp _ _ _ _ _=>false
 |_=>true
abbrev Fe:Expr->Bool
 |.Tuple _ _ _=>false
 |_=>true
abbrev IY(c:CkC):List Expr->Bool
 |[.Name x _,.Name y _]=>(c.sc.names.lookup x==some .cell)||(c.sc.names.lookup y==some .cell)
 |_=>false
abbrev IZ:Expr->Bool
 |.Call _ _ _ _=>false
 |_=>true
abbrev two:Expr->Option (Expr×Expr)
 |.Tuple es _ _=>match es with
  |[a,b]=>some (a,b)
  |_=>none
 |_=>none
abbrev nmOf:Expr->Option (Str×Pos)
 |.Name x p=>some (x,p)
 |_=>none
abbrev Rows(st:Stmt)(a b y f a2 b2:Str)(es:List Expr)(k:Nat)(q:Pos)(e:Expr):Prop:=∃p1 p2 p3 p4 p5 p6 p7 p8 p9 p10 p11,es=[.Name a p1,.Name b p2]/\st=.For (.Tuple [.Name a p1,.Name b p2] k q) (.Call (.Name f p4) [.Name y p3,e] [] p5) [.Assign [.Subscript (.Name a2 p6) (.Slice none none none p7) p8] (.Name b2 p9) p10] [] p11
mutual
noncomputable def ckS(c:CkC):S->Stmt->Bool
 |.asg x _ e,.Assign [.Name y _] e' _=>(c.N[x]?==some y)&&EC c y&&ckE c e e'
 |.asgT xs e,.Assign [.Tuple ts k q] e' _=>ckG c (.tp xs) (.Tuple ts k q)&&ckE c e e'&&(Fe e'||IY c ts)
 |.mut x q u es,.Expr (.Call (.Attribute o name ap) xs [] cp) _=>FW c x q.reverse o&&(name==IX u)&&ckEs c es xs&&(ap.endLine==cp.line)&&IZ o&&decide (es.len<20)&&N5 u es.len
 |.expr e,.Expr e' _=>ckE c e e'&&El e'
 |.iff t a b,.If t' a' b' _=>ckE c t t'&&t.tst&&ckSs c a a'&&ckSs c b b'
 |.wh t b,.While t' b' [] _=>ckE c t t'&&t.tst&&ckSs c b b'&&c.rz
 |.for_ g it b,.For tg it' b' [] _=>ckG c g tg&&ckI c tg it it'&&Dz it'&&ckSs c b b'&&c.rz&&c.cm
 |.ret e,.Return (some e') _=>ckE c e e'
 |.raise n es,.Raise (some (.Call (.Name x _) xs [] _)) none _=>(x==AC n)&&glB c.sc x&&BQ x&&ckEs c es xs&&decide (0<es.len)&&decide (es.len<=1000)&&c.rz&&c.cm
 |_,_=>false
noncomputable def ckSs(c:CkC):Ss->List Stmt->Bool
 |.nil,[]=>true
 |.cons (.dem _ _) r,st=>ckSs c r st
 |.cons (.dead _) r,st=>ckSs c r st
 |.cons s r,x::xs=>ckS c s x&&ckSs c r xs
 |_,_=>false
end
structure Cs(Z:Zx)(c:CkC)(lv:Nat)(X:Cx)(E:XK):Prop where
 ct:Ct Z.p c lv X Z.EX
 ex:c.rz=true->Z.EX=fun _=>E
 xw:c.rz=true->KP X E/\Mg X E
 po:c.rz=true->PassesOwn (model X.prog X.w) X.A X.env X.xe
 kind:c.sc.kind=.function
 stk:X.stack=X.env::X.outer
 frm:X.env.frame=some X.env.locals
section
variable{Z:Zx}{c:CkC}{lv:Nat}{X:Cx}{E:XK}{pos:Pos}
theorem Gy{e:Expr}{t:Option Expr}{n:Nat}{env:Env}(h:El e=true):swapsWith e t n env=pure false:=by
 cases e<;>first|rfl|cases h
theorem JC{q:List (Bool×Pu.E)}:∀e∈q,∀n∈e.2.need,n∈EF q:=by
 induction q with
 |nil=>intro e he;cases he
 |cons a q ih=>
  intro e he n hn
  obtain⟨b,e0⟩:=a
  rcases aaf.mp he with rfl|he
  ·exact aav _ hn
  ·exact aai _ (ih e he n hn)
theorem N6(C:Cs Z c lv X E){x k:Nat}{e:Pu.E}{y:Str}{py:Pos}{e':Expr}(hn:∀n∈e.need,NeedOk Z.p lv X n)(h1:(c.N[x]?==some y)=true)(h2:EC c y=true)(h3:ckE c e e'=true):PS X (.Assign [.Name y py] e' pos) (lS Z (.asg x k e)):=by
 have hN:X.N[x]?=some y:=by rw[C.ct.N];exact beq_iff_eq.mp h1
 obtain⟨l1,l2⟩:=C.ct.loc h2
 intro pins s σ H D I h
 obtain⟨τ,m,rfl,S,h⟩:=R6 h
 by_cases hc:El e'=true
 ·exact LM C.ct.nd hN l1 (snd e C.ct (tn:=tnM m) e' hn h3).1 (Gy hc) l2 pins s _ H D I h
 ·cases e' with
  |ListComp elt' gens scope q=>
   have hsw:∃b:Bool,swapsWith (.ListComp elt' gens scope q) (some (.Name y py)) pos.line X.env=pure b:=⟨_,rfl⟩
   obtain⟨b,hsw⟩:=hsw
   cases b with
   |false=>exact LM C.ct.nd hN l1 (snd e C.ct (tn:=tnM m) _ hn h3).1 hsw l2 pins s _ H D I h
   |true=>
    cases e with
    |comp0 nl fr g it elt=>
     obtain⟨tg,iter,ifs,rfl,h3⟩:=Gv h3
     obtain⟨h3,g7⟩:=Aa h3
     obtain⟨h3,g6⟩:=Aa h3
     obtain⟨h3,g5⟩:=Aa h3
     obtain⟨h3,g4⟩:=Aa h3
     obtain⟨h3,g3⟩:=Aa h3
     obtain⟨h3,g2⟩:=Aa h3
     obtain⟨h3,g1⟩:=Aa h3
     obtain⟨gc,g0⟩:=Aa h3
     cases ifs with
     |cons _ _=>cases g0
     |nil=>
     have g2:=of_decide_eq_true g2
     subst g2
     obtain⟨Sc,nd⟩:=OL C.ct g1
     obtain⟨n1,n2⟩:=AH hn
     refine K9 (C.ct.calm gc) Sc (sndI it C.ct (tn:=tnM m) iter n1 g4) (fun i hi=>of_decide_eq_true (aay.mp g3 i hi)) (fun z=>⟨?_,?_⟩) (EE g5) C.ct.nd hN l1 l2 hsw pins s _ H D I h
     ·exact IP (C.ct.blk nd z) g6
     ·exact(snd elt (C.ct.blk nd z) elt' (fun n m=>(n2 n m).blk) g7).1
    |listI it=>cases it<;>exact nF h3
    |_=>exact nF h3
  |SetComp _ _ _ _=>
   cases e with
   |listI it=>cases it<;>exact nF h3
   |_=>exact nF h3
  |DictComp _ _ _ _ _=>
   cases e with
   |listI it=>cases it<;>exact nF h3
   |_=>exact nF h3
  |_=>exact absurd rfl hc
theorem ML{ts:List Expr}{k:Nat}{q:Pos}{e':Expr}{env:Env}(h:Fe e'=true):swappedStores [.Tuple ts k q] e' env=pure none:=by
 cases e'<;>first|rfl|cases h
theorem N7(x:Str)(p:Pos):(Expr.Name x p).pos=p:=rfl
theorem MM{x y:Str}{px py q:Pos}{k:Nat}{e':Expr}{env:Env}(h:env.kindOf x=some .cell\/env.kindOf y=some .cell):swappedStores [.Tuple [.Name x px,.Name y py] k q] e' env=pure none:=by
 cases e' with
 |Tuple vs k2 q2=>
  have key:([Expr.Name x px,.Name y py].filterMap fun|.Name id pos=>(if env.kindOf id==some .local&&pos.line==px.line then some id else none)|_=>none).length≠2:=by
   rcases h with h|h<;>simp only[abA,List.filterMap_nil,h]<;>simp<;>split<;>simp
  have key2:(([Expr.Name x px,.Name y py].filterMap fun|.Name id pos=>(if env.kindOf id==some .local&&pos.line==px.line then some id else none)|_=>none).length != 2)=true:=by simpa using key
  unfold swappedStores
  simp only[aaH,ab8,List.head?_cons,aaY,Option.getD_some,N7,aaL,Nat.reduceAdd,key2,Bool.true_or,if_true,pure_bind]
  split
  ·rfl
  ·split
   ·rfl
   ·exact if_pos (ace.mpr (.inl key2))
 |_=>rfl
theorem N8{c:CkC}{ts:List Expr}{k:Nat}{q:Pos}{e':Expr}{env:Env}(hs:env.scope=c.sc)(h:(Fe e'||IY c ts)=true):swappedStores [.Tuple ts k q] e' env=pure none:=by
 rcases ace.mp h with h|h
 ·exact ML h
 ·unfold IY at h
  split at h
  ·refine MM ?_
   rw[ace,beq_iff_eq,beq_iff_eq,<- hs]at h
   exact h
  ·cases h
theorem N9{ts:List Expr}{k:Nat}{q:Pos}{e':Expr}{env:Env}{n:Nat}:swapsWithSole [.Tuple ts k q] e' n env=pure false:=by
 cases e'<;>rfl
theorem MN(C:Cs Z c lv X E){xs:List Nat}{e:Pu.E}{ts:List Expr}{k:Nat}{q:Pos}{e':Expr}(hn:∀n∈e.need,NeedOk Z.p lv X n)(h1:ckG c (.tp xs) (.Tuple ts k q)=true)(h2:ckE c e e'=true)(h3:(Fe e'||IY c ts)=true):PS X (.Assign [.Tuple ts k q] e' pos) (lS Z (.asgT xs e)):=by
 intro pins s σ H D I h
 obtain⟨m,h⟩:=Qg (K:=X.K) h
 exact Q2 (snd e C.ct (tn:=tnM m) e' hn h2).1 (IP C.ct h1) N9 (N8 C.ct.sc h3) rfl pins s σ H D I h
theorem MO(C:Cs Z c lv X E){e:Pu.E}{e':Expr}(hn:∀n∈e.need,NeedOk Z.p lv X n)(h1:ckE c e e'=true)(h2:El e'=true):PS X (.Expr e' pos) (lS Z (.expr e)):=by
 intro pins s σ H D I h
 obtain⟨m,h⟩:=Qh h
 exact Ee (snd e C.ct (tn:=tnM m) e' hn h1).1 (Gy h2) pins s σ H D I h
theorem Oa{p:Px}{EX:EXT}{tn:List Nat}{K:Frag}{u:V->List V->Hp->VK->Prop}{x:Nat}{q:List (Bool×Pu.E)}{σ:L2.St}{H:Hp}{Q:Hp->Prop}(h:lPl p EX tn x q σ H fun v H1=>tyV K "list" v H1/\lEs p EX tn .nil σ H1 fun vs H2=>u v vs H2 fun _ H3=>Q H3) :
  lPl p EX tn x q σ H fun v H1=>tyV K "list" v H1/\u v [] H1 fun _ H3=>Q H3:=by
 obtain⟨τ,t,is,s,e1,e2,e3,e4,e5,e6,e7,h⟩:=h
 refine⟨τ,t,is,s,e1,e2,e3,e4,e5,e6,e7,fun H' s'=>?_⟩
 obtain⟨h1,τ2,rfl,hF,j,k,hj,h2⟩:=h H' s'
 exact⟨h1,h2 [] H' rfl ⟨Same.refl _,trivial,by simp[T.rests],by simp[T.adrs],by simp[T.Nds,T.adrs]⟩⟩
theorem MP{x:Nat}{rp:List (Bool×Pu.E)}{o:Expr}{name:Str}{env:Env}(h:FW c x rp o=true):attributeBase o name env (eval o env)=eval o env:=by
 cases rp with
 |nil=>cases o<;>first|rfl|exact nF h
 |cons a r=>obtain⟨b,e⟩:=a;cases o<;>first|rfl|exact nF h
theorem Ob(C:Cs Z c lv X E){x:Nat}{q:List (Bool×Pu.E)}{u:Um}{es:Es}{o:Expr}{xs:List Expr}{ap cp:Pos}(n1:∀n∈EF q,NeedOk Z.p lv X n)(n2:∀n∈es.need,NeedOk Z.p lv X n)
  (h1:FW c x q.reverse o=true) (h2:ckEs c es xs=true) (h3:(ap.endLine==cp.line)=true) (h5:N5 u es.len=true):PS X (.Expr (.Call (.Attribute o (IX u) ap) xs [] cp) pos) (lS Z (.mut x q u es)):=by
 intro pins s σ H D I h
 obtain⟨τ,m,r,rfl,S,hr,h⟩:=h
 have A:PE X o (lPl Z.p Z.EX (tnM m) x q):=by
  have A:=ON C.ct (tn:=tnM m) (x:=x) (rp:=q.reverse) (o:=o) (fun e he n hn=>n1 n (JC e (List.mem_reverse.mp he) n hn)) h1
  rwa [List.reverse_reverse]at A
 have hb:∀name:Str,attributeBase o name X.env (eval o X.env)=eval o X.env:=fun name=>MP h1
 obtain⟨st,sl⟩:=B9 h2
 simp only[msS]at hr
 split at hr
 ·rename_i k hmx
  split at hr
  ·rename_i hc
   obtain⟨c1,c2,c3⟩:=hc
   cases hmv:es.mvOf m with
   |some yk=>
    obtain⟨y,ky⟩:=yk
    rw[hmv]at hr
    obtain⟨⟨d1,d2,d3,d4⟩,rfl⟩:=AI hr
    subst d1
    have hq:q=[]:=by cases q with|nil=>rfl|cons _ _=>cases d4
    subst hq
    have hes:es=.cons (.nm y) .nil/\m[y]?=some (.ow ky):=by
     unfold Es.mvOf at hmv
     split at hmv
     ·split at hmv
      ·cases hmv;exact⟨rfl,‹_›⟩
      ·cases hmv
     ·cases hmv
    obtain⟨rfl,hmy⟩:=hes
    cases xs with
    |nil=>cases sl
    |cons a xr=>
     cases xr with
     |cons _ _=>cases sl
     |nil=>
      obtain⟨g,_⟩:=Aa (show(ckE c (.nm y) a&&Ah a&&ckEs c .nil [])=true from h2)
      obtain⟨g1,g2⟩:=Aa g
      cases a with
      |Name z pz=>
       obtain⟨g,g5⟩:=Aa (show((c.N[y]?==some z)&&EB c.sc z&&BQ z)=true from g1)
       obtain⟨g3,g4⟩:=Aa g
       obtain⟨e1,e2⟩:=B8 g5
       have hv:PE X (.Name z pz) (Ni y):=ER (by rw[C.ct.N];exact beq_iff_eq.mp g3) (C.ct.vis g4) e1 e2
       refine Ee (KN PySem.F.plainAttrs_list PySem.F.slot_list_append PySem.F.type_list_append EV A (Bc hv CG rfl) (hb _) rfl h3 rfl rfl) rfl pins s _ H D I ?_
       exact R8 (X:=X) S hmx hmy d2 (by simpa[lnE] using d3) rfl h
      |_=>exact nF g1
   |none=>
    rw[hmv]at hr
    obtain⟨⟨j1,k1⟩,g1,hr⟩:=bS hr
    obtain⟨hcc,rfl⟩:=AI hr
    have B:=(sndA es C.ct (tn:=tnM m) xs n2 h2).1
    have M:=Qe (X:=X) C.ct.K S hmx c1 c2 g1 hcc rfl h
    have one:∀{y:Expr},Ah y=true->((backTo cp (starEach [y] X.env)).all (fun x=>!x.1)&&(backToKw cp (keywordEach [] X.env)).all (fun x=>x.1.isSome)&&decide ([y].length+([]:List Keyword).length+(if([]:List Keyword).isEmpty then 0 else 1)<30))=true:=by
     intro y hy
     rw[Am hy];rfl
    cases u with
    |append=>
     have h5:es.len=1:=of_decide_eq_true h5
     match xs,sl,st with
     |[y],_,st=>
      have hy:Ah y=true:=by simpa using st
      exact Ee (KN PySem.F.plainAttrs_list PySem.F.slot_list_append PySem.F.type_list_append EV A B (hb _) (one hy) h3 (Am hy) rfl) rfl pins s _ H D I M
     |[],sl,_=>rw[h5]at sl;cases sl
     |_::_::_,sl,_=>rw[h5]at sl;cases sl
    |extend=>
     have h5:es.len=1:=of_decide_eq_true h5
     match xs,sl,st with
     |[y],_,st=>
      have hy:Ah y=true:=by simpa using st
      exact Ee (KN PySem.F.plainAttrs_list PySem.F.slot_list_extend PySem.F.type_list_extend Lh A B (hb _) (one hy) h3 (Am hy) rfl) rfl pins s _ H D I M
     |[],sl,_=>rw[h5]at sl;cases sl
     |_::_::_,sl,_=>rw[h5]at sl;cases sl
    |clear=>
     have h5:es.len=0:=of_decide_eq_true h5
     rw[h5]at sl
     cases xs with
     |cons _ _=>cases sl
     |nil=>
      cases es with
      |cons _ _=>cases h5
      |nil=>
       refine Ee (Rl PySem.F.plainAttrs_list PySem.F.slot_list_clear PySem.F.type_list_clear Nu A (hb _) h3) rfl pins s _ H D I ?_
       exact Oa M
  ·cases hr
 ·cases hr
end
section
variable{Z:Zx}{c:CkC}{lv:Nat}{X:Cx}{E:XK}{pos:Pos}
theorem Oc(C:Cs Z c lv X E){e:Pu.E}{e':Expr}(hn:∀n∈e.need,NeedOk Z.p lv X n)(h1:ckE c e e'=true):PS X (.Return (some e') pos) (lS Z (.ret e)):=by
 intro pins s σ H D I h
 rcases Sa h with⟨i,t,rfl,hs,hq⟩|⟨m,h⟩
 ·cases e' with
  |Name y q=>
   obtain⟨g,h3⟩:=Aa (show((c.N[i]?==some y)&&EB c.sc y&&BQ y)=true from h1)
   obtain⟨h1,h2⟩:=Aa g
   obtain⟨d1,d2⟩:=B8 h3
   exact LL (ER (by rw[C.ct.N];exact beq_iff_eq.mp h1) (C.ct.vis h2) d1 d2) pins s σ H D I ⟨_,hs,hq⟩
  |_=>exact nF h1
 ·exact LL (snd e C.ct (tn:=tnM m) e' hn h1).1 pins s σ H D I h
theorem Li(C:Cs Z c lv X E){n:Nat}{es:Es}{xs:List Expr}{np cp:Pos}(hn:∀n∈es.need,NeedOk Z.p lv X n)(hr:NeedOk Z.p lv X (.rs n))(h1:glB c.sc (AC n)=true)(h2:BQ (AC n)=true)(h3:ckEs c es xs=true)(h4:0<es.len)(h5:es.len<=1000)(hrz:c.rz=true)(hcm:c.cm=true) :
  PS X (.Raise (some (.Call (.Name (AC n) np) xs [] cp)) none pos) (lS Z (.raise n es)):=by
 intro pins s σ H D I h
 obtain⟨r1,r2,r3⟩:=hr
 obtain⟨m,h⟩:=N4 (C.ct.kx.lt n r1) h
 obtain⟨s1,s2⟩:=B9 h3
 have A:=(sndA es C.ct (tn:=tnM m) xs hn h3).1
 cases xs with
 |nil=>rw[<- s2]at h4;cases h4
 |cons x xr=>
  rw[aaU,aag]at s1
  refine Nz (C.xw hrz).1 (C.ct.calm hcm) (C.ct.gl h1) r2 r3 A (B8 h2).1 (Am s1.1) (AS s1.2) pins s σ H D I ?_
  obtain⟨τ,e,hF,j,k,hj,h⟩:=h
  refine⟨τ,e,hF,j,k,hj,h.mono (Same.refl _) fun ds _ hd ts H1 ht R=>?_⟩
  obtain⟨q1,q2⟩:=hd ts H1 ht R
  refine⟨by rw[q1];exact aar h5 (by decide),?_⟩
  have:=q2 r1
  rw[C.ex hrz]at this
  exact this
end
mutual
theorem T0{Z:Zx}{c:CkC}{lv:Nat}{X:Cx}{E:XK}(C:Cs Z c lv X E):∀(s:S)(st:Stmt),(∀n∈s.need,NeedOk Z.p lv X n)->ckS c s st=true->PS X st (lS Z s)
 |.asg x k e,st,hn,h=>by
  cases st with
  |Assign ts e' q=>
   match ts,h with
   |[t],h=>
    cases t with
    |Name y py=>
     obtain⟨h,h3⟩:=Aa (show((c.N[x]?==some y)&&EC c y&&ckE c e e')=true from h)
     obtain⟨h1,h2⟩:=Aa h
     exact N6 C hn h1 h2 h3
    |_=>exact nF h
   |[],h=>exact nF h
   |t::_::_,h=>cases t<;>exact nF h
  |_=>exact nF h
 |.dem _ _,st,hn,h=>by cases st<;>exact nF h
 |.dead _,st,hn,h=>by cases st<;>exact nF h
 |.asgT xs e,st,hn,h=>by
  cases st with
  |Assign ts e' q=>
   match ts,h with
   |[t],h=>
    cases t with
    |Tuple es k py=>
     obtain⟨h,h3⟩:=Aa (show(ckG c (.tp xs) (.Tuple es k py)&&ckE c e e'&&(Fe e'||IY c es))=true from h)
     obtain⟨h1,h2⟩:=Aa h
     exact MN C hn h1 h2 h3
    |_=>exact nF h
   |[],h=>exact nF h
   |t::_::_,h=>cases t<;>exact nF h
  |_=>exact nF h
 |.mut x q u es,st,hn,h=>by
  cases st with
  |Expr v q2=>
   cases v with
   |Call f xs ks cp=>
    cases f with
    |Attribute o name ap=>
     cases ks with
     |nil=>
      obtain⟨h,h8⟩:=Aa (show(FW c x q.reverse o&&(name==IX u)&&ckEs c es xs&&(ap.endLine==cp.line)&&IZ o&&decide (es.len<20)&&N5 u es.len)=true from h)
      obtain⟨h,h7⟩:=Aa h
      obtain⟨h,h5⟩:=Aa h
      obtain⟨h,h4⟩:=Aa h
      obtain⟨h,h3⟩:=Aa h
      obtain⟨h1,h2⟩:=Aa h
      cases beq_iff_eq.mp h2
      obtain⟨n1,n2⟩:=AH hn
      exact Ob C n1 n2 h1 h3 h4 h8
     |cons _ _=>exact nF h
    |_=>exact nF h
   |_=>exact nF h
  |_=>exact nF h
 |.expr e,st,hn,h=>by
  cases st with
  |Expr v q2=>
   obtain⟨h1,h2⟩:=Aa (show(ckE c e v&&El v)=true from h)
   exact MO C hn h1 h2
  |_=>exact nF h
 |.iff t a b,st,hn,h=>by
  cases st with
  |If t' a' b' q=>
   obtain⟨h,h4⟩:=Aa (show(ckE c t t'&&t.tst&&ckSs c a a'&&ckSs c b b')=true from h)
   obtain⟨h,h3⟩:=Aa h
   obtain⟨h1,h2⟩:=Aa h
   obtain⟨n1,n2⟩:=AH hn
   obtain⟨n2,n3⟩:=AH n2
   intro pins s σ H D I h
   obtain⟨m,h⟩:=Sb h
   exact SM ((snd t C.ct (tn:=tnM m) t' n1 h1).2 h2) (sndSs C a a' n2 h3) (sndSs C b b' n3 h4) pins s σ H D I h
  |_=>exact nF h
 |.wh t b,st,hn,h=>by
  cases st with
  |While t' b' el q=>
   cases el with
   |nil=>
    obtain⟨h,hrz⟩:=Aa (show(ckE c t t'&&t.tst&&ckSs c b b'&&c.rz)=true from h)
    obtain⟨h,h3⟩:=Aa h
    obtain⟨h1,h2⟩:=Aa h
    obtain⟨n1,n2⟩:=AH hn
    intro pins s σ H D I h
    obtain⟨m,h⟩:=Te h
    exact Nl (C.po hrz) ((snd t C.ct (tn:=tnM m) t' n1 h1).2 h2) (sndSs C b b' n2 h3) pins s σ H D I h
   |cons _ _=>exact nF h
  |_=>exact nF h
 |.for_ g it b,st,hn,h=>by
  cases st with
  |For tg it' b' el q=>
   cases el with
   |nil=>
    obtain⟨h,hcm⟩:=Aa (show(ckG c g tg&&ckI c tg it it'&&Dz it'&&ckSs c b b'&&c.rz&&c.cm)=true from h)
    obtain⟨h,hrz⟩:=Aa h
    obtain⟨h,h4⟩:=Aa h
    obtain⟨h,h3⟩:=Aa h
    obtain⟨h1,h2⟩:=Aa h
    obtain⟨n1,n2⟩:=AH hn
    have B:=sndSs C b b' n2 h4
    intro pins s σ H D I h
    rcases Sg (K:=X.K) (X:=X) h with⟨m,h⟩|⟨x,rfl,v,a,xs,e1,rfl,sq,hW⟩
    ·exact LU (C.po hrz) (C.ct.calm hcm) (sndI it C.ct (tn:=tnM m) it' n1 h2) (IP C.ct h1) B (EE h3) pins s σ H D I h
    ·cases it' with
     |Name y q'=>
      obtain⟨g,g3⟩:=Aa (show((c.N[x]?==some y)&&EB c.sc y&&BQ y)=true from h2)
      obtain⟨g1,g2⟩:=Aa g
      obtain⟨d1,d2⟩:=B8 g3
      refine LU (C.po hrz) (C.ct.calm hcm) (IM (ER (by rw[C.ct.N];exact beq_iff_eq.mp g1) (C.ct.vis g2) d1 d2)) (IP C.ct h1) B (EE h3) pins s σ H D I ?_
      exact⟨_,e1,a,rfl,.inl ⟨xs,sq,hW C.ct.K⟩⟩
     |_=>exact nF h2
   |cons _ _=>exact nF h
  |_=>exact nF h
 |.ret e,st,hn,h=>by
  cases st with
  |Return v q=>
   cases v with
   |some e'=>exact Oc C hn h
   |none=>exact nF h
  |_=>exact nF h
 |.raise n es,st,hn,h=>by
  cases st with
  |Raise v w q=>
   cases v with
   |none=>exact nF h
   |some v=>
    cases v with
    |Call f xs ks cp=>
     cases f with
     |Name x np=>
      cases ks with
      |nil=>
       cases w with
       |none=>
        obtain⟨h,hcm⟩:=Aa (show((x==AC n)&&glB c.sc x&&BQ x&&ckEs c es xs&&decide (0<es.len)&&decide (es.len<=1000)&&c.rz&&c.cm)=true from h)
        obtain⟨h,hrz⟩:=Aa h
        obtain⟨h,h6⟩:=Aa h
        obtain⟨h,h5⟩:=Aa h
        obtain⟨h,h4⟩:=Aa h
        obtain⟨h,h3⟩:=Aa h
        obtain⟨h1,h2⟩:=Aa h
        cases beq_iff_eq.mp h1
        exact Li C (fun n m=>hn n (aaa _ m)) (hn _ (aab ..)) h2 h3 h4 (of_decide_eq_true h5) (of_decide_eq_true h6) hrz hcm
       |some _=>exact nF h
      |cons _ _=>exact nF h
     |_=>exact nF h
    |_=>exact nF h
  |_=>exact nF h
theorem sndSs{Z:Zx}{c:CkC}{lv:Nat}{X:Cx}{E:XK}(C:Cs Z c lv X E):∀(s:Ss)(st:List Stmt),(∀n∈s.need,NeedOk Z.p lv X n)->ckSs c s st=true->PSs X st (lSs Z s)
 |.nil,st,hn,h=>by
  cases st with
  |nil=>exact fun pins s σ H D I h=>OV pins s σ H D I (Se h)
  |cons _ _=>exact nF h
 |.cons s r,st,hn,h=>by
  obtain⟨n1,n2⟩:=AH hn
  have skip:(∃x k,s=.dem x k)\/(∃x,s=.dead x)->ckSs c r st=true->PSs X st (lSs Z (.cons s r)):=fun hs h=>PSs.mono (sndSs C r st n2 h) fun D σ H q=>Qi hs q
  by_cases hd:(∃x k,s=.dem x k)\/(∃x,s=.dead x)
  ·refine skip hd ?_
   rcases hd with⟨x,k,rfl⟩|⟨x,rfl⟩
   ·exact h
   ·exact h
  ·cases st with
   |nil=>cases s<;>first|exact nF h|exact absurd (.inl ⟨_,_,rfl⟩) hd|exact absurd (.inr ⟨_,rfl⟩) hd
   |cons x xs=>
    have h:(ckS c s x&&ckSs c r xs)=true:=by
     cases s<;>first|exact h|exact absurd (.inl ⟨_,_,rfl⟩) hd|exact absurd (.inr ⟨_,rfl⟩) hd
    obtain⟨h1,h2⟩:=Aa h
    exact PSs.mono (Nj (T0 C s x n1 h1) (sndSs C r xs n2 h2)) fun D σ H q=>Sd q
end
structure Lw where
 p:Px
 P:Program
 w:World
 mg:Str->Option Value
 base:Heap
structure Lw.Ok(L:Lw):Prop where
 blt:∀y∈BZ,L.mg y=none
 bt:∀y∈(["bool", "dict", "ValueError", "set"]:List Str),L.mg y=none
 kx:Kx L.p
abbrev Od(L:Lw)(F:Fn):Prop:=∃ps:List Str,ps.length=F.ar/\Has L.P L.w L.p.K L.mg L.base F.name F.lv ps (spF L.p F)
abbrev Tf(L:Lw)(F:Fn):Prop:=∃ps:List Str,ps.length=F.ar/\Ru L.P L.w L.p.K L.mg L.base F.name F.lv ps (RJ L.p F)
abbrev Th(L:Lw)(F:Fn):Prop:=∃ps:List Str,ps.length=F.ar/\Has L.P L.w L.p.K L.mg L.base F.name F.lv ps (spM L.p F)
abbrev Ti(L:Lw)(F:Fn):Prop:=∃ps:List Str,ps.length=F.ar/\Has L.P L.w L.p.K L.mg L.base F.name F.lv ps (spN L.p F)
abbrev NeedG(L:Lw)(lv:Nat):Nd1->Prop
 |.fn F=>F.lv<=lv/\Od L F
 |.fm F=>F.lv<=lv/\Th L F
 |.fc F=>F.lv<=lv/\Ti L F
 |.cl n=>L.p.has n=true/\L.mg (AC n)=some (.ref (L.p.cl n))
 |.rs n=>L.p.has n=true/\nsIn L.p.K mainGlobals (AC n)=some (some (.ref (L.p.cl n)))/\excIn L.p.K (L.p.cl n) DO "ValueError.__new__" = true
 |.f0 F=>F.lv<=lv/\Tf L F
 |.mk n=>L.p.has n=true/\nsIn L.p.K mainGlobals (AC n)=some (some (.ref (L.p.cl n)))/\excIn L.p.K (L.p.cl n) DO "ValueError.__new__" = true/\keepIn L.p.K (.ref (L.p.cl n))=true
 |.ma=>2<=lv/\L.p.has 4=true/\L.mg (AC 4)=some (.ref (L.p.cl 4))/\keepIn L.p.K (.ref (L.p.cl 4))=true/\XOwn L.p.K (L.p.cl 4) "at" /\ ∃fI fd ps,findIn L.p.K (.ref (L.p.cl 4)) "__init__" = some (some (.ref fI))/\typeIn L.p.K (.ref fI)=some (.type "function")/\FnOk L.P L.w L.p.K L.mg L.base (CXe L.P L.w) 1 fI fd ps (spI (L.p.cl 4) "at")/\Binds L.p.K fd ps []
 |.ax=>L.p.has 4=true/\XOwn L.p.K (L.p.cl 4) "at"
 |.gl x d=>∃u,L.mg x=some u/\RelV (dT d).val u
abbrev AllN(f:Nd1->Prop):List Nd1->Prop
 |[]=>True
 |n::r=>f n/\AllN f r
theorem AllN.mem{f:Nd1->Prop}:∀{l:List Nd1},AllN f l->∀n∈l,f n
 |[],_,n,h=>by cases h
 |m::r,h,n,hn=>by
  rcases aaf.mp hn with rfl|hn
  ·exact h.1
  ·exact AllN.mem h.2 n hn
abbrev Au(name:Str)(ar lv dep n:Nat)(body:Ss):Fn:=⟨name,ar,lv,dep,fun ds=>if ds.length=ar then run n body ds else .bad⟩
theorem Ap{x:Str}{ar lv dep n:Nat}{b:Ss}{ds:List D}(h:ds.length=ar):(Au x ar lv dep n b).den ds=run n b ds:=if_pos h
abbrev m0(ar n:Nat):Ms:=aak ar .sh++aak (n-ar) .dead
abbrev τ0(n:Nat)(ts:List T):Ft:=ts.map some++aak (n-ts.length) none
theorem vτ0(N:List Str)(ts:List T):vτ (τ0 N.length ts)=L2.AE N (ts.map T.val):=by
 unfold vτ τ0 L2.AE
 rw[aap,aaJ,aaJ,abj,aac]
 rfl
theorem dτ0(n:Nat)(ts:List T):dτ (τ0 n ts)=Pu.AE n (T.dats ts):=by
 unfold dτ τ0 Pu.AE
 rw[aap,aaJ,T.dats_map,aaJ,abj,aac]
 rfl
theorem I0{ar n i:Nat}{d:Md}(h:(m0 ar n)[i]?=some d):(i<ar/\d=.sh)\/(ar<=i/\d=.dead):=by
 unfold m0 at h
 by_cases hi:i<ar
 ·rw[aa2 (by simpa using hi),aa9,if_pos hi]at h
  exact .inl ⟨hi,(Option.some.inj h).symm⟩
 ·rw[aaP (by simpa using hi),aa9]at h
  split at h
  ·exact .inr ⟨abN hi,(Option.some.inj h).symm⟩
  ·cases h
theorem Kh{n i:Nat}{ts:List T}{t:T}(h:(τ0 n ts)[i]?=some (some t)):t∈ts:=by
 unfold τ0 at h
 have:=aae h
 rw[aah]at this
 rcases this with z|z
 ·obtain⟨u,hu,e⟩:=aaD.mp z
  cases e;exact hu
 ·have:=(abX.mp z).2;cases this
theorem Ki{p:Px}{H:Hp}:∀{ts:List T},T.Oks p H ts->∀t∈ts,t.Ok p H
 |[],_,t,h=>by cases h
 |u::r,h,t,ht=>by
  rcases aaf.mp ht with rfl|ht
  ·exact h.1
  ·exact Ki h.2 t ht
theorem sf0{p:Px}{H:Hp}{ts:List T}{n ar:Nat}(ok:T.Oks p H ts)(hl:ts.length=ar)(hn:ar<=n):Sf p H (fun a=>a∈T.rests ts 0) (m0 ar n) (τ0 n ts) H:=by
 have noOw:∀{i k:Nat},(m0 ar n)[i]?≠some (.ow k):=fun {i k} h=>by
  rcases I0 h with⟨_,z⟩|⟨_,z⟩<;>cases z
 refine⟨?_,fun d hd=>?_,Same.refl _,fun i t j h1 h2 h3=>Ki ok t (Kh h1),fun i t k a h1 h2=>absurd h2 noOw,?_,fun i t k h1 h2=>absurd h2 noOw,fun i j t u k d h0 h1 h2=>absurd h2 noOw,fun i j t u k k2 h1 h2=>absurd h2 noOw⟩
 ·unfold τ0 m0
  simp[hl]
 ·obtain⟨i,hi⟩:=acM hd
  rcases I0 hi with⟨_,rfl⟩|⟨_,rfl⟩<;>rfl
 ·rintro a ⟨i,t,j,h1,h2,h3,h4⟩
  obtain⟨d,h5,rfl⟩:=A4 h2
  right
  refine T.mem_rests.mpr ⟨t,Kh h1,?_⟩
  rcases I0 h5 with⟨_,rfl⟩|⟨_,rfl⟩
  ·exact h4
  ·exact absurd h3 (by decide)
theorem NeedG.to{L:Lw}{lv:Nat}{n:Nd1}(h:NeedG L lv n){X:Cx}(e1:X.prog=L.P)(e2:X.w=L.w)(e3:X.K=L.p.K)(e4:X.mg=L.mg)(e5:X.base=L.base):NeedOk L.p lv X n:=by
 cases n with
 |fn F=>
  refine⟨h.1,?_⟩
  unfold K4
  rw[e1,e2,e3,e4,e5]
  exact h.2
 |fm F=>
  refine⟨h.1,?_⟩
  unfold RK
  rw[e1,e2,e3,e4,e5]
  exact h.2
 |fc F=>
  refine⟨h.1,?_⟩
  unfold RL
  rw[e1,e2,e3,e4,e5]
  exact h.2
 |cl n=>show _/\_;rw[e4];exact h
 |rs n=>show _/\_/\_;rw[e3];exact h
 |f0 F=>
  refine⟨h.1,?_⟩
  unfold OF
  rw[e1,e2,e3,e4,e5]
  exact h.2
 |mk n=>show _/\_/\_/\_;rw[e3];exact h
 |ma=>show _/\_/\_;rw[e1,e2,e3,e4,e5];exact h
 |ax=>show _/\_;rw[e3];exact h
 |gl x d=>show ∃u,_;rw[e4];exact h
theorem MQ{L:Lw}(O:L.Ok){x:Str}{st:Stmt}{N ps:List Str}{ar lv dep:Nat}{body:Ss}{f:Addr}{fd:FuncData}(D:Fun L.p.K x x st f fd)(S:FnScope N ps (Ak st))(har:ps.length=ar)
  (hck:ckSs ⟨N,Ak st,true,true,true⟩ body (AG st)=true) (hms:(msSs (aak N.length .dead) dep body (m0 ar N.length)).isSome=true) (hn:AllN (NeedG L lv) body.need) (hdp:dep<1000):FnOk L.P L.w L.p.K L.mg L.base (CXe L.P L.w) (lv+1) f fd ps (spF L.p (Au x ar (lv+1) dep N.length body)):=by
 have hpl:ps.length<=N.length:=by have:=congrArg abe S.pre;rw[abL]at this;omega
 refine Fun.okX D S (fun vs H Q E h=>?_) fun f cdv A outer s H vs Q E hr hsp=>?_
 ·obtain⟨ts,rfl,_,h,_⟩:=h
  rw[aac,h];exact har.symm
 ·obtain⟨ts,rfl,ok,hl,h⟩:=hsp
  have hl:ts.length=ar:=hl
  obtain⟨r,hr'⟩:=aaC.mp hms
  let Z:Zx:=⟨L.p,H,fun a=>a∈T.rests ts 0,fun _=>E,aak N.length .dead,dep⟩
  have C:Cs Z ⟨N,Ak st,true,true,true⟩ lv (Ax (CXe L.P L.w) L.P L.w L.p.K L.mg L.base N x (Ak st) f cdv A outer s H E) E:=by
   refine⟨⟨rfl,rfl,rfl,S.nd,fun _=>rfl,fun _=>hr,hr.units,hr.r0,O.blt,O.bt,?_,fun _ _=>rfl,O.kx,fun _=>trivial⟩,fun _=>rfl,fun _=>⟨Ny fun _ _ _ h=>h,Mh fun _ _ _ h=>h⟩,fun _=>PassesOwn.leaving,S.kind,rfl,rfl⟩
   intro pins σ H' s' e s'' I h
   exact SY (fun _ _ _ h=>h) pins σ H' s' e s'' I h
  refine⟨_,sndSs C body (AG st) (fun n hnm=>(hn.mem n hnm).to rfl rfl rfl rfl rfl) hck,τ0 N.length ts,m0 ar N.length,r,(vτ0 N ts).symm,sf0 ok hl (by omega),hr',?_⟩
  have h:match (if(T.dats ts).length=ar then run N.length body (T.dats ts) else .bad) with
   |.ok d=>∀t H',t.dat=d->Rs L.p (fun a=>a∈T.rests ts 0) H H' 0 dep t->Q t.val H'
   |.exc c=>L.p.has (kcX c)=true->∀H',Same H H'->XW L.p E c H'
   |.bad=>False:=h
  rw[if_pos (by rw[T.dats_map,aac];exact hl)]at h
  unfold run at h
  rw[dτ0]
  cases q:exs body (Pu.AE N.length (T.dats ts)) with
  |nxt δ=>
   rw[q]at h
   intro m' τ' H' e1 e2 S' P'
   exact h .non H' rfl (Rs.scal S'.same rfl)
  |ret d=>
   rw[q]at h
   show lRet Z _ d _ _
   unfold lRet
   rw[if_pos (show Z.dep<1000 from hdp)]
   exact h
  |exc c δ=>
   rw[q]at h
   intro hc τ' H' e S' P'
   exact h hc H' S'.same
  |bad=>rw[q]at h;exact h.elim
theorem Qj{L:Lw}(O:L.Ok){x:Str}{st:Stmt}{N ps:List Str}{ar lv dep:Nat}{body:Ss}(D:Df L.p.K L.mg x st ps)(S:FnScope N ps (Ak st))(har:ps.length=ar)
  (hck:ckSs ⟨N,Ak st,true,true,true⟩ body (AG st)=true) (hms:(msSs (aak N.length .dead) dep body (m0 ar N.length)).isSome=true) (hn:AllN (NeedG L lv) body.need) (hdp:dep<1000):Od L (Au x ar (lv+1) dep N.length body):=by
 obtain⟨f,fd,F,m,b⟩:=D
 exact⟨ps,har,f,fd,MQ O F S har hck hms hn hdp,m,F.kp,b⟩
abbrev T1:Value->Bool
 |.type x=>x == "list"
 |_=>false
abbrev noL(K:Frag):Bool:=K.all fun e=>!T1 e.2.cls
theorem MR{a:Addr}{o:Obj}:∀{K:Frag},K.lookup a=some o->(a,o)∈K
 |[],h=>by cases h
 | (b,u)::r,h=>by
  by_cases e:a=b
  ·subst e
   rw[List.lookup_cons_self]at h
   cases h
   exact aab
  ·have:(a==b)=false:=by simpa using e
   rw[List.lookup_cons,this]at h
   exact aaa _ (MR h)
theorem Si{K:Frag}(h:noL K=true){a:Addr}{o:Obj}(e:K.lookup a=some o):o.cls≠.type "list":=fun z=>by
 have:=aay.mp h (a,o) (MR e)
 rw[z]at this
 cases this
abbrev spL(K:Frag):Sp:=fun vs H Q E=>∃(a:Addr)(ns:List Int),vs=[.ref a]/\ns.length<=63/\SqL K H a (ns.map V.int)/\∀H',Q (.bl true) H'
theorem Ja:∀ns:List Int,(ns.map T.int).map T.val=ns.map V.int
 |[]=>rfl
 |n::r=>by rw[aaG,aaG,aaG,Ja r];rfl
theorem Jb:∀ns:List Int,T.dats (ns.map T.int)=ns.map D.int
 |[]=>rfl
 |n::r=>by rw[aaG,aaG,T.dats,Jb r];rfl
theorem Kj{p:Px}{H:Hp}:∀ns:List Int,T.Oks p H (ns.map T.int)
 |[]=>trivial
 |n::r=>⟨trivial,Kj r⟩
theorem Sj{P:Program}{w:World}{K:Frag}{mg:Str->Option Value}{base:Heap}{p:Px}{F:Fn}{f:Addr}{fd:FuncData}{ps:List Str}(hF:FnOk P w K mg base (CXe P w) F.lv f fd ps (spF p F))(hp:p.K=K)(ha:F.ar=1)(hK:noL K=true)
  (hd:∀ns:List Int,ns.length<=63->F.den [.lst (ns.map .int)]=.ok (.bl true)):FnOk P w K mg base (CXe P w) F.lv f fd ps (spL K):=by
 refine hF.imp fun vs H Q E h=>?_
 obtain⟨a,ns,rfl,hl,hS,q⟩:=h
 have hR:Rd H a (.lst (ns.map V.int)):=by
  rcases hS with h|⟨o,its,n,e,c,_⟩
  ·exact h
  ·exact absurd c (Si hK e)
 refine⟨[.lst a (ns.map T.int)],rfl,⟨⟨by rw[Ja];exact hR,Kj ns⟩,trivial⟩,ha.symm,?_⟩
 have e:T.dats [T.lst a (ns.map T.int)]=[.lst (ns.map .int)]:=by
  show [D.lst (T.dats (ns.map T.int))]=_
  rw[Jb]
 rw[e,hd ns hl]
 intro t H' ht R
 cases t<;>first|cases ht|skip
 exact q H'
theorem Tj{l:PySem.W.OpenLaw}{k:Nat}{q:Program}{loose:List Str}{XP:(Str->Option Value)->Heap->Prop}{YP:World->Heap->Prop}{d:DefRec}{K:Params->PySem.W.Frag}{x:Str}(hn:l.most=some 63)(hdf:d.params.defaults=[])(hr:Room k callerA)
  (hY:∀(w:World)(h:Heap),YP w h->(K w.params).In h)
  (F:∀(w:World)(mg:Str->Option Value)(fa:Addr)(h:Heap),(K w.params).In h->h.Ns mainGlobals mg->mg d.name=some (.ref fa)->
   ∃fd:FuncData,(∀(s:Shared)(u:Value),BindsTo s fd ⟨[u],[]⟩ [(x,u)])/\∀base:Heap,(K w.params).In base->base.Ns mainGlobals mg->FnOk l.prog w (K w.params) mg base (CXe l.prog w) k fa fd [x] (spL (K w.params))) :
  PySem.W.WalkO q loose XP YP l.row.toRowW d [] (fun f vs=>PySem.call f vs) :=
 L2.O7 (n:=63) (k:=k) (x:=x) (CX:=fun w=>CXe l.prog w) (sp:=fun w=>spL (K w.params)) hn (by decide) hdf hr hY F (fun _ _ a ns hl _ hS=>⟨a,ns,rfl,hl,hS,fun _=>rfl⟩) fun w H s e s' h=>by
  obtain⟨_,_,_,_,_,_,_,_,_,_,_,_,_,_,_,_,_,_,_,_,z⟩:=h
  exact z
abbrev Aw(K:Frag)(x:Str)(st:Stmt):Prop:=∃(f:Addr)(oc:Value)(od an:Option Addr)(sl:Array (Option Value))(kV dc pm cd ct:Value),nsIn K mainGlobals x=some (some (.ref f))/\K.lookup f=some ⟨oc,od,.func (fnOf x x (BK st) (AG st) (Ak st) .none kV dc pm an cd ct),sl⟩/\codeIn K cd x=true/\keepIn K (.ref f)=true
theorem AA{K:Frag}{x:Str}{st:Stmt}{f:Addr}{oc:Value}{od an:Option Addr}{sl:Array (Option Value)}{kV dc pm cd ct:Value}(a:nsIn K mainGlobals x=some (some (.ref f)))(l:K.lookup f=some ⟨oc,od,.func (fnOf x x (BK st) (AG st) (Ak st) .none kV dc pm an cd ct),sl⟩)(c:codeIn K cd x=true)(k:keepIn K (.ref f)=true):Aw K x st:=⟨f,oc,od,an,sl,kV,dc,pm,cd,ct,a,l,c,k⟩
theorem Aq{K:Frag}{h:Heap}{mg:Str->Option Value}{x:Str}{st:Stmt}{ps:List Str}(X:K.In h)(G:h.Ns mainGlobals mg)(t:Aw K x st)(hb:∀(kV doc pm:Value)(an:Option Addr)(cdv ct:Value)(us:List Value),us.length=ps.length->bindArgs (fnOf x x (BK st) (AG st) (Ak st) .none kV doc pm an cdv ct) ⟨us,[]⟩=pure (ps.zip us)):Df K mg x st ps:=by
 obtain⟨f,oc,od,an,sl,kV,dc,pm,cd,ct,a,l,c,k⟩:=t
 exact SZ X G a l c k hb
theorem ba1{fd:FuncData}{a0:Str}(h:∀u0:Value,bindArgs fd ⟨[u0],[]⟩=pure [(a0,u0)]):∀us:List Value,us.length=([a0]:List Str).length->bindArgs fd ⟨us,[]⟩=pure (([a0]:List Str).zip us)
 |[u0],_=>h u0
theorem ba2{fd:FuncData}{a0 a1:Str}(h:∀u0 u1:Value,bindArgs fd ⟨[u0,u1],[]⟩=pure [(a0,u0),(a1,u1)]):∀us:List Value,us.length=([a0,a1]:List Str).length->bindArgs fd ⟨us,[]⟩=pure (([a0,a1]:List Str).zip us)
 |[u0,u1],_=>h u0 u1
theorem ba3{fd:FuncData}{a0 a1 a2:Str}(h:∀u0 u1 u2:Value,bindArgs fd ⟨[u0,u1,u2],[]⟩=pure [(a0,u0),(a1,u1),(a2,u2)]):∀us:List Value,us.length=([a0,a1,a2]:List Str).length->bindArgs fd ⟨us,[]⟩=pure (([a0,a1,a2]:List Str).zip us)
 |[u0,u1,u2],_=>h u0 u1 u2
theorem ba4{fd:FuncData}{a0 a1 a2 a3:Str}(h:∀u0 u1 u2 u3:Value,bindArgs fd ⟨[u0,u1,u2,u3],[]⟩=pure [(a0,u0),(a1,u1),(a2,u2),(a3,u3)]):∀us:List Value,us.length=([a0,a1,a2,a3]:List Str).length->bindArgs fd ⟨us,[]⟩=pure (([a0,a1,a2,a3]:List Str).zip us)
 |[u0,u1,u2,u3],_=>h u0 u1 u2 u3
theorem ba5{fd:FuncData}{a0 a1 a2 a3 a4:Str}(h:∀u0 u1 u2 u3 u4:Value,bindArgs fd ⟨[u0,u1,u2,u3,u4],[]⟩=pure [(a0,u0),(a1,u1),(a2,u2),(a3,u3),(a4,u4)]):∀us:List Value,us.length=([a0,a1,a2,a3,a4]:List Str).length->bindArgs fd ⟨us,[]⟩=pure (([a0,a1,a2,a3,a4]:List Str).zip us)
 |[u0,u1,u2,u3,u4],_=>h u0 u1 u2 u3 u4
structure ClsF(K:Frag)(x:Str)(C:Addr):Prop where
 q:nsIn K mainGlobals x=some (some (.ref C))
 x:XCls K C
 t:∀T∈(["int", "bool", "str", "list", "tuple", "dict"]:List String),kitOne K (.ref C) (.type T)=some false
 v:kitOne K (.ref C) (.type "ValueError")=some true
 s:subIn K (.ref C) (.ref C)=some true
theorem Sk{K:Frag}{x:Str}{C:Addr}{cd:ClassData}(q:nsIn K mainGlobals x=some (some (.ref C)))
  (ga:findIn K (.ref C) "__getattribute__" = some (some (.builtin "BaseException.__getattribute__"))) (gn:findIn K (.ref C) "__getattr__" = some none) (sb:subIn K (.ref C) (.type "BaseException")=some true)
  (cl:findIn K (.ref C) "__class__" = some (some (.builtin "object.__class__"))) (mo:mroIn K C (.type "object")=some true) (ty:typeIn K (.ref C)=some (.type "type")) (cc:clsIn K C=some cd)
  (t1:kitOne K (.ref C) (.type "int")=some false) (t2:kitOne K (.ref C) (.type "bool")=some false) (t3:kitOne K (.ref C) (.type "str")=some false) (t4:kitOne K (.ref C) (.type "list")=some false) (t5:kitOne K (.ref C) (.type "tuple")=some false) (t6:kitOne K (.ref C) (.type "dict")=some false)
  (v:kitOne K (.ref C) (.type "ValueError")=some true) (s:subIn K (.ref C) (.ref C)=some true):ClsF K x C:=by
 refine⟨q,⟨ga,gn,sb,cl,mo,ty,by rw[cc];rfl⟩,fun T hT=>?_,v,s⟩
 simp only[aaf,abO,or_false]at hT
 rcases hT with rfl|rfl|rfl|rfl|rfl|rfl<;>assumption
@[reducible]noncomputable def Cs':=List (Nat×Addr)
abbrev clA:Cs'->Nat->Addr
 |[],_=>0
 | (c,a)::r,n=>if n=c then a else clA r n
abbrev B0:Cs'->Nat->Bool
 |[],_=>false
 | (c,_)::r,n=>(n==c&&decide (c<1000))||B0 r n
abbrev AllC{α:Type}(f:α->Prop):List α->Prop
 |[]=>True
 |q::r=>f q/\AllC f r
theorem AllC.mem{α:Type}{f:α->Prop}:∀{l:List α},AllC f l->∀n∈l,f n
 |[],_,n,h=>by cases h
 |m::r,h,n,hn=>by
  rcases aaf.mp hn with rfl|hn
  ·exact h.1
  ·exact AllC.mem h.2 n hn
theorem Cz:∀{cs:Cs'}{n:Nat},B0 cs n=true->(n,clA cs n)∈cs
 |[],n,h=>by cases h
 | (c,a)::r,n,h=>by
  unfold B0 at h
  unfold clA
  by_cases e:n=c
  ·subst e;rw[if_pos rfl];exact aab
  ·rw[if_neg e]
   have:(n==c)=false:=by simpa using e
   rw[this,acf,Bool.false_or]at h
   exact aaa _ (Cz h)
theorem Kk:∀{cs:Cs'}{n:Nat},B0 cs n=true->n<1000
 |[],n,h=>by cases h
 | (c,a)::r,n,h=>by
  unfold B0 at h
  rcases acz _ _▸h with h|h
  ·rw[aag,beq_iff_eq,decide_eq_true_eq]at h
   rw[h.1];exact h.2
  ·exact Kk h
theorem Tk{K:Frag}{cs:Cs'}(h9:B0 cs 999=false)(h:AllC (fun q=>ClsF K (AC q.1) q.2) cs)(y:AllC (fun q=>AllC (fun r=>kitOne K (.ref q.2) (.ref r.2)=some (isa q.1 r.1)) cs) cs):Kx ⟨K,clA cs,B0 cs⟩ :=
 ⟨h9,fun c hc=>Kk hc,fun c hc=>(h.mem _ (Cz hc)).s,fun c hc=>(h.mem _ (Cz hc)).x,fun c hc=>(h.mem _ (Cz hc)).t,fun c hc=>(h.mem _ (Cz hc)).v,fun c d hc hd=>(y.mem _ (Cz hc)).mem _ (Cz hd)⟩
theorem Tl{K:Frag}{P:Program}{w:World}{mg:Str->Option Value}{base h:Heap}{cs:Cs'}(h9:B0 cs 999=false)(X:K.In h)(G:h.Ns mainGlobals mg)(nb:AllC (fun y=>nsIn K mainGlobals y=some none) (BZ++(["bool", "dict", "ValueError", "set"]:List Str)))(hc:AllC (fun q=>ClsF K (AC q.1) q.2) cs)(y:AllC (fun q=>AllC (fun r=>kitOne K (.ref q.2) (.ref r.2)=some (isa q.1 r.1)) cs) cs):Lw.Ok ⟨⟨K,clA cs,B0 cs⟩,P,w,mg,base⟩ :=
 ⟨fun z hz=>mg_none_of X G (nb.mem z (aav _ hz)),fun z hz=>mg_none_of X G (nb.mem z (aai _ hz)),Tk h9 hc y⟩
abbrev dfB(N:List Str)(ps:List Str)(st:Stmt)(b:Ss)(dep:Nat):Bool :=
 decide ((Ak st).kind=.function)&&!(Ak st).isCoroutine&&!(Ak st).isGenerator&&decide N.Nodup&&decide (N.take ps.length=ps)&&ps.all (fun x=>decide ((Ak st).names.lookup x=some .local\/(Ak st).names.lookup x=some .cell))&&(Ak st).names.all (fun y=>decide (y.2≠.free))&&ckSs ⟨N,Ak st,true,true,true⟩ b (AG st)&&(msSs (aak N.length .dead) dep b (m0 ps.length N.length)).isSome&&decide (dep<1000)
theorem Do{N ps:List Str}{st:Stmt}{b:Ss}{dep:Nat}(h:dfB N ps st b dep=true):FnScope N ps (Ak st)/\ckSs ⟨N,Ak st,true,true,true⟩ b (AG st)=true/\(msSs (aak N.length .dead) dep b (m0 ps.length N.length)).isSome=true/\dep<1000:=by
 unfold dfB at h
 simp only[aag,decide_eq_true_eq,aay,acm]at h
 obtain⟨⟨⟨⟨⟨⟨⟨⟨⟨h1,h2⟩,h3⟩,h4⟩,h5⟩,h6⟩,h7⟩,h8⟩,h9⟩,h10⟩:=h
 exact⟨⟨h1,h2,h3,h4,h5,h6,h7⟩,h8,h9,h10⟩
theorem Ar{L:Lw}(O:L.Ok){x:Str}{st:Stmt}{N ps:List Str}{lv dep:Nat}{b:Ss}(D:Df L.p.K L.mg x st ps)(h:dfB N ps st b dep=true)(hn:AllN (NeedG L lv) b.need):Od L (Au x ps.length (lv+1) dep N.length b) :=
 Qj O D (Do h).1 rfl (Do h).2.1 (Do h).2.2.1 hn (Do h).2.2.2
theorem Qk{l:PySem.W.OpenLaw}{w:World}{K:Frag}{h:Heap}{mg:Str->Option Value}{fa:Addr}{cs:Cs'}{x:Str}{st:Stmt}{N:List Str}{lv dep:Nat}{b:Ss}(X:K.In h)(G:h.Ns mainGlobals mg)(hfa:mg "law" = some (.ref fa))(t:Aw K "law" st)(hck:dfB N [x] st b dep=true)
  (hb:∀(kV dc pm:Value)(an:Option Addr)(cd ct:Value)(s:Shared)(v:Value),BindsTo s (fnOf "law" "law" (BK st) (AG st) (Ak st) .none kV dc pm an cd ct) ⟨[v],[]⟩ [(x,v)])
  (O:∀base:Heap,Lw.Ok ⟨⟨K,clA cs,B0 cs⟩,l.prog,w,mg,base⟩) (hn:∀base:Heap,AllN (NeedG ⟨⟨K,clA cs,B0 cs⟩,l.prog,w,mg,base⟩ lv) b.need) (nl:noL K=true)
  (hden:∀ns:List Int,ns.length<=63->(Au "law" 1 (lv+1) dep N.length b).den [.lst (ns.map .int)]=.ok (.bl true)) :
  ∃fd:FuncData,(∀(s:Shared)(v:Value),BindsTo s fd ⟨[v],[]⟩ [(x,v)])/\∀base:Heap,K.In base->base.Ns mainGlobals mg->FnOk l.prog w K mg base (CXe l.prog w) (lv+1) fa fd [x] (spL K):=by
 obtain⟨f,oc,od,an,sl,kV,dc,pm,cd,ct,a,l',c,k⟩:=t
 have e:=hfa.symm.trans (mg_of X G a)
 cases e
 refine⟨_,hb kV dc pm an cd ct,fun base _ _=>?_⟩
 exact Sj (F:=Au "law" 1 (lv+1) dep N.length b) (MQ (L:=⟨⟨K,clA cs,B0 cs⟩,l.prog,w,mg,base⟩) (O base) (L9 (st:=st) l' c k) (Do hck).1 rfl (Do hck).2.1 (Do hck).2.2.1 (hn base) (Do hck).2.2.2) rfl rfl nl hden
end Pu
end
namespace Pu
open PySem PySem.Spec PyProof.Rows PySem.W L2
abbrev Gz:Ss :=
 (.cons (.ret (.bo true (.cons (.isi (.nm 0) .int) (.cons (.not (.isi (.nm 0) .bool)) .nil))))
 .nil)
abbrev FK:Fn:=Au "is_whole" 1 1 9 1 Gz
abbrev CO:Ss :=
 (.cons (.ret (.bo true (.cons (.call FK (.cons (.nm 0) .nil)) (.cons (.chain .le .le (.nm 1) (.nm 0) (.nm 2)) .nil))))
 .nil)
abbrev Cr:Fn:=Au "is_between" 3 2 9 3 CO
theorem HQ(ds:List D)(h:ds.length=3):Cr.den ds=run 3 CO ds:=Ap h
abbrev Cm:Ss :=
 (.cons (.mut 2 [] .append (.cons (.nm 3) .nil))
 (.cons (.asg 3 0 (.bin .fdiv (.bin .sub (.bin .add (.nm 3) (.nm 1)) (.cI 1)) (.nm 1)))
 .nil))
abbrev EG:Ss :=
 (.cons (.asg 1 0 (.ix (.nm 0) (.cI 1)))
 (.cons (.asg 2 2 (.lst .nil))
 (.cons (.asg 3 0 (.ix (.nm 0) (.cI 0)))
 (.cons (.dem 2 1)
 (.cons (.wh (.cmp .gt (.nm 3) (.cI 1))
 Cm)
 (.cons (.iff (.cmp .eq (.nm 3) (.cI 1))
 (.cons (.mut 2 [] .append (.cons (.nm 3) .nil))
 .nil)
 .nil)
 (.cons (.ret (.nm 2))
 .nil)))))))
abbrev Dp:Fn:=Au "levels" 1 1 1 4 EG
theorem MS(ds:List D)(h:ds.length=1):Dp.den ds=run 4 EG ds:=Ap h
abbrev Br:Ss :=
 (.cons (.iff (.bo false (.cons (.not (.isi (.nm 1) .tuple)) (.cons (.cmp .ne (.bi .len (.cons (.nm 1) .nil)) (.cI 2)) .nil)))
 (.cons (.ret (.cB false))
 .nil)
 .nil)
 (.cons (.iff (.not (.call Cr (.cons (.ix (.nm 1) (.cI 0)) (.cons (.cI 0) (.cons (.bin .sub (.bi .len (.cons (.nm 0) .nil)) (.cI 1)) .nil)))))
 (.cons (.ret (.cB false))
 .nil)
 .nil)
 (.cons (.ret (.call Cr (.cons (.ix (.nm 1) (.cI 1)) (.cons (.cI 0) (.cons (.bin .sub (.ix (.nm 0) (.ix (.nm 1) (.cI 0))) (.cI 1)) .nil)))))
 .nil)))
abbrev Bg:Fn:=Au "is_counted_node" 2 3 9 2 Br
theorem Ff(ds:List D)(h:ds.length=2):Bg.den ds=run 2 Br ds:=Ap h
abbrev D3:Ss :=
 (.cons (.ret (.call Bg (.cons (.call Dp (.cons (.nm 0) .nil)) (.cons (.nm 1) .nil))))
 .nil)
abbrev EH:Fn:=Au "is_node" 2 4 9 2 D3
theorem Lj(ds:List D)(h:ds.length=2):EH.den ds=run 2 D3 ds:=Ap h
abbrev CP:Ss :=
 (.cons (.iff (.not (.call EH (.cons (.nm 0) (.cons (.nm 1) .nil))))
 (.cons (.raise 2 (.cons (.cS "this is no node of the shape") .nil))
 .nil)
 .nil)
 .nil)
abbrev BJ:Fn:=Au "check_node" 2 5 9 2 CP
theorem HR(ds:List D)(h:ds.length=2):BJ.den ds=run 2 CP ds:=Ap h
abbrev D4:Ss :=
 (.cons (.asg 2 0 (.bin .mul (.nm 2) (.ix (.nm 0) (.cI 1))))
 .nil)
abbrev GA:Ss :=
 (.cons (.expr (.call BJ (.cons (.nm 0) (.cons (.nm 1) .nil))))
 (.cons (.asg 2 0 (.cI 1))
 (.cons (.for_ (.nm 3) (.r1 (.ix (.nm 1) (.cI 0)))
 D4)
 (.cons (.asg 4 0 (.bin .mul (.ix (.nm 1) (.cI 1)) (.nm 2)))
 (.cons (.ret (.tup (.cons (.nm 4) (.cons (.bi .min (.cons (.bin .add (.nm 4) (.nm 2)) (.cons (.ix (.nm 0) (.cI 0)) .nil))) .nil))))
 .nil)))))
abbrev Ca:Fn:=Au "span" 2 6 0 5 GA
theorem Ql(ds:List D)(h:ds.length=2):Ca.den ds=run 5 GA ds:=Ap h
abbrev Ib:Ss :=
 (.cons (.asg 1 1 (.call Dp (.cons (.nm 0) .nil)))
 (.cons (.iff (.cmp .eq (.nm 1) (.lst .nil))
 (.cons (.ret .cN)
 .nil)
 .nil)
 (.cons (.ret (.tup (.cons (.bin .sub (.bi .len (.cons (.nm 1) .nil)) (.cI 1)) (.cons (.cI 0) .nil))))
 .nil)))
abbrev Jc:Fn:=Au "top" 1 2 1 2 Ib
theorem Sl(ds:List D)(h:ds.length=1):Jc.den ds=run 2 Ib ds:=Ap h
abbrev DV:Ss :=
 (.cons (.expr (.call BJ (.cons (.nm 0) (.cons (.nm 1) .nil))))
 (.cons (.iff (.cmp .eq (.nm 1) (.call Jc (.cons (.nm 0) .nil)))
 (.cons (.ret .cN)
 .nil)
 .nil)
 (.cons (.ret (.tup (.cons (.bin .add (.ix (.nm 1) (.cI 0)) (.cI 1)) (.cons (.bin .fdiv (.ix (.nm 1) (.cI 1)) (.ix (.nm 0) (.cI 1))) .nil))))
 .nil)))
abbrev B3:Fn:=Au "parent" 2 6 1 2 DV
theorem HD(ds:List D)(h:ds.length=2):B3.den ds=run 2 DV ds:=Ap h
abbrev CQ:Ss :=
 (.cons (.expr (.call BJ (.cons (.nm 0) (.cons (.nm 1) .nil))))
 (.cons (.iff (.cmp .eq (.ix (.nm 1) (.cI 0)) (.cI 0))
 (.cons (.ret (.lst .nil))
 .nil)
 .nil)
 (.cons (.asg 2 0 (.bin .sub (.ix (.nm 1) (.cI 0)) (.cI 1)))
 (.cons (.asg 3 0 (.bin .mul (.ix (.nm 1) (.cI 1)) (.ix (.nm 0) (.cI 1))))
 (.cons (.asg 4 0 (.bi .min (.cons (.bin .add (.nm 3) (.ix (.nm 0) (.cI 1))) (.cons (.ix (.call Dp (.cons (.nm 0) .nil)) (.nm 2)) .nil))))
 (.cons (.ret (.comp0 1 [2] (.nm 0) (.r2 (.nm 3) (.nm 4)) (.tup (.cons (.nm 1) (.cons (.nm 0) .nil)))))
 .nil))))))
abbrev Dj:Fn:=Au "children" 2 6 1 5 CQ
theorem FL(ds:List D)(h:ds.length=2):Dj.den ds=run 5 CQ ds:=Ap h
abbrev Cu:Ss :=
 (.cons (.ret (.bo true (.cons (.cmp .le (.nm 1) (.ix (.nm 0) (.cI 0))) (.cons (.cmp .le (.ix (.nm 0) (.cI 1)) (.nm 2)) .nil))))
 .nil)
abbrev A5:Fn:=Au "lies_within" 3 1 9 3 Cu
theorem G7(ds:List D)(h:ds.length=3):A5.den ds=run 3 Cu ds:=Ap h
abbrev Bb:Ss :=
 (.cons (.dem 4 0)
 (.cons (.asg 3 0 (.nm 4))
 (.cons (.asg 4 1 (.call B3 (.cons (.nm 0) (.cons (.nm 3) .nil))))
 .nil)))
abbrev BF:Ss :=
 (.cons (.asg 3 0 (.tup (.cons (.cI 0) (.cons (.nm 1) .nil))))
 (.cons (.asg 4 1 (.call B3 (.cons (.nm 0) (.cons (.nm 3) .nil))))
 (.cons (.wh (.bo true (.cons (.isN true (.nm 4)) (.cons (.call A5 (.cons (.callB Ca (.cons (.nm 0) (.cons (.nm 4) .nil))) (.cons (.nm 1) (.cons (.nm 2) .nil)))) .nil)))
 Bb)
 (.cons (.ret (.nm 3))
 .nil))))
abbrev Cg:Fn:=Au "highest_within" 3 7 0 5 BF
theorem FC(ds:List D)(h:ds.length=3):Cg.den ds=run 5 BF ds:=Ap h
abbrev CS:Ss :=
 (.cons (.asg 5 0 (.call Cg (.cons (.nm 0) (.cons (.nm 4) (.cons (.nm 2) .nil)))))
 (.cons (.mut 3 [] .append (.cons (.nm 5) .nil))
 (.cons (.asg 4 0 (.ix (.call Ca (.cons (.nm 0) (.cons (.nm 5) .nil))) (.cI 1)))
 .nil)))
abbrev Em:Ss :=
 (.cons (.iff (.bo false (.cons (.cmp .lt (.nm 1) (.cI 0)) (.cons (.cmp .gt (.nm 2) (.ix (.nm 0) (.cI 0))) (.cons (.cmp .gt (.nm 1) (.nm 2)) .nil))))
 (.cons (.raise 3 (.cons (.cS "these are no pages of the shape") .nil))
 .nil)
 .nil)
 (.cons (.asg 3 2 (.lst .nil))
 (.cons (.asg 4 0 (.nm 1))
 (.cons (.dem 3 1)
 (.cons (.wh (.cmp .lt (.nm 4) (.nm 2))
 CS)
 (.cons (.ret (.nm 3))
 .nil))))))
abbrev EI:Fn:=Au "cover" 3 8 1 6 Em
theorem Jd(ds:List D)(h:ds.length=3):EI.den ds=run 6 Em ds:=Ap h
abbrev Dk:Ss :=
 (.cons (.ret (.comp0 1 [] (.nm 0) (.seq (.nm 0)) (.bi .len (.cons (.nm 0) .nil))))
 .nil)
abbrev DW:Fn:=Au "counts_of" 1 1 9 1 Dk
theorem Je(ds:List D)(h:ds.length=1):DW.den ds=run 1 Dk ds:=Ap h
abbrev CT:Ss :=
 (.cons (.iff (.cmp .eq (.nm 0) (.lst .nil))
 (.cons (.ret (.lst .nil))
 .nil)
 .nil)
 (.cons (.ret (.bi .list (.cons (.ix (.nm 0) (.cI 0)) .nil)))
 .nil))
abbrev Dl:Fn:=Au "rooms_of" 1 1 1 1 CT
theorem FM(ds:List D)(h:ds.length=1):Dl.den ds=run 1 CT ds:=Ap h
abbrev CU:Ss :=
 (.cons (.ret (.tup (.cons (.bi .len (.cons (.call Dl (.cons (.nm 0) .nil)) .nil)) (.cons (.nm 1) .nil))))
 .nil)
abbrev Dm:Fn:=Au "shape_of" 2 2 0 2 CU
theorem FN(ds:List D)(h:ds.length=2):Dm.den ds=run 2 CU ds:=Ap h
abbrev DC:Ss :=
 (.cons (.ret (.call Bg (.cons (.call DW (.cons (.nm 0) .nil)) (.cons (.nm 1) .nil))))
 .nil)
abbrev Ed:Fn:=Au "has_node" 2 4 9 2 DC
theorem JD(ds:List D)(h:ds.length=2):Ed.den ds=run 2 DC ds:=Ap h
abbrev BG:Ss :=
 (.cons (.iff (.not (.call Ed (.cons (.nm 0) (.cons (.nm 1) .nil))))
 (.cons (.raise 2 (.cons (.cS "this is no node of the tree") .nil))
 .nil)
 .nil)
 .nil)
abbrev Ch:Fn:=Au "check_has_node" 2 5 9 2 BG
theorem FD(ds:List D)(h:ds.length=2):Ch.den ds=run 2 BG ds:=Ap h
abbrev Fw:Ss :=
 (.cons (.expr (.call Ch (.cons (.nm 0) (.cons (.nm 1) .nil))))
 (.cons (.ret (.ix (.ix (.nm 0) (.ix (.nm 1) (.cI 0))) (.ix (.nm 1) (.cI 1))))
 .nil))
abbrev DX:Fn:=Au "tells" 2 6 0 2 Fw
theorem Oe(ds:List D)(h:ds.length=2):DX.den ds=run 2 Fw ds:=Ap h
abbrev AB:Ss :=
 (.cons (.mut 3 [] .append (.cons (.nm 4) .nil))
 (.cons (.iff (.cmp .ge (.call DX (.cons (.nm 0) (.cons (.nm 4) .nil))) (.nm 1))
 (.cons (.ret (.nm 3))
 .nil)
 .nil)
 .nil))
abbrev Bv:Ss :=
 (.cons (.asg 3 2 (.lst .nil))
 (.cons (.dem 3 1)
 (.cons (.for_ (.nm 4) (.seq (.nm 2))
 AB)
 (.cons (.ret (.nm 3))
 .nil))))
abbrev BR:Fn:=Au "up_to_enough" 3 7 1 5 Bv
theorem GB(ds:List D)(h:ds.length=3):BR.den ds=run 5 Bv ds:=Ap h
theorem GC:BR.dep=1:=rfl
abbrev Bq:Ss :=
 (.cons (.asg 7 1 (.callB BR (.cons (.nm 0) (.cons (.nm 2) (.cons (.nm 6) .nil)))))
 (.cons (.dem 7 0)
 (.cons (.dem 5 1)
 (.cons (.mut 5 [] .extend (.cons (.nm 7) .nil))
 (.cons (.iff (.cmp .lt (.call DX (.cons (.nm 0) (.cons (.ix (.nm 7) (.neg (.cI 1))) .nil))) (.nm 2))
 (.cons (.ret (.nm 5))
 .nil)
 .nil)
 (.cons (.asg 6 1 (.call Dj (.cons (.nm 4) (.cons (.ix (.nm 7) (.neg (.cI 1))) .nil))))
 .nil))))))
abbrev Dc:Ss :=
 (.cons (.asg 4 0 (.call Dm (.cons (.nm 0) (.cons (.nm 1) .nil))))
 (.cons (.asg 5 2 (.lst .nil))
 (.cons (.asg 6 1 (.call EI (.cons (.nm 4) (.cons (.nm 3) (.cons (.ix (.nm 4) (.cI 0)) .nil)))))
 (.cons (.dem 5 1)
 (.cons (.wh (.cmp .ne (.nm 6) (.lst .nil))
 Bq)
 (.cons (.ret (.nm 5))
 .nil))))))
abbrev CB:Fn:=Au "walked" 4 9 1 8 Dc
theorem HE(ds:List D)(h:ds.length=4):CB.den ds=run 8 Dc ds:=Ap h
abbrev Du:Ss :=
 (.cons (.asg 2 0 (.bin .mod (.bin .add (.bin .add (.bin .mul (.nm 2) (.cI 48271)) (.bin .mod (.nm 3) (.cI 1000003))) (.cI 1)) (.cI 2147483647)))
 .nil)
abbrev CV:Ss :=
 (.cons (.iff (.cmp .lt (.nm 1) (.bi .len (.cons (.nm 0) .nil)))
 (.cons (.ret (.ix (.nm 0) (.nm 1)))
 .nil)
 .nil)
 (.cons (.asg 2 0 (.cI 5))
 (.cons (.for_ (.nm 3) (.seq (.slc (.nm 0) .cN (.cI 63)))
 Du)
 (.cons (.ret (.bin .mod (.bin .add (.nm 2) (.bin .mul (.cI 7919) (.nm 1))) (.cI 1000003)))
 .nil))))
abbrev Cn:Fn:=Au "_law_cell" 2 1 0 4 CV
theorem JE(ds:List D)(h:ds.length=2):Cn.den ds=run 4 CV ds:=Ap h
abbrev Cv:Ss :=
 (.cons (.asg 2 0 (.bin .mod (.bin .pow (.bin .add (.bin .add (.bin .mod (.nm 0) (.cI 2147483629)) (.bin .mul (.cI 1013) (.nm 1))) (.cI 7919)) (.cI 3)) (.cI 2147483647)))
 (.cons (.asg 3 0 (.bin .mod (.bin .add (.bin .add (.bin .mul (.nm 2) (.cI 40699)) (.bin .mul (.bin .mul (.cI 3793) (.nm 1)) (.nm 1))) (.cI 11)) (.cI 2147483399)))
 (.cons (.ret (.bin .fdiv (.nm 3) (.cI 101)))
 .nil)))
abbrev Cb:Fn:=Au "_law_mix" 2 1 1 4 Cv
theorem G8(ds:List D)(h:ds.length=2):Cb.den ds=run 4 Cv ds:=Ap h
abbrev Ay:Ss :=
 (.cons (.iff (.cmp .lt (.nm 3) (.bin .pow (.cI 10) (.cI 18)))
 (.cons (.mut 5 [] .append (.cons (.bin .mod (.call Cb (.cons (.nm 3) (.cons (.nm 6) .nil))) (.ix (.nm 2) (.nm 6))) .nil))
 .nil)
 (.cons (.iff (.cmp .gt (.nm 4) (.cI 0))
 (.cons (.mut 5 [] .append (.cons (.bin .mod (.nm 4) (.ix (.nm 2) (.nm 6))) .nil))
 (.cons (.asg 4 0 (.bin .fdiv (.nm 4) (.ix (.nm 2) (.nm 6))))
 .nil))
 (.cons (.asg 7 0 (.call Cn (.cons (.nm 0) (.cons (.bin .mod (.bin .add (.bin .add (.nm 1) (.cI 1)) (.nm 6)) (.cI 63)) .nil))))
 (.cons (.mut 5 [] .append (.cons (.bin .mod (.call Cb (.cons (.nm 7) (.cons (.nm 6) .nil))) (.ix (.nm 2) (.nm 6))) .nil))
 .nil)))
 .nil))
 .nil)
abbrev Cw:Ss :=
 (.cons (.asg 3 0 (.call Cn (.cons (.nm 0) (.cons (.nm 1) .nil))))
 (.cons (.asg 4 0 (.nm 3))
 (.cons (.asg 5 2 (.lst .nil))
 (.cons (.for_ (.nm 6) (.r1 (.bi .len (.cons (.nm 2) .nil)))
 Ay)
 (.cons (.ret (.nm 5))
 .nil)))))
abbrev A6:Fn:=Au "_law_row" 3 2 2 8 Cw
theorem G9(ds:List D)(h:ds.length=3):A6.den ds=run 8 Cw ds:=Ap h
abbrev At:Ss :=
 (.cons (.asg 7 0 (.ixL (.nm 3) (.bin .add (.cI 4) (.nm 6))))
 (.cons (.iff (.cmp .eq (.ixL (.nm 3) (.cI 2)) (.cI 1))
 (.cons (.asg 7 0 (.bin .mod (.nm 7) (.cI 3)))
 .nil)
 .nil)
 (.cons (.iff (.cmp .eq (.ixL (.nm 3) (.cI 2)) (.cI 2))
 (.cons (.asg 7 0 (.bin .mul (.ix (.lst (.cons (.cI 0) (.cons (.cI 0) (.cons (.cI 0) (.cons (.cI 1) .nil))))) (.bin .mod (.nm 7) (.cI 4))) (.bin .add (.cI 1) (.bin .fdiv (.nm 7) (.cI 4)))))
 .nil)
 .nil)
 (.cons (.iff (.cmp .eq (.ixL (.nm 3) (.cI 2)) (.cI 3))
 (.cons (.asg 7 0 (.bin .mod (.bin .add (.ixL (.nm 3) (.cI 3)) (.nm 6)) (.cI 13)))
 .nil)
 .nil)
 (.cons (.iff (.cmp .eq (.ixL (.nm 3) (.cI 2)) (.cI 4))
 (.cons (.asg 7 0 (.ixL (.nm 3) (.cI 3)))
 .nil)
 .nil)
 (.cons (.mut 5 [] .append (.cons (.bi .min (.cons (.bin .pow (.cI 10) (.cI 18)) (.cons (.bin .add (.bin .mul (.nm 7) (.nm 4)) (.bin .mul (.bi .int (.cons (.cmp .eq (.nm 7) (.cI 12)) .nil)) (.cI 4))) .nil))) .nil))
 .nil))))))
abbrev BS:Ss :=
 (.cons (.asg 3 2 (.call A6 (.cons (.nm 0) (.cons (.nm 1) (.cons (.bin .add (.lst (.cons (.bin .add (.nm 2) (.cI 1)) (.cons (.cI 5) (.cons (.cI 6) (.cons (.cI 13) .nil))))) (.bin .mul (.lst (.cons (.cI 13) .nil)) (.nm 2))) .nil)))))
 (.cons (.asg 4 0 (.ix (.lst (.cons (.cI 1) (.cons (.cI 1) (.cons (.cI 7) (.cons (.bin .pow (.cI 10) (.cI 6)) (.cons (.cI 83333333333333333) .nil)))))) (.ixL (.nm 3) (.cI 1))))
 (.cons (.asg 5 2 (.lst .nil))
 (.cons (.dem 3 1)
 (.cons (.for_ (.nm 6) (.r1 (.ixL (.nm 3) (.cI 0)))
 At)
 (.cons (.ret (.nm 5))
 .nil))))))
abbrev BH:Fn:=Au "_law_rooms" 3 3 2 8 BS
theorem FX(ds:List D)(h:ds.length=3):BH.den ds=run 8 BS ds:=Ap h
abbrev Cy:Ss :=
 (.cons (.ret (.bin .add (.cI 2) (.ix (.call A6 (.cons (.nm 0) (.cons (.nm 1) (.cons (.lst (.cons (.cI 7) .nil)) .nil)))) (.cI 0))))
 .nil)
abbrev Dd:Fn:=Au "_law_fan" 2 3 1 2 Cy
theorem Ha(ds:List D)(h:ds.length=2):Dd.den ds=run 2 Cy ds:=Ap h
abbrev AQ:Ss :=
 (.cons (.asg 3 2 (.call A6 (.cons (.nm 0) (.cons (.nm 1) (.cons (.lst (.cons (.cI 7) (.cons (.cI 200) (.cons (.cI 40) .nil)))) .nil)))))
 (.cons (.iff (.bo false (.cons (.cmp .eq (.ixL (.nm 3) (.cI 0)) (.cI 0)) (.cons (.cmp .eq (.bi .len (.cons (.nm 2) .nil)) (.cI 0)) .nil)))
 (.cons (.ret (.ix (.lst (.cons (.cI 0) (.cons (.cI 1) (.cons (.cI 2) (.cons (.bin .pow (.cI 10) (.cI 59)) .nil))))) (.bin .mod (.ixL (.nm 3) (.cI 1)) (.cI 4))))
 .nil)
 .nil)
 (.cons (.asg 4 0 (.ix (.nm 2) (.bin .mod (.ixL (.nm 3) (.cI 1)) (.bi .len (.cons (.nm 2) .nil)))))
 (.cons (.iff (.cmp .eq (.ixL (.nm 3) (.cI 0)) (.cI 1))
 (.cons (.ret (.bin .add (.bi .maxL (.cons (.nm 2) .nil)) (.bin .mod (.ixL (.nm 3) (.cI 2)) (.cI 2))))
 .nil)
 .nil)
 (.cons (.ret (.bi .max (.cons (.cI 0) (.cons (.bin .add (.nm 4) (.ixL (.lst (.cons (.cI 0) (.cons (.cI 0) (.cons (.cI 1) (.cons (.neg (.cI 1)) (.cons (.ixL (.nm 3) (.cI 2)) .nil)))))) (.bin .sub (.ixL (.nm 3) (.cI 0)) (.cI 2)))) .nil))))
 .nil)))))
abbrev Bh:Fn:=Au "_law_need" 3 3 0 5 AQ
theorem BT(ds:List D)(h:ds.length=3):Bh.den ds=run 5 AQ ds:=Ap h
theorem GD:Bh.dep=0:=rfl
abbrev AN:Ss :=
 (.cons (.mut 2 [] .append (.cons (.bin .fdiv (.bin .sub (.bin .add (.ixL (.nm 2) (.neg (.cI 1))) (.nm 1)) (.cI 1)) (.nm 1)) .nil))
 .nil)
abbrev A9:Ss :=
 (.cons (.iff (.cmp .eq (.nm 0) (.cI 0))
 (.cons (.ret (.lst .nil))
 .nil)
 .nil)
 (.cons (.asg 2 1 (.lst (.cons (.nm 0) .nil)))
 (.cons (.wh (.cmp .gt (.ixL (.nm 2) (.neg (.cI 1))) (.cI 1))
 AN)
 (.cons (.ret (.nm 2))
 .nil))))
abbrev Bs:Fn:=Au "_law_counts" 2 1 1 3 A9
theorem Dw(ds:List D)(h:ds.length=2):Bs.den ds=run 3 A9 ds:=Ap h
abbrev Bj:Ss :=
 (.cons (.asg 4 0 (.bin .mul (.nm 4) (.nm 1)))
 .nil)
abbrev BU:Ss :=
 (.cons (.asg 4 0 (.cI 1))
 (.cons (.for_ (.nm 5) (.r1 (.nm 2))
 Bj)
 (.cons (.ret (.tup (.cons (.bin .mul (.nm 3) (.nm 4)) (.cons (.bi .min (.cons (.nm 0) (.cons (.bin .add (.bin .mul (.nm 3) (.nm 4)) (.nm 4)) .nil))) .nil))))
 .nil)))
abbrev Ba:Fn:=Au "_law_reach" 4 1 1 6 BU
theorem FY(ds:List D)(h:ds.length=4):Ba.den ds=run 6 BU ds:=Ap h
abbrev AY:Ss :=
 (.cons (.asgT [7,8] (.call Ba (.cons (.bi .len (.cons (.nm 0) .nil)) (.cons (.nm 1) (.cons (.nm 4) (.cons (.nm 6) .nil))))))
 (.cons (.mut 5 [] .append (.cons (.bi .maxL (.cons (.slc (.nm 0) (.nm 7) (.nm 8)) .nil)) .nil))
 .nil))
abbrev AZ:Ss :=
 (.cons (.asg 5 2 (.lst .nil))
 (.cons (.for_ (.nm 6) (.r1 (.ixL (.nm 3) (.nm 4)))
 AY)
 (.cons (.mut 2 [] .append (.cons (.nm 5) .nil))
 .nil)))
abbrev Bw:Ss :=
 (.cons (.asg 2 2 (.lst .nil))
 (.cons (.asg 3 1 (.call Bs (.cons (.bi .len (.cons (.nm 0) .nil)) (.cons (.nm 1) .nil))))
 (.cons (.for_ (.nm 4) (.r1 (.bi .len (.cons (.nm 3) .nil)))
 AZ)
 (.cons (.ret (.nm 2))
 .nil))))
abbrev AL:Fn:=Au "_law_tree" 2 2 2 9 Bw
theorem D5(ds:List D)(h:ds.length=2):AL.den ds=run 9 Bw ds:=Ap h
theorem GE:AL.dep=2:=rfl
abbrev AJ:Ss :=
 (.cons (.iff (.cmp .ge (.ix (.nm 0) (.nm 3)) (.nm 1))
 (.cons (.ret (.nm 3))
 .nil)
 .nil)
 .nil)
abbrev Bl:Ss :=
 (.cons (.for_ (.nm 3) (.seq (.nm 2))
 AJ)
 (.cons (.ret .cN)
 .nil))
abbrev BI:Fn:=Au "_law_plain" 3 1 0 4 Bl
theorem FZ(ds:List D)(h:ds.length=3):BI.den ds=run 4 Bl ds:=Ap h
abbrev Az:Ss :=
 (.cons (.asgT [11,12] (.call Ba (.cons (.bi .len (.cons (.nm 0) .nil)) (.cons (.nm 1) (.cons (.nm 9) (.cons (.nm 10) .nil))))))
 (.cons (.iff (.cmp .lt (.ix (.ix (.nm 2) (.nm 9)) (.nm 10)) (.nm 3))
 (.cons (.iff (.cmp .ne (.nm 11) (.nm 8))
 (.cons (.ret (.cB false))
 .nil)
 .nil)
 (.cons (.asg 8 0 (.nm 12))
 .nil))
 (.cons (.iff (.bo false (.cons (.not (.chain .le .lt (.nm 11) (.nm 8) (.nm 12))) (.cons (.isN false (.nm 6)) .nil)))
 (.cons (.ret (.cB false))
 .nil)
 .nil)
 .nil))
 .nil))
abbrev Bm:Ss :=
 (.cons (.asg 5 1 (.call CB (.cons (.comp0 1 [] (.nm 0) (.seq (.nm 2)) (.bi .list (.cons (.nm 0) .nil))) (.cons (.nm 1) (.cons (.nm 3) (.cons (.nm 4) .nil))))))
 (.cons (.asg 6 0 (.call BI (.cons (.nm 0) (.cons (.nm 3) (.cons (.listI (.r2 (.nm 4) (.bi .len (.cons (.nm 0) .nil)))) .nil)))))
 (.cons (.asg 7 0 (.bi .len (.cons (.nm 0) .nil)))
 (.cons (.iff (.isN true (.nm 6))
 (.cons (.asg 7 0 (.nm 6))
 (.cons (.iff (.bo false (.cons (.cmp .eq (.nm 5) (.lst .nil)) (.cons (.cmp .ne (.ixL (.nm 5) (.neg (.cI 1))) (.tup (.cons (.cI 0) (.cons (.nm 6) .nil)))) .nil)))
 (.cons (.ret (.cB false))
 .nil)
 .nil)
 .nil))
 .nil)
 (.cons (.asg 8 0 (.nm 4))
 (.cons (.for_ (.tp [9,10]) (.seqL (.nm 5))
 Az)
 (.cons (.iff (.bo true (.cons (.cmp .eq (.nm 4) (.cI 0)) (.cons (.cmp .gt (.bi .len (.cons (.nm 5) .nil)) (.bin .add (.cI 1) (.bin .mul (.nm 1) (.bi .max (.cons (.cI 0) (.cons (.bin .sub (.bi .len (.cons (.nm 2) .nil)) (.cI 1)) .nil)))))) .nil)))
 (.cons (.ret (.cB false))
 .nil)
 .nil)
 (.cons (.ret (.bo true (.cons (.cmp .eq (.nm 8) (.nm 7)) (.cons (.cmp .eq (.lenSet (.nm 5)) (.bi .len (.cons (.nm 5) .nil))) .nil))))
 .nil))))))))
abbrev Av:Fn:=Au "_law_right" 5 10 9 13 Bm
theorem F0(ds:List D)(h:ds.length=5):Av.den ds=run 13 Bm ds:=Ap h
theorem F1:Av.dep=9:=rfl
abbrev CW:Ss :=
 (.cons (.asg 5 0 (.callB Bh (.cons (.nm 0) (.cons (.bin .add (.cI 2) (.nm 4)) (.cons (.nm 1) .nil)))))
 (.cons (.asg 6 2 (.call A6 (.cons (.nm 0) (.cons (.bin .add (.cI 20) (.nm 4)) (.cons (.lst (.cons (.cI 201) (.cons (.cI 3) .nil))) .nil)))))
 (.cons (.asg 7 0 (.ix (.lst (.cons (.cI 0) (.cons (.bin .mod (.ixL (.nm 6) (.cI 0)) (.bin .add (.bi .len (.cons (.nm 1) .nil)) (.cI 1))) (.cons (.bin .mod (.ixL (.nm 6) (.cI 0)) (.bin .add (.bi .len (.cons (.nm 1) .nil)) (.cI 1))) .nil)))) (.ixL (.nm 6) (.cI 1))))
 (.cons (.iff (.not (.callB Av (.cons (.nm 1) (.cons (.nm 2) (.cons (.nm 3) (.cons (.nm 5) (.cons (.nm 7) .nil)))))))
 (.cons (.ret (.cB false))
 .nil)
 .nil)
 .nil))))
abbrev D6:Ss :=
 (.cons (.asg 1 2 (.call BH (.cons (.nm 0) (.cons (.cI 0) (.cons (.cI 200) .nil)))))
 (.cons (.asg 2 1 (.call Dd (.cons (.nm 0) (.cons (.cI 1) .nil))))
 (.cons (.asg 3 2 (.callB AL (.cons (.nm 1) (.cons (.nm 2) .nil))))
 (.cons (.for_ (.nm 4) (.r1 (.cI 8))
 CW)
 (.cons (.ret (.cB true))
 .nil)))))
abbrev EJ:Fn:=Au "law" 1 11 9 8 D6
theorem Lk(ds:List D)(h:ds.length=1):EJ.den ds=run 8 D6 ds:=Ap h
end Pu
section
namespace Pu
open PySem
theorem q9A{f n:Nat}{k:Int}(h:f<=n)(e:(n:Int)<k):(f:Int)<k:=acj (aaW.mpr h) e
theorem q9B{f n:Nat}{k:Int}(h:f<=n)(e:(n:Int)<=k):(f:Int)<=k:=ac4 (aaW.mpr h) e
theorem q9F{a:Nat}:¬(a:Int)<0:=aco.mpr (aas a)
theorem q9H{a p:Nat}(h:a<=p):¬(p:Int)<a:=aco.mpr (aaW.mpr h)
theorem q9J{a b c d:Nat}(h:a<=b)(k:b<=c)(e:c<=d):a<=d:=aar h (aar k e)
theorem q9K{a b c d:Nat}(h:a<=b)(k:b<=c)(e:c<d):a<d:=aaF h (aaF k e)
theorem q9L{a b c:Nat}{d:Int}(h:a<=b)(k:b<=c)(e:(c:Int)<=d):(a:Int)<=d:=q9B (aar h k) e
theorem q9N{a b:Nat}(h:(a:Int)<((b:Nat):Int)-0):a<b:=ab7.mp (by rwa [ab9]at h)
theorem q9O{a b:Nat}(h:(a:Int)<((b+1:Nat):Int)-0):a<=b:=aaN (q9N h)
theorem Bo{tg:Tg}{b:Fr->Out}(P:Nat->Fr->Prop):∀{ds:List D}{δ:Fr}(n:Nat),P n δ->(∀i d δ,ds[i]?=some d->P (n+i) δ->∃δ' δ'',Di tg d δ=some δ'/\b δ'=.nxt δ''/\P (n+i+1) δ'')->∃δ',AU tg b ds δ=.nxt δ'/\P (n+ds.length) δ'
 |[],δ,n,h0,_=>⟨δ,rfl,h0⟩
 |d::ds,δ,n,h0,hs=>by
  obtain⟨δ',δ'',e1,e2,h1⟩:=hs 0 d δ rfl h0
  obtain⟨δ3,e3,h3⟩:=Bo P (ds:=ds) (δ:=δ'') (n+1) h1 fun i d δ hd hP=>by
   have:=hs (i+1) d δ (by simpa using hd) (by rw[show n+(i+1)=n+1+i by omega];exact hP)
   rw[show n+(i+1)+1=n+1+i+1 by exact ac2 ..]at this
   exact this
  refine⟨δ3,?_,by rw[aaH,show n+(ds.length+1)=n+1+ds.length by omega];exact h3⟩
  unfold AU
  rw[e1]
  show(b δ').then _=_
  rw[e2]
  exact e3
theorem Co(i j:Int):b2 .add (.int i) (.int j)=.ok (.int (i+j)):=rfl
theorem CY(i j:Int):b2 .sub (.int i) (.int j)=.ok (.int (i-j)):=rfl
theorem Bx(i j:Int)(h1:-(18446744073709551616)<i)(h2:i<18446744073709551616):b2 .mul (.int i) (.int j)=.ok (.int (i*j)):=by
 show(if _ then _ else _)=_;rw[if_pos (.inl ⟨h1,h2⟩)]
theorem BN(i j:Int)(h1:-(18446744073709551616)<j)(h2:j<18446744073709551616):b2 .mul (.int i) (.int j)=.ok (.int (i*j)):=by
 show(if _ then _ else _)=_;rw[if_pos (.inr ⟨h1,h2⟩)]
theorem Cp(i j:Int)(h1:0<j):b2 .mod (.int i) (.int j)=.ok (.int (i%j)):=by
 show(if _ then _ else _)=_;rw[if_pos h1]
theorem BO(i j:Int)(h1:0<j)(h2:j<1606938044258990275541962092341162602522202993782792835301376):b2 .fdiv (.int i) (.int j)=.ok (.int (i/j)):=by
 show(if _ then _ else _)=_;rw[if_pos ⟨h1,h2⟩]
theorem DY(i j:Int)(h1:0<=j)(h2:j<=1000000)(h3:i.natAbs<18446744073709551616):b2 .pow (.int i) (.int j)=.ok (.int (i^j.toNat)):=by
 show(if _ then _ else _)=_;rw[if_pos ⟨h1,h2,h3⟩]
theorem DD(i j:Int):c2 .lt (.int i) (.int j)=.ok (.bl (decide (i<j))):=rfl
theorem DE(i j:Int):c2 .le (.int i) (.int j)=.ok (.bl (decide (i<=j))):=rfl
theorem DF(i j:Int):c2 .gt (.int i) (.int j)=.ok (.bl (decide (j<i))):=rfl
theorem DG(i j:Int):c2 .ge (.int i) (.int j)=.ok (.bl (decide (j<=i))):=rfl
theorem CZ(i j:Int):c2 .eq (.int i) (.int j)=.ok (.bl (i==j)):=rfl
theorem C4(i j:Int):c2 .ne (.int i) (.int j)=.ok (.bl (!(i==j))):=rfl
theorem De(d:D)(r:Fr):get (some d::r) 0=.ok d:=rfl
theorem Dg(o:Option D)(r:Fr)(i:Nat):get (o::r) (i+1)=get r i:=by
 unfold get;rw[aaT]
theorem Ai{n:Nat}{b:Ss}{ds:List D}{d:D}(h:exs b (Pu.AE n ds)=.ret d):run n b ds=.ok d:=by
 unfold run;rw[h]
abbrev Fg(c k:Int):Int:=((((c%2147483629+1013*k+7919)^3%2147483647)*40699+3793*k*k+11)%2147483399)/101
theorem Kl(c k:Int)(hk0:0<=k)(hk:k<=100000):Cb.den [.int c,.int k]=.ok (.int (Fg c k)):=by
 have h1:0<=c%2147483629:=aa3 _ (by decide)
 have h2:c%2147483629<2147483629:=abr _ (by decide)
 have h3:(c%2147483629+1013*k+7919).natAbs<18446744073709551616:=by omega
 have h4:-(18446744073709551616)<k:=by omega
 have h5:k<18446744073709551616:=by omega
 rw[G8 _ rfl]
 simp[run,Cv,exs,ex,ev,evs,get,Co,Bx,BN,Cp,BO,DY,Pu.AE,h3,h4,h5,Fg]
theorem EK{ns:List Int}{d:D}(h:d∈ns.map D.int):∃x,d=.int x:=by
 obtain⟨x,_,e⟩:=aaD.mp h
 exact⟨x,e.symm⟩
theorem Ll{ns:List Int}{d:D}{lo hi:Option Int}{i:Nat}(h:(cut (ns.map D.int) lo hi)[i]?=some d):∃x,d=.int x:=by
 have:=aae h
 unfold cut at this
 exact EK (acJ (acK this))
theorem F2{ns:List Int}{i:Int}(h0:0<=i)(h1:i<ns.length):∃x,ns[i.toNat]?=some x/\atD (ns.map D.int) i=.ok (.int x):=by
 have hl:i.toNat<ns.length:=by omega
 refine⟨ns[i.toNat],aan hl,?_⟩
 unfold atD ixN
 rw[aac,if_pos h0,if_pos h1]
 simp[hl]
theorem Jf(ns:List Int)(p:Int)(hp:0<=p):∃i,Cn.den [.lst (ns.map .int),.int p]=.ok (.int i):=by
 rw[JE _ rfl]
 by_cases h:p<ns.length
 ·obtain⟨x,_,e⟩:=F2 hp h
  refine⟨x,?_⟩
  simp -implicitDefEqProofs [run,exs,ex,ev,evs,evI,evBo,tv,get,Cq,Co,CY,Bx,BN,Cp,BO,DY,DD,DE,DF,DG,CZ,C4,Pu.AE,biD,ixD,DP,Ey,evP,upd,Cf,umD,CM,Ci,Ce,B6,CJ,E.isCN,Ds,on1,on2,on3,Dr,Bt,Dh,CL,Ez,C7,D9,dI,dB,dS,dL,dT',un1,un0,CV,h,e]
 ·obtain⟨δ',e,s,o,rfl⟩:=Bo (tg:=.nm 3) (b:=exs Du) (fun _ δ=>∃(s:Int)(o:Option D),δ=[some (.lst (ns.map .int)),some (.int p),some (.int s),o]) (ds:=cut (ns.map D.int) none (some 63)) (δ:=[some (.lst (ns.map .int)),some (.int p),some (.int 5),none]) 0 ⟨5,none,rfl⟩ (by
   rintro i d δ hd ⟨s,o,rfl⟩
   obtain⟨x,rfl⟩:=Ll hd
   refine⟨_,_,rfl,?_,(s*48271+x%1000003+1)%2147483647,some (.int x),rfl⟩
   simp -implicitDefEqProofs [run,exs,ex,ev,evs,evI,evBo,tv,get,Cq,Co,CY,Bx,BN,Cp,BO,DY,DD,DE,DF,DG,CZ,C4,Pu.AE,biD,ixD,DP,Ey,evP,upd,Cf,umD,CM,Ci,Ce,B6,CJ,E.isCN,Ds,on1,on2,on3,Dr,Bt,Dh,CL,Ez,C7,D9,dI,dB,dS,dL,dT',un1,un0,Du])
  refine⟨(s+7919*p)%1000003,?_⟩
  simp -implicitDefEqProofs [run,exs,ex,ev,evs,evI,evBo,tv,get,Cq,Co,CY,Bx,BN,Cp,BO,DY,DD,DE,DF,DG,CZ,C4,Pu.AE,biD,ixD,DP,Ey,evP,upd,Cf,umD,CM,Ci,Ce,B6,CJ,E.isCN,Ds,on1,on2,on3,Dr,Bt,Dh,CL,Ez,C7,D9,dI,dB,dS,dL,dT',un1,un0,CV,h,e]
theorem C5{a b:Int}{i:Nat}{d:D}(h:(Al a b)[i]?=some d):d=.int (a+i)/\(i:Int)<b-a:=by
 unfold Al at h
 rw[aal]at h
 obtain⟨j,hj,e⟩:=aax.mp h
 obtain⟨h1,h2⟩:=aaA.mp hj
 rw[List.getElem_range]at h2
 subst h2
 rw[aa1]at h1
 exact⟨e.symm,by omega⟩
theorem Cc(a b:Int):(Al a b).length=(b-a).toNat:=by unfold Al;simp
theorem By{a b:Int}(h1:-1000000<=a)(h2:a<=1000000)(h3:-1000000<=b)(h4:b<=1000000):Ix (.int a) (.int b)=.ok (Al a b):=by
 show(if _ then _ else _)=_
 rw[if_pos]
 unfold Bu LIM
 simp -implicitDefEqProofs only[aag,decide_eq_true_eq]
 omega
theorem CC{ns:List Int}{i:Nat}{x:Int}(h:ns[i]?=some x):atD (ns.map D.int) (i:Int)=.ok (.int x):=by
 have hl:=(aaA.mp h).1
 obtain⟨y,e1,e2⟩:=F2 (ns:=ns) (i:=(i:Int)) (by exact aas _) (by exact aaW.mpr hl)
 rw[abm,h]at e1
 cases e1
 exact e2
theorem Hb:b2 .pow (.int 10) (.int 18)=.ok (.int 1000000000000000000):=by
 rw[DY _ _ (by decide) (by decide) (by decide)];rfl
theorem Hc:b2 .pow (.int 10) (.int 59)=.ok (.int 100000000000000000000000000000000000000000000000000000000000):=by
 rw[DY _ _ (by decide) (by decide) (by decide)];rfl
theorem B4(ds:List D)(d:D)(h:ds.length<16777216):umD .append [d] ds=some (ds++[d]):=by
 show(if _ then _ else _)=_
 exact if_pos h
section
variable{ns S xs:List Int}{p c left:Int}{i:Nat}{s:Int}{o2:Option D}(hs:0<s)(hat:atD (S.map D.int) (i:Int)=.ok (.int s))(hi:i<=1000)(hx:xs.length<=1000)
include hs hat hi hx
theorem Tm(h1:c<1000000000000000000) :
  exs Ay [some (.lst (ns.map .int)),some (.int p),some (.lst (S.map .int)),some (.int c),some (.int left),some (.lst (xs.map .int)),some (.int i),o2]=.nxt [some (.lst (ns.map .int)),some (.int p),some (.lst (S.map .int)),some (.int c),some (.int left),some (.lst ((xs++[Fg c i%s]).map .int)),some (.int i),o2]:=by
 have hmx:=Kl c i (by exact aas _) (by exact q9B hi (by decide))
 have hap:=B4 (xs.map D.int) (.int (Fg c i%s)) (by rw[aac];exact aaF hx (by decide))
 simp -implicitDefEqProofs only[Ay,exs,ex,tv,ev,evs,evI,evBo,De,Dg,Res.bind_ok,Res.out_ok,Out.then_nxt,Out.then_ret,aba,aaT,Hb,Hc,Co,CY,Bx,BN,Cp,BO,DD,DE,DF,DG,CZ,C4,Cq,decide_true,decide_false,if_true,if_false,aaM,abt,abv,aby,evP,ixD,DP,Ey,upd,Cf,aaY,act,aap,abQ,biD,CM,Ci,Ce,on1,on2,on3,Dr,Bt,Dh,CL,Ez,C7,D9,dI,dB,dS,dL,dT',un1,un0,B6,CJ,E.isCN,Ds,reduceCtorEq,Int.reduceLT,Int.reduceLE,Int.reduceNeg,Int.reduceBEq,h1,hmx,hat,hs,hap]
theorem Tn(h1:¬c<1000000000000000000)(h2:0<left)(h3:s<1606938044258990275541962092341162602522202993782792835301376) :
  exs Ay [some (.lst (ns.map .int)),some (.int p),some (.lst (S.map .int)),some (.int c),some (.int left),some (.lst (xs.map .int)),some (.int i),o2]=.nxt [some (.lst (ns.map .int)),some (.int p),some (.lst (S.map .int)),some (.int c),some (.int (left/s)),some (.lst ((xs++[left%s]).map .int)),some (.int i),o2]:=by
 have hap:=B4 (xs.map D.int) (.int (left%s)) (by rw[aac];exact aaF hx (by decide))
 simp -implicitDefEqProofs only[Ay,exs,ex,tv,ev,evs,evI,evBo,De,Dg,Res.bind_ok,Res.out_ok,Out.then_nxt,Out.then_ret,aba,aaT,Hb,Hc,Co,CY,Bx,BN,Cp,BO,DD,DE,DF,DG,CZ,C4,Cq,decide_true,decide_false,if_true,if_false,aaM,abt,abv,aby,evP,ixD,DP,Ey,upd,Cf,aaY,act,aap,abQ,biD,CM,Ci,Ce,on1,on2,on3,Dr,Bt,Dh,CL,Ez,C7,D9,dI,dB,dS,dL,dT',un1,un0,B6,CJ,E.isCN,Ds,reduceCtorEq,Int.reduceLT,Int.reduceLE,Int.reduceNeg,Int.reduceBEq,h1,h2,h3,hat,hs,hap]
theorem To(h1:¬c<1000000000000000000)(h2:¬0<left){q:Int}(hq:Cn.den [.lst (ns.map .int),.int ((p+1+i)%63)]=.ok (.int q)) :
  exs Ay [some (.lst (ns.map .int)),some (.int p),some (.lst (S.map .int)),some (.int c),some (.int left),some (.lst (xs.map .int)),some (.int i),o2]=.nxt [some (.lst (ns.map .int)),some (.int p),some (.lst (S.map .int)),some (.int c),some (.int left),some (.lst ((xs++[Fg q i%s]).map .int)),some (.int i),some (.int q)]:=by
 have hmx:=Kl q i (by exact aas _) (by exact q9B hi (by decide))
 have hap:=B4 (xs.map D.int) (.int (Fg q i%s)) (by rw[aac];exact aaF hx (by decide))
 simp -implicitDefEqProofs only[Ay,exs,ex,tv,ev,evs,evI,evBo,De,Dg,Res.bind_ok,Res.out_ok,Out.then_nxt,Out.then_ret,aba,aaT,Hb,Hc,Co,CY,Bx,BN,Cp,BO,DD,DE,DF,DG,CZ,C4,Cq,decide_true,decide_false,if_true,if_false,aaM,abt,abv,aby,evP,ixD,DP,Ey,upd,Cf,aaY,act,aap,abQ,biD,CM,Ci,Ce,on1,on2,on3,Dr,Bt,Dh,CL,Ez,C7,D9,dI,dB,dS,dL,dT',un1,un0,B6,CJ,E.isCN,Ds,reduceCtorEq,Int.reduceLT,Int.reduceLE,Int.reduceNeg,Int.reduceBEq,h1,h2,hq,hmx,hat,hs,hap,Int.reduceLT]
end
theorem Fx(ns:List Int)(p:Int)(hp:0<=p)(S:List Int)(hl:S.length<=1000)(hS:∀s∈S,0<s/\s<1606938044258990275541962092341162602522202993782792835301376) :
  ∃xs:List Int,A6.den [.lst (ns.map .int),.int p,.lst (S.map .int)]=.ok (.lst (xs.map .int))/\xs.length=S.length/\∀(j:Nat)(x s:Int),xs[j]?=some x->S[j]?=some s->0<=x/\x<s:=by
 obtain⟨c,hc⟩:=Jf ns p hp
 obtain⟨δ',e,left,xs,o1,o2,rfl,hx,hb⟩:=Bo (tg:=.nm 6) (b:=exs Ay) (fun i δ=>∃(left:Int)(xs:List Int)(o1 o2:Option D),δ=[some (.lst (ns.map .int)),some (.int p),some (.lst (S.map .int)),some (.int c),some (.int left),some (.lst (xs.map .int)),o1,o2]/\xs.length=i/\∀(j:Nat)(x s:Int),xs[j]?=some x->S[j]?=some s->0<=x/\x<s)
  (ds:=Al 0 (S.length:Int)) (δ:=[some (.lst (ns.map .int)),some (.int p),some (.lst (S.map .int)),some (.int c),some (.int c),some (.lst []),none,none]) 0 ⟨c,[],none,none,rfl,rfl,by simp⟩ (by
   rintro i d δ hd ⟨left,xs,o1,o2,rfl,hx,hb⟩
   obtain⟨rfl,hi⟩:=C5 hd
   have hx:xs.length=i:=by omega
   have hi':i<S.length:=by exact aaW.mp hi
   have hs:S[i]?=some S[i]:=aan hi'
   have hsp:=hS S[i] (List.getElem_mem hi')
   have hat:=CC hs
   generalize S[i]=s at hs hsp hat
   have fin:∀z:Int,0<=z->z<s->∀(j:Nat)(x s:Int),(xs++[z])[j]?=some x->S[j]?=some s->0<=x/\x<s:=by
    intro z h0 h1 j x s e1 e2
    by_cases hj:j<xs.length
    ·rw[aa2 hj]at e1
     exact hb j x s e1 e2
    ·rw[aaP (by exact abP.mp hj)]at e1
     have:j=i:=by
      have:=(aaA.mp e1).1
      simp at this;omega
     subst this
     rw[hx,Nat.sub_self]at e1
     rw[hs]at e2
     cases e2;cases e1
     exact⟨h0,h1⟩
   have md:∀y:Int,0<=y%s/\y%s<s:=fun y=>⟨aa3 _ (by omega),abr _ hsp.1⟩
   have hz:(0:Int)+(i:Int)=(i:Int):=by omega
   rw[hz]
   have len:∀z:Int,(xs++[z]).length=0+i+1:=fun z=>by rw[aaI,hx];simp
   by_cases h1:c<1000000000000000000
   ·exact⟨_,_,rfl,Tm hsp.1 hat (by omega) (by omega) h1,left,xs++[Fg c i%s],some (.int i),o2,rfl,len _,fin _ (md _).1 (md _).2⟩
   ·by_cases h2:0<left
    ·exact⟨_,_,rfl,Tn hsp.1 hat (by omega) (by omega) h1 h2 hsp.2,left/s,xs++[left%s],some (.int i),o2,rfl,len _,fin _ (md _).1 (md _).2⟩
    ·obtain⟨q,hq⟩:=Jf ns ((p+1+i)%63) (aa3 _ (by decide))
     exact⟨_,_,rfl,To hsp.1 hat (by omega) (by omega) h1 h2 hq,left,xs++[Fg q i%s],some (.int i),some (.int q),rfl,len _,fin _ (md _).1 (md _).2⟩)
 refine⟨xs,?_,by rw[hx,Cc];exact ab6 ..,hb⟩
 have hr:=By (a:=0) (b:=(S.length:Int)) (by exact by decide) (by exact by decide) (by exact aas _) (by exact q9B hl (by decide))
 refine(G9 _ rfl).trans (Ai ?_)
 simp -implicitDefEqProofs only[Pu.AE,abe,aak,aa8,aaX,Cw,exs,ex,tv,ev,evs,evI,evBo,De,Dg,Res.bind_ok,Res.out_ok,Out.then_nxt,Out.then_ret,aba,aaT,Hb,Hc,Co,CY,Bx,BN,Cp,BO,DD,DE,DF,DG,CZ,C4,Cq,decide_true,decide_false,if_true,if_false,aaM,abt,abv,aby,evP,ixD,DP,Ey,upd,Cf,aaY,act,aap,abQ,biD,CM,Ci,Ce,on1,on2,on3,Dr,Bt,Dh,CL,Ez,C7,D9,dI,dB,dS,dL,dT',un1,un0,B6,CJ,E.isCN,Ds,reduceCtorEq,Int.reduceLT,Int.reduceLE,Int.reduceNeg,Int.reduceBEq,hc,aac,hr,e]
theorem Jg(i:Int):FK.den [.int i]=.ok (.bl true):=rfl
theorem Eo(i a b:Int):Cr.den [.int i,.int a,.int b]=.ok (.bl (decide (a<=i/\i<=b))):=by
 refine(HQ _ rfl).trans (Ai ?_)
 by_cases h1:a<=i<;>by_cases h2:i<=b<;>simp -implicitDefEqProofs only[Pu.AE,abe,aak,aa8,aaX,CO,exs,ex,tv,ev,evs,evI,evBo,De,Dg,Res.bind_ok,Res.out_ok,Out.then_nxt,Out.then_ret,aba,aaT,Hb,Hc,Co,CY,Bx,BN,Cp,BO,DD,DE,DF,DG,CZ,C4,Cq,decide_true,decide_false,if_true,if_false,aaM,abt,abv,aby,evP,ixD,DP,Ey,upd,Cf,aaY,act,aap,abQ,biD,CM,Ci,Ce,on1,on2,on3,Dr,Bt,Dh,CL,Ez,C7,D9,dI,dB,dS,dL,dT',un1,un0,B6,CJ,E.isCN,Ds,reduceCtorEq,Int.reduceLT,Int.reduceLE,Int.reduceNeg,Int.reduceBEq,Jg,h1,h2,and_self,and_true,and_false]
theorem at0(a b:D):atD [a,b] 0=.ok a:=rfl
theorem at1(a b:D):atD [a,b] 1=.ok b:=rfl
theorem Qm(b:Bool):D.flat 9 9 (.bl b)=true:=rfl
theorem T2{xs:List Int}(h:xs.length=1):∃a,xs=[a]:=by
 match xs,h with
 |[a],_=>exact⟨a,rfl⟩
section
variable(a b c d e f:D)
theorem T3:atD [a] 0=.ok a:=rfl
end
theorem HF{f:D->Res (Option D)}{g:D->Option D}:∀{ds:List D},(∀d∈ds,f d=.ok (g d))->A7 f ds=.ok (ds.filterMap g)
 |[],_=>rfl
 |d::ds,h=>by
  unfold A7
  rw[h d aab,HF (ds:=ds) fun x hx=>h x (aaa _ hx)]
  show Res.ok _=_
  rw[abA]
  cases g d<;>rfl
theorem F3{nl:Nat}{fr:List Nat}{tg:Tg}{it:It}{elt:E}{δ:Fr}{ds:List D}{g:D->D}(hi:evI it δ=.ok ds)(h:∀d∈ds,∃δ',Di tg d (blk nl fr δ)=some δ'/\ev elt δ'=.ok (g d)):ev (.comp0 nl fr tg it elt) δ=.ok (.lst (ds.map g)):=by
 rw[ev,hi,Res.bind_ok,HF (g:=fun d=>some (g d)) (fun d hd=>by
  obtain⟨δ',e1,e2⟩:=h d hd
  rw[e1]
  show(ev elt δ').bind _=_
  rw[e2];rfl),Res.bind_ok,List.filterMap_eq_map']
theorem D7{c:Fr->Res Bool}{b:Fr->Out}(P:Nat->Fr->Prop):∀(k n m:Nat){δ:Fr},P m δ->(∀i δ,m<=i->i<m+k->P i δ->c δ=.ok true/\∃δ',b δ=.nxt δ'/\P (i+1) δ')->(∀δ,P (m+k) δ->c δ=.ok false)->k<n->∃δ',AM c b n δ=.nxt δ'/\P (m+k) δ'
 |0,n+1,m,δ,h0,_,h2,_=>by
  refine⟨δ,?_,h0⟩
  unfold AM
  rw[h2 δ h0];rfl
 |k+1,n+1,m,δ,h0,h1,h2,hn=>by
  obtain⟨e1,δ',e2,h3⟩:=h1 m δ (aaj _) (by omega) h0
  obtain⟨δ2,e4,h4⟩:=D7 P k n (m+1) h3 (fun i δ hi hl=>h1 i δ (by exact aao hi) (by omega)) (fun δ hd=>h2 δ (by rw[show m+(k+1)=m+1+k by omega];exact hd)) (by exact aaN hn)
  refine⟨δ2,?_,by rw[show m+(k+1)=m+1+k by omega];exact h4⟩
  unfold AM
  rw[e1,Res.out_ok,if_pos rfl,e2]
  exact e4
theorem MT(xs:List D)(h:xs.all (D.shp 7)=true):c2 .ne (.lst xs) (.lst [])=.ok (.bl (!xs.isEmpty)):=by
 show(if(D.shp 8 (.lst xs)&&D.shp 8 (.lst [])) then _ else _)=_
 rw[show D.shp 8 (.lst xs)=true from h,show D.shp 8 (.lst [])=true from rfl]
 cases xs<;>rfl
theorem Qn(a b:List D)(h:a.length+b.length<=16777216):b2 .add (.lst a) (.lst b)=.ok (.lst (a++b)):=by
 show(if _ then _ else _)=_
 exact if_pos h
abbrev cnt(p f i:Nat):Nat:=(p+f^i-1)/f^i
theorem F5(p f:Nat):cnt p f 0=p:=by unfold cnt;simp
theorem Jh{p f:Nat}(hf:1<=f)(i:Nat):cnt p f (i+1)=(cnt p f i+f-1)/f:=by
 unfold cnt
 have hw:0<f^i:=abk (by exact hf)
 have h1:(p+f^i-1)/f^i+f-1=(p+f^(i+1)-1)/f^i:=by
  have e:p+f^(i+1)-1=(p+f^i-1)+f^i*(f-1):=by
   have:f^(i+1)=f^i*(f-1)+f^i:=by
    rw[aaV,<- Nat.mul_succ];congr 1;omega
   omega
  rw[e,acL _ _ hw]
  generalize (p+f^i-1)/f^i=q
  omega
 rw[h1,ab0,aaV]
structure Hs(p f h:Nat):Prop where
 one:cnt p f h=1
 more:∀i,i<h->1<cnt p f i
theorem Km{p f h:Nat}(hf:1<=f)(hh:p<=f^h)(hp:1<=p):cnt p f h=1:=by
 unfold cnt
 have hw:0<f^h:=abk (by exact hf)
 apply acU<;>omega
theorem OO{p f:Nat}(hf:2<=f)(hp:1<=p):∀n:Nat,p<=f^n->∃h,h<=n/\Hs p f h
 |0,h=>⟨0,aaj _,Km (by exact aao hf) h hp,fun i hi=>absurd hi (by exact absurd hi (acy _))⟩
 |n+1,h=>by
  by_cases hn:p<=f^n
  ·obtain⟨k,h1,h2⟩:=OO hf hp n hn
   exact⟨k,by exact acn h1,h2⟩
  ·refine⟨n+1,aaj _,Km (by exact aao hf) h hp,fun i hi=>?_⟩
   unfold cnt
   have hw:0<f^i:=abk (by exact aao hf)
   have hm:f^i<=f^n:=aca (by exact aao hf) (by exact aaN hi)
   have:2<=(p+f^i-1)/f^i:=by
    rw[acG hw];omega
   exact this
theorem hs8{p f:Nat}(hf:2<=f)(hp:1<=p)(hp2:p<=200):∃h,h<=8/\Hs p f h:=by
 refine OO hf hp 8 (aar (show p<=2^8 by exact aar hp2 (by decide)) (acV hf 8))
theorem Sm{f l:Nat}(hf:f<=8)(hl:l<=9):f^l<=134217728 :=
 aar (acV hf l) (aar (aca (by decide) hl) (by decide))
theorem Bz{p f l j:Nat}(hf:1<=f):j<cnt p f l ↔ j*f^l<p:=by
 unfold cnt
 have hw:0<f^l:=abk (by exact hf)
 rw[<- Nat.succ_le_iff,acG hw,ab5]
 omega
theorem Ep{p f l:Nat}(hf:1<=f):cnt p f l<=p:=by
 apply abN
 intro h
 have:=(Bz hf).mp h
 have hw:0<f^l:=abk (by exact hf)
 have:=Nat.le_mul_of_pos_right p hw
 omega
abbrev mx(b:Nat->Bool):Nat->Nat
 |0=>0
 |l+1=>if b (l+1) then l+1 else mx b l
theorem Ic(b:Nat->Bool):∀n,mx b n<=n
 |0=>aaj _
 |l+1=>by unfold mx;split;exact aaj _;exact acn (Ic b l)
theorem Lm{b:Nat->Bool}(h0:b 0=true):∀n,b (mx b n)=true
 |0=>h0
 |l+1=>by unfold mx;split;assumption;exact Lm h0 l
theorem OP{b:Nat->Bool}:∀n l,mx b n<l->l<=n->b l=false
 |0,l,h,h2=>by unfold mx at h;exact absurd h2 (Nat.not_le.mpr h)
 |n+1,l,h,h2=>by
  unfold mx at h
  split at h
  ·exact absurd h2 (Nat.not_le.mpr h)
  ·rename_i hb
   by_cases e:l=n+1
   ·subst e;simpa using hb
   ·exact OP n l h (by omega)
abbrev okL(p f a e l:Nat):Bool:=a%f^l==0&&decide (min p (a+f^l)<=e)
theorem Er{p f a e l:Nat}:okL p f a e l=true ↔ a%f^l=0/\min p (a+f^l)<=e:=by unfold okL;simp
theorem Of{p f a e l k:Nat}(hf:1<=f)(h:okL p f a e l=true)(hk:k<=l):okL p f a e k=true:=by
 rw[Er]at h ⊢
 refine⟨Nat.mod_eq_zero_of_dvd (Nat.dvd_trans (Nat.pow_dvd_pow f hk) (Nat.dvd_of_mod_eq_zero h.1)),?_⟩
 have:f^k<=f^l:=aca hf hk
 omega
abbrev lvA(p f h e a:Nat):Nat:=mx (okL p f a e) h
abbrev nxA(p f h e a:Nat):Nat:=min p (a+f^lvA p f h e a)
abbrev cov(p f h e:Nat):Nat->Nat->List (Nat×Nat)
 |0,_=>[]
 |n+1,a=>if a<e then(lvA p f h e a,a/f^lvA p f h e a)::cov p f h e n (nxA p f h e a) else []
theorem Sn{p f a e:Nat}(h:a<e):okL p f a e 0=true:=by
 rw[Er,abY,adf];omega
theorem GF{p f h a e:Nat}(hae:a<e):a%f^lvA p f h e a=0/\nxA p f h e a<=e:=Er.mp (Lm (Sn hae) h)
theorem MU{p f h a e:Nat}(hf:1<=f)(hae:a<e)(hep:e<=p):a<nxA p f h e a:=by
 unfold nxA
 have:0<f^lvA p f h e a:=abk (by exact hf)
 omega
end Pu
end
section
open Pu
local macro_rules | `(tactic| simp_arith [$xs,*] $[at $h:ident]?)=>`(tactic| simp -implicitDefEqProofs only [Pu.AE,abe,aak,aa8,aaX,↓reduceIte,aaL,Nat.reduceAdd,Nat.reduceSub,aci,Int.reduceAdd,Int.reduceSub,Int.reduceMul,at0,at1,beq_self_eq_true,acO,Bool.and_true,ack,acf,acF,exs,ex,tv,ev,evs,evI,evBo,De,Dg,Res.bind_ok,Res.out_ok,Out.then_nxt,Out.then_ret,aba,aaT,Hb,Hc,Co,CY,Bx,BN,Cp,BO,DD,DE,DF,DG,CZ,C4,Cq,decide_true,decide_false,if_true,if_false,aaM,abt,abv,aby,evP,ixD,DP,Ey,upd,Cf,aaY,act,aap,abQ,biD,CM,Ci,Ce,on1,on2,on3,Dr,Bt,Dh,CL,Ez,C7,D9,dI,dB,dS,dL,dT',un1,un0,B6,CJ,E.isCN,Ds,reduceCtorEq,Int.reduceLT,Int.reduceLE,Int.reduceNeg,Int.reduceBEq,$xs,*] $[at $h:ident]?)
namespace Pu
open PySem
theorem GG{c:Fr->Res Bool}{b:Fr->Out}{n:Nat}{δ δ':Fr}(h1:c δ=.ok true)(h2:b δ=.nxt δ'):AM c b (n+1) δ=AM c b n δ':=by
 rw[AM,h1,Res.out_ok,if_pos rfl,h2,Out.then_nxt]
theorem DH{c:Fr->Res Bool}{b:Fr->Out}{n:Nat}{δ:Fr}(h1:c δ=.ok false):AM c b (n+1) δ=.nxt δ:=by
 rw[AM,h1,Res.out_ok];rfl
abbrev iN(n:Nat):D:=.int n
abbrev AX(xs:List Nat):D:=.lst (xs.map iN)
abbrev lvD(p f h:Nat):List Nat:=(aam (h+1)).map (cnt p f)
abbrev shD(p f:Nat):D:=.tup [.int p,.int f]
abbrev Af(l j:Nat):D:=.tup [.int l,.int j]
theorem MV{m f:Nat}(hf:1<=f):((m:Int)+(f:Int)-1)/(f:Int)=(((m+f-1)/f:Nat):Int):=by
 rw[Int.natCast_ediv];congr 1;omega
theorem Ji{xs:List Nat}{i:Nat}(h:i<xs.length):atD (xs.map iN) (i:Int)=.ok (.int (xs[i]:Nat)):=by
 unfold atD ixN
 rw[aac,if_pos (by exact aas _),if_pos (by exact aaW.mpr h)]
 simp[h,iN]
theorem Fy(p f i:Nat):((aam (i+1)).map (cnt p f)).map iN=((aam i).map (cnt p f)).map iN++[.int (cnt p f i)]:=by
 rw[abW,aap,aap];rfl
section
variable{p f h:Nat}(hf:2<=f)(hf8:f<=8)(H:Hs p f h)(hh:h<=8)
include hf hf8 H hh
theorem Qo(xs:List D)(hl:xs.length<=1000)(i:Nat):exs Cm [some (shD p f),some (.int f),some (.lst xs),some (.int (cnt p f i))]=.nxt [some (shD p f),some (.int f),some (.lst (xs++[.int (cnt p f i)])),some (.int (cnt p f (i+1)))]:=by
 have hap:=B4 xs (.int (cnt p f i)) (by exact aaF hl (by decide))
 have h1:0<(f:Int):=by exact aaW.mpr (aao hf)
 have h2:(f:Int)<1606938044258990275541962092341162602522202993782792835301376:=by exact q9A hf8 (by decide)
 rw[Jh (by exact aao hf),<- MV (by exact aao hf)]
 simp_arith[Cm,hap,h1,h2]
theorem Qp:AM (tv (.cmp .gt (.nm 3) (.cI 1))) (exs Cm) FU [some (shD p f),some (.int f),some (.lst []),some (.int p)]=.nxt [some (shD p f),some (.int f),some (.lst (((aam h).map (cnt p f)).map iN)),some (.int (1:Nat))]:=by
 obtain⟨δ',e,rfl⟩:=D7 (c:=tv (.cmp .gt (.nm 3) (.cI 1))) (b:=exs Cm) (fun i δ=>δ=[some (shD p f),some (.int f),some (.lst (((aam i).map (cnt p f)).map iN)),some (.int (cnt p f i))]) h FU 0 (δ:=[some (shD p f),some (.int f),some (.lst []),some (.int p)]) (by rw[F5];rfl) (by
   rintro i δ _ hi rfl
   have:=H.more i (by omega)
   have h1:(1:Int)<(cnt p f i:Int):=by exact aaW.mpr this
   refine⟨?_,_,Qo hf hf8 H hh _ (by simp;omega) i,by rw[Fy]⟩
   simp_arith[h1]) (by
   rintro δ rfl
   rw[aaL,H.one]
   rfl) (by unfold FU;exact aaF hh (by decide))
 rw[e,aaL,H.one]
theorem EL:Dp.den [shD p f]=.ok (AX (lvD p f h)):=by
 have hl:=Qp hf hf8 H hh
 have hap:=B4 (((aam h).map (cnt p f)).map iN) (.int (1:Nat)) (by simp;exact aaF hh (by decide))
 have e:=Fy p f h
 rw[H.one]at e
 refine(MS _ rfl).trans (Ai ?_)
 unfold AX lvD
 rw[e]
 unfold shD at hl ⊢
 have h1:((1:Nat):Int)=1:=rfl
 rw[h1]at hap hl ⊢
 simp_arith[EG,hl,hap]
end
theorem BP(p f h:Nat):(lvD p f h).length=h+1:=by unfold lvD;simp
theorem Fz{p f h i:Nat}(hi:i<=h):(lvD p f h)[i]'(by rw[BP];exact abi hi)=cnt p f i:=by unfold lvD;simp
section
variable{p f h:Nat}(hf:2<=f)(hf8:f<=8)(H:Hs p f h)(hh:h<=8){l j:Nat}(hl:l<=h)(hj:j<cnt p f l)
include hl hj
theorem Kn:Bg.den [AX (lvD p f h),Af l j]=.ok (.bl true):=by
 have h1:=Eo (l:Int) 0 (((lvD p f h).length:Int)-1)
 rw[BP,decide_eq_true (by omega)]at h1
 have h2:=Eo (j:Int) 0 ((cnt p f l:Int)-1)
 rw[decide_eq_true (by omega)]at h2
 have h3:=Ji (xs:=lvD p f h) (i:=l) (by rw[BP];exact abi hl)
 rw[Fz hl]at h3
 have h4:(h:Int)+1-1=h:=by omega
 refine(Ff _ rfl).trans (Ai ?_)
 unfold AX Af
 have h5:=BP p f h
 simp_arith[Br,h1,h2,h3,h5,aac,aaL,Nat.reduceAdd,aci]
end
theorem Ko{n:Nat}{b:Ss}{ds:List D}{δ:Fr}(h:exs b (Pu.AE n ds)=.nxt δ):run n b ds=.ok .non:=by
 unfold run;rw[h]
theorem MW(a b c d:Int):c2 .eq (.tup [.int a,.int b]) (.tup [.int c,.int d])=.ok (.bl (a==c&&(b==d&&true))):=rfl
theorem So(a b c d:Int):c2 .ne (.tup [.int a,.int b]) (.tup [.int c,.int d])=.ok (.bl !(a==c&&(b==d&&true))):=rfl
theorem Og(xs:List Nat)(k:Nat):(xs.map iN).all (D.shp k)=true:=by
 rw[aay]
 intro d hd
 obtain⟨n,_,rfl⟩:=aaD.mp hd
 cases k<;>rfl
theorem Fh(xs:List D)(h:xs.all (D.shp 7)=true):c2 .eq (.lst xs) (.lst [])=.ok (.bl xs.isEmpty):=by
 show(if(D.shp 8 (.lst xs)&&D.shp 8 (.lst [])) then _ else _)=_
 rw[show D.shp 8 (.lst xs)=true from h,show D.shp 8 (.lst [])=true from rfl]
 cases xs<;>rfl
section
variable{p f h:Nat}(hf:2<=f)(hf8:f<=8)(H:Hs p f h)(hh:h<=8)
include hf hf8 H hh
section
variable{l j:Nat}(hl:l<=h)(hj:j<cnt p f l)
include hl hj
theorem JF:EH.den [shD p f,Af l j]=.ok (.bl true):=by
 have h1:=EL hf hf8 H hh
 have h2:=Kn hl hj
 refine(Lj _ rfl).trans (Ai ?_)
 simp_arith[D3,h1,h2]
theorem Cd:BJ.den [shD p f,Af l j]=.ok .non:=by
 have h1:=JF hf hf8 H hh hl hj
 refine(HR _ rfl).trans (Ko (δ:=[some (shD p f),some (Af l j)]) ?_)
 simp_arith[CP,h1]
end
theorem MX(l j:Nat):∃o,AU (.nm 3) (exs D4) (Al 0 (l:Int)) [some (shD p f),some (Af l j),some (.int 1),none,none]=.nxt [some (shD p f),some (Af l j),some (.int ((f^l:Nat):Int)),o,none]:=by
 obtain⟨δ',e,o,rfl⟩:=Bo (tg:=.nm 3) (b:=exs D4) (fun i δ=>∃o,δ=[some (shD p f),some (Af l j),some (.int ((f^i:Nat):Int)),o,none]) (ds:=Al 0 (l:Int)) (δ:=[some (shD p f),some (Af l j),some (.int 1),none,none]) 0 ⟨none,rfl⟩ (by
  rintro i d δ hd ⟨o,rfl⟩
  refine⟨_,_,rfl,?_,some d,rfl⟩
  have h1:-(18446744073709551616)<(f:Int):=by exact aas _
  have h2:(f:Int)<18446744073709551616:=by exact q9A hf8 (by decide)
  rw[aaV,aaL,aa5]
  unfold shD
  simp_arith[D4,h1,h2])
 rw[Cc,ab9,abm,aaL]at e
 exact⟨o,e⟩
theorem Jj{l j:Nat}(hl:l<=h)(hj:j<cnt p f l):Ca.den [shD p f,Af l j]=.ok (Af (j*f^l) (min p (j*f^l+f^l))):=by
 have hc:=Cd hf hf8 H hh hl hj
 obtain⟨o,e⟩:=MX hf hf8 H hh l j
 have hr:=By (a:=0) (b:=(l:Int)) (by exact by decide) (by exact by decide) (by exact aas _) (by exact q9L hl hh (by decide))
 have hw:=Sm (f:=f) (l:=l) hf8 (by exact q9J hl hh (by decide))
 have h1:-(18446744073709551616)<((f^l:Nat):Int):=by exact aas _
 have h2:((f^l:Nat):Int)<18446744073709551616:=by exact q9A hw (by decide)
 refine(Ql _ rfl).trans (Ai ?_)
 generalize f^l=w at *
 have h3:(((min p (j*w+w):Nat)):Int)=min ((j:Int)*w+w) p:=by rw[<- aa5];omega
 unfold Af at e hc ⊢
 unfold shD at e hc ⊢
 rw[h3,aa5]
 simp_arith[GA,hc,hr,e,h1,h2]
theorem Jk:Jc.den [shD p f]=.ok (Af h 0):=by
 have h1:=EL hf hf8 H hh
 have h2:=Fh ((lvD p f h).map iN) (Og _ _)
 have h3:((lvD p f h).map iN).isEmpty=false:=by
  rw[List.isEmpty_eq_false_iff_exists_mem]
  refine⟨iN (cnt p f 0),aaD.mpr ⟨cnt p f 0,?_,rfl⟩⟩
  exact aaD.mpr ⟨0,by simp,rfl⟩
 rw[h3]at h2
 have h5:=BP p f h
 refine(Sl _ rfl).trans (Ai ?_)
 unfold AX at h1
 unfold Af
 have h6:(((h+1:Nat):Int)-1)=h:=by omega
 simp_arith[Ib,h1,h2,h5,h6,aac]
theorem Hd:B3.den [shD p f,Af h 0]=.ok .non:=by
 have hc:=Cd hf hf8 H hh (l:=h) (j:=0) (aaj _) (by rw[H.one];decide)
 have ht:=Jk hf hf8 H hh
 have h1:(((h:Int)==(h:Int))&&(((0:Int)==(0:Int))&&true))=true:=by simp
 refine(HD _ rfl).trans (Ai ?_)
 unfold Af at hc ht ⊢
 rw[show((0:Nat):Int)=0 from rfl]at *
 simp_arith[DV,hc,ht,MW,h1]
theorem Ln{l j:Nat}(hl:l<h)(hj:j<cnt p f l):B3.den [shD p f,Af l j]=.ok (Af (l+1) (j/f)):=by
 have hc:=Cd hf hf8 H hh (l:=l) (j:=j) (by exact aao hl) hj
 have ht:=Jk hf hf8 H hh
 have h1:(((l:Int)==(h:Int))&&((j:Int)==(0:Int)))=false:=by
  have:((l:Int)==(h:Int))=false:=by simp;omega
  rw[this];rfl
 have h2:0<(f:Int):=by exact aaW.mpr (aao hf)
 have h3:(f:Int)<1606938044258990275541962092341162602522202993782792835301376:=by exact q9A hf8 (by decide)
 refine(HD _ rfl).trans (Ai ?_)
 unfold Af shD at *
 rw[Int.natCast_ediv,Int.natCast_add]
 rw[show((0:Nat):Int)=0 from rfl]at ht
 simp_arith[DV,hc,ht,MW,h1,h2,h3,Int.natCast_one]
end
theorem Oh(a b c d:Int):A5.den [.tup [.int a,.int b],.int c,.int d]=.ok (.bl (decide (c<=a/\b<=d))):=by
 refine(G7 _ rfl).trans (Ai ?_)
 by_cases h1:c<=a<;>by_cases h2:b<=d<;>simp_arith[Cu,h1,h2,and_self,and_true,and_false]
theorem Qq(a b k:Nat):D.flat 9 k (Af a b)=true:=rfl
abbrev Ag(q:Nat×Nat):D:=Af q.1 q.2
abbrev Jl(p f h e n a:Nat):List D:=(cov p f h e n a).map Ag
section
variable{p f h:Nat}(hf:2<=f)(hf8:f<=8)(H:Hs p f h)(hh:h<=8)
include hf hf8 H hh
section
variable{a e:Nat}(hae:a<e)(hep:e<=p)
include hae hep
theorem GH(l:Nat):a/f^l<cnt p f l:=by
 rw[Bz (by exact aao hf)]
 have:=acW a (f^l)
 omega
theorem Sq(l:Nat)(hl:l<h):B3.den [shD p f,Af l (a/f^l)]=.ok (Af (l+1) (a/f^(l+1))):=by
 have:=Ln hf hf8 H hh hl (GH hf hf8 H hh hae hep l)
 rw[ab0,<- aaV]at this
 exact this
theorem MY(l:Nat)(hl:l<=h)(h0:a%f^l=0\/True):∃b c:Nat,Ca.den [shD p f,Af l (a/f^l)]=.ok (Af b c)/\A5.den [Af b c,.int a,.int e]=.ok (.bl (okL p f a e l)):=by
 refine⟨_,_,Jj hf hf8 H hh hl (GH hf hf8 H hh hae hep l),?_⟩
 unfold Af
 rw[Oh]
 congr 2
 have hw:0<f^l:=abk (by exact aao hf)
 have hm:=abF a (f^l)
 rw[abf]at hm
 rw[Bool.eq_iff_iff,decide_eq_true_eq,Er]
 generalize f^l=w at *
 generalize a/w=q at *
 generalize a%w=r at *
 generalize q*w=x at *
 constructor
 ·rintro⟨h1,h2⟩
  have:r=0:=by omega
  omega
 ·rintro⟨h1,h2⟩
  omega
abbrev upD(p f h a l:Nat):D:=if l=h then .non else Af (l+1) (a/f^(l+1))
theorem OQ(l:Nat)(hl:l<=h):B3.den [shD p f,Af l (a/f^l)]=.ok (upD p f h a l):=by
 unfold upD
 by_cases e':l=h
 ·rw[if_pos e']
  have h0:a/f^l=0:=by
   have:=GH hf hf8 H hh hae hep l
   rw[e',H.one,<- e']at this
   exact Nat.lt_one_iff.mp this
  rw[h0,e']
  exact Hd hf hf8 H hh
 ·rw[if_neg e']
  exact Sq hf hf8 H hh hae hep l (by exact abG hl e')
theorem Kp(l:Nat)(hl:l<=h):tv (.bo true (.cons (.isN true (.nm 4)) (.cons (.call A5 (.cons (.callB Ca (.cons (.nm 0) (.cons (.nm 4) .nil))) (.cons (.nm 1) (.cons (.nm 2) .nil)))) .nil))) [some (shD p f),some (.int a),some (.int e),some (Af l (a/f^l)),some (upD p f h a l)]=.ok (decide (l<h)&&okL p f a e (l+1)):=by
 unfold upD
 by_cases e':l=h
 ·have h1:decide (l<h)=false:=by simp;exact abd e'.symm
  rw[if_pos e',h1]
  simp_arith[]
 ·have h1:decide (l<h)=true:=by simp;exact abG hl e'
  rw[if_neg e',h1]
  obtain⟨b,c,h2,h3⟩:=MY hf hf8 H hh hae hep (l+1) (by exact abG hl e') (.inr trivial)
  have h4:=Qq b c Ca.dep
  simp_arith[show(Af (l+1) (a/f^(l+1)))=.tup [.int ((l+1:Nat):Int),.int ((a/f^(l+1):Nat):Int)] from rfl]
  rw[show D.tup [.int ((l+1:Nat):Int),.int ((a/f^(l+1):Nat):Int)]=(Af (l+1) (a/f^(l+1))) from rfl,h2]
  simp_arith[h4,h3]
theorem Qr(l:Nat)(hl:l<h):exs Bb [some (shD p f),some (.int a),some (.int e),some (Af l (a/f^l)),some (upD p f h a l)]=.nxt [some (shD p f),some (.int a),some (.int e),some (Af (l+1) (a/f^(l+1))),some (upD p f h a (l+1))]:=by
 have h1:upD p f h a l=Af (l+1) (a/f^(l+1)):=by unfold upD;rw[if_neg (by exact aaE hl)]
 have h2:=OQ hf hf8 H hh hae hep (l+1) (by exact hl)
 rw[h1]
 simp_arith[Bb,h2]
theorem Sr:Cg.den [shD p f,.int a,.int e]=.ok (Af (lvA p f h e a) (a/f^lvA p f h e a)):=by
 have hm:lvA p f h e a<=h:=Ic _ _
 obtain⟨δ',e',rfl⟩:=D7 (c:=tv (.bo true (.cons (.isN true (.nm 4)) (.cons (.call A5 (.cons (.callB Ca (.cons (.nm 0) (.cons (.nm 4) .nil))) (.cons (.nm 1) (.cons (.nm 2) .nil)))) .nil)))) (b:=exs Bb) (fun l δ=>δ=[some (shD p f),some (.int a),some (.int e),some (Af l (a/f^l)),some (upD p f h a l)]) (lvA p f h e a) FU 0 (δ:=[some (shD p f),some (.int a),some (.int e),some (Af 0 (a/f^0)),some (upD p f h a 0)]) rfl (by
   rintro l δ _ hl rfl
   refine⟨?_,_,Qr hf hf8 H hh hae hep l (by omega),rfl⟩
   rw[Kp hf hf8 H hh hae hep l (by omega),decide_eq_true (by omega),ack]
   congr 1
   exact Of (by exact aao hf) (Lm (Sn hae) h) (show l+1<=lvA p f h e a by omega)) (by
   rintro δ rfl
   rw[aaL,Kp hf hf8 H hh hae hep _ hm]
   by_cases h1:lvA p f h e a<h
   ·rw[OP (b:=okL p f a e) h (lvA p f h e a+1) (abz _) h1,acF]
   ·rw[decide_eq_false h1,acf]) (by unfold FU;exact q9K hm hh (by decide))
 rw[aaL]at e'
 have h1:=OQ hf hf8 H hh hae hep 0 (by exact aau _)
 rw[abY,Nat.div_one]at h1 e'
 refine(FC _ rfl).trans (Ai ?_)
 unfold Af at h1 e' ⊢
 rw[show((0:Nat):Int)=0 from rfl]at h1 e'
 simp_arith[BF,h1,e']
theorem Qs:Ca.den [shD p f,Af (lvA p f h e a) (a/f^lvA p f h e a)]=.ok (Af a (nxA p f h e a)):=by
 have h1:=Jj hf hf8 H hh (show lvA p f h e a<=h from Ic (okL p f a e) h) (GH hf hf8 H hh hae hep (lvA p f h e a))
 rw[show a/f^lvA p f h e a*f^lvA p f h e a=a by
  have:=abF a (f^lvA p f h e a)
  rw[(GF hae).1,abf]at this
  exact this]at h1
 exact h1
theorem Qt(b:Nat)(xs:List D)(hx:xs.length<=1000)(o:Option D):exs CS [some (shD p f),some (.int b),some (.int e),some (.lst xs),some (.int a),o]=.nxt [some (shD p f),some (.int b),some (.int e),some (.lst (xs++[Af (lvA p f h e a) (a/f^lvA p f h e a)])),some (.int (nxA p f h e a)),some (Af (lvA p f h e a) (a/f^lvA p f h e a))]:=by
 have h1:=Sr hf hf8 H hh hae hep
 have h2:=Qs hf hf8 H hh hae hep
 generalize Af (lvA p f h e a) (a/f^lvA p f h e a)=nd at *
 have h3:=B4 xs nd (by exact aaF hx (by decide))
 unfold Af at h2
 simp_arith[CS,h1,h2,h3]
end
theorem Kq{e:Nat}(hep:e<=p)(b:Nat):∀(n m a:Nat)(xs:List D)(o:Option D),e-a<=n->n<m->a<=e->xs.length+n<=1000->∃o',AM (tv (.cmp .lt (.nm 4) (.nm 2))) (exs CS) m [some (shD p f),some (.int b),some (.int e),some (.lst xs),some (.int a),o]=.nxt [some (shD p f),some (.int b),some (.int e),some (.lst (xs++Jl p f h e n a)),some (.int e),o']
 |n,m+1,a,xs,o,h1,h2,h3,h4=>by
  by_cases hae:a<e
  ·obtain⟨n,rfl⟩:∃k,n=k+1:=⟨n-1,by omega⟩
   have c1:(a:Int)<e:=by exact aaW.mpr hae
   have hn:=MU (p:=p) (f:=f) (h:=h) (by exact aao hf) hae hep
   have hn2:=(GF (p:=p) (f:=f) (h:=h) hae).2
   rw[GG (by simp_arith[c1]) (Qt hf hf8 H hh hae hep b xs (by exact aar (ab3 ..) h4) o)]
   obtain⟨o',e'⟩:=Kq hep b n m (nxA p f h e a) (xs++[Af (lvA p f h e a) (a/f^lvA p f h e a)]) (some (Af (lvA p f h e a) (a/f^lvA p f h e a))) (by omega) (by exact aaN h2) hn2 (by simp;omega)
   refine⟨o',?_⟩
   rw[e',abb]
   unfold Jl
   rw[cov,if_pos hae]
   rfl
  ·have ha:a=e:=by exact abV h3 (abP.mp hae)
   subst ha
   have c1:¬(a:Int)<a:=by exact Int.lt_irrefl _
   refine⟨o,?_⟩
   rw[DH (by simp_arith[c1])]
   unfold Jl
   cases n with
   |zero=>simp[cov]
   |succ n=>rw[cov,if_neg hae];simp
theorem MZ{a e:Nat}(hae:a<=e)(hep:e<=p)(hp:p<=200):EI.den [shD p f,.int a,.int e]=.ok (.lst (Jl p f h e 200 a)):=by
 obtain⟨o,e'⟩:=Kq hf hf8 H hh hep a 200 FU a [] none (by omega) (by unfold FU;exact acb ..) hae (by simp)
 have c1:¬(a:Int)<0:=by exact q9F
 have c2:¬(p:Int)<e:=by exact q9H hep
 have c3:¬(e:Int)<a:=by exact q9H hae
 rw[aaX]at e'
 refine(Jd _ rfl).trans (Ai ?_)
 unfold shD at e' ⊢
 simp_arith[Em,c1,c2,c3,e']
end
theorem He(xs:List D)(d:D):atD (xs++[d]) (-1)=.ok d:=by
 unfold atD ixN
 rw[if_neg (by decide),if_pos (by rw[aaI,abK];omega),aaI,abK]
 show(match (xs++[d])[((-1:Int)+((xs.length+1:Nat):Int)).toNat]? with|some d=>Res.ok d|none=>Res.bad)=_
 rw[show((-1:Int)+((xs.length+1:Nat):Int)).toNat=xs.length by omega,aaP (aaj _),Nat.sub_self]
 rfl
section
variable{p f h:Nat}(hf:2<=f)(hf8:f<=8)(H:Hs p f h)(hh:h<=8)
include hf hf8 H hh
abbrev cL(p f i:Nat):D:=.lst (((aam i).map (cnt p f)).map iN++[.int (cnt p f i)])
theorem Qu(i:Nat)(hi:i<=8):exs AN [some (.int p),some (.int f),some (cL p f i)]=.nxt [some (.int p),some (.int f),some (cL p f (i+1))]:=by
 have h0:=He (((aam i).map (cnt p f)).map iN) (.int (cnt p f i))
 have hap:=B4 (((aam i).map (cnt p f)).map iN++[.int (cnt p f i)]) (.int (cnt p f (i+1))) (by simp;exact aaF (acN hi _) (by decide))
 have h1:0<(f:Int):=by exact aaW.mpr (aao hf)
 have h2:(f:Int)<1606938044258990275541962092341162602522202993782792835301376:=by exact q9A hf8 (by decide)
 have e1:cL p f (i+1)=.lst ((((aam i).map (cnt p f)).map iN++[.int (cnt p f i)])++[.int (cnt p f (i+1))]):=by
  unfold cL;rw[Fy]
 rw[e1]
 rw[Jh (by omega),<- MV (by omega)]at hap ⊢
 unfold cL
 generalize ((aam i).map (cnt p f)).map iN=xs at *
 simp_arith[AN,h0,h1,h2,hap]
theorem Qv:AM (tv (.cmp .gt (.ixL (.nm 2) (.neg (.cI 1))) (.cI 1))) (exs AN) FU [some (.int p),some (.int f),some (cL p f 0)]=.nxt [some (.int p),some (.int f),some (cL p f h)]:=by
 have cd:∀i,tv (.cmp .gt (.ixL (.nm 2) (.neg (.cI 1))) (.cI 1)) [some (.int p),some (.int f),some (cL p f i)]=.ok (decide (1<(cnt p f i:Int))):=fun i=>by
  have h0:=He (((aam i).map (cnt p f)).map iN) (.int (cnt p f i))
  unfold cL
  simp_arith[h0]
 obtain⟨δ',e,rfl⟩:=D7 (c:=tv (.cmp .gt (.ixL (.nm 2) (.neg (.cI 1))) (.cI 1))) (b:=exs AN) (fun i δ=>δ=[some (.int p),some (.int f),some (cL p f i)]) h FU 0 (δ:=[some (.int p),some (.int f),some (cL p f 0)]) rfl (by
   rintro i δ _ hi rfl
   have:=H.more i (by omega)
   refine⟨?_,_,Qu hf hf8 H hh i (by omega),rfl⟩
   rw[cd,decide_eq_true (by exact aaW.mpr this)]) (by
   rintro δ rfl
   rw[aaL,cd,H.one]
   rfl) (by unfold FU;exact aaF hh (by decide))
 rw[e,aaL]
theorem Lo(hp:1<=p):Bs.den [.int p,.int f]=.ok (AX (lvD p f h)):=by
 have hl:=Qv hf hf8 H hh
 have e:AX (lvD p f h)=cL p f h:=by unfold AX lvD cL;rw[Fy]
 have c1:((p:Int)==0)=false:=by simp;exact ab4 hp
 have e0:cL p f 0=.lst [.int p]:=by unfold cL;rw[F5];rfl
 rw[e0]at hl
 rw[e]
 refine(Dw _ rfl).trans (Ai ?_)
 simp_arith[A9,c1,hl]
end
theorem JG(f:Nat):Bs.den [.int 0,.int f]=.ok (AX []):=by
 refine(Dw _ rfl).trans (Ai ?_)
 unfold AX
 simp_arith[A9]
theorem Lp(p f l j:Nat)(hf8:f<=8):∃o,AU (.nm 5) (exs Bj) (Al 0 (l:Int)) [some (.int p),some (.int f),some (.int l),some (.int j),some (.int 1),none]=.nxt [some (.int p),some (.int f),some (.int l),some (.int j),some (.int ((f^l:Nat):Int)),o]:=by
 obtain⟨δ',e,o,rfl⟩:=Bo (tg:=.nm 5) (b:=exs Bj) (fun i δ=>∃o,δ=[some (.int p),some (.int f),some (.int l),some (.int j),some (.int ((f^i:Nat):Int)),o]) (ds:=Al 0 (l:Int)) (δ:=[some (.int p),some (.int f),some (.int l),some (.int j),some (.int 1),none]) 0 ⟨none,rfl⟩ (by
  rintro i d δ hd ⟨o,rfl⟩
  refine⟨_,_,rfl,?_,some d,rfl⟩
  have h1:-(18446744073709551616)<(f:Int):=by exact aas _
  have h2:(f:Int)<18446744073709551616:=by exact q9A hf8 (by decide)
  rw[aaV,aaL,aa5]
  simp_arith[Bj,h1,h2])
 rw[Cc,ab9,abm,aaL]at e
 exact⟨o,e⟩
theorem HG(p f l j:Nat)(hf8:f<=8)(hl:l<=8):Ba.den [.int p,.int f,.int l,.int j]=.ok (Af (j*f^l) (min p (j*f^l+f^l))):=by
 obtain⟨o,e⟩:=Lp p f l j hf8
 have hr:=By (a:=0) (b:=(l:Int)) (by exact by decide) (by exact by decide) (by exact aas _) (by exact q9B hl (by decide))
 have hw:=Sm (f:=f) (l:=l) hf8 (by exact aar hl (by decide))
 have h1:-(18446744073709551616)<((f^l:Nat):Int):=by exact aas _
 have h2:((f^l:Nat):Int)<18446744073709551616:=by exact q9A hw (by decide)
 refine(FY _ rfl).trans (Ai ?_)
 generalize f^l=w at *
 have h3:(((min p (j*w+w):Nat)):Int)=min (p:Int) ((j:Int)*w+w):=by rw[<- aa5];omega
 unfold Af
 rw[h3,aa5]
 simp_arith[BU,hr,e,h1,h2]
mutual
theorem F6:∀{n:Nat}{d:D},D.shp n d=true->D.eqv d d=true
 |_,.non,_=>by simp[D.eqv]
 |_,.bl b,_=>by simp[D.eqv]
 |_,.int i,_=>by simp[D.eqv]
 |_,.str x,_=>by simp[D.eqv]
 |n+1,.tup ds,h=>by rw[D.eqv];exact eqvs_refl (n:=n) h
 |n+1,.lst ds,h=>by rw[D.eqv];exact eqvs_refl (n:=n) h
 |0,.tup ds,h=>by cases h
 |0,.lst ds,h=>by cases h
 |_,.exn _,h=>by simp[D.shp]at h
 |_,.dic _ _,h=>by simp[D.shp]at h
 |_,.dit _ _,h=>by simp[D.shp]at h
theorem eqvs_refl:∀{n:Nat}{ds:List D},ds.all (D.shp n)=true->D.eqvs ds ds=true
 |_,[],_=>by simp[D.eqvs]
 |n,d::ds,h=>by
  rw[aaU,aag]at h
  rw[D.eqvs,F6 h.1,eqvs_refl h.2];rfl
end
theorem Lq(d:D)(h:D.shp 8 d=true):c2 .eq d d=.ok (.bl true):=by
 show(if _ then _ else _)=_
 rw[h,F6 h];rfl
theorem Lr(d:D)(h:D.shp 8 d=true):c2 .ne d d=.ok (.bl false):=by
 show(if _ then _ else _)=_
 rw[h,F6 h];rfl
theorem M0(qs:List (Nat×Nat))(k:Nat):(qs.map Ag).all (D.shp (k+1))=true:=by
 rw[aay]
 intro d hd
 obtain⟨n,_,rfl⟩:=aaD.mp hd
 cases k<;>rfl
theorem Su(ds es:List D)(h:ds.length+es.length<=16777216):umD .extend [.lst es] ds=some (ds++es):=by
 show(if _ then _ else _)=_
 exact if_pos h
theorem T4{xs:List Int}(h:xs.length=3):∃a b c,xs=[a,b,c]:=by
 match xs,h with
 |[a,b,c],_=>exact⟨a,b,c,rfl⟩
section
variable(a b c d e f g h:D)
theorem Ls:atD [a,b,c] 0=.ok a:=rfl
theorem Lu:atD [a,b,c] 1=.ok b:=rfl
theorem Lv:atD [a,b,c] 2=.ok c:=rfl
end
structure Sp(p f h:Nat):Prop where
 hf:2<=f
 hf8:f<=8
 hp:p<=200
 hh:h<=8
 hs:p=0\/Hs p f h
theorem pw6:b2 .pow (.int 10) (.int 6)=.ok (.int 1000000):=by
 rw[DY _ _ (by decide) (by decide) (by decide)];rfl
theorem Jm(d:D):∀n,(aak n [d]).flatten=aak n d
 |0=>rfl
 |n+1=>by rw[abo,abI,Jm d n];rfl
theorem Sv(d:D)(n:Nat)(h:n<=1000):b2 .mul (.lst [d]) (.int n)=.ok (.lst (aak n d)):=by
 rw[b2,Iw,if_pos]
 ·rw[abm,Jm]
 ·rw[abm,abK]
  unfold LIM
  omega
theorem m4c(x:Int):x%4=0\/x%4=1\/x%4=2\/x%4=3:=by omega
section
variable{xs rs:List Int}{k:Nat}{s p m:D}{sc x c e:Int}{o7:Option D}(h0:0<=sc)(h1:sc<=100000000000000000)(x0:0<=x)(x1:x<13)(e0:0<=e)(e1:e<13)(a2:atD (xs.map D.int) 2=.ok (.int c))(a3:atD (xs.map D.int) 3=.ok (.int e))(ak:atD (xs.map D.int) (4+(k:Int))=.ok (.int x))(hr:rs.length<=1000)
include h0 h1 x0 x1 e0 e1 a2 a3 ak hr
theorem Qw:∃(r:Int)(o7':Option D),0<=r/\r<=1000000000000000000/\exs At [some s,some p,some m,some (.lst (xs.map .int)),some (.int sc),some (.lst (rs.map .int)),some (.int k),o7]=.nxt [some s,some p,some m,some (.lst (xs.map .int)),some (.int sc),some (.lst ((rs++[r]).map .int)),some (.int k),o7']:=by
 have hap:=fun r=>B4 (rs.map D.int) (.int r) (by rw[aac];exact aaF hr (by decide))
 have fin:∀w:Int,0<=w->0<=min 1000000000000000000 (w*sc+(if(w==12)=true then 1 else 0)*4):=fun w hw=>Int.le_min.mpr ⟨by decide,acH (Int.mul_nonneg hw h0) (by split<;>decide)⟩
 have big:∀w:Int,min 1000000000000000000 (w*sc+(if(w==12)=true then 1 else 0)*4)<=1000000000000000000:=fun w=>Int.min_le_left ..
 have l3:(0:Int)<3:=by decide
 have l4:(0:Int)<4:=by decide
 have l5:(0:Int)<13:=by decide
 have l6:(4:Int)<1606938044258990275541962092341162602522202993782792835301376:=by decide
 have s1:-18446744073709551616<sc:=by exact ac4 (by decide) h0
 have s2:sc<18446744073709551616:=by exact acj h1 (by decide)
 have m3:=aa3 x (show(3:Int)≠0 by decide)
 have m4:=aa3 x (show(4:Int)≠0 by decide)
 have m4':=abr x l4
 have m13:=aa3 (e+(k:Int)) (show(13:Int)≠0 by decide)
 by_cases c1:c=1
 ·subst c1
  refine⟨_,some (.int (x%3)),fin (x%3) m3,big _,?_⟩
  simp_arith[At,a2,ak,l3,hap,s1,s2]
 by_cases c2:c=2
 ·subst c2
  obtain⟨v,hv,v0,v1⟩:∃v:Int,atD [.int 0,.int 0,.int 0,.int 1] (x%4)=.ok (.int v)/\0<=v/\v<=1:=by
   rcases m4c x with h|h|h|h<;>rw[h]<;>refine⟨_,rfl,?_,?_⟩<;>decide
  have v2:-18446744073709551616<v:=by exact ac4 (by decide) v0
  have v3:v<18446744073709551616:=by exact acj v1 (by decide)
  refine⟨_,some (.int (v*(1+x/4))),fin (v*(1+x/4)) (Int.mul_nonneg v0 (acH (by decide) (Int.ediv_nonneg x0 (by decide)))),big _,?_⟩
  simp_arith[At,a2,ak,l4,l6,hv,v2,v3,hap,s1,s2]
 by_cases c3:c=3
 ·subst c3
  refine⟨_,some (.int ((e+(k:Int))%13)),fin ((e+(k:Int))%13) m13,big _,?_⟩
  simp_arith[At,a2,a3,ak,l5,hap,s1,s2]
 by_cases c4:c=4
 ·subst c4
  refine⟨_,some (.int e),fin e e0,big _,?_⟩
  simp_arith[At,a2,a3,ak,hap,s1,s2]
 ·have d1:(c==1)=false:=beq_eq_false_iff_ne.mpr c1
  have d2:(c==2)=false:=beq_eq_false_iff_ne.mpr c2
  have d3:(c==3)=false:=beq_eq_false_iff_ne.mpr c3
  have d4:(c==4)=false:=beq_eq_false_iff_ne.mpr c4
  refine⟨_,some (.int x),fin x x0,big _,?_⟩
  simp_arith[At,a2,ak,d1,d2,d3,d4,hap,s1,s2]
end
theorem M1(ns:List Int)(p:Int)(hp:0<=p)(m:Nat)(hm:m<=200):∃rs:List Int,rs.length<=m/\(∀r∈rs,0<=r/\r<=1000000000000000000)/\BH.den [.lst (ns.map .int),.int p,.int m]=.ok (.lst (rs.map .int)):=by
 obtain⟨xs,hrow,hl,hb⟩:=Fx ns p hp ([(m:Int)+1,5,6,13]++aak m 13) (by simp;exact aar hm (by decide)) (by
  intro s hs
  rcases aah.mp hs with h|h
  ·simp only[aaf,abO,or_false]at h
   rcases h with rfl|rfl|rfl|rfl<;>omega
  ·rw[(abX.mp h).2];decide)
 have hl:xs.length=m+4:=by rw[hl,aaI,abu];simp;exact ab6 ..
 have g:∀i,i<m+4->∃x,xs[i]?=some x:=fun i hi=>⟨_,aan (by exact hl▸hi)⟩
 obtain⟨c0,g0⟩:=g 0 (by exact abq _)
 obtain⟨c1,g1⟩:=g 1 (by exact acb ..)
 obtain⟨c2,g2⟩:=g 2 (by exact acb ..)
 obtain⟨c3,g3⟩:=g 3 (by exact acb ..)
 have b0:=hb 0 c0 ((m:Int)+1) g0 (by simp)
 have b1:=hb 1 c1 5 g1 (by simp)
 have b3:=hb 3 c3 13 g3 (by simp)
 have bk:∀i:Nat,i<m->∃x,xs[4+i]?=some x/\0<=x/\x<13:=fun i hi=>by
  obtain⟨x,gx⟩:=g (4+i) (by omega)
  refine⟨x,gx,hb (4+i) x 13 gx ?_⟩
  rw[aaP (by simp)]
  simp[hi]
 have a0:=CC g0
 have a1:=CC g1
 have a2:=CC g2
 have a3:=CC g3
 obtain⟨sc,hsc,s0,s1⟩:∃v:Int,atD [.int 1,.int 1,.int 7,.int 1000000,.int 83333333333333333] c1=.ok (.int v)/\0<=v/\v<=100000000000000000:=by
  have:c1=0\/c1=1\/c1=2\/c1=3\/c1=4:=by omega
  rcases this with rfl|rfl|rfl|rfl|rfl<;>refine⟨_,rfl,?_,?_⟩<;>decide
 obtain⟨n,rfl⟩:∃n:Nat,c0=n:=⟨c0.toNat,by omega⟩
 obtain⟨δ',e,rs,o6,o7,rfl,hrl,hrb⟩:=Bo (tg:=.nm 6) (b:=exs At) (fun i δ=>∃(rs:List Int)(o6 o7:Option D),δ=[some (.lst (ns.map .int)),some (.int p),some (.int m),some (.lst (xs.map .int)),some (.int sc),some (.lst (rs.map .int)),o6,o7]/\rs.length=i/\∀r∈rs,0<=r/\r<=1000000000000000000) (ds:=Al 0 (n:Int)) (δ:=[some (.lst (ns.map .int)),some (.int p),some (.int m),some (.lst (xs.map .int)),some (.int sc),some (.lst []),none,none]) 0 ⟨[],none,none,rfl,rfl,fun _ h=>nomatch h⟩ (by
  rintro i d δ hd ⟨rs,o6,o7,rfl,hrl,hrb⟩
  obtain⟨rfl,hi⟩:=C5 hd
  rw[acu]
  obtain⟨x,gx,x0,x1⟩:=bk i (by omega)
  have ak:=CC gx
  rw[show((4+i:Nat):Int)=4+(i:Int) by exact rfl]at ak
  obtain⟨r,o7',r0,r1,e⟩:=Qw (s:=.lst (ns.map .int)) (p:=.int p) (m:=.int m) (o7:=o7) s0 s1 x0 x1 b3.1 b3.2 a2 a3 ak (rs:=rs) (by omega)
  refine⟨_,_,rfl,e,rs++[r],some (.int i),o7',rfl,by simp;omega,fun y hy=>?_⟩
  rcases aah.mp hy with h|h
  ·exact hrb y h
  ·rw[aaZ.mp h];exact⟨r0,r1⟩)
 rw[Cc]at hrl
 refine⟨rs,by omega,hrb,?_⟩
 have hr:=By (a:=0) (b:=(n:Int)) (by exact by decide) (by exact by decide) (by exact aas _) (by omega)
 have hrep:=Sv (.int 13) m (by exact aar hm (by decide))
 have hadd:=Qn [.int ((m:Int)+1),.int 5,.int 6,.int 13] (aak m (.int 13)) (by simp;exact aar (Nat.add_le_add_left hm _) (by decide))
 rw[aap,abj]at hrow
 refine(FX _ rfl).trans (Ai ?_)
 have a0':atD (xs.map D.int) 0=.ok (.int n):=a0
 have a1':atD (xs.map D.int) 1=.ok (.int c1):=a1
 generalize aak m (D.int 13)=zs at *
 simp only[abQ,aa8,aaX]at hrow hadd
 simp_arith[BS,hrep,hadd,hrow,pw6,hsc,a0',a1',hr,e]
theorem Qx(ns:List Int)(p:Int)(hp:0<=p):∃f:Nat,2<=f/\f<=8/\Dd.den [.lst (ns.map .int),.int p]=.ok (.int f):=by
 obtain⟨xs,hrow,hl,hb⟩:=Fx ns p hp [7] (by decide) (by decide)
 obtain⟨a,rfl⟩:=T2 hl
 have ha:=hb 0 a 7 rfl rfl
 simp only[abQ]at hrow
 refine⟨(2+a).toNat,by omega,by omega,?_⟩
 rw[acX (by omega)]
 refine(Ha _ rfl).trans (Ai ?_)
 simp_arith[Cy,hrow,T3]
theorem Qy{rs:List Int}{a b:Nat}(ha:a<=rs.length)(hb:b<=rs.length):cut (rs.map D.int) (some (a:Int)) (some (b:Int))=((rs.drop a).take (b-a)).map D.int:=by
 have e1:sIx rs.length 0 (some (a:Int))=a:=by
  show(if(a:Int)<0 then _ else _:Int).toNat=a
  rw[if_neg (by exact q9F)];omega
 have e2:sIx rs.length rs.length (some (b:Int))=b:=by
  show(if(b:Int)<0 then _ else _:Int).toNat=b
  rw[if_neg (by exact q9F)];omega
 unfold cut
 rw[aac,e1,e2,<- acR,<- acQ]
theorem EM:∀ys:List Int,CK (ys.map .int)=some ys
 |[]=>rfl
 |y::r=>by rw[aaG,CK,EM r];rfl
abbrev mxR(rs:List Int)(a b:Nat):Int:=((rs.drop a).take (b-a)).max?.getD 0
theorem Jn{ys:List Int}(h:ys≠[]):ys.max?=some (ys.max?.getD 0):=by
 cases q:ys.max? with
 |none=>exact absurd (List.max?_eq_none_iff.mp q) h
 |some m=>rfl
theorem M2{rs:List Int}{a b:Nat}(hab:a<b)(hb:b<=rs.length):((rs.drop a).take (b-a)).max?=some (mxR rs a b):=by
 apply Jn
 intro h
 have:=congrArg abe h
 rw[abL,acp]at this
 simp at this
 omega
abbrev BA(rs:List Int)(f l n:Nat):List Int:=(aam n).map fun j=>mxR rs (j*f^l) (min rs.length (j*f^l+f^l))
abbrev Ac(rs:List Int)(f n:Nat):List (List Int):=(aam n).map fun l=>BA rs f l (cnt rs.length f l)
abbrev Ad(xs:List Int):D:=.lst (xs.map .int)
abbrev Ab(tr:List (List Int)):D:=.lst (tr.map Ad)
theorem Oi(rs:List Int)(f l n:Nat):BA rs f l (n+1)=BA rs f l n++[mxR rs (n*f^l) (min rs.length (n*f^l+f^l))]:=by
 unfold BA;rw[abW,aap];rfl
theorem M3(rs:List Int)(f n:Nat):Ac rs f (n+1)=Ac rs f n++[BA rs f n (cnt rs.length f n)]:=by
 unfold Ac;rw[abW,aap];rfl
section
variable{rs:List Int}{f h:Nat}(hf:2<=f)(hf8:f<=8)(H:Hs rs.length f h)(hh:h<=8)(hn:rs.length<=200)
include hf hf8 H hh hn
theorem Qz(tr co:D)(l j:Nat)(hl:l<=h)(hj:j<cnt rs.length f l)(o7 o8:Option D):∃o7' o8',exs AY [some (Ad rs),some (.int f),some tr,some co,some (.int l),some (Ad (BA rs f l j)),some (.int j),o7,o8]=.nxt [some (Ad rs),some (.int f),some tr,some co,some (.int l),some (Ad (BA rs f l (j+1))),some (.int j),o7',o8']:=by
 have hr:=HG rs.length f l j hf8 (by exact aar hl hh)
 have hlt:=(Bz (show 1<=f by exact aao hf)).mp hj
 have hw:0<f^l:=abk (by exact aao hf)
 have hc:=Qy (rs:=rs) (a:=j*f^l) (b:=min rs.length (j*f^l+f^l)) (by exact aao hlt) (by exact abl ..)
 have hm:=M2 (rs:=rs) (a:=j*f^l) (b:=min rs.length (j*f^l+f^l)) (by omega) (by exact abl ..)
 have hcl:=Ep (p:=rs.length) (f:=f) (l:=l) (by exact aao hf)
 have hap:=B4 ((BA rs f l j).map .int) (.int (mxR rs (j*f^l) (min rs.length (j*f^l+f^l)))) (by unfold BA;simp;omega)
 have hi:=EM ((rs.drop (j*f^l)).take (min rs.length (j*f^l+f^l)-j*f^l))
 refine⟨some (.int ((j*f^l:Nat):Int)),some (.int ((min rs.length (j*f^l+f^l):Nat):Int)),?_⟩
 rw[Oi]
 unfold Ad
 rw[aap]
 generalize mxR rs (j*f^l) (min rs.length (j*f^l+f^l))=M at *
 generalize (rs.drop (j*f^l)).take (min rs.length (j*f^l+f^l)-j*f^l)=ys at *
 generalize min rs.length (j*f^l+f^l)=e at *
 generalize j*f^l=a at *
 unfold Af at hr
 generalize (BA rs f l j).map D.int=zs at *
 simp_arith[AY,aac,hr,Di,Ef,hc,hi,DQ,hm,hap]
theorem Sw(tr:D)(l:Nat)(hl:l<=h)(o6 o7 o8:Option D):∃o6' o7' o8',AU (.nm 6) (exs AY) (Al 0 (cnt rs.length f l)) [some (Ad rs),some (.int f),some tr,some (AX (lvD rs.length f h)),some (.int l),some (Ad []),o6,o7,o8]=.nxt [some (Ad rs),some (.int f),some tr,some (AX (lvD rs.length f h)),some (.int l),some (Ad (BA rs f l (cnt rs.length f l))),o6',o7',o8']:=by
 obtain⟨δ',e,o6',o7',o8',rfl⟩:=Bo (tg:=.nm 6) (b:=exs AY) (fun j δ=>∃o6 o7 o8,δ=[some (Ad rs),some (.int f),some tr,some (AX (lvD rs.length f h)),some (.int l),some (Ad (BA rs f l j)),o6,o7,o8]) (ds:=Al 0 (cnt rs.length f l)) (δ:=[some (Ad rs),some (.int f),some tr,some (AX (lvD rs.length f h)),some (.int l),some (Ad []),o6,o7,o8]) 0 ⟨o6,o7,o8,rfl⟩ (by
  rintro j d δ hd ⟨o6,o7,o8,rfl⟩
  obtain⟨rfl,hj⟩:=C5 hd
  rw[acu,aaL]
  obtain⟨q7,q8,e⟩:=Qz hf hf8 H hh hn tr (AX (lvD rs.length f h)) l j hl (by exact aaW.mp hj) o7 o8
  exact⟨_,_,rfl,e,some (.int j),q7,q8,rfl⟩)
 rw[Cc,ab9,abm,aaL]at e
 exact⟨o6',o7',o8',e⟩
theorem Oj(l:Nat)(hl:l<=h)(o5 o6 o7 o8:Option D):∃o5' o6' o7' o8',exs AZ [some (Ad rs),some (.int f),some (Ab (Ac rs f l)),some (AX (lvD rs.length f h)),some (.int l),o5,o6,o7,o8]=.nxt [some (Ad rs),some (.int f),some (Ab (Ac rs f (l+1))),some (AX (lvD rs.length f h)),some (.int l),o5',o6',o7',o8']:=by
 obtain⟨o6',o7',o8',e⟩:=Sw hf hf8 H hh hn (Ab (Ac rs f l)) l hl o6 o7 o8
 have h5:=Ji (xs:=lvD rs.length f h) (i:=l) (by rw[BP];exact abi hl)
 rw[Fz hl]at h5
 have hcl:=Ep (p:=rs.length) (f:=f) (l:=l) (by exact aao hf)
 have hr:=By (a:=0) (b:=(cnt rs.length f l:Int)) (by exact by decide) (by exact by decide) (by exact aas _) (by exact q9L hcl hn (by decide))
 have hap:=B4 ((Ac rs f l).map Ad) (Ad (BA rs f l (cnt rs.length f l))) (by unfold Ac;simp;exact q9K hl hh (by decide))
 refine⟨some (Ad (BA rs f l (cnt rs.length f l))),o6',o7',o8',?_⟩
 rw[M3]
 unfold Ab AX at *
 rw[aap]
 generalize BA rs f l (cnt rs.length f l)=zs at *
 unfold Ad at e hap ⊢
 rw[abJ]at e
 simp_arith[AZ,h5,hr,e,hap]
theorem Ol(hn1:1<=rs.length):AL.den [Ad rs,.int f]=.ok (Ab (Ac rs f (h+1))):=by
 have hc:=Lo hf hf8 H hh hn1
 have hr:=By (a:=0) (b:=((h+1:Nat):Int)) (by exact by decide) (by exact by decide) (by exact aas _) (by exact q9A hh (by decide))
 obtain⟨δ',e,o4,o5,o6,o7,o8,rfl⟩:=Bo (tg:=.nm 4) (b:=exs AZ) (fun l δ=>∃o4 o5 o6 o7 o8,δ=[some (Ad rs),some (.int f),some (Ab (Ac rs f l)),some (AX (lvD rs.length f h)),o4,o5,o6,o7,o8]) (ds:=Al 0 ((h+1:Nat):Int)) (δ:=[some (Ad rs),some (.int f),some (Ab []),some (AX (lvD rs.length f h)),none,none,none,none,none]) 0 ⟨none,none,none,none,none,rfl⟩ (by
  rintro l d δ hd ⟨o4,o5,o6,o7,o8,rfl⟩
  obtain⟨rfl,hl⟩:=C5 hd
  rw[acu,aaL]
  obtain⟨q5,q6,q7,q8,e⟩:=Oj hf hf8 H hh hn l (by exact q9O hl) o5 o6 o7 o8
  exact⟨_,_,rfl,e,some (.int l),q5,q6,q7,q8,rfl⟩)
 rw[Cc,show 0+(((h+1:Nat):Int)-0).toNat=h+1 by exact ab6 ..]at e
 have hll:=BP rs.length f h
 refine(D5 _ rfl).trans (Ai ?_)
 unfold AX at hc e
 unfold Ab at e ⊢
 rw[abJ]at e
 unfold Ad at e ⊢
 simp_arith[Bw,aac,hc,hll,hr,e]
end
theorem M4(f:Nat):AL.den [Ad [],.int f]=.ok (Ab []):=by
 have hc:=JG f
 have hr:=By (a:=0) (b:=0) (by exact by decide) (by exact by decide) (by exact by decide) (by exact by decide)
 have e:AU (.nm 4) (exs AZ) (Al 0 0) [some (.lst []),some (.int f),some (.lst []),some (.lst []),none,none,none,none,none]=.nxt [some (.lst []),some (.int f),some (.lst []),some (.lst []),none,none,none,none,none]:=rfl
 refine(D5 _ rfl).trans (Ai ?_)
 unfold Ad Ab AX at *
 simp_arith[Bw,hc,hr,e,acv]
theorem M5(xs:List Int)(m k:Nat):D.flat (m+2) (k+1) (Ad xs)=true:=by
 unfold Ad
 show(xs.map D.int).all (D.flat (m+1) k)=true
 rw[aay]
 intro d hd
 obtain⟨x,rfl⟩:=EK hd
 rfl
theorem M6(tr:List (List Int)):D.flat 9 2 (Ab tr)=true:=by
 show(tr.map Ad).all (D.flat 8 1)=true
 rw[aay]
 intro d hd
 obtain⟨x,_,rfl⟩:=aaD.mp hd
 exact M5 x 6 0
theorem Om(xs:List Int)(k:Nat):D.shp (k+1) (Ad xs)=true:=by
 show(xs.map D.int).all (D.shp k)=true
 rw[aay]
 intro d hd
 obtain⟨x,rfl⟩:=EK hd
 cases k<;>rfl
theorem On(tr:List (List Int)):D.shp 8 (Ab tr)=true:=by
 show(tr.map Ad).all (D.shp 7)=true
 rw[aay]
 intro d hd
 obtain⟨x,_,rfl⟩:=aaD.mp hd
 exact Om x 6
theorem QA{rs:List Int}{i:Int}(h0:0<=i)(h1:i<rs.length):∃x,x∈rs/\atD (rs.map D.int) i=.ok (.int x):=by
 obtain⟨x,e1,e2⟩:=F2 h0 h1
 exact⟨x,aae e1,e2⟩
theorem Oo(ns:List Int)(p:Int)(hp:0<=p)(rs:List Int)(hr:∀r∈rs,0<=r)(hl:rs.length<=200):∃q:Int,0<=q/\Bh.den [.lst (ns.map .int),.int p,Ad rs]=.ok (.int q):=by
 obtain⟨xs,hrow,hl,hb⟩:=Fx ns p hp [7,200,40] (by decide) (by decide)
 obtain⟨a,b,c,rfl⟩:=T4 hl
 have ha:=hb 0 a 7 rfl rfl
 have hb':=hb 1 b 200 rfl rfl
 have hc:=hb 2 c 40 rfl rfl
 clear hb hl
 simp only[abQ]at hrow
 have l4:(0:Int)<4:=by decide
 obtain⟨v,hv,hv0⟩:∃v:Int,atD [.int 0,.int 1,.int 2,.int 100000000000000000000000000000000000000000000000000000000000] (b%4)=.ok (.int v)/\0<=v:=by
  rcases m4c b with h|h|h|h<;>rw[h]<;>refine⟨_,rfl,?_⟩<;>decide
 by_cases a0:a=0
 ·subst a0
  refine⟨v,hv0,(BT _ rfl).trans (Ai ?_)⟩
  unfold Ad
  simp_arith[AQ,hrow,Ls,Lu,Lv,hv,l4]
 have d0:(a==0)=false:=beq_eq_false_iff_ne.mpr a0
 by_cases n0:rs.length=0
 ·have z:rs=[]:=abH n0
  subst z
  refine⟨v,hv0,(BT _ rfl).trans (Ai ?_)⟩
  unfold Ad
  simp_arith[AQ,hrow,Ls,Lu,Lv,d0,hv,l4,acv]
 have n1:((rs.length:Int)==0)=false:=by rw[beq_eq_false_iff_ne];omega
 have n2:0<(rs.length:Int):=by omega
 obtain⟨x,hx,hat⟩:=QA (rs:=rs) (i:=b%(rs.length:Int)) (aa3 _ (by exact Int.ne_of_gt n2)) (abr _ n2)
 have hx0:=hr x hx
 by_cases a1:a=1
 ·subst a1
  have hne:rs≠[]:=fun z=>n0 (by rw[z];rfl)
  have hm:=Jn hne
  have hm0:0<=rs.max?.getD 0:=by
   have:=List.max?_mem (xs:=rs) hm
   exact hr _ this
  have hi:=EM rs
  have l2:(0:Int)<2:=by decide
  have m0:=aa3 c (show(2:Int)≠0 by decide)
  refine⟨rs.max?.getD 0+c%2,acH hm0 m0,(BT _ rfl).trans (Ai ?_)⟩
  generalize rs.max?.getD 0=M at *
  unfold Ad
  simp_arith[AQ,hrow,Ls,Lu,Lv,n1,n2,aac,hat,hi,DQ,hm,l2]
 ·have d1:(a==1)=false:=beq_eq_false_iff_ne.mpr a1
  obtain⟨w,hw⟩:∃w:Int,atD [.int 0,.int 0,.int 1,.int (-1),.int c] (a-2)=.ok (.int w):=by
   have:a-2=0\/a-2=1\/a-2=2\/a-2=3\/a-2=4:=by omega
   rcases this with h|h|h|h|h<;>rw[h]<;>exact⟨_,rfl⟩
  refine⟨max 0 (x+w),Int.le_max_left ..,(BT _ rfl).trans (Ai ?_)⟩
  unfold Ad
  simp_arith[AQ,hrow,Ls,Lu,Lv,d0,d1,n1,n2,aac,hat,hw]
abbrev tl(tr:List (List Int))(l j:Nat):Int:=(tr.getD l []).getD j 0
abbrev Dim(tr:List (List Int))(p f h:Nat):Prop:=tr.map abe=lvD p f h
theorem Jo(rs:List Int)(f h:Nat):Dim (Ac rs f (h+1)) rs.length f h:=by
 unfold Dim Ac lvD
 rw[aaJ]
 apply abc
 intro l _
 show(BA rs f l (cnt rs.length f l)).length=_
 unfold BA;simp
section
variable{tr:List (List Int)}{p f h:Nat}(hd:Dim tr p f h)
include hd
theorem FA:tr.length=h+1:=by
 have:=congrArg abe hd
 rwa [aac,BP]at this
theorem Hf{l:Nat}(hl:l<=h):(tr.getD l []).length=cnt p f l/\tr[l]?=some (tr.getD l []):=by
 have h1:=FA hd
 have h2:tr[l]?=some tr[l]:=aan (by exact aaF hl (abd h1.symm))
 have h3:tr.getD l []=tr[l]:=by rw[aaQ,h2];rfl
 rw[h3]
 refine⟨?_,h2⟩
 have h4:(tr.map abe)[l]?=some tr[l].length:=by rw[aal,h2];rfl
 rw[hd]at h4
 have h5:(lvD p f h)[l]?=some (cnt p f l):=by rw[aan (by rw[BP];exact abi hl),Fz hl]
 rw[h5]at h4
 exact(Option.some.inj h4).symm
theorem Hg{l:Nat}(hl:l<=h):atD (tr.map Ad) (l:Int)=.ok (Ad (tr.getD l [])):=by
 have h1:=FA hd
 unfold atD ixN
 rw[aac,if_pos (by exact aas _),if_pos (by omega)]
 show(match (tr.map Ad)[(l:Int).toNat]? with|some d=>Res.ok d|none=>Res.bad)=_
 rw[abm,aal,(Hf hd hl).2]
 rfl
theorem M7{l j:Nat}(hl:l<=h)(hj:j<cnt p f l):atD ((tr.getD l []).map D.int) (j:Int)=.ok (.int (tl tr l j)):=by
 apply CC
 unfold tl
 rw[aaQ (l:=tr.getD l []),aan (by rw[(Hf hd hl).1];exact hj)]
 rfl
theorem HS:DW.den [Ab tr]=.ok (AX (lvD p f h)):=by
 have h2:=F3 (nl:=1) (fr:=[]) (tg:=.nm 0) (it:=.seq (.nm 0)) (elt:=.bi .len (.cons (.nm 0) .nil)) (δ:=[some (Ab tr)]) (ds:=tr.map Ad) (g:=fun d=>match d with|.lst ds=>.int ds.length|d=>d) (by unfold Ab;simp_arith[]) (fun d hd=>by
  obtain⟨x,_,rfl⟩:=aaD.mp hd
  refine⟨[some (Ad x)],rfl,?_⟩
  unfold Ad
  simp_arith[])
 have e:(tr.map Ad).map (fun d=>match d with|.lst ds=>D.int ds.length|d=>d)=(lvD p f h).map iN:=by
  rw[<- hd,aaJ,aaJ]
  apply abc
  intro x _
  show D.int ((x.map D.int).length:Int)=iN x.length
  rw[aac];rfl
 rw[e]at h2
 refine(Je _ rfl).trans (Ai ?_)
 unfold Ab AX at *
 simp_arith[]at h2
 simp_arith[Dk,h2]
theorem HH{l j:Nat}(hl:l<=h)(hj:j<cnt p f l):DX.den [Ab tr,Af l j]=.ok (.int (tl tr l j)):=by
 have h1:=HS hd
 have h2:=Kn hl hj
 have h3:Ed.den [Ab tr,Af l j]=.ok (.bl true):=by
  refine(JD _ rfl).trans (Ai ?_)
  simp_arith[DC,h1,h2]
 have h4:Ch.den [Ab tr,Af l j]=.ok .non:=by
  refine(FD _ rfl).trans (Ko (δ:=[some (Ab tr),some (Af l j)]) ?_)
  simp_arith[BG,h3]
 have h5:=Hg hd hl
 have h6:=M7 hd hl hj
 refine(Oe _ rfl).trans (Ai ?_)
 unfold Ab Ad Af at *
 simp_arith[Fw,h4,h5,h6]
theorem QB:(tr.map Ad).isEmpty=false:=by
 have h1:=FA hd
 cases tr with
 |nil=>cases h1
 |cons a r=>rfl
theorem Jp:Dl.den [Ab tr]=.ok (Ad (tr.getD 0 [])):=by
 have h1:=Fh (tr.map Ad) (On tr)
 rw[QB hd]at h1
 have h2:=Hg hd (aau h)
 rw[show((0:Nat):Int)=0 from rfl]at h2
 refine(FM _ rfl).trans (Ai ?_)
 unfold Ab Ad at *
 simp_arith[CT,h1,h2]
theorem Jq:Dm.den [Ab tr,.int f]=.ok (shD p f):=by
 have h1:=Jp hd
 have h2:=(Hf hd (aau h)).1
 rw[F5]at h2
 refine(FN _ rfl).trans (Ai ?_)
 unfold Ad at h1
 unfold shD
 simp_arith[CU,h1,aac,h2]
end
theorem Kr(a b:Nat):∀c,(aam c).filter (fun k=>decide (a<=k)&&decide (k<b))=(aam (min b c-a)).map (a + ·)
 |0=>by simp
 |c+1=>by
  rw[abW,List.filter_append,Kr a b c]
  by_cases h:a<=c/\c<b
  ·rw[abR h.2,abR (aao h.2),Nat.succ_sub h.1,abW,aap]
   congr 1
   simp only[ab1,List.filter_nil,decide_eq_true h.1,decide_eq_true h.2,acO,if_true,aaG,abJ]
   congr 1;exact(acY h.1).symm
  ·have h':(decide (a<=c)&&decide (c<b))=false:=by
    rw[<- Bool.not_eq_true,aag,decide_eq_true_eq,decide_eq_true_eq];exact h
   simp only[ab1,List.filter_nil,h']
   have e:min b (c+1)-a=min b c-a:=by
    rcases acq c b with z|z
    ·have z2:c<a:=Nat.lt_of_not_le fun y=>h ⟨y,z⟩
     rw[abR z,abR (aao z),acI z2,acI (aao z2)]
    ·rw[acd z,acd (acn z)]
   rw[e]
   simp
abbrev chN(p f l j:Nat):List (Nat×Nat):=match l with
 |0=>[]
 |l+1=>((aam (cnt p f l)).filter fun k=>k/f==j).map fun k=>(l,k)
theorem HI{f:Nat}(hf:1<=f)(c j:Nat):(aam c).filter (fun k=>k/f==j)=(aam (min (j*f+f) c-j*f)).map (j*f + ·):=by
 rw[<- Kr]
 apply List.filter_congr
 intro k _
 rw[Bool.eq_iff_iff,beq_iff_eq,aag,decide_eq_true_eq,decide_eq_true_eq]
 constructor
 ·rintro rfl
  have:=abF k f
  have h2:=abE k (show 0<f by exact hf)
  rw[abf]at this
  generalize k%f=r at *
  omega
 ·rintro⟨h1,h2⟩
  exact acU h1 (by rw[ab5];omega)
theorem Jr{p f h:Nat}(hf:2<=f)(hf8:f<=8)(H:Hs p f h)(hh:h<=8)(hp:p<=200){l j:Nat}(hl:l<=h)(hj:j<cnt p f l):Dj.den [shD p f,Af l j]=.ok (.lst ((chN p f l j).map Ag)):=by
 have hc:=Cd hf hf8 H hh hl hj
 cases l with
 |zero=>
  refine(FL _ rfl).trans (Ai ?_)
  show _=Out.ret (.lst [])
  unfold Af shD at *
  rw[show((0:Nat):Int)=0 from rfl]at *
  simp_arith[CQ,hc]
 |succ l=>
  have hlv:=EL hf hf8 H hh
  have h5:=Ji (xs:=lvD p f h) (i:=l) (by rw[BP];exact abw hl)
  rw[Fz (by exact aao hl)]at h5
  have hcl:=Ep (p:=p) (f:=f) (l:=l) (by exact aao hf)
  have hjl:=Ep (p:=p) (f:=f) (l:=l+1) (by exact aao hf)
  have hjf:j*f<=200*8:=Nat.mul_le_mul (by omega) hf8
  have f1:-(18446744073709551616)<(f:Int):=by exact aas _
  have f2:(f:Int)<18446744073709551616:=by exact q9A hf8 (by decide)
  have e1:((l+1:Nat):Int)-1=(l:Int):=by omega
  have c1:(((l+1:Nat):Int)==0)=false:=by rw[beq_eq_false_iff_ne];omega
  have e2:min ((j:Int)*f+f) (cnt p f l:Int)=((min (j*f+f) (cnt p f l):Nat):Int):=by rw[<- aa5];omega
  have hr:=By (a:=((j*f:Nat):Int)) (b:=((min (j*f+f) (cnt p f l):Nat):Int)) (by exact aas _) (by exact q9B hjf (by decide)) (by exact aas _) (by omega)
  rw[aa5]at hr
  have h2:=F3 (nl:=1) (fr:=[2]) (tg:=.nm 0) (it:=.r2 (.nm 3) (.nm 4)) (elt:=.tup (.cons (.nm 1) (.cons (.nm 0) .nil))) (δ:=[some (shD p f),some (Af (l+1) j),some (.int l),some (.int ((j:Int)*f)),some (.int ((min (j*f+f) (cnt p f l):Nat):Int))]) (ds:=Al ((j:Int)*f) ((min (j*f+f) (cnt p f l):Nat):Int)) (g:=fun d=>.tup [.int l,d]) (by simp_arith[hr]) (fun d hd=>by
   refine⟨[some d,some (.int l)],rfl,?_⟩
   simp_arith[])
  have e3:(Al ((j:Int)*f) ((min (j*f+f) (cnt p f l):Nat):Int)).map (fun d=>D.tup [.int l,d])=(chN p f (l+1) j).map Ag:=by
   show _=(((aam (cnt p f l)).filter fun k=>k/f==j).map fun k=>(l,k)).map Ag
   rw[HI (by exact aao hf)]
   unfold Al
   rw[aaJ,aaJ,aaJ,<- aa5,show(((min (j*f+f) (cnt p f l):Nat):Int)-((j*f:Nat):Int)).toNat=min (j*f+f) (cnt p f l)-j*f by omega]
   apply abc
   intro i _
   show D.tup [.int l,.int (((j*f:Nat):Int)+(i:Int))]=Af l (j*f+i)
   rw[<- Int.natCast_add];rfl
  rw[e3]at h2
  refine(FL _ rfl).trans (Ai ?_)
  unfold Af shD AX at *
  simp_arith[hr]at h2
  simp_arith[CQ,hc,c1,e1,f1,f2,hlv,h5,e2,hr,h2]
theorem Tp{rs:List Int}{i:Nat}(h:i<rs.length):atD (rs.map D.int) (i:Int)=.ok (.int (rs.getD i 0)):=by
 apply CC
 rw[aaQ,aan h];rfl
theorem QC(p f h n e:Nat):cov p f h e n e=[]:=by
 cases n with
 |zero=>rfl
 |succ n=>rw[cov,if_neg (aaS _)]
theorem Hh(p f a:Nat)(ha:a<=p):EI.den [shD p f,.int a,.int a]=.ok (.lst []):=by
 have c1:¬(a:Int)<0:=by exact q9F
 have c2:¬(p:Int)<a:=by exact q9H ha
 have c3:¬(a:Int)<a:=by exact Int.lt_irrefl _
 have hl:AM (tv (.cmp .lt (.nm 4) (.nm 2))) (exs CS) FU [some (.tup [.int p,.int f]),some (.int a),some (.int a),some (.lst []),some (.int a),none]=.nxt [some (.tup [.int p,.int f]),some (.int a),some (.int a),some (.lst []),some (.int a),none]:=by
  unfold FU
  exact DH (by simp_arith[c3])
 refine(Jd _ rfl).trans (Ai ?_)
 unfold shD
 simp_arith[Em,c1,c2,c3,hl]
theorem Ks{rs:List Int}{a b:Nat}{x:Int}:x∈(rs.drop a).take (b-a) ↔ ∃k,a<=k/\k<b/\rs[k]?=some x:=by
 rw[List.mem_iff_getElem?]
 constructor
 ·rintro⟨n,h⟩
  rw[ac5]at h
  split at h
  ·rw[ac6]at h
   exact⟨a+n,by exact ab3 ..,by omega,h⟩
  ·cases h
 ·rintro⟨k,h1,h2,h3⟩
  refine⟨k-a,?_⟩
  rw[ac5,if_pos (by exact Nat.sub_lt_sub_right h1 h2),ac6,show a+(k-a)=k by exact acY h1,h3]
theorem Tq{rs:List Int}{a b:Nat}(hab:a<b)(hb:b<=rs.length):(∃k,a<=k/\k<b/\rs[k]?=some (mxR rs a b))/\∀k x,a<=k->k<b->rs[k]?=some x->x<=mxR rs a b:=by
 obtain⟨h1,h2⟩:=acE.mp (M2 hab hb)
 exact⟨Ks.mp h1,fun k x q1 q2 q3=>h2 x (Ks.mpr ⟨k,q1,q2,q3⟩)⟩
theorem Sx(rs:List Int)(f l:Nat){c j:Nat}(h:j<c):(BA rs f l c)[j]?=some (mxR rs (j*f^l) (min rs.length (j*f^l+f^l))):=by
 unfold BA
 rw[aal,acZ h];rfl
theorem M8{c:Fr->Res Bool}{b:Fr->Out}{n:Nat}{δ:Fr}{d:D}(h1:c δ=.ok true)(h2:b δ=.ret d):AM c b (n+1) δ=.ret d:=by
 rw[AM,h1,Res.out_ok,if_pos rfl,h2,Out.then_ret]
@[reducible]noncomputable def Nd:=Nat×Nat
abbrev As(t:Nd->Bool):List Nd->List Nd
 |[]=>[]
 |q::r=>q::if t q then [] else As t r
theorem EN(t:Nd->Bool):∀qs,(As t qs).length<=qs.length
 |[]=>aaj _
 |q::r=>by
  unfold As
  split
  ·simp
  ·have:=EN t r;simp only[aaH];exact abi this
theorem D8(t:Nd->Bool):∀{qs},qs≠[]->∃pre q,As t qs=pre++[q]/\q∈qs/\((qs.find? t=some q/\t q=true)\/(qs.find? t=none/\t q=false))
 |[],h=>absurd rfl h
 |q::r,_=>by
  unfold As
  by_cases hq:t q=true
  ·exact⟨[],q,by rw[if_pos hq];rfl,aab,.inl ⟨abg hq,hq⟩⟩
  ·rw[if_neg hq,abh hq]
   by_cases hr:r=[]
   ·subst hr
    exact⟨[],q,rfl,aab,.inr ⟨rfl,by simpa using hq⟩⟩
   ·obtain⟨pre,q',h1,h2,h3⟩:=D8 t hr
    exact⟨q::pre,q',by rw[h1];rfl,aaa _ h2,h3⟩
abbrev wk(t:Nd->Bool)(p f:Nat):Nat->List Nd->List Nd
 |0,_=>[]
 |n+1,qs=>As t qs++match qs.find? t with
  |none=>[]
  |some q=>wk t p f n (chN p f q.1 q.2)
abbrev tst(tr:List (List Int))(need:Int)(q:Nd):Bool:=decide (need<=tl tr q.1 q.2)
abbrev Val(p f h:Nat)(qs:List Nd):Prop:=∀q∈qs,q.1<=h/\q.2<cnt p f q.1
theorem Lx(qs:List Nd):D.flat 9 1 (.lst (qs.map Ag))=true:=by
 show(qs.map Ag).all (D.flat 8 0)=true
 rw[aay]
 intro d hd
 obtain⟨q,_,rfl⟩:=aaD.mp hd
 rfl
theorem DZ{p f h l j:Nat}(hl:l<=h):Val p f h (chN p f l j):=by
 intro q hq
 cases l with
 |zero=>cases hq
 |succ l=>
  obtain⟨k,hk,rfl⟩:=aaD.mp hq
  exact⟨by show l<=h;exact aao hl,aa0.mp (acw.mp hk).1⟩
theorem FB{p f l j:Nat}:∀q∈chN p f l j,q.1<l:=by
 intro q hq
 cases l with
 |zero=>cases hq
 |succ l=>
  obtain⟨k,hk,rfl⟩:=aaD.mp hq
  exact abz l
theorem Sy{p f l j:Nat}(hf:1<=f)(hp:p<=200):(chN p f l j).length<=200:=by
 cases l with
 |zero=>simp[chN]
 |succ l=>
  show(((aam (cnt p f l)).filter fun k=>k/f==j).map fun k=>(l,k)).length<=200
  rw[aac]
  have:=List.length_filter_le (fun k=>k/f==j) (aam (cnt p f l))
  rw[aa1]at this
  have:=Ep (p:=p) (f:=f) (l:=l) hf
  omega
section
variable{tr:List (List Int)}{p f h:Nat}(hd:Dim tr p f h)(need:Int)
include hd
theorem Kt(nodes:D):∀(qs:List Nd)(xs:List D)(o4:Option D),Val p f h qs->xs.length+qs.length<=100000->∃o4',AU (.nm 4) (exs AB) (qs.map Ag) [some (Ab tr),some (.int need),some nodes,some (.lst xs),o4]=if(qs.find? (tst tr need)).isSome then .ret (.lst (xs++(As (tst tr need) qs).map Ag)) else .nxt [some (Ab tr),some (.int need),some nodes,some (.lst (xs++(As (tst tr need) qs).map Ag)),o4']
 |[],xs,o4,_,_=>⟨o4,by simp[AU,As]⟩
 |q::r,xs,o4,hv,hl=>by
  rw[aaH]at hl
  have hv0:=hv q aab
  have ht:=HH hd hv0.1 hv0.2
  have hap:=B4 xs (Ag q) (by omega)
  rw[aaG,AU]
  show ∃o4',(exs AB [some (Ab tr),some (.int need),some nodes,some (.lst xs),some (Ag q)]).then _=_
  unfold As
  by_cases hq:tst tr need q=true
  ·have hq':need<=tl tr q.1 q.2:=of_decide_eq_true hq
   have e:exs AB [some (Ab tr),some (.int need),some nodes,some (.lst xs),some (Ag q)]=.ret (.lst (xs++[Ag q])):=by
    unfold Ag at *
    simp_arith[AB,hap,ht,hq']
   rw[e,abg hq,if_pos hq]
   exact⟨none,rfl⟩
  ·have hq':¬need<=tl tr q.1 q.2:=fun z=>hq (decide_eq_true z)
   have e:exs AB [some (Ab tr),some (.int need),some nodes,some (.lst xs),some (Ag q)]=.nxt [some (Ab tr),some (.int need),some nodes,some (.lst (xs++[Ag q])),some (Ag q)]:=by
    unfold Ag at *
    simp_arith[AB,hap,ht,hq']
   rw[e,abh hq,if_neg hq,Out.then_nxt]
   obtain⟨o4',e'⟩:=Kt nodes r (xs++[Ag q]) (some (Ag q)) (fun x hx=>hv x (aaa _ hx)) (by simp;omega)
   refine⟨o4',?_⟩
   rw[e',abb]
   rfl
theorem Sz{qs:List Nd}(hv:Val p f h qs)(hl:qs.length<=200):BR.den [Ab tr,.int need,.lst (qs.map Ag)]=.ok (.lst ((As (tst tr need) qs).map Ag)):=by
 obtain⟨o4,e⟩:=Kt hd need (.lst (qs.map Ag)) qs [] none hv (by simp;exact aar hl (by decide))
 rw[aaX]at e
 refine(GB _ rfl).trans (Ai ?_)
 cases q:(qs.find? (tst tr need)).isSome with
 |true=>
  rw[q,if_pos rfl]at e
  simp_arith[Bv,e]
 |false=>
  rw[q,if_neg abp]at e
  simp_arith[Bv,e]
variable(hf:2<=f)(hf8:f<=8)(H:Hs p f h)(hh:h<=8)(hp:p<=200)
include hf hf8 H hh hp
theorem QD(b:D){qs:List Nd}(hq:qs≠[])(hv:Val p f h qs)(hl:qs.length<=200)(xs:List D)(hx:xs.length<=100000)(o7:Option D):exs Bq [some (Ab tr),some (.int f),some (.int need),some b,some (shD p f),some (.lst xs),some (.lst (qs.map Ag)),o7]=match qs.find? (tst tr need) with
  |none=>.ret (.lst (xs++(As (tst tr need) qs).map Ag))
  |some q=>.nxt [some (Ab tr),some (.int f),some (.int need),some b,some (shD p f),some (.lst (xs++(As (tst tr need) qs).map Ag)),some (.lst ((chN p f q.1 q.2).map Ag)),some (.lst ((As (tst tr need) qs).map Ag))]:=by
 have hu:=Sz hd need hv hl
 have hfl:=Lx (As (tst tr need) qs)
 have hdp:=GC
 have hul:=EN (tst tr need) qs
 have hex:=Su xs ((As (tst tr need) qs).map Ag) (by rw[aac];omega)
 obtain⟨pre,q,e1,e2,e3⟩:=D8 (tst tr need) hq
 have hq0:=hv q e2
 have ht:=HH hd hq0.1 hq0.2
 have hc:=Jr hf hf8 H hh hp hq0.1 hq0.2
 have hla:=He (pre.map Ag) (Ag q)
 have e4:(As (tst tr need) qs).map Ag=pre.map Ag++[Ag q]:=by rw[e1,aap];rfl
 rw[<- e4]at hla
 generalize (As (tst tr need) qs).map Ag=us at *
 have ht:DX.den [Ab tr,Ag q]=.ok (.int (tl tr q.1 q.2)):=ht
 have hc:Dj.den [shD p f,Ag q]=.ok (.lst ((chN p f q.1 q.2).map Ag)):=hc
 rcases e3 with⟨h1,h2⟩|⟨h1,h2⟩
 ·have hlt:¬tl tr q.1 q.2<need:=by have:need<=tl tr q.1 q.2:=of_decide_eq_true h2;exact aco.mpr this
  rw[h1]
  simp_arith[Bq,hu,hdp,hfl,hex,hla,ht,hlt,hc]
 ·have hlt:tl tr q.1 q.2<need:=by have:¬need<=tl tr q.1 q.2:=of_decide_eq_false h2;exact abx.mp this
  rw[h1]
  simp_arith[Bq,hu,hdp,hfl,hex,hla,ht,hlt]
theorem Ku(b:D):∀(n m:Nat)(qs:List Nd)(xs:List D)(o7:Option D),Val p f h qs->qs.length<=200->(∀q∈qs,q.1<n)->n<m->xs.length+200*n<=10000->∃o6 o7',(AM (tv (.cmp .ne (.nm 6) (.lst .nil))) (exs Bq) m [some (Ab tr),some (.int f),some (.int need),some b,some (shD p f),some (.lst xs),some (.lst (qs.map Ag)),o7]=.ret (.lst (xs++(wk (tst tr need) p f n qs).map Ag)))\/(AM (tv (.cmp .ne (.nm 6) (.lst .nil))) (exs Bq) m [some (Ab tr),some (.int f),some (.int need),some b,some (shD p f),some (.lst xs),some (.lst (qs.map Ag)),o7]=.nxt [some (Ab tr),some (.int f),some (.int need),some b,some (shD p f),some (.lst (xs++(wk (tst tr need) p f n qs).map Ag)),o6,o7'])
 |n,m+1,qs,xs,o7,hv,hl,hlv,hm,hx=>by
  have hcd:=MT (qs.map Ag) (M0 qs 6)
  by_cases hq:qs=[]
  ·subst hq
   refine⟨some (.lst []),o7,.inr ?_⟩
   rw[abJ]at hcd
   rw[abJ,DH (by simp_arith[hcd,List.isEmpty])]
   cases n<;>simp[wk,As]
  ·cases n with
   |zero=>
    obtain⟨q,r,rfl⟩:=List.exists_cons_of_ne_nil hq
    exact absurd (hlv q aab) (by omega)
   |succ n=>
    have hc1:tv (.cmp .ne (.nm 6) (.lst .nil)) [some (Ab tr),some (.int f),some (.int need),some b,some (shD p f),some (.lst xs),some (.lst (qs.map Ag)),o7]=.ok true:=by
     have:(qs.map Ag).isEmpty=false:=by
      cases qs with
      |nil=>exact absurd rfl hq
      |cons a r=>rfl
     rw[this]at hcd
     simp_arith[hcd]
    have ht:=QD hd need hf hf8 H hh hp b hq hv hl xs (by omega) o7
    have hul:=EN (tst tr need) qs
    rw[wk]
    cases q:qs.find? (tst tr need) with
    |none=>
     rw[q]at ht
     refine⟨none,none,.inl ?_⟩
     rw[M8 hc1 ht,aaO]
    |some w=>
     rw[q]at ht
     have hw:=hv w (aa6 q)
     have hwl:=hlv w (aa6 q)
     rw[GG hc1 ht]
     obtain⟨o6,o7',e⟩:=Ku b n m (chN p f w.1 w.2) (xs++(As (tst tr need) qs).map Ag) (some (.lst ((As (tst tr need) qs).map Ag))) (DZ hw.1) (Sy (by exact aao hf) hp) (fun x hx=>by have:=FB x hx;exact aar this (aaN hwl)) (by exact aaN hm) (by rw[aaI,aac];omega)
     rw[abb,<- aap]at e
     exact⟨o6,o7',e⟩
end
theorem Hi{p f h e:Nat}(hf:1<=f)(hep:e<=p):∀n a,Val p f h (cov p f h e n a)
 |0,a=>fun q hq=>nomatch hq
 |n+1,a=>by
  intro q hq
  rw[cov]at hq
  by_cases hae:a<e
  ·rw[if_pos hae]at hq
   rcases aaf.mp hq with rfl|hq
   ·refine⟨Ic _ _,?_⟩
    show a/f^lvA p f h e a<cnt p f (lvA p f h e a)
    rw[Bz hf]
    have:=acW a (f^lvA p f h e a)
    omega
   ·exact Hi hf hep n _ q hq
  ·rw[if_neg hae]at hq;cases hq
theorem Hj{p f h e:Nat}:∀n a,(cov p f h e n a).length<=n
 |0,a=>aaj _
 |n+1,a=>by
  rw[cov]
  split
  ·have:=Hj (p:=p) (f:=f) (h:=h) (e:=e) n (nxA p f h e a)
   simp only[aaH];exact abi this
  ·simp
section
variable{tr:List (List Int)}{p f h:Nat}(hd:Dim tr p f h)(need:Int)(hf:2<=f)(hf8:f<=8)(H:Hs p f h)(hh:h<=8)(hp:p<=200)
include hd hf hf8 H hh hp
abbrev wkD(tr:List (List Int))(p f h:Nat)(need:Int)(a:Nat):List Nd:=wk (tst tr need) p f (h+1) (cov p f h p 200 a)
theorem Ly{a:Nat}(ha:a<=p):CB.den [Ab tr,.int f,.int need,.int a]=.ok (.lst ((wkD tr p f h need a).map Ag)):=by
 have hs:=Jq hd
 have hc:=MZ hf hf8 H hh ha (aaj p) hp
 have hv:=Hi (p:=p) (f:=f) (h:=h) (show 1<=f by exact aao hf) (aaj p) 200 a
 obtain⟨o6,o7,e⟩:=Ku hd need hf hf8 H hh hp (.int a) (h+1) FU (cov p f h p 200 a) [] none hv (Hj 200 a) (fun q hq=>by have:=(hv q hq).1;exact abi this) (by unfold FU;exact aaF (acN hh _) (by decide)) (by simp;omega)
 rw[aaX]at e
 unfold Jl at hc
 refine(HE _ rfl).trans (Ai ?_)
 unfold wkD
 generalize (wk (tst tr need) p f (h+1) (cov p f h p 200 a)).map Ag=ws at *
 generalize (cov p f h p 200 a).map Ag=qs at *
 unfold shD at *
 rcases e with e|e
 ·simp_arith[Dc,hs,hc,e]
 ·simp_arith[Dc,hs,hc,e]
end
theorem QE{ms:List Int}{f h l j:Nat}(hl:l<=h)(hj:j<cnt ms.length f l):tl (Ac ms f (h+1)) l j=mxR ms (j*f^l) (min ms.length (j*f^l+f^l)):=by
 unfold tl
 have e1:(Ac ms f (h+1)).getD l []=BA ms f l (cnt ms.length f l):=by
  unfold Ac
  rw[aaQ,aal,acZ (by exact abi hl)];rfl
 rw[e1,aaQ,Sx ms f l hj];rfl
abbrev Til(p f:Nat):List Nd->Nat->Nat->Prop
 |[],a,e=>a=e
 |q::r,a,e=>q.2*f^q.1=a/\Til p f r (min p (q.2*f^q.1+f^q.1)) e
theorem Kv{p f h e:Nat}(hf:1<=f)(hep:e<=p):∀n a,e-a<=n->a<=e->Til p f (cov p f h e n a) a e
 |0,a,h1,h2=>by show a=e;omega
 |n+1,a,h1,h2=>by
  rw[cov]
  by_cases hae:a<e
  ·rw[if_pos hae]
   have hs:a/f^lvA p f h e a*f^lvA p f h e a=a:=by
    have:=abF a (f^lvA p f h e a)
    rw[(GF hae).1,abf]at this
    exact this
   have hn:=MU (p:=p) (f:=f) (h:=h) hf hae hep
   have hn2:=(GF (p:=p) (f:=f) (h:=h) hae).2
   refine⟨hs,?_⟩
   show Til p f _ (min p (a/f^lvA p f h e a*f^lvA p f h e a+f^lvA p f h e a)) e
   rw[hs]
   exact Kv hf hep n (nxA p f h e a) (by omega) hn2
  ·rw[if_neg hae];show a=e;exact abV h2 (abP.mp hae)
theorem Kw{p f l:Nat}(hf:1<=f):∀m s,0<m->s+m<=cnt p f l->Til p f ((adi s m).map fun k=>(l,k)) (s*f^l) (min p ((s+m)*f^l))
 |0,s,h,_=>absurd h (by exact absurd h (by decide))
 |1,s,_,_=>⟨rfl,by show min p (s*f^l+f^l)=_;rw[ab5]⟩
 |m+2,s,_,h2=>by
  have ih:=Kw (p:=p) (f:=f) (l:=l) hf (m+1) (s+1) (by exact abq _) (by omega)
  refine⟨rfl,?_⟩
  show Til p f ((adi (s+1) (m+1)).map fun k=>(l,k)) (min p (s*f^l+f^l)) _
  have h3:=(Bz (p:=p) (f:=f) (l:=l) (j:=s+1) hf).mp (by omega)
  rw[ab5]at h3 ih
  rw[show min p (s*f^l+f^l)=s*f^l+f^l by omega,show s+(m+2)=s+1+(m+1) by omega]
  exact ih
theorem Js{p f l j:Nat}(hf:1<=f):chN p f (l+1) j=(adi (j*f) (min (j*f+f) (cnt p f l)-j*f)).map fun k=>(l,k):=by
 show((aam (cnt p f l)).filter fun k=>k/f==j).map (fun k=>(l,k))=_
 rw[HI hf,List.range'_eq_map_range]
theorem GI{p f l j:Nat}(hf:1<=f)(hj:j<cnt p f (l+1)):chN p f (l+1) j≠[]/\Til p f (chN p f (l+1) j) (j*f^(l+1)) (min p (j*f^(l+1)+f^(l+1))):=by
 have h1:=(Bz hf).mp hj
 have e1:j*f^(l+1)=j*f*f^l:=by rw[aaV,abf (f^l) f,acS]
 have e2:j*f^(l+1)+f^(l+1)=(j*f+f)*f^l:=by rw[e1,Nat.add_mul,aaV,abf f]
 have h2:j*f<cnt p f l:=(Bz hf).mpr (by exact e1▸h1)
 have r:=Kw (p:=p) (f:=f) (l:=l) hf (min (j*f+f) (cnt p f l)-j*f) (j*f) (by omega) (by omega)
 rw[<- Js hf,<- e1,show j*f+(min (j*f+f) (cnt p f l)-j*f)=min (j*f+f) (cnt p f l) by omega]at r
 have e3:min p (min (j*f+f) (cnt p f l)*f^l)=min p (j*f^(l+1)+f^(l+1)):=by
  rw[e2]
  by_cases c:j*f+f<=cnt p f l
  ·rw[acd c]
  ·have h3:¬cnt p f l*f^l<p:=fun z=>absurd ((Bz hf).mpr z) (aaS _)
   have h4:cnt p f l*f^l<=(j*f+f)*f^l:=Nat.mul_le_mul_right _ (by omega)
   rw[abR (by omega:cnt p f l<=j*f+f)]
   omega
 rw[e3]at r
 refine⟨fun z=>?_,r⟩
 have:=congrArg abe z
 rw[Js hf,aac,ac7]at this
 simp at this
 omega
section
variable{ms:List Int}{f h:Nat}(hf:2<=f)(μ:Int)
include hf
theorem GJ{q:Nd}(hl:q.1<=h)(hj:q.2<cnt ms.length f q.1):(tst (Ac ms f (h+1)) μ q=true->∃k x,q.2*f^q.1<=k/\k<min ms.length (q.2*f^q.1+f^q.1)/\ms[k]?=some x/\μ<=x)/\(tst (Ac ms f (h+1)) μ q=false->∀k x,q.2*f^q.1<=k->k<min ms.length (q.2*f^q.1+f^q.1)->ms[k]?=some x->x < μ):=by
 unfold tst
 rw[QE hl hj]
 have hw:0<f^q.1:=abk (by exact aao hf)
 have hlt:=(Bz (show 1<=f by exact aao hf)).mp hj
 obtain⟨⟨k,a1,a2,a3⟩,b1⟩:=Tq (rs:=ms) (a:=q.2*f^q.1) (b:=min ms.length (q.2*f^q.1+f^q.1)) (by omega) (by exact abl ..)
 refine⟨fun z=>⟨k,_,a1,a2,a3,of_decide_eq_true z⟩,fun z k x c1 c2 c3=>?_⟩
 have:=of_decide_eq_false z
 have:=b1 k x c1 c2 c3
 omega
theorem EO:∀(qs:List Nd)(a e:Nat),Val ms.length f h qs->Til ms.length f qs a e->(∀q∈qs,tst (Ac ms f (h+1)) μ q=false)->∀k x,a<=k->k<e->ms[k]?=some x->x < μ
 |[],a,e,_,ht,_,k,x,h1,h2,_=>absurd (show a=e from ht) (by omega)
 |q::r,a,e,hv,ht,hq,k,x,h1,h2,h3=>by
  obtain⟨t1,t2⟩:=ht
  obtain⟨v1,v2⟩:=hv q aab
  by_cases c:k<min ms.length (q.2*f^q.1+f^q.1)
  ·exact(GJ hf μ v1 v2).2 (hq q aab) k x (by exact t1▸h1) c h3
  ·exact EO r _ e (fun q' h=>hv q' (aaa _ h)) t2 (fun q' h=>hq q' (aaa _ h)) k x (by exact abP.mp c) h2 h3
theorem M9:∀(qs:List Nd)(a e:Nat),Val ms.length f h qs->Til ms.length f qs a e->a<=e
 |[],a,e,_,ht=>abd ht
 |q::r,a,e,hv,ht=>by
  obtain⟨t1,t2⟩:=ht
  obtain⟨v1,v2⟩:=hv q aab
  have hlt:=(Bz (show 1<=f by exact aao hf)).mp v2
  have:=M9 r _ e (fun q' h=>hv q' (aaa _ h)) t2
  omega
theorem Jt:∀(qs:List Nd)(a e:Nat)(q:Nd),Val ms.length f h qs->Til ms.length f qs a e->qs.find? (tst (Ac ms f (h+1)) μ)=some q->a<=q.2*f^q.1/\min ms.length (q.2*f^q.1+f^q.1)<=e/\∀k x,a<=k->k<q.2*f^q.1->ms[k]?=some x->x < μ
 |[],a,e,q,_,_,h=>nomatch h
 |q0::r,a,e,q,hv,ht,hq=>by
  obtain⟨t1,t2⟩:=ht
  obtain⟨v1,v2⟩:=hv q0 aab
  have hlt:=(Bz (show 1<=f by exact aao hf)).mp v2
  have hv':Val ms.length f h r:=fun q' h=>hv q' (aaa _ h)
  have hle:=M9 hf r _ e hv' t2
  by_cases c:tst (Ac ms f (h+1)) μ q0=true
  ·rw[abg c]at hq
   cases hq
   exact⟨by exact abd t1.symm,hle,fun k x z1 z2=>absurd z2 (by omega)⟩
  ·rw[abh c]at hq
   obtain⟨z1,z2,z3⟩:=Jt r _ e q hv' t2 hq
   refine⟨by omega,z2,fun k x k1 k2 k3=>?_⟩
   by_cases c2:k<min ms.length (q0.2*f^q0.1+f^q0.1)
   ·exact(GJ hf μ v1 v2).2 (by simpa using c) k x (by exact t1▸k1) c2 k3
   ·exact z3 k x (by exact abP.mp c2) k2 k3
theorem Ju:∀(n:Nat)(qs:List Nd)(a e:Nat),Val ms.length f h qs->(∀q∈qs,q.1<n)->Til ms.length f qs a e->qs≠[]->∃pre q,wk (tst (Ac ms f (h+1)) μ) ms.length f n qs=pre++[q]/\q.1<=h/\q.2<cnt ms.length f q.1/\((tst (Ac ms f (h+1)) μ q=false/\∀k x,a<=k->k<e->ms[k]?=some x->x < μ)\/(q.1=0/\tst (Ac ms f (h+1)) μ q=true/\a<=q.2/\q.2<e/\(∃x,ms[q.2]?=some x/\μ<=x)/\∀k x,a<=k->k<q.2->ms[k]?=some x->x < μ))
 |0,qs,a,e,hv,hn,ht,hne=>by
  cases qs with
  |nil=>exact absurd rfl hne
  |cons q r=>exact absurd (hn q aab) (by omega)
 |n+1,qs,a,e,hv,hn,ht,hne=>by
  obtain⟨pre,q,h1,h2,h3⟩:=D8 (tst (Ac ms f (h+1)) μ) hne
  obtain⟨v1,v2⟩:=hv q h2
  rw[wk,h1]
  rcases h3 with⟨g1,g2⟩|⟨g1,g2⟩
  ·rw[g1]
   obtain⟨z1,z2,z3⟩:=Jt hf μ qs a e q hv ht g1
   obtain⟨l,j⟩:=q
   cases l with
   |zero=>
    refine⟨pre,(0,j),?_,v1,v2,.inr ⟨rfl,g2,?_⟩⟩
    ·have:wk (tst (Ac ms f (h+1)) μ) ms.length f n (chN ms.length f 0 j)=[]:=by
      cases n with
      |zero=>rfl
      |succ m=>rfl
     show pre++[(0,j)]++wk (tst (Ac ms f (h+1)) μ) ms.length f n (chN ms.length f 0 j)=_
     rw[this,aaO]
    ·obtain⟨k,x,k1,k2,k3,k4⟩:=(GJ hf μ v1 v2).1 g2
     simp only[abY,adh]at k1 k2 z1 z2 z3
     have:k=j:=by omega
     subst this
     exact⟨z1,by exact aar k2 z2,⟨x,k3,k4⟩,z3⟩
   |succ l=>
    obtain⟨c1,c2⟩:=GI (p:=ms.length) (f:=f) (l:=l) (j:=j) (by exact aao hf) v2
    have hn':=hn _ h2
    obtain⟨pre',q',w1,w2,w3,w4⟩:=Ju n (chN ms.length f (l+1) j) _ _ (DZ v1) (fun q hq=>by
     have:=FB q hq
     have:l+1<n+1:=hn'
     omega) c2 c1
    refine⟨pre++[(l+1,j)]++pre',q',?_,w2,w3,?_⟩
    ·show pre++[(l+1,j)]++wk (tst (Ac ms f (h+1)) μ) ms.length f n (chN ms.length f (l+1) j)=_
     rw[w1,abb,abb,abb]
    ·rcases w4 with⟨u1,u2⟩|⟨u1,u2,u3,u4,u5,u6⟩
     ·obtain⟨k,x,k1,k2,k3,k4⟩:=(GJ hf μ v1 v2).1 g2
      have:=u2 k x k1 k2 k3
      exact absurd k4 (abx.mpr this)
     ·refine .inr ⟨u1,u2,?_,?_,u5,fun k x k1 k2 k3=>?_⟩
      ·exact aar z1 u3
      ·exact aaw u4 z2
      ·by_cases c:k<j*f^(l+1)
       ·exact z3 k x k1 c k3
       ·exact u6 k x (by exact abP.mp c) k2 k3
  ·rw[g1]
   refine⟨pre,q,by rw[aaO],v1,v2,.inl ⟨g2,?_⟩⟩
   exact EO hf μ qs a e hv ht (fun q' hq'=>by
    have:=abZ.mp g1 q' hq'
    simpa using this)
end
theorem HU(f:Nat):Dm.den [Ab [],.int f]=.ok (shD 0 f):=by
 have h0:Dl.den [.lst []]=.ok (.lst []):=by
  have h1:=Lq (.lst []) rfl
  refine(FM _ rfl).trans (Ai ?_)
  simp_arith[CT,h1]
 refine(FN _ rfl).trans (Ai ?_)
 unfold shD
 show _=Out.ret (.tup [.int 0,.int f])
 rw[show Ab []=.lst [] from rfl]
 simp_arith[CU,h0,acv]
theorem JH(f:Nat)(q:Int):CB.den [Ab [],.int f,.int q,.int 0]=.ok (.lst []):=by
 have hs:=HU f
 have hc:=Hh 0 f 0 (aaj _)
 have h1:=Lr (.lst []) rfl
 have hl:AM (tv (.cmp .ne (.nm 6) (.lst .nil))) (exs Bq) FU [some (Ab []),some (.int f),some (.int q),some (.int 0),some (shD 0 f),some (.lst []),some (.lst []),none]=.nxt [some (Ab []),some (.int f),some (.int q),some (.int 0),some (shD 0 f),some (.lst []),some (.lst []),none]:=by
  unfold FU
  exact DH (by simp_arith[h1])
 refine(HE _ rfl).trans (Ai ?_)
 unfold shD at *
 rw[show((0:Nat):Int)=0 from rfl]at *
 simp_arith[Dc,hs,hc,hl]
theorem Tr{xs:List D}{d:D}:atD (xs++[d]) (-1)=.ok d:=by
 unfold atD ixN
 rw[if_neg (by decide),aaI,if_pos (by simp;omega)]
 show(match (xs++[d])[((-1:Int)+((xs.length + [d].length:Nat):Int)).toNat]? with|some d=>Res.ok d|none=>Res.bad)=_
 rw[show((-1:Int)+((xs.length + [d].length:Nat):Int)).toNat=xs.length by simp;omega]
 simp
abbrev pgD:Option Nat->D
 |none=>.non
 |some k=>.int k
abbrev FsA(ms:List Int)(μ:Int)(a:Nat):Option Nat->Prop
 |none=>∀(k:Nat)(x:Int),a<=k->ms[k]?=some x->x < μ
 |some j=>a<=j/\(∃x:Int,ms[j]?=some x/\μ<=x)/\∀(k:Nat)(x:Int),a<=k->k<j->ms[k]?=some x->x < μ
theorem Hk{ms:List Int}{μ:Int}{a:Nat}:∀{o o':Option Nat},FsA ms μ a o->FsA ms μ a o'->o=o'
 |none,none,_,_=>rfl
 |none,some j,h,⟨h1,⟨x,h2,h3⟩,_⟩=>by have:=h j x h1 h2;exact absurd h3 (abx.mpr this)
 |some j,none,⟨h1,⟨x,h2,h3⟩,_⟩,h=>by have:=h j x h1 h2;exact absurd h3 (abx.mpr this)
 |some i,some j,⟨h1,⟨x,h2,h3⟩,h4⟩,⟨g1,⟨y,g2,g3⟩,g4⟩=>by
  rcases Nat.lt_trichotomy i j with c|c|c
  ·have:=g4 i x h1 c h2;exact absurd h3 (abx.mpr this)
  ·rw[c]
  ·have:=h4 j y g1 c g2;exact absurd g3 (abx.mpr this)
theorem JI{a b:Int}(h:a<b):Al a b=.int a::Al (a+1) b:=by
 unfold Al
 rw[show(b-a).toNat=(b-(a+1)).toNat+1 by omega,acB,aaG,aaJ]
 congr 1
 ·show D.int (a+0)=_;rw[Int.add_zero]
 ·apply abc
  intro k _
  show D.int (a+((k+1:Nat):Int))=D.int (a+1+(k:Int))
  congr 1
  omega
theorem JJ{a b:Int}(h:b<=a):Al a b=[]:=by
 unfold Al
 rw[show(b-a).toNat=0 by omega];rfl
theorem GK{rs:List Int}{q:Int}(pg:D):∀(m a:Nat),rs.length-a=m->a<=rs.length->∀o3:Option D,∃o,FsA rs q a o/\∃o3',AU (.nm 3) (exs AJ) (Al a rs.length) [some (Ad rs),some (.int q),some pg,o3]=match o with
  |some k=>.ret (.int k)
  |none=>.nxt [some (Ad rs),some (.int q),some pg,o3']
 |0,a,h1,h2,o3=>by
  refine⟨none,fun k x k1 k2=>?_,o3,?_⟩
  ·have:=(aaA.mp k2).1
   omega
  ·rw[JJ (by omega)];rfl
 |m+1,a,h1,h2,o3=>by
  have ha:a<rs.length:=by omega
  have hat:=Tp ha
  have hge:rs[a]?=some (rs.getD a 0):=by rw[aaQ,aan ha];rfl
  rw[JI (by exact aaW.mpr ha),AU]
  show ∃o,FsA rs q a o/\∃o3',(exs AJ [some (Ad rs),some (.int q),some pg,some (.int a)]).then _=_
  by_cases c:q<=rs.getD a 0
  ·refine⟨some a,⟨aaj _,⟨_,hge,c⟩,fun k x k1 k2=>absurd k1 (by exact absurd k1 (Nat.not_le.mpr k2))⟩,none,?_⟩
   unfold Ad
   clear hge
   generalize rs.map D.int=R at *
   generalize rs.getD a 0=r at *
   simp_arith[AJ,hat,c]
  ·obtain⟨o,f1,o3',e⟩:=GK (rs:=rs) (q:=q) pg m (a+1) (by omega) (by exact ha) (some (.int a))
   have st:exs AJ [some (Ad rs),some (.int q),some pg,some (.int a)]=.nxt [some (Ad rs),some (.int q),some pg,some (.int a)]:=by
    unfold Ad
    clear hge e f1
    generalize rs.map D.int=R at *
    generalize rs.getD a 0=r at *
    simp_arith[AJ,hat,c]
   refine⟨o,?_,o3',?_⟩
   ·cases o with
    |none=>
     intro k x k1 k2
     by_cases ck:k=a
     ·subst ck;rw[hge]at k2;cases k2;exact abx.mp c
     ·exact f1 k x (by exact abG k1 (Ne.symm ck)) k2
    |some j=>
     obtain⟨g1,g2,g3⟩:=f1
     refine⟨by exact aao g1,g2,fun k x k1 k2 k3=>?_⟩
     by_cases ck:k=a
     ·subst ck;rw[hge]at k3;cases k3;exact abx.mp c
     ·exact g3 k x (by exact abG k1 (Ne.symm ck)) k2 k3
   ·rw[st,Out.then_nxt];exact e
theorem HJ(rs:List Int)(q:Int){a:Nat}(ha:a<=rs.length):∃o,FsA rs q a o/\BI.den [Ad rs,.int q,.lst (Al a rs.length)]=.ok (pgD o):=by
 obtain⟨o,h1,o3,e⟩:=GK (rs:=rs) (q:=q) (.lst (Al a rs.length)) _ a rfl ha none
 refine⟨o,h1,(FZ _ rfl).trans (Ai ?_)⟩
 generalize Ad rs=R at *
 generalize Al a rs.length=G at *
 cases o with
 |none=>
  unfold pgD
  simp_arith[Bl,e]
 |some k=>
  unfold pgD
  simp_arith[Bl,e]
theorem T5{xs:List Int}(h:xs.length=2):∃a b,xs=[a,b]:=by
 match xs,h with
 |[a,b],_=>exact⟨a,b,rfl⟩
abbrev loN(f:Nat)(q:Nd):Nat:=q.2*f^q.1
abbrev hiN(p f:Nat)(q:Nd):Nat:=min p (q.2*f^q.1+f^q.1)
abbrev BB(t:Nd->Bool)(p f:Nat):List Nd->Nat->Option Nat
 |[],a=>some a
 |q::r,a=>if t q=true then(if loN f q<=a/\a<hiN p f q then BB t p f r a else none) else if loN f q=a then BB t p f r (hiN p f q) else none
theorem Lz{p f h:Nat}(hf:2<=f){q:Nd}(hj:q.2<cnt p f q.1):loN f q<hiN p f q:=by
 have hlt:=(Bz (show 1<=f by omega)).mp hj
 have hw:0<f^q.1:=abk (by omega)
 unfold loN hiN
 omega
theorem Hl{t:Nd->Bool}{p f h:Nat}(hf:2<=f):∀(qs:List Nd)(a e:Nat)(r:List Nd),Val p f h qs->Til p f qs a e->(qs.find? t=none->BB t p f (As t qs++r) a=BB t p f r e)/\∀q,qs.find? t=some q->BB t p f (As t qs++r) a=BB t p f r (loN f q)
 |[],a,e,r,_,ht=>⟨fun _=>by rw[show a=e from ht];rfl,fun q h=>nomatch h⟩
 |q0::qs,a,e,r,hv,ht=>by
  obtain⟨t1,t2⟩:=ht
  obtain⟨v1,v2⟩:=hv q0 aab
  have ih:=Hl (t:=t) hf qs _ e r (fun q' h=>hv q' (aaa _ h)) t2
  have lh:=Lz (h:=h) hf v2
  have t1:loN f q0=a:=t1
  by_cases c:t q0=true
  ·rw[abg c,As,if_pos c]
   refine⟨(fun z=>nomatch z),fun q z=>?_⟩
   cases z
   show BB t p f (q0::r) a=_
   rw[BB,if_pos c,if_pos (show loN f q0<=a/\a<hiN p f q0 from⟨abd t1,by rw[<- t1];exact lh⟩),<- t1]
  ·rw[abh c,As,if_neg c]
   have e1:BB t p f ((q0::As t qs)++r) a=BB t p f (As t qs++r) (hiN p f q0):=by
    show BB t p f (q0::(As t qs++r)) a=_
    rw[BB,if_neg c,if_pos t1]
   exact⟨fun z=>e1.trans (ih.1 z),fun q z=>e1.trans (ih.2 q z)⟩
theorem LA{t:Nd->Bool}{p f h:Nat}(hf:2<=f):∀(n:Nat)(qs:List Nd)(a e L:Nat),Val p f h qs->Til p f qs a e->(∀q∈qs,q.1<L)->∀q∈wk t p f n qs,(q.1<=h/\q.2<cnt p f q.1)/\q.1<L/\a<=loN f q
 |0,qs,a,e,L,_,_,_,q,hq=>by cases hq
 |n+1,qs,a,e,L,hv,ht,hL,q,hq=>by
  have sub:∀(qs:List Nd)(a e:Nat),Val p f h qs->Til p f qs a e->∀q∈qs,a<=loN f q:=by
   intro qs
   induction qs with
   |nil=>intro a e _ _ q hq;cases hq
   |cons q0 r ih=>
    intro a e hv ht q hq
    obtain⟨t1,t2⟩:=ht
    rcases aaf.mp hq with rfl|hq
    ·exact abd t1.symm
    ·have lh:=Lz (h:=h) hf (hv q0 aab).2
     have:=ih _ e (fun q' h=>hv q' (aaa _ h)) t2 q hq
     have t1:loN f q0=a:=t1
     have:hiN p f q0<=loN f q:=this
     omega
  have upm:∀(qs:List Nd),∀q∈As t qs,q∈qs:=by
   intro qs
   induction qs with
   |nil=>intro q hq;cases hq
   |cons q0 r ih=>
    intro q hq
    unfold As at hq
    rcases aaf.mp hq with rfl|hq
    ·exact aab
    ·split at hq
     ·cases hq
     ·exact aaa _ (ih q hq)
  unfold wk at hq
  rcases aah.mp hq with hq|hq
  ·have hm:=upm qs q hq
   exact⟨hv q hm,hL q hm,sub qs a e hv ht q hm⟩
  ·cases e1:qs.find? t with
   |none=>rw[e1]at hq;cases hq
   |some q0=>
    rw[e1]at hq
    have hm:=aa6 e1
    obtain⟨v1,v2⟩:=hv q0 hm
    obtain⟨l,j⟩:=q0
    cases l with
    |zero=>
     have:wk t p f n (chN p f 0 j)=[]:=by cases n<;>rfl
     have hq:q∈wk t p f n (chN p f 0 j):=hq
     rw[this]at hq;cases hq
    |succ l=>
     obtain⟨_,c2⟩:=GI (p:=p) (f:=f) (l:=l) (j:=j) (by omega) v2
     obtain⟨w1,w2,w3⟩:=LA (t:=t) hf n (chN p f (l+1) j) _ _ (l+1) (DZ v1) c2 (fun q hq=>FB q hq) q hq
     have:=hL _ hm
     have s1:=sub qs a e hv ht _ hm
     exact⟨w1,by omega,aar s1 w3⟩
theorem Fi{t:Nd->Bool}{p f:Nat}:∀n,wk t p f n []=[]
 |0=>rfl
 |n+1=>rfl
theorem Na{t:Nd->Bool}{p f:Nat}(hf:2<=f):∀(n:Nat)(qs:List Nd)(L:Nat),(∀q∈qs,q.1<=L)->(wk t p f n qs).length<=qs.length+f*L
 |0,qs,L,_=>aau _
 |n+1,qs,L,hL=>by
  rw[wk,aaI]
  have h1:=EN t qs
  cases e:qs.find? t with
  |none=>simp only[ab8];omega
  |some q0=>
   have hq:=hL _ (aa6 e)
   obtain⟨l,j⟩:=q0
   cases l with
   |zero=>
    show(As t qs).length+(wk t p f n (chN p f 0 j)).length<=_
    rw[show chN p f 0 j=[] from rfl,Fi,ab8]
    omega
   |succ l=>
    have ih:=Na (t:=t) (p:=p) hf n (chN p f (l+1) j) l (fun q hq=>aaN (FB q hq))
    have hc:(chN p f (l+1) j).length<=f:=by
     rw[Js (by omega),aac,ac7]
     omega
    show(As t qs).length+(wk t p f n (chN p f (l+1) j)).length<=_
    have hq:l+1<=L:=hq
    have h2:f*(l+1)<=f*L:=Nat.mul_le_mul_left f hq
    rw[Nat.mul_succ]at h2
    omega
abbrev Dv(f:Nat)(q:Nd):Nat:=loN f q*16+(15-q.1)
theorem SA{f:Nat}{x y:Nd}(h:loN f x<loN f y):Dv f x<Dv f y:=by
 unfold Dv
 have:15-x.1<=15:=Nat.sub_le ..
 omega
theorem Nb{t:Nd->Bool}{p f h:Nat}(hf:2<=f)(hh:h<=8):∀(n:Nat)(qs:List Nd)(a e:Nat),Val p f h qs->Til p f qs a e->(wk t p f n qs).Pairwise fun x y=>Dv f x<Dv f y
 |0,qs,a,e,_,_=>abS.nil
 |n+1,qs,a,e,hv,ht=>by
  have up:∀(qs r:List Nd)(a e:Nat),Val p f h qs->Til p f qs a e->r.Pairwise (fun x y=>Dv f x<Dv f y)->(qs.find? t=none->r=[])->(∀q,qs.find? t=some q->∀y∈r,loN f q<=loN f y/\y.1<q.1)->(As t qs++r).Pairwise (fun x y=>Dv f x<Dv f y)/\∀y∈As t qs++r,a<=loN f y:=by
   intro qs
   induction qs with
   |nil=>
    intro r a e _ _ hr hz _
    rw[hz rfl]
    exact⟨abS.nil,fun y hy=>by cases hy⟩
   |cons q0 qs ih=>
    intro r a e hv ht hr hz hq
    obtain⟨t1,t2⟩:=ht
    obtain⟨v1,v2⟩:=hv q0 aab
    have lh:=Lz (h:=h) hf v2
    have t1:loN f q0=a:=t1
    by_cases c:t q0=true
    ·rw[As,if_pos c]
     have hq':=hq q0 (abg c)
     refine⟨ac8.mpr ⟨fun y hy=>?_,hr⟩,fun y hy=>?_⟩
     ·obtain⟨g1,g2⟩:=hq' y hy
      unfold Dv
      omega
     ·rcases aaf.mp hy with rfl|hy
      ·exact abd t1.symm
      ·rw[<- t1];exact(hq' y hy).1
    ·rw[As,if_neg c]
     rw[abh c]at hz hq
     obtain⟨g1,g2⟩:=ih r _ e (fun q' h=>hv q' (aaa _ h)) t2 hr hz hq
     refine⟨ac8.mpr ⟨fun y hy=>SA (aaw lh (g2 y hy)),g1⟩,fun y hy=>?_⟩
     rcases aaf.mp hy with rfl|hy
     ·exact abd t1.symm
     ·have:hiN p f q0<=loN f y:=g2 y hy
      omega
  unfold wk
  cases e1:qs.find? t with
  |none=>exact(up qs [] a e hv ht abS.nil (fun _=>rfl) (fun q z=>by rw[e1]at z;cases z)).1
  |some q0=>
   have hm:=aa6 e1
   obtain⟨v1,v2⟩:=hv q0 hm
   obtain⟨l,j⟩:=q0
   cases l with
   |zero=>
    show(As t qs++wk t p f n (chN p f 0 j)).Pairwise _
    rw[show chN p f 0 j=[] from rfl,Fi]
    exact(up qs [] a e hv ht abS.nil (fun _=>rfl) (fun q _ y hy=>by cases hy)).1
   |succ l=>
    obtain⟨_,c2⟩:=GI (p:=p) (f:=f) (l:=l) (j:=j) (by omega) v2
    refine(up qs (wk t p f n (chN p f (l+1) j)) a e hv ht (Nb hf hh n _ _ _ (DZ v1) c2) (fun z=>by rw[e1]at z;cases z) fun q z y hy=>?_).1
    rw[e1]at z
    cases z
    obtain⟨_,w2,w3⟩:=LA (t:=t) hf n (chN p f (l+1) j) _ _ (l+1) (DZ v1) c2 (fun q hq=>FB q hq) y hy
    exact⟨w3,w2⟩
theorem SB{f:Nat}{l:List Nd}(h:l.Pairwise fun x y=>Dv f x<Dv f y):l.Nodup:=by
 refine abS.imp (fun {a b} z=>?_) h
 intro e
 rw[e]at z
 exact aaS _ z
section
variable{ms:List Int}{f h:Nat}(hf:2<=f)(μ:Int)
include hf
theorem Ky:∀(n:Nat)(qs:List Nd)(a e:Nat),Val ms.length f h qs->(∀q∈qs,q.1<n)->Til ms.length f qs a e->
  (qs.find? (tst (Ac ms f (h+1)) μ)=none/\wk (tst (Ac ms f (h+1)) μ) ms.length f n qs=qs/\BB (tst (Ac ms f (h+1)) μ) ms.length f (wk (tst (Ac ms f (h+1)) μ) ms.length f n qs) a=some e) \/
  (∃pre k,wk (tst (Ac ms f (h+1)) μ) ms.length f n qs=pre++[(0,k)]/\tst (Ac ms f (h+1)) μ (0,k)=true/\BB (tst (Ac ms f (h+1)) μ) ms.length f (wk (tst (Ac ms f (h+1)) μ) ms.length f n qs) a=some k)
 |0,qs,a,e,hv,hn,ht=>by
  cases qs with
  |nil=>exact .inl ⟨rfl,rfl,by rw[show a=e from ht];rfl⟩
  |cons q r=>exact absurd (hn q aab) (acy _)
 |n+1,qs,a,e,hv,hn,ht=>by
  have upn:∀(qs:List Nd),qs.find? (tst (Ac ms f (h+1)) μ)=none->As (tst (Ac ms f (h+1)) μ) qs=qs:=by
   intro qs
   induction qs with
   |nil=>intro _;rfl
   |cons q r ih=>
    intro z
    have c:¬tst (Ac ms f (h+1)) μ q=true:=fun c=>by rw[abg c]at z;cases z
    rw[abh c]at z
    rw[As,if_neg c,ih z]
  unfold wk
  cases e1:qs.find? (tst (Ac ms f (h+1)) μ) with
  |none=>
   refine .inl ⟨rfl,?_,?_⟩
   ·show As _ qs++[]=qs
    rw[aaO,upn qs e1]
   ·exact(Hl hf qs a e [] hv ht).1 e1
  |some q0=>
   have hm:=aa6 e1
   have ht0:=List.find?_some e1
   obtain⟨v1,v2⟩:=hv q0 hm
   have hn0:=hn _ hm
   have hat:=fun r=>(Hl (h:=h) hf qs a e r hv ht).2 q0 e1
   obtain⟨l,j⟩:=q0
   cases l with
   |zero=>
    obtain⟨pre,q,g1,g2,g3⟩:=D8 (tst (Ac ms f (h+1)) μ) (qs:=qs) (fun z=>by rw[z]at hm;cases hm)
    rcases g3 with⟨g3,_⟩|⟨g3,_⟩
    ·rw[e1]at g3;cases g3
     refine .inr ⟨pre,j,?_,ht0,?_⟩
     ·show As _ qs++wk _ _ _ n (chN ms.length f 0 j)=_
      rw[show chN ms.length f 0 j=[] from rfl,Fi,aaO,g1]
     ·show BB _ _ _ (As _ qs++wk _ _ _ n (chN ms.length f 0 j)) a=_
      rw[show chN ms.length f 0 j=[] from rfl,Fi,hat []]
      show some (j*f^0)=_
      rw[abY,adh]
    ·rw[e1]at g3;cases g3
   |succ l=>
    obtain⟨c1,c2⟩:=GI (p:=ms.length) (f:=f) (l:=l) (j:=j) (by omega) v2
    have hn0:l+1<n+1:=hn0
    have ih:=Ky n (chN ms.length f (l+1) j) _ _ (DZ v1) (fun q hq=>aaw (FB q hq) (by omega)) c2
    rcases ih with⟨i1,_,_⟩|⟨pre',k,i1,i0,i2⟩
    ·obtain⟨k,x,k1,k2,k3,k4⟩:=(GJ hf μ v1 v2).1 ht0
     have:=EO hf μ _ _ _ (DZ v1) c2 (fun q hq=>by simpa using abZ.mp i1 q hq) k x k1 k2 k3
     exact absurd k4 (abx.mpr this)
    ·refine .inr ⟨As (tst (Ac ms f (h+1)) μ) qs++pre',k,?_,i0,?_⟩
     ·show As _ qs++wk _ _ _ n (chN ms.length f (l+1) j)=_
      rw[i1,abb]
     ·show BB _ _ _ (As _ qs++wk _ _ _ n (chN ms.length f (l+1) j)) a=_
      rw[hat]
      exact i2
end
theorem QF{p f h:Nat}(hf:1<=f)(H:Hs p f h)(hp:1<=p)(n:Nat):cov p f h p (n+1) 0=[(h,0)]:=by
 have ok:okL p f 0 p h=true:=Er.mpr ⟨Nat.zero_mod _,abl ..⟩
 have e1:lvA p f h p 0=h:=by
  unfold lvA
  cases h with
  |zero=>rfl
  |succ h=>rw[mx,if_pos ok]
 have e2:p<=f^h:=abP.mp fun z=>by
  have:=(Bz (p:=p) (f:=f) (l:=h) (j:=1) hf).mpr (by rw[Nat.one_mul];exact z)
  rw[H.one]at this
  exact absurd this (by decide)
 rw[cov,if_pos (show 0<p from hp)]
 unfold nxA
 rw[e1,aaL,acd e2,QC,ac3]
section
variable{ms:List Int}{f h:Nat}(hf:2<=f)(hf8:f<=8)(H:Hs ms.length f h)(hh:h<=8)(hn:ms.length<=200)(μ:Int)
include hf hf8 H hh hn
theorem SC{q:Nd}(v1:q.1<=h)(v2:q.2<cnt ms.length f q.1){pg:Option Nat}{a:Nat}(hp:tst (Ac ms f (h+1)) μ q=true->pg≠none){r:List Nd}{k:Nat}(hk:BB (tst (Ac ms f (h+1)) μ) ms.length f (q::r) a=some k)(o4 o5 o7 o11 o12:Option D) :
  ∃a' p11 p12,BB (tst (Ac ms f (h+1)) μ) ms.length f r a'=some k/\exs Az [some (Ad ms),some (.int f),some (Ab (Ac ms f (h+1))),some (.int μ),o4,o5,some (pgD pg),o7,some (.int a),some (.int q.1),some (.int q.2),o11,o12]=.nxt [some (Ad ms),some (.int f),some (Ab (Ac ms f (h+1))),some (.int μ),o4,o5,some (pgD pg),o7,some (.int (a':Nat)),some (.int q.1),some (.int q.2),p11,p12]:=by
 have hd:=Jo ms f h
 have hre:=HG ms.length f q.1 q.2 hf8 (aar v1 hh)
 have h1:=Hg hd v1
 have h2:=M7 hd v1 v2
 have hlen:(((ms.map D.int).length:Nat):Int)=(ms.length:Int):=by rw[aac]
 have hasg:∀x y:D,Di (.tp [11,12]) (.tup [x,y]) [some (Ad ms),some (.int f),some (Ab (Ac ms f (h+1))),some (.int μ),o4,o5,some (pgD pg),o7,some (.int a),some (.int q.1),some (.int q.2),o11,o12]=some [some (Ad ms),some (.int f),some (Ab (Ac ms f (h+1))),some (.int μ),o4,o5,some (pgD pg),o7,some (.int a),some (.int q.1),some (.int q.2),some x,some y]:=fun _ _=>rfl
 rw[BB]at hk
 unfold Af at hre
 have hre:Ba.den [.int ms.length,.int f,.int q.1,.int q.2]=.ok (.tup [.int (loN f q:Nat),.int (hiN ms.length f q:Nat)]):=hre
 by_cases c:tst (Ac ms f (h+1)) μ q=true
 ·rw[if_pos c]at hk
  have hpg:=hp c
  by_cases g:loN f q<=a/\a<hiN ms.length f q
  ·rw[if_pos g]at hk
   refine⟨a,some (.int (loN f q:Nat)),some (.int (hiN ms.length f q:Nat)),hk,?_⟩
   have c1:¬tl (Ac ms f (h+1)) q.1 q.2 < μ:=aco.mpr (of_decide_eq_true c)
   have c1:decide (tl (Ac ms f (h+1)) q.1 q.2 < μ)=false:=decide_eq_false c1
   have c2:decide (((loN f q:Nat):Int)<=(a:Int))=true:=decide_eq_true (by omega)
   have c3:decide ((a:Int)<((hiN ms.length f q:Nat):Int))=true:=decide_eq_true (by omega)
   obtain⟨kk,rfl⟩:∃kk,pg=some kk:=by
    cases pg with
    |none=>exact absurd rfl hpg
    |some kk=>exact⟨kk,rfl⟩
   unfold pgD at hasg ⊢
   unfold Ab Ad at *
   simp_arith[Az,hlen,hre,hasg,h1,h2,c1,c2,c3]
  ·rw[if_neg g]at hk;cases hk
 ·rw[if_neg c]at hk
  by_cases g:loN f q=a
  ·rw[if_pos g]at hk
   refine⟨hiN ms.length f q,some (.int (loN f q:Nat)),some (.int (hiN ms.length f q:Nat)),hk,?_⟩
   have c1:decide (tl (Ac ms f (h+1)) q.1 q.2 < μ)=true:=decide_eq_true (abx.mp fun z=>c (decide_eq_true z))
   have c2:(((loN f q:Nat):Int)==(a:Int))=true:=by rw[g];simp
   unfold Ab Ad at *
   simp_arith[Az,hlen,hre,hasg,h1,h2,c1,c2]
  ·rw[if_neg g]at hk;cases hk
theorem Jv{pg:Option Nat}(o4 o5 o7:Option D):∀(ws:List Nd)(a:Nat)(o9 o10 o11 o12:Option D),(∀q∈ws,(q.1<=h/\q.2<cnt ms.length f q.1)/\(tst (Ac ms f (h+1)) μ q=true->pg≠none))->∀k,BB (tst (Ac ms f (h+1)) μ) ms.length f ws a=some k->∃p9 p10 p11 p12,AU (.tp [9,10]) (exs Az) (ws.map Ag) [some (Ad ms),some (.int f),some (Ab (Ac ms f (h+1))),some (.int μ),o4,o5,some (pgD pg),o7,some (.int a),o9,o10,o11,o12]=.nxt [some (Ad ms),some (.int f),some (Ab (Ac ms f (h+1))),some (.int μ),o4,o5,some (pgD pg),o7,some (.int (k:Nat)),p9,p10,p11,p12]
 |[],a,o9,o10,o11,o12,_,k,hk=>by
  cases hk
  exact⟨o9,o10,o11,o12,rfl⟩
 |q::r,a,o9,o10,o11,o12,hv,k,hk=>by
  obtain⟨⟨v1,v2⟩,hp⟩:=hv q aab
  obtain⟨a',p11,p12,hk',e⟩:=SC hf hf8 H hh hn μ v1 v2 hp hk o4 o5 o7 o11 o12
  obtain⟨s9,s10,s11,s12,e2⟩:=Jv o4 o5 o7 r a' (some (.int q.1)) (some (.int q.2)) p11 p12 (fun q' h=>hv q' (aaa _ h)) k hk'
  refine⟨s9,s10,s11,s12,?_⟩
  rw[aaG,AU]
  show(exs Az [some (Ad ms),some (.int f),some (Ab (Ac ms f (h+1))),some (.int μ),o4,o5,some (pgD pg),o7,some (.int a),some (.int q.1),some (.int q.2),o11,o12]).then _=_
  rw[e]
  exact e2
end
abbrev prI(q:Nd):Int×Int:=((q.1:Int),(q.2:Int))
theorem HK:∀ws:List Nd,Dy (ws.map Ag)=some (ws.map prI)
 |[]=>rfl
 |q::r=>by
  show(Dy (r.map Ag)).map (prI q::·)=_
  rw[HK r];rfl
theorem HL{ws:List Nd}(h1:ws.Nodup)(h2:∀q∈ws,q.1<9/\q.2<200)(h3:ws.length<=1000):GX (.lst (ws.map Ag))=.ok (.int (ws.length:Nat)):=by
 show(DQ (Dy (ws.map Ag))).bind _=_
 rw[HK]
 show(if(ws.map prI).Nodup/\(ws.map prI).all E0=true/\(ws.map prI).length<=1000 then Res.ok (D.int ((ws.map prI).length:Nat)) else .bad)=_
 have n1:(ws.map prI).Nodup:=E4 (fun x _ y _ e=>by
  have e1:(x.1:Int)=y.1:=congrArg Prod.fst e
  have e2:(x.2:Int)=y.2:=congrArg Prod.snd e
  exact Prod.ext (acP.mp e1) (acP.mp e2)) h1
 have n2:(ws.map prI).all E0=true:=by
  rw[aay]
  intro x hx
  obtain⟨q,hq,rfl⟩:=aaD.mp hx
  obtain⟨a,b⟩:=h2 q hq
  exact decide_eq_true ⟨aas _,ab7.mpr a,aas _,ab7.mpr b⟩
 rw[if_pos ⟨n1,n2,by rw[aac];exact h3⟩,aac]
theorem QG(ws:List Nd):(ws.map Ag).all (D.shp 7)=true:=by
 rw[aay]
 intro d hd
 obtain⟨q,_,rfl⟩:=aaD.mp hd
 rfl
theorem OR{R T W:D}{ws:List D}{U:List D}{f μ a k:Int}{pg:D}{n m:Nat}(hT:T=.lst U)(hU:U.length=m)(hn:ws.length=n)(hls:GX (.lst ws)=.ok (.int n))(hb:a=0->(n:Int)<=1+f*max 0 ((m:Int)-1))(hf64:0<=f/\f<=8)(o9 o10 o11 o12:Option D) :
  exs (.cons (.iff (.bo true (.cons (.cmp .eq (.nm 4) (.cI 0)) (.cons (.cmp .gt (.bi .len (.cons (.nm 5) .nil)) (.bin .add (.cI 1) (.bin .mul (.nm 1) (.bi .max (.cons (.cI 0) (.cons (.bin .sub (.bi .len (.cons (.nm 2) .nil)) (.cI 1)) .nil)))))) .nil))) (.cons (.ret (.cB false)) .nil) .nil) (.cons (.ret (.bo true (.cons (.cmp .eq (.nm 8) (.nm 7)) (.cons (.cmp .eq (.lenSet (.nm 5)) (.bi .len (.cons (.nm 5) .nil))) .nil)))) .nil)) [some R,some (.int f),some T,some (.int μ),some (.int a),some (.lst ws),some pg,some (.int k),some (.int k),o9,o10,o11,o12]=.ret (.bl true):=by
 subst hT
 have hk:(k==k)=true:=beq_self_eq_true k
 have hnn:((n:Int)==(n:Int))=true:=beq_self_eq_true _
 have hwl:((ws.length:Nat):Int)=n:=by rw[hn]
 have hUl:((U.length:Nat):Int)=m:=by rw[hU]
 have hmul:=Bx f (max 0 ((m:Int)-1)) (by omega) (by omega)
 by_cases c:a=0
 ·have c1:(a==0)=true:=by rw[c];rfl
  have hb:=hb c
  have c2:decide (1+f*max 0 ((m:Int)-1)<(n:Int))=false:=decide_eq_false (aco.mpr hb)
  simp_arith[hwl,hUl,c1,hmul,c2,hk,hls,hnn]
 ·have c1:(a==0)=false:=beq_eq_false_iff_ne.mpr c
  simp_arith[hwl,c1,hk,hls,hnn]
abbrev Op:Ss:=.cons (.iff (.bo true (.cons (.cmp .eq (.nm 4) (.cI 0)) (.cons (.cmp .gt (.bi .len (.cons (.nm 5) .nil)) (.bin .add (.cI 1) (.bin .mul (.nm 1) (.bi .max (.cons (.cI 0) (.cons (.bin .sub (.bi .len (.cons (.nm 2) .nil)) (.cI 1)) .nil)))))) .nil))) (.cons (.ret (.cB false)) .nil) .nil) (.cons (.ret (.bo true (.cons (.cmp .eq (.nm 8) (.nm 7)) (.cons (.cmp .eq (.lenSet (.nm 5)) (.bi .len (.cons (.nm 5) .nil))) .nil)))) .nil)
theorem LB{T:D}{rs ws:List D}{f a:Nat}{μ:Int}{o:Option Nat}{k:Nat}{G:List D}
  (hcp:ev (.comp0 1 [] (.nm 0) (.seq (.nm 2)) (.bi .list (.cons (.nm 0) .nil))) [some (.lst rs),some (.int f),some T,some (.int μ),some (.int a),none,none,none,none,none,none,none,none]=.ok T)
  (hw:CB.den [T,.int f,.int μ,.int a]=.ok (.lst ws)) (hr:Ix (.int a) (.int (rs.length:Nat))=.ok G) (hpl:BI.den [.lst rs,.int μ,.lst G]=.ok (pgD o))
  (ho:(o=none/\k=rs.length)\/(o=some k/\c2 .eq (.lst ws) (.lst [])=.ok (.bl false)/\atD ws (-1)=.ok (.tup [.int 0,.int k])))
  (hfl:∃p9 p10 p11 p12,AU (.tp [9,10]) (exs Az) ws [some (.lst rs),some (.int f),some T,some (.int μ),some (.int a),some (.lst ws),some (pgD o),some (.int k),some (.int a),none,none,none,none]=.nxt [some (.lst rs),some (.int f),some T,some (.int μ),some (.int a),some (.lst ws),some (pgD o),some (.int k),some (.int k),p9,p10,p11,p12])
  (htl:∀p9 p10 p11 p12,exs Op [some (.lst rs),some (.int f),some T,some (.int μ),some (.int a),some (.lst ws),some (pgD o),some (.int k),some (.int k),p9,p10,p11,p12]=.ret (.bl true)) :
  Av.den [.lst rs,.int f,T,.int μ,.int a]=.ok (.bl true):=by
 obtain⟨p9,p10,p11,p12,hfl⟩:=hfl
 have htl:=htl p9 p10 p11 p12
 refine(F0 _ rfl).trans (Ai ?_)
 show exs Bm [some (.lst rs),some (.int f),some T,some (.int μ),some (.int a),none,none,none,none,none,none,none,none]=_
 rw[Bm]
 unfold Op at htl
 generalize (Ss.cons (.iff (.bo true (.cons (.cmp .eq (.nm 4) (.cI 0)) (.cons (.cmp .gt (.bi .len (.cons (.nm 5) .nil)) (.bin .add (.cI 1) (.bin .mul (.nm 1) (.bi .max (.cons (.cI 0) (.cons (.bin .sub (.bi .len (.cons (.nm 2) .nil)) (.cI 1)) .nil)))))) .nil))) (.cons (.ret (.cB false)) .nil) .nil) (.cons (.ret (.bo true (.cons (.cmp .eq (.nm 8) (.nm 7)) (.cons (.cmp .eq (.lenSet (.nm 5)) (.bi .len (.cons (.nm 5) .nil))) .nil)))) .nil))=TL at *
 generalize (E.comp0 1 [] (.nm 0) (.seq (.nm 2)) (.bi .list (.cons (.nm 0) .nil)))=C at *
 rcases ho with⟨rfl,rfl⟩|⟨rfl,h1,h2⟩
 ·unfold pgD at *
  simp_arith[hcp,hw,hr,hpl,hfl,htl]
 ·have h3:c2 .ne (.tup [.int 0,.int k]) (.tup [.int 0,.int k])=.ok (.bl false):=by rw[So];simp
  unfold pgD at *
  simp_arith[hcp,hw,hr,hpl,h1,h2,h3,hfl,htl]
theorem GL(tr:List (List Int))(i:Nat)(δ:Fr)(h:get δ i=.ok (Ab tr)):ev (.comp0 1 [] (.nm 0) (.seq (.nm i)) (.bi .list (.cons (.nm 0) .nil))) δ=.ok (Ab tr):=by
 have h2:=F3 (nl:=1) (fr:=[]) (tg:=.nm 0) (it:=.seq (.nm i)) (elt:=.bi .list (.cons (.nm 0) .nil)) (δ:=δ) (ds:=tr.map Ad) (g:=fun d=>d) (show(get δ i).bind CM=_ by rw[h];rfl) (fun d hd=>by
  obtain⟨x,_,rfl⟩:=aaD.mp hd
  exact⟨[some (Ad x)],rfl,rfl⟩)
 rw[List.map_id']at h2
 exact h2
section
variable{ms:List Int}{f h:Nat}(hf:2<=f)(hf8:f<=8)(H:Hs ms.length f h)(hh:h<=8)(hn:ms.length<=200)(hp1:1<=ms.length)(μ:Int)
include hf hf8 H hh hn hp1
theorem QH{a:Nat}(ha:a<=ms.length):Av.den [Ad ms,.int f,Ab (Ac ms f (h+1)),.int μ,.int a]=.ok (.bl true):=by
 have hd:=Jo ms f h
 have hw:=Ly hd μ hf hf8 H hh hn (a:=a) ha
 have ht:=Kv (p:=ms.length) (f:=f) (h:=h) (e:=ms.length) (by omega) (aaj _) 200 a (by omega) ha
 have hv:=Hi (p:=ms.length) (f:=f) (h:=h) (e:=ms.length) (by omega) (aaj _) 200 a
 have hlv:∀q∈cov ms.length f h ms.length 200 a,q.1<h+1:=fun q hq=>Nat.lt_succ_of_le (hv q hq).1
 obtain⟨o,F,hpl⟩:=HJ ms μ (a:=a) ha
 have hlen:(ms.map D.int).length=ms.length:=aac ..
 have hr:Ix (.int a) (.int ((ms.map D.int).length:Nat))=.ok (Al a ms.length):=by
  rw[hlen]
  exact By (by omega) (by omega) (by omega) (by omega)
 obtain⟨ws,hws⟩:∃ws,ws=wk (tst (Ac ms f (h+1)) μ) ms.length f (h+1) (cov ms.length f h ms.length 200 a):=⟨_,rfl⟩
 have hw:CB.den [Ab (Ac ms f (h+1)),.int f,.int μ,.int a]=.ok (.lst (ws.map Ag)):=by rw[hws];exact hw
 have hwl:=LA (t:=tst (Ac ms f (h+1)) μ) hf (h+1) _ a ms.length (h+1) hv ht hlv
 have hnd:ws.Nodup:=by rw[hws];exact SB (Nb hf hh (h+1) _ a ms.length hv ht)
 have hcnt:ws.length<=(cov ms.length f h ms.length 200 a).length+f*h:=by rw[hws];exact Na hf (h+1) _ h fun q hq=>(hv q hq).1
 have hcl:=Hj (p:=ms.length) (f:=f) (h:=h) (e:=ms.length) 200 a
 have hfh:f*h<=8*8:=Nat.mul_le_mul hf8 hh
 have hset:=HL (ws:=ws) hnd (fun q hq=>by
  rw[hws]at hq
  obtain⟨⟨v1,v2⟩,_,_⟩:=hwl q hq
  have:=Ep (p:=ms.length) (f:=f) (l:=q.1) (by omega)
  exact⟨by omega,by omega⟩) (by omega)
 have hb:(a:Int)=0->((ws.length:Nat):Int)<=1+(f:Int)*max 0 (((h+1:Nat):Int)-1):=fun z=>by
  have z:a=0:=by omega
  subst z
  rw[QF (by omega) H hp1]at hcnt
  have e1:max 0 (((h+1:Nat):Int)-1)=(h:Int):=by omega
  rw[e1]
  have hcnt:ws.length<=1+f*h:=hcnt
  have:((f*h:Nat):Int)=(f:Int)*(h:Int):=aa5 ..
  omega
 have htl:∀(k:Nat)(p9 p10 p11 p12:Option D),exs Op [some (Ad ms),some (.int f),some (Ab (Ac ms f (h+1))),some (.int μ),some (.int a),some (.lst (ws.map Ag)),some (pgD o),some (.int k),some (.int k),p9,p10,p11,p12]=.ret (.bl true):=fun k p9 p10 p11 p12=>
  OR (W:=.non) (U:=(Ac ms f (h+1)).map Ad) rfl (by rw[aac];exact FA hd) (aac ..) hset hb (by omega) p9 p10 p11 p12
 have hcp:=GL (Ac ms f (h+1)) 2 [some (Ad ms),some (.int f),some (Ab (Ac ms f (h+1))),some (.int μ),some (.int a),none,none,none,none,none,none,none,none] rfl
 rcases Ky hf μ (h+1) _ a ms.length hv hlv ht with⟨g1,g2,g3⟩|⟨pre,k,g1,g0,g2⟩
 ·have hall:∀q∈cov ms.length f h ms.length 200 a,tst (Ac ms f (h+1)) μ q=false:=fun q hq=>by simpa using abZ.mp g1 q hq
  have ho:o=none:=Hk F (o':=none) fun k x k1 k2=>EO hf μ _ a ms.length hv ht hall k x k1 (aaA.mp k2).1 k2
  subst ho
  refine LB (T:=Ab (Ac ms f (h+1))) (k:=ms.length) hcp hw hr hpl (.inl ⟨rfl,hlen.symm⟩) ?_ (htl ms.length)
  rw[<- hws]at g2 g3
  exact Jv hf hf8 H hh hn μ (pg:=none) _ _ _ ws a none none none none (fun q hq=>⟨(hws▸hwl) q (hws▸hq) |>.1,fun z=>by rw[g2]at hq;rw[hall q hq]at z;cases z⟩) _ g3
 ·have hne:cov ms.length f h ms.length 200 a≠[]:=fun z=>by
   rw[z,Fi]at g1
   exact absurd g1.symm (by simp)
  obtain⟨pre',q',w1,w2,w3,w4⟩:=Ju (ms:=ms) (h:=h) hf μ (h+1) _ a ms.length hv hlv ht hne
  rw[g1]at w1
  obtain⟨_,e2⟩:=List.append_inj' w1 rfl
  cases e2
  have ho:o=some k:=by
   rcases w4 with⟨u1,_⟩|⟨_,_,u3,u4,u5,u6⟩
   ·rw[g0]at u1;cases u1
   ·exact Hk F (o':=some k) ⟨u3,u5,u6⟩
  subst ho
  rw[<- hws]at g1 g2
  refine LB (T:=Ab (Ac ms f (h+1))) (k:=k) hcp hw hr hpl (.inr ⟨rfl,?_,?_⟩) ?_ (htl k)
  ·rw[Fh _ (QG ws),g1,aap]
   cases pre<;>rfl
  ·rw[g1,aap]
   exact Tr
  ·exact Jv hf hf8 H hh hn μ (pg:=some k) _ _ _ ws a none none none none (fun q hq=>⟨(hws▸hwl) q (hws▸hq) |>.1,fun _ z=>by cases z⟩) _ g2
end
theorem Oq(f:Nat)(hf:2<=f)(hf8:f<=8)(μ:Int):Av.den [Ad [],.int f,Ab [],.int μ,.int 0]=.ok (.bl true):=by
 obtain⟨o,F,hpl⟩:=HJ [] μ (a:=0) (aaj _)
 have ho:o=none:=Hk F (o':=none) fun k x _ k2=>by simp at k2
 subst ho
 refine LB (T:=Ab []) (rs:=[]) (ws:=[]) (f:=f) (a:=0) (k:=0) (o:=none) (G:=Al 0 0) (GL [] 2 _ rfl) (JH f μ) (By (by decide) (by decide) (by decide) (by decide)) hpl (.inl ⟨rfl,rfl⟩) ⟨none,none,none,none,rfl⟩ fun p9 p10 p11 p12=>?_
 exact OR (W:=.non) (U:=[]) (n:=0) (m:=0) rfl rfl rfl (HL (ws:=[]) acg (fun q hq=>by cases hq) (by decide)) (fun _=>by
  have:max 0 (((0:Nat):Int)-1)=0:=by decide
  rw[this,Int.mul_zero];decide) (by omega) p9 p10 p11 p12
theorem QI(ns rs:List Int)(f i:Nat)(tr:List (List Int))(hr:∀r∈rs,0<=r)(hl:rs.length<=200)(hW:∀(q:Int)(a:Nat),a<=rs.length->Av.den [Ad rs,.int f,Ab tr,.int q,.int a]=.ok (.bl true))(o5 o6 o7:Option D):∃p5 p6 p7,exs CW [some (.lst (ns.map .int)),some (Ad rs),some (.int f),some (Ab tr),some (.int i),o5,o6,o7]=.nxt [some (.lst (ns.map .int)),some (Ad rs),some (.int f),some (Ab tr),some (.int i),p5,p6,p7]:=by
 obtain⟨q,hq0,hq⟩:=Oo ns (2+i) (by omega) rs hr hl
 obtain⟨ys,hrow,hyl,hb⟩:=Fx ns (20+i) (by omega) [201,3] (by decide) (by decide)
 obtain⟨x,y,rfl⟩:=T5 hyl
 have hx:=hb 0 x 201 rfl rfl
 have hy:=hb 1 y 3 rfl rfl
 clear hb hyl
 simp only[abQ]at hrow
 have n1:0<(rs.length:Int)+1:=by omega
 obtain⟨a,ha,hal⟩:∃a:Nat,atD [.int 0,.int (x%((rs.length:Int)+1)),.int (x%((rs.length:Int)+1))] y=.ok (.int a)/\a<=rs.length:=by
  have m0:=aa3 x (show(rs.length:Int)+1≠0 by omega)
  have m1:=abr x n1
  have e:((x%((rs.length:Int)+1)).toNat:Int)=x%((rs.length:Int)+1):=acX m0
  have:y=0\/y=1\/y=2:=by omega
  rcases this with rfl|rfl|rfl
  ·exact⟨0,rfl,aau _⟩
  ·exact⟨(x%((rs.length:Int)+1)).toNat,by rw[e];rfl,by omega⟩
  ·exact⟨(x%((rs.length:Int)+1)).toNat,by rw[e];rfl,by omega⟩
 have h1:=hW q a hal
 have d1:Bh.dep=0:=GD
 have d2:Av.dep=9:=F1
 have hfn:D.flat 9 0 (.int q)=true:=rfl
 have tt:(true != true)=false:=rfl
 refine⟨some (.int q),some (.lst [.int x,.int y]),some (.int a),?_⟩
 unfold Ad at *
 simp_arith[CW,hq,d1,hfn,hrow,aac,n1,ha,h1,d2,Qm,tt]
theorem QJ:∀ns:List Int,ns.length<=63->EJ.den [.lst (ns.map .int)]=.ok (.bl true):=by
 intro ns _
 obtain⟨rs,hl,hb,hr⟩:=M1 ns 0 (by decide) 200 (by decide)
 obtain⟨f,hf,hf8,hfan⟩:=Qx ns 1 (by decide)
 have hr0:∀r∈rs,0<=r:=fun r h=>(hb r h).1
 obtain⟨tr,htr,hW⟩:∃tr:List (List Int),AL.den [Ad rs,.int f]=.ok (Ab tr)/\∀(q:Int)(a:Nat),a<=rs.length->Av.den [Ad rs,.int f,Ab tr,.int q,.int a]=.ok (.bl true):=by
  by_cases n0:rs.length=0
  ·have z:rs=[]:=abH n0
   subst z
   refine⟨[],M4 f,fun q a ha=>?_⟩
   have:a=0:=by simpa using ha
   subst this
   exact Oq f hf hf8 q
  ·obtain⟨h,hh,H⟩:=hs8 hf (show 1<=rs.length by omega) hl
   exact⟨Ac rs f (h+1),Ol hf hf8 H hh hl (by omega),fun q a ha=>QH hf hf8 H hh hl (by omega) q ha⟩
 have hft:=M6 tr
 have d1:AL.dep=2:=GE
 have hr8:=By (a:=0) (b:=8) (by decide) (by decide) (by decide) (by decide)
 obtain⟨δ',e,o4,o5,o6,o7,rfl⟩:=Bo (tg:=.nm 4) (b:=exs CW) (fun i δ=>∃o4 o5 o6 o7,δ=[some (.lst (ns.map .int)),some (Ad rs),some (.int f),some (Ab tr),o4,o5,o6,o7]) (ds:=Al 0 8) (δ:=[some (.lst (ns.map .int)),some (Ad rs),some (.int f),some (Ab tr),none,none,none,none]) 0 ⟨none,none,none,none,rfl⟩ (by
  rintro i d δ hd ⟨o4,o5,o6,o7,rfl⟩
  obtain⟨rfl,hi⟩:=C5 hd
  rw[acu]
  obtain⟨q5,q6,q7,e⟩:=QI ns rs f i tr hr0 hl hW o5 o6 o7
  exact⟨_,_,rfl,e,some (.int i),q5,q6,q7,rfl⟩)
 refine(Lk _ rfl).trans (Ai ?_)
 have hr:BH.den [.lst (ns.map .int),.int 0,.int 200]=.ok (Ad rs):=hr
 generalize Ab tr=T at *
 generalize Ad rs=R at *
 simp_arith[D6,hr,hfan,htr,d1,hft,hr8,e]
end Pu
end
namespace Pu
open PySem PySem.Spec PyProof.Rows PySem.W L2
abbrev top(i:Nat):Stmt:=PySem.Challenge.pw_ullage_k36_whole_walks_rule_out.main.body.getD i (.Pass ⟨0,0,0,0⟩)
theorem JK:dfB ["thing"] ["thing"] (top 5) Gz 9=true:=by decide +kernel
theorem HV:dfB ["thing", "least", "most"] ["thing", "least", "most"] (top 6) CO 9=true:=by decide +kernel
theorem Nc:dfB ["shape", "fan", "counts", "many"] ["shape"] (top 8) EG 1=true:=by decide +kernel
theorem Fj:dfB ["counts", "thing"] ["counts", "thing"] (top 10) Br 9=true:=by decide +kernel
theorem LD:dfB ["shape", "thing"] ["shape", "thing"] (top 9) D3 9=true:=by decide +kernel
theorem HW:dfB ["shape", "thing"] ["shape", "thing"] (top 11) CP 9=true:=by decide +kernel
theorem QK:dfB ["shape", "node", "width", "level", "begin"] ["shape", "node"] (top 12) GA 0=true:=by decide +kernel
theorem SD:dfB ["shape", "counts"] ["shape"] (top 15) Ib 1=true:=by decide +kernel
theorem Nf:dfB ["shape", "node"] ["shape", "node"] (top 13) DV 1=true:=by decide +kernel
theorem JL:dfB ["shape", "node", "beneath", "begin", "end"] ["shape", "node"] (top 14) CQ 1=true:=by decide +kernel
theorem Hm:dfB ["pages", "begin", "end"] ["pages", "begin", "end"] (top 19) Cu 9=true:=by decide +kernel
theorem FE:dfB ["shape", "begin", "end", "node", "above"] ["shape", "begin", "end"] (top 18) BF 0=true:=by decide +kernel
theorem Os:dfB ["shape", "begin", "end", "nodes", "at", "node"] ["shape", "begin", "end"] (top 17) Em 1=true:=by decide +kernel
theorem Jw:dfB ["tree"] ["tree"] (top 21) Dk 9=true:=by decide +kernel
theorem JM:dfB ["tree"] ["tree"] (top 22) CT 1=true:=by decide +kernel
theorem JN:dfB ["tree", "fan"] ["tree", "fan"] (top 23) CU 0=true:=by decide +kernel
theorem JO:dfB ["tree", "thing"] ["tree", "thing"] (top 24) DC 9=true:=by decide +kernel
theorem FF:dfB ["tree", "thing"] ["tree", "thing"] (top 25) BG 9=true:=by decide +kernel
theorem Ot:dfB ["tree", "node"] ["tree", "node"] (top 26) Fw 0=true:=by decide +kernel
theorem GM:dfB ["tree", "need", "nodes", "looks", "node"] ["tree", "need", "nodes"] (top 29) Bv 1=true:=by decide +kernel
theorem Ng:dfB ["tree", "fan", "need", "begin", "shape", "walk", "nodes", "looks"] ["tree", "fan", "need", "begin"] (top 28) Dc 1=true:=by decide +kernel
theorem JP:dfB ["_law_script", "_law_place", "_law_seed", "_law_cell_here"] ["_law_script", "_law_place"] (top 31) CV 0=true:=by decide +kernel
theorem Hn:dfB ["_law_cell_here", "_law_k", "_law_one", "_law_two"] ["_law_cell_here", "_law_k"] (top 32) Cv 1=true:=by decide +kernel
theorem Ho:dfB ["_law_script", "_law_place", "_law_sizes", "_law_cell_here", "_law_left", "_law_some", "_law_k", "_law_other"] ["_law_script", "_law_place", "_law_sizes"] (top 33) Cw 2=true:=by decide +kernel
theorem F7:dfB ["_law_script", "_law_place", "_law_most", "_law_some", "_law_scale", "_law_rooms_here", "_law_k", "_law_here"] ["_law_script", "_law_place", "_law_most"] (top 34) BS 2=true:=by decide +kernel
theorem Hq:dfB ["_law_script", "_law_place"] ["_law_script", "_law_place"] (top 35) Cy 1=true:=by decide +kernel
theorem GN:dfB ["_law_script", "_law_place", "_law_rooms_here", "_law_some", "_law_here"] ["_law_script", "_law_place", "_law_rooms_here"] (top 36) AQ 0=true:=by decide +kernel
theorem FG:dfB ["_law_pages", "_law_fan_here", "_law_found"] ["_law_pages", "_law_fan_here"] (top 37) A9 1=true:=by decide +kernel
theorem F8:dfB ["_law_pages", "_law_fan_here", "_law_level", "_law_place", "_law_wide", "_law_k"] ["_law_pages", "_law_fan_here", "_law_level", "_law_place"] (top 38) BU 1=true:=by decide +kernel
theorem GO:dfB ["_law_rooms_here", "_law_fan_here", "_law_tree_here", "_law_counts_here", "_law_level", "_law_row_here", "_law_place", "_law_begin", "_law_end"] ["_law_rooms_here", "_law_fan_here"] (top 39) Bw 2=true:=by decide +kernel
theorem F9:dfB ["_law_rooms_here", "_law_need_here", "_law_pages", "_law_page"] ["_law_rooms_here", "_law_need_here", "_law_pages"] (top 41) Bl 0=true:=by decide +kernel
theorem Ga:dfB ["_law_rooms_here", "_law_fan_here", "_law_tree_here", "_law_need_here", "_law_begin", "_law_way", "_law_page", "_law_end", "_law_at", "_law_level", "_law_place", "_law_low", "_law_high"] ["_law_rooms_here", "_law_fan_here", "_law_tree_here", "_law_need_here", "_law_begin"] (top 42) Bm 9=true:=by decide +kernel
theorem LE:dfB ["_law_script", "_law_rooms_here", "_law_fan_here", "_law_tree_here", "_law_k", "_law_need_here", "_law_some", "_law_begin"] ["_law_script"] (top 43) D6 9=true:=by decide +kernel
set_option maxHeartbeats 0 in
theorem SE{l:PySem.W.OpenLaw}{w:World}{K:PySem.W.Frag}{h:Heap}{mg:Str->Option Value}{fa:Addr}{C2 C3:Addr}(X:K.In h)(G:h.Ns mainGlobals mg)(hfa:mg "law" = some (.ref fa))(t0:Aw K "is_whole" (top 5))(t1:Aw K "is_between" (top 6))(t2:Aw K "levels" (top 8))(t3:Aw K "is_counted_node" (top 10))(t4:Aw K "is_node" (top 9))(t5:Aw K "check_node" (top 11))(t6:Aw K "span" (top 12))(t7:Aw K "top" (top 15))(t8:Aw K "parent" (top 13))(t9:Aw K "children" (top 14))(t10:Aw K "lies_within" (top 19))(t11:Aw K "highest_within" (top 18))(t12:Aw K "cover" (top 17))(t13:Aw K "counts_of" (top 21))(t14:Aw K "rooms_of" (top 22))(t15:Aw K "shape_of" (top 23))(t16:Aw K "has_node" (top 24))(t17:Aw K "check_has_node" (top 25))(t18:Aw K "tells" (top 26))(t19:Aw K "up_to_enough" (top 29))(t20:Aw K "walked" (top 28))(t21:Aw K "_law_cell" (top 31))(t22:Aw K "_law_mix" (top 32))(t23:Aw K "_law_row" (top 33))(t24:Aw K "_law_rooms" (top 34))(t25:Aw K "_law_fan" (top 35))(t26:Aw K "_law_need" (top 36))(t27:Aw K "_law_counts" (top 37))(t28:Aw K "_law_reach" (top 38))(t29:Aw K "_law_tree" (top 39))(t30:Aw K "_law_plain" (top 41))(t31:Aw K "_law_right" (top 42))(t32:Aw K "law" (top 43))(n_len:nsIn K mainGlobals "len" = some none)(n_min:nsIn K mainGlobals "min" = some none)(n_max:nsIn K mainGlobals "max" = some none)(n_abs:nsIn K mainGlobals "abs" = some none)(n_int:nsIn K mainGlobals "int" = some none)(n_list:nsIn K mainGlobals "list" = some none)(n_tuple:nsIn K mainGlobals "tuple" = some none)(n_all:nsIn K mainGlobals "all" = some none)(n_any:nsIn K mainGlobals "any" = some none)(n_sum:nsIn K mainGlobals "sum" = some none)(n_sorted:nsIn K mainGlobals "sorted" = some none)(n_isinstance:nsIn K mainGlobals "isinstance" = some none)(n_str:nsIn K mainGlobals "str" = some none)(n_range:nsIn K mainGlobals "range" = some none)(n_enumerate:nsIn K mainGlobals "enumerate" = some none)(n_zip:nsIn K mainGlobals "zip" = some none)(n_reversed:nsIn K mainGlobals "reversed" = some none)(n_bool:nsIn K mainGlobals "bool" = some none)(n_dict:nsIn K mainGlobals "dict" = some none)(n_ValueError:nsIn K mainGlobals "ValueError" = some none)(n_set:nsIn K mainGlobals "set" = some none)(c2:ClsF K "NoNode" C2)(c3:ClsF K "NoPage" C3)(e2:excIn K C2 DO "ValueError.__new__" = true)(e3:excIn K C3 DO "ValueError.__new__" = true)(y2_2:kitOne K (.ref C2) (.ref C2)=some true)(y2_3:kitOne K (.ref C2) (.ref C3)=some false)(y3_2:kitOne K (.ref C3) (.ref C2)=some false)(y3_3:kitOne K (.ref C3) (.ref C3)=some true)(nl:noL K=true)
  (hden:∀ns:List Int,ns.length<=63->EJ.den [.lst (ns.map .int)]=.ok (.bl true)) :
  ∃fd:FuncData,(∀(s:Shared)(v:Value),BindsTo s fd ⟨[v],[]⟩ [("_law_script",v)])/\∀base:Heap,K.In base->base.Ns mainGlobals mg->FnOk l.prog w K mg base (CXe l.prog w) 11 fa fd ["_law_script"] (spL K):=by
 have O:∀base:Heap,Lw.Ok ⟨⟨K,clA [(2,C2),(3,C3)],B0 [(2,C2),(3,C3)]⟩,l.prog,w,mg,base⟩:=fun base=>Tl rfl X G ⟨n_len,n_min,n_max,n_abs,n_int,n_list,n_tuple,n_all,n_any,n_sum,n_sorted,n_isinstance,n_str,n_range,n_enumerate,n_zip,n_reversed,n_bool,n_dict,n_ValueError,n_set,trivial⟩ ⟨c2,c3,trivial⟩ ⟨⟨y2_2,y2_3,trivial⟩,⟨y3_2,y3_3,trivial⟩,trivial⟩
 refine Qk (cs:=[(2,C2),(3,C3)]) (lv:=10) X G hfa t32 LE (fun _ _ _ _ _ _ s v=>.of_eq rfl) O (fun base=>?_) nl hden
 have rs2:=(⟨rfl,c2.q,e2⟩:NeedG ⟨⟨K,clA [(2,C2),(3,C3)],B0 [(2,C2),(3,C3)]⟩,l.prog,w,mg,base⟩ 0 (.rs 2))
 have cl2:=(⟨rfl,PySem.W.mg_of X G c2.q⟩:NeedG ⟨⟨K,clA [(2,C2),(3,C3)],B0 [(2,C2),(3,C3)]⟩,l.prog,w,mg,base⟩ 0 (.cl 2))
 have rs3:=(⟨rfl,c3.q,e3⟩:NeedG ⟨⟨K,clA [(2,C2),(3,C3)],B0 [(2,C2),(3,C3)]⟩,l.prog,w,mg,base⟩ 0 (.rs 3))
 have cl3:=(⟨rfl,PySem.W.mg_of X G c3.q⟩:NeedG ⟨⟨K,clA [(2,C2),(3,C3)],B0 [(2,C2),(3,C3)]⟩,l.prog,w,mg,base⟩ 0 (.cl 3))
 have h_is_whole:=Ar (lv:=0) (O base) (Aq X G t0 fun _ _ _ _ _ _=>ba1 fun _=>rfl) JK trivial
 have h_is_between:=Ar (lv:=1) (O base) (Aq X G t1 fun _ _ _ _ _ _=>ba3 fun _ _ _=>rfl) HV ⟨⟨by decide,h_is_whole⟩,trivial⟩
 have h_levels:=Ar (lv:=0) (O base) (Aq X G t2 fun _ _ _ _ _ _=>ba1 fun _=>rfl) Nc trivial
 have h_is_counted_node:=Ar (lv:=2) (O base) (Aq X G t3 fun _ _ _ _ _ _=>ba2 fun _ _=>rfl) Fj ⟨⟨by decide,h_is_between⟩,⟨by decide,h_is_between⟩,trivial⟩
 have h_is_node:=Ar (lv:=3) (O base) (Aq X G t4 fun _ _ _ _ _ _=>ba2 fun _ _=>rfl) LD ⟨⟨by decide,h_is_counted_node⟩,⟨by decide,h_levels⟩,trivial⟩
 have h_check_node:=Ar (lv:=4) (O base) (Aq X G t5 fun _ _ _ _ _ _=>ba2 fun _ _=>rfl) HW ⟨⟨by decide,h_is_node⟩,rs2,trivial⟩
 have h_span:=Ar (lv:=5) (O base) (Aq X G t6 fun _ _ _ _ _ _=>ba2 fun _ _=>rfl) QK ⟨⟨by decide,h_check_node⟩,trivial⟩
 have h_top:=Ar (lv:=1) (O base) (Aq X G t7 fun _ _ _ _ _ _=>ba1 fun _=>rfl) SD ⟨⟨by decide,h_levels⟩,trivial⟩
 have h_parent:=Ar (lv:=5) (O base) (Aq X G t8 fun _ _ _ _ _ _=>ba2 fun _ _=>rfl) Nf ⟨⟨by decide,h_check_node⟩,⟨by decide,h_top⟩,trivial⟩
 have h_children:=Ar (lv:=5) (O base) (Aq X G t9 fun _ _ _ _ _ _=>ba2 fun _ _=>rfl) JL ⟨⟨by decide,h_check_node⟩,⟨by decide,h_levels⟩,trivial⟩
 have h_lies_within:=Ar (lv:=0) (O base) (Aq X G t10 fun _ _ _ _ _ _=>ba3 fun _ _ _=>rfl) Hm trivial
 have h_highest_within:=Ar (lv:=6) (O base) (Aq X G t11 fun _ _ _ _ _ _=>ba3 fun _ _ _=>rfl) FE ⟨⟨by decide,h_parent⟩,⟨by decide,h_lies_within⟩,⟨by decide,h_span⟩,⟨by decide,h_parent⟩,trivial⟩
 have h_cover:=Ar (lv:=7) (O base) (Aq X G t12 fun _ _ _ _ _ _=>ba3 fun _ _ _=>rfl) Os ⟨rs3,⟨by decide,h_highest_within⟩,⟨by decide,h_span⟩,trivial⟩
 have h_counts_of:=Ar (lv:=0) (O base) (Aq X G t13 fun _ _ _ _ _ _=>ba1 fun _=>rfl) Jw trivial
 have h_rooms_of:=Ar (lv:=0) (O base) (Aq X G t14 fun _ _ _ _ _ _=>ba1 fun _=>rfl) JM trivial
 have h_shape_of:=Ar (lv:=1) (O base) (Aq X G t15 fun _ _ _ _ _ _=>ba2 fun _ _=>rfl) JN ⟨⟨by decide,h_rooms_of⟩,trivial⟩
 have h_has_node:=Ar (lv:=3) (O base) (Aq X G t16 fun _ _ _ _ _ _=>ba2 fun _ _=>rfl) JO ⟨⟨by decide,h_is_counted_node⟩,⟨by decide,h_counts_of⟩,trivial⟩
 have h_check_has_node:=Ar (lv:=4) (O base) (Aq X G t17 fun _ _ _ _ _ _=>ba2 fun _ _=>rfl) FF ⟨⟨by decide,h_has_node⟩,rs2,trivial⟩
 have h_tells:=Ar (lv:=5) (O base) (Aq X G t18 fun _ _ _ _ _ _=>ba2 fun _ _=>rfl) Ot ⟨⟨by decide,h_check_has_node⟩,trivial⟩
 have h_up_to_enough:=Ar (lv:=6) (O base) (Aq X G t19 fun _ _ _ _ _ _=>ba3 fun _ _ _=>rfl) GM ⟨⟨by decide,h_tells⟩,trivial⟩
 have h_walked:=Ar (lv:=8) (O base) (Aq X G t20 fun _ _ _ _ _ _=>ba4 fun _ _ _ _=>rfl) Ng ⟨⟨by decide,h_shape_of⟩,⟨by decide,h_cover⟩,⟨by decide,h_up_to_enough⟩,⟨by decide,h_tells⟩,⟨by decide,h_children⟩,trivial⟩
 have h_law_cell:=Ar (lv:=0) (O base) (Aq X G t21 fun _ _ _ _ _ _=>ba2 fun _ _=>rfl) JP trivial
 have h_law_mix_k11:=Ar (lv:=0) (O base) (Aq X G t22 fun _ _ _ _ _ _=>ba2 fun _ _=>rfl) Hn trivial
 have h_law_row_k11:=Ar (lv:=1) (O base) (Aq X G t23 fun _ _ _ _ _ _=>ba3 fun _ _ _=>rfl) Ho ⟨⟨by decide,h_law_cell⟩,⟨by decide,h_law_mix_k11⟩,⟨by decide,h_law_cell⟩,⟨by decide,h_law_mix_k11⟩,trivial⟩
 have h_law_rooms_k21:=Ar (lv:=2) (O base) (Aq X G t24 fun _ _ _ _ _ _=>ba3 fun _ _ _=>rfl) F7 ⟨⟨by decide,h_law_row_k11⟩,trivial⟩
 have h_law_fan_k22:=Ar (lv:=2) (O base) (Aq X G t25 fun _ _ _ _ _ _=>ba2 fun _ _=>rfl) Hq ⟨⟨by decide,h_law_row_k11⟩,trivial⟩
 have h_law_need_k27:=Ar (lv:=2) (O base) (Aq X G t26 fun _ _ _ _ _ _=>ba3 fun _ _ _=>rfl) GN ⟨⟨by decide,h_law_row_k11⟩,trivial⟩
 have h_law_counts_k11:=Ar (lv:=0) (O base) (Aq X G t27 fun _ _ _ _ _ _=>ba2 fun _ _=>rfl) FG trivial
 have h_law_reach_k12:=Ar (lv:=0) (O base) (Aq X G t28 fun _ _ _ _ _ _=>ba4 fun _ _ _ _=>rfl) F8 trivial
 have h_law_tree_k22:=Ar (lv:=1) (O base) (Aq X G t29 fun _ _ _ _ _ _=>ba2 fun _ _=>rfl) GO ⟨⟨by decide,h_law_counts_k11⟩,⟨by decide,h_law_reach_k12⟩,trivial⟩
 have h_law_plain_k31:=Ar (lv:=0) (O base) (Aq X G t30 fun _ _ _ _ _ _=>ba3 fun _ _ _=>rfl) F9 trivial
 have h_law_right_k36:=Ar (lv:=9) (O base) (Aq X G t31 fun _ _ _ _ _ _=>ba5 fun _ _ _ _ _=>rfl) Ga ⟨⟨by decide,h_walked⟩,⟨by decide,h_law_plain_k31⟩,⟨by decide,h_law_reach_k12⟩,trivial⟩
 exact⟨⟨by decide,h_law_rooms_k21⟩,⟨by decide,h_law_fan_k22⟩,⟨by decide,h_law_tree_k22⟩,⟨by decide,h_law_need_k27⟩,⟨by decide,h_law_row_k11⟩,⟨by decide,h_law_right_k36⟩,trivial⟩
end Pu
open PySem PySem.W PyProof.Rows
namespace PySem.W.Fast
def tw13779771174539969685:=0
def tw16344429684687063299:=0
def tw18374977526451814601:=0
def tw12895484108878130666:=0
def tw7372283593834748913:=0
def tw16313680329738564222:=0
def tw18252971302209410207:=0
def tw16634097058986484737:=0
def tw7623881406740045684:=0
def tw10174629767403665493:=0
def tw12699817090139242089:=0
def tw8351866117118874901:=0
def tw373207443749309728:=0
def tw17459733516507594720:=0
def tw16728883199069215331:=0
def tw1042235139686077016:=0
def tw15558582505477478213:=0
def tw17872577380224339290:=0
def tw14453765078442474761:=0
def tw7909956048426286926:=0
def tw3661456301983525469:=0
def tw3203947229327811317:=0
def tw11907871803219590765:=0
def tw6578362584973490337:=0
def tw15289100708755635802:=0
def tw8964698988438430644:=0
def tw6334776671341115173:=0
def tw15118670853887436838:=0
def tw18195429754118252689:=0
def tw624423020924899290:=0
def tw2204143492731614913:=0
def tw1198985879520819314:=0
def tw16443008675429480663:=0
def tw3938074824538189792:=0
def tw11206157243463517587:=0
def tw6468690969695543386:=0
def tw11455357047539465497:=0
def tw17337867544379957308:=0
def tw17411126275194027200:=0
def tw8467255447293656609:=0
def tw13962425478992429227:=0
def tw911935147301437009:=0
def tw9310228214086444584:=0
def tw3607714589423559569:=0
def tw14336362925580295648:=0
def tw2844249081209329855:=0
def tw16415068768738126176:=0
def tw13743312961941893667:=0
def tw11610306258290968843:=0
def tw12590068914207899207:=0
def tw5306056430490826222:=0
def tw149892114662960351:=0
def tw6610633842768368984:=0
def tw17704805738505866878:=0
def tw1824480276890002535:=0
def tw12031181664939229722:=0
def tw15684130394379215728:=0
def tw13179514357276606661:=0
def tw733733987380411101:=0
def tw18014770242557376757:=0
def tw8483205662993613960:=0
def tw9540011106643102160:=0
def tw15598574274867901415:=0
def tw14896403287821332763:=0
def tw11503169392436995386:=0
def tw3933803529254768695:=0
def tw16319150601884581860:=0
def tw8036254189127496090:=0
def tw11732555012684806838:=0
def tw17605558177744878596:=0
def tw10011056165600281294:=0
def tw12834794338188017816:=0
def tw321766637985079827:=0
def tw17540421193082594650:=0
def tw9050073781297281219:=0
def tw11573047115716284439:=0
def tw14844618866913833306:=0
def tw6973730015193591328:=0
def tw1723975362090078574:=0
def tw15709782048674481231:=0
def tw6750120682371727764:=0
def tw14892803766271360710:=0
def tw2498260901566667448:=0
def tw16128995453332646518:=0
def tw15319468206440764752:=0
def tw9265578477465406583:=0
def tw473208518322949583:=0
def tw1846129354656741489:=0
def tw4702440504863881617:=0
def tw14053627077780603258:=0
def tw12508558731065576393:=0
def tw11169816714393264854:=0
def tw6889292136744395823:=0
def tw8013363468114659059:=0
def tw9125455512860697195:=0
def tw17033975011540787485:=0
def tw9363745106782628195:=0
def tw9816501359187348192:=0
def tw6886619737427887063:=0
def tw16552230875032626190:=0
def tw4542868668028353714:=0
def tw11730518162460712215:=0
def tw18271470387391821342:=0
def tw11232079956601040586:=0
def tw17902225827330689584:=0
def tw14738635917077609278:=0
def tw628220822021452772:=0
end PySem.W.Fast
local macro_rules | `(tactic| simp_arith!)=>`(tactic| (refine' Pu.AA ?za ?zl ?zc ?zk; (case za=>k_is); (case zl=>k_is); (case zc=>k_is); (case zk=>k_is)))
local macro_rules | `(tactic| simp_all_arith)=>`(tactic| (refine' Pu.Sk ?zq ?zx1 ?zx2 ?zx3 ?zx4 ?zx5 ?zx6 ?zx7 ?zt1 ?zt2 ?zt3 ?zt4 ?zt5 ?zt6 ?zv ?zs; (case zq=>k_is); (case zx1=>k_is); (case zx2=>k_is); (case zx3=>k_is); (case zx4=>k_is); (case zx5=>k_is); (case zx6=>k_is); (case zx7=>k_is); (case zt1=>kit_is); (case zt2=>kit_is); (case zt3=>kit_is); (case zt4=>kit_is); (case zt5=>kit_is); (case zt6=>kit_is); (case zv=>kit_is); (case zs=>k_is)))
set_option maxRecDepth 100000 in
set_option maxHeartbeats 0 in
theorem PySem.Challenge.cw_ullage_k36_whole_walks_rule_out_holds : PySem.Challenge.rw_ullage_k36_whole_walks_rule_out.Holds := by
 w_on;o_law;k_head;(case hw=>w_witness2)
 k_fill
 refine Pu.Tj (l:=PySem.Challenge.rw_ullage_k36_whole_walks_rule_out) (k:=11) (x := "_law_script") rfl rfl ⟨rfl,by decide,by decide⟩ (fun w h Y=>PySem.W.kIn_of Y) ?F
 case F=>
  intro w mg fa h KX G hmg
  refine' Pu.SE KX G hmg ?t0 ?t1 ?t2 ?t3 ?t4 ?t5 ?t6 ?t7 ?t8 ?t9 ?t10 ?t11 ?t12 ?t13 ?t14 ?t15 ?t16 ?t17 ?t18 ?t19 ?t20 ?t21 ?t22 ?t23 ?t24 ?t25 ?t26 ?t27 ?t28 ?t29 ?t30 ?t31 ?t32 ?n_len ?n_min ?n_max ?n_abs ?n_int ?n_list ?n_tuple ?n_all ?n_any ?n_sum ?n_sorted ?n_isinstance ?n_str ?n_range ?n_enumerate ?n_zip ?n_reversed ?n_bool ?n_dict ?n_ValueError ?n_set ?c2 ?c3 ?e2 ?e3 ?y2_2 ?y2_3 ?y3_2 ?y3_3 ?nl Pu.QJ
  (case t0=>simp_arith!)
  (case t1=>simp_arith!)
  (case t2=>simp_arith!)
  (case t3=>simp_arith!)
  (case t4=>simp_arith!)
  (case t5=>simp_arith!)
  (case t6=>simp_arith!)
  (case t7=>simp_arith!)
  (case t8=>simp_arith!)
  (case t9=>simp_arith!)
  (case t10=>simp_arith!)
  (case t11=>simp_arith!)
  (case t12=>simp_arith!)
  (case t13=>simp_arith!)
  (case t14=>simp_arith!)
  (case t15=>simp_arith!)
  (case t16=>simp_arith!)
  (case t17=>simp_arith!)
  (case t18=>simp_arith!)
  (case t19=>simp_arith!)
  (case t20=>simp_arith!)
  (case t21=>simp_arith!)
  (case t22=>simp_arith!)
  (case t23=>simp_arith!)
  (case t24=>simp_arith!)
  (case t25=>simp_arith!)
  (case t26=>simp_arith!)
  (case t27=>simp_arith!)
  (case t28=>simp_arith!)
  (case t29=>simp_arith!)
  (case t30=>simp_arith!)
  (case t31=>simp_arith!)
  (case t32=>simp_arith!)
  (case n_len=>k_is)
  (case n_min=>k_is)
  (case n_max=>k_is)
  (case n_abs=>k_is)
  (case n_int=>k_is)
  (case n_list=>k_is)
  (case n_tuple=>k_is)
  (case n_all=>k_is)
  (case n_any=>k_is)
  (case n_sum=>k_is)
  (case n_sorted=>k_is)
  (case n_isinstance=>k_is)
  (case n_str=>k_is)
  (case n_range=>k_is)
  (case n_enumerate=>k_is)
  (case n_zip=>k_is)
  (case n_reversed=>k_is)
  (case n_bool=>k_is)
  (case n_dict=>k_is)
  (case n_ValueError=>k_is)
  (case n_set=>k_is)
  (case c2=>simp_all_arith)
  (case c3=>simp_all_arith)
  (case e2=>k_exc)
  (case e3=>k_exc)
  (case y2_2=>kit_is)
  (case y2_3=>kit_is)
  (case y3_2=>kit_is)
  (case y3_3=>kit_is)
  (case nl=>exact rfl)

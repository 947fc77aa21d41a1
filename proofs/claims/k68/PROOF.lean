import PyProof.Rows.All
import Wide.All
import OpenK.AllK
import Wide.FinOn
import Lean
import PyProof.EqAt
import PyProof.EqKinds
import PyProof.TupleCall
import PyProof.ZipIter
import PyProof.LongRange
import PyProof.StrBlockL
import PyProof.StrCalls6
import PyProof.SliceStr
import PyProof.StrWalks
import PyProof.StrLawsIn
import PyProof.StrOps2
import PyProof.DelItemList
import PyProof.ListOps
import PyProof.FitsReplace
import PyProof.DictTable
import PyProof.DictKinds
import PyProof.DictStraight
import KE.KEqDict
import PyProof.InstStoreFacts
import PyProof.InstStore
import PySem.Challenge.RW_ullage_k68_again_and_shared
set_option Elab.async false
set_option linter.all false
set_option bootstrap.genMatcherCode false
set_option compiler.extract_closed false
set_option maxRecDepth 100000
local macro_rules | `(command| abbrev $i:declId $s:optDeclSig $v:declVal)=>`(command| noncomputable def $i:declId $s:optDeclSig $v:declVal)
open List renaming mem_cons_of_mem->aaa,length_map->aab,mem_cons_self->aac,getElem?_eq_getElem->aae,mem_append->aag,getD_eq_getElem?_getD->aah,mem_of_getElem?->aaj,mem_cons->aak,getElem?_map->aal,replicate->aam,range->aan,map_append->aaq,size_toArray->aar,all_eq_true->aas,mem_map->aat,mem_append_right->aau,getElem?_set_ne->aay,getElem?_eq_some_iff->aaz,map_map->aaB,mem_append_left->aaD,mem_singleton->aaE,append_nil->aaF,nodup_cons->aaG,length_append->aaH,map_cons->aaI,length_cons->aaL,length_set->aaM,mem_filterMap->aaO,length_range->aaP,map_congr_left->aaQ,all_cons->aaS,getElem?_append_right->aaT,eq_nil_iff_forall_not_mem->aaU,getElem?_append_left->aa0,length->aa1,getElem?_cons_succ->aa4,getElem?_replicate->aa8,getElem_of_mem->aa9,getElem?_eq_none->aba,map_nil->abb,cons_append->abc,getElem?_set_self'->abe,filter_cons_of_pos->abf,filter_cons_of_neg->abg,getElem?_cons_zero->abh,nil_append->abi,map_replicate->abm,mem_filter->abn,range_succ->abp,filterMap_cons->abq,replicate_succ->abr,getElem_mem->abu,length_replicate->aby,ext_getElem?->abC,mem_or_eq_of_mem_set->abD,mem_range->abF,filter_cons->abI,map_set->abJ,length_reverse->abL,any_cons->abM,find?_cons->abO,range_succ_eq_map->abQ,flatten_cons->abS,length_singleton->abT,length_take->abV,getElem?_range->abY,foldl_cons->abZ,drop_eq_getElem_cons->ab0,filter_nil->ab1,mem_replicate->ab3,all_nil->ab5,nodup_append->aca,getElem?_set_self->acb,mem_reverse->acd,map->ace,max?_eq_some_iff->acg,length_filter_le->ach,getElem?_zipIdx->acl,dropLast_subset->acm,eq_nil_of_length_eq_zero->acn,length_zipIdx->acs,filter_append->act,getElem_range->acw,map_take->acy,map_drop->acz,reverse_cons->acA,mem_of_find?_eq_some->acD,length_drop->acE,map_reverse->acG,set->acH,map_id'->acK,of_mem_zip->acL,take_of_length_le->acQ,append_eq_nil_iff->acS,getElem?_reverse->acV,mem_of_mem_drop->acX,mem_of_mem_take->acY,getElem?_of_mem->acZ,reverse_reverse->ac0,flatMap_append->ac8,zipWith->ac9,getElem?_take->adc,getElem?_drop->ade,map_dropLast->adf,filter_congr->adg,foldl->adk
open Nat renaming le_refl->aai,le_trans->aao,le_of_lt->aap,zero_le->aaw,lt_of_le_of_lt->aaC,lt_of_lt_of_le->aaJ,zero_add->aaK,min_le_left->aaR,ne_of_lt->aaV,lt_irrefl->aaX,le_of_lt_succ->aaZ,le_of_succ_le_succ->aa2,min_le_right->aa3,le_of_eq->aa5,succ_le_succ->abd,le_add_left->abj,ne_of_gt->abw,not_lt_zero->abz,le_div_iff_mul_le->abA,pow_pos->abE,lt_succ_self->abG,succ_mul->abH,le_succ->abR,le_of_not_lt->abW,mul_le_mul_right->abX,pow_succ->ab4,not_lt->ab7,mul_le_mul->ab8,lt_succ_of_lt->ab9,min_eq_right->acf,add_comm->aci,mul_comm->acj,div_eq_of_lt_le->acp,eq_zero_or_pos->acr,add_right_comm->acu,le_succ_of_le->acC,lt_or_ge->acF,sub_self->acI,le_add_right->acJ,le_antisymm->acO,log2_lt->acP,le_zero->acR,add_mul->acT,sub_eq_zero_of_le->acW,pow_le_pow_right->ac1,add_le_add_right->ac2,add_le_add_left->ac4,pow_le_pow_left->ac5,add_sub_cancel'->ac6,div_mul_le_self->ac7,one_mul->adh
open Option renaming map_eq_some_iff->aax,isSome_iff_exists->aaN,bind_some->aaY,map_some->aa6,getD_none->adi,getD_some->adj
open Bool renaming and_eq_true->aaf,false_eq_true->aa7,false_ne_true->abl,true_eq_false->abx,and_self->abB,not_true->abN,not_false->abU,or_eq_true_iff->aco,false_and->acq,true_and->acx,not_eq_true'->acB,or_eq_true->acN,and_false->acU,false_or->ac3
open Int renaming toNat_natCast->aav,natCast_nonneg->aaA,ofNat_le->aaW,natCast_mul->abk,emod_nonneg->abo,toNat_of_nonneg->abt,zero_add->abK,emod_lt_of_pos->abP,le_trans->ab2,add_nonneg->ab6,sub_zero->ack,lt_of_le_of_lt->acv,ediv_nonneg->acM,le_of_lt->ada,cast_ofNat_Int->adb
theorem nF{P:Prop}(h:false=true):P:=Bool.noConfusion h
theorem nE{P:Prop}(h:False):P:=h.elim
theorem bS{α β:Type _}{o:Option α}{f:α->Option β}{b:β}(h:o.bind f=some b):∃a,o=some a/\f a=some b:=Option.bind_eq_some_iff.mp h
section
namespace L2
open PySem PySem.Spec PyProof.Rows
@[reducible]noncomputable def Key:=Sum Int Str
abbrev RC:Key->Value->Bool
 |.inl k,v=>Value.isInt k v
 |.inr x,v=>Value.isStrOf x v
abbrev XE(w:World):Key->Int
 |.inl k=>hashInt k
 |.inr x=>hashStr w x
theorem Bf:∀{k:Key}{v:Value},RC k v=true->(∃i t,k=Sum.inl i/\v=Value.int i t)\/(∃x t,k=Sum.inr x/\v=Value.str x t)
 |.inl i,v,h=>by
  obtain⟨t,e⟩:=Value.isInt_shape (k:=i) (v:=v) h
  exact .inl ⟨i,t,rfl,e⟩
 |.inr x,v,h=>by
  obtain⟨t,e⟩:=Value.isStrOf_shape (x:=x) (v:=v) h
  exact .inr ⟨x,t,rfl,e⟩
theorem UE(a b:Int):decide ((Sum.inl a:Key)=Sum.inl b)=(a==b):=by
 by_cases e:a=b
 ·subst e;simp
 ·have h:¬(Sum.inl a:Key)=Sum.inl b:=fun q=>e (Sum.inl.inj q)
  rw[decide_eq_false h]
  exact(beq_eq_false_iff_ne.mpr e).symm
theorem UF(a b:Str):decide ((Sum.inr a:Key)=Sum.inr b)=decide (a=b):=by
 by_cases e:a=b
 ·subst e;simp
 ·have h:¬(Sum.inr a:Key)=Sum.inr b:=fun q=>e (Sum.inr.inj q)
  rw[decide_eq_false h,decide_eq_false e]
theorem UG(a:Int)(b:Str):decide ((Sum.inl a:Key)=Sum.inr b)=false:=decide_eq_false (fun q=>nomatch q)
theorem UH(a:Str)(b:Int):decide ((Sum.inr a:Key)=Sum.inl b)=false:=decide_eq_false (fun q=>nomatch q)
abbrev Jg(prog:Program)(w:World):PySem.KeyKind prog w Key where
 is:=RC
 hash:=XE w
 inj:=fun v a b ha hb=>by
  rcases Bf ha with⟨i,t,rfl,rfl⟩|⟨x,t,rfl,rfl⟩
  ·rcases Bf hb with⟨j,u,rfl,e⟩|⟨y,u,rfl,e⟩
   ·injection e with e1 _;rw[e1]
   ·exact nomatch e
  ·rcases Bf hb with⟨j,u,rfl,e⟩|⟨y,u,rfl,e⟩
   ·exact nomatch e
   ·injection e with e1 _;rw[e1]
 byValue:=fun k v h=>by
  rcases Bf h with⟨i,t,rfl,rfl⟩|⟨x,t,rfl,rfl⟩<;>rfl
 pyHash:=fun hv h=>by
  rcases Bf hv with⟨i,t,rfl,rfl⟩|⟨x,t,rfl,rfl⟩
  ·exact wpAny_pyHash_int h
  ·exact wpAny_pyHash_str h
 eqBool:=fun hu hv h=>by
  rcases Bf hu with⟨i,t,rfl,rfl⟩|⟨x,t,rfl,rfl⟩
  ·rcases Bf hv with⟨j,u,rfl,rfl⟩|⟨y,u,rfl,rfl⟩
   ·rw[UE]at h;exact wpAny_eqBool_int h
   ·rw[UG]at h;exact SeqAt.EqAt.int_str i t y u _ _ _ _ h
  ·rcases Bf hv with⟨j,u,rfl,rfl⟩|⟨y,u,rfl,rfl⟩
   ·rw[UH]at h;exact SeqAt.EqAt.str_int x t j u _ _ _ _ h
   ·rw[UF]at h;exact wpAny_eqBool_str h
 «strs»:=fun k x t v h=>by
  rcases Bf h with⟨i,u,rfl,e⟩|⟨y,u,rfl,e⟩
  ·exact nomatch e
  ·injection e with e1 _
   subst e1
   cases v<;>rfl
end L2
namespace L2
open PySem PySem.Spec PyProof.Rows
inductive V where
 |non|bl (b:Bool)|int (i:Int)|str (x:Str)|byt (b:Array UInt8)|flt (b:UInt64)|ref (a:Addr)|ty (n:String)
 deriving DecidableEq
abbrev RelV:V->Value->Prop
 |.non,u=>u=Value.none
 |.bl b,u=>u=Value.bool b
 |.int i,u=>∃t,u=Value.int i t
 |.str x,u=>∃t,u=Value.str x t
 |.byt b,u=>∃t,u=Value.bytes b t
 |.flt b,u=>∃t,u=Value.float b t
 |.ref a,u=>u=Value.ref a
 |.ty n,u=>u=Value.type n
@[reducible]noncomputable def Vals:List V->List Value->Prop:=Paired RelV
theorem Vals.length{xs:List V}{us:List Value}(r:Vals xs us):xs.length=us.length:=Paired.length r
theorem Vals.get:∀{xs:List V}{us:List Value}{i:Nat}{x:V},Vals xs us->xs[i]?=some x->∃u,us[i]?=some u/\RelV x u
 |_,_,_,_,.nil,e=>by simp at e
 |_,_,0,_,.cons r _,e=>by simp at e;subst e;exact⟨_,rfl,r⟩
 |_,_,i+1,x,.cons _ t,e=>by
  obtain⟨u,h1,h2⟩:=Vals.get (i:=i) (x:=x) t (by simpa using e)
  exact⟨u,by simpa using h1,h2⟩
theorem Vals.set{x:V}{u:Value}(r:RelV x u):∀{xs:List V}{us:List Value}(i:Nat),Vals xs us->Vals (xs.set i x) (us.set i u)
 |_,_,_,.nil=>.nil
 |_,_,0,.cons _ t=>.cons r t
 |_,_,i+1,.cons q t=>.cons q (Vals.set r i t)
theorem Vals.append:∀{xs ys:List V}{us ws:List Value},Vals xs us->Vals ys ws->Vals (xs++ys) (us++ws)
 |_,_,_,_,.nil,s=>s
 |_,_,_,_,.cons r t,s=>.cons r (Vals.append t s)
theorem Vals.take:∀{xs:List V}{us:List Value}(n:Nat),Vals xs us->Vals (xs.take n) (us.take n)
 |_,_,0,_=>.nil
 |_,_,_+1,.nil=>.nil
 |_,_,n+1,.cons r t=>.cons r (Vals.take n t)
theorem Vals.drop:∀{xs:List V}{us:List Value}(n:Nat),Vals xs us->Vals (xs.drop n) (us.drop n)
 |_,_,0,r=>r
 |_,_,_+1,.nil=>.nil
 |_,_,n+1,.cons _ t=>Vals.drop n t
abbrev RelO:Option V->Option Value->Prop
 |some v,some u=>RelV v u
 |none,none=>True
 |_,_=>False
abbrev KV{κ:Type}:List (κ×V)->List (κ×Value)->Prop:=Paired fun(p:κ×V) (q:κ×Value)=>p.1=q.1/\RelV p.2 q.2
abbrev kV:Key->V
 |.inl i=>.int i
 |.inr x=>.str x
inductive HO where
  |lst (xs:List V)
  |tup (xs:List V)
  |dK (kvs:List (Key×V))|dT (kvs:List (List Key×V))
  |set (S:Int->Bool) (n:Nat)
  |ins (C dx:Addr) (fs:List (Str×V))
  |own (x:Addr)
  |xd (fs:List (Str×V))
  |met (f x:Addr)
  |rng (lo hi:Int)
  |frz (o:Obj) (u:HO)
  |tbl (ps:Array Value)
  |ext (φ:Heap->Prop)
@[reducible]noncomputable def Hp:=Addr->Option HO
abbrev upd(H:Hp)(a:Addr)(o:HO):Hp:=fun b=>if b=a then some o else H b
theorem Aq{H:Hp}{a:Addr}{o:HO}:upd H a o a=some o:=by unfold upd;rw[if_pos rfl]
theorem Ah{H:Hp}{a b:Addr}{o:HO}(h:b≠a):upd H a o b=H b:=by unfold upd;rw[if_neg h]
theorem AD{H:Hp}{a b:Addr}{o:HO}(h:H a=some o)(h':H b=none):a≠b:=by
 intro e;subst e;rw[h]at h';cases h'
section
variable(P:Program)(w:World)
abbrev ObjOk(H:Hp)(h:Heap)(a:Addr):HO->Prop
 |.lst xs=>xs.length<=sizeLine/\∃(its:List Value)(n:Nat),Vals xs its/\h.get? a=some {cls:=.type "list",data:=.seq its.toArray n}
 |.tup xs=>xs.length<=sizeLine/\∃its:List Value,Vals xs its/\IsTup h a its.toArray
 |.dK kvs=>kvs.length<=sizeLine/\(a==sysModules)=false/\∃vs,KV kvs vs/\h.DictOf (Jg P w) a vs
 |.dT kvs=>kvs.length<=sizeLine/\(a==sysModules)=false/\∃xs:List (List Key×Addr×Value),
   Paired (fun(p:List Key×V) (q:List Key×Addr×Value)=>p.1=q.1/\H q.2.1=some (.tup (p.1.map kV))/\RelV p.2 q.2.2) kvs xs /\
   ∃o es ep,h.get? a=some o/\o.ExactDict/\o.data=.dict es ep/\es.toList=xs.map (entryOfKey (tupleKind (Jg P w)))/\(xs.map (·.1)).Nodup
 |.set S n=>h.SetOf (intKind P w) a S n
 |.ins C dx fs=>H dx=some (.own a)/\fs.length<=1000/\dx≠a/\h.get? a=some (PySem.W.instObj C dx) /\
   ∃mA,h.Ns1 dx mA/\(∀f,RelO (fs.lookup f) (mA f))/\PySem.Within mA (fs.map (·.1))
 |.own _=>∃o,h.get? a=some o
 |.xd fs=>∃mA,h.Ns1 a mA/\∀f,RelO (fs.lookup f) (mA f)
 |.rng lo hi=>∃t u v,h.get? a=some {cls:=.type "range",data:=.fields #[.int lo t,.int hi u,.int 1 v]}
 |.frz o u=>h.get? a=some o/\ObjOk H h a u
 |.tbl ps=>h.get? a=some {cls:=.none,data:=.fields ps}
 |.met f x=>h.get? a=some (PySem.W.methodObj (.ref f) (.ref x))
 |.ext φ=>φ h/\(∃o,h.get? a=some o)/\∀h1 h2:Heap,φ h1->(∀o,h1.get? a=some o->h2.get? a=some o)->φ h2
abbrev HOk(H:Hp)(h:Heap):Prop:=∀a o,H a=some o->ObjOk P w H h a o
end
section
variable{P:Program}{w:World}{H H':Hp}{h h':Heap}{a:Addr}{o:HO}
theorem ObjOk.lt(x:ObjOk P w H h a o):a<h.objs.size:=by
 cases o with
 |lst xs=>obtain⟨_,_,_,_,e⟩:=x;exact Heap.lt_size e
 |tup xs=>obtain⟨_,_,_,p⟩:=x;exact p.lt
 |dK kvs=>obtain⟨_,_,_,_,o,_,_,e,_⟩:=x;exact Heap.lt_size e
 |dT kvs=>obtain⟨_,_,_,_,o,_,_,e,_⟩:=x;exact Heap.lt_size e
 |set S n=>obtain⟨o,_,_,_,e,_⟩:=x;exact Heap.lt_size e
 |ins C dx fs=>obtain⟨_,_,_,e,_⟩:=x;exact Heap.lt_size e
 |own y=>obtain⟨_,e⟩:=x;exact Heap.lt_size e
 |xd fs=>obtain⟨_,⟨_,_,_,e,_⟩,_⟩:=x;exact Heap.lt_size e
 |rng lo hi=>obtain⟨_,_,_,e⟩:=x;exact Heap.lt_size e
 |frz ob u=>obtain⟨e,_⟩:=x;exact Heap.lt_size e
 |tbl ps=>exact Heap.lt_size (show h.get? a=some _ from x)
 |met f y=>exact Heap.lt_size (show h.get? a=some _ from x)
 |ext φ=>obtain⟨_,⟨_,e⟩,_⟩:=x;exact Heap.lt_size e
theorem Paired.mapP{α β:Type}{F G:α->β->Prop}:∀{l₁:List α}{l₂:List β},Paired F l₁ l₂->(∀a b,F a b->G a b)->Paired G l₁ l₂
 |_,_,.nil,_=>.nil
 |_,_,.cons r t,f=>.cons (f _ _ r) (Paired.mapP t f)
theorem ObjOk.stay(x:ObjOk P w H h a o)(k:∀b u,(b=a\/H b=some (.own a))->h.get? b=some u->h'.get? b=some u)
  (ho:∀b,H b=some (.own a)->H' b=some (.own a)) (ht:∀b xs,H b=some (.tup xs)->H' b=some (.tup xs)):ObjOk P w H' h' a o:=by
 induction o with
 |lst xs=>obtain⟨z,its,n,r,e⟩:=x;exact⟨z,its,n,r,k _ _ (.inl rfl) e⟩
 |tup xs=>obtain⟨z,its,r,ob,e,c⟩:=x;exact⟨z,its,r,ob,k _ _ (.inl rfl) e,c⟩
 |dK kvs=>obtain⟨z,y,vs,r,ob,es,ep,e,c⟩:=x;exact⟨z,y,vs,r,ob,es,ep,k _ _ (.inl rfl) e,c⟩
 |dT kvs=>
  obtain⟨z,y,xs,r,ob,es,ep,e,c⟩:=x
  exact⟨z,y,xs,Paired.mapP r fun p q z=>⟨z.1,ht _ _ z.2.1,z.2.2⟩,ob,es,ep,k _ _ (.inl rfl) e,c⟩
 |set S n=>obtain⟨ob,es,ep,t,e,c⟩:=x;exact⟨ob,es,ep,t,k _ _ (.inl rfl) e,c⟩
 |ins C dx fs=>
  obtain⟨d,z,ne,e,mA,⟨od,es,ep,e2,c⟩,r⟩:=x
  exact⟨ho _ d,z,ne,k _ _ (.inl rfl) e,mA,⟨od,es,ep,k _ _ (.inr d) e2,c⟩,r⟩
 |own y=>obtain⟨ob,e⟩:=x;exact⟨ob,k _ _ (.inl rfl) e⟩
 |xd fs=>obtain⟨mA,⟨od,es,ep,e,c⟩,r⟩:=x;exact⟨mA,⟨od,es,ep,k _ _ (.inl rfl) e,c⟩,r⟩
 |rng lo hi=>obtain⟨t,u,v,e⟩:=x;exact⟨t,u,v,k _ _ (.inl rfl) e⟩
 |frz ob u ih=>obtain⟨e,q⟩:=x;exact⟨k _ _ (.inl rfl) e,ih q⟩
 |tbl ps=>
  have e:h.get? a=some {cls:=.none,data:=.fields ps}:=x
  show h'.get? a=some {cls:=.none,data:=.fields ps}
  exact k a _ (.inl rfl) e
 |met f y=>
  have e:h.get? a=some (PySem.W.methodObj (.ref f) (.ref y)):=x
  show h'.get? a=some (PySem.W.methodObj (.ref f) (.ref y))
  exact k a _ (.inl rfl) e
 |ext φ=>obtain⟨p,⟨o,e⟩,st⟩:=x;exact⟨st _ _ p fun o q=>k _ _ (.inl rfl) q,⟨o,k _ _ (.inl rfl) e⟩,st⟩
theorem HOk.lt(x:HOk P w H h)(e:H a=some o):a<h.objs.size:=(x a o e).lt
theorem HOk.fresh(x:HOk P w H h)(e:h.objs.size<=a):H a=none:=by
 cases q:H a with
 |none=>rfl
 |some u=>exact absurd (aaJ (x.lt q) e) (aaX _)
theorem HOk.kept(x:HOk P w H h)(k:∀b u,h.get? b=some u->h'.get? b=some u):HOk P w H h':=fun a o e=>
 (x a o e).stay (fun b u _ q=>k b u q) (fun _ q=>q) fun _ _ q=>q
theorem HOk.laid(x:HOk P w H h)(k:∀b u,h.get? b=some u->h'.get? b=some u)(hp:h.objs.size<=a)(new:ObjOk P w (upd H a o) h' a o):HOk P w (upd H a o) h':=fun b u e=>by
 have hn:=x.fresh hp
 by_cases hb:b=a
 ·subst hb;rw[Aq]at e;cases e;exact new
 ·rw[Ah hb]at e
  exact(x b u e).stay (fun c v _ q=>k c v q) (fun c q=>by rw[Ah (AD q hn)];exact q) fun c xs q=>by rw[Ah (AD q hn)];exact q
end
abbrev Rd(H:Hp)(a:Addr)(u:HO):Prop:=H a=some u\/∃o,H a=some (.frz o u)
theorem Rd.ok{P:Program}{w:World}{H:Hp}{h:Heap}{a:Addr}{u:HO}(r:Rd H a u)(x:HOk P w H h):ObjOk P w H h a u:=by
 rcases r with r|⟨o,r⟩
 ·exact x a u r
 ·obtain⟨_,q⟩:=x a _ r
  exact q
abbrev Mut:Option HO->Prop
 |some (.lst _)=>True
 |some (.dK _)=>True
 |some (.dT _)=>True
 |some (.set _ _)=>True
 |some (.ins _ _ _)=>True
 |some (.ext _)=>True
 |_=>False
section
variable{P:Program}{w:World}{H:Hp}{h h':Heap}{x e:Addr}{o':HO}
theorem HOk.write(ok:HOk P w H h)(mu:Mut (H x))(he:e=x\/H e=some (.own x))(k:∀b u,b≠e->h.get? b=some u->h'.get? b=some u)(heo:∃u,h'.get? e=some u)
  (new:ObjOk P w (upd H x o') h' x o'):HOk P w (upd H x o') h':=fun b u q=>by
 have nown:∀c y,H c=some (.own y)->c≠x:=fun c y r z=>by subst z;rw[r]at mu;exact mu
 have ntup:∀c xs,H c=some (.tup xs)->c≠x:=fun c xs r z=>by subst z;rw[r]at mu;exact mu
 by_cases hb:b=x
 ·subst hb;rw[Aq]at q;cases q;exact new
 ·rw[Ah hb]at q
  by_cases hbe:b=e
  ·have q':H b=some (.own x):=by
    rcases he with z|z
    ·exact absurd (hbe.trans z) hb
    ·rw[hbe];exact z
   rw[q]at q';cases q'
   obtain⟨v,hv⟩:=heo
   exact⟨v,by rw[hbe];exact hv⟩
  ·refine(ok b u q).stay (fun c v hc r=>k c v ?_ r) (fun c r=>by rw[Ah (nown c b r)];exact r) fun c xs r=>by rw[Ah (ntup c xs r)];exact r
   rcases hc with rfl|hc
   ·exact hbe
   ·rintro rfl
    rcases he with z|z
    ·exact nown c b hc z
    ·rw[hc]at z;cases z;exact hb rfl
end
structure Un(fs ex:List Addr)(H H':Hp)(h h':Heap):Prop where
 keep:∀b o,h.get? b=some o->H b=none->b∉fs->b∉ex->h'.get? b=some o
 slot:∀b o,h.get? b=some o->H b=none->b∈fs->b∉ex->∃sl,h'.get? b=some {o with slots:=sl}
 free:∀b o,h.get? b=some o->H b=none->b∉ex->H' b=none
 there:∀b o,h.get? b=some o->b∉ex->∃o',h'.get? b=some o'
 tups:∀b xs,H b=some (.tup xs)->H' b=some (.tup xs)
 frzs:∀b o u,H b=some (.frz o u)->H' b=some (.frz o u)
 tbls:∀b ps,H b=some (.tbl ps)->∃more,H' b=some (.tbl (ps++more))
section
variable{fs fs' ex ex':List Addr}{H H1 H2:Hp}{h h1 h2 h':Heap}{a x e:Addr}{o:HO}
theorem Un.any(u:Un fs ex H H1 h h1){b:Addr}{ob:Obj}(q:h.get? b=some ob)(n:H b=none)(hx:b∉ex):∃sl,h1.get? b=some {ob with slots:=sl}:=by
 by_cases hb:b∈fs
 ·exact u.slot b ob q n hb hx
 ·exact⟨ob.slots,u.keep b ob q n hb hx⟩
theorem Un.kept(k:∀b u,h.get? b=some u->h'.get? b=some u):Un fs ex H H h h' :=
 ⟨fun b ob q _ _ _=>k b ob q,fun b ob q _ _ _=>⟨ob.slots,k b ob q⟩,fun _ _ _ n _=>n,fun b ob q _=>⟨ob,k b ob q⟩,fun _ _ q=>q,fun _ _ _ q=>q,fun _ ps q=>⟨#[],by rw[q];simp⟩⟩
theorem Un.refl:Un fs ex H H h h:=Un.kept fun _ _ q=>q
theorem Un.laid(k:∀b u,h.get? b=some u->h'.get? b=some u)(hp:h.objs.size<=a)(hn:H a=none):Un fs ex H (upd H a o) h h' where
 keep:=fun b u q _ _ _=>k b u q
 slot:=fun b u q _ _ _=>⟨u.slots,k b u q⟩
 free:=fun b u q n _=>by rw[Ah (aaV (aaJ (Heap.lt_size q) hp))];exact n
 there:=fun b u q _=>⟨u,k b u q⟩
 tups:=fun b xs q=>by rw[Ah (AD q hn)];exact q
 frzs:=fun b u xs q=>by rw[Ah (AD q hn)];exact q
 tbls:=fun b ps q=>⟨#[],by rw[Ah (AD q hn),q];simp⟩
theorem Un.write(mu:Mut (H x))(he:e=x\/H e=some (.own x))(k:∀b u,b≠e->h.get? b=some u->h'.get? b=some u)(heo:∃u,h'.get? e=some u):Un fs ex H (upd H x o) h h':=by
 have hx:∀b,H b=none->b≠x:=fun b n z=>by subst z;rw[n]at mu;exact mu
 have hb:∀b,H b=none->b≠e:=fun b n z=>by
  subst z
  rcases he with r|r
  ·exact hx b n r
  ·rw[n]at r;cases r
 have hm:∀b u,H b=some u->¬Mut (some u)->b≠x:=fun b u q nm z=>by subst z;rw[q]at mu;exact nm mu
 refine⟨fun b u q n _ _=>k b u (hb b n) q,fun b u q n _ _=>⟨u.slots,k b u (hb b n) q⟩,fun b u q n _=>by rw[Ah (hx b n)];exact n,fun b u q _=>?_,
  fun b xs q=>by rw[Ah (hm b _ q fun z=>z)];exact q,fun b u xs q=>by rw[Ah (hm b _ q fun z=>z)];exact q,fun b ps q=>⟨#[],by rw[Ah (hm b _ q fun z=>z),q];simp⟩⟩
 by_cases hbe:b=e
 ·subst hbe;exact heo
 ·exact⟨u,k b u hbe q⟩
end
abbrev trk(h:Heap)(H:Hp):List Addr:=(aan h.objs.size).filter fun a=>(H a).isSome
abbrev FW(h:Heap)(H:Hp):Heap:=PySem.W.hideAll h (trk h H)
theorem Ow(h:Heap)(H:Hp):(FW h H).objs.size=h.objs.size:=PySem.W.hideAll_size _ _
theorem Qf{h:Heap}{H:Hp}{b:Addr}{o:Obj}(e:h.get? b=some o)(n:H b=none):(FW h H).get? b=some o :=
 PySem.W.hideAll_get _ e fun hm=>by
  have q:(H b).isSome=true:=(abn.mp hm).2
  rw[n]at q;simp at q
theorem Sd{h:Heap}{H:Hp}{b:Addr}{o:Obj}(e:(FW h H).get? b=some o):h.get? b=some o/\H b=none:=by
 have e':h.get? b=some o:=PySem.W.of_hideAll (trk h H) e
 refine⟨e',?_⟩
 cases q:H b with
 |none=>rfl
 |some x=>
  have hm:b∈trk h H:=abn.mpr ⟨abF.mpr (Heap.lt_size e'),by simp[q]⟩
  have z:(FW h H).get? b=none:=PySem.W.hideAll_none (trk h H) hm
  rw[z]at e;cases e
structure Mod(K:PySem.W.Frag)(mg:Str->Option Value)(base:Heap):Prop where
 kin:K.In base
 glob:base.Ns mainGlobals mg
 blt:∃mb,base.Ns builtinsNs mb/\∀x:Str,x≠"__name__" -> mb x=bootBuiltins x
 nolimit:base.NoLimit
structure Cx where
 prog:Program
 w:World
 K:PySem.W.Frag
 mg:Str->Option Value
 base:Heap
 A:Around
 N:List Str
 s₀:Shared
 H₀:Hp
 env:Env
 outer:List Env
 stack:List Env
 ex:List Addr
 fn:Str->Bool
 calm:Bool
 pn:List (Addr×Obj)
 xe:Value->Shared->Prop
abbrev frs(l:List Env):List Addr:=l.filterMap (·.frame)
@[reducible]noncomputable def Cx.fs(X:Cx):List Addr:=frs X.outer
abbrev Vis(sc:Scope)(x:Str):Prop:=sc.names.lookup x=some .local\/sc.names.lookup x=some .cell\/sc.names.lookup x=some .free
abbrev Loc(sc:Scope)(x:Str):Prop:=sc.names.lookup x=some .local\/sc.names.lookup x=some .cell
abbrev XF(env:Env)(h:Heap)(m:Str->Option Value)(x:Str)(u:Value):Prop :=
 (env.kindOf x=some .local/\m x=some u)\/((env.kindOf x=some .cell\/env.kindOf x=some .free)/\∃c,env.cells.lookup x=some c/\h.IsCell c (some u))
structure Cx.Ok(X:Cx):Prop where
 mod:Mod X.K X.mg X.base
 kind:X.env.scope.kind=.function
 glob:X.env.globals=mainGlobals
 blt:X.env.builtins=builtinsNs
 above:X.s₀.heap.objs.size<=X.env.locals
 inj:∀x y c,X.env.cells.lookup x=some c->X.env.cells.lookup y=some c->x=y
 has:∀x,(X.env.kindOf x=some .cell\/X.env.kindOf x=some .free)->∃c,X.env.cells.lookup x=some c
 cab:∀x c,X.fn x=true->X.env.cells.lookup x=some c->X.s₀.heap.objs.size<=c
 hd:X.calm=true->X.A.handled=none
 frames:X.A.frames=some X.stack
 stk:X.stack=X.outer\/(X.stack=X.env::X.outer/\X.env.frame=some X.env.locals)
 exf:∀b∈X.ex,b≠X.env.locals/\∀x c,X.env.cells.lookup x=some c->c≠b
 bs:∀b o,X.base.get? b=some o->X.s₀.heap.get? b=some o/\X.H₀ b=none
 bsz:X.base.objs.size<=X.s₀.heap.objs.size
 noex:∀b o,X.base.get? b=some o->b∉X.ex
 exfs:∀b∈X.ex,b∉X.fs
 funs:X.s₀.heap.FunFrames X.base X.outer
 frf:∀b∈X.fs,X.H₀ b=none
structure Inv(X:Cx)(pins:List (Addr×Obj))(σ:List (Option V))(H:Hp)(s:Shared):Prop where
 ok:X.Ok
 os:s.os=X.s₀.os
 bare:AllBare s.gens
 base:Un X.fs X.ex X.H₀ H X.s₀.heap s.heap
 loc:∃m,s.heap.Ns X.env.locals m/\∀(i:Nat)(x:Str)(v:V),X.N[i]?=some x->σ[i]?=some (some v)->Vis X.env.scope x->∃u,RelV v u/\XF X.env s.heap m x u
 cell:∀x c,X.env.cells.lookup x=some c->∃v,s.heap.IsCell c v
 free:H X.env.locals=none
 freeC:∀x c,X.env.cells.lookup x=some c->H c=none
 pin:∀p∈X.pn++pins,s.heap.get? p.1=some p.2/\H p.1=none/\p.1≠X.env.locals/\p.1∉X.fs/\∀v,p.2.data≠.cell v
 hok:HOk X.prog X.w H s.heap
 len:σ.length=X.N.length
section
variable{X:Cx}{pins:List (Addr×Obj)}{σ:List (Option V)}{H H':Hp}{s:Shared}{h':Heap}
theorem Cx.Ok.nofr(ok:X.Ok){b:Addr}{o:Obj}(e:X.base.get? b=some o):b∉X.fs:=fun hb=>by
 have:=(ok.funs.mem hb).1
 rw[e]at this;cases this
theorem Inv.bs(I:Inv X pins σ H s):∀b o,X.base.get? b=some o->s.heap.get? b=some o/\H b=none:=fun b o e=>
 ⟨I.base.keep b o (I.ok.bs b o e).1 (I.ok.bs b o e).2 (I.ok.nofr e) (I.ok.noex b o e),I.base.free b o (I.ok.bs b o e).1 (I.ok.bs b o e).2 (I.ok.noex b o e)⟩
theorem Inv.bk(I:Inv X pins σ H s):∀b o,X.base.get? b=some o->s.heap.get? b=some o:=fun b o e=>(I.bs b o e).1
theorem Inv.mod(I:Inv X pins σ H s):Mod X.K X.mg X.base:=I.ok.mod
theorem Inv.kIn(I:Inv X pins σ H s):X.K.In s.heap:=I.ok.mod.kin.keeps I.bk
theorem Inv.fr(I:Inv X pins σ H s):∃m,Fr X.base X.env.locals s.heap m :=
 let ⟨m,hn,_⟩:=I.loc
 ⟨m,hn,I.bk,aao I.ok.bsz I.ok.above⟩
theorem Inv.lt(I:Inv X pins σ H s):X.env.locals<s.heap.objs.size:=let ⟨_,hn,_⟩:=I.loc;hn.lt
theorem Inv.sz(I:Inv X pins σ H s):X.s₀.heap.objs.size<=s.heap.objs.size:=aao I.ok.above (aap I.lt)
theorem Inv.nofs(I:Inv X pins σ H s){a:Addr}(h:s.heap.objs.size<=a):a∉X.fs:=fun hb=>by
 obtain⟨_,o,ho,_⟩:=I.ok.funs.mem hb
 exact absurd (aaJ (Heap.lt_size ho) (aao I.sz h)) (aaX _)
theorem Inv.cne(I:Inv X pins σ H s):∀x c,X.env.cells.lookup x=some c->c≠X.env.locals:=fun x c e z=>by
 obtain⟨v,o,ho,hd⟩:=I.cell x c e
 obtain⟨m,⟨o',es,ep,ho',hd',_⟩,_⟩:=I.loc
 rw[z,ho']at ho;cases ho;rw[hd']at hd;cases hd
theorem Inv.funs(I:Inv X pins σ H s):s.heap.FunFrames X.base X.outer:=by
 have all:∀(l:List Env),(∀b∈frs l,b∈X.fs)->X.s₀.heap.FunFrames X.base l->s.heap.FunFrames X.base l:=by
  intro l
  induction l with
  |nil=>intro _ _;trivial
  |cons env r ih=>
   intro hs hl
   obtain⟨hk,⟨L,o,hf,hn,ho,hd⟩,hr⟩:=hl
   have hL:L∈X.fs:=hs L (by unfold frs;rw[abq,hf];exact aac)
   obtain⟨sl,e⟩:=I.base.slot L o ho (I.ok.frf L hL) hL fun z=>I.ok.exfs L z hL
   exact⟨hk,⟨L,_,hf,hn,e,hd⟩,ih (fun b hb=>hs b (by unfold frs;rw[abq,hf];exact aaa _ hb)) hr⟩
 exact all X.outer (fun _ hb=>hb) I.ok.funs
theorem Inv.stack(I:Inv X pins σ H s):s.heap.FunFrames X.base X.stack:=by
 rcases I.ok.stk with e|⟨e,hf⟩
 ·rw[e];exact I.funs
 ·rw[e]
  obtain⟨m,hn,_⟩:=I.loc
  refine .cons (by rw[I.ok.kind];decide) hf hn ?_ I.funs
  exact Heap.get?_none_of_le (aao I.ok.bsz I.ok.above)
theorem Inv.stkSub(I:Inv X pins σ H s):∀b∈frs X.stack,b∈X.env.locals::X.fs:=fun b hb=>by
 rcases I.ok.stk with e|⟨e,hf⟩
 ·rw[e]at hb;exact aaa _ hb
 ·rw[e]at hb
  unfold frs at hb
  rw[abq,hf]at hb
  exact hb
theorem Inv.stkFree(I:Inv X pins σ H s):∀b∈frs X.stack,H b=none:=fun b hb=>by
 rcases aak.mp (I.stkSub b hb) with e|hb
 ·rw[e];exact I.free
 ·obtain⟨_,o,ho,_⟩:=I.ok.funs.mem hb
  exact I.base.free b o ho (I.ok.frf b hb) fun z=>I.ok.exfs b z hb
theorem Inv.step{g':Array GenState}{t':Nat}{d':Drawn}{ch:List Addr}(I:Inv X pins σ H s)
  (hch:∀b∈ch,(b∈X.ex\/X.s₀.heap.objs.size<=b)/\b≠X.env.locals/\(∀x c,X.env.cells.lookup x=some c->c≠b)/\∀p∈X.pn++pins,p.1≠b)
  (keep:∀b o,b≠X.env.locals->b∉X.fs->b∉ch->s.heap.get? b=some o->H b=none->h'.get? b=some o)
  (slot:∀b o,b≠X.env.locals->b∈X.fs->b∉ch->s.heap.get? b=some o->H b=none->∃sl,h'.get? b=some {o with slots:=sl}) (free:∀b o,b∉ch->s.heap.get? b=some o->H b=none->H' b=none)
  (there:∀b o,b∉ch->s.heap.get? b=some o->∃o',h'.get? b=some o')
  (tups:∀b xs,H b=some (.tup xs)->H' b=some (.tup xs)) (frzs:∀b o u,H b=some (.frz o u)->H' b=some (.frz o u)) (tbls:∀b ps,H b=some (.tbl ps)->∃more,H' b=some (.tbl (ps++more)))
  (ns:∀m,s.heap.Ns X.env.locals m->h'.Ns X.env.locals m) (hok:HOk X.prog X.w H' h') (hg:AllBare g') :
  Inv X pins σ H' {s with heap:=h',gens:=g',drawn:=d',toks:=t'}:=by
 have neL:∀b o,X.s₀.heap.get? b=some o->b≠X.env.locals:=fun b o e=>aaV (aaJ (Heap.lt_size e) I.ok.above)
 have neC:∀b o,X.s₀.heap.get? b=some o->b∉X.ex->b∉ch:=fun b o e hx hb=>by
  rcases (hch b hb).1 with z|z
  ·exact hx z
  ·exact absurd (aaJ (Heap.lt_size e) z) (aaX _)
 have cellK:∀x c,X.env.cells.lookup x=some c->∀v,s.heap.IsCell c v->h'.IsCell c v:=fun x c e v ⟨o,ho,hd⟩=>by
  have nch:c∉ch:=fun z=>(hch c z).2.2.1 x c e rfl
  by_cases hc:c∈X.fs
  ·obtain⟨sl,q⟩:=slot c o (I.cne x c e) hc nch ho (I.freeC x c e)
   exact⟨_,q,hd⟩
  ·exact⟨o,keep c o (I.cne x c e) hc nch ho (I.freeC x c e),hd⟩
 refine⟨I.ok,I.os,hg,⟨fun b o e n hb hx=>?_,fun b o e n hb hx=>?_,fun b o e n hx=>?_,fun b o e hx=>?_,fun b xs e=>tups b xs (I.base.tups b xs e),fun b o xs e=>frzs b o xs (I.base.frzs b o xs e),fun b ps e=>?_⟩,?_,fun x c e=>?_,?_,fun x c e=>?_,fun p hp=>?_,hok,I.len⟩
 ·exact keep b o (neL b o e) hb (neC b o e hx) (I.base.keep b o e n hb hx) (I.base.free b o e n hx)
 ·obtain⟨sl,e1⟩:=I.base.slot b o e n hb hx
  obtain⟨sl',e2⟩:=slot b _ (neL b o e) hb (neC b o e hx) e1 (I.base.free b o e n hx)
  exact⟨sl',e2⟩
 ·obtain⟨o',e1⟩:=I.base.there b o e hx
  exact free b o' (neC b o e hx) e1 (I.base.free b o e n hx)
 ·obtain⟨o',e1⟩:=I.base.there b o e hx
  exact there b o' (neC b o e hx) e1
 ·obtain⟨m1,e1⟩:=I.base.tbls b ps e
  obtain⟨m2,e2⟩:=tbls b _ e1
  exact⟨m1++m2,by rw[e2,Array.append_assoc]⟩
 ·obtain⟨m,hn,hl⟩:=I.loc
  refine⟨m,ns m hn,fun i x v e1 e2 e3=>?_⟩
  obtain⟨u,r,l⟩:=hl i x v e1 e2 e3
  refine⟨u,r,?_⟩
  rcases l with l|⟨k,c,e,z⟩
  ·exact .inl l
  ·exact .inr ⟨k,c,e,cellK x c e _ z⟩
 ·obtain⟨v,z⟩:=I.cell x c e
  exact⟨v,cellK x c e v z⟩
 ·obtain⟨m,⟨o,_,_,ho,_⟩,_⟩:=I.loc
  exact free _ o (fun z=>(hch _ z).2.1 rfl) ho I.free
 ·obtain⟨v,o,ho,hd⟩:=I.cell x c e
  exact free c o (fun z=>(hch c z).2.2.1 x c e rfl) ho (I.freeC x c e)
 ·obtain⟨e,n,ne,nf,d⟩:=I.pin p hp
  have nch:p.1∉ch:=fun z=>(hch p.1 z).2.2.2 p hp rfl
  exact⟨keep p.1 p.2 ne nf nch e n,free p.1 p.2 nch e n,ne,nf,d⟩
theorem Inv.un{t':Nat}(I:Inv X pins σ H s)(u:Un X.fs [] H H' s.heap h')(hok:HOk X.prog X.w H' h'):Inv X pins σ H' {s with heap:=h',toks:=t'}:=by
 obtain⟨m,⟨o,es,ep,ho,r⟩,_⟩:=id I.loc
 obtain⟨sl,hL⟩:=u.any ho I.free (by simp)
 exact I.step (g':=s.gens) (d':=s.drawn) (ch:=[]) (fun _ z=>nomatch z) (fun b o _ hb _ e n=>u.keep b o e n hb (by simp)) (fun b o _ hb _ e n=>u.slot b o e n hb (by simp)) (fun b o _ e n=>u.free b o e n (by simp)) (fun b o _ e=>u.there b o e (by simp)) u.tups u.frzs u.tbls (fun m' hm=>by
  obtain⟨o',es',ep',ho',r'⟩:=hm
  rw[ho]at ho';cases ho'
  exact⟨_,es',ep',hL,r'⟩) hok I.bare
theorem Inv.call{g':Array GenState}{t':Nat}{d':Drawn}{ch:List Addr}(I:Inv X pins σ H s)(u:Un (frs X.stack) ch H H' s.heap h')(hok:HOk X.prog X.w H' h')(hg:AllBare g')
  (hch:∀b∈ch,(b∈X.ex\/X.s₀.heap.objs.size<=b)/\b≠X.env.locals/\(∀x c,X.env.cells.lookup x=some c->c≠b)/\∀p∈X.pn++pins,p.1≠b) :
  Inv X pins σ H' {s with heap:=h',gens:=g',drawn:=d',toks:=t'}:=by
 obtain⟨m,⟨o,es,ep,ho,r⟩,_⟩:=id I.loc
 obtain⟨sl,hL⟩:=u.any ho I.free fun z=>(hch _ z).2.1 rfl
 exact I.step (ch:=ch) hch (fun b o hL hb hc e n=>u.keep b o e n (fun z=>(aak.mp (I.stkSub b z)).elim hL hb) hc) (fun b o _ _ hc e n=>u.any e n hc) (fun b o hc e n=>u.free b o e n hc) (fun b o hc e=>u.there b o e hc) u.tups u.frzs u.tbls (fun m' hm=>by
  obtain⟨o',es',ep',ho',r'⟩:=hm
  rw[ho]at ho';cases ho'
  exact⟨_,es',ep',hL,r'⟩) hok hg
theorem Inv.turned{t':Nat}{it:Addr}(I:Inv X pins σ H s)(k:∀b o,b≠it->s.heap.get? b=some o->h'.get? b=some o)(hn:H it=none)(hL:it≠X.env.locals)
  (h1:it∈X.ex\/X.s₀.heap.objs.size<=it) (h2:∀x c,X.env.cells.lookup x=some c->c≠it) (h3:∀p∈X.pn++pins,p.1≠it):Inv X pins σ H {s with heap:=h',toks:=t'}:=by
 have nit:∀b u,H b=some u->b≠it:=fun b u e z=>by rw[z,hn]at e;cases e
 refine I.step (g':=s.gens) (d':=s.drawn) (ch:=[it]) (fun b hb=>?_) (fun b o _ _ hc e _=>k b o (fun z=>hc (by simp[z])) e) (fun b o _ _ hc e _=>⟨o.slots,k b o (fun z=>hc (by simp[z])) e⟩) (fun _ _ _ _ n=>n)
  (fun b o hc e=>⟨o,k b o (fun z=>hc (by simp[z])) e⟩) (fun _ _ e=>e) (fun _ _ _ e=>e) (fun b ps e=>⟨#[],by rw[e];simp⟩) (fun m hm=>?_) (fun b u e=>?_) I.bare
 ·have e:b=it:=by simpa using hb
  subst e
  exact⟨h1,hL,h2,h3⟩
 ·obtain⟨o,es,ep,ho,r⟩:=hm
  exact⟨o,es,ep,k _ o (Ne.symm hL) ho,r⟩
 ·refine(I.hok b u e).stay (fun c v hc q=>k c v ?_ q) (fun _ q=>q) fun _ _ q=>q
  rcases hc with z|z
  ·rw[z];exact nit b u e
  ·exact nit c _ z
theorem Inv.tok(I:Inv X pins σ H s)(t:Nat):Inv X pins σ H {s with toks:=t}:=I.un (h':=s.heap) (t':=t) Un.refl I.hok
theorem Inv.kept{t':Nat}(I:Inv X pins σ H s)(k:∀b u,s.heap.get? b=some u->h'.get? b=some u):Inv X pins σ H {s with heap:=h',toks:=t'}:=I.un (Un.kept k) (I.hok.kept k)
theorem Inv.laid{a:Addr}{o:HO}{t':Nat}(I:Inv X pins σ H s)(k:∀b u,s.heap.get? b=some u->h'.get? b=some u)(hp:s.heap.objs.size<=a)(new:ObjOk X.prog X.w (upd H a o) h' a o) :
  Inv X pins σ (upd H a o) {s with heap:=h',toks:=t'}:=I.un (Un.laid k hp (I.hok.fresh hp)) (I.hok.laid k hp new)
theorem Inv.write{x e:Addr}{o:HO}{t':Nat}(I:Inv X pins σ H s)(mu:Mut (H x))(he:e=x\/H e=some (.own x))(k:∀b u,b≠e->s.heap.get? b=some u->h'.get? b=some u)(heo:∃u,h'.get? e=some u)
  (new:ObjOk X.prog X.w (upd H x o) h' x o):Inv X pins σ (upd H x o) {s with heap:=h',toks:=t'}:=I.un (Un.write mu he k heo) (I.hok.write mu he k heo new)
theorem Inv.weak{σ':List (Option V)}(I:Inv X pins σ H s)(hl:σ'.length=σ.length)(w:∀(i:Nat) v,σ'[i]?=some (some v)->σ[i]?=some (some v)):Inv X pins σ' H s :=
 ⟨I.ok,I.os,I.bare,I.base,let ⟨m,hn,hl'⟩:=I.loc;⟨m,hn,fun i x v e1 e2 e3=>hl' i x v e1 (w i v e2) e3⟩,I.cell,I.free,I.freeC,I.pin,I.hok,hl.trans I.len⟩
theorem Inv.pins_of{pins':List (Addr×Obj)}(I:Inv X pins σ H s)(h:∀p∈pins',s.heap.get? p.1=some p.2/\H p.1=none/\p.1≠X.env.locals/\p.1∉X.fs/\∀v,p.2.data≠.cell v):Inv X pins' σ H s :=
 ⟨I.ok,I.os,I.bare,I.base,I.loc,I.cell,I.free,I.freeC,fun p hp=>(aag.mp hp).elim (fun z=>I.pin p (aaD _ z)) (h p),I.hok,I.len⟩
theorem Ku{N:List Str}(hN:N.Nodup){i j:Nat}{x:Str}(a:N[i]?=some x)(b:N[j]?=some x):i=j:=by
 obtain⟨h1,e1⟩:=aaz.mp a
 obtain⟨h2,e2⟩:=aaz.mp b
 exact(List.getElem_inj hN).mp (e1.trans e2.symm)
theorem JR{M:Model}{A:Around}{E:Value->Shared->Prop}{i:Nat}{x:Str}{v:V}{u:Value}{Q:Unit->Shared->Prop}(I:Inv X pins σ H s)(hN:X.N.Nodup)(hi:X.N[i]?=some x)(hx:Loc X.env.scope x)(r:RelV v u)
  (h:∀s',Inv X pins (σ.set i (some v)) H s'->(∃a,Heap.SameBut a s.heap s'.heap/\(a=X.env.locals\/X.env.cells.lookup x=some a))->Q () s') (hf:X.fn x=true\/X.env.scope.names.lookup x=some .local:=by first|exact .inl rfl|exact .inr rfl|assumption):wpAny M A (storeName X.env x u) Q E s:=by
 obtain⟨m,hn,hl⟩:=id I.loc
 have hcls:(X.env.scope.kind==.class||(X.env.scope.kind==.module&&X.env.locals != X.env.globals))=false:=by rw[I.ok.kind];rfl
 have hiσ:i < σ.length:=by rw[I.len];exact(aaz.mp hi).1
 have cne:=I.cne
 have tracked:∀{a:Addr}{h':Heap},(∃o,s.heap.get? a=some o/\H a=none)->Heap.SameBut a s.heap h'->HOk X.prog X.w H h':=fun {a h'} ha hs b ob e=>by
  obtain⟨_,_,hfree⟩:=ha
  refine(I.hok b ob e).stay (fun c w' hc q=>(hs.2 c ?_).trans q) (fun _ q=>q) fun _ _ q=>q
  rintro rfl
  rcases hc with rfl|hc
  ·rw[hfree]at e;cases e
  ·rw[hfree]at hc;cases hc
 rcases hx with hk|hk
 ·refine wpAny_storeName_local hk hn (fun h' hn' hs=>?_) hcls
  obtain⟨oL,_,_,hoL,_⟩:=id hn
  refine h _ ⟨I.ok,I.os,I.bare,⟨fun b o e n hb hx=>?_,fun b o e n hb hx=>?_,I.base.free,fun b o e hx=>?_,I.base.tups,I.base.frzs,I.base.tbls⟩,⟨_,hn',fun j y v' e1 e2 e3=>?_⟩,fun y c e=>?_,I.free,I.freeC,fun p hp=>?_,tracked ⟨oL,hoL,I.free⟩ hs,by simpa using I.len⟩ ⟨_,hs,.inl rfl⟩
  ·exact(hs.2 b (aaV (aaJ (Heap.lt_size e) I.ok.above))).trans (I.base.keep b o e n hb hx)
  ·obtain⟨sl,e1⟩:=I.base.slot b o e n hb hx
   exact⟨sl,(hs.2 b (aaV (aaJ (Heap.lt_size e) I.ok.above))).trans e1⟩
  ·obtain⟨o',e1⟩:=I.base.there b o e hx
   exact⟨o',(hs.2 b (aaV (aaJ (Heap.lt_size e) I.ok.above))).trans e1⟩
  ·by_cases hj:j=i
   ·subst hj
    rw[hi]at e1;cases e1
    rw[acb hiσ]at e2
    cases e2
    exact⟨u,r,.inl ⟨hk,by simp⟩⟩
   ·rw[aay (Ne.symm hj)]at e2
    obtain⟨u',r',q⟩:=hl j y v' e1 e2 e3
    refine⟨u',r',?_⟩
    rcases q with⟨k,e⟩|⟨k,c,e,z⟩
    ·refine .inl ⟨k,?_⟩
     have:y≠x:=fun e=>hj (Ku hN e1 (e▸hi))
     simp[this,e]
    ·exact .inr ⟨k,c,e,z.sameBut hs (cne y c e)⟩
  ·obtain⟨w',z⟩:=I.cell y c e
   exact⟨w',z.sameBut hs (cne y c e)⟩
  ·obtain⟨e,n,ne,nf,d⟩:=I.pin p hp
   exact⟨(hs.2 p.1 ne).trans e,n,ne,nf,d⟩
 ·have hfn:X.fn x=true:=by
   rcases hf with z|z
   ·exact z
   ·rw[z]at hk;cases hk
  obtain⟨c,hc⟩:=I.ok.has x (.inl hk)
  obtain⟨w',z⟩:=I.cell x c hc
  refine wpAny_storeName_cell I.ok.kind hk hc z (fun h' hc' hs=>?_)
  obtain⟨oc,hoc,hocd⟩:=id z
  refine h {s with heap:=h'} ⟨I.ok,I.os,I.bare,⟨fun b o e n hb hx=>?_,fun b o e n hb hx=>?_,I.base.free,fun b o e hx=>?_,I.base.tups,I.base.frzs,I.base.tbls⟩,⟨m,hn.sameBut hs (Ne.symm (cne x c hc)),fun j y v' e1 e2 e3=>?_⟩,fun y c' e=>?_,I.free,I.freeC,fun p hp=>?_,tracked ⟨oc,hoc,I.freeC x c hc⟩ hs,by simpa using I.len⟩ ⟨c,hs,.inr hc⟩
  ·exact(hs.2 b (aaV (aaJ (Heap.lt_size e) (I.ok.cab x c hfn hc)))).trans (I.base.keep b o e n hb hx)
  ·obtain⟨sl,e1⟩:=I.base.slot b o e n hb hx
   exact⟨sl,(hs.2 b (aaV (aaJ (Heap.lt_size e) (I.ok.cab x c hfn hc)))).trans e1⟩
  ·obtain⟨o',e1⟩:=I.base.there b o e hx
   exact⟨o',(hs.2 b (aaV (aaJ (Heap.lt_size e) (I.ok.cab x c hfn hc)))).trans e1⟩
  ·by_cases hj:j=i
   ·subst hj
    rw[hi]at e1;cases e1
    rw[acb hiσ]at e2
    cases e2
    exact⟨u,r,.inr ⟨.inl hk,c,hc,hc'⟩⟩
   ·rw[aay (Ne.symm hj)]at e2
    obtain⟨u',r',q⟩:=hl j y v' e1 e2 e3
    refine⟨u',r',?_⟩
    rcases q with q|⟨k,c',e,z'⟩
    ·exact .inl q
    ·refine .inr ⟨k,c',e,z'.sameBut hs ?_⟩
     rintro rfl
     exact hj (Ku hN e1 (I.ok.inj _ _ _ e hc▸hi))
  ·by_cases hcc:c'=c
   ·subst hcc;exact⟨_,hc'⟩
   ·obtain⟨w2,z2⟩:=I.cell y c' e
    exact⟨w2,z2.sameBut hs hcc⟩
  ·obtain⟨e,n,ne,nf,d⟩:=I.pin p hp
   refine⟨(hs.2 p.1 ?_).trans e,n,ne,nf,d⟩
   intro q
   rw[q,hoc]at e
   have q':oc=p.2:=Option.some.inj e
   exact d w' (by rw[<- q'];exact hocd)
theorem Kv{M:Model}{A:Around}{E:Value->Shared->Prop}{i:Nat}{x:Str}{v:V}{u:Value}{Q:Unit->Shared->Prop}(I:Inv X pins σ H s)(hN:X.N.Nodup)(hi:X.N[i]?=some x)(hx:Loc X.env.scope x)(r:RelV v u)
  (h:∀s',Inv X pins (σ.set i (some v)) H s'->Q () s') (hf:X.fn x=true\/X.env.scope.names.lookup x=some .local:=by first|exact .inl rfl|exact .inr rfl|assumption):wpAny M A (storeName X.env x u) Q E s :=
 JR I hN hi hx r (fun s' I' _=>h s' I') hf
theorem Inv.call'{s':Shared}{ch:List Addr}(I:Inv X pins σ H s)(ho:s'.os=s.os)(u:Un (frs X.stack) ch H H' s.heap s'.heap)(hok:HOk X.prog X.w H' s'.heap)(hg:AllBare s'.gens)
  (hch:∀b∈ch,(b∈X.ex\/X.s₀.heap.objs.size<=b)/\b≠X.env.locals/\(∀x c,X.env.cells.lookup x=some c->c≠b)/\∀p∈X.pn++pins,p.1≠b):Inv X pins σ H' s':=by
 obtain⟨h',g',d',t',o'⟩:=s'
 have e:o'=s.os:=ho
 subst e
 exact I.call (g':=g') (t':=t') (d':=d') u hok hg hch
end
@[reducible]noncomputable def XK:=Value->Option Addr->Hp->Prop
@[reducible]noncomputable def St:=List (Option V)
@[reducible]noncomputable def VK:=V->Hp->Prop
@[reducible]noncomputable def TE:=St->Hp->VK->Prop
@[reducible]noncomputable def TT:=St->Hp->(Bool->Hp->Prop)->Prop
@[reducible]noncomputable def TA:=St->Hp->(List V->Hp->Prop)->Prop
structure Ends where
 nx:St->Hp->Prop
 rt:VK
 bk:St->Hp->Prop:=fun _ _=>False
 ct:St->Hp->Prop:=fun _ _=>False
@[reducible]noncomputable def TS:=Ends->St->Hp->Prop
abbrev EP(X:Cx)(pins:List (Addr×Obj))(σ:St)(Q:VK)(u:Value)(s':Shared):Prop:=∃v H',Inv X pins σ H' s'/\RelV v u/\Q v H'
abbrev TP(X:Cx)(pins:List (Addr×Obj))(σ:St)(Q:Bool->Hp->Prop)(b:Bool)(s':Shared):Prop:=∃H',Inv X pins σ H' s'/\Q b H'
abbrev AP(X:Cx)(pins:List (Addr×Obj))(σ:St)(Q:List V->Hp->Prop)(us:List Value)(s':Shared):Prop:=∃vs H',Inv X pins σ H' s'/\Vals vs us/\Q vs H'
abbrev SP(X:Cx)(pins:List (Addr×Obj))(D:Ends)(f:Flow)(s':Shared):Prop :=
 match f with
 |.next=>∃σ' H',Inv X pins σ' H' s'/\D.nx σ' H'
 |.brk=>∃σ' H',Inv X pins σ' H' s'/\D.bk σ' H'
 |.cont=>∃σ' H',Inv X pins σ' H' s'/\D.ct σ' H'
 |.ret u=>∃v σ' H',Inv X pins σ' H' s'/\RelV v u/\D.rt v H'
abbrev PE(X:Cx)(e:Expr)(t:TE):Prop :=
 ∀(pins:List (Addr×Obj))(s:Shared)(σ:St)(H:Hp)(Q:VK),Inv X pins σ H s->t σ H Q->wpAny (model X.prog X.w) X.A (eval e X.env) (EP X pins σ Q) X.xe s
abbrev PT(X:Cx)(e:Expr)(t:TT):Prop :=
 ∀(pins:List (Addr×Obj))(s:Shared)(σ:St)(H:Hp)(Q:Bool->Hp->Prop),Inv X pins σ H s->t σ H Q->wpAny (model X.prog X.w) X.A (isTrue e X.env (eval e X.env)) (TP X pins σ Q) X.xe s
abbrev PW(X:Cx)(e:Expr)(t:TT):Prop :=
 ∀(whole:Sem Value)(pins:List (Addr×Obj))(s:Shared)(σ:St)(H:Hp)(Q:Bool->Hp->Prop),Inv X pins σ H s->t σ H Q->wpAny (model X.prog X.w) X.A (isTrue e X.env whole) (TP X pins σ Q) X.xe s
theorem PW.pt{X:Cx}{e:Expr}{t:TT}(h:PW X e t):PT X e t:=h _
abbrev PA(X:Cx)(es:List Expr)(t:TA):Prop :=
 ∀(pos:Pos)(pins:List (Addr×Obj))(s:Shared)(σ:St)(H:Hp)(Q:List V->Hp->Prop),Inv X pins σ H s->t σ H Q->wpAny (model X.prog X.w) X.A (spliced (backTo pos (starEach es X.env))) (AP X pins σ Q) X.xe s
abbrev PS(X:Cx)(st:Stmt)(t:TS):Prop :=
 ∀(pins:List (Addr×Obj))(s:Shared)(σ:St)(H:Hp)(D:Ends),Inv X pins σ H s->t D σ H->wpAny (model X.prog X.w) X.A (exec st X.env) (SP X pins D) X.xe s
abbrev PSs(X:Cx)(st:List Stmt)(t:TS):Prop :=
 ∀(pins:List (Addr×Obj))(s:Shared)(σ:St)(H:Hp)(D:Ends),Inv X pins σ H s->t D σ H->wpAny (model X.prog X.w) X.A (execs st X.env) (SP X pins D) X.xe s
theorem thn{α:Type}{t:Sem α}{Q Q':α->Shared->Prop}{M:Model}{A:Around}{E:Value->Shared->Prop}{s:Shared}(h:wpAny M A t Q E s)(hQ:∀a s,Q a s->Q' a s):wpAny M A t Q' E s:=wpAny_mono h hQ fun _ _ x=>x
section
variable{X:Cx}
theorem bin{a b:Expr}{ta tb:TE}(ha:PE X a ta)(hb:PE X b tb){pins:List (Addr×Obj)}{s:Shared}{σ:St}{H:Hp}{R:V->V->Hp->Prop}(I:Inv X pins σ H s)(h:ta σ H fun x H1=>tb σ H1 fun y H2=>R x y H2)
  {α:Type} {Q:α->Shared->Prop} {f:Value->Value->Sem α}
  (hf:∀v u s2 x y H2,Inv X pins σ H2 s2->RelV x v->RelV y u->R x y H2->wpAny (model X.prog X.w) X.A (f v u) Q X.xe s2) :
  wpAny (model X.prog X.w) X.A (eval a X.env) (fun v s₁=>wpAny (model X.prog X.w) X.A (eval b X.env) (fun u s₂=>wpAny (model X.prog X.w) X.A (f v u) Q X.xe s₂) X.xe s₁) X.xe s:=by
 refine thn (ha pins s σ H _ I h) fun v s1 ⟨x,H1,I1,r1,q1⟩=>?_
 refine thn (hb pins s1 σ H1 _ I1 q1) fun u s2 ⟨y,H2,I2,r2,q2⟩=>?_
 exact hf v u s2 x y H2 I2 r1 r2 q2
abbrev DG(i:Nat):TE:=fun σ H Q=>∃v,σ[i]?=some (some v)/\Q v H
abbrev tC(v:V):TE:=fun _ H Q=>Q v H
theorem Cw{i:Nat}{x:Str}{pos:Pos}(hN:X.N[i]?=some x)(hv:Vis X.env.scope x)(hd:(x==("__debug__" : Str))=false:=by decide)(hcd:(x==("__classdict__" : Str))=false:=by decide):PE X (.Name x pos) (DG i):=by
 intro pins s σ H Q I h
 obtain⟨v,e,h⟩:=h
 obtain⟨m,hn,hl⟩:=I.loc
 obtain⟨u,r,l⟩:=hl i x v hN e hv
 have fin:EP X pins σ Q u s:=⟨v,H,I,r,h⟩
 rcases l with⟨hk,hm⟩|⟨hk,c,hc,hcell⟩
 ·exact wpAny_Name (wpAny_loadName_local I.ok.kind hk hn hm fin) hd
 ·rcases hk with hk|hk
  ·exact wpAny_Name (wpAny_loadName_cell I.ok.kind hk hc hcell fin) hd
  ·exact wpAny_Name (wpAny_loadName_free I.ok.kind hk hc hcell fin hcd) hd
theorem Ox{i j pos}:PE X (.Constant (.int i) j pos) (tC (.int i)):=fun _ _ _ H _ I h=>wpAny_Constant_int ⟨.int i,H,I.tok _,⟨_,rfl⟩,h⟩
theorem Wy{b j pos}:PE X (.Constant (.bool b) j pos) (tC (.bl b)):=fun _ _ _ H _ I h=>Constant_bool ⟨.bl b,H,I,rfl,h⟩
theorem UI{j pos}:PE X (.Constant .none j pos) (tC .non):=fun _ _ _ H _ I h=>Constant_none ⟨.non,H,I,rfl,h⟩
theorem UJ{x j pos}:PE X (.Constant (.str x) j pos) (tC (.str x)):=fun _ _ _ H _ I h=>Calls.Constant_str ⟨.str x,H,I.tok _,⟨_,rfl⟩,h⟩
abbrev Gl(X:Cx)(x:Str):Prop:=X.env.kindOf x=some .globalImplicit
theorem Jh{E:Value->Shared->Prop}{pins:List (Addr×Obj)}{s:Shared}{σ:St}{H:Hp}{x:Str}{u:Value}{pos:Pos}{Q:Value->Shared->Prop}(I:Inv X pins σ H s)(hg:Gl X x)(hm:X.mg x=some u)(h:Q u s)
  (hd:(x==("__debug__" : Str))=false:=by decide):wpAny (model X.prog X.w) X.A (eval (.Name x pos) X.env) Q E s :=
 Calls.Name_function_global I.ok.kind hg (Calls.loadGlobal_global (by rw[I.ok.glob];exact I.mod.glob.keeps I.bk) hm h) hd
theorem Bu{E:Value->Shared->Prop}{pins:List (Addr×Obj)}{s:Shared}{σ:St}{H:Hp}{x:Str}{u:Value}{pos:Pos}{Q:Value->Shared->Prop}(I:Inv X pins σ H s)(hg:Gl X x)(hm:X.mg x=none)(hv:bootBuiltins x=some u)(h:Q u s)
  (hn:x≠"__name__":=by decide) (hd:(x==("__debug__" : Str))=false:=by decide):wpAny (model X.prog X.w) X.A (eval (.Name x pos) X.env) Q E s:=by
 obtain⟨mb,h1,h2⟩:=I.mod.blt
 exact Calls.Name_function_global I.ok.kind hg (Calls.loadGlobal_builtin (by rw[I.ok.glob];exact I.mod.glob.keeps I.bk) hm (by rw[I.ok.blt];exact h1.keeps I.bk) ((h2 x hn).trans hv) h) hd
theorem Mz{x:Str}{v:V}{u:Value}{pos:Pos}(hg:Gl X x)(hm:X.mg x=some u)(r:RelV v u)(hd:(x==("__debug__" : Str))=false:=by decide):PE X (.Name x pos) (tC v) :=
 fun _ _ _ H _ I h=>Jh I hg hm ⟨v,H,I,r,h⟩ hd
theorem G7{x:Str}{v:V}{u:Value}{pos:Pos}(hg:Gl X x)(hm:X.mg x=none)(hv:bootBuiltins x=some u)(r:RelV v u)(hn:x≠"__name__":=by decide)(hd:(x==("__debug__" : Str))=false:=by decide):PE X (.Name x pos) (tC v) :=
 fun _ _ _ H _ I h=>Bu I hg hm hv ⟨v,H,I,r,h⟩ hn hd
variable{a b:Expr}{ta tb:TE}{pos:Pos}
abbrev PC(X:Cx)(op:CmpOp)(a b:Expr)(t:TE):Prop :=
 ∀(pins:List (Addr×Obj))(s:Shared)(σ:St)(H:Hp)(Q:VK),Inv X pins σ H s->t σ H Q->
  wpAny (model X.prog X.w) X.A (eval a X.env) (fun v s₁=>wpAny (model X.prog X.w) X.A (eval b X.env) (fun u s₂=>wpAny (model X.prog X.w) X.A (compareOp op v u) (EP X pins σ Q) X.xe s₂) X.xe s₁) X.xe s
theorem Kw(b:Expr){op:CmpOp}(h:op≠.In)(h2:op≠.NotIn):behindInMarks op b=false:=by
 have e1:(op==CmpOp.In)=false:=by cases op<;>first|rfl|exact absurd rfl h
 have e2:(op==CmpOp.NotIn)=false:=by cases op<;>first|rfl|exact absurd rfl h2
 cases b<;>simp[behindInMarks,e1,e2]
abbrev XG(ta:TE):TE:=fun σ H Q=>ta σ H fun x H1=>Q (.bl (decide (x=.non))) H1
abbrev Wz(ta:TE):TE:=fun σ H Q=>ta σ H fun x H1=>Q (.bl (!decide (x=.non))) H1
theorem RelV.none_iff{x:V}{v:Value}(r:RelV x v):(v==Value.none)=decide (x=.non):=by
 cases x with
 |non=>cases r;rfl
 |bl _=>cases r;rfl
 |int _=>obtain⟨t,rfl⟩:=r;rfl
 |str _=>obtain⟨t,rfl⟩:=r;rfl
 |byt _=>obtain⟨t,rfl⟩:=r;rfl
 |flt _=>obtain⟨t,rfl⟩:=r;rfl
 |ref _=>cases r;rfl
 |ty _=>cases r;rfl
theorem Oy{j pos'}(ha:PE X a ta):PC X .Is a (.Constant .none j pos') (XG ta):=by
 intro pins s σ H Q I h
 refine thn (ha pins s σ H _ I h) fun v s1 ⟨x,H1,I1,r1,q1⟩=>?_
 exact Constant_none (is_none_gen ⟨.bl _,H1,I1,by rw[r1.none_iff];rfl,q1⟩)
theorem MA{j pos'}(ha:PE X a ta):PC X .IsNot a (.Constant .none j pos') (Wz ta):=by
 intro pins s σ H Q I h
 refine thn (ha pins s σ H _ I h) fun v s1 ⟨x,H1,I1,r1,q1⟩=>?_
 exact Constant_none (isnot_none_gen ⟨.bl _,H1,I1,by rw[r1.none_iff];rfl,q1⟩)
abbrev tB(t:TE):TT:=fun σ H Q=>t σ H fun x H1=>∃c,x=.bl c/\Q c H1
theorem Oz{op:CmpOp}{t:TE}(h:PC X op a b t)(h1:behindInMarks op b=false:=by first|exact Kw _ (by decide) (by decide)|rfl):PE X (.Compare a [op] [b] pos) t:=fun pins s σ H Q I hw=>wpAny_Compare1 (h pins s σ H Q I hw) h1
theorem OA{op:CmpOp}{t:TE}(h:PC X op a b t)(h1:behindInMarks op b=false:=by first|exact Kw _ (by decide) (by decide)|rfl):PT X (.Compare a [op] [b] pos) (tB t):=by
 intro pins s σ H Q I hw
 refine wpAny_isTrue_Compare1 (thn (h pins s σ H _ I hw) fun v s1 h1=>thn h1 fun u s2 h2=>thn h2 fun c s3 ⟨x,H1,I1,r1,q1⟩=>?_) h1
 obtain⟨d,rfl,q⟩:=q1
 cases r1
 exact wpAny_truthy_bool ⟨H1,I1,q⟩
variable{tA tB':TT}{rest:List Expr}
abbrev XH(t u:TT):TT:=fun σ H Q=>t σ H fun c H1=>if c=true then u σ H1 Q else Q false H1
abbrev tOr(t u:TT):TT:=fun σ H Q=>t σ H fun c H1=>if c=true then Q true H1 else u σ H1 Q
abbrev XI(t:TT):TT:=fun σ H Q=>t σ H fun c H1=>Q (!c) H1
theorem Se(ha:PT X a tA):PW X (.BoolOp .And [a] pos) tA:=by
 intro wh pins s σ H Q I h
 refine isTrue_and (thn (ha pins s σ H Q I h) fun c s1 e=>?_)
 cases c with
 |true=>exact isTrue_and_nil e
 |false=>exact e
theorem UK(ha:PT X a tA):PW X (.BoolOp .Or [a] pos) tA:=by
 intro wh pins s σ H Q I h
 refine isTrue_or (thn (ha pins s σ H Q I h) fun c s1 e=>?_)
 cases c with
 |false=>exact isTrue_or_nil e
 |true=>exact e
theorem UL(ha:PT X a tA)(hb:PW X (.BoolOp .And (b::rest) pos) tB'):PW X (.BoolOp .And (a::b::rest) pos) (XH tA tB'):=by
 intro wh pins s σ H Q I h
 refine isTrue_and (thn (ha pins s σ H _ I h) fun c s1 ⟨H1,I1,q1⟩=>?_)
 cases c with
 |true=>exact hb wh pins s1 σ H1 Q I1 q1
 |false=>exact⟨H1,I1,q1⟩
theorem WA(ha:PT X a tA)(hb:PW X (.BoolOp .Or (b::rest) pos) tB'):PW X (.BoolOp .Or (a::b::rest) pos) (tOr tA tB'):=by
 intro wh pins s σ H Q I h
 refine isTrue_or (thn (ha pins s σ H _ I h) fun c s1 ⟨H1,I1,q1⟩=>?_)
 cases c with
 |true=>exact⟨H1,I1,q1⟩
 |false=>exact hb wh pins s1 σ H1 Q I1 q1
theorem UM(ha:PT X a tA):PT X (.UnaryOp .Not a pos) (XI tA):=by
 intro pins s σ H Q I h
 exact isTrue_not (ha pins s σ H (fun c H1=>Q (!c) H1) I h)
abbrev WB(ta tb:TE):TE:=fun σ H Q=>ta σ H fun x H1=>∃c,x=.bl c/\if c=true then tb σ H1 Q else Q (.bl false) H1
abbrev XJ(ta tb:TE):TE:=fun σ H Q=>ta σ H fun x H1=>∃c,x=.bl c/\if c=true then Q (.bl true) H1 else tb σ H1 Q
abbrev WC(ta:TE):TE:=fun σ H Q=>ta σ H fun x H1=>∃c,x=.bl c/\Q (.bl (!c)) H1
theorem UO{op}{t:TE}(h:PE X a t):PE X (.BoolOp op [a] pos) t:=fun pins s σ H Q I hw=>BoolOp_one (h pins s σ H Q I hw)
theorem UP(ha:PE X a ta)(hb:PE X (.BoolOp .And (b::rest) pos) tb):PE X (.BoolOp .And (a::b::rest) pos) (WB ta tb):=by
 intro pins s σ H Q I h
 refine BoolOp_and (thn (ha pins s σ H _ I h) fun v s1 ⟨x,H1,I1,r1,q1⟩=>?_)
 obtain⟨c,rfl,q1⟩:=q1
 cases r1
 refine wpAny_truthy_bool ?_
 cases c with
 |true=>exact hb pins s1 σ H1 Q I1 q1
 |false=>exact⟨.bl false,H1,I1,rfl,q1⟩
theorem WD(ha:PE X a ta)(hb:PE X (.BoolOp .Or (b::rest) pos) tb):PE X (.BoolOp .Or (a::b::rest) pos) (XJ ta tb):=by
 intro pins s σ H Q I h
 refine BoolOp_or (thn (ha pins s σ H _ I h) fun v s1 ⟨x,H1,I1,r1,q1⟩=>?_)
 obtain⟨c,rfl,q1⟩:=q1
 cases r1
 refine wpAny_truthy_bool ?_
 cases c with
 |false=>exact hb pins s1 σ H1 Q I1 q1
 |true=>exact⟨.bl true,H1,I1,rfl,q1⟩
theorem UQ(ha:PE X a ta):PE X (.UnaryOp .Not a pos) (WC ta):=by
 intro pins s σ H Q I h
 refine UnaryOp_ (thn (ha pins s σ H _ I h) fun v s1 ⟨x,H1,I1,r1,q1⟩=>?_)
 obtain⟨c,rfl,q1⟩:=q1
 cases r1
 exact not_of (wpAny_truthy_bool ⟨.bl (!c),H1,I1,rfl,q1⟩)
abbrev tIf(t:TT)(ta tb:TE):TE:=fun σ H Q=>t σ H fun c H1=>if c=true then ta σ H1 Q else tb σ H1 Q
theorem Qg{c:Expr}(hc:PT X c tA)(ha:PE X a ta)(hb:PE X b tb):PE X (.IfExp c a b pos) (tIf tA ta tb):=by
 intro pins s σ H Q I h
 refine wpAny_IfExp (thn (hc pins s σ H _ I h) fun d s1 ⟨H1,I1,q1⟩=>?_)
 cases d with
 |true=>exact ha pins s1 σ H1 Q I1 q1
 |false=>exact hb pins s1 σ H1 Q I1 q1
end
abbrev SqL(K:PySem.W.Frag)(H:Hp)(a:Addr)(xs:List V):Prop :=
 Rd H a (.lst xs) \/
  ∃(o:Obj)(its:Array Value)(n:Nat),K.lookup a=some o/\o.cls=.type "list" /\ o.dict=none/\o.data=.seq its n/\its.size<=sizeLine/\Vals xs its.toList
abbrev SqT(K:PySem.W.Frag)(H:Hp)(a:Addr)(xs:List V):Prop :=
 Rd H a (.tup xs) \/
  ∃(o:Obj)(its:Array Value)(n:Nat),K.lookup a=some o/\o.cls=.type "tuple" /\ o.data=.seq its n/\its.size<=sizeLine/\Vals xs its.toList
abbrev XL:Value->Option V
 |.none=>some .non
 |.bool b=>some (.bl b)
 |.int i _=>some (.int i)
 |.str x _=>some (.str x)
 |.bytes b _=>some (.byt b)
 |.float b _=>some (.flt b)
 |.ref a=>some (.ref a)
 |.type n=>some (.ty n)
 |_=>none
theorem RelV.abs{x:V}{u:Value}(r:RelV x u):XL u=some x:=by
 cases x with
 |non=>cases r;rfl
 |bl _=>cases r;rfl
 |int _=>obtain⟨t,rfl⟩:=r;rfl
 |str _=>obtain⟨t,rfl⟩:=r;rfl
 |byt _=>obtain⟨t,rfl⟩:=r;rfl
 |flt _=>obtain⟨t,rfl⟩:=r;rfl
 |ref _=>cases r;rfl
 |ty _=>cases r;rfl
theorem RelV.inj{x y:V}{u:Value}(r:RelV x u)(q:RelV y u):x=y:=Option.some.inj (r.abs.symm.trans q.abs)
theorem Vals.inj:∀{xs ys:List V}{us:List Value},Vals xs us->Vals ys us->xs=ys
 |_,_,_,.nil,.nil=>rfl
 |_,_,_,.cons r t,.cons r' t'=>by rw[r.inj r',Vals.inj t t']
section
variable{X:Cx}{pins:List (Addr×Obj)}{σ:St}{H:Hp}{s:Shared}{a:Addr}{xs ys:List V}
theorem SqL.of{K:PySem.W.Frag}(h:H a=some (.lst xs)):SqL K H a xs:=.inl (.inl h)
theorem SqT.of{K:PySem.W.Frag}(h:H a=some (.tup xs)):SqT K H a xs:=.inl (.inl h)
theorem Inv.list(I:Inv X pins σ H s)(h:SqL X.K H a xs):∃its:List Value,Vals xs its/\PlainL s.heap a its.toArray/\xs.length<=sizeLine:=by
 rcases h with h|⟨o,its,n,hk,hc,hd,hs,hz,r⟩
 ·obtain⟨z,its,n,r,e⟩:=h.ok I.hok
  exact⟨its,r,⟨_,n,e,rfl,rfl,rfl⟩,z⟩
 ·refine⟨its.toList,r,⟨o,n,I.kIn a o hk,hc,hd,by simpa using hs⟩,?_⟩
  have e:=r.length
  simp only[Array.length_toList]at e
  omega
theorem Inv.tuple(I:Inv X pins σ H s)(h:SqT X.K H a xs):∃its:List Value,Vals xs its/\IsTup s.heap a its.toArray/\xs.length<=sizeLine:=by
 rcases h with h|⟨o,its,n,hk,hc,hs,hz,r⟩
 ·obtain⟨z,its,r,p⟩:=h.ok I.hok
  exact⟨its,r,p,z⟩
 ·refine⟨its.toList,r,⟨o,I.kIn a o hk,hc,n,by simpa using hs⟩,?_⟩
  have e:=r.length
  simp only[Array.length_toList]at e
  omega
theorem Inv.list_inj(I:Inv X pins σ H s)(h:SqL X.K H a xs)(h':SqL X.K H a ys):xs=ys:=by
 obtain⟨its,r,⟨o,n,e,_,_,d⟩,_⟩:=I.list h
 obtain⟨its',r',⟨o',n',e',_,_,d'⟩,_⟩:=I.list h'
 rw[e]at e';cases e'
 rw[d]at d'
 injection d' with d1 _
 have:its=its':=by simpa using congrArg Array.toList d1
 subst this
 exact r.inj r'
theorem Inv.tuple_inj(I:Inv X pins σ H s)(h:SqT X.K H a xs)(h':SqT X.K H a ys):xs=ys:=by
 obtain⟨its,r,⟨o,e,_,n,d⟩,_⟩:=I.tuple h
 obtain⟨its',r',⟨o',e',_,n',d'⟩,_⟩:=I.tuple h'
 rw[e]at e';cases e'
 rw[d]at d'
 injection d' with d1 _
 have:its=its':=by simpa using congrArg Array.toList d1
 subst this
 exact r.inj r'
end
section
variable{X:Cx}{st:Stmt}{rest:List Stmt}{t u:TS}{e:Expr}{te:TE}{pos:Pos}
abbrev WE:TS:=fun D σ H=>D.nx σ H
abbrev UR(t u:TS):TS:=fun D σ H=>t {D with nx:=u D} σ H
theorem Ji:PSs X [] WE:=fun _ _ σ H _ I h=>wpAny_execs_nil ⟨σ,H,I,h⟩
theorem FX(h1:PS X st t)(h2:PSs X rest u):PSs X (st::rest) (UR t u):=by
 intro pins s σ H D I h
 refine wpAny_execs_cons (thn (h1 pins s σ H {D with nx:=u D} I h) fun f s1 q=>?_)
 cases f with
 |next=>
  obtain⟨σ',H',I',q⟩:=q
  exact h2 pins s1 σ' H' D I' q
 |ret v=>exact q
 |brk=>exact q
 |cont=>exact q
theorem G8(h1:PS X st t):PSs X [st] t:=by
 intro pins s σ H D I h
 refine wpAny_execs_cons (thn (h1 pins s σ H D I h) fun f s1 q=>?_)
 cases f with
 |next=>exact wpAny_execs_nil q
 |ret v=>exact q
 |brk=>exact q
 |cont=>exact q
theorem Inv.quiet{pins:List (Addr×Obj)}{σ:St}{H:Hp}{s:Shared}(I:Inv X pins σ H s):interactive X.env=false:=by simp[interactive,I.ok.kind]
abbrev RE(te:TE):TS:=fun D σ H=>te σ H fun _ H1=>D.nx σ H1
theorem CN(he:PE X e te)(hs:swapsWith e none pos.line X.env=pure false:=by rfl):PS X (.Expr e pos) (RE te):=by
 intro pins s σ H D I h
 exact wpAny_Expr_any (thn (he pins s σ H _ I h) fun v s1 ⟨x,H1,I1,r1,q1⟩=>⟨σ,H1,I1,q1⟩) I.quiet hs
abbrev XM(te:TE):TS:=fun D σ H=>te σ H D.rt
theorem Ky(he:PE X e te):PS X (.Return (some e) pos) (XM te):=by
 intro pins s σ H D I h
 exact wpAny_Return_some (thn (he pins s σ H _ I h) fun v s1 ⟨x,H1,I1,r1,q1⟩=>⟨x,σ,H1,I1,r1,q1⟩)
abbrev US(c:TT)(t u:TS):TS:=fun D σ H=>c σ H fun b H1=>if b=true then t D σ H1 else u D σ H1
theorem Np{c:Expr}{a b:List Stmt}{tc:TT}(hc:PT X c tc)(ha:PSs X a t)(hb:PSs X b u):PS X (.If c a b pos) (US tc t u):=by
 intro pins s σ H D I h
 refine wpAny_If (thn (hc pins s σ H _ I h) fun d s1 ⟨H1,I1,q1⟩=>?_)
 cases d with
 |true=>exact ha pins s1 σ H1 D I1 q1
 |false=>exact hb pins s1 σ H1 D I1 q1
end
@[reducible]noncomputable def TG:=V->St->Hp->(St->Hp->Prop)->Prop
@[reducible]noncomputable def TGs:=List V->St->Hp->(St->Hp->Prop)->Prop
abbrev PG(X:Cx)(target:Expr)(t:TG):Prop :=
 ∀(pins:List (Addr×Obj))(s:Shared)(σ:St)(H:Hp)(v:V)(u:Value)(Q:St->Hp->Prop),Inv X pins σ H s->RelV v u->t v σ H Q->
  wpAny (model X.prog X.w) X.A (assign target X.env u) (fun _ s'=>∃σ' H',Inv X pins σ' H' s'/\Q σ' H') X.xe s
abbrev PGs(X:Cx)(ts:List Expr)(t:TGs):Prop :=
 ∀(pins:List (Addr×Obj))(s:Shared)(σ:St)(H:Hp)(vs:List V)(us:List Value)(Q:St->Hp->Prop),Inv X pins σ H s->Vals vs us->t vs σ H Q->
  wpAny (model X.prog X.w) X.A (assignInOrder ((assignEach ts X.env).map (·.2)) us) (fun _ s'=>∃σ' H',Inv X pins σ' H' s'/\Q σ' H') X.xe s
@[reducible]noncomputable def Qh:=V->V->V->Hp->(Hp->Prop)->Prop
abbrev UT(X:Cx)(t:Qh):Prop :=
 ∀(pins:List (Addr×Obj))(s:Shared)(σ:St)(H:Hp)(o i v:V)(ov iv u:Value)(Q:Hp->Prop),Inv X pins σ H s->RelV o ov->RelV i iv->RelV v u->t o i v H Q->
  wpAny (model X.prog X.w) X.A (setItem ov iv u) (fun _ s'=>∃H',Inv X pins σ H' s'/\Q H') X.xe s
section
variable{X:Cx}{pos:Pos}
abbrev DH(i:Nat):TG:=fun v σ H Q=>Q (σ.set i (some v)) H
theorem Jj{i:Nat}{x:Str}(hN:X.N.Nodup)(hi:X.N[i]?=some x)(hx:Loc X.env.scope x)(hf:X.fn x=true\/X.env.scope.names.lookup x=some .local:=by first|exact .inl rfl|exact .inr rfl|assumption):PG X (.Name x pos) (DH i):=by
 intro pins s σ H v u Q I r h
 exact wpAny_assign_Name (Kv I hN hi hx r (fun s' I'=>⟨_,H,I',h⟩) hf)
abbrev UU:TGs:=fun vs σ H Q=>vs=[]/\Q σ H
abbrev RF(t:TG)(u:TGs):TGs:=fun vs σ H Q=>∃v r,vs=v::r/\t v σ H fun σ' H'=>u r σ' H' Q
theorem Sg:PGs X [] UU:=by
 intro pins s σ H vs us Q I r h
 obtain⟨e,h⟩:=h
 subst e
 cases r
 exact assignInOrder_nil ⟨σ,H,I,h⟩
theorem Qi{e:Expr}{es:List Expr}{t:TG}{u:TGs}(h1:PG X e t)(h2:PGs X es u)
  (hs:(assignEach (e::es) X.env).map (·.2)=assign e X.env::(assignEach es X.env).map (·.2):=by rfl):PGs X (e::es) (RF t u):=by
 intro pins s σ H vs us Q I r h
 obtain⟨v,vr,e1,h⟩:=h
 subst e1
 cases r with
 |cons r rr=>
  rw[hs]
  refine assignInOrder_cons (thn (h1 pins s σ H _ _ _ I r h) fun _ s1 ⟨σ1,H1,I1,q1⟩=>?_)
  exact h2 pins s1 σ1 H1 _ _ Q I1 rr q1
abbrev UV(K:PySem.W.Frag)(n:Nat)(t:TGs):TG:=fun v σ H Q=>∃a xs,v=.ref a/\SqT K H a xs/\xs.length=n/\t xs σ H Q
theorem UW{es:List Expr}{k:Nat}{t:TGs}{n:Nat}(hc:X.calm=true)(h:PGs X es t)
  (hn:(assignEach es X.env).length=n:=by rfl) (hst:(assignEach es X.env).findIdx? (·.1)=none:=by rfl):PG X (.Tuple es k pos) (UV X.K n t):=by
 intro pins s σ H v u Q I r hw
 obtain⟨a,xs,e1,hq,hl,hw⟩:=hw
 subst e1
 cases r
 obtain⟨its,rv,ht,hz⟩:=I.tuple hq
 refine assign_Tuple_tuple (I.ok.hd hc) ht (by simp[hn,<- hl,rv.length]) hst fun h' hx=>?_
 have I1:Inv X pins σ H {s with heap:=h'}:=I.kept (t':=s.toks) fun b o e=>hx b o (aaV (Heap.lt_size e)) e
 exact h pins _ σ H xs _ Q I1 (by simpa using rv) hw
abbrev UX(to ti:TE)(t:Qh):TG:=fun v σ H Q=>to σ H fun o H1=>ti σ H1 fun i H2=>t o i v H2 fun H3=>Q σ H3
theorem UY{o i:Expr}{to ti:TE}{t:Qh}(ho:PE X o to)(hi:PE X i ti)(hs:UT X t)
  (ha:∀v,assign (.Subscript o i pos) X.env v=(do
   let ov <- holding [v] (eval o X.env)
   let iv <- holding [v,ov] (eval i X.env)
   standAt pos
   holding [v,ov,iv] (setItem ov iv v)
   release [v,ov,iv] []):=by intro _;rfl):PG X (.Subscript o i pos) (UX to ti t):=by
 intro pins s σ H v u Q I r h
 rw[ha]
 refine wpAny_bind (wpAny_holding (thn (ho pins s σ H _ I h) fun ov s1 ⟨x,H1,I1,r1,q1⟩=>?_))
 refine wpAny_bind (wpAny_holding (thn (hi pins s1 σ H1 _ I1 q1) fun iv s2 ⟨y,H2,I2,r2,q2⟩=>?_))
 refine wpAny_bind (wpAny_standAt (wpAny_bind (wpAny_holding (thn (hs pins s2 σ H2 x y v ov iv u _ I2 r1 r2 r q2) fun _ s3 ⟨H3,I3,q3⟩=>?_))))
 exact wpAny_release ⟨σ,H3,I3,q3⟩
abbrev Gv(te:TE)(g:TG):TS:=fun D σ H=>te σ H fun x H1=>g x σ H1 D.nx
theorem OB{tg e:Expr}{te:TE}{g:TG}(he:PE X e te)(hg:PG X tg g)(hs:swapsWithSole [tg] e pos.line X.env=pure false:=by rfl)(hw:swappedStores [tg] e X.env=pure none:=by rfl)
  (h1:(assignEach [tg] X.env).map (·.2)=[assign tg X.env]:=by rfl):PS X (.Assign [tg] e pos) (Gv te g):=by
 intro pins s σ H D I h
 refine wpAny_Assign_stores (thn (he pins s σ H _ I h) fun v s1 ⟨x,H1,I1,r1,q1⟩=>?_) hs hw
 rw[h1]
 exact thn (hg pins s1 σ H1 x v _ I1 r1 q1) fun _ s2 q=>q
theorem Iq{i:Nat}{x:Str}{e:Expr}{te:TE}{pos':Pos}(hN:X.N.Nodup)(hi:X.N[i]?=some x)(hx:Loc X.env.scope x)(he:PE X e te)(hs:swapsWith e (some (.Name x pos')) pos.line X.env=pure false:=by rfl)(hf:X.fn x=true\/X.env.scope.names.lookup x=some .local:=by first|exact .inl rfl|exact .inr rfl|assumption) :
  PS X (.Assign [.Name x pos'] e pos) (Gv te (DH i)):=by
 intro pins s σ H D I h
 refine wpAny_Assign_Name (thn (he pins s σ H _ I h) fun v s1 ⟨y,H1,I1,r1,q1⟩=>?_) hs
 exact Kv I1 hN hi hx r1 (fun s2 I2=>⟨_,H1,I2,q1⟩) hf
end
section
variable{X:Cx}{pos:Pos}
abbrev Kz(c:TT)(tb:TS):TS:=fun D σ H=>∃W:Nat->St->Hp->Prop,(∃m,W m σ H)/\∀m σ H,W m σ H->
 c σ H fun b H1=>if b=true then ∃N:St->Hp->Prop,(∀σ' H',N σ' H'->∃m',m'<m/\W m' σ' H')/\tb {D with nx:=N,ct:=N,bk:=D.nx} σ H1 else D.nx σ H1
theorem KA{c:Expr}{body:List Stmt}{tc:TT}{tb:TS}(hp:PassesOwn (model X.prog X.w) X.A X.env X.xe)(hc:PT X c tc)(hb:PSs X body tb):PS X (.While c body [] pos) (Kz tc tb):=by
 intro pins s σ H D I h
 obtain⟨W,⟨m0,w0⟩,turn⟩:=h
 refine wpAny_While (codeAny_whileLoop (fun n s'=>∃σ' H',Inv X pins σ' H' s'/\W n σ' H') ?_ m0 ⟨σ,H,I,w0⟩)
 rintro n s1 ⟨σ1,H1,I1,w1⟩
 refine wpAny_passesOwn hp (thn (hc pins s1 σ1 H1 _ I1 (turn n σ1 H1 w1)) fun b s2 ⟨H2,I2,q2⟩=>?_)
 cases b with
 |true=>
  obtain⟨N,hN,q2⟩:=q2
  rw[if_pos rfl]
  refine wpAny_passesOwn hp (thn (hb pins s2 σ1 H2 _ I2 q2) fun f s3 q3=>?_)
  cases f with
  |next=>
   obtain⟨σ3,H3,I3,n3⟩:=q3
   obtain⟨m',hm,w3⟩:=hN σ3 H3 n3
   exact⟨m',hm,σ3,H3,I3,w3⟩
  |cont=>
   obtain⟨σ3,H3,I3,n3⟩:=q3
   obtain⟨m',hm,w3⟩:=hN σ3 H3 n3
   exact⟨m',hm,σ3,H3,I3,w3⟩
  |brk=>exact q3
  |ret v=>exact q3
 |false=>
  rw[if_neg abl]
  exact wpAny_execs_nil ⟨σ1,H2,I2,q2⟩
end
structure It where
 go:Nat->Hp->Prop
 yld:Nat->Hp->V->Hp->Prop
 stop:Nat->Hp->Prop
abbrev FpOk(X:Cx)(pins:List (Addr×Obj))(H:Hp)(b:Addr):Prop :=
 H b=none/\b≠X.env.locals/\b∉X.fs/\(b∈X.ex\/X.s₀.heap.objs.size<=b)/\(∀x c,X.env.cells.lookup x=some c->c≠b)/\∀p∈X.pn++pins,p.1≠b
theorem Inv.fpOk{X:Cx}{pins:List (Addr×Obj)}{σ:St}{H H':Hp}{s:Shared}{b:Addr}(I:Inv X pins σ H s)(hb:s.heap.objs.size<=b)(hn:H' b=none):FpOk X pins H' b:=by
 refine⟨hn,abw (aaJ I.lt hb),I.nofs hb,.inr (aao I.sz hb),fun x c e z=>?_,fun p hp z=>?_⟩
 ·obtain⟨v,q⟩:=I.cell x c e
  exact absurd (aaJ q.lt (by rw[z];exact hb)) (aaX _)
 ·exact absurd (aaJ (Heap.lt_size (I.pin p hp).1) (by rw[z];exact hb)) (aaX _)
structure Turn(P:Program)(w:World)(K:PySem.W.Frag)(tg:Expr)(J:It)(fp:List Addr)(it:Addr)(tn:Nat->Heap->Prop):Prop where
 mem:it∈fp
 obj:∀i h,tn i h->∀b∈fp,∃o,h.get? b=some o/\∀v,o.data≠.cell v
 keep:∀i h h',tn i h->(∀b∈fp,∀o,h.get? b=some o->h'.get? b=some o)->tn i h'
 item:∀(X:Cx),X.prog=P->X.w=w->X.K=K->X.calm=true->∀(i:Nat)(pins:List (Addr×Obj))(s:Shared)(σ:St)(H:Hp)(E:Value->Shared->Prop),Inv X pins σ H s->(∀b∈fp,FpOk X pins H b)->tn i s.heap->J.go i H->
  wpAny (model P w) X.A (pyNext (.ref it)) (fun r s1=>∃u,r=some u /\
   wpAny (model P w) X.A (letOwnedTupleGo tg (.ref it) u) (fun _ s2=>∃x H',Inv X pins σ H' s2/\RelV x u/\J.yld i H x H'/\tn (i+1) s2.heap/\∀b∈fp,H' b=none) E s1) E s
 done:∀(X:Cx),X.prog=P->X.w=w->X.K=K->X.calm=true->∀(i:Nat)(pins:List (Addr×Obj))(s:Shared)(σ:St)(H:Hp)(E:Value->Shared->Prop),Inv X pins σ H s->(∀b∈fp,FpOk X pins H b)->tn i s.heap->J.stop i H->
  wpAny (model P w) X.A (pyNext (.ref it)) (fun r s1=>r=none/\Inv X pins σ H s1) E s
 self:∀(A:Around)(i:Nat)(s:Shared)(Q:Value->Shared->Prop)(E:Value->Shared->Prop),tn i s.heap->Q (.ref it) s->wpAny (model P w) A (pyIter (.ref it)) Q E s
@[reducible]noncomputable def TI:=St->Hp->(It->Hp->Prop)->Prop
abbrev PIE(X:Cx)(pins:List (Addr×Obj))(σ:St)(tg:Expr)(R:It->Hp->Prop)(itv:Value)(s2:Shared):Prop :=
 ∃(it:Addr)(fp:List Addr)(tn:Nat->Heap->Prop)(J:It)(H':Hp),itv=.ref it/\Inv X pins σ H' s2/\Turn X.prog X.w X.K tg J fp it tn/\tn 0 s2.heap/\(∀b∈fp,FpOk X pins H' b)/\R J H'
abbrev PI(X:Cx)(tg iter:Expr)(wi:TI):Prop :=
 ∀(pins:List (Addr×Obj))(s:Shared)(σ:St)(H:Hp)(R:It->Hp->Prop),Inv X pins σ H s->wi σ H R->
  wpAny (model X.prog X.w) X.A (eval iter X.env) (fun v s1=>wpAny (model X.prog X.w) X.A (pyIter v) (PIE X pins σ tg R) X.xe s1) X.xe s
theorem Ir{M:Model}{A:Around}{E:Value->Shared->Prop}{s:Shared}{tg:Expr}{it:Addr}{u:Value}{o:Obj}{n:String}{vs:Array Value}{Q:Unit->Shared->Prop}(ho:s.heap.get? it=some o)(hc:o.cls=.type n)(hd:o.data=.fields vs)
  (hn:["enumerate", "zip", "dict_itemiterator", "dict_reverseitemiterator", "odict_iterator", "itertools.zip_longest", "itertools.pairwise"].contains n=false) (hQ:Q () s):wpAny M A (letOwnedTupleGo tg (.ref it) u) Q E s:=by
 unfold letOwnedTupleGo
 cases tg<;>first
  |exact wpAny_pure hQ
  | (cases u<;>first
    |exact wpAny_pure hQ
    | (refine wpAny_bind (wpAny_load ho ?_)
       rw[hc,hd]
       show wpAny M A (if(["enumerate", "zip", "dict_itemiterator", "dict_reverseitemiterator", "odict_iterator", "itertools.zip_longest", "itertools.pairwise"].contains n&&vs[0]?==some (rawInt _))=true then _ else _) Q E s
       rw[if_neg (by intro h;rw[hn,acq]at h;cases h)]
       exact wpAny_pure hQ))
abbrev Itl(K:PySem.W.Frag)(a:Addr):It :=
 ⟨fun i H=>∃xs x,SqL K H a xs/\xs[i]?=some x,fun i H x H'=>H'=H/\∀xs,SqL K H a xs->xs[i]?=some x,fun i H=>∃xs,SqL K H a xs/\xs.length<=i⟩
abbrev Itt(K:PySem.W.Frag)(a:Addr):It :=
 ⟨fun i H=>∃xs x,SqT K H a xs/\xs[i]?=some x,fun i H x H'=>H'=H/\∀xs,SqT K H a xs->xs[i]?=some x,fun i H=>∃xs,SqT K H a xs/\xs.length<=i⟩
abbrev Itr(lo:Int)(n:Nat):It:=⟨fun i _=>i<n,fun i H x H'=>H'=H/\x=.int (lo+i),fun i _=>n<=i⟩
theorem OC{P:Program}{w:World}{K:PySem.W.Frag}{tg:Expr}(a it:Addr):Turn P w K tg (Itl K a) [it] it (fun i h=>h.IsListIter it a i) where
 mem:=by simp
 obj:=fun i h st b hb=>by
  have e:b=it:=by simpa using hb
  subst e
  obtain⟨o,e,c,d⟩:=st
  exact⟨o,e,fun v z=>by rw[d]at z;cases z⟩
 keep:=fun i h h' st k=>st.at fun o e=>k it (by simp) o e
 item:=by
  intro X hP hw hK hc i pins s σ H E I hf st hg
  subst hP hw hK
  obtain⟨xs,x,hq,hx⟩:=hg
  obtain⟨its,rv,p,hz⟩:=I.list hq
  obtain⟨u,hu,ru⟩:=rv.get hx
  obtain⟨f0,f1,f2,f3,f4,f5⟩:=hf it (by simp)
  refine wpAny_pyNext_list_item st p.isList (x:=u) (by simpa using hu) fun h' st' sb=>?_
  have I1:Inv X pins σ H {s with heap:=h'}:=I.turned (t':=s.toks) (fun b o hb e=>(sb.2 b hb).trans e) f0 f1 f3 f4 f5
  obtain⟨o,e,c,d⟩:=id st'
  exact⟨u,rfl,Ir (s:={s with heap:=h'}) e c d (by decide) ⟨x,H,I1,ru,⟨rfl,fun ys hy=>by rw[I.list_inj hy hq];exact hx⟩,st',fun b hb=>(hf b hb).1⟩⟩
 done:=by
  intro X hP hw hK hc i pins s σ H E I hf st hg
  subst hP hw hK
  obtain⟨xs,hq,hx⟩:=hg
  obtain⟨its,rv,p,hz⟩:=I.list hq
  obtain⟨f0,f1,f2,f3,f4,f5⟩:=hf it (by simp)
  have hl:=rv.length
  exact wpAny_pyNext_list_end (I.ok.hd hc) st p.isList (by simp;omega) fun h' eb=>⟨rfl,I.turned (t':=s.toks) (fun b o hb e=>eb b o hb e) f0 f1 f3 f4 f5⟩
 self:=fun _ _ _ _ _ st h=>wpAny_pyIter_listiter st h
theorem Nq{P:Program}{w:World}{K:PySem.W.Frag}{tg:Expr}(a it:Addr):Turn P w K tg (Itt K a) [it] it (fun i h=>h.IsTupleIter it a i) where
 mem:=by simp
 obj:=fun i h st b hb=>by
  have e:b=it:=by simpa using hb
  subst e
  obtain⟨o,e,c,d⟩:=st
  exact⟨o,e,fun v z=>by rw[d]at z;cases z⟩
 keep:=fun i h h' st k=>st.at fun o e=>k it (by simp) o e
 item:=by
  intro X hP hw hK hc i pins s σ H E I hf st hg
  subst hP hw hK
  obtain⟨xs,x,hq,hx⟩:=hg
  obtain⟨its,rv,p,hz⟩:=I.tuple hq
  obtain⟨u,hu,ru⟩:=rv.get hx
  obtain⟨f0,f1,f2,f3,f4,f5⟩:=hf it (by simp)
  refine wpAny_pyNext_tuple_item st (show s.heap.IsTuple a its.toArray from p) (x:=u) (by simpa using hu) fun h' st' sb=>?_
  have I1:Inv X pins σ H {s with heap:=h'}:=I.turned (t':=s.toks) (fun b o hb e=>(sb.2 b hb).trans e) f0 f1 f3 f4 f5
  obtain⟨o,e,c,d⟩:=id st'
  exact⟨u,rfl,Ir (s:={s with heap:=h'}) e c d (by decide) ⟨x,H,I1,ru,⟨rfl,fun ys hy=>by rw[I.tuple_inj hy hq];exact hx⟩,st',fun b hb=>(hf b hb).1⟩⟩
 done:=by
  intro X hP hw hK hc i pins s σ H E I hf st hg
  subst hP hw hK
  obtain⟨xs,hq,hx⟩:=hg
  obtain⟨its,rv,p,hz⟩:=I.tuple hq
  obtain⟨f0,f1,f2,f3,f4,f5⟩:=hf it (by simp)
  have hl:=rv.length
  exact wpAny_pyNext_tuple_end (I.ok.hd hc) st (show s.heap.IsTuple a its.toArray from p) (by simp;omega) fun h' eb=>⟨rfl,I.turned (t':=s.toks) (fun b o hb e=>eb b o hb e) f0 f1 f3 f4 f5⟩
 self:=fun _ _ _ _ _ st h=>wpAny_pyIter_tupleiter st h
theorem Nr{P:Program}{w:World}{K:PySem.W.Frag}{tg:Expr}(it:Addr)(lo:Int)(n:Nat):Turn P w K tg (Itr lo n) [it] it (fun i h=>IsRangeIter h it (lo+(i:Nat)*1) ((n:Int)-(i:Nat)) 1) where
 mem:=by simp
 obj:=fun i h st b hb=>by
  have e:b=it:=by simpa using hb
  subst e
  exact⟨_,st,fun v z=>by
   have z':Data.fields _=Data.cell v:=z
   cases z'⟩
 keep:=fun i h h' st k=>k it (by simp) _ st
 item:=by
  intro X hP hw hK hc i pins s σ H E I hf st hg
  subst hP hw hK
  obtain⟨f0,f1,f2,f3,f4,f5⟩:=hf it (by simp)
  have W:=Walks.range (prog:=X.prog) (w:=X.w) (I.ok.hd hc) it lo 1 n
  refine W.item i s _ _ hg st fun v h' tk hv st' kk=>?_
  obtain⟨t,rfl⟩:=hv
  have I1:Inv X pins σ H {s with heap:=h',toks:=tk}:=I.turned (fun b o hb e=>kk b o (by simpa using hb) e) f0 f1 f3 f4 f5
  refine⟨_,rfl,Ir (s:={s with heap:=h',toks:=tk}) (n := "range_iterator") st' rfl rfl (by decide) ⟨.int (lo+i),H,I1,⟨t,?_⟩,⟨rfl,rfl⟩,st',fun b hb=>(hf b hb).1⟩⟩
  rw[Int.mul_one]
 done:=by
  intro X hP hw hK hc i pins s σ H E I hf st hg
  subst hP hw hK
  obtain⟨f0,f1,f2,f3,f4,f5⟩:=hf it (by simp)
  exact wpAny_pyNext_range_end (I.ok.hd hc) st (by have:n<=i:=hg;omega) fun h' eb=>⟨rfl,I.turned (t':=s.toks) (fun b o hb e=>eb b o hb e) f0 f1 f3 f4 f5⟩
 self:=fun _ _ _ _ _ st h=>wpAny_pyIter_rangeiter st h
section
variable{X:Cx}{tg:Expr}
theorem KB{pins:List (Addr×Obj)}{σ:St}{H:Hp}{s:Shared}{R:It->Hp->Prop}{E:Value->Shared->Prop}{lo hi:Int}{t u v:Tok}{tk:Nat}(I:Inv X pins σ H s)(h1:-(2^62)<=lo)(h2:lo<2^62)(h3:-(2^62)<=hi)(h4:hi<2^62)
  (q:R (Itr lo (hi-lo).toNat) H):wpAny (model X.prog X.w) X.A (pyIter (.ref s.heap.objs.size)) (PIE X pins σ tg R) E {s with heap:=s.heap.push {cls:=.type "range",data:=.fields #[.int lo t,.int hi u,.int 1 v]},toks:=tk}:=by
 refine wpAny_pyIter_range (IsRange.new ..) (small_one h1 h2 h3 h4) ?_
 have I1:Inv X pins σ H {s with heap:=s.heap.push {cls:=.type "range",data:=.fields #[.int lo t,.int hi u,.int 1 v]},toks:=tk}:=I.kept fun b o e=>Heap.get?_push_of_some _ e
 refine⟨(s.heap.push {cls:=.type "range",data:=.fields #[.int lo t,.int hi u,.int 1 v]}).objs.size,[(s.heap.push {cls:=.type "range",data:=.fields #[.int lo t,.int hi u,.int 1 v]}).objs.size],_,_,H,rfl,
  I1.kept (t':=tk) fun b o e=>Heap.get?_push_of_some _ e,Nr _ lo (hi-lo).toNat,?_,fun b hb=>?_,q⟩
 ·have e1:lo+((0:Nat):Int)*1=lo:=by simp
  have e2:(((hi-lo).toNat:Nat):Int)-((0:Nat):Int)=Builtin.Range.rangeSize lo hi 1:=by rw[rangeSize_one];split<;>omega
  show IsRangeIter _ _ (lo+((0:Nat):Int)*1) ((((hi-lo).toNat:Nat):Int)-((0:Nat):Int)) 1
  rw[e1,e2]
  exact Heap.get?_push_size _ rfl
 ·have e:b=(s.heap.push {cls:=.type "range",data:=.fields #[.int lo t,.int hi u,.int 1 v]}).objs.size:=by simpa using hb
  subst e
  exact I1.fpOk (aai _) (I1.hok.fresh (aai _))
abbrev WF(ta:TA):TI:=fun σ H R=>ta σ H fun vs H1=>∃j:Int,vs=[.int j]/\-(2^62)<=j/\j<2^62/\R (Itr 0 j.toNat) H1
abbrev WG(ta:TA):TI:=fun σ H R=>ta σ H fun vs H1=>∃i j:Int,vs=[.int i,.int j]/\(-(2^62)<=i/\i<2^62/\-(2^62)<=j/\j<2^62)/\R (Itr i (j-i).toNat) H1
theorem OD{a:Expr}{ta:TA}{p pos:Pos}(hg:Gl X "range")(hm:X.mg "range" = none)(ha:PA X [a] ta)(hs:starEach [a] X.env=[(false,eval a X.env)]:=by rfl):PI X tg (.Call (.Name "range" p) [a] [] pos) (WF ta):=by
 intro pins s σ H R I h
 refine Call_ (Bu I hg hm boot_range (PyProof.Rows.callWith_type1 (thn (ha pos pins s σ H _ I h) fun us s1 ⟨vs,H1,I1,r1,q1⟩=>?_) hs rfl))
 obtain⟨j,e,q1,q2,q⟩:=q1
 subst e
 cases r1 with
 |cons r rr=>
  cases rr
  obtain⟨t,rfl⟩:=r
  exact call_range_1 (KB I1 (by omega) (by omega) q1 q2 (by simpa using q))
theorem OE{a b:Expr}{ta:TA}{p pos:Pos}(hg:Gl X "range")(hm:X.mg "range" = none)(ha:PA X [a,b] ta)(hs:starEach [a,b] X.env=[(false,eval a X.env),(false,eval b X.env)]:=by rfl)(hs2:starEach [b] X.env=[(false,eval b X.env)]:=by rfl) :
  PI X tg (.Call (.Name "range" p) [a,b] [] pos) (WG ta):=by
 intro pins s σ H R I h
 refine Call_ (Bu I hg hm boot_range (PyProof.Rows.callWith_type1 (thn (ha pos pins s σ H _ I h) fun us s1 ⟨vs,H1,I1,r1,q1⟩=>?_) (by rw[hs,hs2]) (by rw[hs2];rfl)))
 obtain⟨i,j,e,⟨q1,q2,q3,q4⟩,q⟩:=q1
 subst e
 cases r1 with
 |cons r rr=>
  cases rr with
  |cons r' rr=>
   cases rr
   obtain⟨t,rfl⟩:=r
   obtain⟨t',rfl⟩:=r'
   exact call_range_2 (KB I1 q1 q2 q3 q4 q)
abbrev UZ(wi:TI)(g:TG)(tb:TS):TS:=fun D σ H=>wi σ H fun J H1=>∃W:Nat->Nat->St->Hp->Prop,(∃m,W 0 m σ H1)/\∀i m σ H,W i m σ H->
 (J.stop i H/\D.nx σ H)\/(J.go i H/\∃N:St->Hp->Prop,(∀σ' H',N σ' H'->∃m',m'<m/\W (i+1) m' σ' H')/\∀x H',J.yld i H x H'->g x σ H' fun σ2 H2=>tb {D with nx:=N,ct:=N,bk:=D.nx} σ2 H2)
abbrev Gw(fp:List Addr)(h:Heap):List (Addr×Obj):=fp.filterMap fun b=>(h.get? b).map fun o=>(b,o)
theorem EL{fp:List Addr}{h:Heap}{b:Addr}{o:Obj}(hb:b∈fp)(e:h.get? b=some o):(b,o)∈Gw fp h:=aaO.mpr ⟨b,hb,by rw[e];rfl⟩
theorem OF{fp:List Addr}{h:Heap}{p:Addr×Obj}(hp:p∈Gw fp h):p.1∈fp/\h.get? p.1=some p.2:=by
 obtain⟨b,hb,e⟩:=aaO.mp hp
 cases q:h.get? b with
 |none=>rw[q]at e;cases e
 |some o=>
  rw[q]at e
  have e':(b,o)=p:=Option.some.inj e
  subst e'
  exact⟨hb,q⟩
theorem Inv.pinned{pins:List (Addr×Obj)}{σ:St}{H:Hp}{s:Shared}{fp:List Addr}(I:Inv X pins σ H s)(hf:∀b∈fp,FpOk X pins H b)(ho:∀b∈fp,∃o,s.heap.get? b=some o/\∀v,o.data≠.cell v):Inv X (pins++Gw fp s.heap) σ H s :=
 I.pins_of fun p hp=>(aag.mp hp).elim (fun z=>I.pin p (aau _ z)) fun z=>by
  obtain⟨hb,e⟩:=OF z
  obtain⟨f0,f1,f2,_⟩:=hf p.1 hb
  obtain⟨o,e',d⟩:=ho p.1 hb
  rw[e]at e';cases e'
  exact⟨e,f0,f1,f2,d⟩
theorem Inv.unpinned{pins pl:List (Addr×Obj)}{σ:St}{H:Hp}{s:Shared}(I:Inv X (pins++pl) σ H s):Inv X pins σ H s:=I.pins_of fun p hp=>I.pin p (aau _ (aaD _ hp))
theorem OG{iter:Expr}{body:List Stmt}{wi:TI}{g:TG}{tb:TS}{pos:Pos}(hp:PassesOwn (model X.prog X.w) X.A X.env X.xe)(hc:X.calm=true)(hi:PI X tg iter wi)(hg:PG X tg g)(hb:PSs X body tb)
  (hs:∀x,foldedSetIterable iter X.env x=pure x:=by intro _;rfl):PS X (.For tg iter body [] pos) (UZ wi g tb):=by
 intro pins s σ H D I h
 refine wpAny_For (thn (hi pins s σ H _ I h) fun v s1 h1=>thn h1 fun itv s2 h2=>?_) hs
 obtain⟨it,fp,tn,J,H2,e,I2,T,st2,f2,W,⟨m0,w0⟩,turn⟩:=h2
 subst e
 have stat:∀{H':Hp},(∀b∈fp,H' b=none)->∀b∈fp,FpOk X pins H' b:=fun hn b hb=>⟨hn b hb,(f2 b hb).2⟩
 refine codeAny_forLoop_any (fun n s'=>∃i σ' H',Inv X pins σ' H' s'/\tn i s'.heap/\(∀b∈fp,H' b=none)/\W i n σ' H') ?_ m0 ⟨0,σ,H2,I2,st2,fun b hb=>(f2 b hb).1,w0⟩
 rintro n s3 ⟨i,σ3,H3,I3,st3,fr3,w3⟩
 rcases turn i n σ3 H3 w3 with⟨stop,qn⟩|⟨go,N,hN,step⟩
 ·refine wpAny_passesOwn hp (thn (T.done X rfl rfl rfl hc i pins s3 σ3 H3 X.xe I3 (stat fr3) st3 stop) fun r s4 ⟨hr,I4⟩=>?_)
  subst hr
  exact wpAny_execs_nil ⟨σ3,H3,I4,qn⟩
 ·refine wpAny_passesOwn hp (thn (T.item X rfl rfl rfl hc i pins s3 σ3 H3 X.xe I3 (stat fr3) st3 go) fun r s4 ⟨u,hr,h4⟩=>?_)
  subst hr
  refine wpAny_passesOwn hp (thn h4 fun _ s5 ⟨x,H5,I5,r5,y5,st5,fr5⟩=>?_)
  have I5':=I5.pinned (stat fr5) (T.obj _ _ st5)
  refine wpAny_passesOwn hp (thn (hg _ s5 σ3 H5 x u _ I5' r5 (step x H5 y5)) fun _ s6 ⟨σ6,H6,I6,q6⟩=>?_)
  refine wpAny_passesOwn hp (thn (hb _ s6 σ6 H6 _ I6 q6) fun f s7 q7=>?_)
  have again:∀{σ7:St}{H7:Hp},Inv X (pins++Gw fp s5.heap) σ7 H7 s7->N σ7 H7->∃m,m<n/\∃i σ' H',Inv X pins σ' H' s7/\tn i s7.heap/\(∀b∈fp,H' b=none)/\W i m σ' H':=fun {σ7 H7} I7 n7=>by
   obtain⟨m',hm,w7⟩:=hN σ7 H7 n7
   refine⟨m',hm,i+1,σ7,H7,I7.unpinned,T.keep _ _ _ st5 fun b hb o e=>(I7.pin (b,o) (aau _ (aau _ (EL hb e)))).1,fun b hb=>?_,w7⟩
   obtain⟨o,e,d⟩:=T.obj _ _ st5 b hb
   exact(I7.pin (b,o) (aau _ (aau _ (EL hb e)))).2.1
  cases f with
  |next=>obtain⟨σ7,H7,I7,n7⟩:=q7;exact again I7 n7
  |cont=>obtain⟨σ7,H7,I7,n7⟩:=q7;exact again I7 n7
  |brk=>obtain⟨σ7,H7,I7,q7⟩:=q7;exact⟨σ7,H7,I7.unpinned,q7⟩
  |ret v=>obtain⟨x7,σ7,H7,I7,r7,q7⟩:=q7;exact⟨x7,σ7,H7,I7.unpinned,r7,q7⟩
end
@[reducible]noncomputable def R2:=V->V->Hp->VK->Prop
abbrev OpR(X:Cx)(f:Value->Value->Sem Value)(r:R2):Prop :=
 ∀(pins:List (Addr×Obj))(s:Shared)(σ:St)(H:Hp)(x y:V)(v u:Value)(Q:VK),Inv X pins σ H s->RelV x v->RelV y u->r x y H Q->
  wpAny (model X.prog X.w) X.A (f v u) (EP X pins σ Q) X.xe s
abbrev UnR(X:Cx)(f:Value->Sem Value)(r:V->Hp->VK->Prop):Prop :=
 ∀(pins:List (Addr×Obj))(s:Shared)(σ:St)(H:Hp)(x:V)(v:Value)(Q:VK),Inv X pins σ H s->RelV x v->r x H Q->
  wpAny (model X.prog X.w) X.A (f v) (EP X pins σ Q) X.xe s
abbrev Eg(X:Cx)(f:Value)(r:List V->Hp->VK->Prop):Prop :=
 ∀(pins:List (Addr×Obj))(s:Shared)(σ:St)(H:Hp)(xs:List V)(us:List Value)(Q:VK),Inv X pins σ H s->Vals xs us->r xs H Q->
  wpAny (model X.prog X.w) X.A (call f us) (EP X pins σ Q) X.xe s
abbrev XN(X:Cx)(r:V->Hp->(Bool->Hp->Prop)->Prop):Prop :=
 ∀(pins:List (Addr×Obj))(s:Shared)(σ:St)(H:Hp)(x:V)(v:Value)(Q:Bool->Hp->Prop),Inv X pins σ H s->RelV x v->r x H Q->
  wpAny (model X.prog X.w) X.A (truthy v) (TP X pins σ Q) X.xe s
abbrev tOp(r:R2)(ta tb:TE):TE:=fun σ H Q=>ta σ H fun x H1=>tb σ H1 fun y H2=>r x y H2 Q
abbrev tUn(r:V->Hp->VK->Prop)(ta:TE):TE:=fun σ H Q=>ta σ H fun x H1=>r x H1 Q
abbrev rI(C:Int->Int->Prop)(g:Int->Int->V):R2:=fun x y H Q=>∃i j,x=.int i/\y=.int j/\C i j/\Q (g i j) H
abbrev rI0(g:Int->Int->V):R2:=fun x y H Q=>∃i j,x=.int i/\y=.int j/\Q (g i j) H
abbrev rU(g:Int->V):V->Hp->VK->Prop:=fun x H Q=>∃i,x=.int i/\Q (g i) H
section
variable{X:Cx}{a b c:Expr}{ta tb tc:TE}{pos:Pos}
theorem Qj(ha:PE X a ta)(hb:PE X b tb){pins:List (Addr×Obj)}{s:Shared}{σ:St}{H:Hp}{R:V->V->Hp->Prop}(I:Inv X pins σ H s)
  (h:ta σ H fun x H1=>tb σ H1 fun y H2=>R x y H2) {Q:Value->Shared->Prop} {f:Value->Value->Sem Value}
  (hf:∀v u s2 x y H2,Inv X pins σ H2 s2->RelV x v->RelV y u->R x y H2->wpAny (model X.prog X.w) X.A (f v u) Q X.xe s2) :
  wpAny (model X.prog X.w) X.A (eval a X.env) (fun v s₁=>wpAny (model X.prog X.w) X.A (eval b X.env) (fun u s₂=>wpAny (model X.prog X.w) X.A (f v u) Q X.xe s₂) X.xe s₁) X.xe s:=by
 refine thn (ha pins s σ H _ I h) fun v s1 ⟨x,H1,I1,r1,q1⟩=>?_
 refine thn (hb pins s1 σ H1 _ I1 q1) fun u s2 ⟨y,H2,I2,r2,q2⟩=>?_
 exact hf v u s2 x y H2 I2 r1 r2 q2
theorem WH{op:Operator}{r:R2}(ho:OpR X (binaryOp op) r)(ha:PE X a ta)(hb:PE X b tb):PE X (.BinOp a op b pos) (tOp r ta tb):=by
 intro pins s σ H Q I h
 exact wpAny_BinOp (Qj ha hb I h fun v u s2 x y H2 I2 rx ry q=>ho pins s2 σ H2 x y v u Q I2 rx ry q)
theorem WI{op:UnaryOp}{r:V->Hp->VK->Prop}(ho:UnR X (unaryOp op) r)(ha:PE X a ta):PE X (.UnaryOp op a pos) (tUn r ta):=by
 intro pins s σ H Q I h
 exact UnaryOp_ (thn (ha pins s σ H _ I h) fun v s1 ⟨x,H1,I1,r1,q1⟩=>ho pins s1 σ H1 x v Q I1 r1 q1)
theorem opI{f:Value->Value->Sem Value}{C:Int->Int->Prop}{g:Int->Int->Int}
  (rule:∀(i j:Int)(t u:Tok)(s:Shared)(Q:Value->Shared->Prop)(E:Value->Shared->Prop),C i j->Q (.int (g i j) s.toks) {s with toks:=s.toks+1}->wpAny (model X.prog X.w) X.A (f (.int i t) (.int j u)) Q E s) :
  OpR X f (rI C fun i j=>.int (g i j)):=by
 intro pins s σ H x y v u Q I rx ry h
 obtain⟨i,j,rfl,rfl,hc,q⟩:=h
 obtain⟨t,rfl⟩:=rx
 obtain⟨t',rfl⟩:=ry
 exact rule i j t t' s _ _ hc ⟨.int (g i j),H,I.tok _,⟨_,rfl⟩,q⟩
theorem U0{f:Value->Value->Sem Value}{g:Int->Int->Int}
  (rule:∀(i j:Int)(t u:Tok)(s:Shared)(Q:Value->Shared->Prop)(E:Value->Shared->Prop),Q (.int (g i j) s.toks) {s with toks:=s.toks+1}->wpAny (model X.prog X.w) X.A (f (.int i t) (.int j u)) Q E s) :
  OpR X f (rI0 fun i j=>.int (g i j)):=by
 intro pins s σ H x y v u Q I rx ry h
 obtain⟨i,j,rfl,rfl,q⟩:=h
 obtain⟨t,rfl⟩:=rx
 obtain⟨t',rfl⟩:=ry
 exact rule i j t t' s _ _ ⟨.int (g i j),H,I.tok _,⟨_,rfl⟩,q⟩
theorem Nt{f:Value->Value->Sem Value}{g:Int->Int->Bool}
  (rule:∀(i j:Int)(t u:Tok)(s:Shared)(Q:Value->Shared->Prop)(E:Value->Shared->Prop),Q (.bool (g i j)) s->wpAny (model X.prog X.w) X.A (f (.int i t) (.int j u)) Q E s) :
  OpR X f (rI0 fun i j=>.bl (g i j)):=by
 intro pins s σ H x y v u Q I rx ry h
 obtain⟨i,j,rfl,rfl,q⟩:=h
 obtain⟨t,rfl⟩:=rx
 obtain⟨t',rfl⟩:=ry
 exact rule i j t t' s _ _ ⟨.bl (g i j),H,I,rfl,q⟩
abbrev U1(i j:Int):Prop:=0<=j/\j<=1000000/\i.natAbs<2^64
abbrev CMul(i j:Int):Prop:=(-(2^64)<i/\i<2^64)\/(-(2^64)<j/\j<2^64)
theorem CMul.ok{i j:Int}(h:CMul i j):IntMulOk i j:=by
 rcases h with⟨h1,h2⟩|⟨h1,h2⟩
 ·exact .of_left (intBits_le_64 h1 h2)
 ·exact .of_right (intBits_le_64 h1 h2)
theorem U2:OpR X (binaryOp .Add) (rI0 fun i j=>.int (i+j)):=U0 fun _ _ _ _ _ _ _ q=>add_int q
theorem U3:OpR X (binaryOp .Sub) (rI0 fun i j=>.int (i-j)):=U0 fun _ _ _ _ _ _ _ q=>sub_int q
theorem U4:OpR X (binaryOp .Mod) (rI (fun _ j=>0<j) fun i j=>.int (i%j)):=opI fun i j _ _ _ _ _ hc q=>by
 have h1:(0:Int)<j:=hc
 exact mod_int' (by omega) (by rw[Int.fmod_eq_emod_of_nonneg i (by omega)];exact q)
theorem U5:OpR X (binaryOp .Pow) (rI U1 fun i j=>.int (i^j.toNat)):=opI fun _ _ _ _ _ _ _ hc q=>pow_int_small hc.1 hc.2.1 hc.2.2 q
theorem unI{f:Value->Sem Value}{g:Int->Int}
  (rule:∀(i:Int)(t:Tok)(s:Shared)(Q:Value->Shared->Prop)(E:Value->Shared->Prop),Q (.int (g i) s.toks) {s with toks:=s.toks+1}->wpAny (model X.prog X.w) X.A (f (.int i t)) Q E s) :
  UnR X f (rU fun i=>.int (g i)):=by
 intro pins s σ H x v Q I rx h
 obtain⟨i,rfl,q⟩:=h
 obtain⟨t,rfl⟩:=rx
 exact rule i t s _ _ ⟨.int (g i),H,I.tok _,⟨_,rfl⟩,q⟩
theorem U6:UnR X (unaryOp .USub) (rU fun i=>.int (-i)):=unI fun _ _ _ _ _ q=>neg_int q
end
section
variable{X:Cx}{a b c:Expr}{ta tb tc:TE}{pos:Pos}
theorem WJ:OpR X (compareOp .Lt) (rI0 fun i j=>.bl (decide (i<j))):=Nt fun _ _ _ _ _ _ _ q=>lt_int q
theorem WK:OpR X (compareOp .LtE) (rI0 fun i j=>.bl (decide (i<=j))):=Nt fun _ _ _ _ _ _ _ q=>le_int q
theorem WL:OpR X (compareOp .Gt) (rI0 fun i j=>.bl (decide (j<i))):=Nt fun _ _ _ _ _ _ _ q=>gt_int q
theorem WM:OpR X (compareOp .GtE) (rI0 fun i j=>.bl (decide (j<=i))):=Nt fun _ _ _ _ _ _ _ q=>ge_int q
theorem OpR.or{f:Value->Value->Sem Value}{r r':R2}(h:OpR X f r)(h':OpR X f r'):OpR X f (fun x y H Q=>r x y H Q\/r' x y H Q):=by
 intro pins s σ H x y v u Q I rx ry q
 rcases q with q|q
 ·exact h pins s σ H x y v u Q I rx ry q
 ·exact h' pins s σ H x y v u Q I rx ry q
theorem U7(b:Expr){op:CmpOp}(h:op≠.In:=by decide)(h2:op≠.NotIn:=by decide):behindInMarks op b=false:=by
 have e1:(op==CmpOp.In)=false:=by cases op<;>first|rfl|exact absurd rfl h
 have e2:(op==CmpOp.NotIn)=false:=by cases op<;>first|rfl|exact absurd rfl h2
 cases b<;>simp[behindInMarks,e1,e2]
theorem Sj{op:CmpOp}{r:R2}(ho:OpR X (compareOp op) r)(ha:PE X a ta)(hb:PE X b tb)(hm:behindInMarks op b=false):PE X (.Compare a [op] [b] pos) (tOp r ta tb):=by
 intro pins s σ H Q I h
 exact wpAny_Compare1 (Qj ha hb I h fun v u s2 x y H2 I2 rx ry q=>ho pins s2 σ H2 x y v u Q I2 rx ry q) hm
abbrev RG(t:TE):TT:=fun σ H Q=>t σ H fun x H'=>∃k,x=.bl k/\Q k H'
theorem MB{op:CmpOp}{r:R2}(ho:OpR X (compareOp op) r)(ha:PE X a ta)(hb:PE X b tb)(hm:behindInMarks op b=false):PT X (.Compare a [op] [b] pos) (RG (tOp r ta tb)):=by
 intro pins s σ H Q I h
 refine wpAny_isTrue_Compare1 (thn (ha pins s σ H _ I h) fun v s1 ⟨x,H1,I1,r1,q1⟩=>thn (hb pins s1 σ H1 _ I1 q1) fun u s2 ⟨y,H2,I2,r2,q2⟩=>
  thn (ho pins s2 σ H2 x y v u _ I2 r1 r2 q2) fun c s3 ⟨z,H3,I3,r3,k,e,q3⟩=>?_) hm
 subst e
 cases r3
 exact wpAny_truthy_bool ⟨H3,I3,q3⟩
abbrev KC(r r':R2)(ta tb tc:TE):TE:=fun σ H Q=>ta σ H fun x H1=>tb σ H1 fun y H2=>r x y H2 fun z H3=>∃k,z=.bl k /\
 (if k=true then tc σ H3 fun w' H4=>r' y w' H4 Q else Q (.bl false) H3)
theorem Qk{op op':CmpOp}{r r':R2}(ho:OpR X (compareOp op) r)(ho':OpR X (compareOp op') r')(ha:PE X a ta)(hb:PE X b tb)(hc:PE X c tc)
  (hm:lastMarks [op,op'] [b,c]=false:=by with_unfolding_all rfl):PE X (.Compare a [op,op'] [b,c] pos) (KC r r' ta tb tc):=by
 intro pins s σ H Q I h
 refine Compare_chain (thn (ha pins s σ H _ I h) fun v s1 ⟨x,H1,I1,r1,q1⟩=>chain_link (thn (hb pins s1 σ H1 _ I1 q1) fun u s2 ⟨y,H2,I2,r2,q2⟩=>
  thn (ho pins s2 σ H2 x y v u _ I2 r1 r2 q2) fun d s3 ⟨z,H3,I3,r3,k,e,q3⟩=>?_)) hm
 subst e
 cases r3
 refine wpAny_truthy_bool ?_
 cases k with
 |false=>exact ite_ff ⟨.bl false,H3,I3,rfl,q3⟩
 |true=>exact ite_tt (chain_last (thn (hc pins s3 σ H3 _ I3 q3) fun w' s4 ⟨z',H4,I4,r4,q4⟩=>ho' pins s4 σ H4 y z' u w' Q I4 r2 r4 q4))
theorem Ql{op op':CmpOp}{r r':R2}(ho:OpR X (compareOp op) r)(ho':OpR X (compareOp op') r')(ha:PE X a ta)(hb:PE X b tb)(hc:PE X c tc)
  (hm:lastMarks [op,op'] [b,c]=false:=by with_unfolding_all rfl):PT X (.Compare a [op,op'] [b,c] pos) (RG (KC r r' ta tb tc)):=by
 intro pins s σ H Q I h
 refine isTrue_chain (thn (ha pins s σ H _ I h) fun v s1 ⟨x,H1,I1,r1,q1⟩=>test_link (thn (hb pins s1 σ H1 _ I1 q1) fun u s2 ⟨y,H2,I2,r2,q2⟩=>
  thn (ho pins s2 σ H2 x y v u _ I2 r1 r2 q2) fun d s3 ⟨z,H3,I3,r3,k,e,q3⟩=>?_)) hm
 subst e
 cases r3
 refine wpAny_truthy_bool ?_
 cases k with
 |false=>
  obtain⟨k',e',q'⟩:=q3
  cases e'
  exact ite_ff ⟨H3,I3,q'⟩
 |true=>
  refine ite_tt (test_last (thn (hc pins s3 σ H3 _ I3 q3) fun w' s4 ⟨z',H4,I4,r4,q4⟩=>thn (ho' pins s4 σ H4 y z' u w' _ I4 r2 r4 q4) fun d' s5 ⟨z2,H5,I5,r5,k2,e2,q5⟩=>?_))
  subst e2
  cases r5
  exact wpAny_truthy_bool ⟨H5,I5,q5⟩
abbrev Qm(K:PySem.W.Frag)(x:V)(H:Hp)(k:Bool):Prop :=
 match x with
 |.non=>k=false
 |.bl b=>k=b
 |.int i=>k=(i != 0)
 |.str y=>y.length<=sizeLine/\k=((y.length:Int) != 0)
 |.byt y=>y.size<=sizeLine/\k=((y.size:Int) != 0)
 |.ref p=>(∃xs,SqL K H p xs/\k=!xs.isEmpty)\/(∃xs,SqT K H p xs/\k=!xs.isEmpty)\/∃kvs,H p=some (.dK kvs)/\k=!kvs.isEmpty
 |_=>False
theorem Nu{κ:Type}{kvs:List (κ×V)}{vs:List (κ×Value)}(r:KV kvs vs):(!vs.isEmpty)=!kvs.isEmpty:=by
 cases r<;>rfl
theorem Iu{xs:List V}{its:List Value}(r:Vals xs its):(!its.toArray.isEmpty)=!xs.isEmpty:=by
 cases r<;>simp
theorem Gx:(sizeLine:Nat)<2^63:=by rw[sizeLine_eq];decide
theorem U8:XN X (fun x H Q=>∃k,Qm X.K x H k/\Q k H):=by
 intro pins s σ H x v Q I rx h
 obtain⟨k,e,q⟩:=h
 have hl:=Gx
 have hs:sizeLine=16777216:=sizeLine_eq
 cases x with
 |non=>
  cases rx
  have e':k=false:=e
  subst e'
  exact truthy_none ⟨H,I,q⟩
 |bl b=>
  cases rx
  have e':k=b:=e
  subst e'
  exact wpAny_truthy_bool ⟨H,I,q⟩
 |int i=>
  obtain⟨t,rfl⟩:=rx
  have e':k=(i != 0):=e
  subst e'
  exact PySem.P.truthy_int ⟨H,I,q⟩
 |str y=>
  obtain⟨t,rfl⟩:=rx
  obtain⟨hy,e'⟩:y.length<=sizeLine/\k=((y.length:Int) != 0):=e
  subst e'
  exact PySem.P.truthy_str (by omega) ⟨H,I.tok _,q⟩
 |byt y=>
  obtain⟨t,rfl⟩:=rx
  obtain⟨hy,e'⟩:y.size<=sizeLine/\k=((y.size:Int) != 0):=e
  subst e'
  exact PySem.W.truthy_bytes (by omega) ⟨H,I.tok _,q⟩
 |ref p=>
  cases rx
  have e':(∃xs,SqL X.K H p xs/\k=!xs.isEmpty)\/(∃xs,SqT X.K H p xs/\k=!xs.isEmpty)\/∃kvs,H p=some (.dK kvs)/\k=!kvs.isEmpty:=e
  rcases e' with⟨xs,hx,e'⟩|⟨xs,hx,e'⟩|⟨kvs,hx,e'⟩
  ·subst e'
   obtain⟨its,r,pl,hz⟩:=I.list hx
   have hlen:=r.length
   exact wpAny_truthy_list pl.isList (by simp only[aar];omega) ⟨H,I.tok _,by rw[Iu r];exact q⟩
  ·subst e'
   obtain⟨its,r,pl,hz⟩:=I.tuple hx
   have hlen:=r.length
   exact truthy_tuple pl (by simp only[aar];omega) ⟨H,I.tok _,by rw[Iu r];exact q⟩
  ·subst e'
   obtain⟨hz,hS,vs,r,m⟩:kvs.length<=sizeLine/\(p==sysModules)=false/\∃vs,KV kvs vs/\s.heap.DictOf (Jg X.prog X.w) p vs:=I.hok p _ hx
   have hlen:kvs.length=vs.length:=Paired.length r
   exact wpAny_truthy_dict hS m (by omega) ⟨H,I.tok _,by rw[Nu r];exact q⟩
 |_=>exact nE e
theorem HI(ha:PE X a ta)(he:∀whole,isTrue a X.env whole=(do let v <- whole;standAt a.pos;holding [v] (truthy v))) :
  PT X a (fun σ H Q=>ta σ H fun x H'=>∃k,Qm X.K x H' k/\Q k H'):=by
 intro pins s σ H Q I h
 exact isTrue_plain (thn (ha pins s σ H _ I h) fun v s1 ⟨x,H1,I1,r1,q1⟩=>U8 pins s1 σ H1 x v Q I1 r1 q1) (he _)
theorem Nv:OpR X (binaryOp .Add) (fun x y H Q=>∃i j,x=.str i/\y=.str j/\i.length+j.length<=sizeLine/\Q (.str (i++j)) H):=by
 intro pins s σ H x y v u Q I rx ry h
 obtain⟨i,j,rfl,rfl,hz,q⟩:=h
 obtain⟨t,rfl⟩:=rx
 obtain⟨t',rfl⟩:=ry
 exact add_str (fun t' tk=>⟨.str (i++j),H,I.tok _,⟨_,rfl⟩,q⟩) hz
theorem G9{x:V}{us:List Value}(r:Vals [x] us):∃u,us=[u]/\RelV x u:=by
 cases r with
 |cons r1 r2=>cases r2;exact⟨_,rfl,r1⟩
theorem Nw{x y:V}{us:List Value}(r:Vals [x,y] us):∃u w',us=[u,w']/\RelV x u/\RelV y w':=by
 cases r with
 |cons r1 r2=>
  cases r2 with
  |cons r3 r4=>cases r4;exact⟨_,_,rfl,r1,r3⟩
theorem OH(hc:X.calm=true):Eg X (.builtin "min") (fun xs H Q=>∃i j,xs=[.int i,.int j]/\Q (.int (if j<i then j else i)) H):=by
 intro pins s σ H xs us Q I r h
 obtain⟨i,j,rfl,q⟩:=h
 obtain⟨u,w',rfl,⟨t,rfl⟩,⟨t',rfl⟩⟩:=Nw r
 refine min_two_ints (I.ok.hd hc) fun h' tk k=>⟨_,H,I.kept k,?_,q⟩
 by_cases hj:j<i
 ·rw[if_pos hj,if_pos hj];exact⟨_,rfl⟩
 ·rw[if_neg hj,if_neg hj];exact⟨_,rfl⟩
theorem OI:Eg X (.type "int") (fun xs H Q=>(∃i,xs=[.int i]/\Q (.int i) H)\/∃k,xs=[.bl k]/\Q (.int (if k then 1 else 0)) H):=by
 intro pins s σ H xs us Q I r h
 rcases h with⟨i,rfl,q⟩|⟨k,rfl,q⟩
 ·obtain⟨u,rfl,t,rfl⟩:=G9 r
  exact call_int_int ⟨.int i,H,I,⟨_,rfl⟩,q⟩
 ·obtain⟨u,rfl,r1⟩:=G9 r
  cases r1
  exact call_int_bool ⟨.int (if k then 1 else 0),H,I.tok _,⟨_,rfl⟩,q⟩
end
structure ObjM(h:Heap)(x dx C:Addr)(mA:Str->Option Value):Prop where
 obj:h.get? x=some (PySem.W.instObj C dx)
 ns:h.Ns1 dx mA
 ne:dx≠x
theorem OJ{h:Heap}{dx:Addr}{mA:Str->Option Value}(n:h.Ns1 dx mA):∃od,h.get? dx=some od/\∀name,PySem.W.lookIn name od=some (mA name):=by
 obtain⟨o,es,ep,ho,hd,hk,_,hm⟩:=n
 refine⟨o,ho,fun name=>?_⟩
 have e:=hm name
 unfold nsFind findBy at e
 rw[<- Array.find?_toList]at e
 unfold PySem.W.lookIn
 rw[hd]
 dsimp only
 split
 ·rename_i y q
  rw[q]at e
  exact congrArg some e
 ·rename_i q
  rw[q]at e
  have a:es.toList.any (·.refKey)=false:=by
   rw[List.any_eq_false]
   intro y hy
   obtain⟨z,t,hkey⟩:=hk y (Array.mem_toList_iff.mp hy)
   simp[DictEntry.refKey,hkey]
  have a':¬es.toList.any (·.refKey)=true:=by rw[a];exact abl
  rw[if_neg a']
  exact congrArg some e
theorem ObjM.look{h:Heap}{x dx C:Addr}{mA:Str->Option Value}(I:ObjM h x dx C mA):∃od,PySem.W.InstAt h x (PySem.W.instObj C dx) C (some od)/\∀name,PySem.W.lookIn name od=some (mA name) :=
 let ⟨od,ho,hl⟩:=OJ I.ns
 ⟨od,⟨I.obj,rfl,rfl,ho⟩,hl⟩
section
variable{P:Program}{w:World}{H H':Hp}{h h':Heap}{a C dx:Addr}{fs fs':List (Str×V)}
theorem MC(hok:HOk P w H h)(e:H a=some (.ins C dx fs)):∃mA,ObjM h a dx C mA/\(∀f,RelO (fs.lookup f) (mA f))/\PySem.Within mA (fs.map (·.1))/\fs.length<=1000/\H dx=some (.own a):=by
 obtain⟨d,z,ne,ob,mA,n,r,q⟩:=(show ObjOk P w H h a (.ins C dx fs) from hok a _ e)
 exact⟨mA,⟨ob,n,ne⟩,r,q,z,d⟩
end
structure Cls(K:PySem.W.Frag)(C:Addr):Prop where
 pg:PySem.W.plainGet K C Str.empty=true
 hd:PySem.W.hasDictIn K C=true
 po:PySem.W.plainOver K C=true
 sa:PySem.W.findIn K (.ref C) "__setattr__" = some (some (.builtin "object.__setattr__"))
theorem Cls.get{K:PySem.W.Frag}{C:Addr}(c:Cls K C)(f:Str):PySem.W.plainGet K C f=true:=c.pg
section
variable{X:Cx}{pins:List (Addr×Obj)}{σ:St}{H:Hp}{s:Shared}{a C dx:Addr}{fs:List (Str×V)}{f:Str}{v:V}{A:Around}{E:Value->Shared->Prop}
theorem Inv.made(I:Inv X pins σ H s):Inv X pins σ (upd (upd H s.heap.objs.size (.own (s.heap.objs.size+1))) (s.heap.objs.size+1) (.ins C s.heap.objs.size []))
  {s with heap:=(s.heap.push PySem.W.emptyDict).push (PySem.W.instObj C s.heap.objs.size)}:=by
 have e1:(s.heap.push PySem.W.emptyDict).get? s.heap.objs.size=some PySem.W.emptyDict:=Heap.get?_push_size s.heap rfl
 have e2:((s.heap.push PySem.W.emptyDict).push (PySem.W.instObj C s.heap.objs.size)).get? (s.heap.objs.size+1)=some (PySem.W.instObj C s.heap.objs.size):=by
  have:=Heap.get?_push_size (s.heap.push PySem.W.emptyDict) (o:=PySem.W.instObj C s.heap.objs.size) rfl
  rwa [Heap.size_push]at this
 have e3:(s.heap.push PySem.W.emptyDict).Ns s.heap.objs.size (fun _=>none):=⟨PySem.W.emptyDict,#[],_,e1,rfl,(fun e he=>absurd he (by simp)),fun _=>rfl⟩
 have I1:=I.laid (a:=s.heap.objs.size) (o:=.own (s.heap.objs.size+1)) (h':=s.heap.push PySem.W.emptyDict) (t':=s.toks) (fun b u q=>Heap.get?_push_of_some _ q) (aai _) ⟨_,e1⟩
 refine I1.laid (a:=s.heap.objs.size+1) (o:=.ins C s.heap.objs.size []) (t':=s.toks) (fun b u q=>Heap.get?_push_of_some _ q) (aa5 (Heap.size_push _ _)) ?_
 have ne:s.heap.objs.size≠s.heap.objs.size+1:=aaV (abG _)
 refine⟨by rw[Ah ne,Aq],aaw _,ne,e2,fun _=>none,(Heap.Ns1.of_empty e3).at fun o q=>Heap.get?_push_of_some _ q,fun _=>True.intro,fun y hy=>absurd rfl hy⟩
end
section
variable{X:Cx}{pins:List (Addr×Obj)}{σ:St}{H:Hp}{s:Shared}{A:Around}{E:Value->Shared->Prop}{Q:Value->Shared->Prop}{c:Value}{b:Bool}
inductive TyOf(K:PySem.W.Frag)(H:Hp):V->Value->Prop where
 |non:TyOf K H .non (.type "NoneType")
 |bl (x:Bool):TyOf K H (.bl x) (.type "bool")
 |int (i:Int):TyOf K H (.int i) (.type "int")
 |str (x:Str):TyOf K H (.str x) (.type "str")
 |flt (x:UInt64):TyOf K H (.flt x) (.type "float")
 |lst {a:Addr} {xs:List V} (e:H a=some (.lst xs)):TyOf K H (.ref a) (.type "list")
 |frz {a:Addr} {o:Obj} {xs:List V} (e:H a=some (.frz o (.lst xs))):TyOf K H (.ref a) (.type "list")
 |tup {a:Addr} {xs:List V} (e:H a=some (.tup xs)):TyOf K H (.ref a) (.type "tuple")
 |dK {a:Addr} {kvs:List (Key×V)} (e:H a=some (.dK kvs)):TyOf K H (.ref a) (.type "dict")
 |dT {a:Addr} {kvs:List (List Key×V)} (e:H a=some (.dT kvs)):TyOf K H (.ref a) (.type "dict")
 |ins {a C dx:Addr} {fs:List (Str×V)} (e:H a=some (.ins C dx fs)) (cl:Cls K C) (ha:PySem.W.findIn K (.ref C) "__class__" = some (some (.builtin "object.__class__")))
   (hn:PySem.W.specialIn K (.builtin "object.__class__") "__get__" = some (some (.builtin "getset_descriptor.__get__"))) (htk:PySem.W.takesIn K (.builtin "object.__class__")=some true)
   (hm:PySem.W.mroIn K C (.type "object")=some true):TyOf K H (.ref a) (.ref C)
theorem OK{x:V}{u t:Value}(I:Inv X pins σ H s)(rx:RelV x u)(ty:TyOf X.K H x t)(e:PySem.W.kitOne X.K t c=some b)(h:∀tk,Q (.bool b) {s with toks:=tk}) :
  wpAny (model X.prog X.w) A (call (.builtin "isinstance") [u,c]) Q E s:=by
 cases ty with
 |non=>cases (show u=Value.none from rx);exact PySem.W.kia_one PySem.W.kitx_none I.kIn True.intro e (fun z=>nomatch z) h
 |bl y=>cases (show u=Value.bool y from rx);exact PySem.W.kia_one PySem.W.kitx_bool I.kIn True.intro e (fun z=>nomatch z) h
 |int i=>obtain⟨t,q⟩:=(show ∃t,u=Value.int i t from rx);cases q;exact PySem.W.kia_one PySem.W.kitx_int I.kIn True.intro e (fun z=>nomatch z) h
 |str y=>obtain⟨t,q⟩:=(show ∃t,u=Value.str y t from rx);cases q;exact PySem.W.kia_one PySem.W.kitx_str I.kIn True.intro e (fun z=>nomatch z) h
 |flt y=>obtain⟨t,q⟩:=(show ∃t,u=Value.float y t from rx);cases q;exact PySem.W.kia_one PySem.W.kitx_float I.kIn True.intro e (fun z=>nomatch z) h
 |@lst a xs ea=>
  cases (show u=Value.ref a from rx)
  obtain⟨_,_,n,_,h1⟩:=(show ObjOk X.prog X.w H s.heap a (.lst xs) from I.hok a _ ea)
  exact PySem.W.kia_one PySem.W.kitx_list I.kIn ⟨_,h1,rfl⟩ e (fun z=>nomatch z) h
 |@frz a ob xs ea=>
  cases (show u=Value.ref a from rx)
  obtain⟨_,_,_,n,_,h1⟩:=(show ObjOk X.prog X.w H s.heap a (.frz ob (.lst xs)) from I.hok a _ ea)
  exact PySem.W.kia_one PySem.W.kitx_list I.kIn ⟨_,h1,rfl⟩ e (fun z=>nomatch z) h
 |@tup a xs ea=>
  cases (show u=Value.ref a from rx)
  obtain⟨_,_,_,p⟩:=(show ObjOk X.prog X.w H s.heap a (.tup xs) from I.hok a _ ea)
  obtain⟨o,h1,h2,_⟩:=p
  exact PySem.W.kia_one PySem.W.kitx_tuple I.kIn ⟨o,h1,h2⟩ e (fun z=>nomatch z) h
 |@dK a kvs ea=>
  cases (show u=Value.ref a from rx)
  obtain⟨_,_,vs,_,p⟩:=(show ObjOk X.prog X.w H s.heap a (.dK kvs) from I.hok a _ ea)
  obtain⟨o,es,ep,h1,h2,_⟩:=p
  exact PySem.W.kia_one PySem.W.kitx_dict I.kIn ⟨o,h1,h2.1⟩ e (fun z=>nomatch z) h
 |@dT a kvs ea=>
  cases (show u=Value.ref a from rx)
  obtain⟨_,_,xs,_,o,es,ep,h1,h2,_⟩:=(show ObjOk X.prog X.w H s.heap a (.dT kvs) from I.hok a _ ea)
  exact PySem.W.kia_one PySem.W.kitx_dict I.kIn ⟨o,h1,h2.1⟩ e (fun z=>nomatch z) h
 |@ins a C dx fs ea cl ha hn htk hm=>
  cases (show u=Value.ref a from rx)
  obtain⟨mA,O,_⟩:=MC I.hok ea
  obtain⟨od,J,_⟩:=O.look
  exact PySem.W.kia_one (PySem.W.kitx_own (cl.get _) cl.hd ha hn htk hm) I.kIn J e (fun z=>nomatch z) h
end
structure Room(k:Nat)(A:Around):Prop where
 hd:A.handled=none
 dp:A.depth+3*k+5<recursionLimit
 un:A.units+16*k+200<cLine
theorem Room.mono{j k:Nat}{A:Around}(r:Room k A)(h:j<=k):Room j A:=⟨r.hd,by have:=r.dp;omega,by have:=r.un;omega⟩
theorem Room.deeper{k:Nat}{A:Around}(r:Room (k+1) A)(env:Env):Room k (A.deeper env) :=
 ⟨r.hd,by have:=r.dp;show A.depth+1+3*k+5<_;omega,by have:=r.un;show A.units+3+16*k+200<_;omega⟩
theorem Room.depth{k:Nat}{A:Around}(r:Room k A):A.depth<recursionLimit:=by have:=r.dp;omega
theorem Room.units{k:Nat}{A:Around}(r:Room k A):A.units+64<cLine:=by have:=r.un;omega
abbrev U9:TA:=fun _ H Q=>Q [] H
abbrev RH(ta:TE)(tr:TA):TA:=fun σ H Q=>ta σ H fun x H1=>tr σ H1 fun xs H2=>Q (x::xs) H2
section
variable{X:Cx}{e:Expr}{es:List Expr}{te:TE}{t:TA}{pos:Pos}
theorem AW:PA X [] U9:=fun _ _ _ _ H Q I h=>Calls.spliced_nil ⟨[],H,I,.nil,h⟩
theorem Ar(ha:PE X e te)(hr:PA X es t)(hs:starEach (e::es) X.env=(false,eval e X.env)::starEach es X.env:=by rfl):PA X (e::es) (RH te t):=by
 intro pos pins s σ H Q I h
 rw[hs]
 show wpAny _ _ (spliced ((false,eval e X.env)::backTo pos (starEach es X.env))) _ _ s
 refine Calls.spliced_cons (thn (ha pins s σ H _ I h) fun u s1 ⟨x,H1,I1,r1,q1⟩=>?_)
 exact thn (hr pos pins s1 σ H1 _ I1 q1) fun us s2 ⟨xs,H2,I2,r2,q2⟩=>⟨x::xs,H2,I2,.cons r1 r2,q2⟩
abbrev Va(t:TA):TE:=fun σ H Q=>t σ H fun xs H1=>xs.length<=sizeLine/\∀p,H1 p=none->Q (.ref p) (upd H1 p (.tup xs))
abbrev XO(t:TA):TE:=fun σ H Q=>t σ H fun xs H1=>xs.length<=sizeLine/\∀p,H1 p=none->Q (.ref p) (upd H1 p (.lst xs))
theorem KD{x1}(h:PA X es t):PE X (.Tuple es x1 pos) (Va t):=by
 intro pins s σ H Q I hq
 refine wpAny_Tuple_spliced (thn (h pos pins s σ H _ I hq) fun us s1 ⟨xs,H1,I1,r,z,q⟩=>⟨by rw[<- r.length];exact z,?_⟩)
 have hf:H1 s1.heap.objs.size=none:=I1.hok.fresh (aai _)
 refine⟨.ref s1.heap.objs.size,upd H1 s1.heap.objs.size (.tup xs),I1.laid (t':=s1.toks) (fun b u e=>Heap.get?_push_of_some _ e) (aai _) ?_,rfl,q _ hf⟩
 exact⟨z,us,r,⟨_,Heap.get?_push_size _ rfl,rfl,_,rfl⟩⟩
theorem KG(h:PA X es t):PE X (.List es pos) (XO t):=by
 intro pins s σ H Q I hq
 refine wpAny_List_spliced (thn (h pos pins s σ H _ I hq) fun us s1 ⟨xs,H1,I1,r,z,q⟩=>⟨by rw[<- r.length];exact z,?_⟩)
 have hf:H1 s1.heap.objs.size=none:=I1.hok.fresh (aai _)
 refine⟨.ref s1.heap.objs.size,upd H1 s1.heap.objs.size (.lst xs),I1.laid (t':=s1.toks) (fun b u e=>Heap.get?_push_of_some _ e) (aai _) ?_,rfl,q _ hf⟩
 exact⟨z,us,0,r,Heap.get?_push_size _ rfl⟩
end
@[reducible]noncomputable def Sp:=List V->Hp->VK->XK->Prop
@[reducible]noncomputable def CXT:=List Env->Hp->Shared->XK->Value->Shared->Prop
structure Env0(P:Program)(w:World)(K:PySem.W.Frag)(mg:Str->Option Value)(base:Heap)(A:Around)(outer:List Env)(s:Shared)(H:Hp):Prop where
 frames:A.frames=some outer
 mod:Mod K mg base
 bs:∀b o,base.get? b=some o->s.heap.get? b=some o/\H b=none
 bsz:base.objs.size<=s.heap.objs.size
 funs:s.heap.FunFrames base outer
 frf:∀b∈frs outer,H b=none
 hok:HOk P w H s.heap
 bare:AllBare s.gens
abbrev CE(outer:List Env)(P:Program)(w:World)(H:Hp)(s:Shared)(Q:VK)(u:Value)(s':Shared):Prop :=
 ∃v H',s'.os=s.os/\AllBare s'.gens/\Un (frs outer) [] H H' s.heap s'.heap/\HOk P w H' s'.heap/\RelV v u/\Q v H'
abbrev CR(CX:CXT)(outer:List Env)(P:Program)(w:World)(H:Hp)(s:Shared)(Q:VK)(E:XK)(r:Result)(s':Shared):Prop :=
 match r with
 |.ok (.ret u)=>CE outer P w H s Q u s'
 |.ok _=>False
 |.error e=>CX outer H s E e s'
structure FnOk(P:Program)(w:World)(K:PySem.W.Frag)(mg:Str->Option Value)(base:Heap)(CX:CXT)(k:Nat)(f:Addr)(fd:FuncData)(ps:List Str)(sp:Sp):Prop where
 len:∀vs H Q E,sp vs H Q E->vs.length=ps.length
 run:∀(A:Around)(outer:List Env)(s:Shared)(H:Hp)(args:Args)(us:List Value)(vs:List V)(Q:VK)(E:XK),Room k A->Env0 P w K mg base A outer s H->BindsTo s fd args (ps.zip us)->Vals vs us->sp vs H Q E->
  codeAny (model P w) A (.call (.ref f) args) (CR CX outer P w H s Q E) s
theorem FnOk.imp{P:Program}{w:World}{K:PySem.W.Frag}{mg:Str->Option Value}{base:Heap}{CX:CXT}{k:Nat}{f:Addr}{fd:FuncData}{ps:List Str}{sp sp':Sp}(F:FnOk P w K mg base CX k f fd ps sp)
  (h:∀vs H Q E,sp' vs H Q E->sp vs H Q E):FnOk P w K mg base CX k f fd ps sp' :=
 ⟨fun vs H Q E q=>F.len vs H Q E (h _ _ _ _ q),fun A outer s H args us vs Q E hr he hb hv hs=>F.run A outer s H args us vs Q E hr he hb hv (h _ _ _ _ hs)⟩
section
variable{X:Cx}{pins:List (Addr×Obj)}{σ:St}{H:Hp}{s s':Shared}
theorem Inv.env0(I:Inv X pins σ H s):Env0 X.prog X.w X.K X.mg X.base X.A X.stack s H :=
 ⟨I.ok.frames,I.ok.mod,I.bs,aao I.ok.bsz I.sz,I.stack,I.stkFree,I.hok,I.bare⟩
theorem Inv.after{Q:VK}{u:Value}(I:Inv X pins σ H s)(h:CE X.stack X.prog X.w H s Q u s'):EP X pins σ Q u s':=by
 obtain⟨v,H',os,bare,un,hok,r,q⟩:=h
 obtain⟨hh,g,d,t,os'⟩:=s'
 obtain rfl:os'=s.os:=os
 exact⟨v,H',I.call (h':=hh) (g':=g) (d':=d) (t':=t) (ch:=[]) un hok bare (fun b z=>absurd z (by simp)),r,q⟩
end
abbrev Binds(K:PySem.W.Frag)(fd:FuncData)(ps:List Str)(ds:List Value):Prop :=
 ∀(s:Shared)(us:List Value),K.In s.heap->(us++ds).length=ps.length->BindsTo s fd ⟨us,[]⟩ (ps.zip (us++ds))
theorem Binds.all{K:PySem.W.Frag}{fd:FuncData}{ps:List Str}(h:∀us:List Value,us.length=ps.length->bindArgs fd ⟨us,[]⟩=pure (ps.zip us)):Binds K fd ps []:=fun s us _ hl=>by
 rw[aaF]at hl ⊢
 exact .of_eq (h us hl)
abbrev Vb(CX:CXT)(X:Cx)(E:XK):Prop:=∀(pins:List (Addr×Obj))(σ:St)(H:Hp)(s:Shared)(e:Value)(s':Shared),Inv X pins σ H s->CX X.stack H s E e s'->X.xe e s'
structure FnScope(N P:List Str)(sc:Scope):Prop where
 kind:sc.kind=.function
 co:sc.isCoroutine=false
 gen:sc.isGenerator=false
 nd:N.Nodup
 pre:N.take P.length=P
 par:∀x∈P,sc.names.lookup x=some .local\/sc.names.lookup x=some .cell
 nofree:∀y∈sc.names,y.2≠.free
theorem JS{kindOf:Str->Option NameKind}{x:Str}:∀{binds:List (Str×Value)}{m:Str->Option Value},(∀v,(x,v)∉binds)->bindL kindOf binds m x=m x
 |[],_,_=>rfl
 | (n,v)::r,m,h=>by
  unfold bindL
  rw[JS fun w hw=>h w (aaa _ hw)]
  split
  ·have:x≠n:=by rintro rfl;exact h v aac
   simp[this]
  ·rfl
theorem JT{kindOf:Str->Option NameKind}{x:Str}:∀{binds:List (Str×Value)}{m:Str->Option Value},(∀v,(x,v)∉binds)->bindC kindOf binds m x=m x
 |[],_,_=>rfl
 | (n,v)::r,m,h=>by
  unfold bindC
  rw[JT fun w hw=>h w (aaa _ hw)]
  split
  ·rfl
  ·have:x≠n:=by rintro rfl;exact h v aac
   simp[this]
theorem JU{kindOf:Str->Option NameKind}{x:Str}{v:Value}:∀{P:List Str}{vs:List Value}{i:Nat}{m:Str->Option Value},P.Nodup->P[i]?=some x->vs[i]?=some v->kindOf x=some .local->
  bindL kindOf (P.zip vs) m x=some v
 |[],_,_,_,_,h,_,_=>by simp at h
 |_::_,[],_,_,_,_,h,_=>by simp at h
 |p::P,w::vs,0,m,nd,h1,h2,hk=>by
  simp at h1 h2;subst h1;subst h2
  show bindL kindOf ((p,w)::P.zip vs) m p=_
  unfold bindL
  rw[JS fun v hv=>(aaG.mp nd).1 (acL hv).1,if_pos hk]
  simp
 |p::P,w::vs,i+1,m,nd,h1,h2,hk=>by
  show bindL kindOf ((p,w)::P.zip vs) m x=_
  unfold bindL
  exact JU (i:=i) (aaG.mp nd).2 (by simpa using h1) (by simpa using h2) hk
theorem JV{kindOf:Str->Option NameKind}{x:Str}{v:Value}:∀{P:List Str}{vs:List Value}{i:Nat}{m:Str->Option Value},P.Nodup->P[i]?=some x->vs[i]?=some v->kindOf x≠some .local->
  bindC kindOf (P.zip vs) m x=some v
 |[],_,_,_,_,h,_,_=>by simp at h
 |_::_,[],_,_,_,_,h,_=>by simp at h
 |p::P,w::vs,0,m,nd,h1,h2,hk=>by
  simp at h1 h2;subst h1;subst h2
  show bindC kindOf ((p,w)::P.zip vs) m p=_
  unfold bindC
  rw[JT fun v hv=>(aaG.mp nd).1 (acL hv).1,if_neg hk]
  simp
 |p::P,w::vs,i+1,m,nd,h1,h2,hk=>by
  show bindC kindOf ((p,w)::P.zip vs) m x=_
  unfold bindC
  exact JV (i:=i) (aaG.mp nd).2 (by simpa using h1) (by simpa using h2) hk
abbrev AS(N:List Str)(vs:List V):St:=vs.map some++aam (N.length-vs.length) none
abbrev AM(CX:CXT)(P:Program)(w:World)(K:PySem.W.Frag)(mg:Str->Option Value)(base:Heap)(N:List Str)(qual:Str)(scope:Scope)(f:Addr)(cd:Value)(A:Around)(outer:List Env)(s:Shared)(H:Hp)(E:XK):Cx where
 prog:=P
 w:=w
 K:=K
 mg:=mg
 base:=base
 A:=A.deeper (envOfC qual scope s.heap.objs.size f cd)
 N:=N
 s₀:=s
 H₀:=H
 env:=envOfC qual scope s.heap.objs.size f cd
 outer:=outer
 stack:=envOfC qual scope s.heap.objs.size f cd::outer
 ex:=[]
 calm:=true
 fn:=fun _=>true
 pn:=[]
 xe:=fun e s'=>wpAny (model P w) (A.deeper (envOfC qual scope s.heap.objs.size f cd)) (leaving (envOfC qual scope s.heap.objs.size f cd) e) (fun _ s''=>CX outer H s E e s'') (fun e' s''=>CX outer H s E e' s'') s'
theorem KH{sc:Scope}{n:Nat}{x:Str}(h:sc.names.lookup x=some .cell):∃c,(cellsFrom n sc.names []).lookup x=some c:=by
 have q:=PySem.W.cellsFrom_some sc.names n [] (.inl h)
 exact aaN.mp q
theorem OL{CX:CXT}{P:Program}{w:World}{K:PySem.W.Frag}{mg:Str->Option Value}{base:Heap}{N ps:List Str}{qual:Str}{scope:Scope}{f:Addr}{cd:Value}{A:Around}{outer:List Env}{s s1:Shared}{H:Hp}{E:XK}{us:List Value}{vs:List V}
  (S:FnScope N ps scope) (hd:A.handled=none) (e0:Env0 P w K mg base A outer s H) (hl:vs.length=ps.length) (r:Vals vs us)
  (x:InCallC s s.heap.objs.size (bindL (envOfC qual scope s.heap.objs.size f cd).kindOf (ps.zip us) fun _=>none) (cellsFrom (s.heap.objs.size+1) scope.names []) (bindC (envOfC qual scope s.heap.objs.size f cd).kindOf (ps.zip us) fun _=>none) s1) :
  Inv (AM CX P w K mg base N qual scope f cd A outer s H E) [] (AS N vs) H s1:=by
 have hpl:ps.length<=N.length:=by have:=congrArg aa1 S.pre;rw[abV]at this;omega
 obtain⟨h1,tk,rfl,hk⟩:=x.done
 have noA:∀b:Addr,b∉(AM CX P w K mg base N qual scope f cd A outer s H E).ex:=fun b z=>absurd (show b∈([]:List Addr) from z) (by simp)
 refine⟨⟨e0.mod,S.kind,rfl,rfl,aai _,fun y z c h1 h2=>?_,fun y hy=>?_,fun y c _ h=>?_,fun _=>hd,Around.frames_deeper e0.frames,.inr ⟨rfl,rfl⟩,fun b z=>absurd z (noA b),e0.bs,e0.bsz,fun b _ _=>noA b,fun b z=>absurd z (noA b),e0.funs,e0.frf⟩,
  rfl,e0.bare,Un.kept hk,⟨_,x.toInCall.ns,fun i y v h1 h2 h3=>?_⟩,fun y c h=>⟨_,x.cell y c h⟩,e0.hok.fresh (aai _),fun y c h=>?_,fun p hp=>absurd (show p∈([]:List (Addr×Obj)) from hp) (by simp),e0.hok.kept hk,?_⟩
 ·exact name_of_addr x.apart (PySem.mem_of_lookup h1) (PySem.mem_of_lookup h2)
 ·have hy:scope.names.lookup y=some .cell\/scope.names.lookup y=some .free:=hy
  rcases hy with hy|hy
  ·exact KH hy
  ·exact absurd rfl (S.nofree _ (PySem.mem_of_lookup hy))
 ·exact aap (x.above y c (PySem.mem_of_lookup h))
 ·have hi:i<vs.length:=by
   unfold AS at h2
   by_cases hi:i<vs.length
   ·exact hi
   ·rw[aaT (by simpa using hi)]at h2
    rw[aa8]at h2
    split at h2<;>cases h2
  have ha:vs[i]?=some v:=by
   unfold AS at h2
   rw[aa0 (by simpa using hi),aal]at h2
   cases e:vs[i]? with
   |none=>rw[e]at h2;cases h2
   |some a=>rw[e]at h2;cases h2;rfl
  obtain⟨u,hu,rv⟩:=r.get ha
  have hp:ps[i]?=some y:=by
   rw[<- S.pre,List.getElem?_take_of_lt (by omega)];exact h1
  have ndP:ps.Nodup:=by rw[<- S.pre];exact S.nd.sublist (List.take_sublist _ _)
  refine⟨u,rv,?_⟩
  rcases S.par y (aaj hp) with k|k
  ·exact .inl ⟨k,JU ndP hp hu k⟩
  ·obtain⟨c,e⟩:=KH (n:=s.heap.objs.size+1) k
   refine .inr ⟨.inl k,c,e,?_⟩
   have q:=x.cell y c e
   rw[JV ndP hp hu (by show scope.names.lookup y≠_;rw[k];decide)]at q
   exact q
 ·exact e0.hok.fresh (aap (x.above y c (PySem.mem_of_lookup h)))
 ·unfold AS
  show _=N.length
  rw[aaH,aab,aby]
  omega
theorem WN{CX:CXT}{P:Program}{w:World}{K:PySem.W.Frag}{mg:Str->Option Value}{base:Heap}{k:Nat}{f:Addr}{name qual:Str}{params:Arguments}{body:List Stmt}{scope:Scope}{dV kV doc pm cdv ct oc:Value}{an od:Option Addr}
  {osl:Array (Option Value)} {N ps:List Str} {sp:Sp} (lk:K.lookup f=some ⟨oc,od,.func (PySem.W.fnOf name qual params body scope dV kV doc pm an cdv ct),osl⟩) (hcd:PySem.W.codeIn K cdv qual=true) (S:FnScope N ps scope)
  (len:∀vs H Q E,sp vs H Q E->vs.length=ps.length)
  (hbody:∀(A:Around)(outer:List Env)(s:Shared)(H:Hp)(vs:List V)(Q:VK)(E:XK),Room k (A.deeper (envOfC qual scope s.heap.objs.size f cdv))->sp vs H Q E->
   ∃t,PSs (AM CX P w K mg base N qual scope f cdv A outer s H E) body t/\t {nx:=fun _ H'=>Q .non H',rt:=Q} (AS N vs) H) :
  FnOk P w K mg base CX (k+1) f (PySem.W.fnOf name qual params body scope dV kV doc pm an cdv ct) ps sp:=by
 refine⟨len,fun A outer s H args us vs Q E hr e0 hb r hsp=>?_⟩
 have hl:=len _ _ _ _ hsp
 have KX:K.In s.heap:=e0.mod.kin.keeps fun b o e=>(e0.bs b o e).1
 have lim:s.heap.NoLimit:=e0.mod.nolimit.keeps fun b o e=>(e0.bs b o e).1
 have hkind:∀y∈ps.zip us,scope.names.lookup y.1=some .local\/(scope.names.lookup y.1=some .cell/\((cellsFrom (s.heap.objs.size+1) scope.names []).lookup y.1).isSome=true):=fun⟨n,v⟩ hy=>by
  rcases S.par n (acL hy).1 with q|q
  ·exact .inl q
  ·exact .inr ⟨q,PySem.W.cellsFrom_some _ _ _ (.inl q)⟩
 refine codeAny_call_function hr.depth (KX _ _ lk) rfl S.co S.gen rfl (PySem.W.codeRec_of KX hcd) (hb _ _ _ _ ?_)
 refine wpAny_newFunctionEnv_cells S.kind hkind fun env he s1 x=>?_
 subst he
 refine⟨lim.keeps x.toInCall.keep,codeAny_func ?_⟩
 obtain⟨t,ht,hq⟩:=hbody A outer s H vs Q E (hr.deeper _) hsp
 have I:Inv (AM CX P w K mg base N qual scope f cdv A outer s H E) [] (AS N vs) H s1:=OL S hr.hd e0 hl r x
 refine wpAny_mono (ht [] s1 (AS N vs) H _ I hq) (fun fl s' hs=>?_) fun e s' hs=>hs
 have fin:∀{σ':St}{H':Hp}{v:V}{u:Value},Inv (AM CX P w K mg base N qual scope f cdv A outer s H E) [] σ' H' s'->RelV v u->Q v H'->CE outer P w H s Q u s' :=
  fun {σ' H' v u} J rv q=>⟨v,H',J.os,J.bare,J.base,J.hok,rv,q⟩
 cases fl with
 |ret u=>
  obtain⟨v,σ',H',J,rv,q⟩:=hs
  exact fin J rv q
 |next=>
  obtain⟨σ',H',J,q⟩:=hs
  exact fin (v:=V.non) (u:=Value.none) J rfl q
 |brk=>
  obtain⟨_,_,_,q⟩:=hs
  exact False.elim q
 |cont=>
  obtain⟨_,_,_,q⟩:=hs
  exact False.elim q
section
variable{X:Cx}{x:Str}{p pos:Pos}{e:Expr}{es:List Expr}{t:TA}{id T:String}{r:List V->Hp->VK->Prop}
abbrev tCB(r:List V->Hp->VK->Prop)(t:TA):TE:=fun σ H Q=>t σ H fun vs H1=>r vs H1 Q
theorem D0(hc:Eg X (.builtin id) r)(hg:Gl X x)(hm:X.mg x=none)(hv:bootBuiltins x=some (.builtin id))(ha:PA X (e::es) t)(hn:x≠"__name__":=by decide)(hdb:(x==("__debug__" : Str))=false:=by decide)
  (he:starEach (e::es) X.env=(false,eval e X.env)::starEach es X.env:=by rfl) (hpl:(backTo pos (starEach es X.env)).any (·.1)=false:=by rfl):PE X (.Call (.Name x p) (e::es) [] pos) (tCB r t):=by
 intro pins s σ H Q I h
 refine wpAny_Call_Name_kw (Bu I hg hm hv ?_ hn hdb)
 exact PyProof.Rows.callWith_builtin1 (thn (ha pos pins s σ H _ I h) fun us s1 ⟨vs,H1,I1,r1,q1⟩=>hc pins s1 σ H1 vs us Q I1 r1 q1) he hpl
theorem Gy(hc:Eg X (.type T) r)(hg:Gl X x)(hm:X.mg x=none)(hv:bootBuiltins x=some (.type T))(ha:PA X (e::es) t)(hn:x≠"__name__":=by decide)(hdb:(x==("__debug__" : Str))=false:=by decide)
  (he:starEach (e::es) X.env=(false,eval e X.env)::starEach es X.env:=by rfl) (hpl:(backTo pos (starEach es X.env)).any (·.1)=false:=by rfl):PE X (.Call (.Name x p) (e::es) [] pos) (tCB r t):=by
 intro pins s σ H Q I h
 refine wpAny_Call_Name_kw (Bu I hg hm hv ?_ hn hdb)
 exact PyProof.Rows.callWith_type1 (thn (ha pos pins s σ H _ I h) fun us s1 ⟨vs,H1,I1,r1,q1⟩=>hc pins s1 σ H1 vs us Q I1 r1 q1) he hpl
end
end L2
namespace HT
open PySem PyProof.Rows
section
variable{prog:Program}{w:World}{A:Around}{E:Value->Shared->Prop}{s:Shared}
abbrev sIx(n d:Nat):Option Int->Nat
 |none=>d
 |some v=>if v<0 then(v+(n:Int)).toNat else min v.toNat n
theorem Vc(n d:Nat)(hd:d<=n)(o:Option Int):sIx n d o<=n:=by
 cases o with
 |none=>exact hd
 |some v=>
  show(if v<0 then(v+(n:Int)).toNat else min v.toNat n)<=n
  by_cases hv:v<0
  ·rw[if_pos hv];omega
  ·rw[if_neg hv];exact aa3 _ _
theorem clip_eq(v:Int)(n d:Nat):(if v<0 then max (v+(n:Int)) 0 else min v (n:Int))=((sIx n d (some v):Nat):Int):=by
 show(if v<0 then max (v+(n:Int)) 0 else min v (n:Int))=(((if v<0 then(v+(n:Int)).toNat else min v.toNat n):Nat):Int)
 by_cases hv:v<0
 ·simp only[if_pos hv];omega
 ·simp only[if_neg hv];omega
theorem Nx(lo hi:Option Int)(n:Nat):Builtin.Slice.sliceAdjust lo hi 1 (n:Int)=(((sIx n 0 lo:Nat):Int),((sIx n n hi:Nat):Int)):=by
 have h1:¬((1:Int)<0):=by omega
 unfold Builtin.Slice.sliceAdjust
 simp only[h1,if_false]
 refine Prod.ext ?_ ?_
 ·cases lo with
  |none=>rfl
  |some v=>exact clip_eq v n 0
 ·cases hi with
  |none=>rfl
  |some v=>exact clip_eq v n n
theorem Ny(i j:Nat):Builtin.Slice.slicePlaces (i:Int) (j:Int) 1=j-i:=by
 unfold Builtin.Slice.slicePlaces
 have h1:(1:Int)>0:=by omega
 simp only[h1,if_true,Int.ediv_one]
 split<;>omega
theorem Iv{v:Value}{o:Option Int}{Q:Option Int->Shared->Prop}(p:IsPart v o)(h:Q o s):wpAny (model prog w) A (Builtin.Slice.slicePartIndex v) Q E s:=by
 cases p with
 |none=>exact slicePart_none h
 |int i t=>exact slicePart_int h
theorem HJ{sl:Addr}{vl vu:Value}{lo hi:Option Int}{n:Nat}{Q:Int×Int×Nat->Shared->Prop}(hs:s.heap.IsSliceOf sl vl vu .none)(pl:IsPart vl lo)(pu:IsPart vu hi)
  (h:Q (((sIx n 0 lo:Nat):Int),1,sIx n n hi-sIx n 0 lo) s):wpAny (model prog w) A (Builtin.Slice.sliceApplied (.ref sl) (pure (n:Int))) Q E s:=by
 obtain⟨os,hos,hcs,hds⟩:=id hs
 unfold Builtin.Slice.sliceApplied Builtin.Slice.sliceFields
 refine wpAny_bind (wpAny_bind (wpAny_field hos hds (x:=vl) rfl (wpAny_bind (wpAny_field hos hds (x:=vu) rfl (wpAny_bind (wpAny_field hos hds (x:=.none) rfl (wpAny_pure ?_)))))))
 refine wpAny_bind (slicePart_none ?_)
 show wpAny _ _ (if((1:Int)==0)=true then _ else _) _ _ s
 rw[if_neg (by decide)]
 refine wpAny_bind (Iv pl (wpAny_bind (Iv pu (wpAny_bind (wpAny_pure ?_)))))
 show wpAny _ _ (match Builtin.Slice.sliceAdjust lo hi 1 (n:Int) with|(lo,hi)=>pure (lo,(1:Int),Builtin.Slice.slicePlaces lo hi 1)) _ _ s
 rw[Nx lo hi n]
 show wpAny _ _ (pure (((sIx n 0 lo:Nat):Int),(1:Int),Builtin.Slice.slicePlaces ((sIx n 0 lo:Nat):Int) ((sIx n n hi:Nat):Int) 1)) _ _ s
 rw[Ny]
 exact wpAny_pure h
theorem Qn(xs:Array Value)(i k:Nat):((aan k).filterMap fun(m:Nat)=>xs[((i:Int)+(m:Int)*1).toNat]?).toArray=((xs.toList.drop i).take k).toArray:=by
 have e:(fun(m:Nat)=>xs[((i:Int)+(m:Int)*1).toNat]?)=fun m=>xs[i+m]?:=by
  funext m
  have:((i:Int)+(m:Int)*1).toNat=i+m:=by omega
  rw[this]
 rw[e]
 have:=pick_run xs i k
 rw[List.filterMap_map]at this
 have e2:((fun x=>xs[x]?) ∘ fun x=>i+x)=fun m=>xs[i+m]?:=rfl
 rw[e2]at this
 rw[this]
theorem getItem_tuple_cut{t sl:Addr}{items:Array Value}{vl vu:Value}{lo hi:Option Int}{Q:Value->Shared->Prop}(ht:IsTup s.heap t items)(hs:s.heap.IsSliceOf sl vl vu .none)(pl:IsPart vl lo)(pu:IsPart vu hi)
  (hw:¬(sIx items.size 0 lo=0/\sIx items.size items.size hi=items.size))
  (h:Q (.ref s.heap.objs.size) {s with heap:=s.heap.push {cls:=.type "tuple",data:=.seq ((items.toList.drop (sIx items.size 0 lo)).take (sIx items.size items.size hi-sIx items.size 0 lo)).toArray}})
  (hsz:items.size<=sizeLine):wpAny (model prog w) A (getItem (.ref t) (.ref sl)) Q E s:=by
 have htake:sizeOk (.seq ((items.toList.drop (sIx items.size 0 lo)).take (sIx items.size items.size hi-sIx items.size 0 lo)).toArray):=by
  show((items.toList.drop (sIx items.size 0 lo)).take (sIx items.size items.size hi-sIx items.size 0 lo)).toArray.size<=sizeLine
  rw[aar,abV,acE,Array.length_toList]
  omega
 have hj:sIx items.size items.size hi<=items.size:=Vc _ _ (aai _) hi
 obtain⟨os,hos,hcs,hds⟩:=id hs
 have hTs:s.TypeIs (.ref sl) "slice":=⟨os,hos,hcs⟩
 unfold getItem
 try with_reducible refine wpAny_holding ?_
 first|refine wpAny_bind (wpAny_pure ?_)|skip
 refine wpAny_bind (wpAny_sequenceKey ht.typeIs (by decide) ?_)
 refine wpAny_bind (wpAny_callSpecial?_slot (name:=Str.ofString "__getitem__") ht.typeIs PyProof.Rows.slot_tuple_getitem
  (wpAny_call_entry PyProof.Rows.slot_tuple_getitem ht.typeIs entry_tuple_getitem ?_ (args_tuple_getitem _ _)))
 show wpAny _ _ (Builtin.Tuple.tupleItemsOf (.ref t) >>= _) _ _ s
 refine wpAny_bind (tupleItemsOf_ ht ?_)
 refine wpAny_bind (wpAny_typeOf hTs ?_)
 rw[if_pos (by decide)]
 refine wpAny_bind (HJ hs pl pu ?_)
 have hno:¬((((sIx items.size 0 lo:Nat):Int)==0&&(1:Int)==1&&(sIx items.size items.size hi-sIx items.size 0 lo)==items.size)=true):=by
  intro q
  rw[aaf,aaf]at q
  have q1:((sIx items.size 0 lo:Nat):Int)=0:=eq_of_beq q.1.1
  have q2:sIx items.size items.size hi-sIx items.size 0 lo=items.size:=eq_of_beq q.2
  exact hw ⟨by omega,by omega⟩
 show wpAny _ _ (if(((sIx items.size 0 lo:Nat):Int)==0&&(1:Int)==1&&(sIx items.size items.size hi-sIx items.size 0 lo)==items.size)=true then _ else _) _ _ s
 rw[if_neg hno,Qn]
 first
  |exact wpAny_bind (m:=Builtin.Tuple.tupleExact _) (wpAny_newObj_type (wpAny_pure ⟨_,rfl,wpAny_pure h⟩) htake)
  |exact wpAny_bind (m:=Builtin.Tuple.tupleExact _) (wpAny_newObj_type (wpAny_bind (wpAny_pure (wpAny_pure ⟨_,rfl,wpAny_pure h⟩))) htake)
  |exact wpAny_bind (wpAny_bind (m:=Builtin.Tuple.tupleExact _) (wpAny_newObj_type (wpAny_pure (wpAny_pure ⟨_,rfl,wpAny_pure h⟩)) htake))
  |exact wpAny_bind (wpAny_bind (m:=Builtin.Tuple.tupleExact _) (wpAny_newObj_type (wpAny_pure ⟨_,rfl,wpAny_pure h⟩) htake))
end
end HT
namespace L2
open PySem PySem.Spec PyProof.Rows
@[reducible]noncomputable def TO:=St->Hp->(Option Int->Hp->Prop)->Prop
abbrev PO(X:Cx)(e:Option Expr)(t:TO):Prop :=
 ∀(pins:List (Addr×Obj))(s:Shared)(σ:St)(H:Hp)(Q:Option Int->Hp->Prop),Inv X pins σ H s->t σ H Q->
  wpAny (model X.prog X.w) X.A (evalPart e X.env) (fun u s'=>∃o H',Inv X pins σ H' s'/\IsPart u o/\Q o H') X.xe s
abbrev Sl:TO:=fun _ H Q=>Q none H
abbrev WO(t:TE):TO:=fun σ H Q=>t σ H fun x H1=>∃i,x=.int i/\Q (some i) H1
theorem Nz{ns:List Int}:∀{us:List Value},Vals (ns.map V.int) us->IntsAre us ns:=by
 induction ns with
 |nil=>intro us r;rw[abb]at r;cases r;exact .nil
 |cons n ns ih=>
  intro us r
  rw[aaI]at r
  cases r with
  |cons r1 r2=>
   obtain⟨t,e⟩:=r1
   subst e
   exact .cons n t (ih r2)
section
variable{X:Cx}{e:Expr}{te:TE}{lo hi:Option Expr}{tl th:TO}{pos p2:Pos}
theorem Sm:PO X none Sl:=by
 intro pins s σ H Q I h
 rw[evalPart_none]
 exact wpAny_pure ⟨none,H,I,.none,h⟩
theorem Sn(h:PE X e te):PO X (some e) (WO te):=by
 intro pins s σ H Q I hw
 rw[evalPart_some]
 refine thn (h pins s σ H _ I hw) fun u s1 ⟨x,H1,I1,r1,q1⟩=>?_
 obtain⟨i,rfl,q⟩:=q1
 obtain⟨t,rfl⟩:=r1
 exact⟨some i,H1,I1,.int i t,q⟩
abbrev SlR(X:Cx)(r:V->Option Int->Option Int->Hp->VK->Prop):Prop :=
 ∀(pins:List (Addr×Obj))(s:Shared)(σ:St)(H:Hp)(x:V)(v vl vu:Value)(lo hi:Option Int)(sl:Addr)(Q:VK),Inv X pins σ H s->RelV x v->s.heap.IsSliceOf sl vl vu .none->IsPart vl lo->IsPart vu hi->r x lo hi H Q->
  ∃T id,typeLookup (.type T) "__getitem__" = pure (some (.builtin id))/\s.TypeIs v T/\wpAny (model X.prog X.w) X.A (getItem v (.ref sl)) (EP X pins σ Q) X.xe s
theorem SlR.or{r r':V->Option Int->Option Int->Hp->VK->Prop}(h:SlR X r)(h':SlR X r'):SlR X (fun x lo hi H Q=>r x lo hi H Q\/r' x lo hi H Q):=by
 intro pins s σ H x v vl vu lo hi sl Q I rx hs pl pu q
 rcases q with q|q
 ·exact h pins s σ H x v vl vu lo hi sl Q I rx hs pl pu q
 ·exact h' pins s σ H x v vl vu lo hi sl Q I rx hs pl pu q
abbrev tSl(r:V->Option Int->Option Int->Hp->VK->Prop)(te:TE)(tl th:TO):TE:=fun σ H Q=>te σ H fun x H1=>tl σ H1 fun l H2=>th σ H2 fun u H3=>r x l u H3 Q
theorem Qo{r:V->Option Int->Option Int->Hp->VK->Prop}(hr:SlR X r)(he:PE X e te)(hl:PO X lo tl)(hu:PO X hi th):PE X (.Subscript e (.Slice lo hi none p2) pos) (tSl r te tl th):=by
 intro pins s σ H Q I h
 refine Subscript_ (thn (he pins s σ H _ I h) fun v s1 ⟨x,H1,I1,r1,q1⟩=>?_)
 refine wpAny_Slice (thn (hl pins s1 σ H1 _ I1 q1) fun vl s2 ⟨l,H2,I2,pl,q2⟩=>thn (hu pins s2 σ H2 _ I2 q2) fun vu s3 ⟨u,H3,I3,pu,q3⟩=>?_)
 rw[evalPart_none]
 refine wpAny_pure ?_
 have I4:Inv X pins σ H3 {s3 with heap:=s3.heap.push {cls:=.type "slice",data:=.fields #[vl,vu,.none]}}:=I3.kept (t':=s3.toks) fun b ob q=>Heap.get?_push_of_some _ q
 obtain⟨T,id,hT,ht,hg⟩:=hr pins {s3 with heap:=s3.heap.push {cls:=.type "slice",data:=.fields #[vl,vu,.none]}} σ H3 x v vl vu l u s3.heap.objs.size Q I4 r1 (Heap.IsSliceOf.new ..) pl pu q3
 show wpAny (model X.prog X.w) X.A (subscriptTail e (.Slice lo hi none p2) v (.ref s3.heap.objs.size)) (EP X pins σ Q) X.xe {s3 with heap:=s3.heap.push {cls:=.type "slice",data:=.fields #[vl,vu,.none]}}
 exact tail_any (ops:=[.ref s3.heap.objs.size,v]) ht hT hg (by with_unfolding_all rfl)
abbrev Gz(xs:List V)(lo hi:Option Int):List V:=(xs.drop (HT.sIx xs.length 0 lo)).take (HT.sIx xs.length xs.length hi-HT.sIx xs.length 0 lo)
theorem HA(xs:List V)(lo hi:Option Int):(Gz xs lo hi).length<=xs.length:=by
 unfold Gz
 rw[abV,acE]
 omega
abbrev XQ(K:PySem.W.Frag):V->Option Int->Option Int->Hp->VK->Prop:=fun x lo hi H Q=>∃a xs,x=.ref a/\SqT K H a xs /\
 ¬(HT.sIx xs.length 0 lo=0/\HT.sIx xs.length xs.length hi=xs.length)/\∀p,H p=none->Q (.ref p) (upd H p (.tup (Gz xs lo hi)))
theorem Vd:SlR X (XQ X.K):=by
 intro pins s σ H x v vl vu lo hi sl Q I rx hs pl pu h
 obtain⟨a,xs,rfl,hx,hw,q⟩:=h
 cases rx
 obtain⟨its,r,ht,hz⟩:=I.tuple hx
 have hlen:its.toArray.size=xs.length:=by rw[aar];exact r.length.symm
 refine⟨"tuple",_,PyProof.Rows.slot_tuple_getitem.lookup,ht.typeIs,?_⟩
 refine HT.getItem_tuple_cut ht hs pl pu (by rw[hlen];exact hw) ?_ (by rw[hlen];exact hz)
 rw[hlen]
 refine⟨.ref s.heap.objs.size,_,I.laid (t':=s.toks) (o:=.tup (Gz xs lo hi)) (fun b ob q=>Heap.get?_push_of_some _ q) (aai _) ?_,rfl,q _ (I.hok.fresh (aai _))⟩
 exact⟨aao (HA xs lo hi) hz,_,(r.drop (HT.sIx xs.length 0 lo)).take (HT.sIx xs.length xs.length hi-HT.sIx xs.length 0 lo),IsTup.new _ _⟩
end
abbrev ixN(n:Nat)(i:Int):Option Nat:=if 0<=i then(if i<n then some i.toNat else none) else if -(n:Int)<=i then some (i+n).toNat else none
abbrev atI{α:Type}(xs:List α)(i:Int):Option α:=(ixN xs.length i).bind fun j=>xs[j]?
theorem MD{n:Nat}{i:Int}{j:Nat}(h:ixN n i=some j):seqIndex? i n=some j/\j<n/\-(n:Int)<=i/\i<n:=by
 unfold ixN at h
 by_cases h0:0<=i
 ·rw[if_pos h0]at h
  by_cases h1:i<n
  ·rw[if_pos h1]at h
   have e:i.toNat=j:=Option.some.inj h
   exact⟨by rw[seqIndex_of h0 h1,e],by omega,by omega,h1⟩
  ·rw[if_neg h1]at h;cases h
 ·rw[if_neg h0]at h
  by_cases h1:-(n:Int)<=i
  ·rw[if_pos h1]at h
   have e:(i+n).toNat=j:=Option.some.inj h
   exact⟨by rw[seqIndex_neg (by omega) h1,e],by omega,h1,by omega⟩
  ·rw[if_neg h1]at h;cases h
theorem ME{α:Type}{xs:List α}{i:Int}{v:α}(h:atI xs i=some v):∃j,seqIndex? i xs.length=some j/\xs[j]?=some v/\j<xs.length/\-(xs.length:Int)<=i/\i<xs.length:=by
 unfold atI at h
 cases e:ixN xs.length i with
 |none=>rw[e]at h;cases h
 |some j=>
  rw[e]at h
  obtain⟨h1,h2,h3,h4⟩:=MD e
  exact⟨j,h1,h,h2,h3,h4⟩
abbrev MF(b:Expr):Prop:=∀o i,subscripted b false o i=operate [o,i] (getItem o i)
abbrev IxR(X:Cx)(r:R2):Prop :=
 ∀(value slice:Expr)(pins:List (Addr×Obj))(s:Shared)(σ:St)(H:Hp)(x y:V)(v u:Value)(Q:VK),Inv X pins σ H s->RelV x v->RelV y u->r x y H Q->
  subscripted slice false v u=operate [v,u] (getItem v u)->wpAny (model X.prog X.w) X.A (subscriptTail value slice v u) (EP X pins σ Q) X.xe s
abbrev MtR(X:Cx)(id:String)(r:V->List V->Hp->VK->Prop):Prop :=
 ∀(pins:List (Addr×Obj))(s:Shared)(σ:St)(H:Hp)(x:V)(xs:List V)(v:Value)(us:List Value)(Q:VK),Inv X pins σ H s->RelV x v->Vals xs us->r x xs H Q->
  wpAny (model X.prog X.w) X.A (call (.builtin id) (v::us)) (EP X pins σ Q) X.xe s
section
variable{X:Cx}{a b:Expr}{ta tb:TE}{pos:Pos}
theorem IxR.or{r r':R2}(h:IxR X r)(h':IxR X r'):IxR X (fun x y H Q=>r x y H Q\/r' x y H Q):=by
 intro value slice pins s σ H x y v u Q I rx ry q hs
 rcases q with q|q
 ·exact h value slice pins s σ H x y v u Q I rx ry q hs
 ·exact h' value slice pins s σ H x y v u Q I rx ry q hs
theorem Iw{r:R2}(hr:IxR X r)(ha:PE X a ta)(hb:PE X b tb)(hs:MF b):PE X (.Subscript a b pos) (tOp r ta tb):=by
 intro pins s σ H Q I h
 exact Subscript_ (Qj ha hb I h fun v u s2 x y H2 I2 rx ry q=>hr a b pins s2 σ H2 x y v u Q I2 rx ry q (hs _ _))
abbrev Ve(K:PySem.W.Frag):R2:=fun x y H Q=>∃p xs i v,x=.ref p/\y=.int i/\SqL K H p xs/\atI xs i=some v/\Q v H
abbrev Vf(K:PySem.W.Frag):R2:=fun x y H Q=>∃p xs i v,x=.ref p/\y=.int i/\SqT K H p xs/\atI xs i=some v/\Q v H
theorem Jk:IxR X (Ve X.K):=by
 intro value slice pins s σ H x y v u Q I rx ry h hs
 obtain⟨p,xs,i,z,rfl,rfl,hq,he,q⟩:=h
 cases rx
 obtain⟨t,rfl⟩:=ry
 obtain⟨its,r,pl,hz⟩:=I.list hq
 obtain⟨j,h1,h2,h3,h4,h5⟩:=ME he
 obtain⟨w,ew,rw'⟩:=r.get h2
 have hl:=r.length
 have hn:=Gx
 have fin:EP X pins σ Q w s:=⟨z,H,I,rw',q⟩
 by_cases h0:0<=i
 ·have hj:i.toNat=j:=by
   rw[seqIndex_of h0 h5]at h1
   exact Option.some.inj h1
  exact item_listR pl.isList h0 (by omega) (by rw[hj];simpa using ew) fin hs
 ·have hj:(i+(its.toArray.size:Int)).toNat=j:=by
   rw[seqIndex_neg (by omega) h4]at h1
   rw[aar,<- hl]
   exact Option.some.inj h1
  exact subscriptTail_builtinR (x:=w) pl.isList.typeIs slot_list_getitem.lookup
   (wpAny_getItem_list_neg (Q:=fun r s'=>r=w/\EP X pins σ Q r s') pl.isList (by omega) (by rw[aar]<;>omega) (by omega) (by rw[hj];simpa using ew) ⟨rfl,fin⟩) hs
theorem Ix:IxR X (Vf X.K):=by
 intro value slice pins s σ H x y v u Q I rx ry h hs
 obtain⟨p,xs,i,z,rfl,rfl,hq,he,q⟩:=h
 cases rx
 obtain⟨t,rfl⟩:=ry
 obtain⟨its,r,pl,hz⟩:=I.tuple hq
 obtain⟨j,h1,h2,h3,h4,h5⟩:=ME he
 obtain⟨w,ew,rw'⟩:=r.get h2
 have hl:=r.length
 have hn:=Gx
 have fin:EP X pins σ Q w s:=⟨z,H,I,rw',q⟩
 exact subscriptTail_builtinR (x:=w) pl.typeIs slot_tuple_getitem.lookup
  (getItem_tuple (j:=j) (Q:=fun r s'=>r=w/\EP X pins σ Q r s') pl (by omega) (by omega) (by rw[aar,<- hl];exact h1) (by simpa using ew) ⟨rfl,fin⟩) hs
theorem NA(its:List Value)(n j:Nat)(u:Value):Obj.mapSeq (·.setIfInBounds j u) {cls:=.type "list",data:=.seq its.toArray n}={cls:=.type "list",data:=.seq (its.set j u).toArray n}:=by
 simp[Obj.mapSeq]
theorem Inv.lst{pins:List (Addr×Obj)}{σ:St}{H:Hp}{s:Shared}{p:Addr}{xs:List V}(I:Inv X pins σ H s)(h:H p=some (.lst xs)) :
  ∃(its:List Value)(n:Nat),Vals xs its/\s.heap.get? p=some {cls:=.type "list",data:=.seq its.toArray n}/\xs.length<=sizeLine:=by
 obtain⟨z,its,n,r,e⟩:=I.hok p _ h
 exact⟨its,n,r,e,z⟩
theorem Inv.lstUpd{pins:List (Addr×Obj)}{σ:St}{H:Hp}{s:Shared}{p:Addr}{xs ys:List V}{its its':List Value}{n n':Nat}{f:Obj->Obj}(I:Inv X pins σ H s)(h:H p=some (.lst xs))
  (ho:s.heap.get? p=some {cls:=.type "list",data:=.seq its.toArray n}) (hf:f {cls:=.type "list",data:=.seq its.toArray n}={cls:=.type "list",data:=.seq its'.toArray n'}) (r:Vals ys its') (hz:ys.length<=sizeLine) (t:Nat) :
  Inv X pins σ (upd H p (.lst ys)) {s with heap:=s.heap.update p f,toks:=t}:=by
 have e:(s.heap.update p f).get? p=some {cls:=.type "list",data:=.seq its'.toArray n'}:=by
  rw[Heap.get?_update_self f ho (by rw[hf]<;>rfl),hf]
 refine I.write (x:=p) (e:=p) (by rw[h];trivial) (.inl rfl) (fun b u hb q=>(Heap.get?_update_other _ _ (Ne.symm hb)).trans q) ⟨_,e⟩ ?_
 exact⟨hz,its',n',r,e⟩
abbrev RI:V->V->V->Hp->(Hp->Prop)->Prop:=fun o i v H Q=>∃p xs k j,o=.ref p/\i=.int k/\H p=some (.lst xs)/\ixN xs.length k=some j/\Q (upd H p (.lst (xs.set j v)))
theorem Qp:UT X RI:=by
 intro pins s σ H o i v ov iv u Q I ro ri rv h
 obtain⟨p,xs,k,j,rfl,rfl,hp,hj,q⟩:=h
 cases ro
 obtain⟨t,rfl⟩:=ri
 obtain⟨its,n,r,ho,hz⟩:=I.lst hp
 obtain⟨h1,h2,h3,h4⟩:=MD hj
 have hl:=r.length
 have hn:=Gx
 have I':Inv X pins σ (upd H p (.lst (xs.set j v))) {s with heap:=s.heap.update p (Obj.mapSeq (·.setIfInBounds j u))} :=
  I.lstUpd hp ho (NA its n j u) (r.set rv j) (by rw[aaM];exact hz) s.toks
 by_cases h0:0<=k
 ·have hk:k.toNat=j:=by
   rw[seqIndex_of h0 h4]at h1
   exact Option.some.inj h1
  exact PySem.W.ki_setAt ho h0 (by omega) (by rw[aar,<- hl];exact h4) (by rw[hk];exact⟨_,I',q⟩)
 ·have hk:(k+(its.toArray.size:Int)).toNat=j:=by
   rw[seqIndex_neg (by omega) h3]at h1
   rw[aar,<- hl]
   exact Option.some.inj h1
  exact PySem.W.ki_setBack ho (by omega) (by rw[aar,<- hl];exact h3) (by omega) (by rw[hk];exact⟨_,I',q⟩)
theorem KI(lo hi:Option Int)(n:Nat):(sliceBounds lo hi none n).1=((HT.sIx n 0 lo:Nat):Int)/\(sliceBounds lo hi none n).2.1=((HT.sIx n n hi:Nat):Int)/\(sliceBounds lo hi none n).2.2=1:=by
 refine⟨?_,?_,rfl⟩
 ·cases lo with
  |none=>simp[sliceBounds,HT.sIx]
  |some i=>
   simp only[sliceBounds,HT.sIx,adi,show(1:Int)>0 by decide,if_true]
   by_cases h:i<0
   ·simp only[h,if_true]<;>omega
   ·simp only[h,if_false]<;>omega
 ·cases hi with
  |none=>simp[sliceBounds,HT.sIx]
  |some i=>
   simp only[sliceBounds,HT.sIx,adi,show(1:Int)>0 by decide,if_true]
   by_cases h:i<0
   ·simp only[h,if_true]<;>omega
   ·simp only[h,if_false]<;>omega
theorem J8(its:List Value)(lo hi:Option Int):slicePick its.toArray lo hi none=((its.drop (HT.sIx its.length 0 lo)).take (HT.sIx its.length its.length hi-HT.sIx its.length 0 lo)).toArray:=by
 obtain⟨h1,h2,h3⟩:=KI lo hi its.toArray.size
 unfold slicePick
 rw[h1,h2,h3]
 simp only[sliceRange_one,pick_run,aar]<;>rfl
abbrev XR(K:PySem.W.Frag):V->Option Int->Option Int->Hp->VK->Prop:=fun x lo hi H Q=>∃a xs,x=.ref a/\SqL K H a xs/\∀p,H p=none->Q (.ref p) (upd H p (.lst (Gz xs lo hi)))
theorem So:SlR X (XR X.K):=by
 intro pins s σ H x v vl vu lo hi sl Q I rx hs pl pu h
 obtain⟨a,xs,rfl,hx,q⟩:=h
 cases rx
 obtain⟨its,r,ht,hz⟩:=I.list hx
 have hlen:=r.length
 refine⟨"list",_,slot_list_getitem.lookup,ht.isList.typeIs,?_⟩
 refine wpAny_getItem_list_slice ht.isList hs pl pu .none (by simp) ?_ (by rw[aar]<;>omega)
 rw[J8,<- hlen]
 refine⟨.ref s.heap.objs.size,_,I.laid (t':=s.toks) (o:=.lst (Gz xs lo hi)) (fun b ob q=>Heap.get?_push_of_some _ q) (aai _) ?_,rfl,q _ (I.hok.fresh (aai _))⟩
 exact⟨aao (HA xs lo hi) hz,_,0,(r.drop (HT.sIx xs.length 0 lo)).take (HT.sIx xs.length xs.length hi-HT.sIx xs.length 0 lo),Heap.get?_push_size _ rfl⟩
theorem KJ:Eg X (.builtin "len") (fun xs H Q=>∃p ys,xs=[.ref p]/\(SqL X.K H p ys\/SqT X.K H p ys)/\Q (.int ys.length) H):=by
 intro pins s σ H xs us Q I r h
 obtain⟨p,ys,rfl,hq,q⟩:=h
 obtain⟨u,rfl,rx⟩:=G9 r
 cases rx
 have hn:=Gx
 rcases hq with hq|hq
 ·obtain⟨its,r',pl,hz⟩:=I.list hq
  have hlen:=r'.length
  exact Calls.call_len_list pl.isList (by simp only[aar]<;>omega) ⟨.int ys.length,H,I.tok _,⟨s.toks+1,by rw[aar,hlen]⟩,q⟩
 ·obtain⟨its,r',pl,hz⟩:=I.tuple hq
  have hlen:=r'.length
  exact len_tuple pl (by simp only[aar]<;>omega) ⟨.int ys.length,H,I.tok _,⟨s.toks+1,by rw[aar,hlen]⟩,q⟩
theorem KK:Eg X (.type "list") (fun xs H Q=>∃p ys,xs=[.ref p]/\(SqL X.K H p ys\/SqT X.K H p ys)/\∀l,H l=none->Q (.ref l) (upd H l (.lst ys))):=by
 intro pins s σ H xs us Q I r h
 obtain⟨p,ys,rfl,hq,q⟩:=h
 obtain⟨u,rfl,rx⟩:=G9 r
 cases rx
 have fin:∀(its:List Value),Vals ys its->ys.length<=sizeLine->∀(h':Heap)(c':Nat),(∀b o',s.heap.get? b=some o'->h'.get? b=some o')->
   h'.get? s.heap.objs.size=some {cls:=.type "list",dict:=none,data:=.seq its.toArray c',slots:=#[]}->EP X pins σ Q (.ref s.heap.objs.size) {s with heap:=h'}:=fun its r' hz h' c' kp e=>
  ⟨.ref s.heap.objs.size,_,I.laid (t':=s.toks) kp (aai _) (show ObjOk X.prog X.w _ h' _ (.lst ys) from⟨hz,its,c',r',e⟩),rfl,q _ (I.hok.fresh (aai _))⟩
 rcases hq with hq|hq
 ·obtain⟨its,r',pl,hz⟩:=I.list hq
  have hlen:=r'.length
  obtain⟨o,ho,hc,n,hd⟩:=pl.isList
  exact call_list_seq p (.inl rfl) ho hc hd (fun h' c' kp e=>fin its r' hz h' c' kp e) (by simp only[aar]<;>omega)
 ·obtain⟨its,r',pl,hz⟩:=I.tuple hq
  have hlen:=r'.length
  obtain⟨o,ho,hc,n,hd⟩:=pl
  exact call_list_seq p (.inr rfl) ho hc hd (fun h' c' kp e=>fin its r' hz h' c' kp e) (by simp only[aar]<;>omega)
theorem J9:Eg X (.type "tuple") (fun xs H Q=>∃p ys,xs=[.ref p]/\((SqL X.K H p ys/\∀l,H l=none->Q (.ref l) (upd H l (.tup ys)))\/(SqT X.K H p ys/\Q (.ref p) H))):=by
 intro pins s σ H xs us Q I r h
 obtain⟨p,ys,rfl,h⟩:=h
 obtain⟨u,rfl,rx⟩:=G9 r
 cases rx
 rcases h with⟨hq,q⟩|⟨hq,q⟩
 ·obtain⟨its,r',pl,hz⟩:=I.list hq
  have hlen:=r'.length
  refine call_tuple_list pl.isList (fun h' kp=>?_) (by simp only[aar]<;>omega)
  have I1:Inv X pins σ H {s with heap:=h'}:=I.kept (t':=s.toks) kp
  have I2:Inv X pins σ (upd H h'.objs.size (.tup ys)) {s with heap:=h'.push {cls:=.type "tuple",data:=.seq its.toArray}} :=
   I1.laid (t':=s.toks) (fun b o e=>Heap.get?_push_of_some _ e) (aai _) (show ObjOk X.prog X.w _ _ _ (.tup ys) from⟨hz,its,r',IsTup.new _ _⟩)
  exact⟨.ref h'.objs.size,_,I2,rfl,q _ (I1.hok.fresh (aai _))⟩
 ·obtain⟨its,r',pl,hz⟩:=I.tuple hq
  exact call_tuple_same pl ⟨.ref p,H,I,rfl,q⟩
abbrev tyV(K:PySem.W.Frag)(T:String)(x:V)(H:Hp):Prop:=match x with
 |.str _=>T = "str"
 |.int _=>T = "int"
 |.ref p=>(T = "list" /\ ∃xs,SqL K H p xs)\/(T = "tuple" /\ ∃o,K.lookup p=some o/\o.cls=.type "tuple" /\ o.dict=none) \/
   (T = "dict" /\ ((∃kvs,H p=some (.dK kvs))\/∃kvs,H p=some (.dT kvs)))\/(T = "set" /\ ∃S n,H p=some (.set S n))
 |_=>False
theorem OM{pins:List (Addr×Obj)}{σ:St}{H:Hp}{s:Shared}{T:String}{x:V}{v:Value}(I:Inv X pins σ H s)(r:RelV x v)(ty:tyV X.K T x H) :
  s.TypeIs v T/\∀a,v=.ref a->∃ob,s.heap.get? a=some ob/\ob.dict=none:=by
 cases x with
 |str z=>
  obtain⟨t,rfl⟩:=r
  cases (show T = "str" from ty)
  exact⟨typeIs_str s z t,fun _ e=>nomatch e⟩
 |int i=>
  obtain⟨t,rfl⟩:=r
  cases (show T = "int" from ty)
  exact⟨typeIs_int s i t,fun _ e=>nomatch e⟩
 |ref p=>
  cases r
  rcases ty with⟨rfl,xs,hq⟩|⟨rfl,o,hk,hc,hd⟩|⟨rfl,hk⟩|⟨rfl,S,n,hk⟩
  ·obtain⟨its,_,pl,_⟩:=I.list hq
   refine⟨pl.isList.typeIs,fun a e=>?_⟩
   cases e
   obtain⟨o,n,e,c,hd,_⟩:=pl
   exact⟨o,e,hd⟩
  ·refine⟨⟨o,I.kIn p o hk,hc⟩,fun a e=>?_⟩
   cases e
   exact⟨o,I.kIn _ o hk,hd⟩
  ·have z:∃o,s.heap.get? p=some o/\o.ExactDict:=by
    rcases hk with⟨kvs,hk⟩|⟨kvs,hk⟩
    ·obtain⟨_,_,_,_,o,_,_,e,ex,_⟩:=I.hok p _ hk
     exact⟨o,e,ex⟩
    ·obtain⟨_,_,_,_,o,_,_,e,ex,_⟩:=I.hok p _ hk
     exact⟨o,e,ex⟩
   obtain⟨o,e,ex⟩:=z
   refine⟨⟨o,e,ex.1⟩,fun a e2=>?_⟩
   cases e2
   exact⟨o,e,ex.2.1⟩
  ·obtain⟨o,_,_,_,e,ex,_⟩:=I.hok p _ hk
   refine⟨⟨o,e,ex.1⟩,fun a e2=>?_⟩
   cases e2
   exact⟨o,e,ex.2.1⟩
 |_=>exact False.elim ty
abbrev XS(K:PySem.W.Frag)(T:String)(r:V->List V->Hp->VK->Prop)(to:TE):TE:=fun σ H Q=>to σ H fun x H1=>tyV K T x H1/\r x [] H1 Q
abbrev tBM(K:PySem.W.Frag)(T:String)(r:V->List V->Hp->VK->Prop)(to:TE)(t:TA):TE:=fun σ H Q=>to σ H fun x H1=>tyV K T x H1/\t σ H1 fun xs H2=>r x xs H2 Q
variable{o e:Expr}{es:List Expr}{to:TE}{t:TA}{name:Str}{apos cpos:Pos}{T id:String}{r:V->List V->Hp->VK->Prop}
theorem KM(pa:PlainAttrs T)(slot:Slot T name id)(hty:typeOf (.builtin id)=pure (.type "method_descriptor"))(hm:MtR X id r)(ho:PE X o to)
  (hbase:attributeBase o name X.env (eval o X.env)=eval o X.env:=by rfl) (hline:(apos.endLine==cpos.line)=true:=by rfl):PE X (.Call (.Attribute o name apos) [] [] cpos) (XS X.K T r to):=by
 intro pins s σ H Q I h
 refine wpAny_Call_method0_late hbase hline (thn (ho pins s σ H _ I h) fun v s1 ⟨x,H1,I1,r1,ty,q1⟩=>?_)
 obtain⟨h1,h2⟩:=OM I1 r1 ty
 exact⟨T,id,pa,slot,hty,h1,h2,Calls.callWith_builtin rfl (PySem.evalArgs_none (hm pins s1 σ H1 x [] v [] Q I1 r1 .nil q1))⟩
theorem Iy(pa:PlainAttrs T)(slot:Slot T name id)(hty:typeOf (.builtin id)=pure (.type "method_descriptor"))(hm:MtR X id r)(ho:PE X o to)(ha:PA X (e::es) t)
  (hbase:attributeBase o name X.env (eval o X.env)=eval o X.env:=by rfl)
  (hfew:((backTo cpos (starEach (e::es) X.env)).all (fun x=>!x.1)&&(backToKw cpos (keywordEach [] X.env)).all (fun x=>x.1.isSome)
  &&decide ((e::es).length+([]:List Keyword).length+(if([]:List Keyword).isEmpty then 0 else 1)<30))=true:=by rfl)
  (hline:(apos.endLine==cpos.line)=true:=by rfl) (hs:starEach (e::es) X.env=(false,eval e X.env)::starEach es X.env:=by rfl) (hplain:(backTo cpos (starEach es X.env)).any (·.1)=false:=by rfl) :
  PE X (.Call (.Attribute o name apos) (e::es) [] cpos) (tBM X.K T r to t):=by
 intro pins s σ H Q I h
 refine wpAny_Call_method_late hbase hfew hline rfl (thn (ho pins s σ H _ I h) fun v s1 ⟨x,H1,I1,r1,ty,q1⟩=>?_)
 obtain⟨h1,h2⟩:=OM I1 r1 ty
 refine⟨T,id,pa,slot,hty,h1,h2,?_⟩
 have hA:=ha cpos pins s1 σ H1 _ I1 q1
 rw[hs]at hA ⊢
 refine Calls.callWith_builtin (by show(false||(backTo cpos (starEach es X.env)).any (·.1))=false;rw[hplain]<;>rfl) (Calls.evalArgs_plain ?_)
 exact thn hA fun us s2 ⟨vs,H2,I2,r2,q2⟩=>hm pins s2 σ H2 x vs v us Q I2 r1 r2 q2
/- xs.append(e),list.index on a module's tuple .. are MtR facts of 06m -/
end
abbrev MtM(X:Cx)(id:String)(r:V->List V->Hp->VK->Prop):Prop :=
 ∀(pins:List (Addr×Obj))(s:Shared)(σ:St)(H:Hp)(x:V)(xs:List V)(v:Value)(us:List Value)(Q:VK),Inv X pins σ H s->RelV x v->Vals xs us->r x xs H Q->
  wpAny (model X.prog X.w) X.A (call (.builtin id) (v::us)) (EP X pins σ Q) X.xe s
theorem Vals.one:∀{x:V}{us:List Value},Vals [x] us->∃u,us=[u]/\RelV x u
 |_,_,.cons r .nil=>⟨_,rfl,r⟩
theorem Vals.two:∀{x y:V}{us:List Value},Vals [x,y] us->∃u v,us=[u,v]/\RelV x u/\RelV y v
 |_,_,_,.cons r (.cons q .nil)=>⟨_,_,rfl,r,q⟩
theorem Vals.zero:∀{us:List Value},Vals [] us->us=[]
 |_,.nil=>rfl
theorem Vals.dropLast{xs:List V}{us:List Value}(h:Vals xs us):Vals xs.dropLast us.dropLast:=by
 induction h with
 |nil=>exact .nil
 |cons r t ih=>
  cases t with
  |nil=>exact .nil
  |cons q t'=>exact .cons r ih
theorem Vals.eraseIdx:∀{xs:List V}{us:List Value}(i:Nat),Vals xs us->Vals (xs.eraseIdx i) (us.eraseIdx i)
 |_,_,_,.nil=>.nil
 |_,_,0,.cons _ t=>t
 |_,_,i+1,.cons r t=>.cons r (Vals.eraseIdx i t)
theorem Vals.reverse{xs:List V}{us:List Value}(h:Vals xs us):Vals xs.reverse us.reverse:=by
 induction h with
 |nil=>exact .nil
 |cons r t ih=>rw[acA,acA];exact Vals.append ih (.cons r .nil)
theorem Vals.rep{xs:List V}{us:List Value}(h:Vals xs us):∀k:Nat,Vals (aam k xs).flatten (aam k us).flatten
 |0=>.nil
 |k+1=>by
  rw[abr,abr,abS,abS]
  exact Vals.append h (Vals.rep h k)
theorem NB{α:Type}(l:List α):l.eraseIdx (l.length-1)=l.dropLast:=by
 induction l with
 |nil=>rfl
 |cons a r ih=>
  cases r with
  |nil=>rfl
  |cons b r=>
   have e:(a::b::r).length-1=((b::r).length-1)+1:=by
    have h1:(a::b::r).length=r.length+2:=rfl
    have h2:(b::r).length=r.length+1:=rfl
    omega
   rw[e,List.eraseIdx_cons_succ,ih]
   all_goals rfl
theorem JW(its:List Value):∀(k:Nat)(acc:List Value),
  adk (fun x1 x2=>x1++x2) acc.toArray (aam k its.toArray)=(acc++(aam k its).flatten).toArray
 |0,acc=>by simp
 |k+1,acc=>by
  have e:acc.toArray++its.toArray=(acc++its).toArray:=by simp
  have e2:(acc++its)++(aam k its).flatten=acc++(aam (k+1) its).flatten:=by
   rw[abr,abS,List.append_assoc]
  rw[<- e2,<- JW its k (acc++its),<- e,abr,abZ]
section
variable{X:Cx}{pins:List (Addr×Obj)}{σ:St}{H:Hp}{s:Shared}{l b:Addr}{xs ys zs:List V}
theorem Inv.lset{its its':List Value}{n:Nat}{f:Array Value->Array Value}{t':Nat}(I:Inv X pins σ H s)(hH:H l=some (.lst xs))
  (e:s.heap.get? l=some {cls:=.type "list",data:=.seq its.toArray n}) (hf:f its.toArray=its'.toArray) (hv:Vals ys its') (hz:ys.length<=sizeLine) :
  Inv X pins σ (upd H l (.lst ys)) {s with heap:=s.heap.update l (Obj.mapSeq f),toks:=t'}:=by
 have q:=PySem.IsL.update e f
 rw[hf]at q
 refine I.write (x:=l) (e:=l) (by rw[hH];exact trivial) (.inl rfl) (fun b' u hb hu=>(Heap.get?_update_other s.heap (Obj.mapSeq f) (Ne.symm hb)).trans hu) ⟨_,q⟩ ?_
 exact⟨hz,its',_,hv,q⟩
theorem Inv.lnew{its:List Value}{t':Nat}(I:Inv X pins σ H s)(hv:Vals ys its)(hz:ys.length<=sizeLine) :
  Inv X pins σ (upd H s.heap.objs.size (.lst ys)) {s with heap:=s.heap.push {cls:=.type "list",data:=.seq its.toArray},toks:=t'} :=
 I.laid (fun _ _ q=>Heap.get?_push_of_some _ q) (aai _) ⟨hz,its,0,hv,Heap.get?_push_size _ rfl⟩
theorem Inv.fresh(I:Inv X pins σ H s):H s.heap.objs.size=none:=I.hok.fresh (aai _)
theorem Inv.lstM(I:Inv X pins σ H s)(hH:H l=some (.lst xs)):xs.length<=sizeLine/\∃(its:List Value)(n:Nat),Vals xs its/\xs.length=its.length/\s.heap.get? l=some {cls:=.type "list",data:=.seq its.toArray n}:=by
 obtain⟨z,its,n,r,e⟩:=I.hok l _ hH
 exact⟨z,its,n,r,r.length,e⟩
theorem HK{n:Nat}(h:n<=sizeLine):Builtin.List.listTooLong n=false:=by
 unfold Builtin.List.listTooLong
 exact decide_eq_false (by omega)
end
section
variable{X:Cx}
abbrev Hb:V->List V->Hp->VK->Prop:=fun x vs H Q=>∃l xs y,x=.ref l/\vs=[y]/\H l=some (.lst xs)/\xs.length<sizeLine/\Q .non (upd H l (.lst (xs++[y])))
theorem Fl:MtM X "list.append" Hb:=by
 intro pins s σ H x vs v us Q I rx rv h
 obtain⟨l,xs,y,rfl,rfl,hH,hz,q⟩:=h
 cases rx
 obtain⟨u,rfl,ru⟩:=rv.one
 obtain⟨z,its,n,r,hl,e⟩:=I.lstM hH
 refine call_meets F.slot_list_append ⟨_,e,rfl⟩ F.entry_list_append (F.args_list_append_2 _ _) (PySem.list_append l its.toArray n u (by rw[aar];omega)) ⟨e,?_⟩
 refine⟨.non,_,I.lset (its':=its++[u]) hH e (by simp) (r.append (.cons ru .nil)) ?_,rfl,q⟩
 rw[aaH,abT]
 omega
abbrev Sq:V->List V->Hp->VK->Prop:=fun x vs H Q=>∃l b xs zs,x=.ref l/\vs=[.ref b]/\H l=some (.lst xs)/\H b=some (.lst zs)/\xs.length+zs.length<=sizeLine/\Q .non (upd H l (.lst (xs++zs)))
theorem ON:MtM X "list.extend" Sq:=by
 intro pins s σ H x vs v us Q I rx rv h
 obtain⟨l,b,xs,zs,rfl,rfl,hH,hB,hz,q⟩:=h
 cases rx
 obtain⟨u,rfl,ru⟩:=rv.one
 cases ru
 obtain⟨z,its,n,r,hl,e⟩:=I.lstM hH
 obtain⟨z2,its2,n2,r2,hl2,e2⟩:=I.lstM hB
 have hsz:its.toArray.size+its2.toArray.size<=sizeLine:=by rw[aar,aar];omega
 have hlong:¬(!its.toArray.isEmpty&&Builtin.List.listTooLong (its.toArray.size+its2.toArray.size))=true:=by
  rw[HK hsz,acU]
  exact abl
 refine call_meets F.slot_list_extend ⟨_,e,rfl⟩ F.entry_list_extend (F.args_list_extend_2 _ _)
  (AutoSeq1.list_extend_list_list_0 l its.toArray n b its2.toArray n2 hlong (by rw[aar];omega) (by omega)) ⟨e,e2,?_⟩
 refine⟨.non,_,I.lset (its':=its++its2) hH e (by simp) (r.append r2) ?_,rfl,q⟩
 rw[aaH]
 omega
abbrev Vg:V->List V->Hp->VK->Prop:=fun x vs H Q=>∃l xs y,x=.ref l/\vs=[]/\H l=some (.lst xs)/\xs[xs.length-1]?=some y/\Q y (upd H l (.lst xs.dropLast))
theorem OO:MtM X "list.pop" Vg:=by
 intro pins s σ H x vs v us Q I rx rv h
 obtain⟨l,xs,y,rfl,rfl,hH,hy,q⟩:=h
 cases rx
 have hus:=rv.zero
 subst hus
 obtain⟨z,its,n,r,hl,e⟩:=I.lstM hH
 obtain⟨u,hu,ru⟩:=r.get hy
 have hy':its.toArray[its.toArray.size-1]?=some u:=by
  show its.toArray[its.length-1]?=some u
  rw[<- Array.getElem?_toList,<- hl]
  exact hu
 refine call_meets F.slot_list_pop ⟨_,e,rfl⟩ F.entry_list_pop (F.args_list_pop_1 _) (MeetsSeq.list_pop_last l its.toArray n u hy' (by rw[aar];omega)) ⟨e,?_⟩
 refine⟨y,_,I.lset (its':=its.dropLast) hH e ?_ r.dropLast ?_,ru,q⟩
 ·show its.toArray.eraseIdxIfInBounds (its.toArray.size-1)=its.dropLast.toArray
  rw[aar,List.eraseIdxIfInBounds_toArray,NB]
 ·rw[List.length_dropLast]
  omega
abbrev OP:V->List V->Hp->VK->Prop:=fun x vs H Q=>∃l xs,x=.ref l/\vs=[]/\H l=some (.lst xs)/\Q .non (upd H l (.lst []))
theorem Qq:MtM X "list.clear" OP:=by
 intro pins s σ H x vs v us Q I rx rv h
 obtain⟨l,xs,rfl,rfl,hH,q⟩:=h
 cases rx
 have hus:=rv.zero
 subst hus
 obtain⟨z,its,n,r,hl,e⟩:=I.lstM hH
 refine call_meets F.slot_list_clear ⟨_,e,rfl⟩ F.entry_list_clear (F.args_list_clear_1 _) (AutoSeq1.list_clear_list_0 l its.toArray n (by rw[aar];omega)) ⟨e,?_⟩
 exact⟨.non,_,I.lset (its':=[]) (ys:=[]) hH e rfl .nil (aaw _),rfl,q⟩
theorem Sr{α:Type}(xs:List α)(k:Nat):(aam k xs).flatten.length=k*xs.length:=by
 induction k with
 |zero=>simp
 |succ k ih=>rw[abr,abS,aaH,ih,abH,aci]
end
end L2
namespace Att
open PySem PySem.W PySem.Calls PyProof.Rows
theorem Iz{P:Params}{h:Heap}:∀(ns:List Int)(vs:List Value),WellAll P h vs (ns.map WData.int)->IntsAre vs ns:=by
 intro ns
 induction ns with
 |nil=>
  intro vs w
  rw[abb]at w
  cases w
  exact .nil
 |cons n ns ih=>
  intro vs w
  rw[aaI]at w
  cases w with
  |cons a b=>
   cases a
   exact .cons _ _ (ih _ b)
theorem OQ{l:OpenLaw}{n:Nat}(hn:l.most=some n){P:Params}{h:Heap}{args:List WData}{vals:List Value}
  (hpre:l.row.toRowW.claim.pre args=true) (hwl:WellAll P h vals args) :
  ∃a vs ns,vals=[Value.ref a]/\args=[WData.list (ns.map WData.int)]/\h.get? a=some {cls:=.type "list",data:=.seq vs.toArray}/\IntsAre vs ns/\ns.length<=n:=by
 have hsh:WShape.hasAll [] args [.list .int]=true:=(pre_splitW hpre).1
 have hc:l.pre.holds [] {args:=args}=true:=(pre_splitW hpre).2
 obtain⟨d,r,rfl,h1,h2⟩:=hasAllW_cons hsh
 obtain rfl:=hasAllW_nil h2
 obtain⟨xs,rfl,h3⟩:=hasW_list h1
 obtain⟨ns,rfl⟩:=items_int h3
 have hlen:ns.length<=n:=by
  unfold OpenLaw.pre at hc
  have h4:(WTm.not (.lt (.lit (.int (n:Int))) (.len (.arg 0)))).holds [] {args:=[.list (ns.map .int)]}=true:=by
   have h4:=(holds_andW hc).1
   rw[hn]at h4
   exact h4
  have h5:=condW_of h4 (w_not (w_lt w_lit (w_len_list (w_arg rfl))))
  rw[aab]at h5
  refine abW fun q=>?_
  have q':(n:Int)<((ns.length:Nat):Int):=by omega
  first
   | (rw[decide_eq_true q']at h5;exact absurd h5 (by decide))
   | (simp at h5;omega)
 cases hwl with
 |cons w1 w2=>
  cases w2
  cases w1 with
  |list ho hall=>exact⟨_,_,ns,rfl,rfl,ho,Iz ns _ hall,hlen⟩
theorem OR(l:OpenLaw)(args:List WData):l.row.toRowW.claim.post args (.bool true) args=true :=
 postW_of (r:=l.row.toRowW) (X:=(true==true))
  (show WShape.has [] (.bool true) .bool=true by first|rfl|decide|simp[WShape.has,WShape.arms,WShape.armsAll])
  (show(WTm.eq .res (.lit (.bool true))).value [] {args:=args,res:=some (.bool true),after:=args}=some (.bool (true==true)) from w_eq_bool (w_res rfl) w_lit) rfl
theorem attach_call{l:OpenLaw}{n:Nat}{q:Program}{loose:List Str}{XP:(Str->Option Value)->Heap->Prop}{YP:World->Heap->Prop}{d:DefRec}
  (hn:l.most=some n) (hdf:d.params.defaults=[])
  (call:∀(w:World)(s₀ s₁:Shared)(mg mb:Str->Option Value)(fa:Addr)(o:Obj)(pm cd doc:Value)(a:Addr)(vs:List Value)(ns:List Int),
   Ground q loose [] XP w s₀ mg mb s₁.heap->YP w s₁.heap->
   s₁.heap.get? fa=some o->o.data=.func (docDef d.name d.params d.body d.scope pm cd doc)->s₁.heap.CodeRec cd d.name->mg d.name=some (.ref fa)->
   s₁.heap.get? a=some {cls:=.type "list",data:=.seq vs.toArray}->IntsAre vs ns->ns.length<=n->s₁.gens=#[]->
   codeAny (model l.prog w) callerA (.call (.ref fa) ⟨[.ref a],[]⟩) (fun r s'=>r=.ok (.ret (.bool true))/\OldK s₁.heap s'.heap/\s'.os=s₁.os/\AllBare s'.gens) s₁) :
  WalkO q loose XP YP l.row.toRowW d [] (fun f vs=>PySem.call f vs):=by
 intro w s₀ s₁ mg mb G Y fa o pm cd doc dV kV ho hd hcd hD hmg hg args vals as hpre hlay hrd hwl hlo
 obtain rfl:dV=.none:=Dflts.none hD hdf
 obtain rfl:kV=.none:=Dflts.noKw hD
 obtain⟨a,vs,ns,rfl,rfl,hobj,hints,hlen⟩:=OQ hn hpre hwl
 refine enter_call (codeAny_mono (call w s₀ s₁ mg mb fa o pm cd doc a vs ns G Y ho (fd_plain hd) hcd hmg hobj hints hlen hg) fun r s' hq=>?_)
 obtain⟨rfl,h2,h3,h4⟩:=hq
 exact⟨.inl ⟨.bool true,.bool true,[],rfl,fun _=>rfl,.bool true,OR l _,fun _=>⟨List.Pairwise.nil,fun _ hm=>(nomatch hm)⟩⟩,h2,h3,h4⟩
end Att
namespace L2
open PySem PySem.Spec PyProof.Rows
theorem JX:∀{vs:List Value}{ns:List Int},IntsAre vs ns->Vals (ns.map V.int) vs
 |_,_,.nil=>.nil
 |_,_,.cons n t h=>.cons ⟨t,rfl⟩ (JX h)
abbrev Qr(H:Hp):Prop:=∀b,H b=none\/∃o xs,H b=some (.frz o (.lst xs))
theorem Qs{P:Program}{w:World}{K:PySem.W.Frag}{mg mb:Str->Option Value}{CX:CXT}{k:Nat}{fa a:Addr}{fd:FuncData}{x:Str}{sp:Sp}{s₁:Shared}{vs:List Value}{ns:List Int}
  (KX:K.In s₁.heap) (hns:s₁.heap.Ns mainGlobals mg) (hb:s₁.heap.Ns builtinsNs mb) (hbb:∀x:Str,x≠"__name__" -> mb x=bootBuiltins x) (hlim:s₁.heap.NoLimit) (hg:s₁.gens=#[])
  (ha:s₁.heap.get? a=some {cls:=.type "list",data:=.seq vs.toArray}) (hi:IntsAre vs ns) (hl:ns.length<=sizeLine) (hr:Room k callerA)
  (F:∀base:Heap,K.In base->base.Ns mainGlobals mg->FnOk P w K mg base CX k fa fd [x] sp) (hbind:∀(s:Shared)(u:Value),BindsTo s fd ⟨[u],[]⟩ [(x,u)])
  (hsp:∀H:Hp,Qr H->SqL K H a (ns.map V.int)->sp [.ref a] H (fun v _=>v=.bl true) fun _ _ _=>False)
  (hCX:∀H e s',CX [] H s₁ (fun _ _ _=>False) e s'->False) :
  codeAny (model P w) callerA (.call (.ref fa) ⟨[.ref a],[]⟩) (fun r s'=>r=.ok (.ret (.bool true))/\OldK s₁.heap s'.heap/\s'.os=s₁.os/\AllBare s'.gens) s₁:=by
 have rv:=JX hi
 have lenV:=hi.length
 have core:∀H:Hp,Qr H->SqL K H a (ns.map V.int)->HOk P w H s₁.heap->(∀b,H b≠none->b=a)->(H a≠none->K.lookup a=none)->
   codeAny (model P w) callerA (.call (.ref fa) ⟨[.ref a],[]⟩) (fun r s'=>r=.ok (.ret (.bool true))/\OldK s₁.heap s'.heap/\s'.os=s₁.os/\AllBare s'.gens) s₁:=by
  intro H hO hS hok hA hK
  have base_of:∀{b:Addr}{o:Obj},s₁.heap.get? b=some o->H b=none->(FW s₁.heap H).get? b=some o:=fun e n=>Qf e n
  have noA:∀{b:Addr}{o:Obj}{es:Array DictEntry}{ep:Nat},s₁.heap.get? b=some o->o.data=.dict es ep->H b=none:=fun {b o es ep} e d=>by
   cases q:H b with
   |none=>rfl
   |some u=>
    have e':b=a:=hA b (by rw[q];simp)
    subst e'
    rw[ha]at e;cases e
    have d':Data.seq vs.toArray _=Data.dict es ep:=d
    cases d'
  have nsK:∀{b:Addr}{m:Str->Option Value},s₁.heap.Ns b m->(FW s₁.heap H).Ns b m:=fun {b m} ⟨o,es,ep,e,d,r⟩=>⟨o,es,ep,base_of e (noA e d),d,r⟩
  have hKb:K.In (FW s₁.heap H):=fun b o e=>base_of (KX b o e) (by
   cases q:H b with
   |none=>rfl
   |some u=>
    have e':b=a:=hA b (by rw[q];simp)
    subst e'
    rw[hK (by rw[q];simp)]at e;cases e)
  have hM:Mod K mg (FW s₁.heap H):=⟨hKb,nsK hns,⟨mb,nsK hb,hbb⟩,let ⟨mc,h1,h2⟩:=hlim;⟨mc,nsK h1,h2⟩⟩
  have e0:Env0 P w K mg (FW s₁.heap H) callerA [] s₁ H:=⟨rfl,hM,fun b o e=>Sd e,aa5 (Ow _ _),trivial,fun b hb=>absurd (show b∈([]:List Addr) from hb) (by simp),hok,.of_eq hg⟩
  refine codeAny_mono ((F _ hKb (nsK hns)).run callerA [] s₁ H ⟨[.ref a],[]⟩ [.ref a] [.ref a] _ _ hr e0 (hbind s₁ (.ref a)) (.cons rfl .nil) (hsp H hO hS)) fun r s' h=>?_
  cases r with
  |error e=>exact(hCX H e s' h).elim
  |ok fl=>
   cases fl with
   |next=>exact False.elim h
   |brk=>exact False.elim h
   |cont=>exact False.elim h
   |ret u=>
    obtain⟨v,H',os,bare,un,hok',r',q⟩:=h
    have q':v=.bl true:=q
    subst q'
    obtain rfl:u=Value.bool true:=r'
    refine⟨rfl,OldK.of_keep fun b o e=>?_,os,bare⟩
    cases q:H b with
    |none=>exact un.keep b o e q (by intro z;exact absurd (show b∈([]:List Addr) from z) (by simp)) (by simp)
    |some u=>
     rcases hO b with z|⟨ob,xs,z⟩
     ·rw[q]at z;cases z
     ·have z2:=un.frzs b ob _ z
      obtain⟨e1,_⟩:=hok b _ z
      obtain⟨e2,_⟩:=hok' b _ z2
      rw[e]at e1;cases e1
      exact e2
 cases hk:K.lookup a with
 |some o=>
  have e:=KX a o hk
  rw[ha]at e
  cases e
  refine core (fun _=>none) (fun _=>.inl rfl) (.inr ⟨_,vs.toArray,_,hk,rfl,rfl,rfl,by rw[aar,lenV];exact hl,by simpa using rv⟩) (fun b u z=>by have z':(none:Option HO)=some u:=z;cases z') (fun b z=>absurd rfl z) fun z=>absurd rfl z
 |none=>
  refine core (fun b=>if b=a then some (.frz {cls:=.type "list",data:=.seq vs.toArray} (.lst (ns.map V.int))) else none) (fun b=>?_) (.inl (.inr ⟨{cls:=.type "list",data:=.seq vs.toArray},if_pos rfl⟩)) (fun b u z=>?_) (fun b z=>?_) fun _=>hk
  ·by_cases hb:b=a
   ·exact .inr ⟨_,_,if_pos hb⟩
   ·exact .inl (if_neg hb)
  ·by_cases hb:b=a
   ·have z':=(if_pos hb).symm.trans z
    cases z'
    subst hb
    exact⟨ha,by rw[aab];exact hl,vs,_,rv,ha⟩
   ·have z':=(if_neg hb).symm.trans z
    cases z'
  ·by_cases hb:b=a
   ·exact hb
   ·exact absurd (if_neg hb) z
theorem Su{l:PySem.W.OpenLaw}{n k:Nat}{q:Program}{loose:List Str}{XP:(Str->Option Value)->Heap->Prop}{YP:World->Heap->Prop}{d:DefRec}{K:Params->PySem.W.Frag}{CX:World->CXT}{sp:World->Sp}{x:Str}
  (hn:l.most=some n) (hn2:n<=sizeLine) (hdf:d.params.defaults=[]) (hr:Room k callerA)
  (hY:∀(w:World)(h:Heap),YP w h->(K w.params).In h)
  (F:∀(w:World)(mg:Str->Option Value)(fa:Addr)(h:Heap),(K w.params).In h->h.Ns mainGlobals mg->mg d.name=some (.ref fa)->
   ∃fd:FuncData,(∀(s:Shared)(u:Value),BindsTo s fd ⟨[u],[]⟩ [(x,u)]) /\
    ∀base:Heap,(K w.params).In base->base.Ns mainGlobals mg->FnOk l.prog w (K w.params) mg base (CX w) k fa fd [x] (sp w))
  (hsp:∀(w:World)(H:Hp)(a:Addr)(ns:List Int),ns.length<=n->Qr H->SqL (K w.params) H a (ns.map V.int)->sp w [.ref a] H (fun v _=>v=.bl true) fun _ _ _=>False)
  (hCX:∀(w:World)(H:Hp)(s:Shared)(e:Value)(s':Shared),CX w [] H s (fun _ _ _=>False) e s'->False) :
  PySem.W.WalkO q loose XP YP l.row.toRowW d [] (fun f vs=>PySem.call f vs):=by
 refine Att.attach_call hn hdf fun w s₀ s₁ mg mb fa o pm cd doc a vs ns G Y ho hd hcd hmg hobj hints hlen hg=>?_
 have KX:=hY w _ Y
 obtain⟨fd,hb,hF⟩:=F w mg fa _ KX G.T.g hmg
 exact Qs KX G.T.g G.T.b G.T.builtins G.T.nolimit hg hobj hints (aao hlen hn2) hr hF hb (fun H hO hS=>hsp w H a ns hlen hO hS) fun H e s'=>hCX w H s₁ e s'
abbrev Cl(s:Stmt):Arguments:=match s with
 |.FunctionDef _ a _ _ _ _ _ _ _ _=>a
 |_=>{posonlyargs:=[],args:=[],vararg:=none,kwonlyargs:=[],kw_defaults:=[],kwarg:=none,defaults:=[]}
abbrev AU(s:Stmt):List Stmt:=match s with
 |.FunctionDef _ _ b _ _ _ _ _ _ _=>b
 |_=>[]
abbrev Ao(s:Stmt):Scope:=match s with
 |.FunctionDef _ _ _ _ _ _ sc _ _ _=>sc
 |_=>{kind:=.function,names:=[],isGenerator:=false,isCoroutine:=false}
structure Fun(K:PySem.W.Frag)(x qual:Str)(st:Stmt)(f:Addr)(fd:FuncData):Prop where
 ex:∃(oc:Value)(od:Option Addr)(kV doc pm:Value)(an:Option Addr)(cdv ct:Value)(osl:Array (Option Value)),
  fd=PySem.W.fnOf x qual (Cl st) (AU st) (Ao st) .none kV doc pm an cdv ct/\K.lookup f=some ⟨oc,od,.func fd,osl⟩/\PySem.W.codeIn K cdv qual=true
 kp:PySem.W.keepIn K (.ref f)=true
section
variable{P:Program}{w:World}{K:PySem.W.Frag}{mg:Str->Option Value}{base:Heap}
theorem Fun.binds{x qual:Str}{st:Stmt}{f:Addr}{fd:FuncData}{ps:List Str}(F:Fun K x qual st f fd)
  (h:∀(kV doc pm:Value)(an:Option Addr)(cdv ct:Value)(us:List Value),us.length=ps.length->bindArgs (PySem.W.fnOf x qual (Cl st) (AU st) (Ao st) .none kV doc pm an cdv ct) ⟨us,[]⟩=pure (ps.zip us)):Binds K fd ps []:=by
 obtain⟨oc,od,kV,doc,pm,an,cdv,ct,osl,rfl,lk,hcd⟩:=F.ex
 exact .all (h kV doc pm an cdv ct)
theorem OS{x qual:Str}{st:Stmt}{f:Addr}{oc:Value}{od an:Option Addr}{osl:Array (Option Value)}{kV doc pm cdv ct:Value}(l:K.lookup f=some ⟨oc,od,.func (PySem.W.fnOf x qual (Cl st) (AU st) (Ao st) .none kV doc pm an cdv ct),osl⟩)
  (c:PySem.W.codeIn K cdv qual=true) (k:PySem.W.keepIn K (.ref f)=true):Fun K x qual st f (PySem.W.fnOf x qual (Cl st) (AU st) (Ao st) .none kV doc pm an cdv ct):=⟨⟨oc,od,kV,doc,pm,an,cdv,ct,osl,rfl,l,c⟩,k⟩
end
theorem Vh{A B:Prop}(h:B):if false=true then A else B:=by
 rw[if_neg abl]
 exact h
theorem XT{A B:Prop}(h:A):if true=true then A else B:=by
 rw[if_pos rfl]
 exact h
abbrev Same(H H':Hp):Prop:=∀b o,H b=some o->H' b=some o
theorem Same.refl(H:Hp):Same H H:=fun _ _ h=>h
theorem Same.trans{H H1 H2:Hp}(a:Same H H1)(b:Same H1 H2):Same H H2:=fun c o h=>b c o (a c o h)
theorem Same.free{H H':Hp}(e:Same H H'){l:Addr}(h:H' l=Option.none):H l=Option.none:=by
 cases q:H l with
 |none=>rfl
 |some o=>
  rw[e l o q]at h
  cases h
theorem Same.seq{K:PySem.W.Frag}{H H':Hp}{a:Addr}{xs:List V}(e:Same H H')(h:SqL K H a xs):SqL K H' a xs:=by
 rcases h with (h|⟨o,h⟩)|h
 ·exact .inl (.inl (e _ _ h))
 ·exact .inl (.inr ⟨o,e _ _ h⟩)
 ·exact .inr h
end L2
end
section
namespace L2
open PySem PySem.Spec PyProof.Rows
section
variable{κ:Type}[DecidableEq κ]
abbrev ED(kvs:List (κ×V))(k:κ):Option V:=(kvs.find? fun kv=>decide (kv.1=k)).map (·.2)
abbrev GA(kvs:List (κ×V))(k:κ)(v:V):List (κ×V) :=
 if(kvs.any fun kv=>decide (kv.1=k))=true then kvs.map (fun kv=>if kv.1=k then(kv.1,v) else kv) else kvs++[(k,v)]
abbrev RJ(kvs:List (κ×V))(k:κ):List (κ×V):=kvs.filter fun kv=>decide (kv.1≠k)
theorem HL{p:κ×V}{r:List (κ×V)}{k:κ}(e:p.1=k):ED (p::r) k=some p.2:=by simp[ED,abO,e]
theorem HM{p:κ×V}{r:List (κ×V)}{k:κ}(e:¬p.1=k):ED (p::r) k=ED r k:=by simp[ED,abO,e]
theorem KN(k:κ):∀kvs:List (κ×V),(kvs.any fun kv=>decide (kv.1=k))=(ED kvs k).isSome
 |[]=>rfl
 |p::r=>by
  rw[abM]
  by_cases e:p.1=k
  ·simp only[HL e,decide_eq_true e,Bool.true_or,Option.isSome_some]
  ·rw[HM e,decide_eq_false e,ac3];exact KN k r
theorem RelO.isSome_eq{o:Option V}{u:Option Value}(r:RelO o u):o.isSome=u.isSome:=by
 cases o with
 |none=>cases u with
  |none=>rfl
  |some _=>exact nE r
 |some _=>cases u with
  |none=>exact nE r
  |some _=>rfl
theorem RelO.getD{o:Option V}{u:Option Value}{d:V}{d':Value}(r:RelO o u)(rd:RelV d d'):RelV (o.getD d) (u.getD d'):=by
 cases o with
 |none=>cases u with
  |none=>exact rd
  |some _=>exact nE r
 |some _=>cases u with
  |none=>exact nE r
  |some _=>exact r
theorem KV.val{kvs:List (κ×V)}{vs:List (κ×Value)}(r:KV kvs vs)(k:κ):RelO (ED kvs k) (valueAt vs k):=by
 unfold KV at r
 induction r with
 |nil=>exact True.intro
 |@cons p q ps qs h t ih=>
  obtain⟨h1,h2⟩:=h
  by_cases e:p.1=k
  ·have e':q.1=k:=h1.symm.trans e
   have b:valueAt (q::qs) k=some q.2:=by simp[valueAt,abO,e']
   rw[HL e,b];exact h2
  ·have e':¬q.1=k:=fun z=>e (h1.trans z)
   have b:valueAt (q::qs) k=valueAt qs k:=by simp[valueAt,abO,e']
   rw[HM e,b];exact ih
theorem KV.any{kvs:List (κ×V)}{vs:List (κ×Value)}(r:KV kvs vs)(k:κ):(kvs.any fun kv=>decide (kv.1=k))=vs.any fun kv=>decide (kv.1=k):=by
 unfold KV at r
 induction r with
 |nil=>rfl
 |cons h t ih=>rw[abM,abM,ih,h.1]
theorem KV.repl{kvs:List (κ×V)}{vs:List (κ×Value)}(r:KV kvs vs)(k:κ){y:V}{u:Value}(ry:RelV y u) :
  KV (kvs.map fun kv=>if kv.1=k then(kv.1,y) else kv) (vs.map fun kv=>if kv.1=k then(kv.1,u) else kv):=by
 unfold KV at r ⊢
 induction r with
 |nil=>exact .nil
 |@cons p q ps qs h t ih=>
  rw[aaI,aaI]
  refine .cons ?_ ih
  obtain⟨h1,h2⟩:=h
  by_cases e:p.1=k
  ·rw[if_pos e,if_pos (h1.symm.trans e)];exact⟨h1,ry⟩
  ·rw[if_neg e,if_neg (fun z=>e (h1.trans z))];exact⟨h1,h2⟩
theorem KV.put{kvs:List (κ×V)}{vs:List (κ×Value)}(r:KV kvs vs)(k:κ){y:V}{u:Value}(ry:RelV y u):KV (GA kvs k y) (stored vs k u):=by
 unfold GA stored
 rw[r.any k]
 by_cases e:(vs.any fun kv=>decide (kv.1=k))=true
 ·rw[if_pos e,if_pos e];exact r.repl k ry
 ·rw[if_neg e,if_neg e];exact Paired.snoc r ⟨rfl,ry⟩
theorem KV.drop{kvs:List (κ×V)}{vs:List (κ×Value)}(r:KV kvs vs)(k:κ):KV (RJ kvs k) (without vs k):=by
 unfold KV at r ⊢
 unfold RJ without
 induction r with
 |nil=>exact .nil
 |@cons p q ps qs h t ih=>
  obtain⟨h1,h2⟩:=h
  rw[abI,abI]
  by_cases e:p.1=k
  ·have a:¬decide (p.1≠k)=true:=by simp[e]
   have b:¬decide (q.1≠k)=true:=by simp[h1.symm.trans e]
   rw[if_neg a,if_neg b];exact ih
  ·have e':¬q.1=k:=fun z=>e (h1.trans z)
   have a:decide (p.1≠k)=true:=by simp[e]
   have b:decide (q.1≠k)=true:=by simp[e']
   rw[if_pos a,if_pos b];exact .cons ⟨h1,h2⟩ ih
theorem KV.length{kvs:List (κ×V)}{vs:List (κ×Value)}(r:KV kvs vs):kvs.length=vs.length:=Paired.length r
end
@[reducible]noncomputable def KT(H:Hp):List (List Key×V)->List (List Key×Addr×Value)->Prop:=Paired fun p q=>p.1=q.1/\H q.2.1=some (.tup (p.1.map kV))/\RelV p.2 q.2.2
theorem KT.val{H:Hp}{kvs:List (List Key×V)}{xs:List (List Key×Addr×Value)}(r:KT H kvs xs)(k:List Key):RelO (ED kvs k) ((atKey xs k).map (·.2)):=by
 induction r with
 |nil=>exact True.intro
 |@cons p q ps qs h t ih=>
  obtain⟨h1,_,h2⟩:=h
  by_cases e:p.1=k
  ·have e':q.1=k:=h1.symm.trans e
   have b:atKey (q::qs) k=some q.2:=by simp[atKey,abO,e']
   rw[HL e,b];exact h2
  ·have e':¬q.1=k:=fun z=>e (h1.trans z)
   have b:atKey (q::qs) k=atKey qs k:=by simp[atKey,abO,e']
   rw[HM e,b];exact ih
theorem KT.repl{H:Hp}{kvs:List (List Key×V)}{xs:List (List Key×Addr×Value)}(r:KT H kvs xs)(k:List Key){y:V}{u:Value}(ry:RelV y u) :
  KT H (kvs.map fun kv=>if kv.1=k then(kv.1,y) else kv) (xs.map (putAt k u)):=by
 induction r with
 |nil=>exact .nil
 |@cons p q ps qs h t ih=>
  rw[aaI,aaI]
  refine .cons ?_ ih
  obtain⟨h1,h2,h3⟩:=h
  unfold putAt
  by_cases e:p.1=k
  ·rw[if_pos e,if_pos (h1.symm.trans e)];exact⟨h1,h2,ry⟩
  ·rw[if_neg e,if_neg (fun z=>e (h1.trans z))];exact⟨h1,h2,h3⟩
theorem KT.put{H:Hp}{kvs:List (List Key×V)}{xs:List (List Key×Addr×Value)}(r:KT H kvs xs)(k:List Key){b:Addr}{y:V}{u:Value}(hb:H b=some (.tup (k.map kV)))(ry:RelV y u) :
  KT H (GA kvs k y) (storedH xs k b u):=by
 have e:(kvs.any fun kv=>decide (kv.1=k))=(atKey xs k).isSome:=by
  rw[KN,(r.val k).isSome_eq,Option.isSome_map]
 unfold GA storedH
 rw[e]
 by_cases q:(atKey xs k).isSome=true
 ·rw[if_pos q,if_pos q];exact r.repl k ry
 ·rw[if_neg q,if_neg q];exact Paired.snoc r ⟨rfl,hb,ry⟩
theorem KT.keeps{H H':Hp}{kvs:List (List Key×V)}{xs:List (List Key×Addr×Value)}(r:KT H kvs xs)(ht:∀b ys,H b=some (.tup ys)->H' b=some (.tup ys)):KT H' kvs xs :=
 Paired.mapP r fun _ _ z=>⟨z.1,ht _ _ z.2.1,z.2.2⟩
section
variable{P:Program}{w:World}{H:Hp}{h:Heap}{a:Addr}
theorem FY{u:HO}(ok:HOk P w H h)(e:Rd H a u):ObjOk P w H h a u:=e.ok ok
end
abbrev DGet(H:Hp)(a:Addr)(y:V)(r:Option V):Prop :=
 (∃kvs k,Rd H a (.dK kvs)/\y=kV k/\r=ED kvs k)\/∃kvs k b,Rd H a (.dT kvs)/\y=.ref b/\H b=some (.tup (k.map kV))/\r=ED kvs k
abbrev DPut(H:Hp)(a:Addr)(y v:V)(H':Hp):Prop :=
 (∃kvs k,H a=some (.dK kvs)/\y=kV k/\kvs.length<sizeLine/\H'=upd H a (.dK (GA kvs k v))) \/
 ∃kvs k b,H a=some (.dT kvs)/\y=.ref b/\H b=some (.tup (k.map kV))/\kvs.length<sizeLine/\H'=upd H a (.dT (GA kvs k v))
theorem DGet.k{H:Hp}{a:Addr}{kvs:List (Key×V)}{k:Key}(e:H a=some (.dK kvs)):DGet H a (kV k) (ED kvs k):=.inl ⟨kvs,k,.inl e,rfl,rfl⟩
theorem DGet.t{H:Hp}{a b:Addr}{kvs:List (List Key×V)}{k:List Key}(e:H a=some (.dT kvs))(eb:H b=some (.tup (k.map kV))):DGet H a (.ref b) (ED kvs k):=.inr ⟨kvs,k,b,.inl e,rfl,eb,rfl⟩
theorem DPut.k{H:Hp}{a:Addr}{kvs:List (Key×V)}{k:Key}{v:V}(e:H a=some (.dK kvs))(hl:kvs.length<sizeLine):DPut H a (kV k) v (upd H a (.dK (GA kvs k v))):=.inl ⟨kvs,k,e,rfl,hl,rfl⟩
theorem DPut.t{H:Hp}{a b:Addr}{kvs:List (List Key×V)}{k:List Key}{v:V}(e:H a=some (.dT kvs))(eb:H b=some (.tup (k.map kV)))(hl:kvs.length<sizeLine) :
  DPut H a (.ref b) v (upd H a (.dT (GA kvs k v))):=.inr ⟨kvs,k,b,e,rfl,eb,hl,rfl⟩
section
variable{X:Cx}{pins:List (Addr×Obj)}{σ:St}{H:Hp}{s:Shared}{a:Addr}{y v:V}{u r:Value}{o:Option V}{A:Around}{E:Value->Shared->Prop}
theorem Inv.big(I:Inv X pins σ H s):sysModules<s.heap.objs.size:=by
 have h:mainGlobals<s.heap.objs.size:=(I.mod.glob.keeps I.bk).lt
 exact Nat.lt_trans (by decide) h
end
end L2
end
section
set_option maxHeartbeats 1000000
namespace L2
open PySem PySem.Spec PyProof.Rows PySem.W
section
variable{prog:Program}{w:World}{A:Around}{E:Value->Shared->Prop}{s:Shared}{K:Frag}{e C:Addr}{ox:Obj}
structure XCls(K:Frag)(C:Addr):Prop where
 ga:findIn K (.ref C) "__getattribute__" = some (some (.builtin "BaseException.__getattribute__"))
 gn:findIn K (.ref C) "__getattr__" = some none
 sb:subIn K (.ref C) (.type "BaseException")=some true
 cl:findIn K (.ref C) "__class__" = some (some (.builtin "object.__class__"))
 mo:mroIn K C (.type "object")=some true
 ty:typeIn K (.ref C)=some (.type "type")
 cc:(clsIn K C).isSome=true
abbrev XAt(e C:Addr)(h:Heap):Prop:=∃oe,h.get? e=some oe/\oe.cls=.ref C
abbrev XDt(e C dx:Addr)(h:Heap):Prop:=∃oe,h.get? e=some oe/\oe.cls=.ref C/\oe.dict=some dx/\∀c,oe.data≠.cls c
theorem XDt.at{h:Heap}{dx:Addr}(I:XDt e C dx h):XAt e C h:=let ⟨oe,h1,h2,_⟩:=I;⟨oe,h1,h2⟩
theorem XAt.type{M:Model}{h:Heap}(I:XAt e C h):Looks M h (typeOf (.ref e)) (.ref C):=by
 obtain⟨oe,h1,h2⟩:=I
 exact h2▸(Looks.ld h1).andThen .now
theorem Vi{R:Result->Shared->Prop}(X:K.In s.heap)(I:XAt e C s.heap)(c:XCls K C)(h:R (.ok (.ret (.ref C))) s) :
  codeAny (model prog w) A (.call (.builtin "getset_descriptor.__get__") ⟨[.builtin "object.__class__",.ref e,.ref C],[]⟩) R s:=by
 obtain⟨hh,g,d,t,os⟩:=s
 have hT5:(⟨hh,g,d,t,os⟩:Shared).TypeIs (.builtin "object.__class__") "getset_descriptor":=F.typeOf_object_class
 have L0:=I.type (M:=model prog w)
 have L1:=looks_mroIn (M:=model prog w) X c.mo
 refine codeAny_call_builtin F.slot_gs_get.plain F.entry_gs_get (F.slot_gs_get.check _ _ _ _ _ _ _ _ hT5 (F.args_gs_get _ _ _) ?_)
 repeat (any_goals (first|assumption|refine L0.at ?_|refine L1.at ?_|refine wpAny_bind (L0.at ?_)|refine wpAny_bind (L1.at ?_)|wp_step))
 refine⟨Code.quiet_builtin _ (by decide +kernel),codeAny_builtin KF.entry_class ?_⟩
 unfold Builtin.«object.__class__» shownTypeOf
 repeat (any_goals (first|assumption|refine L0.at ?_|refine wpAny_bind (L0.at ?_)|wp_step))
theorem Sv{tk:Tok}{R:Result->Shared->Prop}(X:K.In s.heap)(I:XAt e C s.heap)(c:XCls K C)(h:R (.ok (.ret (.ref C))) s) :
  codeAny (model prog w) A (.call (.builtin "BaseException.__getattribute__") ⟨[.ref e,.str "__class__" tk],[]⟩) R s:=by
 obtain⟨hh,g,d,t,os⟩:=s
 have L0:=I.type (M:=model prog w)
 have LS:=looks_subIn (M:=model prog w) X c.sb
 have LI:Looks (model prog w) hh (isInstance (.ref e) (.type "BaseException")) true:=L0.andThen LS
 have LC:=looks_findIn (M:=model prog w) X c.cl
 refine codeAny_call_builtin (by decide +kernel) F.entry_bexc_ga ?_
 have hk:builtinKind "BaseException.__getattribute__" = some .slot:=by decide +kernel
 have hsplit:splitId "BaseException.__getattribute__" = some ("BaseException", "__getattribute__"):=by decide +kernel
 have ha:=F.args_bexc_ga (.ref e) (.str "__class__" tk)
 simp only[checkBuiltinCall,hk,hsplit]
 refine wpAny_bind (LI.at ?_)
 unfold argsOk at ha
 simp only[abN,aa7,if_false]
 refine wpAny_of_eq ha ?_
 have hT5:(⟨hh,g,d,t,os⟩:Shared).TypeIs (.builtin "object.__class__") "getset_descriptor":=F.typeOf_object_class
 have f5:=F.typeOf_object_class
 have f6:=F.slot_gs_get.lookup
 have f7:=F.slot_gs_set.lookup
 repeat (any_goals (first|assumption|refine L0.at ?_|refine wpAny_bind (L0.at ?_)|refine LC.at ?_|refine wpAny_bind (LC.at ?_)|wp_step))
 exact Vi X I c (wpAny_pure h)
theorem Sw{Q:Option Value->Shared->Prop}(X:K.In s.heap)(I:XAt e C s.heap)(c:XCls K C)(h:Q (some (.ref C)) {s with toks:=s.toks+1}) :
  wpAny (model prog w) A (getAttr? (.ref e) "__class__") Q E s:=by
 obtain⟨hh,g,d,t,os⟩:=s
 have L0:=I.type (M:=model prog w)
 have LG:=looks_findIn (M:=model prog w) X c.ga
 have LN:=looks_findIn (M:=model prog w) X c.gn
 have fb1:=F.excAttr_ValueError.ga.bind (.ref e)
 unfold getAttr? getAttrBy? getAttrBy
 repeat (first|refine wpAny_bind (L0.at ?_)|refine wpAny_bind (LG.at ?_)|refine wpAny_bind (LN.at ?_)|refine LN.at ?_|wp_step)
 exact Sv (s:=⟨hh,g,d,t+1,os⟩) X I c (handed_on rfl (wpAny_pure h))
theorem KO(c:XCls K C):KitX K (.ref e) (.ref C) (XAt e C) where
 ty:=fun _ _ _ I=>I.type
 it:=fun M h X _=>by
  have hc:=c.cc
  unfold clsIn at hc
  split at hc
  ·rename_i ho
   intro A' Q' E' s' k q
   unfold isType loadHead
   exact wpAny_bind (wpAny_loadPart (k _ _ (X _ _ ho)) (wpAny_pure q))
  ·cases hc
 ne:=fun h tp dd its n sl X htp=>by
  refine Bool.eq_false_iff.mpr fun q=>?_
  have e:C=tp:=Value.ref.inj (beq_iff_eq.mp q)
  subst e
  have hc:=c.cc
  unfold clsIn at hc
  split at hc
  ·rename_i ho
   have z:=(X _ _ ho).symm.trans htp
   cases z
  ·cases hc
 ca:=fun X I k=>Sw X I c k
end
abbrev xO(a C:Addr):HO:=.ext (XAt a C)
abbrev xA(a C dx:Addr):HO:=.ext (XDt a C dx)
abbrev dO(a:Addr):HO:=.ext (KitAt a "dict")
inductive TyX(K:Frag)(H:Hp):V->Value->Prop where
 |dct {a:Addr} (y:H a=some (dO a)):TyX K H (.ref a) (.type "dict")
 |of {x:V} {t:Value} (y:TyOf K H x t):TyX K H x t
 |exc {a C:Addr} (y:H a=some (xO a C)) (c:XCls K C):TyX K H (.ref a) (.ref C)
 |exa {a C dx:Addr} (y:H a=some (xA a C dx)) (c:XCls K C):TyX K H (.ref a) (.ref C)
abbrev clV:V->Option Value
 |.ty n=>some (.type n)
 |.ref C=>some (.ref C)
 |_=>none
abbrev XU(K:Frag):List V->Hp->VK->Prop:=fun xs H Q=>∃x c cv t b,xs=[x,c]/\clV c=some cv/\TyX K H x t/\kitOne K t cv=some b/\Q (.bl b) H
theorem KP{X:Cx}:Eg X (.builtin "isinstance") (XU X.K):=by
 intro pins s σ H xs us Q I r h
 obtain⟨x,c,cv,t,b,rfl,hc,ty,e,q⟩:=h
 obtain⟨u,w',rfl,ru,rw'⟩:=Nw r
 have ec:w'=cv:=by
  cases c with
  |ty n=>cases hc;exact rw'
  |ref C=>cases hc;exact rw'
  |_=>cases hc
 subst ec
 have fin:∀tk,EP X pins σ Q (.bool b) {s with toks:=tk}:=fun tk=>⟨.bl b,H,I.tok tk,rfl,q⟩
 cases ty with
 |@dct a y=>
  cases (show u=Value.ref a from ru)
  exact kia_one kitx_dict I.kIn (I.hok a _ y).1 e (fun z=>nomatch z) fin
 |of y=>exact OK I ru y e fin
 |@exc a C y c=>
  cases (show u=Value.ref a from ru)
  exact kia_one (KO c) I.kIn (I.hok a _ y).1 e (fun z=>nomatch z) fin
 |@exa a C dx y c=>
  cases (show u=Value.ref a from ru)
  exact kia_one (KO c) I.kIn (show XDt a C dx s.heap from(I.hok a _ y).1).at e (fun z=>nomatch z) fin
abbrev DK(h h':Heap):Prop:=∀b o,h.get? b=some o->∃o',h'.get? b=some o'/\o'.dict=o.dict
theorem DK.refl(h:Heap):DK h h:=fun b o e=>⟨o,e,rfl⟩
theorem DK.trans{h h1 h2:Heap}(a:DK h h1)(b:DK h1 h2):DK h h2:=fun x o e=>by
 obtain⟨o1,e1,d1⟩:=a x o e
 obtain⟨o2,e2,d2⟩:=b x o1 e1
 exact⟨o2,e2,d2.trans d1⟩
inductive Tame{α:Type}:Sem α->Prop
 |pure (a:α):Tame (.pure a)
 |raise (e:Value):Tame (.raise e)
 |unsupported (x:String):Tame (.unsupported x)
 |rule {x:String} {k:Unit->Sem α} (h:∀u,Tame (k u)):Tame (.rule x k)
 |at {p:Pos} {k:Unit->Sem α} (h:∀u,Tame (k u)):Tame (.at p k)
 |load {a:Addr} {x:Option Value} {k:Obj->Sem α} (h:∀u,Tame (k u)):Tame (.load a x k)
 |update {a:Addr} {x:Option Value} {f:Obj->Obj} {k:Unit->Sem α} (d:∀o,(f o).dict=o.dict) (fr:∀o,o.isFreed=false->(f o).isFreed=false) (h:∀u,Tame (k u)):Tame (.update a x f k)
 |alloc {o:Obj} {k:Addr->Sem α} (h:∀u,Tame (k u)):Tame (.alloc o k)
 |point {l:List Value} {k:Unit->Sem α} (h:∀u,Tame (k u)):Tame (.point l k)
 |fresh {k:Tok->Sem α} (h:∀u,Tame (k u)):Tame (.fresh k)
 |ask {k:Setting->Sem α} (h:∀u,Tame (k u)):Tame (.ask k)
 |handled {o:Bool} {k:Option Value->Sem α} (h:∀u,Tame (k u)):Tame (.handled o k)
 |register {a:Addr} {k:Unit->Sem α}:Tame (.register a k)
 |loadIfAlive {a:Addr} {k:Option Obj->Sem α} (h:∀u,Tame (k u)):Tame (.loadIfAlive a k)
 |stack {k:List (Code×Pos)->Sem α} (h:∀u,Tame (k u)):Tame (.stack k)
theorem Tame.bind{α β:Type}{t:Sem α}{f:α->Sem β}(h:Tame t)(hf:∀a,Tame (f a)):Tame (t >>= f):=by
 induction h with
 |pure a=>exact hf a
 |raise e=>exact .raise e
 |unsupported x=>exact .unsupported x
 |rule _ ih=>exact .rule ih
 |«at» _ ih=>exact .at ih
 |load _ ih=>exact .load ih
 |update d fr _ ih=>exact .update d fr ih
 |alloc _ ih=>exact .alloc ih
 |point _ ih=>exact .point ih
 |fresh _ ih=>exact .fresh ih
 |ask _ ih=>exact .ask ih
 |handled _ ih=>exact .handled ih
 |register=>exact .register
 |loadIfAlive _ ih=>exact .loadIfAlive ih
 |stack _ ih=>exact .stack ih
theorem Tame.wp{α:Type}{M:Model}{Γ:PySem.Ctx}{Q:α->Pos->Shared->Prop}{E:Value->Pos->Shared->Prop}{t:Sem α}(h:Tame t):∀{p:Pos}{s:Shared},Sem.wp M Γ t Q E p s->Sem.wp M Γ t (fun a p' s'=>Q a p' s'/\DK s.heap s'.heap) (fun e p' s'=>E e p' s'/\DK s.heap s'.heap) p s:=by
 have up:∀{α:Type}{t:Sem α}{Q:α->Pos->Shared->Prop}{E:Value->Pos->Shared->Prop}{p:Pos}{s:Shared}{h:Heap},DK h s.heap->Sem.wp M Γ t (fun a p' s'=>Q a p' s'/\DK s.heap s'.heap) (fun e p' s'=>E e p' s'/\DK s.heap s'.heap) p s->Sem.wp M Γ t (fun a p' s'=>Q a p' s'/\DK h s'.heap) (fun e p' s'=>E e p' s'/\DK h s'.heap) p s :=
  fun d z=>Sem.wp_mono M Γ _ (fun _ _ _ q=>⟨q.1,d.trans q.2⟩) (fun _ _ _ q=>⟨q.1,d.trans q.2⟩) _ _ z
 induction h with
 |pure a=>intro p s z;exact⟨z,DK.refl _⟩
 |raise e=>intro p s z;exact⟨z,DK.refl _⟩
 |unsupported x=>intro p s z;exact z
 |rule _ ih=>intro p s z;exact ih _ z
 |«at» _ ih=>intro p s z;exact ih _ z
 |load _ ih=>intro p s ⟨o,e,z⟩;exact⟨o,e,ih _ z⟩
 |@update a x f k d fr _ ih=>
  intro p s ⟨e,z⟩
  refine⟨e,up (h:=s.heap) ?_ (ih _ z)⟩
  intro b o q
  by_cases c:b=a
  ·subst c
   have hf:=(Heap.get?_some_iff.mp q).2
   exact⟨f o,Heap.get?_update_self _ q (fr o hf),d o⟩
  ·exact⟨o,(Heap.get?_update_ne _ _ _ _ c).trans q,rfl⟩
 |@alloc o k _ ih=>
  intro p s z
  show Sem.wp M Γ (k s.heap.objs.size) _ _ p {s with heap:=s.heap.push o}
  refine up (h:=s.heap) ?_ (ih _ z)
  exact fun b o q=>⟨o,Heap.get?_push_of_some _ q,rfl⟩
 |point _ ih=>intro p s z;exact ih _ z
 |fresh _ ih=>intro p s z;exact ih _ z
 |ask _ ih=>intro p s z;exact ih _ z
 |handled _ ih=>intro p s z;exact ih _ z
 |register=>intro p s z;exact z
 |loadIfAlive _ ih=>intro p s z;exact ih _ z
 |stack _ ih=>intro p s z;exact ih _ z
theorem Tame.any{α:Type}{M:Model}{A:Around}{Q:α->Shared->Prop}{E:Value->Shared->Prop}{t:Sem α}{s:Shared}(h:Tame t)(z:wpAny M A t Q E s):wpAny M A t (fun a s'=>Q a s'/\DK s.heap s'.heap) (fun e s'=>E e s'/\DK s.heap s'.heap) s:=fun Γ p hΓ=>h.wp (z Γ p hΓ)
theorem B8{a:Addr}:Tame (load a):=.load fun _=>.pure _
theorem Bs{a:Addr}{x:Option Value}:Tame (loadPart a x):=.load fun _=>.pure _
theorem Cc{o:Obj}:Tame (alloc o):=.alloc fun _=>.pure _
theorem Cd:Tame stack:=.stack fun _=>.pure _
theorem Bt{a:Addr}:Tame (register a):=.register
theorem BX{α:Type}{x:String}:Tame (unsupported x:Sem α):=.unsupported _
theorem Cy{α:Type}{x:α}:Tame (pure x:Sem α):=.pure _
theorem Cz{x:String}:Tame (rule x):=.rule fun _=>.pure _
theorem OT(f:Array Value->Array Value)(o:Obj):(Obj.mapFields f o).dict=o.dict:=by
 obtain⟨c,d,dt,sl⟩:=o
 cases dt<;>rfl
theorem OU(f:Array Value->Array Value)(o:Obj)(h:o.isFreed=false):(Obj.mapFields f o).isFreed=false:=by
 obtain⟨c,d,dt,sl⟩:=o
 cases dt<;>first|rfl|exact h
theorem CA{a:Addr}{f:Array Value->Array Value}:Tame (update a (Obj.mapFields f)):=.update (OT f) (OU f) fun _=>.pure _
theorem FZ{v:Value}{i:Nat}:Tame (field v i):=by
 unfold field fieldsOf
 repeat' (first|exact B8|exact Bs|exact Cc|exact Cd|exact Bt|exact BX|exact Cy|exact Cz|exact CA|assumption|refine Tame.bind ?_ fun _=>?_|split|(intro _)|(dsimp only))
theorem HN{a:Addr}{i:Nat}{x:Value}:Tame (updateField a i x):=by
 unfold updateField
 repeat' (first|exact B8|exact Bs|exact Cc|exact Cd|exact Bt|exact BX|exact Cy|exact Cz|exact CA|assumption|refine Tame.bind ?_ fun _=>?_|split|(intro _)|(dsimp only))
theorem Gu{v x:Value}{i:Nat}:Tame (setField v i x):=by
 unfold setField
 split
 ·exact HN
 ·exact BX
theorem Jl{x:String}{vs:List Value}:Tame (newFields x vs):=by
 unfold newFields newObj newObjAsIs classHasDel
 repeat' (first|exact B8|exact Bs|exact Cc|exact Cd|exact Bt|exact BX|exact Cy|exact Cz|exact CA|assumption|refine Tame.bind ?_ fun _=>?_|split|(intro _)|(dsimp only))
theorem Jm:Tame frameEnvs:=by
 unfold frameEnvs
 repeat' (first|exact B8|exact Bs|exact Cc|exact Cd|exact Bt|exact BX|exact Cy|exact Cz|exact CA|assumption|refine Tame.bind ?_ fun _=>?_|split|(intro _)|(dsimp only))
theorem Ka{env:Env}{b:Bool}{l:List Env}:Tame (keptBack env b l):=by
 cases l with
 |nil=>unfold keptBack underTheClaimsCaller;repeat' (first|exact B8|exact Bs|exact Cc|exact Cd|exact Bt|exact BX|exact Cy|exact Cz|exact CA|assumption|refine Tame.bind ?_ fun _=>?_|split|(intro _)|(dsimp only))
 |cons c l=>exact .pure _
theorem Mc{env:Env}{l:List Env}:Tame (behindIsImport env l):=by
 have:=@FZ env.code 12
 unfold behindIsImport
 repeat' (first|exact B8|exact Bs|exact Cc|exact Cd|exact Bt|exact BX|exact Cy|exact Cz|exact CA|assumption|refine Tame.bind ?_ fun _=>?_|split|(intro _)|(dsimp only))
theorem IA:∀l:List Env,Tame (readyFrames l)
 |[]=>.pure _
 |env::outer=>by
  have h1:=IA outer
  have h2:=@Mc env outer
  have h3:=fun b=>@Ka env b outer
  unfold readyFrames
  split
  ·refine Tame.bind B8 fun o=>?_
   split
   ·exact .pure _
   ·exact Tame.bind h2 fun b=>Tame.bind (h3 b) fun v=>Tame.bind (.update (fun _=>rfl) (fun o h=>by obtain⟨c,d,dt,sl⟩:=o;cases dt<;>first|rfl|exact h) fun _=>.pure _) fun _=>h1
  ·exact BX
theorem KQ{env:Env}:Tame (PySem.frameOf env):=by
 have h1:=Jm
 unfold PySem.frameOf
 refine Tame.bind h1 fun l=>?_
 refine Tame.bind ?_ fun o=>?_
 ·cases List.dropWhile (fun x=>x.frame != env.frame) l with
  |nil=>exact .pure _
  |cons e r=>unfold frameObject;exact Tame.bind (IA _) fun _=>.pure _
 ·cases o<;>first|exact .pure _|exact .unsupported _
theorem NC{f:Addr}{b:Bool}:Tame (entryPlaceOf f b):=by
 unfold entryPlaceOf
 repeat' (first|exact B8|exact Bs|exact Cc|exact Cd|exact Bt|exact BX|exact Cy|exact Cz|exact CA|assumption|refine Tame.bind ?_ fun _=>?_|split|(intro _)|(dsimp only))
theorem Jn{e:Value}{f:Option Addr}:Tame (setFlight e f):=by
 have h1:=@FZ e 1
 have h2:=fun v x=>@Gu v x 3
 unfold setFlight
 refine Tame.bind h1 fun v=>?_
 split
 ·exact h2 _ _
 ·exact .pure _
theorem Jo{e:Value}{env:Env}:Tame (noteFrame e env):=by
 have h1:=fun v i=>@FZ v i
 have h2:=fun v x i=>@Gu v x i
 have h3:=KQ (env:=env)
 have h4:=fun f b=>@NC f b
 unfold noteFrame
 split
 ·refine Tame.bind (h1 _ _) fun v=>?_
  have h5:∀f,Tame (do setField e 1 (<- EntryCells.newEntry v (<- PySem.frameOf env) .none (rawInt f) .none (<- entryPlaceOf f (v != .none)))):=fun f=>Tame.bind h3 fun _=>Tame.bind (h4 _ _) fun _=>Tame.bind Jl fun _=>h2 _ _ _
  dsimp only
  split
  ·refine Tame.bind (h1 _ _) fun v=>?_
   split
   ·exact .pure _
   ·exact Tame.bind (h2 _ _ _) fun _=>h5 _
  ·exact h5 _
 ·exact BX
theorem GB{e:Value}{env:Env}:Tame (leaving env e):=Tame.bind Jo fun _=>Jn
theorem ObjOk.there{P:Program}{w:World}{H:Hp}{h:Heap}{a:Addr}{o:HO}(x:ObjOk P w H h a o):∃ob,h.get? a=some ob:=by
 induction o with
 |lst xs=>obtain⟨_,_,_,_,e⟩:=x;exact⟨_,e⟩
 |tup xs=>obtain⟨_,_,_,ob,e,_⟩:=x;exact⟨_,e⟩
 |dK kvs=>obtain⟨_,_,_,_,ob,_,_,e,_⟩:=x;exact⟨_,e⟩
 |dT kvs=>obtain⟨_,_,_,_,ob,_,_,e,_⟩:=x;exact⟨_,e⟩
 |set S n=>obtain⟨ob,_,_,_,e,_⟩:=x;exact⟨_,e⟩
 |ins C dx fs=>obtain⟨_,_,_,e,_⟩:=x;exact⟨_,e⟩
 |own y=>exact x
 |xd fs=>obtain⟨_,⟨od,_,_,e,_⟩,_⟩:=x;exact⟨_,e⟩
 |rng lo hi=>obtain⟨_,_,_,e⟩:=x;exact⟨_,e⟩
 |frz ob u _=>exact⟨_,x.1⟩
 |tbl ps=>exact⟨_,x⟩
 |met f y=>exact⟨_,x⟩
 |ext φ=>exact x.2.1
theorem HOk.hide{P:Program}{w:World}{H:Hp}{h:Heap}(x:HOk P w H h){fs:List Addr}(hf:∀b∈fs,H b=none):HOk P w H (hideAll h fs):=fun a o e=>
 (x a o e).stay (fun b u hb q=>hideAll_get _ q fun z=>by
  have n:=hf b z
  rcases hb with rfl|hb
  ·rw[n]at e;cases e
  ·rw[n]at hb;cases hb) (fun _ q=>q) fun _ _ q=>q
abbrev CXe(P:Program)(w:World):CXT:=fun outer H s E ev s'=>∃(e:Addr)(cls a0:Value)(H':Hp)(B:Heap)(od:Option Addr),ev=.ref e/\s'.os=s.os/\AllBare s'.gens/\Heap.FlyingW B outer e cls a0 s'.heap/\HOk P w H' B/\H' e=none /\
 (∀b o,s.heap.get? b=some o->H b=none->b∉frs outer->B.get? b=some o)/\(∀b o,s.heap.get? b=some o->H b=none->b∈frs outer->∃sl,s'.heap.get? b=some {o with slots:=sl}) /\
 (∀b o,s.heap.get? b=some o->H b=none->H' b=none)/\(∀b o,s.heap.get? b=some o->b∉frs outer->∃o',B.get? b=some o') /\
 (∀b xs,H b=some (.tup xs)->H' b=some (.tup xs))/\(∀b o u,H b=some (.frz o u)->H' b=some (.frz o u))/\(∀b ps,H b=some (.tbl ps)->∃more,H' b=some (.tbl (ps++more)))/\(∀dx,od=some dx->∃oe,s'.heap.get? e=some oe/\oe.dict=some dx)/\E cls od H'
abbrev NE(X:Cx)(E:XK):Prop:=∀(pins:List (Addr×Obj))(σ:St)(H:Hp)(s:Shared)(h':Heap)(e C:Addr)(vs:List Value),Inv X pins σ H s->Heap.MadeExcOf s.heap h' e (.ref C) vs->E (.ref C) none H->X.xe (.ref e) {s with heap:=h'}
section
variable{P:Program}{w:World}{K:Frag}{mg:Str->Option Value}{base:Heap}{N:List Str}{qual:Str}{scope:Scope}{f:Addr}{cd:Value}{A:Around}{outer:List Env}{s₀:Shared}{H₀:Hp}{E E':XK}
theorem Qt(hE:∀c d H,E c d H->E' c d H):NE (AM (CXe P w) P w K mg base N qual scope f cd A outer s₀ H₀ E') E:=by
 intro pins σ H s h' e C vs I hx he
 show wpAny _ _ (leaving _ (.ref e)) _ _ _
 have hfr:∀env∈(AM (CXe P w) P w K mg base N qual scope f cd A outer s₀ H₀ E').stack,∀b,env.frame=some b->b∈frs (AM (CXe P w) P w K mg base N qual scope f cd A outer s₀ H₀ E').stack:=fun env h b hb=>aaO.mpr ⟨env,h,hb⟩
 have hB:=I.hok.hide I.stkFree
 have hff:=funFrames_hide I.stack hfr
 have en:H e=none:=by
  cases q:H e with
  |none=>rfl
  |some o=>obtain⟨ob,z⟩:=(I.hok e o q).there;rw[hx.new]at z;cases z
 refine wpAny_leaves_madeW (base:=hideAll s.heap (frs (AM (CXe P w) P w K mg base N qual scope f cd A outer s₀ H₀ E').stack)) I.ok.frames rfl (fun b o q=>of_hideAll _ q) hff hx fun h2 t fl _ _ up=>?_
 have sub:∀b∈frs outer,b∈frs (AM (CXe P w) P w K mg base N qual scope f cd A outer s₀ H₀ E').stack:=fun b hb=>by
  obtain⟨env,h1,h2⟩:=aaO.mp hb
  exact aaO.mpr ⟨env,aaa _ h1,h2⟩
 have nloc:∀b o,s₀.heap.get? b=some o->b≠s₀.heap.objs.size:=fun b o q z=>by
  have:=Heap.lt_size q
  exact aaX _ (z▸this)
 have nfr:∀b o,s₀.heap.get? b=some o->b∉frs outer->b∉frs (AM (CXe P w) P w K mg base N qual scope f cd A outer s₀ H₀ E').stack:=fun b o q hb z=>by
  obtain⟨env,h1,h2⟩:=aaO.mp z
  rcases aak.mp h1 with rfl|h1
  ·exact nloc b o q (Option.some.inj h2).symm
  ·exact hb (aaO.mpr ⟨env,h1,h2⟩)
 have nx:∀b:Addr,b∉(AM (CXe P w) P w K mg base N qual scope f cd A outer s₀ H₀ E').ex:=fun b z=>absurd (show b∈([]:List Addr) from z) (by simp)
 refine⟨e,.ref C,.ref t,H,_,none,rfl,I.os,I.bare,fl,hB,en,fun b o q n hb=>hideAll_get _ (I.base.keep b o q n hb (nx b)) (nfr b o q hb),fun b o q n hb=>?_,fun b o q n=>I.base.free b o q n (nx b),fun b o q hb=>?_,I.base.tups,I.base.frzs,I.base.tbls,(fun _ z=>nomatch z),hE _ _ _ he⟩
 ·obtain⟨sl,e1⟩:=I.base.slot b o q n hb (nx b)
  obtain⟨⟨hn,o2,ho2,hnf⟩⟩:=And.intro (I.stack.mem (sub b hb)) trivial
  rw[e1]at ho2
  cases ho2
  obtain⟨sl2,e2⟩:=up b _ (hx.keeps b _ e1) hnf
  exact⟨sl2,e2⟩
 ·obtain⟨o',e1⟩:=I.base.there b o q (nx b)
  exact⟨o',hideAll_get _ e1 (nfr b o q hb)⟩
theorem RK(hE:∀c d H,E c d H->E' c d H):Vb (CXe P w) (AM (CXe P w) P w K mg base N qual scope f cd A outer s₀ H₀ E') E:=by
 intro pins σ H s ev s' I h
 obtain⟨e,cls,a0,H',B,od,rfl,ho,hg,fl,hok,en,keep,slot,free,there,tups,frzs,tbls,hdd,he⟩:=h
 show wpAny _ _ (leaving _ (.ref e)) _ _ _
 refine wpAny_mono (GB.any (wpAny_leaves_onW (Q:=fun _ s2=>∃h2,s2={s' with heap:=h2}/\Heap.FlyingW B outer e cls a0 h2/\s'.heap.UpToSlots h2) (base:=B) I.ok.frames rfl fl fun h2 fl2 up=>⟨h2,rfl,fl2,up⟩)) (fun _ s2 q2=>?_) fun _ _ z=>z.1
 obtain⟨⟨h2,rfl,fl2,up⟩,dk⟩:=q2
 have sub:∀b∈frs outer,b∈frs (AM (CXe P w) P w K mg base N qual scope f cd A outer s₀ H₀ E').stack:=fun b hb=>by
  obtain⟨env,h1,h2⟩:=aaO.mp hb
  exact aaO.mpr ⟨env,aaa _ h1,h2⟩
 have nfr:∀b o,s₀.heap.get? b=some o->b∉frs outer->b∉frs (AM (CXe P w) P w K mg base N qual scope f cd A outer s₀ H₀ E').stack:=fun b o q hb z=>by
  obtain⟨env,h1,h2⟩:=aaO.mp z
  rcases aak.mp h1 with rfl|h1
  ·exact aaX _ ((Option.some.inj h2).symm▸Heap.lt_size q)
  ·exact hb (aaO.mpr ⟨env,h1,h2⟩)
 have nx:∀b:Addr,b∉(AM (CXe P w) P w K mg base N qual scope f cd A outer s₀ H₀ E').ex:=fun b z=>absurd (show b∈([]:List Addr) from z) (by simp)
 have frNF:∀b o,s'.heap.get? b=some o->b∈frs (AM (CXe P w) P w K mg base N qual scope f cd A outer s₀ H₀ E').stack->∃sl,h2.get? b=some {o with slots:=sl}:=fun b o q hb=>by
  obtain⟨hn,o2,ho2,hnf⟩:=fl.2.2.1.mem hb
  rw[q]at ho2
  cases ho2
  exact up b _ q hnf
 refine⟨e,cls,a0,H',B,od,rfl,ho.trans I.os,hg,fl2,hok,en,fun b o q n hb=>keep b o (I.base.keep b o q n hb (nx b)) (I.base.free b o q n (nx b)) (nfr b o q hb),fun b o q n hb=>?_,
  fun b o q n=>?_,fun b o q hb=>?_,fun b xs q=>tups b xs (I.base.tups b xs q),fun b o u q=>frzs b o u (I.base.frzs b o u q),fun b ps q=>?_,fun dx z=>(by obtain⟨oe,q1,q2⟩:=hdd dx z;obtain⟨o',q3,q4⟩:=dk e oe q1;exact⟨o',q3,q4.trans q2⟩),hE _ _ _ he⟩
 ·obtain⟨sl,e1⟩:=I.base.slot b o q n hb (nx b)
  obtain⟨sl1,e2⟩:=slot b _ e1 (I.base.free b o q n (nx b)) (sub b hb)
  obtain⟨sl2,e3⟩:=frNF b _ e2 (sub b hb)
  exact⟨sl2,e3⟩
 ·obtain⟨o',e1⟩:=I.base.there b o q (nx b)
  exact free b o' e1 (I.base.free b o q n (nx b))
 ·obtain⟨o',e1⟩:=I.base.there b o q (nx b)
  exact there b o' e1 (nfr b o q hb)
 ·obtain⟨m1,e1⟩:=I.base.tbls b ps q
  obtain⟨m2,e2⟩:=tbls b _ e1
  exact⟨m1++m2,by rw[e2,Array.append_assoc]⟩
end
section
variable{X:Cx}{C:Addr}{x:Str}{e:Expr}{es:List Expr}{t:TA}{E:XK}{np cpos pos:Pos}
@[reducible]def D1:List Value:=[.type "ValueError",.type "Exception",.type "BaseException",.type "object"]
theorem Vj{h:Heap}(KX:X.K.In h)(G:h.Ns mainGlobals X.mg)(B:∃mb,h.Ns builtinsNs mb/\∀x:Str,x≠"__name__" -> mb x=bootBuiltins x)(L:h.NoLimit)(hm:nsIn X.K mainGlobals x=some (some (.ref C)))(hC:excIn X.K C D1 "ValueError.__new__" = true) :
  OwnCls x C D1 "ValueError.__new__" X.mg h:=by
 obtain⟨mb,Bn,hb⟩:=B
 obtain⟨o,es,ep,ho,hd,hs,hf⟩:=id G
 have T:TopRead default (es.toList.filterMap fun d=>match d.key with|.str n _=>some n|_=>none) X.mg mb h:=⟨G,Bn,L,hb,fun y _ hy _ _ _=>by
  rw[<- hf y]
  unfold nsFind findBy
  rw[Option.map_eq_none_iff,Array.find?_eq_none]
  intro d hm hy2
  obtain⟨n,tk,ek⟩:=hs d hm
  rw[ek]at hy2
  have en:n=y:=by simpa[Value.isStr] using hy2
  exact hy (aaO.mpr ⟨d,by simpa using hm,by rw[ek,en]⟩)⟩
 exact own_of_in KX T hm hC
theorem Qu(hw:NE X E)(hc:X.calm=true)(hg:Gl X x)(hn:nsIn X.K mainGlobals x=some (some (.ref C)))(hC:excIn X.K C D1 "ValueError.__new__" = true)(ha:PA X (e::es) t)(hd:(x==("__debug__" : Str))=false:=by decide)
  (he:starEach (e::es) X.env=(false,eval e X.env)::starEach es X.env:=by rfl) (hpl:(backTo cpos (starEach es X.env)).any (·.1)=false:=by rfl) :
  PS X (.Raise (some (.Call (.Name x np) (e::es) [] cpos)) none pos) (fun D σ H=>t σ H fun vs H1=>vs.length<=sizeLine/\E (.ref C) none H1):=by
 intro pins s σ H D I h
 have O:=Vj (X:=X) I.mod.kin I.mod.glob I.mod.blt I.mod.nolimit hn hC
 obtain⟨bm,N',nm,q,bs,hdct,sn,sub,ab,col,dd,k0,k1,k2,k3,k5,mN,hCo,hN,hni,T⟩:=O.obj
 refine wpAny_Raise_call_subT (nm:=nm) (q:=q) (N:=N') (bs:=bs) (bm:=bm) (hdct:=hdct) (sn:=sn) (sub:=sub) (ab:=ab) (col:=col) (dd:=dd) (k0:=k0) (k1:=k1) (k2:=k2) (k3:=k3) (k5:=k5) PySem.F.excBase_ValueError (mN:=mN) (T.hasType rfl) (I.ok.hd hc) (by rw[he];exact hpl) hni (Jh I hg O.bound ⟨rfl,?_⟩ hd)
 have h2:=ha cpos pins s σ H _ I h
 rw[he]at h2 ⊢
 exact Calls.evalArgs_plain (thn h2 fun us s1 ⟨vs,H1,I1,r,q⟩=>⟨rfl,r.length▸q.1,I1.bk _ _ hCo,hN.keeps I1.bk,T.keeps I1.bk,fun h' ex hx=>hw pins σ H1 s1 h' ex C us I1 hx q.2⟩)
end
@[reducible]noncomputable def EXT:=St->XK
abbrev GC(CX:CXT)(X:Cx)(E:EXT):Prop:=∀(pins:List (Addr×Obj))(σ:St)(H:Hp)(s:Shared)(e:Value)(s':Shared),Inv X pins σ H s->CX X.stack H s (E σ) e s'->X.xe e s'
abbrev OV(sp:Sp)(dvs:List V)(E:EXT)(t:TA):TE:=fun σ H Q=>t σ H fun vs H1=>sp (vs++dvs) H1 Q (E σ)
section
variable{X:Cx}{CX:CXT}{k:Nat}{f:Addr}{fd:FuncData}{ps:List Str}{sp:Sp}{dvs:List V}{ds:List Value}{E:EXT}{x:Str}{p pos:Pos}{e:Expr}{es:List Expr}{t:TA}
theorem Qv(F:FnOk X.prog X.w X.K X.mg X.base CX k f fd ps sp)(hr:Room k X.A)(hg:Gl X x)(hm:X.mg x=some (.ref f))(hk:PySem.W.keepIn X.K (.ref f)=true)(hb:Binds X.K fd ps ds)(hd:Vals dvs ds)(hx:GC CX X E)
  (ha:PA X (e::es) t) (hdb:(x==("__debug__" : Str))=false:=by decide) (he:starEach (e::es) X.env=(false,eval e X.env)::starEach es X.env:=by rfl) (hpl:(backTo pos (starEach es X.env)).any (·.1)=false:=by rfl) :
  PE X (.Call (.Name x p) (e::es) [] pos) (OV sp dvs E t):=by
 intro pins s σ H Q I h
 refine wpAny_Call_Name_kw (Jh I hg hm ?_ hdb)
 refine PySem.W.callWith_K (h₀:=X.base) I.ok.mod.kin hk (thn (ha pos pins s σ H _ I h) fun us s1 ⟨vs,H1,I1,r,q⟩=>⟨I1.kIn,?_⟩) he hpl
 have r2:Vals (vs++dvs) (us++ds):=r.append hd
 have hl:(us++ds).length=ps.length:=r2.length▸F.len _ _ _ _ q
 refine wpAny_call (codeAny_mono (F.run X.A X.stack s1 H1 ⟨us,[]⟩ (us++ds) (vs++dvs) Q (E σ) hr I1.env0 (hb s1 us I1.kIn hl) r2 q) fun rr s' hq=>?_)
 rcases rr with ev|fl
 ·exact hx pins σ H1 s1 ev s' I1 hq
 ·cases fl with
  |ret u=>exact I1.after hq
  |next=>exact False.elim hq
  |brk=>exact False.elim hq
  |cont=>exact False.elim hq
end
@[reducible]noncomputable def MG(ifs:List Expr)(env:Env):Sem Bool:=forIn ifs true fun c r=>if r=true then do let ok <- isTrue c env (eval c env);pure (ForInStep.yield ok) else pure (ForInStep.yield r)
section
variable{prog:Program}{w:World}{A:Around}{R:Result->Shared->Prop}{s:Shared}{elt tg iter:Expr}{ifs:List Expr}{scope:Scope}{pos:Pos}{it acc:Value}{env:Env}
theorem KR(I:Nat->Shared->Prop)
  (turn:∀n s,I n s->wpAny (model prog w) A (pyNext it) (fun r s1=>match r with
   |none=>R (.ok .next) s1
   |some v=>wpAny (model prog w) A (letOwnedTupleGo tg it v) (fun _ s2=>wpAny (model prog w) A (assign tg env v) (fun _ s3=>wpAny (model prog w) A (MG ifs env) (fun ok s4=>
     if ok=true then wpAny (model prog w) A (eval elt env) (fun x s5=>wpAny (model prog w) A (call (.builtin "list.append") [acc,x]) (fun _ s6=>∃m,m<n/\I m s6) (fun _ _=>False) s5) (fun _ _=>False) s4
     else ∃m,m<n/\I m s4) (fun _ _=>False) s3) (fun _ _=>False) s2) (fun _ _=>False) s1) (fun _ _=>False) s) (n:Nat) (h:I n s) :
  codeAny (model prog w) A (.compLoop (.ListComp elt [⟨tg,iter,ifs,0⟩] scope pos) 0 it acc env) R s:=by
 refine codeAny_loop rfl I (fun k s' hk=>?_) n h
 show wpAny _ A ((compTurn (.ListComp elt [⟨tg,iter,ifs,0⟩] scope pos) 0 it acc env).onRaise (fun z=>do noteFrame z env;theTreesLotGoes z)) _ _ s'
 refine wpAny_noted ?_
 rw[compTurn_list]
 have no:∀{Z:Value->Shared->Prop}(x:Value)(t:Shared),False->Z x t:=fun _ _ z=>z.elim
 refine wpAny_bind (wpAny_standAt ?_)
 refine wpAny_bind (wpAny_mono (turn k s' hk) (fun r s1 h1=>?_) no)
 rcases r with _|v
 ·exact wpAny_pure h1
 ·refine wpAny_bind (wpAny_mono h1 (fun _ s2 h2=>?_) no)
  refine wpAny_bind (wpAny_mono h2 (fun _ s3 h3=>?_) no)
  refine wpAny_bind (wpAny_mono h3 (fun ok s4 h4=>?_) no)
  cases ok with
  |false=>exact wpAny_pure ⟨rfl,h4⟩
  |true=>
   refine wpAny_bind ?_
   refine wpAny_bind (wpAny_mono h4 (fun x s5 h5=>?_) no)
   exact wpAny_bind (wpAny_mono h5 (fun _ s6 h6=>wpAny_pure (wpAny_pure ⟨rfl,h6⟩)) no)
abbrev CB(env:Env)(names:List (Str×NameKind))(cs:List (Str×Addr)):List (Str×Addr):=names.foldl (fun cs x=>if(x.2==NameKind.free)=true then(x.1,(env.cells.lookup x.1).getD 0)::cs else cs) cs
theorem IB{α β:Type}(f:α->β->Sem (ForInStep β))(g:β->α->β):∀(l:List α)(b:β),(∀x∈l,∀b,f x b=pure (ForInStep.yield (g b x)))->forIn l b f=pure (l.foldl g b)
 |[],b,_=>rfl
 |x::l,b,h=>by
  rw[List.forIn_cons,h x (aac ..) b,abZ]
  exact IB f g l (g b x) fun y hy=>h y (aaa _ hy)
theorem NF(h:∀x∈scope.names,x.2=.free->(env.cells.lookup x.1).isSome=true):closureFor scope env=pure (CB env scope.names []):=by
 unfold closureFor CB
 dsimp only
 rw[IB _ (fun cs x=>if(x.2==NameKind.free)=true then(x.1,(env.cells.lookup x.1).getD 0)::cs else cs)]
 ·rfl
 ·rintro⟨n,k⟩ hx cs
  by_cases hk:(k==NameKind.free)=true
  ·obtain⟨c,hc⟩:=aaN.mp (h (n,k) hx (beq_iff_eq.mp hk))
   have hc':List.lookup n env.cells=some c:=hc
   dsimp only
   rw[if_pos hk,if_pos hk]
   unfold cellOf
   rw[hc']
   rfl
  ·dsimp only
   rw[if_neg hk,if_neg hk]
theorem DC(h:∀x∈scope.names,x.2=.free->(env.cells.lookup x.1).isSome=true){x:Str}{c:Addr}(e:(CB env scope.names []).lookup x=some c):env.cells.lookup x=some c:=by
 have gen:∀(l:List (Str×NameKind))(cs:List (Str×Addr)),(∀y∈l,y.2=.free->(env.cells.lookup y.1).isSome=true)->(∀p∈cs,env.cells.lookup p.1=some p.2)->∀p∈CB env l cs,env.cells.lookup p.1=some p.2:=by
  intro l
  induction l with
  |nil=>intro cs _ hc;exact hc
  |cons y l ih=>
   intro cs hl hc
   unfold CB
   rw[abZ]
   refine ih _ (fun z hz=>hl z (aaa _ hz)) fun p hp=>?_
   split at hp
   ·rename_i hk
    rcases aak.mp hp with rfl|hp
    ·obtain⟨c',hc'⟩:=aaN.mp (hl y (aac ..) (beq_iff_eq.mp hk))
     show env.cells.lookup y.1=some ((env.cells.lookup y.1).getD 0)
     rw[hc'];rfl
    ·exact hc p hp
   ·exact hc p hp
 exact gen scope.names [] h (fun p hp=>nomatch hp) (x,c) (PySem.mem_of_lookup e)
theorem IC{x:Str}{c:Addr}(hm:(x,NameKind.free)∈scope.names)(h:∀x∈scope.names,x.2=.free->(env.cells.lookup x.1).isSome=true)(e:env.cells.lookup x=some c):(CB env scope.names []).lookup x=some c:=by
 have gen:∀(l:List (Str×NameKind))(cs:List (Str×Addr)),((x,NameKind.free)∈l\/∃d,(x,d)∈cs)->∃d,(x,d)∈CB env l cs:=by
  intro l
  induction l with
  |nil=>intro cs hc;rcases hc with z|z;cases z;exact z
  |cons y l ih=>
   intro cs hc
   unfold CB
   rw[abZ]
   refine ih _ ?_
   rcases hc with hc|⟨d,hc⟩
   ·rcases aak.mp hc with rfl|hc
    ·exact .inr ⟨_,by rw[if_pos (by rfl)];exact aac ..⟩
    ·exact .inl hc
   ·refine .inr ⟨d,?_⟩
    split
    ·exact aaa _ hc
    ·exact hc
 obtain⟨d,hd⟩:=gen scope.names [] (.inl hm)
 cases q:(CB env scope.names []).lookup x with
 |none=>
  rw[List.lookup_eq_none_iff]at q
  have:=q _ hd
  simp at this
 |some c'=>exact(DC h q).symm.trans e▸rfl
end
structure Bk where
 (C:Addr)
 (fp:List Addr)
 (s:Shared)
 (H:Hp)
@[reducible]noncomputable def Cx.blk(X:Cx)(scope:Scope)(C:Addr)(fp:List Addr)(N:List Str)(s:Shared)(H:Hp):Cx :=
 {X with N:=N,s₀:=s,H₀:=H,env:=compEnvC scope (CB X.env scope.names []) C X.env,outer:=X.stack,ex:=fp,fn:=fun _=>false,pn:=[],xe:=fun _ _=>False}
abbrev PTs(X:Cx)(ifs:List Expr)(t:TT):Prop :=
 ∀(pins:List (Addr×Obj))(s:Shared)(σ:St)(H:Hp)(Q:Bool->Hp->Prop),Inv X pins σ H s->t σ H Q->wpAny (model X.prog X.w) X.A (MG ifs X.env) (TP X pins σ Q) X.xe s
abbrev RL:TT:=fun _ H Q=>Q true H
theorem MH{X:Cx}:PTs X [] RL:=fun _ _ _ H _ I h=>wpAny_tests_nil ⟨H,I,h⟩
theorem Jp{X:Cx}{c:Expr}{t:TT}(h:PT X c t):PTs X [c] t:=fun pins s σ H Q I q=>wpAny_tests_one (h pins s σ H Q I q)
abbrev Do(nl:Nat)(fr:List Nat)(σ:St):St:=aam nl none++fr.map fun j=>(σ[j]?).join
abbrev Fm(nl:Nat)(fr:List Nat)(wi:TI)(gz:Bk->TG)(tcz:Bk->TT)(tez:Bk->TE):TE:=fun σ H Q=>wi σ H fun J H1=>∀(z:Bk)(D:Addr),H1 D=none->∃W:Nat->Nat->List V->Hp->Prop,(∃m,W 0 m [] (upd H1 D (.lst [])))/\∀i m acc H2,W i m acc H2->
 H2 D=some (.lst acc)/\((J.stop i H2/\Q (.ref D) H2)\/(J.go i H2/\∀x H3,J.yld i H2 x H3->gz z x (Do nl fr σ) H3 fun σ4 H4=>tcz z σ4 H4 fun b H5=>
  if b=true then tez z σ4 H5 fun v H6=>H6 D=some (.lst acc)/\acc.length<sizeLine/\∃m',m'<m/\W (i+1) m' (acc++[v]) (upd H6 D (.lst (acc++[v]))) else ∃m',m'<m/\W (i+1) m' acc H5))
mutual
inductive RD(K:Frag)(H:Hp):V->PyData->Prop where
 |non:RD K H .non .none
 |bl (b:Bool):RD K H (.bl b) (.bool b)
 |int (i:Int):RD K H (.int i) (.int i)
 |str (x:Str):RD K H (.str x) (.str x)
 |lst {a:Addr} {xs:List V} {ds:List PyData} (h:SqL K H a xs) (r:RDs K H xs ds):RD K H (.ref a) (.list ds)
 |tup {a:Addr} {xs:List V} {ds:List PyData} (h:SqT K H a xs) (r:RDs K H xs ds):RD K H (.ref a) (.tuple ds)
inductive RDs(K:Frag)(H:Hp):List V->List PyData->Prop where
 |nil:RDs K H [] []
 |cons {x:V} {xs:List V} {d:PyData} {ds:List PyData} (h:RD K H x d) (r:RDs K H xs ds):RDs K H (x::xs) (d::ds)
end
section
variable{X:Cx}{pins:List (Addr×Obj)}{σ:St}{H:Hp}{s:Shared}
mutual
theorem RD.reads(I:Inv X pins σ H s):∀{v:V}{d:PyData}{u:Value},RD X.K H v d->RelV v u->∃as,Reads s.heap u d as
 |_,_,_,.non,r=>by cases (show _=Value.none from r);exact⟨_,.none⟩
 |_,_,_,.bl b,r=>by cases (show _=Value.bool b from r);exact⟨_,.bool b⟩
 |_,_,_,.int i,r=>by obtain⟨t,q⟩:=(show ∃t,_=Value.int i t from r);cases q;exact⟨_,.int i t⟩
 |_,_,_,.str x,r=>by obtain⟨t,q⟩:=(show ∃t,_=Value.str x t from r);cases q;exact⟨_,.str x t⟩
 |_,_,_,.lst (a:=a) h rs,r=>by
  cases (show _=Value.ref a from r)
  obtain⟨its,rv,⟨o,n,hp,hc,_,hd⟩,_⟩:=I.list h
  obtain⟨as,ra⟩:=RDs.reads I rs rv
  exact⟨_,reads_list_at hp hc hd (by simpa using ra)⟩
 |_,_,_,.tup (a:=a) h rs,r=>by
  cases (show _=Value.ref a from r)
  obtain⟨its,rv,⟨o,h1,h2,n,h3⟩,_⟩:=I.tuple h
  obtain⟨as,ra⟩:=RDs.reads I rs rv
  exact⟨_,reads_tuple_at h1 h2 h3 (by simpa using ra)⟩
theorem RDs.reads(I:Inv X pins σ H s):∀{xs:List V}{ds:List PyData}{us:List Value},RDs X.K H xs ds->Vals xs us->∃as,ReadsAll s.heap us ds as
 |_,_,_,.nil,.nil=>⟨_,.nil⟩
 |_,_,_,.cons h r,.cons q t=>by
  obtain⟨as,e1⟩:=RD.reads I h q
  obtain⟨bs,e2⟩:=RDs.reads I r t
  exact⟨_,.cons e1 e2⟩
end
abbrev Vk(K:Frag)(neg:Bool):R2:=fun x y H Q=>∃d e,RD K H x d/\RD K H y e/\SeqAt.shaped d=true/\SeqAt.shaped e=true/\Q (.bl (if neg then !d.eqv e else d.eqv e)) H
theorem Vl(hu:X.A.units+64<cLine):OpR X (compareOp .Eq) (Vk X.K false):=by
 intro pins s σ H x y u w' Q I rx ry h
 obtain⟨d,e,h1,h2,s1,s2,q⟩:=h
 obtain⟨_,r1⟩:=h1.reads I rx
 obtain⟨_,r2⟩:=h2.reads I ry
 exact eq_dataH r1 r2 s1 s2 hu ⟨.bl (d.eqv e),H,I,rfl,q⟩
theorem Vm(hu:X.A.units+64<cLine):OpR X (compareOp .NotEq) (Vk X.K true):=by
 intro pins s σ H x y u w' Q I rx ry h
 obtain⟨d,e,h1,h2,s1,s2,q⟩:=h
 obtain⟨_,r1⟩:=h1.reads I rx
 obtain⟨_,r2⟩:=h2.reads I ry
 exact ne_dataH r1 r2 s1 s2 hu ⟨.bl (!d.eqv e),H,I,rfl,q⟩
end
section
variable{P:Program}{w:World}{K:Frag}{mg:Str->Option Value}{base:Heap}
theorem Fun.okX{x qual:Str}{st:Stmt}{f:Addr}{fd:FuncData}{N ps:List Str}{k:Nat}{sp:Sp}(F:Fun K x qual st f fd)(S:FnScope N ps (Ao st))(len:∀vs H Q E,sp vs H Q E->vs.length=ps.length)
  (hbody:∀(f:Addr)(cdv:Value)(A:Around)(outer:List Env)(s:Shared)(H:Hp)(vs:List V)(Q:VK)(E:XK),Room k (A.deeper (envOfC qual (Ao st) s.heap.objs.size f cdv))->sp vs H Q E->
   ∃t,PSs (AM (CXe P w) P w K mg base N qual (Ao st) f cdv A outer s H E) (AU st) t/\t {nx:=fun _ H'=>Q .non H',rt:=Q} (AS N vs) H):FnOk P w K mg base (CXe P w) (k+1) f fd ps sp:=by
 obtain⟨oc,od,kV,doc,pm,an,cdv,ct,osl,rfl,lk,hcd⟩:=F.ex
 exact WN lk hcd S len fun A outer s H vs Q E hr hsp=>hbody f cdv A outer s H vs Q E hr hsp
abbrev Df(K:Frag)(mg:Str->Option Value)(x:Str)(st:Stmt)(ps:List Str):Prop:=∃f fd,Fun K x x st f fd/\mg x=some (.ref f)/\Binds K fd ps []
abbrev Has(P:Program)(w:World)(K:Frag)(mg:Str->Option Value)(base:Heap)(x:Str)(k:Nat)(ps:List Str)(sp:Sp):Prop :=
 ∃f fd,FnOk P w K mg base (CXe P w) k f fd ps sp/\mg x=some (.ref f)/\PySem.W.keepIn K (.ref f)=true/\Binds K fd ps []
theorem Df.has{x:Str}{st:Stmt}{N ps:List Str}{k:Nat}{sp:Sp}(D:Df K mg x st ps)(S:FnScope N ps (Ao st))(len:∀vs H Q E,sp vs H Q E->vs.length=ps.length)
  (hbody:∀(f:Addr)(cdv:Value)(A:Around)(outer:List Env)(s:Shared)(H:Hp)(vs:List V)(Q:VK)(E:XK),Room k (A.deeper (envOfC x (Ao st) s.heap.objs.size f cdv))->sp vs H Q E->
   ∃t,PSs (AM (CXe P w) P w K mg base N x (Ao st) f cdv A outer s H E) (AU st) t/\t {nx:=fun _ H'=>Q .non H',rt:=Q} (AS N vs) H):Has P w K mg base x (k+1) ps sp:=by
 obtain⟨f,fd,F,m,b⟩:=D
 exact⟨f,fd,F.okX S len hbody,m,F.kp,b⟩
theorem WP{h:Heap}{x:Str}{st:Stmt}{ps:List Str}{f:Addr}{oc:Value}{od an:Option Addr}{osl:Array (Option Value)}{kV doc pm cdv ct:Value}(X:K.In h)(G:h.Ns mainGlobals mg)(a:nsIn K mainGlobals x=some (some (.ref f)))
  (l:K.lookup f=some ⟨oc,od,.func (PySem.W.fnOf x x (Cl st) (AU st) (Ao st) .none kV doc pm an cdv ct),osl⟩) (c:PySem.W.codeIn K cdv x=true) (k:PySem.W.keepIn K (.ref f)=true)
  (hb:∀(kV doc pm:Value)(an:Option Addr)(cdv ct:Value)(us:List Value),us.length=ps.length->bindArgs (PySem.W.fnOf x x (Cl st) (AU st) (Ao st) .none kV doc pm an cdv ct) ⟨us,[]⟩=pure (ps.zip us)):Df K mg x st ps:=by
 have F:=OS (st:=st) l c k
 exact⟨f,_,F,mg_of X G a,F.binds hb⟩
end
section
variable{X:Cx}{k:Nat}{ps:List Str}{sp:Sp}{E:XK}{EX:EXT}{x:Str}{p pos:Pos}{e:Expr}{es:List Expr}{t:TA}
theorem NG(F:Has X.prog X.w X.K X.mg X.base x k ps sp)(hr:Room k X.A)(hg:Gl X x)(hx:GC (CXe X.prog X.w) X EX)(ha:PA X (e::es) t)(hdb:(x==("__debug__" : Str))=false:=by decide)
  (he:starEach (e::es) X.env=(false,eval e X.env)::starEach es X.env:=by rfl) (hpl:(backTo pos (starEach es X.env)).any (·.1)=false:=by rfl):PE X (.Call (.Name x p) (e::es) [] pos) (OV sp [] EX t):=by
 obtain⟨f,fd,F,m,kp,b⟩:=F
 exact Qv F hr hg m kp b .nil hx ha hdb he hpl
end
theorem Same.new{H:Hp}{p:Addr}{o:HO}(h:H p=none):Same H (upd H p o):=fun b u e=>by rw[Ah (AD e h)];exact e
theorem Same.put{H H1:Hp}{p:Addr}{o:HO}(s:Same H H1)(h:H p=none):Same H (upd H1 p o):=fun b u e=>by rw[Ah (AD e h)];exact s b u e
theorem Same.tup{K:Frag}{H H':Hp}{a:Addr}{xs:List V}(e:Same H H')(h:SqT K H a xs):SqT K H' a xs:=by
 rcases h with (h|⟨o,h⟩)|h
 ·exact .inl (.inl (e _ _ h))
 ·exact .inl (.inr ⟨o,e _ _ h⟩)
 ·exact .inr h
mutual
theorem Same.rd{K:Frag}{H H':Hp}(e:Same H H'):∀{x:V}{d:PyData},RD K H x d->RD K H' x d
 |_,_,.non=>.non
 |_,_,.bl b=>.bl b
 |_,_,.int i=>.int i
 |_,_,.str x=>.str x
 |_,_,.lst h r=>.lst (e.seq h) (Same.rds e r)
 |_,_,.tup h r=>.tup (e.tup h) (Same.rds e r)
theorem Same.rds{K:Frag}{H H':Hp}(e:Same H H'):∀{xs:List V}{ds:List PyData},RDs K H xs ds->RDs K H' xs ds
 |_,_,.nil=>.nil
 |_,_,.cons h r=>.cons (Same.rd e h) (Same.rds e r)
end
theorem KS{X:Cx}{use:Option (Value->Sem Unit)}{R:Value->Shared->Prop}{ipos:Pos}{pins:List (Addr×Obj)}{s:Shared}{σ:St}{H:Hp}{Q:VK}{elt tg iter:Expr}{ifs:List Expr}{scope:Scope}{pos:Pos}{wi:TI}{gz:Bk->TG}{tcz:Bk->TT}{tez:Bk->TE}(loc:List Str)(fr:List Nat)(frn:List Str)(hc:X.calm=true)(hi:PI X tg iter wi)
  (hfr:∀(j:Nat)(k:Nat)(x:Str),fr[j]?=some k->frn[j]?=some x->X.N[k]?=some x/\X.env.kindOf x=some .cell/\(x,NameKind.free)∈scope.names) (hln:frn.length=fr.length)
  (hcell:∀y∈scope.names,y.2≠.cell) (hkind:scope.kind=.function) (hnames:∀y∈scope.names,y.2=.local->scope.names.lookup y.1=some .local) (hfree:∀y∈scope.names,y.2=.free->X.env.kindOf y.1=some .cell)
  (hkin:∀(x:Str),x∈frn->(relabel scope X.env).names.lookup x=some .cell) (hsc:X.env.scope.kind=.function)
  (hgk:∀(z:Bk)(v:V)(σ:St)(H:Hp)(Q:St->Hp->Prop),gz z v σ H Q->gz z v σ H fun σ' H'=>Q σ' H'/\σ'.length=σ.length/\∀i,loc.length<=i->σ'[i]?=σ[i]?)
  (hblk:∀(z:Bk),PG (X.blk scope z.C z.fp (loc++frn) z.s z.H) tg (gz z)/\PTs (X.blk scope z.C z.fp (loc++frn) z.s z.H) ifs (tcz z)/\PE (X.blk scope z.C z.fp (loc++frn) z.s z.H) elt (tez z))
  (I:Inv X pins σ H s) (h:Fm loc.length fr wi gz tcz tez σ H Q)
  (haf:∀(D C:Addr)(H':Hp)(s':Shared)(m:Str->Option Value),s'.heap.Ns C m->(∀h',Heap.SameBut C s'.heap h'->Inv X pins σ H' {s' with heap:=h'})->
   (X.s₀.heap.objs.size<=C/\C≠X.env.locals/\(∀x c,X.env.cells.lookup x=some c->c≠C)/\(∀p∈X.pn++pins,p.1≠C)/\H' C=none/\C∉frs X.stack)->Q (.ref D) H'->compPost (model X.prog X.w) X.A X.xe use R (.ref D) C (.ok .next) s')
  (hs:∀x,foldedSetIterable iter X.env x=pure x):wpAny (model X.prog X.w) X.A (comprehension (.ListComp elt [⟨tg,iter,ifs,0⟩] scope pos) scope X.env ipos (newList []) false (eval iter X.env) use) R X.xe s:=by
 have hcs:∀x∈scope.names,x.2=.free->(X.env.cells.lookup x.1).isSome=true:=fun x hx hf=>by
  obtain⟨c,e⟩:=I.ok.has x.1 (.inl (hfree x hx hf))
  rw[e];rfl
 refine wpAny_comprehension_free rfl hs (NF hcs) hkind hnames (thn (hi pins s σ H _ I h) fun v s1 h1=>thn h1 fun itv s2 h2=>?_)
 obtain⟨it,fp,tn,J,H2,rfl,I2,T,st2,f2,q2⟩:=h2
 refine wpAny_newList (items:=[]) ?_ (by simp)
 have eD:H2 s2.heap.objs.size=none:=I2.hok.fresh (aai _)
 have pk:∀(o:Obj) b u,s2.heap.get? b=some u->(s2.heap.push o).get? b=some u:=fun o b u e=>Heap.get?_push_of_some _ e
 have I3:=I2.laid (a:=s2.heap.objs.size) (o:=.lst []) (t':=s2.toks) (h':=s2.heap.push {cls:=.type "list",data:=.seq ([]:List Value).toArray}) (pk _) (aai _)
  ⟨aaw _,[],0,.nil,Heap.get?_push_size _ rfl⟩
 generalize hs3:(⟨s2.heap.push {cls:=.type "list",data:=.seq ([]:List Value).toArray},s2.gens,s2.drawn,s2.toks,s2.os⟩:Shared)=s3 at I3 ⊢
 have k3:∀b u,s2.heap.get? b=some u->s3.heap.get? b=some u:=fun b u e=>by rw[<- hs3];exact pk _ b u e
 have tk3:s3.os=s2.os/\s3.gens=s2.gens:=by rw[<- hs3];exact⟨rfl,rfl⟩
 have z3:s3.heap.objs.size=s2.heap.objs.size+1:=by rw[<- hs3];exact Heap.size_push ..
 refine wpAny_newFunctionEnv hcell (by intro y hy;simp at hy) (fun h4 hns hsb=>?_) hkind
 have k4:∀b u,s3.heap.get? b=some u->h4.get? b=some u:=fun b u e=>hsb.extBut b u (aaV (Heap.lt_size e)) (Heap.get?_push_of_some _ e)
 have fpl:∀b∈fp,b<s2.heap.objs.size:=fun b hb=>by
  obtain⟨o,e,_⟩:=T.obj 0 _ st2 b hb
  exact Heap.lt_size e
 obtain⟨W,⟨m0,w0⟩,turn⟩:=q2 ⟨s3.heap.objs.size,fp,s3,upd H2 s2.heap.objs.size (.lst [])⟩ _ eD
 have ok4:(X.blk scope s3.heap.objs.size fp (loc++frn) s3 (upd H2 s2.heap.objs.size (.lst []))).Ok:=by
  refine⟨I.ok.mod,hkind,I.ok.glob,I.ok.blt,aai _,fun x y c e1 e2=>I.ok.inj x y c (DC hcs e1) (DC hcs e2),fun x hx=>?_,fun x c z=>(nomatch z),I.ok.hd,I.ok.frames,.inl rfl,fun b hb=>⟨?_,fun x c e=>(f2 b hb).2.2.2.2.1 x c (DC hcs e)⟩,I3.bs,aao I.ok.bsz I3.sz,
   fun b o e hb=>?_,fun b hb z=>?_,I3.stack,I3.stkFree⟩
  ·have hm:(x,NameKind.free)∈scope.names:=by
    have:∃k',(k'=NameKind.cell\/k'=NameKind.free)/\(relabel scope X.env).names.lookup x=some k':=by
     rcases hx with z|z
     ·exact⟨_,.inl rfl,z⟩
     ·exact⟨_,.inr rfl,z⟩
    obtain⟨k',hk',z⟩:=this
    have zm:=PySem.mem_of_lookup z
    unfold relabel at zm
    obtain⟨⟨n,k⟩,hn,e⟩:=aat.mp zm
    dsimp only at e
    split at e
    ·rename_i hk
     cases e
     have:k=NameKind.free:=by
      cases k<;>first|rfl|(simp at hk)
     rw[<- this];exact hn
    ·cases e
     rcases hk' with rfl|rfl
     ·exact absurd rfl (hcell _ hn)
     ·exact hn
   obtain⟨c,e⟩:=I.ok.has x (.inl (hfree _ hm rfl))
   exact⟨c,IC hm hcs e⟩
  ·have:=fpl b hb
   exact aaV (by rw[z3];exact ab9 this)
  ·rcases (f2 b hb).2.2.2.1 with z|z
   ·exact I.ok.noex b o e z
   ·exact absurd (aaJ (Heap.lt_size (I.ok.bs b o e).1) z) (aaX _)
  ·have:=I2.stkSub b z
   rcases aak.mp this with rfl|y
   ·exact(f2 _ hb).2.1 rfl
   ·exact(f2 b hb).2.2.1 y
 have I4:Inv (X.blk scope s3.heap.objs.size fp (loc++frn) s3 (upd H2 s2.heap.objs.size (.lst []))) [] (Do loc.length fr σ) (upd H2 s2.heap.objs.size (.lst [])) {s3 with heap:=h4,toks:=s3.toks+([]:List (Str×Value)).length}:=by
  refine⟨ok4,rfl,I3.bare,Un.kept k4,⟨_,hns,fun i x v e1 e2 e3=>?_⟩,fun x c e=>?_,I3.hok.fresh (aai _),fun x c e=>I3.freeC x c (DC hcs e),fun p hp=>(nomatch hp),I3.hok.kept k4,?_⟩
  ·unfold Do at e2
   by_cases hi:i<loc.length
   ·rw[aa0 (by simpa using hi),aa8]at e2
    split at e2<;>cases e2
   ·rw[aaT (by simpa using hi),aby,aal]at e2
    have e1':frn[i-loc.length]?=some x:=by
     have:(loc++frn)[i]?=some x:=e1
     rw[aaT (abW hi)]at this
     exact this
    cases ek:fr[i-loc.length]? with
    |none=>rw[ek]at e2;cases e2
    |some k=>
     rw[ek]at e2
     have e2':(σ[k]?).join=some v:=Option.some.inj e2
     have e2'':σ[k]?=some (some v):=by
      cases q:σ[k]? with
      |none=>rw[q]at e2';cases e2'
      |some y=>rw[q]at e2';exact congrArg some e2'
     obtain⟨n1,n2,n3⟩:=hfr _ k x ek e1'
     obtain⟨m,_,hl⟩:=I3.loc
     obtain⟨u,ru,lk⟩:=hl k x v n1 e2'' (.inr (.inl n2))
     refine⟨u,ru,.inr ⟨.inl (hkin x (aaj e1')),?_⟩⟩
     rcases lk with⟨z,_⟩|⟨_,c,ec,ic⟩
     ·rw[n2]at z;cases z
     ·obtain⟨o,ho,hd⟩:=ic
      exact⟨c,IC n3 hcs ec,o,k4 _ _ ho,hd⟩
  ·obtain⟨v,o,ho,hd⟩:=I3.cell x c (DC hcs e)
   exact⟨v,o,k4 _ _ ho,hd⟩
  ·unfold Do
   show _=(loc++frn).length
   rw[aaH,aaH,aby,aab,hln]
 have stat:∀{H':Hp},(∀b∈fp,H' b=none)->∀b∈fp,FpOk (X.blk scope s3.heap.objs.size fp (loc++frn) s3 (upd H2 s2.heap.objs.size (.lst []))) [] H' b:=fun hn b hb=>
  ⟨hn b hb,(ok4.exf b hb).1,ok4.exfs b hb,.inl hb,(ok4.exf b hb).2,fun p hp=>(nomatch hp)⟩
 have fp3:∀b∈fp,(upd H2 s2.heap.objs.size (.lst [])) b=none:=fun b hb=>by
  rw[Ah (aaV (fpl b hb))];exact(f2 b hb).1
 obtain⟨pg,pt,pe⟩:=hblk ⟨s3.heap.objs.size,fp,s3,upd H2 s2.heap.objs.size (.lst [])⟩
 have st4:tn 0 h4:=T.keep 0 _ _ st2 fun b _ o e=>k4 b o (k3 b o e)
 have after:∀{i:Nat}{H':Hp}{s':Shared}{acc:List V}{σ':St},Inv (X.blk scope s3.heap.objs.size fp (loc++frn) s3 (upd H2 s2.heap.objs.size (.lst []))) [] σ' H' s'->Q (.ref s2.heap.objs.size) H'->
   compPost (model X.prog X.w) X.A X.xe use R (.ref s2.heap.objs.size) s3.heap.objs.size (.ok .next) s':=by
  intro i H' s' acc σ' I5 q
  obtain⟨m,hn,_⟩:=I5.loc
  refine haf s2.heap.objs.size s3.heap.objs.size H' s' m hn (fun h' hb=>?_) ⟨I3.sz,abw I3.lt,fun x c e z=>?_,fun p hp z=>?_,I5.free,fun z=>?_⟩ q
  ·have same:∀b o,s3.heap.get? b=some o->h'.get? b=s'.heap.get? b:=fun b o e=>hb.2 b (aaV (Heap.lt_size e))
   have u:=I5.base
   have un:Un (frs X.stack) fp (upd H2 s2.heap.objs.size (.lst [])) H' s3.heap h':=⟨fun b o e n h1 h2=>(same b o e).trans (u.keep b o e n h1 h2),fun b o e n h1 h2=>by
     obtain⟨sl,z⟩:=u.slot b o e n h1 h2
     exact⟨sl,(same b o e).trans z⟩,u.free,fun b o e h1=>by
     obtain⟨o',z⟩:=u.there b o e h1
     exact⟨o',(same b o e).trans z⟩,u.tups,u.frzs,u.tbls⟩
   have hok:HOk X.prog X.w H' h':=fun b o e=>by
    have fC:H' s3.heap.objs.size=none:=I5.free
    refine(I5.hok b o e).stay (fun c w' hc z=>(hb.2 c ?_).trans z) (fun _ z=>z) fun _ _ z=>z
    rintro rfl
    rcases hc with rfl|hc
    ·rw[fC]at e;cases e
    ·rw[fC]at hc;cases hc
   exact I3.call' (s':={s' with heap:=h'}) (ch:=fp) I5.os un hok I5.bare (fun b hb=>⟨(f2 b hb).2.2.2.1,(f2 b hb).2.1,(f2 b hb).2.2.2.2.1,(f2 b hb).2.2.2.2.2⟩)
  ·obtain⟨v,hcell⟩:=I3.cell x c e
   exact absurd (z▸hcell.lt) (aaX _)
  ·exact absurd (z▸Heap.lt_size (I3.pin p hp).1) (aaX _)
  ·rcases aak.mp (I3.stkSub _ z) with y|y
   ·exact absurd (y▸I3.lt) (aaX _)
   ·exact I3.nofs (aai _) y
 have loop:∀s5:Shared,s5={s3 with heap:=h4,toks:=s3.toks+([]:List (Str×Value)).length}->
   codeAny (model X.prog X.w) X.A (.compLoop (.ListComp elt [⟨tg,iter,ifs,0⟩] scope pos) 0 (.ref it) (.ref s2.heap.objs.size) (compEnvC scope (CB X.env scope.names []) s3.heap.objs.size X.env))
    (compPost (model X.prog X.w) X.A X.xe use R (.ref s2.heap.objs.size) s3.heap.objs.size) s5:=by
  rintro s5 rfl
  refine KR (fun n s'=>∃i acc H',Inv (X.blk scope s3.heap.objs.size fp (loc++frn) s3 (upd H2 s2.heap.objs.size (.lst []))) [] (Do loc.length fr σ) H' s'/\tn i s'.heap/\(∀b∈fp,H' b=none)/\W i n acc H') ?_ m0
   ⟨0,[],_,I4,st4,fp3,w0⟩
  rintro n s6 ⟨i,acc,H6,I6,st6,fr6,w6⟩
  obtain⟨hD,alt⟩:=turn i n acc H6 w6
  rcases alt with⟨stop,q⟩|⟨go,step⟩
  ·refine thn (T.done (X.blk scope s3.heap.objs.size fp (loc++frn) s3 (upd H2 s2.heap.objs.size (.lst []))) rfl rfl rfl hc i [] s6 _ H6 (fun _ _=>False) I6 (stat fr6) st6 stop) fun r s7 ⟨hr,I7⟩=>?_
   subst hr
   exact after (i:=i) (acc:=acc) I7 q
  ·refine thn (T.item (X.blk scope s3.heap.objs.size fp (loc++frn) s3 (upd H2 s2.heap.objs.size (.lst []))) rfl rfl rfl hc i [] s6 _ H6 (fun _ _=>False) I6 (stat fr6) st6 go) fun r s7 ⟨u,hr,h7⟩=>?_
   subst hr
   refine thn h7 fun _ s8 ⟨x,H8,I8,r8,y8,st8,fr8⟩=>?_
   have I8':=I8.pinned (stat fr8) (T.obj _ _ st8)
   have back:∀{σ9:St}{H9:Hp}{s9:Shared},Inv (X.blk scope s3.heap.objs.size fp (loc++frn) s3 (upd H2 s2.heap.objs.size (.lst []))) ([]++Gw fp s8.heap) σ9 H9 s9->σ9.length=(Do loc.length fr σ).length->(∀i,loc.length<=i->σ9[i]?=(Do loc.length fr σ)[i]?)->
     Inv (X.blk scope s3.heap.objs.size fp (loc++frn) s3 (upd H2 s2.heap.objs.size (.lst []))) [] (Do loc.length fr σ) H9 s9/\tn (i+1) s9.heap/\(∀b∈fp,H9 b=none):=by
    intro σ9 H9 s9 I9 hl hk
    refine⟨(I9.unpinned).weak hl.symm fun j v ej=>?_,T.keep _ _ _ st8 fun b hb o e=>(I9.pin (b,o) (aau _ (aau _ (EL hb e)))).1,fun b hb=>?_⟩
    ·by_cases hj:j<loc.length
     ·unfold Do at ej
      rw[aa0 (by simpa using hj),aa8]at ej
      split at ej<;>cases ej
     ·rw[hk j (abW hj)];exact ej
    ·obtain⟨o,e,d⟩:=T.obj _ _ st8 b hb
     exact(I9.pin (b,o) (aau _ (aau _ (EL hb e)))).2.1
   refine thn (pg _ s8 _ H8 x u _ I8' r8 (hgk _ _ _ _ _ (step x H8 y8))) fun _ s9 ⟨σ9,H9,I9,q9,l9,k9⟩=>?_
   refine thn (pt _ s9 σ9 H9 _ I9 q9) fun ok s10 ⟨H10,I10,q10⟩=>?_
   cases ok with
   |false=>
    rw[if_neg (by decide)]at q10 ⊢
    obtain⟨m',hm,w'⟩:=q10
    obtain⟨b1,b2,b3⟩:=back I10 l9 k9
    exact⟨m',hm,i+1,acc,H10,b1,b2,b3,w'⟩
   |true=>
    rw[if_pos rfl]at q10 ⊢
    refine thn (pe _ s10 σ9 H10 _ I10 q10) fun y s11 ⟨v,H11,I11,r11,hD11,hz,m',hm,w'⟩=>?_
    refine thn (Fl _ s11 σ9 H11 (.ref s2.heap.objs.size) [v] (.ref s2.heap.objs.size) [y] (fun _ H12=>W (i+1) m' (acc++[v]) H12) I11 rfl (.cons r11 .nil) ⟨_,acc,v,rfl,rfl,hD11,hz,w'⟩) fun _ s12 ⟨_,H12,I12,_,w12⟩=>?_
    obtain⟨b1,b2,b3⟩:=back I12 l9 k9
    exact⟨m',hm,i+1,_,H12,b1,b2,b3,w12⟩
 exact codeAny_compStart_list (loop _ rfl) (T.self X.A 0 _ _ _ st4 (loop _ rfl))
theorem Inv.but{X:Cx}{pins:List (Addr×Obj)}{s:Shared}{σ:St}{H:Hp}{C:Addr}{h':Heap}(I:Inv X pins σ H s)(hC:X.s₀.heap.objs.size<=C/\C≠X.env.locals/\(∀x c,X.env.cells.lookup x=some c->c≠C)/\(∀p∈X.pn++pins,p.1≠C)/\H C=none/\C∉frs X.stack)
  (hb:Heap.SameBut C s.heap h'):Inv X pins σ H {s with heap:=h'}:=by
 obtain⟨h1,h2,h3,h4,h5,h6⟩:=hC
 have same:∀b,b∉[C]->h'.get? b=s.heap.get? b:=fun b z=>hb.2 b (fun e=>z (by simp[e]))
 refine I.call' (s':={s with heap:=h'}) (ch:=[C]) rfl ⟨fun b o e _ _ z=>(same b z).trans e,fun b o e _ _ z=>⟨o.slots,(same b z).trans e⟩,fun b o e n z=>n,fun b o e z=>⟨o,(same b z).trans e⟩,fun _ _ e=>e,fun _ _ _ e=>e,fun _ ps e=>⟨#[],by simpa using e⟩⟩ ?_ I.bare
  (fun b z=>by
   have:b=C:=by simpa using z
   subst this
   exact⟨.inr h1,h2,h3,h4⟩)
 intro b o e
 refine(I.hok b o e).stay (fun c w' hc z=>(hb.2 c ?_).trans z) (fun _ z=>z) fun _ _ z=>z
 rintro rfl
 rcases hc with rfl|hc
 ·rw[h5]at e;cases e
 ·rw[h5]at hc;cases hc
theorem ID{X:Cx}{elt tg iter:Expr}{ifs:List Expr}{scope:Scope}{pos spos py:Pos}{y:Str}{k:Nat}{wi:TI}{gz:Bk->TG}{tcz:Bk->TT}{tez:Bk->TE}(loc:List Str)(fr:List Nat)(frn:List Str)(hc:X.calm=true)(hi:PI X tg iter wi)
  (hfr:∀(j:Nat)(k:Nat)(x:Str),fr[j]?=some k->frn[j]?=some x->X.N[k]?=some x/\X.env.kindOf x=some .cell/\(x,NameKind.free)∈scope.names) (hln:frn.length=fr.length)
  (hcell:∀y∈scope.names,y.2≠.cell) (hkind:scope.kind=.function) (hnames:∀y∈scope.names,y.2=.local->scope.names.lookup y.1=some .local) (hfree:∀y∈scope.names,y.2=.free->X.env.kindOf y.1=some .cell)
  (hkin:∀(x:Str),x∈frn->(relabel scope X.env).names.lookup x=some .cell) (hsc:X.env.scope.kind=.function)
  (hgk:∀(z:Bk)(v:V)(σ:St)(H:Hp)(Q:St->Hp->Prop),gz z v σ H Q->gz z v σ H fun σ' H'=>Q σ' H'/\σ'.length=σ.length/\∀i,loc.length<=i->σ'[i]?=σ[i]?)
  (hblk:∀(z:Bk),PG (X.blk scope z.C z.fp (loc++frn) z.s z.H) tg (gz z)/\PTs (X.blk scope z.C z.fp (loc++frn) z.s z.H) ifs (tcz z)/\PE (X.blk scope z.C z.fp (loc++frn) z.s z.H) elt (tez z))
  (hs:∀x,foldedSetIterable iter X.env x=pure x) (hN:X.N.Nodup) (hk:X.N[k]?=some y) (hx:Loc X.env.scope y) (hf:X.fn y=true\/X.env.scope.names.lookup y=some .local)
  (hsw:swapsWith (.ListComp elt [⟨tg,iter,ifs,0⟩] scope pos) (some (.Name y py)) spos.line X.env=pure true) :
  PS X (.Assign [.Name y py] (.ListComp elt [⟨tg,iter,ifs,0⟩] scope pos) spos) (Gv (Fm loc.length fr wi gz tcz tez) (DH k)):=by
 intro pins s σ H D I h
 rw[exec_Assign_Name_used _ _ _ _ hsw]
 refine wpAny_bind (wpAny_standAt (wpAny_bind ?_))
 show wpAny _ X.A (do let _ <- comprehension (.ListComp elt [⟨tg,iter,ifs,0⟩] scope pos) scope X.env _ (newList []) false (eval iter X.env) (some (assign (.Name y py) X.env))) _ _ s
 refine wpAny_bind (wpAny_mono (KS (R:=fun _ s'=>SP X pins D .next s') loc fr frn hc hi hfr hln hcell hkind hnames hfree hkin hsc hgk hblk I h (fun D' C H' s' m hn hI hC q=>?_) hs) (fun _ s' hq=>wpAny_pure (wpAny_pure hq)) fun _ _ e=>e)
 have I7:Inv X pins σ H' s':=hI s'.heap ⟨rfl,fun _ _=>rfl⟩
 refine wpAny_assign_Name (JR (v:=.ref D') I7 hN hk hx rfl (fun s8 I8 ⟨a,sb,ha⟩=>?_) hf)
 refine⟨m,hn.sameBut sb ?_,fun h9 sb9=>⟨_,H',I8.but hC sb9,q⟩⟩
 rcases ha with rfl|ha
 ·exact hC.2.1
 ·exact fun z=>hC.2.2.1 _ _ ha z.symm
theorem Jq{X:Cx}{elt tg iter:Expr}{ifs:List Expr}{scope:Scope}{pos:Pos}{wi:TI}{gz:Bk->TG}{tcz:Bk->TT}{tez:Bk->TE}(loc:List Str)(fr:List Nat)(frn:List Str)(hc:X.calm=true)(hi:PI X tg iter wi)
  (hfr:∀(j:Nat)(k:Nat)(x:Str),fr[j]?=some k->frn[j]?=some x->X.N[k]?=some x/\X.env.kindOf x=some .cell/\(x,NameKind.free)∈scope.names) (hln:frn.length=fr.length)
  (hcell:∀y∈scope.names,y.2≠.cell) (hkind:scope.kind=.function) (hnames:∀y∈scope.names,y.2=.local->scope.names.lookup y.1=some .local) (hfree:∀y∈scope.names,y.2=.free->X.env.kindOf y.1=some .cell)
  (hkin:∀(x:Str),x∈frn->(relabel scope X.env).names.lookup x=some .cell) (hsc:X.env.scope.kind=.function)
  (hgk:∀(z:Bk)(v:V)(σ:St)(H:Hp)(Q:St->Hp->Prop),gz z v σ H Q->gz z v σ H fun σ' H'=>Q σ' H'/\σ'.length=σ.length/\∀i,loc.length<=i->σ'[i]?=σ[i]?)
  (hblk:∀(z:Bk),PG (X.blk scope z.C z.fp (loc++frn) z.s z.H) tg (gz z)/\PTs (X.blk scope z.C z.fp (loc++frn) z.s z.H) ifs (tcz z)/\PE (X.blk scope z.C z.fp (loc++frn) z.s z.H) elt (tez z))
  (hs:∀x,foldedSetIterable iter X.env x=pure x:=by intro _;rfl):PE X (.ListComp elt [⟨tg,iter,ifs,0⟩] scope pos) (Fm loc.length fr wi gz tcz tez):=by
 intro pins s σ H Q I h
 rw[eval_ListComp]
 exact KS (use:=none) (R:=EP X pins σ Q) loc fr frn hc hi hfr hln hcell hkind hnames hfree hkin hsc hgk hblk I h (fun D C H' s' m hn hI _ q=>⟨m,hn,fun h' sb=>⟨.ref D,H',hI h' sb,rfl,q⟩⟩) hs
end L2
end
section
namespace L2
open PySem PySem.Spec PyProof.Rows PySem.W
section
variable{X:Cx}{pins:List (Addr×Obj)}{σ:St}{H:Hp}{s:Shared}{h':Heap}
theorem Inv.turnLaid{t':Nat}{ch:List Addr}{a:Addr}{o:HO}(I:Inv X pins σ H s)(k:∀b u,b∉ch->s.heap.get? b=some u->h'.get? b=some u)(hf:∀c∈ch,FpOk X pins H c)(ha:s.heap.objs.size<=a)(new:ObjOk X.prog X.w (upd H a o) h' a o) :
  Inv X pins σ (upd H a o) {s with heap:=h',toks:=t'}:=by
 have hn:=I.hok.fresh ha
 have nch:∀b u,H b=some u->b∉ch:=fun b u e z=>by rw[(hf b z).1]at e;cases e
 have na:∀b u,s.heap.get? b=some u->b≠a:=fun b u e z=>absurd (aaJ (Heap.lt_size e) (z▸ha)) (aaX _)
 refine I.step (g':=s.gens) (d':=s.drawn) (ch:=ch) (fun b hb=>?_) (fun b o _ _ hc e _=>k b o hc e) (fun b o _ _ hc e _=>⟨o.slots,k b o hc e⟩) (fun b u _ e n=>by rw[Ah (na b u e)];exact n)
  (fun b o hc e=>⟨o,k b o hc e⟩) (fun b xs e=>by rw[Ah (AD e hn)];exact e) (fun b u v e=>by rw[Ah (AD e hn)];exact e) (fun b ps e=>⟨#[],by rw[Ah (AD e hn),e];simp⟩) (fun m hm=>?_) (fun b u e=>?_) I.bare
 ·obtain⟨f0,f1,f2,f3,f4,f5⟩:=hf b hb
  exact⟨f3,f1,f4,f5⟩
 ·obtain⟨o,es,ep,ho,r⟩:=hm
  exact⟨o,es,ep,k _ o (fun z=>(hf _ z).2.1 rfl) ho,r⟩
 ·by_cases hb:b=a
  ·subst hb;rw[Aq]at e;cases e;exact new
  ·rw[Ah hb]at e
   refine(I.hok b u e).stay (fun c v hc q=>k c v ?_ q) (fun c q=>by rw[Ah (AD q hn)];exact q) fun c xs q=>by rw[Ah (AD q hn)];exact q
   rcases hc with z|z
   ·rw[z];exact nch b u e
   ·exact nch c _ z
theorem Inv.turnedL{t':Nat}{ch:List Addr}(I:Inv X pins σ H s)(k:∀b u,b∉ch->s.heap.get? b=some u->h'.get? b=some u)(hf:∀c∈ch,FpOk X pins H c):Inv X pins σ H {s with heap:=h',toks:=t'}:=by
 have nch:∀b u,H b=some u->b∉ch:=fun b u e z=>by rw[(hf b z).1]at e;cases e
 refine I.step (g':=s.gens) (d':=s.drawn) (ch:=ch) (fun b hb=>?_) (fun b o _ _ hc e _=>k b o hc e) (fun b o _ _ hc e _=>⟨o.slots,k b o hc e⟩) (fun b u _ e n=>n)
  (fun b o hc e=>⟨o,k b o hc e⟩) (fun b xs e=>e) (fun b u v e=>e) (fun b ps e=>⟨#[],by rw[e];simp⟩) (fun m hm=>?_) (fun b u e=>?_) I.bare
 ·obtain⟨f0,f1,f2,f3,f4,f5⟩:=hf b hb
  exact⟨f3,f1,f4,f5⟩
 ·obtain⟨o,es,ep,ho,r⟩:=hm
  exact⟨o,es,ep,k _ o (fun z=>(hf _ z).2.1 rfl) ho,r⟩
 ·refine(I.hok b u e).stay (fun c v hc q=>k c v ?_ q) (fun c q=>q) fun c xs q=>q
  rcases hc with z|z
  ·rw[z];exact nch b u e
  ·exact nch c _ z
end
abbrev Ite(K:PySem.W.Frag)(a:Addr):It :=
 ⟨fun i H=>∃xs x,SqL K H a xs/\xs[i]?=some x,fun i H v H'=>∃t,H t=none/\v=.ref t/\∀xs x,SqL K H a xs->xs[i]?=some x->H'=upd H t (.tup [.int i,x]),fun i H=>∃xs,SqL K H a xs/\xs.length<=i⟩
theorem OW{P:Program}{w:World}{K:PySem.W.Frag}{elts:List Expr}{k1:Nat}{pos:Pos}(a it e:Addr)(hne:e≠it):Turn P w K (.Tuple elts k1 pos) (Ite K a) [e,it] e (fun i h=>(∃old,IsEnum h e it (i:Nat) old)/\h.IsListIter it a i) where
 mem:=by simp
 obj:=fun i h st b hb=>by
  obtain⟨⟨old,st⟩,o,ho,c,d⟩:=st
  rcases aak.mp hb with rfl|hb
  ·exact⟨_,st,fun v z=>by
    have z':Data.fields _=Data.cell v:=z
    cases z'⟩
  ·cases aaE.mp hb
   exact⟨o,ho,fun v z=>by rw[d]at z;cases z⟩
 keep:=fun i h h' st k=>by
  obtain⟨⟨old,st⟩,st2⟩:=st
  exact⟨⟨old,k e (by simp) _ st⟩,st2.at fun o q=>k it (by simp) o q⟩
 item:=by
  intro X hP hw hK hc i pins s σ H E I hf st hg
  subst hP hw hK
  obtain⟨xs,x,hq,hx⟩:=hg
  obtain⟨its,rv,p,hz⟩:=I.list hq
  obtain⟨u,hu,ru⟩:=rv.get hx
  obtain⟨⟨old,st1⟩,st2⟩:=st
  have fe:=hf e (by simp)
  have fi:=hf it (by simp)
  refine wpAny_pyNext_enum_item st1 st2 p.isList (x:=u) (by simpa using hu) hne fun h' ho hit' hT hsz hk=>?_
  refine⟨_,rfl,wpAny_letOwnedTupleGo_enum ho fun h2 he2 hs2=>?_⟩
  have lte:e<s.heap.objs.size:=Heap.lt_size st1
  have lti:it<s.heap.objs.size:=by obtain⟨o,q,_⟩:=st2;exact Heap.lt_size q
  have hT2:h2.get? s.heap.objs.size=some {cls:=.type "tuple",data:=.seq #[.int i s.toks,u]}:=(hs2.2 _ (abw lte)).trans hT
  have I1:Inv X pins σ (upd H s.heap.objs.size (.tup [.int i,x])) {s with heap:=h2,toks:=s.toks+1}:=I.turnLaid (ch:=[e,it]) (fun b o hb q=>by
    have n1:b≠e:=fun z=>hb (by simp[z])
    have n2:b≠it:=fun z=>hb (by simp[z])
    exact(hs2.2 b n1).trans (hk b o n1 n2 q)) hf (aai _)
   ⟨by simp[sizeLine],[.int i s.toks,u],.cons ⟨s.toks,rfl⟩ (.cons ru .nil),⟨_,hT2,rfl,_,rfl⟩⟩
  refine⟨.ref s.heap.objs.size,_,I1,rfl,⟨_,I.hok.fresh (aai _),rfl,fun ys y hy hyx=>?_⟩,⟨⟨u,?_⟩,hit'.at fun o q=>(hs2.2 it (Ne.symm hne)).trans q⟩,fun b hb=>?_⟩
  ·have:=I.list_inj hy hq
   subst this
   rw[hx]at hyx
   cases hyx
   rfl
  ·have:((i+1:Nat):Int)=(i:Int)+1:=by omega
   rw[this];exact he2
  ·rw[Ah (fun z=>by
    subst z
    rcases aak.mp hb with q|q
    ·exact absurd lte (by rw[<- q];exact aaX _)
    ·exact absurd lti (by rw[<- aaE.mp q];exact aaX _))]
   exact(hf b hb).1
 done:=by
  intro X hP hw hK hc i pins s σ H E I hf st hg
  subst hP hw hK
  obtain⟨xs,hq,hx⟩:=hg
  obtain⟨its,rv,p,hz⟩:=I.list hq
  obtain⟨⟨old,st1⟩,st2⟩:=st
  have hl:=rv.length
  refine wpAny_pyNext_enum_end (I.ok.hd hc) st1 st2 p.isList (by simp;omega) fun h' eb=>⟨rfl,I.turnedL (t':=s.toks) (ch:=[e,it]) (fun b o hb q=>eb b o (fun z=>hb (by simp[z])) q) hf⟩
 self:=fun _ _ _ _ _ st h=>let ⟨⟨_,st⟩,_⟩:=st;wpAny_pyIter_enum st h
theorem F0(a:Int):∀{acc:List Value}{k n:Nat},acc.length=n->(∀j v,acc[j]?=some v->∃t,v=Value.int (a+((k+j:Nat):Int)) t)->Vals ((aan n).map fun i=>V.int (a+((k+i:Nat):Int))) acc
 |[],k,n,hl,_=>by subst hl;exact .nil
 |u::r,k,n,hl,h=>by
  subst hl
  obtain⟨t,rfl⟩:=h 0 u rfl
  rw[aaL,abQ,aaI,aaB]
  refine .cons ⟨t,rfl⟩ ?_
  have:=F0 a (acc:=r) (k:=k+1) rfl fun j v e=>by
   obtain⟨t,e⟩:=h (j+1) v (by simpa using e)
   exact⟨t,by rw[e];congr 2;omega⟩
  rw[aaQ (g:=fun i=>V.int (a+((k+1+i:Nat):Int))) (fun i _=>by show V.int _=V.int _;congr 2;omega)]
  exact this
section
variable{X:Cx}
abbrev tLR(ta:TA):TE:=fun σ H Q=>ta σ H fun vs H1=>∃i j:Int,vs=[.int i,.int j]/\(-(2^62)<=i/\i<2^62/\-(2^62)<=j/\j<2^62)/\(j-i).toNat<=2^24/\∀l,H1 l=none->Q (.ref l) (upd H1 l (.lst ((aan (j-i).toNat).map fun k=>.int (i+(k:Nat)))))
theorem Qw{a b:Expr}{ta:TA}{p1 p2 pos pos2:Pos}(hc:X.calm=true)(hgl:Gl X "list")(hml:X.mg "list" = none)(hg:Gl X "range")(hm:X.mg "range" = none)(ha:PA X [a,b] ta)(hs:starEach [a,b] X.env=[(false,eval a X.env),(false,eval b X.env)])(hs2:starEach [b] X.env=[(false,eval b X.env)]) :
  PE X (.Call (.Name "list" p1) [.Call (.Name "range" p2) [a,b] [] pos2] [] pos) (tLR ta):=by
 intro pins s σ H Q I h
 refine wpAny_Call_Name_kw (Bu I hgl hml (show bootBuiltins "list" = some (.type "list") by decide +kernel) ?_)
 refine PyProof.Rows.callWith_type1 (rest:=[]) ?_ rfl rfl
 show wpAny _ _ (spliced ((false,eval (.Call (.Name "range" p2) [a,b] [] pos2) X.env)::backTo pos (starEach [] X.env))) _ _ s
 refine Calls.spliced_cons ?_
 refine Call_ (Bu I hg hm boot_range (PyProof.Rows.callWith_type1 (thn (ha pos2 pins s σ H _ I h) fun us s1 ⟨vs,H1,I1,r1,q1⟩=>?_) (by rw[hs,hs2]) (by rw[hs2];rfl)))
 obtain⟨i,j,e,⟨q1,q2,q3,q4⟩,hz,q⟩:=q1
 subst e
 cases r1 with
 |cons r rr=>
  cases rr with
  |cons r' rr=>
   cases rr
   obtain⟨t,rfl⟩:=r
   obtain⟨t',rfl⟩:=r'
   refine call_range_2 ?_
   refine Calls.spliced_nil ?_
   have hn:Builtin.Range.rangeSize i j 1=(((j-i).toNat:Nat):Int):=by rw[rangeSize_one];split<;>omega
   refine call_list_range (I1.ok.hd hc) (IsRange.new ..) (small_one q1 q2 q3 q4) hn hz fun h' tk acc c' hk hS hacc=>?_
   obtain⟨z1,z2⟩:=hacc
   have I2:Inv X pins σ H1 {s1 with heap:=s1.heap.push {cls:=.type "range",data:=.fields #[.int i t,.int j t',.int 1 s1.toks]},toks:=s1.toks+1}:=I1.kept (t':=s1.toks+1) fun b o e=>Heap.get?_push_of_some _ e
   have hf:=I2.hok.fresh (aai _)
   refine⟨.ref _,upd H1 _ (.lst ((aan (j-i).toNat).map fun k=>.int (i+(k:Nat)))),I2.laid (t':=tk) hk (aai _) ?_,rfl,q _ hf⟩
   refine⟨by rw[aab,aaP];exact hz,acc.toList,c',?_,hS⟩
   have:=F0 i (acc:=acc.toList) (k:=0) (n:=(j-i).toNat) (by simpa using z1) fun k v e=>by
    obtain⟨t,e⟩:=z2 k v (by simpa using e)
    exact⟨t,by rw[e];congr 2<;>omega⟩
   simpa using this
abbrev XV(ta:TA):TE:=fun σ H Q=>ta σ H fun vs H1=>∃j:Int,vs=[.int j]/\(-(2^62)<=j/\j<2^62)/\(j-0).toNat<=2^24/\∀l,H1 l=none->Q (.ref l) (upd H1 l (.lst ((aan (j-0).toNat).map fun k=>.int (0+(k:Nat)))))
theorem OX{b:Expr}{ta:TA}{p1 p2 pos pos2:Pos}(hc:X.calm=true)(hgl:Gl X "list")(hml:X.mg "list" = none)(hg:Gl X "range")(hm:X.mg "range" = none)(ha:PA X [b] ta)(hs:starEach [b] X.env=[(false,eval b X.env)]) :
  PE X (.Call (.Name "list" p1) [.Call (.Name "range" p2) [b] [] pos2] [] pos) (XV ta):=by
 intro pins s σ H Q I h
 refine wpAny_Call_Name_kw (Bu I hgl hml (show bootBuiltins "list" = some (.type "list") by decide +kernel) ?_)
 refine PyProof.Rows.callWith_type1 (rest:=[]) ?_ rfl rfl
 show wpAny _ _ (spliced ((false,eval (.Call (.Name "range" p2) [b] [] pos2) X.env)::backTo pos (starEach [] X.env))) _ _ s
 refine Calls.spliced_cons ?_
 refine Call_ (Bu I hg hm boot_range (PyProof.Rows.callWith_type1 (thn (ha pos2 pins s σ H _ I h) fun us s1 ⟨vs,H1,I1,r1,q1⟩=>?_) hs rfl))
 obtain⟨j,e,⟨q3,q4⟩,hz,q⟩:=q1
 subst e
 cases r1 with
 |cons r' rr=>
   cases rr
   obtain⟨t',rfl⟩:=r'
   refine call_range_1 ?_
   refine Calls.spliced_nil ?_
   have hn:Builtin.Range.rangeSize 0 j 1=(((j-0).toNat:Nat):Int):=by rw[rangeSize_one];split<;>omega
   refine call_list_range (I1.ok.hd hc) (IsRange.new ..) (small_one (by decide) (by decide) q3 q4) hn hz fun h' tk acc c' hk hS hacc=>?_
   obtain⟨z1,z2⟩:=hacc
   have I2:Inv X pins σ H1 {s1 with heap:=s1.heap.push {cls:=.type "range",data:=.fields #[.int 0 s1.toks,.int j t',.int 1 (s1.toks+1)]},toks:=s1.toks+1+1}:=I1.kept (t':=s1.toks+1+1) fun b o e=>Heap.get?_push_of_some _ e
   have hf:=I2.hok.fresh (aai _)
   refine⟨.ref _,upd H1 _ (.lst ((aan (j-0).toNat).map fun k=>.int (0+(k:Nat)))),I2.laid (t':=tk) hk (aai _) ?_,rfl,q _ hf⟩
   refine⟨by rw[aab,aaP];exact hz,acc.toList,c',?_,hS⟩
   have:=F0 0 (acc:=acc.toList) (k:=0) (n:=(j-0).toNat) (by simpa using z1) fun k v e=>by
    obtain⟨t,e⟩:=z2 k v (by simpa using e)
    exact⟨t,by rw[e];congr 2<;>omega⟩
   simpa using this
theorem Vals.tk{xs:List V}{us:List Value}(h:Vals xs us):∀n,Vals (xs.take n) (us.take n)/\Vals (xs.drop n) (us.drop n):=by
 induction h with
 |nil=>intro n;cases n<;>exact⟨.nil,.nil⟩
 |cons h1 h2 ih=>
  intro n
  cases n with
  |zero=>exact⟨.nil,.cons h1 h2⟩
  |succ n=>exact⟨.cons h1 (ih n).1,(ih n).2⟩
end
abbrev Qx(lo c:Int)(n:Nat):It:=⟨fun i _=>i<n,fun i H x H'=>H'=H/\x=.int (lo+i*c),fun i _=>n<=i⟩
theorem Me{P:Program}{w:World}{K:PySem.W.Frag}{tg:Expr}(it:Addr)(lo c:Int)(n:Nat):Turn P w K tg (Qx lo c n) [it] it (fun i h=>IsRangeIter h it (lo+(i:Nat)*c) ((n:Int)-(i:Nat)) c) where
 mem:=by simp
 obj:=fun i h st b hb=>by
  have e:b=it:=by simpa using hb
  subst e
  exact⟨_,st,fun v z=>by
   have z':Data.fields _=Data.cell v:=z
   cases z'⟩
 keep:=fun i h h' st k=>k it (by simp) _ st
 item:=by
  intro X hP hw hK hc i pins s σ H E I hf st hg
  subst hP hw hK
  obtain⟨f0,f1,f2,f3,f4,f5⟩:=hf it (by simp)
  have W:=Walks.range (prog:=X.prog) (w:=X.w) (I.ok.hd hc) it lo c n
  refine W.item i s _ _ hg st fun v h' tk hv st' kk=>?_
  obtain⟨t,rfl⟩:=hv
  have I1:Inv X pins σ H {s with heap:=h',toks:=tk}:=I.turned (fun b o hb e=>kk b o (by simpa using hb) e) f0 f1 f3 f4 f5
  exact⟨_,rfl,Ir (s:={s with heap:=h',toks:=tk}) (n := "range_iterator") st' rfl rfl (by decide) ⟨.int (lo+i*c),H,I1,⟨t,rfl⟩,⟨rfl,rfl⟩,st',fun b hb=>(hf b hb).1⟩⟩
 done:=by
  intro X hP hw hK hc i pins s σ H E I hf st hg
  subst hP hw hK
  obtain⟨f0,f1,f2,f3,f4,f5⟩:=hf it (by simp)
  exact wpAny_pyNext_range_end (I.ok.hd hc) st (by have:n<=i:=hg;omega) fun h' eb=>⟨rfl,I.turned (t':=s.toks) (fun b o hb e=>eb b o hb e) f0 f1 f3 f4 f5⟩
 self:=fun _ _ _ _ _ st h=>wpAny_pyIter_rangeiter st h
theorem KU{a b c:Int}(hc:c≠0):0<=Builtin.Range.rangeSize a b c:=by
 unfold Builtin.Range.rangeSize
 split
 ·split
  ·have:=acM (a:=b-a-1) (b:=c) (by omega) (by omega);exact ab6 this (by decide)
  ·exact by decide
 ·split
  ·have:=acM (a:=a-b-1) (b:=-c) (by omega) (by omega);exact ab6 this (by decide)
  ·exact by decide
theorem HB{a b c:Int}(ha:-(2^62)<=a)(ha':a<2^62)(hb:-(2^62)<=b)(hb':b<2^62)(hc:-(2^62)<=c)(hc':c<2^62)(h0:c≠0)(hn:(Builtin.Range.rangeSize a b c).toNat<=2^24):Builtin.Range.small a b c=true:=by
 have:=KU (a:=a) (b:=b) h0
 unfold Builtin.Range.small
 generalize Builtin.Range.rangeSize a b c=n at *
 simp only[Builtin.Range.rangeFitsLong,aaf,acN,decide_eq_true_eq,beq_iff_eq]
 refine⟨⟨⟨⟨⟨by omega,by omega⟩,⟨by omega,by omega⟩⟩,⟨by omega,by omega⟩⟩,⟨by exact ab2 (by decide) this,by omega⟩⟩,.inr ?_⟩
 split
 ·simp only[aaf,decide_eq_true_eq];omega
 ·simp only[aaf,decide_eq_true_eq];omega
section
variable{X:Cx}{tg:Expr}
abbrev WQ(ta:TA):TI:=fun σ H R=>ta σ H fun vs H1=>∃i j c:Int,vs=[.int i,.int j,.int c]/\(-(2^62)<=i/\i<2^62/\-(2^62)<=j/\j<2^62/\-(2^62)<=c/\c<2^62)/\c≠0/\(Builtin.Range.rangeSize i j c).toNat<=2^24/\R (Qx i c (Builtin.Range.rangeSize i j c).toNat) H1
theorem OY{a b d:Expr}{ta:TA}{p pos:Pos}(hg:Gl X "range")(hm:X.mg "range" = none)(ha:PA X [a,b,d] ta)(hs:starEach [a,b,d] X.env=[(false,eval a X.env),(false,eval b X.env),(false,eval d X.env)])(hs2:starEach [b,d] X.env=[(false,eval b X.env),(false,eval d X.env)]) :
  PI X tg (.Call (.Name "range" p) [a,b,d] [] pos) (WQ ta):=by
 intro pins s σ H R I h
 refine Call_ (Bu I hg hm boot_range (PyProof.Rows.callWith_type1 (thn (ha pos pins s σ H _ I h) fun us s1 ⟨vs,H1,I1,r1,q1⟩=>?_) (by rw[hs,hs2]) (by rw[hs2];rfl)))
 obtain⟨i,j,c,e,⟨q1,q2,q3,q4,q5,q6⟩,q0,qn,q⟩:=q1
 subst e
 cases r1 with
 |cons r rr=>
  cases rr with
  |cons r' rr=>
   cases rr with
   |cons r2 rr=>
    cases rr
    obtain⟨t,rfl⟩:=r
    obtain⟨t',rfl⟩:=r'
    obtain⟨t2,rfl⟩:=r2
    refine call_range_3 q0 ?_ (.inl (PyProof.noPylong_of_log2 ?_))
    ·refine wpAny_pyIter_range (IsRange.new ..) (HB q1 q2 q3 q4 q5 q6 q0 qn) ?_
     have I2:Inv X pins σ H1 {s1 with heap:=s1.heap.push {cls:=.type "range",data:=.fields #[.int i t,.int j t',.int c t2]},toks:=s1.toks}:=I1.kept fun b o e=>Heap.get?_push_of_some _ e
     refine⟨(s1.heap.push {cls:=.type "range",data:=.fields #[.int i t,.int j t',.int c t2]}).objs.size,[(s1.heap.push {cls:=.type "range",data:=.fields #[.int i t,.int j t',.int c t2]}).objs.size],_,_,H1,rfl,I2.kept (t':=s1.toks) fun b o e=>Heap.get?_push_of_some _ e,Me _ i c (Builtin.Range.rangeSize i j c).toNat,?_,fun b hb=>?_,q⟩
     ·have e1:i+((0:Nat):Int)*c=i:=by simp
      have e2:(((Builtin.Range.rangeSize i j c).toNat:Nat):Int)-((0:Nat):Int)=Builtin.Range.rangeSize i j c:=by have:=KU (a:=i) (b:=j) q0;exact abt this
      show IsRangeIter _ _ (i+((0:Nat):Int)*c) ((((Builtin.Range.rangeSize i j c).toNat:Nat):Int)-((0:Nat):Int)) c
      rw[e1,e2]
      exact Heap.get?_push_size _ rfl
     ·have e:b=(s1.heap.push {cls:=.type "range",data:=.fields #[.int i t,.int j t',.int c t2]}).objs.size:=by simpa using hb
      subst e
      exact I2.fpOk (aai _) (I2.hok.fresh (aai _))
    ·have:c.natAbs.log2<63:=(acP (by omega)).mpr (by omega)
     exact aao this (by decide)
end
theorem KW:Manifest.owners.lookup (String.ofList ['r','o','t','a','r','e','t','i','e','s','r','e','v','e','r','_','t','s','i','l'].reverse)=some Manifest.sig_list_reverseiterator:=by kernel_rfl
theorem FJ:Slot "list_reverseiterator" "__next__" "list_reverseiterator.__next__":=Slot.of (owner := "list_reverseiterator") (n := "__next__") (by rw[typeLookup_type,builtinLookup_eq_fast];kernel_rfl) (by decide +kernel) (by decide +kernel) (by decide +kernel) (by first|exact .inl (by decide +kernel)|exact .inr (by decide +kernel)) (by rw[isSubtype_type];kernel_rfl)
theorem KY:entryFor table "list_reverseiterator.__next__" = some Builtin.«list_reverseiterator.__next__»:=entryFor_of_tree (by kernel_rfl)
theorem MI:Slot "list_reverseiterator" "__iter__" "list_reverseiterator.__iter__":=Slot.of (owner := "list_reverseiterator") (n := "__iter__") (by rw[typeLookup_type,builtinLookup_eq_fast];kernel_rfl) (by decide +kernel) (by decide +kernel) (by decide +kernel) (by first|exact .inl (by decide +kernel)|exact .inr (by decide +kernel)) (by rw[isSubtype_type];kernel_rfl)
theorem Qy:entryFor table "list_reverseiterator.__iter__" = some Builtin.«dict_keyiterator.__iter__»:=entryFor_alias (id' := "dict_keyiterator.__iter__") (by kernel_rfl) (by first|rfl|decide +kernel|(unfold String.splitOn;simp +decide [String.splitOnAux])) (by decide +kernel) (by kernel_rfl)
theorem KZ:mroOf (.type "reversed")=pure [.type "reversed",.type "object"]:=by rw[mroOf_type];kernel_rfl
theorem Vn:typeLookup (.type "reversed") "__new__" = pure (some (.builtin "reversed.__new__")):=by rw[typeLookup_type,builtinLookup_eq_fast];kernel_rfl
theorem Sx:Slot "reversed" "__init__" "object.__init__":=Slot.of (owner := "object") (n := "__init__") (by rw[typeLookup_type,builtinLookup_eq_fast];kernel_rfl) (by decide +kernel) (by decide +kernel) (by decide +kernel) (by first|exact .inl (by decide +kernel)|exact .inr (by decide +kernel)) (by rw[isSubtype_type];kernel_rfl)
theorem Eo:TypeCalled "reversed" "reversed.__new__" "object.__init__":=⟨by decide +kernel,by decide +kernel,⟨_,_,KZ⟩,madeBy_type KZ Vn (by decide +kernel),by decide +kernel,by rw[isSubtype_type];kernel_rfl,Sx⟩
theorem WR(a:Value):checkTypeCall "reversed" ⟨[a],[]⟩=pure ():=by kernel_rfl
theorem WS(a:Value):checkBuiltinCall "reversed.__new__" ⟨[.type "reversed",a],[]⟩=pure ():=by kernel_rfl
theorem Sy:entryFor table "reversed.__new__" = some Builtin.«reversed.__new__»:=entryFor_of_tree (by kernel_rfl)
theorem Vo:isSubtype (.type "reversed") (.type "reversed")=pure true:=by rw[isSubtype_type];kernel_rfl
theorem K0(a:Value):argsOk "list_reverseiterator.__next__" ⟨[a],[]⟩:=by unfold argsOk;rw[signature?_of (id := "list_reverseiterator.__next__") (n:=['_','_','t','x','e','n','_','_']) (o:=['r','o','t','a','r','e','t','i','e','s','r','e','v','e','r','_','t','s','i','l']) (by kernel_rfl) KW];kernel_rfl
theorem Qz(a:Value):argsOk "list_reverseiterator.__iter__" ⟨[a],[]⟩:=by unfold argsOk;rw[signature?_of (id := "list_reverseiterator.__iter__") (n:=['_','_','r','e','t','i','_','_']) (o:=['r','o','t','a','r','e','t','i','e','s','r','e','v','e','r','_','t','s','i','l']) (by kernel_rfl) KW];kernel_rfl
abbrev Dp(h:Heap)(it l:Addr)(k:Int):Prop:=∃o,h.get? it=some o/\o.cls=.type "list_reverseiterator" /\ o.data=.fields #[.ref l,rawInt k]
section
variable{prog:Program}{w:World}{A:Around}{E:Value->Shared->Prop}{s:Shared}
theorem K1{it l:Addr}{i:Nat}{items:Array Value}{x:Value}{Q:Option Value->Shared->Prop}(hit:Dp s.heap it l i)(hl:s.heap.IsList l items)(hx:items[i]?=some x)
  (hQ:∀h',Dp h' it l ((i:Int)-1)->Heap.SameBut it s.heap h'->Q (some x) {s with heap:=h'}):wpAny (model prog w) A (pyNext (.ref it)) Q E s:=by
 obtain⟨o,ho,hc,hd⟩:=id hit;obtain⟨ol,hol,_,nl,hdl⟩:=hl;have hT:s.TypeIs (.ref it) "list_reverseiterator":=⟨o,ho,hc⟩
 unfold pyNext;refine wpAny_bind (wpAny_attempt (wpAny_callSpecial?_slot (name:=Str.ofString "__next__") hT FJ (wpAny_call_entry FJ hT KY ?_ (K0 _))));show wpAny _ _ (field (.ref it) 1 >>= _) _ _ s
 refine wpAny_bind (wpAny_field ho hd (x:=rawInt i) rfl ?_);show wpAny _ _ (if(i:Int)<0 then _ else _) _ _ s;rw[if_neg (by omega)]
 show wpAny _ _ (field (.ref it) 0 >>= _) _ _ s;refine wpAny_bind (wpAny_field ho hd (x:=.ref l) rfl ?_);show wpAny _ _ (seqItems? (.ref l) >>= _) _ _ s
 refine wpAny_bind (wpAny_seqItems hol hdl ?_);simp only[aav,hx];refine wpAny_bind (wpAny_setField ho hd (by simp) (wpAny_pure ⟨x,rfl,wpAny_pure (hQ _ ?_ (Heap.SameBut.update ..))⟩))
 exact⟨_,Heap.get?_update_self _ ho (Obj.isFreed_of_fields (Obj.data_mapFields hd _)),(Obj.cls_mapFields ..).trans hc,by rw[Obj.data_mapFields hd];simp[rawInt]⟩
theorem MJ{it l:Addr}{k:Int}{Q:Option Value->Shared->Prop}(hh:A.handled=none)(hk:k<0)(hit:Dp s.heap it l k)(hQ:∀h',Heap.ExtBut it s.heap h'->Q none {s with heap:=h'}):wpAny (model prog w) A (pyNext (.ref it)) Q E s:=by
 obtain⟨o,ho,hc,hd⟩:=id hit;have hT:s.TypeIs (.ref it) "list_reverseiterator":=⟨o,ho,hc⟩;unfold pyNext
 refine wpAny_bind (wpAny_attempt (wpAny_callSpecial?_slot (name:=Str.ofString "__next__") hT FJ (wpAny_call_entry FJ hT KY ?_ (K0 _))));show wpAny _ _ (field (.ref it) 1 >>= _) _ _ s;refine wpAny_bind (wpAny_field ho hd (x:=rawInt k) rfl ?_)
 show wpAny _ _ (if k<0 then _ else _) _ _ s;rw[if_pos hk];refine wpAny_bind (wpAny_rule ?_)
 refine wpAny_bind ?_;unfold Builtin.SmallTypes.stopIteration;show wpAny _ _ (newExc (.type "StopIteration") [] >>= _) _ _ _
 refine wpAny_bind ?_;simp only[newExc,newTuple];refine wpAny_bind (wpAny_newObj_type ?_ (by size_fits))
 refine wpAny_bind (m:=firstArgMember _ _) (wpAny_of_eq (a:=Value.none) (by first|rfl|(simp only[firstArgMember];rfl)) ?_);refine wpAny_newObj_type ?_ (by size_fits);simp only[raiseNew]
 refine wpAny_bind (wpAny_handled ?_);rw[show A.in1.handled=none from hh];refine wpAny_bind (wpAny_pure (wpAny_throw ?_))
 refine wpAny_bind (wpAny_isInstance (T := "StopIteration") (b:=true) ⟨_,Heap.get?_push_size _ rfl,rfl⟩ isSubtype_stop ?_);exact wpAny_pure (hQ _ fun c o' hc' e=>Heap.get?_push_of_some _ (Heap.get?_push_of_some _ e))
theorem HP{it l:Addr}{k:Int}{Q:Value->Shared->Prop}(hit:Dp s.heap it l k)(h:Q (.ref it) s):wpAny (model prog w) A (pyIter (.ref it)) Q E s:=by
 obtain⟨o,ho,hc,hd⟩:=hit
 have hT:s.TypeIs (.ref it) "list_reverseiterator":=⟨o,ho,hc⟩
 refine wpAny_pyIter_slot hT MI (wpAny_call_entry MI hT Qy ?_ (Qz _))
 show wpAny _ _ (ret (.ref it)) _ _ s
 exact wpAny_pure ⟨_,rfl, "list_reverseiterator",_,hT,FJ.lookup,h⟩
end
theorem NH(l:Addr)(items:Array Value)(n:Nat)(dd:Option Addr)(sl:Array (Option Value)):Meets (Builtin.«list.__reversed__» ⟨[.ref l],[]⟩) (fun _ R s=>s.heap.get? l=some {cls:=.type "list",dict:=dd,data:=.seq items n,slots:=sl}/\R (.ok (.ret (.ref s.heap.objs.size))) {s with heap:=s.heap.push {cls:=.type "list_reverseiterator",data:=.fields #[.ref l,rawInt (((items.size:Nat):Int)-1)]}}) :=
 .of_wp fun prog w A R s h=>by
  obtain⟨hp,g,d,tk,os⟩:=s;obtain⟨hl,h⟩:=h;wp_walk;exact⟨_,rfl,h⟩
theorem OZ(l:Addr)(items:Array Value)(n:Nat)(dd:Option Addr)(sl:Array (Option Value)):Meets (Builtin.«reversed.__new__» ⟨[.type "reversed",.ref l],[]⟩) (fun _ R s=>s.heap.get? l=some {cls:=.type "list",dict:=dd,data:=.seq items n,slots:=sl}/\R (.ok (.ret (.ref s.heap.objs.size))) {s with heap:=s.heap.push {cls:=.type "list_reverseiterator",data:=.fields #[.ref l,rawInt (((items.size:Nat):Int)-1)]}}) :=
 .of_wp fun prog w A R s h=>by
  obtain⟨hp,g,d,tk,os⟩:=s;obtain⟨hl,h⟩:=h;have hsub:=Vo
  wp_walk
  have hlk:typeLookup (.type "list") (Str.ofString "__reversed__")=pure (some (.builtin "list.__reversed__")):=PySem.F.slot_list_reversed.lookup
  show wpAny (model prog w) A.in1 (typeLookup (.type "list") (Str.ofString "__reversed__")) _ _ _
  rw[hlk]
  refine wpAny_pure ?_
  wp_walk
  rw[PySem.F.slot_list_reversed.bind]
  refine wpAny_pure ?_
  show wpAny (model prog w) A.in1 (do rule "reversed.__new__.own-method";let v <- runValue (Code.call (.builtin "list.__reversed__") {pos:=[.ref l]});ret v) _ _ _
  refine wpAny_bind (wpAny_rule ?_)
  refine wpAny_bind ?_
  show wpAny (model prog w) A.in1 (call (.builtin "list.__reversed__") [.ref l]) _ _ _
  refine call_meets PySem.F.slot_list_reversed ⟨_,hl,rfl⟩ PySem.F.entry_list_reversed (PySem.F.args_list_reversed_1 _) (NH l items n dd sl) ⟨hl,?_⟩
  exact wpAny_pure ⟨_,rfl,h⟩
theorem Sz:isSubtype (.type "list_reverseiterator") (.type "reversed")=pure false:=by rw[isSubtype_type];kernel_rfl
section
variable{prog:Program}{w:World}{A:Around}{E:Value->Shared->Prop}{s:Shared}
theorem K2{l:Addr}{items:Array Value}{n:Nat}{dd:Option Addr}{sl:Array (Option Value)}{Q:Value->Shared->Prop}(hl:s.heap.get? l=some {cls:=.type "list",dict:=dd,data:=.seq items n,slots:=sl})
  (h:Q (.ref s.heap.objs.size) {s with heap:=s.heap.push {cls:=.type "list_reverseiterator",data:=.fields #[.ref l,rawInt (((items.size:Nat):Int)-1)]}}) :
  wpAny (model prog w) A (call (.type "reversed") [.ref l]) Q E s:=by
 have hmro:=KZ
 have hmade:=Eo.made;have hsub:=Eo.sub;have h1:=Eo.notType;have h2:=Eo.canCreate;have hct:=WR (.ref l)
 refine wpAny_call (codeAny_of_tree ?_);show wpAny _ _ (callAny (.type "reversed") _) _ _ _
 refine wpAny_pure ⟨Code.quiet_builtin _ (by decide +kernel),codeAny_builtin PySem.F.entry_type_call ?_⟩;rw[Around.under_plain (weight_type_call_type "reversed" [.ref l] []) (units_type_call_type "reversed" [.ref l] [])]
 (repeat (any_goals (first|assumption|wp_step)))
 refine codeAny_mono (codeAny_call_builtin Eo.plain Sy (wpAny_of_eq (WS _) (OZ l items n dd sl prog w A.in1 (wants (fun obj s₁=>s₁.TypeIs obj "list_reverseiterator" /\ Q obj s₁) E) s ⟨hl,⟨⟨_,Heap.get?_push_size _ rfl,rfl⟩,h⟩⟩))) fun r s₁ hr=>?_
 cases r with
 |error e=>exact hr
 |ok fl=>
  cases fl with
  |ret obj=>
   obtain⟨hT,hq⟩:s₁.TypeIs obj "list_reverseiterator" /\ Q obj s₁:=hr
   have hns:=Sz;(repeat (any_goals (first|assumption|wp_step)))
  |_=>exact hr.elim
end
end L2
namespace L2
open PySem PySem.Spec PyProof.Rows PySem.W
abbrev Itb(K:PySem.W.Frag)(a:Addr)(n:Nat):It :=
 ⟨fun i H=>∃xs x,SqL K H a xs/\i<n/\xs[n-1-i]?=some x,fun i H x H'=>H'=H/\∀xs,SqL K H a xs->xs[n-1-i]?=some x,fun i _=>n<=i⟩
theorem QA{P:Program}{w:World}{K:PySem.W.Frag}{tg:Expr}(a it:Addr)(n:Nat):Turn P w K tg (Itb K a n) [it] it (fun i h=>Dp h it a ((n:Int)-1-i)) where
 mem:=by simp
 obj:=fun i h st b hb=>by
  have e:b=it:=by simpa using hb
  subst e;obtain⟨o,e,c,d⟩:=st;exact⟨o,e,fun v z=>by rw[d]at z;cases z⟩
 keep:=fun i h h' st k=>by obtain⟨o,e,c,d⟩:=st;exact⟨o,k it (by simp) o e,c,d⟩
 item:=by
  intro X hP hw hK hc i pins s σ H E I hf st hg;subst hP hw hK
  obtain⟨xs,x,hq,hi,hx⟩:=hg
  obtain⟨its,rv,p,hz⟩:=I.list hq;obtain⟨u,hu,ru⟩:=rv.get hx;obtain⟨f0,f1,f2,f3,f4,f5⟩:=hf it (by simp)
  have st1:Dp s.heap it a ((n-1-i:Nat):Int):=by rw[show((n-1-i:Nat):Int)=(n:Int)-1-i by omega];exact st
  refine K1 st1 p.isList (x:=u) (by simpa using hu) fun h' st' sb=>?_
  have I1:Inv X pins σ H {s with heap:=h'}:=I.turned (t':=s.toks) (fun b o hb e=>(sb.2 b hb).trans e) f0 f1 f3 f4 f5
  obtain⟨o,e,c,d⟩:=id st'
  refine⟨u,rfl,Ir (s:={s with heap:=h'}) e c d (by decide) ⟨x,H,I1,ru,⟨rfl,fun ys hy=>by rw[I.list_inj hy hq];exact hx⟩,?_,fun b hb=>(hf b hb).1⟩⟩
  show Dp h' it a ((n:Int)-1-((i+1:Nat):Int))
  rw[show(n:Int)-1-((i+1:Nat):Int)=((n-1-i:Nat):Int)-1 by omega];exact st'
 done:=by
  intro X hP hw hK hc i pins s σ H E I hf st hg;subst hP hw hK
  have hg:n<=i:=hg
  obtain⟨f0,f1,f2,f3,f4,f5⟩:=hf it (by simp)
  exact MJ (I.ok.hd hc) (show(n:Int)-1-i<0 by omega) st fun h' eb=>⟨rfl,I.turned (t':=s.toks) (fun b o hb e=>eb b o hb e) f0 f1 f3 f4 f5⟩
 self:=fun _ _ _ _ _ st h=>HP st h
section
variable{X:Cx}{tg:Expr}
abbrev XX(K:PySem.W.Frag)(ta:TA):TI:=fun σ H R=>ta σ H fun vs H1=>∃a xs,vs=[.ref a]/\SqL K H1 a xs/\(xs.length<=sizeLine->R (Itb K a xs.length) H1)
theorem Vp{e:Expr}{ta:TA}{p pos:Pos}(hg:Gl X "reversed")(hm:X.mg "reversed" = none)(ha:PA X [e] ta)(hs:starEach [e] X.env=[(false,eval e X.env)]):PI X tg (.Call (.Name "reversed" p) [e] [] pos) (XX X.K ta):=by
 intro pins s σ H R I h
 refine Call_ (Bu I hg hm (show bootBuiltins "reversed" = some (.type "reversed") by decide +kernel) (PyProof.Rows.callWith_type1 (thn (ha pos pins s σ H _ I h) fun us s1 ⟨vs,H1,I1,r1,q1⟩=>?_) hs rfl))
 obtain⟨a,xs,e,hq,q⟩:=q1
 subst e
 cases r1 with
 |cons r rr=>
  cases rr
  cases r
  obtain⟨its,rv,pp,hz⟩:=I1.list hq
  have hl:=rv.length
  obtain⟨⟨c,dd,da,sl⟩,ho,hc,n,hd⟩:=pp.isList
  subst hc hd
  refine K2 ho ?_
  have st:Dp (s1.heap.push {cls:=.type "list_reverseiterator",data:=.fields #[.ref a,rawInt (((its.toArray.size:Nat):Int)-1)]}) s1.heap.objs.size a ((xs.length:Int)-1-(0:Nat)):=⟨_,Heap.get?_push_size _ rfl,rfl,by rw[aar];simp[hl]⟩
  refine HP st ?_
  refine⟨s1.heap.objs.size,[s1.heap.objs.size],_,_,H1,rfl,I1.kept (t':=s1.toks) fun b o e=>Heap.get?_push_of_some _ e,QA a _ xs.length,st,fun b hb=>?_,q hz⟩
  have e:b=s1.heap.objs.size:=by simpa using hb
  subst e;exact I1.fpOk (aai _) (I1.hok.fresh (aai _))
end
end L2
end
section
namespace L2
open PySem PySem.Spec PyProof.Rows PySem.W
theorem MK(a c:Int):∀{acc:List Value}{k n:Nat},acc.length=n->(∀j v,acc[j]?=some v->∃t,v=Value.int (a+((k+j:Nat):Int)*c) t)->Vals ((aan n).map fun i=>V.int (a+((k+i:Nat):Int)*c)) acc
 |[],k,n,hl,_=>by subst hl;exact .nil
 |u::r,k,n,hl,h=>by
  subst hl
  obtain⟨t,rfl⟩:=h 0 u rfl
  rw[aaL,abQ,aaI,aaB]
  refine .cons ⟨t,rfl⟩ ?_
  have e0:∀i:Nat,k+1+i=k+(i+1):=fun i=>by omega
  have:=MK a c (acc:=r) (k:=k+1) rfl fun j v e=>by
   obtain⟨t,e⟩:=h (j+1) v (by simpa using e)
   exact⟨t,by rw[e,e0]⟩
  rw[aaQ (g:=fun i=>V.int (a+((k+1+i:Nat):Int)*c)) (fun i _=>by show V.int (a+((k+(i+1):Nat):Int)*c)=V.int (a+((k+1+i:Nat):Int)*c);rw[e0])]
  exact this
section
variable{X:Cx}
abbrev XY(ta:TA):TE:=fun σ H Q=>ta σ H fun vs H1=>∃i j c:Int,vs=[.int i,.int j,.int c]/\(-(2^62)<=i/\i<2^62/\-(2^62)<=j/\j<2^62/\-(2^62)<=c/\c<2^62)/\c≠0/\(Builtin.Range.rangeSize i j c).toNat<=2^24/\∀l,H1 l=none->Q (.ref l) (upd H1 l (.lst ((aan (Builtin.Range.rangeSize i j c).toNat).map fun k=>.int (i+(k:Nat)*c))))
theorem O0{a b d:Expr}{ta:TA}{p1 p2 pos pos2:Pos}(hc:X.calm=true)(hgl:Gl X "list")(hml:X.mg "list" = none)(hg:Gl X "range")(hm:X.mg "range" = none)(ha:PA X [a,b,d] ta)(hs:starEach [a,b,d] X.env=[(false,eval a X.env),(false,eval b X.env),(false,eval d X.env)])(hs2:starEach [b,d] X.env=[(false,eval b X.env),(false,eval d X.env)]):PE X (.Call (.Name "list" p1) [.Call (.Name "range" p2) [a,b,d] [] pos2] [] pos) (XY ta):=by
 intro pins s σ H Q I h
 refine wpAny_Call_Name_kw (Bu I hgl hml (show bootBuiltins "list" = some (.type "list") by decide +kernel) ?_)
 refine PyProof.Rows.callWith_type1 (rest:=[]) ?_ rfl rfl
 show wpAny _ _ (spliced ((false,eval (.Call (.Name "range" p2) [a,b,d] [] pos2) X.env)::backTo pos (starEach [] X.env))) _ _ s
 refine Calls.spliced_cons ?_
 refine Call_ (Bu I hg hm boot_range (PyProof.Rows.callWith_type1 (thn (ha pos2 pins s σ H _ I h) fun us s1 ⟨vs,H1,I1,r1,q1⟩=>?_) (by rw[hs,hs2]) (by rw[hs2];rfl)))
 obtain⟨i,j,c,e,⟨q1,q2,q3,q4,q5,q6⟩,q0,qn,q⟩:=q1
 subst e
 cases r1 with
 |cons r rr=>
  cases rr with
  |cons r' rr=>
   cases rr with
   |cons r2 rr=>
    cases rr
    obtain⟨t,rfl⟩:=r
    obtain⟨t',rfl⟩:=r'
    obtain⟨t2,rfl⟩:=r2
    refine call_range_3 q0 ?_ (.inl (PyProof.noPylong_of_log2 ?_))
    ·refine Calls.spliced_nil ?_
     have hn:Builtin.Range.rangeSize i j c=(((Builtin.Range.rangeSize i j c).toNat:Nat):Int):=by have:=KU (a:=i) (b:=j) q0;omega
     refine call_list_range (I1.ok.hd hc) (IsRange.new ..) (HB q1 q2 q3 q4 q5 q6 q0 qn) hn qn fun h' tk acc c' hk hS hacc=>?_
     obtain⟨z1,z2⟩:=hacc
     have I2:Inv X pins σ H1 {s1 with heap:=s1.heap.push {cls:=.type "range",data:=.fields #[.int i t,.int j t',.int c t2]},toks:=s1.toks}:=I1.kept fun b o e=>Heap.get?_push_of_some _ e
     have hf:=I2.hok.fresh (aai _)
     refine⟨.ref _,upd H1 _ (.lst ((aan (Builtin.Range.rangeSize i j c).toNat).map fun k=>.int (i+(k:Nat)*c))),I2.laid (t':=tk) hk (aai _) ?_,rfl,q _ hf⟩
     refine⟨by rw[aab,aaP];exact qn,acc.toList,c',?_,hS⟩
     have:=MK i c (acc:=acc.toList) (k:=0) (n:=(Builtin.Range.rangeSize i j c).toNat) (by simpa using z1) fun k v e=>by
      obtain⟨t,e⟩:=z2 k v (by simpa using e)
      exact⟨t,by rw[e,aaK]⟩
     simpa using this
    ·have:c.natAbs.log2<63:=(acP (by omega)).mpr (by omega)
     omega
end
end L2
end
section
namespace L2
open PySem PySem.Spec PyProof PyProof.Rows PySem.W
section
variable{prog:Program}{w:World}{A:Around}{E:Value->Shared->Prop}
theorem O1{it l:Addr}{items:Array Value}(hne:l≠it):∀(n i:Nat)(s:Shared)(Q:List Value->Shared->Prop),s.heap.IsListIter it l i->s.heap.IsList l items->i+n<=items.size->(∀h',h'.IsListIter it l (i+n)->Heap.SameBut it s.heap h'->Q ((items.toList.drop i).take n) {s with heap:=h'})->wpAny (model prog w) A (draw (.ref it) n) Q E s
 |0,i,s,Q,hit,_,_,hQ=>wpAny_pure (by simpa using hQ s.heap hit (Heap.SameBut.refl ..))
 |n+1,i,s,Q,hit,hl,hle,hQ=>by
  have hz:i<items.size:=by omega
  show wpAny _ _ (pyNext (.ref it) >>= _) Q E s;refine wpAny_bind (wpAny_pyNext_list_item hit hl (x:=items[i]) (by simp[hz]) fun h1 hit1 hs1=>?_)
  have hl1:h1.IsList l items:=by
   obtain⟨o,e,c⟩:=hl
   exact⟨o,(hs1.2 l hne).trans e,c⟩
  refine wpAny_bind (wpAny_holding (O1 hne n (i+1) _ _ hit1 hl1 (by omega) fun h2 hit2 hs2=>wpAny_pure ?_))
  have hd:items.toList.drop i=items[i]::items.toList.drop (i+1):=by simp[ab0,hz]
  have:=hQ h2 (by rw[show i+(n+1)=i+1+n by omega];exact hit2) ⟨hs2.1.trans hs1.1,fun b hb=>(hs2.2 b hb).trans (hs1.2 b hb)⟩
  rw[hd,List.take_succ_cons]at this;exact this
theorem SA{s:Shared}{l:Addr}{items:Array Value}{Q:List Value->Shared->Prop}(hh:A.handled=none)(hl:s.heap.IsList l items)(hQ:∀h',Heap.ExtBut s.heap.objs.size s.heap h'->Q items.toList {s with heap:=h'}):wpAny (model prog w) A (unpackItems (.ref l) items.size none) Q E s:=by
 have hlt:l≠s.heap.objs.size:=by obtain⟨o,ho,_⟩:=hl;exact aaV (Heap.lt_size ho)
 unfold unpackItems notIterableAtAll
 refine wpAny_bind (wpAny_bind (wpAny_specialOf hl.typeIs slot_list_iter.lookup (wpAny_pure ?_)))
 simp only[aa7,if_false];refine wpAny_bind (wpAny_holding (wpAny_pyIter_list hl ?_))
 have hl0:(s.heap.push {cls:=.type "list_iterator",data:=.fields #[.ref l,.int 0 0]}).IsList l items:=by
  obtain⟨o,e,c⟩:=hl
  exact⟨o,Heap.get?_push_of_some _ e,c⟩
 refine wpAny_bind (wpAny_holding (O1 hlt items.size 0 _ _ ⟨_,Heap.get?_push_size _ rfl,rfl,rfl⟩ hl0 (by omega) fun h1 hit1 hs1=>?_))
 have hall:List.take items.size (List.drop 0 items.toList)=items.toList:=by
  rw[List.drop_zero];exact acQ (by simp)
 rw[hall,if_neg (by simp)]
 have hl1:h1.IsList l items:=by
  obtain⟨o,e,c⟩:=hl0
  exact⟨o,(hs1.2 l hlt).trans e,c⟩
 refine wpAny_bind (wpAny_holding (wpAny_pyNext_list_end hh hit1 hl1 (by simp) fun h2 he2=>?_))
 simp only[Option.isSome_none,aa7,if_false]
 exact wpAny_pure (hQ h2 fun b o hb e=>he2 b o hb ((hs1.2 b hb).trans (Heap.get?_push_of_some _ e)))
end
section
variable{X:Cx}{pos:Pos}
abbrev Vq(K:PySem.W.Frag)(n:Nat)(t:TGs):TG:=fun v σ H Q=>∃a xs,v=.ref a/\SqL K H a xs/\xs.length=n/\t xs σ H Q
theorem Vr{es:List Expr}{k:Nat}{t:TGs}{n:Nat}(hc:X.calm=true)(h:PGs X es t)(hn:(assignEach es X.env).length=n)(hst:(assignEach es X.env).findIdx? (·.1)=none):PG X (.Tuple es k pos) (Vq X.K n t):=by
 intro pins s σ H v u Q I r hw
 obtain⟨a,xs,rfl,hq,hl,hw⟩:=hw
 cases r
 obtain⟨its,rv,pl,hz⟩:=I.list hq
 rw[assign_Tuple]
 refine wpAny_bind (wpAny_standAt ?_)
 unfold unpack
 rw[hst,hn,<- hl,rv.length,show its.length=its.toArray.size by simp]
 refine wpAny_bind (wpAny_holding (SA (I.ok.hd hc) pl.isList fun h' hx=>?_))
 have I1:Inv X pins σ H {s with heap:=h'}:=I.kept (t':=s.toks) fun b o e=>hx b o (aaV (Heap.lt_size e)) e
 exact h pins _ σ H xs _ Q I1 (by simpa using rv) hw
end
end L2
end
section
namespace L2
open PySem PySem.Spec PyProof.Rows PySem.W
theorem QB:typeLookup (.type "list_reverseiterator") "__len__" = pure none:=by rw[typeLookup_type,builtinLookup_eq_fast];kernel_rfl
theorem SB:typeLookup (.type "list_reverseiterator") "__length_hint__" = pure (some (.builtin "list_reverseiterator.__length_hint__")):=by rw[typeLookup_type,builtinLookup_eq_fast];kernel_rfl
section
variable{prog:Program}{w:World}{A:Around}{E:Value->Shared->Prop}{s:Shared}
theorem O2(hh:A.handled=none)(it l:Addr)(its:Array Value)(n:Nat)(hn:its.size=n):Walks prog w A it [it,l] [it] n (fun i v=>its[n-1-i]?=some v) (fun i h=>Dp h it l ((n:Int)-1-(i:Nat))/\h.IsList l its/\it≠l) where
 sub:=fun b hb=>by rw[aaE.mp hb];exact aac
 frame:=fun i h h' st k=>by
  obtain⟨⟨o,e,c,d⟩,⟨ol,f,g⟩,ne⟩:=st
  exact⟨⟨o,k it (by simp) o e,c,d⟩,⟨ol,k l (by simp) ol f,g⟩,ne⟩
 item:=fun i s Q E hi st hQ=>by
  obtain⟨st,hl,ne⟩:=st
  have hx:its[n-1-i]?=some (its[n-1-i]'(by omega)):=Array.getElem?_eq_getElem (by omega)
  have st1:Dp s.heap it l ((n-1-i:Nat):Int):=by rw[show((n-1-i:Nat):Int)=(n:Int)-1-i by omega];exact st
  refine K1 st1 hl hx fun h' st' sb=>?_
  refine hQ _ h' s.toks hx ⟨?_,?_,ne⟩ fun b o hb e=>(sb.2 b (fun h=>hb (aaE.mpr h))).trans e
  ·rw[show(n:Int)-1-((i+1:Nat):Int)=((n-1-i:Nat):Int)-1 by omega];exact st'
  ·obtain⟨ol,f,g⟩:=hl;exact⟨ol,(sb.2 l (Ne.symm ne)).trans f,g⟩
 done:=fun s Q E st hQ=>MJ hh (show(n:Int)-1-(n:Nat)<0 by omega) st.1 fun h' eb=>hQ h' s.toks fun b o hb e=>eb b o (fun h=>hb (aaE.mpr h)) e
 self:=fun _ _ _ _ st h=>HP st.1 h
theorem NI{R:Result->Shared->Prop}{it l S:Addr}{its:Array Value}{n c₀:Nat}(hh:A.handled=none)(hn:its.size=n)(hlen:n<=sizeLine)(res:Value)
  (st:Dp s.heap it l ((n:Int)-1-(0:Nat))/\s.heap.IsList l its/\it≠l) (hSi:S≠it) (hSl:S≠l) (hS:s.heap.get? S=some {cls:=.type "list",data:=.seq #[] c₀})
  (hR:∀h' tk acc' c',(∀b o,b≠S->b≠it->s.heap.get? b=some o->h'.get? b=some o)->h'.get? S=some {cls:=.type "list",dict:=none,data:=.seq acc' c',slots:=#[]}->ItemsOf (fun i v=>its[n-1-i]?=some v) acc' n->R (.ok (.ret res)) {s with heap:=h',toks:=tk}) :
  wpAny (model prog w) A.in1 (Builtin.List.listExtendWith (.ref S) (.ref it) res)
   (fun fin s'=>match fin with|.done f=>R (.ok f) s'|.again c'=>c'.quiet=true/\codeAny (model prog w) A c' R s') (fun e s'=>R (.error e) s') s:=by
 have W:=(O2 (prog:=prog) (w:=w) (A:=A.in1) hh it l its n hn).toS
 have hT:s.TypeIs (.ref it) "list_reverseiterator":=let ⟨o,e,c,_⟩:=st.1;⟨o,e,c⟩
 have hSf:S∉[it,l]:=fun hm=>by
  rcases aak.mp hm with h|h
  ·exact hSi h
  ·exact hSl (aaE.mp h)
 have h1:Builtin.List.listSameRef (.ref S) (.ref it)=false:=by simp[Builtin.List.listSameRef,hSi]
 unfold Builtin.List.listExtendWith
 refine wpAny_bind (wpAny_typeOf hT ?_)
 rw[if_neg (by rw[h1];decide)]
 refine wpAny_bind (W.self 0 _ _ _ st ?_)
 refine wpAny_bind (wpAny_holding ?_)
 unfold Builtin.List.listLengthHint
 refine wpAny_bind (wpAny_specialOf hT QB ?_)
 show wpAny _ A.in1 (specialOf (Value.ref it) (Str.ofString "__length_hint__") >>= _) _ _ _
 refine wpAny_bind (wpAny_specialOf hT SB ?_)
 (generalize hid:("list_reverseiterator.__length_hint__" : String)=id0;wp_delta;rw[show splitId id0=some ("list_reverseiterator", "__length_hint__") from by subst hid;decide +kernel];subst hid)
 refine wpAny_bind (wpAny_isInstance (b:=true) hT (by rw[isSubtype_type];kernel_rfl) ?_)
 refine wpAny_pure ?_
 rw[if_neg (by decide)]
 refine wpAny_pure ⟨plainId_quiet F.plain_extend_loop _,codeAny_extend_loopS W hlen _ hSf _ n 0 _ _ _ rfl (aaw _) st hS (ItemsOf.nil _) fun s' acc' c' hm hS' hacc=>?_⟩
 rw[Moved.eq_with hm]
 refine hR s'.heap s'.toks acc' c' (fun b o hb hb' e=>hm.heap b o (fun hmem=>?_) e) hS' hacc
 rcases aak.mp hmem with e'|hmem
 ·exact hb e'
 ·exact hb' (aaE.mp hmem)
theorem Kb{Q:Value->Shared->Prop}{it l:Addr}{its:Array Value}{n:Nat}(hh:A.handled=none)(hn:its.size=n)(hlen:n<=sizeLine)
  (st:Dp s.heap it l ((n:Int)-1-(0:Nat))/\s.heap.IsList l its/\it≠l)
  (hQ:∀h' tk acc' c',(∀b o,b≠it->s.heap.get? b=some o->h'.get? b=some o)->
   h'.get? s.heap.objs.size=some {cls:=.type "list",dict:=none,data:=.seq acc' c',slots:=#[]}->ItemsOf (fun i v=>its[n-1-i]?=some v) acc' n->Q (.ref s.heap.objs.size) {s with heap:=h',toks:=tk}) :
  wpAny (model prog w) A (call (.type "list") [.ref it]) Q E s:=by
 have li:it<s.heap.objs.size:=let ⟨o,e,_⟩:=st.1;Heap.lt_size e
 have ll:l<s.heap.objs.size:=let ⟨o,e,_⟩:=st.2.1;Heap.lt_size e
 refine callType_codes (Q₁:=fun obj s₁=>obj=.ref s.heap.objs.size/\s₁={s with heap:=s.heap.push {cls:=.type "list",data:=.seq #[]}}) F.called_list (F.typeCall_list_1 _) F.entry_list_init
  (code_list_new _ ⟨rfl,rfl⟩) fun obj s₁ h₁=>?_
 obtain⟨rfl,rfl⟩:=h₁
 have hS:(s.heap.push {cls:=.type "list",data:=.seq #[]}).get? s.heap.objs.size=some {cls:=.type "list",data:=.seq #[]}:=Heap.get?_push_size _ rfl
 refine⟨⟨_,hS,rfl⟩,F.args_list_init_2 _ _,?_⟩
 show wpAny _ _ (do let old <- Builtin.List.listItems (.ref s.heap.objs.size);Builtin.List.listUpdate (.ref s.heap.objs.size) (fun _=>#[]);letGo old.toList.reverse;Builtin.List.listExtendWith (.ref s.heap.objs.size) (.ref it) .none) _ _ _
 refine wpAny_bind ?_
 unfold Builtin.List.listItems
 refine wpAny_bind (wpAny_seqItems hS rfl (wpAny_pure ?_))
 show wpAny _ _ (updateSeq s.heap.objs.size (fun _=>#[]) >>= fun _=>letGo (#[]:Array Value).toList.reverse >>= fun _=>Builtin.List.listExtendWith (.ref s.heap.objs.size) (.ref it) .none) _ _ _
 refine wpAny_bind (wpAny_updateSeq hS rfl ?_)
 have hS₂:=Heap.get?_update_self (Obj.mapSeq (fun _=>(#[]:Array Value))) hS rfl
 have oth:∀b o,s.heap.get? b=some o->((s.heap.push {cls:=.type "list",data:=.seq #[]}).update s.heap.objs.size (Obj.mapSeq (fun _=>(#[]:Array Value)))).get? b=some o :=
  fun b o e=>(Heap.get?_update_other _ _ (abw (Heap.lt_size e))).trans (Heap.get?_push_of_some _ e)
 refine wpAny_bind (wpAny_letGo ?_)
 refine NI (A:=A.in1) hh hn hlen .none ?_ (abw li) (abw ll) hS₂ fun h' tk acc' c' hk hS' hacc=>?_
 ·obtain⟨⟨o,e,c,d⟩,⟨ol,f,g⟩,ne⟩:=st
  exact⟨⟨o,oth _ _ e,c,d⟩,⟨ol,oth _ _ f,g⟩,ne⟩
 ·exact⟨rfl,hQ h' tk acc' c' (fun b o hb e=>hk b o (aaV (Heap.lt_size e)) hb (oth b o e)) hS' hacc⟩
end
section
variable{X:Cx}
abbrev XZ(K:PySem.W.Frag)(ta:TA):TE:=fun σ H Q=>ta σ H fun vs H1=>∃a xs,vs=[.ref a]/\SqL K H1 a xs/\∀l,H1 l=none->Q (.ref l) (upd H1 l (.lst xs.reverse))
theorem O3{a:Expr}{ta:TA}{p1 p2 pos pos2:Pos}(hc:X.calm=true)(hgl:Gl X "list")(hml:X.mg "list" = none)(hg:Gl X "reversed")(hm:X.mg "reversed" = none)(ha:PA X [a] ta)(hs:starEach [a] X.env=[(false,eval a X.env)]):PE X (.Call (.Name "list" p1) [.Call (.Name "reversed" p2) [a] [] pos2] [] pos) (XZ X.K ta):=by
 intro pins s σ H Q I h
 refine wpAny_Call_Name_kw (Bu I hgl hml (show bootBuiltins "list" = some (.type "list") by decide +kernel) ?_)
 refine PyProof.Rows.callWith_type1 (rest:=[]) ?_ rfl rfl
 show wpAny _ _ (spliced ((false,eval (.Call (.Name "reversed" p2) [a] [] pos2) X.env)::backTo pos (starEach [] X.env))) _ _ s
 refine Calls.spliced_cons ?_
 refine Call_ (Bu I hg hm (show bootBuiltins "reversed" = some (.type "reversed") by decide +kernel) (PyProof.Rows.callWith_type1 (thn (ha pos2 pins s σ H _ I h) fun us s1 ⟨vs,H1,I1,r1,q1⟩=>?_) hs rfl))
 obtain⟨a,xs,e,hq,q⟩:=q1
 subst e
 cases r1 with
 |cons r rr=>
  cases rr
  cases r
  obtain⟨its,rv,pp,hz⟩:=I1.list hq
  have hl:=rv.length
  obtain⟨⟨c,dd,da,sl⟩,ho,hc1,n,hd⟩:=pp.isList
  subst hc1 hd
  refine K2 ho ?_
  refine Calls.spliced_nil ?_
  have la:=Heap.lt_size ho
  have I2:Inv X pins σ H1 {s1 with heap:=s1.heap.push {cls:=.type "list_reverseiterator",data:=.fields #[.ref a,rawInt (((its.toArray.size:Nat):Int)-1)]}}:=I1.kept (t':=s1.toks) fun b o e=>Heap.get?_push_of_some _ e
  refine Kb (it:=s1.heap.objs.size) (l:=a) (its:=its.toArray) (n:=xs.length) (I1.ok.hd hc) (by rw[aar,hl]) hz ⟨⟨_,Heap.get?_push_size _ rfl,rfl,by rw[aar];simp[hl]⟩,⟨_,Heap.get?_push_of_some _ ho,rfl,_,rfl⟩,abw la⟩ fun h' tk acc c' hk hS hacc=>?_
  obtain⟨z1,z2⟩:=hacc
  have hp:s1.heap.objs.size<=(s1.heap.push {cls:=.type "list_reverseiterator",data:=.fields #[.ref a,rawInt (((its.toArray.size:Nat):Int)-1)]}).objs.size:=by rw[Heap.size_push];exact abR _
  have e:acc.toList=its.reverse:=by
   refine abC fun k=>?_
   by_cases hk:k<xs.length
   ·have h1:k<acc.size:=by rw[z1];exact hk
    have h2:=z2 k (acc[k]) (by simp[h1])
    rw[acV (by omega)]
    simp only[List.getElem?_toArray]at h2
    rw[show its.length-1-k=xs.length-1-k by omega,h2]
    simp[h1]
   ·rw[aba (by simp;omega),aba (by simp;omega)]
  refine⟨.ref _,upd H1 _ (.lst xs.reverse),I1.laid (t':=tk) (fun b o e=>hk b o (aaV (Heap.lt_size e)) (Heap.get?_push_of_some _ e)) hp ?_,rfl,q _ (I1.hok.fresh hp)⟩
  exact⟨by rw[abL];exact hz,acc.toList,c',by rw[e];exact rv.reverse,hS⟩
end
open AutoSeq1 (wpAny_loadPart')
theorem FpOk.upd{X:Cx}{pins:List (Addr×Obj)}{H:Hp}{c t:Addr}{o:HO}(h:FpOk X pins H c)(n:c≠t):FpOk X pins (upd H t o) c:=by
 obtain⟨f0,f1,f2,f3,f4,f5⟩:=h
 exact⟨by rw[Ah n];exact f0,f1,f2,f3,f4,f5⟩
end L2
end
section
set_option maxHeartbeats 1000000
namespace L2
open PySem PySem.Spec PyProof.Rows PySem.W
theorem HC{h base base':Heap}(k:∀b,base.get? b=none->base'.get? b=none):∀{l:List Env},h.FunFrames base l->h.FunFrames base' l
 |[],_=>trivial
 |env::rest,hl=>by
  obtain⟨hk,⟨L,o,hf,hn,ho,hd⟩,hr⟩:=hl
  exact⟨hk,⟨L,o,hf,k L hn,ho,hd⟩,HC k hr⟩
end L2
end
section
namespace L2
open PySem PySem.Spec PyProof.Rows
abbrev PEk(X:Cx)(e:Expr)(t:TE):Prop :=
 ∀(pins:List (Addr×Obj))(s:Shared)(σ:St)(H:Hp)(Q:VK),Inv X pins σ H s->0<s.toks->t σ H Q->wpAny (model X.prog X.w) X.A (eval e X.env) (EP X pins σ Q) X.xe s
section
variable{X:Cx}{a b e o:Expr}{es:List Expr}{ta tb te to:TE}{t:TA}{pos:Pos}
theorem PE.k(h:PE X e te):PEk X e te:=fun pins s σ H Q I _ q=>h pins s σ H Q I q
end
end L2
end
section
set_option maxHeartbeats 1000000
namespace L2
open PySem PySem.Spec PyProof.Rows PySem.W
open Builtin Builtin.ObjectAttr
abbrev xcB(C C0:Addr)(cd:ClassData)(sl:Array (Option Value)):Bool:=match cd.mro,sl.toList with
 |.ref C'::.ref D::bm,[_,_,_,_,some (.builtin n),_]=>C'==C&&D==C0&&bm==D1&&n == "ValueError.__new__"&&!cd.hasDel&&cd.hasDict
 |_,_=>false
abbrev X1(K:Frag)(C:Addr):Prop:=∃C0 dd cd sl,K.lookup C=some ⟨.type "type",dd,.cls cd,sl⟩/\xcB C C0 cd sl=true/\excIn K C0 D1 "ValueError.__new__" = true
@[reducible]noncomputable def X2(us:List Value):Obj:={cls:=.type "tuple",data:=.seq us.toArray}
@[reducible]noncomputable def QC(C t:Addr):Obj:={cls:=.ref C,data:=.fields #[.ref t,.none,.none,.none,.bool false,.none]}
section
variable{prog:Program}{w:World}{A:Around}{E:Value->Shared->Prop}{h:Heap}{g:Array GenState}{d:Drawn}{t:Nat}{os:OsState}
variable{nm q:Str}{C N x:Addr}{bs bm:List Value}{sn:List Str}{sub:List Value}{ab:Bool}{col:Option Bool}{dd:Option Addr}{k0 k1 k2 k3 k5:Option Value}{newId:String}
 {name:Str} {v:Value}
end
theorem HOk.laidN{P:Program}{w:World}{H:Hp}{h h':Heap}{a:Addr}{o:HO}(x:HOk P w H h)(k:∀b u,h.get? b=some u->h'.get? b=some u)(hn:H a=none)(new:ObjOk P w (upd H a o) h' a o):HOk P w (upd H a o) h':=fun b u e=>by
 by_cases hb:b=a
 ·subst hb;rw[Aq]at e;cases e;exact new
 ·rw[Ah hb]at e
  exact(x b u e).stay (fun c v _ q=>k c v q) (fun c q=>by rw[Ah (AD q hn)];exact q) fun c xs q=>by rw[Ah (AD q hn)];exact q
theorem Inv.laidN{X:Cx}{pins:List (Addr×Obj)}{σ:St}{H:Hp}{s:Shared}{h':Heap}{a:Addr}{o:HO}{t':Nat}(I:Inv X pins σ H s)(k:∀b u,s.heap.get? b=some u->h'.get? b=some u)(hp:s.heap.get? a=none)(hn:H a=none)(new:ObjOk X.prog X.w (upd H a o) h' a o) :
  Inv X pins σ (upd H a o) {s with heap:=h',toks:=t'}:=I.un ⟨fun b u q _ _ _=>k b u q,fun b u q _ _ _=>⟨u.slots,k b u q⟩,fun b u q n _=>by rw[Ah (fun z=>by subst z;rw[hp]at q;cases q)];exact n,fun b u q _=>⟨u,k b u q⟩,fun b xs q=>by rw[Ah (AD q hn)];exact q,fun b u xs q=>by rw[Ah (AD q hn)];exact q,fun b ps q=>⟨#[],by rw[Ah (AD q hn),Array.append_empty];exact q⟩⟩ (I.hok.laidN k hn new)
abbrev xB(a C t:Addr):HO:=.ext fun h=>h.get? a=some (QC C t)
abbrev xE(a C t dx:Addr):HO:=.ext fun h=>h.get? a=some {QC C t with dict:=some dx}
structure XOwn(K:Frag)(C:Addr)(f:Str):Prop where
 cls:X1 K C
 sa:findIn K (.ref C) "__setattr__" = some (some (.builtin "object.__setattr__"))
 na:findIn K (.ref C) f=some none
abbrev spI(C:Addr)(f:Str):Sp:=fun vs H Q _=>∃a t v,vs=[.ref a,v]/\H a=some (xB a C t)/\∀dx ob H3,H dx=none->dx≠a->H3 a=some (xE a C t dx)->H3 dx=some (.frz ob (.xd [(f,v)]))->(∀b,b≠a->b≠dx->H3 b=H b)->Q .non H3
end L2
end
section
set_option maxHeartbeats 1000000
namespace L2
open PySem PySem.Spec PyProof.Rows PySem.W
abbrev without(H:Hp)(e:Addr):Hp:=fun b=>if b=e then none else H b
theorem CO{H:Hp}{e b:Addr}(h:b≠e):without H e b=H b:=if_neg h
theorem DI{H:Hp}{e:Addr}:without H e e=none:=if_pos rfl
abbrev O4(X:Cx)(E:XK):Prop:=∀(pins:List (Addr×Obj))(σ:St)(H:Hp)(s:Shared)(e C t dx:Addr),Inv X pins σ H s->(∀o,X.s₀.heap.get? e=some o->e∈X.ex)->H e=some (xE e C t dx)->E (.ref C) (some dx) (without H e)->X.xe (.ref e) s
section
variable{P:Program}{w:World}{K:Frag}{mg:Str->Option Value}{base:Heap}{N:List Str}{qual:Str}{scope:Scope}{f:Addr}{cd:Value}{A:Around}{outer:List Env}{s₀:Shared}{H₀:Hp}{E E':XK}
theorem O5(hE:∀c d H,E c d H->E' c d H):O4 (AM (CXe P w) P w K mg base N qual scope f cd A outer s₀ H₀ E') E:=by
 intro pins σ H s e C t dx I e0 hx he
 have e0:s₀.heap.get? e=none:=by
  cases z:s₀.heap.get? e with
  |none=>rfl
  |some o=>exact absurd (show e∈([]:List Addr) from e0 o z) (by simp)
 show wpAny _ _ (leaving _ (.ref e)) _ _ _
 have hfr:∀env∈(AM (CXe P w) P w K mg base N qual scope f cd A outer s₀ H₀ E').stack,∀b,env.frame=some b->b∈frs (AM (CXe P w) P w K mg base N qual scope f cd A outer s₀ H₀ E').stack:=fun env h b hb=>aaO.mpr ⟨env,h,hb⟩
 have hoe:s.heap.get? e=some {QC C t with dict:=some dx}:=(I.hok e _ hx).1
 have hok':HOk P w (without H e) s.heap:=fun b o q=>by
  have hb:b≠e:=fun z=>by rw[z,DI]at q;cases q
  rw[CO hb]at q
  refine(I.hok b o q).stay (fun c u _ z=>z) (fun c z=>?_) fun c xs z=>?_
  ·rw[CO (fun y=>by rw[y,hx]at z;cases z)];exact z
  ·rw[CO (fun y=>by rw[y,hx]at z;cases z)];exact z
 have nst:∀b∈frs (AM (CXe P w) P w K mg base N qual scope f cd A outer s₀ H₀ E').stack,H b=none:=I.stkFree
 have hB:=hok'.hide (fs:=e::frs (AM (CXe P w) P w K mg base N qual scope f cd A outer s₀ H₀ E').stack) fun b hb=>by
  rcases aak.mp hb with rfl|hb
  ·exact DI
  ·by_cases z:b=e
   ·rw[z];exact DI
   ·rw[CO z];exact nst b hb
 have hff:=funFrames_hide I.stack hfr
 have hff2:s.heap.FunFrames (hideAll s.heap (e::frs (AM (CXe P w) P w K mg base N qual scope f cd A outer s₀ H₀ E').stack)) (AM (CXe P w) P w K mg base N qual scope f cd A outer s₀ H₀ E').stack:=HC (fun b q=>by
  cases q2:(hideAll s.heap (e::frs (AM (CXe P w) P w K mg base N qual scope f cd A outer s₀ H₀ E').stack)).get? b with
  |none=>rfl
  |some u=>
   exfalso
   have h1:=of_hideAll _ q2
   by_cases z:b∈e::frs (AM (CXe P w) P w K mg base N qual scope f cd A outer s₀ H₀ E').stack
   ·rw[hideAll_none _ z]at q2;cases q2
   ·rw[hideAll_get _ h1 (fun y=>z (aaa _ y))]at q;cases q) hff
 have hen:(hideAll s.heap (e::frs (AM (CXe P w) P w K mg base N qual scope f cd A outer s₀ H₀ E').stack)).get? e=none:=hideAll_none _ (aac ..)
 refine wpAny_mono (GB.any (wpAny_leaving_firstW (Q:=fun _ s2=>∃h2,s2={s with heap:=h2}/\Heap.LeftW (hideAll s.heap (e::frs (AM (CXe P w) P w K mg base N qual scope f cd A outer s₀ H₀ E').stack)) (AM (CXe P w) P w K mg base N qual scope f cd A outer s₀ H₀ E').stack e (.ref C) (.ref t) s.heap h2) (a0:=.ref t) I.ok.frames hff2 rfl hoe (fun b o q=>of_hideAll _ q) hen rfl rfl rfl fun h2 hL=>⟨h2,rfl,hL⟩)) (fun _ s2 q2=>?_) fun _ _ z=>z.1
 obtain⟨⟨h2,rfl,k1,⟨_,_,k2⟩,k3,up⟩,dk⟩:=q2
 have sub:∀b∈frs outer,b∈frs (AM (CXe P w) P w K mg base N qual scope f cd A outer s₀ H₀ E').stack:=fun b hb=>by
  obtain⟨env,h1,h2⟩:=aaO.mp hb
  exact aaO.mpr ⟨env,aaa _ h1,h2⟩
 have nloc:∀b o,s₀.heap.get? b=some o->b≠s₀.heap.objs.size:=fun b o q z=>by
  have:=Heap.lt_size q
  exact aaX _ (z▸this)
 have nfr:∀b o,s₀.heap.get? b=some o->b∉frs outer->b∉e::frs (AM (CXe P w) P w K mg base N qual scope f cd A outer s₀ H₀ E').stack:=fun b o q hb z=>by
  rcases aak.mp z with rfl|z
  ·rw[e0]at q;cases q
  ·obtain⟨env,h1,h2⟩:=aaO.mp z
   rcases aak.mp h1 with rfl|h1
   ·exact nloc b o q (Option.some.inj h2).symm
   ·exact hb (aaO.mpr ⟨env,h1,h2⟩)
 have nx:∀b:Addr,b∉(AM (CXe P w) P w K mg base N qual scope f cd A outer s₀ H₀ E').ex:=fun b z=>absurd (show b∈([]:List Addr) from z) (by simp)
 have wo:∀b u,H b=some u->(∀φ,u≠.ext φ)->without H e b=some u:=fun b u q n=>by
  rw[CO (fun z=>by rw[z,hx]at q;cases q;exact n _ rfl)];exact q
 refine⟨e,.ref C,.ref t,without H e,_,some dx,rfl,I.os,I.bare,⟨k1,hen,k2,k3⟩,hB,DI,fun b o q n hb=>hideAll_get _ (I.base.keep b o q n hb (nx b)) (nfr b o q hb),fun b o q n hb=>?_,fun b o q n=>?_,fun b o q hb=>?_,fun b xs q=>wo _ _ (I.base.tups b xs q) (fun φ z=>by cases z),fun b o u q=>wo _ _ (I.base.frzs b o u q) (fun φ z=>by cases z),fun b ps q=>?_,fun dx' z=>?_,hE _ _ _ he⟩
 ·obtain⟨sl,e1⟩:=I.base.slot b o q n hb (nx b)
  obtain⟨⟨hn,o2,ho2,hnf⟩⟩:=And.intro (I.stack.mem (sub b hb)) trivial
  rw[e1]at ho2
  cases ho2
  obtain⟨sl2,e2⟩:=up b _ e1 hnf
  exact⟨sl2,e2⟩
 ·have hb:b≠e:=fun z=>by rw[z,e0]at q;cases q
  rw[CO hb];exact I.base.free b o q n (nx b)
 ·obtain⟨o',e1⟩:=I.base.there b o q (nx b)
  exact⟨o',hideAll_get _ e1 (nfr b o q hb)⟩
 ·obtain⟨more,q2⟩:=I.base.tbls b ps q
  exact⟨more,wo _ _ q2 fun φ z=>by cases z⟩
 ·cases z
  obtain⟨o',q3,q4⟩:=dk e _ hoe
  exact⟨o',q3,q4⟩
end
structure Room0(k:Nat)(A:Around):Prop where
 dp:A.depth+3*k+5<recursionLimit
 un:A.units+16*k+200<cLine
theorem Room.r0{k:Nat}{A:Around}(r:Room k A):Room0 k A:=⟨r.dp,r.un⟩
theorem Room0.mono{j k:Nat}{A:Around}(r:Room0 k A)(h:j<=k):Room0 j A:=⟨by have:=r.dp;omega,by have:=r.un;omega⟩
theorem Room0.deeper{k:Nat}{A:Around}(r:Room0 (k+1) A)(env:Env):Room0 k (A.deeper env) :=
 ⟨by have:=r.dp;show A.depth+1+3*k+5<_;omega,by have:=r.un;show A.units+3+16*k+200<_;omega⟩
theorem Room0.units{k:Nat}{A:Around}(r:Room0 k A):A.units+64<cLine:=by have:=r.un;omega
@[reducible]noncomputable def Sp0:=List V->Hp->VK->Prop
structure FnOk0(P:Program)(w:World)(K:Frag)(mg:Str->Option Value)(base:Heap)(k:Nat)(f:Addr)(fd:FuncData)(ps:List Str)(sp:Sp0):Prop where
 len:∀vs H Q,sp vs H Q->vs.length=ps.length
 run:∀(A:Around)(outer:List Env)(s:Shared)(H:Hp)(args:Args)(us:List Value)(vs:List V)(Q:VK),Room0 k A->Env0 P w K mg base A outer s H->BindsTo s fd args (ps.zip us)->Vals vs us->sp vs H Q->
  codeAny (model P w) A (.call (.ref f) args) (CR (CXe P w) outer P w H s Q fun _ _ _=>False) s
section
variable{P:Program}{w:World}{K:Frag}{mg:Str->Option Value}{base:Heap}
abbrev Vs(P:Program)(w:World)(K:Frag)(mg:Str->Option Value)(base:Heap)(x:Str)(k:Nat)(ps:List Str)(sp:Sp0):Prop :=
 ∃f fd,FnOk0 P w K mg base k f fd ps sp/\mg x=some (.ref f)/\PySem.W.keepIn K (.ref f)=true/\Binds K fd ps []
end
end L2
end
section
namespace Pu
open PySem (Str)
inductive D where
 |non
 |bl (b:Bool)
 |int (i:Int)
 |str (x:Str)
 |tup (ds:List D)
 |lst (ds:List D)
 |exn (c:Nat)
 |dic (ks:List (Sum Int Str)) (ds:List D)
 |dit (ks:List (List (Sum Int Str))) (ds:List D)
inductive Res(α:Type) where
 |ok (a:α)
 |exc (c:Nat)
 |bad
namespace Res
abbrev bind{α β:Type}:Res α->(α->Res β)->Res β
 |.ok a,f=>f a
 |.exc c,_=>.exc c
 |.bad,_=>.bad
@[simp] theorem bind_ok{α β:Type}(a:α)(f:α->Res β):(Res.ok a).bind f=f a:=rfl
@[simp] theorem bind_exc{α β:Type}(c:Nat)(f:α->Res β):(Res.exc c:Res α).bind f=.exc c:=rfl
@[simp] theorem bind_bad{α β:Type}(f:α->Res β):(Res.bad:Res α).bind f=.bad:=rfl
theorem bind_eq_ok{α β:Type}{r:Res α}{f:α->Res β}{b:β}(h:r.bind f=.ok b):∃a,r=.ok a/\f a=.ok b:=by
 cases r<;>simp_all
end Res
mutual
noncomputable def D.eqv:D->D->Bool
 |.non,.non=>true
 |.bl a,.bl b=>a==b
 |.bl a,.int j=>(if a then 1 else 0)==j
 |.int i,.bl b=>i==(if b then 1 else 0)
 |.int i,.int j=>i==j
 |.str x,.str y=>x==y
 |.lst xs,.lst ys=>D.eqvs xs ys
 |.tup xs,.tup ys=>D.eqvs xs ys
 |_,_=>false
noncomputable def D.eqvs:List D->List D->Bool
 |[],[]=>true
 |x::xs,y::ys=>D.eqv x y&&D.eqvs xs ys
 |_,_=>false
end
abbrev D.shp:Nat->D->Bool
 |_,.non=>true
 |_,.bl _=>true
 |_,.int _=>true
 |_,.str x=>x.cps.all (· < 0x110000)
 |0,.tup _=>false
 |0,.lst _=>false
 |n+1,.tup ds=>ds.all (D.shp n)
 |n+1,.lst ds=>ds.all (D.shp n)
 |_,.exn _=>false
 |_,.dic _ _=>false
 |_,.dit _ _=>false
abbrev D.sm:Nat->D->D->Bool
 |_,.non,.non=>true
 |_,.bl a,.bl b=>a==b
 |_,.int a,.int b=>a==b
 |_,.str a,.str b=>a==b
 |n+1,.tup xs,.tup ys=>xs.length==ys.length&&(ac9 (D.sm n) xs ys).all id
 |n+1,.lst xs,.lst ys=>xs.length==ys.length&&(ac9 (D.sm n) xs ys).all id
 |_,.dic [] [],.dic [] []=>true
 |_,_,_=>false
abbrev D.flat:Nat->Nat->D->Bool
 |0,_,_=>false
 |_+1,_,.non=>true
 |_+1,_,.bl _=>true
 |_+1,_,.int _=>true
 |_+1,_,.str _=>true
 |_+1,_,.exn _=>true
 |m+1,k,.tup ds=>ds.all (D.flat m k)
 |_+1,0,.lst _=>false
 |m+1,k+1,.lst ds=>ds.all (D.flat m k)
 |_+1,0,.dic _ _=>false
 |m+1,k+1,.dic _ ds=>ds.all (D.flat m k)
 |_+1,0,.dit _ _=>false
 |m+1,k+1,.dit _ ds=>ds.all (D.flat m k)
@[reducible]noncomputable def LIM:Nat:=16777216
@[reducible]noncomputable def Fr:=List (Option D)
structure Fn where
 name:Str
 ar:Nat
 lv:Nat
 dep:Nat
 den:List D->Res D
set_option genSizeOf false
set_option genSizeOfSpec false
set_option genInjectivity false
inductive B2 where
 |add|sub|mul|fdiv|mod|pow
 deriving DecidableEq
inductive C2 where
 |lt|le|gt|ge|eq|ne|inn|nin
 deriving DecidableEq
inductive Kd where
 |int|bool|str|list|tuple|dict|verr|cls (n:Nat)
 deriving DecidableEq
inductive Bi where
 |len|min|maxL|int|list|tuple
 deriving DecidableEq
inductive Tg where
 |nm (i:Nat)
 |tp (is:List Nat)
 deriving DecidableEq
mutual
inductive E where
 |nm (i:Nat)
 |nmS (i:Nat)
 |cN
 |cB (b:Bool)
 |cI (i:Int)
 |cS (x:Str)
 |gl (x:Str) (d:D)
 |tup (es:Es)
 |lst (es:Es)
 |bin (o:B2) (a b:E)
 |neg (a:E)
 |not (a:E)
 |cmp (o:C2) (a b:E)
 |chain (o o':C2) (a b c:E)
 |isN (n:Bool) (a:E)
 |bo (and:Bool) (es:Es)
 |ifx (c a b:E)
 |ix (a i:E)
 |ixS (a i:E)
 |ixL (a i:E)
 |ixT (a i:E)
 |ixF (a i:E)
 |slc (a lo hi:E)
 |call (f:Fn) (es:Es)
 |callB (f:Fn) (es:Es)
 |bi (b:Bi) (es:Es)
 |listI (it:It)
 |isi (a:E) (k:Kd)
 |flS (e:E)
 |comp0 (nl:Nat) (fr:List Nat) (tg:Tg) (it:It) (elt:E)
 |comp1 (nl:Nat) (fr:List Nat) (tg:Tg) (it:It) (cond elt:E)
inductive Es where
 |nil
 |cons (e:E) (r:Es)
inductive It where
 |seq (e:E)
 |seqL (e:E)
 |r1 (a:E)
 |r2 (a b:E)
 |r3 (a b c:E)
 |en (e:E)
 |rv (e:E)
end
abbrev get(δ:Fr)(i:Nat):Res D:=match δ[i]? with
 |some (some d)=>.ok d
 |_=>.bad
abbrev on1:List D->(D->Res D)->Res D
 |[a],f=>f a
 |_,_=>.bad
abbrev on2:List D->(D->D->Res D)->Res D
 |[a,b],f=>f a b
 |_,_=>.bad
abbrev on3:List D->(D->D->D->Res D)->Res D
 |[a,b,c],f=>f a b c
 |_,_=>.bad
abbrev EE:D->(Int->Res D)->Res D
 |.int i,f=>f i
 |_,_=>.bad
abbrev Ce(a b:D)(f:Int->Int->Res D):Res D:=EE a fun i=>EE b fun j=>f i j
abbrev DJ:D->(List D->Res D)->Res D
 |.lst ds,f=>f ds
 |.tup ds,f=>f ds
 |_,_=>.bad
abbrev NJ:D->D->Res D
 |.int i,.int j=>.ok (.int (i+j))
 |.lst a,.lst b=>if a.length+b.length<=LIM then .ok (.lst (a++b)) else .bad
 |.str a,.str b=>if a.length+b.length<=LIM then .ok (.str (a++b)) else .bad
 |_,_=>.bad
abbrev K3:D->D->Res D
 |.int i,.int j=>if(-(2^64)<i/\i<2^64)\/(-(2^64)<j/\j<2^64) then .ok (.int (i*j)) else if i.natAbs<2^400/\j.natAbs<2^400 then .ok (.int (i*j)) else .bad
 |.lst a,.int k=>if -(2^63)<=k/\k<2^63/\a.length*k.toNat<=LIM then .ok (.lst (aam k.toNat a).flatten) else .bad
 |_,_=>.bad
abbrev b2:B2->D->D->Res D
 |.add,a,b=>NJ a b
 |.sub,a,b=>Ce a b fun i j=>.ok (.int (i-j))
 |.mul,a,b=>K3 a b
 |.fdiv,a,b=>Ce a b fun i j=>if 0<j/\j<2^200 then .ok (.int (i/j)) else .bad
 |.mod,a,b=>Ce a b fun i j=>if 0<j then .ok (.int (i%j)) else .bad
 |.pow,a,b=>Ce a b fun i j=>if 0<=j/\j<=1000000/\i.natAbs<2^64 then .ok (.int (i^j.toNat)) else .bad
abbrev D.scal:D->Bool
 |.non|.bl _|.int _|.str _=>true
 |_=>false
abbrev inD(x:D)(ys:List D):Res Bool:=if D.shp 8 x&&ys.all (D.shp 8) then .ok (ys.any fun y=>D.eqv y x) else .bad
abbrev c2:C2->D->D->Res D
 |.lt,a,b=>Ce a b fun i j=>.ok (.bl (decide (i<j)))
 |.le,a,b=>Ce a b fun i j=>.ok (.bl (decide (i<=j)))
 |.gt,a,b=>Ce a b fun i j=>.ok (.bl (decide (j<i)))
 |.ge,a,b=>Ce a b fun i j=>.ok (.bl (decide (j<=i)))
 |.eq,x,y=>if D.shp 8 x&&D.shp 8 y then .ok (.bl (D.eqv x y)) else .bad
 |.ne,x,y=>if D.shp 8 x&&D.shp 8 y then .ok (.bl (!D.eqv x y)) else .bad
 |.inn,x,y=>DJ y fun ys=>(inD x ys).bind fun b=>.ok (.bl b)
 |.nin,x,y=>DJ y fun ys=>(inD x ys).bind fun b=>.ok (.bl !b)
abbrev ixN(n:Nat)(i:Int):Option Nat:=if 0<=i then(if i<n then some i.toNat else none) else if -(n:Int)<=i then some (i+n).toNat else none
abbrev atD(ds:List D)(i:Int):Res D:=match (ixN ds.length i).bind (fun j=>ds[j]?) with
 |some d=>.ok d
 |none=>.bad
abbrev ixD:D->D->Res D
 |.lst ds,.int i=>atD ds i
 |.tup ds,.int i=>atD ds i
 |_,_=>.bad
abbrev Fb:D->D->Res D
 |.lst ds,.int i=>atD ds i
 |_,_=>.bad
abbrev D2:D->D->Res D
 |.tup ds,.int i=>atD ds i
 |_,_=>.bad
abbrev sIx(n d:Nat):Option Int->Nat
 |none=>d
 |some v=>(if v<0 then max (v+(n:Int)) 0 else min v (n:Int)).toNat
abbrev cut{α:Type}(xs:List α)(lo hi:Option Int):List α:=(xs.drop (sIx xs.length 0 lo)).take (sIx xs.length xs.length hi-sIx xs.length 0 lo)
abbrev DL:D->Res (Option Int)
 |.int i=>.ok (some i)
 |_=>.bad
abbrev CP(n:Bool)(r:Res D):Res (Option Int):=if n then .ok none else r.bind DL
abbrev E.isCN:E->Bool
 |.cN=>true
 |_=>false
abbrev EF:D->Option Int->Option Int->Res D
 |.lst ds,lo,hi=>.ok (.lst (cut ds lo hi))
 |.tup ds,lo,hi=>if ds.all D.scal=true/\¬(sIx ds.length 0 lo=0/\sIx ds.length ds.length hi=ds.length) then .ok (.tup (cut ds lo hi)) else .bad
 |_,_,_=>.bad
abbrev B0:D->Res Bool
 |.non=>.ok false
 |.bl b=>.ok b
 |.int i=>.ok (i != 0)
 |.lst ds=>.ok (!ds.isEmpty)
 |.tup ds=>.ok (!ds.isEmpty)
 |_=>.bad
abbrev isa(c d:Nat):Bool:=c==d||d==0
abbrev dI:D->Bool
 |.int _=>true
 |.bl _=>true
 |_=>false
abbrev dB:D->Bool
 |.bl _=>true
 |_=>false
abbrev dS:D->Bool
 |.str _=>true
 |_=>false
abbrev dL:D->Bool
 |.lst _=>true
 |_=>false
abbrev dT':D->Bool
 |.tup _=>true
 |_=>false
abbrev dD:D->Bool
 |.exn c=>c==999
 |.dic _ _=>true
 |.dit _ _=>true
 |_=>false
abbrev Vt(c:Nat):Int:=if(c-1000)%2=0 then(((c-1000)/2:Nat):Int) else -(((c-1000)/2:Nat):Int)
abbrev kcX(c:Nat):Nat:=if 1000<=c then 4 else c
abbrev noA{α:Type}:Res α->Res α
 |.exc c=>if 1000<=c then .bad else .exc c
 |r=>r
abbrev dX:D->(Nat->Bool)->Res Bool
 |.exn c,f=>if c==999 then .bad else .ok (f (kcX c))
 |_,_=>.bad
abbrev C5(d:D):Kd->Res Bool
 |.int=>.ok (dI d)
 |.bool=>.ok (dB d)
 |.str=>.ok (dS d)
 |.list=>.ok (dL d)
 |.tuple=>.ok (dT' d)
 |.dict=>.ok (dD d)
 |.verr=>dX d fun _=>true
 |.cls n=>dX d fun c=>isa c n
abbrev De:List D->Option (List Int)
 |[]=>some []
 |.int i::r=>(De r).map (i::·)
 |_=>none
abbrev ML:List D->Option (List Bool)
 |[]=>some []
 |.bl i::r=>(ML r).map (i::·)
 |_=>none
abbrev Fc{α:Type}:Option α->Res α
 |some a=>.ok a
 |none=>.bad
abbrev Eh:D->(List Int->Res D)->Res D
 |.lst ds,f=>(Fc (De ds)).bind f
 |_,_=>.bad
abbrev DM:D->(List Bool->Res D)->Res D
 |.lst ds,f=>(Fc (ML ds)).bind f
 |_,_=>.bad
abbrev F1:D->(List D->Res D)->Res D
 |.lst ds,f=>f ds
 |_,_=>.bad
abbrev FC:D->Res D
 |.int i=>.ok (.int i)
 |.bl b=>.ok (.int (if b then 1 else 0))
 |_=>.bad
abbrev biD:Bi->List D->Res D
 |.len,ds=>on1 ds fun d=>DJ d fun ds=>.ok (.int ds.length)
 |.min,ds=>on2 ds fun a b=>Ce a b fun i j=>.ok (.int (min i j))
 |.maxL,ds=>on1 ds fun d=>Eh d fun ns=>(Fc ns.max?).bind fun n=>.ok (.int n)
 |.int,ds=>on1 ds FC
 |.list,ds=>on1 ds fun d=>DJ d fun ds=>.ok (.lst ds)
 |.tuple,ds=>on1 ds fun d=>DJ d fun ds=>.ok (.tup ds)
abbrev FK:List Nat->List D->Fr->Option Fr
 |[],[],δ=>some δ
 |i::is,d::ds,δ=>FK is ds (δ.set i (some d))
 |_,_,_=>none
abbrev Dq:Tg->D->Fr->Option Fr
 |.nm i,d,δ=>some (δ.set i (some d))
 |.tp is,.tup ds,δ=>FK is ds δ
 |.tp is,.lst ds,δ=>FK is ds δ
 |_,_,_=>none
abbrev Bv(f:D->Res (Option D)):List D->Res (List D)
 |[]=>.ok []
 |d::ds=>match f d with
  |.ok o=>(Bv f ds).bind fun r=>.ok (match o with|some x=>x::r|none=>r)
  |_=>.bad
abbrev blk(nl:Nat)(fr:List Nat)(δ:Fr):Fr:=aam nl none++fr.map fun j=>(δ[j]?).join
abbrev Aw(a b:Int):List D:=(aan (b-a).toNat).map fun(i:Nat)=>D.int (a+i)
abbrev Dr:D->Res (List D)
 |.lst ds=>.ok ds
 |.tup ds=>.ok ds
 |_=>.bad
abbrev CC:D->Res (List D)
 |.lst ds=>.ok ds
 |_=>.bad
abbrev AE(i:Int):Bool:=decide (-(2^62)<=i)&&decide (i<2^62)
abbrev NK:D->D->Res (List D)
 |.int a,.int b=>if AE a&&AE b&&decide ((b-a).toNat<=LIM) then .ok (Aw a b) else .bad
 |_,_=>.bad
abbrev EG(a:Int)(c:Int)(n:Nat):List D:=(aan n).map fun(i:Nat)=>D.int (a+i*c)
abbrev r3N(a b c:Int):Nat:=if 0<c then((b-a+c-1)/c).toNat else((a-b+(-c)-1)/(-c)).toNat
abbrev QD:D->D->D->Res (List D)
 |.int a,.int b,.int c=>if AE a&&AE b&&AE c&&decide (c≠0)&&decide (r3N a b c<=LIM) then .ok (EG a c (r3N a b c)) else .bad
 |_,_,_=>.bad
abbrev A5(ds:List D):List D:=ds.zipIdx.map fun p=>.tup [.int p.2,p.1]
abbrev Jr:D->Res (List D)
 |.lst ds=>.ok (A5 ds)
 |_=>.bad
abbrev Vu:D->Res (List D)
 |.lst ds=>.ok ds.reverse
 |_=>.bad
mutual
noncomputable def ev:E->Fr->Res D
 |.nm i,δ=>get δ i
 |.nmS i,δ=>(get δ i).bind fun d=>if D.scal d=true then .ok d else .bad
 |.cN,_=>.ok .non
 |.cB b,_=>.ok (.bl b)
 |.cI i,_=>.ok (.int i)
 |.cS x,_=>.ok (.str x)
 |.gl _ d,_=>.ok d
 |.tup es,δ=>(evs es δ).bind fun ds=>.ok (.tup ds)
 |.lst es,δ=>(evs es δ).bind fun ds=>.ok (.lst ds)
 |.bin o a b,δ=>(ev a δ).bind fun x=>(ev b δ).bind fun y=>b2 o x y
 |.neg a,δ=>(ev a δ).bind fun x=>match x with|.int i=>.ok (.int (-i))|_=>.bad
 |.not a,δ=>(ev a δ).bind fun x=>match x with|.bl b=>.ok (.bl !b)|_=>.bad
 |.cmp o a b,δ=>(ev a δ).bind fun x=>(ev b δ).bind fun y=>c2 o x y
 |.chain o o' a b c,δ=>(ev a δ).bind fun x=>(ev b δ).bind fun y=>(c2 o x y).bind fun r=>match r with
  |.bl true=>(ev c δ).bind fun z=>c2 o' y z
  |.bl false=>.ok (.bl false)
  |_=>.bad
 |.isN n a,δ=>(ev a δ).bind fun x=>.ok (.bl (match x with|.non=>!n|_=>n))
 |.bo k es,δ=>evBo k es δ
 |.ifx c a b,δ=>((ev c δ).bind B0).bind fun t=>if t then ev a δ else ev b δ
 |.ix a i,δ=>(ev a δ).bind fun x=>(ev i δ).bind fun y=>ixD x y
 |.ixS a i,δ=>((ev a δ).bind fun x=>(ev i δ).bind fun y=>ixD x y).bind fun d=>if D.scal d=true then .ok d else .bad
 |.ixL a i,δ=>(ev a δ).bind fun x=>(ev i δ).bind fun y=>Fb x y
 |.ixT a i,δ=>(ev a δ).bind fun x=>(ev i δ).bind fun y=>D2 x y
 |.ixF a i,δ=>(ev a δ).bind fun x=>(ev i δ).bind fun y=>D2 x y
 |.slc a lo hi,δ=>(ev a δ).bind fun x=>(CP lo.isCN (ev lo δ)).bind fun l=>(CP hi.isCN (ev hi δ)).bind fun h=>EF x l h
 |.call f es,δ=>(evs es δ).bind fun ds=>f.den ds
 |.callB f es,δ=>(evs es δ).bind fun ds=>(f.den ds).bind fun d=>if D.flat 9 f.dep d then .ok d else .bad
 |.bi b es,δ=>(evs es δ).bind fun ds=>biD b ds
 |.listI it,δ=>(evI it δ).bind fun ds=>.ok (.lst ds)
 |.isi a k,δ=>(ev a δ).bind fun x=>(C5 x k).bind fun b=>.ok (.bl b)
 |.flS e,δ=>(ev e δ).bind fun d=>if D.flat 9 1 d=true then .ok d else .bad
 |.comp0 nl fr tg it elt,δ=>(evI it δ).bind fun ds=>(Bv (fun d=>match Dq tg d (blk nl fr δ) with
   |some δ'=>(ev elt δ').bind fun x=>.ok (some x)
   |none=>.bad) ds).bind fun r=>.ok (.lst r)
 |.comp1 nl fr tg it cond elt,δ=>(evI it δ).bind fun ds=>(Bv (fun d=>match Dq tg d (blk nl fr δ) with
   |some δ'=>((ev cond δ').bind B0).bind fun t=>if t then(ev elt δ').bind fun x=>.ok (some x) else .ok none
   |none=>.bad) ds).bind fun r=>.ok (.lst r)
noncomputable def evs:Es->Fr->Res (List D)
 |.nil,_=>.ok []
 |.cons e r,δ=>(ev e δ).bind fun x=>(evs r δ).bind fun xs=>.ok (x::xs)
noncomputable def evBo(k:Bool):Es->Fr->Res D
 |.nil,_=>.bad
 |.cons e .nil,δ=>ev e δ
 |.cons e (.cons e' r),δ=>(ev e δ).bind fun x=>match x with
  |.bl c=>if c=k then evBo k (.cons e' r) δ else .ok (.bl c)
  |_=>.bad
noncomputable def evI:It->Fr->Res (List D)
 |.seq e,δ=>(ev e δ).bind Dr
 |.seqL e,δ=>(ev e δ).bind CC
 |.r1 a,δ=>(ev a δ).bind fun x=>NK (.int 0) x
 |.r2 a b,δ=>(ev a δ).bind fun x=>(ev b δ).bind fun y=>NK x y
 |.r3 a b c,δ=>(ev a δ).bind fun x=>(ev b δ).bind fun y=>(ev c δ).bind fun z=>QD x y z
 |.en e,δ=>(ev e δ).bind Jr
 |.rv e,δ=>(ev e δ).bind Vu
end
abbrev tv(e:E)(δ:Fr):Res Bool:=(ev e δ).bind B0
inductive Um where
 |append|extend|pop|clear
 deriving DecidableEq
mutual
inductive S where
 |asg (x:Nat) (k:Nat) (e:E)
 |dem (x:Nat) (k:Nat)
 |dead (x:Nat)
 |asgT (xs:List Nat) (e:E)
 |set (x:Nat) (path:List (Bool×E)) (i e:E)
 |mut (x:Nat) (path:List (Bool×E)) (m:Um) (es:Es)
 |expr (e:E)
 |iff (c:E) (a b:Ss)
 |wh (c:E) (b:Ss)
 |for_ (tg:Tg) (it:It) (b:Ss)
 |ret (e:E)
 |retT (es:Es)
 |raise (c:Nat) (es:Es)
 |put (F:Fn) (y:Nat) (zs:List Nat)
inductive Ss where
 |nil
 |cons (s:S) (r:Ss)
end
inductive Out where
 |nxt (δ:Fr)
 |ret (d:D)
 |exc (c:Nat) (δ:Fr)
 |bad
abbrev evP:List (Bool×E)->Fr->Res (List (Bool×Int))
 |[],_=>.ok []
 | (t,e)::r,δ=>match ev e δ with
  |.ok (.int i)=>(evP r δ).bind fun is=>.ok ((t,i)::is)
  |_=>.bad
abbrev Ax(f:List D->Option (List D)):List (Bool×Int)->D->Option D
 |[],.lst ds=>(f ds).map D.lst
 | (false,i)::r,.lst ds=>(ixN ds.length i).bind fun j=>(ds[j]?).bind fun d=>(Ax f r d).map fun d'=>.lst (ds.set j d')
 | (true,i)::r,.tup ds=>(ixN ds.length i).bind fun j=>(ds[j]?).bind fun d=>(Ax f r d).map fun d'=>.tup (ds.set j d')
 |_,_=>none
abbrev un1{α:Type}:List D->(D->Option α)->Option α
 |[d],f=>f d
 |_,_=>none
abbrev un0{α:Type}:List D->Option α->Option α
 |[],r=>r
 |_,_=>none
abbrev WT(ds:List D):D->Option (List D)
 |.lst es=>if ds.length+es.length<=LIM then some (ds++es) else none
 |_=>none
abbrev umD:Um->List D->List D->Option (List D)
 |.append,es,ds=>un1 es fun d=>if ds.length<LIM then some (ds++[d]) else none
 |.extend,es,ds=>un1 es (WT ds)
 |.pop,es,ds=>un0 es (if ds=[] then none else some ds.dropLast)
 |.clear,es,_=>un0 es (some [])
abbrev A6(i:Int)(d:D)(ds:List D):Option (List D):=(ixN ds.length i).map fun j=>ds.set j d
abbrev upd(δ:Fr)(x:Nat)(f:D->Option D):Out:=match δ[x]? with
 |some (some d)=>match f d with
  |some d'=>.nxt (δ.set x (some d'))
  |none=>.bad
 |_=>.bad
abbrev Res.out{α:Type}(r:Res α)(δ:Fr)(f:α->Out):Out:=match r with
 |.ok a=>f a
 |.exc c=>.exc c δ
 |.bad=>.bad
@[simp] theorem Res.out_ok{α:Type}(a:α)(δ:Fr)(f:α->Out):(Res.ok a).out δ f=f a:=rfl
@[simp] theorem Res.out_exc{α:Type}(c:Nat)(δ:Fr)(f:α->Out):(Res.exc c:Res α).out δ f=.exc c δ:=rfl
@[simp] theorem Res.out_bad{α:Type}(δ:Fr)(f:α->Out):(Res.bad:Res α).out δ f=.bad:=rfl
abbrev Out.then(o:Out)(f:Fr->Out):Out:=match o with
 |.nxt δ=>f δ
 |.ret d=>.ret d
 |.exc c δ=>.exc c δ
 |.bad=>.bad
@[simp] theorem Out.then_nxt(δ:Fr)(f:Fr->Out):(Out.nxt δ).then f=f δ:=rfl
@[simp] theorem Out.then_ret(d:D)(f:Fr->Out):(Out.ret d).then f=.ret d:=rfl
@[simp] theorem Out.then_exc(c:Nat)(δ:Fr)(f:Fr->Out):(Out.exc c δ).then f=.exc c δ:=rfl
@[simp] theorem Out.then_bad(f:Fr->Out):Out.bad.then f=.bad:=rfl
abbrev Bc(c:Fr->Res Bool)(b:Fr->Out):Nat->Fr->Out
 |0,_=>.bad
 |n+1,δ=>(c δ).out δ fun t=>if t then(b δ).then (Bc c b n) else .nxt δ
abbrev Bg(tg:Tg)(b:Fr->Out):List D->Fr->Out
 |[],δ=>.nxt δ
 |d::ds,δ=>match Dq tg d δ with
  |some δ'=>(b δ').then (Bg tg b ds)
  |none=>.bad
abbrev X3:Res D->(Int->Out)->Out
 |.ok (.int n),f=>f n
 |_,_=>.bad
abbrev FU:Nat:=1073741824
abbrev Js(δ:Fr):List Nat->Option (List D)
 |[]=>some []
 |i::r=>match δ[i]? with
  |some (some d)=>(Js δ r).map (d::·)
  |_=>none
abbrev Vv(o:Option (List D))(f:List D->Res D)(δ:Fr)(y:Nat):Out:=match o with
 |some ds=>match f ds with
  |.ok d=>if D.flat 9 2 d=true then .nxt (δ.set y (some d)) else .bad
  |_=>.bad
 |none=>.bad
mutual
noncomputable def ex:S->Fr->Out
 |.dem _ _,δ=>.nxt δ
 |.dead _,δ=>.nxt δ
 |.asg x _ e,δ=>(ev e δ).out δ fun d=>.nxt (δ.set x (some d))
 |.asgT xs e,δ=>(ev e δ).out δ fun d=>match Dq (.tp xs) d δ with
  |some δ'=>.nxt δ'
  |none=>.bad
 |.set x p i e,δ=>(ev e δ).out δ fun d=>match evP p δ,ev i δ with
  |.ok q,.ok (.int n)=>upd δ x (Ax (A6 n d) q)
  |_,_=>.bad
 |.mut x p m es,δ=>match evP p δ,evs es δ with
  |.ok q,.ok ds=>upd δ x (Ax (umD m ds) q)
  |_,_=>.bad
 |.expr e,δ=>(ev e δ).out δ fun _=>.nxt δ
 |.iff c a b,δ=>(tv c δ).out δ fun t=>if t then exs a δ else exs b δ
 |.wh c b,δ=>Bc (tv c) (exs b) FU δ
 |.for_ tg it b,δ=>(evI it δ).out δ fun ds=>Bg tg (exs b) ds δ
 |.ret e,δ=>(ev e δ).out δ fun d=>.ret d
 |.retT es,δ=>(evs es δ).out δ fun ds=>.ret (.tup ds)
 |.raise c es,δ=>(evs es δ).out δ fun _=>.exc c δ
 |.put F y zs,δ=>Vv (Js δ (y::zs)) F.den δ y
noncomputable def exs:Ss->Fr->Out
 |.nil,δ=>.nxt δ
 |.cons s r,δ=>(ex s δ).then (exs r)
end
abbrev AS(n:Nat)(ds:List D):Fr:=ds.map some++aam (n-ds.length) none
abbrev run(n:Nat)(b:Ss)(ds:List D):Res D:=match exs b (AS n ds) with
 |.nxt _=>.ok .non
 |.ret d=>.ok d
 |.exc c _=>.exc c
 |.bad=>.bad
end Pu
end
section
namespace Pu
open PySem PySem.W L2
inductive T where
 |non
 |bl (b:Bool)
 |int (i:Int)
 |str (x:Str)
 |tup (a:Addr) (ts:List T)
 |lst (a:Addr) (ts:List T)
 |exn (a:Addr) (c:Nat)
 |dic (a:Addr) (ks:List (Sum Int Str)) (ts:List T)
 |dit (a:Addr) (ks:List (List (Sum Int Str))) (ts:List T)
abbrev T.val:T->V
 |.non=>.non
 |.bl b=>.bl b
 |.int i=>.int i
 |.str x=>.str x
 |.tup a _=>.ref a
 |.lst a _=>.ref a
 |.exn a _=>.ref a
 |.dic a _ _=>.ref a
 |.dit a _ _=>.ref a
mutual
noncomputable def T.dat:T->D
 |.non=>.non
 |.bl b=>.bl b
 |.int i=>.int i
 |.str x=>.str x
 |.tup _ ts=>.tup (T.dats ts)
 |.lst _ ts=>.lst (T.dats ts)
 |.exn _ c=>.exn c
 |.dic _ ks ts=>.dic ks (T.dats ts)
 |.dit _ ks ts=>.dit ks (T.dats ts)
noncomputable def T.dats:List T->List D
 |[]=>[]
 |t::r=>t.dat::T.dats r
end
theorem T.dats_map:∀ts:List T,T.dats ts=ts.map T.dat
 |[]=>rfl
 |t::r=>by simp[T.dats,T.dats_map r]
structure Px where
 K:Frag
 cl:Nat->Addr
 has:Nat->Bool
abbrev exO(p:Px)(a:Addr)(c:Nat):HO:=if c=999 then dO a else xO a (p.cl c)
abbrev XOk(p:Px)(H:Hp)(a:Addr)(c:Nat):Prop:=((H a=some (exO p a c)/\(c=999\/p.has c=true))/\c<1000)\/((∃dx ob,H a=some (xA a (p.cl 4) dx)/\H dx=some (.frz ob (.xd [("at",.int (Vt c))]))/\p.has 4=true)/\1000<=c)
mutual
noncomputable def T.Ok(p:Px)(H:Hp):T->Prop
 |.dic a ks ts=>(H a=some (.dK (ks.zip (ts.map T.val)))/\ks.Nodup/\ks.length=ts.length)/\T.Oks p H ts
 |.dit a ks ts=>(H a=some (.dT (ks.zip (ts.map T.val)))/\ks.Nodup/\ks.length=ts.length)/\T.Oks p H ts
 |.tup a ts=>H a=some (.tup (ts.map T.val))/\T.Oks p H ts
 |.lst a ts=>Rd H a (.lst (ts.map T.val))/\T.Oks p H ts
 |.exn a c=>XOk p H a c
 |.non=>True
 |.bl _=>True
 |.int _=>True
 |.str _=>True
noncomputable def T.Oks(p:Px)(H:Hp):List T->Prop
 |[]=>True
 |t::r=>t.Ok p H/\T.Oks p H r
noncomputable def T.adr:T->Nat->List Addr
 |.tup _ ts,k=>T.adrs ts k
 |.lst _ _,0=>[]
 |.lst a ts,k+1=>a::T.adrs ts k
 |.non,_=>[]
 |.bl _,_=>[]
 |.int _,_=>[]
 |.str _,_=>[]
 |.exn _ _,_=>[]
 |.dic _ _ _,0=>[]
 |.dic a _ ts,k+1=>a::T.adrs ts k
 |.dit _ _ _,0=>[]
 |.dit a _ ts,k+1=>a::T.adrs ts k
noncomputable def T.adrs:List T->Nat->List Addr
 |[],_=>[]
 |t::r,k=>t.adr k++T.adrs r k
noncomputable def T.rest:T->Nat->List Addr
 |.tup _ ts,k=>T.rests ts k
 |.lst a ts,0=>a::T.rests ts 0
 |.lst _ ts,k+1=>T.rests ts k
 |.non,_=>[]
 |.bl _,_=>[]
 |.int _,_=>[]
 |.str _,_=>[]
 |.exn _ _,_=>[]
 |.dic a _ ts,0=>a::T.rests ts 0
 |.dic _ _ ts,k+1=>T.rests ts k
 |.dit a _ ts,0=>a::T.rests ts 0
 |.dit _ _ ts,k+1=>T.rests ts k
noncomputable def T.rests:List T->Nat->List Addr
 |[],_=>[]
 |t::r,k=>t.rest k++T.rests r k
end
theorem T.ind{P:T->Prop}(h0:P .non)(h1:∀b,P (.bl b))(h2:∀i,P (.int i))(h3:∀x,P (.str x))(h4:∀a ts,(∀t∈ts,P t)->P (.tup a ts))(h5:∀a ts,(∀t∈ts,P t)->P (.lst a ts))(h6:∀a c,P (.exn a c))(h7:∀a ks ts,(∀t∈ts,P t)->P (.dic a ks ts))(h8:∀a ks ts,(∀t∈ts,P t)->P (.dit a ks ts)):∀t,P t
 |.non=>h0
 |.bl b=>h1 b
 |.int i=>h2 i
 |.str x=>h3 x
 |.tup a ts=>h4 a ts fun t h=>T.ind h0 h1 h2 h3 h4 h5 h6 h7 h8 t
 |.lst a ts=>h5 a ts fun t h=>T.ind h0 h1 h2 h3 h4 h5 h6 h7 h8 t
 |.exn a c=>h6 a c
 |.dic a ks ts=>h7 a ks ts fun t h=>T.ind h0 h1 h2 h3 h4 h5 h6 h7 h8 t
 |.dit a ks ts=>h8 a ks ts fun t h=>T.ind h0 h1 h2 h3 h4 h5 h6 h7 h8 t
termination_by t=>t
theorem T.oks_iff{p:Px}{H:Hp}:∀{ts:List T},T.Oks p H ts ↔ ∀t∈ts,t.Ok p H
 |[]=>by simp[T.Oks]
 |t::r=>by simp[T.Oks,T.oks_iff (ts:=r)]
theorem T.mem_adrs{a:Addr}{k:Nat}:∀{ts:List T},a∈T.adrs ts k ↔ ∃t∈ts,a∈t.adr k
 |[]=>by simp[T.adrs]
 |t::r=>by simp[T.adrs,T.mem_adrs (ts:=r)]
theorem T.mem_rests{a:Addr}{k:Nat}:∀{ts:List T},a∈T.rests ts k ↔ ∃t∈ts,a∈t.rest k
 |[]=>by simp[T.rests]
 |t::r=>by simp[T.rests,T.mem_rests (ts:=r)]
theorem T.adrs_append{k:Nat}:∀{ts us:List T},T.adrs (ts++us) k=T.adrs ts k++T.adrs us k
 |[],us=>by simp[T.adrs]
 |t::r,us=>by simp[T.adrs,T.adrs_append (ts:=r)]
theorem T.rests_append{k:Nat}:∀{ts us:List T},T.rests (ts++us) k=T.rests ts k++T.rests us k
 |[],us=>by simp[T.rests]
 |t::r,us=>by simp[T.rests,T.rests_append (ts:=r)]
theorem T.adr_zero:∀t:T,t.adr 0=[]:=by
 refine T.ind rfl (fun _=>rfl) (fun _=>rfl) (fun _=>rfl) (fun a ts ih=>?_) (fun _ _ _=>by simp[T.adr]) (fun _ _=>rfl) (fun _ _ _ _=>by simp[T.adr]) (fun _ _ _ _=>by simp[T.adr])
 simp only[T.adr]
 refine aaU.mpr fun b hb=>?_
 obtain⟨t,ht,h⟩:=T.mem_adrs.mp hb
 rw[ih t ht]at h;cases h
theorem T.adrs_zero(ts:List T):T.adrs ts 0=[]:=by
 refine aaU.mpr fun b hb=>?_
 obtain⟨t,ht,h⟩:=T.mem_adrs.mp hb
 rw[T.adr_zero]at h;cases h
theorem T.all_iff{a:Addr}:∀(t:T)(k:Nat),a∈t.rest 0 ↔ a∈t.adr k\/a∈t.rest k:=by
 refine T.ind (by simp[T.rest,T.adr]) (by simp[T.rest,T.adr]) (by simp[T.rest,T.adr]) (by simp[T.rest,T.adr]) (fun b ts ih k=>?_) (fun b ts ih k=>?_) (by simp[T.rest,T.adr]) (fun b ks ts ih k=>?_) (fun b ks ts ih k=>?_)
 ·simp only[T.rest,T.adr,T.mem_rests,T.mem_adrs]
  constructor
  ·rintro⟨t,ht,h⟩
   rcases (ih t ht k).mp h with h|h
   ·exact .inl ⟨t,ht,h⟩
   ·exact .inr ⟨t,ht,h⟩
  ·rintro(⟨t,ht,h⟩|⟨t,ht,h⟩)
   ·exact⟨t,ht,(ih t ht k).mpr (.inl h)⟩
   ·exact⟨t,ht,(ih t ht k).mpr (.inr h)⟩
 ·cases k with
  |zero=>simp[T.adr]
  |succ k=>
   simp only[T.rest,T.adr,T.mem_rests,T.mem_adrs,aak]
   constructor
   ·rintro(h|⟨t,ht,h⟩)
    ·exact .inl (.inl h)
    rcases (ih t ht k).mp h with h|h
    ·exact .inl (.inr ⟨t,ht,h⟩)
    ·exact .inr ⟨t,ht,h⟩
   ·rintro((h|⟨t,ht,h⟩)|⟨t,ht,h⟩)
    ·exact .inl h
    ·exact .inr ⟨t,ht,(ih t ht k).mpr (.inl h)⟩
    ·exact .inr ⟨t,ht,(ih t ht k).mpr (.inr h)⟩
 ·cases k with
  |zero=>simp[T.adr]
  |succ k=>
   simp only[T.rest,T.adr,T.mem_rests,T.mem_adrs,aak]
   constructor
   ·rintro(h|⟨t,ht,h⟩)
    ·exact .inl (.inl h)
    rcases (ih t ht k).mp h with h|h
    ·exact .inl (.inr ⟨t,ht,h⟩)
    ·exact .inr ⟨t,ht,h⟩
   ·rintro((h|⟨t,ht,h⟩)|⟨t,ht,h⟩)
    ·exact .inl h
    ·exact .inr ⟨t,ht,(ih t ht k).mpr (.inl h)⟩
    ·exact .inr ⟨t,ht,(ih t ht k).mpr (.inr h)⟩
 ·cases k with
  |zero=>simp[T.adr]
  |succ k=>
   simp only[T.rest,T.adr,T.mem_rests,T.mem_adrs,aak]
   constructor
   ·rintro(h|⟨t,ht,h⟩)
    ·exact .inl (.inl h)
    rcases (ih t ht k).mp h with h|h
    ·exact .inl (.inr ⟨t,ht,h⟩)
    ·exact .inr ⟨t,ht,h⟩
   ·rintro((h|⟨t,ht,h⟩)|⟨t,ht,h⟩)
    ·exact .inl h
    ·exact .inr ⟨t,ht,(ih t ht k).mpr (.inl h)⟩
    ·exact .inr ⟨t,ht,(ih t ht k).mpr (.inr h)⟩
theorem T.alls_iff{a:Addr}(ts:List T)(k:Nat):a∈T.rests ts 0 ↔ a∈T.adrs ts k\/a∈T.rests ts k:=by
 simp only[T.mem_rests,T.mem_adrs]
 constructor
 ·rintro⟨t,ht,h⟩
  rcases (T.all_iff t k).mp h with h|h
  ·exact .inl ⟨t,ht,h⟩
  ·exact .inr ⟨t,ht,h⟩
 ·rintro(⟨t,ht,h⟩|⟨t,ht,h⟩)
  ·exact⟨t,ht,(T.all_iff t k).mpr (.inl h)⟩
  ·exact⟨t,ht,(T.all_iff t k).mpr (.inr h)⟩
theorem T.rest_le{a:Addr}:∀(t:T){j j':Nat},j<=j'->a∈t.rest j'->a∈t.rest j:=by
 refine T.ind (by simp[T.rest]) (by simp[T.rest]) (by simp[T.rest]) (by simp[T.rest]) (fun b ts ih j j' hj h=>?_) (fun b ts ih j j' hj h=>?_) (by simp[T.rest]) (fun b ks ts ih j j' hj h=>?_) (fun b ks ts ih j j' hj h=>?_)
 ·simp only[T.rest,T.mem_rests]at h ⊢
  obtain⟨t,ht,h⟩:=h
  exact⟨t,ht,ih t ht hj h⟩
 ·cases j' with
  |zero=>cases acR.mp hj;exact h
  |succ j'=>
   simp only[T.rest,T.mem_rests]at h
   obtain⟨t,ht,h⟩:=h
   cases j with
   |zero=>exact aaa _ (T.mem_rests.mpr ⟨t,ht,ih t ht (aaw _) h⟩)
   |succ j=>exact T.mem_rests.mpr ⟨t,ht,ih t ht (aa2 hj) h⟩
 ·cases j' with
  |zero=>cases acR.mp hj;exact h
  |succ j'=>
   simp only[T.rest,T.mem_rests]at h
   obtain⟨t,ht,h⟩:=h
   cases j with
   |zero=>exact aaa _ (T.mem_rests.mpr ⟨t,ht,ih t ht (aaw _) h⟩)
   |succ j=>exact T.mem_rests.mpr ⟨t,ht,ih t ht (aa2 hj) h⟩
 ·cases j' with
  |zero=>cases acR.mp hj;exact h
  |succ j'=>
   simp only[T.rest,T.mem_rests]at h
   obtain⟨t,ht,h⟩:=h
   cases j with
   |zero=>exact aaa _ (T.mem_rests.mpr ⟨t,ht,ih t ht (aaw _) h⟩)
   |succ j=>exact T.mem_rests.mpr ⟨t,ht,ih t ht (aa2 hj) h⟩
theorem T.adr_le{a:Addr}:∀(t:T){j j':Nat},j<=j'->a∈t.adr j->a∈t.adr j':=by
 refine T.ind (by simp[T.adr]) (by simp[T.adr]) (by simp[T.adr]) (by simp[T.adr]) (fun b ts ih j j' hj h=>?_) (fun b ts ih j j' hj h=>?_) (by simp[T.adr]) (fun b ks ts ih j j' hj h=>?_) (fun b ks ts ih j j' hj h=>?_)
 ·simp only[T.adr,T.mem_adrs]at h ⊢
  obtain⟨t,ht,h⟩:=h
  exact⟨t,ht,ih t ht hj h⟩
 ·cases j with
  |zero=>simp[T.adr]at h
  |succ j=>
   cases j' with
   |zero=>omega
   |succ j'=>
    simp only[T.adr,aak,T.mem_adrs]at h ⊢
    rcases h with h|⟨t,ht,h⟩
    ·exact .inl h
    ·exact .inr ⟨t,ht,ih t ht (aa2 hj) h⟩
 ·cases j with
  |zero=>simp[T.adr]at h
  |succ j=>
   cases j' with
   |zero=>omega
   |succ j'=>
    simp only[T.adr,aak,T.mem_adrs]at h ⊢
    rcases h with h|⟨t,ht,h⟩
    ·exact .inl h
    ·exact .inr ⟨t,ht,ih t ht (aa2 hj) h⟩
 ·cases j with
  |zero=>simp[T.adr]at h
  |succ j=>
   cases j' with
   |zero=>omega
   |succ j'=>
    simp only[T.adr,aak,T.mem_adrs]at h ⊢
    rcases h with h|⟨t,ht,h⟩
    ·exact .inl h
    ·exact .inr ⟨t,ht,ih t ht (aa2 hj) h⟩
abbrev T.Nd(t:T)(k:Nat):Prop:=(t.adr k).Nodup/\∀a∈t.rest k,a∉t.adr k
abbrev T.Nds(ts:List T)(k:Nat):Prop:=(T.adrs ts k).Nodup/\∀a∈T.rests ts k,a∉T.adrs ts k
theorem T.nd_zero(t:T):t.Nd 0:=by unfold T.Nd;rw[T.adr_zero];exact⟨List.nodup_nil,fun _ _ h=>nomatch h⟩
theorem T.nds_zero(ts:List T):T.Nds ts 0:=by unfold T.Nds;rw[T.adrs_zero];exact⟨List.nodup_nil,fun _ _ h=>nomatch h⟩
theorem T.nds_cons{t:T}{r:List T}{k:Nat}:T.Nds (t::r) k ↔ t.Nd k/\T.Nds r k/\(∀a∈t.adr k,a∉T.rests r 0)/\(∀a∈T.adrs r k,a∉t.rest 0):=by
 unfold T.Nds T.Nd
 simp only[T.adrs,T.rests,aca,aag]
 constructor
 ·rintro⟨⟨n1,n2,n3⟩,h⟩
  refine⟨⟨n1,fun a ha hb=>h a (.inl ha) (.inl hb)⟩,⟨n2,fun a ha hb=>h a (.inr ha) (.inr hb)⟩,fun a ha hb=>?_,fun a ha hb=>?_⟩
  ·rcases (T.alls_iff r k).mp hb with q|q
   ·exact n3 a ha a q rfl
   ·exact h a (.inr q) (.inl ha)
  ·rcases (T.all_iff t k).mp hb with q|q
   ·exact n3 a q a ha rfl
   ·exact h a (.inl q) (.inr ha)
 ·rintro⟨⟨n1,h1⟩,⟨n2,h2⟩,c1,c2⟩
  refine⟨⟨n1,n2,fun a ha b hb e=>?_⟩,fun a ha hb=>?_⟩
  ·subst e
   exact c1 a ha ((T.alls_iff r k).mpr (.inl hb))
  ·rcases ha with ha|ha<;>rcases hb with hb|hb
   ·exact h1 a ha hb
   ·exact c2 a hb ((T.all_iff t k).mpr (.inr ha))
   ·exact c1 a hb ((T.alls_iff r k).mpr (.inr ha))
   ·exact h2 a ha hb
theorem T.nd_down:∀(t:T){k:Nat},t.Nd (k+1)->t.Nd k:=by
 have lists:∀(ts:List T),(∀t∈ts,∀{k:Nat},t.Nd (k+1)->t.Nd k)->∀{k:Nat},T.Nds ts (k+1)->T.Nds ts k:=by
  intro ts
  induction ts with
  |nil=>intro _ k _;exact⟨by simp[T.adrs],by simp[T.rests]⟩
  |cons t r ih=>
   intro h k n
   obtain⟨n1,n2,c1,c2⟩:=T.nds_cons.mp n
   exact T.nds_cons.mpr ⟨h t (aac ..) n1,ih (fun u hu=>h u (aaa _ hu)) n2,fun a ha=>c1 a (T.adr_le t (abR k) ha),fun a ha=>c2 a (by
    obtain⟨u,hu,hq⟩:=T.mem_adrs.mp ha
    exact T.mem_adrs.mpr ⟨u,hu,T.adr_le u (abR k) hq⟩)⟩
 refine T.ind (fun _=>by simp[T.Nd,T.adr]) (fun _ _=>by simp[T.Nd,T.adr]) (fun _ _=>by simp[T.Nd,T.adr]) (fun _ _=>by simp[T.Nd,T.adr]) (fun a ts ih k n=>?_) (fun a ts ih k n=>?_) (fun _ _ _=>by simp[T.Nd,T.adr]) (fun a ks ts ih k n=>?_) (fun a ks ts ih k n=>?_)
 ·exact lists ts ih n
 ·cases k with
  |zero=>exact T.nd_zero _
  |succ k=>
   obtain⟨n1,n2⟩:=n
   simp only[T.adr,T.rest,aaG]at n1 n2
   have:=lists ts ih (k:=k) ⟨n1.2,fun b hb hc=>n2 b hb (aaa _ hc)⟩
   refine⟨?_,?_⟩
   ·simp only[T.adr,aaG]
    refine⟨fun h=>n1.1 ?_,this.1⟩
    obtain⟨u,hu,hq⟩:=T.mem_adrs.mp h
    exact T.mem_adrs.mpr ⟨u,hu,T.adr_le u (abR k) hq⟩
   ·intro b hb hc
    simp only[T.adr,T.rest,aak]at hb hc
    rcases hc with rfl|hc
    ·have h0:=(T.alls_iff ts (k+1)).mp ((T.alls_iff ts k).mpr (.inr hb))
     rcases h0 with h0|h0
     ·exact n1.1 h0
     ·exact n2 b h0 (aac ..)
    ·exact this.2 b hb hc
 ·cases k with
  |zero=>exact T.nd_zero _
  |succ k=>
   obtain⟨n1,n2⟩:=n
   simp only[T.adr,T.rest,aaG]at n1 n2
   have:=lists ts ih (k:=k) ⟨n1.2,fun b hb hc=>n2 b hb (aaa _ hc)⟩
   refine⟨?_,?_⟩
   ·simp only[T.adr,aaG]
    refine⟨fun h=>n1.1 ?_,this.1⟩
    obtain⟨u,hu,hq⟩:=T.mem_adrs.mp h
    exact T.mem_adrs.mpr ⟨u,hu,T.adr_le u (abR k) hq⟩
   ·intro b hb hc
    simp only[T.adr,T.rest,aak]at hb hc
    rcases hc with rfl|hc
    ·have h0:=(T.alls_iff ts (k+1)).mp ((T.alls_iff ts k).mpr (.inr hb))
     rcases h0 with h0|h0
     ·exact n1.1 h0
     ·exact n2 b h0 (aac ..)
    ·exact this.2 b hb hc
 ·cases k with
  |zero=>exact T.nd_zero _
  |succ k=>
   obtain⟨n1,n2⟩:=n
   simp only[T.adr,T.rest,aaG]at n1 n2
   have:=lists ts ih (k:=k) ⟨n1.2,fun b hb hc=>n2 b hb (aaa _ hc)⟩
   refine⟨?_,?_⟩
   ·simp only[T.adr,aaG]
    refine⟨fun h=>n1.1 ?_,this.1⟩
    obtain⟨u,hu,hq⟩:=T.mem_adrs.mp h
    exact T.mem_adrs.mpr ⟨u,hu,T.adr_le u (abR k) hq⟩
   ·intro b hb hc
    simp only[T.adr,T.rest,aak]at hb hc
    rcases hc with rfl|hc
    ·have h0:=(T.alls_iff ts (k+1)).mp ((T.alls_iff ts k).mpr (.inr hb))
     rcases h0 with h0|h0
     ·exact n1.1 h0
     ·exact n2 b h0 (aac ..)
    ·exact this.2 b hb hc
theorem T.nd_le(t:T){k k':Nat}(h:k<=k')(n:t.Nd k'):t.Nd k:=by
 induction k' with
 |zero=>cases acR.mp h;exact n
 |succ k' ih=>
  rcases acF k (k'+1) with q|q
  ·exact ih (aaZ q) (T.nd_down t n)
  ·cases acO h q;exact n
theorem T.nds_le{ts:List T}{k k':Nat}(h:k<=k')(n:T.Nds ts k'):T.Nds ts k:=by
 have:=T.nd_le (.tup 0 ts) h (k':=k') n
 exact this
abbrev HO.mu:HO->Bool
 |.lst _=>true
 |.dK _=>true
 |.dT _=>true
 |_=>false
abbrev Mu(H:Hp)(a:Addr):Prop:=∃o,H a=some o/\HO.mu o=true
theorem Mu.l{H:Hp}{a:Addr}{vs:List V}(h:H a=some (.lst vs)):Mu H a:=⟨_,h,rfl⟩
theorem Vw{p:Px}{a:Addr}{c:Nat}:HO.mu (exO p a c)=false:=by
 unfold exO
 split<;>rfl
theorem T.Ok.keep'{p:Px}{H H':Hp}:∀(t:T),(∀a u,H a=some u->(a∈t.rest 0\/HO.mu u=false)->H' a=some u)->t.Ok p H->t.Ok p H':=by
 refine T.ind (P:=fun t=>(∀a u,H a=some u->(a∈t.rest 0\/HO.mu u=false)->H' a=some u)->t.Ok p H->t.Ok p H') (fun _ h=>h) (fun _ _ h=>h) (fun _ _ h=>h) (fun _ _ h=>h) (fun a ts ih k h=>?_) (fun a ts ih k h=>?_) (fun a c k h=>?_) (fun a ks ts ih k h=>?_) (fun a ks ts ih k h=>?_)
 ·obtain⟨h1,h2⟩:=h
  refine⟨k _ _ h1 (.inr rfl),T.oks_iff.mpr fun t ht=>ih t ht (fun b u e q=>k b u e ?_) (T.oks_iff.mp h2 t ht)⟩
  rcases q with q|q
  ·exact .inl (T.mem_rests.mpr ⟨t,ht,q⟩)
  ·exact .inr q
 ·obtain⟨h1,h2⟩:=h
  refine⟨?_,T.oks_iff.mpr fun t ht=>ih t ht (fun b u e q=>k b u e ?_) (T.oks_iff.mp h2 t ht)⟩
  ·rcases h1 with h1|⟨o,h1⟩
   ·exact .inl (k _ _ h1 (.inl (aac ..)))
   ·exact .inr ⟨o,k _ _ h1 (.inl (aac ..))⟩
  ·rcases q with q|q
   ·exact .inl (aaa _ (T.mem_rests.mpr ⟨t,ht,q⟩))
   ·exact .inr q
 ·rcases h with⟨h,lt⟩|⟨⟨dx,ob,h1,h2,h3⟩,ge⟩
  ·exact .inl ⟨⟨k _ _ h.1 (.inr Vw),h.2⟩,lt⟩
  ·exact .inr ⟨⟨dx,ob,k _ _ h1 (.inr rfl),k _ _ h2 (.inr rfl),h3⟩,ge⟩
 ·obtain⟨⟨h1,h3⟩,h2⟩:=h
  refine⟨⟨k _ _ h1 (.inl (aac ..)),h3⟩,T.oks_iff.mpr fun t ht=>ih t ht (fun b u e q=>k b u e ?_) (T.oks_iff.mp h2 t ht)⟩
  rcases q with q|q
  ·exact .inl (aaa _ (T.mem_rests.mpr ⟨t,ht,q⟩))
  ·exact .inr q
 ·obtain⟨⟨h1,h3⟩,h2⟩:=h
  refine⟨⟨k _ _ h1 (.inl (aac ..)),h3⟩,T.oks_iff.mpr fun t ht=>ih t ht (fun b u e q=>k b u e ?_) (T.oks_iff.mp h2 t ht)⟩
  rcases q with q|q
  ·exact .inl (aaa _ (T.mem_rests.mpr ⟨t,ht,q⟩))
  ·exact .inr q
theorem T.Ok.keep{p:Px}{H H':Hp}{t:T}(k:∀a u,H a=some u->(a∈t.rest 0\/HO.mu u=false)->H' a=some u)(h:t.Ok p H):t.Ok p H':=T.Ok.keep' t k h
theorem T.Ok.same{p:Px}{H H':Hp}{t:T}(s:Same H H')(h:t.Ok p H):t.Ok p H':=h.keep fun a u e _=>s a u e
theorem T.Oks.same{p:Px}{H H':Hp}{ts:List T}(s:Same H H')(h:T.Oks p H ts):T.Oks p H' ts:=T.oks_iff.mpr fun t ht=>(T.oks_iff.mp h t ht).same s
theorem SC{H:Hp}{a:Addr}{u:HO}(h:Rd H a u):H a≠none:=by
 rcases h with h|⟨o,h⟩<;>rw[h]<;>simp
theorem T.Ok.dom'{p:Px}{H:Hp}{a:Addr}:∀(t:T),t.Ok p H->a∈t.rest 0->H a≠none:=by
 refine T.ind (P:=fun t=>t.Ok p H->a∈t.rest 0->H a≠none) (fun _ h=>nomatch h) (fun _ _ h=>nomatch h) (fun _ _ h=>nomatch h) (fun _ _ h=>nomatch h) (fun b ts ih k h=>?_) (fun b ts ih k h=>?_) (fun _ _ _ h=>nomatch h) (fun b ks ts ih k h=>?_) (fun b ks ts ih k h=>?_)
 ·obtain⟨t,ht,q⟩:=T.mem_rests.mp h
  exact ih t ht (T.oks_iff.mp k.2 t ht) q
 ·rcases aak.mp h with rfl|h
  ·exact SC k.1
  ·obtain⟨t,ht,q⟩:=T.mem_rests.mp h
   exact ih t ht (T.oks_iff.mp k.2 t ht) q
 ·rcases aak.mp h with rfl|h
  ·rw[k.1.1];exact fun z=>nomatch z
  ·obtain⟨t,ht,q⟩:=T.mem_rests.mp h
   exact ih t ht (T.oks_iff.mp k.2 t ht) q
 ·rcases aak.mp h with rfl|h
  ·rw[k.1.1];exact fun z=>nomatch z
  ·obtain⟨t,ht,q⟩:=T.mem_rests.mp h
   exact ih t ht (T.oks_iff.mp k.2 t ht) q
theorem T.Ok.dom{p:Px}{H:Hp}{a:Addr}{t:T}(h:t.Ok p H)(m:a∈t.rest 0):H a≠none:=T.Ok.dom' t h m
theorem T.Ok.domk{p:Px}{H:Hp}{a:Addr}{t:T}{k:Nat}(h:t.Ok p H)(m:a∈t.adr k):H a≠none:=h.dom ((T.all_iff t k).mpr (.inl m))
end Pu
end
section
namespace Pu
open PySem PySem.Spec PyProof.Rows PySem.W L2
abbrev gj(c:Bool)(x:Nat×Nat):Option (Nat×Nat):=if c then some x else none
mutual
noncomputable def jk(tn:List Nat):E->Option (Nat×Nat)
 |.nm i=>match tn[i]? with
  |some j=>gj (decide (j<90)) (j,0)
  |none=>none
 |.nmS i=>(match tn[i]? with
  |some j=>gj (decide (j<90)) (j,0)
  |none=>none).bind fun _=>some (0,9)
 |.cN=>some (0,9)
 |.cB _=>some (0,9)
 |.cI _=>some (0,9)
 |.cS _=>some (0,9)
 |.gl _ d=>gj (D.scal d) (0,9)
 |.tup es=>jks tn es
 |.lst es=>(jks tn es).bind fun x=>some (if x.1=0 then(0,x.2+1) else(x.1+1,0))
 |.bin _ a b=>(jk tn a).bind fun x=>(jk tn b).bind fun y=>gj (decide (x.1<=1)&&decide (y.1<=1)) (0,1)
 |.neg a=>(jk tn a).bind fun _=>some (0,9)
 |.not a=>(jk tn a).bind fun _=>some (0,9)
 |.cmp _ a b=>(jk tn a).bind fun _=>(jk tn b).bind fun _=>some (0,9)
 |.chain _ _ a b c=>(jk tn a).bind fun _=>(jk tn b).bind fun _=>(jk tn c).bind fun _=>some (0,9)
 |.isN _ a=>(jk tn a).bind fun _=>some (0,9)
 |.bo _ es=>jks tn es
 |.ifx c a b=>(jk tn c).bind fun _=>(jk tn a).bind fun x=>(jk tn b).bind fun y=>some (max x.1 y.1,if max x.1 y.1=0 then min x.2 y.2 else 0)
 |.ix a i=>(jk tn a).bind fun x=>(jk tn i).bind fun _=>gj (decide (x.1=0)) (0,0)
 |.ixS a i=>(jk tn a).bind fun x=>(jk tn i).bind fun _=>gj (decide (x.1=0)) (0,9)
 |.ixL a i=>(jk tn a).bind fun x=>(jk tn i).bind fun _=>some (x.1-1,0)
 |.ixT a i=>(jk tn a).bind fun x=>(jk tn i).bind fun _=>some (x.1,0)
 |.ixF a i=>(jk tn a).bind fun x=>(jk tn i).bind fun _=>gj (decide (x.1=0)) (0,x.2)
 |.slc a lo hi=>(jk tn a).bind fun x=>(jk tn lo).bind fun _=>(jk tn hi).bind fun _=>gj (decide (x.1<=1)) (0,1)
 |.call f es=>(jks tn es).bind fun x=>gj (decide (x.1=0)) (0,f.dep)
 |.callB f es=>(jks tn es).bind fun _=>some (0,9)
 |.bi b es=>(jks tn es).bind fun x=>match b with
  |.list=>gj (decide (x.1=0)) (0,1)
  |.tuple=>gj (decide (x.1=0)) (0,x.2-1)
  |_=>some (0,9)
 |.listI it=>(jkI tn it).bind fun x=>some (0,1)
 |.isi a _=>(jk tn a).bind fun _=>some (0,9)
 |.flS a=>(jk tn a).bind fun x=>gj (decide (x.1=0)&&decide (1<=x.2)) (0,9)
 |.comp0 nl fr _ it elt=>(jkI tn it).bind fun _=>(jk (aam nl 0++fr.map fun j=>tn.getD j 99) elt).bind fun x=>gj (decide (x.1=0)) (0,x.2+1)
 |.comp1 nl fr _ it cond elt=>(jkI tn it).bind fun _=>(jk (aam nl 0++fr.map fun j=>tn.getD j 99) cond).bind fun _=>
   (jk (aam nl 0++fr.map fun j=>tn.getD j 99) elt).bind fun x=>gj (decide (x.1=0)) (0,x.2+1)
noncomputable def jks(tn:List Nat):Es->Option (Nat×Nat)
 |.nil=>some (0,9)
 |.cons e r=>(jk tn e).bind fun x=>(jks tn r).bind fun y=>some (max x.1 y.1,if max x.1 y.1=0 then min x.2 y.2 else 0)
noncomputable def jkI(tn:List Nat):It->Option Nat
 |.seq e=>(jk tn e).bind fun x=>if x.1=0 then some 0 else none
 |.seqL e=>(jk tn e).bind fun x=>if x.1<=1 then some x.1 else none
 |.r1 a=>(jk tn a).bind fun _=>some 0
 |.r2 a b=>(jk tn a).bind fun _=>(jk tn b).bind fun _=>some 0
 |.r3 a b c=>(jk tn a).bind fun _=>(jk tn b).bind fun _=>(jk tn c).bind fun _=>some 0
 |.en e=>(jk tn e).bind fun x=>if x.1<=1 then some x.1 else none
 |.rv e=>(jk tn e).bind fun x=>if x.1<=1 then some x.1 else none
end
@[reducible]noncomputable def St:=L2.St
@[reducible]noncomputable def Ft:=List (Option T)
abbrev vτ(τ:Ft):St:=τ.map (Option.map T.val)
abbrev dτ(τ:Ft):Fr:=τ.map (Option.map T.dat)
abbrev Fok(p:Px)(tn:List Nat)(τ:Ft)(H:Hp):Prop:=∀(i:Nat)(t:T)(j:Nat),τ[i]?=some (some t)->tn[i]?=some j->j<90->t.Ok p H
abbrev Sh(tn:List Nat)(τ:Ft)(a:Addr):Prop:=∃(i:Nat)(t:T)(j:Nat),τ[i]?=some (some t)/\tn[i]?=some j/\j<90/\a∈t.rest j
theorem Fok.same{p:Px}{tn:List Nat}{τ:Ft}{H H':Hp}(h:Fok p tn τ H)(s:Same H H'):Fok p tn τ H':=fun i t j e e' l=>(h i t j e e' l).same s
theorem Fok.dom{p:Px}{tn:List Nat}{τ:Ft}{H:Hp}(h:Fok p tn τ H){a:Addr}(s:Sh tn τ a):H a≠none:=by
 obtain⟨i,t,j,e,e',l,m⟩:=s
 exact(h i t j e e' l).dom (T.rest_le t (aaw j) m)
theorem CQ{τ:Ft}{i:Nat}{t:T}(h:τ[i]?=some (some t)):(vτ τ)[i]?=some (some t.val):=by simp[vτ,h]
theorem D3{τ:Ft}{i:Nat}{d:D}(h:get (dτ τ) i=.ok d):∃t,τ[i]?=some (some t)/\t.dat=d:=by
 unfold get dτ at h
 rw[aal]at h
 cases q:τ[i]? with
 |none=>rw[q]at h;cases h
 |some o=>
  rw[q]at h
  cases o with
  |none=>cases h
  |some t=>exact⟨t,rfl,by simpa using h⟩
structure Rs(p:Px)(B:Addr->Prop)(H H':Hp)(j k:Nat)(t:T):Prop where
 same:Same H H'
 ok:t.Ok p H'
 src:∀a∈t.rest j,H a=none\/B a
 new:∀a∈t.adr k,H a=none/\Mu H' a
 nd:t.Nd k
structure RsL(p:Px)(B:Addr->Prop)(H H':Hp)(j k:Nat)(ts:List T):Prop where
 same:Same H H'
 ok:T.Oks p H' ts
 src:∀a∈T.rests ts j,H a=none\/B a
 new:∀a∈T.adrs ts k,H a=none/\Mu H' a
 nd:T.Nds ts k
theorem Rs.back{p:Px}{B:Addr->Prop}{H H1 H2:Hp}{j k:Nat}{t:T}(r:Rs p B H1 H2 j k t)(s:Same H H1):Rs p B H H2 j k t :=
 ⟨s.trans r.same,r.ok,fun a m=>(r.src a m).imp s.free id,fun a m=>⟨s.free (r.new a m).1,(r.new a m).2⟩,r.nd⟩
theorem Rs.fwd{p:Px}{B:Addr->Prop}{H H1 H2:Hp}{j k:Nat}{t:T}(r:Rs p B H H1 j k t)(s:Same H1 H2):Rs p B H H2 j k t :=
 ⟨r.same.trans s,r.ok.same s,r.src,fun a m=>⟨(r.new a m).1,let ⟨vs,e,mu⟩:=(r.new a m).2;⟨vs,s _ _ e,mu⟩⟩,r.nd⟩
theorem Rs.le{p:Px}{B:Addr->Prop}{H H1:Hp}{j k j' k':Nat}{t:T}(r:Rs p B H H1 j k t)(hj:j<=j')(hk:k'<=k):Rs p B H H1 j' k' t :=
 ⟨r.same,r.ok,fun a m=>r.src a (T.rest_le t hj m),fun a m=>r.new a (T.adr_le t hk m),T.nd_le t hk r.nd⟩
theorem RsL.back{p:Px}{B:Addr->Prop}{H H1 H2:Hp}{j k:Nat}{t:List T}(r:RsL p B H1 H2 j k t)(s:Same H H1):RsL p B H H2 j k t :=
 ⟨s.trans r.same,r.ok,fun a m=>(r.src a m).imp s.free id,fun a m=>⟨s.free (r.new a m).1,(r.new a m).2⟩,r.nd⟩
abbrev T.sc:T->Bool
 |.non=>true
 |.bl _=>true
 |.int _=>true
 |.str _=>true
 |_=>false
theorem Rs.scal{p:Px}{B:Addr->Prop}{H H':Hp}{j k:Nat}{t:T}(s:Same H H')(h:t.sc=true):Rs p B H H' j k t:=by
 cases t<;>first|exact⟨s,trivial,by simp[T.rest],by simp[T.adr],by simp[T.Nd,T.adr]⟩|cases h
abbrev X4(c:Nat)(H:Hp)(od:Option Addr):Prop:=(c<1000/\od=none)\/(1000<=c/\∃dx ob,od=some dx/\H dx=some (.frz ob (.xd [("at",.int (Vt c))])))
abbrev XW(p:Px)(E:XK)(c:Nat)(H:Hp):Prop:=∀od,X4 c H od->E (.ref (p.cl (kcX c))) od H
abbrev Lg{α:Type}(p:Px)(EX:EXT)(σ:St)(r:Res α)(H:Hp)(Kc:α->Prop):Prop:=match r with
 |.ok a=>Kc a
 |.exc c=>p.has (kcX c)=true->∀H',Same H H'->XW p (EX σ) c H'
 |.bad=>False
theorem Lg.bind{α β:Type}{p:Px}{EX:EXT}{σ:St}{r:Res α}{f:α->Res β}{H:Hp}{Kc:β->Prop}(h:Lg p EX σ (r.bind f) H Kc):Lg p EX σ r H fun a=>Lg p EX σ (f a) H Kc:=by
 cases r<;>exact h
theorem Lg.mono{α:Type}{p:Px}{EX:EXT}{σ:St}{r:Res α}{H H1:Hp}{Kc Kc':α->Prop}(h:Lg p EX σ r H Kc)(s:Same H H1)(m:∀a,r=.ok a->Kc a->Kc' a):Lg p EX σ r H1 Kc':=by
 cases r with
 |ok a=>exact m a rfl h
 |exc c=>exact fun hc H' s'=>h hc H' (s.trans s')
 |bad=>exact h
theorem Lg.guard{α:Type}{p:Px}{EX:EXT}{σ:St}{c:Prop}[Decidable c]{r:Res α}{H:Hp}{Kc:α->Prop}(h:Lg p EX σ (if c then r else .bad) H Kc):c/\Lg p EX σ r H Kc:=by
 split at h
 ·exact⟨‹_›,h⟩
 ·exact nE h
@[reducible]noncomputable def KE(p:Px)(B:Addr->Prop)(H:Hp)(j k:Nat)(Q:VK):D->Prop:=fun d=>∀t H',t.dat=d->Rs p B H H' j k t->Q t.val H'
@[reducible]noncomputable def KL(p:Px)(B:Addr->Prop)(H:Hp)(j k:Nat)(Q:List V->Hp->Prop):List D->Prop:=fun ds=>∀ts H',T.dats ts=ds->RsL p B H H' j k ts->Q (ts.map T.val) H'
abbrev lE(p:Px)(EX:EXT)(tn:List Nat)(e:E):TE:=fun σ H Q=>∃τ,σ=vτ τ/\Fok p tn τ H/\∃j k,jk tn e=some (j,k)/\Lg p EX σ (ev e (dτ τ)) H (KE p (Sh tn τ) H j k Q)
abbrev lEs(p:Px)(EX:EXT)(tn:List Nat)(es:Es):TA:=fun σ H Q=>∃τ,σ=vτ τ/\Fok p tn τ H/\∃j k,jks tn es=some (j,k)/\Lg p EX σ (evs es (dτ τ)) H (KL p (Sh tn τ) H j k Q)
abbrev lT(p:Px)(EX:EXT)(tn:List Nat)(e:E):TT:=fun σ H Q=>∃τ,σ=vτ τ/\Fok p tn τ H/\(jk tn e).isSome=true/\Lg p EX σ (tv e (dτ τ)) H fun b=>∀H',Same H H'->Q b H'
theorem PE.mono{X:Cx}{e:Expr}{t t':TE}(h:PE X e t)(m:∀σ H Q,t' σ H Q->t σ H Q):PE X e t':=fun pins s σ H Q I q=>h pins s σ H Q I (m _ _ _ q)
theorem PT.mono{X:Cx}{e:Expr}{t t':TT}(h:PT X e t)(m:∀σ H Q,t' σ H Q->t σ H Q):PT X e t':=fun pins s σ H Q I q=>h pins s σ H Q I (m _ _ _ q)
theorem PA.mono{X:Cx}{e:List Expr}{t t':TA}(h:PA X e t)(m:∀σ H Q,t' σ H Q->t σ H Q):PA X e t':=fun pos pins s σ H Q I q=>h pos pins s σ H Q I (m _ _ _ q)
section
variable{p:Px}{EX:EXT}{tn:List Nat}{X:Cx}{pos:Pos}
theorem CS{c:Bool}{x:Nat×Nat}{j k:Nat}(h:gj c x=some (j,k)):c=true/\x=(j,k):=by
 unfold gj at h
 split at h
 ·exact⟨‹_›,Option.some.inj h⟩
 ·cases h
theorem l1{x:E}{β:Type}{f:D->Res β}{τ:Ft}{H:Hp}{Kc:β->Prop}{Q:VK}{ja ka:Nat}(hF:Fok p tn τ H)(hj:jk tn x=some (ja,ka))(h:Lg p EX (vτ τ) ((ev x (dτ τ)).bind f) H Kc)
  (m:∀d t H1,t.dat=d->Rs p (Sh tn τ) H H1 ja ka t->Lg p EX (vτ τ) (f d) H Kc->Q t.val H1):lE p EX tn x (vτ τ) H Q :=
 ⟨τ,rfl,hF,ja,ka,hj,h.bind.mono (Same.refl _) fun d _ hd t H1 ht R=>m d t H1 ht R hd⟩
theorem l2{x:E}{β:Type}{f:D->Res β}{τ:Ft}{H H1:Hp}{Kc:β->Prop}{Q:VK}{ja ka:Nat}(hF:Fok p tn τ H)(s:Same H H1)(hj:jk tn x=some (ja,ka))(h:Lg p EX (vτ τ) ((ev x (dτ τ)).bind f) H Kc)
  (m:∀d t H2,t.dat=d->Rs p (Sh tn τ) H1 H2 ja ka t->Lg p EX (vτ τ) (f d) H Kc->Q t.val H2):lE p EX tn x (vτ τ) H1 Q :=
 ⟨τ,rfl,hF.same s,ja,ka,hj,h.bind.mono s fun d _ hd t H2 ht R=>m d t H2 ht R hd⟩
theorem O6{i:Nat}{x:Str}(hN:X.N[i]?=some x)(hv:Vis X.env.scope x)(hd:(x==("__debug__" : Str))=false)(hcd:(x==("__classdict__" : Str))=false):PE X (.Name x pos) (lE p EX tn (.nm i)):=by
 refine PE.mono (Cw hN hv hd hcd) fun σ H Q h=>?_
 obtain⟨τ,rfl,hF,j,k,hj,h⟩:=h
 simp only[jk]at hj
 split at hj
 ·rename_i j' hj'
  obtain⟨hlt,e⟩:=CS hj
  cases e
  simp only[ev]at h
  cases q:get (dτ τ) i with
  |ok d=>
   rw[q]at h
   obtain⟨t,ht,e⟩:=D3 q
   exact⟨t.val,CQ ht,h t H e ⟨Same.refl _,hF i t j ht hj' (of_decide_eq_true hlt),fun a m=>.inr ⟨i,t,j,ht,hj',of_decide_eq_true hlt,m⟩,by rw[T.adr_zero];simp,T.nd_zero t⟩⟩
  |exc c=>rw[q]at h;unfold get at q;split at q<;>cases q
  |bad=>rw[q]at h;exact h.elim
 ·cases hj
theorem IE{e:Expr}{x:E}{t:T}(hp:PE X e (tC t.val))(hs:t.sc=true)(he:∀δ,ev x δ=.ok t.dat):PE X e (lE p EX tn x):=by
 refine PE.mono hp fun σ H Q h=>?_
 obtain⟨τ,rfl,hF,j,k,hj,h⟩:=h
 rw[he]at h
 exact h t H rfl (Rs.scal (Same.refl _) hs)
theorem SD{B:Addr->Prop}{H H1 H2:Hp}{j1 k1 j2 k2:Nat}{t:T}{ts:List T}(hB:∀a,B a->H a≠none)(r:Rs p B H H1 j1 k1 t)(q:RsL p B H1 H2 j2 k2 ts):RsL p B H H2 (max j1 j2) (if max j1 j2=0 then min k1 k2 else 0) (t::ts):=by
 have r2:=r.fwd q.same
 refine⟨r2.same,⟨r2.ok,q.ok⟩,fun a m=>?_,fun a m=>?_,?_⟩
 ·simp only[T.rests,aag]at m
  rcases m with m|m
  ·exact r.src a (T.rest_le t (Nat.le_max_left ..) m)
  ·obtain⟨u,hu,m⟩:=T.mem_rests.mp m
   exact(q.src a (T.mem_rests.mpr ⟨u,hu,T.rest_le u (Nat.le_max_right ..) m⟩)).imp r.same.free id
 ·split at m
  ·simp only[T.adrs,aag]at m
   rcases m with m|m
   ·exact r2.new a (T.adr_le t (aaR ..) m)
   ·obtain⟨u,hu,m⟩:=T.mem_adrs.mp m
    have z:=q.new a (T.mem_adrs.mpr ⟨u,hu,T.adr_le u (aa3 ..) m⟩)
    exact⟨r.same.free z.1,z.2⟩
  ·rw[T.adrs_zero]at m;cases m
 ·split
  ·rename_i hz
   have h1:j1=0:=by omega
   have h2:j2=0:=by omega
   subst h1 h2
   refine T.nds_cons.mpr ⟨T.nd_le t (aaR ..) r.nd,T.nds_le (aa3 ..) q.nd,fun a m m'=>?_,fun a m m'=>?_⟩
   ·have m1:=T.adr_le t (aaR k1 k2) m
    rcases q.src a m' with z|z
    ·exact r.ok.domk m1 z
    ·exact hB a z (r.new a m1).1
   ·obtain⟨u,hu,m⟩:=T.mem_adrs.mp m
    exact r.ok.dom m' (q.new a (T.mem_adrs.mpr ⟨u,hu,T.adr_le u (aa3 ..) m⟩)).1
  ·exact T.nds_zero _
theorem QE:PA X [] (lEs p EX tn .nil):=by
 refine PA.mono AW fun σ H Q h=>?_
 obtain⟨τ,rfl,hF,j,k,hj,h⟩:=h
 exact h [] H rfl ⟨Same.refl _,trivial,by simp[T.rests],by simp[T.adrs],by simp[T.Nds,T.adrs]⟩
theorem O7{e:Expr}{es:List Expr}{x:E}{xs:Es}(he:PE X e (lE p EX tn x))(hes:PA X es (lEs p EX tn xs))(hs:starEach (e::es) X.env=(false,eval e X.env)::starEach es X.env):PA X (e::es) (lEs p EX tn (.cons x xs)):=by
 refine PA.mono (Ar he hes hs) fun σ H Q h=>?_
 obtain⟨τ,rfl,hF,j,k,hj,h⟩:=h
 simp only[jks]at hj
 obtain⟨⟨j1,k1⟩,h1,hj⟩:=bS hj
 obtain⟨⟨j2,k2⟩,h2,hj⟩:=bS hj
 cases hj
 simp only[evs]at h
 refine l1 hF h1 h fun d t H1 ht R h=>?_
 refine⟨τ,rfl,hF.same R.same,j2,k2,h2,h.bind.mono R.same fun ds _ hd ts H2 hts R2=>?_⟩
 exact hd (t::ts) H2 (by simp[T.dats,ht,hts]) (SD (fun a=>hF.dom) R R2)
end
section
variable{p:Px}{EX:EXT}{tn:List Nat}{X:Cx}{pos:Pos}
theorem O8{B:Addr->Prop}{H H1:Hp}{j k:Nat}{a:Addr}{ts:List T}(r:RsL p B H H1 j k ts)(hn:H1 a=none):Rs p B H (L2.upd H1 a (.tup (ts.map T.val))) j k (.tup a ts):=by
 have s:=Same.new (o:=.tup (ts.map T.val)) hn
 exact⟨r.same.trans s,⟨Aq,r.ok.same s⟩,r.src,fun b m=>⟨(r.new b m).1,let ⟨vs,e,mu⟩:=(r.new b m).2;⟨vs,s _ _ e,mu⟩⟩,r.nd⟩
theorem O9{B:Addr->Prop}{H H1:Hp}{j k:Nat}{a:Addr}{ts:List T}(r:RsL p B H H1 j k ts)(hn:H1 a=none) :
  Rs p B H (L2.upd H1 a (.lst (ts.map T.val))) (if j=0 then 0 else j+1) (if j=0 then k+1 else 0) (.lst a ts):=by
 have s:=Same.new (o:=.lst (ts.map T.val)) hn
 have ha:H a=none:=r.same.free hn
 refine⟨r.same.trans s,⟨.inl Aq,r.ok.same s⟩,fun b m=>?_,fun b m=>?_,?_⟩
 ·split at m
  ·rename_i e
   subst e
   simp only[T.rest,aak]at m
   rcases m with rfl|m
   ·exact .inl ha
   ·exact r.src b m
  ·exact r.src b m
 ·split at m
  ·simp only[T.adr,aak]at m
   rcases m with rfl|m
   ·exact⟨ha,_,Aq,rfl⟩
   ·exact⟨(r.new b m).1,let ⟨vs,e,mu⟩:=(r.new b m).2;⟨vs,s _ _ e,mu⟩⟩
  ·rw[T.adr_zero]at m;cases m
 ·split
  ·rename_i e
   subst e
   have out:a∉T.rests ts 0:=fun m=>by
    obtain⟨t,ht,m⟩:=T.mem_rests.mp m
    exact(T.oks_iff.mp r.ok t ht).dom m hn
   refine⟨?_,fun b m m'=>?_⟩
   ·simp only[T.adr,aaG]
    exact⟨fun m=>out ((T.alls_iff ts k).mpr (.inl m)),r.nd.1⟩
   ·simp only[T.adr,T.rest,aak]at m m'
    rcases m' with rfl|m'
    ·exact out ((T.alls_iff ts k).mpr (.inr m))
    ·exact r.nd.2 b m m'
  ·exact T.nd_zero _
theorem Ag:∀ts:List T,(T.dats ts).length=ts.length:=fun ts=>by rw[T.dats_map,aab]
abbrev Es.len:Es->Nat
 |.nil=>0
 |.cons _ r=>r.len+1
theorem Cf:∀(es:Es)(δ:Fr)(ds:List D),evs es δ=.ok ds->ds.length=es.len
 |.nil,δ,ds,h=>by simp only[evs]at h;cases h;rfl
 |.cons e r,δ,ds,h=>by
  simp only[evs]at h
  obtain⟨x,_,h⟩:=Res.bind_eq_ok h
  obtain⟨xs,h2,h⟩:=Res.bind_eq_ok h
  cases h
  rw[aaL,Cf r δ xs h2,Es.len]
theorem SE{es:List Expr}{xs:Es}{k1:Nat}(h:PA X es (lEs p EX tn xs))(hl:xs.len<=1000):PE X (.Tuple es k1 pos) (lE p EX tn (.tup xs)):=by
 refine PE.mono (KD h) fun σ H Q h=>?_
 obtain⟨τ,rfl,hF,j,k,hj,h⟩:=h
 simp only[ev]at h
 refine⟨τ,rfl,hF,j,k,hj,h.bind.mono (Same.refl _) fun ds e hd ts H1 hts R=>⟨?_,fun a ha=>hd (.tup a ts) _ (by simp[T.dat,hts]) (O8 R ha)⟩⟩
 have:=Cf _ _ _ e
 rw[aab,<- Ag,hts,this]
 exact aao hl (by decide)
theorem SF{es:List Expr}{xs:Es}(h:PA X es (lEs p EX tn xs))(hl:xs.len<=1000):PE X (.List es pos) (lE p EX tn (.lst xs)):=by
 refine PE.mono (KG h) fun σ H Q h=>?_
 obtain⟨τ,rfl,hF,j,k,hj,h⟩:=h
 simp only[jk]at hj
 obtain⟨⟨j1,k1⟩,h1,hj⟩:=bS hj
 simp only[ev]at h
 refine⟨τ,rfl,hF,j1,k1,h1,h.bind.mono (Same.refl _) fun ds e hd ts H1 hts R=>⟨?_,fun a ha=>hd (.lst a ts) _ (by simp[T.dat,hts]) ?_⟩⟩
 ·have:=Cf _ _ _ e
  rw[aab,<- Ag,hts,this]
  exact aao hl (by decide)
 ·have q:=O9 R ha
  have hj:=Option.some.inj hj
  by_cases z:j1=0
  ·subst z;simp only[if_true]at q;simp at hj;obtain⟨rfl,rfl⟩:=hj;exact q
  ·simp only[if_neg z]at q;simp[z]at hj;obtain⟨rfl,rfl⟩:=hj;exact q
abbrev NL:B2->Operator
 |.add=>.Add
 |.sub=>.Sub
 |.mul=>.Mult
 |.fdiv=>.FloorDiv
 |.mod=>.Mod
 |.pow=>.Pow
theorem Inv.lstR{pins:List (Addr×Obj)}{σ:St}{H:Hp}{s:Shared}{l:Addr}{xs:List V}(I:Inv X pins σ H s)(hH:Rd H l (.lst xs)):xs.length<=sizeLine/\∃(its:List Value)(n:Nat),Vals xs its/\xs.length=its.length/\s.heap.get? l=some {cls:=.type "list",data:=.seq its.toArray n}:=by
 obtain⟨z,its,n,r,e⟩:=hH.ok I.hok
 exact⟨z,its,n,r,r.length,e⟩
abbrev RM:R2:=fun x y H Q=>∃l b xs zs,x=.ref l/\y=.ref b/\Rd H l (.lst xs)/\Rd H b (.lst zs)/\xs.length+zs.length<=sizeLine/\∀q,H q=none->Q (.ref q) (L2.upd H q (.lst (xs++zs)))
theorem SG:OpR X (binaryOp .Add) RM:=by
 intro pins s σ H x y v u Q I rx ry h
 obtain⟨l,b,xs,zs,rfl,rfl,hH,hB,hz,q⟩:=h
 cases rx
 cases ry
 obtain⟨z,its,n,r,hl,e⟩:=Inv.lstR I hH
 obtain⟨z2,its2,n2,r2,hl2,e2⟩:=Inv.lstR I hB
 refine PySem.P.add_list e e2 ?_ (by rw[aar,aar];omega)
 have ea:its.toArray++its2.toArray=(its++its2).toArray:=by simp
 rw[ea]
 exact⟨.ref _,_,I.lnew (t':=s.toks) (r.append r2) (by rw[aaH];omega),rfl,q _ I.fresh⟩
abbrev RN:R2:=fun x y H Q=>∃l k xs,x=.ref l/\y=.int k/\Rd H l (.lst xs)/\-(2^63)<=k/\k<2^63/\xs.length*k.toNat<=sizeLine /\
 ∀q,H q=none->Q (.ref q) (L2.upd H q (.lst (aam k.toNat xs).flatten))
abbrev RP(_ j:Int):Prop:=0<j/\j<2^200
theorem QF:OpR X (binaryOp .FloorDiv) (rI RP fun i j=>.int (i/j)):=opI fun i j _ _ _ _ _ hc q=>by
 have e:i/j=i.fdiv j:=(Int.fdiv_eq_ediv_of_nonneg _ (ada hc.1)).symm
 rw[e]at q
 refine floordiv_int (by have:=hc.1;omega) q (.inl (PyProof.noPylong_of_log2 ?_))
 have h1:j.natAbs<2^200:=by
  have e1:(j.natAbs:Int)=j:=Int.natAbs_of_nonneg (ada hc.1)
  have e2:(j.natAbs:Int)<((2^200:Nat):Int):=by rw[e1];exact hc.2
  exact Int.ofNat_lt.mp e2
 have:j.natAbs.log2<200:=by
  refine(acP (by have:=hc.1;omega)).mpr h1
 omega
theorem SH:OpR X (binaryOp .Mult) RN:=by
 intro pins s σ H x y v u Q I rx ry h
 obtain⟨l,k,xs,rfl,rfl,hH,h1,h2,hz,q⟩:=h
 cases rx
 obtain⟨t,rfl⟩:=ry
 obtain⟨z,its,n,r,hl,e⟩:=Inv.lstR I hH
 have hlen:its.toArray.size*k.toNat<=sizeLine:=by rw[aar,<- hl];exact hz
 have hcap:¬its.toArray.size*k.toNat>(2^63-1)/8:=by
  have:(sizeLine:Nat)<=(2^63-1)/8:=by decide
  omega
 have hfit:¬(!Builtin.List.listFitsIndex k)=true:=by
  rw[fitsIndex_both h1 h2]
  exact abl
 have hlong:¬Builtin.List.listTooLong (its.toArray.size*k.toNat)=true:=by
  rw[HK hlen]
  exact abl
 have hnew:adk (fun x1 x2=>x1++x2) #[] (aam (if its.toArray.isEmpty=true then 0 else k.toNat) its.toArray)=(aam k.toNat its).flatten.toArray:=by
  have f0:∀m:Nat,adk (fun x1 x2=>x1++x2) #[] (aam m its.toArray)=(aam m its).flatten.toArray:=fun m=>by
   have:=JW its m []
   rw[abi]at this
   exact this
  rw[f0]
  cases its with
  |nil=>simp
  |cons a r'=>rw[if_neg (by simp)]
 refine wpAny_binaryOp_repeat_ref (T := "list") (U := "int") (by decide) ⟨_,e,rfl⟩ (fun s'=>typeIs_int s' k t) noFill_list_mul F.fills_int_mul F.slot_int_rmul repeat_list F.slot_int_index.lookup
  (call_meets F.slot_int_rmul (typeIs_int s k t) F.entry_int_rmul (F.args_int_rmul_2 _ _) (int___rmul___int_list k t l its.toArray n)
   ⟨e,rfl,⟨_,e,rfl⟩,call_meets F.slot_list_mul ⟨_,e,rfl⟩ F.entry_list_mul (F.args_list_mul_2 _ _) (AutoListH.list___mul___list_int_3 l its.toArray n k t hfit hcap hlong) ⟨e,?_⟩⟩)
 rw[hnew]
 exact⟨.ref _,_,I.lnew (t':=s.toks) (r.rep k.toNat) (by rw[Sr,acj];exact hz),rfl,q _ I.fresh⟩
abbrev CMulB(i j:Int):Prop:=CMul i j\/(i.natAbs<2^400/\j.natAbs<2^400)
theorem MN{k:Int}(h:k.natAbs<2^400):Builtin.Int.intBits k<=400:=by
 unfold Builtin.Int.intBits
 split
 ·exact aaw _
 ·have:k.natAbs.log2<400:=by
   rcases acr k.natAbs with h0|hp
   ·rw[h0];decide
   ·exact(acP (abw hp)).mpr h
  omega
theorem CMulB.ok{i j:Int}(h:CMulB i j):IntMulOk i j:=by
 rcases h with h|⟨h1,h2⟩
 ·exact h.ok
 ·have b1:=MN h1
  have b2:=MN h2
  have:Builtin.Int.intTooBig (Builtin.Int.intBits i+Builtin.Int.intBits j)=false:=by
   unfold Builtin.Int.intTooBig bitsLine
   exact decide_eq_false (by omega)
  unfold IntMulOk
  rw[this]
  simp
theorem SI:OpR X (binaryOp .Mult) (rI CMulB fun i j=>.int (i*j)):=opI fun _ _ _ _ _ _ _ hc q=>mul_int q hc.ok
abbrev Vx:B2->R2
 |.add=>fun x y H Q=>rI0 (fun i j=>.int (i+j)) x y H Q\/(RM x y H Q\/∃i j,x=.str i/\y=.str j/\i.length+j.length<=sizeLine/\Q (.str (i++j)) H)
 |.sub=>rI0 fun i j=>.int (i-j)
 |.mul=>fun x y H Q=>rI CMulB (fun i j=>.int (i*j)) x y H Q\/RN x y H Q
 |.fdiv=>rI RP fun i j=>.int (i/j)
 |.mod=>rI (fun _ j=>0<j) fun i j=>.int (i%j)
 |.pow=>rI U1 fun i j=>.int (i^j.toNat)
theorem SJ:∀o:B2,OpR X (binaryOp (NL o)) (Vx o)
 |.add=>U2.or (SG.or Nv)
 |.sub=>U3
 |.mul=>SI.or SH
 |.fdiv=>QF
 |.mod=>U4
 |.pow=>U5
theorem Rs.elems{B:Addr->Prop}{H H1:Hp}{j k:Nat}{a:Addr}{ts:List T}(r:Rs p B H H1 j k (.lst a ts))(hj:j<=1):∀b∈T.rests ts 0,H b=none\/B b:=fun b m=>by
 refine r.src b (T.rest_le _ hj (j':=1) ?_)
 exact m
theorem DN{B:Addr->Prop}{H H1:Hp}{a:Addr}{ts:List T}(s:Same H H1)(ok:T.Oks p H1 ts)(src:∀b∈T.rests ts 0,H b=none\/B b)(hn:H1 a=none):Rs p B H (L2.upd H1 a (.lst (ts.map T.val))) 0 1 (.lst a ts):=by
 have:=O9 (j:=0) (k:=0) (p:=p) (B:=B) (H:=H) (a:=a) (ts:=ts) ⟨s,ok,src,by rw[T.adrs_zero];simp,T.nds_zero ts⟩ hn
 exact this
theorem MO{t:T}{f:Int->Res D}{Q:Res D->Prop}(hb:¬Q .bad)(h:Q (EE t.dat f)):∃i,t=.int i/\Q (f i):=by
 cases t with
 |int i=>exact⟨i,rfl,h⟩
 |_=>exact absurd h hb
theorem CT{t u:T}{f:Int->Int->Res D}{Q:Res D->Prop}(hb:¬Q .bad)(h:Q (Ce t.dat u.dat f)):∃i j,t=.int i/\u=.int j/\Q (f i j):=by
 obtain⟨i,rfl,h⟩:=MO (t:=t) hb h
 obtain⟨j,rfl,h⟩:=MO (t:=u) hb h
 exact⟨i,j,rfl,rfl,h⟩
theorem SK{t u:T}{Q:Res D->Prop}(hb:¬Q .bad)(h:Q (NJ t.dat u.dat)):(∃i j,t=.int i/\u=.int j/\Q (.ok (.int (i+j))))\/(∃x y,t=.str x/\u=.str y/\Q (NJ (.str x) (.str y)))\/∃a ts b us,t=.lst a ts/\u=.lst b us/\Q (NJ (.lst (T.dats ts)) (.lst (T.dats us))):=by
 cases t with
 |int i=>
  cases u with
  |int j=>exact .inl ⟨i,j,rfl,rfl,h⟩
  |_=>exact absurd h hb
 |str x=>
  cases u with
  |str y=>exact .inr (.inl ⟨x,y,rfl,rfl,h⟩)
  |_=>exact absurd h hb
 |lst a ts=>
  cases u with
  |lst b us=>exact .inr (.inr ⟨a,ts,b,us,rfl,rfl,h⟩)
  |_=>exact absurd h hb
 |_=>exact absurd h hb
theorem SL{t u:T}{Q:Res D->Prop}(hb:¬Q .bad)(h:Q (K3 t.dat u.dat)):(∃i j,t=.int i/\u=.int j/\Q (K3 (.int i) (.int j)))\/∃a ts k,t=.lst a ts/\u=.int k/\Q (K3 (.lst (T.dats ts)) (.int k)):=by
 cases t with
 |int i=>
  cases u with
  |int j=>exact .inl ⟨i,j,rfl,rfl,h⟩
  |_=>exact absurd h hb
 |lst a ts=>
  cases u with
  |int k=>exact .inr ⟨a,ts,k,rfl,rfl,h⟩
  |_=>exact absurd h hb
 |_=>exact absurd h hb
theorem WU{B:Addr->Prop}{H H2:Hp}{ja jb ka kb:Nat}{t u:T}{o:B2}{σ:St}{Q:VK}(r:Rs p B H H2 ja ka t)(r':Rs p B H H2 jb kb u)(ha:ja<=1)(hb:jb<=1)(h:Lg p EX σ (b2 o t.dat u.dat) H (KE p B H 0 1 Q)):Vx o t.val u.val H2 Q:=by
 have sc:∀w:T,w.sc=true->Rs p B H H2 0 1 w:=fun w hw=>Rs.scal r.same hw
 cases o with
 |add=>
  rcases SK (Q:=fun r=>Lg p EX σ r H _) id h with⟨i,j,rfl,rfl,h⟩|⟨x,y,rfl,rfl,h⟩|⟨a,ts,b,us,rfl,rfl,h⟩
  ·exact .inl ⟨_,_,rfl,rfl,h (.int _) H2 rfl (sc _ rfl)⟩
  ·obtain⟨hl,h⟩:=h.guard
   exact .inr (.inr ⟨_,_,rfl,rfl,hl,h (.str _) H2 rfl (sc _ rfl)⟩)
  ·skip
   obtain⟨hl,h⟩:=h.guard
   ·refine .inr (.inl ⟨a,b,_,_,rfl,rfl,r.ok.1,r'.ok.1,?_,fun q hq=>?_⟩)
    ·rw[aab,aab,<- Ag,<- Ag];exact hl
    ·rw[<- aaq]
     refine h (.lst q (ts++us)) _ (by simp[T.dat,T.dats_map]) (DN r.same (T.oks_iff.mpr fun w hw=>?_) (fun c m=>?_) hq)
     ·rcases aag.mp hw with hw|hw
      ·exact T.oks_iff.mp r.ok.2 w hw
      ·exact T.oks_iff.mp r'.ok.2 w hw
     ·rw[T.rests_append,aag]at m
      rcases m with m|m
      ·exact r.elems ha c m
      ·exact r'.elems hb c m
 |sub=>
  obtain⟨i,j,rfl,rfl,h⟩:=CT (Q:=fun r=>Lg p EX σ r H _) id h
  exact⟨_,_,rfl,rfl,h (.int _) H2 rfl (sc _ rfl)⟩
 |mul=>
  rcases SL (Q:=fun r=>Lg p EX σ r H _) id h with⟨i,j,rfl,rfl,h⟩|⟨a,ts,k,rfl,rfl,h⟩
  ·by_cases c:(-(2^64)<i/\i<2^64)\/(-(2^64)<j/\j<2^64)
   ·have h:Lg p EX σ (if(-(2^64)<i/\i<2^64)\/(-(2^64)<j/\j<2^64) then Res.ok (D.int (i*j)) else if i.natAbs<2^400/\j.natAbs<2^400 then .ok (.int (i*j)) else .bad) H _:=h
    rw[if_pos c]at h
    exact .inl ⟨_,_,rfl,rfl,.inl c,h (.int _) H2 rfl (sc _ rfl)⟩
   ·have h:Lg p EX σ (if(-(2^64)<i/\i<2^64)\/(-(2^64)<j/\j<2^64) then Res.ok (D.int (i*j)) else if i.natAbs<2^400/\j.natAbs<2^400 then .ok (.int (i*j)) else .bad) H _:=h
    rw[if_neg c]at h
    obtain⟨hl,h⟩:=h.guard
    exact .inl ⟨_,_,rfl,rfl,.inr hl,h (.int _) H2 rfl (sc _ rfl)⟩
  ·skip
   obtain⟨⟨h1,h2,h3⟩,h⟩:=h.guard
   ·refine .inr ⟨a,k,_,rfl,rfl,r.ok.1,h1,h2,?_,fun q hq=>?_⟩
    ·rw[aab,<- Ag];exact h3
    ·have e:(aam k.toNat (ts.map T.val)).flatten=(aam k.toNat ts).flatten.map T.val:=by
      rw[List.map_flatten,abm]
     rw[e]
     refine h (.lst q (aam k.toNat ts).flatten) _ ?_ (DN r.same (T.oks_iff.mpr fun w hw=>?_) (fun c m=>?_) hq)
     ·rw[T.dat,T.dats_map,T.dats_map,List.map_flatten,abm]
     ·obtain⟨l,hl,hw⟩:=List.mem_flatten.mp hw
      rw[(ab3.mp hl).2]at hw
      exact T.oks_iff.mp r.ok.2 w hw
     ·obtain⟨w,hw,m⟩:=T.mem_rests.mp m
      obtain⟨l,hl,hw⟩:=List.mem_flatten.mp hw
      rw[(ab3.mp hl).2]at hw
      exact r.elems ha c (T.mem_rests.mpr ⟨w,hw,m⟩)
 |fdiv=>
  obtain⟨i,j,rfl,rfl,h⟩:=CT (Q:=fun r=>Lg p EX σ r H _) id h
  obtain⟨hl,h⟩:=h.guard
  exact⟨_,_,rfl,rfl,hl,h (.int _) H2 rfl (sc _ rfl)⟩
 |mod=>
  obtain⟨i,j,rfl,rfl,h⟩:=CT (Q:=fun r=>Lg p EX σ r H _) id h
  obtain⟨hl,h⟩:=h.guard
  exact⟨_,_,rfl,rfl,hl,h (.int _) H2 rfl (sc _ rfl)⟩
 |pow=>
  obtain⟨i,j,rfl,rfl,h⟩:=CT (Q:=fun r=>Lg p EX σ r H _) id h
  obtain⟨hl,h⟩:=h.guard
  exact⟨_,_,rfl,rfl,hl,h (.int _) H2 rfl (sc _ rfl)⟩
theorem SM{a b:Expr}{x y:E}{o:B2}(ha:PE X a (lE p EX tn x))(hb:PE X b (lE p EX tn y)):PE X (.BinOp a (NL o) b pos) (lE p EX tn (.bin o x y)):=by
 refine PE.mono (WH (SJ o) ha hb) fun σ H Q h=>?_
 obtain⟨τ,rfl,hF,j,k,hj,h⟩:=h
 simp only[jk]at hj
 obtain⟨⟨j1,k1⟩,h1,hj⟩:=bS hj
 obtain⟨⟨j2,k2⟩,h2,hj⟩:=bS hj
 obtain⟨hc,e⟩:=CS hj
 cases e
 simp only[aaf,decide_eq_true_eq]at hc
 simp only[ev]at h
 refine l1 hF h1 h fun d t H1 ht R h=>l2 hF R.same h2 h fun d' t' H2 ht' R' h=>?_
 subst ht ht'
 exact WU (R.fwd R'.same) (R'.back R.same) hc.1 hc.2 h
end
mutual
noncomputable def D.py:D->PyData
 |.non=>.none
 |.bl b=>.bool b
 |.int i=>.int i
 |.str x=>.str x
 |.tup ds=>.tuple (D.pys ds)
 |.lst ds=>.list (D.pys ds)
 |.exn _=>.none
 |.dic _ _=>.none
 |.dit _ _=>.none
noncomputable def D.pys:List D->List PyData
 |[]=>[]
 |d::r=>d.py::D.pys r
end
theorem D.ind{P:D->Prop}(h0:P .non)(h1:∀b,P (.bl b))(h2:∀i,P (.int i))(h3:∀x,P (.str x))(h4:∀ts,(∀t∈ts,P t)->P (.tup ts))(h5:∀ts,(∀t∈ts,P t)->P (.lst ts))(h6:∀c,P (.exn c))(h7:∀ks ts,P (.dic ks ts))(h8:∀ks ts,P (.dit ks ts)):∀t,P t
 |.non=>h0
 |.bl b=>h1 b
 |.int i=>h2 i
 |.str x=>h3 x
 |.tup ts=>h4 ts fun t h=>D.ind h0 h1 h2 h3 h4 h5 h6 h7 h8 t
 |.lst ts=>h5 ts fun t h=>D.ind h0 h1 h2 h3 h4 h5 h6 h7 h8 t
 |.exn c=>h6 c
 |.dic ks ts=>h7 ks ts
 |.dit ks ts=>h8 ks ts
termination_by t=>t
theorem BI{n c:Nat}:D.shp n (.exn c)=false:=by cases n<;>rfl
theorem BJ{n:Nat}{ks:List (Sum Int Str)}{ds:List D}:D.shp n (.dic ks ds)=false:=by cases n<;>rfl
theorem BK{n:Nat}{ks:List (List (Sum Int Str))}{ds:List D}:D.shp n (.dit ks ds)=false:=by cases n<;>rfl
theorem E6{n:Nat}{ds:List D}(h:D.shp n (.tup ds)=true):∃m,n=m+1/\∀d∈ds,D.shp m d=true:=by
 cases n with
 |zero=>cases h
 |succ m=>exact⟨m,rfl,by simpa[D.shp] using h⟩
theorem E7{n:Nat}{ds:List D}(h:D.shp n (.lst ds)=true):∃m,n=m+1/\∀d∈ds,D.shp m d=true:=by
 cases n with
 |zero=>cases h
 |succ m=>exact⟨m,rfl,by simpa[D.shp] using h⟩
theorem K4:∀(d e:D)(n m:Nat),d.shp n=true->e.shp m=true->d.eqv e=d.py.eqv e.py:=by
 have lists:∀(ds:List D),(∀d∈ds,∀(e:D)(n m:Nat),d.shp n=true->e.shp m=true->d.eqv e=d.py.eqv e.py)->∀(es:List D)(n m:Nat),(∀d∈ds,d.shp n=true)->(∀e∈es,e.shp m=true)->D.eqvs ds es=PyData.eqvAll (D.pys ds) (D.pys es):=by
  intro ds
  induction ds with
  |nil=>intro _ es n m _ _;cases es<;>simp[D.eqvs,D.pys,PyData.eqvAll]
  |cons d r ih=>
   intro h es n m h1 h2
   cases es with
   |nil=>simp[D.eqvs,D.pys,PyData.eqvAll]
   |cons e s=>
    simp only[D.eqvs,D.pys,PyData.eqvAll]
    rw[h d (aac ..) e n m (h1 d (aac ..)) (h2 e (aac ..)),ih (fun x hx=>h x (aaa _ hx)) s n m (fun x hx=>h1 x (aaa _ hx)) (fun x hx=>h2 x (aaa _ hx))]
 refine D.ind ?_ ?_ ?_ ?_ ?_ ?_ ?_ ?_ ?_
 ·intro e n m _ h;cases e<;>simp[D.eqv,D.py,PyData.eqv,BI,BJ,BK]at h ⊢
 ·intro b e n m _ h;cases e<;>simp[D.eqv,D.py,PyData.eqv,BI,BJ,BK]at h ⊢
 ·intro b e n m _ h;cases e<;>simp[D.eqv,D.py,PyData.eqv,BI,BJ,BK]at h ⊢
 ·intro b e n m _ h;cases e<;>simp[D.eqv,D.py,PyData.eqv,BI,BJ,BK]at h ⊢
 ·intro ds ih e n m h1 h2
  cases e with
  |tup es=>
   obtain⟨n',_,h1⟩:=E6 h1
   obtain⟨m',_,h2⟩:=E6 h2
   simp only[D.eqv,D.py,PyData.eqv]
   exact lists ds ih es n' m' h1 h2
  |exn c=>rw[BI]at h2;cases h2
  |dic ks cs=>rw[BJ]at h2;cases h2
  |dit ks cs=>rw[BK]at h2;cases h2
  |_=>simp[D.eqv,D.py,PyData.eqv]
 ·intro ds ih e n m h1 h2
  cases e with
  |lst es=>
   obtain⟨n',_,h1⟩:=E7 h1
   obtain⟨m',_,h2⟩:=E7 h2
   simp only[D.eqv,D.py,PyData.eqv]
   exact lists ds ih es n' m' h1 h2
  |exn c=>rw[BI]at h2;cases h2
  |dic ks cs=>rw[BJ]at h2;cases h2
  |dit ks cs=>rw[BK]at h2;cases h2
  |_=>simp[D.eqv,D.py,PyData.eqv]
 ·intro c e n m h;rw[BI]at h;cases h
 ·intro ks cs e n m h;rw[BJ]at h;cases h
 ·intro ks cs e n m h;rw[BK]at h;cases h
theorem Jt:∀(d:D)(n:Nat),d.shp n=true->d.py.canLay0=true/\d.py.depth<=n:=by
 have lists:∀(ds:List D),(∀d∈ds,∀(n:Nat),d.shp n=true->d.py.canLay0=true/\d.py.depth<=n)->∀n,(∀d∈ds,d.shp n=true)->PyData.canLayAll0 (D.pys ds)=true/\PyData.depthAll (D.pys ds)<=n:=by
  intro ds
  induction ds with
  |nil=>intro _ n _;simp[D.pys,PyData.canLayAll0,PyData.depthAll]
  |cons d r ih=>
   intro h n h1
   obtain⟨a1,a2⟩:=h d (aac ..) n (h1 d (aac ..))
   obtain⟨b1,b2⟩:=ih (fun x hx=>h x (aaa _ hx)) n (fun x hx=>h1 x (aaa _ hx))
   simp only[D.pys,PyData.canLayAll0,PyData.depthAll,a1,b1,abB,true_and]
   omega
 refine D.ind ?_ ?_ ?_ ?_ ?_ ?_ ?_ ?_ ?_
 ·intro n h;simp[D.py,PyData.canLay0,PyData.depth]
 ·intro b n h;simp[D.py,PyData.canLay0,PyData.depth]
 ·intro b n h;simp[D.py,PyData.canLay0,PyData.depth]
 ·intro x n h
  simp only[D.py,PyData.canLay0,PyData.depth,aaw,and_true]
  cases n<;>exact h
 ·intro ds ih n h
  obtain⟨m,rfl,h'⟩:=E6 h
  have:=lists ds ih m h'
  simp only[D.py,PyData.canLay0,PyData.depth]
  exact⟨this.1,by omega⟩
 ·intro ds ih n h
  obtain⟨m,rfl,h'⟩:=E7 h
  have:=lists ds ih m h'
  simp only[D.py,PyData.canLay0,PyData.depth]
  exact⟨this.1,by omega⟩
 ·intro c n h;rw[BI]at h;cases h
 ·intro ks cs n h;rw[BJ]at h;cases h
 ·intro ks cs n h;rw[BK]at h;cases h
theorem Fo{d:D}(h:d.shp 8=true):SeqAt.shaped d.py=true:=by
 obtain⟨h1,h2⟩:=Jt d 8 h
 unfold SeqAt.shaped
 rw[h1,acx]
 exact decide_eq_true (by omega)
theorem FY{p:Px}{H:Hp}:∀(t:T)(n:Nat),t.Ok p H->t.dat.shp n=true->RD p.K H t.val t.dat.py:=by
 have lists:∀(ts:List T),(∀t∈ts,∀n,t.Ok p H->t.dat.shp n=true->RD p.K H t.val t.dat.py)->∀n,T.Oks p H ts->(∀d∈T.dats ts,d.shp n=true)->RDs p.K H (ts.map T.val) (D.pys (T.dats ts)):=by
  intro ts
  induction ts with
  |nil=>intro _ _ _ _;exact .nil
  |cons t r ih=>
   intro h n ok hs
   exact .cons (h t (aac ..) n ok.1 (hs _ (by simp[T.dats]))) (ih (fun u hu=>h u (aaa _ hu)) n ok.2 (fun d hd=>hs d (by simp[T.dats,hd])))
 refine T.ind (fun _ _ _=>.non) (fun b _ _ _=>.bl b) (fun i _ _ _=>.int i) (fun x _ _ _=>.str x) (fun a ts ih n ok h=>?_) (fun a ts ih n ok h=>?_) (fun a c n ok h=>?_) (fun a ks ts _ n ok h=>by rw[T.dat,BJ]at h;cases h) (fun a ks ts _ n ok h=>by rw[T.dat,BK]at h;cases h)
 ·obtain⟨m,rfl,h'⟩:=E6 h
  exact .tup (SqT.of ok.1) (lists ts ih m ok.2 h')
 ·obtain⟨m,rfl,h'⟩:=E7 h
  exact .lst (.inl ok.1) (lists ts ih m ok.2 h')
 ·rw[T.dat,BI]at h;cases h
theorem NM{H:Hp}{a:Addr}{xs ys:List V}(h:Rd H a (.lst xs))(h':Rd H a (.lst ys)):xs=ys:=by
 rcases h with h|⟨o,h⟩<;>rcases h' with h'|⟨o',h'⟩<;>rw[h]at h'<;>cases h'<;>rfl
theorem T.det{p:Px}{H:Hp}:∀(t u:T)(n m:Nat),t.Ok p H->u.Ok p H->t.dat.shp n=true->u.dat.shp m=true->t.val=u.val->t.dat=u.dat:=by
 have lists:∀(ts:List T),(∀t∈ts,∀(u:T)(n m:Nat),t.Ok p H->u.Ok p H->t.dat.shp n=true->u.dat.shp m=true->t.val=u.val->t.dat=u.dat)->∀(us:List T)(n m:Nat),T.Oks p H ts->T.Oks p H us->
   (∀d∈T.dats ts,d.shp n=true)->(∀d∈T.dats us,d.shp m=true)->ts.map T.val=us.map T.val->T.dats ts=T.dats us:=by
  intro ts
  induction ts with
  |nil=>intro _ us n m _ _ _ _ e;cases us with|nil=>rfl|cons u r=>simp at e
  |cons t r ih=>
   intro h us n m o1 o2 s1 s2 e
   cases us with
   |nil=>simp at e
   |cons u q=>
    simp only[aaI,List.cons.injEq]at e
    simp only[T.dats,List.cons.injEq]
    exact⟨h t (aac ..) u n m o1.1 o2.1 (s1 _ (by simp[T.dats])) (s2 _ (by simp[T.dats])) e.1,ih (fun x hx=>h x (aaa _ hx)) q n m o1.2 o2.2 (fun d hd=>s1 d (by simp[T.dats,hd])) (fun d hd=>s2 d (by simp[T.dats,hd])) e.2⟩
 refine T.ind ?_ ?_ ?_ ?_ ?_ ?_ ?_ ?_ ?_
 ·intro u n m _ _ _ _ e;cases u<;>first|rfl|cases e
 ·intro b u n m _ _ _ _ e;cases u<;>first|(cases e;rfl)|cases e
 ·intro b u n m _ _ _ _ e;cases u<;>first|(cases e;rfl)|cases e
 ·intro b u n m _ _ _ _ e;cases u<;>first|(cases e;rfl)|cases e
 ·intro a ts ih u n m o1 o2 s1 s2 e
  cases u with
  |tup b us=>
   cases e
   obtain⟨n',_,s1⟩:=E6 s1
   obtain⟨m',_,s2⟩:=E6 s2
   have q:=o1.1.symm.trans o2.1
   simp only[Option.some.injEq,HO.tup.injEq]at q
   simp only[T.dat,lists ts ih us n' m' o1.2 o2.2 s1 s2 q]
  |lst b us=>
   cases e
   have h1:=o1.1
   rcases o2.1 with h|⟨_,h⟩<;>rw[h]at h1<;>cases h1
  |exn b c=>rw[T.dat,BI]at s2;cases s2
  |dic b ks cs=>rw[T.dat,BJ]at s2;cases s2
  |dit b ks cs=>rw[T.dat,BK]at s2;cases s2
  |_=>cases e
 ·intro a ts ih u n m o1 o2 s1 s2 e
  cases u with
  |tup b us=>
   cases e
   have h1:=o2.1
   rcases o1.1 with h|⟨_,h⟩<;>rw[h]at h1<;>cases h1
  |lst b us=>
   cases e
   obtain⟨n',_,s1⟩:=E7 s1
   obtain⟨m',_,s2⟩:=E7 s2
   have q:=NM o1.1 o2.1
   simp only[T.dat,lists ts ih us n' m' o1.2 o2.2 s1 s2 q]
  |exn b c=>rw[T.dat,BI]at s2;cases s2
  |dic b ks cs=>rw[T.dat,BJ]at s2;cases s2
  |dit b ks cs=>rw[T.dat,BK]at s2;cases s2
  |_=>cases e
 ·intro a c u n m _ _ h;rw[T.dat,BI]at h;cases h
 ·intro a ks ts _ u n m _ _ h;rw[T.dat,BJ]at h;cases h
 ·intro a ks ts _ u n m _ _ h;rw[T.dat,BK]at h;cases h
section
variable{p:Px}{EX:EXT}{tn:List Nat}{X:Cx}{pos:Pos}
theorem Hc(hK:X.K=p.K){pins:List (Addr×Obj)}{σ:St}{H:Hp}{s:Shared}{A:Around}(I:Inv X pins σ H s){t u:T}{x y:Value}(hu:A.units+60<cLine)(o1:t.Ok p H)(o2:u.Ok p H)(s1:t.dat.shp 8=true)(s2:u.dat.shp 8=true)(r1:RelV t.val x)(r2:RelV u.val y) :
  SeqAt.EqAt A s x y (t.dat.eqv u.dat):=by
 intro prog w E Q hQ
 obtain⟨as,q1⟩:=RD.reads (X:=X) I (hK▸FY t 8 o1 s1) r1
 obtain⟨bs,q2⟩:=RD.reads (X:=X) I (hK▸FY u 8 o2 s2) r2
 obtain⟨c1,d1⟩:=Jt _ 8 s1
 obtain⟨c2,d2⟩:=Jt _ 8 s2
 refine PySem.SeqAt.eqBoolOverData prog w A E s x y _ _ as bs Q q1 q2 c1 c2 (by omega) ?_
 rw[<- K4 _ _ 8 8 s1 s2]
 exact hQ
abbrev eqS(us:List T)(t:T)(y:Value):Bool:=@decide (∃u∈us,RelV u.val y/\u.dat.eqv t.dat=true) (Classical.propDecidable _)
theorem GD{H:Hp}{us:List T}{t u:T}{y:Value}(ok:T.Oks p H us)(sh:∀w∈us,w.dat.shp 8=true)(hu:u∈us)(r:RelV u.val y):eqS us t y=u.dat.eqv t.dat:=by
 unfold eqS
 cases e:u.dat.eqv t.dat with
 |true=>exact @decide_eq_true _ (Classical.propDecidable _) ⟨u,hu,r,e⟩
 |false=>
  refine @decide_eq_false _ (Classical.propDecidable _) ?_
  rintro⟨w,hw,r',e'⟩
  rw[T.det w u 8 8 (T.oks_iff.mp ok w hw) (T.oks_iff.mp ok u hu) (sh w hw) (sh u hu) (RelV.inj r' r)]at e'
  rw[e]at e';cases e'
theorem FL{H:Hp}{us:List T}{t:T}(ok:T.Oks p H us)(sh:∀w∈us,w.dat.shp 8=true):∀(ws:List T)(ys:List Value),(∀w∈ws,w∈us)->Vals (ws.map T.val) ys->ys.any (eqS us t)=ws.any fun w=>w.dat.eqv t.dat
 |[],_,_,.nil=>rfl
 |w::ws,_,h,.cons r q=>by
  rw[abM,abM,GD ok sh (h w (aac ..)) r,FL ok sh ws _ (fun x hx=>h x (aaa _ hx)) q]
theorem Fd:∀{ws:List T}{ys:List Value}{y:Value},Vals (ws.map T.val) ys->y∈ys->∃w∈ws,RelV w.val y
 |[],_,y,.nil,h=>nomatch h
 |w::ws,_,y,.cons r q,h=>by
  rcases aak.mp h with rfl|h
  ·exact⟨w,aac ..,r⟩
  ·obtain⟨w',hw,r'⟩:=Fd q h
   exact⟨w',aaa _ hw,r'⟩
abbrev NN(p:Px)(neg:Bool):R2:=fun x y H Q=>∃(t:T)(a:Addr)(us:List T),x=t.val/\y=.ref a/\(Rd H a (.lst (us.map T.val))\/H a=some (.tup (us.map T.val)))/\T.Oks p H us/\t.Ok p H/\t.dat.shp 8=true/\(∀w∈us,w.dat.shp 8=true) /\
 Q (.bl (if neg then !(us.any fun w=>w.dat.eqv t.dat) else us.any fun w=>w.dat.eqv t.dat)) H
theorem Vy(hK:X.K=p.K)(hu:X.A.units+64<cLine):OpR X (compareOp .In) (NN p false):=by
 intro pins s σ H x y v u Q I rx ry h
 obtain⟨t,a,us,rfl,rfl,hq,ok,o1,s1,s2,q⟩:=h
 cases ry
 rcases hq with hq|hq
 ·obtain⟨its,r,pl,hz⟩:=I.list (.inl hq)
  refine SeqAt.in_listAt (eqS us t) pl.isList (fun w hw=>?_) ⟨.bl _,H,I,rfl,?_⟩
  ·obtain⟨w',hw',r'⟩:=Fd r (by simpa using hw)
   rw[GD ok s2 hw' r']
   exact Hc hK I (by show X.A.units+1+60<cLine;omega) (T.oks_iff.mp ok w' hw') o1 (s2 w' hw') s1 r' rx
  ·rw[show its.toArray.any (eqS us t)=its.any (eqS us t) by simp,FL ok s2 us its (fun _ h=>h) r]
   exact q
 ·obtain⟨its,r,pl,hz⟩:=I.tuple (SqT.of hq)
  refine SeqAt.in_tupleAt (eqS us t) pl (fun w hw=>?_) ⟨.bl _,H,I,rfl,?_⟩
  ·obtain⟨w',hw',r'⟩:=Fd r (by simpa using hw)
   rw[GD ok s2 hw' r']
   exact Hc hK I (by show X.A.units+1+60<cLine;omega) (T.oks_iff.mp ok w' hw') o1 (s2 w' hw') s1 r' rx
  ·rw[show its.toArray.any (eqS us t)=its.any (eqS us t) by simp,FL ok s2 us its (fun _ h=>h) r]
   exact q
theorem Pa(hK:X.K=p.K)(hu:X.A.units+64<cLine):OpR X (compareOp .NotIn) (NN p true):=by
 intro pins s σ H x y v u Q I rx ry h
 obtain⟨t,a,us,rfl,rfl,hq,ok,o1,s1,s2,q⟩:=h
 cases ry
 rcases hq with hq|hq
 ·obtain⟨its,r,pl,hz⟩:=I.list (.inl hq)
  refine SeqAt.notIn_listAt (eqS us t) pl.isList (fun w hw=>?_) ⟨.bl _,H,I,rfl,?_⟩
  ·obtain⟨w',hw',r'⟩:=Fd r (by simpa using hw)
   rw[GD ok s2 hw' r']
   exact Hc hK I (by show X.A.units+1+60<cLine;omega) (T.oks_iff.mp ok w' hw') o1 (s2 w' hw') s1 r' rx
  ·rw[show its.toArray.any (eqS us t)=its.any (eqS us t) by simp,FL ok s2 us its (fun _ h=>h) r]
   exact q
 ·obtain⟨its,r,pl,hz⟩:=I.tuple (SqT.of hq)
  refine SeqAt.notIn_tupleAt (eqS us t) pl (fun w hw=>?_) ⟨.bl _,H,I,rfl,?_⟩
  ·obtain⟨w',hw',r'⟩:=Fd r (by simpa using hw)
   rw[GD ok s2 hw' r']
   exact Hc hK I (by show X.A.units+1+60<cLine;omega) (T.oks_iff.mp ok w' hw') o1 (s2 w' hw') s1 r' rx
  ·rw[show its.toArray.any (eqS us t)=its.any (eqS us t) by simp,FL ok s2 us its (fun _ h=>h) r]
   exact q
end
section
variable{p:Px}{EX:EXT}{tn:List Nat}{X:Cx}{pos:Pos}
abbrev By:C2->CmpOp
 |.lt=>.Lt
 |.le=>.LtE
 |.gt=>.Gt
 |.ge=>.GtE
 |.eq=>.Eq
 |.ne=>.NotEq
 |.inn=>.In
 |.nin=>.NotIn
abbrev Vz(p:Px)(neg:Bool):R2:=fun x y H Q=>∃t u:T,x=t.val/\y=u.val/\t.Ok p H/\u.Ok p H/\t.dat.shp 8=true/\u.dat.shp 8=true/\Q (.bl (if neg then !t.dat.eqv u.dat else t.dat.eqv u.dat)) H
abbrev K5(p:Px):C2->R2
 |.lt=>rI0 fun i j=>.bl (decide (i<j))
 |.le=>rI0 fun i j=>.bl (decide (i<=j))
 |.gt=>rI0 fun i j=>.bl (decide (j<i))
 |.ge=>rI0 fun i j=>.bl (decide (j<=i))
 |.eq=>Vz p false
 |.ne=>Vz p true
 |.inn=>NN p false
 |.nin=>NN p true
theorem D4(hK:X.K=p.K)(hu:X.A.units+64<cLine):∀o:C2,OpR X (compareOp (By o)) (K5 p o)
 |.lt=>WJ
 |.le=>WK
 |.gt=>WL
 |.ge=>WM
 |.eq=>by
  intro pins s σ H x y v u Q I rx ry h
  obtain⟨t,w,rfl,rfl,o1,o2,s1,s2,q⟩:=h
  refine Vl hu pins s σ H _ _ v u Q I rx ry ⟨_,_,hK▸FY t 8 o1 s1,hK▸FY w 8 o2 s2,Fo s1,Fo s2,?_⟩
  rw[<- K4 _ _ 8 8 s1 s2];exact q
 |.ne=>by
  intro pins s σ H x y v u Q I rx ry h
  obtain⟨t,w,rfl,rfl,o1,o2,s1,s2,q⟩:=h
  refine Vm hu pins s σ H _ _ v u Q I rx ry ⟨_,_,hK▸FY t 8 o1 s1,hK▸FY w 8 o2 s2,Fo s1,Fo s2,?_⟩
  rw[<- K4 _ _ 8 8 s1 s2];exact q
 |.inn=>Vy hK hu
 |.nin=>Pa hK hu
theorem K6{t:T}:∀us:List T,((T.dats us).any fun y=>D.eqv y t.dat)=us.any fun w=>w.dat.eqv t.dat
 |[]=>rfl
 |u::r=>by simp[T.dats,K6 r]
theorem AO{f:D->Bool}:∀{us:List T},(T.dats us).all f=true->∀w∈us,f w.dat=true
 |[],_,w,h=>nomatch h
 |u::r,h,w,hw=>by
  simp only[T.dats,aaS,aaf]at h
  rcases aak.mp hw with rfl|hw
  ·exact h.1
  ·exact AO h.2 w hw
theorem Km{β:Type}{t:T}{us:List T}{σ:St}{H:Hp}{f:Bool->Res β}{Kc:β->Prop}(h:Lg p EX σ ((inD t.dat (T.dats us)).bind f) H Kc):t.dat.shp 8=true/\(∀w∈us,w.dat.shp 8=true)/\Lg p EX σ (f (us.any fun w=>w.dat.eqv t.dat)) H Kc:=by
 have h:=h.bind
 unfold inD at h
 obtain⟨hc,h⟩:=h.guard
 rw[aaf]at hc
 rw[K6]at h
 exact⟨hc.1,fun w hw=>AO hc.2 w hw,h⟩
theorem NO{B:Addr->Prop}{H H2:Hp}{ja jb ka kb:Nat}{t u:T}{o:C2}{σ:St}{Kc:D->Prop}{Q:VK}(r:Rs p B H H2 ja ka t)(r':Rs p B H H2 jb kb u)(h:Lg p EX σ (c2 o t.dat u.dat) H Kc)(hQ:∀b,Kc (.bl b)->Q (.bl b) H2):K5 p o t.val u.val H2 Q:=by
 cases o with
 |lt=>
  obtain⟨i,j,rfl,rfl,h⟩:=CT (Q:=fun r=>Lg p EX σ r H Kc) id h
  exact⟨_,_,rfl,rfl,hQ _ h⟩
 |le=>
  obtain⟨i,j,rfl,rfl,h⟩:=CT (Q:=fun r=>Lg p EX σ r H Kc) id h
  exact⟨_,_,rfl,rfl,hQ _ h⟩
 |gt=>
  obtain⟨i,j,rfl,rfl,h⟩:=CT (Q:=fun r=>Lg p EX σ r H Kc) id h
  exact⟨_,_,rfl,rfl,hQ _ h⟩
 |ge=>
  obtain⟨i,j,rfl,rfl,h⟩:=CT (Q:=fun r=>Lg p EX σ r H Kc) id h
  exact⟨_,_,rfl,rfl,hQ _ h⟩
 |eq=>
  simp only[c2]at h
  obtain⟨hc,h⟩:=h.guard
  rw[aaf]at hc
  exact⟨t,u,rfl,rfl,r.ok,r'.ok,hc.1,hc.2,hQ _ h⟩
 |ne=>
  simp only[c2]at h
  obtain⟨hc,h⟩:=h.guard
  rw[aaf]at hc
  exact⟨t,u,rfl,rfl,r.ok,r'.ok,hc.1,hc.2,hQ _ h⟩
 |inn=>
  cases u<;>first|exact nE h|skip
  ·obtain⟨s1,s2,h⟩:=Km h
   exact⟨t,_,_,rfl,rfl,.inr r'.ok.1,r'.ok.2,r.ok,s1,s2,hQ _ h⟩
  ·obtain⟨s1,s2,h⟩:=Km h
   exact⟨t,_,_,rfl,rfl,.inl r'.ok.1,r'.ok.2,r.ok,s1,s2,hQ _ h⟩
 |nin=>
  cases u<;>first|exact nE h|skip
  ·obtain⟨s1,s2,h⟩:=Km h
   exact⟨t,_,_,rfl,rfl,.inr r'.ok.1,r'.ok.2,r.ok,s1,s2,hQ _ h⟩
  ·obtain⟨s1,s2,h⟩:=Km h
   exact⟨t,_,_,rfl,rfl,.inl r'.ok.1,r'.ok.2,r.ok,s1,s2,hQ _ h⟩
theorem KE.bl{B:Addr->Prop}{H H2:Hp}{j k:Nat}{Q:VK}{b:Bool}(s:Same H H2)(h:KE p B H j k Q (.bl b)):Q (.bl b) H2:=h (.bl b) H2 rfl (Rs.scal s rfl)
theorem VA{x y:E}{o:C2}{τ:Ft}{H:Hp}{Kc:D->Prop}{Q:VK}{j1 k1 j2 k2:Nat}(hF:Fok p tn τ H)(h1:jk tn x=some (j1,k1))(h2:jk tn y=some (j2,k2))
  (h:Lg p EX (vτ τ) ((ev x (dτ τ)).bind fun a=>(ev y (dτ τ)).bind fun b=>c2 o a b) H Kc) (hQ:∀b H2,Same H H2->Kc (.bl b)->Q (.bl b) H2):tOp (K5 p o) (lE p EX tn x) (lE p EX tn y) (vτ τ) H Q:=by
 refine l1 hF h1 h fun d t H1 ht R h=>l2 hF R.same h2 h fun d' t' H2 ht' R' h=>?_
 subst ht ht'
 exact NO (R.fwd R'.same) (R'.back R.same) h fun b hb=>hQ b H2 (R.same.trans R'.same) hb
theorem SN(hK:X.K=p.K)(hu:X.A.units+64<cLine){a b:Expr}{x y:E}{o:C2}(ha:PE X a (lE p EX tn x))(hb:PE X b (lE p EX tn y))(hm:behindInMarks (By o) b=false):PE X (.Compare a [By o] [b] pos) (lE p EX tn (.cmp o x y)):=by
 refine PE.mono (Sj (D4 hK hu o) ha hb hm) fun σ H Q h=>?_
 obtain⟨τ,rfl,hF,j,k,hj,h⟩:=h
 simp only[jk]at hj
 obtain⟨⟨j1,k1⟩,h1,hj⟩:=bS hj
 obtain⟨⟨j2,k2⟩,h2,hj⟩:=bS hj
 simp only[ev]at h
 exact VA hF h1 h2 h fun b H2 s hb=>KE.bl s hb
theorem QG(hK:X.K=p.K)(hu:X.A.units+64<cLine){a b:Expr}{x y:E}{o:C2}(ha:PE X a (lE p EX tn x))(hb:PE X b (lE p EX tn y))(hm:behindInMarks (By o) b=false):PT X (.Compare a [By o] [b] pos) (lT p EX tn (.cmp o x y)):=by
 refine PT.mono (MB (D4 hK hu o) ha hb hm) fun σ H Q h=>?_
 obtain⟨τ,rfl,hF,hj,h⟩:=h
 obtain⟨q,hj⟩:=aaN.mp hj
 simp only[jk]at hj
 obtain⟨⟨j1,k1⟩,h1,hj⟩:=bS hj
 obtain⟨⟨j2,k2⟩,h2,hj⟩:=bS hj
 simp only[tv,ev]at h
 exact VA hF h1 h2 h.bind fun b H2 s hb=>⟨b,rfl,hb H2 s⟩
theorem Pb{x y z:E}{o o':C2}{τ:Ft}{H:Hp}{Kc:D->Prop}{Q:VK}{j1 k1 j2 k2 j3 k3:Nat}(hF:Fok p tn τ H)(h1:jk tn x=some (j1,k1))(h2:jk tn y=some (j2,k2))(h3:jk tn z=some (j3,k3))
  (h:Lg p EX (vτ τ) (ev (.chain o o' x y z) (dτ τ)) H Kc) (hQ:∀b H2,Same H H2->Kc (.bl b)->Q (.bl b) H2):KC (K5 p o) (K5 p o') (lE p EX tn x) (lE p EX tn y) (lE p EX tn z) (vτ τ) H Q:=by
 simp only[ev]at h
 refine l1 hF h1 h fun d t H1 ht R h=>l2 hF R.same h2 h fun d' t' H2 ht' R' h=>?_
 subst ht ht'
 refine NO (R.fwd R'.same) (R'.back R.same) h.bind fun b h=>⟨b,rfl,?_⟩
 have s2:=R.same.trans R'.same
 cases b with
 |false=>exact hQ false H2 s2 h
 |true=>
  refine l2 hF s2 h3 h fun d'' t'' H3 ht'' R'' h=>?_
  subst ht''
  exact NO ((R'.back R.same).fwd R''.same) (R''.back s2) h fun b hb=>hQ b H3 (s2.trans R''.same) hb
theorem Pc(hK:X.K=p.K)(hu:X.A.units+64<cLine){a b c:Expr}{x y z:E}{o o':C2}(ha:PE X a (lE p EX tn x))(hb:PE X b (lE p EX tn y))(hc:PE X c (lE p EX tn z))(hm:lastMarks [By o,By o'] [b,c]=false):PE X (.Compare a [By o,By o'] [b,c] pos) (lE p EX tn (.chain o o' x y z)):=by
 refine PE.mono (Qk (D4 hK hu o) (D4 hK hu o') ha hb hc hm) fun σ H Q h=>?_
 obtain⟨τ,rfl,hF,j,k,hj,h⟩:=h
 simp only[jk]at hj
 obtain⟨⟨j1,k1⟩,h1,hj⟩:=bS hj
 obtain⟨⟨j2,k2⟩,h2,hj⟩:=bS hj
 obtain⟨⟨j3,k3⟩,h3,hj⟩:=bS hj
 exact Pb hF h1 h2 h3 h fun b H2 s hb=>KE.bl s hb
theorem NP(hK:X.K=p.K)(hu:X.A.units+64<cLine){a b c:Expr}{x y z:E}{o o':C2}(ha:PE X a (lE p EX tn x))(hb:PE X b (lE p EX tn y))(hc:PE X c (lE p EX tn z))(hm:lastMarks [By o,By o'] [b,c]=false):PT X (.Compare a [By o,By o'] [b,c] pos) (lT p EX tn (.chain o o' x y z)):=by
 refine PT.mono (Ql (D4 hK hu o) (D4 hK hu o') ha hb hc hm) fun σ H Q h=>?_
 obtain⟨τ,rfl,hF,hj,h⟩:=h
 obtain⟨q,hj⟩:=aaN.mp hj
 simp only[jk]at hj
 obtain⟨⟨j1,k1⟩,h1,hj⟩:=bS hj
 obtain⟨⟨j2,k2⟩,h2,hj⟩:=bS hj
 obtain⟨⟨j3,k3⟩,h3,hj⟩:=bS hj
 unfold tv at h
 exact Pb hF h1 h2 h3 h.bind fun b H2 s hb=>⟨b,rfl,hb H2 s⟩
theorem SO{t:T}:decide (t.val=V.non)=(match t.dat with|.non=>true|_=>false):=by
 cases t<;>rfl
theorem VB{x:E}{n:Bool}{τ:Ft}{H:Hp}{Kc:D->Prop}{Q:VK}{j1 k1:Nat}(hF:Fok p tn τ H)(h1:jk tn x=some (j1,k1))(h:Lg p EX (vτ τ) (ev (.isN n x) (dτ τ)) H Kc)(hQ:∀b H2,Same H H2->Kc (.bl b)->Q (.bl b) H2) :
  lE p EX tn x (vτ τ) H fun v H1=>Q (.bl (if n then !decide (v=.non) else decide (v=.non))) H1:=by
 simp only[ev]at h
 refine l1 hF h1 h fun d t H1 ht R h=>?_
 subst ht
 refine hQ _ H1 R.same ?_
 have h:Kc (.bl (match t.dat with|.non=>!n|_=>n)):=h
 rw[SO]
 cases n<;>cases t<;>exact h
theorem SQ{a:Expr}{x:E}{n:Bool}{j pos'}(ha:PE X a (lE p EX tn x)):PE X (.Compare a [if n then .IsNot else .Is] [.Constant .none j pos'] pos) (lE p EX tn (.isN n x)):=by
 have key:∀σ H Q,lE p EX tn (.isN n x) σ H Q->lE p EX tn x σ H fun v H1=>Q (.bl (if n then !decide (v=.non) else decide (v=.non))) H1:=by
  intro σ H Q h
  obtain⟨τ,rfl,hF,j,k,hj,h⟩:=h
  simp only[jk]at hj
  obtain⟨⟨j1,k1⟩,h1,hj⟩:=bS hj
  exact VB hF h1 h fun b H2 s hb=>KE.bl s hb
 cases n with
 |true=>exact PE.mono (Oz (MA ha)) fun σ H Q h=>key σ H Q h
 |false=>exact PE.mono (Oz (Oy ha)) fun σ H Q h=>key σ H Q h
theorem QH{a:Expr}{x:E}{n:Bool}{j pos'}(ha:PE X a (lE p EX tn x)):PT X (.Compare a [if n then .IsNot else .Is] [.Constant .none j pos'] pos) (lT p EX tn (.isN n x)):=by
 have key:∀σ H Q,lT p EX tn (.isN n x) σ H Q->lE p EX tn x σ H fun v H1=>∃c,V.bl (if n then !decide (v=.non) else decide (v=.non))=V.bl c/\Q c H1:=by
  intro σ H Q h
  obtain⟨τ,rfl,hF,hj,h⟩:=h
  obtain⟨q,hj⟩:=aaN.mp hj
  simp only[jk]at hj
  obtain⟨⟨j1,k1⟩,h1,hj⟩:=bS hj
  unfold tv at h
  exact VB (Q:=fun v H1=>∃c,v=V.bl c/\Q c H1) hF h1 h.bind fun b H2 s hb=>⟨b,rfl,hb H2 s⟩
 cases n with
 |true=>exact PT.mono (OA (MA ha)) fun σ H Q h=>key σ H Q h
 |false=>exact PT.mono (OA (Oy ha)) fun σ H Q h=>key σ H Q h
end
section
variable{p:Px}{EX:EXT}{tn:List Nat}{X:Cx}{pos:Pos}
theorem SR{a:Expr}{x:E}(ha:PE X a (lE p EX tn x)):PE X (.UnaryOp .USub a pos) (lE p EX tn (.neg x)):=by
 refine PE.mono (WI U6 ha) fun σ H Q h=>?_
 obtain⟨τ,rfl,hF,j,k,hj,h⟩:=h
 simp only[jk]at hj
 obtain⟨⟨j1,k1⟩,h1,hj⟩:=bS hj
 simp only[ev]at h
 refine l1 hF h1 h fun d t H1 ht R h=>?_
 subst ht
 cases t<;>simp only[T.dat]at h
 all_goals first|exact nE h|exact⟨_,rfl,h (.int _) H1 rfl (Rs.scal R.same rfl)⟩
theorem ST{a:Expr}{x:E}(ha:PE X a (lE p EX tn x)):PE X (.UnaryOp .Not a pos) (lE p EX tn (.not x)):=by
 refine PE.mono (UQ ha) fun σ H Q h=>?_
 obtain⟨τ,rfl,hF,j,k,hj,h⟩:=h
 simp only[jk]at hj
 obtain⟨⟨j1,k1⟩,h1,hj⟩:=bS hj
 simp only[ev]at h
 refine l1 hF h1 h fun d t H1 ht R h=>?_
 subst ht
 cases t<;>simp only[T.dat]at h
 all_goals first|exact nE h|exact⟨_,rfl,h (.bl _) H1 rfl (Rs.scal R.same rfl)⟩
theorem QI{H:Hp}{t:T}{σ:St}{H0:Hp}{Kc:Bool->Prop}(hK:X.K=p.K)(ok:t.Ok p H)(h:Lg p EX σ (B0 t.dat) H0 Kc):∃b,Qm X.K t.val H b/\Kc b:=by
 cases t<;>simp only[T.dat,B0]at h
 ·exact⟨false,rfl,h⟩
 ·exact⟨_,rfl,h⟩
 ·exact⟨_,rfl,h⟩
 ·exact nE h
 ·rename_i a ts
  refine⟨_,.inr (.inl ⟨_,SqT.of ok.1,rfl⟩),?_⟩
  have h:Kc (!(T.dats ts).isEmpty):=h
  cases ts<;>exact h
 ·rename_i a ts
  refine⟨_,.inl ⟨_,.inl ok.1,rfl⟩,?_⟩
  have h:Kc (!(T.dats ts).isEmpty):=h
  cases ts<;>exact h
 ·exact nE h
 ·exact nE h
 ·exact nE h
abbrev K7:Expr->Bool
 |.UnaryOp .Not _ _=>false
 |.BoolOp _ _ _=>false
 |.IfExp _ _ _ _=>false
 |.Compare _ _ _ _=>false
 |_=>true
theorem Pd{a:Expr}{env:Env}(h:K7 a=true):∀whole,isTrue a env whole=(do let v <- whole;standAt a.pos;holding [v] (truthy v)):=by
 intro whole
 cases a with
 |UnaryOp o x q=>cases o<;>first|rfl|cases h
 |BoolOp _ _ _=>cases h
 |IfExp _ _ _ _=>cases h
 |Compare _ _ _ _=>cases h
 |_=>rfl
theorem NQ(hK:X.K=p.K){a:Expr}{x:E}(ha:PE X a (lE p EX tn x))(hp:K7 a=true):PT X a (lT p EX tn x):=by
 refine PT.mono (HI ha (Pd hp)) fun σ H Q h=>?_
 obtain⟨τ,rfl,hF,hj,h⟩:=h
 obtain⟨⟨j,k⟩,hj⟩:=aaN.mp hj
 refine l1 hF hj h fun d t H1 ht R h=>?_
 subst ht
 obtain⟨b,tb,hb⟩:=QI (X:=X) hK R.ok h
 exact⟨b,tb,hb H1 R.same⟩
theorem QJ{a:Expr}{x:E}(ha:PT X a (lT p EX tn x)):PT X (.UnaryOp .Not a pos) (lT p EX tn (.not x)):=by
 refine PT.mono (UM ha) fun σ H Q h=>?_
 obtain⟨τ,rfl,hF,hj,h⟩:=h
 obtain⟨q,hj⟩:=aaN.mp hj
 simp only[jk]at hj
 obtain⟨⟨j1,k1⟩,h1,hj⟩:=bS hj
 refine⟨τ,rfl,hF,by rw[h1];rfl,?_⟩
 unfold tv at h ⊢
 simp only[ev]at h
 cases q:ev x (dτ τ) with
 |ok d=>
  rw[q]at h
  simp only[Res.bind_ok]at h ⊢
  cases d<;>simp only[Res.bind_bad]at h
  all_goals first|exact nE h|exact h
 |exc c=>rw[q]at h;exact h
 |bad=>rw[q]at h;exact h
theorem VC{a:Expr}{x:E}{k0:Bool}(ha:PE X a (lE p EX tn x)):PE X (.BoolOp (if k0 then .And else .Or) [a] pos) (lE p EX tn (.bo k0 (.cons x .nil))):=by
 refine PE.mono (UO ha) fun σ H Q h=>?_
 obtain⟨τ,rfl,hF,j,k,hj,h⟩:=h
 simp only[jk,jks]at hj
 obtain⟨⟨j1,k1⟩,h1,hj⟩:=bS hj
 simp only[ev,evBo]at h
 have hj:=Option.some.inj hj
 refine⟨τ,rfl,hF,j1,k1,h1,h.mono (Same.refl _) fun d _ hd t H' ht R=>hd t H' ht (R.le ?_ ?_)⟩
 ·simp at hj;omega
 ·simp at hj
  obtain⟨h1,h2⟩:=hj
  rw[<- h2]
  split
  ·exact aaR ..
  ·exact aaw _
theorem SU{a b:Expr}{rest:List Expr}{x y:E}{r:Es}{k0:Bool}(ha:PE X a (lE p EX tn x))(hb:PE X (.BoolOp (if k0 then .And else .Or) (b::rest) pos) (lE p EX tn (.bo k0 (.cons y r)))) :
  PE X (.BoolOp (if k0 then .And else .Or) (a::b::rest) pos) (lE p EX tn (.bo k0 (.cons x (.cons y r)))):=by
 have key:∀σ H Q,lE p EX tn (.bo k0 (.cons x (.cons y r))) σ H Q->lE p EX tn x σ H fun v H1=>∃c,v=.bl c/\if c=k0 then lE p EX tn (.bo k0 (.cons y r)) σ H1 Q else Q (.bl c) H1:=by
  intro σ H Q h
  obtain⟨τ,rfl,hF,j,k,hj,h⟩:=h
  simp only[jk,jks]at hj
  obtain⟨⟨j1,k1⟩,h1,hj⟩:=bS hj
  obtain⟨⟨j2,k2⟩,h2,hj⟩:=bS hj
  have hj:=Option.some.inj hj
  simp only[Prod.mk.injEq]at hj
  simp only[ev,evBo]at h
  refine l1 hF h1 h fun d t H1 ht R h=>?_
  subst ht
  cases t<;>simp only[T.dat]at h
  all_goals first|exact nE h|skip
  rename_i c
  refine⟨c,rfl,?_⟩
  by_cases z:c=k0
  ·rw[if_pos z]at h ⊢
   refine⟨τ,rfl,hF.same R.same,j2,k2,by simp only[jk,jks];exact h2,?_⟩
   simp only[ev]
   refine h.mono R.same fun d _ hd t H' ht R'=>hd t H' ht ((R'.back R.same).le (by omega) ?_)
   rw[<- hj.2]
   split
   ·exact aa3 ..
   ·exact aaw _
  ·rw[if_neg z]at h ⊢
   exact h (.bl c) H1 rfl (Rs.scal R.same rfl)
 cases k0 with
 |true=>
  refine PE.mono (UP ha hb) fun σ H Q h=>?_
  refine(show ∀(A B:VK),(∀v H,A v H->B v H)->lE p EX tn x σ H A->lE p EX tn x σ H B from ?_) _ _ ?_ (key σ H Q h)
  ·rintro A B m ⟨τ,e,hF,j,k,hj,h⟩
   exact⟨τ,e,hF,j,k,hj,h.mono (Same.refl _) fun d _ hd t H' ht R=>m _ _ (hd t H' ht R)⟩
  ·rintro v H1 ⟨c,rfl,h⟩
   exact⟨c,rfl,by cases c<;>simpa using h⟩
 |false=>
  refine PE.mono (WD ha hb) fun σ H Q h=>?_
  refine(show ∀(A B:VK),(∀v H,A v H->B v H)->lE p EX tn x σ H A->lE p EX tn x σ H B from ?_) _ _ ?_ (key σ H Q h)
  ·rintro A B m ⟨τ,e,hF,j,k,hj,h⟩
   exact⟨τ,e,hF,j,k,hj,h.mono (Same.refl _) fun d _ hd t H' ht R=>m _ _ (hd t H' ht R)⟩
  ·rintro v H1 ⟨c,rfl,h⟩
   exact⟨c,rfl,by cases c<;>simpa using h⟩
theorem SV{a:Expr}{x:E}{k0:Bool}(ha:PT X a (lT p EX tn x)):PW X (.BoolOp (if k0 then .And else .Or) [a] pos) (lT p EX tn (.bo k0 (.cons x .nil))):=by
 have key:∀σ H Q,lT p EX tn (.bo k0 (.cons x .nil)) σ H Q->lT p EX tn x σ H Q:=by
  rintro σ H Q ⟨τ,rfl,hF,hj,h⟩
  refine⟨τ,rfl,hF,?_,by simpa only[tv,ev,evBo] using h⟩
  obtain⟨q,hj⟩:=aaN.mp hj
  simp only[jk,jks]at hj
  obtain⟨⟨j1,k1⟩,h1,hj⟩:=bS hj
  rw[h1];rfl
 cases k0 with
 |true=>exact fun wh pins s σ H Q I h=>Se ha wh pins s σ H Q I (key σ H Q h)
 |false=>exact fun wh pins s σ H Q I h=>UK ha wh pins s σ H Q I (key σ H Q h)
theorem QK{a b:Expr}{rest:List Expr}{x y:E}{r:Es}{k0:Bool}(ha:PT X a (lT p EX tn x))(hb:PW X (.BoolOp (if k0 then .And else .Or) (b::rest) pos) (lT p EX tn (.bo k0 (.cons y r)))) :
  PW X (.BoolOp (if k0 then .And else .Or) (a::b::rest) pos) (lT p EX tn (.bo k0 (.cons x (.cons y r)))):=by
 have key:∀σ H Q,lT p EX tn (.bo k0 (.cons x (.cons y r))) σ H Q->lT p EX tn x σ H fun c H1=>if c=k0 then lT p EX tn (.bo k0 (.cons y r)) σ H1 Q else Q c H1:=by
  rintro σ H Q ⟨τ,rfl,hF,hj,h⟩
  obtain⟨q,hj⟩:=aaN.mp hj
  simp only[jk,jks]at hj
  obtain⟨⟨j1,k1⟩,h1,hj⟩:=bS hj
  obtain⟨⟨j2,k2⟩,h2,hj⟩:=bS hj
  refine⟨τ,rfl,hF,by rw[h1];rfl,?_⟩
  simp only[tv,ev,evBo]at h ⊢
  cases q:ev x (dτ τ) with
  |ok d=>
   rw[q]at h
   simp only[Res.bind_ok]at h ⊢
   cases d<;>simp only[Res.bind_bad]at h
   all_goals first|exact nE h|skip
   rename_i c
   show ∀H',Same H H'->if c=k0 then _ else _
   intro H' s
   by_cases z:c=k0
   ·rw[if_pos z]at h ⊢
    refine⟨τ,rfl,hF.same s,by simp only[jk,jks];rw[h2];rfl,?_⟩
    simp only[tv,ev]
    exact h.mono s fun b _ hb H2 s2=>hb H2 (s.trans s2)
   ·rw[if_neg z]at h ⊢
    exact h H' s
  |exc c=>rw[q]at h;exact h
  |bad=>rw[q]at h;exact h
 have mon:∀(σ:St)(H:Hp)(A B:Bool->Hp->Prop),(∀v H,A v H->B v H)->lT p EX tn x σ H A->lT p EX tn x σ H B:=by
  rintro σ H A B m ⟨τ,e,hF,hj,h⟩
  exact⟨τ,e,hF,hj,h.mono (Same.refl _) fun b _ hb H' s=>m _ _ (hb H' s)⟩
 cases k0 with
 |true=>exact fun wh pins s σ H Q I h=>UL ha hb wh pins s σ H Q I (mon _ _ _ _ (fun c H1 h=>by cases c<;>simpa using h) (key σ H Q h))
 |false=>exact fun wh pins s σ H Q I h=>WA ha hb wh pins s σ H Q I (mon _ _ _ _ (fun c H1 h=>by cases c<;>simpa using h) (key σ H Q h))
theorem SX{c a b:Expr}{x y z:E}(hc:PT X c (lT p EX tn x))(ha:PE X a (lE p EX tn y))(hb:PE X b (lE p EX tn z)):PE X (.IfExp c a b pos) (lE p EX tn (.ifx x y z)):=by
 refine PE.mono (Qg hc ha hb) fun σ H Q h=>?_
 obtain⟨τ,rfl,hF,j,k,hj,h⟩:=h
 simp only[jk]at hj
 obtain⟨⟨j1,k1⟩,h1,hj⟩:=bS hj
 obtain⟨⟨j2,k2⟩,h2,hj⟩:=bS hj
 obtain⟨⟨j3,k3⟩,h3,hj⟩:=bS hj
 have hj:=Option.some.inj hj
 simp only[Prod.mk.injEq]at hj
 simp only[ev]at h
 have hk2:k<=k2:=by rw[<- hj.2];split;exact aaR ..;exact aaw _
 have hk3:k<=k3:=by rw[<- hj.2];split;exact aa3 ..;exact aaw _
 refine⟨τ,rfl,hF,by rw[h1];rfl,h.bind.mono (Same.refl _) fun t _ ht H' s=>?_⟩
 cases t with
 |true=>
  rw[if_pos rfl]at ht ⊢
  exact⟨τ,rfl,hF.same s,j2,k2,h2,ht.mono s fun d _ hd t H2 ht R=>hd t H2 ht ((R.back s).le (by omega) hk2)⟩
 |false=>
  rw[if_neg (by decide)]at ht ⊢
  exact⟨τ,rfl,hF.same s,j3,k3,h3,ht.mono s fun d _ hd t H2 ht R=>hd t H2 ht ((R.back s).le (by omega) hk3)⟩
end
section
variable{p:Px}{EX:EXT}{tn:List Nat}{X:Cx}{pos:Pos}
theorem K8(n:Nat)(i:Int):L2.ixN n i=ixN n i:=rfl
theorem IF{ts:List T}{i:Int}{σ:St}{H:Hp}{Kc:D->Prop}(h:Lg p EX σ (atD (T.dats ts) i) H Kc):∃t∈ts,atI (ts.map T.val) i=some t.val/\Kc t.dat:=by
 unfold atD at h
 rw[Ag]at h
 cases q:ixN ts.length i with
 |none=>rw[q]at h;exact nE h
 |some j=>
  rw[q]at h
  simp only[aaY]at h
  rw[T.dats_map,aal]at h
  cases e:ts[j]? with
  |none=>rw[e]at h;exact nE h
  |some t=>
   rw[e]at h
   refine⟨t,aaj e,?_,h⟩
   unfold atI
   rw[aab,K8,q]
   show(ts.map T.val)[j]?=_
   rw[aal,e];rfl
theorem Rs.sub{B:Addr->Prop}{H H1:Hp}{j k j':Nat}{t u:T}(r:Rs p B H H1 j k t)(ok:u.Ok p H1)(h:∀a∈u.rest j',a∈t.rest j):Rs p B H H1 j' 0 u :=
 ⟨r.same,ok,fun a m=>r.src a (h a m),by rw[T.adr_zero];simp,T.nd_zero u⟩
abbrev A3:Expr->Bool
 |.Slice _ _ _ _=>false
 |_=>true
theorem Ep{b:Expr}(h:A3 b=true):MF b:=by
 intro o i
 cases b<;>first|rfl|cases h
theorem VD(hK:X.K=p.K):IxR X (fun x y H Q=>Ve X.K x y H Q\/Vf X.K x y H Q):=Jk.or Ix
theorem Pe(hK:X.K=p.K){a b:Expr}{x y:E}(ha:PE X a (lE p EX tn x))(hb:PE X b (lE p EX tn y))(hp:A3 b=true):PE X (.Subscript a b pos) (lE p EX tn (.ix x y)):=by
 refine PE.mono (Iw (VD hK) ha hb (Ep hp)) fun σ H Q h=>?_
 obtain⟨τ,rfl,hF,j,k,hj,h⟩:=h
 simp only[jk]at hj
 obtain⟨⟨j1,k1⟩,h1,hj⟩:=bS hj
 obtain⟨⟨j2,k2⟩,h2,hj⟩:=bS hj
 obtain⟨hc,e⟩:=CS hj
 cases e
 have hc:=of_decide_eq_true hc
 subst hc
 simp only[ev]at h
 refine l1 hF h1 h fun d t H1 ht R h=>l2 hF R.same h2 h fun d' t' H2 ht' R' h=>?_
 subst ht ht'
 have R:=R.fwd R'.same
 cases t<;>cases t'<;>simp only[T.dat,ixD]at h
 all_goals first|exact nE h|skip
 ·obtain⟨u,hu,e,h⟩:=IF h
  exact .inr ⟨_,_,_,_,rfl,rfl,SqT.of R.ok.1,e,h u H2 rfl (R.sub (T.oks_iff.mp R.ok.2 u hu) fun b m=>T.mem_rests.mpr ⟨u,hu,m⟩)⟩
 ·obtain⟨u,hu,e,h⟩:=IF h
  exact .inl ⟨_,_,_,_,rfl,rfl,.inl R.ok.1,e,h u H2 rfl (R.sub (T.oks_iff.mp R.ok.2 u hu) fun b m=>aaa _ (T.mem_rests.mpr ⟨u,hu,m⟩))⟩
theorem SY{a b:Expr}{x y:E}(ha:PE X a (lE p EX tn x))(hb:PE X b (lE p EX tn y))(hp:A3 b=true):PE X (.Subscript a b pos) (lE p EX tn (.ixL x y)):=by
 refine PE.mono (Iw Jk ha hb (Ep hp)) fun σ H Q h=>?_
 obtain⟨τ,rfl,hF,j,k,hj,h⟩:=h
 simp only[jk]at hj
 obtain⟨⟨j1,k1⟩,h1,hj⟩:=bS hj
 obtain⟨⟨j2,k2⟩,h2,hj⟩:=bS hj
 have hj:=Option.some.inj hj
 simp only[Prod.mk.injEq]at hj
 obtain⟨rfl,rfl⟩:=hj
 simp only[ev]at h
 refine l1 hF h1 h fun d t H1 ht R h=>l2 hF R.same h2 h fun d' t' H2 ht' R' h=>?_
 subst ht ht'
 have R:=R.fwd R'.same
 cases t<;>cases t'<;>simp only[T.dat,Fb]at h
 all_goals first|exact nE h|skip
 obtain⟨u,hu,e,h⟩:=IF h
 refine⟨_,_,_,_,rfl,rfl,.inl R.ok.1,e,h u H2 rfl (R.sub (T.oks_iff.mp R.ok.2 u hu) fun b m=>?_)⟩
 cases j1 with
 |zero=>exact aaa _ (T.mem_rests.mpr ⟨u,hu,m⟩)
 |succ j1=>exact T.mem_rests.mpr ⟨u,hu,m⟩
theorem SZ{a b:Expr}{x y:E}(ha:PE X a (lE p EX tn x))(hb:PE X b (lE p EX tn y))(hp:A3 b=true):PE X (.Subscript a b pos) (lE p EX tn (.ixT x y)):=by
 refine PE.mono (Iw Ix ha hb (Ep hp)) fun σ H Q h=>?_
 obtain⟨τ,rfl,hF,j,k,hj,h⟩:=h
 simp only[jk]at hj
 obtain⟨⟨j1,k1⟩,h1,hj⟩:=bS hj
 obtain⟨⟨j2,k2⟩,h2,hj⟩:=bS hj
 have hj:=Option.some.inj hj
 simp only[Prod.mk.injEq]at hj
 obtain⟨rfl,rfl⟩:=hj
 simp only[ev]at h
 refine l1 hF h1 h fun d t H1 ht R h=>l2 hF R.same h2 h fun d' t' H2 ht' R' h=>?_
 subst ht ht'
 have R:=R.fwd R'.same
 cases t<;>cases t'<;>simp only[T.dat,D2]at h
 all_goals first|exact nE h|skip
 obtain⟨u,hu,e,h⟩:=IF h
 exact⟨_,_,_,_,rfl,rfl,SqT.of R.ok.1,e,h u H2 rfl (R.sub (T.oks_iff.mp R.ok.2 u hu) fun b m=>T.mem_rests.mpr ⟨u,hu,m⟩)⟩
theorem MP{k:Nat}{u:T}:∀{ts:List T},T.Nds ts k->u∈ts->u.Nd k
 |[],_,h=>nomatch h
 |t::r,n,h=>by
  obtain⟨n1,n2,_,_⟩:=T.nds_cons.mp n
  rcases aak.mp h with rfl|h
  ·exact n1
  ·exact MP n2 h
theorem S0{a b:Expr}{x y:E}(ha:PE X a (lE p EX tn x))(hb:PE X b (lE p EX tn y))(hp:A3 b=true):PE X (.Subscript a b pos) (lE p EX tn (.ixF x y)):=by
 refine PE.mono (Iw Ix ha hb (Ep hp)) fun σ H Q h=>?_
 obtain⟨τ,rfl,hF,j,k,hj,h⟩:=h
 simp only[jk]at hj
 obtain⟨⟨j1,k1⟩,h1,hj⟩:=bS hj
 obtain⟨⟨j2,k2⟩,h2,hj⟩:=bS hj
 obtain⟨hc,e⟩:=CS hj
 cases e
 have hc:=of_decide_eq_true hc
 subst hc
 simp only[ev]at h
 refine l1 hF h1 h fun d t H1 ht R h=>l2 hF R.same h2 h fun d' t' H2 ht' R' h=>?_
 subst ht ht'
 have R:=R.fwd R'.same
 cases t<;>cases t'<;>simp only[T.dat,D2]at h
 all_goals first|exact nE h|skip
 obtain⟨u,hu,e,h⟩:=IF h
 refine⟨_,_,_,_,rfl,rfl,SqT.of R.ok.1,e,h u H2 rfl ⟨R.same,T.oks_iff.mp R.ok.2 u hu,fun b m=>R.src b (T.mem_rests.mpr ⟨u,hu,m⟩),fun b m=>R.new b (T.mem_adrs.mpr ⟨u,hu,m⟩),?_⟩⟩
 exact MP (show T.Nds _ _ from R.nd) hu
theorem IG(n d:Nat)(o:Option Int):HT.sIx n d o=sIx n d o:=by
 cases o with
 |none=>rfl
 |some v=>exact Int.ofNat_inj.mp (by rw[<- HT.clip_eq v n d];unfold sIx;simp only;split<;>omega)
theorem MQ{α β:Type}(f:α->β)(xs:List α)(lo hi:Option Int):(cut xs lo hi).map f=cut (xs.map f) lo hi:=by
 unfold cut;rw[acy,acz,aab]
theorem MR(ts:List T)(lo hi:Option Int):Gz (ts.map T.val) lo hi=(cut ts lo hi).map T.val:=by
 unfold Gz cut
 rw[acy,acz,aab,IG,IG]
theorem Hd{α:Type}{xs:List α}{lo hi:Option Int}{x:α}(h:x∈cut xs lo hi):x∈xs:=acX (acY h)
abbrev lO(p:Px)(EX:EXT)(tn:List Nat)(e:E):TO:=fun σ H Q=>∃τ,σ=vτ τ/\Fok p tn τ H/\(jk tn e).isSome=true/\Lg p EX σ (CP e.isCN (ev e (dτ τ))) H fun o=>∀H',Same H H'->Q o H'
theorem JY:PO X none (lO p EX tn .cN):=by
 intro pins s σ H Q I h
 obtain⟨τ,rfl,hF,hj,h⟩:=h
 exact Sm pins s _ H Q I (h H (Same.refl _))
theorem JZ{e:Expr}{x:E}(he:PE X e (lE p EX tn x))(hx:x.isCN=false):PO X (some e) (lO p EX tn x):=by
 intro pins s σ H Q I h
 obtain⟨τ,rfl,hF,hj,h⟩:=h
 obtain⟨⟨j,k⟩,hj⟩:=aaN.mp hj
 unfold CP at h
 rw[hx,if_neg (by decide)]at h
 refine Sn he pins s _ H Q I (l1 hF hj h fun d t H1 ht R h=>?_)
 subst ht
 cases t<;>simp only[T.dat,DL]at h
 all_goals first|exact nE h|exact⟨_,rfl,h H1 R.same⟩
theorem MS:∀{ts:List T},(T.dats ts).all D.scal=true->∀t∈ts,t.sc=true
 |[],_,t,h=>nomatch h
 |u::r,h,t,ht=>by
  simp only[T.dats,aaS,aaf]at h
  rcases aak.mp ht with rfl|ht
  ·cases t<;>first|rfl|cases h.1
  ·exact MS h.2 t ht
theorem S5{t:T}{j:Nat}(h:t.sc=true):t.rest j=[]:=by cases t<;>first|rfl|cases h
theorem VE{t:T}{j:Nat}(h:t.sc=true):t.adr j=[]:=by cases t<;>first|rfl|cases h
theorem K9{ts:List T}{j:Nat}(h:∀t∈ts,t.sc=true):T.rests ts j=[]:=by
 refine aaU.mpr fun b hb=>?_
 obtain⟨t,ht,q⟩:=T.mem_rests.mp hb
 rw[S5 (h t ht)]at q;cases q
theorem MT{ts:List T}{j:Nat}(h:∀t∈ts,t.sc=true):T.adrs ts j=[]:=by
 refine aaU.mpr fun b hb=>?_
 obtain⟨t,ht,q⟩:=T.mem_adrs.mp hb
 rw[VE (h t ht)]at q;cases q
theorem QL{B:Addr->Prop}{H H1:Hp}{j k:Nat}{a:Addr}{ts:List T}(s:Same H H1)(ok:(T.tup a ts).Ok p H1)(h:∀t∈ts,t.sc=true):Rs p B H H1 j k (.tup a ts) :=
 ⟨s,ok,by simp only[T.rest];rw[K9 h];simp,by simp only[T.adr];rw[MT h];simp,by unfold T.Nd;simp only[T.adr,T.rest];rw[K9 h,MT h];simp⟩
theorem S6{a:Expr}{lo hi:Option Expr}{p2:Pos}{x y z:E}(ha:PE X a (lE p EX tn x))(hl:PO X lo (lO p EX tn y))(hh:PO X hi (lO p EX tn z)):PE X (.Subscript a (.Slice lo hi none p2) pos) (lE p EX tn (.slc x y z)):=by
 refine PE.mono (Qo (So.or Vd) ha hl hh) fun σ H Q h=>?_
 obtain⟨τ,rfl,hF,j,k,hj,h⟩:=h
 simp only[jk]at hj
 obtain⟨⟨j1,k1⟩,h1,hj⟩:=bS hj
 obtain⟨q2,h2,hj⟩:=bS hj
 obtain⟨q3,h3,hj⟩:=bS hj
 obtain⟨hc,e⟩:=CS hj
 cases e
 have hc:=of_decide_eq_true hc
 simp only[ev]at h
 refine l1 hF h1 h fun d t H1 ht R h=>?_
 subst ht
 refine⟨τ,rfl,hF.same R.same,by rw[h2];rfl,h.bind.mono R.same fun l _ h H2 s2=>?_⟩
 refine⟨τ,rfl,hF.same (R.same.trans s2),by rw[h3];rfl,h.bind.mono (R.same.trans s2) fun u _ h H3 s3=>?_⟩
 have R:=R.fwd (s2.trans s3)
 cases t with
 |tup b ts=>
  simp only[T.dat,EF]at h
  obtain⟨⟨g1,g2⟩,h⟩:=h.guard
  refine .inr ⟨b,_,rfl,SqT.of R.ok.1,?_,fun q hq=>?_⟩
  ·rw[aab,IG,IG,<- Ag];exact g2
  ·rw[MR]
   have sn:=Same.new (o:=.tup ((cut ts l u).map T.val)) hq
   refine h (.tup q (cut ts l u)) _ (by simp only[T.dat,T.dats_map,MQ]) (QL (R.same.trans sn) ⟨Aq,T.oks_iff.mpr fun w hw=>((T.oks_iff.mp R.ok.2 w (Hd hw))).same sn⟩ fun w hw=>MS g1 w (Hd hw))
 |lst b ts=>
  simp only[T.dat,EF]at h
  refine .inl ⟨b,_,rfl,.inl R.ok.1,fun q hq=>?_⟩
  rw[MR]
  refine h (.lst q (cut ts l u)) _ (by simp only[T.dat,T.dats_map,MQ]) (DN R.same (T.oks_iff.mpr fun w hw=>T.oks_iff.mp R.ok.2 w (Hd hw)) (fun c m=>?_) hq)
  obtain⟨w,hw,m⟩:=T.mem_rests.mp m
  exact R.elems hc c (T.mem_rests.mpr ⟨w,Hd hw,m⟩)
 |_=>exact nE h
end
abbrev spF(p:Px)(F:Fn):Sp:=fun vs H Q E=>∃ts:List T,vs=ts.map T.val/\T.Oks p H ts/\ts.length=F.ar/\match F.den (T.dats ts) with
 |.ok d=>∀t H',t.dat=d->Rs p (fun a=>a∈T.rests ts 0) H H' 0 F.dep t->Q t.val H'
 |.exc c=>p.has (kcX c)=true->∀H',Same H H'->XW p E c H'
 |.bad=>False
abbrev VF(p:Px)(F:Fn):Sp0:=fun vs H Q=>∃ts:List T,vs=ts.map T.val/\T.Oks p H ts/\ts.length=F.ar/\match F.den (T.dats ts) with
 |.ok d=>∀t H',t.dat=d->Rs p (fun a=>a∈T.rests ts 0) H H' 0 F.dep t->Q t.val H'
 |_=>False
abbrev RQ(p:Px)(X:Cx)(F:Fn):Prop:=∃ps:List Str,ps.length=F.ar/\Vs X.prog X.w X.K X.mg X.base F.name F.lv ps (VF p F)
abbrev NR(p:Px)(X:Cx)(F:Fn):Prop:=∃ps:List Str,ps.length=F.ar/\Has X.prog X.w X.K X.mg X.base F.name F.lv ps (spF p F)
abbrev spM(p:Px)(F:Fn):Sp:=fun vs H Q _=>∃(t:T)(ts:List T),vs=t.val::ts.map T.val/\t.Ok p H/\T.Oks p H ts/\ts.length+1=F.ar/\t.Nd 2/\(∀b∈t.adr 2,(Mu H b)/\b∉T.rests ts 0)/\∃d,F.den (t.dat::T.dats ts)=.ok d /\
 ∀(t':T)(H':Hp),t'.dat=d->t'.val=t.val->t'.Ok p H'->t'.Nd 2->(∀b u,H b=some u->b∉t.adr 2->H' b=some u)->(∀b∈t'.adr 2,(b∈t.adr 2\/H b=none)/\Mu H' b)->Q .non H'
abbrev VG(p:Px)(X:Cx)(F:Fn):Prop:=∃ps:List Str,ps.length=F.ar/\Has X.prog X.w X.K X.mg X.base F.name F.lv ps (spM p F)
abbrev spN(p:Px)(F:Fn):Sp:=fun vs H Q _=>∃(ts:List T)(a:Addr)(us:List T),vs=ts.map T.val/\T.Oks p H ts/\ts.length=F.ar/\ts[F.dep-1000]?=some (.lst a us)/\(∀(i:Nat)(u:T),i≠F.dep-1000->ts[i]?=some u->a∉u.rest 0)/\a∉T.rests us 0/\(Mu H a) /\
 ∃(b:Bool)(ds:List D),F.den (T.dats ts)=.ok (.tup [.bl b,.lst ds])/\∀(us':List T)(H':Hp),T.dats us'=ds->(T.lst a us').Ok p H'->(Mu H' a)->(∀c u,H c=some u->c≠a->H' c=some u)->Q (.bl b) H'
abbrev VH(p:Px)(X:Cx)(F:Fn):Prop:=∃ps:List Str,ps.length=F.ar/\Has X.prog X.w X.K X.mg X.base F.name F.lv ps (spN p F)
theorem B9:∀(m:Nat)(t:T)(k:Nat),t.dat.flat m k=true->t.rest k=[]
 |0,t,k,h=>by simp[D.flat]at h
 |m+1,t,k,h=>by
  cases t with
  |tup a ts=>
   simp only[T.dat,D.flat]at h
   simp only[T.rest]
   refine aaU.mpr fun b hb=>?_
   obtain⟨t,ht,q⟩:=T.mem_rests.mp hb
   rw[B9 m t k (AO h t ht)]at q;cases q
  |lst a ts=>
   cases k with
   |zero=>simp[T.dat,D.flat]at h
   |succ k=>
    simp only[T.dat,D.flat]at h
    simp only[T.rest]
    refine aaU.mpr fun b hb=>?_
    obtain⟨t,ht,q⟩:=T.mem_rests.mp hb
    rw[B9 m t k (AO h t ht)]at q;cases q
  |dic a ks ts=>
   cases k with
   |zero=>simp[T.dat,D.flat]at h
   |succ k=>
    simp only[T.dat,D.flat]at h
    simp only[T.rest]
    refine aaU.mpr fun b hb=>?_
    obtain⟨t,ht,q⟩:=T.mem_rests.mp hb
    rw[B9 m t k (AO h t ht)]at q;cases q
  |dit a ks ts=>
   cases k with
   |zero=>simp[T.dat,D.flat]at h
   |succ k=>
    simp only[T.dat,D.flat]at h
    simp only[T.rest]
    refine aaU.mpr fun b hb=>?_
    obtain⟨t,ht,q⟩:=T.mem_rests.mp hb
    rw[B9 m t k (AO h t ht)]at q;cases q
  |_=>rfl
abbrev Ad:Expr->Bool
 |.Starred _ _=>false
 |_=>true
theorem Ae{e:Expr}{es:List Expr}{env:Env}(h:Ad e=true):starEach (e::es) env=(false,eval e env)::starEach es env:=by
 cases e<;>first|rfl|cases h
theorem Ba{pos:Pos}{env:Env}:∀{es:List Expr},es.all Ad=true->(backTo pos (starEach es env)).any (·.1)=false
 |[],_=>rfl
 |e::es,h=>by
  rw[aaS,aaf]at h
  rw[Ae h.1]
  have ih:=Ba (pos:=pos) (env:=env) h.2
  unfold backTo at ih ⊢
  rw[aaI,abM,ih];rfl
section
variable{p:Px}{EX:EXT}{tn:List Nat}{X:Cx}{pos np:Pos}
theorem QM{F:Fn}{e:Expr}{es:List Expr}{x:E}{xs:Es}(hx:GC (CXe X.prog X.w) X EX)(hF:NR p X F)(hr:Room F.lv X.A)(hg:Gl X F.name)(hdb:(F.name==("__debug__" : Str))=false)(ha:PA X (e::es) (lEs p EX tn (.cons x xs)))(hst:(e::es).all Ad=true)(hl:(Es.cons x xs).len=F.ar) :
  PE X (.Call (.Name F.name np) (e::es) [] pos) (lE p EX tn (.call F (.cons x xs))):=by
 obtain⟨ps,hps,hF⟩:=hF
 rw[aaS,aaf]at hst
 refine PE.mono (NG hF hr hg hx ha hdb (Ae hst.1) (Ba hst.2)) fun σ H Q h=>?_
 obtain⟨τ,rfl,hFr,j,k,hj,h⟩:=h
 simp only[jk]at hj
 obtain⟨⟨j1,k1⟩,h1,hj⟩:=bS hj
 obtain⟨hc,e⟩:=CS hj
 cases e
 have hc:j1=0:=of_decide_eq_true hc
 subst hc
 simp only[ev]at h
 refine⟨τ,rfl,hFr,0,k1,h1,h.bind.mono (Same.refl _) fun ds e hd ts H1 hts R=>?_⟩
 show spF p F (ts.map T.val++[]) H1 Q (EX (vτ τ))
 rw[aaF]
 refine⟨ts,rfl,R.ok,?_,?_⟩
 ·rw[<- Ag,hts,Cf _ _ _ e,hl]
 ·rw[hts]
  cases q:F.den ds with
  |ok d=>
   rw[q]at hd
   intro t H' ht R'
   refine hd t H' ht ⟨R.same.trans R'.same,R'.ok,fun a m=>?_,fun a m=>⟨R.same.free (R'.new a m).1,(R'.new a m).2⟩,R'.nd⟩
   rcases R'.src a m with z|z
   ·exact .inl (R.same.free z)
   ·exact R.src a z
  |exc c=>
   rw[q]at hd
   exact fun hc H' s=>hd hc H' (R.same.trans s)
  |bad=>rw[q]at hd;exact hd
theorem T.adr_rest:∀(t:T){d K:Nat},t.rest d=[]->d<=K->t.adr K=t.adr d:=by
 have lists:∀(ts:List T),(∀t∈ts,∀{d K:Nat},t.rest d=[]->d<=K->t.adr K=t.adr d)->∀{d K:Nat},T.rests ts d=[]->d<=K->T.adrs ts K=T.adrs ts d:=by
  intro ts
  induction ts with
  |nil=>intro _ d K _ _;rfl
  |cons t r ih=>
   intro h d K hr hk
   simp only[T.rests,acS]at hr
   show t.adr K++T.adrs r K=t.adr d++T.adrs r d
   rw[h t (aac ..) hr.1 hk,ih (fun u hu=>h u (aaa _ hu)) hr.2 hk]
 refine T.ind (by intros;rfl) (by intros;rfl) (by intros;rfl) (by intros;rfl) (fun a ts ih d K h hk=>?_) (fun a ts ih d K h hk=>?_) (by intros;rfl) (fun a ks ts ih d K h hk=>?_) (fun a ks ts ih d K h hk=>?_)
 ·exact lists ts ih h hk
 ·cases d with
  |zero=>cases h
  |succ d=>
   cases K with
   |zero=>omega
   |succ K=>exact congrArg (a::·) (lists ts ih h (aa2 hk))
 ·cases d with
  |zero=>cases h
  |succ d=>
   cases K with
   |zero=>omega
   |succ K=>exact congrArg (a::·) (lists ts ih h (aa2 hk))
 ·cases d with
  |zero=>cases h
  |succ d=>
   cases K with
   |zero=>omega
   |succ K=>exact congrArg (a::·) (lists ts ih h (aa2 hk))
theorem Pf{F:Fn}{e:Expr}{es:List Expr}{x:E}{xs:Es}(hx:GC (CXe X.prog X.w) X EX)(hF:NR p X F)(hr:Room F.lv X.A)(hg:Gl X F.name)(hdb:(F.name==("__debug__" : Str))=false)(ha:PA X (e::es) (lEs p EX tn (.cons x xs)))(hst:(e::es).all Ad=true)(hl:(Es.cons x xs).len=F.ar) :
  PE X (.Call (.Name F.name np) (e::es) [] pos) (lE p EX tn (.callB F (.cons x xs))):=by
 obtain⟨ps,hps,hF⟩:=hF
 rw[aaS,aaf]at hst
 refine PE.mono (NG hF hr hg hx ha hdb (Ae hst.1) (Ba hst.2)) fun σ H Q h=>?_
 obtain⟨τ,rfl,hFr,j,k,hj,h⟩:=h
 simp only[jk]at hj
 obtain⟨⟨j1,k1⟩,h1,hj⟩:=bS hj
 have hj:=Option.some.inj hj
 simp only[Prod.mk.injEq]at hj
 obtain⟨rfl,rfl⟩:=hj
 simp only[ev]at h
 refine⟨τ,rfl,hFr,j1,k1,h1,h.bind.mono (Same.refl _) fun ds e hd ts H1 hts R=>?_⟩
 show spF p F (ts.map T.val++[]) H1 Q (EX (vτ τ))
 rw[aaF]
 refine⟨ts,rfl,R.ok,?_,?_⟩
 ·rw[<- Ag,hts,Cf _ _ _ e,hl]
 ·rw[hts]
  cases q:F.den ds with
  |ok d=>
   rw[q]at hd
   obtain⟨hf,hd⟩:=Lg.guard hd
   intro t H' ht R'
   subst ht
   have r0:=B9 9 t F.dep hf
   have up:∀a,a∈t.rest 0->a∈t.adr F.dep:=fun a m=>by
    rcases (T.all_iff t F.dep).mp m with z|z
    ·exact z
    ·rw[r0]at z;cases z
   refine hd t H' rfl ⟨R.same.trans R'.same,R'.ok,fun a m=>.inl (R.same.free (R'.new a (up a m)).1),fun a m=>?_,?_⟩
   ·have:=R'.new a (up a ((T.all_iff t 9).mpr (.inl m)))
    exact⟨R.same.free this.1,this.2⟩
   ·by_cases c9:9<=F.dep
    ·exact T.nd_le t c9 R'.nd
    ·have e9:=T.adr_rest t r0 (show F.dep<=9 by omega)
     refine⟨by rw[e9];exact R'.nd.1,fun a m _=>?_⟩
     have:=T.rest_le t (show F.dep<=9 by omega) m
     rw[r0]at this;cases this
  |exc c=>
   rw[q]at hd
   exact fun hc H' s=>hd hc H' (R.same.trans s)
  |bad=>rw[q]at hd;exact hd
theorem E8{b:Bi}{e:Expr}{es:List Expr}{x:E}{xs:Es}{ex:Expr}{r:List V->Hp->VK->Prop}(hp:PE X ex (tCB r (lEs p EX tn (.cons x xs))))
  (hr:∀(B:Addr->Prop)(H H1:Hp)(j1 k1 j k:Nat)(ts:List T)(σ:St)(Q:VK),RsL p B H H1 j1 k1 ts->(match b with|.list=>gj (decide (j1=0)) (0,1)|.tuple=>gj (decide (j1=0)) (0,k1-1)|_=>some (0,9))=some (j,k)->
   Lg p EX σ (biD b (T.dats ts)) H (KE p B H j k Q)->r (ts.map T.val) H1 Q):PE X ex (lE p EX tn (.bi b (.cons x xs))):=by
 refine PE.mono hp fun σ H Q h=>?_
 obtain⟨τ,rfl,hFr,j,k,hj,h⟩:=h
 simp only[jk]at hj
 obtain⟨⟨j1,k1⟩,h1,hj⟩:=bS hj
 simp only[ev]at h
 refine⟨τ,rfl,hFr,j1,k1,h1,h.bind.mono (Same.refl _) fun ds e hd ts H1 hts R=>?_⟩
 subst hts
 exact hr (Sh tn τ) H H1 j1 k1 j k ts _ Q R hj hd
theorem HD:∀{ts:List T}{bs:List Int},De (T.dats ts)=some bs->ts.map T.val=bs.map V.int
 |[],bs,h=>by simp[T.dats,De]at h;subst h;rfl
 |t::r,bs,h=>by
  cases t<;>simp only[T.dats,T.dat,De]at h
  all_goals first|cases h|skip
  obtain⟨bs',h1,rfl⟩:=aax.mp h
  simp[T.val,HD h1]
section
variable{e:Expr}{es:List Expr}{x:E}{xs:Es}(hg:∀y:Str,y∈(["len", "min", "max", "abs", "int", "list", "tuple", "all", "any", "sum", "sorted", "isinstance", "str", "range", "enumerate", "zip", "reversed"]:List Str)->X.mg y=none)
 (ha:PA X (e::es) (lEs p EX tn (.cons x xs))) (hst:(e::es).all Ad=true)
include hg ha hst
theorem S7(hgl:Gl X "len"):PE X (.Call (.Name "len" np) (e::es) [] pos) (lE p EX tn (.bi .len (.cons x xs))):=by
 rw[aaS,aaf]at hst
 refine E8 (es:=es) (e:=e) (D0 KJ hgl (hg _ (by simp)) PySem.boot_len ha (by decide) (by decide) (Ae hst.1) (Ba hst.2)) fun B H H1 j1 k1 j k ts σ Q R hj h=>?_
 rcases ts with _|⟨t,_|⟨u,r⟩⟩
 ·exact nE h
 ·cases t with
  |lst a us=>exact⟨a,_,rfl,.inl (.inl R.ok.1.1),by have:=h (.int _) H1 rfl (Rs.scal R.same rfl);rw[Ag,<- aab (f:=T.val)]at this;exact this⟩
  |tup a us=>exact⟨a,_,rfl,.inr (SqT.of R.ok.1.1),by have:=h (.int _) H1 rfl (Rs.scal R.same rfl);rw[Ag,<- aab (f:=T.val)]at this;exact this⟩
  |_=>exact nE h
 ·exact nE h
theorem S8(hgl:Gl X "int"):PE X (.Call (.Name "int" np) (e::es) [] pos) (lE p EX tn (.bi .int (.cons x xs))):=by
 rw[aaS,aaf]at hst
 refine E8 (es:=es) (e:=e) (Gy OI hgl (hg _ (by simp)) (by decide +kernel) ha (by decide) (by decide) (Ae hst.1) (Ba hst.2)) fun B H H1 j1 k1 j k ts σ Q R hj h=>?_
 rcases ts with _|⟨t,_|⟨u,r⟩⟩
 ·exact nE h
 ·cases t with
  |int i=>exact .inl ⟨i,rfl,h (.int _) H1 rfl (Rs.scal R.same rfl)⟩
  |bl b=>exact .inr ⟨b,rfl,h (.int _) H1 rfl (Rs.scal R.same rfl)⟩
  |_=>exact nE h
 ·exact nE h
theorem QN(hgl:Gl X "list"):PE X (.Call (.Name "list" np) (e::es) [] pos) (lE p EX tn (.bi .list (.cons x xs))):=by
 rw[aaS,aaf]at hst
 refine E8 (es:=es) (e:=e) (Gy KK hgl (hg _ (by simp)) (by decide +kernel) ha (by decide) (by decide) (Ae hst.1) (Ba hst.2)) fun B H H1 j1 k1 j k ts σ Q R hj h=>?_
 obtain⟨hc,ej⟩:=CS hj
 cases ej
 have hc:j1=0:=of_decide_eq_true hc
 subst hc
 rcases ts with _|⟨t,_|⟨u,r⟩⟩
 ·exact nE h
 ·cases t with
  |lst a us=>exact⟨a,_,rfl,.inl (.inl R.ok.1.1),fun l hl=>h (.lst l us) _ rfl (DN R.same R.ok.1.2 (fun c m=>R.src c (by simp[T.rests,T.rest,m])) hl)⟩
  |tup a us=>exact⟨a,_,rfl,.inr (SqT.of R.ok.1.1),fun l hl=>h (.lst l us) _ rfl (DN R.same R.ok.1.2 (fun c m=>R.src c (by simp[T.rests,T.rest,m])) hl)⟩
  |_=>exact nE h
 ·exact nE h
theorem Pg(hgl:Gl X "tuple"):PE X (.Call (.Name "tuple" np) (e::es) [] pos) (lE p EX tn (.bi .tuple (.cons x xs))):=by
 rw[aaS,aaf]at hst
 refine E8 (es:=es) (e:=e) (Gy J9 hgl (hg _ (by simp)) (by decide +kernel) ha (by decide) (by decide) (Ae hst.1) (Ba hst.2)) fun B H H1 j1 k1 j k ts σ Q R hj h=>?_
 obtain⟨hc,ej⟩:=CS hj
 cases ej
 have hc:j1=0:=of_decide_eq_true hc
 subst hc
 rcases ts with _|⟨t,_|⟨u,r⟩⟩
 ·exact nE h
 ·cases t with
  |lst a us=>
   have hz:(∀b∈T.adrs us (k1-1),H b=none/\Mu H1 b)/\T.Nds us (k1-1):=by
    cases k1 with
    |zero=>exact⟨by rw[Nat.zero_sub,T.adrs_zero];simp,T.nds_zero us⟩
    |succ k'=>
     refine⟨fun b m=>R.new b (by simp only[T.adrs,T.adr,aaF];exact aaa _ m),?_⟩
     obtain⟨n1,n2⟩:=(T.nds_cons.mp R.nd).1
     simp only[T.adr,T.rest,aaG]at n1 n2
     exact⟨n1.2,fun b hb hc=>n2 b hb (aaa _ hc)⟩
   exact⟨a,_,rfl,.inl ⟨.inl R.ok.1.1,fun l hl=>h (.tup l us) _ rfl (O8 ⟨R.same,R.ok.1.2,(fun c m=>R.src c (by simp[T.rests,T.rest,m])),hz.1,hz.2⟩ hl)⟩⟩
  |tup a us=>
   have hn:(T.tup a us).Nd (k1-1):=T.nd_le _ (Nat.sub_le _ _) (T.nds_cons.mp R.nd).1
   exact⟨a,_,rfl,.inr ⟨SqT.of R.ok.1.1,h (.tup a us) _ rfl ⟨R.same,R.ok.1,fun c m=>R.src c (by simpa[T.rests] using m),fun b m=>R.new b (by simp only[T.adrs,aaF];exact T.adr_le _ (Nat.sub_le _ _) m),hn⟩⟩⟩
  |_=>exact nE h
 ·exact nE h
end
end
section
variable{p:Px}{EX:EXT}{tn:List Nat}{X:Cx}{pos np:Pos}
theorem NS{ns:List Int}{its:List Value}(h:Vals (ns.map V.int) its):∃xs:Array (Int×Tok),its.toArray=intItems xs/\ns=xs.toList.map (·.1):=by
 have hi:=Nz h
 obtain⟨xs,hx⟩:=hi.allInts.items
 refine⟨xs,hx,?_⟩
 rw[<- nums_intItems,<- hx,<- hi.numsOf]
abbrev WV:List V->Hp->VK->Prop:=fun xs H Q=>∃(l:Addr)(ns:List Int)(M:Int),xs=[.ref l]/\Rd H l (.lst (ns.map V.int))/\ns.max?=some M/\Q (.int M) H
theorem Ph(hc:X.calm=true):Eg X (.builtin "max") WV:=by
 intro pins s σ H xs us Q I r h
 obtain⟨l,ns,M,rfl,hS,hM,q⟩:=h
 obtain⟨u,rfl,ru⟩:=G9 r
 cases (show u=Value.ref l from ru)
 obtain⟨its,rr,pl,_⟩:=I.list (.inl hS)
 obtain⟨xs,hx,rfl⟩:=NS rr
 have hl:=pl.isList
 rw[hx]at hl
 have hne:0<xs.size:=by
  rcases acr xs.size with z|z
  ·have:xs.toList=[]:=acn (by simpa using z)
   rw[this]at hM;cases hM
  ·exact z
 refine max_intList (I.ok.hd hc) hl hne fun v h' tk hv hk=>?_
 obtain⟨t,rfl⟩:=intItems_at hv
 obtain⟨h1,h2⟩:=argBest_gt (numAt xs) (xs.size-1)
 have e:M=numAt xs (argBest (fun i j=>decide (numAt xs i>numAt xs j)) (xs.size-1)):=by
  have:(xs.toList.map (·.1)).max?=some (numAt xs (argBest (fun i j=>decide (numAt xs i>numAt xs j)) (xs.size-1))):=by
   refine acg.mpr ⟨?_,fun a ha=>?_⟩
   ·rw[numAt_eq];exact getD_mem (by rw[aab,Array.length_toList];omega)
   ·obtain⟨j,hj,rfl⟩:=mem_getD ha
    rw[aab,Array.length_toList]at hj
    rw[<- numAt_eq];exact h2 j (by omega)
  exact Option.some.inj (hM.symm.trans this)
 exact⟨.int M,H,I.kept (t':=tk) hk,⟨t,by rw[e]⟩,q⟩
section
variable{e:Expr}{es:List Expr}{x:E}{xs:Es}(hg:∀y:Str,y∈(["len", "min", "max", "abs", "int", "list", "tuple", "all", "any", "sum", "sorted", "isinstance", "str", "range", "enumerate", "zip", "reversed"]:List Str)->X.mg y=none)
 (ha:PA X (e::es) (lEs p EX tn (.cons x xs))) (hst:(e::es).all Ad=true)
include hg ha hst
theorem QO(hcm:X.calm=true)(hgl:Gl X "max"):PE X (.Call (.Name "max" np) (e::es) [] pos) (lE p EX tn (.bi .maxL (.cons x xs))):=by
 rw[aaS,aaf]at hst
 refine E8 (es:=es) (e:=e) (D0 (Ph hcm) hgl (hg _ (by simp)) (by decide +kernel) ha (by decide) (by decide) (Ae hst.1) (Ba hst.2)) fun B H H1 j1 k1 j k ts σ Q R hj h=>?_
 rcases ts with _|⟨t,_|⟨u,r⟩⟩
 ·exact nE h
 ·cases t with
  |lst a us=>
   have h:Lg p EX σ ((Fc (De (T.dats us))).bind fun ns=>(Fc ns.max?).bind fun n=>.ok (.int n)) H (KE p B H j k Q):=h
   cases q:De (T.dats us) with
   |none=>rw[q]at h;exact nE h
   |some ns=>
    rw[q]at h
    have h:Lg p EX σ ((Fc ns.max?).bind fun n=>.ok (.int n)) H (KE p B H j k Q):=h
    cases q2:ns.max? with
    |none=>rw[q2]at h;exact nE h
    |some M=>
     rw[q2]at h
     exact⟨a,ns,M,rfl,HD q▸R.ok.1.1,q2,h (.int _) H1 rfl (Rs.scal R.same rfl)⟩
  |_=>exact nE h
 ·exact nE h
theorem S9(hcm:X.calm=true)(hgl:Gl X "min"):PE X (.Call (.Name "min" np) (e::es) [] pos) (lE p EX tn (.bi .min (.cons x xs))):=by
 rw[aaS,aaf]at hst
 refine E8 (es:=es) (e:=e) (D0 (OH hcm) hgl (hg _ (by simp)) (by decide +kernel) ha (by decide) (by decide) (Ae hst.1) (Ba hst.2)) fun B H H1 j1 k1 j k ts σ Q R hj h=>?_
 rcases ts with _|⟨t,_|⟨u,_|⟨v,r⟩⟩⟩
 ·exact nE h
 ·exact nE h
 ·obtain⟨i,m,rfl,rfl,h⟩:=CT (t:=t) (u:=u) (Q:=fun r=>Lg p EX σ r H (KE p B H j k Q)) id h
  refine⟨i,m,rfl,?_⟩
  have:=h (.int _) H1 rfl (Rs.scal R.same rfl)
  have e:(if m<i then m else i)=min i m:=by split<;>omega
  rw[e];exact this
 ·exact nE h
end
end
structure ItOk(p:Px)(B:Addr->Prop)(H H1:Hp)(J:L2.It)(us:List T)(j:Nat)(ds:List D):Prop where
 same:Same H H1
 ok:T.Oks p H1 us
 src:∀a∈T.rests us j,H a=none\/B a
 len:ds.length<=sizeLine
 go:∀(i:Nat)(H':Hp),T.Oks p H' us->i<ds.length->J.go i H'
 stop:∀(i:Nat)(H':Hp),T.Oks p H' us->ds.length<=i->J.stop i H'
 yld:∀(i:Nat)(H':Hp)(v:V)(H'':Hp)(d:D),T.Oks p H' us->ds[i]?=some d->J.yld i H' v H''->Same H' H''/\∃t:T,t.val=v/\t.dat=d/\t.Ok p H''/\(∀a∈t.rest 0,a∈T.rests us 0)/\∀a∈t.rest 0,H a=none\/B a
abbrev lI(p:Px)(EX:EXT)(tn:List Nat)(it:It):TI:=fun σ H R=>∃τ,σ=vτ τ/\Fok p tn τ H/\∃j,jkI tn it=some j/\Lg p EX σ (evI it (dτ τ)) H fun ds=>∀J us H1,ItOk p (Sh tn τ) H H1 J us j ds->R J H1
theorem PI.mono{X:Cx}{tg e:Expr}{t t':TI}(h:PI X tg e t)(m:∀σ H Q,t' σ H Q->t σ H Q):PI X tg e t':=fun pins s σ H Q I q=>h pins s σ H Q I (m _ _ _ q)
section
variable{p:Px}{EX:EXT}{tn:List Nat}{X:Cx}{pos np:Pos}{tg:Expr}
theorem D5{ts:List T}{i:Nat}{d:D}(h:(T.dats ts)[i]?=some d):∃t,ts[i]?=some t/\t.dat=d:=by
 rw[T.dats_map,aal]at h
 obtain⟨t,h1,h2⟩:=aax.mp h
 exact⟨t,h1,h2⟩
theorem GE(hK:X.K=p.K){B:Addr->Prop}{H H1:Hp}{j k:Nat}{a:Addr}{ts:List T}(r:Rs p B H H1 j k (.lst a ts))(hj:j<=1)(hl:ts.length<=sizeLine):ItOk p B H H1 (Itl X.K a) [.lst a ts] j (T.dats ts) where
 same:=r.same
 ok:=⟨r.ok,trivial⟩
 src:=fun b m=>r.src b (by simpa[T.rests] using m)
 len:=by rw[Ag];exact hl
 go:=fun i H' ok h=>by
  rw[Ag]at h
  exact⟨_,(ts.map T.val)[i]'(by simpa using h),.inl ok.1.1,by simp[h]⟩
 stop:=fun i H' ok h=>⟨_,.inl ok.1.1,by simpa[Ag] using h⟩
 yld:=fun i H' v H'' d ok h y=>by
  obtain⟨rfl,y⟩:=y
  obtain⟨t,ht,e⟩:=D5 h
  have:=y _ (.inl ok.1.1)
  rw[aal,ht]at this
  refine⟨Same.refl _,t,Option.some.inj this,e,T.oks_iff.mp ok.1.2 t (aaj ht),fun b m=>by simp only[T.rests,T.rest,aaF];exact aaa _ (T.mem_rests.mpr ⟨t,aaj ht,m⟩),fun b m=>r.elems hj b (T.mem_rests.mpr ⟨t,aaj ht,m⟩)⟩
theorem QP{B:Addr->Prop}{H H1:Hp}{k:Nat}{a:Addr}{ts:List T}(r:Rs p B H H1 0 k (.tup a ts))(hl:ts.length<=sizeLine):ItOk p B H H1 (Itt X.K a) [.tup a ts] 0 (T.dats ts) where
 same:=r.same
 ok:=⟨r.ok,trivial⟩
 src:=fun b m=>r.src b (by simpa[T.rests] using m)
 len:=by rw[Ag];exact hl
 go:=fun i H' ok h=>by
  rw[Ag]at h
  exact⟨_,(ts.map T.val)[i]'(by simpa using h),SqT.of ok.1.1,by simp[h]⟩
 stop:=fun i H' ok h=>⟨_,SqT.of ok.1.1,by simpa[Ag] using h⟩
 yld:=fun i H' v H'' d ok h y=>by
  obtain⟨rfl,y⟩:=y
  obtain⟨t,ht,e⟩:=D5 h
  have:=y _ (SqT.of ok.1.1)
  rw[aal,ht]at this
  refine⟨Same.refl _,t,Option.some.inj this,e,T.oks_iff.mp ok.1.2 t (aaj ht),fun b m=>by simp only[T.rests,T.rest,aaF];exact T.mem_rests.mpr ⟨t,aaj ht,m⟩,fun b m=>r.src b (T.mem_rests.mpr ⟨t,aaj ht,m⟩)⟩
abbrev QQ(K:Frag)(tl:TE):TI:=fun σ H R=>tl σ H fun x H1=>∃a,x=.ref a/\((∃xs,SqL K H1 a xs/\(xs.length<=sizeLine->R (Itl K a) H1))\/(∃xs,SqT K H1 a xs/\(xs.length<=sizeLine->R (Itt K a) H1)))
theorem IH{l:Expr}{tl:TE}(hl:PE X l tl):PI X tg l (QQ X.K tl):=by
 intro pins s σ H R I h
 refine thn (hl pins s σ H _ I h) fun v s1 ⟨x,H1,I1,r1,q1⟩=>?_
 obtain⟨a,e,q1⟩:=q1
 subst e
 cases r1
 rcases q1 with⟨xs,hq,q⟩|⟨xs,hq,q⟩
 ·obtain⟨its,rv,pl,hz⟩:=I1.list hq
  refine wpAny_pyIter_list pl.isList ?_
  refine⟨s1.heap.objs.size,[s1.heap.objs.size],_,_,H1,rfl,I1.kept (t':=s1.toks) fun b o e=>Heap.get?_push_of_some _ e,OC a _,⟨_,Heap.get?_push_size _ rfl,rfl,rfl⟩,fun b hb=>?_,q hz⟩
  have e:b=s1.heap.objs.size:=by simpa using hb
  subst e
  exact I1.fpOk (aai _) (I1.hok.fresh (aai _))
 ·obtain⟨its,rv,pl,hz⟩:=I1.tuple hq
  refine wpAny_pyIter_tuple (show s1.heap.IsTuple a its.toArray from pl) ?_
  refine⟨s1.heap.objs.size,[s1.heap.objs.size],_,_,H1,rfl,I1.kept (t':=s1.toks) fun b o e=>Heap.get?_push_of_some _ e,Nq a _,⟨_,Heap.get?_push_size _ rfl,rfl,rfl⟩,fun b hb=>?_,q hz⟩
  have e:b=s1.heap.objs.size:=by simpa using hb
  subst e
  exact I1.fpOk (aai _) (I1.hok.fresh (aai _))
theorem QR(hK:X.K=p.K){e:Expr}{x:E}(he:PE X e (lE p EX tn x)):PI X tg e (lI p EX tn (.seq x)):=by
 refine PI.mono (IH he) fun σ H R h=>?_
 obtain⟨τ,rfl,hF,j,hj,h⟩:=h
 simp only[jkI]at hj
 obtain⟨⟨j1,k1⟩,h1,hj⟩:=bS hj
 split at hj
 ·rename_i z
  cases hj
  have z:j1=0:=z
  subst z
  simp only[evI]at h
  refine l1 hF h1 h fun d t H1 ht r h=>?_
  subst ht
  cases t with
  |lst a ts=>exact⟨a,rfl,.inl ⟨_,.inl r.ok.1,fun hz=>h _ _ _ (GE hK r (by omega) (by simpa using hz))⟩⟩
  |tup a ts=>exact⟨a,rfl,.inr ⟨_,SqT.of r.ok.1,fun hz=>h _ _ _ (QP r (by simpa using hz))⟩⟩
  |_=>exact nE h
 ·cases hj
theorem Pi(hK:X.K=p.K){e:Expr}{x:E}(he:PE X e (lE p EX tn x)):PI X tg e (lI p EX tn (.seqL x)):=by
 refine PI.mono (IH he) fun σ H R h=>?_
 obtain⟨τ,rfl,hF,j,hj,h⟩:=h
 simp only[jkI]at hj
 obtain⟨⟨j1,k1⟩,h1,hj⟩:=bS hj
 split at hj
 ·rename_i z
  cases hj
  simp only[evI]at h
  refine l1 hF h1 h fun d t H1 ht r h=>?_
  subst ht
  cases t with
  |lst a ts=>exact⟨a,rfl,.inl ⟨_,.inl r.ok.1,fun hz=>h _ _ _ (GE hK r z (by simpa using hz))⟩⟩
  |_=>exact nE h
 ·cases hj
theorem QS(hK:X.K=p.K){B:Addr->Prop}{H H1:Hp}{j k:Nat}{a:Addr}{ts:List T}(r:Rs p B H H1 j k (.lst a ts))(hj:j<=1)(hl:ts.length<=sizeLine):ItOk p B H H1 (Itb X.K a ts.length) [.lst a ts] j (T.dats ts).reverse where
 same:=r.same
 ok:=⟨r.ok,trivial⟩
 src:=fun b m=>r.src b (by simpa[T.rests] using m)
 len:=by rw[abL,Ag];exact hl
 go:=fun i H' ok h=>by
  rw[abL,Ag]at h
  exact⟨_,(ts.map T.val)[ts.length-1-i]'(by simp;omega),.inl ok.1.1,h,aae (by simp;omega)⟩
 stop:=fun i H' ok h=>by
  rw[abL,Ag]at h
  exact h
 yld:=fun i H' v H'' d ok h y=>by
  obtain⟨rfl,y⟩:=y
  have hi:=(aaz.mp h).1
  rw[acV (by simpa using hi),Ag]at h
  obtain⟨t,ht,e⟩:=D5 h
  have:=y _ (.inl ok.1.1)
  rw[aal,ht]at this
  exact⟨Same.refl _,t,Option.some.inj this,e,T.oks_iff.mp ok.1.2 t (aaj ht),fun b m=>by simp only[T.rests,T.rest,aaF];exact aaa _ (T.mem_rests.mpr ⟨t,aaj ht,m⟩),fun b m=>r.elems hj b (T.mem_rests.mpr ⟨t,aaj ht,m⟩)⟩
theorem Ta(hK:X.K=p.K){e:Expr}{x:E}{np pos:Pos}(he:PE X e (lE p EX tn x))(hst:Ad e=true)(hg:Gl X "reversed")(hm:X.mg "reversed" = none):PI X tg (.Call (.Name "reversed" np) [e] [] pos) (lI p EX tn (.rv x)):=by
 refine PI.mono (Vp hg hm (Ar he AW (Ae hst)) (Ae hst)) fun σ H R h=>?_
 obtain⟨τ,rfl,hF,j,hj,h⟩:=h
 simp only[jkI]at hj
 obtain⟨⟨j1,k1⟩,h1,hj⟩:=bS hj
 split at hj
 ·rename_i z
  cases hj
  simp only[evI]at h
  refine l1 hF h1 h fun d t H1 ht r h=>?_
  subst ht
  cases t with
  |lst a ts=>
   refine⟨a,_,rfl,.inl r.ok.1,fun hz=>?_⟩
   have hl:(ts.map T.val).length=ts.length:=aab ..
   rw[hl]at hz ⊢
   exact h _ _ _ (QS hK r z hz)
  |_=>exact nE h
 ·cases hj
theorem II{B:Addr->Prop}{H H1:Hp}{a b:Int}(s:Same H H1)(hl:(b-a).toNat<=LIM):ItOk p B H H1 (Itr a (b-a).toNat) [] 0 (Aw a b) where
 same:=s
 ok:=trivial
 src:=fun c m=>nomatch m
 len:=by unfold Aw;rw[aab,aaP];exact hl
 go:=fun i H' _ h=>by unfold Aw at h;rw[aab,aaP]at h;exact h
 stop:=fun i H' _ h=>by unfold Aw at h;rw[aab,aaP]at h;exact h
 yld:=fun i H' v H'' d _ h y=>by
  obtain⟨rfl,rfl⟩:=y
  unfold Aw at h
  rw[aal]at h
  obtain⟨n,h1,h2⟩:=aax.mp h
  have:n=i:=by
   obtain⟨_,e⟩:=aaz.mp h1
   simpa using e.symm
  subst this
  exact⟨Same.refl _,.int (a+n),rfl,h2,trivial,by simp[T.rest],by simp[T.rest]⟩
theorem AC{i:Int}(h:AE i=true):-(2^62)<=i/\i<2^62:=by
 unfold AE at h
 rw[aaf]at h
 exact⟨of_decide_eq_true h.1,of_decide_eq_true h.2⟩
theorem Tb{e:Expr}{x:E}(he:PE X e (lE p EX tn x))(hst:Ad e=true)(hg:Gl X "range")(hm:X.mg "range" = none):PI X tg (.Call (.Name "range" np) [e] [] pos) (lI p EX tn (.r1 x)):=by
 refine PI.mono (OD hg hm (Ar he AW (Ae hst)) (Ae hst)) fun σ H R h=>?_
 obtain⟨τ,rfl,hF,j,hj,h⟩:=h
 simp only[jkI]at hj
 obtain⟨⟨j1,k1⟩,h1,hj⟩:=bS hj
 cases hj
 simp only[evI]at h
 refine l1 hF h1 h fun d t H1 ht r h=>?_
 subst ht
 cases t with
 |int b=>
  obtain⟨hc,h⟩:=Lg.guard (r:=.ok (Aw 0 b)) h
  rw[aaf,aaf]at hc
  obtain⟨h3,h4⟩:=AC hc.1.2
  have hl:=of_decide_eq_true hc.2
  have:=h _ _ _ (II (p:=p) r.same hl)
  rw[ack]at this
  exact⟨b,rfl,h3,h4,this⟩
 |_=>exact nE h
theorem Tc{e e':Expr}{x y:E}(he:PE X e (lE p EX tn x))(he':PE X e' (lE p EX tn y))(hst:Ad e=true)(hst':Ad e'=true)(hg:Gl X "range")(hm:X.mg "range" = none):PI X tg (.Call (.Name "range" np) [e,e'] [] pos) (lI p EX tn (.r2 x y)):=by
 refine PI.mono (OE hg hm (Ar he (Ar he' AW (Ae hst')) (Ae hst)) (by rw[Ae hst,Ae hst'];rfl) (Ae hst')) fun σ H R h=>?_
 obtain⟨τ,rfl,hF,j,hj,h⟩:=h
 simp only[jkI]at hj
 obtain⟨⟨j1,k1⟩,h1,hj⟩:=bS hj
 obtain⟨⟨j2,k2⟩,h2,hj⟩:=bS hj
 cases hj
 simp only[evI]at h
 refine l1 hF h1 h fun d t H1 ht r h=>l2 hF r.same h2 h fun d' t' H2 ht' r' h=>?_
 subst ht ht'
 cases t with
 |int a=>
  cases t' with
  |int b=>
   obtain⟨hc,h⟩:=Lg.guard (r:=.ok (Aw a b)) h
   rw[aaf,aaf]at hc
   exact⟨a,b,rfl,⟨(AC hc.1.1).1,(AC hc.1.1).2,(AC hc.1.2).1,(AC hc.1.2).2⟩,h _ _ _ (II (p:=p) (r.same.trans r'.same) (of_decide_eq_true hc.2))⟩
  |_=>exact nE h
 |_=>exact nE h
theorem Pj{a b c:Int}(hc:c≠0):r3N a b c=(Builtin.Range.rangeSize a b c).toNat:=by
 have key:∀x c:Int,0<c->((x+c-1)/c).toNat=(if 0<x then(x-1)/c+1 else 0).toNat:=fun x c hc=>by
  split
  ·rw[show x+c-1=x-1+1*c by omega,Int.add_mul_ediv_right _ _ (by omega)]
  ·have:(x+c-1)/c<1:=Int.ediv_lt_of_lt_mul hc (by omega)
   show _=0
   omega
 unfold r3N Builtin.Range.rangeSize
 by_cases h:0<c
 ·rw[if_pos h,if_pos h,key (b-a) c h]
  by_cases z:a<b
  ·rw[if_pos z,if_pos (by omega)]
  ·rw[if_neg z,if_neg (by omega)]
 ·rw[if_neg h,if_neg h,key (a-b) (-c) (by omega)]
  by_cases z:a>b
  ·rw[if_pos z,if_pos (by omega)]
  ·rw[if_neg z,if_neg (by omega)]
theorem Td{B:Addr->Prop}{H H1:Hp}{a c:Int}{n:Nat}(s:Same H H1)(hl:n<=LIM):ItOk p B H H1 (Qx a c n) [] 0 (EG a c n) where
 same:=s
 ok:=trivial
 src:=fun c m=>nomatch m
 len:=by unfold EG;rw[aab,aaP];exact hl
 go:=fun i H' _ h=>by unfold EG at h;rw[aab,aaP]at h;exact h
 stop:=fun i H' _ h=>by unfold EG at h;rw[aab,aaP]at h;exact h
 yld:=fun i H' v H'' d _ h y=>by
  obtain⟨rfl,rfl⟩:=y
  unfold EG at h
  rw[aal]at h
  obtain⟨n,h1,h2⟩:=aax.mp h
  have:n=i:=by
   obtain⟨_,e⟩:=aaz.mp h1
   simpa using e.symm
  subst this
  exact⟨Same.refl _,.int (a+n*c),rfl,h2,trivial,by simp[T.rest],by simp[T.rest]⟩
theorem Te{e e' e2:Expr}{x y z:E}(he:PE X e (lE p EX tn x))(he':PE X e' (lE p EX tn y))(he2:PE X e2 (lE p EX tn z))(hst:Ad e=true)(hst':Ad e'=true)(hst2:Ad e2=true)(hg:Gl X "range")(hm:X.mg "range" = none):PI X tg (.Call (.Name "range" np) [e,e',e2] [] pos) (lI p EX tn (.r3 x y z)):=by
 refine PI.mono (OY hg hm (Ar he (Ar he' (Ar he2 AW (Ae hst2)) (Ae hst')) (Ae hst)) (by rw[Ae hst,Ae hst',Ae hst2];rfl) (by rw[Ae hst',Ae hst2];rfl)) fun σ H R h=>?_
 obtain⟨τ,rfl,hF,j,hj,h⟩:=h
 simp only[jkI]at hj
 obtain⟨⟨j1,k1⟩,h1,hj⟩:=bS hj
 obtain⟨⟨j2,k2⟩,h2,hj⟩:=bS hj
 obtain⟨⟨j3,k3⟩,h3,hj⟩:=bS hj
 cases hj
 simp only[evI]at h
 refine l1 hF h1 h fun d t H1 ht r h=>l2 hF r.same h2 h fun d' t' H2 ht' r' h=>l2 hF (r.same.trans r'.same) h3 h fun d2 t2 H3 ht2 r2 h=>?_
 subst ht ht' ht2
 cases t with
 |int a=>
  cases t' with
  |int b=>
   cases t2 with
   |int c=>
    obtain⟨hc,h⟩:=Lg.guard (r:=.ok (EG a c (r3N a b c))) h
    rw[aaf,aaf,aaf,aaf]at hc
    have h0:=of_decide_eq_true hc.1.2
    have hl:=of_decide_eq_true hc.2
    rw[Pj h0]at hl h
    exact⟨a,b,c,rfl,⟨(AC hc.1.1.1.1).1,(AC hc.1.1.1.1).2,(AC hc.1.1.1.2).1,(AC hc.1.1.1.2).2,(AC hc.1.1.2).1,(AC hc.1.1.2).2⟩,h0,hl,h _ _ _ (Td (p:=p) ((r.same.trans r'.same).trans r2.same) hl)⟩
   |_=>exact nE h
  |_=>exact nE h
 |_=>exact nE h
abbrev iEn(K:Frag)(ta:TA):TI:=fun σ H R=>ta σ H fun vs H1=>∃a,vs=[.ref a]/\∃xs,SqL K H1 a xs/\(xs.length<=sizeLine->R (Ite K a) H1)
theorem Tf{e:Expr}{ta:TA}{elts:List Expr}{k1:Nat}{q:Pos}(hg:Gl X "enumerate")(hm:X.mg "enumerate" = none)(ha:PA X [e] ta)(hs:starEach [e] X.env=[(false,eval e X.env)]):PI X (.Tuple elts k1 q) (.Call (.Name "enumerate" np) [e] [] pos) (iEn X.K ta):=by
 intro pins s σ H R I h
 refine Call_ (Bu I hg hm (show bootBuiltins "enumerate" = some (.type "enumerate") by decide +kernel) (PyProof.Rows.callWith_type1 (thn (ha pos pins s σ H _ I h) fun us s1 ⟨vs,H1,I1,r1,q1⟩=>?_) hs rfl))
 obtain⟨a,e,xs,hq,q⟩:=q1
 subst e
 cases r1 with
 |cons r rr=>
  cases rr
  cases r
  obtain⟨its,rv,pl,hz⟩:=I1.list hq
  refine call_enumerate_list pl.isList fun h' hE hI hsz hk=>wpAny_pyIter_enum hE ?_
  refine⟨s1.heap.objs.size+1,[s1.heap.objs.size+1,s1.heap.objs.size],_,_,H1,rfl,I1.kept (t':=s1.toks) hk,OW a _ _ (Nat.succ_ne_self _),⟨⟨_,hE⟩,hI⟩,fun b hb=>?_,q hz⟩
  rcases aak.mp hb with rfl|hb
  ·exact I1.fpOk (abR _) (I1.hok.fresh (abR _))
  ·cases aaE.mp hb
   exact I1.fpOk (aai _) (I1.hok.fresh (aai _))
theorem Pk(hK:X.K=p.K){B:Addr->Prop}{H H1:Hp}{j k:Nat}{a:Addr}{ts:List T}(r:Rs p B H H1 j k (.lst a ts))(hj:j<=1)(hl:ts.length<=sizeLine):ItOk p B H H1 (Ite X.K a) [.lst a ts] j (A5 (T.dats ts)) where
 same:=r.same
 ok:=⟨r.ok,trivial⟩
 src:=fun b m=>r.src b (by simpa[T.rests] using m)
 len:=by unfold A5;rw[aab,acs,Ag];exact hl
 go:=fun i H' ok h=>by
  unfold A5 at h
  rw[aab,acs,Ag]at h
  exact⟨_,(ts.map T.val)[i]'(by simpa using h),.inl ok.1.1,by simp[h]⟩
 stop:=fun i H' ok h=>by
  unfold A5 at h
  rw[aab,acs,Ag]at h
  exact⟨_,.inl ok.1.1,by simpa using h⟩
 yld:=fun i H' v H'' d ok h y=>by
  obtain⟨t0,hn,rfl,y⟩:=y
  unfold A5 at h
  rw[aal,acl]at h
  obtain⟨d0,h1,rfl⟩:=aax.mp h
  obtain⟨d1,h2,rfl⟩:=aax.mp h1
  obtain⟨t,ht,rfl⟩:=D5 h2
  have:=y _ t.val (.inl ok.1.1) (by rw[aal,ht];rfl)
  subst this
  have s0:=Same.new (o:=.tup [.int i,t.val]) hn
  have okt:=T.oks_iff.mp ok.1.2 t (aaj ht)
  refine⟨s0,.tup t0 [.int i,t],rfl,?_,⟨Aq,trivial,okt.keep (fun a u e _=>s0 a u e),trivial⟩,fun b m=>?_,fun b m=>?_⟩
  ·simp[T.dat,T.dats]
  ·have m:b∈t.rest 0:=by simpa[T.rest,T.rests] using m
   simp only[T.rests,T.rest,aaF];exact aaa _ (T.mem_rests.mpr ⟨t,aaj ht,m⟩)
  ·have m:b∈t.rest 0:=by simpa[T.rest,T.rests] using m
   exact r.elems hj b (T.mem_rests.mpr ⟨t,aaj ht,m⟩)
theorem Th(hK:X.K=p.K){e:Expr}{x:E}{elts:List Expr}{k1:Nat}{q:Pos}(he:PE X e (lE p EX tn x))(hst:Ad e=true)(hg:Gl X "enumerate")(hm:X.mg "enumerate" = none):PI X (.Tuple elts k1 q) (.Call (.Name "enumerate" np) [e] [] pos) (lI p EX tn (.en x)):=by
 refine PI.mono (Tf hg hm (Ar he AW (Ae hst)) (Ae hst)) fun σ H R h=>?_
 obtain⟨τ,rfl,hF,j,hj,h⟩:=h
 simp only[jkI]at hj
 obtain⟨⟨j1,k1⟩,h1,hj⟩:=bS hj
 split at hj
 ·rename_i z
  cases hj
  simp only[evI]at h
  refine l1 hF h1 h fun d t H1 ht r h=>?_
  subst ht
  cases t with
  |lst a ts=>exact⟨a,rfl,_,.inl r.ok.1,fun hz=>h _ _ _ (Pk hK r z (by simpa using hz))⟩
  |_=>exact nE h
 ·cases hj
theorem Res.bind_assoc{α β γ:Type}(r:Res α)(f:α->Res β)(g:β->Res γ):(r.bind f).bind g=r.bind fun a=>(f a).bind g:=by cases r<;>rfl
theorem Pl(hcm:X.calm=true){e e':Expr}{x y:E}{np2 pos2:Pos}(he:PE X e (lE p EX tn x))(he':PE X e' (lE p EX tn y))(hst:Ad e=true)(hst':Ad e'=true)(hgl:Gl X "list")(hml:X.mg "list" = none)(hg:Gl X "range")(hm:X.mg "range" = none):PE X (.Call (.Name "list" np) [.Call (.Name "range" np2) [e,e'] [] pos2] [] pos) (lE p EX tn (.listI (.r2 x y))):=by
 refine PE.mono (Qw hcm hgl hml hg hm (Ar he (Ar he' AW (Ae hst')) (Ae hst)) (by rw[Ae hst,Ae hst'];rfl) (Ae hst')) fun σ H Q h=>?_
 obtain⟨τ,rfl,hF,j,k,hj,h⟩:=h
 simp only[jk,jkI]at hj
 obtain⟨j0,hj0,hj⟩:=bS hj
 obtain⟨⟨j1,k1⟩,h1,hj0⟩:=bS hj0
 obtain⟨⟨j2,k2⟩,h2,hj0⟩:=bS hj0
 cases hj
 simp only[ev,evI,Res.bind_assoc]at h
 refine l1 hF h1 h fun d t H1 ht r h=>l2 hF r.same h2 h fun d' t' H2 ht' r' h=>?_
 subst ht ht'
 cases t with
 |int a=>
  cases t' with
  |int b=>
   have h:Lg p EX (vτ τ) ((if(AE a&&AE b&&decide ((b-a).toNat<=LIM))=true then Res.ok (Aw a b) else .bad).bind fun ds=>.ok (.lst ds)) H (KE p (Sh tn τ) H 0 1 Q):=h
   by_cases hc:(AE a&&AE b&&decide ((b-a).toNat<=LIM))=true
   ·rw[if_pos hc,Res.bind_ok]at h
    rw[aaf,aaf]at hc
    refine⟨a,b,rfl,⟨(AC hc.1.1).1,(AC hc.1.1).2,(AC hc.1.2).1,(AC hc.1.2).2⟩,of_decide_eq_true hc.2,fun l hl=>?_⟩
    have e:(aan (b-a).toNat).map (fun k=>V.int (a+(k:Nat)))=((aan (b-a).toNat).map fun k=>T.int (a+(k:Nat))).map T.val:=by rw[aaB];rfl
    rw[e]
    refine h (.lst l ((aan (b-a).toNat).map fun k=>T.int (a+(k:Nat)))) _ ?_ (DN (r.same.trans r'.same) (T.oks_iff.mpr fun w hw=>?_) (fun c m=>?_) hl)
    ·rw[T.dat,T.dats_map,aaB];rfl
    ·obtain⟨_,_,rfl⟩:=aat.mp hw;trivial
    ·obtain⟨w,hw,m⟩:=T.mem_rests.mp m
     obtain⟨_,_,rfl⟩:=aat.mp hw
     simp[T.rest]at m
   ·rw[if_neg hc]at h;exact nE h
  |_=>exact nE h
 |_=>exact nE h
theorem NT(hcm:X.calm=true){e':Expr}{y:E}{np2 pos2:Pos}(he':PE X e' (lE p EX tn y))(hst':Ad e'=true)(hgl:Gl X "list")(hml:X.mg "list" = none)(hg:Gl X "range")(hm:X.mg "range" = none):PE X (.Call (.Name "list" np) [.Call (.Name "range" np2) [e'] [] pos2] [] pos) (lE p EX tn (.listI (.r1 y))):=by
 refine PE.mono (OX hcm hgl hml hg hm (Ar he' AW (Ae hst')) (Ae hst')) fun σ H Q h=>?_
 obtain⟨τ,rfl,hF,j,k,hj,h⟩:=h
 simp only[jk,jkI]at hj
 obtain⟨j0,hj0,hj⟩:=bS hj
 obtain⟨⟨j2,k2⟩,h2,hj0⟩:=bS hj0
 cases hj
 simp only[ev,evI,Res.bind_assoc]at h
 refine l1 hF h2 h fun d' t' H2 ht' r' h=>?_
 subst ht'
 cases t' with
  |int b=>
   have h:Lg p EX (vτ τ) ((if(AE 0&&AE b&&decide ((b-0).toNat<=LIM))=true then Res.ok (Aw 0 b) else .bad).bind fun ds=>.ok (.lst ds)) H (KE p (Sh tn τ) H 0 1 Q):=h
   by_cases hc:(AE 0&&AE b&&decide ((b-0).toNat<=LIM))=true
   ·rw[if_pos hc,Res.bind_ok]at h
    rw[aaf,aaf]at hc
    refine⟨b,rfl,⟨(AC hc.1.2).1,(AC hc.1.2).2⟩,of_decide_eq_true hc.2,fun l hl=>?_⟩
    have e:(aan (b-0).toNat).map (fun k=>V.int (0+(k:Nat)))=((aan (b-0).toNat).map fun k=>T.int (0+(k:Nat))).map T.val:=by rw[aaB];rfl
    rw[e]
    refine h (.lst l ((aan (b-0).toNat).map fun k=>T.int (0+(k:Nat)))) _ ?_ (DN r'.same (T.oks_iff.mpr fun w hw=>?_) (fun c m=>?_) hl)
    ·rw[T.dat,T.dats_map,aaB];rfl
    ·obtain⟨_,_,rfl⟩:=aat.mp hw;trivial
    ·obtain⟨w,hw,m⟩:=T.mem_rests.mp m
     obtain⟨_,_,rfl⟩:=aat.mp hw
     simp[T.rest]at m
   ·rw[if_neg hc]at h;exact nE h
  |_=>exact nE h
theorem NU(hcm:X.calm=true){e e' e2:Expr}{x y z:E}{np2 pos2:Pos}(he:PE X e (lE p EX tn x))(he':PE X e' (lE p EX tn y))(he2:PE X e2 (lE p EX tn z))(hst:Ad e=true)(hst':Ad e'=true)(hst2:Ad e2=true)(hgl:Gl X "list")(hml:X.mg "list" = none)(hg:Gl X "range")(hm:X.mg "range" = none):PE X (.Call (.Name "list" np) [.Call (.Name "range" np2) [e,e',e2] [] pos2] [] pos) (lE p EX tn (.listI (.r3 x y z))):=by
 refine PE.mono (O0 hcm hgl hml hg hm (Ar he (Ar he' (Ar he2 AW (Ae hst2)) (Ae hst')) (Ae hst)) (by rw[Ae hst,Ae hst',Ae hst2];rfl) (by rw[Ae hst',Ae hst2];rfl)) fun σ H Q h=>?_
 obtain⟨τ,rfl,hF,j,k,hj,h⟩:=h
 simp only[jk,jkI]at hj
 obtain⟨j0,hj0,hj⟩:=bS hj
 obtain⟨⟨j1,k1⟩,h1,hj0⟩:=bS hj0
 obtain⟨⟨j2,k2⟩,h2,hj0⟩:=bS hj0
 obtain⟨⟨j3,k3⟩,h3,hj0⟩:=bS hj0
 cases hj
 simp only[ev,evI,Res.bind_assoc]at h
 refine l1 hF h1 h fun d t H1 ht r h=>l2 hF r.same h2 h fun d' t' H2 ht' r' h=>l2 hF (r.same.trans r'.same) h3 h fun d2 t2 H3 ht2 r2 h=>?_
 subst ht ht' ht2
 cases t with
 |int a=>
  cases t' with
  |int b=>
   cases t2 with
   |int c=>
    have h:Lg p EX (vτ τ) ((if(AE a&&AE b&&AE c&&decide (c≠0)&&decide (r3N a b c<=LIM))=true then Res.ok (EG a c (r3N a b c)) else .bad).bind fun ds=>.ok (.lst ds)) H (KE p (Sh tn τ) H 0 1 Q):=h
    by_cases hc:(AE a&&AE b&&AE c&&decide (c≠0)&&decide (r3N a b c<=LIM))=true
    ·rw[if_pos hc,Res.bind_ok]at h
     simp only[aaf]at hc
     have h0:c≠0:=of_decide_eq_true hc.1.2
     have hl:=of_decide_eq_true hc.2
     rw[Pj h0]at hl h
     refine⟨a,b,c,rfl,⟨(AC hc.1.1.1.1).1,(AC hc.1.1.1.1).2,(AC hc.1.1.1.2).1,(AC hc.1.1.1.2).2,(AC hc.1.1.2).1,(AC hc.1.1.2).2⟩,h0,hl,fun l hl2=>?_⟩
     have e:(aan (Builtin.Range.rangeSize a b c).toNat).map (fun k=>V.int (a+(k:Nat)*c))=((aan (Builtin.Range.rangeSize a b c).toNat).map fun k=>T.int (a+(k:Nat)*c)).map T.val:=by rw[aaB];rfl
     rw[e]
     refine h (.lst l ((aan (Builtin.Range.rangeSize a b c).toNat).map fun k=>T.int (a+(k:Nat)*c))) _ ?_ (DN ((r.same.trans r'.same).trans r2.same) (T.oks_iff.mpr fun w hw=>?_) (fun c m=>?_) hl2)
     ·rw[T.dat,T.dats_map,aaB];rfl
     ·obtain⟨_,_,rfl⟩:=aat.mp hw;trivial
     ·obtain⟨w,hw,m⟩:=T.mem_rests.mp m
      obtain⟨_,_,rfl⟩:=aat.mp hw
      simp[T.rest]at m
    ·rw[if_neg hc]at h;exact nE h
   |_=>exact nE h
  |_=>exact nE h
 |_=>exact nE h
theorem NV(hcm:X.calm=true)(hK:X.K=p.K){e':Expr}{y:E}{np2 pos2:Pos}(he':PE X e' (lE p EX tn y))(hst':Ad e'=true)(hgl:Gl X "list")(hml:X.mg "list" = none)(hg:Gl X "reversed")(hm:X.mg "reversed" = none):PE X (.Call (.Name "list" np) [.Call (.Name "reversed" np2) [e'] [] pos2] [] pos) (lE p EX tn (.listI (.rv y))):=by
 refine PE.mono (O3 hcm hgl hml hg hm (Ar he' AW (Ae hst')) (Ae hst')) fun σ H Q h=>?_
 obtain⟨τ,rfl,hF,j,k,hj,h⟩:=h
 simp only[jk,jkI]at hj
 obtain⟨j0,hj0,hj⟩:=bS hj
 obtain⟨⟨j2,k2⟩,h2,hj0⟩:=bS hj0
 cases hj
 by_cases hc:j2<=1
 ·simp only[ev,evI,Res.bind_assoc]at h
  refine l1 hF h2 h fun d' t' H2 ht' R h=>?_
  subst ht'
  cases t' with
  |lst b ts=>
   refine⟨b,_,rfl,.inl R.ok.1,fun q hq=>?_⟩
   rw[<- acG]
   refine h (.lst q ts.reverse) _ (by simp only[T.dat,T.dats_map,acG]) (DN R.same (T.oks_iff.mpr fun w hw=>T.oks_iff.mp R.ok.2 w (acd.mp hw)) (fun c m=>?_) hq)
   obtain⟨w,hw,m⟩:=T.mem_rests.mp m
   exact R.elems hc c (T.mem_rests.mpr ⟨w,acd.mp hw,m⟩)
  |_=>exact nE h
 ·rw[if_neg hc]at hj0;cases hj0
end
abbrev Cm:List Nat->List T->Ft->Option Ft
 |[],[],τ=>some τ
 |i::is,t::ts,τ=>Cm is ts (τ.set i (some t))
 |_,_,_=>none
abbrev Dg:Tg->T->Ft->Option Ft
 |.nm i,t,τ=>some (τ.set i (some t))
 |.tp is,.tup _ ts,τ=>Cm is ts τ
 |.tp is,.lst _ ts,τ=>Cm is ts τ
 |_,_,_=>none
theorem E9(τ:Ft)(i:Nat)(t:T):dτ (τ.set i (some t))=(dτ τ).set i (some t.dat):=by unfold dτ;rw[abJ];rfl
theorem He(τ:Ft)(i:Nat)(t:T):vτ (τ.set i (some t))=(vτ τ).set i (some t.val):=by unfold vτ;rw[abJ];rfl
theorem IJ:∀(is:List Nat)(ts:List T)(τ:Ft),FK is (T.dats ts) (dτ τ)=(Cm is ts τ).map dτ
 |[],[],τ=>rfl
 |[],t::ts,τ=>rfl
 |i::is,[],τ=>rfl
 |i::is,t::ts,τ=>by simp only[T.dats,FK,Cm];rw[<- E9,IJ is ts]
theorem GF(g:Tg)(t:T)(τ:Ft):Dq g t.dat (dτ τ)=(Dg g t τ).map dτ:=by
 cases g with
 |nm i=>simp only[Dq,Dg,aa6,E9]
 |tp is=>cases t<;>first|rfl|exact IJ is _ τ
abbrev Dh:List Nat->TGs
 |[]=>UU
 |i::r=>RF (DH i) (Dh r)
abbrev lG(K:Frag):Tg->TG
 |.nm i=>DH i
 |.tp is=>fun v σ H Q=>UV K is.length (Dh is) v σ H Q\/Vq K is.length (Dh is) v σ H Q
theorem GH{H:Hp}{Q:L2.St->Hp->Prop}:∀{is:List Nat}{ts:List T}{τ τ':Ft},Cm is ts τ=some τ'->Q (vτ τ') H->Dh is (ts.map T.val) (vτ τ) H Q
 |[],[],τ,τ',h,q=>by cases h;exact⟨rfl,q⟩
 |[],t::ts,τ,τ',h,q=>by cases h
 |i::is,[],τ,τ',h,q=>by cases h
 |i::is,t::ts,τ,τ',h,q=>by
  refine⟨t.val,ts.map T.val,rfl,?_⟩
  show Dh is (ts.map T.val) ((vτ τ).set i (some t.val)) H Q
  rw[<- He]
  exact GH (τ:=τ.set i (some t)) h q
theorem FD:∀{is:List Nat}{ts:List T}{τ τ':Ft},Cm is ts τ=some τ'->ts.length=is.length
 |[],[],τ,τ',h=>rfl
 |[],t::ts,τ,τ',h=>by cases h
 |i::is,[],τ,τ',h=>by cases h
 |i::is,t::ts,τ,τ',h=>by simp[FD (is:=is) (ts:=ts) (τ:=τ.set i (some t)) h]
theorem NW{K:Frag}{p:Px}{H:Hp}{g:Tg}{t:T}{τ τ':Ft}{Q:L2.St->Hp->Prop}(ok:t.Ok p H)(h:Dg g t τ=some τ')(q:Q (vτ τ') H):lG K g t.val (vτ τ) H Q:=by
 cases g with
 |nm i=>
  cases h
  show Q ((vτ τ).set i (some t.val)) H
  rw[<- He];exact q
 |tp is=>
  cases t with
  |tup a ts=>exact .inl ⟨a,ts.map T.val,rfl,SqT.of ok.1,by rw[aab];exact FD h,GH h q⟩
  |lst a ts=>exact .inr ⟨a,ts.map T.val,rfl,.inl ok.1,by rw[aab];exact FD h,GH h q⟩
  |_=>cases h
abbrev Tg.sl:Tg->List Nat
 |.nm i=>[i]
 |.tp is=>is
theorem FE{n:Nat}{H:Hp}{Q:L2.St->Hp->Prop}:∀{is:List Nat}{vs:List V}{σ:L2.St},(∀i∈is,i<n)->Dh is vs σ H Q->Dh is vs σ H fun σ' H'=>Q σ' H'/\σ'.length=σ.length/\∀i,n<=i->σ'[i]?=σ[i]?
 |[],vs,σ,_,h=>by obtain⟨e,q⟩:=h;exact⟨e,q,rfl,fun _ _=>rfl⟩
 |i::is,vs,σ,hi,h=>by
  obtain⟨v,r,e,h⟩:=h
  refine⟨v,r,e,?_⟩
  have h2:=FE (n:=n) (is:=is) (σ:=σ.set i (some v)) (fun j hj=>hi j (aaa _ hj)) h
  have mono:∀{is:List Nat}{vs:List V}{σ:L2.St}{H:Hp}{A B:L2.St->Hp->Prop},(∀s h,A s h->B s h)->Dh is vs σ H A->Dh is vs σ H B:=by
   intro is
   induction is with
   |nil=>intro vs σ H A B m h;exact⟨h.1,m _ _ h.2⟩
   |cons i is ih=>
    intro vs σ H A B m h
    obtain⟨v,r,e,h⟩:=h
    exact⟨v,r,e,ih m h⟩
  refine mono (fun s h q=>⟨q.1,by rw[q.2.1,aaM],fun k hk=>?_⟩) h2
  rw[q.2.2 k hk,aay (by have:=hi i (aac ..);omega)]
theorem Hg{K:Frag}{n:Nat}{g:Tg}(hg:∀i∈g.sl,i<n){v:V}{σ:L2.St}{H:Hp}{Q:L2.St->Hp->Prop}(h:lG K g v σ H Q):lG K g v σ H fun σ' H'=>Q σ' H'/\σ'.length=σ.length/\∀i,n<=i->σ'[i]?=σ[i]?:=by
 cases g with
 |nm i=>exact⟨h,by rw[aaM],fun k hk=>by rw[aay (by have:=hg i (aaE.mpr rfl);omega)]⟩
 |tp is=>
  rcases h with⟨a,xs,e,s,l,h⟩|⟨a,xs,e,s,l,h⟩
  ·exact .inl ⟨a,xs,e,s,l,FE hg h⟩
  ·exact .inr ⟨a,xs,e,s,l,FE hg h⟩
theorem FF{P:Option T->Prop}:∀{is:List Nat}{ts:List T}{τ τ':Ft},Cm is ts τ=some τ'->(∀t∈ts,P (some t))->∀i o,τ'[i]?=some o->P o\/(i∉is/\τ[i]?=some o)
 |[],[],τ,τ',h,_,i,o,e=>by cases h;exact .inr ⟨by simp,e⟩
 |[],t::ts,τ,τ',h,_,_,_,_=>by cases h
 |i::is,[],τ,τ',h,_,_,_,_=>by cases h
 |i::is,t::ts,τ,τ',h,hp,j,o,e=>by
  rcases FF (P:=P) (is:=is) (ts:=ts) (τ:=τ.set i (some t)) h (fun u hu=>hp u (aaa _ hu)) j o e with q|⟨q1,q2⟩
  ·exact .inl q
  ·by_cases z:i=j
   ·subst z
    rw[abe ]at q2
    cases w:τ[i]? with
    |none=>rw[w]at q2;cases q2
    |some x=>
     rw[w]at q2
     have:o=some t:=by simpa using q2.symm
     subst this
     exact .inl (hp t (aac ..))
   ·rw[aay z]at q2
    refine .inr ⟨?_,q2⟩
    intro m
    rcases aak.mp m with rfl|m
    ·exact z rfl
    ·exact q1 m
theorem IK{P:Option T->Prop}{g:Tg}{t:T}{τ τ':Ft}(h:Dg g t τ=some τ')(hp:P (some t))(hp':∀a ts,(t=.tup a ts\/t=.lst a ts)->∀u∈ts,P (some u))(i:Nat)(o:Option T)(e:τ'[i]?=some o):P o\/(i∉g.sl/\τ[i]?=some o):=by
 cases g with
 |nm k=>
  cases h
  by_cases z:k=i
  ·subst z
   rw[abe]at e
   cases w:τ[k]? with
   |none=>rw[w]at e;cases e
   |some x=>
    rw[w]at e
    have:o=some t:=by simpa using e.symm
    subst this;exact .inl hp
  ·rw[aay z]at e
   exact .inr ⟨by simpa[Tg.sl] using fun q=>z q.symm,e⟩
 |tp is=>
  cases t with
  |tup a ts=>exact FF (P:=P) h (fun u hu=>hp' a ts (.inl rfl) u hu) i o e
  |lst a ts=>exact FF (P:=P) h (fun u hu=>hp' a ts (.inr rfl) u hu) i o e
  |_=>cases h
theorem FM:∀{is:List Nat}{ts:List T}{τ τ':Ft},Cm is ts τ=some τ'->τ'.length=τ.length
 |[],[],τ,τ',h=>by cases h;rfl
 |[],t::ts,τ,τ',h=>by cases h
 |i::is,[],τ,τ',h=>by cases h
 |i::is,t::ts,τ,τ',h=>by rw[FM (is:=is) (ts:=ts) (τ:=τ.set i (some t)) h,aaM]
theorem Ke{g:Tg}{t:T}{τ τ':Ft}(h:Dg g t τ=some τ'):τ'.length=τ.length:=by
 cases g with
 |nm k=>cases h;rw[aaM]
 |tp is=>cases t<;>first|cases h|exact FM h
abbrev HQ(nl:Nat)(fr:List Nat)(τ:Ft):Ft:=aam nl none++fr.map fun j=>(τ[j]?).join
theorem Ti(nl:Nat)(fr:List Nat)(τ:Ft):dτ (HQ nl fr τ)=blk nl fr (dτ τ):=by
 unfold dτ HQ blk
 rw[aaq,abm,aaB]
 congr 1
 refine aaQ fun j _=>?_
 simp only[Function.comp,aal]
 cases τ[j]? with
 |none=>rfl
 |some o=>rfl
theorem Tj(nl:Nat)(fr:List Nat)(τ:Ft):vτ (HQ nl fr τ)=Do nl fr (vτ τ):=by
 unfold vτ HQ Do
 rw[aaq,abm,aaB]
 congr 1
 refine aaQ fun j _=>?_
 simp only[Function.comp,aal]
 cases τ[j]? with
 |none=>rfl
 |some o=>rfl
@[reducible]noncomputable def tnB(nl:Nat)(fr:List Nat)(tn:List Nat):List Nat:=aam nl 0++fr.map fun j=>tn.getD j 99
theorem MU{nl:Nat}{fr:List Nat}{tn:List Nat}{τ:Ft}{i:Nat}{t:T}{j:Nat}(h:(HQ nl fr τ)[i]?=some (some t))(hj:(tnB nl fr tn)[i]?=some j)(hlt:j<90):∃k:Nat,τ[k]?=some (some t)/\tn[k]?=some j:=by
 unfold HQ at h
 unfold tnB at hj
 by_cases hi:i<nl
 ·rw[aa0 (by simpa using hi),aa8]at h
  split at h<;>cases h
 ·rw[aaT (by simpa using hi),aby,aal]at h hj
  obtain⟨k,e1,e2⟩:=aax.mp h
  rw[e1]at hj
  have e3:tn.getD k 99=j:=by simpa using hj
  refine⟨k,?_,?_⟩
  ·cases w:τ[k]? with
   |none=>rw[w]at e2;cases e2
   |some o=>rw[w]at e2;exact congrArg some e2
  ·rw[aah]at e3
   cases w:tn[k]? with
   |none=>rw[w]at e3;simp at e3;omega
   |some x=>rw[w]at e3;exact congrArg some e3
theorem T.nds_append{ts us:List T}{k:Nat}(h1:T.Nds ts k)(h2:T.Nds us k)(c1:∀a∈T.adrs ts k,a∉T.rests us 0)(c2:∀a∈T.adrs us k,a∉T.rests ts 0):T.Nds (ts++us) k:=by
 unfold T.Nds
 rw[T.adrs_append,T.rests_append]
 refine⟨aca.mpr ⟨h1.1,h2.1,fun a ha b hb e=>?_⟩,fun a ha hb=>?_⟩
 ·subst e;exact c1 a ha ((T.alls_iff us k).mpr (.inl hb))
 ·rcases aag.mp ha with ha|ha<;>rcases aag.mp hb with hb|hb
  ·exact h1.2 a ha hb
  ·exact c2 a hb ((T.alls_iff ts k).mpr (.inr ha))
  ·exact c1 a hb ((T.alls_iff us k).mpr (.inr ha))
  ·exact h2.2 a ha hb
theorem GI{f:D->Res (Option D)}:∀(ds:List D)(c:Nat),Bv f ds≠.exc c
 |[],c=>by simp[Bv]
 |d::ds,c=>by
  simp only[Bv]
  cases f d with
  |ok o=>
   simp only
   cases q:Bv f ds with
   |ok r=>simp
   |exc c'=>exact absurd q (GI ds c')
   |bad=>simp
  |exc c'=>simp
  |bad=>simp
theorem Mf{f:D->Res (Option D)}{d:D}{ds r:List D}(h:Bv f (d::ds)=.ok r):∃o r',f d=.ok o/\Bv f ds=.ok r'/\r=o.toList++r':=by
 simp only[Bv]at h
 cases q:f d with
 |ok o=>
  rw[q]at h
  obtain⟨r',h1,h2⟩:=Res.bind_eq_ok h
  cases h2
  refine⟨o,r',rfl,h1,?_⟩
  cases o<;>rfl
 |exc c=>rw[q]at h;cases h
 |bad=>rw[q]at h;cases h
@[reducible]noncomputable def EX0:EXT:=fun _ _ _ _=>False
section
variable{p:Px}{EX:EXT}{tn:List Nat}{X:Cx}{pos np:Pos}
theorem MV{K:Frag}{nl:Nat}{fr:List Nat}{g:Tg}{it:It}{k:Nat}{f:D->Res (Option D)}{tc:TT}{elt:E}{τ:Ft}{H:Hp}{Q:VK}{ji:Nat}(hF:Fok p tn τ H)(hji:jkI tn it=some ji)(hg:∀i∈g.sl,i<nl)(hk:jk (tnB nl fr tn) elt=some (0,k))
  (hf:∀(d:D)(o:Option D),f d=.ok o->∃δ',Dq g d (blk nl fr (dτ τ))=some δ'/\∀(τ4:Ft)(H3:Hp)(N:Bool->Hp->Prop),dτ τ4=δ'->Fok p (tnB nl fr tn) τ4 H3->
   (∀b H5,Same H3 H5->(match o with|none=>b=false|some x=>b=true/\ev elt δ'=.ok x)->N b H5)->tc (vτ τ4) H3 N)
  (h:Lg p EX (vτ τ) ((evI it (dτ τ)).bind fun ds=>(Bv f ds).bind fun r=>.ok (.lst r)) H (KE p (Sh tn τ) H 0 (k+1) Q)) :
  Fm nl fr (lI p EX tn it) (fun _=>lG K g) (fun _=>tc) (fun _=>lE p EX0 (tnB nl fr tn) elt) (vτ τ) H Q:=by
 refine⟨τ,rfl,hF,ji,hji,h.bind.mono (Same.refl _) fun ds _ hd J us H1 IT=>?_⟩
 cases q:Bv f ds with
 |exc c=>exact absurd q (GI ds c)
 |bad=>rw[q]at hd;exact nE hd
 |ok r=>
 rw[q]at hd
 have hd:KE p (Sh tn τ) H 0 (k+1) Q (.lst r):=hd
 intro z D hD
 have hDH:H D=none:=IT.same.free hD
 refine⟨fun i m acc H2=>m=ds.length-i/\i<=ds.length/\∃(ts:List T)(r':List Pu.D),acc=ts.map T.val/\Bv f (ds.drop i)=.ok r'/\T.dats ts++r'=r/\ts.length<=i/\H2 D=some (.lst acc)/\(∀a u,a≠D->H1 a=some u->H2 a=some u) /\
  T.Oks p H2 ts/\(∀a∈T.rests ts 0,(H a=none\/Sh tn τ a)/\a≠D)/\(∀a∈T.adrs ts k,H1 a=none/\Mu H2 a)/\T.Nds ts k,⟨ds.length,by simp,aaw _,[],r,rfl,by simpa using q,rfl,aai _,Aq,fun a u n e=>by rw[Ah n];exact e,trivial,by simp[T.rests],by simp[T.adrs],by simp[T.Nds,T.adrs]⟩,?_⟩
 rintro i m acc H2 ⟨rfl,hi,ts,r',rfl,hr,hc,hts,hD2,kp,ok,src,new,nd⟩
 refine⟨hD2,?_⟩
 have s2:Same H H2:=fun a u e=>kp a u (fun z=>by rw[z,hDH]at e;cases e) (IT.same a u e)
 have usok:T.Oks p H2 us:=T.oks_iff.mpr fun u hu=>(T.oks_iff.mp IT.ok u hu).keep fun a w e _=>kp a w (fun z=>by rw[z,hD]at e;cases e) e
 have out:D∉T.rests ts 0:=fun m=>(src D m).2 rfl
 rcases acF i ds.length with hlt|hge
 ·refine .inr ⟨IT.go i H2 usok hlt,fun x H3 y=>?_⟩
  have hdi:ds[i]?=some ds[i]:=aae hlt
  obtain⟨s3,t,rfl,ht,tok,tus,tsrc⟩:=IT.yld i H2 x H3 ds[i] usok hdi y
  have hdrop:ds.drop i=ds[i]::ds.drop (i+1):=ab0 hlt
  rw[hdrop]at hr
  obtain⟨o,r'',hfo,hr'',rfl⟩:=Mf hr
  obtain⟨δ',hasg,hev⟩:=hf _ o hfo
  rw[<- ht,<- Ti,GF]at hasg
  obtain⟨τ4,h4,hδ⟩:=aax.mp hasg
  have sH3:Same H H3:=s2.trans s3
  have tusD:∀a∈t.rest 0,a≠D:=fun a m z=>by
   obtain⟨w,hw,m⟩:=T.mem_rests.mp (tus a m)
   exact(T.oks_iff.mp IT.ok w hw).dom m (z▸hD)
  have slot:∀(n:Nat)(w:T),τ4[n]?=some (some w)->(w.Ok p H3/\∀a∈w.rest 0,(H a=none\/Sh tn τ a)/\a≠D/\H1 a≠none)\/(n∉g.sl/\(HQ nl fr τ)[n]?=some (some w)):=by
   intro n w e
   refine(IK (P:=fun o=>∀w,o=some w->(w.Ok p H3/\∀a∈w.rest 0,(H a=none\/Sh tn τ a)/\a≠D/\H1 a≠none)) h4 (fun w e=>?_) (fun a ts' e u hu w e'=>?_) n (some w) e).imp (fun q=>q w rfl) id
   ·cases e
    refine⟨tok,fun a m=>⟨tsrc a m,tusD a m,fun z=>?_⟩⟩
    obtain⟨w',hw',m'⟩:=T.mem_rests.mp (tus a m)
    exact(T.oks_iff.mp IT.ok w' hw').dom m' z
   ·cases e'
    have sub:∀b∈u.rest 0,b∈t.rest 0:=fun b m=>by
     rcases e with rfl|rfl
     ·exact T.mem_rests.mpr ⟨u,hu,m⟩
     ·exact aaa _ (T.mem_rests.mpr ⟨u,hu,m⟩)
    have uok:u.Ok p H3:=by
     rcases e with rfl|rfl
     ·exact T.oks_iff.mp tok.2 u hu
     ·exact T.oks_iff.mp tok.2 u hu
    refine⟨uok,fun b m=>?_⟩
    have m:=sub b m
    refine⟨tsrc b m,tusD b m,fun z=>?_⟩
    obtain⟨w',hw',m'⟩:=T.mem_rests.mp (tus b m)
    exact(T.oks_iff.mp IT.ok w' hw').dom m' z
  have F4:Fok p (tnB nl fr tn) τ4 H3:=fun n w j e ej hj=>by
   rcases slot n w e with q|⟨_,q⟩
   ·exact q.1
   ·obtain⟨k',e1,e2⟩:=MU q ej hj
    exact(hF k' w j e1 e2 hj).same sH3
  have S4:∀a,Sh (tnB nl fr tn) τ4 a->(H a=none\/Sh tn τ a)/\a≠D/\H1 a≠none:=by
   rintro a ⟨n,w,j,e,ej,hj,m⟩
   rcases slot n w e with q|⟨_,q⟩
   ·exact q.2 a (T.rest_le w (aaw j) m)
   ·obtain⟨k',e1,e2⟩:=MU q ej hj
    have sh:Sh tn τ a:=⟨k',w,j,e1,e2,hj,m⟩
    have hd:=hF.dom sh
    exact⟨.inr sh,fun z=>hd (z▸hDH),fun z=>hd (IT.same.free z)⟩
  rw[<- Tj]
  refine NW tok h4 (hev τ4 H3 _ hδ F4 fun b H5 s5 hb=>?_)
  have s25:Same H2 H5:=s3.trans s5
  cases o with
  |none=>
   subst hb
   rw[if_neg (by decide)]
   refine⟨ds.length-(i+1),by omega,rfl,hlt,ts,r'',rfl,hr'',?_,by omega,s25 _ _ hD2,fun a u n e=>s25 _ _ (kp a u n e),ok.same s25,src,fun a m=>⟨(new a m).1,let ⟨vs,e,mu⟩:=(new a m).2;⟨vs,s25 _ _ e,mu⟩⟩,nd⟩
   simpa using hc
  |some xo=>
   obtain⟨rfl,he⟩:=hb
   rw[if_pos rfl]
   refine⟨τ4,rfl,F4.same s5,0,k,hk,?_⟩
   rw[hδ,he]
   intro t' H6 ht' R
   have s26:Same H2 H6:=s25.trans R.same
   have hD6:H6 D=some (.lst (ts.map T.val)):=s26 _ _ hD2
   refine⟨hD6,by rw[aab];exact aaC hts (aaJ hlt IT.len),ds.length-(i+1),by omega,rfl,hlt,ts++[t'],r'',by simp,hr'',?_,by simp;omega,Aq,fun a u n e=>by rw[Ah n];exact s26 _ _ (kp a u n e),?_,?_,?_,?_⟩
   ·rw[T.dats_map,aaq,<- T.dats_map]
    simpa[ht'] using hc
   ·-- all of them stand
    have tD:∀a∈t'.rest 0,a≠D:=fun a m z=>by
     rcases R.src a m with q|q
     ·rw[z,s25 _ _ hD2]at q;cases q
     ·exact(S4 a q).2.1 z
    refine T.oks_iff.mpr fun w hw=>?_
    have kk:(∀a∈w.rest 0,a≠D)->w.Ok p H6->w.Ok p (L2.upd H6 D (.lst (ts.map T.val++[t'.val]))):=fun hne hok=>hok.keep fun a u e hq=>by
     rw[Ah ?_];exact e
     rintro rfl
     rcases hq with hq|hq
     ·exact hne a hq rfl
     ·rw[hD6]at e
      cases e;exact nomatch (show true=false from hq)
    rcases aag.mp hw with hw|hw
    ·exact kk (fun a m=>(src a (T.mem_rests.mpr ⟨w,hw,m⟩)).2) ((T.oks_iff.mp ok w hw).same s26)
    ·cases aaE.mp hw
     exact kk tD R.ok
   ·intro a m
    rw[T.rests_append,aag]at m
    rcases m with m|m
    ·exact src a m
    ·have m:a∈t'.rest 0:=by simpa[T.rests] using m
     rcases R.src a m with q|q
     ·exact⟨.inl (sH3.trans s5 |>.free q),fun z=>by rw[z,s25 _ _ hD2]at q;cases q⟩
     ·exact⟨(S4 a q).1,(S4 a q).2.1⟩
   ·intro a m
    rw[T.adrs_append,aag]at m
    rcases m with m|m
    ·obtain⟨n1,vs,e,mu⟩:=new a m
     have aD:a≠D:=fun z=>out (by rw[<- z];exact(T.alls_iff ts k).mpr (.inl m))
     refine⟨n1,vs,?_,mu⟩
     rw[Ah aD]
     exact s26 _ _ e
    ·have m:a∈t'.adr k:=by simpa[T.adrs] using m
     obtain⟨n1,vs,e,mu⟩:=R.new a m
     have aD:a≠D:=fun z=>by rw[z,s25 _ _ hD2]at n1;cases n1
     refine⟨?_,vs,by rw[Ah aD];exact e,mu⟩
     cases w:H1 a with
     |none=>rfl
     |some u=>rw[s25 _ _ (kp a u aD w)]at n1;cases n1
   ·refine T.nds_append nd (T.nds_cons.mpr ⟨R.nd,by simp[T.Nds,T.adrs],by simp[T.rests],by simp[T.adrs]⟩) (fun a m m'=>?_) (fun a m m'=>?_)
    ·have m':a∈t'.rest 0:=by simpa[T.rests] using m'
     rcases R.src a m' with q|q
     ·obtain⟨_,vs,e,mu⟩:=new a m
      rw[s25 _ _ e]at q;cases q
     ·exact(S4 a q).2.2 (new a m).1
    ·have m:a∈t'.adr k:=by simpa[T.adrs] using m
     obtain⟨w,hw,m'⟩:=T.mem_rests.mp m'
     exact((T.oks_iff.mp ok w hw).same s25).dom m' (R.new a m).1
 ·have hil:i=ds.length:=acO hi hge
  refine .inl ⟨IT.stop i H2 usok hge,hd (.lst D ts) H2 ?_ ⟨s2,⟨.inl hD2,ok⟩,fun a m=>?_,fun a m=>?_,?_,fun a m m'=>?_⟩⟩
  ·subst hil
   rw[List.drop_length]at hr
   simp only[Bv]at hr
   cases hr
   simp only[T.dat,aaF]at hc ⊢
   rw[hc]
  ·simp only[T.rest,aak]at m
   rcases m with rfl|m
   ·exact .inl hDH
   ·exact(src a m).1
  ·simp only[T.adr,aak]at m
   rcases m with rfl|m
   ·exact⟨hDH,_,hD2,rfl⟩
   ·exact⟨IT.same.free (new a m).1,(new a m).2⟩
  ·simp only[T.adr,aaG]
   exact⟨fun m=>out ((T.alls_iff ts k).mpr (.inl m)),nd.1⟩
  ·simp only[T.adr,T.rest,aak]at m m'
   rcases m' with rfl|m'
   ·exact out ((T.alls_iff ts k).mpr (.inr m))
   ·exact nd.2 a m m'
structure ScOk(X:Cx)(scope:Scope)(loc:List Str)(fr:List Nat)(frn:List Str):Prop where
 hfr:∀(j:Nat)(k:Nat)(x:Str),fr[j]?=some k->frn[j]?=some x->X.N[k]?=some x/\X.env.kindOf x=some .cell/\(x,NameKind.free)∈scope.names
 hln:frn.length=fr.length
 hcell:∀y∈scope.names,y.2≠.cell
 hkind:scope.kind=.function
 hnames:∀y∈scope.names,y.2=.local->scope.names.lookup y.1=some .local
 hfree:∀y∈scope.names,y.2=.free->X.env.kindOf y.1=some .cell
 hkin:∀(x:Str),x∈frn->(relabel scope X.env).names.lookup x=some .cell
 hsc:X.env.scope.kind=.function
theorem La{K:Frag}{nl:Nat}{fr:List Nat}{g:Tg}{it:It}{elt:E}{σ:L2.St}{H:Hp}{Q:VK}(hg:∀i∈g.sl,i<nl)(h:lE p EX tn (.comp0 nl fr g it elt) σ H Q):Fm nl fr (lI p EX tn it) (fun _=>lG K g) (fun _=>RL) (fun _=>lE p EX0 (tnB nl fr tn) elt) σ H Q:=by
 obtain⟨τ,rfl,hF,j,k,hj,h⟩:=h
 simp only[jk]at hj
 obtain⟨ji,h1,hj⟩:=bS hj
 obtain⟨⟨j2,k2⟩,h2,hj⟩:=bS hj
 obtain⟨hc,e⟩:=CS hj
 cases e
 have hc:j2=0:=of_decide_eq_true hc
 subst hc
 simp only[ev]at h
 refine MV hF h1 hg h2 (fun d o e=>?_) h
 split at e
 ·rename_i δ' hd
  obtain⟨x,e1,e2⟩:=Res.bind_eq_ok e
  cases e2
  exact⟨δ',hd,fun τ4 H3 N _ _ hN=>hN true H3 (Same.refl _) ⟨rfl,e1⟩⟩
 ·cases e
theorem Lb{K:Frag}{nl:Nat}{fr:List Nat}{g:Tg}{it:It}{cond elt:E}{σ:L2.St}{H:Hp}{Q:VK}(hg:∀i∈g.sl,i<nl)(h:lE p EX tn (.comp1 nl fr g it cond elt) σ H Q):Fm nl fr (lI p EX tn it) (fun _=>lG K g) (fun _=>lT p EX0 (tnB nl fr tn) cond) (fun _=>lE p EX0 (tnB nl fr tn) elt) σ H Q:=by
 obtain⟨τ,rfl,hF,j,k,hj,h⟩:=h
 simp only[jk]at hj
 obtain⟨ji,h1,hj⟩:=bS hj
 obtain⟨q3,h3,hj⟩:=bS hj
 obtain⟨⟨j2,k2⟩,h2,hj⟩:=bS hj
 obtain⟨hc,e⟩:=CS hj
 cases e
 have hc:j2=0:=of_decide_eq_true hc
 subst hc
 simp only[ev]at h
 refine MV hF h1 hg h2 (fun d o e=>?_) h
 split at e
 ·rename_i δ' hd
  obtain⟨b,e1,e2⟩:=Res.bind_eq_ok e
  refine⟨δ',hd,fun τ4 H3 N e4 F4 hN=>⟨τ4,rfl,F4,by rw[h3];rfl,?_⟩⟩
  unfold tv
  rw[e4,e1]
  intro H5 s5
  refine hN b H5 s5 ?_
  cases b with
  |true=>
   rw[if_pos rfl]at e2
   obtain⟨x,e5,e6⟩:=Res.bind_eq_ok e2
   cases e6
   exact⟨rfl,e5⟩
  |false=>
   rw[if_neg (by decide)]at e2
   cases e2;rfl
 ·cases e
theorem Pm{elt tg iter:Expr}{scope:Scope}{loc:List Str}{fr:List Nat}{frn:List Str}{g:Tg}{it:It}{x:E}(hc:X.calm=true)(S:ScOk X scope loc fr frn)(hi:PI X tg iter (lI p EX tn it))(hg:∀i∈g.sl,i<loc.length)
  (hb:∀z:Bk,PG (X.blk scope z.C z.fp (loc++frn) z.s z.H) tg (lG X.K g)/\PE (X.blk scope z.C z.fp (loc++frn) z.s z.H) elt (lE p EX0 (tnB loc.length fr tn) x)) (hs:∀y,foldedSetIterable iter X.env y=pure y) :
  PE X (.ListComp elt [⟨tg,iter,[],0⟩] scope pos) (lE p EX tn (.comp0 loc.length fr g it x)) :=
 PE.mono (Jq loc fr frn hc hi S.hfr S.hln S.hcell S.hkind S.hnames S.hfree S.hkin S.hsc (fun _ _ _ _ _ h=>Hg hg h) (fun z=>⟨(hb z).1,MH,(hb z).2⟩) hs) fun σ H Q h=>La hg h
theorem Pn{elt tg iter cnd:Expr}{scope:Scope}{loc:List Str}{fr:List Nat}{frn:List Str}{g:Tg}{it:It}{c x:E}(hc:X.calm=true)(S:ScOk X scope loc fr frn)(hi:PI X tg iter (lI p EX tn it))(hg:∀i∈g.sl,i<loc.length)
  (hb:∀z:Bk,PG (X.blk scope z.C z.fp (loc++frn) z.s z.H) tg (lG X.K g)/\PT (X.blk scope z.C z.fp (loc++frn) z.s z.H) cnd (lT p EX0 (tnB loc.length fr tn) c)/\PE (X.blk scope z.C z.fp (loc++frn) z.s z.H) elt (lE p EX0 (tnB loc.length fr tn) x)) (hs:∀y,foldedSetIterable iter X.env y=pure y) :
  PE X (.ListComp elt [⟨tg,iter,[cnd],0⟩] scope pos) (lE p EX tn (.comp1 loc.length fr g it c x)) :=
 PE.mono (Jq loc fr frn hc hi S.hfr S.hln S.hcell S.hkind S.hnames S.hfree S.hkin S.hsc (fun _ _ _ _ _ h=>Hg hg h) (fun z=>⟨(hb z).1,Jp (hb z).2.1,(hb z).2.2⟩) hs) fun σ H Q h=>Lb hg h
theorem PS.mono{X:Cx}{st:Stmt}{t t':TS}(h:PS X st t)(m:∀D σ H,t' D σ H->t D σ H):PS X st t':=fun pins s σ H D I q=>h pins s σ H D I (m _ _ _ q)
theorem NX{elt tg iter:Expr}{scope:Scope}{loc:List Str}{fr:List Nat}{frn:List Str}{g:Tg}{it:It}{x:E}{y:Str}{k:Nat}{py spos:Pos}(hc:X.calm=true)(S:ScOk X scope loc fr frn)(hi:PI X tg iter (lI p EX tn it))(hg:∀i∈g.sl,i<loc.length)
  (hb:∀z:Bk,PG (X.blk scope z.C z.fp (loc++frn) z.s z.H) tg (lG X.K g)/\PE (X.blk scope z.C z.fp (loc++frn) z.s z.H) elt (lE p EX0 (tnB loc.length fr tn) x)) (hs:∀y,foldedSetIterable iter X.env y=pure y)
  (hN:X.N.Nodup) (hk:X.N[k]?=some y) (hx:Loc X.env.scope y) (hf:X.fn y=true\/X.env.scope.names.lookup y=some .local) (hsw:swapsWith (.ListComp elt [⟨tg,iter,[],0⟩] scope pos) (some (.Name y py)) spos.line X.env=pure true) :
  PS X (.Assign [.Name y py] (.ListComp elt [⟨tg,iter,[],0⟩] scope pos) spos) (Gv (lE p EX tn (.comp0 loc.length fr g it x)) (DH k)) :=
 PS.mono (ID loc fr frn hc hi S.hfr S.hln S.hcell S.hkind S.hnames S.hfree S.hkin S.hsc (fun _ _ _ _ _ h=>Hg hg h) (fun z=>⟨(hb z).1,MH,(hb z).2⟩) hs hN hk hx hf hsw) fun D σ H h=>La hg h
theorem NY{elt tg iter cnd:Expr}{scope:Scope}{loc:List Str}{fr:List Nat}{frn:List Str}{g:Tg}{it:It}{c x:E}{y:Str}{k:Nat}{py spos:Pos}(hc:X.calm=true)(S:ScOk X scope loc fr frn)(hi:PI X tg iter (lI p EX tn it))(hg:∀i∈g.sl,i<loc.length)
  (hb:∀z:Bk,PG (X.blk scope z.C z.fp (loc++frn) z.s z.H) tg (lG X.K g)/\PT (X.blk scope z.C z.fp (loc++frn) z.s z.H) cnd (lT p EX0 (tnB loc.length fr tn) c)/\PE (X.blk scope z.C z.fp (loc++frn) z.s z.H) elt (lE p EX0 (tnB loc.length fr tn) x)) (hs:∀y,foldedSetIterable iter X.env y=pure y)
  (hN:X.N.Nodup) (hk:X.N[k]?=some y) (hx:Loc X.env.scope y) (hf:X.fn y=true\/X.env.scope.names.lookup y=some .local) (hsw:swapsWith (.ListComp elt [⟨tg,iter,[cnd],0⟩] scope pos) (some (.Name y py)) spos.line X.env=pure true) :
  PS X (.Assign [.Name y py] (.ListComp elt [⟨tg,iter,[cnd],0⟩] scope pos) spos) (Gv (lE p EX tn (.comp1 loc.length fr g it c x)) (DH k)) :=
 PS.mono (ID loc fr frn hc hi S.hfr S.hln S.hcell S.hkind S.hnames S.hfree S.hkin S.hsc (fun _ _ _ _ _ h=>Hg hg h) (fun z=>⟨(hb z).1,Jp (hb z).2.1,(hb z).2.2⟩) hs hN hk hx hf hsw) fun D σ H h=>Lb hg h
end
structure CkC where
 N:List Str
 sc:Scope
 fn:Bool
 rz:Bool
 cm:Bool
abbrev DO(sc:Scope)(x:Str):Bool:=match sc.names.lookup x with
 |some .local=>true
 |some .cell=>true
 |some .free=>true
 |_=>false
abbrev F3(c:CkC)(x:Str):Bool:=match c.sc.names.lookup x with
 |some .local=>true
 |some .cell=>c.fn
 |_=>false
abbrev glB(sc:Scope)(x:Str):Bool:=match sc.names.lookup x with
 |some .globalImplicit=>true
 |_=>false
abbrev Bb(x:Str):Bool:=!(x==("__debug__" : Str))&&!(x==("__classdict__" : Str))
abbrev EM(scope outer:Scope):Scope :=
 {scope with names:=scope.names.map fun(n,k)=>if(k==.free&&outer.kind==.function&&outer.names.lookup n==some .cell) then(n,.cell) else(n,k)}
theorem Lc(scope:Scope)(env:Env):relabel scope env=EM scope env.scope:=rfl
abbrev Bj:List Str:=["len", "min", "max", "abs", "int", "list", "tuple", "all", "any", "sum", "sorted", "isinstance", "str", "range", "enumerate", "zip", "reversed"]
abbrev ckG(c:CkC):Tg->Expr->Bool
 |.nm i,.Name x _=>(c.N[i]?==some x)&&F3 c x
 |.tp is,.Tuple es _ _=>ckGs c is es&&c.cm
 |_,_=>false
where ckGs (c:CkC):List Nat->List Expr->Bool
 |[],[]=>true
 |i::is,.Name x _::es=>(c.N[i]?==some x)&&F3 c x&&ckGs c is es
 |_,_=>false
abbrev scB(c:CkC)(scope:Scope)(loc:List Str)(fr:List Nat)(frn:List Str):Bool :=
 decide (frn.length=fr.length)&&((fr.zip frn).all fun q=>(c.N[q.1]?==some q.2)&&(c.sc.names.lookup q.2==some .cell)&&scope.names.contains (q.2,NameKind.free)) &&
 (scope.names.all fun y=>(y.2 != .cell)&&(y.2 != .local||scope.names.lookup y.1==some .local)&&(y.2 != .free||c.sc.names.lookup y.1==some .cell))&&(scope.kind==.function)&&(c.sc.kind==.function) &&
 (frn.all fun x=>(EM scope c.sc).names.lookup x==some .cell)&&decide (loc++frn).Nodup
abbrev F5(c:CkC)(fr:List Nat):List Str:=fr.map fun j=>c.N.getD j ""
abbrev EN:Expr->List Str
 |.Name x _=>[x]
 |.Tuple es _ _=>es.filterMap fun|.Name x _=>some x|_=>none
 |_=>[]
abbrev RS:Expr->Bool
 |.Tuple _ _ _=>true
 |_=>false
abbrev RT:Expr->Option (Str×Pos)
 |.Name x p=>some (x,p)
 |_=>none
theorem QT{e:Expr}{x:Str}{p:Pos}(h:RT e=some (x,p)):e=.Name x p:=by cases e<;>cases h<;>rfl
abbrev X2:Expr->Option (List Expr×Nat×Pos)
 |.Tuple es k p=>some (es,k,p)
 |_=>none
abbrev VI:Expr->Option (Expr×List Expr×List Keyword×Pos)
 |.Call f xs ks p=>some (f,xs,ks,p)
 |_=>none
theorem Tk{e f:Expr}{xs:List Expr}{ks:List Keyword}{p:Pos}(h:VI e=some (f,xs,ks,p)):e=.Call f xs ks p:=by cases e<;>cases h<;>rfl
abbrev Ld{α:Type}:List α->Option α
 |[a]=>some a
 |_=>none
theorem Hh{α:Type}{l:List α}{a:α}(h:Ld l=some a):l=[a]:=by
 cases l with
 |nil=>cases h
 |cons x r=>cases r<;>cases h<;>rfl
abbrev VJ{α:Type}:List α->Option (α×α)
 |[a,b]=>some (a,b)
 |_=>none
theorem Tl{α:Type}{l:List α}{a b:α}(h:VJ l=some (a,b)):l=[a,b]:=by
 cases l with
 |nil=>cases h
 |cons x r=>cases r with
  |nil=>cases h
  |cons y r=>cases r<;>cases h<;>rfl
abbrev Po{α:Type}:List α->Option (α×α×α)
 |[a,b,c]=>some (a,b,c)
 |_=>none
theorem Pp{α:Type}{l:List α}{a b c:α}(h:Po l=some (a,b,c)):l=[a,b,c]:=by
 cases l with
 |nil=>cases h
 |cons x r=>cases r with
  |nil=>cases h
  |cons y r=>cases r with
   |nil=>cases h
   |cons z r=>cases r<;>cases h<;>rfl
abbrev EO(e:Expr):Option (Str×List Expr):=(VI e).bind fun c=>(RT c.1).bind fun n=>if c.2.2.1.isEmpty=true then some (n.1,c.2.1) else none
theorem Dy{e:Expr}{x:Str}{xs:List Expr}(h:EO e=some (x,xs)):∃p1 p2,e=.Call (.Name x p1) xs [] p2:=by
 unfold EO at h
 obtain⟨c,g1,h⟩:=bS h
 obtain⟨n,g2,h⟩:=bS h
 have E:=Tk g1
 rw[QT g2]at E
 clear g1 g2
 split at h
 ·rename_i hc
  rw[List.isEmpty_iff.mp hc]at E
  cases h
  exact⟨_,_,E⟩
 ·cases h
abbrev Ju(e:Expr):Option (Str×Str×Expr×Expr):=(EO e).bind fun c=>(Ld c.2).bind fun i=>(EO i).bind fun d=>(VJ d.2).bind fun q=>some (c.1,d.1,q.1,q.2)
theorem Tm{e:Expr}{x y:Str}{l r:Expr}(h:Ju e=some (x,y,l,r)):∃p1 p2 p3 p4,e=.Call (.Name x p1) [.Call (.Name y p2) [l,r] [] p3] [] p4:=by
 unfold Ju at h
 obtain⟨c,g1,h⟩:=bS h
 obtain⟨i,g2,h⟩:=bS h
 obtain⟨d,g3,h⟩:=bS h
 obtain⟨q,g4,h⟩:=bS h
 obtain⟨p1,p4,e1⟩:=Dy g1
 obtain⟨p2,p3,e3⟩:=Dy g3
 rw[Hh g2,e3,Tl g4]at e1
 cases h
 exact⟨_,_,_,_,e1⟩
abbrev Ei(e:Expr):Option (Str×Str×Expr):=(EO e).bind fun c=>(Ld c.2).bind fun i=>(EO i).bind fun d=>(Ld d.2).bind fun q=>some (c.1,d.1,q)
theorem Le{e:Expr}{x y:Str}{r:Expr}(h:Ei e=some (x,y,r)):∃p1 p2 p3 p4,e=.Call (.Name x p1) [.Call (.Name y p2) [r] [] p3] [] p4:=by
 unfold Ei at h
 obtain⟨c,g1,h⟩:=bS h
 obtain⟨i,g2,h⟩:=bS h
 obtain⟨d,g3,h⟩:=bS h
 obtain⟨q,g4,h⟩:=bS h
 obtain⟨p1,p4,e1⟩:=Dy g1
 obtain⟨p2,p3,e3⟩:=Dy g3
 rw[Hh g2,e3,Hh g4]at e1
 cases h
 exact⟨_,_,_,_,e1⟩
abbrev Hi(e:Expr):Option (Str×Str×Expr×Expr×Expr):=(EO e).bind fun c=>(Ld c.2).bind fun i=>(EO i).bind fun d=>(Po d.2).bind fun q=>some (c.1,d.1,q.1,q.2.1,q.2.2)
theorem QU{e:Expr}{x y:Str}{l r s:Expr}(h:Hi e=some (x,y,l,r,s)):∃p1 p2 p3 p4,e=.Call (.Name x p1) [.Call (.Name y p2) [l,r,s] [] p3] [] p4:=by
 unfold Hi at h
 obtain⟨c,g1,h⟩:=bS h
 obtain⟨i,g2,h⟩:=bS h
 obtain⟨d,g3,h⟩:=bS h
 obtain⟨q,g4,h⟩:=bS h
 obtain⟨p1,p4,e1⟩:=Dy g1
 obtain⟨p2,p3,e3⟩:=Dy g3
 rw[Hh g2,e3,Pp g4]at e1
 cases h
 exact⟨_,_,_,_,e1⟩
abbrev Ej:Expr->Bool
 |.Set _ _ _=>false
 |_=>true
abbrev HR:List Str:=["RoomError", "BadShape", "NoNode", "NoPage", "NotRooms", "NotATree", "BadRoom", "Unlike", "BadScale", "BadStore", "BadName", "BadLength", "Twice", "Full", "NoThing", "NoDeed", "NoLine"]
abbrev AV(n:Nat):Str:=HR.getD n "RoomError"
theorem NZ(n:Nat):(AV n==("__debug__" : Str))=false:=by
 have h:∀x∈HR,(x==("__debug__" : Str))=false:=by decide
 unfold AV
 rw[aah]
 cases q:HR[n]? with
 |none=>decide
 |some x=>exact h x (aaj q)
abbrev Jv:Kd->String
 |.int => "int"
 |.bool => "bool"
 |.str => "str"
 |.list => "list"
 |.tuple => "tuple"
 |.dict => "dict"
 |.verr => "ValueError"
 |.cls _ => ""
abbrev FN:Kd->Str
 |.cls n=>AV n
 |k=>Str.ofString (Jv k)
abbrev QV(c:CkC)(k:Kd):Expr->Bool
 |.Name x _=>(x==FN k)&&glB c.sc x
 |_=>false
abbrev Pq:Bi->Str
 |.len => "len"
 |.min => "min"
 |.maxL => "max"
 |.int => "int"
 |.list => "list"
 |.tuple => "tuple"
abbrev VL:Bi->Bool
 |_=>true
abbrev IL:Bi->Bool
 |.len=>true
 |.int=>true
 |.list=>true
 |.tuple=>true
 |_=>false
mutual
noncomputable def E.tst:E->Bool
 |.ifx _ _ _=>false
 |.flS _=>false
 |.not a=>a.tst
 |.bo _ es=>es.tsts
 |_=>true
noncomputable def Es.tsts:Es->Bool
 |.nil=>true
 |.cons e r=>e.tst&&r.tsts
end
abbrev Hj(gens:List Comprehension)(f:Expr->Expr->List Expr->Bool):Bool:=match gens with
 |[⟨tg,iter,ifs,n⟩]=>decide (n=0)&&f tg iter ifs
 |_=>false
abbrev N0(es:List Expr)(f:Expr->Bool):Bool:=match es with
 |[e]=>f e
 |_=>false
theorem EQ{gens:List Comprehension}{f:Expr->Expr->List Expr->Bool}(h:Hj gens f=true):∃tg iter ifs,gens=[⟨tg,iter,ifs,0⟩]/\f tg iter ifs=true:=by
 unfold Hj at h
 split at h
 ·rw[aaf]at h
  cases of_decide_eq_true h.1
  exact⟨_,_,_,rfl,h.2⟩
 ·cases h
theorem Lf{es:List Expr}{f:Expr->Bool}(h:N0 es f=true):∃e,es=[e]/\f e=true:=by
 unfold N0 at h
 split at h
 ·exact⟨_,rfl,h⟩
 ·cases h
abbrev Pr:Expr->Bool
 |.Constant .none _ _=>true
 |_=>false
abbrev IM(b:Bool)(f:Expr->Bool):Option Expr->Bool
 |none=>b
 |some l=>!b&&f l
mutual
noncomputable def ckE(c:CkC):E->Expr->Bool
 |.nm i,.Name x _=>(c.N[i]?==some x)&&DO c.sc x&&Bb x
 |.nmS i,.Name x _=>(c.N[i]?==some x)&&DO c.sc x&&Bb x
 |.cN,.Constant .none _ _=>true
 |.cB b,.Constant (.bool b') _ _=>b==b'
 |.cI i,.Constant (.int i') _ _=>i==i'
 |.cS x,.Constant (.str x') _ _=>x==x'
 |.gl x d,.Name y _=>(x==y)&&glB c.sc y&&Bb y&&D.scal d
 |.tup es,.Tuple xs _ _=>ckEs c es xs&&decide (es.len<=1000)
 |.lst es,.List xs _=>ckEs c es xs&&decide (es.len<=1000)
 |.bin o a b,.BinOp l op r _=>(op==NL o)&&ckE c a l&&ckE c b r
 |.neg a,.UnaryOp .USub l _=>ckE c a l
 |.not a,.UnaryOp .Not l _=>ckE c a l
 |.cmp o a b,.Compare l [op] [r] _=>(op==By o)&&ckE c a l&&ckE c b r&&Ej r
 |.chain o o' a b d,.Compare l [op,op'] [r,r'] _=>(op==By o)&&(op'==By o')&&ckE c a l&&ckE c b r&&ckE c d r'&&Ej r'
 |.isN n a,.Compare l [op] [r] _=>(op==if n then .IsNot else .Is)&&Pr r&&ckE c a l
 |.bo k es,.BoolOp op xs _=>(op==if k then .And else .Or)&&ckEs c es xs
 |.ifx t a b,.IfExp t' a' b' _=>ckE c t t'&&t.tst&&ckE c a a'&&ckE c b b'
 |.ix a i,.Subscript a' i' _=>ckE c a a'&&ckE c i i'&&A3 i'
 |.ixS a i,.Subscript a' i' _=>ckE c a a'&&ckE c i i'&&A3 i'
 |.ixL a i,.Subscript a' i' _=>ckE c a a'&&ckE c i i'&&A3 i'
 |.ixT a i,.Subscript a' i' _=>ckE c a a'&&ckE c i i'&&A3 i'
 |.ixF a i,.Subscript a' i' _=>ckE c a a'&&ckE c i i'&&A3 i'
 |.slc a lo hi,.Subscript a' (.Slice lo' hi' none _) _=>ckE c a a'&&IM lo.isCN (ckE c lo) lo'&&IM hi.isCN (ckE c hi) hi'
 |.call f es,.Call (.Name x _) xs [] _=>(x==f.name)&&glB c.sc x&&Bb x&&ckEs c es xs&&decide (es.len=f.ar)&&decide (0<es.len)&&c.cm
 |.callB f es,.Call (.Name x _) xs [] _=>(x==f.name)&&glB c.sc x&&Bb x&&ckEs c es xs&&decide (es.len=f.ar)&&decide (0<es.len)&&c.cm
 |.bi b es,.Call (.Name x _) xs [] _=>(x==Pq b)&&glB c.sc x&&VL b&&ckEs c es xs&&decide (0<es.len)&&(c.cm||IL b)
 |.isi a k,.Call (.Name x _) [l,r] [] _=>(x==("isinstance" : Str))&&glB c.sc x&&ckE c a l&&QV c k r&&Ad l
 |.flS a,.Call f xs ks q=>ckE c a (.Call f xs ks q)
 |.listI (.r2 a b),e=>match Ju e with
  |some (x,y,l,r)=>(x==("list" : Str))&&glB c.sc x&&(y==("range" : Str))&&glB c.sc y&&ckE c a l&&Ad l&&ckE c b r&&Ad r&&c.cm
  |none=>false
 |.listI (.r1 b),e=>match Ei e with
  |some (x,y,r)=>(x==("list" : Str))&&glB c.sc x&&(y==("range" : Str))&&glB c.sc y&&ckE c b r&&Ad r&&c.cm
  |none=>false
 |.listI (.rv b),e=>match Ei e with
  |some (x,y,r)=>(x==("list" : Str))&&glB c.sc x&&(y==("reversed" : Str))&&glB c.sc y&&ckE c b r&&Ad r&&c.cm
  |none=>false
 |.listI (.r3 a b d),e=>match Hi e with
  |some (x,y,l,r,s)=>(x==("list" : Str))&&glB c.sc x&&(y==("range" : Str))&&glB c.sc y&&ckE c a l&&Ad l&&ckE c b r&&Ad r&&ckE c d s&&Ad s&&c.cm
  |none=>false
 |.comp0 nl fr g it elt,.ListComp elt' gens scope _=>Hj gens fun tg iter ifs=>c.cm&&ifs.isEmpty&&scB c scope (EN tg) fr (F5 c fr)&&decide (nl=(EN tg).length)&&(g.sl.all fun i=>decide (i<nl))&&ckI c tg it iter&&Ej iter &&
   ckG ⟨EN tg++F5 c fr,EM scope c.sc,false,false,c.cm⟩ g tg&&ckE ⟨EN tg++F5 c fr,EM scope c.sc,false,false,c.cm⟩ elt elt'
 |.comp1 nl fr g it cond elt,.ListComp elt' gens scope _=>Hj gens fun tg iter ifs=>N0 ifs fun cnd=>c.cm&&scB c scope (EN tg) fr (F5 c fr)&&decide (nl=(EN tg).length)&&(g.sl.all fun i=>decide (i<nl))&&ckI c tg it iter&&Ej iter &&
   ckG ⟨EN tg++F5 c fr,EM scope c.sc,false,false,c.cm⟩ g tg&&ckE ⟨EN tg++F5 c fr,EM scope c.sc,false,false,c.cm⟩ cond cnd&&cond.tst&&ckE ⟨EN tg++F5 c fr,EM scope c.sc,false,false,c.cm⟩ elt elt'
 |_,_=>false
noncomputable def ckEs(c:CkC):Es->List Expr->Bool
 |.nil,[]=>true
 |.cons e r,x::xs=>ckE c e x&&Ad x&&ckEs c r xs
 |_,_=>false
noncomputable def ckI(c:CkC)(tg:Expr):It->Expr->Bool
 |.seq e,x=>ckE c e x
 |.seqL e,x=>ckE c e x
 |.r1 a,.Call (.Name x _) [l] [] _=>(x==("range" : Str))&&glB c.sc x&&ckE c a l&&Ad l
 |.r2 a b,.Call (.Name x _) [l,r] [] _=>(x==("range" : Str))&&glB c.sc x&&ckE c a l&&Ad l&&ckE c b r&&Ad r
 |.en a,.Call (.Name x _) [l] [] _=>(x==("enumerate" : Str))&&glB c.sc x&&ckE c a l&&Ad l&&RS tg
 |.r3 a b d,.Call (.Name x _) [l,r,o] [] _=>(x==("range" : Str))&&glB c.sc x&&ckE c a l&&Ad l&&ckE c b r&&Ad r&&ckE c d o&&Ad o
 |.rv a,.Call (.Name x _) [l] [] _=>(x==("reversed" : Str))&&glB c.sc x&&ckE c a l&&Ad l
 |_,_=>false
end
inductive Nd1 where
 |fn (F:Fn)
 |fm (F:Fn)
 |fc (F:Fn)
 |cl (n:Nat)
 |rs (n:Nat)
 |mk (n:Nat)
 |f0 (F:Fn)
 |ma
 |ax
 |gl (x:Str) (d:D)
mutual
noncomputable def E.need:E->List Nd1
 |.nm _=>[]
 |.nmS _=>[]
 |.cN=>[]
 |.cB _=>[]
 |.cI _=>[]
 |.cS _=>[]
 |.gl x d=>[.gl x d]
 |.tup es=>es.need
 |.lst es=>es.need
 |.bin _ a b=>a.need++b.need
 |.neg a=>a.need
 |.not a=>a.need
 |.cmp _ a b=>a.need++b.need
 |.chain _ _ a b c=>a.need++(b.need++c.need)
 |.isN _ a=>a.need
 |.bo _ es=>es.need
 |.ifx c a b=>c.need++(a.need++b.need)
 |.ix a i=>a.need++i.need
 |.ixS a i=>a.need++i.need
 |.ixL a i=>a.need++i.need
 |.ixT a i=>a.need++i.need
 |.ixF a i=>a.need++i.need
 |.slc a lo hi=>a.need++(lo.need++hi.need)
 |.call f es=>.fn f::es.need
 |.callB f es=>.fn f::es.need
 |.bi _ es=>es.need
 |.listI it=>it.need
 |.isi a k=>(match k with|.cls n=>[.cl n]|_=>[])++a.need
 |.flS a=>a.need
 |.comp0 _ _ _ it elt=>it.need++elt.need
 |.comp1 _ _ _ it cond elt=>it.need++(cond.need++elt.need)
noncomputable def Es.need:Es->List Nd1
 |.nil=>[]
 |.cons e r=>e.need++r.need
noncomputable def It.need:It->List Nd1
 |.seq e=>e.need
 |.seqL e=>e.need
 |.r1 a=>a.need
 |.r2 a b=>a.need++b.need
 |.r3 a b c=>a.need++(b.need++c.need)
 |.en e=>e.need
 |.rv e=>e.need
end
abbrev dT:D->T
 |.bl b=>.bl b
 |.int i=>.int i
 |.str x=>.str x
 |_=>.non
theorem VM{d:D}(h:D.scal d=true):(dT d).dat=d/\(dT d).sc=true:=by cases d<;>first|exact⟨rfl,rfl⟩|cases h
abbrev NeedOk(p:Px)(lv:Nat)(X:Cx):Nd1->Prop
 |.fn F=>F.lv<=lv/\NR p X F
 |.fm F=>F.lv<=lv/\VG p X F
 |.fc F=>F.lv<=lv/\VH p X F
 |.cl n=>p.has n=true/\X.mg (AV n)=some (.ref (p.cl n))
 |.rs n=>p.has n=true/\nsIn X.K mainGlobals (AV n)=some (some (.ref (p.cl n)))/\excIn X.K (p.cl n) D1 "ValueError.__new__" = true
 |.f0 F=>F.lv<=lv/\RQ p X F
 |.mk n=>p.has n=true/\nsIn X.K mainGlobals (AV n)=some (some (.ref (p.cl n)))/\excIn X.K (p.cl n) D1 "ValueError.__new__" = true/\keepIn X.K (.ref (p.cl n))=true
 |.ma=>2<=lv/\p.has 4=true/\X.mg (AV 4)=some (.ref (p.cl 4))/\keepIn X.K (.ref (p.cl 4))=true/\XOwn X.K (p.cl 4) "at" /\ ∃fI fd ps,findIn X.K (.ref (p.cl 4)) "__init__" = some (some (.ref fI))/\typeIn X.K (.ref fI)=some (.type "function")/\FnOk X.prog X.w X.K X.mg X.base (CXe X.prog X.w) 1 fI fd ps (spI (p.cl 4) "at")/\Binds X.K fd ps []
 |.ax=>p.has 4=true/\XOwn X.K (p.cl 4) "at"
 |.gl x d=>∃u,X.mg x=some u/\RelV (dT d).val u
structure Kx(p:Px):Prop where
 no:p.has 999=false
 lt:∀c,p.has c=true->c<1000
 ks:∀c,p.has c=true->subIn p.K (.ref (p.cl c)) (.ref (p.cl c))=some true
 x:∀c,p.has c=true->XCls p.K (p.cl c)
 kb:∀c,p.has c=true->∀T∈(["int", "bool", "str", "list", "tuple", "dict"]:List String),kitOne p.K (.ref (p.cl c)) (.type T)=some false
 kv:∀c,p.has c=true->kitOne p.K (.ref (p.cl c)) (.type "ValueError")=some true
 kc:∀c d,p.has c=true->p.has d=true->kitOne p.K (.ref (p.cl c)) (.ref (p.cl d))=some (isa c d)
structure Ct(p:Px)(c:CkC)(lv:Nat)(X:Cx)(EX:EXT):Prop where
 K:X.K=p.K
 N:X.N=c.N
 sc:X.env.scope=c.sc
 nd:X.N.Nodup
 calm:c.cm=true->X.calm=true
 room:c.cm=true->Room lv X.A
 un:X.A.units+64<cLine
 r0:Room0 lv X.A
 blt:∀y∈Bj,X.mg y=none
 bt:∀y∈(["bool", "dict", "ValueError", "set"]:List Str),X.mg y=none
 pass:GC (CXe X.prog X.w) X EX
 fn:c.fn=true->∀x,X.fn x=true
 kx:Kx p
 ph:c.rz=true->True
section
variable{p:Px}{c:CkC}{lv:Nat}{X:Cx}{EX:EXT}{tn:List Nat}{pos np:Pos}
theorem Ct.gl(C:Ct p c lv X EX){x:Str}(h:glB c.sc x=true):Gl X x:=by
 unfold glB at h
 show X.env.scope.names.lookup x=_
 rw[C.sc]
 split at h
 ·assumption
 ·cases h
theorem Ct.vis(C:Ct p c lv X EX){x:Str}(h:DO c.sc x=true):Vis X.env.scope x:=by
 unfold DO at h
 unfold Vis
 rw[C.sc]
 split at h
 ·exact .inl ‹_›
 ·exact .inr (.inl ‹_›)
 ·exact .inr (.inr ‹_›)
 ·cases h
theorem Ct.loc(C:Ct p c lv X EX){x:Str}(h:F3 c x=true):L2.Loc X.env.scope x/\(X.fn x=true\/X.env.scope.names.lookup x=some .local):=by
 unfold F3 at h
 unfold L2.Loc
 rw[C.sc]
 split at h
 ·rename_i e;exact⟨.inl e,.inr e⟩
 ·rename_i e;exact⟨.inr e,.inl (C.fn h x)⟩
 ·cases h
theorem BA{x:Str}(h:Bb x=true):(x==("__debug__" : Str))=false/\(x==("__classdict__" : Str))=false:=by
 unfold Bb at h
 rw[aaf,acB,acB]at h
 exact h
theorem Ct.hu(C:Ct p c lv X EX):X.A.units+64<cLine:=C.un
theorem RU(C:Ct p c lv X EX):∀{is:List Nat}{es:List Expr},ckG.ckGs c is es=true->PGs X es (Dh is)/\(assignEach es X.env).length=is.length/\(assignEach es X.env).findIdx? (·.1)=none
 |[],[],_=>⟨Sg,rfl,rfl⟩
 |[],e::es,h=>nF h
 |i::is,[],h=>nF h
 |i::is,e::es,h=>by
  cases e with
  |Name x q=>
   have h:((c.N[i]?==some x)&&F3 c x&&ckG.ckGs c is es)=true:=h
   rw[aaf,aaf]at h
   obtain⟨⟨h1,h2⟩,h3⟩:=h
   obtain⟨a1,a2,a3⟩:=RU C h3
   obtain⟨l1,l2⟩:=C.loc h2
   refine⟨Qi (Jj C.nd (by rw[C.N];exact beq_iff_eq.mp h1) l1 l2) a1 rfl,?_,?_⟩
   ·show(assignEach es X.env).length+1=_;rw[a2];rfl
   ·show List.findIdx? (·.1) ((false,_)::assignEach es X.env)=none
    rw[List.findIdx?_cons,a3];rfl
  |_=>exact nF h
theorem HS(C:Ct p c lv X EX){g:Tg}{e:Expr}(h:ckG c g e=true):PG X e (lG X.K g):=by
 cases g with
 |nm i=>
  cases e with
  |Name x q=>
   have h:((c.N[i]?==some x)&&F3 c x)=true:=h
   rw[aaf]at h
   obtain⟨l1,l2⟩:=C.loc h.2
   exact Jj C.nd (by rw[C.N];exact beq_iff_eq.mp h.1) l1 l2
  |_=>exact nF h
 |tp is=>
  cases e with
  |Tuple es k q=>
   rw[show ckG c (.tp is) (.Tuple es k q)=(ckG.ckGs c is es&&c.cm) from rfl,aaf]at h
   obtain⟨a1,a2,a3⟩:=RU C h.1
   intro pins s σ H v u Q I r hw
   rcases hw with hw|hw
   ·exact UW (C.calm h.2) a1 a2 a3 pins s σ H v u Q I r hw
   ·exact Vr (C.calm h.2) a1 a2 a3 pins s σ H v u Q I r hw
  |_=>exact nF h
theorem MW{α β:Type}{xs:List α}{ys:List β}{j:Nat}{a:α}{b:β}(h1:xs[j]?=some a)(h2:ys[j]?=some b):(a,b)∈xs.zip ys:=by
 have:(xs.zip ys)[j]?=some (a,b):=by rw[List.getElem?_zip_eq_some];exact⟨h1,h2⟩
 exact aaj this
theorem Kn(C:Ct p c lv X EX){scope:Scope}{loc:List Str}{fr:List Nat}{frn:List Str}(h:scB c scope loc fr frn=true):ScOk X scope loc fr frn/\(loc++frn).Nodup:=by
 unfold scB at h
 simp only[aaf,decide_eq_true_eq,aas,beq_iff_eq,bne_iff_ne,acN]at h
 obtain⟨⟨⟨⟨⟨⟨h1,h2⟩,h3⟩,h4⟩,h5⟩,h6⟩,h7⟩:=h
 refine⟨⟨fun j k x e1 e2=>?_,h1,fun y hy=>(h3 y hy).1.1,h4,fun y hy e=>?_,fun y hy e=>?_,fun x hx=>?_,by rw[C.sc];exact h5⟩,h7⟩
 ·obtain⟨⟨q1,q2⟩,q3⟩:=h2 (k,x) (MW e1 e2)
  refine⟨by rw[C.N];exact q1,?_,by simpa using q3⟩
  show X.env.scope.names.lookup x=_
  rw[C.sc];exact q2
 ·rcases (h3 y hy).1.2 with q|q
  ·exact absurd e q
  ·exact q
 ·rcases (h3 y hy).2 with q|q
  ·exact absurd e q
  ·show X.env.scope.names.lookup y.1=_
   rw[C.sc];exact q
 ·rw[Lc,C.sc];exact h6 x hx
theorem Ct.blk(C:Ct p c lv X EX){scope:Scope}{N:List Str}(hN:N.Nodup)(z:Bk):Ct p ⟨N,EM scope c.sc,false,false,c.cm⟩ lv (X.blk scope z.C z.fp N z.s z.H) EX0 where
 K:=C.K
 N:=rfl
 sc:=by show relabel scope X.env=_;rw[Lc,C.sc]
 nd:=hN
 calm:=C.calm
 room:=C.room
 un:=C.un
 r0:=C.r0
 blt:=C.blt
 bt:=C.bt
 pass:=fun _ _ _ _ _ _ _ h=>by
  obtain⟨_,_,_,_,_,_,_,_,_,_,_,_,_,_,_,_,_,_,_,_,z⟩:=h
  exact z.elim
 fn:=fun z=>nomatch z
 kx:=C.kx
 ph:=fun z=>nomatch z
theorem NeedOk.blk{scope:Scope}{N:List Str}{z:Bk}{n:Nd1}(h:NeedOk p lv X n):NeedOk p lv (X.blk scope z.C z.fp N z.s z.H) n:=by
 cases n<;>exact h
theorem D6{e:Expr}{env:Env}(h:Ej e=true):∀y,foldedSetIterable e env y=pure y:=by
 intro y
 cases e<;>first|rfl|cases h
theorem ER{op:CmpOp}{e:Expr}(h:Ej e=true):behindInMarks op e=false:=by
 cases e<;>first|rfl|cases h
end
section
variable{p:Px}{c:CkC}{lv:Nat}{X:Cx}{EX:EXT}{tn:List Nat}{pos np:Pos}
theorem AL(C:Ct p c lv X EX){e:Expr}{x:E}(h:PE X e (lE p EX tn x))(hp:K7 e=true):PE X e (lE p EX tn x)/\(x.tst=true->PT X e (lT p EX tn x)):=⟨h,fun _=>NQ C.K h hp⟩
abbrev kdV(p:Px):Kd->Value
 |.cls n=>.ref (p.cl n)
 |k=>.type (Jv k)
abbrev Ko(p:Px):Kd->Prop
 |.cls n=>p.has n=true
 |_=>True
theorem VN(C:Ct p c lv X EX){H:Hp}{t:T}(ok:t.Ok p H):∃ty,TyX X.K H t.val ty/\∀k b,C5 t.dat k=.ok b->Ko p k->kitOne X.K ty (kdV p k)=some b:=by
 cases t with
 |non=>exact⟨_,.of .non,fun k b h _=>by cases k<;>cases h<;>rfl⟩
 |bl x=>exact⟨_,.of (.bl x),fun k b h _=>by cases k<;>cases h<;>rfl⟩
 |int x=>exact⟨_,.of (.int x),fun k b h _=>by cases k<;>cases h<;>rfl⟩
 |str x=>exact⟨_,.of (.str x),fun k b h _=>by cases k<;>cases h<;>rfl⟩
 |tup a ts=>exact⟨_,.of (.tup ok.1),fun k b h _=>by cases k<;>cases h<;>rfl⟩
 |lst a ts=>
  rcases ok.1 with e|⟨o,e⟩
  ·exact⟨_,.of (.lst e),fun k b h _=>by cases k<;>cases h<;>rfl⟩
  ·exact⟨_,.of (.frz e),fun k b h _=>by cases k<;>cases h<;>rfl⟩
 |dic a ks ts=>exact⟨_,.of (.dK ok.1.1),fun k b h _=>by cases k<;>cases h<;>rfl⟩
 |dit a ks ts=>exact⟨_,.of (.dT ok.1.1),fun k b h _=>by cases k<;>cases h<;>rfl⟩
 |exn a n=>
  have main:∀m,n≠999->p.has m=true->kcX n=m->TyX X.K H (V.ref a) (Value.ref (p.cl m))->∃ty,TyX X.K H (T.exn a n).val ty/\∀k b,C5 (T.exn a n).dat k=.ok b->Ko p k->kitOne X.K ty (kdV p k)=some b:=by
   intro m hn hs hk hty
   have hn':(n==999)=false:=beq_eq_false_iff_ne.mpr hn
   refine⟨_,hty,fun k b h hh=>?_⟩
   rw[C.K]
   have kb:=C.kx.kb m hs
   cases k with
   |verr=>
    have h:(if(n==999)=true then Res.bad else Res.ok true)=Res.ok b:=h
    rw[hn',if_neg (by decide)]at h
    cases h;exact C.kx.kv m hs
   |cls m'=>
    have h:(if(n==999)=true then Res.bad else Res.ok (isa (kcX n) m'))=Res.ok b:=h
    rw[hn',if_neg (by decide),hk]at h
    cases h;exact C.kx.kc m m' hs hh
   |dict=>
    have h:Res.ok (n==999)=Res.ok b:=h
    rw[hn']at h
    cases h;exact kb _ (by decide)
   |_=>cases h;exact kb _ (by decide)
  rcases ok with⟨ok,lt⟩|⟨⟨dx,ob,e1,e2,hs⟩,ge⟩
  ·by_cases hn:n=999
   ·subst hn
    refine⟨_,.dct (by rw[ok.1];rfl),fun k b h _=>?_⟩
    cases k<;>cases h<;>rfl
   ·have hs:=ok.2.resolve_left hn
    exact main n hn hs (if_neg (Nat.not_le_of_lt lt)) (.exc (by rw[ok.1];unfold exO;rw[if_neg hn]) (C.K▸C.kx.x n hs))
  ·exact main 4 (fun z=>by subst z;exact absurd ge (by decide)) hs (if_pos ge) (.exa e1 (C.K▸C.kx.x 4 hs))
theorem Tn(C:Ct p c lv X EX){l r:Expr}{x:E}{k:Kd}{v:V}{cv:Value}(hl:PE X l (lE p EX tn x))(hr:PE X r (tC v))(hst:Ad l=true)(hst':Ad r=true)(hgl:Gl X "isinstance")(hcv:clV v=some cv)
  (hk:∀(H:Hp)(t:T)(b:Bool),t.Ok p H->C5 t.dat k=.ok b->∃ty,TyX X.K H t.val ty/\kitOne X.K ty cv=some b):PE X (.Call (.Name "isinstance" np) [l,r] [] pos) (lE p EX tn (.isi x k)):=by
 refine PE.mono (D0 KP hgl (C.blt _ (by simp[Bj])) (by decide +kernel) (Ar hl (Ar hr AW (Ae hst')) (Ae hst)) (by decide) (by decide) (Ae hst) (Ba (by simp[hst']))) fun σ H Q h=>?_
 obtain⟨τ,rfl,hF,j,k',hj,h⟩:=h
 simp only[jk]at hj
 obtain⟨⟨j1,k1⟩,h1,hj⟩:=bS hj
 simp only[ev]at h
 refine l1 hF h1 h fun d t H1 ht R h=>?_
 subst ht
 cases q:C5 t.dat k with
 |ok b=>
  rw[q]at h
  obtain⟨ty,h2,h3⟩:=hk H1 t b R.ok q
  exact⟨t.val,v,cv,ty,b,rfl,hcv,h2,h3,h (.bl b) H1 rfl (Rs.scal R.same rfl)⟩
 |exc n=>
  rw[q]at h
  cases t with
  |exn a c=>
   have hx:∀f,dX (T.exn a c).dat f≠.exc n:=fun f e=>by
    unfold T.dat dX at e
    split at e<;>simp_all
    split at e<;>cases e
   cases k with
   |verr=>exact absurd (show dX (T.exn a c).dat (fun _=>true)=.exc n from q) (hx _)
   |cls m=>exact absurd (show dX (T.exn a c).dat (fun c=>isa c m)=.exc n from q) (hx _)
   |_=>cases q
  |_=>cases k<;>cases q
 |bad=>rw[q]at h;exact nE h
theorem VO(C:Ct p c lv X EX){k:Kd}{r:Expr}(h:QV c k r=true)(hn:∀n,k=.cls n->NeedOk p lv X (.cl n)):∃v cv,PE X r (tC v)/\clV v=some cv/\Ad r=true/\∀(H:Hp)(t:T)(b:Bool),t.Ok p H->C5 t.dat k=.ok b->∃ty,TyX X.K H t.val ty/\kitOne X.K ty cv=some b:=by
 cases r with
 |Name x q=>
  have h:((x==FN k)&&glB c.sc x)=true:=h
  rw[aaf,beq_iff_eq]at h
  obtain⟨rfl,h⟩:=h
  have fin:Ko p k->∀(H:Hp)(t:T)(b:Bool),t.Ok p H->C5 t.dat k=.ok b->∃ty,TyX X.K H t.val ty/\kitOne X.K ty (kdV p k)=some b:=fun hk H t b ok e=>let ⟨ty,a,f⟩:=VN C ok;⟨ty,a,f _ _ e hk⟩
  have key:(∃n,k=.cls n)\/(Ko p k/\kdV p k=.type (Jv k)/\X.mg (FN k)=none/\bootBuiltins (FN k)=some (.type (Jv k))/\FN k≠"__name__" /\ (FN k==("__debug__" : Str))=false):=by
   cases k with
   |cls n=>exact .inl ⟨n,rfl⟩
   |bool=>exact .inr ⟨trivial,rfl,C.bt _ (by decide),by decide +kernel,by decide,by decide⟩
   |dict=>exact .inr ⟨trivial,rfl,C.bt _ (by decide),by decide +kernel,by decide,by decide⟩
   |verr=>exact .inr ⟨trivial,rfl,C.bt _ (by decide),by decide +kernel,by decide,by decide⟩
   |_=>exact .inr ⟨trivial,rfl,C.blt _ (by decide),by decide +kernel,by decide,by decide⟩
  rcases key with⟨n,rfl⟩|⟨k1,k2,k3,k4,k5,k6⟩
  ·obtain⟨h1,h2⟩:=hn n rfl
   exact⟨.ref (p.cl n),.ref (p.cl n),Mz (C.gl h) h2 rfl (NZ n),rfl,rfl,fin h1⟩
  ·exact⟨.ty (Jv k),.type (Jv k),G7 (C.gl h) k3 k4 rfl k5 k6,rfl,rfl,k2▸fin k1⟩
 |_=>exact nF h
theorem To{e:Expr}{x:E}(hl:PE X e (lE p EX tn x)):PE X e (lE p EX tn (.flS x)):=by
 refine PE.mono hl fun σ H Q h=>?_
 obtain⟨τ,rfl,hF,j,k',hj,h⟩:=h
 simp only[jk]at hj
 obtain⟨⟨j1,k1⟩,h1,hj⟩:=bS hj
 obtain⟨hc,e⟩:=CS hj
 cases e
 rw[aaf]at hc
 obtain⟨c1,c2⟩:=hc
 have d1:j1=0:=of_decide_eq_true c1
 have d2:1<=k1:=of_decide_eq_true c2
 clear c1 c2
 subst d1
 simp only[ev]at h
 refine l1 hF h1 h fun d t H1 ht R h=>?_
 subst ht
 obtain⟨hf,h⟩:=Lg.guard h
 have r1:=B9 9 t 1 hf
 have e9:t.adr 9=t.adr k1:=(T.adr_rest t r1 (by omega)).trans (T.adr_rest t r1 d2).symm
 refine h t H1 rfl ⟨R.same,R.ok,R.src,fun a m=>R.new a (by rw[<- e9];exact m),by rw[e9];exact R.nd.1,fun a m _=>?_⟩
 have:=T.rest_le t (show 1<=9 by omega) m
 rw[r1]at this;cases this
theorem Tp{e:Expr}{i:Nat}(h:PE X e (lE p EX tn (.nm i))):PE X e (lE p EX tn (.nmS i)):=by
 refine PE.mono h fun σ H Q hq=>?_
 obtain⟨τ,rfl,hF,j,k,hj,hq⟩:=hq
 simp only[jk]at hj
 obtain⟨⟨j1,k1⟩,h1,hj⟩:=bS hj
 cases hj
 refine⟨τ,rfl,hF,j1,k1,by simp only[jk];exact h1,?_⟩
 rw[show ev (.nmS i) (dτ τ)=(ev (.nm i) (dτ τ)).bind fun d=>if D.scal d=true then .ok d else .bad by rw[ev,ev]]at hq
 refine hq.bind.mono (Same.refl _) fun d _ h t H1 ht R=>?_
 subst ht
 obtain⟨hs,h⟩:=Lg.guard h
 exact h t H1 rfl (Rs.scal R.same (by cases t<;>first|rfl|cases hs))
theorem Tq{e:Expr}{a i:E}(h:PE X e (lE p EX tn (.ix a i))):PE X e (lE p EX tn (.ixS a i)):=by
 refine PE.mono h fun σ H Q hq=>?_
 obtain⟨τ,rfl,hF,j,k,hj,hq⟩:=hq
 simp only[jk]at hj
 obtain⟨⟨j1,k1⟩,h1,hj⟩:=bS hj
 obtain⟨⟨j2,k2⟩,h2,hj⟩:=bS hj
 obtain⟨hc,ej⟩:=CS hj
 cases ej
 refine⟨τ,rfl,hF,0,0,by simp only[jk,h1,h2,aaY];unfold gj;rw[if_pos hc],?_⟩
 rw[show ev (.ixS a i) (dτ τ)=(ev (.ix a i) (dτ τ)).bind fun d=>if D.scal d=true then .ok d else .bad by rw[ev,ev]]at hq
 refine hq.bind.mono (Same.refl _) fun d _ h t H1 ht R=>?_
 subst ht
 obtain⟨hs,h⟩:=Lg.guard h
 exact h t H1 rfl (Rs.scal R.same (by cases t<;>first|rfl|cases hs))
end
end Pu
end
section
set_option maxHeartbeats 1000000
namespace Pu
open PySem PySem.Spec PyProof.Rows PySem.W L2
theorem Ac{a b:Bool}(h:(a&&b)=true):a=true/\b=true:=aaf _ _ |>.mp h
theorem As{p:Px}{lv:Nat}{X:Cx}{a b:List Nd1}(h:∀n∈a++b,NeedOk p lv X n):(∀n∈a,NeedOk p lv X n)/\∀n∈b,NeedOk p lv X n:=⟨fun n m=>h n (aaD _ m),fun n m=>h n (aau _ m)⟩
theorem CU{c:CkC}:∀{es:Es}{xs:List Expr},ckEs c es xs=true->xs.all Ad=true/\xs.length=es.len
 |.nil,[],_=>⟨rfl,rfl⟩
 |.nil,x::xs,h=>nF h
 |.cons e r,[],h=>nF h
 |.cons e r,x::xs,h=>by
  have h:(ckE c e x&&Ad x&&ckEs c r xs)=true:=h
  obtain⟨h,h3⟩:=Ac h
  obtain⟨h1,h2⟩:=Ac h
  obtain⟨a,b⟩:=CU h3
  exact⟨by rw[aaS,h2,a];rfl,by rw[aaL,b,Es.len]⟩
mutual
theorem snd{p:Px}{lv:Nat}:∀(x:E){c:CkC}{X:Cx}{EX:EXT}{tn:List Nat}(C:Ct p c lv X EX)(e:Expr),(∀n∈x.need,NeedOk p lv X n)->ckE c x e=true->PE X e (lE p EX tn x)/\(x.tst=true->PT X e (lT p EX tn x))
 |.nm i,c,X,EX,tn,C,e,hn,h=>by
  cases e with
  |Name y q=>
   have h:((c.N[i]?==some y)&&DO c.sc y&&Bb y)=true:=h
   obtain⟨h,h3⟩:=Ac h
   obtain⟨h1,h2⟩:=Ac h
   obtain⟨d1,d2⟩:=BA h3
   exact AL C (O6 (by rw[C.N];exact beq_iff_eq.mp h1) (C.vis h2) d1 d2) rfl
  |_=>exact nF h
 |.nmS i,c,X,EX,tn,C,e,hn,h=>by
  cases e with
  |Name y q=>
   have h:((c.N[i]?==some y)&&DO c.sc y&&Bb y)=true:=h
   obtain⟨h,h3⟩:=Ac h
   obtain⟨h1,h2⟩:=Ac h
   obtain⟨d1,d2⟩:=BA h3
   exact AL C (Tp (O6 (by rw[C.N];exact beq_iff_eq.mp h1) (C.vis h2) d1 d2)) rfl
  |_=>exact nF h
 |.cN,c,X,EX,tn,C,e,hn,h=>by
  cases e with
  |Constant k j q=>
   cases k with
   |none=>exact AL C (IE (t:=.non) UI rfl (fun _=>rfl)) rfl
   |_=>exact nF h
  |_=>exact nF h
 |.cB b,c,X,EX,tn,C,e,hn,h=>by
  cases e with
  |Constant k j q=>
   cases k with
   |bool b'=>
    cases beq_iff_eq.mp (show(b==b')=true from h)
    exact AL C (IE (t:=.bl b) Wy rfl (fun _=>rfl)) rfl
   |_=>exact nF h
  |_=>exact nF h
 |.cI b,c,X,EX,tn,C,e,hn,h=>by
  cases e with
  |Constant k j q=>
   cases k with
   |int b'=>
    cases beq_iff_eq.mp (show(b==b')=true from h)
    exact AL C (IE (t:=.int b) Ox rfl (fun _=>rfl)) rfl
   |_=>exact nF h
  |_=>exact nF h
 |.cS b,c,X,EX,tn,C,e,hn,h=>by
  cases e with
  |Constant k j q=>
   cases k with
   |str b'=>
    cases beq_iff_eq.mp (show(b==b')=true from h)
    exact AL C (IE (t:=.str b) UJ rfl (fun _=>rfl)) rfl
   |_=>exact nF h
  |_=>exact nF h
 |.gl y d,c,X,EX,tn,C,e,hn,h=>by
  cases e with
  |Name y' q=>
   have h:((y==y')&&glB c.sc y'&&Bb y'&&D.scal d)=true:=h
   obtain⟨h,h4⟩:=Ac h
   obtain⟨h,h3⟩:=Ac h
   obtain⟨h1,h2⟩:=Ac h
   cases beq_iff_eq.mp h1
   obtain⟨u,m,r⟩:=hn (.gl y d) (aaE.mpr rfl)
   obtain⟨e1,e2⟩:=VM h4
   exact AL C (IE (t:=dT d) (Mz (C.gl h2) m r (BA h3).1) e2 (fun _=>by rw[e1];rfl)) rfl
  |_=>exact nF h
 |.tup es,c,X,EX,tn,C,e,hn,h=>by
  cases e with
  |Tuple xs k q=>
   obtain⟨h1,h2⟩:=Ac (show(ckEs c es xs&&decide (es.len<=1000))=true from h)
   exact AL C (SE (sndA es C xs hn h1).1 (of_decide_eq_true h2)) rfl
  |_=>exact nF h
 |.lst es,c,X,EX,tn,C,e,hn,h=>by
  cases e with
  |List xs q=>
   obtain⟨h1,h2⟩:=Ac (show(ckEs c es xs&&decide (es.len<=1000))=true from h)
   exact AL C (SF (sndA es C xs hn h1).1 (of_decide_eq_true h2)) rfl
  |_=>exact nF h
 |.bin o a b,c,X,EX,tn,C,e,hn,h=>by
  cases e with
  |BinOp l op r q=>
   obtain⟨h,h3⟩:=Ac (show((op==NL o)&&ckE c a l&&ckE c b r)=true from h)
   obtain⟨h1,h2⟩:=Ac h
   cases beq_iff_eq.mp h1
   obtain⟨n1,n2⟩:=As hn
   exact AL C (SM (snd a C l n1 h2).1 (snd b C r n2 h3).1) rfl
  |_=>exact nF h
 |.neg a,c,X,EX,tn,C,e,hn,h=>by
  cases e with
  |UnaryOp o l q=>
   cases o with
   |USub=>exact AL C (SR (snd a C l hn h).1) rfl
   |_=>exact nF h
  |_=>exact nF h
 |.not a,c,X,EX,tn,C,e,hn,h=>by
  cases e with
  |UnaryOp o l q=>
   cases o with
   |Not=>
    obtain⟨h1,h2⟩:=snd a C (tn:=tn) l hn h
    exact⟨ST h1,fun ht=>QJ (h2 ht)⟩
   |_=>exact nF h
  |_=>exact nF h
 |.cmp o a b,c,X,EX,tn,C,e,hn,h=>by
  cases e with
  |Compare l ops rs q=>
   match ops,rs,h with
   |[op],[r],h=>
    obtain⟨h,h4⟩:=Ac (show((op==By o)&&ckE c a l&&ckE c b r&&Ej r)=true from h)
    obtain⟨h,h3⟩:=Ac h
    obtain⟨h1,h2⟩:=Ac h
    cases beq_iff_eq.mp h1
    obtain⟨n1,n2⟩:=As hn
    have A:=(snd a C (tn:=tn) l n1 h2).1
    have B:=(snd b C (tn:=tn) r n2 h3).1
    exact⟨SN C.K C.hu A B (ER h4),fun _=>QG C.K C.hu A B (ER h4)⟩
   |[],_,h=>exact nF h
   |[_],[],h=>exact nF h
   |[_],_::_::_,h=>exact nF h
   |_::_::_,_,h=>exact nF h
  |_=>exact nF h
 |.chain o o' a b d,c,X,EX,tn,C,e,hn,h=>by
  cases e with
  |Compare l ops rs q=>
   match ops,rs,h with
   |[op,op'],[r,r'],h=>
    obtain⟨h,h6⟩:=Ac (show((op==By o)&&(op'==By o')&&ckE c a l&&ckE c b r&&ckE c d r'&&Ej r')=true from h)
    obtain⟨h,h5⟩:=Ac h
    obtain⟨h,h4⟩:=Ac h
    obtain⟨h,h3⟩:=Ac h
    obtain⟨h1,h2⟩:=Ac h
    cases beq_iff_eq.mp h1
    cases beq_iff_eq.mp h2
    obtain⟨n1,n2⟩:=As hn
    obtain⟨n2,n3⟩:=As n2
    have A:=(snd a C (tn:=tn) l n1 h3).1
    have B:=(snd b C (tn:=tn) r n2 h4).1
    have D:=(snd d C (tn:=tn) r' n3 h5).1
    exact⟨Pc C.K C.hu A B D (ER h6),fun _=>NP C.K C.hu A B D (ER h6)⟩
   |[],_,h=>exact nF h
   |[_],_,h=>exact nF h
   |[_,_],[],h=>exact nF h
   |[_,_],[_],h=>exact nF h
   |[_,_],_::_::_::_,h=>exact nF h
   |_::_::_::_,_,h=>exact nF h
  |_=>exact nF h
 |.isN n a,c,X,EX,tn,C,e,hn,h=>by
  cases e with
  |Compare l ops rs q=>
   match ops,rs,h with
   |[op],[r],h=>
    obtain⟨h,h3⟩:=Ac (show((op==if n then .IsNot else .Is)&&Pr r&&ckE c a l)=true from h)
    obtain⟨h1,h2⟩:=Ac h
    cases beq_iff_eq.mp h1
    have A:=(snd a C (tn:=tn) l hn h3).1
    cases r with
    |Constant k j q'=>
     cases k with
     |none=>exact⟨SQ A,fun _=>QH A⟩
     |_=>cases h2
    |_=>cases h2
   |[],_,h=>exact nF h
   |[_],[],h=>exact nF h
   |[_],_::_::_,h=>exact nF h
   |_::_::_,_,h=>exact nF h
  |_=>exact nF h
 |.bo k es,c,X,EX,tn,C,e,hn,h=>by
  cases e with
  |BoolOp op xs q=>
   obtain⟨h1,h2⟩:=Ac (show((op==if k then .And else .Or)&&ckEs c es xs)=true from h)
   cases beq_iff_eq.mp h1
   obtain⟨a1,a2⟩:=(sndA es C (tn:=tn) xs hn h2).2 k q
   exact⟨a1,fun ht=>(a2 ht).pt⟩
  |_=>exact nF h
 |.ifx t a b,c,X,EX,tn,C,e,hn,h=>by
  cases e with
  |IfExp t' a' b' q=>
   obtain⟨h,h4⟩:=Ac (show(ckE c t t'&&t.tst&&ckE c a a'&&ckE c b b')=true from h)
   obtain⟨h,h3⟩:=Ac h
   obtain⟨h1,h2⟩:=Ac h
   obtain⟨n1,n2⟩:=As hn
   obtain⟨n2,n3⟩:=As n2
   exact⟨SX ((snd t C t' n1 h1).2 h2) (snd a C a' n2 h3).1 (snd b C b' n3 h4).1,fun z=>nomatch z⟩
  |_=>exact nF h
 |.ix a i,c,X,EX,tn,C,e,hn,h=>by
  cases e with
  |Subscript l r q=>
   obtain⟨h,h3⟩:=Ac (show(ckE c a l&&ckE c i r&&A3 r)=true from h)
   obtain⟨h1,h2⟩:=Ac h
   obtain⟨n1,n2⟩:=As hn
   exact AL C (Pe C.K (snd a C l n1 h1).1 (snd i C r n2 h2).1 h3) rfl
  |_=>exact nF h
 |.ixS a i,c,X,EX,tn,C,e,hn,h=>by
  cases e with
  |Subscript l r q=>
   obtain⟨h,h3⟩:=Ac (show(ckE c a l&&ckE c i r&&A3 r)=true from h)
   obtain⟨h1,h2⟩:=Ac h
   obtain⟨n1,n2⟩:=As hn
   exact AL C (Tq (Pe C.K (snd a C l n1 h1).1 (snd i C r n2 h2).1 h3)) rfl
  |_=>exact nF h
 |.ixL a i,c,X,EX,tn,C,e,hn,h=>by
  cases e with
  |Subscript l r q=>
   obtain⟨h,h3⟩:=Ac (show(ckE c a l&&ckE c i r&&A3 r)=true from h)
   obtain⟨h1,h2⟩:=Ac h
   obtain⟨n1,n2⟩:=As hn
   exact AL C (SY (snd a C l n1 h1).1 (snd i C r n2 h2).1 h3) rfl
  |_=>exact nF h
 |.ixT a i,c,X,EX,tn,C,e,hn,h=>by
  cases e with
  |Subscript l r q=>
   obtain⟨h,h3⟩:=Ac (show(ckE c a l&&ckE c i r&&A3 r)=true from h)
   obtain⟨h1,h2⟩:=Ac h
   obtain⟨n1,n2⟩:=As hn
   exact AL C (SZ (snd a C l n1 h1).1 (snd i C r n2 h2).1 h3) rfl
  |_=>exact nF h
 |.ixF a i,c,X,EX,tn,C,e,hn,h=>by
  cases e with
  |Subscript l r q=>
   obtain⟨h,h3⟩:=Ac (show(ckE c a l&&ckE c i r&&A3 r)=true from h)
   obtain⟨h1,h2⟩:=Ac h
   obtain⟨n1,n2⟩:=As hn
   exact AL C (S0 (snd a C l n1 h1).1 (snd i C r n2 h2).1 h3) rfl
  |_=>exact nF h
 |.slc a lo hi,c,X,EX,tn,C,e,hn,h=>by
  cases e with
  |Subscript l r q=>
   cases r with
   |Slice lo' hi' st q2=>
    cases st with
    |none=>
     obtain⟨h,h3⟩:=Ac (show(ckE c a l&&IM lo.isCN (ckE c lo) lo'&&IM hi.isCN (ckE c hi) hi')=true from h)
     obtain⟨h1,h2⟩:=Ac h
     obtain⟨n1,n2⟩:=As hn
     obtain⟨n2,n3⟩:=As n2
     have cn:∀{y:E},y.isCN=true->y=.cN:=fun {y} z=>by cases y<;>first|rfl|cases z
     have P1:PO X lo' (lO p EX tn lo):=by
      cases lo' with
      |none=>cases cn h2;exact JY
      |some l'=>
       obtain⟨g1,g2⟩:=Ac h2
       exact JZ (snd lo C l' n2 g2).1 (by simpa using g1)
     have P2:PO X hi' (lO p EX tn hi):=by
      cases hi' with
      |none=>cases cn h3;exact JY
      |some l'=>
       obtain⟨g1,g2⟩:=Ac h3
       exact JZ (snd hi C l' n3 g2).1 (by simpa using g1)
     exact AL C (S6 (snd a C l n1 h1).1 P1 P2) rfl
    |some _=>exact nF h
   |_=>exact nF h
  |_=>exact nF h
 |.call f es,c,X,EX,tn,C,e,hn,h=>by
  cases e with
  |Call fn xs ks q=>
   cases fn with
   |Name y q'=>
    cases ks with
    |nil=>
     obtain⟨h,h7⟩:=Ac (show((y==f.name)&&glB c.sc y&&Bb y&&ckEs c es xs&&decide (es.len=f.ar)&&decide (0<es.len)&&c.cm)=true from h)
     obtain⟨h,h6⟩:=Ac h
     obtain⟨h,h5⟩:=Ac h
     obtain⟨h,h4⟩:=Ac h
     obtain⟨h,h3⟩:=Ac h
     obtain⟨h1,h2⟩:=Ac h
     cases beq_iff_eq.mp h1
     obtain⟨s1,s2⟩:=CU h4
     obtain⟨f1,f2⟩:=hn (.fn f) (aac ..)
     have A:=(sndA es C (tn:=tn) xs (fun n m=>hn n (aaa _ m)) h4).1
     cases es with
     |nil=>cases of_decide_eq_true h6
     |cons e1 r1=>
      cases xs with
      |nil=>cases s2
      |cons x1 xr=>exact AL C (QM C.pass f2 ((C.room h7).mono f1) (C.gl h2) (BA h3).1 A s1 (of_decide_eq_true h5)) rfl
    |cons _ _=>exact nF h
   |_=>exact nF h
  |_=>exact nF h
 |.flS a,c,X,EX,tn,C,e,hn,h=>by
  cases e with
  |Call f xs ks q=>
   have h:ckE c a (.Call f xs ks q)=true:=h
   exact⟨To (snd a C _ hn h).1,fun z=>nomatch z⟩
  |_=>exact nF h
 |.callB f es,c,X,EX,tn,C,e,hn,h=>by
  cases e with
  |Call fn xs ks q=>
   cases fn with
   |Name y q'=>
    cases ks with
    |nil=>
     obtain⟨h,h7⟩:=Ac (show((y==f.name)&&glB c.sc y&&Bb y&&ckEs c es xs&&decide (es.len=f.ar)&&decide (0<es.len)&&c.cm)=true from h)
     obtain⟨h,h6⟩:=Ac h
     obtain⟨h,h5⟩:=Ac h
     obtain⟨h,h4⟩:=Ac h
     obtain⟨h,h3⟩:=Ac h
     obtain⟨h1,h2⟩:=Ac h
     cases beq_iff_eq.mp h1
     obtain⟨s1,s2⟩:=CU h4
     obtain⟨f1,f2⟩:=hn (.fn f) (aac ..)
     have A:=(sndA es C (tn:=tn) xs (fun n m=>hn n (aaa _ m)) h4).1
     cases es with
     |nil=>cases of_decide_eq_true h6
     |cons e1 r1=>
      cases xs with
      |nil=>cases s2
      |cons x1 xr=>exact AL C (Pf C.pass f2 ((C.room h7).mono f1) (C.gl h2) (BA h3).1 A s1 (of_decide_eq_true h5)) rfl
    |cons _ _=>exact nF h
   |_=>exact nF h
  |_=>exact nF h
 |.bi b es,c,X,EX,tn,C,e,hn,h=>by
  cases e with
  |Call fn xs ks q=>
   cases fn with
   |Name y q'=>
    cases ks with
    |nil=>
     obtain⟨h,h6⟩:=Ac (show((y==Pq b)&&glB c.sc y&&VL b&&ckEs c es xs&&decide (0<es.len)&&(c.cm||IL b))=true from h)
     obtain⟨h,h5⟩:=Ac h
     obtain⟨h,h4⟩:=Ac h
     obtain⟨h,h3⟩:=Ac h
     obtain⟨h1,h2⟩:=Ac h
     cases beq_iff_eq.mp h1
     obtain⟨s1,s2⟩:=CU h4
     have A:=(sndA es C (tn:=tn) xs hn h4).1
     cases es with
     |nil=>cases of_decide_eq_true h5
     |cons e1 r1=>
      cases xs with
      |nil=>cases s2
      |cons x1 xr=>
       refine AL C ?_ rfl
       cases b with
       |len=>exact S7 C.blt A s1 (C.gl h2)
       |min=>exact S9 C.blt A s1 (C.calm (by rw[show IL .min=false from rfl,Bool.or_false]at h6;exact h6)) (C.gl h2)
       |maxL=>exact QO C.blt A s1 (C.calm (by rw[show IL .maxL=false from rfl,Bool.or_false]at h6;exact h6)) (C.gl h2)
       |int=>exact S8 C.blt A s1 (C.gl h2)
       |list=>exact QN C.blt A s1 (C.gl h2)
       |tuple=>exact Pg C.blt A s1 (C.gl h2)
    |cons _ _=>exact nF h
   |_=>exact nF h
  |_=>exact nF h
 |.listI it,c,X,EX,tn,C,e,hn,h=>by
  cases it with
  |r2 a b=>
   cases q:Ju e with
   |none=>
    have h:(match Ju e with|some (x,y,l,r)=>(x==("list" : Str))&&glB c.sc x&&(y==("range" : Str))&&glB c.sc y&&ckE c a l&&Ad l&&ckE c b r&&Ad r&&c.cm|none=>false)=true:=h
    rw[q]at h;cases h
   |some w=>
    obtain⟨x,y,l,r⟩:=w
    have h:(match Ju e with|some (x,y,l,r)=>(x==("list" : Str))&&glB c.sc x&&(y==("range" : Str))&&glB c.sc y&&ckE c a l&&Ad l&&ckE c b r&&Ad r&&c.cm|none=>false)=true:=h
    rw[q]at h
    obtain⟨p1,p2,p3,p4,rfl⟩:=Tm q
    obtain⟨h,h9⟩:=Ac (show((x==("list" : Str))&&glB c.sc x&&(y==("range" : Str))&&glB c.sc y&&ckE c a l&&Ad l&&ckE c b r&&Ad r&&c.cm)=true from h)
    obtain⟨h,h8⟩:=Ac h
    obtain⟨h,h7⟩:=Ac h
    obtain⟨h,h6⟩:=Ac h
    obtain⟨h,h5⟩:=Ac h
    obtain⟨h,h4⟩:=Ac h
    obtain⟨h,h3⟩:=Ac h
    obtain⟨h1,h2⟩:=Ac h
    cases beq_iff_eq.mp h1
    cases beq_iff_eq.mp h3
    obtain⟨n1,n2⟩:=As hn
    exact AL C (Pl (C.calm h9) (snd a C l n1 h5).1 (snd b C r n2 h7).1 h6 h8 (C.gl h2) (C.blt _ (by simp[Bj])) (C.gl h4) (C.blt _ (by simp[Bj]))) rfl
  |r1 b=>
   cases q:Ei e with
   |none=>
    have h:(match Ei e with|some (x,y,r)=>(x==("list" : Str))&&glB c.sc x&&(y==("range" : Str))&&glB c.sc y&&ckE c b r&&Ad r&&c.cm|none=>false)=true:=h
    rw[q]at h;cases h
   |some w=>
    obtain⟨x,y,r⟩:=w
    have h:(match Ei e with|some (x,y,r)=>(x==("list" : Str))&&glB c.sc x&&(y==("range" : Str))&&glB c.sc y&&ckE c b r&&Ad r&&c.cm|none=>false)=true:=h
    rw[q]at h
    obtain⟨p1,p2,p3,p4,rfl⟩:=Le q
    obtain⟨h,h9⟩:=Ac (show((x==("list" : Str))&&glB c.sc x&&(y==("range" : Str))&&glB c.sc y&&ckE c b r&&Ad r&&c.cm)=true from h)
    obtain⟨h,h8⟩:=Ac h
    obtain⟨h,h7⟩:=Ac h
    obtain⟨h,h4⟩:=Ac h
    obtain⟨h,h3⟩:=Ac h
    obtain⟨h1,h2⟩:=Ac h
    cases beq_iff_eq.mp h1
    cases beq_iff_eq.mp h3
    exact AL C (NT (C.calm h9) (snd b C r hn h7).1 h8 (C.gl h2) (C.blt _ (by simp[Bj])) (C.gl h4) (C.blt _ (by simp[Bj]))) rfl
  |rv b=>
   cases q:Ei e with
   |none=>
    have h:(match Ei e with|some (x,y,r)=>(x==("list" : Str))&&glB c.sc x&&(y==("reversed" : Str))&&glB c.sc y&&ckE c b r&&Ad r&&c.cm|none=>false)=true:=h
    rw[q]at h;cases h
   |some w=>
    obtain⟨x,y,r⟩:=w
    have h:(match Ei e with|some (x,y,r)=>(x==("list" : Str))&&glB c.sc x&&(y==("reversed" : Str))&&glB c.sc y&&ckE c b r&&Ad r&&c.cm|none=>false)=true:=h
    rw[q]at h
    obtain⟨p1,p2,p3,p4,rfl⟩:=Le q
    obtain⟨h,h9⟩:=Ac (show((x==("list" : Str))&&glB c.sc x&&(y==("reversed" : Str))&&glB c.sc y&&ckE c b r&&Ad r&&c.cm)=true from h)
    obtain⟨h,h8⟩:=Ac h
    obtain⟨h,h7⟩:=Ac h
    obtain⟨h,h4⟩:=Ac h
    obtain⟨h,h3⟩:=Ac h
    obtain⟨h1,h2⟩:=Ac h
    cases beq_iff_eq.mp h1
    cases beq_iff_eq.mp h3
    exact AL C (NV (C.calm h9) C.K (snd b C r hn h7).1 h8 (C.gl h2) (C.blt _ (by simp[Bj])) (C.gl h4) (C.blt _ (by simp[Bj]))) rfl
  |r3 a b d=>
   cases q:Hi e with
   |none=>
    have h:(match Hi e with|some (x,y,l,r,s)=>(x==("list" : Str))&&glB c.sc x&&(y==("range" : Str))&&glB c.sc y&&ckE c a l&&Ad l&&ckE c b r&&Ad r&&ckE c d s&&Ad s&&c.cm|none=>false)=true:=h
    rw[q]at h;cases h
   |some w=>
    obtain⟨x,y,l,r,s⟩:=w
    have h:(match Hi e with|some (x,y,l,r,s)=>(x==("list" : Str))&&glB c.sc x&&(y==("range" : Str))&&glB c.sc y&&ckE c a l&&Ad l&&ckE c b r&&Ad r&&ckE c d s&&Ad s&&c.cm|none=>false)=true:=h
    rw[q]at h
    obtain⟨p1,p2,p3,p4,rfl⟩:=QU q
    obtain⟨h,h11⟩:=Ac (show((x==("list" : Str))&&glB c.sc x&&(y==("range" : Str))&&glB c.sc y&&ckE c a l&&Ad l&&ckE c b r&&Ad r&&ckE c d s&&Ad s&&c.cm)=true from h)
    obtain⟨h,h10⟩:=Ac h
    obtain⟨h,h9⟩:=Ac h
    obtain⟨h,h8⟩:=Ac h
    obtain⟨h,h7⟩:=Ac h
    obtain⟨h,h6⟩:=Ac h
    obtain⟨h,h5⟩:=Ac h
    obtain⟨h,h4⟩:=Ac h
    obtain⟨h,h3⟩:=Ac h
    obtain⟨h1,h2⟩:=Ac h
    cases beq_iff_eq.mp h1
    cases beq_iff_eq.mp h3
    obtain⟨n1,n23⟩:=As hn
    obtain⟨n2,n3⟩:=As n23
    exact AL C (NU (C.calm h11) (snd a C l n1 h5).1 (snd b C r n2 h7).1 (snd d C s n3 h9).1 h6 h8 h10 (C.gl h2) (C.blt _ (by simp[Bj])) (C.gl h4) (C.blt _ (by simp[Bj]))) rfl
  |_=>cases e<;>exact nF h
 |.isi a k,c,X,EX,tn,C,e,hn,h=>by
  cases e with
  |Call fn xs ks q=>
   cases fn with
   |Name y q'=>
    match xs,ks,h with
    |[l,r],[],h=>
     obtain⟨h,h5⟩:=Ac (show((y==("isinstance" : Str))&&glB c.sc y&&ckE c a l&&QV c k r&&Ad l)=true from h)
     obtain⟨h,h4⟩:=Ac h
     obtain⟨h,h3⟩:=Ac h
     obtain⟨h1,h2⟩:=Ac h
     cases beq_iff_eq.mp h1
     obtain⟨n1,n2⟩:=As hn
     obtain⟨v,cv,e1,e2,e3,e4⟩:=VO C h4 (fun n e=>n1 _ (by subst e;exact aaE.mpr rfl))
     exact AL C (Tn C (snd a C l n2 h3).1 e1 h5 e3 (C.gl h2) e2 e4) rfl
    |[],_,h=>exact nF h
    |[_],_,h=>exact nF h
    |_::_::_::_,_,h=>exact nF h
    |[_,_],_::_,h=>exact nF h
   |_=>exact nF h
  |_=>exact nF h
 |.comp0 nl fr g it elt,c,X,EX,tn,C,e,hn,h=>by
  cases e with
  |ListComp elt' gens scope q=>
   obtain⟨tg,iter,ifs,rfl,h⟩:=EQ h
   obtain⟨h,h7⟩:=Ac h
   obtain⟨h,h6⟩:=Ac h
   obtain⟨h,h5⟩:=Ac h
   obtain⟨h,h4⟩:=Ac h
   obtain⟨h,h3⟩:=Ac h
   obtain⟨h,h2⟩:=Ac h
   obtain⟨h,h1⟩:=Ac h
   obtain⟨hcm,h0⟩:=Ac h
   cases ifs with
   |cons _ _=>cases h0
   |nil=>
   have h2:=of_decide_eq_true h2
   subst h2
   obtain⟨S,nd⟩:=Kn C h1
   obtain⟨n1,n2⟩:=As hn
   refine AL C (Pm (C.calm hcm) S (sndI it C iter n1 h4) (fun i hi=>of_decide_eq_true (aas.mp h3 i hi)) (fun z=>⟨?_,?_⟩) (D6 h5)) rfl
   ·exact HS (C.blk nd z) h6
   ·exact(snd elt (C.blk nd z) elt' (fun n m=>(n2 n m).blk) h7).1
  |_=>exact nF h
 |.comp1 nl fr g it cond elt,c,X,EX,tn,C,e,hn,h=>by
  cases e with
  |ListComp elt' gens scope q=>
   obtain⟨tg,iter,ifs,rfl,h⟩:=EQ h
   obtain⟨cnd,rfl,h⟩:=Lf h
   obtain⟨h,h9⟩:=Ac h
   obtain⟨h,h8⟩:=Ac h
   obtain⟨h,h7⟩:=Ac h
   obtain⟨h,h6⟩:=Ac h
   obtain⟨h,h5⟩:=Ac h
   obtain⟨h,h4⟩:=Ac h
   obtain⟨h,h3⟩:=Ac h
   obtain⟨h,h2⟩:=Ac h
   obtain⟨hcm,h1⟩:=Ac h
   have h2:=of_decide_eq_true h2
   subst h2
   obtain⟨S,nd⟩:=Kn C h1
   obtain⟨n1,n2⟩:=As hn
   obtain⟨n2,n3⟩:=As n2
   refine AL C (Pn (C.calm hcm) S (sndI it C iter n1 h4) (fun i hi=>of_decide_eq_true (aas.mp h3 i hi)) (fun z=>⟨?_,?_,?_⟩) (D6 h5)) rfl
   ·exact HS (C.blk nd z) h6
   ·exact(snd cond (C.blk nd z) cnd (fun n m=>(n2 n m).blk) h7).2 h8
   ·exact(snd elt (C.blk nd z) elt' (fun n m=>(n3 n m).blk) h9).1
  |_=>exact nF h
theorem sndA{p:Px}{lv:Nat}:∀(es:Es){c:CkC}{X:Cx}{EX:EXT}{tn:List Nat}(C:Ct p c lv X EX)(xs:List Expr),(∀n∈es.need,NeedOk p lv X n)->ckEs c es xs=true->
  PA X xs (lEs p EX tn es)/\∀(k:Bool)(q:Pos),PE X (.BoolOp (if k then .And else .Or) xs q) (lE p EX tn (.bo k es))/\(es.tsts=true->PW X (.BoolOp (if k then .And else .Or) xs q) (lT p EX tn (.bo k es)))
 |.nil,c,X,EX,tn,C,xs,hn,h=>by
  cases xs with
  |nil=>
   refine⟨QE,fun k q=>⟨fun pins s σ H Q I h=>?_,fun _ wh pins s σ H Q I h=>?_⟩⟩
   ·obtain⟨τ,rfl,hF,j,k',hj,h⟩:=h
    simp only[ev,evBo]at h
    exact nE h
   ·obtain⟨τ,rfl,hF,hj,h⟩:=h
    simp only[tv,ev,evBo]at h
    exact nE h
  |cons _ _=>exact nF h
 |.cons e r,c,X,EX,tn,C,xs,hn,h=>by
  cases xs with
  |nil=>exact nF h
  |cons x xs=>
   obtain⟨h,h3⟩:=Ac (show(ckE c e x&&Ad x&&ckEs c r xs)=true from h)
   obtain⟨h1,h2⟩:=Ac h
   obtain⟨n1,n2⟩:=As hn
   obtain⟨A1,A2⟩:=snd e C (tn:=tn) x n1 h1
   obtain⟨B1,B2⟩:=sndA r C (tn:=tn) xs n2 h3
   refine⟨O7 A1 B1 (Ae h2),fun k q=>?_⟩
   cases r with
   |nil=>
    cases xs with
    |nil=>exact⟨VC A1,fun z=>SV (A2 (Ac (show(e.tst&&true)=true from z)).1)⟩
    |cons _ _=>exact nF h3
   |cons e' r'=>
    cases xs with
    |nil=>exact nF h3
    |cons x' xs'=>
     obtain⟨C1,C2⟩:=B2 k q
     exact⟨SU A1 C1,fun z=>let ⟨z1,z2⟩:=Ac (show(e.tst&&(Es.cons e' r').tsts)=true from z);QK (A2 z1) (C2 z2)⟩
theorem sndI{p:Px}{lv:Nat}:∀(it:It){c:CkC}{X:Cx}{EX:EXT}{tn:List Nat}{tg:Expr}(C:Ct p c lv X EX)(e:Expr),(∀n∈it.need,NeedOk p lv X n)->ckI c tg it e=true->PI X tg e (lI p EX tn it)
 |.seq a,c,X,EX,tn,tg,C,e,hn,h=>QR C.K (snd a C e hn h).1
 |.seqL a,c,X,EX,tn,tg,C,e,hn,h=>Pi C.K (snd a C e hn h).1
 |.r1 a,c,X,EX,tn,tg,C,e,hn,h=>by
  cases e with
  |Call fn xs ks q=>
   cases fn with
   |Name y q'=>
    match xs,ks,h with
    |[l],[],h=>
     obtain⟨h,h4⟩:=Ac (show((y==("range" : Str))&&glB c.sc y&&ckE c a l&&Ad l)=true from h)
     obtain⟨h,h3⟩:=Ac h
     obtain⟨h1,h2⟩:=Ac h
     cases beq_iff_eq.mp h1
     exact Tb (snd a C l hn h3).1 h4 (C.gl h2) (C.blt _ (by simp[Bj]))
    |[],_,h=>exact nF h
    |_::_::_,_,h=>exact nF h
    |[_],_::_,h=>exact nF h
   |_=>exact nF h
  |_=>exact nF h
 |.r2 a b,c,X,EX,tn,tg,C,e,hn,h=>by
  cases e with
  |Call fn xs ks q=>
   cases fn with
   |Name y q'=>
    match xs,ks,h with
    |[l,r],[],h=>
     obtain⟨h,h6⟩:=Ac (show((y==("range" : Str))&&glB c.sc y&&ckE c a l&&Ad l&&ckE c b r&&Ad r)=true from h)
     obtain⟨h,h5⟩:=Ac h
     obtain⟨h,h4⟩:=Ac h
     obtain⟨h,h3⟩:=Ac h
     obtain⟨h1,h2⟩:=Ac h
     cases beq_iff_eq.mp h1
     obtain⟨n1,n2⟩:=As hn
     exact Tc (snd a C l n1 h3).1 (snd b C r n2 h5).1 h4 h6 (C.gl h2) (C.blt _ (by simp[Bj]))
    |[],_,h=>exact nF h
    |[_],_,h=>exact nF h
    |_::_::_::_,_,h=>exact nF h
    |[_,_],_::_,h=>exact nF h
   |_=>exact nF h
  |_=>exact nF h
 |.r3 a b d,c,X,EX,tn,tg,C,e,hn,h=>by
  cases e with
  |Call fn xs ks q=>
   cases fn with
   |Name y q'=>
    match xs,ks,h with
    |[l,r,o],[],h=>
     obtain⟨h,h8⟩:=Ac (show((y==("range" : Str))&&glB c.sc y&&ckE c a l&&Ad l&&ckE c b r&&Ad r&&ckE c d o&&Ad o)=true from h)
     obtain⟨h,h7⟩:=Ac h
     obtain⟨h,h6⟩:=Ac h
     obtain⟨h,h5⟩:=Ac h
     obtain⟨h,h4⟩:=Ac h
     obtain⟨h,h3⟩:=Ac h
     obtain⟨h1,h2⟩:=Ac h
     cases beq_iff_eq.mp h1
     obtain⟨n1,n23⟩:=As hn
     obtain⟨n2,n3⟩:=As n23
     exact Te (snd a C l n1 h3).1 (snd b C r n2 h5).1 (snd d C o n3 h7).1 h4 h6 h8 (C.gl h2) (C.blt _ (by simp[Bj]))
    |[],_,h=>exact nF h
    |[_],_,h=>exact nF h
    |[_,_],_,h=>exact nF h
    |_::_::_::_::_,_,h=>exact nF h
    |[_,_,_],_::_,h=>exact nF h
   |_=>exact nF h
  |_=>exact nF h
 |.en a,c,X,EX,tn,tg,C,e,hn,h=>by
  cases e with
  |Call fn xs ks q=>
   cases fn with
   |Name y q'=>
    match xs,ks,h with
    |[l],[],h=>
     obtain⟨h,h5⟩:=Ac (show((y==("enumerate" : Str))&&glB c.sc y&&ckE c a l&&Ad l&&RS tg)=true from h)
     obtain⟨h,h4⟩:=Ac h
     obtain⟨h,h3⟩:=Ac h
     obtain⟨h1,h2⟩:=Ac h
     cases beq_iff_eq.mp h1
     cases tg with
     |Tuple es k q2=>exact Th C.K (snd a C l hn h3).1 h4 (C.gl h2) (C.blt _ (by simp[Bj]))
     |_=>exact nF h5
    |[],_,h=>exact nF h
    |_::_::_,_,h=>exact nF h
    |[_],_::_,h=>exact nF h
   |_=>exact nF h
  |_=>exact nF h
 |.rv a,c,X,EX,tn,tg,C,e,hn,h=>by
  cases e with
  |Call fn xs ks q=>
   cases fn with
   |Name y q'=>
    match xs,ks,h with
    |[l],[],h=>
     obtain⟨h,h4⟩:=Ac (show((y==("reversed" : Str))&&glB c.sc y&&ckE c a l&&Ad l)=true from h)
     obtain⟨h,h3⟩:=Ac h
     obtain⟨h1,h2⟩:=Ac h
     cases beq_iff_eq.mp h1
     exact Ta C.K (snd a C l hn h3).1 h4 (C.gl h2) (C.blt _ (by simp[Bj]))
    |[],_,h=>exact nF h
    |_::_::_,_,h=>exact nF h
    |[_],_::_,h=>exact nF h
   |_=>exact nF h
  |_=>exact nF h
end
end Pu
end
section
namespace Pu
open PySem PySem.Spec PyProof.Rows PySem.W L2
inductive Md where
 |sh
 |ow (k:Nat)
 |br (k:Nat)
 |dead
 deriving DecidableEq
@[reducible]noncomputable def Ms:=List Md
abbrev Md.tn:Md->Nat
 |.sh=>0
 |.ow k=>k
 |.br k=>k
 |.dead=>99
abbrev Md.le:Md->Md->Bool
 |_,.dead=>true
 |.sh,.sh=>true
 |.ow _,.sh=>true
 |.ow k,.ow k'=>decide (0<k'/\k'<=k)
 |.br k,.br k'=>decide (k=k')
 |_,_=>false
abbrev Md.small:Md->Bool
 |.ow k=>decide (0<k/\k<90)
 |.br k=>decide (k<90)
 |_=>true
abbrev Md.meet(a b:Md):Md:=if a=b then a else match a,b with
 |.ow k,.ow k'=>if 0<min k k' then .ow (min k k') else .sh
 |.ow _,.sh=>.sh
 |.sh,.ow _=>.sh
 |_,_=>.dead
abbrev tnM(m:Ms):List Nat:=m.map Md.tn
theorem Bq{m:Ms}{i j:Nat}(h:(tnM m)[i]?=some j):∃d,m[i]?=some d/\d.tn=j:=by
 unfold tnM at h
 rw[aal]at h
 exact aax.mp h
theorem A4{m:Ms}{i:Nat}{d:Md}(h:m[i]?=some d):(tnM m)[i]?=some d.tn:=by
 unfold tnM;rw[aal,h];rfl
abbrev Own(m:Ms)(τ:Ft)(a:Addr):Prop:=∃(i:Nat)(t:T)(k:Nat),τ[i]?=some (some t)/\m[i]?=some (.ow k)/\a∈t.adr k
abbrev Md.low:Md->Nat
 |.sh=>0
 |.ow _=>0
 |.br k=>k
 |.dead=>99
structure Sf(p:Px)(H0:Hp)(A0:Addr->Prop)(m:Ms)(τ:Ft)(H:Hp):Prop where
 len:τ.length=m.length
 small:∀d∈m,d.small=true
 same:Same H0 H
 ok:Fok p (tnM m) τ H
 own:∀(i:Nat)(t:T)(k:Nat)(a:Addr),τ[i]?=some (some t)->m[i]?=some (.ow k)->a∈t.adr k->H0 a=none/\Mu H a
 src:∀a,Sh (tnM m) τ a->H0 a=none\/A0 a
 nd:∀(i:Nat)(t:T)(k:Nat),τ[i]?=some (some t)->m[i]?=some (.ow k)->t.Nd k
 sep:∀(i j:Nat)(t u:T)(k:Nat)(d:Md),i≠j->τ[i]?=some (some t)->m[i]?=some (.ow k)->τ[j]?=some (some u)->m[j]?=some d->d≠.dead->∀a∈t.adr k,a∉u.rest d.low
 top:∀(i j:Nat)(t u:T)(k k2:Nat),τ[i]?=some (some t)->m[i]?=some (.ow k)->τ[j]?=some (some u)->m[j]?=some (.br k2)->∀a ts,t=.lst a ts->a∉u.rest 0
section
variable{p:Px}{H0:Hp}{A0:Addr->Prop}{m m':Ms}{τ:Ft}{H H':Hp}
theorem Sf.at(S:Sf p H0 A0 m τ H){i:Nat}{t:T}{d:Md}(e:τ[i]?=some (some t))(h:m[i]?=some d)(hd:d≠.dead):t.Ok p H:=by
 refine S.ok i t d.tn e (A4 h) ?_
 have:=S.small d (aaj h)
 cases d with
 |sh=>exact(by decide:(0:Nat)<90)
 |ow k=>exact(of_decide_eq_true this).2
 |br k=>exact of_decide_eq_true this
 |dead=>exact absurd rfl hd
theorem Sf.ownOk(S:Sf p H0 A0 m τ H){a:Addr}(o:Own m τ a):H0 a=none/\Mu H a:=by
 obtain⟨i,t,k,e,h,q⟩:=o
 exact S.own i t k a e h q
theorem Sf.disj(S:Sf p H0 A0 m τ H){a:Addr}(o:Own m τ a):¬Sh (tnM m) τ a:=by
 rintro⟨j,u,jj,e',h',l,q'⟩
 obtain⟨i,t,k,e,h,q⟩:=o
 obtain⟨d,hd,rfl⟩:=Bq h'
 have hdd:d≠.dead:=fun z=>by subst z;exact absurd l (by decide)
 by_cases z:i=j
 ·subst z
  rw[h]at hd;cases hd
  rw[e]at e'
  cases e'
  exact(S.nd i _ k e h).2 a q' q
 ·refine S.sep i j t u k d z e h e' hd hdd a q (T.rest_le u ?_ q')
  cases d<;>simp[Md.low,Md.tn]
theorem Sf.grow(S:Sf p H0 A0 m τ H)(s:Same H H'):Sf p H0 A0 m τ H' :=
 ⟨S.len,S.small,S.same.trans s,S.ok.same s,fun i t k a e h q=>⟨(S.own i t k a e h q).1,let ⟨vs,z,mu⟩:=(S.own i t k a e h q).2;⟨vs,s _ _ z,mu⟩⟩,S.src,S.nd,S.sep,S.top⟩
abbrev leM(m m':Ms):Bool:=decide (m.length=m'.length)&&(m.zip m').all fun q=>q.1.le q.2
theorem D7(h:leM m m'=true){i:Nat}{d':Md}(e:m'[i]?=some d'):∃d,m[i]?=some d/\d.le d'=true:=by
 unfold leM at h
 obtain⟨h1,h2⟩:=Ac h
 have h1:=of_decide_eq_true h1
 have hi:i<m.length:=by
  rw[h1];exact(aaz.mp e).1
 refine⟨m[i],aae hi,aas.mp h2 (m[i],d') (MW (aae hi) e)⟩
theorem HU{m:Ms}(h:∀d∈m,d.small=true):leM m m=true:=by
 unfold leM
 simp only[decide_true,acx]
 refine aas.mpr fun q hq=>?_
 obtain⟨i,hi,e⟩:=aa9 hq
 have hi':i<m.length:=by simpa using hi
 have hs:=h m[i] (abu hi')
 have:q=(m[i],m[i]):=by rw[<- e];simp
 rw[this]
 generalize m[i]=d at hs
 cases d<;>simp_all[Md.le,Md.small]
theorem Sf.weak(S:Sf p H0 A0 m τ H)(h:leM m m'=true):Sf p H0 A0 m' τ H:=by
 have hl:m.length=m'.length:=of_decide_eq_true (Ac (show(decide (m.length=m'.length)&&_)=true from h)).1
 have shd:∀a,Sh (tnM m') τ a->Sh (tnM m) τ a\/Own m τ a:=by
  rintro a ⟨i,t,j,e,ej,l,q⟩
  obtain⟨d',hd',rfl⟩:=Bq ej
  obtain⟨d,hd,le⟩:=D7 h hd'
  have sm:=S.small d (aaj hd)
  cases d' with
  |dead=>exact absurd l (by decide)
  |sh=>
   cases d with
   |sh=>exact .inl ⟨i,t,0,e,A4 hd,by decide,q⟩
   |ow k=>
    rcases (T.all_iff t k).mp q with z|z
    ·exact .inr ⟨i,t,k,e,hd,z⟩
    ·exact .inl ⟨i,t,k,e,A4 hd,(of_decide_eq_true sm).2,z⟩
   |_=>cases le
  |ow k'=>
   cases d with
   |ow k=>
    rcases (T.all_iff t k).mp (T.rest_le t (aaw _) q) with z|z
    ·exact .inr ⟨i,t,k,e,hd,z⟩
    ·exact .inl ⟨i,t,k,e,A4 hd,(of_decide_eq_true sm).2,z⟩
   |_=>cases le
  |br k'=>
   cases d with
   |br k=>
    have:k=k':=of_decide_eq_true le
    subst this
    exact .inl ⟨i,t,k,e,A4 hd,of_decide_eq_true sm,q⟩
   |_=>cases le
 have ownd:∀{i:Nat}{k':Nat},m'[i]?=some (.ow k')->∃k,m[i]?=some (.ow k)/\k'<=k:=by
  intro i k' hd'
  obtain⟨d,hd,le⟩:=D7 h hd'
  cases d with
  |ow k=>exact⟨k,hd,(of_decide_eq_true le).2⟩
  |_=>cases le
 refine⟨S.len.trans hl,fun d' hd'=>?_,S.same,fun i t j e ej l=>?_,fun i t k' a e hk q=>?_,fun a sh=>?_,fun i t k' e hk=>?_,fun i j t u k' d' ne e hk e' hd' nd a q=>?_,fun i j t u k' k2 e hk e' hd' a ts z=>?_⟩
 ·obtain⟨i,hi,rfl⟩:=aa9 hd'
  obtain⟨d,hd,le⟩:=D7 h (aae hi)
  have sm:=S.small d (aaj hd)
  generalize m'[i]=d' at le
  cases d'<;>cases d<;>simp_all[Md.le,Md.small]<;>omega
 ·obtain⟨d',hd',rfl⟩:=Bq ej
  obtain⟨d,hd,le⟩:=D7 h hd'
  refine S.at e hd fun z=>?_
  subst z
  cases d'<;>first|exact absurd l (by decide)|cases le
 ·obtain⟨k,hd,le⟩:=ownd hk
  exact S.own i t k a e hd (T.adr_le t le q)
 ·rcases shd a sh with z|z
  ·exact S.src a z
  ·exact .inl (S.ownOk z).1
 ·obtain⟨k,hd,le⟩:=ownd hk
  exact T.nd_le t le (S.nd i t k e hd)
 ·obtain⟨k,hd,le⟩:=ownd hk
  obtain⟨d,hdj,lj⟩:=D7 h hd'
  have hdd:d≠.dead:=fun z=>by subst z;cases d'<;>first|exact nd rfl|cases lj
  refine fun q'=>S.sep i j t u k d ne e hd e' hdj hdd a (T.adr_le t le q) (T.rest_le u ?_ q')
  cases d'<;>cases d<;>first|exact aaw _|(cases lj;done)|exact absurd rfl nd|skip
  exact aa5 (of_decide_eq_true lj)
 ·obtain⟨k,hd,le⟩:=ownd hk
  obtain⟨d,hdj,lj⟩:=D7 h hd'
  cases d with
  |br k3=>exact S.top i j t u k k3 e hd e' hdj a ts z
  |_=>cases lj
abbrev up(l:List Nat):List Nat:=l++l.map (·+1000)
theorem VP{τ:Ft}{x i:Nat}{s:Option T}(h:i≠x):(vτ (τ.set x s))[i]?=(vτ τ)[i]?:=by
 unfold vτ
 rw[aal,aal,aay (Ne.symm h)]
theorem VQ{τ τ':Ft}{i:Nat}(h:τ'[i]?=τ[i]?):(vτ τ')[i]?=(vτ τ)[i]?:=by
 unfold vτ
 rw[aal,aal,h]
theorem QW{x i:Nat}{l:List Nat}(h:i+1000∉x::(x+1000)::l):i≠x:=fun z=>h (by rw[z];exact aaa _ (aac ..))
theorem nup{i:Nat}{l:List Nat}(h:i+1000∉up l):i∉l:=fun z=>h (aau _ (aat.mpr ⟨i,z,rfl⟩))
theorem Ts(τ:Ft)(x:Nat)(t:T):vτ (τ.set x (some t))=(vτ τ).set x (some t.val):=by
 unfold vτ
 rw[abJ];rfl
theorem Ps{τ:Ft}{x:Nat}{t t':T}(h:τ[x]?=some (some t))(e:t'.val=t.val):vτ (τ.set x (some t'))=vτ τ:=by
 rw[Ts,e]
 refine abC fun i=>?_
 by_cases z:x=i
 ·subst z
  rw[abe,CQ h];rfl
 ·rw[aay z]
structure Stp(m m':Ms)(w0:List Nat)(τ τ':Ft)(H H':Hp):Prop where
 keep:∀a u,H a=some u->¬Own m τ a->H' a=some u
 grow:∀a,Own m' τ' a->Own m τ a\/H a=none
 wr:∀i,i∉w0->τ'[i]?=τ[i]?
 ad:∀i,i+1000∉w0->(vτ τ')[i]?=(vτ τ)[i]?
theorem Own.weak(h:leM m m'=true){a:Addr}(o:Own m' τ a):Own m τ a:=by
 obtain⟨i,t,k,e,hk,q⟩:=o
 obtain⟨d,hd,le⟩:=D7 h hk
 cases d with
 |ow k2=>exact⟨i,t,k2,e,hd,T.adr_le t (of_decide_eq_true le).2 q⟩
 |_=>cases le
theorem Stp.refl(wr:List Nat)(h:leM m m'=true)(s:Same H H'):Stp m m' wr τ τ H H':=⟨fun a u e _=>s a u e,fun a o=>.inl (o.weak h),fun _ _=>rfl,fun _ _=>rfl⟩
theorem Stp.trans{m1 m2 m3:Ms}{w1 w2:List Nat}{τ1 τ2 τ3:Ft}{H1 H2 H3:Hp}(a:Stp m1 m2 w1 τ1 τ2 H1 H2)(b:Stp m2 m3 w2 τ2 τ3 H2 H3):Stp m1 m3 (w1++w2) τ1 τ3 H1 H3:=by
 refine⟨fun x u e n=>b.keep x u (a.keep x u e n) fun o=>?_,fun x o=>?_,fun i hi=>?_,fun i hi=>(b.ad i fun h=>hi (aau _ h)).trans (a.ad i fun h=>hi (aaD _ h))⟩
 ·rcases a.grow x o with z|z
  ·exact n z
  ·rw[e]at z;cases z
 ·rcases b.grow x o with z|z
  ·exact a.grow x z
  ·cases q:H1 x with
   |none=>exact .inr rfl
   |some u=>
    refine .inl (Classical.byContradiction fun n=>?_)
    rw[a.keep x u q n]at z;cases z
 ·rw[b.wr i (fun h=>hi (aau _ h)),a.wr i (fun h=>hi (aaD _ h))]
theorem Stp.mono{w1 w2:List Nat}{τ':Ft}(a:Stp m m' w1 τ τ' H H')(h:∀i∈w1,i∈w2):Stp m m' w2 τ τ' H H':=⟨a.keep,a.grow,fun i hi=>a.wr i fun q=>hi (h i q),fun i hi=>a.ad i fun q=>hi (h _ q)⟩
end
abbrev mdK(k:Nat):Md:=if k=0 then .sh else .ow k
theorem GJ{k k':Nat}(h:mdK k=.ow k'):k'=k/\k≠0:=by unfold mdK at h;split at h<;>simp_all
theorem VR{k k':Nat}(h:mdK k=.br k'):False:=by unfold mdK at h;split at h<;>simp_all
section
variable{p:Px}{H0:Hp}{A0:Addr->Prop}{m m':Ms}{τ:Ft}{H H1:Hp}
theorem Aj{α:Type}{l:List α}{x i:Nat}{v w:α}(h:(l.set x v)[i]?=some w):(i=x/\w=v)\/(i≠x/\l[i]?=some w):=by
 by_cases z:x=i
 ·subst z
  rw[abe]at h
  cases q:l[x]? with
  |none=>rw[q]at h;cases h
  |some y=>
   rw[q]at h
   exact .inl ⟨rfl,by simpa using h.symm⟩
 ·rw[aay z]at h
  exact .inr ⟨fun e=>z e.symm,h⟩
theorem VS{x k ke:Nat}{t:T}(S:Sf p H0 A0 m τ H)(R:Rs p (Sh (tnM m) τ) H H1 0 ke t)(hk:k<=ke)(hx:x<m.length)(h90:k<90):Sf p H0 A0 (m.set x (mdK k)) (τ.set x (some t)) H1/\Stp m (m.set x (mdK k)) [x,x+1000] τ (τ.set x (some t)) H H1:=by
 have S1:=S.grow R.same
 have dom:∀{i:Nat}{u:T}{d:Md},τ[i]?=some (some u)->m[i]?=some d->d≠.dead->∀a∈u.rest 0,H a≠none:=fun e hd nd a q=>(S.at e hd nd).dom q
 have tnew:∀a∈t.adr k,H a=none:=fun a q=>(R.new a (T.adr_le t hk q)).1
 have town:∀a,Own m τ a->a∉t.rest 0:=fun a o q=>by
  rcases R.src a q with z|z
  ·obtain⟨_,vs,e,mu⟩:=S.ownOk o
   rw[e]at z;cases z
  ·exact S.disj o z
 have owns:∀a,Own (m.set x (mdK k)) (τ.set x (some t)) a->a∈t.adr k\/Own m τ a:=by
  rintro a ⟨i,u,k',e,hk',q⟩
  rcases Aj e with⟨rfl,e2⟩|⟨ne,e⟩
  ·cases e2
   rcases Aj hk' with⟨_,z⟩|⟨z,_⟩
   ·obtain⟨rfl,_⟩:=GJ z.symm
    exact .inl q
   ·exact absurd rfl z
  ·rcases Aj hk' with⟨z,_⟩|⟨_,z⟩
   ·exact absurd z ne
   ·exact .inr ⟨i,u,k',e,z,q⟩
 refine⟨⟨by rw[aaM,aaM];exact S.len,fun d hd=>?_,S1.same,fun i u j e ej l=>?_,fun i u k' a e hk' q=>?_,fun a sh=>?_,fun i u k' e hk'=>?_,fun i j u w k' d ne e hk' e' hd nd a q=>?_,fun i j u w k' k2 e hk' e' hd a ts z=>?_⟩,
  fun a u e _=>R.same a u e,fun a o=>?_,fun i hi=>?_,fun i hi=>VP (QW hi)⟩
 ·rcases abD hd with z|z
  ·exact S.small d z
  ·subst z
   unfold mdK
   split
   ·rfl
   ·exact decide_eq_true ⟨by omega,h90⟩
 ·obtain⟨d,hd,rfl⟩:=Bq ej
  rcases Aj e with⟨rfl,e2⟩|⟨ne,e⟩
  ·cases e2;exact R.ok
  ·rcases Aj hd with⟨z,_⟩|⟨_,z⟩
   ·exact absurd z ne
   ·exact S1.ok i u _ e (A4 z) l
 ·rcases Aj e with⟨rfl,e2⟩|⟨ne,e⟩
  ·cases e2
   rcases Aj hk' with⟨_,z⟩|⟨z,_⟩
   ·obtain⟨rfl,_⟩:=GJ z.symm
    have:=R.new a (T.adr_le _ hk q)
    exact⟨S.same.free this.1,this.2⟩
   ·exact absurd rfl z
  ·rcases Aj hk' with⟨z,_⟩|⟨_,z⟩
   ·exact absurd z ne
   ·exact S1.own i u k' a e z q
 ·obtain⟨i,u,j,e,ej,l,q⟩:=sh
  obtain⟨d,hd,rfl⟩:=Bq ej
  rcases Aj e with⟨rfl,e2⟩|⟨ne,e⟩
  ·cases e2
   rcases R.src a (T.rest_le _ (aaw _) q) with z|z
   ·exact .inl (S.same.free z)
   ·exact S.src a z
  ·rcases Aj hd with⟨z,_⟩|⟨_,z⟩
   ·exact absurd z ne
   ·exact S.src a ⟨i,u,_,e,A4 z,l,q⟩
 ·rcases Aj e with⟨rfl,e2⟩|⟨ne,e⟩
  ·cases e2
   rcases Aj hk' with⟨_,z⟩|⟨z,_⟩
   ·obtain⟨rfl,_⟩:=GJ z.symm
    exact T.nd_le _ hk R.nd
   ·exact absurd rfl z
  ·rcases Aj hk' with⟨z,_⟩|⟨_,z⟩
   ·exact absurd z ne
   ·exact S.nd i u k' e z
 ·rcases Aj e with⟨rfl,e2⟩|⟨n1,e1⟩
  ·cases e2
   rcases Aj hk' with⟨_,z⟩|⟨z,_⟩
   ·obtain⟨rfl,_⟩:=GJ z.symm
    rcases Aj e' with⟨z',_⟩|⟨n2,e3⟩
    ·exact absurd z'.symm ne
    ·rcases Aj hd with⟨z',_⟩|⟨_,hd3⟩
     ·exact absurd z' n2
     ·exact fun q'=>dom e3 hd3 nd a (T.rest_le w (aaw _) q') (tnew a q)
   ·exact absurd rfl z
  ·rcases Aj hk' with⟨z,_⟩|⟨_,hk3⟩
   ·exact absurd z n1
   ·rcases Aj e' with⟨z4,e2⟩|⟨n2,e3⟩
    ·cases e2
     exact fun q'=>town a ⟨i,u,k',e1,hk3,q⟩ (T.rest_le _ (aaw _) q')
    ·rcases Aj hd with⟨z,_⟩|⟨_,hd3⟩
     ·exact absurd z n2
     ·exact S.sep i j u w k' d ne e1 hk3 e3 hd3 nd a q
 ·rcases Aj hd with⟨_,z'⟩|⟨n2,hd3⟩
  ·exact(VR z'.symm).elim
  ·rcases Aj e' with⟨z',_⟩|⟨_,e3⟩
   ·exact absurd z' n2
   ·rcases Aj e with⟨z4,e2⟩|⟨n1,e1⟩
    ·cases e2
     rcases Aj hk' with⟨_,z'⟩|⟨z',_⟩
     ·obtain⟨z5,hk0⟩:=GJ z'.symm
      subst z
      have mem:a∈(T.lst a ts).adr k:=by
       cases k with
       |zero=>exact absurd rfl hk0
       |succ n=>exact aac ..
      exact fun q'=>dom e3 hd3 (by intro c;cases c) a q' (tnew a mem)
     ·exact absurd z4 z'
    ·rcases Aj hk' with⟨z',_⟩|⟨_,hk3⟩
     ·exact absurd z' n1
     ·exact S.top i j u w k' k2 e1 hk3 e3 hd3 a ts z
 ·rcases owns a o with z|z
  ·exact .inr (tnew a z)
  ·exact .inl z
 ·rw[aay (fun z=>hi (by simp[z]))]
abbrev At(m:Ms)(is:List Nat)(d:Md):Ms:=is.foldl (fun m i=>m.set i d) m
theorem EH(d:Md):∀(is:List Nat)(m:Ms),(At m is d).length=m.length
 |[],m=>rfl
 |i::is,m=>by show(At (m.set i d) is d).length=_;rw[EH d is,aaM]
theorem ES{d d':Md}:∀{is:List Nat}{m:Ms}{i:Nat},(At m is d)[i]?=some d'->(i∈is/\d'=d)\/(i∉is/\m[i]?=some d')
 |[],m,i,h=>.inr ⟨by simp,h⟩
 |j::is,m,i,h=>by
  rcases ES (is:=is) (m:=m.set j d) h with⟨z1,z2⟩|⟨z1,z2⟩
  ·exact .inl ⟨aaa _ z1,z2⟩
  ·rcases Aj z2 with⟨rfl,e⟩|⟨ne,e⟩
   ·exact .inl ⟨aac ..,e⟩
   ·exact .inr ⟨fun q=>by rcases aak.mp q with q|q;exact ne q;exact z1 q,e⟩
theorem GK:∀{is:List Nat}{ts:List T}{τ τ':Ft}{i:Nat},Cm is ts τ=some τ'->i∉is->τ'[i]?=τ[i]?
 |[],[],τ,τ',i,h,_=>by cases h;rfl
 |[],t::ts,τ,τ',i,h,_=>by cases h
 |j::is,[],τ,τ',i,h,_=>by cases h
 |j::is,t::ts,τ,τ',i,h,hi=>by
  rw[GK (is:=is) (ts:=ts) (τ:=τ.set j (some t)) h (fun q=>hi (aaa _ q)),aay (fun z=>hi (by simp[z]))]
theorem Mg{g:Tg}{t:T}{τ τ':Ft}{i:Nat}(h:Dg g t τ=some τ')(hi:i∉g.sl):τ'[i]?=τ[i]?:=by
 cases g with
 |nm k=>cases h;rw[aay (fun z=>hi (by simp[Tg.sl,z]))]
 |tp is=>cases t<;>first|cases h|exact GK h hi
theorem Tt{is:List Nat}{τ':Ft}(S:Sf p H0 A0 m τ H)(s:Same H H1)(hlen:τ'.length=τ.length)(hin:∀(i:Nat)(u:T),i∈is->τ'[i]?=some (some u)->u.Ok p H1/\∀a∈u.rest 0,(H0 a=none\/A0 a)/\¬Own m τ a)(hout:∀i,i∉is->τ'[i]?=τ[i]?) :
  Sf p H0 A0 (At m is .sh) τ' H1/\Stp m (At m is .sh) (up is) τ τ' H H1:=by
 have S1:=S.grow s
 have AL:∀{i:Nat}{u:T}{d:Md},τ'[i]?=some (some u)->(At m is .sh)[i]?=some d->(d=.sh/\u.Ok p H1/\∀a∈u.rest 0,(H0 a=none\/A0 a)/\¬Own m τ a)\/(τ[i]?=some (some u)/\m[i]?=some d):=by
  intro i u d e hd
  rcases ES hd with⟨z1,z2⟩|⟨z1,z2⟩
  ·exact .inl ⟨z2,hin i u z1 e⟩
  ·exact .inr ⟨(hout i z1)▸e,z2⟩
 have town:∀{u:T},(∀a∈u.rest 0,(H0 a=none\/A0 a)/\¬Own m τ a)->∀a,Own m τ a->a∉u.rest 0:=fun src a o q=>(src a q).2 o
 refine⟨⟨by rw[hlen,EH];exact S.len,fun d hd=>?_,S1.same,fun i u j e ej l=>?_,fun i u k' a e hk' q=>?_,fun a sh=>?_,fun i u k' e hk'=>?_,fun i j u w k' d ne e hk' e' hd nd a q=>?_,fun i j u w k' k2 e hk' e' hd a ts z=>?_⟩,
  fun a u e _=>s a u e,fun a o=>?_,fun i hi=>hout i fun z=>hi (aaD _ z),fun i hi=>VQ (hout i (nup hi))⟩
 ·obtain⟨i,hi,rfl⟩:=aa9 hd
  rcases ES (aae hi) with⟨_,z⟩|⟨_,z⟩
  ·rw[z];rfl
  ·exact S.small _ (aaj z)
 ·obtain⟨d,hd,rfl⟩:=Bq ej
  rcases AL e hd with⟨_,q,_⟩|⟨q1,q2⟩
  ·exact q
  ·exact S1.ok i u _ q1 (A4 q2) l
 ·rcases AL e hk' with⟨z,_⟩|⟨q1,q2⟩
  ·cases z
  ·exact S1.own i u k' a q1 q2 q
 ·obtain⟨i,u,j,e,ej,l,q⟩:=sh
  obtain⟨d,hd,rfl⟩:=Bq ej
  rcases AL e hd with⟨_,_,q'⟩|⟨q1,q2⟩
  ·exact(q' a (T.rest_le u (aaw _) q)).1
  ·exact S.src a ⟨i,u,_,q1,A4 q2,l,q⟩
 ·rcases AL e hk' with⟨z,_⟩|⟨q1,q2⟩
  ·cases z
  ·exact S.nd i u k' q1 q2
 ·rcases AL e hk' with⟨z,_⟩|⟨q1,q2⟩
  ·cases z
  ·rcases AL e' hd with⟨_,_,q'⟩|⟨q3,q4⟩
   ·exact fun q5=>town q' a ⟨i,u,k',q1,q2,q⟩ (T.rest_le w (aaw _) q5)
   ·exact S.sep i j u w k' d ne q1 q2 q3 q4 nd a q
 ·rcases AL e hk' with⟨z,_⟩|⟨q1,q2⟩
  ·cases z
  ·rcases AL e' hd with⟨z',_⟩|⟨q3,q4⟩
   ·cases z'
   ·exact S.top i j u w k' k2 q1 q2 q3 q4 a ts z
 ·obtain⟨i,u,k',e,hk',q⟩:=o
  rcases AL e hk' with⟨z,_⟩|⟨q1,q2⟩
  ·cases z
  ·exact .inl ⟨i,u,k',q1,q2,q⟩
theorem Sf.fine(S:Sf p H0 A0 m τ H){a:Addr}(h:H a=none\/Sh (tnM m) τ a):(H0 a=none\/A0 a)/\¬Own m τ a:=by
 rcases h with z|z
 ·refine⟨.inl (S.same.free z),fun o=>?_⟩
  obtain⟨_,vs,e,mu⟩:=S.ownOk o
  rw[e]at z;cases z
 ·exact⟨S.src a z,fun o=>S.disj o z⟩
theorem Pt{g:Tg}{t:T}{τ':Ft}(S:Sf p H0 A0 m τ H)(s:Same H H1)(ok:t.Ok p H1)(src:∀a∈t.rest 0,(H0 a=none\/A0 a)/\¬Own m τ a)(h:Dg g t τ=some τ'):Sf p H0 A0 (At m g.sl .sh) τ' H1/\Stp m (At m g.sl .sh) (up g.sl) τ τ' H H1:=by
 refine Tt S s (Ke h) (fun i u hi e=>?_) (fun i hi=>Mg h hi)
 rcases IK (P:=fun o=>∀w,o=some w->w.Ok p H1/\∀a∈w.rest 0,(H0 a=none\/A0 a)/\¬Own m τ a) h (fun w e=>by cases e;exact⟨ok,src⟩)
   (fun a ts e u hu w e'=>by
    cases e'
    rcases e with e|e
    ·subst e
     exact⟨T.oks_iff.mp ok.2 u hu,fun b q=>src b (T.mem_rests.mpr ⟨u,hu,q⟩)⟩
    ·subst e
     exact⟨T.oks_iff.mp ok.2 u hu,fun b q=>src b (aaa _ (T.mem_rests.mpr ⟨u,hu,q⟩))⟩) i (some u) e with q|⟨q,_⟩
 ·exact q u rfl
 ·exact absurd hi q
theorem WX{g:Tg}{t:T}{τ':Ft}(S:Sf p H0 A0 m τ H)(s:Same H H1)(ok:t.Ok p H1)(src:∀a∈t.rest 0,H a=none\/Sh (tnM m) τ a)(h:Dg g t τ=some τ'):Sf p H0 A0 (At m g.sl .sh) τ' H1/\Stp m (At m g.sl .sh) (up g.sl) τ τ' H H1 :=
 Pt S s ok (fun a q=>S.fine (src a q)) h
end
abbrev A7:List (Bool×Int)->T->Option T
 |[],t=>some t
 | (false,i)::r,.lst _ ts=>(ixN ts.length i).bind fun j=>(ts[j]?).bind fun t=>A7 r t
 | (true,i)::r,.tup _ ts=>(ixN ts.length i).bind fun j=>(ts[j]?).bind fun t=>A7 r t
 |_,_=>none
abbrev Fe(s:T):List (Bool×Int)->T->Option T
 |[],_=>some s
 | (false,i)::r,.lst a ts=>(ixN ts.length i).bind fun j=>(ts[j]?).bind fun t=>(Fe s r t).map fun t'=>.lst a (ts.set j t')
 | (true,i)::r,.tup a ts=>(ixN ts.length i).bind fun j=>(ts[j]?).bind fun t=>(Fe s r t).map fun t'=>.tup a (ts.set j t')
 |_,_=>none
abbrev lnP:List (Bool×Int)->Nat
 |[]=>0
 | (false,_)::r=>lnP r+1
 | (true,_)::r=>lnP r
theorem Er{α:Type}{l:List α}{j:Nat}{x:α}(h:l[j]?=some x):∃l1 l2,l=l1++x::l2/\∀y,l.set j y=l1++y::l2:=by
 obtain⟨hj,e⟩:=aaz.mp h
 refine⟨l.take j,l.drop (j+1),?_,fun y=>?_⟩
 ·rw[<- e,List.getElem_cons_drop,List.take_append_drop]
 ·rw[List.set_eq_take_append_cons_drop,if_pos hj]
theorem DD{l1 l2:List T}{c:T}{k:Nat}:T.Nds (l1++c::l2) k ↔ T.Nds (l1++l2) k/\c.Nd k/\(∀a∈c.adr k,a∉T.rests (l1++l2) 0)/\(∀a∈T.adrs (l1++l2) k,a∉c.rest 0):=by
 induction l1 with
 |nil=>
  rw[abi,abi,T.nds_cons]
  exact⟨fun⟨a,b,c,d⟩=>⟨b,a,c,d⟩,fun⟨b,a,c,d⟩=>⟨a,b,c,d⟩⟩
 |cons x l1 ih=>
  rw[abc,abc,T.nds_cons,T.nds_cons,ih]
  simp only[T.rests_append,T.adrs_append,T.rests,T.adrs,aag,not_or]
  constructor
  ·rintro⟨h1,⟨h2,h3,h4,h5⟩,h6,h7⟩
   refine⟨⟨h1,h2,fun a q=>⟨(h6 a q).1,(h6 a q).2.2⟩,fun a q=>h7 a ?_⟩,h3,fun a q=>⟨fun z=>h7 a (.inr (.inl q)) z,h4 a q⟩,fun a q=>?_⟩
   ·rcases q with q|q
    ·exact .inl q
    ·exact .inr (.inr q)
   ·rcases q with q|q
    ·exact(h6 a q).2.1
    ·exact h5 a q
  ·rintro⟨⟨h1,h2,h6,h7⟩,h3,h4,h5⟩
   refine⟨h1,⟨h2,h3,fun a q=>(h4 a q).2,fun a q=>h5 a (.inr q)⟩,fun a q=>⟨(h6 a q).1,h5 a (.inl q),(h6 a q).2⟩,fun a q=>?_⟩
   rcases q with q|q|q
   ·exact h7 a (.inl q)
   ·exact(h4 a q).1
   ·exact h7 a (.inr q)
section
variable{p:Px}
theorem Et:∀(q:List (Bool×Int)){t s:T}{k:Nat},A7 q t=some s->lnP q<=k->(∀b∈s.rest 0,b∈t.rest 0)/\(∀b∈s.adr (k-lnP q),b∈t.adr k)
 |[],t,s,k,h,_=>by cases h;exact⟨fun b q=>q,fun b q=>q⟩
 | (false,i)::r,.lst a ts,s,k,h,hl=>by
  simp only[A7]at h
  obtain⟨j,_,h⟩:=bS h
  obtain⟨c,hc,h⟩:=bS h
  cases k with
  |zero=>simp[lnP]at hl
  |succ k=>
   obtain⟨h1,h2⟩:=Et r (k:=k) h (by simp[lnP]at hl;exact hl)
   refine⟨fun b q=>aaa _ (T.mem_rests.mpr ⟨c,aaj hc,h1 b q⟩),fun b q=>aaa _ (T.mem_adrs.mpr ⟨c,aaj hc,h2 b ?_⟩)⟩
   have:k+1-lnP ((false,i)::r)=k-lnP r:=by simp only[lnP];omega
   rw[this]at q;exact q
 | (true,i)::r,.tup a ts,s,k,h,hl=>by
  simp only[A7]at h
  obtain⟨j,_,h⟩:=bS h
  obtain⟨c,hc,h⟩:=bS h
  obtain⟨h1,h2⟩:=Et r (k:=k) h hl
  exact⟨fun b q=>T.mem_rests.mpr ⟨c,aaj hc,h1 b q⟩,fun b q=>T.mem_adrs.mpr ⟨c,aaj hc,h2 b q⟩⟩
 | (false,i)::r,.tup a ts,s,k,h,_=>by cases h
 | (true,i)::r,.lst a ts,s,k,h,_=>by cases h
 | (b,i)::r,.non,s,k,h,_=>by cases b<;>cases h
 | (b,i)::r,.bl _,s,k,h,_=>by cases b<;>cases h
 | (b,i)::r,.int _,s,k,h,_=>by cases b<;>cases h
 | (b,i)::r,.str _,s,k,h,_=>by cases b<;>cases h
 | (b,i)::r,.exn _ _,s,k,h,_=>by cases b<;>cases h
 | (b,i)::r,.dic _ _ _,s,k,h,_=>by cases b<;>cases h
 | (b,i)::r,.dit _ _ _,s,k,h,_=>by cases b<;>cases h
theorem Pv{l1 l2:List T}{c c':T}{k:Nat}{F N:Addr->Prop}(hFN:∀b,F b->N b)(nds:T.Nds (l1++c::l2) k)(nd':c'.Nd k)(hA:∀b∈c'.adr k,b∈c.adr k\/F b)(hB:∀b∈c'.rest k,b∈c.rest k\/N b)(hF:∀b,F b->b∉T.rests (l1++c::l2) 0)(hN:∀b,N b->b∉T.adrs (l1++c::l2) k) :
  T.Nds (l1++c'::l2) k/\(∀b∈T.adrs (l1++c'::l2) k,b∈T.adrs (l1++c::l2) k\/F b)/\(∀b∈T.rests (l1++c'::l2) k,b∈T.rests (l1++c::l2) k\/N b):=by
 obtain⟨m1,m2,m3,m4⟩:=DD.mp nds
 have inm:∀b,b∈T.rests (l1++l2) 0->b∈T.rests (l1++c::l2) 0:=fun b q=>by
  simp only[T.rests_append,T.rests,aag]at q ⊢
  rcases q with q|q
  ·exact .inl q
  ·exact .inr (.inr q)
 have ina:∀b,b∈T.adrs (l1++l2) k->b∈T.adrs (l1++c::l2) k:=fun b q=>by
  simp only[T.adrs_append,T.adrs,aag]at q ⊢
  rcases q with q|q
  ·exact .inl q
  ·exact .inr (.inr q)
 have cm:∀b,b∈c.adr k->b∈T.adrs (l1++c::l2) k:=fun b q=>by
  simp only[T.adrs_append,T.adrs,aag]
  exact .inr (.inl q)
 refine⟨DD.mpr ⟨m1,nd',fun b q q'=>?_,fun b q q'=>?_⟩,fun b q=>?_,fun b q=>?_⟩
 ·rcases hA b q with z|z
  ·exact m3 b z q'
  ·exact hF b z (inm b q')
 ·rcases (T.all_iff c' k).mp q' with z|z
  ·rcases hA b z with y|y
   ·exact m4 b q ((T.all_iff c k).mpr (.inl y))
   ·exact hN b (hFN b y) (ina b q)
  ·rcases hB b z with y|y
   ·exact m4 b q ((T.all_iff c k).mpr (.inr y))
   ·exact hN b y (ina b q)
 ·simp only[T.adrs_append,T.adrs,aag]at q ⊢
  rcases q with q|q|q
  ·exact .inl (.inl q)
  ·exact(hA b q).imp (fun z=>.inr (.inl z)) id
  ·exact .inl (.inr (.inr q))
 ·simp only[T.rests_append,T.rests,aag]at q ⊢
  rcases q with q|q|q
  ·exact .inl (.inl q)
  ·exact(hB b q).imp (fun z=>.inr (.inl z)) id
  ·exact .inl (.inr (.inr q))
theorem D8{H H':Hp}{a:Addr}{t:T}(hkeep:∀b w,H b=some w->b≠a->H' b=some w)(hpl:Mu H a)(ok:t.Ok p H)(hn:a∉t.rest 0):t.Ok p H':=by
 refine ok.keep fun b w e q=>hkeep b w e fun z=>?_
 subst z
 rcases q with q|q
 ·exact hn q
 ·obtain⟨vs,z,mu⟩:=hpl
  rw[z]at e
  cases e
  rw[mu]at q;cases q
theorem Lh{H H':Hp}{a:Addr}{ts us:List T}{F N:Addr->Prop}(hkeep:∀b w,H b=some w->b≠a->H' b=some w)(hpl:Mu H a)(hs:(T.lst a us).Ok p H')(hFN:∀b,F b->N b) :
  ∀(q:List (Bool×Int)){t:T}{k:Nat},A7 q t=some (.lst a ts)->lnP q<k->t.Nd k->t.Ok p H->(∀b,F b->b∉t.rest 0)->(∀b,N b->b∉t.adr k)->(∀b∈T.adrs us (k-1-lnP q),b∈T.adrs ts (k-1-lnP q)\/F b)->
   (∀b∈T.rests us (k-1-lnP q),b∈T.rests ts (k-1-lnP q)\/N b)->T.Nds us (k-1-lnP q)->
   ∃t',Fe (.lst a us) q t=some t'/\t'.val=t.val/\t'.Ok p H'/\t'.Nd k/\(∀b∈t'.adr k,b∈t.adr k\/F b)/\(∀b∈t'.rest k,b∈t.rest k\/N b)
 |[],t,k,h,hl,nd,ok,hF,hN,hA,hB,hnd=>by
  cases h
  cases k with
  |zero=>cases hl
  |succ k=>
   have e:k+1-1-lnP []=k:=by simp[lnP]
   rw[e]at hA hB hnd
   obtain⟨n1,n2⟩:=nd
   simp only[T.adr,aaG]at n1
   refine⟨_,rfl,rfl,hs,⟨?_,fun b m m'=>?_⟩,fun b m=>?_,fun b m=>hB b m⟩
   ·simp only[T.adr,aaG]
    refine⟨fun m=>?_,hnd.1⟩
    rcases hA a m with z|z
    ·exact n1.1 z
    ·exact hF a z (aac ..)
   ·simp only[T.adr,T.rest,aak]at m m'
    rcases m' with rfl|m'
    ·rcases hB b m with z|z
     ·exact n2 b z (aac ..)
     ·exact hN b z (aac ..)
    ·exact hnd.2 b m m'
   ·simp only[T.adr,aak]at m ⊢
    rcases m with m|m
    ·exact .inl (.inl m)
    ·exact(hA b m).imp .inr id
 | (false,i)::r,.lst b0 cs,k,h,hl,nd,ok,hF,hN,hA,hB,hnd=>by
  simp only[A7]at h
  obtain⟨j,hj,h⟩:=bS h
  obtain⟨c,hc,h⟩:=bS h
  cases k with
  |zero=>cases hl
  |succ k=>
   have hl':lnP r<k:=by simp only[lnP]at hl;omega
   have e:k+1-1-lnP ((false,i)::r)=k-1-lnP r:=by simp only[lnP];omega
   rw[e]at hA hB hnd
   obtain⟨n1,n2⟩:=nd
   simp only[T.adr,T.rest,aaG]at n1 n2
   have nds:T.Nds cs k:=⟨n1.2,fun x hx hy=>n2 x hx (aaa _ hy)⟩
   have hcm:=aaj hc
   obtain⟨l1,l2,e1,e2⟩:=Er hc
   rw[e1]at nds
   obtain⟨m1,m2,m3,m4⟩:=DD.mp nds
   obtain⟨ain,aad⟩:=Et r (k:=k) h (by omega)
   have aadr:a∈c.adr k:=aad a (by
    have:k-lnP r=(k-lnP r-1)+1:=by omega
    rw[this];exact aac ..)
   obtain⟨c',p1,p2,p3,p4,p5,p6⟩:=Lh hkeep hpl hs hFN r h hl' m2 (T.oks_iff.mp ok.2 c hcm) (fun b f q=>hF b f (aaa _ (T.mem_rests.mpr ⟨c,hcm,q⟩))) (fun b n q=>hN b n (aaa _ (T.mem_adrs.mpr ⟨c,hcm,q⟩))) hA hB hnd
   obtain⟨q1,q2,q3⟩:=Pv hFN nds p4 p5 p6 (fun b f q=>hF b f (aaa _ (by rw[e1];exact q))) (fun b n q=>hN b n (aaa _ (by rw[e1];exact q)))
   have ab:b0≠a:=fun z=>n1.1 (by rw[z,T.mem_adrs];exact⟨c,hcm,aadr⟩)
   have hv:(l1++c'::l2).map T.val=cs.map T.val:=by rw[e1];simp[p2]
   refine⟨.lst b0 (l1++c'::l2),by simp only[Fe,hj,aaY,hc,p1,aa6,e2],rfl,⟨?_,T.oks_iff.mpr fun w hw=>?_⟩,⟨?_,fun b m m'=>?_⟩,fun b m=>?_,fun b m=>?_⟩
   ·rw[hv]
    rcases ok.1 with z|⟨o,z⟩
    ·exact .inl (hkeep _ _ z ab)
    ·exact .inr ⟨o,hkeep _ _ z ab⟩
   ·rcases aag.mp hw with hw|hw
    ·refine D8 hkeep hpl (T.oks_iff.mp ok.2 w (by rw[e1];exact aaD _ hw)) fun q=>m3 a aadr ?_
     rw[T.rests_append];exact aaD _ (T.mem_rests.mpr ⟨w,hw,q⟩)
    ·rcases aak.mp hw with rfl|hw
     ·exact p3
     ·refine D8 hkeep hpl (T.oks_iff.mp ok.2 w (by rw[e1];exact aau _ (aaa _ hw))) fun q=>m3 a aadr ?_
      rw[T.rests_append];exact aau _ (T.mem_rests.mpr ⟨w,hw,q⟩)
   ·simp only[T.adr,aaG]
    refine⟨fun m=>?_,q1.1⟩
    rcases q2 b0 m with z|z
    ·exact n1.1 (by rw[e1];exact z)
    ·exact hF b0 z (aac ..)
   ·simp only[T.adr,T.rest,aak]at m m'
    rcases m' with rfl|m'
    ·rcases q3 b m with z|z
     ·exact n2 b (by rw[e1];exact z) (aac ..)
     ·exact hN b z (aac ..)
    ·exact q1.2 b m m'
   ·simp only[T.adr,aak]at m ⊢
    rcases m with m|m
    ·exact .inl (.inl m)
    ·rw[e1];exact(q2 b m).imp .inr id
   ·simp only[T.rest]at m ⊢
    rw[e1];exact q3 b m
 | (true,i)::r,.tup b0 cs,k,h,hl,nd,ok,hF,hN,hA,hB,hnd=>by
  simp only[A7]at h
  obtain⟨j,hj,h⟩:=bS h
  obtain⟨c,hc,h⟩:=bS h
  have hl':lnP r<k:=hl
  have nds:T.Nds cs k:=nd
  have hcm:=aaj hc
  obtain⟨l1,l2,e1,e2⟩:=Er hc
  rw[e1]at nds
  obtain⟨m1,m2,m3,m4⟩:=DD.mp nds
  obtain⟨ain,aad⟩:=Et r (k:=k) h (by omega)
  have aadr:a∈c.adr k:=aad a (by
   have:k-lnP r=(k-lnP r-1)+1:=by omega
   rw[this];exact aac ..)
  obtain⟨c',p1,p2,p3,p4,p5,p6⟩:=Lh hkeep hpl hs hFN r h hl' m2 (T.oks_iff.mp ok.2 c hcm) (fun b f q=>hF b f (T.mem_rests.mpr ⟨c,hcm,q⟩)) (fun b n q=>hN b n (T.mem_adrs.mpr ⟨c,hcm,q⟩)) hA hB hnd
  obtain⟨q1,q2,q3⟩:=Pv hFN nds p4 p5 p6 (fun b f q=>hF b f (by rw[T.rest,e1];exact q)) (fun b n q=>hN b n (by rw[T.adr,e1];exact q))
  have ab:b0≠a:=fun z=>by
   obtain⟨vs,y,mu⟩:=hpl
   have:=ok.1
   rw[z,y]at this;cases this
   exact nomatch (show false=true from mu)
  have hv:(l1++c'::l2).map T.val=cs.map T.val:=by rw[e1];simp[p2]
  refine⟨.tup b0 (l1++c'::l2),by simp only[Fe,hj,aaY,hc,p1,aa6,e2],rfl,⟨?_,T.oks_iff.mpr fun w hw=>?_⟩,q1,fun b m=>?_,fun b m=>?_⟩
  ·rw[hv];exact hkeep _ _ ok.1 ab
  ·rcases aag.mp hw with hw|hw
   ·refine D8 hkeep hpl (T.oks_iff.mp ok.2 w (by rw[e1];exact aaD _ hw)) fun q=>m3 a aadr ?_
    rw[T.rests_append];exact aaD _ (T.mem_rests.mpr ⟨w,hw,q⟩)
   ·rcases aak.mp hw with rfl|hw
    ·exact p3
    ·refine D8 hkeep hpl (T.oks_iff.mp ok.2 w (by rw[e1];exact aau _ (aaa _ hw))) fun q=>m3 a aadr ?_
     rw[T.rests_append];exact aau _ (T.mem_rests.mpr ⟨w,hw,q⟩)
  ·simp only[T.adr]at m ⊢
   rw[e1];exact q2 b m
  ·simp only[T.rest]at m ⊢
   rw[e1];exact q3 b m
 | (false,i)::r,.tup a ts,k,h,_,_,_,_,_,_,_,_=>by cases h
 | (true,i)::r,.lst a ts,k,h,_,_,_,_,_,_,_,_=>by cases h
 | (b,i)::r,.non,k,h,_,_,_,_,_,_,_,_=>by cases b<;>cases h
 | (b,i)::r,.bl _,k,h,_,_,_,_,_,_,_,_=>by cases b<;>cases h
 | (b,i)::r,.int _,k,h,_,_,_,_,_,_,_,_=>by cases b<;>cases h
 | (b,i)::r,.str _,k,h,_,_,_,_,_,_,_,_=>by cases b<;>cases h
 | (b,i)::r,.exn _ _,k,h,_,_,_,_,_,_,_,_=>by cases b<;>cases h
 | (b,i)::r,.dic _ _ _,k,h,_,_,_,_,_,_,_,_=>by cases b<;>cases h
 | (b,i)::r,.dit _ _ _,k,h,_,_,_,_,_,_,_,_=>by cases b<;>cases h
end
theorem IN:∀(q:List (Bool×Int)){t s:T}{k:Nat},A7 q t=some s->lnP q<=k->t.Nd k->s.Nd (k-lnP q)
 |[],t,s,k,h,_,n=>by cases h;exact n
 | (false,i)::r,.lst a ts,s,k,h,hl,n=>by
  simp only[A7]at h
  obtain⟨j,_,h⟩:=bS h
  obtain⟨c,hc,h⟩:=bS h
  cases k with
  |zero=>simp[lnP]at hl
  |succ k=>
   obtain⟨n1,n2⟩:=n
   simp only[T.adr,T.rest,aaG]at n1 n2
   have nds:T.Nds ts k:=⟨n1.2,fun x hx hy=>n2 x hx (aaa _ hy)⟩
   obtain⟨l1,l2,e1,_⟩:=Er hc
   rw[e1]at nds
   have:=IN r (k:=k) h (by simp[lnP]at hl;exact hl) (DD.mp nds).2.1
   have e:k+1-lnP ((false,i)::r)=k-lnP r:=by simp only[lnP];omega
   rw[e];exact this
 | (true,i)::r,.tup a ts,s,k,h,hl,n=>by
  simp only[A7]at h
  obtain⟨j,_,h⟩:=bS h
  obtain⟨c,hc,h⟩:=bS h
  have nds:T.Nds ts k:=n
  obtain⟨l1,l2,e1,_⟩:=Er hc
  rw[e1]at nds
  exact IN r (k:=k) h hl (DD.mp nds).2.1
 | (false,i)::r,.tup a ts,s,k,h,_,_=>by cases h
 | (true,i)::r,.lst a ts,s,k,h,_,_=>by cases h
 | (b,i)::r,.non,s,k,h,_,_=>by cases b<;>cases h
 | (b,i)::r,.bl _,s,k,h,_,_=>by cases b<;>cases h
 | (b,i)::r,.int _,s,k,h,_,_=>by cases b<;>cases h
 | (b,i)::r,.str _,s,k,h,_,_=>by cases b<;>cases h
 | (b,i)::r,.exn _ _,s,k,h,_,_=>by cases b<;>cases h
theorem HV(ts:List T)(j:Nat)(t:T):T.dats (ts.set j t)=(T.dats ts).set j t.dat:=by rw[T.dats_map,T.dats_map,abJ]
theorem Hk{f:List D->Option (List D)}:∀(q:List (Bool×Int)){t:T}{d':D},Ax f q t.dat=some d'->∃a ts ds',A7 q t=some (.lst a ts)/\f (T.dats ts)=some ds'/\∀us t',T.dats us=ds'->Fe (.lst a us) q t=some t'->t'.dat=d'
 |[],t,d',h=>by
  cases t with
  |lst a ts=>
   simp only[T.dat,Ax]at h
   obtain⟨ds',h1,rfl⟩:=aax.mp h
   exact⟨a,ts,ds',rfl,h1,fun us t' e1 e2=>by cases e2;simp[T.dat,e1]⟩
  |_=>cases h
 | (b,i)::r,t,d',h=>by
  cases b with
  |false=>
   cases t with
   |lst a ts=>
    simp only[T.dat,Ax,Ag]at h
    obtain⟨j,hj,h⟩:=bS h
    obtain⟨d,hd,h⟩:=bS h
    obtain⟨d2,h1,rfl⟩:=aax.mp h
    obtain⟨c,hc,rfl⟩:=D5 hd
    obtain⟨a',ts',ds',s1,s2,s3⟩:=Hk r h1
    refine⟨a',ts',ds',by simp only[A7,hj,aaY,hc,s1],s2,fun us t' e1 e2=>?_⟩
    simp only[Fe,hj,aaY,hc]at e2
    obtain⟨c',e3,rfl⟩:=aax.mp e2
    simp only[T.dat,HV,s3 us c' e1 e3]
   |_=>cases h
  |true=>
   cases t with
   |tup a ts=>
    simp only[T.dat,Ax,Ag]at h
    obtain⟨j,hj,h⟩:=bS h
    obtain⟨d,hd,h⟩:=bS h
    obtain⟨d2,h1,rfl⟩:=aax.mp h
    obtain⟨c,hc,rfl⟩:=D5 hd
    obtain⟨a',ts',ds',s1,s2,s3⟩:=Hk r h1
    refine⟨a',ts',ds',by simp only[A7,hj,aaY,hc,s1],s2,fun us t' e1 e2=>?_⟩
    simp only[Fe,hj,aaY,hc]at e2
    obtain⟨c',e3,rfl⟩:=aax.mp e2
    simp only[T.dat,HV,s3 us c' e1 e3]
   |_=>cases h
section
variable{p:Px}{H0:Hp}{A0:Addr->Prop}{m m1:Ms}{τ:Ft}{H H1:Hp}
theorem Pw{x k:Nat}{t:T}{q:List (Bool×Int)}{a:Addr}{ts us:List T}{F N:Addr->Prop}(S:Sf p H0 A0 m τ H)(s:Same H H1)(hx:τ[x]?=some (some t))(hm:m[x]?=some (.ow k))(hq:A7 q t=some (.lst a ts))(hl:lnP q<k)(hus:T.Oks p H1 us)(hFN:∀b,F b->N b)
  (hA:∀b∈T.adrs us (k-1-lnP q),b∈T.adrs ts (k-1-lnP q)\/F b) (hB:∀b∈T.rests us (k-1-lnP q),b∈T.rests ts (k-1-lnP q)\/N b) (hnd:T.Nds us (k-1-lnP q))
  (f0:∀b,F b->b∉t.rest 0) (f1:∀b,F b->H0 b=none/\Mu H1 b) (f4:∀b,F b->Own m τ b\/H b=none) (n0:∀b,N b->b∉t.adr k) (n1:∀b,N b->H0 b=none\/A0 b)
  (hlen:m1.length=m.length) (hmx:m1[x]?=some (.ow k)) (hmo:∀(j:Nat)(d:Md),j≠x->m1[j]?=some d->d≠.dead->m[j]?=some d/\(q≠[]->∀k2,d≠.br k2))
  (f2:∀(j:Nat)(u:T)(d:Md),j≠x->τ[j]?=some (some u)->m1[j]?=some d->d≠.dead->∀b,F b->b∉u.rest d.low) (n2:∀(i:Nat)(u:T)(k':Nat),i≠x->τ[i]?=some (some u)->m1[i]?=some (.ow k')->∀b,N b->b∉u.adr k') :
  ∃t',Fe (.lst a us) q t=some t'/\t'.val=t.val/\Sf p H0 A0 m1 (τ.set x (some t')) (L2.upd H1 a (.lst (us.map T.val)))/\Stp m m1 [x] τ (τ.set x (some t')) H (L2.upd H1 a (.lst (us.map T.val))):=by
 have S1:=S.grow s
 obtain⟨ain,aad⟩:=Et q (k:=k) hq (by omega)
 have ek:k-lnP q=(k-1-lnP q)+1:=by omega
 have aadr:a∈t.adr k:=aad a (by rw[ek];exact aac ..)
 have arest:a∈t.rest 0:=(T.all_iff t k).mpr (.inl aadr)
 have nds:=IN q hq (by omega:lnP q<=k) (S.nd x t k hx hm)
 rw[ek]at nds
 obtain⟨nd1,nd2⟩:=nds
 simp only[T.adr,T.rest,aaG]at nd1 nd2
 have hpl:Mu H1 a:=(S1.own x t k a hx hm aadr).2
 have hkeep:∀b w,H1 b=some w->b≠a->L2.upd H1 a (.lst (us.map T.val)) b=some w:=fun b w e n=>by rw[Ah n];exact e
 have aus:a∉T.rests us 0:=fun z=>by
  rcases (T.alls_iff us (k-1-lnP q)).mp z with z|z
  ·rcases hA a z with y|y
   ·exact nd1.1 y
   ·exact f0 a y arest
  ·rcases hB a z with y|y
   ·exact nd2 a y (aac ..)
   ·exact n0 a y aadr
 have hs:(T.lst a us).Ok p (L2.upd H1 a (.lst (us.map T.val))):=⟨.inl Aq,T.oks_iff.mpr fun u hu=>D8 hkeep hpl (T.oks_iff.mp hus u hu) fun z=>aus (T.mem_rests.mpr ⟨u,hu,z⟩)⟩
 obtain⟨t',p1,p2,p3,p4,p5,p6⟩:=Lh hkeep hpl hs hFN q hq hl (S.nd x t k hx hm) (S1.at hx hm (by intro c;cases c)) f0 n0 hA hB hnd
 have all':∀b∈t'.rest 0,b∈t.rest 0\/N b:=fun b z=>by
  rcases (T.all_iff t' k).mp z with z|z
  ·exact(p5 b z).imp (fun y=>(T.all_iff t k).mpr (.inl y)) (hFN b)
  ·exact(p6 b z).imp (fun y=>(T.all_iff t k).mpr (.inr y)) id
 have sm0:0<k/\k<90:=of_decide_eq_true (S.small _ (aaj hm))
 have sm:=sm0.2
 have other:∀{j:Nat}{u:T}{d:Md},j≠x->τ[j]?=some (some u)->m1[j]?=some d->d≠.dead->u.Ok p (L2.upd H1 a (.lst (us.map T.val))):=by
  intro j u d ne e hd nd
  obtain⟨h1,h2⟩:=hmo j d ne hd nd
  refine D8 hkeep hpl (S1.at e h1 nd) ?_
  cases d with
  |sh=>exact S.sep x j t u k _ (Ne.symm ne) hx hm e h1 nd a aadr
  |ow k2=>exact S.sep x j t u k _ (Ne.symm ne) hx hm e h1 nd a aadr
  |br k2=>
   cases q with
   |nil=>
    cases hq
    exact S.top x j _ u k k2 hx hm e h1 a ts rfl
   |cons _ _=>exact absurd rfl (h2 (by simp) k2)
  |dead=>exact absurd rfl nd
 refine⟨t',p1,p2,⟨by rw[aaM,hlen];exact S.len,fun d hd=>?_,fun b u e=>?_,fun i u j e ej l=>?_,fun i u k' b e hk' z=>?_,fun b sh=>?_,fun i u k' e hk'=>?_,fun i j u w k' d ne e hk' e' hd nd b z=>?_,fun i j u w k' k2 e hk' e' hd b cs z=>?_⟩,
  fun b u e n=>?_,fun b o=>?_,fun i hi=>?_,fun i _=>by rw[Ps hx p2]⟩
 ·obtain⟨i,hi,rfl⟩:=aa9 hd
  by_cases z:i=x
  ·subst z
   rw[aae hi]at hmx
   rw[Option.some.inj hmx]
   exact decide_eq_true sm0
  ·by_cases y:m1[i]=.dead
   ·rw[y];rfl
   ·exact S.small _ (aaj (hmo i _ z (aae hi) y).1)
 ·rw[Ah (fun z=>by
   have:=(S.own x t k a hx hm aadr).1
   rw[z]at e
   rw[this]at e;cases e)]
  exact S1.same b u e
 ·obtain⟨d,hd,rfl⟩:=Bq ej
  rcases Aj e with⟨rfl,e2⟩|⟨ne,e1⟩
  ·cases e2;exact p3
  ·exact other ne e1 hd (fun z=>by subst z;exact absurd l (by decide))
 ·rcases Aj e with⟨rfl,e2⟩|⟨ne,e1⟩
  ·cases e2
   rw[hmx]at hk'
   cases hk'
   rcases p5 b z with y|y
   ·obtain⟨y1,vs,y2,mu⟩:=S1.own i t k b hx hm y
    by_cases w:b=a
    ·subst w;exact⟨y1,_,Aq,rfl⟩
    ·exact⟨y1,vs,hkeep _ _ y2 w,mu⟩
   ·obtain⟨y1,vs,y2,mu⟩:=f1 b y
    exact⟨y1,vs,hkeep _ _ y2 (fun w=>f0 b y (w▸arest)),mu⟩
  ·obtain⟨h1,_⟩:=hmo i _ ne hk' (by intro c;cases c)
   obtain⟨y1,vs,y2,mu⟩:=S1.own i u k' b e1 h1 z
   exact⟨y1,vs,hkeep _ _ y2 (fun w=>S.sep x i t u k _ (Ne.symm ne) hx hm e1 h1 (by intro c;cases c) a aadr (w▸(T.all_iff u k').mpr (.inl z))),mu⟩
 ·obtain⟨i,u,j,e,ej,l,z⟩:=sh
  obtain⟨d,hd,rfl⟩:=Bq ej
  rcases Aj e with⟨rfl,e2⟩|⟨ne,e1⟩
  ·cases e2
   rw[hmx]at hd
   cases hd
   rcases p6 b z with y|y
   ·exact S.src b ⟨i,t,k,hx,A4 hm,sm,y⟩
   ·exact n1 b y
  ·obtain⟨h1,_⟩:=hmo i _ ne hd (fun z=>by subst z;exact absurd l (by decide))
   exact S.src b ⟨i,u,_,e1,A4 h1,l,z⟩
 ·rcases Aj e with⟨rfl,e2⟩|⟨ne,e1⟩
  ·cases e2
   rw[hmx]at hk'
   cases hk'
   exact p4
  ·exact S.nd i u k' e1 (hmo i _ ne hk' (by intro c;cases c)).1
 ·rcases Aj e with⟨rfl,e2⟩|⟨ne1,e1⟩
  ·cases e2
   rw[hmx]at hk'
   cases hk'
   rcases Aj e' with⟨z',_⟩|⟨ne2,e3⟩
   ·exact absurd z'.symm ne
   ·rcases p5 b z with y|y
    ·exact S.sep i j t w k d ne hx hm e3 (hmo j d ne2 hd nd).1 nd b y
    ·exact f2 j w d ne2 e3 hd nd b y
  ·obtain⟨h1,_⟩:=hmo i _ ne1 hk' (by intro c;cases c)
   rcases Aj e' with⟨z',e2⟩|⟨ne2,e3⟩
   ·cases e2
    subst z'
    rw[hmx]at hd
    cases hd
    intro y
    rcases all' b y with y|y
    ·exact S.sep i j u t k' _ ne e1 h1 hx hm (by intro c;cases c) b z y
    ·exact n2 i u k' ne1 e1 hk' b y z
   ·exact S.sep i j u w k' d ne e1 h1 e3 (hmo j d ne2 hd nd).1 nd b z
 ·have ne2:j≠x:=fun y=>by subst y;rw[hmx]at hd;cases hd
  rcases Aj e' with⟨y,_⟩|⟨_,e3⟩
  ·exact absurd y ne2
  obtain⟨h3,h4⟩:=hmo j _ ne2 hd (by intro c;cases c)
  rcases Aj e with⟨rfl,e2⟩|⟨ne1,e1⟩
  ·cases e2
   rw[hmx]at hk'
   cases hk'
   cases q with
   |nil=>
    cases hq
    cases p1
    cases z
    exact S.top i j _ w k k2 hx hm e3 h3 _ ts rfl
   |cons _ _=>exact absurd rfl (h4 (by simp) k2)
  ·exact S.top i j u w k' k2 e1 (hmo i _ ne1 hk' (by intro c;cases c)).1 e3 h3 b cs z
 ·rw[Ah (show b≠a from fun z=>n ⟨x,t,k,hx,hm,by rw[z];exact aadr⟩)]
  exact s b u e
 ·obtain⟨i,u,k',e,hk',z⟩:=o
  rcases Aj e with⟨rfl,e2⟩|⟨ne,e1⟩
  ·cases e2
   rw[hmx]at hk'
   cases hk'
   rcases p5 b z with y|y
   ·exact .inl ⟨i,t,k,hx,hm,y⟩
   ·exact f4 b y
  ·exact .inl ⟨i,u,k',e1,(hmo i _ ne hk' (by intro c;cases c)).1,z⟩
 ·rw[aay (fun z=>hi (by simp[z]))]
end
structure Zx where
 p:Px
 H0:Hp
 A0:Addr->Prop
 EX:EXT
 mx:Ms
 dep:Nat
abbrev Um.kind:Um->Nat
 |.append=>1
 |.extend=>2
 |_=>0
mutual
noncomputable def wrS:S->List Nat
 |.asg x _ _=>[x,x+1000]
 |.dem _ _=>[]
 |.dead _=>[]
 |.asgT xs _=>up xs
 |.set x _ _ _=>[x]
 |.mut x _ _ _=>[x]
 |.expr _=>[]
 |.iff _ a b=>wrSs a++wrSs b
 |.wh _ b=>wrSs b
 |.for_ g _ b=>up g.sl++wrSs b
 |.ret _=>[]
 |.retT _=>[]
 |.raise _ _=>[]
 |.put _ y _=>[y]
noncomputable def wrSs:Ss->List Nat
 |.nil=>[]
 |.cons s r=>wrS s++wrSs r
end
abbrev WY(a b:Ms):Ms:=ac9 Md.meet a b
abbrev N3:Option Ms->Option Ms->Option Ms
 |none,b=>b
 |a,none=>a
 |some a,some b=>some (WY a b)
abbrev okJ:Option Ms->Option Ms->Bool
 |some a,some r=>leM a r
 |none,_=>true
 |some _,none=>false
abbrev It.nmOf:It->Option Nat
 |.seqL (.nm x)=>some x
 |_=>none
abbrev rk(m:Ms)(e:E):Option Nat:=match e with
 |.nm i=>match m[i]? with
  |some (.ow k)=>some k
  |some .sh=>some 0
  |_=>none
 |e=>(jk (tnM m) e).bind fun x=>if x.1=0 then some x.2 else none
abbrev Kp(m:Ms):E->Option (Nat×Nat)
 |.nm i=>match m[i]? with
  |some (.ow k)=>some (i,k)
  |_=>none
 |_=>none
theorem QX{m:Ms}{e:E}{i k:Nat}(h:Kp m e=some (i,k)):e=.nm i/\m[i]?=some (.ow k):=by
 unfold Kp at h
 split at h
 ·split at h
  ·cases h;exact⟨rfl,‹_›⟩
  ·cases h
 ·cases h
abbrev rkT(m:Ms):List Nat->Es->Option Nat
 |_,.nil=>some 9
 |I,.cons e r=>match Kp m e with
  |some (i,k)=>if i∈I then none else(rkT m (i::I) r).bind fun k2=>some (min k k2)
  |none=>(jk (tnM m) e).bind fun c=>if c.1=0 then(rkT m I r).bind fun k2=>some (min c.2 k2) else none
abbrev AH(m:Ms):Ms:=m.map fun d=>match d with
 |.br _=>.dead
 |d=>d
abbrev Ff(m:Ms):List (Bool×E)->Bool
 |[]=>true
 | (_,e)::r=>(jk (tnM m) e).isSome&&Ff m r
abbrev lnE:List (Bool×E)->Nat
 |[]=>0
 | (false,_)::r=>lnE r+1
 | (true,_)::r=>lnE r
abbrev Es.mvOf(m:Ms):Es->Option (Nat×Nat)
 |.cons (.nm y) .nil=>match m[y]? with
  |some (.ow k)=>some (y,k)
  |_=>none
 |_=>none
abbrev Li(m:Ms)(y z:Nat):Bool:=!(z==y)&&match m[z]? with
 |some .sh=>true
 |some (.ow _)=>true
 |_=>false
mutual
noncomputable def msS(mx:Ms)(dep:Nat):S->Ms->Option (Option Ms)
 |.asg x k e,m=>(jk (tnM m) e).bind fun c=>if c.1=0/\k<=c.2/\x<m.length/\k<90/\leM m mx=true then some (some (m.set x (mdK k))) else none
 |.dem x k,m=>if leM m (m.set x (mdK k))=true then some (some (m.set x (mdK k))) else none
 |.dead x,m=>if leM m (m.set x .dead)=true then some (some (m.set x .dead)) else none
 |.asgT xs e,m=>(jk (tnM m) e).bind fun c=>if c.1=0/\leM m mx=true then some (some (At m xs .sh)) else none
 |.set x p i e,m=>(jk (tnM m) e).bind fun c=>(jk (tnM m) i).bind fun _=>match m[x]? with
  |some (.ow k)=>if c.1=0/\lnE p<k/\k-1-lnE p<=c.2/\Ff m p=true/\leM m mx=true then some (some (if p.isEmpty then m else AH m)) else none
  |_=>none
 |.mut x p u es,m=>match m[x]? with
  |some (.ow k)=>if lnE p<k/\Ff m p=true/\leM m mx=true then(match es.mvOf m with
    |some (y,ky)=>if u=.append/\y≠x/\k-1-lnE p<=ky/\p.isEmpty=true then some (some (m.set y (.br ky))) else none
    |none=>(jks (tnM m) es).bind fun c=>if(c.1=0\/(u=.extend/\c.1<=1))/\(k-1-lnE p=0\/(u.kind=1/\k-1-lnE p<=c.2)\/(u.kind=2/\k-lnE p<=c.2)\/u.kind=0) then some (some (if p.isEmpty then m else AH m)) else none) else none
  |_=>none
 |.expr e,m=>(jk (tnM m) e).bind fun _=>if leM m mx=true then some (some m) else none
 |.iff c a b,m=>(jk (tnM m) c).bind fun _=>if leM m mx=true then(msSs mx dep a m).bind fun ra=>(msSs mx dep b m).bind fun rb=>if okJ ra (N3 ra rb)=true/\okJ rb (N3 ra rb)=true then some (N3 ra rb) else none
  else none
 |.wh c b,m=>(jk (tnM m) c).bind fun _=>if leM m mx=true then(msSs mx dep b m).bind fun r=>match r with
   |none=>some (some m)
   |some mb=>if leM mb m=true then some (some m) else none
  else none
 |.for_ g it b,m=>(jkI (tnM m) it).bind fun j=>if leM m mx=true/\leM m (At m g.sl .dead)=true/\(j=0\/∃x,it.nmOf=some x/\x∉wrSs b/\x∉up g.sl) then(msSs mx dep b (At (At m g.sl .dead) g.sl .sh)).bind fun r=>match r with
   |none=>some (some (At m g.sl .dead))
   |some mb=>if leM mb (At m g.sl .dead)=true then some (some (At m g.sl .dead)) else none
  else none
 |.ret e,m=>(rk m e).bind fun k=>if(dep<=k/\dep<1000)/\leM m mx=true then some none else none
 |.retT es,m=>(rkT m [] es).bind fun k=>if(dep<=k/\dep<1000)/\leM m mx=true then some none else none
 |.raise _ es,m=>(jks (tnM m) es).bind fun _=>if leM m mx=true then some none else none
 |.put _ y zs,m=>match m[y]? with
  |some (.ow k)=>if k=2/\leM m mx=true/\leM m (AH m)=true/\zs.all (Li m y)=true then some (some (AH m)) else none
  |_=>none
noncomputable def msSs(mx:Ms)(dep:Nat):Ss->Ms->Option (Option Ms)
 |.nil,m=>some (some m)
 |.cons s r,m=>(msS mx dep s m).bind fun o=>match o with
  |none=>some none
  |some m1=>msSs mx dep r m1
end
abbrev lRet(Z:Zx)(w:List Nat)(d:D)(τ:Ft)(E:Ends):Prop:=if Z.dep<1000 then ∀(t:T)(H':Hp),t.dat=d->Rs Z.p Z.A0 Z.H0 H' 0 Z.dep t->E.rt t.val H'
 else Z.dep∉w/\∀(b:Bool)(us:List T)(a:Addr)(H':Hp),d=.tup [.bl b,.lst (T.dats us)]->(vτ τ)[Z.dep-1000]?=some (some (.ref a))->(T.lst a us).Ok Z.p H'->(Mu H' a)->Same Z.H0 H'->E.rt (.bl b) H'
theorem lRet.lo{Z:Zx}{w:List Nat}{d:D}{τ:Ft}{E:Ends}(h:lRet Z w d τ E)(hd:Z.dep<1000){t:T}{H':Hp}(e:t.dat=d)(R:Rs Z.p Z.A0 Z.H0 H' 0 Z.dep t):E.rt t.val H':=by
 unfold lRet at h
 rw[if_pos hd]at h
 exact h t H' e R
theorem lRet.to{Z Z2:Zx}{w w2:List Nat}{d:D}{τ τ2:Ft}{E E2:Ends}(h:lRet Z w d τ E)(hw:∀i∈w2,i∈w)(hv:∀i,i+1000∉w->(vτ τ2)[i]?=(vτ τ)[i]?)(he:E2.rt=E.rt:=by rfl)(hz:lRet Z2 w2 d τ2 E2=lRet Z w2 d τ2 E2:=by rfl):lRet Z2 w2 d τ2 E2:=by
 rw[hz];clear hz
 unfold lRet at *
 rw[he]
 split
 ·rename_i c;rw[if_pos c]at h;exact h
 ·rename_i c
  rw[if_neg c]at h
  have e:Z.dep-1000+1000=Z.dep:=Nat.sub_add_cancel (ab7.mp c)
  refine⟨fun z=>h.1 (hw _ z),fun b us a H' e1 e2=>h.2 b us a H' e1 ?_⟩
  rw[<- hv (Z.dep-1000) (by rw[e];exact h.1)]
  exact e2
abbrev lOut(Z:Zx)(m:Ms)(r:Option Ms)(w:List Nat)(o:Out)(τ:Ft)(H:Hp)(D:Ends):Prop:=match o with
 |.nxt δ'=>∀(m':Ms)(τ':Ft)(H':Hp),r=some m'->dτ τ'=δ'->Sf Z.p Z.H0 Z.A0 m' τ' H'->Stp m m' w τ τ' H H'->D.nx (vτ τ') H'
 |.ret d=>lRet Z w d τ D
 |.exc c δ'=>Z.p.has (kcX c)=true->∀(τ':Ft)(H':Hp),dτ τ'=δ'->Sf Z.p Z.H0 Z.A0 Z.mx τ' H'->Stp m Z.mx w τ τ' H H'->XW Z.p (Z.EX (vτ τ')) c H'
 |.bad=>False
abbrev lS(Z:Zx)(s:S):TS:=fun D σ H=>∃τ m r,σ=vτ τ/\Sf Z.p Z.H0 Z.A0 m τ H/\msS Z.mx Z.dep s m=some r/\lOut Z m r (wrS s) (ex s (dτ τ)) τ H D
abbrev lSs(Z:Zx)(s:Ss):TS:=fun D σ H=>∃τ m r,σ=vτ τ/\Sf Z.p Z.H0 Z.A0 m τ H/\msSs Z.mx Z.dep s m=some r/\lOut Z m r (wrSs s) (exs s (dτ τ)) τ H D
theorem PSs.mono{X:Cx}{st:List Stmt}{t t':TS}(h:PSs X st t)(m:∀D σ H,t' D σ H->t D σ H):PSs X st t':=fun pins s σ H D I q=>h pins s σ H D I (m _ _ _ q)
section
variable{Z:Zx}{m:Ms}{r:Option Ms}{w:List Nat}{τ:Ft}{H:Hp}{D:Ends}{X:Cx}{pos:Pos}
theorem lOut.lg{α:Type}{q:Res α}{f:α->Out}(S:Sf Z.p Z.H0 Z.A0 m τ H)(hm:leM m Z.mx=true)(h:lOut Z m r w (q.out (dτ τ) f) τ H D):Lg Z.p Z.EX (vτ τ) q H fun a=>lOut Z m r w (f a) τ H D:=by
 cases q with
 |ok a=>exact h
 |exc c=>exact fun hc H' s=>h hc τ H' rfl ((S.weak hm).grow s) (Stp.refl w hm s)
 |bad=>exact h
theorem AN{c:Prop}[Decidable c]{α:Type}{x y:α}(h:(if c then some x else none)=some y):c/\x=y:=by
 split at h
 ·exact⟨‹_›,Option.some.inj h⟩
 ·cases h
theorem VT{x k:Nat}{e:E}{σ:L2.St}(h:lS Z (.asg x k e) D σ H):∃τ m,σ=vτ τ/\Sf Z.p Z.H0 Z.A0 m τ H/\Gv (lE Z.p Z.EX (tnM m) e) (DH x) D σ H:=by
 obtain⟨τ,m,r,rfl,S,hr,h⟩:=h
 simp only[msS]at hr
 obtain⟨⟨j1,k1⟩,h1,hr⟩:=bS hr
 obtain⟨⟨c1,c2,c3,c4,c5⟩,rfl⟩:=AN hr
 have c1:j1=0:=c1
 subst c1
 refine⟨τ,m,rfl,S,τ,rfl,S.ok,0,k1,h1,?_⟩
 simp only[ex]at h
 refine(h.lg S c5).mono (Same.refl _) fun d _ h t H1 ht R=>?_
 subst ht
 obtain⟨S2,P2⟩:=VS S R c2 c3 c4
 show D.nx ((vτ τ).set x (some t.val)) H1
 rw[<- He]
 exact h _ _ H1 rfl (E9 τ x t) S2 P2
end
theorem F6{m:Ms}{i:Nat}{d:Md}(h:(AH m)[i]?=some d):(d=.dead)\/(m[i]?=some d/\∀k2,d≠.br k2):=by
 unfold AH at h
 rw[aal]at h
 obtain⟨d',h1,h2⟩:=aax.mp h
 cases d' with
 |br k=>exact .inl h2.symm
 |sh=>cases h2;exact .inr ⟨h1,by simp⟩
 |ow k=>cases h2;exact .inr ⟨h1,by simp⟩
 |dead=>exact .inl h2.symm
theorem J0{m:Ms}{i k:Nat}(h:m[i]?=some (.ow k)):(AH m)[i]?=some (.ow k):=by
 unfold AH;rw[aal,h];rfl
section
variable{p:Px}{H0:Hp}{A0:Addr->Prop}{m:Ms}{τ:Ft}{H H1:Hp}
theorem Py{x k:Nat}{t:T}{q:List (Bool×Int)}{a:Addr}{ts us es:List T}(S:Sf p H0 A0 m τ H)(s:Same H H1)(hx:τ[x]?=some (some t))(hm:m[x]?=some (.ow k))(hq:A7 q t=some (.lst a ts))(hl:lnP q<k)(hus:T.Oks p H1 us)
  (hA:∀b∈T.adrs us (k-1-lnP q),b∈T.adrs ts (k-1-lnP q)\/b∈T.adrs es (k-1-lnP q)) (hB:∀b∈T.rests us (k-1-lnP q),b∈T.rests ts (k-1-lnP q)\/b∈T.rests es 0)
  (hnd:T.Nds ts (k-1-lnP q)->(∀b∈T.adrs es (k-1-lnP q),b∉T.rests ts 0)->(∀b∈T.adrs ts (k-1-lnP q),b∉T.rests es 0)->T.Nds us (k-1-lnP q))
  (src:∀b∈T.rests es 0,H b=none\/Sh (tnM m) τ b) (new:∀b∈T.adrs es (k-1-lnP q),H b=none/\Mu H1 b) :
  ∃t',Fe (.lst a us) q t=some t'/\t'.val=t.val/\Sf p H0 A0 (if q.isEmpty then m else AH m) (τ.set x (some t')) (L2.upd H1 a (.lst (us.map T.val)))/\Stp m (if q.isEmpty then m else AH m) [x] τ (τ.set x (some t')) H (L2.upd H1 a (.lst (us.map T.val))):=by
 have dom:∀{j:Nat}{u:T}{d:Md},τ[j]?=some (some u)->m[j]?=some d->d≠.dead->∀b∈u.rest 0,H b≠none:=fun e hd nd b z=>(S.at e hd nd).dom z
 obtain⟨ain,aad⟩:=Et q (k:=k) hq (by omega)
 have ek:k-lnP q=(k-1-lnP q)+1:=by omega
 have nds:=IN q hq (by omega:lnP q<=k) (S.nd x t k hx hm)
 rw[ek]at nds aad
 have ndt:T.Nds ts (k-1-lnP q):=by
  obtain⟨n1,n2⟩:=nds
  simp only[T.adr,T.rest,aaG]at n1 n2
  exact⟨n1.2,fun b z y=>n2 b z (aaa _ y)⟩
 have hxd:∀b∈t.rest 0,H b≠none:=dom hx hm (by intro c;cases c)
 have notOwn:∀b∈T.rests es 0,¬Own m τ b:=fun b z o=>by
  rcases src b z with y|y
  ·obtain⟨_,vs,e,mu⟩:=S.ownOk o
   rw[e]at y;cases y
  ·exact S.disj o y
 have hm1:∀(j:Nat)(d:Md),(if q.isEmpty then m else AH m)[j]?=some d->d≠.dead->m[j]?=some d/\(q≠[]->∀k2,d≠.br k2):=by
  intro j d hd nd
  cases q with
  |nil=>exact⟨hd,fun z=>absurd rfl z⟩
  |cons z r=>
   rcases F6 hd with y|⟨y1,y2⟩
   ·exact absurd y nd
   ·exact⟨y1,fun _=>y2⟩
 refine Pw (F:=fun b=>b∈T.adrs es (k-1-lnP q)) (N:=fun b=>b∈T.rests es 0) S s hx hm hq hl hus (fun b z=>(T.alls_iff es _).mpr (.inl z)) hA hB ?_ (fun b z y=>hxd b y (new b z).1) (fun b z=>⟨S.same.free (new b z).1,(new b z).2⟩) (fun b z=>.inr (new b z).1)
  (fun b z y=>notOwn b z ⟨x,t,k,hx,hm,y⟩) (fun b z=>?_) ?_ ?_ (fun j d _ hd nd=>hm1 j d hd nd) (fun j u d ne e hd nd b z y=>?_) (fun i u k' ne e hk b z y=>?_)
 ·refine hnd ndt (fun b z y=>?_) (fun b z y=>?_)
  ·exact hxd b (ain b (aaa _ y)) (new b z).1
  ·exact notOwn b y ⟨x,t,k,hx,hm,aad b (aaa _ z)⟩
 ·rcases src b z with y|y
  ·exact .inl (S.same.free y)
  ·exact S.src b y
 ·split
  ·rfl
  ·unfold AH;rw[aab]
 ·split
  ·exact hm
  ·exact J0 hm
 ·exact dom e (hm1 j d hd nd).1 nd b (T.rest_le u (aaw _) y) (new b z).1
 ·exact notOwn b z ⟨i,u,k',e,(hm1 i _ hk (by intro c;cases c)).1,y⟩
theorem Lj{ts:List T}{e:T}{k:Nat}(ne:e.Nd k)(h1:T.Nds ts k)(h2:∀b∈T.adrs [e] k,b∉T.rests ts 0)(h3:∀b∈T.adrs ts k,b∉T.rests [e] 0):T.Nds (ts++[e]) k :=
 T.nds_append h1 (T.nds_cons.mpr ⟨ne,by simp[T.Nds,T.adrs],by simp[T.rests],by simp[T.adrs]⟩) h3 h2
theorem Tu{ts:List T}{j:Nat}{c e:T}{k:Nat}(hc:ts[j]?=some c)(ne:e.Nd k)(h1:T.Nds ts k)(h2:∀b∈T.adrs [e] k,b∉T.rests ts 0)(h3:∀b∈T.adrs ts k,b∉T.rests [e] 0) :
  T.Nds (ts.set j e) k/\(∀b∈T.adrs (ts.set j e) k,b∈T.adrs ts k\/b∈T.adrs [e] k)/\(∀b∈T.rests (ts.set j e) k,b∈T.rests ts k\/b∈T.rests [e] 0):=by
 obtain⟨l1,l2,e1,e2⟩:=Er hc
 rw[e1]at h1 h2 h3
 rw[e2,e1]
 refine⟨DD.mpr ⟨(DD.mp h1).1,ne,fun b z y=>h2 b (by simpa[T.adrs] using z) ?_,fun b z y=>h3 b ?_ (by simpa[T.rests] using y)⟩,fun b z=>?_,fun b z=>?_⟩
 ·simp only[T.rests_append,T.rests,aag]at y ⊢
  rcases y with y|y
  ·exact .inl y
  ·exact .inr (.inr y)
 ·simp only[T.adrs_append,T.adrs,aag]at z ⊢
  rcases z with z|z
  ·exact .inl z
  ·exact .inr (.inr z)
 ·simp only[T.adrs_append,T.adrs,aag,aaF]at z ⊢
  rcases z with z|z|z
  ·exact .inl (.inl z)
  ·exact .inr z
  ·exact .inl (.inr (.inr z))
 ·simp only[T.rests_append,T.rests,aag,aaF]at z ⊢
  rcases z with z|z|z
  ·exact .inl (.inl z)
  ·exact .inr (T.rest_le e (aaw _) z)
  ·exact .inl (.inr (.inr z))
theorem Tv{ts us:List T}{k:Nat}(h:us.Sublist ts)(n:T.Nds ts k):T.Nds us k:=by
 induction h with
 |slnil=>exact n
 |cons x _ ih=>exact ih (T.nds_cons.mp n).2.1
 |cons_cons x hs ih=>
  rename_i l1 l2
  obtain⟨a,b,c,d⟩:=T.nds_cons.mp n
  refine T.nds_cons.mpr ⟨a,ih b,fun z hz y=>c z hz ?_,fun z hz=>d z ?_⟩
  ·obtain⟨w,hw,q⟩:=T.mem_rests.mp y
   exact T.mem_rests.mpr ⟨w,hs.subset hw,q⟩
  ·obtain⟨w,hw,q⟩:=T.mem_adrs.mp hz
   exact T.mem_adrs.mpr ⟨w,hs.subset hw,q⟩
end
theorem GL:∀(q:List (Bool×E))(δ:Fr)(c:Nat),evP q δ≠.exc c
 |[],δ,c=>by simp[evP]
 | (t,e)::r,δ,c=>by
  simp only[evP]
  split
  ·cases h:evP r δ with
   |ok is=>simp
   |exc c'=>exact absurd h (GL r δ c')
   |bad=>simp
  ·simp
theorem Lk:∀(q:List (Bool×E)){δ:Fr}{b:Bool}{e:E}{is:List (Bool×Int)},evP (q++[(b,e)]) δ=.ok is->∃js i,evP q δ=.ok js/\ev e δ=.ok (.int i)/\is=js++[(b,i)]
 |[],δ,b,e,is,h=>by
  simp only[abi,evP]at h
  split at h
  ·rename_i i he
   simp only[Res.bind_ok]at h
   cases h
   exact⟨[],i,rfl,he,rfl⟩
  ·cases h
 | (t,e')::r,δ,b,e,is,h=>by
  simp only[abc,evP]at h
  split at h
  ·rename_i i' he'
   obtain⟨js',h1,h2⟩:=Res.bind_eq_ok h
   cases h2
   obtain⟨js,i,h3,h4,rfl⟩:=Lk r h1
   exact⟨(t,i')::js,i,by simp only[evP,he',h3,Res.bind_ok],h4,rfl⟩
  ·cases h
theorem GM:∀(q:List (Bool×Int)){t s':T}{b:Bool}{i:Int},A7 (q++[(b,i)]) t=some s'->∃s,A7 q t=some s/\A7 [(b,i)] s=some s'
 |[],t,s',b,i,h=>⟨t,rfl,h⟩
 | (c,j)::r,t,s',b,i,h=>by
  cases c with
  |false=>
   cases t with
   |lst a ts=>
    simp only[abc,A7]at h ⊢
    obtain⟨n,h1,h⟩:=bS h
    obtain⟨u,h2,h⟩:=bS h
    obtain⟨s,h3,h4⟩:=GM r h
    exact⟨s,by rw[h1];simp only[aaY];rw[h2];exact h3,h4⟩
   |_=>cases h
  |true=>
   cases t with
   |tup a ts=>
    simp only[abc,A7]at h ⊢
    obtain⟨n,h1,h⟩:=bS h
    obtain⟨u,h2,h⟩:=bS h
    obtain⟨s,h3,h4⟩:=GM r h
    exact⟨s,by rw[h1];simp only[aaY];rw[h2];exact h3,h4⟩
   |_=>cases h
theorem FO{p:Px}{H:Hp}:∀(q:List (Bool×Int)){t s:T},t.Ok p H->A7 q t=some s->s.Ok p H
 |[],t,s,ok,h=>by cases h;exact ok
 | (c,j)::r,t,s,ok,h=>by
  cases c with
  |false=>
   cases t with
   |lst a ts=>
    simp only[A7]at h
    obtain⟨n,h1,h⟩:=bS h
    obtain⟨u,h2,h⟩:=bS h
    exact FO r (T.oks_iff.mp ok.2 u (aaj h2)) h
   |_=>cases h
  |true=>
   cases t with
   |tup a ts=>
    simp only[A7]at h
    obtain⟨n,h1,h⟩:=bS h
    obtain⟨u,h2,h⟩:=bS h
    exact FO r (T.oks_iff.mp ok.2 u (aaj h2)) h
   |_=>cases h
theorem Tw{b:Bool}{i:Int}{s s':T}(h:A7 [(b,i)] s=some s'):(∃a ts,s=.lst a ts/\atI (ts.map T.val) i=some s'.val)\/(∃a ts,s=.tup a ts/\atI (ts.map T.val) i=some s'.val):=by
 cases b with
 |false=>
  cases s with
  |lst a ts=>
   simp only[A7]at h
   obtain⟨n,h1,h⟩:=bS h
   obtain⟨u,h2,h⟩:=bS h
   cases h
   refine .inl ⟨a,ts,rfl,?_⟩
   unfold atI
   rw[aab,K8,h1]
   show(ts.map T.val)[n]?=_
   rw[aal,h2];rfl
  |_=>cases h
 |true=>
  cases s with
  |tup a ts=>
   simp only[A7]at h
   obtain⟨n,h1,h⟩:=bS h
   obtain⟨u,h2,h⟩:=bS h
   cases h
   refine .inr ⟨a,ts,rfl,?_⟩
   unfold atI
   rw[aab,K8,h1]
   show(ts.map T.val)[n]?=_
   rw[aal,h2];rfl
  |_=>cases h
abbrev RV(tn:List Nat)(q:List (Bool×E)):Prop:=∀e∈q,(jk tn e.2).isSome=true
abbrev lPl(p:Px)(EX:EXT)(tn:List Nat)(x:Nat)(q:List (Bool×E)):TE:=fun σ H Q=>∃τ t is s,σ=vτ τ/\Fok p tn τ H/\RV tn q/\τ[x]?=some (some t)/\t.Ok p H/\evP q (dτ τ)=.ok is/\A7 is t=some s/\∀H',Same H H'->Q s.val H'
abbrev FG(c:CkC)(x:Nat):List (Bool×E)->Expr->Bool
 |[],.Name y _=>(c.N[x]?==some y)&&DO c.sc y&&Bb y
 | (_,e)::r,.Subscript o i _=>FG c x r o&&ckE c e i&&A3 i
 |_,_=>false
section
variable{p:Px}{c:CkC}{lv:Nat}{X:Cx}{EX:EXT}{tn:List Nat}{pos np:Pos}
theorem N4(C:Ct p c lv X EX){x:Nat}:∀{rp:List (Bool×E)}{o:Expr},(∀e∈rp,∀n∈e.2.need,NeedOk p lv X n)->FG c x rp o=true->PE X o (lPl p EX tn x rp.reverse)
 |[],o,hn,h=>by
  cases o with
  |Name y q=>
   obtain⟨h,h3⟩:=Ac (show((c.N[x]?==some y)&&DO c.sc y&&Bb y)=true from h)
   obtain⟨h1,h2⟩:=Ac h
   obtain⟨d1,d2⟩:=BA h3
   refine PE.mono (Cw (by rw[C.N];exact beq_iff_eq.mp h1) (C.vis h2) d1 d2) fun σ H Q h=>?_
   obtain⟨τ,t,is,s,rfl,hF,_,ht,ok,e,hs,hq⟩:=h
   simp only[List.reverse_nil,evP]at e
   cases e
   cases hs
   exact⟨_,CQ ht,hq H (Same.refl _)⟩
  |_=>exact nF h
 | (b,e)::rp,o,hn,h=>by
  cases o with
  |Subscript o' i q=>
   obtain⟨h,h3⟩:=Ac (show(FG c x rp o'&&ckE c e i&&A3 i)=true from h)
   obtain⟨h1,h2⟩:=Ac h
   have A:=N4 C (rp:=rp) (o:=o') (fun e he=>hn e (aaa _ he)) h1
   have B:=(snd e C (tn:=tn) i (hn (b,e) (aac ..)) h2).1
   refine PE.mono (Iw (Jk.or Ix) A B (Ep h3)) fun σ H Q h=>?_
   rw[acA]at h
   obtain⟨τ,t,is,s,rfl,hF,hj,ht,ok,ev1,hs,hq⟩:=h
   obtain⟨js,n,e1,e2,rfl⟩:=Lk _ ev1
   obtain⟨s1,hs1,hs2⟩:=GM _ hs
   refine⟨τ,t,js,s1,rfl,hF,fun e he=>hj e (aaD _ he),ht,ok,e1,hs1,fun H1 sm=>?_⟩
   obtain⟨⟨j,k⟩,hj'⟩:=aaN.mp (hj (b,e) (aau _ (aaE.mpr rfl)))
   refine⟨τ,rfl,hF.same sm,j,k,hj',?_⟩
   rw[e2]
   intro t2 H2 ht2 R
   have hv:t2.val=.int n:=by cases t2<;>simp[T.dat]at ht2<;>simp[T.val,ht2]
   rw[hv]
   have ok1:=(FO _ ok hs1).same (sm.trans R.same)
   rcases Tw hs2 with⟨a,ts,rfl,at1⟩|⟨a,ts,rfl,at1⟩
   ·exact .inl ⟨a,_,n,_,rfl,rfl,.inl ok1.1,at1,hq H2 (sm.trans R.same)⟩
   ·exact .inr ⟨a,_,n,_,rfl,rfl,SqT.of ok1.1,at1,hq H2 (sm.trans R.same)⟩
  |_=>exact nF h
theorem Fp{m:Ms}:∀{q:List (Bool×E)},Ff m q=true->RV (tnM m) q
 |[],_=>fun e he=>nomatch he
 | (b,e)::r,h=>by
  obtain⟨h1,h2⟩:=Ac (show((jk (tnM m) e).isSome&&Ff m r)=true from h)
  intro e' he
  rcases aak.mp he with rfl|he
  ·exact h1
  ·exact Fp h2 e' he
theorem Ll:∀{q:List (Bool×E)}{δ:Fr}{is:List (Bool×Int)},evP q δ=.ok is->lnP is=lnE q/\is.isEmpty=q.isEmpty
 |[],δ,is,h=>by simp only[evP]at h;cases h;exact⟨rfl,rfl⟩
 | (b,e)::r,δ,is,h=>by
  simp only[evP]at h
  split at h
  ·obtain⟨js,h1,h2⟩:=Res.bind_eq_ok h
   cases h2
   have:=(Ll h1).1
   cases b<;>simp[lnP,lnE,this]
  ·cases h
theorem MX{δ:Fr}{x:Nat}{f:D->Option D}{Z:Zx}{m:Ms}{r:Option Ms}{w:List Nat}{τ:Ft}{H:Hp}{En:Ends}(h:lOut Z m r w (upd (dτ τ) x f) τ H En):∃t d',τ[x]?=some (some t)/\f t.dat=some d'/\lOut Z m r w (.nxt ((dτ τ).set x (some d'))) τ H En:=by
 unfold upd at h
 cases q:(dτ τ)[x]? with
 |none=>rw[q]at h;exact nE h
 |some o=>
  rw[q]at h
  cases o with
  |none=>exact nE h
  |some d=>
   have:get (dτ τ) x=.ok d:=by unfold get;rw[q]
   obtain⟨t,ht,rfl⟩:=D3 this
   simp only at h
   cases q2:f t.dat with
   |none=>rw[q2]at h;exact nE h
   |some d'=>rw[q2]at h;exact⟨t,d',ht,q2,h⟩
end
theorem HW{τ:Ft}{x:Nat}{t t':T}(h:τ[x]?=some (some t))(e:t'.val=t.val):vτ (τ.set x (some t'))=vτ τ:=by
 rw[He,e]
 refine abC fun i=>?_
 by_cases z:x=i
 ·subst z
  rw[abe,CQ h];rfl
 ·rw[aay z]
theorem Lm{H:Hp}{a:Addr}{vs:List V}(h:Rd H a (.lst vs))(hp:Mu H a):H a=some (.lst vs):=by
 rcases h with h|⟨o,h⟩
 ·exact h
 ·obtain⟨ws,e,mu⟩:=hp
  rw[h]at e;cases e
  exact nomatch (show false=true from mu)
section
variable{Z:Zx}{m:Ms}{r:Option Ms}{w:List Nat}{τ:Ft}{H:Hp}{D:Ends}{X:Cx}{pos:Pos}{σ:L2.St}
theorem VU{x:Nat}{q:List (Bool×E)}{i e:E}(h:lS Z (.set x q i e) D σ H):∃m,Gv (lE Z.p Z.EX (tnM m) e) (UX (lPl Z.p Z.EX (tnM m) x q) (lE Z.p Z.EX (tnM m) i) RI) D σ H:=by
 obtain⟨τ,m,r,rfl,S,hr,h⟩:=h
 refine⟨m,?_⟩
 simp only[msS]at hr
 obtain⟨⟨j1,k1⟩,h1,hr⟩:=bS hr
 obtain⟨⟨j2,k2⟩,h2,hr⟩:=bS hr
 split at hr
 ·rename_i k hmx
  obtain⟨⟨c1,c2,c3,c4,c5⟩,rfl⟩:=AN hr
  have c1:j1=0:=c1
  subst c1
  simp only[ex]at h
  refine⟨τ,rfl,S.ok,0,k1,h1,(h.lg S c5).mono (Same.refl _) fun d _ h te H1 hte R=>?_⟩
  subst hte
  cases ep:evP q (dτ τ) with
  |exc c=>exact absurd ep (GL _ _ _)
  |bad=>rw[ep]at h;exact nE h
  |ok is=>
  rw[ep]at h
  cases ei:ev i (dτ τ) with
  |exc c=>rw[ei]at h;exact nE h
  |bad=>rw[ei]at h;exact nE h
  |ok di=>
  rw[ei]at h
  cases di with
  |int n=>
   simp only at h
   obtain⟨t,d',ht,hu,h⟩:=MX (δ:=dτ τ) h
   obtain⟨a,ts,ds',hs,hf,hd'⟩:=Hk is hu
   unfold A6 at hf
   obtain⟨j,hj,rfl⟩:=aax.mp hf
   rw[Ag]at hj
   obtain⟨l1,l2⟩:=Ll ep
   refine⟨τ,t,is,.lst a ts,rfl,S.ok.same R.same,Fp c4,ht,(S.at ht hmx (by intro c;cases c)).same R.same,ep,hs,fun H2 s2=>?_⟩
   refine⟨τ,rfl,S.ok.same (R.same.trans s2),j2,k2,h2,?_⟩
   rw[ei]
   intro t2 H3 ht2 R3
   have hv:t2.val=.int n:=by cases t2<;>simp[T.dat]at ht2<;>simp[T.val,ht2]
   rw[hv]
   have s3:Same H1 H3:=s2.trans R3.same
   have sH3:Same H H3:=R.same.trans s3
   have S3:=S.grow sH3
   have hl:lnP is<k:=by rw[l1];exact c2
   have aadr:a∈t.adr k:=(Et is (k:=k) hs (by omega)).2 a (by
    have:k-lnP is=(k-lnP is-1)+1:=by omega
    rw[this];exact aac ..)
   have okt:=FO _ (S3.at ht hmx (by intro c;cases c)) hs
   have hpl:=Lm okt.1 (S3.own x t k a ht hmx aadr).2
   have hjl:j<ts.length:=by
    unfold ixN at hj
    split at hj
    ·split at hj
     ·cases hj;omega
     ·cases hj
    ·split at hj
     ·cases hj;omega
     ·cases hj
   have hc:ts[j]?=some ts[j]:=aae hjl
   refine⟨a,_,n,j,rfl,rfl,hpl,by rw[aab];exact hj,?_⟩
   rw[<- abJ]
   have R':Rs Z.p (Sh (tnM m) τ) H H3 0 (k-1-lnP is) te:=(R.fwd s3).le (aai _) (by rw[l1];exact c3)
   obtain⟨t',p1,p2,S4,P4⟩:=Py (us:=ts.set j te) (es:=[te]) S sH3 ht hmx hs hl (T.oks_iff.mpr fun w hw=>by
     rcases abD hw with z|rfl
     ·exact T.oks_iff.mp okt.2 w z
     ·exact R'.ok)
    (fun b z=>(show b∈T.adrs ts _\/b∈T.adrs [te] _ from by
     obtain⟨w,hw,z2⟩:=T.mem_adrs.mp z
     rcases abD hw with y|rfl
     ·exact .inl (T.mem_adrs.mpr ⟨w,y,z2⟩)
     ·exact .inr (by simpa[T.adrs] using z2)))
    (fun b z=>(by
     obtain⟨w,hw,z2⟩:=T.mem_rests.mp z
     rcases abD hw with y|rfl
     ·exact .inl (T.mem_rests.mpr ⟨w,y,z2⟩)
     ·exact .inr (by simpa[T.rests] using T.rest_le w (aaw _) z2)))
    (fun n1 n2 n3=>(Tu hc R'.nd n1 n2 n3).1)
    (fun b z=>R'.src b (by simpa[T.rests] using z)) (fun b z=>R'.new b (by simpa[T.adrs] using z))
   have:=h _ _ _ (by rw[l2]) (by rw[E9,hd' _ _ (HV ..) p1]) S4 P4
   rw[HW ht p2]at this
   exact this
  |_=>exact nE h
 ·cases hr
theorem MY{K:Frag}{H:Hp}{a:Addr}{vs:List V}(h:H a=some (.lst vs)):tyV K "list" (.ref a) H:=.inl ⟨rfl,_,SqL.of h⟩
theorem Ln{x:Nat}{q:List (Bool×E)}{u:Um}{es:Es}{k:Nat}(S:Sf Z.p Z.H0 Z.A0 m τ H)(hmx:m[x]?=some (.ow k))(c2:lnE q<k)(c4:Ff m q=true)(h:lOut Z m r [x] (ex (.mut x q u es) (dτ τ)) τ H D) :
  ∃t is ds a ts ds',τ[x]?=some (some t)/\evP q (dτ τ)=.ok is/\evs es (dτ τ)=.ok ds/\A7 is t=some (.lst a ts)/\lnP is=lnE q/\is.isEmpty=q.isEmpty/\umD u ds (T.dats ts)=some ds' /\
   (∀H3,Same H H3->H3 a=some (.lst (ts.map T.val))/\T.Oks Z.p H3 ts/\a∈t.adr k) /\
   (∀us m' H3 t',T.dats us=ds'->r=some m'->Fe (.lst a us) is t=some t'->t'.val=t.val->Sf Z.p Z.H0 Z.A0 m' (τ.set x (some t')) (L2.upd H3 a (.lst (us.map T.val)))->Stp m m' [x] τ (τ.set x (some t')) H (L2.upd H3 a (.lst (us.map T.val)))->D.nx (vτ τ) (L2.upd H3 a (.lst (us.map T.val)))):=by
 simp only[ex]at h
 cases ep:evP q (dτ τ) with
 |exc c=>exact absurd ep (GL _ _ _)
 |bad=>rw[ep]at h;exact nE h
 |ok is=>
 rw[ep]at h
 cases ee:evs es (dτ τ) with
 |exc c=>rw[ee]at h;exact nE h
 |bad=>rw[ee]at h;exact nE h
 |ok ds=>
 rw[ee]at h
 simp only at h
 obtain⟨t,d',ht,hu,h⟩:=MX (δ:=dτ τ) h
 obtain⟨a,ts,ds',hs,hf,hd'⟩:=Hk is hu
 obtain⟨l1,l2⟩:=Ll ep
 refine⟨t,is,ds,a,ts,ds',ht,rfl,rfl,hs,l1,l2,hf,fun H3 sH3=>?_,fun us m' H3 t' e1 e2 p1 p2 S4 P4=>?_⟩
 ·have S3:=S.grow sH3
  have hl:lnP is<k:=by rw[l1];exact c2
  have aadr:a∈t.adr k:=(Et is (k:=k) hs (by omega)).2 a (by
   have:k-lnP is=(k-lnP is-1)+1:=by omega
   rw[this];exact aac ..)
  have okt:=FO _ (S3.at ht hmx (by intro c;cases c)) hs
  exact⟨Lm okt.1 (S3.own x t k a ht hmx aadr).2,okt.2,aadr⟩
 ·have:=h m' _ _ e2 (by rw[E9,hd' us t' e1 p1]) S4 P4
  rw[HW ht p2]at this
  exact this
abbrev rUm:Um->V->List V->Hp->VK->Prop
 |.append=>Hb
 |.extend=>fun x vs H Q=>∃l b xs zs,x=.ref l/\vs=[.ref b]/\H l=some (.lst xs)/\Rd H b (.lst zs)/\xs.length+zs.length<=sizeLine/\Q .non (L2.upd H l (.lst (xs++zs)))
 |.pop=>Vg
 |.clear=>OP
abbrev QY:V->List V->Hp->VK->Prop:=fun x vs H Q=>∃l b xs zs,x=.ref l/\vs=[.ref b]/\H l=some (.lst xs)/\Rd H b (.lst zs)/\xs.length+zs.length<=sizeLine/\Q .non (L2.upd H l (.lst (xs++zs)))
end
section
variable{X:Cx}
theorem N5:MtM X "list.extend" QY:=by
 intro pins s σ H x vs v us Q I rx rv h
 obtain⟨l,b,xs,zs,rfl,rfl,hH,hB,hz,q⟩:=h
 cases rx
 obtain⟨u,rfl,ru⟩:=rv.one
 cases ru
 obtain⟨z,its,n,r,hl,e⟩:=I.lstM hH
 obtain⟨z2,its2,n2,r2,hl2,e2⟩:=Inv.lstR I hB
 have hsz:its.toArray.size+its2.toArray.size<=sizeLine:=by rw[aar,aar];omega
 have hlong:¬(!its.toArray.isEmpty&&Builtin.List.listTooLong (its.toArray.size+its2.toArray.size))=true:=by
  rw[HK hsz,acU]
  exact abl
 refine call_meets F.slot_list_extend ⟨_,e,rfl⟩ F.entry_list_extend (F.args_list_extend_2 _ _)
  (AutoSeq1.list_extend_list_list_0 l its.toArray n b its2.toArray n2 hlong (by rw[aar];omega) (by omega)) ⟨e,e2,?_⟩
 refine⟨.non,_,I.lset (its':=its++its2) hH e (by simp) (r.append r2) ?_,rfl,q⟩
 rw[aaH]
 omega
end
section
variable{Z:Zx}{m:Ms}{r:Option Ms}{w:List Nat}{τ:Ft}{H:Hp}{D:Ends}{X:Cx}{pos:Pos}{σ:L2.St}
theorem Tx{x:Nat}{q:List (Bool×E)}{u:Um}{es:Es}{k:Nat}(hK:X.K=Z.p.K)(S:Sf Z.p Z.H0 Z.A0 m τ H)(hmx:m[x]?=some (.ow k))(c2:lnE q<k)(c4:Ff m q=true){j1 k1:Nat}(h1:jks (tnM m) es=some (j1,k1))
  (hc:(j1=0\/(u=.extend/\j1<=1))/\(k-1-lnE q=0\/(u.kind=1/\k-1-lnE q<=k1)\/(u.kind=2/\k-lnE q<=k1)\/u.kind=0)) (hr:r=some (if q.isEmpty then m else AH m)) (h:lOut Z m r [x] (ex (.mut x q u es) (dτ τ)) τ H D) :
  lPl Z.p Z.EX (tnM m) x q (vτ τ) H fun v H1=>tyV X.K "list" v H1/\lEs Z.p Z.EX (tnM m) es (vτ τ) H1 fun vs H2=>rUm u v vs H2 fun _ H3=>D.nx (vτ τ) H3:=by
 obtain⟨t,is,ds,a,ts,ds',ht,ep,ee,hs,l1,l2,hf,hpl,hnx⟩:=Ln S hmx c2 c4 h
 subst hr
 refine⟨τ,t,is,.lst a ts,rfl,S.ok,Fp c4,ht,S.at ht hmx (by intro c;cases c),ep,hs,fun H1 s1=>⟨MY (hpl H1 s1).1,?_⟩⟩
 refine⟨τ,rfl,S.ok.same s1,j1,k1,h1,?_⟩
 rw[ee]
 intro tes H2 hte R
 subst hte
 have s2:Same H H2:=s1.trans R.same
 obtain⟨p0,okt,aadr⟩:=hpl H2 s2
 have hl:lnP is<k:=by rw[l1];exact c2
 have fin:∀us es',T.dats us=ds'->T.Oks Z.p H2 us->(∀b∈T.adrs us (k-1-lnP is),b∈T.adrs ts (k-1-lnP is)\/b∈T.adrs es' (k-1-lnP is))->(∀b∈T.rests us (k-1-lnP is),b∈T.rests ts (k-1-lnP is)\/b∈T.rests es' 0)->
   (T.Nds ts (k-1-lnP is)->(∀b∈T.adrs es' (k-1-lnP is),b∉T.rests ts 0)->(∀b∈T.adrs ts (k-1-lnP is),b∉T.rests es' 0)->T.Nds us (k-1-lnP is))->(∀b∈T.rests es' 0,H b=none\/Sh (tnM m) τ b)->(∀b∈T.adrs es' (k-1-lnP is),H b=none/\Mu H2 b)->
   D.nx (vτ τ) (L2.upd H2 a (.lst (us.map T.val))):=by
  intro us es' e1 e2 e3 e4 e5 e6 e7
  obtain⟨t',p1,p2,S4,P4⟩:=Py (us:=us) (es:=es') S s2 ht hmx hs hl e2 e3 e4 e5 e6 e7
  rw[l2]at S4 P4
  exact hnx us _ H2 t' e1 rfl p1 p2 S4 P4
 have hz:ts.length<=sizeLine\/True:=.inr trivial
 cases u with
 |append=>
  rcases tes with _|⟨te,_|⟨te2,ter⟩⟩
  ·cases hf
  ·simp only[T.dats,umD]at hf
   obtain⟨hlt,rfl⟩:=AN hf
   have hj:j1=0:=by
    rcases hc.1 with z|⟨z,_⟩
    ·exact z
    ·cases z
   subst hj
   have hk1:k-1-lnP is<=k1\/k-1-lnP is=0:=by
    rw[l1]
    rcases hc.2 with z|⟨_,z⟩|⟨z,_⟩|z
    ·exact .inr z
    ·exact .inl z
    ·cases z
    ·cases z
   refine⟨a,_,te.val,rfl,rfl,p0,by rw[aab,<- Ag];exact hlt,?_⟩
   have:=fin (ts++[te]) [te] (by rw[T.dats_map,aaq,<- T.dats_map];rfl) (T.oks_iff.mpr fun w hw=>by
     rcases aag.mp hw with z|z
     ·exact T.oks_iff.mp okt w z
     ·exact T.oks_iff.mp R.ok w z)
    (fun b z=>by rw[T.adrs_append,aag]at z;exact z) (fun b z=>by
     rw[T.rests_append,aag]at z
     refine z.imp id fun z=>?_
     simp only[T.rests,aaF]at z ⊢
     exact T.rest_le te (aaw _) z)
    (fun n1 n2 n3=>Lj (by
     rcases hk1 with z|z
     ·exact(T.nds_le z R.nd:T.Nds [te] _) |> fun w=>(T.nds_cons.mp w).1
     ·rw[z];exact T.nd_zero te) n1 n2 n3)
    (fun b z=>(R.src b z).imp s1.free id) (fun b z=>by
     rcases hk1 with y|y
     ·obtain⟨w,hw,z⟩:=T.mem_adrs.mp z
      have:=R.new b (T.mem_adrs.mpr ⟨w,hw,T.adr_le w y z⟩)
      exact⟨s1.free this.1,this.2⟩
     ·rw[y,T.adrs_zero]at z;cases z)
   rw[aaq]at this
   exact this
  ·have:umD .append (T.dats (te::te2::ter)) (T.dats ts)=none:=rfl
   rw[this]at hf;cases hf
 |extend=>
  rcases tes with _|⟨te,_|⟨te2,ter⟩⟩
  ·cases hf
  ·cases te with
   |lst b0 es'=>
    simp only[T.dats,T.dat,umD]at hf
    obtain⟨hlt,rfl⟩:=AN hf
    have hj:j1<=1:=by
     rcases hc.1 with z|⟨_,z⟩
     ·omega
     ·exact z
    have hk1:k-1-lnP is+1<=k1\/k-1-lnP is=0:=by
     rw[l1]
     rcases hc.2 with z|⟨z,_⟩|⟨_,z⟩|z
     ·exact .inr z
     ·cases z
     ·exact .inl (by omega)
     ·cases z
    refine⟨a,b0,_,_,rfl,rfl,p0,R.ok.1.1,by rw[aab,aab,<- Ag,<- Ag];exact hlt,?_⟩
    have nde:T.Nds es' (k-1-lnP is):=by
     rcases hk1 with z|z
     ·obtain⟨n1,n2⟩:=(T.nds_cons.mp (T.nds_le z R.nd)).1
      simp only[T.adr,T.rest,aaG]at n1 n2
      exact⟨n1.2,fun b y w=>n2 b y (aaa _ w)⟩
     ·rw[z];exact T.nds_zero _
    have:=fin (ts++es') es' (by rw[T.dats_map,aaq,<- T.dats_map,<- T.dats_map]) (T.oks_iff.mpr fun w hw=>by
      rcases aag.mp hw with z|z
      ·exact T.oks_iff.mp okt w z
      ·exact T.oks_iff.mp R.ok.1.2 w z)
     (fun b z=>by rw[T.adrs_append,aag]at z;exact z) (fun b z=>by
      rw[T.rests_append,aag]at z
      refine z.imp id fun z=>?_
      obtain⟨w,hw,z2⟩:=T.mem_rests.mp z
      exact T.mem_rests.mpr ⟨w,hw,T.rest_le w (aaw _) z2⟩)
     (fun n1 n2 n3=>T.nds_append n1 nde n3 n2)
     (fun b z=>(R.src b (by
      simp only[T.rests,aaF]
      exact T.rest_le (.lst b0 es') hj (j':=1) z)).imp s1.free id) (fun b z=>by
      rcases hk1 with y|y
      ·have:=R.new b (T.mem_adrs.mpr ⟨.lst b0 es',aaE.mpr rfl,T.adr_le (.lst b0 es') y (aaa _ z)⟩)
       exact⟨s1.free this.1,this.2⟩
      ·rw[y,T.adrs_zero]at z;cases z)
    rw[aaq]at this
    exact this
   |_=>cases hf
  ·have:umD .extend (T.dats (te::te2::ter)) (T.dats ts)=none:=rfl
   rw[this]at hf;cases hf
 |pop=>
  rcases tes with _|⟨te,ter⟩
  ·simp only[T.dats,umD]at hf
   split at hf
   ·cases hf
   ·rename_i hne
    cases hf
    have hlen:0<ts.length:=by
     rcases acr ts.length with z|z
     ·exact absurd (by rw[acn z];rfl) hne
     ·exact z
    refine⟨a,_,(ts.map T.val)[(ts.map T.val).length-1]'(by simp;omega),rfl,rfl,p0,aae (by simp;omega),?_⟩
    have:=fin ts.dropLast [] (by rw[T.dats_map,T.dats_map,adf]) (T.oks_iff.mpr fun w hw=>T.oks_iff.mp okt w (acm _ hw))
     (fun b z=>by
      obtain⟨w,hw,z2⟩:=T.mem_adrs.mp z
      exact .inl (T.mem_adrs.mpr ⟨w,acm _ hw,z2⟩)) (fun b z=>by
      obtain⟨w,hw,z2⟩:=T.mem_rests.mp z
      exact .inl (T.mem_rests.mpr ⟨w,acm _ hw,z2⟩))
     (fun n1 _ _=>Tv (List.dropLast_sublist ts) n1) (fun b z=>nomatch z) (fun b z=>nomatch z)
    rw[adf]at this
    exact this
  ·have:umD .pop (T.dats (te::ter)) (T.dats ts)=none:=rfl
   rw[this]at hf;cases hf
 |clear=>
  rcases tes with _|⟨te,ter⟩
  ·cases hf
   refine⟨a,_,rfl,rfl,p0,?_⟩
   exact fin [] [] rfl trivial (fun b z=>nomatch z) (fun b z=>nomatch z) (fun n1 _ _=>by simp[T.Nds,T.adrs]) (fun b z=>nomatch z) (fun b z=>nomatch z)
  ·have:umD .clear (T.dats (te::ter)) (T.dats ts)=none:=rfl
   rw[this]at hf;cases hf
end
section
variable{p:Px}{H0:Hp}{A0:Addr->Prop}{m:Ms}{τ:Ft}{H H1:Hp}
theorem WZ{y ky:Nat}{ty:T}(S:Sf p H0 A0 (m.set y .dead) τ H)(hy:τ[y]?=some (some ty))(hm:y<m.length)(h90:ky<90)(ok:ty.Ok p H)(src:∀a∈ty.rest ky,H0 a=none\/A0 a)
  (sep:∀(i:Nat)(t:T)(k:Nat),τ[i]?=some (some t)->(m.set y .dead)[i]?=some (.ow k)->∀a∈t.adr k,a∉ty.rest ky) (top:∀(i:Nat)(t:T)(k:Nat),τ[i]?=some (some t)->(m.set y .dead)[i]?=some (.ow k)->∀a ts,t=.lst a ts->a∉ty.rest 0):Sf p H0 A0 (m.set y (.br ky)) τ H:=by
 have back:∀{i:Nat}{d:Md},(m.set y (.br ky))[i]?=some d->(i=y/\d=.br ky)\/(i≠y/\(m.set y .dead)[i]?=some d):=by
  intro i d h
  rcases Aj h with z|⟨z1,z2⟩
  ·exact .inl z
  ·exact .inr ⟨z1,by rw[aay (Ne.symm z1)];exact z2⟩
 have ow':∀{i k:Nat},(m.set y (.br ky))[i]?=some (.ow k)->(m.set y .dead)[i]?=some (.ow k):=by
  intro i k h
  rcases back h with⟨_,z⟩|⟨_,z⟩
  ·cases z
  ·exact z
 refine⟨by have:=S.len;rw[aaM]at this ⊢;exact this,fun d hd=>?_,S.same,fun i t j e ej l=>?_,fun i t k a e hk q=>S.own i t k a e (ow' hk) q,fun a sh=>?_,fun i t k e hk=>S.nd i t k e (ow' hk),fun i j t u k d ne e hk e' hd nd a q=>?_,fun i j t u k k2 e hk e' hd a ts z=>?_⟩
 ·obtain⟨i,hi,rfl⟩:=aa9 hd
  rcases back (aae hi) with⟨_,z⟩|⟨_,z⟩
  ·rw[z];exact decide_eq_true h90
  ·exact S.small _ (aaj z)
 ·obtain⟨d,hd,rfl⟩:=Bq ej
  rcases back hd with⟨rfl,z⟩|⟨_,z⟩
  ·rw[hy]at e;cases e;exact ok
  ·exact S.ok i t _ e (A4 z) l
 ·obtain⟨i,t,j,e,ej,l,q⟩:=sh
  obtain⟨d,hd,rfl⟩:=Bq ej
  rcases back hd with⟨rfl,z⟩|⟨_,z⟩
  ·rw[hy]at e;cases e;subst z;exact src a q
  ·exact S.src a ⟨i,t,_,e,A4 z,l,q⟩
 ·rcases back hd with⟨rfl,z⟩|⟨_,z⟩
  ·rw[hy]at e';cases e';subst z;exact sep i t k e (ow' hk) a q
  ·exact S.sep i j t u k d ne e (ow' hk) e' z nd a q
 ·rcases back hd with⟨rfl,z'⟩|⟨_,z'⟩
  ·rw[hy]at e';cases e';exact top i t k e (ow' hk) a ts z
  ·exact S.top i j t u k k2 e (ow' hk) e' z' a ts z
theorem Ty{x y k ky:Nat}{ty:T}{a:Addr}{ts:List T}(S:Sf p H0 A0 m τ H)(s:Same H H1)(hx:τ[x]?=some (some (.lst a ts)))(hm:m[x]?=some (.ow k))(hy:τ[y]?=some (some ty))(hmy:m[y]?=some (.ow ky))(hne:y≠x)(hk:k-1<=ky) :
  Sf p H0 A0 (m.set y (.br ky)) (τ.set x (some (.lst a (ts++[ty])))) (L2.upd H1 a (.lst ((ts++[ty]).map T.val)))/\Stp m (m.set y (.br ky)) [x] τ (τ.set x (some (.lst a (ts++[ty])))) H (L2.upd H1 a (.lst ((ts++[ty]).map T.val))):=by
 have S1:=S.grow s
 have sm:0<k/\k<90:=of_decide_eq_true (S.small _ (aaj hm))
 have smy:0<ky/\ky<90:=of_decide_eq_true (S.small _ (aaj hmy))
 have no:∀{k0:Nat},Md.ow k0≠.dead:=by intro k0 c;cases c
 have hyl:y<m.length:=(aaz.mp hmy).1
 have sxy:∀b∈(T.lst a ts).adr k,b∉ty.rest 0:=S.sep x y _ ty k _ (Ne.symm hne) hx hm hy hmy no
 have syx:∀b∈ty.adr ky,b∉(T.lst a ts).rest 0:=S.sep y x ty _ ky _ hne hy hmy hx hm no
 obtain⟨k',rfl⟩:∃k',k=k'+1:=⟨k-1,by omega⟩
 have aadr:a∈(T.lst a ts).adr (k'+1):=aac ..
 have ndx:=S.nd x _ _ hx hm
 have ndt:T.Nds ts k':=by
  obtain⟨n1,n2⟩:=ndx
  simp only[T.adr,T.rest,aaG]at n1 n2
  exact⟨n1.2,fun b z y=>n2 b z (aaa _ y)⟩
 have hk':k'<=ky:=by omega
 have okx:=S1.at hx hm no
 have oky:=S1.at hy hmy no
 have e0:k'+1-1-lnP []=k':=by simp[lnP]
 obtain⟨t',p1,p2,S2,P2⟩:=Pw (F:=fun b=>b∈ty.adr k') (N:=fun b=>b∈ty.rest 0) (m1:=m.set y .dead) (us:=ts++[ty]) (q:=[]) S s hx hm rfl (by simp[lnP])
  (T.oks_iff.mpr fun w hw=>by
   rcases aag.mp hw with z|z
   ·exact T.oks_iff.mp okx.2 w z
   ·cases aaE.mp z;exact oky)
  (fun b z=>(T.all_iff ty k').mpr (.inl z))
  (by
   rw[e0]
   intro b z
   rw[T.adrs_append,aag]at z
   exact z.imp id fun z=>by simpa[T.adrs] using z)
  (by
   rw[e0]
   intro b z
   rw[T.rests_append,aag]at z
   exact z.imp id fun z=>T.rest_le ty (aaw k') (by simpa[T.rests] using z))
  (by
   rw[e0]
   exact Lj (T.nd_le ty hk' (S.nd y ty ky hy hmy)) ndt (fun b z w=>syx b (T.adr_le ty hk' (by simpa[T.adrs] using z)) (aaa _ w)) (fun b z w=>sxy b (aaa _ z) (by simpa[T.rests] using w)))
  (fun b z=>syx b (T.adr_le ty hk' z)) (fun b z=>S1.own y ty ky b hy hmy (T.adr_le ty hk' z)) (fun b z=>.inl ⟨y,ty,ky,hy,hmy,T.adr_le ty hk' z⟩) (fun b z w=>sxy b w z)
  (fun b z=>by
   rcases (T.all_iff ty ky).mp z with w|w
   ·exact .inl (S.own y ty ky b hy hmy w).1
   ·exact S.src b ⟨y,ty,ky,hy,A4 hmy,smy.2,w⟩)
  (by rw[aaM]) (by rw[aay hne];exact hm)
  (fun j d ne hd nd=>by
   rcases Aj hd with⟨_,z⟩|⟨_,z⟩
   ·exact absurd z nd
   ·exact⟨z,fun w=>absurd rfl w⟩)
  (fun j u d ne e hd nd b z=>by
   rcases Aj hd with⟨_,w⟩|⟨w,hd⟩
   ·exact absurd w nd
   ·exact S.sep y j ty u ky d (Ne.symm w) hy hmy e hd nd b (T.adr_le ty hk' z))
  (fun i u k2 ne e hk2 b z w=>by
   rcases Aj hk2 with⟨_,w'⟩|⟨w',hk2⟩
   ·cases w'
   ·exact S.sep i y u ty k2 _ w' e hk2 hy hmy no b w z)
 cases p1
 have hy':(τ.set x (some (.lst a (ts++[ty]))))[y]?=some (some ty):=by rw[aay (Ne.symm hne)];exact hy
 have atop:a∉ty.rest 0:=sxy a aadr
 refine⟨WZ S2 hy' hyl smy.2 ?_ (fun b z=>S.src b ⟨y,ty,ky,hy,A4 hmy,smy.2,z⟩) (fun i t k2 e hk2 b z w=>?_) (fun i t k2 e hk2 b cs z=>?_),P2.keep,fun b o=>P2.grow b ?_,P2.wr,P2.ad⟩
 ·refine D8 (H:=H1) (fun b w e n=>by rw[Ah n];exact e) (S1.own x _ _ a hx hm aadr).2 oky atop
 ·rcases Aj e with⟨rfl,e2⟩|⟨n1,e1⟩
  ·cases e2
   rcases Aj hk2 with⟨w',_⟩|⟨_,hk2⟩
   ·exact hne w'.symm
   ·rw[hm]at hk2
    cases hk2
    simp only[T.adr,T.adrs_append,T.adrs,aak,aag,aaF]at z
    rcases z with rfl|z|z
    ·exact atop (T.rest_le ty (aaw _) w)
    ·exact sxy b (aaa _ z) (T.rest_le ty (aaw _) w)
    ·exact(S.nd y ty ky hy hmy).2 b w (T.adr_le ty hk' z)
  ·rcases Aj hk2 with⟨_,w'⟩|⟨w',hk2⟩
   ·cases w'
   ·exact S.sep i y t ty k2 _ w' e1 hk2 hy hmy no b z (T.rest_le ty (aaw _) w)
 ·rcases Aj e with⟨rfl,e2⟩|⟨n1,e1⟩
  ·cases e2
   cases z
   exact atop
  ·rcases Aj hk2 with⟨_,w'⟩|⟨w',hk2⟩
   ·cases w'
   ·subst z
    have:=of_decide_eq_true (S.small _ (aaj hk2))
    refine S.sep i y _ ty k2 _ w' e1 hk2 hy hmy no b ?_
    obtain⟨k3,rfl⟩:∃k3,k2=k3+1:=⟨k2-1,by omega⟩
    exact aac ..
 ·obtain⟨i,t,k2,e,hk2,z⟩:=o
  refine⟨i,t,k2,e,?_,z⟩
  rcases Aj hk2 with⟨_,w'⟩|⟨w',hk2⟩
  ·cases w'
  ·rw[aay (Ne.symm w')];exact hk2
end
section
variable{Z:Zx}{m:Ms}{r:Option Ms}{τ:Ft}{H:Hp}{D:Ends}{X:Cx}
theorem VV{x y k ky:Nat}(S:Sf Z.p Z.H0 Z.A0 m τ H)(hmx:m[x]?=some (.ow k))(hmy:m[y]?=some (.ow ky))(hne:y≠x)(hk:k-1<=ky)(hr:r=some (m.set y (.br ky)))(h:lOut Z m r [x] (ex (.mut x [] .append (.cons (.nm y) .nil)) (dτ τ)) τ H D) :
  lPl Z.p Z.EX (tnM m) x [] (vτ τ) H fun v H1=>tyV X.K "list" v H1/\(RH (DG y) U9) (vτ τ) H1 fun vs H2=>Hb v vs H2 fun _ H3=>D.nx (vτ τ) H3:=by
 have sm:0<k/\k<90:=of_decide_eq_true (S.small _ (aaj hmx))
 obtain⟨t,is,ds,a,ts,ds',ht,ep,ee,hs,l1,l2,hf,hpl,hnx⟩:=Ln S hmx (by simp[lnE];omega) rfl h
 cases ep
 cases hs
 subst hr
 simp only[evs,ev]at ee
 obtain⟨d,e1,ee⟩:=Res.bind_eq_ok ee
 cases ee
 obtain⟨ty,hy,rfl⟩:=D3 e1
 simp only[umD]at hf
 obtain⟨hlt,rfl⟩:=AN hf
 refine⟨τ,_,[],.lst a ts,rfl,S.ok,Fp rfl,ht,S.at ht hmx (by intro c;cases c),rfl,rfl,fun H1 s1=>⟨MY (hpl H1 s1).1,?_⟩⟩
 refine⟨ty.val,CQ hy,?_⟩
 show Hb (.ref a) [ty.val] H1 (fun _ H3=>D.nx (vτ τ) H3)
 refine⟨a,_,ty.val,rfl,rfl,(hpl H1 s1).1,by rw[aab,<- Ag];exact hlt,?_⟩
 obtain⟨S2,P2⟩:=Ty S s1 ht hmx hy hmy hne hk
 have:=hnx (ts++[ty]) _ H1 _ (by rw[T.dats_map,aaq,<- T.dats_map];rfl) rfl rfl rfl S2 P2
 rw[aaq]at this
 exact this
end
section
variable{Z:Zx}{m:Ms}{r:Option Ms}{w:List Nat}{τ:Ft}{H:Hp}{D:Ends}{X:Cx}{pos:Pos}{σ:L2.St}
theorem Tz{K:Frag}{xs:List Nat}{e:E}(h:lS Z (.asgT xs e) D σ H):∃m,Gv (lE Z.p Z.EX (tnM m) e) (lG K (.tp xs)) D σ H:=by
 obtain⟨τ,m,r,rfl,S,hr,h⟩:=h
 refine⟨m,?_⟩
 simp only[msS]at hr
 obtain⟨⟨j1,k1⟩,h1,hr⟩:=bS hr
 obtain⟨⟨c1,c2⟩,rfl⟩:=AN hr
 have c1:j1=0:=c1
 subst c1
 simp only[ex]at h
 refine⟨τ,rfl,S.ok,0,k1,h1,(h.lg S c2).mono (Same.refl _) fun d _ h t H1 ht R=>?_⟩
 subst ht
 rw[GF]at h
 cases q:Dg (.tp xs) t τ with
 |none=>rw[q]at h;exact nE h
 |some τ'=>
  rw[q]at h
  obtain⟨S2,P2⟩:=WX S R.same R.ok R.src q
  exact NW R.ok q (h _ τ' H1 rfl rfl S2 P2)
theorem TB{e:E}(h:lS Z (.expr e) D σ H):∃m,RE (lE Z.p Z.EX (tnM m) e) D σ H:=by
 obtain⟨τ,m,r,rfl,S,hr,h⟩:=h
 refine⟨m,?_⟩
 simp only[msS]at hr
 obtain⟨⟨j1,k1⟩,h1,hr⟩:=bS hr
 obtain⟨c2,rfl⟩:=AN hr
 simp only[ex]at h
 exact⟨τ,rfl,S.ok,j1,k1,h1,(h.lg S c2).mono (Same.refl _) fun d _ h t H1 ht R=>h m τ H1 rfl rfl (S.grow R.same) (Stp.refl _ (HU S.small) R.same)⟩
theorem VW{c:Nat}(h:c<1000):kcX c=c:=if_neg (Nat.not_le_of_lt h)
theorem QZ{c:Nat}{es:Es}(hlt:c<1000)(h:lS Z (.raise c es) D σ H):∃m,lEs Z.p Z.EX (tnM m) es σ H fun vs H1=>vs.length=es.len/\(Z.p.has c=true->Z.EX σ (.ref (Z.p.cl c)) none H1):=by
 obtain⟨τ,m,r,rfl,S,hr,h⟩:=h
 refine⟨m,?_⟩
 simp only[msS]at hr
 obtain⟨⟨j1,k1⟩,h1,hr⟩:=bS hr
 obtain⟨c2,rfl⟩:=AN hr
 simp only[ex]at h
 refine⟨τ,rfl,S.ok,j1,k1,h1,(h.lg S c2).mono (Same.refl _) fun ds e h ts H1 hts R=>⟨?_,fun hc=>(by
  have k:=VW hlt
  have:=h (by rw[k];exact hc) τ H1 rfl ((S.weak c2).grow R.same) (Stp.refl _ c2 R.same) none (.inl ⟨hlt,rfl⟩)
  rw[k]at this;exact this)⟩⟩
 rw[aab,<- Ag,hts,Cf _ _ _ e]
theorem VX{e:E}(h:lS Z (.ret e) D σ H):(∃(i:Nat)(t:T),e=.nm i/\σ[i]?=some (some t.val)/\D.rt t.val H)\/∃m,lE Z.p Z.EX (tnM m) e σ H D.rt:=by
 obtain⟨τ,m,r,rfl,S,hr,h⟩:=h
 simp only[msS]at hr
 obtain⟨k,hk,hr⟩:=bS hr
 obtain⟨⟨⟨c1,c0⟩,c2⟩,rfl⟩:=AN hr
 simp only[ex]at h
 have gen:∀j,(jk (tnM m) e=some (j,k))->j=0->∃m,lE Z.p Z.EX (tnM m) e (vτ τ) H D.rt:=by
  intro j hj hz
  subst hz
  refine⟨m,τ,rfl,S.ok,0,k,hj,(h.lg S c2).mono (Same.refl _) fun d _ h t H1 ht R=>lRet.lo h c0 ht ⟨S.same.trans R.same,R.ok,fun a q=>?_,fun a q=>?_,T.nd_le t c1 R.nd⟩⟩
  ·rcases R.src a q with z|z
   ·exact .inl (S.same.free z)
   ·exact S.src a z
  ·have:=R.new a (T.adr_le t c1 q)
   exact⟨S.same.free this.1,this.2⟩
 by_cases hnm:∃i,e=.nm i
 ·obtain⟨i,rfl⟩:=hnm
  simp only[rk]at hk
  cases q:get (dτ τ) i with
  |exc c=>unfold get at q;split at q<;>cases q
  |bad=>simp only[ev,q]at h;exact nE h
  |ok d=>
   obtain⟨t,ht,rfl⟩:=D3 q
   simp only[ev,q]at h
   refine .inl ⟨i,t,rfl,CQ ht,lRet.lo h c0 rfl ?_⟩
   split at hk
   ·rename_i k0 hm
    cases hk
    have sm:0<k/\k<90:=of_decide_eq_true (S.small _ (aaj hm))
    refine⟨S.same,S.at ht hm (by intro c;cases c),fun a z=>?_,fun a z=>S.own i t k a ht hm (T.adr_le t c1 z),T.nd_le t c1 (S.nd i t k ht hm)⟩
    rcases (T.all_iff t k).mp z with y|y
    ·exact .inl (S.own i t k a ht hm y).1
    ·exact S.src a ⟨i,t,k,ht,A4 hm,sm.2,y⟩
   ·rename_i hm
    cases hk
    have c1:Z.dep=0:=by omega
    rw[c1]
    exact⟨S.same,S.at ht hm (by intro c;cases c),fun a z=>S.src a ⟨i,t,0,ht,A4 hm,by decide,z⟩,by rw[T.adr_zero];simp,T.nd_zero t⟩
   ·cases hk
 ·refine .inr ?_
  have:rk m e=(jk (tnM m) e).bind fun x=>if x.1=0 then some x.2 else none:=by
   cases e<;>first|rfl|exact absurd ⟨_,rfl⟩ hnm
  rw[this]at hk
  obtain⟨⟨j1,k1⟩,h1,hk⟩:=bS hk
  obtain⟨z,rfl⟩:=AN hk
  exact gen j1 h1 z
theorem lOut.weak{r1 r2:Option Ms}{w1 w2:List Nat}{o:Out}(h:lOut Z m r2 w2 o τ H D)(hj:okJ r1 r2=true)(hw:∀i∈w1,i∈w2):lOut Z m r1 w1 o τ H D:=by
 cases o with
 |nxt δ'=>
  intro m' τ' H' e1 e2 S P
  subst e1
  cases r2 with
  |none=>cases hj
  |some m2=>exact h m2 τ' H' rfl e2 (S.weak hj) ⟨P.keep,fun a o=>P.grow a (o.weak hj),fun i hi=>P.wr i fun q=>hi (hw i q),fun i hi=>P.ad i fun q=>hi (hw _ q)⟩
 |ret d=>exact h.to hw fun _ _=>rfl
 |exc c δ'=>exact fun hc τ' H' e S P=>h hc τ' H' e S (P.mono hw)
 |bad=>exact h
theorem VY{c:E}{a b:Ss}(h:lS Z (.iff c a b) D σ H):∃m,US (lT Z.p Z.EX (tnM m) c) (lSs Z a) (lSs Z b) D σ H:=by
 obtain⟨τ,m,r,rfl,S,hr,h⟩:=h
 refine⟨m,?_⟩
 simp only[msS]at hr
 obtain⟨⟨j1,k1⟩,h1,hr⟩:=bS hr
 split at hr
 ·rename_i c2
  obtain⟨ra,h2,hr⟩:=bS hr
  obtain⟨rb,h3,hr⟩:=bS hr
  obtain⟨⟨c3,c4⟩,rfl⟩:=AN hr
  simp only[ex]at h
  refine⟨τ,rfl,S.ok,by rw[h1];rfl,(h.lg S c2).mono (Same.refl _) fun t _ h H1 s1=>?_⟩
  have S1:=S.grow s1
  have shift:∀{o:Out}{r0:Option Ms}{w0:List Nat},lOut Z m r0 w0 o τ H D->lOut Z m r0 w0 o τ H1 D:=by
   intro o r0 w0 h
   cases o with
   |nxt δ'=>exact fun m' τ' H' e1 e2 S P=>h m' τ' H' e1 e2 S ⟨fun a u e n=>P.keep a u (s1 a u e) n,fun a o=>(P.grow a o).imp id s1.free,P.wr,P.ad⟩
   |ret d=>exact h
   |exc c δ'=>exact fun hc τ' H' e S P=>h hc τ' H' e S ⟨fun a u e n=>P.keep a u (s1 a u e) n,fun a o=>(P.grow a o).imp id s1.free,P.wr,P.ad⟩
   |bad=>exact h
  cases t with
  |true=>
   rw[if_pos rfl]at h
   show(if true=true then lSs Z a D (vτ τ) H1 else lSs Z b D (vτ τ) H1)
   rw[if_pos rfl]
   exact⟨τ,m,ra,rfl,S1,h2,shift (h.weak c3 fun i hi=>aaD _ hi)⟩
  |false=>
   rw[if_neg (by decide)]at h
   show(if false=true then lSs Z a D (vτ τ) H1 else lSs Z b D (vτ τ) H1)
   rw[if_neg (by decide)]
   exact⟨τ,m,rb,rfl,S1,h3,shift (h.weak c4 fun i hi=>aau _ hi)⟩
 ·cases hr
theorem lOut.shift{H1:Hp}{o:Out}(s1:Same H H1)(h:lOut Z m r w o τ H D):lOut Z m r w o τ H1 D:=by
 cases o with
 |nxt δ'=>exact fun m' τ' H' e1 e2 S P=>h m' τ' H' e1 e2 S ⟨fun a u e n=>P.keep a u (s1 a u e) n,fun a o=>(P.grow a o).imp id s1.free,P.wr,P.ad⟩
 |ret d=>exact h
 |exc c δ'=>exact fun hc τ' H' e S P=>h hc τ' H' e S ⟨fun a u e n=>P.keep a u (s1 a u e) n,fun a o=>(P.grow a o).imp id s1.free,P.wr,P.ad⟩
 |bad=>exact h
theorem lOut.after{m1:Ms}{τ1:Ft}{H1:Hp}{w1 w2:List Nat}{o:Out}(P:Stp m m1 w1 τ τ1 H H1)(hw1:∀i∈w1,i∈w)(hw2:∀i∈w2,i∈w)(h:lOut Z m r w o τ H D):lOut Z m1 r w2 o τ1 H1 D:=by
 cases o with
 |nxt δ'=>exact fun m' τ' H' e1 e2 S Q=>h m' τ' H' e1 e2 S ((P.trans Q).mono fun i hi=>by
   rcases aag.mp hi with z|z
   ·exact hw1 i z
   ·exact hw2 i z)
 |ret d=>exact h.to hw2 fun i hi=>P.ad i fun z=>hi (hw1 _ z)
 |exc c δ'=>exact fun hc τ' H' e S Q=>h hc τ' H' e S ((P.trans Q).mono fun i hi=>by
   rcases aag.mp hi with z|z
   ·exact hw1 i z
   ·exact hw2 i z)
 |bad=>exact h
theorem VZ{s:S}{rest:Ss}(h:lSs Z (.cons s rest) D σ H):lS Z s {D with nx:=lSs Z rest D} σ H:=by
 obtain⟨τ,m,r,rfl,S,hr,h⟩:=h
 simp only[msSs]at hr
 obtain⟨r1,h1,hr⟩:=bS hr
 refine⟨τ,m,r1,rfl,S,h1,?_⟩
 simp only[exs]at h
 cases q:ex s (dτ τ) with
 |nxt δ'=>
  rw[q]at h
  intro m' τ' H' e1 e2 S' P
  subst e1
  simp only at hr
  refine⟨τ',m',r,rfl,S',hr,?_⟩
  rw[e2]
  exact h.after P (fun i hi=>aaD _ hi) (fun i hi=>aau _ hi)
 |ret d=>rw[q]at h;exact lRet.to (show lRet Z _ d τ D from h) (fun i hi=>aaD _ hi) fun _ _=>rfl
 |exc c δ'=>
  rw[q]at h
  exact fun hc τ' H' e S' P=>h hc τ' H' e S' (P.mono fun i hi=>aaD _ hi)
 |bad=>rw[q]at h;exact h
theorem V0(h:lSs Z .nil D σ H):D.nx σ H:=by
 obtain⟨τ,m,r,rfl,S,hr,h⟩:=h
 cases hr
 exact h m τ H rfl rfl S (Stp.refl _ (HU S.small) (Same.refl _))
theorem TC{s:S}{rest:Ss}(hs:(∃x k,s=.dem x k)\/(∃x,s=.dead x))(h:lSs Z (.cons s rest) D σ H):lSs Z rest D σ H:=by
 obtain⟨τ,m,r,rfl,S,hr,h⟩:=h
 simp only[msSs]at hr
 obtain⟨r1,h1,hr⟩:=bS hr
 rcases hs with⟨x,k,rfl⟩|⟨x,rfl⟩
 ·simp only[msS]at h1
  obtain⟨c,rfl⟩:=AN h1
  refine⟨τ,_,r,rfl,S.weak c,hr,?_⟩
  simp only[exs,ex,Out.then_nxt]at h
  exact h.after (w1:=[]) (Stp.refl _ c (Same.refl _)) (fun i hi=>nomatch hi) (fun i hi=>aau _ hi)
 ·simp only[msS]at h1
  obtain⟨c,rfl⟩:=AN h1
  refine⟨τ,_,r,rfl,S.weak c,hr,?_⟩
  simp only[exs,ex,Out.then_nxt]at h
  exact h.after (w1:=[]) (Stp.refl _ c (Same.refl _)) (fun i hi=>nomatch hi) (fun i hi=>aau _ hi)
end
section
variable{Z:Zx}{m:Ms}{r:Option Ms}{w:List Nat}{τ:Ft}{H:Hp}{D:Ends}{X:Cx}{pos:Pos}{σ:L2.St}
theorem W0{c:E}{b:Ss}(h:lS Z (.wh c b) D σ H):∃m,Kz (lT Z.p Z.EX (tnM m) c) (lSs Z b) D σ H:=by
 obtain⟨τ,m,r,rfl,S,hr,h⟩:=h
 refine⟨m,?_⟩
 simp only[msS]at hr
 obtain⟨⟨j1,k1⟩,h1,hr⟩:=bS hr
 split at hr
 ·rename_i c2
  obtain⟨rb,h2,hr⟩:=bS hr
  have hrb:r=some m/\okJ rb (some m)=true:=by
   cases rb with
   |none=>exact⟨(Option.some.inj hr).symm,rfl⟩
   |some mb=>
    obtain⟨z,e⟩:=AN hr
    exact⟨e.symm,z⟩
  obtain⟨rfl,hj⟩:=hrb
  simp only[ex]at h
  refine⟨fun n σ H'=>∃τ',σ=vτ τ'/\Sf Z.p Z.H0 Z.A0 m τ' H'/\Stp m m (wrSs b) τ τ' H H'/\lOut Z m (some m) (wrSs b) (Bc (tv c) (exs b) n (dτ τ')) τ H D,⟨FU,τ,rfl,S,Stp.refl _ (HU S.small) (Same.refl _),h⟩,?_⟩
  rintro n σ' H' ⟨τ',rfl,S',P',h'⟩
  cases n with
  |zero=>exact nE h'
  |succ n=>
   simp only[Bc]at h'
   have hb:=h'.after (w:=wrSs b) (w1:=wrSs b) (w2:=wrSs b) P' (fun _ z=>z) (fun _ z=>z)
   refine⟨τ',rfl,S'.ok,by rw[h1];rfl,(hb.lg S' c2).mono (Same.refl _) fun t et hb2 H1 s1=>?_⟩
   rw[et]at h'
   simp only[Res.out_ok]at h'
   cases t with
   |false=>
    show(if false=true then _ else D.nx (vτ τ') H1)
    rw[if_neg (by decide)]
    rw[if_neg (by decide)]at h'
    exact h' m τ' H1 rfl rfl (S'.grow s1) ⟨fun a u e n=>s1 _ _ (P'.keep a u e n),P'.grow,P'.wr,P'.ad⟩
   |true=>
    rw[if_pos rfl]at h' hb2
    show(if true=true then _ else _)
    rw[if_pos rfl]
    refine⟨fun σ2 H2=>∃τ2,σ2=vτ τ2/\Sf Z.p Z.H0 Z.A0 m τ2 H2/\Stp m m (wrSs b) τ τ2 H H2/\lOut Z m (some m) (wrSs b) (Bc (tv c) (exs b) n (dτ τ2)) τ H D,fun σ2 H2 q=>⟨n,abG n,q⟩,?_⟩
    refine⟨τ',m,rb,rfl,S'.grow s1,h2,?_⟩
    have hb3:=hb2.shift s1
    have P1:Stp m m (wrSs b) τ τ' H H1:=⟨fun a u e n=>s1 _ _ (P'.keep a u e n),P'.grow,P'.wr,P'.ad⟩
    cases q:exs b (dτ τ') with
    |nxt δ2=>
     rw[q]at h'
     intro m' τ2 H2 e1 e2 S2 P2
     subst e1
     have hle:leM m' m=true:=hj
     refine⟨τ2,rfl,S2.weak hle,((P1.trans P2).mono (w2:=wrSs b) (fun i hi=>by simpa using hi)) |> fun P3=>⟨P3.keep,fun a o=>P3.grow a (Own.weak hle o),P3.wr,P3.ad⟩,?_⟩
     rw[e2];exact h'
    |ret d=>rw[q]at hb3;exact hb3
    |exc c' δ'=>rw[q]at hb3;exact hb3
    |bad=>rw[q]at hb3;exact hb3
 ·cases hr
theorem Stp.lesser{m1 m2:Ms}{τ':Ft}{H':Hp}(h:leM m1 m2=true)(P:Stp m m1 w τ τ' H H'):Stp m m2 w τ τ' H H':=⟨P.keep,fun a o=>P.grow a (Own.weak h o),P.wr,P.ad⟩
theorem Lo{K:Frag}{g:Tg}{b:Ss}{J:L2.It}{us:List T}{ds:List Pu.D}{j:Nat}{H1:Hp}{rb:Option Ms}(S:Sf Z.p Z.H0 Z.A0 m τ H)(IT:ItOk Z.p (Sh (tnM m) τ) H H1 J us j ds)(hd:leM m (At m g.sl .dead)=true)
  (h2:msSs Z.mx Z.dep b (At (At m g.sl .dead) g.sl .sh)=some rb) (hj:okJ rb (some (At m g.sl .dead))=true)
  (per:∀(τ':Ft)(H':Hp),Sf Z.p Z.H0 Z.A0 (At m g.sl .dead) τ' H'->Stp m (At m g.sl .dead) (up g.sl++wrSs b) τ τ' H1 H'->T.Oks Z.p H' us)
  (h:lOut Z m (some (At m g.sl .dead)) (up g.sl++wrSs b) (Bg g (exs b) ds (dτ τ)) τ H1 D) :
  ∃W:Nat->Nat->L2.St->Hp->Prop,(∃n,W 0 n (vτ τ) H1)/\∀i n σ H,W i n σ H->(J.stop i H/\D.nx σ H)\/(J.go i H/\∃N:L2.St->Hp->Prop,(∀σ' H',N σ' H'->∃n',n'<n/\W (i+1) n' σ' H')/\∀x H',J.yld i H x H'->lG K g x σ H' fun σ2 H2=>lSs Z b {D with nx:=N,ct:=N,bk:=D.nx} σ2 H2):=by
 have S1:=S.grow IT.same
 have fineU:∀a,(H a=none\/Sh (tnM m) τ a)->(Z.H0 a=none\/Z.A0 a)/\¬Own m τ a:=fun a q=>S.fine q
 refine⟨fun i n σ H'=>n=ds.length-i/\i<=ds.length/\∃τ',σ=vτ τ'/\Sf Z.p Z.H0 Z.A0 (At m g.sl .dead) τ' H'/\Stp m (At m g.sl .dead) (up g.sl++wrSs b) τ τ' H1 H'/\lOut Z m (some (At m g.sl .dead)) (up g.sl++wrSs b) (Bg g (exs b) (ds.drop i) (dτ τ')) τ H1 D,
  ⟨ds.length,by simp,aaw _,τ,rfl,S1.weak hd,Stp.refl _ hd (Same.refl _),by simpa using h⟩,?_⟩
 rintro i n σ' H' ⟨rfl,hi,τ',rfl,S',P',h'⟩
 have usok:=per τ' H' S' P'
 rcases acF i ds.length with hlt|hge
 ·have hdi:ds[i]?=some ds[i]:=aae hlt
  rw[ab0 hlt]at h'
  simp only[Bg]at h'
  refine .inr ⟨IT.go i H' usok hlt,fun σ2 H2=>∃τ2,σ2=vτ τ2/\Sf Z.p Z.H0 Z.A0 (At m g.sl .dead) τ2 H2/\Stp m (At m g.sl .dead) (up g.sl++wrSs b) τ τ2 H1 H2/\lOut Z m (some (At m g.sl .dead)) (up g.sl++wrSs b) (Bg g (exs b) (ds.drop (i+1)) (dτ τ2)) τ H1 D,
   fun σ2 H2 q=>⟨ds.length-(i+1),by omega,rfl,hlt,q⟩,fun x H'' y=>?_⟩
  obtain⟨s2,t,rfl,ht,tok,tus,tsrc⟩:=IT.yld i H' x H'' ds[i] usok hdi y
  rw[<- ht,GF]at h'
  cases q:Dg g t τ' with
  |none=>rw[q]at h';exact nE h'
  |some τ2=>
   rw[q]at h'
   simp only[aa6]at h'
   have src:∀a∈t.rest 0,(Z.H0 a=none\/Z.A0 a)/\¬Own (At m g.sl .dead) τ' a:=fun a z=>by
    refine⟨(fineU a (tsrc a z)).1,fun o=>?_⟩
    rcases P'.grow a o with w|w
    ·exact(fineU a (tsrc a z)).2 w
    ·obtain⟨v,hv,z2⟩:=T.mem_rests.mp (tus a z)
     exact(T.oks_iff.mp IT.ok v hv).dom z2 w
   obtain⟨S2,P2⟩:=Pt S' s2 tok src q
   refine NW tok q ⟨τ2,_,rb,rfl,S2,h2,?_⟩
   have P3:=P'.trans P2
   have h3:=h'.after (w:=up g.sl++wrSs b) (w2:=wrSs b) P3 (fun i hi=>by
    simp only[aag]at hi ⊢
    rcases hi with (hi|hi)|hi
    ·exact .inl hi
    ·exact .inr hi
    ·exact .inl hi) (fun i hi=>aau _ hi)
   cases e:exs b (dτ τ2) with
   |nxt δ3=>
    rw[e]at h'
    intro m' τ3 H3 e1 e2 S3 P4
    subst e1
    have hle:leM m' (At m g.sl .dead)=true:=hj
    refine⟨τ3,rfl,S3.weak hle,Stp.lesser hle ((P3.trans P4).mono fun i hi=>?_),?_⟩
    ·simp only[aag]at hi ⊢
     rcases hi with ((hi|hi)|hi)|hi
     ·exact .inl hi
     ·exact .inr hi
     ·exact .inl hi
     ·exact .inr hi
    ·rw[e2];exact h'
   |ret d=>rw[e]at h3;exact h3
   |exc c' δ'=>rw[e]at h3;exact h3
   |bad=>rw[e]at h3;exact h3
 ·refine .inl ⟨IT.stop i H' usok hge,?_⟩
  have hil:i=ds.length:=acO hi hge
  subst hil
  rw[List.drop_length]at h'
  exact h' _ τ' H' rfl rfl S' P'
theorem V1{K:Frag}{g:Tg}{it:It}{b:Ss}(h:lS Z (.for_ g it b) D σ H):(∃m,UZ (lI Z.p Z.EX (tnM m) it) (lG K g) (lSs Z b) D σ H) \/
  (∃x,it=.seqL (.nm x)/\∃v a xs,σ[x]?=some (some v)/\v=.ref a/\SqL X.K H a xs/\(X.K=Z.p.K->xs.length<=sizeLine->∃W:Nat->Nat->L2.St->Hp->Prop,(∃n,W 0 n σ H)/\∀i n σ H,W i n σ H->((Itl X.K a).stop i H/\D.nx σ H)\/((Itl X.K a).go i H/\∃N:L2.St->Hp->Prop,(∀σ' H',N σ' H'->∃n',n'<n/\W (i+1) n' σ' H') /\
   ∀x H',(Itl X.K a).yld i H x H'->lG K g x σ H' fun σ2 H2=>lSs Z b {D with nx:=N,ct:=N,bk:=D.nx} σ2 H2))):=by
 obtain⟨τ,m,r,rfl,S,hr,h⟩:=h
 simp only[msS]at hr
 obtain⟨j,h1,hr⟩:=bS hr
 split at hr
 ·rename_i c
  obtain⟨c1,c2,c3⟩:=c
  obtain⟨rb,h2,hr⟩:=bS hr
  have hrb:r=some (At m g.sl .dead)/\okJ rb (some (At m g.sl .dead))=true:=by
   cases rb with
   |none=>exact⟨(Option.some.inj hr).symm,rfl⟩
   |some mb=>
    obtain⟨z,e⟩:=AN hr
    exact⟨e.symm,z⟩
  obtain⟨rfl,hj⟩:=hrb
  simp only[ex]at h
  by_cases z:j=0
  ·subst z
   refine .inl ⟨m,τ,rfl,S.ok,0,h1,(h.lg S c1).mono (Same.refl _) fun ds _ h J us H1 IT=>?_⟩
   refine Lo S IT c2 h2 hj (fun τ' H' S' P'=>?_) (h.shift IT.same)
   have S1:=S.grow IT.same
   refine T.oks_iff.mpr fun u hu=>(T.oks_iff.mp IT.ok u hu).keep fun a w e q=>P'.keep a w e fun o=>?_
   rcases q with q|q
   ·exact(S.fine (IT.src a (T.mem_rests.mpr ⟨u,hu,q⟩))).2 o
   ·obtain⟨_,vs,e2,mu⟩:=S1.ownOk o
    rw[e2]at e
    cases e;rw[mu]at q;cases q
  ·rcases c3 with c3|⟨x,c3,c4,c5⟩
   ·exact absurd c3 z
   ·have hit:it=.seqL (.nm x):=by
     unfold It.nmOf at c3
     split at c3
     ·cases c3;rfl
     ·cases c3
    subst hit
    refine .inr ⟨x,rfl,?_⟩
    have hlg:=h.lg S c1
    cases q:get (dτ τ) x with
    |exc c=>unfold get at q;split at q<;>cases q
    |bad=>simp only[evI,ev,q,Res.bind_bad]at hlg;exact nE hlg
    |ok d=>
     obtain⟨t,ht,rfl⟩:=D3 q
     simp only[evI,ev,q,Res.bind_ok]at hlg
     cases t with
     |lst a ts=>
      simp only[jkI]at h1
      obtain⟨⟨j1,k1⟩,h3,h1⟩:=bS h1
      obtain⟨hj1,e1⟩:=AN h1
      have e1:j1=j:=e1
      subst e1
      simp only[jk]at h3
      split at h3
      ·rename_i j' hj'
       obtain⟨hlt,e⟩:=CS h3
       cases e
       have okt:=S.ok x _ j1 ht hj' (of_decide_eq_true hlt)
       refine⟨_,a,ts.map T.val,CQ ht,rfl,.inl okt.1,fun hK hz=>?_⟩
       have R:Rs Z.p (Sh (tnM m) τ) H H j1 0 (.lst a ts):=⟨Same.refl _,okt,fun b m'=>.inr ⟨x,_,j1,ht,hj',of_decide_eq_true hlt,m'⟩,by rw[T.adr_zero];simp,T.nd_zero _⟩
       refine Lo S (GE hK R hj1 (by simpa using hz)) c2 h2 hj (fun τ' H' S' P'=>?_) hlg
       obtain⟨d,hd,ed⟩:=Bq hj'
       have hdd:d≠.dead:=fun w=>by subst w;subst ed;exact absurd (of_decide_eq_true hlt) (by decide)
       have hx':(At m g.sl .dead)[x]?=some d:=by
        have hlen:x<(At m g.sl .dead).length:=by rw[EH];exact(aaz.mp hd).1
        rcases ES (aae hlen) with⟨w,_⟩|⟨_,w⟩
        ·exact absurd (aaD _ w) c5
        ·rw[aae hlen]
         rw[hd]at w
         exact w.symm
       refine⟨S'.at (i:=x) (by rw[P'.wr x (fun w=>by rcases aag.mp w with w|w;exact c5 w;exact c4 w)];exact ht) hx' hdd,trivial⟩
      ·cases h3
     |_=>exact nE hlg
 ·cases hr
end
abbrev OwnN(m:Ms)(τ:Ft)(I:List Nat)(a:Addr):Prop:=∃(i:Nat)(t:T)(k:Nat),i∉I/\τ[i]?=some (some t)/\m[i]?=some (.ow k)/\a∈t.adr k
structure RO(p:Px)(m:Ms)(τ:Ft)(I:List Nat)(k:Nat)(H H':Hp)(ts:List T):Prop where
 same:Same H H'
 ok:T.Oks p H' ts
 src:∀a∈T.rests ts 0,H a=none\/Sh (tnM m) τ a\/OwnN m τ I a
 new:∀a∈T.adrs ts k,(H a=none/\Mu H' a)\/OwnN m τ I a
 nd:T.Nds ts k
section
variable{p:Px}{H0:Hp}{A0:Addr->Prop}{m:Ms}{τ:Ft}{H H1 H2:Hp}
theorem OwnN.own{I:List Nat}{a:Addr}(h:OwnN m τ I a):Own m τ a:=let ⟨i,t,k,_,e,q,z⟩:=h;⟨i,t,k,e,q,z⟩
theorem V2{I:List Nat}{k:Nat}:RO p m τ I k H H []:=⟨Same.refl _,trivial,by simp[T.rests],by simp[T.adrs],by simp[T.Nds,T.adrs]⟩
theorem V3{I:List Nat}{i k k2:Nat}{t:T}{ts:List T}(S:Sf p H0 A0 m τ H)(ht:τ[i]?=some (some t))(hm:m[i]?=some (.ow k))(hi:i∉I)(r:RO p m τ (i::I) k2 H H2 ts):RO p m τ I (min k k2) H H2 (t::ts):=by
 have no:∀{k:Nat},Md.ow k≠.dead:=by intro k c;cases c
 have okt:=S.at ht hm no
 have mono:∀{a:Addr},OwnN m τ (i::I) a->OwnN m τ I a:=fun⟨j,u,kj,n,e,q,z⟩=>⟨j,u,kj,fun w=>n (aaa _ w),e,q,z⟩
 have sm:0<k/\k<90:=of_decide_eq_true (S.small _ (aaj hm))
 refine⟨r.same,⟨okt.same r.same,r.ok⟩,fun a q=>?_,fun a q=>?_,T.nds_cons.mpr ⟨T.nd_le t (aaR ..) (S.nd i t k ht hm),T.nds_le (aa3 ..) r.nd,fun a q q'=>?_,fun a q q'=>?_⟩⟩
 ·simp only[T.rests,aag]at q
  rcases q with q|q
  ·rcases (T.all_iff t k).mp q with z|z
   ·exact .inr (.inr ⟨i,t,k,hi,ht,hm,z⟩)
   ·exact .inr (.inl ⟨i,t,k,ht,A4 hm,sm.2,z⟩)
  ·rcases r.src a q with z|z|z
   ·exact .inl z
   ·exact .inr (.inl z)
   ·exact .inr (.inr (mono z))
 ·simp only[T.adrs,aag]at q
  rcases q with q|q
  ·exact .inr ⟨i,t,k,hi,ht,hm,T.adr_le t (aaR ..) q⟩
  ·obtain⟨u,hu,q⟩:=T.mem_adrs.mp q
   exact(r.new a (T.mem_adrs.mpr ⟨u,hu,T.adr_le u (aa3 ..) q⟩)).imp id mono
 ·have q1:=T.adr_le t (aaR k k2) q
  have o:Own m τ a:=⟨i,t,k,ht,hm,q1⟩
  rcases r.src a q' with z|z|⟨j,u,kj,n,e,w,z⟩
  ·obtain⟨_,vs,e,mu⟩:=S.ownOk o
   rw[e]at z;cases z
  ·exact S.disj o z
  ·have ne:i≠j:=fun y=>n (by rw[y];exact aac ..)
   exact S.sep i j t u k _ ne ht hm e w no a q1 ((T.all_iff u kj).mpr (.inl z))
 ·obtain⟨u,hu,q⟩:=T.mem_adrs.mp q
  rcases r.new a (T.mem_adrs.mpr ⟨u,hu,T.adr_le u (aa3 ..) q⟩) with z|⟨j,u,kj,n,e,w,z⟩
  ·exact okt.dom q' z.1
  ·have ne:j≠i:=fun y=>n (by rw[y];exact aac ..)
   exact S.sep j i u t kj _ ne e w ht hm no a z q'
theorem V4{I:List Nat}{k k2:Nat}{t:T}{ts:List T}(S:Sf p H0 A0 m τ H)(R:Rs p (Sh (tnM m) τ) H H1 0 k t)(r:RO p m τ I k2 H1 H2 ts):RO p m τ I (min k k2) H H2 (t::ts):=by
 have R2:=R.fwd r.same
 refine⟨R2.same,⟨R2.ok,r.ok⟩,fun a q=>?_,fun a q=>?_,T.nds_cons.mpr ⟨T.nd_le t (aaR ..) R.nd,T.nds_le (aa3 ..) r.nd,fun a q q'=>?_,fun a q q'=>?_⟩⟩
 ·simp only[T.rests,aag]at q
  rcases q with q|q
  ·exact(R.src a q).imp id .inl
  ·exact(r.src a q).imp R.same.free id
 ·simp only[T.adrs,aag]at q
  rcases q with q|q
  ·exact .inl (R2.new a (T.adr_le t (aaR ..) q))
  ·obtain⟨u,hu,q⟩:=T.mem_adrs.mp q
   exact(r.new a (T.mem_adrs.mpr ⟨u,hu,T.adr_le u (aa3 ..) q⟩)).imp (fun z=>⟨R.same.free z.1,z.2⟩) id
 ·have n1:=R.new a (T.adr_le t (aaR ..) q)
  rcases r.src a q' with z|z|z
  ·obtain⟨vs,e,mu⟩:=n1.2
   rw[e]at z;cases z
  ·exact S.ok.dom z n1.1
  ·obtain⟨_,vs,e,mu⟩:=S.ownOk z.own
   rw[n1.1]at e;cases e
 ·obtain⟨u,hu,q⟩:=T.mem_adrs.mp q
  rcases r.new a (T.mem_adrs.mpr ⟨u,hu,T.adr_le u (aa3 ..) q⟩) with z|z
  ·exact R.ok.dom q' z.1
  ·rcases R.src a q' with y|y
   ·obtain⟨_,vs,e,mu⟩:=S.ownOk z.own
    rw[e]at y;cases y
   ·exact S.disj z.own y
end
abbrev lRO(Z:Zx)(m:Ms)(τ:Ft)(I:List Nat)(es:Es):TA:=fun σ H Q=>σ=vτ τ/\Sf Z.p Z.H0 Z.A0 m τ H/\∃k,rkT m I es=some k/\Lg Z.p Z.EX σ (evs es (dτ τ)) H (fun ds=>∀ts H',T.dats ts=ds->RO Z.p m τ I k H H' ts->Q (ts.map T.val) H')
section
variable{Z:Zx}{m:Ms}{τ:Ft}{H:Hp}{D:Ends}{σ:L2.St}
theorem TD{es:Es}(hl:es.len<=1000)(h:lS Z (.retT es) D σ H):∃m τ,Va (lRO Z m τ [] es) σ H D.rt:=by
 obtain⟨τ,m,r,rfl,S,hr,h⟩:=h
 simp only[msS]at hr
 obtain⟨k,hk,hr⟩:=bS hr
 obtain⟨⟨⟨c1,c0⟩,c2⟩,rfl⟩:=AN hr
 simp only[ex]at h
 refine⟨m,τ,rfl,S,k,hk,(h.lg S c2).mono (Same.refl _) fun ds e h ts H1 hts R=>⟨?_,fun a ha=>?_⟩⟩
 ·have:=Cf _ _ _ e
  rw[aab,<- Ag,hts,this]
  exact aao hl (by decide)
 ·have sm:Same H1 (L2.upd H1 a (.tup (ts.map T.val))):=fun a' u e=>by
   rw[L2.Ah (fun z=>by subst z;rw[ha]at e;cases e)];exact e
  refine lRet.lo (t:=.tup a ts) h c0 (by simp[T.dat,hts]) ⟨S.same.trans (R.same.trans sm),⟨L2.Aq ..,R.ok.same sm⟩,fun b q=>?_,fun b q=>?_,T.nds_le c1 R.nd⟩
  ·rcases R.src b q with z|z|z
   ·exact .inl (S.same.free z)
   ·exact S.src b z
   ·exact .inl (S.ownOk z.own).1
  ·obtain⟨u,hu,q⟩:=T.mem_adrs.mp q
   rcases R.new b (T.mem_adrs.mpr ⟨u,hu,T.adr_le u c1 q⟩) with⟨z,vs,e,mu⟩|z
   ·exact⟨S.same.free z,vs,sm _ _ e,mu⟩
   ·obtain⟨z1,vs,e,mu⟩:=S.ownOk z.own
    exact⟨z1,vs,sm _ _ (R.same _ _ e),mu⟩
end
section
variable{Z:Zx}{D:Ends}{X:Cx}{σ:L2.St}{H:Hp}
abbrev lOA(Z:Zx)(m m1:Ms)(w:List Nat)(y:Nat)(o:Out)(τ:Ft)(H:Hp)(D:Ends):Prop:=match o with
 |.nxt δ'=>∀(τ':Ft)(H':Hp)(a:Addr)(ts ts':List T),dτ τ'=δ'->τ[y]?=some (some (.lst a ts))->τ'[y]?=some (some (.lst a ts'))->Sf Z.p Z.H0 Z.A0 m1 τ' H'->Stp m m1 w τ τ' H H'->D.nx (vτ τ') H'
 |o=>lOut Z m (some m1) w o τ H D
theorem lOA.lg{α:Type}{m m1:Ms}{w:List Nat}{τ:Ft}{y:Nat}{q:Res α}{f:α->Out}(S:Sf Z.p Z.H0 Z.A0 m τ H)(hm:leM m Z.mx=true)(h:lOA Z m m1 w y (q.out (dτ τ) f) τ H D):Lg Z.p Z.EX (vτ τ) q H fun a=>lOA Z m m1 w y (f a) τ H D:=by
 cases q with
 |ok a=>exact h
 |exc c=>exact fun hc H' s=>h hc τ H' rfl ((S.weak hm).grow s) (Stp.refl w hm s)
 |bad=>exact h
theorem lOA.shift{H1:Hp}{m m1:Ms}{w:List Nat}{τ:Ft}{y:Nat}{o:Out}(s1:Same H H1)(h:lOA Z m m1 w y o τ H D):lOA Z m m1 w y o τ H1 D:=by
 cases o with
 |nxt δ'=>exact fun τ' H' a ts ts' e1 e2 e3 S P=>h τ' H' a ts ts' e1 e2 e3 S ⟨fun a u e n=>P.keep a u (s1 a u e) n,fun a o=>(P.grow a o).imp id s1.free,P.wr,P.ad⟩
 |ret d=>exact h
 |exc c δ'=>exact fun hc τ' H' e S P=>h hc τ' H' e S ⟨fun a u e n=>P.keep a u (s1 a u e) n,fun a o=>(P.grow a o).imp id s1.free,P.wr,P.ad⟩
 |bad=>exact h
theorem MZ{τ:Ft}:∀{zs:List Nat}{ds:List Pu.D},Js (dτ τ) zs=some ds->∃ts:List T,T.dats ts=ds/\ts.length=zs.length/\∀(i:Nat)(z:Nat)(u:T),zs[i]?=some z->ts[i]?=some u->τ[z]?=some (some u)
 |[],ds,h=>by cases h;exact⟨[],rfl,rfl,fun i z u e=>by simp at e⟩
 |z::zs,ds,h=>by
  have h:(match (dτ τ)[z]? with
   |some (some d)=>(Js (dτ τ) zs).map (d::·)
   |_=>none)=some ds:=h
  split at h
  ·rename_i d hd
   obtain⟨r,hr,rfl⟩:=aax.mp h
   obtain⟨ts,e1,e2,e3⟩:=MZ hr
   obtain⟨t,ht,hdt⟩:=D3 (show get (dτ τ) z=.ok d by unfold get;rw[hd])
   refine⟨t::ts,by rw[<- hdt,<- e1];rfl,by simp[e2],fun i w u h1 h2=>?_⟩
   cases i with
   |zero=>simp at h1 h2;subst h1;subst h2;exact ht
   |succ i=>exact e3 i w u (by simpa using h1) (by simpa using h2)
  ·cases h
theorem TF{p:Px}{H0:Hp}{A0:Addr->Prop}{m:Ms}{τ:Ft}{H H':Hp}{y K:Nat}{t t':T}(S:Sf p H0 A0 m τ H)(hmy:m[y]?=some (.ow K))(hkb:leM m (AH m)=true)(ht:τ[y]?=some (some t))(hv:t'.val=t.val)(ok:t'.Ok p H')(nd:t'.Nd K)(fl:∀b∈t'.rest K,b∈t.rest K\/H b=none\/Sh (tnM m) τ b)
  (kp:∀b u,H b=some u->b∉t.adr K->H' b=some u) (gr:∀b∈t'.adr K,(b∈t.adr K\/H b=none)/\Mu H' b):Sf p H0 A0 (AH m) (τ.set y (some t')) H'/\Stp m (AH m) [y] τ (τ.set y (some t')) H H':=by
 have Sk:=S.weak hkb
 have hm1:=J0 hmy
 have hyl:y < τ.length:=(aaz.mp ht).1
 have gy:(τ.set y (some t'))[y]?=some (some t'):=acb hyl
 have gn:∀{i:Nat},i≠y->(τ.set y (some t'))[i]?=τ[i]?:=fun {i} h=>aay (Ne.symm h)
 have lowz:∀{j:Nat}{d:Md},(AH m)[j]?=some d->d≠.dead->d.low=0:=fun {j d} h hd=>by
  rcases F6 h with z|⟨_,z⟩
  ·exact absurd z hd
  ·cases d with
   |br k=>exact absurd rfl (z k)
   |dead=>exact absurd rfl hd
   |_=>rfl
 have out:∀{i:Nat}{u:T}{d:Md},i≠y->τ[i]?=some (some u)->(AH m)[i]?=some d->d≠.dead->∀b∈u.rest 0,b∉t.adr K:=fun {i u d} hi e hd nd b hb hq=>by
  have:=Sk.sep y i t u K d (Ne.symm hi) ht hm1 e hd nd b hq
  rw[lowz hd nd]at this
  exact this hb
 refine⟨⟨by rw[aaM];exact Sk.len,Sk.small,fun b u e=>?_,fun i u j e ej l=>?_,fun i u k b e hk hb=>?_,fun b sh=>?_,fun i u k e hk=>?_,fun i j u v k d ne e hk e' hd hdd b hb=>?_,fun i j u v k k2 e hk e' hd=>?_⟩,⟨fun b u e no=>?_,fun b o=>?_,fun i hi=>?_,fun i _=>by rw[Ps ht hv]⟩⟩
 ·exact kp b u (Sk.same b u e) fun hq=>by
   have:=(Sk.own y t K b ht hm1 hq).1
   rw[e]at this;cases this
 ·by_cases hi:i=y
  ·subst hi;rw[gy]at e;cases e;exact ok
  ·rw[gn hi]at e
   obtain⟨d,hd,rfl⟩:=Bq ej
   have hdd:d≠.dead:=fun z=>by subst z;exact absurd l (by decide)
   refine(Sk.at e hd hdd).keep fun b w eb q=>kp b w eb fun hq=>?_
   rcases q with q|q
   ·exact out hi e hd hdd b q hq
   ·obtain⟨_,vs,e2,mu⟩:=Sk.own y t K b ht hm1 hq
    rw[e2]at eb
    cases eb;rw[mu]at q;cases q
 ·by_cases hi:i=y
  ·subst hi;rw[gy]at e;cases e
   rw[hm1]at hk;cases hk
   obtain⟨g1,g2⟩:=gr b hb
   refine⟨?_,g2⟩
   rcases g1 with z|z
   ·exact(Sk.own i t K b ht hm1 z).1
   ·exact Sk.same.free z
  ·rw[gn hi]at e
   obtain⟨o1,vs,o2,mu⟩:=Sk.own i u k b e hk hb
   exact⟨o1,vs,kp b _ o2 (out hi e hk (fun z=>nomatch z) b ((T.all_iff u k).mpr (.inl hb))),mu⟩
 ·obtain⟨i,u,j,e,ej,l,q⟩:=sh
  by_cases hi:i=y
  ·subst hi;rw[gy]at e;cases e
   rw[A4 hm1]at ej;cases ej
   have q:b∈t'.rest K:=q
   rcases fl b q with z|z|z
   ·exact Sk.src b ⟨i,t,K,ht,A4 hm1,l,z⟩
   ·exact .inl (Sk.same.free z)
   ·exact S.src b z
  ·rw[gn hi]at e
   exact Sk.src b ⟨i,u,j,e,ej,l,q⟩
 ·by_cases hi:i=y
  ·subst hi;rw[gy]at e;cases e
   rw[hm1]at hk;cases hk
   exact nd
  ·rw[gn hi]at e;exact Sk.nd i u k e hk
 ·by_cases hi:i=y
  ·subst hi;rw[gy]at e;cases e
   rw[hm1]at hk;cases hk
   rw[gn (Ne.symm ne)]at e'
   rw[lowz hd hdd]
   intro hv
   rcases (gr b hb).1 with z|z
   ·exact out (Ne.symm ne) e' hd hdd b hv z
   ·exact(Sk.at e' hd hdd).dom hv z
  ·rw[gn hi]at e
   by_cases hj:j=y
   ·subst hj;rw[gy]at e';cases e'
    rw[lowz hd hdd]
    intro hv
    have ho:Own m τ b:=Own.weak hkb ⟨i,u,k,e,hk,hb⟩
    have hH:H b≠none:=fun z=>by
     obtain⟨_,vs,o2,mu⟩:=Sk.own i u k b e hk hb
     rw[z]at o2;cases o2
    rcases (T.all_iff t' K).mp hv with hv|hv
    ·rcases (gr b hv).1 with z|z
     ·exact out hi e hk (fun z=>nomatch z) b ((T.all_iff u k).mpr (.inl hb)) z
     ·exact hH z
    ·rcases fl b hv with z|z|z
     ·have:=Sk.sep i j u t k (.ow K) ne e hk ht hm1 (fun z=>nomatch z) b hb
      exact this (T.rest_le t (aaw _) z)
     ·exact hH z
     ·exact S.disj ho z
   ·rw[gn hj]at e'
    exact Sk.sep i j u v k d ne e hk e' hd hdd b hb
 ·rcases F6 hd with z|⟨_,z⟩
  ·cases z
  ·exact absurd rfl (z k2)
 ·exact kp b u e fun hq=>no ⟨y,t,K,ht,hmy,hq⟩
 ·obtain⟨i,u,k,e,hk,hb⟩:=o
  by_cases hi:i=y
  ·subst hi;rw[gy]at e;cases e
   rw[hm1]at hk;cases hk
   rcases (gr b hb).1 with z|z
   ·exact .inl ⟨i,t,K,ht,hmy,z⟩
   ·exact .inr z
  ·rw[gn hi]at e
   exact .inl (Own.weak hkb ⟨i,u,k,e,hk,hb⟩)
 ·exact gn fun z=>hi (by rw[z];exact aac ..)
theorem TH{p:Px}{H0:Hp}{A0:Addr->Prop}{m:Ms}{τ:Ft}{H H':Hp}{y K:Nat}{t t':T}(S:Sf p H0 A0 m τ H)(hmy:m[y]?=some (.ow K))(hkb:leM m (AH m)=true)(ht:τ[y]?=some (some t))(hv:t'.val=t.val)(ok:t'.Ok p H')(nd:t'.Nd K)(fl:t'.rest K=[])
  (kp:∀b u,H b=some u->b∉t.adr K->H' b=some u) (gr:∀b∈t'.adr K,(b∈t.adr K\/H b=none)/\Mu H' b):Sf p H0 A0 (AH m) (τ.set y (some t')) H'/\Stp m (AH m) [y] τ (τ.set y (some t')) H H' :=
 TF S hmy hkb ht hv ok nd (fun b q=>by rw[fl]at q;cases q) kp gr
abbrev vals(σ:L2.St):List Nat->Option (List V)
 |[]=>some []
 |i::r=>match σ[i]? with
  |some (some v)=>(vals σ r).map (v::·)
  |_=>none
theorem M0{τ:Ft}:∀{zs:List Nat}{ts:List T},ts.length=zs.length->(∀(i:Nat)(z:Nat)(u:T),zs[i]?=some z->ts[i]?=some u->τ[z]?=some (some u))->vals (vτ τ) zs=some (ts.map T.val)
 |[],ts,h,_=>by
  have:ts=[]:=List.length_eq_zero_iff.mp h
  subst this;rfl
 |z::zs,[],h,_=>by simp at h
 |z::zs,t::ts,h,g=>by
  have h0:=g 0 z t rfl rfl
  have ih:=M0 (zs:=zs) (ts:=ts) (by simpa using h) fun i w u h1 h2=>g (i+1) w u (by simpa using h1) (by simpa using h2)
  show(match (vτ τ)[z]? with
   |some (some v)=>(vals (vτ τ) zs).map (v::·)
   |_=>none)=_
  rw[CQ h0,ih];rfl
theorem V5{F:Fn}{y:Nat}{zs:List Nat}(har:zs.length+1=F.ar)(h:lS Z (.put F y zs) D σ H):∃vs,vals σ (y::zs)=some vs/\∀E,spM Z.p F vs H (fun _ H'=>D.nx σ H') E:=by
 obtain⟨τ,m,r,rfl,S,hr,h⟩:=h
 simp only[msS]at hr
 split at hr
 ·rename_i k hmy
  obtain⟨⟨hk,c1,c2,c3⟩,hr⟩:=AN hr
  cases hr
  subst hk
  have h:lOut Z m (some (AH m)) [y] (Vv (Js (dτ τ) (y::zs)) F.den (dτ τ) y) τ H D:=h
  cases q:Js (dτ τ) (y::zs) with
  |none=>rw[q]at h;exact nE h
  |some ds=>
   rw[q]at h
   obtain⟨ts0,e1,e2,e3⟩:=MZ q
   cases ts0 with
   |nil=>simp at e2
   |cons t ts=>
    have ht:=e3 0 y t rfl rfl
    have e3':∀(i:Nat)(z:Nat)(u:T),zs[i]?=some z->ts[i]?=some u->τ[z]?=some (some u):=fun i z u h1 h2=>e3 (i+1) z u (by simpa using h1) (by simpa using h2)
    have hl:ts.length=zs.length:=by simpa using e2
    subst e1
    have arg:∀u∈ts,∃z d,z≠y/\τ[z]?=some (some u)/\m[z]?=some d/\d≠.dead/\d.low=0:=fun u hu=>by
     obtain⟨i,hi⟩:=acZ hu
     have li:i<zs.length:=by rw[<- hl];exact(aaz.mp hi).1
     have hz:=aae li
     have hp:Li m y zs[i]=true:=aas.mp c3 _ (abu li)
     unfold Li at hp
     rw[aaf]at hp
     obtain⟨p1,p2⟩:=hp
     have ne:zs[i]≠y:=by
      intro z;rw[z]at p1;simp at p1
     split at p2
     ·exact⟨_,.sh,ne,e3' i _ u hz hi,‹_›,(fun z=>nomatch z),rfl⟩
     ·rename_i kk hh
      exact⟨_,.ow kk,ne,e3' i _ u hz hi,hh,(fun z=>nomatch z),rfl⟩
     ·cases p2
    refine⟨t.val::ts.map T.val,M0 (ts:=t::ts) e2 e3,fun E=>⟨t,ts,rfl,S.at ht hmy (fun z=>nomatch z),T.oks_iff.mpr fun u hu=>?_,by rw[hl];exact har,S.nd y t 2 ht hmy,fun b hb=>⟨(S.own y t 2 b ht hmy hb).2,fun hr=>?_⟩,?_⟩⟩
    ·obtain⟨z,d,g1,g2,g3,g4,g5⟩:=arg u hu
     exact S.at g2 g3 g4
    ·obtain⟨u,hu,hb2⟩:=T.mem_rests.mp hr
     obtain⟨z,d,g1,g2,g3,g4,g5⟩:=arg u hu
     have:=S.sep y z t u 2 d (Ne.symm g1) ht hmy g2 g3 g4 b hb
     rw[g5]at this
     exact this hb2
    ·have h:lOut Z m (some (AH m)) [y] (match F.den (t.dat::T.dats ts) with
      |.ok d=>if Pu.D.flat 9 2 d=true then .nxt ((dτ τ).set y (some d)) else .bad
      |_=>.bad) τ H D:=h
     cases qd:F.den (t.dat::T.dats ts) with
     |exc c=>rw[qd]at h;exact nE h
     |bad=>rw[qd]at h;exact nE h
     |ok d=>
      rw[qd]at h
      have h:lOut Z m (some (AH m)) [y] (if Pu.D.flat 9 2 d=true then .nxt ((dτ τ).set y (some d)) else .bad) τ H D:=h
      split at h
      ·rename_i hfl
       refine⟨d,rfl,fun t' H' g1 g2 g3 g4 g5 g6=>?_⟩
       subst g1
       obtain⟨S2,P2⟩:=TH S hmy c2 ht g2 g3 g4 (B9 9 t' 2 hfl) g5 g6
       have:=h (AH m) _ H' rfl (E9 τ y t') S2 P2
       rw[HW ht g2]at this
       exact this
      ·exact nE h
 ·cases hr
end
abbrev D9:List (Bool×E)->List Nd1
 |[]=>[]
 | (_,e)::r=>e.need++D9 r
mutual
noncomputable def S.need:S->List Nd1
 |.asg _ _ e=>e.need
 |.dem _ _=>[]
 |.dead _=>[]
 |.asgT _ e=>e.need
 |.set _ q i e=>D9 q++(i.need++e.need)
 |.mut _ q _ es=>D9 q++es.need
 |.expr e=>e.need
 |.iff c a b=>c.need++(a.need++b.need)
 |.wh c b=>c.need++b.need
 |.for_ _ it b=>it.need++b.need
 |.ret e=>e.need
 |.retT es=>es.need
 |.put F _ _=>[.fm F]
 |.raise c es=>.rs c::es.need
noncomputable def Ss.need:Ss->List Nd1
 |.nil=>[]
 |.cons s r=>s.need++r.need
end
abbrev Lp:Um->Str
 |.append => "append"
 |.extend => "extend"
 |.pop => "pop"
 |.clear => "clear"
abbrev Q0:Um->Nat->Bool
 |.append,n=>decide (n=1)
 |.extend,n=>decide (n=1)
 |_,n=>decide (n=0)
abbrev CW:Expr->Bool
 |.ListComp _ _ _ _=>false
 |.SetComp _ _ _ _=>false
 |.DictComp _ _ _ _ _=>false
 |_=>true
abbrev GN:Expr->Bool
 |.Tuple _ _ _=>false
 |_=>true
abbrev Lq(c:CkC):List Expr->Bool
 |[.Name x _,.Name y _]=>(c.sc.names.lookup x==some .cell)||(c.sc.names.lookup y==some .cell)
 |_=>false
abbrev Lr:Expr->Bool
 |.Call _ _ _ _=>false
 |_=>true
abbrev two:Expr->Option (Expr×Expr)
 |.Tuple es _ _=>match es with
  |[a,b]=>some (a,b)
  |_=>none
 |_=>none
abbrev nmOf:Expr->Option (Str×Pos)
 |.Name x p=>some (x,p)
 |_=>none
abbrev Rows(st:Stmt)(a b y f a2 b2:Str)(es:List Expr)(k:Nat)(q:Pos)(e:Expr):Prop:=∃p1 p2 p3 p4 p5 p6 p7 p8 p9 p10 p11,es=[.Name a p1,.Name b p2]/\st=.For (.Tuple [.Name a p1,.Name b p2] k q) (.Call (.Name f p4) [.Name y p3,e] [] p5) [.Assign [.Subscript (.Name a2 p6) (.Slice none none none p7) p8] (.Name b2 p9) p10] [] p11
abbrev V6:Stmt->Option (Expr×Pos)
 |.Expr e p=>some (e,p)
 |_=>none
theorem TJ{st:Stmt}{e:Expr}{p:Pos}(h:V6 st=some (e,p)):st=.Expr e p:=by cases st<;>cases h<;>rfl
abbrev Hl(st:Stmt):Option (Str×List Expr):=(V6 st).bind fun e=>EO e.1
theorem Q1{st:Stmt}{f:Str}{xs:List Expr}(h:Hl st=some (f,xs)):∃p1 p2 p3,st=.Expr (.Call (.Name f p1) xs [] p2) p3:=by
 unfold Hl at h
 obtain⟨e,g1,h⟩:=bS h
 obtain⟨p1,p2,E⟩:=Dy h
 have F:=TJ g1
 rw[E]at F
 exact⟨_,_,_,F⟩
abbrev GO(c:CkC):List Nat->List Expr->Bool
 |[],[]=>true
 |i::is,.Name y _::r=>(c.N[i]?==some y)&&DO c.sc y&&Bb y&&GO c is r
 |_,_=>false
mutual
noncomputable def ckS(c:CkC):S->Stmt->Bool
 |.asg x _ e,.Assign [.Name y _] e' _=>(c.N[x]?==some y)&&F3 c y&&ckE c e e'
 |.asgT xs e,.Assign [.Tuple ts k q] e' _=>ckG c (.tp xs) (.Tuple ts k q)&&ckE c e e'&&(GN e'||Lq c ts)
 |.set x q i e,.Assign [.Subscript o i' _] e' _=>FG c x q.reverse o&&ckE c i i'&&A3 i'&&ckE c e e'&&CW e'
 |.mut x q u es,.Expr (.Call (.Attribute o name ap) xs [] cp) _=>FG c x q.reverse o&&(name==Lp u)&&ckEs c es xs&&(ap.endLine==cp.line)&&Lr o&&decide (es.len<20)&&Q0 u es.len
 |.expr e,.Expr e' _=>ckE c e e'&&CW e'
 |.iff t a b,.If t' a' b' _=>ckE c t t'&&t.tst&&ckSs c a a'&&ckSs c b b'
 |.wh t b,.While t' b' [] _=>ckE c t t'&&t.tst&&ckSs c b b'&&c.rz
 |.for_ g it b,.For tg it' b' [] _=>ckG c g tg&&ckI c tg it it'&&Ej it'&&ckSs c b b'&&c.rz&&c.cm
 |.ret e,.Return (some e') _=>ckE c e e'
 |.retT es,.Return (some (.Tuple xs _ _)) _=>ckEs c es xs&&decide (es.len<=1000)
 |.raise n es,.Raise (some (.Call (.Name x _) xs [] _)) none _=>(x==AV n)&&glB c.sc x&&Bb x&&ckEs c es xs&&decide (0<es.len)&&decide (es.len<=1000)&&c.rz&&c.cm
 |.put F y zs,st=>match Hl st with
  |some (x,ns)=>(x==F.name)&&glB c.sc x&&Bb x&&GO c (y::zs) ns&&decide (zs.length+1=F.ar)&&c.cm
  |none=>false
 |_,_=>false
noncomputable def ckSs(c:CkC):Ss->List Stmt->Bool
 |.nil,[]=>true
 |.cons (.dem _ _) r,st=>ckSs c r st
 |.cons (.dead _) r,st=>ckSs c r st
 |.cons s r,x::xs=>ckS c s x&&ckSs c r xs
 |_,_=>false
end
structure Cs(Z:Zx)(c:CkC)(lv:Nat)(X:Cx)(E:XK):Prop where
 ct:Ct Z.p c lv X Z.EX
 ex:c.rz=true->Z.EX=fun _=>E
 xw:c.rz=true->NE X E/\O4 X E
 po:c.rz=true->PassesOwn (model X.prog X.w) X.A X.env X.xe
 kind:c.sc.kind=.function
 stk:X.stack=X.env::X.outer
 frm:X.env.frame=some X.env.locals
section
variable{Z:Zx}{c:CkC}{lv:Nat}{X:Cx}{E:XK}{pos:Pos}
theorem F7{e:Expr}{t:Option Expr}{n:Nat}{env:Env}(h:CW e=true):swapsWith e t n env=pure false:=by
 cases e<;>first|rfl|cases h
theorem HE{q:List (Bool×Pu.E)}:∀e∈q,∀n∈e.2.need,n∈D9 q:=by
 induction q with
 |nil=>intro e he;cases he
 |cons a q ih=>
  intro e he n hn
  obtain⟨b,e0⟩:=a
  rcases aak.mp he with rfl|he
  ·exact aaD _ hn
  ·exact aau _ (ih e he n hn)
theorem Q2(C:Cs Z c lv X E){x k:Nat}{e:Pu.E}{y:Str}{py:Pos}{e':Expr}(hn:∀n∈e.need,NeedOk Z.p lv X n)(h1:(c.N[x]?==some y)=true)(h2:F3 c y=true)(h3:ckE c e e'=true):PS X (.Assign [.Name y py] e' pos) (lS Z (.asg x k e)):=by
 have hN:X.N[x]?=some y:=by rw[C.ct.N];exact beq_iff_eq.mp h1
 obtain⟨l1,l2⟩:=C.ct.loc h2
 intro pins s σ H D I h
 obtain⟨τ,m,rfl,S,h⟩:=VT h
 by_cases hc:CW e'=true
 ·exact Iq C.ct.nd hN l1 (snd e C.ct (tn:=tnM m) e' hn h3).1 (F7 hc) l2 pins s _ H D I h
 ·cases e' with
  |ListComp elt' gens scope q=>
   have hsw:∃b:Bool,swapsWith (.ListComp elt' gens scope q) (some (.Name y py)) pos.line X.env=pure b:=⟨_,rfl⟩
   obtain⟨b,hsw⟩:=hsw
   cases b with
   |false=>exact Iq C.ct.nd hN l1 (snd e C.ct (tn:=tnM m) _ hn h3).1 hsw l2 pins s _ H D I h
   |true=>
    cases e with
    |comp0 nl fr g it elt=>
     obtain⟨tg,iter,ifs,rfl,h3⟩:=EQ h3
     obtain⟨h3,g7⟩:=Ac h3
     obtain⟨h3,g6⟩:=Ac h3
     obtain⟨h3,g5⟩:=Ac h3
     obtain⟨h3,g4⟩:=Ac h3
     obtain⟨h3,g3⟩:=Ac h3
     obtain⟨h3,g2⟩:=Ac h3
     obtain⟨h3,g1⟩:=Ac h3
     obtain⟨gc,g0⟩:=Ac h3
     cases ifs with
     |cons _ _=>cases g0
     |nil=>
     have g2:=of_decide_eq_true g2
     subst g2
     obtain⟨Sc,nd⟩:=Kn C.ct g1
     obtain⟨n1,n2⟩:=As hn
     refine NX (C.ct.calm gc) Sc (sndI it C.ct (tn:=tnM m) iter n1 g4) (fun i hi=>of_decide_eq_true (aas.mp g3 i hi)) (fun z=>⟨?_,?_⟩) (D6 g5) C.ct.nd hN l1 l2 hsw pins s _ H D I h
     ·exact HS (C.ct.blk nd z) g6
     ·exact(snd elt (C.ct.blk nd z) elt' (fun n m=>(n2 n m).blk) g7).1
    |comp1 nl fr g it cond elt=>
     obtain⟨tg,iter,ifs,rfl,h3⟩:=EQ h3
     obtain⟨cnd,rfl,h3⟩:=Lf h3
     obtain⟨h3,g9⟩:=Ac h3
     obtain⟨h3,g8⟩:=Ac h3
     obtain⟨h3,g7⟩:=Ac h3
     obtain⟨h3,g6⟩:=Ac h3
     obtain⟨h3,g5⟩:=Ac h3
     obtain⟨h3,g4⟩:=Ac h3
     obtain⟨h3,g3⟩:=Ac h3
     obtain⟨h3,g2⟩:=Ac h3
     obtain⟨gc,g1⟩:=Ac h3
     have g2:=of_decide_eq_true g2
     subst g2
     obtain⟨Sc,nd⟩:=Kn C.ct g1
     obtain⟨n1,n2⟩:=As hn
     obtain⟨n2,n3⟩:=As n2
     refine NY (C.ct.calm gc) Sc (sndI it C.ct (tn:=tnM m) iter n1 g4) (fun i hi=>of_decide_eq_true (aas.mp g3 i hi)) (fun z=>⟨?_,?_,?_⟩) (D6 g5) C.ct.nd hN l1 l2 hsw pins s _ H D I h
     ·exact HS (C.ct.blk nd z) g6
     ·exact(snd cond (C.ct.blk nd z) cnd (fun n m=>(n2 n m).blk) g7).2 g8
     ·exact(snd elt (C.ct.blk nd z) elt' (fun n m=>(n3 n m).blk) g9).1
    |listI it=>cases it<;>exact nF h3
    |_=>exact nF h3
  |SetComp _ _ _ _=>
   cases e with
   |listI it=>cases it<;>exact nF h3
   |_=>exact nF h3
  |DictComp _ _ _ _ _=>
   cases e with
   |listI it=>cases it<;>exact nF h3
   |_=>exact nF h3
  |_=>exact absurd rfl hc
theorem Pz{ts:List Expr}{k:Nat}{q:Pos}{e':Expr}{env:Env}(h:GN e'=true):swappedStores [.Tuple ts k q] e' env=pure none:=by
 cases e'<;>first|rfl|cases h
theorem Q3(x:Str)(p:Pos):(Expr.Name x p).pos=p:=rfl
theorem PB{x y:Str}{px py q:Pos}{k:Nat}{e':Expr}{env:Env}(h:env.kindOf x=some .cell\/env.kindOf y=some .cell):swappedStores [.Tuple [.Name x px,.Name y py] k q] e' env=pure none:=by
 cases e' with
 |Tuple vs k2 q2=>
  have key:([Expr.Name x px,.Name y py].filterMap fun|.Name id pos=>(if env.kindOf id==some .local&&pos.line==px.line then some id else none)|_=>none).length≠2:=by
   rcases h with h|h<;>simp only[abq,List.filterMap_nil,h]<;>simp<;>split<;>simp
  have key2:(([Expr.Name x px,.Name y py].filterMap fun|.Name id pos=>(if env.kindOf id==some .local&&pos.line==px.line then some id else none)|_=>none).length != 2)=true:=by simpa using key
  unfold swappedStores
  simp only[aaL,List.length_nil,List.head?_cons,aa6,adj,Q3,aaK,Nat.reduceAdd,key2,Bool.true_or,if_true,pure_bind]
  split
  ·rfl
  ·split
   ·rfl
   ·exact if_pos (aco.mpr (.inl key2))
 |_=>rfl
theorem Q4{c:CkC}{ts:List Expr}{k:Nat}{q:Pos}{e':Expr}{env:Env}(hs:env.scope=c.sc)(h:(GN e'||Lq c ts)=true):swappedStores [.Tuple ts k q] e' env=pure none:=by
 rcases aco.mp h with h|h
 ·exact Pz h
 ·unfold Lq at h
  split at h
  ·refine PB ?_
   rw[aco,beq_iff_eq,beq_iff_eq,<- hs]at h
   exact h
  ·cases h
theorem Q5{ts:List Expr}{k:Nat}{q:Pos}{e':Expr}{env:Env}{n:Nat}:swapsWithSole [.Tuple ts k q] e' n env=pure false:=by
 cases e'<;>rfl
theorem Q6{o i:Expr}{q:Pos}{e':Expr}{env:Env}{n:Nat}(h:CW e'=true):swapsWithSole [.Subscript o i q] e' n env=pure false:=by
 cases e'<;>first|rfl|cases h
theorem PD(C:Cs Z c lv X E){xs:List Nat}{e:Pu.E}{ts:List Expr}{k:Nat}{q:Pos}{e':Expr}(hn:∀n∈e.need,NeedOk Z.p lv X n)(h1:ckG c (.tp xs) (.Tuple ts k q)=true)(h2:ckE c e e'=true)(h3:(GN e'||Lq c ts)=true):PS X (.Assign [.Tuple ts k q] e' pos) (lS Z (.asgT xs e)):=by
 intro pins s σ H D I h
 obtain⟨m,h⟩:=Tz (K:=X.K) h
 exact OB (snd e C.ct (tn:=tnM m) e' hn h2).1 (HS C.ct h1) Q5 (Q4 C.ct.sc h3) rfl pins s σ H D I h
theorem PF(C:Cs Z c lv X E){e:Pu.E}{e':Expr}(hn:∀n∈e.need,NeedOk Z.p lv X n)(h1:ckE c e e'=true)(h2:CW e'=true):PS X (.Expr e' pos) (lS Z (.expr e)):=by
 intro pins s σ H D I h
 obtain⟨m,h⟩:=TB h
 exact CN (snd e C.ct (tn:=tnM m) e' hn h1).1 (F7 h2) pins s σ H D I h
theorem Q7(C:Cs Z c lv X E){x:Nat}{q:List (Bool×Pu.E)}{i e:Pu.E}{o i' e':Expr}{p2:Pos}(n1:∀n∈D9 q,NeedOk Z.p lv X n)(n2:∀n∈i.need,NeedOk Z.p lv X n)(n3:∀n∈e.need,NeedOk Z.p lv X n)
  (h1:FG c x q.reverse o=true) (h2:ckE c i i'=true) (h3:A3 i'=true) (h4:ckE c e e'=true) (h5:CW e'=true):PS X (.Assign [.Subscript o i' p2] e' pos) (lS Z (.set x q i e)):=by
 intro pins s σ H D I h
 obtain⟨m,h⟩:=VU h
 have A:=N4 C.ct (tn:=tnM m) (x:=x) (rp:=q.reverse) (o:=o) (fun e he n hn=>n1 n (HE e (acd.mp he) n hn)) h1
 rw[ac0]at A
 have hw:swappedStores [.Subscript o i' p2] e' X.env=pure none:=by cases e'<;>rfl
 refine OB (snd e C.ct (tn:=tnM m) e' n3 h4).1 (UY A (snd i C.ct (tn:=tnM m) i' n2 h2).1 Qp (fun v=>?_)) (Q6 h5) hw rfl pins s σ H D I h
 cases i'<;>first|rfl|cases h3
theorem Ls{p:Px}{EX:EXT}{tn:List Nat}{K:Frag}{u:V->List V->Hp->VK->Prop}{x:Nat}{q:List (Bool×Pu.E)}{σ:L2.St}{H:Hp}{Q:Hp->Prop}(h:lPl p EX tn x q σ H fun v H1=>tyV K "list" v H1/\lEs p EX tn .nil σ H1 fun vs H2=>u v vs H2 fun _ H3=>Q H3) :
  lPl p EX tn x q σ H fun v H1=>tyV K "list" v H1/\u v [] H1 fun _ H3=>Q H3:=by
 obtain⟨τ,t,is,s,e1,e2,e3,e4,e5,e6,e7,h⟩:=h
 refine⟨τ,t,is,s,e1,e2,e3,e4,e5,e6,e7,fun H' s'=>?_⟩
 obtain⟨h1,τ2,rfl,hF,j,k,hj,h2⟩:=h H' s'
 exact⟨h1,h2 [] H' rfl ⟨Same.refl _,trivial,by simp[T.rests],by simp[T.adrs],by simp[T.Nds,T.adrs]⟩⟩
theorem PH{x:Nat}{rp:List (Bool×Pu.E)}{o:Expr}{name:Str}{env:Env}(h:FG c x rp o=true):attributeBase o name env (eval o env)=eval o env:=by
 cases rp with
 |nil=>cases o<;>first|rfl|exact nF h
 |cons a r=>obtain⟨b,e⟩:=a;cases o<;>first|rfl|exact nF h
theorem Q8(C:Cs Z c lv X E){x:Nat}{q:List (Bool×Pu.E)}{u:Um}{es:Es}{o:Expr}{xs:List Expr}{ap cp:Pos}(n1:∀n∈D9 q,NeedOk Z.p lv X n)(n2:∀n∈es.need,NeedOk Z.p lv X n)
  (h1:FG c x q.reverse o=true) (h2:ckEs c es xs=true) (h3:(ap.endLine==cp.line)=true) (h5:Q0 u es.len=true):PS X (.Expr (.Call (.Attribute o (Lp u) ap) xs [] cp) pos) (lS Z (.mut x q u es)):=by
 intro pins s σ H D I h
 obtain⟨τ,m,r,rfl,S,hr,h⟩:=h
 have A:PE X o (lPl Z.p Z.EX (tnM m) x q):=by
  have A:=N4 C.ct (tn:=tnM m) (x:=x) (rp:=q.reverse) (o:=o) (fun e he n hn=>n1 n (HE e (acd.mp he) n hn)) h1
  rwa [ac0]at A
 have hb:∀name:Str,attributeBase o name X.env (eval o X.env)=eval o X.env:=fun name=>PH h1
 obtain⟨st,sl⟩:=CU h2
 simp only[msS]at hr
 split at hr
 ·rename_i k hmx
  split at hr
  ·rename_i hc
   obtain⟨c1,c2,c3⟩:=hc
   cases hmv:es.mvOf m with
   |some yk=>
    obtain⟨y,ky⟩:=yk
    rw[hmv]at hr
    obtain⟨⟨d1,d2,d3,d4⟩,rfl⟩:=AN hr
    subst d1
    have hq:q=[]:=by cases q with|nil=>rfl|cons _ _=>cases d4
    subst hq
    have hes:es=.cons (.nm y) .nil/\m[y]?=some (.ow ky):=by
     unfold Es.mvOf at hmv
     split at hmv
     ·split at hmv
      ·cases hmv;exact⟨rfl,‹_›⟩
      ·cases hmv
     ·cases hmv
    obtain⟨rfl,hmy⟩:=hes
    cases xs with
    |nil=>cases sl
    |cons a xr=>
     cases xr with
     |cons _ _=>cases sl
     |nil=>
      obtain⟨g,_⟩:=Ac (show(ckE c (.nm y) a&&Ad a&&ckEs c .nil [])=true from h2)
      obtain⟨g1,g2⟩:=Ac g
      cases a with
      |Name z pz=>
       obtain⟨g,g5⟩:=Ac (show((c.N[y]?==some z)&&DO c.sc z&&Bb z)=true from g1)
       obtain⟨g3,g4⟩:=Ac g
       obtain⟨e1,e2⟩:=BA g5
       have hv:PE X (.Name z pz) (DG y):=Cw (by rw[C.ct.N];exact beq_iff_eq.mp g3) (C.ct.vis g4) e1 e2
       refine CN (Iy PySem.F.plainAttrs_list PySem.F.slot_list_append PySem.F.type_list_append Fl A (Ar hv AW rfl) (hb _) rfl h3 rfl rfl) rfl pins s _ H D I ?_
       exact VV (X:=X) S hmx hmy d2 (by simpa[lnE] using d3) rfl h
      |_=>exact nF g1
   |none=>
    rw[hmv]at hr
    obtain⟨⟨j1,k1⟩,g1,hr⟩:=bS hr
    obtain⟨hcc,rfl⟩:=AN hr
    have B:=(sndA es C.ct (tn:=tnM m) xs n2 h2).1
    have M:=Tx (X:=X) C.ct.K S hmx c1 c2 g1 hcc rfl h
    have one:∀{y:Expr},Ad y=true->((backTo cp (starEach [y] X.env)).all (fun x=>!x.1)&&(backToKw cp (keywordEach [] X.env)).all (fun x=>x.1.isSome)&&decide ([y].length+([]:List Keyword).length+(if([]:List Keyword).isEmpty then 0 else 1)<30))=true:=by
     intro y hy
     rw[Ae hy];rfl
    cases u with
    |append=>
     have h5:es.len=1:=of_decide_eq_true h5
     match xs,sl,st with
     |[y],_,st=>
      have hy:Ad y=true:=by simpa using st
      exact CN (Iy PySem.F.plainAttrs_list PySem.F.slot_list_append PySem.F.type_list_append Fl A B (hb _) (one hy) h3 (Ae hy) rfl) rfl pins s _ H D I M
     |[],sl,_=>rw[h5]at sl;cases sl
     |_::_::_,sl,_=>rw[h5]at sl;cases sl
    |extend=>
     have h5:es.len=1:=of_decide_eq_true h5
     match xs,sl,st with
     |[y],_,st=>
      have hy:Ad y=true:=by simpa using st
      exact CN (Iy PySem.F.plainAttrs_list PySem.F.slot_list_extend PySem.F.type_list_extend N5 A B (hb _) (one hy) h3 (Ae hy) rfl) rfl pins s _ H D I M
     |[],sl,_=>rw[h5]at sl;cases sl
     |_::_::_,sl,_=>rw[h5]at sl;cases sl
    |pop=>
     have h5:es.len=0:=of_decide_eq_true h5
     rw[h5]at sl
     cases xs with
     |cons _ _=>cases sl
     |nil=>
      cases es with
      |cons _ _=>cases h5
      |nil=>
       refine CN (KM PySem.F.plainAttrs_list PySem.F.slot_list_pop PySem.F.type_list_pop OO A (hb _) h3) rfl pins s _ H D I ?_
       exact Ls M
    |clear=>
     have h5:es.len=0:=of_decide_eq_true h5
     rw[h5]at sl
     cases xs with
     |cons _ _=>cases sl
     |nil=>
      cases es with
      |cons _ _=>cases h5
      |nil=>
       refine CN (KM PySem.F.plainAttrs_list PySem.F.slot_list_clear PySem.F.type_list_clear Qq A (hb _) h3) rfl pins s _ H D I ?_
       exact Ls M
  ·cases hr
 ·cases hr
end
section
variable{Z:Zx}{c:CkC}{lv:Nat}{X:Cx}{E:XK}{pos:Pos}
theorem Q9(C:Cs Z c lv X E){e:Pu.E}{e':Expr}(hn:∀n∈e.need,NeedOk Z.p lv X n)(h1:ckE c e e'=true):PS X (.Return (some e') pos) (lS Z (.ret e)):=by
 intro pins s σ H D I h
 rcases VX h with⟨i,t,rfl,hs,hq⟩|⟨m,h⟩
 ·cases e' with
  |Name y q=>
   obtain⟨g,h3⟩:=Ac (show((c.N[i]?==some y)&&DO c.sc y&&Bb y)=true from h1)
   obtain⟨h1,h2⟩:=Ac g
   obtain⟨d1,d2⟩:=BA h3
   exact Ky (Cw (by rw[C.ct.N];exact beq_iff_eq.mp h1) (C.ct.vis h2) d1 d2) pins s σ H D I ⟨_,hs,hq⟩
  |_=>exact nF h1
 ·exact Ky (snd e C.ct (tn:=tnM m) e' hn h1).1 pins s σ H D I h
theorem N6(C:Cs Z c lv X E){n:Nat}{es:Es}{xs:List Expr}{np cp:Pos}(hn:∀n∈es.need,NeedOk Z.p lv X n)(hr:NeedOk Z.p lv X (.rs n))(h1:glB c.sc (AV n)=true)(h2:Bb (AV n)=true)(h3:ckEs c es xs=true)(h4:0<es.len)(h5:es.len<=1000)(hrz:c.rz=true)(hcm:c.cm=true) :
  PS X (.Raise (some (.Call (.Name (AV n) np) xs [] cp)) none pos) (lS Z (.raise n es)):=by
 intro pins s σ H D I h
 obtain⟨r1,r2,r3⟩:=hr
 obtain⟨m,h⟩:=QZ (C.ct.kx.lt n r1) h
 obtain⟨s1,s2⟩:=CU h3
 have A:=(sndA es C.ct (tn:=tnM m) xs hn h3).1
 cases xs with
 |nil=>rw[<- s2]at h4;cases h4
 |cons x xr=>
  rw[aaS,aaf]at s1
  refine Qu (C.xw hrz).1 (C.ct.calm hcm) (C.ct.gl h1) r2 r3 A (BA h2).1 (Ae s1.1) (Ba s1.2) pins s σ H D I ?_
  obtain⟨τ,e,hF,j,k,hj,h⟩:=h
  refine⟨τ,e,hF,j,k,hj,h.mono (Same.refl _) fun ds _ hd ts H1 ht R=>?_⟩
  obtain⟨q1,q2⟩:=hd ts H1 ht R
  refine⟨by rw[q1];exact aao h5 (by decide),?_⟩
  have:=q2 r1
  rw[C.ex hrz]at this
  exact this
end
section
variable{Z:Zx}{c:CkC}{lv:Nat}{X:Cx}{E:XK}{pos:Pos}
theorem N7(C:Cs Z c lv X E){m:Ms}{τ:Ft}:∀(es:Es){I:List Nat}(xs:List Expr),(∀n∈es.need,NeedOk Z.p lv X n)->ckEs c es xs=true->PA X xs (lRO Z m τ I es)
 |.nil,I,xs,hn,h=>by
  cases xs with
  |nil=>
   refine PA.mono AW fun σ H Q h=>?_
   obtain⟨rfl,S,k,hk,h⟩:=h
   exact h [] H rfl V2
  |cons _ _=>exact nF h
 |.cons e r,I,xs,hn,h=>by
  cases xs with
  |nil=>exact nF h
  |cons x xs=>
   obtain⟨h,h3⟩:=Ac (show(ckE c e x&&Ad x&&ckEs c r xs)=true from h)
   obtain⟨h1,h2⟩:=Ac h
   obtain⟨n1,n2⟩:=As hn
   cases q:Kp m e with
   |some ik=>
    obtain⟨i,k⟩:=ik
    obtain⟨rfl,hm⟩:=QX q
    cases x with
    |Name y py=>
     obtain⟨g,g3⟩:=Ac (show((c.N[i]?==some y)&&DO c.sc y&&Bb y)=true from h1)
     obtain⟨g1,g2⟩:=Ac g
     obtain⟨d1,d2⟩:=BA g3
     refine PA.mono (Ar (Cw (by rw[C.ct.N];exact beq_iff_eq.mp g1) (C.ct.vis g2) d1 d2) (N7 C (m:=m) (τ:=τ) r (I:=i::I) xs n2 h3) (Ae h2)) fun σ H Q h=>?_
     obtain⟨rfl,S,k0,hk,h⟩:=h
     rw[rkT,q]at hk
     simp only at hk
     split at hk
     ·cases hk
     ·rename_i hi
      obtain⟨k2,hk2,hk⟩:=bS hk
      cases hk
      simp only[evs,ev]at h
      cases q2:get (dτ τ) i with
      |exc c=>unfold get at q2;split at q2<;>cases q2
      |bad=>rw[q2]at h;exact nE h
      |ok d=>
       obtain⟨t,ht,rfl⟩:=D3 q2
       rw[q2,Res.bind_ok]at h
       refine⟨_,CQ ht,rfl,S,k2,hk2,h.bind.mono (Same.refl _) fun ds _ h ts H1 hts R=>?_⟩
       exact h (t::ts) H1 (by simp[T.dats,hts]) (V3 S ht hm hi R)
    |_=>exact nF h1
   |none=>
    refine PA.mono (Ar (snd e C.ct (tn:=tnM m) x n1 h1).1 (N7 C (m:=m) (τ:=τ) r (I:=I) xs n2 h3) (Ae h2)) fun σ H Q h=>?_
    obtain⟨rfl,S,k0,hk,h⟩:=h
    rw[rkT,q]at hk
    simp only at hk
    obtain⟨⟨j1,k1⟩,hj,hk⟩:=bS hk
    split at hk
    ·rename_i hz
     have hz:j1=0:=hz
     subst hz
     obtain⟨k2,hk2,hk⟩:=bS hk
     cases hk
     simp only[evs]at h
     refine l1 S.ok hj h fun d t H1 ht R h=>?_
     subst ht
     refine⟨rfl,S.grow R.same,k2,hk2,h.bind.mono R.same fun ds _ h ts H2 hts R2=>?_⟩
     exact h (t::ts) H2 (by simp[T.dats,hts]) (V4 S R R2)
    ·cases hk
end
section
variable{Z:Zx}{c:CkC}{lv:Nat}{X:Cx}{E:XK}{pos:Pos}
theorem Lu(C:Cs Z c lv X E):∀{zs:List Nat}{xs:List Expr},GO c zs xs=true->PA X xs (fun σ H Q=>∃vs,vals σ zs=some vs/\Q vs H)/\xs.all Ad=true/\xs.length=zs.length
 |[],[],_=>⟨fun po pins s σ H Q I q=>AW po pins s σ H Q I (by obtain⟨vs,e,q⟩:=q;cases e;exact q),rfl,rfl⟩
 |[],_::_,h=>by cases h
 |_::_,[],h=>by cases h
 |i::is,e::r,h=>by
  cases e with
  |Name y q=>
   obtain⟨h,h4⟩:=Ac (show((c.N[i]?==some y)&&DO c.sc y&&Bb y&&GO c is r)=true from h)
   obtain⟨h,h3⟩:=Ac h
   obtain⟨h1,h2⟩:=Ac h
   obtain⟨A,a2,a3⟩:=Lu C h4
   obtain⟨d1,d2⟩:=BA h3
   refine⟨fun po pins s σ H Q I q=>Ar (Cw (i:=i) (by rw[C.ct.N];exact beq_iff_eq.mp h1) (C.ct.vis h2) d1 d2) A rfl po pins s σ H Q I ?_,by rw[aaS,a2];rfl,by simp[a3]⟩
   obtain⟨vs,e,q⟩:=q
   have e:(match σ[i]? with
    |some (some v)=>(vals σ is).map (v::·)
    |_=>none)=some vs:=e
   split at e
   ·rename_i v hv
    obtain⟨ws,hw,rfl⟩:=aax.mp e
    exact⟨v,hv,ws,hw,q⟩
   ·cases e
  |_=>exact nF h
theorem Ra(C:Cs Z c lv X E){F:Fn}{y:Nat}{zs:List Nat}{xs:List Expr}{p1 p2:Pos}(hn:NeedOk Z.p lv X (.fm F))(h2:glB c.sc F.name=true)(h3:Bb F.name=true)(h4:GO c (y::zs) xs=true)(h5:zs.length+1=F.ar)(h6:c.cm=true) :
  PS X (.Expr (.Call (.Name F.name p1) xs [] p2) pos) (lS Z (.put F y zs)):=by
 intro pins s σ H D I h
 obtain⟨f1,ps,hps,hF⟩:=hn
 obtain⟨A,a2,a3⟩:=Lu C h4
 cases xs with
 |nil=>simp at a3
 |cons x1 xr=>
  rw[aaS,aaf]at a2
  refine CN (NG hF ((C.ct.room h6).mono f1) (C.ct.gl h2) C.ct.pass A (BA h3).1 (Ae a2.1) (Ba a2.2)) (F7 rfl) pins s σ H D I ?_
  obtain⟨vs,e,q⟩:=V5 h5 h
  refine⟨vs,e,?_⟩
  show spM Z.p F (vs++[]) H _ _
  rw[aaF]
  exact q _
end
mutual
theorem X5{Z:Zx}{c:CkC}{lv:Nat}{X:Cx}{E:XK}(C:Cs Z c lv X E):∀(s:S)(st:Stmt),(∀n∈s.need,NeedOk Z.p lv X n)->ckS c s st=true->PS X st (lS Z s)
 |.asg x k e,st,hn,h=>by
  cases st with
  |Assign ts e' q=>
   match ts,h with
   |[t],h=>
    cases t with
    |Name y py=>
     obtain⟨h,h3⟩:=Ac (show((c.N[x]?==some y)&&F3 c y&&ckE c e e')=true from h)
     obtain⟨h1,h2⟩:=Ac h
     exact Q2 C hn h1 h2 h3
    |_=>exact nF h
   |[],h=>exact nF h
   |t::_::_,h=>cases t<;>exact nF h
  |_=>exact nF h
 |.dem _ _,st,hn,h=>by cases st<;>exact nF h
 |.dead _,st,hn,h=>by cases st<;>exact nF h
 |.asgT xs e,st,hn,h=>by
  cases st with
  |Assign ts e' q=>
   match ts,h with
   |[t],h=>
    cases t with
    |Tuple es k py=>
     obtain⟨h,h3⟩:=Ac (show(ckG c (.tp xs) (.Tuple es k py)&&ckE c e e'&&(GN e'||Lq c es))=true from h)
     obtain⟨h1,h2⟩:=Ac h
     exact PD C hn h1 h2 h3
    |_=>exact nF h
   |[],h=>exact nF h
   |t::_::_,h=>cases t<;>exact nF h
  |_=>exact nF h
 |.set x q i e,st,hn,h=>by
  cases st with
  |Assign ts e' q2=>
   match ts,h with
   |[t],h=>
    cases t with
    |Subscript o i' py=>
     obtain⟨h,h5⟩:=Ac (show(FG c x q.reverse o&&ckE c i i'&&A3 i'&&ckE c e e'&&CW e')=true from h)
     obtain⟨h,h4⟩:=Ac h
     obtain⟨h,h3⟩:=Ac h
     obtain⟨h1,h2⟩:=Ac h
     obtain⟨n1,n2⟩:=As hn
     obtain⟨n2,n3⟩:=As n2
     exact Q7 C n1 n2 n3 h1 h2 h3 h4 h5
    |_=>exact nF h
   |[],h=>exact nF h
   |t::_::_,h=>cases t<;>exact nF h
  |_=>exact nF h
 |.mut x q u es,st,hn,h=>by
  cases st with
  |Expr v q2=>
   cases v with
   |Call f xs ks cp=>
    cases f with
    |Attribute o name ap=>
     cases ks with
     |nil=>
      obtain⟨h,h8⟩:=Ac (show(FG c x q.reverse o&&(name==Lp u)&&ckEs c es xs&&(ap.endLine==cp.line)&&Lr o&&decide (es.len<20)&&Q0 u es.len)=true from h)
      obtain⟨h,h7⟩:=Ac h
      obtain⟨h,h5⟩:=Ac h
      obtain⟨h,h4⟩:=Ac h
      obtain⟨h,h3⟩:=Ac h
      obtain⟨h1,h2⟩:=Ac h
      cases beq_iff_eq.mp h2
      obtain⟨n1,n2⟩:=As hn
      exact Q8 C n1 n2 h1 h3 h4 h8
     |cons _ _=>exact nF h
    |_=>exact nF h
   |_=>exact nF h
  |_=>exact nF h
 |.expr e,st,hn,h=>by
  cases st with
  |Expr v q2=>
   obtain⟨h1,h2⟩:=Ac (show(ckE c e v&&CW v)=true from h)
   exact PF C hn h1 h2
  |_=>exact nF h
 |.iff t a b,st,hn,h=>by
  cases st with
  |If t' a' b' q=>
   obtain⟨h,h4⟩:=Ac (show(ckE c t t'&&t.tst&&ckSs c a a'&&ckSs c b b')=true from h)
   obtain⟨h,h3⟩:=Ac h
   obtain⟨h1,h2⟩:=Ac h
   obtain⟨n1,n2⟩:=As hn
   obtain⟨n2,n3⟩:=As n2
   intro pins s σ H D I h
   obtain⟨m,h⟩:=VY h
   exact Np ((snd t C.ct (tn:=tnM m) t' n1 h1).2 h2) (sndSs C a a' n2 h3) (sndSs C b b' n3 h4) pins s σ H D I h
  |_=>exact nF h
 |.wh t b,st,hn,h=>by
  cases st with
  |While t' b' el q=>
   cases el with
   |nil=>
    obtain⟨h,hrz⟩:=Ac (show(ckE c t t'&&t.tst&&ckSs c b b'&&c.rz)=true from h)
    obtain⟨h,h3⟩:=Ac h
    obtain⟨h1,h2⟩:=Ac h
    obtain⟨n1,n2⟩:=As hn
    intro pins s σ H D I h
    obtain⟨m,h⟩:=W0 h
    exact KA (C.po hrz) ((snd t C.ct (tn:=tnM m) t' n1 h1).2 h2) (sndSs C b b' n2 h3) pins s σ H D I h
   |cons _ _=>exact nF h
  |_=>exact nF h
 |.for_ g it b,st,hn,h=>by
  cases st with
  |For tg it' b' el q=>
   cases el with
   |nil=>
    obtain⟨h,hcm⟩:=Ac (show(ckG c g tg&&ckI c tg it it'&&Ej it'&&ckSs c b b'&&c.rz&&c.cm)=true from h)
    obtain⟨h,hrz⟩:=Ac h
    obtain⟨h,h4⟩:=Ac h
    obtain⟨h,h3⟩:=Ac h
    obtain⟨h1,h2⟩:=Ac h
    obtain⟨n1,n2⟩:=As hn
    have B:=sndSs C b b' n2 h4
    intro pins s σ H D I h
    rcases V1 (K:=X.K) (X:=X) h with⟨m,h⟩|⟨x,rfl,v,a,xs,e1,rfl,sq,hW⟩
    ·exact OG (C.po hrz) (C.ct.calm hcm) (sndI it C.ct (tn:=tnM m) it' n1 h2) (HS C.ct h1) B (D6 h3) pins s σ H D I h
    ·cases it' with
     |Name y q'=>
      obtain⟨g,g3⟩:=Ac (show((c.N[x]?==some y)&&DO c.sc y&&Bb y)=true from h2)
      obtain⟨g1,g2⟩:=Ac g
      obtain⟨d1,d2⟩:=BA g3
      refine OG (C.po hrz) (C.ct.calm hcm) (IH (Cw (by rw[C.ct.N];exact beq_iff_eq.mp g1) (C.ct.vis g2) d1 d2)) (HS C.ct h1) B (D6 h3) pins s σ H D I ?_
      exact⟨_,e1,a,rfl,.inl ⟨xs,sq,hW C.ct.K⟩⟩
     |_=>exact nF h2
   |cons _ _=>exact nF h
  |_=>exact nF h
 |.ret e,st,hn,h=>by
  cases st with
  |Return v q=>
   cases v with
   |some e'=>exact Q9 C hn h
   |none=>exact nF h
  |_=>exact nF h
 |.put F y zs,st,hn,h=>by
  cases w0:Hl st with
  |none=>
   have h:(match Hl st with|some (x,ns)=>(x==F.name)&&glB c.sc x&&Bb x&&GO c (y::zs) ns&&decide (zs.length+1=F.ar)&&c.cm|none=>false)=true:=h
   rw[w0]at h;cases h
  |some w=>
   obtain⟨x,ns⟩:=w
   have h:(match Hl st with|some (x,ns)=>(x==F.name)&&glB c.sc x&&Bb x&&GO c (y::zs) ns&&decide (zs.length+1=F.ar)&&c.cm|none=>false)=true:=h
   rw[w0]at h
   obtain⟨p1,p2,p3,rfl⟩:=Q1 w0
   obtain⟨h,h6⟩:=Ac (show((x==F.name)&&glB c.sc x&&Bb x&&GO c (y::zs) ns&&decide (zs.length+1=F.ar)&&c.cm)=true from h)
   obtain⟨h,h5⟩:=Ac h
   obtain⟨h,h4⟩:=Ac h
   obtain⟨h,h3⟩:=Ac h
   obtain⟨h1,h2⟩:=Ac h
   cases beq_iff_eq.mp h1
   exact Ra C (hn _ (aac ..)) h2 h3 h4 (of_decide_eq_true h5) h6
 |.retT es,st,hn,h=>by
  cases st with
  |Return v q=>
   cases v with
   |none=>exact nF h
   |some e'=>
    cases e' with
    |Tuple xs k2 p2=>
     obtain⟨h1,h2⟩:=Ac (show(ckEs c es xs&&decide (es.len<=1000))=true from h)
     intro pins s σ H D I hq
     obtain⟨m,τ,hq⟩:=TD (of_decide_eq_true h2) hq
     exact Ky (KD (N7 C es xs hn h1)) pins s σ H D I hq
    |_=>exact nF h
  |_=>exact nF h
 |.raise n es,st,hn,h=>by
  cases st with
  |Raise v w q=>
   cases v with
   |none=>exact nF h
   |some v=>
    cases v with
    |Call f xs ks cp=>
     cases f with
     |Name x np=>
      cases ks with
      |nil=>
       cases w with
       |none=>
        obtain⟨h,hcm⟩:=Ac (show((x==AV n)&&glB c.sc x&&Bb x&&ckEs c es xs&&decide (0<es.len)&&decide (es.len<=1000)&&c.rz&&c.cm)=true from h)
        obtain⟨h,hrz⟩:=Ac h
        obtain⟨h,h6⟩:=Ac h
        obtain⟨h,h5⟩:=Ac h
        obtain⟨h,h4⟩:=Ac h
        obtain⟨h,h3⟩:=Ac h
        obtain⟨h1,h2⟩:=Ac h
        cases beq_iff_eq.mp h1
        exact N6 C (fun n m=>hn n (aaa _ m)) (hn _ (aac ..)) h2 h3 h4 (of_decide_eq_true h5) (of_decide_eq_true h6) hrz hcm
       |some _=>exact nF h
      |cons _ _=>exact nF h
     |_=>exact nF h
    |_=>exact nF h
  |_=>exact nF h
theorem sndSs{Z:Zx}{c:CkC}{lv:Nat}{X:Cx}{E:XK}(C:Cs Z c lv X E):∀(s:Ss)(st:List Stmt),(∀n∈s.need,NeedOk Z.p lv X n)->ckSs c s st=true->PSs X st (lSs Z s)
 |.nil,st,hn,h=>by
  cases st with
  |nil=>exact fun pins s σ H D I h=>Ji pins s σ H D I (V0 h)
  |cons _ _=>exact nF h
 |.cons s r,st,hn,h=>by
  obtain⟨n1,n2⟩:=As hn
  have skip:(∃x k,s=.dem x k)\/(∃x,s=.dead x)->ckSs c r st=true->PSs X st (lSs Z (.cons s r)):=fun hs h=>PSs.mono (sndSs C r st n2 h) fun D σ H q=>TC hs q
  by_cases hd:(∃x k,s=.dem x k)\/(∃x,s=.dead x)
  ·refine skip hd ?_
   rcases hd with⟨x,k,rfl⟩|⟨x,rfl⟩
   ·exact h
   ·exact h
  ·cases st with
   |nil=>cases s<;>first|exact nF h|exact absurd (.inl ⟨_,_,rfl⟩) hd|exact absurd (.inr ⟨_,rfl⟩) hd
   |cons x xs=>
    have h:(ckS c s x&&ckSs c r xs)=true:=by
     cases s<;>first|exact h|exact absurd (.inl ⟨_,_,rfl⟩) hd|exact absurd (.inr ⟨_,rfl⟩) hd
    obtain⟨h1,h2⟩:=Ac h
    exact PSs.mono (FX (X5 C s x n1 h1) (sndSs C r xs n2 h2)) fun D σ H q=>VZ q
end
structure Lw where
 p:Px
 P:Program
 w:World
 mg:Str->Option Value
 base:Heap
structure Lw.Ok(L:Lw):Prop where
 blt:∀y∈Bj,L.mg y=none
 bt:∀y∈(["bool", "dict", "ValueError", "set"]:List Str),L.mg y=none
 kx:Kx L.p
abbrev N8(L:Lw)(F:Fn):Prop:=∃ps:List Str,ps.length=F.ar/\Has L.P L.w L.p.K L.mg L.base F.name F.lv ps (spF L.p F)
abbrev W1(L:Lw)(F:Fn):Prop:=∃ps:List Str,ps.length=F.ar/\Vs L.P L.w L.p.K L.mg L.base F.name F.lv ps (VF L.p F)
abbrev RW(L:Lw)(F:Fn):Prop:=∃ps:List Str,ps.length=F.ar/\Has L.P L.w L.p.K L.mg L.base F.name F.lv ps (spM L.p F)
abbrev W3(L:Lw)(F:Fn):Prop:=∃ps:List Str,ps.length=F.ar/\Has L.P L.w L.p.K L.mg L.base F.name F.lv ps (spN L.p F)
abbrev NeedG(L:Lw)(lv:Nat):Nd1->Prop
 |.fn F=>F.lv<=lv/\N8 L F
 |.fm F=>F.lv<=lv/\RW L F
 |.fc F=>F.lv<=lv/\W3 L F
 |.cl n=>L.p.has n=true/\L.mg (AV n)=some (.ref (L.p.cl n))
 |.rs n=>L.p.has n=true/\nsIn L.p.K mainGlobals (AV n)=some (some (.ref (L.p.cl n)))/\excIn L.p.K (L.p.cl n) D1 "ValueError.__new__" = true
 |.f0 F=>F.lv<=lv/\W1 L F
 |.mk n=>L.p.has n=true/\nsIn L.p.K mainGlobals (AV n)=some (some (.ref (L.p.cl n)))/\excIn L.p.K (L.p.cl n) D1 "ValueError.__new__" = true/\keepIn L.p.K (.ref (L.p.cl n))=true
 |.ma=>2<=lv/\L.p.has 4=true/\L.mg (AV 4)=some (.ref (L.p.cl 4))/\keepIn L.p.K (.ref (L.p.cl 4))=true/\XOwn L.p.K (L.p.cl 4) "at" /\ ∃fI fd ps,findIn L.p.K (.ref (L.p.cl 4)) "__init__" = some (some (.ref fI))/\typeIn L.p.K (.ref fI)=some (.type "function")/\FnOk L.P L.w L.p.K L.mg L.base (CXe L.P L.w) 1 fI fd ps (spI (L.p.cl 4) "at")/\Binds L.p.K fd ps []
 |.ax=>L.p.has 4=true/\XOwn L.p.K (L.p.cl 4) "at"
 |.gl x d=>∃u,L.mg x=some u/\RelV (dT d).val u
abbrev AllN(f:Nd1->Prop):List Nd1->Prop
 |[]=>True
 |n::r=>f n/\AllN f r
theorem AllN.mem{f:Nd1->Prop}:∀{l:List Nd1},AllN f l->∀n∈l,f n
 |[],_,n,h=>by cases h
 |m::r,h,n,hn=>by
  rcases aak.mp hn with rfl|hn
  ·exact h.1
  ·exact AllN.mem h.2 n hn
abbrev Au(name:Str)(ar lv dep n:Nat)(body:Ss):Fn:=⟨name,ar,lv,dep,fun ds=>if ds.length=ar then run n body ds else .bad⟩
theorem Am{x:Str}{ar lv dep n:Nat}{b:Ss}{ds:List D}(h:ds.length=ar):(Au x ar lv dep n b).den ds=run n b ds:=if_pos h
abbrev m0(ar n:Nat):Ms:=aam ar .sh++aam (n-ar) .dead
abbrev τ0(n:Nat)(ts:List T):Ft:=ts.map some++aam (n-ts.length) none
theorem vτ0(N:List Str)(ts:List T):vτ (τ0 N.length ts)=L2.AS N (ts.map T.val):=by
 unfold vτ τ0 L2.AS
 rw[aaq,aaB,aaB,abm,aab]
 rfl
theorem dτ0(n:Nat)(ts:List T):dτ (τ0 n ts)=Pu.AS n (T.dats ts):=by
 unfold dτ τ0 Pu.AS
 rw[aaq,aaB,T.dats_map,aaB,abm,aab]
 rfl
theorem Lv{ar n i:Nat}{d:Md}(h:(m0 ar n)[i]?=some d):(i<ar/\d=.sh)\/(ar<=i/\d=.dead):=by
 unfold m0 at h
 by_cases hi:i<ar
 ·rw[aa0 (by simpa using hi),aa8,if_pos hi]at h
  exact .inl ⟨hi,(Option.some.inj h).symm⟩
 ·rw[aaT (by simpa using hi),aa8]at h
  split at h
  ·exact .inr ⟨abW hi,(Option.some.inj h).symm⟩
  ·cases h
theorem M1{n i:Nat}{ts:List T}{t:T}(h:(τ0 n ts)[i]?=some (some t)):t∈ts:=by
 unfold τ0 at h
 have:=aaj h
 rw[aag]at this
 rcases this with z|z
 ·obtain⟨u,hu,e⟩:=aat.mp z
  cases e;exact hu
 ·have:=(ab3.mp z).2;cases this
theorem M2{p:Px}{H:Hp}:∀{ts:List T},T.Oks p H ts->∀t∈ts,t.Ok p H
 |[],_,t,h=>by cases h
 |u::r,h,t,ht=>by
  rcases aak.mp ht with rfl|ht
  ·exact h.1
  ·exact M2 h.2 t ht
theorem sf0{p:Px}{H:Hp}{ts:List T}{n ar:Nat}(ok:T.Oks p H ts)(hl:ts.length=ar)(hn:ar<=n):Sf p H (fun a=>a∈T.rests ts 0) (m0 ar n) (τ0 n ts) H:=by
 have noOw:∀{i k:Nat},(m0 ar n)[i]?≠some (.ow k):=fun {i k} h=>by
  rcases Lv h with⟨_,z⟩|⟨_,z⟩<;>cases z
 refine⟨?_,fun d hd=>?_,Same.refl _,fun i t j h1 h2 h3=>M2 ok t (M1 h1),fun i t k a h1 h2=>absurd h2 noOw,?_,fun i t k h1 h2=>absurd h2 noOw,fun i j t u k d h0 h1 h2=>absurd h2 noOw,fun i j t u k k2 h1 h2=>absurd h2 noOw⟩
 ·unfold τ0 m0
  simp[hl]
 ·obtain⟨i,hi⟩:=acZ hd
  rcases Lv hi with⟨_,rfl⟩|⟨_,rfl⟩<;>rfl
 ·rintro a ⟨i,t,j,h1,h2,h3,h4⟩
  obtain⟨d,h5,rfl⟩:=Bq h2
  right
  refine T.mem_rests.mpr ⟨t,M1 h1,?_⟩
  rcases Lv h5 with⟨_,rfl⟩|⟨_,rfl⟩
  ·exact h4
  ·exact absurd h3 (by decide)
theorem NeedG.to{L:Lw}{lv:Nat}{n:Nd1}(h:NeedG L lv n){X:Cx}(e1:X.prog=L.P)(e2:X.w=L.w)(e3:X.K=L.p.K)(e4:X.mg=L.mg)(e5:X.base=L.base):NeedOk L.p lv X n:=by
 cases n with
 |fn F=>
  refine⟨h.1,?_⟩
  unfold NR
  rw[e1,e2,e3,e4,e5]
  exact h.2
 |fm F=>
  refine⟨h.1,?_⟩
  unfold VG
  rw[e1,e2,e3,e4,e5]
  exact h.2
 |fc F=>
  refine⟨h.1,?_⟩
  unfold VH
  rw[e1,e2,e3,e4,e5]
  exact h.2
 |cl n=>show _/\_;rw[e4];exact h
 |rs n=>show _/\_/\_;rw[e3];exact h
 |f0 F=>
  refine⟨h.1,?_⟩
  unfold RQ
  rw[e1,e2,e3,e4,e5]
  exact h.2
 |mk n=>show _/\_/\_/\_;rw[e3];exact h
 |ma=>show _/\_/\_;rw[e1,e2,e3,e4,e5];exact h
 |ax=>show _/\_;rw[e3];exact h
 |gl x d=>show ∃u,_;rw[e4];exact h
theorem PJ{L:Lw}(O:L.Ok){x:Str}{st:Stmt}{N ps:List Str}{ar lv dep:Nat}{body:Ss}{f:Addr}{fd:FuncData}(D:Fun L.p.K x x st f fd)(S:FnScope N ps (Ao st))(har:ps.length=ar)
  (hck:ckSs ⟨N,Ao st,true,true,true⟩ body (AU st)=true) (hms:(msSs (aam N.length .dead) dep body (m0 ar N.length)).isSome=true) (hn:AllN (NeedG L lv) body.need) (hdp:dep<1000):FnOk L.P L.w L.p.K L.mg L.base (CXe L.P L.w) (lv+1) f fd ps (spF L.p (Au x ar (lv+1) dep N.length body)):=by
 have hpl:ps.length<=N.length:=by have:=congrArg aa1 S.pre;rw[abV]at this;omega
 refine Fun.okX D S (fun vs H Q E h=>?_) fun f cdv A outer s H vs Q E hr hsp=>?_
 ·obtain⟨ts,rfl,_,h,_⟩:=h
  rw[aab,h];exact har.symm
 ·obtain⟨ts,rfl,ok,hl,h⟩:=hsp
  have hl:ts.length=ar:=hl
  obtain⟨r,hr'⟩:=aaN.mp hms
  let Z:Zx:=⟨L.p,H,fun a=>a∈T.rests ts 0,fun _=>E,aam N.length .dead,dep⟩
  have C:Cs Z ⟨N,Ao st,true,true,true⟩ lv (AM (CXe L.P L.w) L.P L.w L.p.K L.mg L.base N x (Ao st) f cdv A outer s H E) E:=by
   refine⟨⟨rfl,rfl,rfl,S.nd,fun _=>rfl,fun _=>hr,hr.units,hr.r0,O.blt,O.bt,?_,fun _ _=>rfl,O.kx,fun _=>trivial⟩,fun _=>rfl,fun _=>⟨Qt fun _ _ _ h=>h,O5 fun _ _ _ h=>h⟩,fun _=>PassesOwn.leaving,S.kind,rfl,rfl⟩
   intro pins σ H' s' e s'' I h
   exact RK (fun _ _ _ h=>h) pins σ H' s' e s'' I h
  refine⟨_,sndSs C body (AU st) (fun n hnm=>(hn.mem n hnm).to rfl rfl rfl rfl rfl) hck,τ0 N.length ts,m0 ar N.length,r,(vτ0 N ts).symm,sf0 ok hl (by omega),hr',?_⟩
  have h:match (if(T.dats ts).length=ar then run N.length body (T.dats ts) else .bad) with
   |.ok d=>∀t H',t.dat=d->Rs L.p (fun a=>a∈T.rests ts 0) H H' 0 dep t->Q t.val H'
   |.exc c=>L.p.has (kcX c)=true->∀H',Same H H'->XW L.p E c H'
   |.bad=>False:=h
  rw[if_pos (by rw[T.dats_map,aab];exact hl)]at h
  unfold run at h
  rw[dτ0]
  cases q:exs body (Pu.AS N.length (T.dats ts)) with
  |nxt δ=>
   rw[q]at h
   intro m' τ' H' e1 e2 S' P'
   exact h .non H' rfl (Rs.scal S'.same rfl)
  |ret d=>
   rw[q]at h
   show lRet Z _ d _ _
   unfold lRet
   rw[if_pos (show Z.dep<1000 from hdp)]
   exact h
  |exc c δ=>
   rw[q]at h
   intro hc τ' H' e S' P'
   exact h hc H' S'.same
  |bad=>rw[q]at h;exact h.elim
theorem TK{L:Lw}(O:L.Ok){x:Str}{st:Stmt}{N ps:List Str}{ar lv dep:Nat}{body:Ss}(D:Df L.p.K L.mg x st ps)(S:FnScope N ps (Ao st))(har:ps.length=ar)
  (hck:ckSs ⟨N,Ao st,true,true,true⟩ body (AU st)=true) (hms:(msSs (aam N.length .dead) dep body (m0 ar N.length)).isSome=true) (hn:AllN (NeedG L lv) body.need) (hdp:dep<1000):N8 L (Au x ar (lv+1) dep N.length body):=by
 obtain⟨f,fd,F,m,b⟩:=D
 exact⟨ps,har,f,fd,PJ O F S har hck hms hn hdp,m,F.kp,b⟩
theorem TL{L:Lw}{x:Str}{st:Stmt}{ps:List Str}{lv dep:Nat}(D:Df L.p.K L.mg x st ps):N8 L ⟨x,ps.length,lv,dep,fun _=>.bad⟩:=by
 obtain⟨f,fd,F,m,b⟩:=D
 exact⟨ps,rfl,f,fd,⟨fun _ _ _ _ h=>(let ⟨_,_,_,_,h⟩:=h;(show False from h).elim),fun _ _ _ _ _ _ _ _ _ _ _ _ _ h=>(let ⟨_,_,_,_,h⟩:=h;(show False from h).elim)⟩,m,F.kp,b⟩
abbrev X6:Value->Bool
 |.type x=>x == "list"
 |_=>false
abbrev noL(K:Frag):Bool:=K.all fun e=>!X6 e.2.cls
theorem PK{a:Addr}{o:Obj}:∀{K:Frag},K.lookup a=some o->(a,o)∈K
 |[],h=>by cases h
 | (b,u)::r,h=>by
  by_cases e:a=b
  ·subst e
   rw[List.lookup_cons_self]at h
   cases h
   exact aac
  ·have:(a==b)=false:=by simpa using e
   rw[List.lookup_cons,this]at h
   exact aaa _ (PK h)
theorem V7{K:Frag}(h:noL K=true){a:Addr}{o:Obj}(e:K.lookup a=some o):o.cls≠.type "list":=fun z=>by
 have:=aas.mp h (a,o) (PK e)
 rw[z]at this
 cases this
abbrev spL(K:Frag):Sp:=fun vs H Q E=>∃(a:Addr)(ns:List Int),vs=[.ref a]/\ns.length<=63/\SqL K H a (ns.map V.int)/\∀H',Q (.bl true) H'
theorem Lx:∀ns:List Int,(ns.map T.int).map T.val=ns.map V.int
 |[]=>rfl
 |n::r=>by rw[aaI,aaI,aaI,Lx r];rfl
theorem Ly:∀ns:List Int,T.dats (ns.map T.int)=ns.map D.int
 |[]=>rfl
 |n::r=>by rw[aaI,aaI,T.dats,Ly r];rfl
theorem M3{p:Px}{H:Hp}:∀ns:List Int,T.Oks p H (ns.map T.int)
 |[]=>trivial
 |n::r=>⟨trivial,M3 r⟩
theorem V8{P:Program}{w:World}{K:Frag}{mg:Str->Option Value}{base:Heap}{p:Px}{F:Fn}{f:Addr}{fd:FuncData}{ps:List Str}(hF:FnOk P w K mg base (CXe P w) F.lv f fd ps (spF p F))(hp:p.K=K)(ha:F.ar=1)(hK:noL K=true)
  (hd:∀ns:List Int,ns.length<=63->F.den [.lst (ns.map .int)]=.ok (.bl true)):FnOk P w K mg base (CXe P w) F.lv f fd ps (spL K):=by
 refine hF.imp fun vs H Q E h=>?_
 obtain⟨a,ns,rfl,hl,hS,q⟩:=h
 have hR:Rd H a (.lst (ns.map V.int)):=by
  rcases hS with h|⟨o,its,n,e,c,_⟩
  ·exact h
  ·exact absurd c (V7 hK e)
 refine⟨[.lst a (ns.map T.int)],rfl,⟨⟨by rw[Lx];exact hR,M3 ns⟩,trivial⟩,ha.symm,?_⟩
 have e:T.dats [T.lst a (ns.map T.int)]=[.lst (ns.map .int)]:=by
  show [D.lst (T.dats (ns.map T.int))]=_
  rw[Ly]
 rw[e,hd ns hl]
 intro t H' ht R
 cases t<;>first|cases ht|skip
 exact q H'
theorem W4{l:PySem.W.OpenLaw}{k:Nat}{q:Program}{loose:List Str}{XP:(Str->Option Value)->Heap->Prop}{YP:World->Heap->Prop}{d:DefRec}{K:Params->PySem.W.Frag}{x:Str}(hn:l.most=some 63)(hdf:d.params.defaults=[])(hr:Room k callerA)
  (hY:∀(w:World)(h:Heap),YP w h->(K w.params).In h)
  (F:∀(w:World)(mg:Str->Option Value)(fa:Addr)(h:Heap),(K w.params).In h->h.Ns mainGlobals mg->mg d.name=some (.ref fa)->
   ∃fd:FuncData,(∀(s:Shared)(u:Value),BindsTo s fd ⟨[u],[]⟩ [(x,u)])/\∀base:Heap,(K w.params).In base->base.Ns mainGlobals mg->FnOk l.prog w (K w.params) mg base (CXe l.prog w) k fa fd [x] (spL (K w.params))) :
  PySem.W.WalkO q loose XP YP l.row.toRowW d [] (fun f vs=>PySem.call f vs) :=
 L2.Su (n:=63) (k:=k) (x:=x) (CX:=fun w=>CXe l.prog w) (sp:=fun w=>spL (K w.params)) hn (by decide) hdf hr hY F (fun _ _ a ns hl _ hS=>⟨a,ns,rfl,hl,hS,fun _=>rfl⟩) fun w H s e s' h=>by
  obtain⟨_,_,_,_,_,_,_,_,_,_,_,_,_,_,_,_,_,_,_,_,z⟩:=h
  exact z
abbrev Av(K:Frag)(x:Str)(st:Stmt):Prop:=∃(f:Addr)(oc:Value)(od an:Option Addr)(sl:Array (Option Value))(kV dc pm cd ct:Value),nsIn K mainGlobals x=some (some (.ref f))/\K.lookup f=some ⟨oc,od,.func (fnOf x x (Cl st) (AU st) (Ao st) .none kV dc pm an cd ct),sl⟩/\codeIn K cd x=true/\keepIn K (.ref f)=true
theorem Az{K:Frag}{x:Str}{st:Stmt}{f:Addr}{oc:Value}{od an:Option Addr}{sl:Array (Option Value)}{kV dc pm cd ct:Value}(a:nsIn K mainGlobals x=some (some (.ref f)))(l:K.lookup f=some ⟨oc,od,.func (fnOf x x (Cl st) (AU st) (Ao st) .none kV dc pm an cd ct),sl⟩)(c:codeIn K cd x=true)(k:keepIn K (.ref f)=true):Av K x st:=⟨f,oc,od,an,sl,kV,dc,pm,cd,ct,a,l,c,k⟩
theorem Al{K:Frag}{h:Heap}{mg:Str->Option Value}{x:Str}{st:Stmt}{ps:List Str}(X:K.In h)(G:h.Ns mainGlobals mg)(t:Av K x st)(hb:∀(kV doc pm:Value)(an:Option Addr)(cdv ct:Value)(us:List Value),us.length=ps.length->bindArgs (fnOf x x (Cl st) (AU st) (Ao st) .none kV doc pm an cdv ct) ⟨us,[]⟩=pure (ps.zip us)):Df K mg x st ps:=by
 obtain⟨f,oc,od,an,sl,kV,dc,pm,cd,ct,a,l,c,k⟩:=t
 exact WP X G a l c k hb
theorem ba1{fd:FuncData}{a0:Str}(h:∀u0:Value,bindArgs fd ⟨[u0],[]⟩=pure [(a0,u0)]):∀us:List Value,us.length=([a0]:List Str).length->bindArgs fd ⟨us,[]⟩=pure (([a0]:List Str).zip us)
 |[u0],_=>h u0
theorem ba2{fd:FuncData}{a0 a1:Str}(h:∀u0 u1:Value,bindArgs fd ⟨[u0,u1],[]⟩=pure [(a0,u0),(a1,u1)]):∀us:List Value,us.length=([a0,a1]:List Str).length->bindArgs fd ⟨us,[]⟩=pure (([a0,a1]:List Str).zip us)
 |[u0,u1],_=>h u0 u1
theorem ba3{fd:FuncData}{a0 a1 a2:Str}(h:∀u0 u1 u2:Value,bindArgs fd ⟨[u0,u1,u2],[]⟩=pure [(a0,u0),(a1,u1),(a2,u2)]):∀us:List Value,us.length=([a0,a1,a2]:List Str).length->bindArgs fd ⟨us,[]⟩=pure (([a0,a1,a2]:List Str).zip us)
 |[u0,u1,u2],_=>h u0 u1 u2
theorem ba4{fd:FuncData}{a0 a1 a2 a3:Str}(h:∀u0 u1 u2 u3:Value,bindArgs fd ⟨[u0,u1,u2,u3],[]⟩=pure [(a0,u0),(a1,u1),(a2,u2),(a3,u3)]):∀us:List Value,us.length=([a0,a1,a2,a3]:List Str).length->bindArgs fd ⟨us,[]⟩=pure (([a0,a1,a2,a3]:List Str).zip us)
 |[u0,u1,u2,u3],_=>h u0 u1 u2 u3
theorem ba6{fd:FuncData}{a0 a1 a2 a3 a4 a5:Str}(h:∀u0 u1 u2 u3 u4 u5:Value,bindArgs fd ⟨[u0,u1,u2,u3,u4,u5],[]⟩=pure [(a0,u0),(a1,u1),(a2,u2),(a3,u3),(a4,u4),(a5,u5)]):∀us:List Value,us.length=([a0,a1,a2,a3,a4,a5]:List Str).length->bindArgs fd ⟨us,[]⟩=pure (([a0,a1,a2,a3,a4,a5]:List Str).zip us)
 |[u0,u1,u2,u3,u4,u5],_=>h u0 u1 u2 u3 u4 u5
structure ClsF(K:Frag)(x:Str)(C:Addr):Prop where
 q:nsIn K mainGlobals x=some (some (.ref C))
 x:XCls K C
 t:∀T∈(["int", "bool", "str", "list", "tuple", "dict"]:List String),kitOne K (.ref C) (.type T)=some false
 v:kitOne K (.ref C) (.type "ValueError")=some true
 s:subIn K (.ref C) (.ref C)=some true
theorem N9{K:Frag}{x:Str}{C:Addr}{cd:ClassData}(q:nsIn K mainGlobals x=some (some (.ref C)))
  (ga:findIn K (.ref C) "__getattribute__" = some (some (.builtin "BaseException.__getattribute__"))) (gn:findIn K (.ref C) "__getattr__" = some none) (sb:subIn K (.ref C) (.type "BaseException")=some true)
  (cl:findIn K (.ref C) "__class__" = some (some (.builtin "object.__class__"))) (mo:mroIn K C (.type "object")=some true) (ty:typeIn K (.ref C)=some (.type "type")) (cc:clsIn K C=some cd)
  (t1:kitOne K (.ref C) (.type "int")=some false) (t2:kitOne K (.ref C) (.type "bool")=some false) (t3:kitOne K (.ref C) (.type "str")=some false) (t4:kitOne K (.ref C) (.type "list")=some false) (t5:kitOne K (.ref C) (.type "tuple")=some false) (t6:kitOne K (.ref C) (.type "dict")=some false)
  (v:kitOne K (.ref C) (.type "ValueError")=some true) (s:subIn K (.ref C) (.ref C)=some true):ClsF K x C:=by
 refine⟨q,⟨ga,gn,sb,cl,mo,ty,by rw[cc];rfl⟩,fun T hT=>?_,v,s⟩
 simp only[aak,List.not_mem_nil,or_false]at hT
 rcases hT with rfl|rfl|rfl|rfl|rfl|rfl<;>assumption
@[reducible]noncomputable def Cs':=List (Nat×Addr)
abbrev clA:Cs'->Nat->Addr
 |[],_=>0
 | (c,a)::r,n=>if n=c then a else clA r n
abbrev BH:Cs'->Nat->Bool
 |[],_=>false
 | (c,_)::r,n=>(n==c&&decide (c<1000))||BH r n
abbrev AllC{α:Type}(f:α->Prop):List α->Prop
 |[]=>True
 |q::r=>f q/\AllC f r
theorem AllC.mem{α:Type}{f:α->Prop}:∀{l:List α},AllC f l->∀n∈l,f n
 |[],_,n,h=>by cases h
 |m::r,h,n,hn=>by
  rcases aak.mp hn with rfl|hn
  ·exact h.1
  ·exact AllC.mem h.2 n hn
theorem Dz:∀{cs:Cs'}{n:Nat},BH cs n=true->(n,clA cs n)∈cs
 |[],n,h=>by cases h
 | (c,a)::r,n,h=>by
  unfold BH at h
  unfold clA
  by_cases e:n=c
  ·subst e;rw[if_pos rfl];exact aac
  ·rw[if_neg e]
   have:(n==c)=false:=by simpa using e
   rw[this,acq,ac3]at h
   exact aaa _ (Dz h)
theorem M4:∀{cs:Cs'}{n:Nat},BH cs n=true->n<1000
 |[],n,h=>by cases h
 | (c,a)::r,n,h=>by
  unfold BH at h
  rcases acN _ _▸h with h|h
  ·rw[aaf,beq_iff_eq,decide_eq_true_eq]at h
   rw[h.1];exact h.2
  ·exact M4 h
theorem W5{K:Frag}{cs:Cs'}(h9:BH cs 999=false)(h:AllC (fun q=>ClsF K (AV q.1) q.2) cs)(y:AllC (fun q=>AllC (fun r=>kitOne K (.ref q.2) (.ref r.2)=some (isa q.1 r.1)) cs) cs):Kx ⟨K,clA cs,BH cs⟩ :=
 ⟨h9,fun c hc=>M4 hc,fun c hc=>(h.mem _ (Dz hc)).s,fun c hc=>(h.mem _ (Dz hc)).x,fun c hc=>(h.mem _ (Dz hc)).t,fun c hc=>(h.mem _ (Dz hc)).v,fun c d hc hd=>(y.mem _ (Dz hc)).mem _ (Dz hd)⟩
theorem W6{K:Frag}{P:Program}{w:World}{mg:Str->Option Value}{base h:Heap}{cs:Cs'}(h9:BH cs 999=false)(X:K.In h)(G:h.Ns mainGlobals mg)(nb:AllC (fun y=>nsIn K mainGlobals y=some none) (Bj++(["bool", "dict", "ValueError", "set"]:List Str)))(hc:AllC (fun q=>ClsF K (AV q.1) q.2) cs)(y:AllC (fun q=>AllC (fun r=>kitOne K (.ref q.2) (.ref r.2)=some (isa q.1 r.1)) cs) cs):Lw.Ok ⟨⟨K,clA cs,BH cs⟩,P,w,mg,base⟩ :=
 ⟨fun z hz=>mg_none_of X G (nb.mem z (aaD _ hz)),fun z hz=>mg_none_of X G (nb.mem z (aau _ hz)),W5 h9 hc y⟩
abbrev dfB(N:List Str)(ps:List Str)(st:Stmt)(b:Ss)(dep:Nat):Bool :=
 decide ((Ao st).kind=.function)&&!(Ao st).isCoroutine&&!(Ao st).isGenerator&&decide N.Nodup&&decide (N.take ps.length=ps)&&ps.all (fun x=>decide ((Ao st).names.lookup x=some .local\/(Ao st).names.lookup x=some .cell))&&(Ao st).names.all (fun y=>decide (y.2≠.free))&&ckSs ⟨N,Ao st,true,true,true⟩ b (AU st)&&(msSs (aam N.length .dead) dep b (m0 ps.length N.length)).isSome&&decide (dep<1000)
theorem Eu{N ps:List Str}{st:Stmt}{b:Ss}{dep:Nat}(h:dfB N ps st b dep=true):FnScope N ps (Ao st)/\ckSs ⟨N,Ao st,true,true,true⟩ b (AU st)=true/\(msSs (aam N.length .dead) dep b (m0 ps.length N.length)).isSome=true/\dep<1000:=by
 unfold dfB at h
 simp only[aaf,decide_eq_true_eq,aas,acB]at h
 obtain⟨⟨⟨⟨⟨⟨⟨⟨⟨h1,h2⟩,h3⟩,h4⟩,h5⟩,h6⟩,h7⟩,h8⟩,h9⟩,h10⟩:=h
 exact⟨⟨h1,h2,h3,h4,h5,h6,h7⟩,h8,h9,h10⟩
theorem An{L:Lw}(O:L.Ok){x:Str}{st:Stmt}{N ps:List Str}{lv dep:Nat}{b:Ss}(D:Df L.p.K L.mg x st ps)(h:dfB N ps st b dep=true)(hn:AllN (NeedG L lv) b.need):N8 L (Au x ps.length (lv+1) dep N.length b) :=
 TK O D (Eu h).1 rfl (Eu h).2.1 (Eu h).2.2.1 hn (Eu h).2.2.2
theorem TM{l:PySem.W.OpenLaw}{w:World}{K:Frag}{h:Heap}{mg:Str->Option Value}{fa:Addr}{cs:Cs'}{x:Str}{st:Stmt}{N:List Str}{lv dep:Nat}{b:Ss}(X:K.In h)(G:h.Ns mainGlobals mg)(hfa:mg "law" = some (.ref fa))(t:Av K "law" st)(hck:dfB N [x] st b dep=true)
  (hb:∀(kV dc pm:Value)(an:Option Addr)(cd ct:Value)(s:Shared)(v:Value),BindsTo s (fnOf "law" "law" (Cl st) (AU st) (Ao st) .none kV dc pm an cd ct) ⟨[v],[]⟩ [(x,v)])
  (O:∀base:Heap,Lw.Ok ⟨⟨K,clA cs,BH cs⟩,l.prog,w,mg,base⟩) (hn:∀base:Heap,AllN (NeedG ⟨⟨K,clA cs,BH cs⟩,l.prog,w,mg,base⟩ lv) b.need) (nl:noL K=true)
  (hden:∀ns:List Int,ns.length<=63->(Au "law" 1 (lv+1) dep N.length b).den [.lst (ns.map .int)]=.ok (.bl true)) :
  ∃fd:FuncData,(∀(s:Shared)(v:Value),BindsTo s fd ⟨[v],[]⟩ [(x,v)])/\∀base:Heap,K.In base->base.Ns mainGlobals mg->FnOk l.prog w K mg base (CXe l.prog w) (lv+1) fa fd [x] (spL K):=by
 obtain⟨f,oc,od,an,sl,kV,dc,pm,cd,ct,a,l',c,k⟩:=t
 have e:=hfa.symm.trans (mg_of X G a)
 cases e
 refine⟨_,hb kV dc pm an cd ct,fun base _ _=>?_⟩
 exact V8 (F:=Au "law" 1 (lv+1) dep N.length b) (PJ (L:=⟨⟨K,clA cs,BH cs⟩,l.prog,w,mg,base⟩) (O base) (OS (st:=st) l' c k) (Eu hck).1 rfl (Eu hck).2.1 (Eu hck).2.2.1 (hn base) (Eu hck).2.2.2) rfl rfl nl hden
mutual
noncomputable def D.sz:D->Nat
 |.tup ds=>D.szs ds+1
 |.lst ds=>D.szs ds+1
 |.non=>1
 |.bl _=>1
 |.int _=>1
 |.str _=>1
 |.exn _=>1
 |.dic _ _=>1
 |.dit _ _=>1
noncomputable def D.szs:List D->Nat
 |[]=>0
 |d::r=>d.sz+D.szs r
noncomputable def D.spo:D->D
 |.tup ds=>.tup (D.spos ds)
 |.lst ds=>.lst (D.spos ds++[.int 99])
 |.non=>.non
 |.bl b=>.bl b
 |.int i=>.int i
 |.str x=>.str x
 |.exn c=>.exn c
 |.dic ks ds=>.dic ks ds
 |.dit ks ds=>.dit ks ds
noncomputable def D.spos:List D->List D
 |[]=>[]
 |d::r=>d.spo::D.spos r
noncomputable def T.spo:T->T
 |.tup a ds=>.tup a (T.spos ds)
 |.lst a ds=>.lst a (T.spos ds++[.int 99])
 |.non=>.non
 |.bl b=>.bl b
 |.int i=>.int i
 |.str x=>.str x
 |.exn a c=>.exn a c
 |.dic a ks ds=>.dic a ks ds
 |.dit a ks ds=>.dit a ks ds
noncomputable def T.spos:List T->List T
 |[]=>[]
 |d::r=>d.spo::T.spos r
noncomputable def T.nod:T->List (Addr×List T)
 |.tup _ ts=>T.nods ts
 |.lst a ts=>(a,ts)::T.nods ts
 |.non=>[]
 |.bl _=>[]
 |.int _=>[]
 |.str _=>[]
 |.exn _ _=>[]
 |.dic _ _ _=>[]
 |.dit _ _ _=>[]
noncomputable def T.nods:List T->List (Addr×List T)
 |[]=>[]
 |t::r=>t.nod++T.nods r
end
theorem T.spos_map:∀ts:List T,T.spos ts=ts.map T.spo
 |[]=>rfl
 |t::r=>by simp[T.spos,T.spos_map r]
theorem T.spo_val(t:T):t.spo.val=t.val:=by cases t<;>rfl
theorem T.spos_val(ts:List T):(T.spos ts).map T.val=ts.map T.val:=by
 rw[T.spos_map,aaB]
 exact aaQ fun t _=>T.spo_val t
theorem D.spos_map:∀ts:List D,D.spos ts=ts.map D.spo
 |[]=>rfl
 |t::r=>by simp[D.spos,D.spos_map r]
theorem T.mem_nods{q:Addr×List T}:∀{ts:List T},q∈T.nods ts ↔ ∃t∈ts,q∈t.nod
 |[]=>by simp[T.nods]
 |t::r=>by simp[T.nods,T.mem_nods (ts:=r)]
theorem T.dats_append:∀a b:List T,T.dats (a++b)=T.dats a++T.dats b:=fun a b=>by rw[T.dats_map,T.dats_map,T.dats_map,aaq]
theorem T.spo_dat:∀t:T,t.spo.dat=t.dat.spo:=by
 refine T.ind rfl (fun _=>rfl) (fun _=>rfl) (fun _=>rfl) (fun a ts ih=>?_) (fun a ts ih=>?_) (fun _ _=>rfl) (fun _ _ _ _=>rfl) (fun _ _ _ _=>rfl)
 ·simp only[T.spo,T.dat,D.spo,T.dats_map,T.spos_map,D.spos_map,aaB]
  congr 1
  exact aaQ fun t ht=>ih t ht
 ·simp only[T.spo,T.dat,D.spo,T.dats_map,T.spos_map,D.spos_map,aaB,aaq,aaI,abb]
  congr 2
  exact aaQ fun t ht=>ih t ht
theorem Jw{f:T->T}{k:Nat}:∀{ts:List T},(∀t∈ts,(f t).adr k=t.adr k)->T.adrs (ts.map f) k=T.adrs ts k
 |[],_=>rfl
 |t::r,h=>by
  simp only[aaI,T.adrs]
  rw[h t (aac ..),Jw fun u hu=>h u (aaa _ hu)]
theorem F8{f:T->T}{k:Nat}:∀{ts:List T},(∀t∈ts,(f t).rest k=t.rest k)->T.rests (ts.map f) k=T.rests ts k
 |[],_=>rfl
 |t::r,h=>by
  simp only[aaI,T.rests]
  rw[h t (aac ..),F8 fun u hu=>h u (aaa _ hu)]
theorem T.spo_adr:∀(t:T)(k:Nat),t.spo.adr k=t.adr k:=by
 refine T.ind (fun _=>rfl) (fun _ _=>rfl) (fun _ _=>rfl) (fun _ _=>rfl) (fun a ts ih k=>?_) (fun a ts ih k=>?_) (fun _ _ _=>rfl) (fun _ _ _ _ _=>rfl) (fun _ _ _ _ _=>rfl)
 ·simp only[T.spo,T.adr,T.spos_map]
  exact Jw fun t ht=>ih t ht k
 ·cases k with
  |zero=>rfl
  |succ k=>
   simp only[T.spo,T.adr,T.spos_map,T.adrs_append,T.adrs,aaF]
   rw[Jw fun t ht=>ih t ht k]
theorem T.spo_rest:∀(t:T)(k:Nat),t.spo.rest k=t.rest k:=by
 refine T.ind (fun _=>rfl) (fun _ _=>rfl) (fun _ _=>rfl) (fun _ _=>rfl) (fun a ts ih k=>?_) (fun a ts ih k=>?_) (fun _ _ _=>rfl) (fun _ _ _ _ _=>rfl) (fun _ _ _ _ _=>rfl)
 ·simp only[T.spo,T.rest,T.spos_map]
  exact F8 fun t ht=>ih t ht k
 ·cases k with
  |zero=>
   simp only[T.spo,T.rest,T.spos_map,T.rests_append,T.rests,aaF]
   rw[F8 fun t ht=>ih t ht 0]
  |succ k=>
   simp only[T.spo,T.rest,T.spos_map,T.rests_append,T.rests,aaF]
   exact F8 fun t ht=>ih t ht k
theorem T.spo_nd(t:T)(k:Nat)(h:t.Nd k):t.spo.Nd k:=by
 unfold T.Nd
 rw[T.spo_adr,T.spo_rest]
 exact h
theorem T.rest0:∀(t:T)(k:Nat),t.rest k=[]->t.rest 0=t.adr k:=by
 have ls:∀(ts:List T)(k:Nat),(∀t∈ts,∀k,t.rest k=[]->t.rest 0=t.adr k)->T.rests ts k=[]->T.rests ts 0=T.adrs ts k:=by
  intro ts k
  induction ts with
  |nil=>intro _ _;rfl
  |cons t r ih=>
   intro h z
   simp only[T.rests,acS]at z
   simp only[T.rests,T.adrs]
   rw[h t (aac ..) k z.1,ih (fun u hu=>h u (aaa _ hu)) z.2]
 refine T.ind (fun _ _=>rfl) (fun _ _ _=>rfl) (fun _ _ _=>rfl) (fun _ _ _=>rfl) (fun a ts ih k h=>ls ts k ih h) (fun a ts ih k h=>?_) (fun _ _ _ _=>rfl) (fun a ks ts ih k h=>?_) (fun a ks ts ih k h=>?_)
 all_goals
  cases k with
  |zero=>cases h
  |succ k=>
   simp only[T.rest,T.adr]
   rw[ls ts k ih h]
theorem TN{n:Nat}{a:Addr}{ts:List T}(h:(T.tup a ts).dat.shp n=true):∀t∈ts,∃m,t.dat.shp m=true:=by
 cases n with
 |zero=>cases h
 |succ n=>exact fun t ht=>⟨n,AO (f:=D.shp n) h t ht⟩
theorem TQ{n:Nat}{a:Addr}{ts:List T}(h:(T.lst a ts).dat.shp n=true):∀t∈ts,∃m,t.dat.shp m=true:=by
 cases n with
 |zero=>cases h
 |succ n=>exact fun t ht=>⟨n,AO (f:=D.shp n) h t ht⟩
theorem T.nod_rest:∀(t:T)(n:Nat),t.dat.shp n=true->t.nod.map Prod.fst=t.rest 0:=by
 have ls:∀ts:List T,(∀t∈ts,∀n,t.dat.shp n=true->t.nod.map Prod.fst=t.rest 0)->(∀t∈ts,∃n,t.dat.shp n=true)->(T.nods ts).map Prod.fst=T.rests ts 0:=by
  intro ts
  induction ts with
  |nil=>intro _ _;rfl
  |cons t r ih=>
   intro h z
   obtain⟨n,hn⟩:=z t (aac ..)
   simp only[T.nods,T.rests,aaq]
   rw[h t (aac ..) n hn,ih (fun u hu=>h u (aaa _ hu)) fun u hu=>z u (aaa _ hu)]
 refine T.ind (fun _ _=>rfl) (fun _ _ _=>rfl) (fun _ _ _=>rfl) (fun _ _ _=>rfl) (fun a ts ih n h=>ls ts ih (TN h)) (fun a ts ih n h=>?_) (fun _ _ n h=>by cases n<;>cases h) (fun a ks ts ih n h=>by cases n<;>cases h) (fun a ks ts ih n h=>by cases n<;>cases h)
 simp only[T.nod,T.rest,aaI]
 rw[ls ts ih (TQ h)]
abbrev T.isLT:T->Bool
 |.tup _ _=>true
 |.lst _ _=>true
 |_=>false
abbrev T.isL:T->Bool
 |.lst _ _=>true
 |_=>false
theorem T.szs_pos(t:T):0<t.dat.sz:=by cases t<;>simp[T.dat,D.sz]
theorem D.szs_append:∀a b:List D,D.szs (a++b)=D.szs a+D.szs b
 |[],b=>by simp[D.szs]
 |x::r,b=>by simp[D.szs,D.szs_append r b,Nat.add_assoc]
theorem FP:∀ts:List T,ts.length<=D.szs (T.dats ts)
 |[]=>aai _
 |t::r=>by
  have h1:=FP r
  have h2:=T.szs_pos t
  simp only[T.dats,D.szs,aaL];omega
theorem F9(f:T->Bool):∀ts:List T,D.szs (T.dats (ts.filter f))<=D.szs (T.dats ts)
 |[]=>aai _
 |t::r=>by
  have h1:=F9 f r
  cases h:f t<;>simp[abI,h,T.dats,D.szs]<;>omega
theorem B5:∀(n:Nat)(d:D),d.shp n=true->d.shp (n+1)=true:=by
 intro n
 induction n with
 |zero=>intro d h;cases d<;>first|exact h|cases h
 |succ n ih=>
  intro d h
  cases d with
  |tup ds=>exact aas.mpr fun x hx=>ih x (aas.mp (show ds.all (D.shp n)=true from h) x hx)
  |lst ds=>exact aas.mpr fun x hx=>ih x (aas.mp (show ds.all (D.shp n)=true from h) x hx)
  |_=>exact h
section
variable{X:Cx}{p:Px}
theorem Jx{K:Frag}{H:Hp}{t:T}{n:Nat}(ok:t.Ok p H)(sh:t.dat.shp n=true):∃ty,TyOf K H t.val ty/\kitAny K ty [.type "list",.type "tuple"]=some t.isLT/\kitOne K ty (.type "list")=some t.isL:=by
 cases t with
 |non=>exact⟨_,.non,rfl,rfl⟩
 |bl b=>exact⟨_,.bl b,rfl,rfl⟩
 |int i=>exact⟨_,.int i,rfl,rfl⟩
 |str x=>exact⟨_,.str x,rfl,rfl⟩
 |tup a ts=>exact⟨_,.tup ok.1,rfl,rfl⟩
 |lst a ts=>
  rcases ok.1 with h|⟨o,h⟩
  ·exact⟨_,.lst h,rfl,rfl⟩
  ·exact⟨_,.frz h,rfl,rfl⟩
 |exn a c=>cases n<;>cases sh
 |dic a ks ts=>cases n<;>cases sh
 |dit a ks ts=>cases n<;>cases sh
abbrev W7(K:Frag):List V->Hp->VK->Prop:=fun xs H Q=>∃(x:V)(tp:Addr)(t:Value)(b:Bool),xs=[x,.ref tp]/\H tp=some (.tup [.ty "list",.ty "tuple"])/\TyOf K H x t/\kitAny K t [.type "list",.type "tuple"]=some b/\Q (.bl b) H
theorem PL:Eg X (.builtin "isinstance") (W7 X.K):=by
 intro pins s σ H xs us Q I r h
 obtain⟨x,tp,t,b,rfl,ht,ty,e,q⟩:=h
 obtain⟨u,w',rfl,ru,rw'⟩:=Nw r
 cases (show w'=Value.ref tp from rw')
 obtain⟨_,its,rel,o,ho,hc,n,hd⟩:=I.hok tp _ ht
 obtain⟨v1,v2,rfl,r1,r2⟩:=rel.two
 cases (show v1=Value.type "list" from r1)
 cases (show v2=Value.type "tuple" from r2)
 obtain⟨oc,dd,od,sl⟩:=o
 cases hc
 cases hd
 have fin:∀tk,EP X pins σ Q (.bool b) {s with toks:=tk}:=fun tk=>⟨.bl b,H,I.tok tk,rfl,q⟩
 cases ty with
 |non=>cases (show u=Value.none from ru);exact kia_tup kitx_none I.kIn True.intro ho e (fun z=>nomatch z) fin
 |bl y=>cases (show u=Value.bool y from ru);exact kia_tup kitx_bool I.kIn True.intro ho e (fun z=>nomatch z) fin
 |int i=>obtain⟨t,q⟩:=(show ∃t,u=Value.int i t from ru);cases q;exact kia_tup kitx_int I.kIn True.intro ho e (fun z=>nomatch z) fin
 |str y=>obtain⟨t,q⟩:=(show ∃t,u=Value.str y t from ru);cases q;exact kia_tup kitx_str I.kIn True.intro ho e (fun z=>nomatch z) fin
 |flt y=>obtain⟨t,q⟩:=(show ∃t,u=Value.float y t from ru);cases q;exact kia_tup kitx_float I.kIn True.intro ho e (fun z=>nomatch z) fin
 |@lst a xs ea=>
  cases (show u=Value.ref a from ru)
  obtain⟨_,_,n,_,h1⟩:=(show ObjOk X.prog X.w H s.heap a (.lst xs) from I.hok a _ ea)
  exact kia_tup kitx_list I.kIn ⟨_,h1,rfl⟩ ho e (fun z=>nomatch z) fin
 |@frz a ob xs ea=>
  cases (show u=Value.ref a from ru)
  obtain⟨_,_,_,n,_,h1⟩:=(show ObjOk X.prog X.w H s.heap a (.frz ob (.lst xs)) from I.hok a _ ea)
  exact kia_tup kitx_list I.kIn ⟨_,h1,rfl⟩ ho e (fun z=>nomatch z) fin
 |@tup a xs ea=>
  cases (show u=Value.ref a from ru)
  obtain⟨_,_,_,pp⟩:=(show ObjOk X.prog X.w H s.heap a (.tup xs) from I.hok a _ ea)
  obtain⟨o,h1,h2,_⟩:=pp
  exact kia_tup kitx_tuple I.kIn ⟨o,h1,h2⟩ ho e (fun z=>nomatch z) fin
 |@dK a kvs ea=>
  cases (show u=Value.ref a from ru)
  obtain⟨_,_,vs,_,pp⟩:=(show ObjOk X.prog X.w H s.heap a (.dK kvs) from I.hok a _ ea)
  obtain⟨o,es,ep,h1,h2,_⟩:=pp
  exact kia_tup kitx_dict I.kIn ⟨o,h1,h2.1⟩ ho e (fun z=>nomatch z) fin
 |@dT a kvs ea=>
  cases (show u=Value.ref a from ru)
  obtain⟨_,_,xs,_,o,es,ep,h1,h2,_⟩:=(show ObjOk X.prog X.w H s.heap a (.dT kvs) from I.hok a _ ea)
  exact kia_tup kitx_dict I.kIn ⟨o,h1,h2.1⟩ ho e (fun z=>nomatch z) fin
 |@ins a C dx fs ea cl ha hn htk hm=>
  cases (show u=Value.ref a from ru)
  obtain⟨mA,O,_⟩:=MC I.hok ea
  obtain⟨od,J,_⟩:=O.look
  exact kia_tup (kitx_own (cl.get _) cl.hd ha hn htk hm) I.kIn J ho e (fun z=>nomatch z) fin
abbrev tLT(K:Frag)(i:Nat):TT:=fun σ H Q=>∃(x:V)(t:Value)(b:Bool),σ[i]?=some (some x)/\TyOf K H x t/\kitAny K t [.type "list",.type "tuple"]=some b/\∀H',Same H H'->Q b H'
theorem TyOf.same{K:Frag}{H H':Hp}{x:V}{t:Value}(s:Same H H')(y:TyOf K H x t):TyOf K H' x t:=by
 cases y with
 |non=>exact .non
 |bl x=>exact .bl x
 |int i=>exact .int i
 |str x=>exact .str x
 |flt x=>exact .flt x
 |lst e=>exact .lst (s _ _ e)
 |frz e=>exact .frz (s _ _ e)
 |tup e=>exact .tup (s _ _ e)
 |dK e=>exact .dK (s _ _ e)
 |dT e=>exact .dT (s _ _ e)
 |ins e cl ha hn htk hm=>exact .ins (s _ _ e) cl ha hn htk hm
theorem Fg{H:Hp}{a:Addr}{o:HO}(h:H a=none):Same H (L2.upd H a o):=fun b u e=>by
 rw[L2.Ah (fun z=>by subst z;rw[h]at e;cases e)];exact e
theorem RX{i:Nat}{x:Str}{p1 p2 p3 p4 p5 p6:Pos}{kt:Nat}(hx:PE X (.Name x p2) (DG i))(g1:Gl X "isinstance")(g2:Gl X "list")(g3:Gl X "tuple")(m1:X.mg "isinstance" = none)(m2:X.mg "list" = none)(m3:X.mg "tuple" = none) :
  PT X (.Call (.Name "isinstance" p1) [.Name x p2,.Tuple [.Name "list" p3,.Name "tuple" p4] kt p5] [] p6) (tLT X.K i):=by
 have h:=HI (D0 (p:=p1) (pos:=p6) PL g1 m1 (by decide +kernel) (Ar hx (Ar (KD (x1:=kt) (pos:=p5) (Ar (G7 (v:=.ty "list") (pos:=p3) g2 m2 (by decide +kernel) rfl) (Ar (G7 (v:=.ty "tuple") (pos:=p4) g3 m3 (by decide +kernel) rfl) AW))) AW))) (fun _=>rfl)
 intro pins s σ H Q I q
 refine h pins s σ H Q I ?_
 obtain⟨v,t,b,e1,ty,e2,q⟩:=q
 refine⟨v,e1,by show 2<=sizeLine;decide,fun tp htp=>⟨v,tp,t,b,rfl,L2.Aq,TyOf.same (Fg htp) ty,e2,b,rfl,q _ (Fg htp)⟩⟩
abbrev tL1(K:Frag)(i:Nat):TT:=fun σ H Q=>∃(x:V)(t:Value)(b:Bool),σ[i]?=some (some x)/\TyOf K H x t/\kitOne K t (.type "list")=some b/\Q b H
theorem W8{i:Nat}{x:Str}{p1 p2 p3 p6:Pos}(hx:PE X (.Name x p2) (DG i))(g1:Gl X "isinstance")(g2:Gl X "list")(m1:X.mg "isinstance" = none)(m2:X.mg "list" = none) :
  PT X (.Call (.Name "isinstance" p1) [.Name x p2,.Name "list" p3] [] p6) (tL1 X.K i):=by
 have h:=HI (D0 (p:=p1) (pos:=p6) KP g1 m1 (by decide +kernel) (Ar hx (Ar (G7 (v:=.ty "list") (pos:=p3) g2 m2 (by decide +kernel) rfl) AW))) (fun _=>rfl)
 intro pins s σ H Q I q
 refine h pins s σ H Q I ?_
 obtain⟨v,t,b,e1,ty,e2,q⟩:=q
 exact⟨v,e1,v,.ty "list",.type "list",t,b,rfl,rfl,.of ty,e2,b,rfl,q⟩
end
structure SpI(p:Px)(t:T)(H0:Hp)(sp:Addr)(us:List T)(H:Hp):Prop where
 st:H sp=some (.lst (us.map T.val))
 ok:T.Oks p H us
 sh:∀u∈us,u.dat.shp 7=true
 nd:(T.rests us 0).Nodup
 mu:∀b∈T.rests us 0,Mu H b
 sb:∀q∈T.nods us,q∈t.nod
 kp:∀b u,H0 b=some u->b∉t.rest 0->H b=some u
 dn:∀q∈t.nod,q.1∉T.rests us 0->H q.1=some (.lst (q.2.map T.val++[.int 99]))
 nt:t.dat.shp 7=true
 ntd:(t.rest 0).Nodup
 ns:sp∉t.rest 0
section
variable{p:Px}{t:T}{H0:Hp}{sp:Addr}{us:List T}{H:Hp}
theorem J1:∀{us:List T},(∀u∈us,u.dat.shp 7=true)->(T.nods us).map Prod.fst=T.rests us 0
 |[],_=>rfl
 |u::r,h=>by
  simp only[T.nods,T.rests,aaq]
  rw[T.nod_rest u 7 (h u (aac ..)),J1 fun v hv=>h v (aaa _ hv)]
theorem SpI.in(S:SpI p t H0 sp us H){b:Addr}(h:b∈T.rests us 0):b∈t.rest 0:=by
 rw[<- J1 S.sh]at h
 obtain⟨q,hq,rfl⟩:=aat.mp h
 rw[<- T.nod_rest t 7 S.nt]
 exact aat.mpr ⟨q,S.sb q hq,rfl⟩
theorem TR{q q':Addr×List T}(n:(t.rest 0).Nodup)(s:t.dat.shp 7=true)(h:q∈t.nod)(h':q'∈t.nod)(e:q.1=q'.1):q=q':=by
 rw[<- T.nod_rest t 7 s]at n
 have key:∀l:List (Addr×List T),(l.map Prod.fst).Nodup->q∈l->q'∈l->q=q':=by
  intro l
  induction l with
  |nil=>intro _ h;cases h
  |cons x r ih=>
   intro n h h'
   rw[aaI,aaG]at n
   rcases aak.mp h with h1|h1
   ·rcases aak.mp h' with h2|h2
    ·rw[h1,h2]
    ·exact absurd (show x.1∈r.map Prod.fst from aat.mpr ⟨q',h2,by rw[<- e,h1]⟩) n.1
   ·rcases aak.mp h' with h2|h2
    ·exact absurd (show x.1∈r.map Prod.fst from aat.mpr ⟨q,h1,by rw[e,h2]⟩) n.1
    ·exact ih n.2 h1 h2
 exact key _ n h h'
theorem SpI.grow{H':Hp}(S:SpI p t H0 sp us H)(s:Same H H'):SpI p t H0 sp us H' :=
 ⟨s _ _ S.st,T.oks_iff.mpr fun u hu=>(T.oks_iff.mp S.ok u hu).same s,S.sh,S.nd,fun b hb=>let ⟨o,e,m⟩:=S.mu b hb;⟨o,s _ _ e,m⟩,S.sb,fun b u e n=>s _ _ (S.kp b u e n),fun q hq n=>s _ _ (S.dn q hq n),S.nt,S.ntd,S.ns⟩
theorem V9{a:Addr}{ts:List T}(ok:(T.lst a ts).Ok p H)(m:Mu H a):H a=some (.lst (ts.map T.val)):=by
 rcases ok.1 with h|⟨o,h⟩
 ·exact h
 ·obtain⟨w,e,mu⟩:=m
  rw[h]at e;cases e
  cases mu
abbrev AX:T->List T
 |.tup _ ts=>ts.filter T.isLT
 |.lst _ ts=>ts.filter T.isLT
 |_=>[]
theorem Ga:∀ts:List T,(∀u∈ts,u.dat.shp 7=true)->T.rests (ts.filter T.isLT) 0=T.rests ts 0/\T.nods (ts.filter T.isLT)=T.nods ts
 |[],_=>⟨rfl,rfl⟩
 |u::r,h=>by
  obtain⟨h1,h2⟩:=Ga r fun v hv=>h v (aaa _ hv)
  have hu:=h u (aac ..)
  cases u with
  |tup a ts=>rw[abf (by rfl)];refine⟨?_,?_⟩<;>simp only[T.rests,T.nods,h1,h2]
  |lst a ts=>rw[abf (by rfl)];refine⟨?_,?_⟩<;>simp only[T.rests,T.nods,h1,h2]
  |exn a c=>cases hu
  |dic a ks ts=>cases hu
  |dit a ks ts=>cases hu
  |_=>rw[abg (by simp[T.isLT])];refine⟨?_,?_⟩<;>simp only[T.rests,T.nods,T.rest,T.nod,h1,h2,abi]
theorem TU{u:T}(h:u.dat.shp 7=true):∀v∈AX u,v.dat.shp 7=true:=by
 intro v hv
 cases u with
 |tup a ts=>
  have hv:=(abn.mp hv).1
  exact B5 6 _ (AO (f:=D.shp 6) (show(T.dats ts).all (D.shp 6)=true from h) v hv)
 |lst a ts=>
  have hv:=(abn.mp hv).1
  exact B5 6 _ (AO (f:=D.shp 6) (show(T.dats ts).all (D.shp 6)=true from h) v hv)
 |_=>cases hv
theorem TV(u:T):D.szs (T.dats (AX u))<u.dat.sz:=by
 cases u with
 |tup a ts=>exact Nat.lt_succ_of_le (F9 _ ts)
 |lst a ts=>exact Nat.lt_succ_of_le (F9 _ ts)
 |_=>exact Nat.zero_lt_one
theorem TW{u:T}(h:u.Ok p H):T.Oks p H (AX u):=by
 refine T.oks_iff.mpr fun v hv=>?_
 cases u with
 |tup a ts=>exact T.oks_iff.mp h.2 v (abn.mp hv).1
 |lst a ts=>exact T.oks_iff.mp h.2 v (abn.mp hv).1
 |_=>cases hv
theorem Gb:∀a b:List T,T.nods (a++b)=T.nods a++T.nods b
 |[],b=>rfl
 |x::r,b=>by simp[T.nods,Gb r b]
theorem TX{u:T}(h:u.dat.shp 7=true):(∀q∈T.nods (AX u),q∈u.nod)/\(∀b∈T.rests (AX u) 0,b∈u.rest 0)/\((u.rest 0).Nodup->(T.rests (AX u) 0).Nodup)/\(∀b∈u.rest 0,b∈T.rests (AX u) 0\/∃ts,u=.lst b ts):=by
 cases u with
 |tup a ts=>
  obtain⟨h1,h2⟩:=Ga ts fun v hv=>B5 6 _ (AO (f:=D.shp 6) (show(T.dats ts).all (D.shp 6)=true from h) v hv)
  simp only[AX,h1,h2,T.nod,T.rest]
  exact⟨fun _ q=>q,fun _ q=>q,fun n=>n,fun _ q=>.inl q⟩
 |lst a ts=>
  obtain⟨h1,h2⟩:=Ga ts fun v hv=>B5 6 _ (AO (f:=D.shp 6) (show(T.dats ts).all (D.shp 6)=true from h) v hv)
  simp only[AX,h1,h2,T.nod,T.rest]
  refine⟨fun _ q=>aaa _ q,fun _ q=>aaa _ q,fun n=>(aaG.mp n).2,fun b q=>?_⟩
  rcases aak.mp q with rfl|q
  ·exact .inr ⟨ts,rfl⟩
  ·exact .inl q
 |exn a c=>cases h
 |dic a ks ts=>cases h
 |dit a ks ts=>cases h
 |_=>exact⟨fun _ q=>q,fun _ q=>q,fun n=>n,fun _ q=>by cases q⟩
abbrev LA(H:Hp)(sp:Addr)(vs:List V):T->Hp
 |.lst a ts=>L2.upd (L2.upd H sp (.lst vs)) a (.lst (ts.map T.val++[.int 99]))
 |_=>L2.upd H sp (.lst vs)
theorem SpI.turn{u:T}(S:SpI p t H0 sp (us++[u]) H)(hsp0:H0 sp=none):SpI p t H0 sp (us++AX u) (LA H sp ((us++AX u).map T.val) u):=by
 have hu:=S.sh u (by simp)
 obtain⟨k1,k2,k3,k4⟩:=TX hu
 have hus:∀v∈us,v.dat.shp 7=true:=fun v hv=>S.sh v (by simp[hv])
 have nd:=S.nd
 rw[T.rests_append,aca]at nd
 obtain⟨n1,n2,n3⟩:=nd
 have n2:(u.rest 0).Nodup:=by simpa[T.rests] using n2
 have n3:∀a∈T.rests us 0,a∉u.rest 0:=fun a h1 h2=>n3 a h1 a (by simpa[T.rests] using h2) rfl
 have all:∀b,b∈T.rests (us++[u]) 0 ↔ b∈T.rests us 0\/b∈u.rest 0:=fun b=>by simp[T.rests_append,T.rests]
 have spne:∀b∈T.rests (us++[u]) 0,b≠sp:=fun b hb z=>S.ns (z▸S.in hb)
 have oku:u.Ok p H:=T.oks_iff.mp S.ok u (by simp)
 have new:∀b,b∈T.rests (us++AX u) 0->b∈T.rests (us++[u]) 0:=fun b hb=>by
  rw[T.rests_append,aag]at hb
  exact(all b).mpr (hb.imp id (k2 b))
 have hsp:LA H sp ((us++AX u).map T.val) u sp=some (.lst ((us++AX u).map T.val)):=by
  cases u with
  |lst a ts=>exact(L2.Ah (Ne.symm (spne a ((all a).mpr (.inr (aac ..)))))).trans L2.Aq
  |_=>exact L2.Aq
 have keep:∀b w,H b=some w->b≠sp->(∀ts,u≠.lst b ts)->LA H sp ((us++AX u).map T.val) u b=some w:=fun b w e h1 h2=>by
  cases u with
  |lst a ts=>exact(L2.Ah (show b≠a from fun z=>h2 ts (by rw[z]))).trans ((L2.Ah h1).trans e)
  |_=>exact(L2.Ah h1).trans e
 have selfn:∀ts b,u=.lst b ts->b∉T.rests (us++AX u) 0:=fun ts b z hb=>by
  subst z
  rw[T.rests_append,aag]at hb
  rcases hb with hb|hb
  ·exact n3 b hb (aac ..)
  ·have h2:=Ga ts fun v hv=>B5 6 _ (AO (f:=D.shp 6) (show(T.dats ts).all (D.shp 6)=true from hu) v hv)
   simp only[AX,h2.1]at hb
   exact(aaG.mp n2).1 hb
 refine⟨hsp,T.oks_iff.mpr fun v hv=>?_,fun v hv=>?_,?_,fun b hb=>?_,fun q hq=>?_,fun b w e n=>?_,fun q hq n=>?_,S.nt,S.ntd,S.ns⟩
 ·have okv:v.Ok p H:=by
   rcases aag.mp hv with hv|hv
   ·exact T.oks_iff.mp S.ok v (by simp[hv])
   ·exact T.oks_iff.mp (TW oku) v hv
  refine okv.keep fun b w e z=>?_
  rcases z with z|z
  ·have hb:b∈T.rests (us++AX u) 0:=T.mem_rests.mpr ⟨v,hv,z⟩
   exact keep b w e (spne b (new b hb)) fun ts y=>selfn ts b y hb
  ·refine keep b w e (fun y=>?_) fun ts y=>?_
   ·subst y;rw[S.st]at e;cases e;cases z
   ·obtain⟨w',e',m⟩:=S.mu b ((all b).mpr (.inr (by rw[y];exact aac ..)))
    rw[e]at e';cases e';rw[z]at m;cases m
 ·rcases aag.mp hv with hv|hv
  ·exact hus v hv
  ·exact TU hu v hv
 ·rw[T.rests_append,aca]
  exact⟨n1,k3 n2,fun a h1 b h2 z=>n3 a h1 (k2 a (z▸h2))⟩
 ·obtain⟨w,e,m⟩:=S.mu b (new b hb)
  exact⟨w,keep b w e (spne b (new b hb)) fun ts y=>selfn ts b y hb,m⟩
 ·rw[Gb,aag]at hq
  refine S.sb q ?_
  rw[Gb,aag]
  exact hq.imp id fun z=>by simpa[T.nods] using k1 q z
 ·have hb:=S.kp b w e n
  refine keep b w hb (fun z=>by subst z;rw[hsp0]at e;cases e) fun ts y=>n (S.in ((all b).mpr (.inr (by rw[y];exact aac ..))))
 ·by_cases hq1:q.1∈T.rests (us++[u]) 0
  ·have:q.1∈u.rest 0:=by
    rcases (all _).mp hq1 with z|z
    ·exact absurd (by rw[T.rests_append];exact aaD _ z) n
    ·exact z
   rcases k4 _ this with z|⟨ts,z⟩
   ·exact absurd (by rw[T.rests_append];exact aau _ z) n
   ·subst z
    have:q=(q.1,ts):=TR S.ntd S.nt hq (S.sb _ (by rw[Gb];simp[T.nods,T.nod])) rfl
    show L2.upd _ q.1 _ q.1=_
    rw[L2.Aq,this]
  ·exact keep _ _ (S.dn q hq hq1) (fun z=>S.ns (by rw[<- z,<- T.nod_rest t 7 S.nt];exact aat.mpr ⟨q,hq,rfl⟩)) fun ts y=>hq1 ((all _).mpr (.inr (by rw[y];exact aac ..)))
theorem SpI.fin(S:SpI p t H0 sp [] H)(ok:t.Ok p H0)(mu:∀b∈t.rest 0,Mu H0 b):t.spo.Ok p H:=by
 have key:∀v:T,(∀q∈v.nod,q∈t.nod)->v.dat.shp 7=true->v.Ok p H0->v.spo.Ok p H:=by
  refine T.ind (fun _ _ _=>trivial) (fun _ _ _ _=>trivial) (fun _ _ _ _=>trivial) (fun _ _ _ _=>trivial) (fun a ts ih h1 h2 h3=>?_) (fun a ts ih h1 h2 h3=>?_) (fun _ _ _ h _=>by cases h) (fun _ _ _ _ _ h _=>by cases h) (fun _ _ _ _ _ h _=>by cases h)
  ·have hs:∀v∈ts,v.dat.shp 7=true:=fun v hv=>B5 6 _ (AO (f:=D.shp 6) (show(T.dats ts).all (D.shp 6)=true from h2) v hv)
   refine⟨?_,T.oks_iff.mpr fun v hv=>?_⟩
   ·rw[T.spos_val]
    refine S.kp a _ h3.1 fun z=>?_
    obtain⟨w,e,m⟩:=mu a z
    rw[h3.1]at e;cases e;cases m
   ·rw[T.spos_map]at hv
    obtain⟨w,hw,rfl⟩:=aat.mp hv
    exact ih w hw (fun q hq=>h1 q (T.mem_nods.mpr ⟨w,hw,hq⟩)) (hs w hw) (T.oks_iff.mp h3.2 w hw)
  ·have hs:∀v∈ts,v.dat.shp 7=true:=fun v hv=>B5 6 _ (AO (f:=D.shp 6) (show(T.dats ts).all (D.shp 6)=true from h2) v hv)
   refine⟨.inl ?_,T.oks_iff.mpr fun v hv=>?_⟩
   ·rw[aaq,T.spos_val]
    exact S.dn (a,ts) (h1 _ (aac ..)) (fun z=>by cases z)
   ·rcases aag.mp hv with hv|hv
    ·rw[T.spos_map]at hv
     obtain⟨w,hw,rfl⟩:=aat.mp hv
     exact ih w hw (fun q hq=>h1 q (aaa _ (T.mem_nods.mpr ⟨w,hw,hq⟩))) (hs w hw) (T.oks_iff.mp h3.2 w hw)
    ·cases aaE.mp hv;trivial
 exact key t (fun _ h=>h) S.nt ok
end
abbrev LB:Scope:={kind:=.function,names:=[("_law_found",.local),("_law_some",.local),("_law_one",.local),("isinstance",.globalImplicit),("list",.globalImplicit),("tuple",.globalImplicit)],isGenerator:=false,isCoroutine:=false,more:=[("fast",.str "_law_found"),("fast",.str "_law_some"),("fast",.str "_law_one"),("fast",.str "_law_part")]}
abbrev LD:Scope:={kind:=.function,names:=[(".0",.local),("_law_part",.local),("isinstance",.globalImplicit),("list",.globalImplicit),("tuple",.globalImplicit)],isGenerator:=false,isCoroutine:=false,more:=[]}
abbrev Wa(x:Str)(p1 p2 p3 p4 p5 p6:Pos):Expr:=.Call (.Name "isinstance" p1) [.Name x p2,.Tuple [.Name "list" p3,.Name "tuple" p4] 0 p5] [] p6
abbrev Wb(a1 a2 a3 b1 b2 b3 b4 b5 b6 a4:Pos):Expr:=.ListComp (.Name "_law_part" a1) [⟨.Name "_law_part" a2,.Name "_law_one" a3,[Wa "_law_part" b1 b2 b3 b4 b5 b6],0⟩] LD a4
abbrev spB(c1 c2 c3 c4 c5 d1 d2 d3 d4 d5 d6 e1 e2 e3 a1 a2 a3 b1 b2 b3 b4 b5 b6 a4 e4 f0 g1 g2 g3 g4 h1 h2 h3 h4 h5 f1:Pos):List Stmt:=[
 .Assign [.Name "_law_one" c1] (.Call (.Attribute (.Name "_law_some" c2) "pop" c3) [] [] c4) c5,
 .If (Wa "_law_one" d1 d2 d3 d4 d5 d6) [.Expr (.Call (.Attribute (.Name "_law_some" e1) "extend" e2) [Wb a1 a2 a3 b1 b2 b3 b4 b5 b6 a4] [] e3) e4] [] f0,
 .If (.Call (.Name "isinstance" g1) [.Name "_law_one" g2,.Name "list" g3] [] g4) [.Expr (.Call (.Attribute (.Name "_law_one" h1) "append" h2) [.Constant (.int 99) 0 h3] [] h4) h5] [] f1]
section
variable{X:Cx}{p:Px}
theorem W9{K:Frag}{i0:Nat}{σ:L2.St}{H:Hp}{u:T}{Q:VK}(hv:σ[i0]?=some (some u.val))(ok:u.Ok p H)(sh:u.dat.shp 7=true)(lt:u.isLT=true)(hlen:u.dat.sz<=sizeLine)
  (hq:∀D H',H D=none->H' D=some (.lst ((AX u).map T.val))->(∀b w,H b=some w->H' b=some w)->Q (.ref D) H'):Fm 1 [] (QQ K (DG i0)) (fun _=>DH 0) (fun _=>tLT K 0) (fun _=>DG 0) σ H Q:=by
 have main:∀(J:L2.It)(a:Addr)(cs:List T),AX u=cs.filter T.isLT->D.szs (T.dats cs)<u.dat.sz->(∀v∈cs,v.Ok p H/\v.dat.shp 7=true)->
   (∀i H',(∀b w,H b=some w->H' b=some w)->(i<cs.length->J.go i H')/\(cs.length<=i->J.stop i H')/\∀x H3,J.yld i H' x H3->H3=H'/\(cs.map T.val)[i]?=some x)->
   ∀(z:Bk)(Dd:Addr),H Dd=none->∃W:Nat->Nat->List V->Hp->Prop,(∃m,W 0 m [] (L2.upd H Dd (.lst [])))/\∀i m acc H2,W i m acc H2->
    H2 Dd=some (.lst acc)/\((J.stop i H2/\Q (.ref Dd) H2)\/(J.go i H2/\∀x H3,J.yld i H2 x H3->DH 0 x (Do 1 [] σ) H3 fun σ4 H4=>tLT K 0 σ4 H4 fun b H5=>
     if b=true then DG 0 σ4 H5 fun v H6=>H6 Dd=some (.lst acc)/\acc.length<sizeLine/\∃m',m'<m/\W (i+1) m' (acc++[v]) (L2.upd H6 Dd (.lst (acc++[v]))) else ∃m',m'<m/\W (i+1) m' acc H5)):=by
  intro J a cs ek hsz hcs hJ z Dd hD
  refine⟨fun i m acc H'=>acc=((cs.take i).filter T.isLT).map T.val/\i+m=cs.length/\H' Dd=some (.lst acc)/\∀b w,H b=some w->H' b=some w,⟨cs.length,rfl,aaK _,L2.Aq,Fg hD⟩,?_⟩
  rintro i m acc H2 ⟨rfl,em,hd,hk⟩
  refine⟨hd,?_⟩
  obtain⟨j1,j2,j3⟩:=hJ i H2 hk
  by_cases hi:cs.length<=i
  ·refine .inl ⟨j2 hi,hq Dd H2 hD ?_ hk⟩
   rw[hd,ek,acQ hi]
  ·have hi:i<cs.length:=Nat.lt_of_not_le hi
   cases m with
   |zero=>exact absurd (em▸hi:i<i+0) (aaX _)
   |succ m=>
    refine .inr ⟨j1 hi,fun x H3 hy=>?_⟩
    obtain⟨rfl,hx⟩:=j3 x H3 hy
    have hc:cs[i]?=some cs[i]:=aae hi
    rw[aal,hc]at hx
    cases hx
    obtain⟨okc,shc⟩:=hcs cs[i] (abu hi)
    obtain⟨ty,t1,t2,_⟩:=Jx (K:=K) okc shc
    have hkD:∀b w,H b=some w->b≠Dd:=fun b w e y=>by rw[y,hD]at e;cases e
    have tk:(cs.take (i+1)).filter T.isLT=(cs.take i).filter T.isLT++(if cs[i].isLT=true then [cs[i]] else []):=by
     rw[List.take_succ,hc,act]
     cases h:cs[i].isLT<;>simp[h]
    show tLT K 0 [some cs[i].val] H3 _
    refine⟨_,ty,_,rfl,TyOf.same hk t1,t2,fun H5 s5=>?_⟩
    cases hb:cs[i].isLT with
    |true=>
     rw[if_pos rfl]
     refine⟨_,rfl,s5 _ _ hd,?_,m,abG m,?_,(acu i 1 m).trans em,L2.Aq,fun b w e=>?_⟩
     ·have h1:((cs.take i).filter T.isLT).length<=(cs.take i).length:=ach ..
      have h2:(cs.take i).length<=i:=List.length_take_le ..
      rw[aab]
      exact aaC (aao h1 h2) (aaJ hi (aao (FP cs) (aao (aap hsz) hlen)))
     ·rw[tk,if_pos hb,aaq];rfl
     ·rw[L2.Ah (hkD b w e)];exact s5 _ _ (hk b w e)
    |false=>
     rw[if_neg (by decide)]
     refine⟨m,abG m,?_,(acu i 1 m).trans em,s5 _ _ hd,fun b w e=>s5 _ _ (hk b w e)⟩
     rw[tk,if_neg (by rw[hb];decide),aaF]
 refine⟨u.val,hv,?_⟩
 cases u with
 |lst a cs=>
  refine⟨a,rfl,.inl ⟨cs.map T.val,.inl ok.1,fun _=>main _ a cs rfl (abG _) (fun v hv=>⟨T.oks_iff.mp ok.2 v hv,B5 6 _ (AO (f:=D.shp 6) (show(T.dats cs).all (D.shp 6)=true from sh) v hv)⟩) fun i H' hk=>?_⟩⟩
  have sq:SqL K H' a (cs.map T.val):=by
   rcases ok.1 with h|⟨o,h⟩
   ·exact .inl (.inl (hk _ _ h))
   ·exact .inl (.inr ⟨o,hk _ _ h⟩)
  refine⟨fun h=>⟨_,cs[i].val,sq,by simp[h]⟩,fun h=>⟨_,sq,by simpa using h⟩,fun x H3 y=>⟨y.1,y.2 _ sq⟩⟩
 |tup a cs=>
  refine⟨a,rfl,.inr ⟨cs.map T.val,SqT.of ok.1,fun _=>main _ a cs rfl (abG _) (fun v hv=>⟨T.oks_iff.mp ok.2 v hv,B5 6 _ (AO (f:=D.shp 6) (show(T.dats cs).all (D.shp 6)=true from sh) v hv)⟩) fun i H' hk=>?_⟩⟩
  have sq:SqT K H' a (cs.map T.val):=SqT.of (hk _ _ ok.1)
  refine⟨fun h=>⟨_,cs[i].val,sq,by simp[h]⟩,fun h=>⟨_,sq,by simpa using h⟩,fun x H3 y=>⟨y.1,y.2 _ sq⟩⟩
 |_=>cases lt
end
abbrev Oa(name:Str)(lv:Nat):Fn:=⟨name,1,lv,0,fun ds=>match ds with
 |[d]=>if D.flat 9 2 d=true/\D.shp 7 d=true/\d.sz<=LIM then .ok d.spo else .bad
 |_=>.bad⟩
abbrev RY(st:Stmt):Prop:=Ao st=LB/\∃s1 s2 s3 s4 w1 w2 w3 w4 c1 c2 c3 c4 c5 d1 d2 d3 d4 d5 d6 e1 e2 e3 a1 a2 a3 b1 b2 b3 b4 b5 b6 a4 e4 f0 g1 g2 g3 g4 h1 h2 h3 h4 h5 f1:Pos,
 AU st=[.Assign [.Name "_law_some" s1] (.List [.Name "_law_found" s2] s3) s4,.While (.Compare (.Name "_law_some" w1) [.NotEq] [.List [] w2] w3) (spB c1 c2 c3 c4 c5 d1 d2 d3 d4 d5 d6 e1 e2 e3 a1 a2 a3 b1 b2 b3 b4 b5 b6 a4 e4 f0 g1 g2 g3 g4 h1 h2 h3 h4 h5 f1) [] w4]/\(c3.endLine==c4.line)=true/\(e2.endLine==e3.line)=true/\(h2.endLine==h4.line)=true
theorem Rb{u:T}(h:u.isLT=false):AX u=[]:=by
 cases u<;>first|rfl|cases h
theorem PM{u:T}(h:u.isLT=false):u.isL=false:=by
 cases u<;>first|rfl|cases h
theorem TY{H:Hp}{sp:Addr}{vs:List V}{u:T}(h:u.isL=false):LA H sp vs u=L2.upd H sp (.lst vs):=by
 cases u<;>first|rfl|cases h
theorem TZ(us:List T):(D.lst (T.dats us)).eqv (.lst [])=us.isEmpty:=by
 cases us<;>rfl
theorem SpI.eqv{p:Px}{t:T}{H0:Hp}{sp:Addr}{us:List T}{H H':Hp}(S:SpI p t H0 sp us H)(e:∀b w,H b=some w->H' b=some w):SpI p t H0 sp us H':=S.grow e
set_option maxHeartbeats 1000000 in
theorem T3{L:Lw}(O:L.Ok){x:Str}{st:Stmt}{lv:Nat}(DF:Df L.p.K L.mg x st ["_law_found"])(h:RY st)(hn:True):RW L (Oa x (lv+1)):=by
 obtain⟨hsc,s1,s2,s3,s4,w1,w2,w3,w4,c1,c2,c3,c4,c5,d1,d2,d3,d4,d5,d6,e1,e2,e3,a1,a2,a3,b1,b2,b3,b4,b5,b6,a4,e4,f0,g1,g2,g3,g4,h1,h2,h3,h4,h5,f1,hb,l1,l2,l3⟩:=h
 have S:FnScope ["_law_found", "_law_some", "_law_one"] ["_law_found"] (Ao st):=by
  rw[hsc]
  exact⟨rfl,rfl,rfl,by decide,rfl,by decide,by decide⟩
 refine⟨["_law_found"],rfl,Df.has DF S (fun vs H Q E h=>?_) fun f cdv A outer s H vs Q E hr hsp=>?_⟩
 ·obtain⟨t,ts,rfl,_,_,h,_⟩:=h
  rw[aaL,aab,h];rfl
 obtain⟨t,ts,rfl,ok,oks,hl,nd,hmu,d,hd,hq⟩:=hsp
 have hl:ts.length+1=1:=hl
 cases ts with
 |cons _ _=>simp at hl
 |nil=>
 have hd:(if D.flat 9 2 t.dat=true/\D.shp 7 t.dat=true/\t.dat.sz<=LIM then Res.ok t.dat.spo else .bad)=Res.ok d:=hd
 split at hd
 case isFalse=>cases hd
 rename_i hg
 obtain⟨g1',g2',g3'⟩:=hg
 cases hd
 have r2:t.rest 2=[]:=B9 9 t 2 g1'
 have r0:=T.rest0 t 2 r2
 rw[hb]
 rw[hsc]at hr ⊢
 generalize hX:AM (CXe L.P L.w) L.P L.w L.p.K L.mg L.base ["_law_found", "_law_some", "_law_one"] (Oa x (lv+1)).name LB f cdv A outer s H E=X
 have C:Ct L.p ⟨["_law_found", "_law_some", "_law_one"],LB,true,true,true⟩ lv X (fun _=>E):=by
  subst hX
  refine⟨rfl,rfl,rfl,S.nd,fun _=>rfl,fun _=>hr,hr.units,hr.r0,O.blt,O.bt,?_,fun _ _=>rfl,O.kx,fun _=>trivial⟩
  intro pins σ H' s' e s'' I h
  exact RK (fun _ _ _ h=>h) pins σ H' s' e s'' I h
 have po:PassesOwn (model X.prog X.w) X.A X.env X.xe:=by subst hX;exact PassesOwn.leaving
 have hN:X.N=(["_law_found", "_law_some", "_law_one"]:List Str):=C.N
 have hS:X.env.scope=LB:=C.sc
 have nn:X.N.Nodup:=C.nd
 have hfn:∀y,X.fn y=true:=C.fn rfl
 have hKK:X.K=L.p.K:=C.K
 have v0:∀pos,PE X (.Name "_law_found" pos) (DG 0):=fun pos=>Cw (by rw[hN];rfl) (by rw[hS];exact .inl rfl)
 have v1:∀pos,PE X (.Name "_law_some" pos) (DG 1):=fun pos=>Cw (by rw[hN];rfl) (by rw[hS];exact .inl rfl)
 have v2:∀pos,PE X (.Name "_law_one" pos) (DG 2):=fun pos=>Cw (by rw[hN];rfl) (by rw[hS];exact .inl rfl)
 have gi:Gl X "isinstance":=C.gl rfl
 have gl:Gl X "list":=C.gl rfl
 have gt:Gl X "tuple":=C.gl rfl
 have hcp:PE X (Wb a1 a2 a3 b1 b2 b3 b4 b5 b6 a4) (Fm 1 [] (QQ X.K (DG 2)) (fun _=>DH 0) (fun _=>tLT X.K 0) (fun _=>DG 0)):=by
  refine Jq ["_law_part"] [] [] (C.calm rfl) (IH (v2 a3)) (fun j k x h=>by cases h) rfl (by decide) rfl (by decide) (fun y hy hf=>?_) (fun x hx=>by cases hx) (by rw[hS];rfl) (fun z v σ H Q h=>⟨h,by rw[aaM],fun i hi=>aay (by simp at hi;exact aaV hi)⟩) (fun z=>?_)
  ·exact absurd hf (by revert y;decide)
  have Cb:=C.blk (scope:=LD) (N:=(["_law_part"]:List Str)++[]) (by decide) z
  have sc:(X.blk LD z.C z.fp ((["_law_part"]:List Str)++[]) z.s z.H).env.scope=EM LD LB:=Cb.sc
  have vb:∀pos,PE (X.blk LD z.C z.fp ((["_law_part"]:List Str)++[]) z.s z.H) (.Name "_law_part" pos) (DG 0):=fun pos=>Cw rfl (by rw[sc];exact .inl rfl)
  refine⟨Jj (i:=0) Cb.nd rfl (by rw[sc];exact .inl rfl) (.inr (by rw[sc];rfl)),Jp (RX (vb b2) (Cb.gl rfl) (Cb.gl rfl) (Cb.gl rfl) (C.blt _ (by decide)) (C.blt _ (by decide)) (C.blt _ (by decide))),vb a1⟩
 have body:=FX (Iq (i:=2) (x := "_law_one") (pos:=c5) (pos':=c1) nn (by rw[hN];rfl) (by rw[hS];exact .inl rfl) (KM (apos:=c3) (cpos:=c4) PySem.F.plainAttrs_list PySem.F.slot_list_pop PySem.F.type_list_pop OO (v1 c2) rfl l1) rfl (.inl (hfn _)))
  (FX (Np (pos:=f0) (RX (p1:=d1) (p2:=d2) (p3:=d3) (p4:=d4) (p5:=d5) (p6:=d6) (kt:=0) (v2 d2) gi gl gt (C.blt _ (by decide)) (C.blt _ (by decide)) (C.blt _ (by decide))) (G8 (CN (pos:=e4) (Iy (apos:=e2) (cpos:=e3) PySem.F.plainAttrs_list PySem.F.slot_list_extend PySem.F.type_list_extend ON (v1 e1) (Ar hcp AW) rfl rfl l2))) Ji)
  (G8 (Np (pos:=f1) (W8 (p1:=g1) (p2:=g2) (p3:=g3) (p6:=g4) (v2 g2) gi gl (C.blt _ (by decide)) (C.blt _ (by decide))) (G8 (CN (pos:=h5) (Iy (apos:=h2) (cpos:=h4) PySem.F.plainAttrs_list PySem.F.slot_list_append PySem.F.type_list_append Fl (v2 h1) (Ar (show PE X (.Constant (.int 99) 0 h3) (tC (.int 99)) from Ox) AW) rfl rfl l3))) Ji)))
 refine⟨_,FX (Iq (i:=1) (x := "_law_some") nn (by rw[hN];rfl) (by rw[hS];exact .inl rfl) (KG (Ar (v0 s2) AW)) rfl (.inl (hfn _))) (G8 (KA po (MB (D4 hKK C.un .ne) (v1 w1) (KG AW) (U7 _)) body)),?_⟩
 have hSz:sizeLine=LIM:=by decide
 have mu0:∀b∈t.rest 0,Mu H b:=fun b hb=>(hmu b (r0▸hb)).1
 refine⟨t.val,rfl,by show 1<=sizeLine;decide,fun sp hsp=>?_⟩
 show Kz _ _ _ [some t.val,some (.ref sp),none] (L2.upd H sp (.lst [t.val]))
 have nsp:sp∉t.rest 0:=fun z=>ok.dom z hsp
 refine⟨fun m σ H'=>∃us o,σ=[some t.val,some (.ref sp),o]/\m=D.szs (T.dats us)/\m<=LIM/\SpI L.p t H sp us H',⟨_,[t],none,rfl,rfl,?_,?_⟩,?_⟩
 ·show t.dat.sz+0<=LIM
  exact g3'
 ·have sm:=Fg (o:=.lst [t.val]) hsp
  refine⟨L2.Aq,⟨ok.same sm,trivial⟩,fun u hu=>?_,?_,fun b hb=>?_,fun q hq=>?_,fun b u e _=>sm b u e,fun q hq n=>?_,g2',r0▸nd.1,nsp⟩
  ·cases aaE.mp hu;exact g2'
  ·simp only[T.rests,aaF];exact r0▸nd.1
  ·simp only[T.rests,aaF]at hb
   obtain⟨w,e,m⟩:=mu0 b hb
   exact⟨w,sm _ _ e,m⟩
  ·simpa[T.nods] using hq
  ·exact absurd (by simp only[T.rests,aaF];rw[<- T.nod_rest t 7 g2'];exact aat.mpr ⟨q,hq,rfl⟩) n
 ·rintro m σ H' ⟨us,o,rfl,rfl,hm,Si⟩
  refine⟨.ref sp,rfl,aaw _,fun q hq'=>?_⟩
  have S1:=Si.grow (Fg (o:=.lst []) hq')
  have sh8:(T.lst sp us).dat.shp 8=true:=by
   show(T.dats us).all (D.shp 7)=true
   rw[T.dats_map,aas]
   intro x hx
   obtain⟨u,hu,rfl⟩:=aat.mp hx
   exact S1.sh u hu
  refine⟨.lst sp us,.lst q [],rfl,rfl,⟨.inl S1.st,S1.ok⟩,⟨.inl L2.Aq,trivial⟩,sh8,rfl,_,rfl,?_⟩
  generalize hH1:L2.upd H' q (.lst [])=H1 at *
  show if(!(D.lst (T.dats us)).eqv (.lst []))=true then _ else _
  rw[TZ]
  rcases List.eq_nil_or_concat us with rfl|⟨us',u,rfl⟩
  ·rw[if_neg (by decide)]
   refine hq t.spo H1 (T.spo_dat t) (T.spo_val t) (S1.fin ok mu0) (T.spo_nd t 2 nd) (fun b u e n=>S1.kp b u e (by rw[r0];exact n)) fun b hb=>?_
   rw[T.spo_adr]at hb
   refine⟨.inl hb,?_⟩
   rw[<- r0,<- T.nod_rest t 7 g2']at hb
   obtain⟨q2,hq2,rfl⟩:=aat.mp hb
   exact⟨_,S1.dn q2 hq2 (fun z=>by cases z),rfl⟩
  ·have S1:SpI L.p t H sp (us'++[u]) H1:=by simpa using S1
   have hm:D.szs (T.dats us')+u.dat.sz<=LIM:=by
    have:D.szs (T.dats (us'.concat u))=D.szs (T.dats us')+u.dat.sz:=by simp[T.dats_append,D.szs_append,T.dats,D.szs]
    rw[this]at hm;exact hm
   have em:D.szs (T.dats (us'.concat u))=D.szs (T.dats us')+u.dat.sz:=by simp[T.dats_append,D.szs_append,T.dats,D.szs]
   have hsz:=TV u
   rw[if_pos (by simp)]
   refine⟨fun σ' H''=>∃m',m'<D.szs (T.dats (us'.concat u))/\∃us o,σ'=[some t.val,some (.ref sp),o]/\m'=D.szs (T.dats us)/\m'<=LIM/\SpI L.p t H sp us H'',fun _ _ h=>h,?_⟩
   refine⟨.ref sp,rfl,.inl ⟨rfl,_,SqL.of S1.st⟩,sp,_,u.val,rfl,rfl,S1.st,by simp,?_⟩
   have hdl:((us'++[u]).map T.val).dropLast=us'.map T.val:=by simp
   rw[hdl]
   show UR _ _ _ [some t.val,some (.ref sp),some u.val] (L2.upd H1 sp (.lst (us'.map T.val)))
   have shU:=S1.sh u (by simp)
   have okU:u.Ok L.p H1:=T.oks_iff.mp S1.ok u (by simp)
   have uns:sp∉u.rest 0:=fun z=>nsp (S1.in (by rw[T.rests_append];simp[T.rests,z]))
   have kpU:∀{Ha:Hp}{vs ws:List V},Ha sp=some (.lst ws)->u.Ok L.p Ha->u.Ok L.p (L2.upd Ha sp (.lst vs)):=fun {Ha vs ws} hs h=>h.keep fun b w e z=>(L2.Ah (fun y=>by
    subst y
    rcases z with z|z
    ·exact uns z
    ·rw[hs]at e;cases e;cases z)).trans e
   have okU2:=kpU (vs:=us'.map T.val) S1.st okU
   obtain⟨ty,t1,t2,t3⟩:=Jx (K:=X.K) okU2 shU
   have T1:=S1.turn hsp
   have fin:∀Hf:Hp,(∀b w,LA H1 sp ((us'++AX u).map T.val) u b=some w->Hf b=some w)->∀o',∃m',m'<D.szs (T.dats (us'.concat u))/\∃us o,[some t.val,some (.ref sp),o']=[some t.val,some (.ref sp),o]/\m'=D.szs (T.dats us)/\m'<=LIM/\SpI L.p t H sp us Hf:=fun Hf hf o'=>by
    have e1:D.szs (T.dats (us'++AX u))=D.szs (T.dats us')+D.szs (T.dats (AX u)):=by rw[T.dats_append,D.szs_append]
    refine⟨_,?_,us'++AX u,o',rfl,rfl,?_,T1.grow hf⟩
    ·rw[em,e1];exact ac4 hsz _
    ·rw[e1];omega
   refine⟨_,ty,_,rfl,t1,t2,fun H3 s3=>?_⟩
   cases hLT:u.isLT with
   |false=>
    rw[if_neg (by decide)]
    refine⟨_,ty,_,rfl,TyOf.same s3 t1,t3,?_⟩
    rw[PM hLT]
    refine Vh ?_
    refine fin H3 (fun b w e=>s3 b w ?_) _
    rw[TY (PM hLT),Rb hLT,aaF]at e
    exact e
   |true=>
    rw[if_pos rfl]
    have hst3:H3 sp=some (.lst (us'.map T.val)):=s3 _ _ L2.Aq
    have okU3:=okU2.same s3
    refine⟨.ref sp,rfl,.inl ⟨rfl,_,SqL.of hst3⟩,W9 rfl okU3 shU hLT (by rw[hSz];exact aao (abj ..) hm) fun Dd H4 hD hD2 hk=>?_⟩
    have l1:=FP us'
    have l2:=FP (AX u)
    refine⟨sp,Dd,us'.map T.val,(AX u).map T.val,rfl,rfl,hk _ _ hst3,hD2,by rw[aab,aab,hSz];omega,?_⟩
    have okU4:=kpU (vs:=us'.map T.val++(AX u).map T.val) (hk _ _ hst3) (okU3.same hk)
    obtain⟨ty',t1',_,t3'⟩:=Jx (K:=X.K) okU4 shU
    refine⟨_,ty',_,rfl,t1',t3',?_⟩
    have base:∀b w,b≠sp->H1 b=some w->H4 b=some w:=fun b w n e=>hk _ _ (s3 _ _ ((L2.Ah n).trans e))
    cases u with
    |lst a cs=>
     have ain:a∈T.rests (us'++[T.lst a cs]) 0:=by rw[T.rests_append];simp[T.rests,T.rest]
     have ane:a≠sp:=fun z=>nsp (z▸S1.in ain)
     have hA:L2.upd H4 sp (.lst (us'.map T.val++(AX (.lst a cs)).map T.val)) a=some (.lst (cs.map T.val)):=(L2.Ah ane).trans (base a _ ane (V9 okU (S1.mu a ain)))
     refine XT ?_
     have l3:=FP cs
     have l4:(T.lst a cs).dat.sz=D.szs (T.dats cs)+1:=rfl
     refine⟨.ref a,rfl,.inl ⟨rfl,_,SqL.of hA⟩,a,cs.map T.val,.int 99,rfl,rfl,hA,by rw[aab,hSz];omega,?_⟩
     refine fin _ (fun b w e=>?_) _
     have e:L2.upd (L2.upd H1 sp (.lst ((us'++AX (.lst a cs)).map T.val))) a (.lst (cs.map T.val++[.int 99])) b=some w:=e
     by_cases hb:b=a
     ·subst hb
      rw[L2.Aq]at e ⊢;exact e
     ·rw[L2.Ah hb]at e ⊢
      by_cases hb2:b=sp
      ·subst hb2
       rw[L2.Aq]at e ⊢
       rw[<- aaq];exact e
      ·rw[L2.Ah hb2]at e ⊢
       exact base b w hb2 e
    |tup a cs=>
     refine Vh ?_
     refine fin _ (fun b w e=>?_) _
     have e:L2.upd H1 sp (.lst ((us'++AX (.tup a cs)).map T.val)) b=some w:=e
     by_cases hb2:b=sp
     ·subst hb2
      rw[L2.Aq]at e ⊢
      rw[<- aaq];exact e
     ·rw[L2.Ah hb2]at e ⊢
      exact base b w hb2 e
    |_=>cases hLT
end Pu
end
namespace Pu
open PySem PySem.Spec PyProof.Rows PySem.W L2
abbrev IO:Ss :=
 (.cons (.ret (.bo true (.cons (.isi (.nm 0) .int) (.cons (.not (.isi (.nm 0) .bool)) .nil))))
 .nil)
abbrev HF:Fn:=Au "is_whole" 1 1 9 1 IO
abbrev DP:Ss :=
 (.cons (.ret (.bo true (.cons (.call HF (.cons (.nm 0) .nil)) (.cons (.chain .le .le (.nm 1) (.nm 0) (.nm 2)) .nil))))
 .nil)
abbrev BL:Fn:=Au "is_between" 3 2 9 3 DP
theorem Kf(ds:List D)(h:ds.length=3):BL.den ds=run 3 DP ds:=Am h
abbrev Di:Ss :=
 (.cons (.mut 2 [] .append (.cons (.nm 3) .nil))
 (.cons (.asg 3 0 (.bin .fdiv (.bin .sub (.bin .add (.nm 3) (.nm 1)) (.cI 1)) (.nm 1)))
 .nil))
abbrev Gc:Ss :=
 (.cons (.asg 1 0 (.ix (.nm 0) (.cI 1)))
 (.cons (.asg 2 2 (.lst .nil))
 (.cons (.asg 3 0 (.ix (.nm 0) (.cI 0)))
 (.cons (.dem 2 1)
 (.cons (.wh (.cmp .gt (.nm 3) (.cI 1))
 Di)
 (.cons (.iff (.cmp .eq (.nm 3) (.cI 1))
 (.cons (.mut 2 [] .append (.cons (.nm 3) .nil))
 .nil)
 .nil)
 (.cons (.ret (.nm 2))
 .nil)))))))
abbrev Ev:Fn:=Au "levels" 1 1 1 4 Gc
theorem PN(ds:List D)(h:ds.length=1):Ev.den ds=run 4 Gc ds:=Am h
abbrev A8:Ss :=
 (.cons (.iff (.bo false (.cons (.not (.isi (.nm 1) .tuple)) (.cons (.cmp .ne (.bi .len (.cons (.nm 1) .nil)) (.cI 2)) .nil)))
 (.cons (.ret (.cB false))
 .nil)
 .nil)
 (.cons (.iff (.not (.call BL (.cons (.ix (.nm 1) (.cI 0)) (.cons (.cI 0) (.cons (.bin .sub (.bi .len (.cons (.nm 0) .nil)) (.cI 1)) .nil)))))
 (.cons (.ret (.cB false))
 .nil)
 .nil)
 (.cons (.ret (.call BL (.cons (.ix (.nm 1) (.cI 1)) (.cons (.cI 0) (.cons (.bin .sub (.ix (.nm 0) (.ix (.nm 1) (.cI 0))) (.cI 1)) .nil)))))
 .nil)))
abbrev Bl:Fn:=Au "is_counted_node" 2 3 9 2 A8
theorem CF(ds:List D)(h:ds.length=2):Bl.den ds=run 2 A8 ds:=Am h
abbrev Fq:Ss :=
 (.cons (.ret (.call Bl (.cons (.call Ev (.cons (.nm 0) .nil)) (.cons (.nm 1) .nil))))
 .nil)
abbrev Gd:Fn:=Au "is_node" 2 4 9 2 Fq
theorem Ob(ds:List D)(h:ds.length=2):Gd.den ds=run 2 Fq ds:=Am h
abbrev DQ:Ss :=
 (.cons (.iff (.not (.call Gd (.cons (.nm 0) (.cons (.nm 1) .nil))))
 (.cons (.raise 2 (.cons (.cS "this is no node of the shape") .nil))
 .nil)
 .nil)
 .nil)
abbrev EI:Fn:=Au "check_node" 2 5 9 2 DQ
theorem Kg(ds:List D)(h:ds.length=2):EI.den ds=run 2 DQ ds:=Am h
abbrev DR:Ss :=
 (.cons (.expr (.call EI (.cons (.nm 0) (.cons (.nm 1) .nil))))
 (.cons (.iff (.cmp .eq (.ix (.nm 1) (.cI 0)) (.cI 0))
 (.cons (.ret (.lst .nil))
 .nil)
 .nil)
 (.cons (.asg 2 0 (.bin .sub (.ix (.nm 1) (.cI 0)) (.cI 1)))
 (.cons (.asg 3 0 (.bin .mul (.ix (.nm 1) (.cI 1)) (.ix (.nm 0) (.cI 1))))
 (.cons (.asg 4 0 (.bi .min (.cons (.bin .add (.nm 3) (.ix (.nm 0) (.cI 1))) (.cons (.ix (.call Ev (.cons (.nm 0) .nil)) (.nm 2)) .nil))))
 (.cons (.ret (.comp0 1 [2] (.nm 0) (.r2 (.nm 3) (.nm 4)) (.tup (.cons (.nm 1) (.cons (.nm 0) .nil)))))
 .nil))))))
abbrev Bh:Fn:=Au "children" 2 6 1 5 DR
theorem HG(ds:List D)(h:ds.length=2):Bh.den ds=run 5 DR ds:=Am h
abbrev Kq:Ss :=
 (.cons (.asg 1 1 (.call Ev (.cons (.nm 0) .nil)))
 (.cons (.iff (.cmp .eq (.nm 1) (.lst .nil))
 (.cons (.ret .cN)
 .nil)
 .nil)
 (.cons (.ret (.tup (.cons (.bin .sub (.bi .len (.cons (.nm 1) .nil)) (.cI 1)) (.cons (.cI 0) .nil))))
 .nil)))
abbrev LE:Fn:=Au "top" 1 2 1 2 Kq
theorem Wc(ds:List D)(h:ds.length=1):LE.den ds=run 2 Kq ds:=Am h
abbrev Fs:Ss :=
 (.cons (.ret (.call BL (.cons (.nm 0) (.cons (.cI 0) (.cons (.bin .pow (.cI 10) (.cI 18)) .nil)))))
 .nil)
abbrev Ge:Fn:=Au "is_room" 1 3 9 1 Fs
theorem Oc(ds:List D)(h:ds.length=1):Ge.den ds=run 1 Fs ds:=Am h
abbrev Ds:Ss :=
 (.cons (.ret (.comp0 1 [0,1] (.nm 0) (.r3 (.cI 0) (.bi .len (.cons (.nm 0) .nil)) (.nm 1)) (.bi .maxL (.cons (.slc (.nm 1) (.nm 0) (.bin .add (.nm 0) (.nm 2))) .nil))))
 .nil)
abbrev BB:Fn:=Au "level_above" 2 1 9 2 Ds
theorem Jy(ds:List D)(h:ds.length=2):BB.den ds=run 2 Ds ds:=Am h
theorem Jz:BB.dep=9:=rfl
abbrev Gf:Ss :=
 (.cons (.mut 2 [] .append (.cons (.nm 3) .nil))
 (.cons (.asg 3 2 (.callB BB (.cons (.nm 3) (.cons (.nm 1) .nil))))
 .nil))
abbrev Hm:Ss :=
 (.cons (.asg 2 2 (.lst .nil))
 (.cons (.asg 3 1 (.bi .list (.cons (.nm 0) .nil)))
 (.cons (.wh (.cmp .gt (.bi .len (.cons (.nm 3) .nil)) (.cI 1))
 Gf)
 (.cons (.iff (.cmp .ne (.nm 3) (.lst .nil))
 (.cons (.mut 2 [] .append (.cons (.nm 3) .nil))
 .nil)
 .nil)
 (.cons (.ret (.nm 2))
 .nil)))))
abbrev DA:Fn:=Au "built" 2 2 2 4 Hm
theorem Rc(ds:List D)(h:ds.length=2):DA.den ds=run 4 Hm ds:=Am h
theorem Re:DA.dep=2:=rfl
abbrev Ea:Ss :=
 (.cons (.ret (.comp0 1 [] (.nm 0) (.seq (.nm 0)) (.bi .list (.cons (.nm 0) .nil))))
 .nil)
abbrev Ew:Fn:=Au "copied" 1 1 2 1 Ea
theorem J2(ds:List D)(h:ds.length=1):Ew.den ds=run 1 Ea ds:=Am h
abbrev Dj:Ss :=
 (.cons (.ret (.comp0 1 [] (.nm 0) (.seq (.nm 0)) (.bi .len (.cons (.nm 0) .nil))))
 .nil)
abbrev DS:Fn:=Au "counts_of" 1 1 9 1 Dj
theorem GP(ds:List D)(h:ds.length=1):DS.den ds=run 1 Dj ds:=Am h
abbrev ET:Ss :=
 (.cons (.iff (.cmp .eq (.nm 0) (.lst .nil))
 (.cons (.ret (.lst .nil))
 .nil)
 .nil)
 (.cons (.ret (.bi .list (.cons (.ix (.nm 0) (.cI 0)) .nil)))
 .nil))
abbrev BY:Fn:=Au "rooms_of" 1 1 1 1 ET
theorem Mh(ds:List D)(h:ds.length=1):BY.den ds=run 1 ET ds:=Am h
abbrev EU:Ss :=
 (.cons (.ret (.tup (.cons (.bi .len (.cons (.call BY (.cons (.nm 0) .nil)) .nil)) (.cons (.nm 1) .nil))))
 .nil)
abbrev BZ:Fn:=Au "shape_of" 2 2 0 2 EU
theorem Mi(ds:List D)(h:ds.length=2):BZ.den ds=run 2 EU ds:=Am h
abbrev DT:Ss :=
 (.cons (.ret (.call Bl (.cons (.call DS (.cons (.nm 0) .nil)) (.cons (.nm 1) .nil))))
 .nil)
abbrev Ek:Fn:=Au "has_node" 2 4 9 2 DT
theorem HH(ds:List D)(h:ds.length=2):Ek.den ds=run 2 DT ds:=Am h
abbrev Be:Ss :=
 (.cons (.iff (.not (.call Ek (.cons (.nm 0) (.cons (.nm 1) .nil))))
 (.cons (.raise 2 (.cons (.cS "this is no node of the tree") .nil))
 .nil)
 .nil)
 .nil)
abbrev AK:Fn:=Au "check_has_node" 2 5 9 2 Be
theorem C8(ds:List D)(h:ds.length=2):AK.den ds=run 2 Be ds:=Am h
theorem Hw:AK.dep=9:=rfl
abbrev Hn:Ss :=
 (.cons (.expr (.call AK (.cons (.nm 0) (.cons (.nm 1) .nil))))
 (.cons (.ret (.ix (.ix (.nm 0) (.ix (.nm 1) (.cI 0))) (.ix (.nm 1) (.cI 1))))
 .nil))
abbrev Ay:Fn:=Au "tells" 2 6 0 2 Hn
theorem Rf(ds:List D)(h:ds.length=2):Ay.den ds=run 2 Hn ds:=Am h
theorem LF:Ay.dep=0:=rfl
abbrev El:Ss :=
 (.cons (.ret (.comp0 1 [0] (.nm 0) (.seq (.nm 1)) (.tup (.cons (.ix (.nm 0) (.cI 0)) (.cons (.ix (.nm 0) (.cI 1)) (.cons (.call Ay (.cons (.nm 1) (.cons (.nm 0) .nil))) .nil))))))
 .nil)
abbrev CG:Fn:=Au "with_told" 2 7 1 2 El
theorem LH(ds:List D)(h:ds.length=2):CG.den ds=run 2 El ds:=Am h
theorem LJ:CG.dep=1:=rfl
abbrev Ex:Ss :=
 (.cons (.iff (.cmp .eq (.ix (.nm 3) (.cI 0)) (.cI 0))
 (.cons (.ret (.ix (.nm 2) (.ix (.nm 3) (.cI 1))))
 .nil)
 .nil)
 (.cons (.ret (.bi .maxL (.cons (.comp0 1 [0] (.nm 0) (.seq (.call Bh (.cons (.call BZ (.cons (.nm 0) (.cons (.nm 1) .nil))) (.cons (.nm 3) .nil)))) (.call Ay (.cons (.nm 1) (.cons (.nm 0) .nil)))) .nil)))
 .nil))
abbrev BN:Fn:=Au "beneath" 4 7 0 4 Ex
theorem IP(ds:List D)(h:ds.length=4):BN.den ds=run 4 Ex ds:=Am h
theorem IQ:BN.dep=0:=rfl
abbrev AF:Ss :=
 (.cons (.asg 4 0 (.ixL (.nm 6) (.cI 0)))
 (.cons (.asg 6 1 (.comp1 1 [2,0] (.nm 0) (.seq (.call Bh (.cons (.nm 3) (.cons (.nm 4) .nil)))) (.cmp .ge (.call Ay (.cons (.nm 2) (.cons (.nm 0) .nil))) (.nm 1)) (.nm 0)))
 .nil))
abbrev BO:Ss :=
 (.cons (.asg 3 0 (.call BZ (.cons (.nm 0) (.cons (.nm 1) .nil))))
 (.cons (.asg 4 0 .cN)
 (.cons (.asg 5 2 (.ifx (.cmp .eq (.ix (.nm 3) (.cI 0)) (.cI 0)) (.lst .nil) (.lst (.cons (.call LE (.cons (.nm 3) .nil)) .nil))))
 (.cons (.dem 5 1)
 (.cons (.asg 6 1 (.comp1 1 [2,0] (.nm 0) (.seqL (.nm 5)) (.cmp .ge (.call Ay (.cons (.nm 2) (.cons (.nm 0) .nil))) (.nm 1)) (.nm 0)))
 (.cons (.wh (.cmp .ne (.nm 6) (.lst .nil))
 AF)
 (.cons (.ret (.nm 4))
 .nil)))))))
abbrev AY:Fn:=Au "lowest_enough" 3 7 0 7 BO
theorem HX(ds:List D)(h:ds.length=3):AY.den ds=run 7 BO ds:=Am h
theorem Fh:AY.dep=0:=rfl
abbrev Fu:Ss :=
 (.cons (.asg 7 0 (.callB BN (.cons (.nm 4) (.cons (.nm 1) (.cons (.nm 2) (.cons (.nm 6) .nil))))))
 (.cons (.mut 5 [] .append (.cons (.tup (.cons (.ixS (.nm 6) (.cI 0)) (.cons (.ixS (.nm 6) (.cI 1)) (.cons (.callB Ay (.cons (.nm 4) (.cons (.nm 6) .nil))) (.cons (.nmS 7) .nil))))) .nil))
 (.cons (.set 4 [(false,(.ixS (.nm 6) (.cI 0)))] (.ixS (.nm 6) (.cI 1)) (.nmS 7))
 (.cons (.asg 6 0 (.callB AY (.cons (.nm 4) (.cons (.nm 1) (.cons (.nm 3) .nil)))))
 .nil))))
abbrev GQ:Ss :=
 (.cons (.asg 4 2 (.call Ew (.cons (.nm 0) .nil)))
 (.cons (.asg 5 2 (.lst .nil))
 (.cons (.asg 6 0 (.callB AY (.cons (.nm 4) (.cons (.nm 1) (.cons (.nm 3) .nil)))))
 (.cons (.wh (.bo true (.cons (.isN true (.nm 6)) (.cons (.cmp .lt (.callB BN (.cons (.nm 4) (.cons (.nm 1) (.cons (.nm 2) (.cons (.nm 6) .nil))))) (.nm 3)) .nil)))
 Fu)
 (.cons (.iff (.isN false (.nm 6))
 (.cons (.retT (.cons .cN (.cons (.nm 4) (.cons (.nm 5) .nil))))
 .nil)
 .nil)
 (.cons (.retT (.cons (.ixS (.nm 6) (.cI 1)) (.cons (.nm 4) (.cons (.nm 5) .nil))))
 .nil))))))
abbrev Ho:Fn:=Au "seek" 4 8 2 8 GQ
theorem T4(ds:List D)(h:ds.length=4):Ho.den ds=run 8 GQ ds:=Am h
abbrev DU:Ss :=
 (.cons (.iff (.not (.call BL (.cons (.nm 1) (.cons (.cI 0) (.cons (.bin .sub (.ix (.nm 0) (.cI 0)) (.cI 1)) .nil)))))
 (.cons (.raise 3 (.cons (.cS "this is no page of the shape") .nil))
 .nil)
 .nil)
 .nil)
abbrev EJ:Fn:=Au "check_page" 2 3 9 2 DU
theorem Kh(ds:List D)(h:ds.length=2):EJ.den ds=run 2 DU ds:=Am h
abbrev Dt:Ss :=
 (.cons (.iff (.cmp .ne (.bi .len (.cons (.call BY (.cons (.nm 0) .nil)) .nil)) (.bi .len (.cons (.call BY (.cons (.nm 1) .nil)) .nil)))
 (.cons (.raise 7 (.cons (.cS "the trees have unlike numbers of pages") .nil))
 .nil)
 .nil)
 .nil)
abbrev Eb:Fn:=Au "check_alike" 2 2 9 2 Dt
theorem JA(ds:List D)(h:ds.length=2):Eb.den ds=run 2 Dt ds:=Am h
abbrev Em:Ss :=
 (.cons (.mut 2 [] .extend (.cons (.comp1 2 [3,1] (.tp [0,1]) (.en (.nm 4)) (.cmp .ne (.nm 1) (.ix (.ix (.nm 3) (.nm 2)) (.nm 0))) (.tup (.cons (.nm 2) (.cons (.nm 0) .nil)))) .nil))
 .nil)
abbrev Gg:Ss :=
 (.cons (.expr (.call Eb (.cons (.nm 0) (.cons (.nm 1) .nil))))
 (.cons (.asg 2 2 (.lst .nil))
 (.cons (.dem 2 1)
 (.cons (.for_ (.tp [3,4]) (.en (.nm 0))
 Em)
 (.cons (.ret (.nm 2))
 .nil)))))
abbrev Ca:Fn:=Au "unlike" 2 3 1 5 Gg
theorem PQ(ds:List D)(h:ds.length=2):Ca.den ds=run 5 Gg ds:=Am h
theorem J3:Ca.dep=1:=rfl
abbrev Fv:Ss :=
 (.cons (.expr (.call EJ (.cons (.call BZ (.cons (.nm 0) (.cons (.nm 1) .nil))) (.cons (.nm 2) .nil))))
 (.cons (.iff (.not (.call Ge (.cons (.nm 3) .nil)))
 (.cons (.raise 6 (.cons (.cS "this is no room") .nil))
 .nil)
 .nil)
 (.cons (.asg 4 1 (.call BY (.cons (.nm 0) .nil)))
 (.cons (.set 4 [] (.nm 2) (.nm 3))
 (.cons (.asg 5 2 (.callB DA (.cons (.nm 4) (.cons (.nm 1) .nil))))
 (.cons (.retT (.cons (.nm 5) (.cons (.callB CG (.cons (.nm 5) (.cons (.callB Ca (.cons (.nm 0) (.cons (.nm 5) .nil))) .nil))) .nil)))
 .nil))))))
abbrev Gh:Fn:=Au "changed" 4 8 1 6 Fv
theorem Od(ds:List D)(h:ds.length=4):Gh.den ds=run 6 Fv ds:=Am h
abbrev CH:Ss :=
 (.cons (.expr (.callB AK (.cons (.nm 2) (.cons (.tup (.cons (.ix (.nm 3) (.cI 0)) (.cons (.ix (.nm 3) (.cI 1)) .nil))) .nil))))
 (.cons (.set 2 [(false,(.ix (.nm 3) (.cI 0)))] (.ix (.nm 3) (.cI 1)) (.ix (.nm 3) (.cI 2)))
 .nil))
abbrev IR:Ss :=
 (.cons (.asg 2 2 (.call Ew (.cons (.nm 0) .nil)))
 (.cons (.for_ (.nm 3) (.seq (.nm 1))
 CH)
 (.cons (.ret (.nm 2))
 .nil)))
abbrev Hq:Fn:=Au "done" 2 6 2 4 IR
theorem T5(ds:List D)(h:ds.length=2):Hq.den ds=run 4 IR ds:=Am h
abbrev B6:Ss :=
 (.cons (.iff (.cmp .lt (.ix (.ix (.nm 0) (.nm 2)) (.nm 3)) (.nm 4))
 (.cons (.ret (.cB false))
 .nil)
 .nil)
 .nil)
abbrev B7:Ss :=
 (.cons (.for_ (.tp [3,4]) (.en (.call BB (.cons (.ix (.nm 0) (.bin .sub (.nm 2) (.cI 1))) (.cons (.nm 1) .nil))))
 B6)
 .nil)
abbrev Ey:Ss :=
 (.cons (.for_ (.nm 2) (.r2 (.cI 1) (.bi .len (.cons (.nm 0) .nil)))
 B7)
 (.cons (.ret (.cB true))
 .nil))
abbrev EV:Fn:=Au "is_safe" 2 2 9 5 Ey
theorem Oe(ds:List D)(h:ds.length=2):EV.den ds=run 5 Ey ds:=Am h
abbrev Ez:Ss :=
 (.cons (.asg 4 1 (.ixF (.call Gh (.cons (.nm 0) (.cons (.nm 1) (.cons (.nm 2) (.cons (.nm 3) .nil))))) (.cI 1)))
 (.cons (.iff (.cmp .gt (.nm 3) (.ix (.ix (.nm 0) (.cI 0)) (.nm 2)))
 (.cons (.ret (.listI (.rv (.nm 4))))
 .nil)
 .nil)
 (.cons (.ret (.nm 4))
 .nil)))
abbrev EW:Fn:=Au "ordered" 4 9 1 5 Ez
theorem Of(ds:List D)(h:ds.length=4):EW.den ds=run 5 Ez ds:=Am h
abbrev Gi:Ss :=
 (.cons (.asg 2 2 (.call DA (.cons (.call BY (.cons (.nm 0) .nil)) (.cons (.nm 1) .nil))))
 (.cons (.asg 3 2 (.comp0 1 [0,2] (.nm 0) (.seq (.callB Ca (.cons (.nm 0) (.cons (.nm 2) .nil)))) (.tup (.cons (.ixS (.nm 0) (.cI 0)) (.cons (.ixS (.nm 0) (.cI 1)) (.cons (.callB Ay (.cons (.nm 1) (.cons (.nm 0) .nil))) (.cons (.callB Ay (.cons (.nm 2) (.cons (.nm 0) .nil))) .nil)))))))
 (.cons (.retT (.cons (.nm 2) (.cons (.nm 3) .nil)))
 .nil)))
abbrev Fw:Fn:=Au "mended" 2 7 2 4 Gi
theorem PR(ds:List D)(h:ds.length=2):Fw.den ds=run 4 Gi ds:=Am h
abbrev EK:Ss :=
 (.cons (.asg 2 0 (.bin .mod (.bin .add (.bin .add (.bin .mul (.nm 2) (.cI 48271)) (.bin .mod (.nm 3) (.cI 1000003))) (.cI 1)) (.cI 2147483647)))
 .nil)
abbrev DV:Ss :=
 (.cons (.iff (.cmp .lt (.nm 1) (.bi .len (.cons (.nm 0) .nil)))
 (.cons (.ret (.ix (.nm 0) (.nm 1)))
 .nil)
 .nil)
 (.cons (.asg 2 0 (.cI 5))
 (.cons (.for_ (.nm 3) (.seq (.slc (.nm 0) .cN (.cI 63)))
 EK)
 (.cons (.ret (.bin .mod (.bin .add (.nm 2) (.bin .mul (.cI 7919) (.nm 1))) (.cI 1000003)))
 .nil))))
abbrev Dk:Fn:=Au "_law_cell" 2 1 0 4 DV
theorem Mj(ds:List D)(h:ds.length=2):Dk.den ds=run 4 DV ds:=Am h
abbrev Du:Ss :=
 (.cons (.asg 2 0 (.bin .mod (.bin .pow (.bin .add (.bin .add (.bin .mod (.nm 0) (.cI 2147483629)) (.bin .mul (.cI 1013) (.nm 1))) (.cI 7919)) (.cI 3)) (.cI 2147483647)))
 (.cons (.asg 3 0 (.bin .mod (.bin .add (.bin .add (.bin .mul (.nm 2) (.cI 40699)) (.bin .mul (.bin .mul (.cI 3793) (.nm 1)) (.nm 1))) (.cI 11)) (.cI 2147483399)))
 (.cons (.ret (.bin .fdiv (.nm 3) (.cI 101)))
 .nil)))
abbrev CY:Fn:=Au "_law_mix" 2 1 1 4 Du
theorem JB(ds:List D)(h:ds.length=2):CY.den ds=run 4 Du ds:=Am h
abbrev AQ:Ss :=
 (.cons (.iff (.cmp .lt (.nm 3) (.bin .pow (.cI 10) (.cI 18)))
 (.cons (.mut 5 [] .append (.cons (.bin .mod (.call CY (.cons (.nm 3) (.cons (.nm 6) .nil))) (.ix (.nm 2) (.nm 6))) .nil))
 .nil)
 (.cons (.iff (.cmp .gt (.nm 4) (.cI 0))
 (.cons (.mut 5 [] .append (.cons (.bin .mod (.nm 4) (.ix (.nm 2) (.nm 6))) .nil))
 (.cons (.asg 4 0 (.bin .fdiv (.nm 4) (.ix (.nm 2) (.nm 6))))
 .nil))
 (.cons (.asg 7 0 (.call Dk (.cons (.nm 0) (.cons (.bin .mod (.bin .add (.bin .add (.nm 1) (.cI 1)) (.nm 6)) (.cI 63)) .nil))))
 (.cons (.mut 5 [] .append (.cons (.bin .mod (.call CY (.cons (.nm 7) (.cons (.nm 6) .nil))) (.ix (.nm 2) (.nm 6))) .nil))
 .nil)))
 .nil))
 .nil)
abbrev Dv:Ss :=
 (.cons (.asg 3 0 (.call Dk (.cons (.nm 0) (.cons (.nm 1) .nil))))
 (.cons (.asg 4 0 (.nm 3))
 (.cons (.asg 5 2 (.lst .nil))
 (.cons (.for_ (.nm 6) (.r1 (.bi .len (.cons (.nm 2) .nil)))
 AQ)
 (.cons (.ret (.nm 5))
 .nil)))))
abbrev AI:Fn:=Au "_law_row" 3 2 2 8 Dv
theorem JC(ds:List D)(h:ds.length=3):AI.den ds=run 8 Dv ds:=Am h
abbrev AG:Ss :=
 (.cons (.asg 7 0 (.ixL (.nm 3) (.bin .add (.cI 4) (.nm 6))))
 (.cons (.iff (.cmp .eq (.ixL (.nm 3) (.cI 2)) (.cI 1))
 (.cons (.asg 7 0 (.bin .mod (.nm 7) (.cI 3)))
 .nil)
 .nil)
 (.cons (.iff (.cmp .eq (.ixL (.nm 3) (.cI 2)) (.cI 2))
 (.cons (.asg 7 0 (.bin .mul (.ix (.lst (.cons (.cI 0) (.cons (.cI 0) (.cons (.cI 0) (.cons (.cI 1) .nil))))) (.bin .mod (.nm 7) (.cI 4))) (.bin .add (.cI 1) (.bin .fdiv (.nm 7) (.cI 4)))))
 .nil)
 .nil)
 (.cons (.iff (.cmp .eq (.ixL (.nm 3) (.cI 2)) (.cI 3))
 (.cons (.asg 7 0 (.bin .mod (.bin .add (.ixL (.nm 3) (.cI 3)) (.nm 6)) (.cI 13)))
 .nil)
 .nil)
 (.cons (.iff (.cmp .eq (.ixL (.nm 3) (.cI 2)) (.cI 4))
 (.cons (.asg 7 0 (.ixL (.nm 3) (.cI 3)))
 .nil)
 .nil)
 (.cons (.mut 5 [] .append (.cons (.bi .min (.cons (.bin .pow (.cI 10) (.cI 18)) (.cons (.bin .add (.bin .mul (.nm 7) (.nm 4)) (.bin .mul (.bi .int (.cons (.cmp .eq (.nm 7) (.cI 12)) .nil)) (.cI 4))) .nil))) .nil))
 .nil))))))
abbrev Cr:Ss :=
 (.cons (.asg 3 2 (.call AI (.cons (.nm 0) (.cons (.nm 1) (.cons (.bin .add (.lst (.cons (.bin .add (.nm 2) (.cI 1)) (.cons (.cI 5) (.cons (.cI 6) (.cons (.cI 13) .nil))))) (.bin .mul (.lst (.cons (.cI 13) .nil)) (.nm 2))) .nil)))))
 (.cons (.asg 4 0 (.ix (.lst (.cons (.cI 1) (.cons (.cI 1) (.cons (.cI 7) (.cons (.bin .pow (.cI 10) (.cI 6)) (.cons (.cI 83333333333333333) .nil)))))) (.ixL (.nm 3) (.cI 1))))
 (.cons (.asg 5 2 (.lst .nil))
 (.cons (.dem 3 1)
 (.cons (.for_ (.nm 6) (.r1 (.ixL (.nm 3) (.cI 0)))
 AG)
 (.cons (.ret (.nm 5))
 .nil))))))
abbrev Cg:Fn:=Au "_law_rooms" 3 3 2 8 Cr
theorem HY(ds:List D)(h:ds.length=3):Cg.den ds=run 8 Cr ds:=Am h
abbrev Dw:Ss :=
 (.cons (.ret (.bin .add (.cI 2) (.ix (.call AI (.cons (.nm 0) (.cons (.nm 1) (.cons (.lst (.cons (.cI 7) .nil)) .nil)))) (.cI 0))))
 .nil)
abbrev Ec:Fn:=Au "_law_fan" 2 3 1 2 Dw
theorem JD(ds:List D)(h:ds.length=2):Ec.den ds=run 2 Dw ds:=Am h
abbrev Bd:Ss :=
 (.cons (.mut 2 [] .append (.cons (.bin .fdiv (.bin .sub (.bin .add (.ixL (.nm 2) (.neg (.cI 1))) (.nm 1)) (.cI 1)) (.nm 1)) .nil))
 .nil)
abbrev Ch:Ss :=
 (.cons (.iff (.cmp .eq (.nm 0) (.cI 0))
 (.cons (.ret (.lst .nil))
 .nil)
 .nil)
 (.cons (.asg 2 1 (.lst (.cons (.nm 0) .nil)))
 (.cons (.wh (.cmp .gt (.ixL (.nm 2) (.neg (.cI 1))) (.cI 1))
 Bd)
 (.cons (.ret (.nm 2))
 .nil))))
abbrev B3:Fn:=Au "_law_counts" 2 1 1 3 Ch
theorem Hx(ds:List D)(h:ds.length=2):B3.den ds=run 3 Ch ds:=Am h
abbrev BP:Ss :=
 (.cons (.asg 4 0 (.bin .mul (.nm 4) (.nm 1)))
 .nil)
abbrev Cu:Ss :=
 (.cons (.asg 4 0 (.cI 1))
 (.cons (.for_ (.nm 5) (.r1 (.nm 2))
 BP)
 (.cons (.ret (.tup (.cons (.bin .mul (.nm 3) (.nm 4)) (.cons (.bi .min (.cons (.nm 0) (.cons (.bin .add (.bin .mul (.nm 3) (.nm 4)) (.nm 4)) .nil))) .nil))))
 .nil)))
abbrev DB:Fn:=Au "_law_reach" 4 1 1 6 Cu
theorem HZ(ds:List D)(h:ds.length=4):DB.den ds=run 6 Cu ds:=Am h
abbrev Bw:Ss :=
 (.cons (.asgT [7,8] (.call DB (.cons (.bi .len (.cons (.nm 0) .nil)) (.cons (.nm 1) (.cons (.nm 4) (.cons (.nm 6) .nil))))))
 (.cons (.mut 5 [] .append (.cons (.bi .maxL (.cons (.slc (.nm 0) (.nm 7) (.nm 8)) .nil)) .nil))
 .nil))
abbrev B4:Ss :=
 (.cons (.asg 5 2 (.lst .nil))
 (.cons (.for_ (.nm 6) (.r1 (.ixL (.nm 3) (.nm 4)))
 Bw)
 (.cons (.mut 2 [] .append (.cons (.nm 5) .nil))
 .nil)))
abbrev CZ:Ss :=
 (.cons (.asg 2 2 (.lst .nil))
 (.cons (.asg 3 1 (.call B3 (.cons (.bi .len (.cons (.nm 0) .nil)) (.cons (.nm 1) .nil))))
 (.cons (.for_ (.nm 4) (.r1 (.bi .len (.cons (.nm 3) .nil)))
 B4)
 (.cons (.ret (.nm 2))
 .nil))))
abbrev Br:Fn:=Au "_law_tree" 2 2 2 9 CZ
theorem IS(ds:List D)(h:ds.length=2):Br.den ds=run 9 CZ ds:=Am h
theorem IU:Br.dep=2:=rfl
abbrev Bm:Ss :=
 (.cons (.iff (.cmp .eq (.nm 6) (.cI 0))
 (.cons (.asg 9 0 (.ix (.nm 0) (.nm 8)))
 .nil)
 (.cons (.asg 10 0 (.bin .mul (.nm 8) (.nm 1)))
 (.cons (.asg 9 0 (.bi .maxL (.cons (.slc (.ixL (.nm 4) (.neg (.cI 1))) (.nm 10) (.bin .add (.nm 10) (.nm 1))) .nil)))
 .nil)))
 (.cons (.asg 11 0 (.ix (.nm 2) (.bin .mod (.bin .add (.bin .mul (.cI 7) (.nm 6)) (.nm 8)) (.bi .len (.cons (.nm 2) .nil)))))
 (.cons (.mut 7 [] .append (.cons (.bi .min (.cons (.bin .pow (.cI 10) (.cI 18)) (.cons (.bin .add (.nm 9) (.ix (.lst (.cons (.cI 0) (.cons (.cI 0) (.cons (.cI 0) (.cons (.cI 1) (.cons (.nm 11) (.cons (.bin .add (.nm 9) (.cI 1)) (.cons (.bin .pow (.cI 10) (.cI 18)) .nil)))))))) (.bin .mod (.nm 11) (.cI 7)))) .nil))) .nil))
 .nil)))
abbrev CI:Ss :=
 (.cons (.asg 7 2 (.lst .nil))
 (.cons (.for_ (.nm 8) (.r1 (.ixL (.nm 5) (.nm 6)))
 Bm)
 (.cons (.mut 4 [] .append (.cons (.nm 7) .nil))
 .nil)))
abbrev Cv:Ss :=
 (.cons (.asg 3 0 (.bi .len (.cons (.nm 0) .nil)))
 (.cons (.asg 4 2 (.lst .nil))
 (.cons (.asg 5 1 (.call B3 (.cons (.nm 3) (.cons (.nm 1) .nil))))
 (.cons (.for_ (.nm 6) (.r1 (.bi .len (.cons (.nm 5) .nil)))
 CI)
 (.cons (.ret (.nm 4))
 .nil)))))
abbrev BF:Fn:=Au "_law_loose" 3 2 2 12 Cv
theorem Ia(ds:List D)(h:ds.length=3):BF.den ds=run 12 Cv ds:=Am h
theorem Ib:BF.dep=2:=rfl
abbrev BQ:Ss :=
 (.cons (.asg 6 0 (.bin .mod (.ix (.nm 5) (.cI 0)) (.bi .len (.cons (.nm 4) .nil))))
 (.cons (.iff (.cmp .eq (.nm 0) (.cI 0))
 (.cons (.ret (.call Ho (.cons (.nm 1) (.cons (.nm 3) (.cons (.nm 4) (.cons (.ix (.nm 5) (.cI 1)) .nil))))))
 .nil)
 .nil)
 (.cons (.iff (.cmp .eq (.nm 0) (.cI 1))
 (.cons (.ret (.call Fw (.cons (.nm 1) (.cons (.nm 3) .nil))))
 .nil)
 .nil)
 (.cons (.iff (.cmp .eq (.nm 0) (.cI 2))
 (.cons (.ret (.call EV (.cons (.nm 1) (.cons (.nm 3) .nil))))
 .nil)
 .nil)
 (.cons (.iff (.cmp .eq (.nm 0) (.cI 3))
 (.cons (.ret (.flS (.call EW (.cons (.nm 2) (.cons (.nm 3) (.cons (.nm 6) (.cons (.ix (.nm 5) (.cI 1)) .nil)))))))
 .nil)
 .nil)
 (.cons (.ret (.call Hq (.cons (.nm 1) (.cons (.lst (.cons (.tup (.cons (.cI 0) (.cons (.nm 6) (.cons (.ix (.nm 5) (.cI 1)) .nil)))) (.cons (.tup (.cons (.bin .sub (.bi .len (.cons (.nm 1) .nil)) (.cI 1)) (.cons (.cI 0) (.cons (.ix (.nm 5) (.cI 2)) .nil)))) .nil))) .nil))))
 .nil))))))
abbrev AJ:Fn:=Au "_law_does" 6 10 2 7 BQ
theorem Dl(ds:List D)(h:ds.length=6):AJ.den ds=run 7 BQ ds:=Am h
theorem Mk:AJ.dep=2:=rfl
abbrev AZ:Fn:=Oa "_law_spoil" 1
abbrev CJ:Fn:=⟨"_law_deep",1,1,2,fun _=>.bad⟩
abbrev C9:Ss :=
 (.cons (.iff (.isi (.nm 0) .list)
 (.cons (.ret (.comp0 1 [] (.nm 0) (.seq (.nm 0)) (.call CJ (.cons (.nm 0) .nil))))
 .nil)
 .nil)
 (.cons (.iff (.isi (.nm 0) .tuple)
 (.cons (.ret (.bi .tuple (.cons (.comp0 1 [] (.nm 0) (.seq (.nm 0)) (.call CJ (.cons (.nm 0) .nil))) .nil)))
 .nil)
 .nil)
 (.cons (.ret (.nmS 0))
 .nil)))
abbrev BR:Fn:=Au "_law_deep" 1 2 2 1 C9
theorem GR(ds:List D)(h:ds.length=1):BR.den ds=run 1 C9 ds:=Am h
abbrev Da:Ss :=
 (.cons (.iff (.isi (.nm 0) .list)
 (.cons (.ret (.comp0 1 [] (.nm 0) (.seq (.nm 0)) (.call BR (.cons (.nm 0) .nil))))
 .nil)
 .nil)
 (.cons (.iff (.isi (.nm 0) .tuple)
 (.cons (.ret (.bi .tuple (.cons (.comp0 1 [] (.nm 0) (.seq (.nm 0)) (.call BR (.cons (.nm 0) .nil))) .nil)))
 .nil)
 .nil)
 (.cons (.ret (.nmS 0))
 .nil)))
abbrev BS:Fn:=Au "_law_deep" 1 3 2 1 Da
theorem GS(ds:List D)(h:ds.length=1):BS.den ds=run 1 Da ds:=Am h
abbrev Db:Ss :=
 (.cons (.iff (.isi (.nm 0) .list)
 (.cons (.ret (.comp0 1 [] (.nm 0) (.seq (.nm 0)) (.call BS (.cons (.nm 0) .nil))))
 .nil)
 .nil)
 (.cons (.iff (.isi (.nm 0) .tuple)
 (.cons (.ret (.bi .tuple (.cons (.comp0 1 [] (.nm 0) (.seq (.nm 0)) (.call BS (.cons (.nm 0) .nil))) .nil)))
 .nil)
 .nil)
 (.cons (.ret (.nmS 0))
 .nil)))
abbrev BT:Fn:=Au "_law_deep" 1 4 2 1 Db
theorem GT(ds:List D)(h:ds.length=1):BT.den ds=run 1 Db ds:=Am h
abbrev Dc:Ss :=
 (.cons (.iff (.isi (.nm 0) .list)
 (.cons (.ret (.comp0 1 [] (.nm 0) (.seq (.nm 0)) (.call BT (.cons (.nm 0) .nil))))
 .nil)
 .nil)
 (.cons (.iff (.isi (.nm 0) .tuple)
 (.cons (.ret (.bi .tuple (.cons (.comp0 1 [] (.nm 0) (.seq (.nm 0)) (.call BT (.cons (.nm 0) .nil))) .nil)))
 .nil)
 .nil)
 (.cons (.ret (.nmS 0))
 .nil)))
abbrev BU:Fn:=Au "_law_deep" 1 5 2 1 Dc
theorem GU(ds:List D)(h:ds.length=1):BU.den ds=run 1 Dc ds:=Am h
abbrev Ed:Ss :=
 (.cons (.iff (.isi (.nm 0) .list)
 (.cons (.ret (.comp0 1 [] (.nm 0) (.seq (.nm 0)) (.call BU (.cons (.nm 0) .nil))))
 .nil)
 .nil)
 (.cons (.iff (.isi (.nm 0) .tuple)
 (.cons (.ret (.bi .tuple (.cons (.comp0 1 [] (.nm 0) (.seq (.nm 0)) (.call BU (.cons (.nm 0) .nil))) .nil)))
 .nil)
 .nil)
 (.cons (.ret (.nmS 0))
 .nil)))
abbrev AT:Fn:=Au "_law_deep" 1 6 2 1 Ed
theorem IV(ds:List D)(h:ds.length=1):AT.den ds=run 1 Ed ds:=Am h
theorem IW:AT.dep=2:=rfl
abbrev CK:Ss :=
 (.cons (.asg 8 2 (.call AI (.cons (.nm 0) (.cons (.bin .add (.cI 4) (.nm 7)) (.cons (.lst (.cons (.cI 40) (.cons (.cI 13) (.cons (.cI 13) .nil)))) .nil)))))
 (.cons (.asg 9 2 (.tup (.cons (.comp0 1 [] (.nm 0) (.seqL (.nm 3)) (.bi .list (.cons (.nm 0) .nil))) (.cons (.comp0 1 [] (.nm 0) (.seqL (.nm 4)) (.bi .list (.cons (.nm 0) .nil))) .nil))))
 (.cons (.asg 10 2 (.call AT (.cons (.callB AJ (.cons (.ixL (.nm 6) (.nm 7)) (.cons (.ixT (.nm 9) (.cI 0)) (.cons (.ixT (.nm 9) (.cI 1)) (.cons (.nm 2) (.cons (.flS (.bi .list (.cons (.nm 1) .nil))) (.cons (.nm 8) .nil))))))) .nil)))
 (.cons (.asg 11 2 (.callB AJ (.cons (.ixL (.nm 6) (.nm 7)) (.cons (.ixT (.nm 5) (.cI 0)) (.cons (.ixT (.nm 5) (.cI 1)) (.cons (.nm 2) (.cons (.ixT (.nm 5) (.cI 2)) (.cons (.nm 8) .nil))))))))
 (.cons (.asg 12 2 (.callB AT (.cons (.nm 11) .nil)))
 (.cons (.iff (.bo false (.cons (.cmp .ne (.nm 12) (.nm 10)) (.cons (.cmp .ne (.nm 5) (.tup (.cons (.nm 3) (.cons (.nm 4) (.cons (.nm 1) .nil))))) .nil)))
 (.cons (.ret (.cB false))
 .nil)
 .nil)
 (.cons (.set 5 [(true,(.cI 0)),(false,(.cI 0))] (.cI 0) (.bin .add (.ixL (.ixL (.ixT (.nm 5) (.cI 0)) (.cI 0)) (.cI 0)) (.cI 1)))
 (.cons (.mut 5 [(true,(.cI 2))] .append (.cons (.cI 3) .nil))
 (.cons (.iff (.cmp .ne (.nm 11) (.nm 12))
 (.cons (.ret (.cB false))
 .nil)
 .nil)
 (.cons (.mut 5 [(true,(.cI 2))] .pop .nil)
 (.cons (.set 5 [(true,(.cI 0)),(false,(.cI 0))] (.cI 0) (.ix (.ixL (.nm 3) (.cI 0)) (.cI 0)))
 (.cons (.put AZ 11 [])
 (.cons (.iff (.cmp .ne (.call AT (.cons (.callB AJ (.cons (.ixL (.nm 6) (.nm 7)) (.cons (.ixT (.nm 5) (.cI 0)) (.cons (.ixT (.nm 5) (.cI 1)) (.cons (.nm 2) (.cons (.ixT (.nm 5) (.cI 2)) (.cons (.nm 8) .nil))))))) .nil)) (.nm 10))
 (.cons (.ret (.cB false))
 .nil)
 .nil)
 .nil)))))))))))))
abbrev EA:Ss :=
 (.cons (.asg 1 0 (.bin .add (.call Cg (.cons (.nm 0) (.cons (.cI 0) (.cons (.cI 39) .nil)))) (.lst (.cons (.ix (.call AI (.cons (.nm 0) (.cons (.cI 9) (.cons (.lst (.cons (.cI 9) .nil)) .nil)))) (.cI 0)) .nil))))
 (.cons (.asg 2 1 (.call Ec (.cons (.nm 0) (.cons (.cI 1) .nil))))
 (.cons (.asg 3 2 (.callB BF (.cons (.nm 1) (.cons (.nm 2) (.cons (.call AI (.cons (.nm 0) (.cons (.cI 2) (.cons (.bin .mul (.lst (.cons (.cI 40) .nil)) (.cI 13)) .nil)))) .nil)))))
 (.cons (.asg 4 2 (.callB Br (.cons (.nm 1) (.cons (.nm 2) .nil))))
 (.cons (.dem 3 1)
 (.cons (.dem 4 1)
 (.cons (.asg 5 2 (.tup (.cons (.comp0 1 [] (.nm 0) (.seqL (.nm 3)) (.bi .list (.cons (.nm 0) .nil))) (.cons (.comp0 1 [] (.nm 0) (.seqL (.nm 4)) (.bi .list (.cons (.nm 0) .nil))) (.cons (.flS (.bi .list (.cons (.nm 1) .nil))) .nil)))))
 (.cons (.asg 6 2 (.call AI (.cons (.nm 0) (.cons (.cI 3) (.cons (.bin .mul (.lst (.cons (.cI 5) .nil)) (.cI 8)) .nil)))))
 (.cons (.for_ (.nm 7) (.r1 (.cI 8))
 CK)
 (.cons (.ret (.cmp .eq (.nm 5) (.tup (.cons (.nm 3) (.cons (.nm 4) (.cons (.nm 1) .nil))))))
 .nil))))))))))
abbrev Gj:Fn:=Au "law" 1 11 9 13 EA
theorem Og(ds:List D)(h:ds.length=1):Gj.den ds=run 13 EA ds:=Am h
end Pu
section
namespace Pu
open PySem
theorem q9A{f n:Nat}{k:Int}(h:f<=n)(e:(n:Int)<k):(f:Int)<k:=acv (aaW.mpr h) e
theorem q9B{f n:Nat}{k:Int}(h:f<=n)(e:(n:Int)<=k):(f:Int)<=k:=ab2 (aaW.mpr h) e
theorem q9F{a:Nat}:¬(a:Int)<0:=Int.not_lt.mpr (aaA a)
theorem q9J{a b c d:Nat}(h:a<=b)(k:b<=c)(e:c<=d):a<=d:=aao h (aao k e)
theorem q9K{a b c d:Nat}(h:a<=b)(k:b<=c)(e:c<d):a<d:=aaC h (aaC k e)
theorem q9L{a b c:Nat}{d:Int}(h:a<=b)(k:b<=c)(e:(c:Int)<=d):(a:Int)<=d:=q9B (aao h k) e
theorem q9N{a b:Nat}(h:(a:Int)<((b:Nat):Int)-0):a<b:=Int.ofNat_lt.mp (by rwa [ack]at h)
theorem q9O{a b:Nat}(h:(a:Int)<((b+1:Nat):Int)-0):a<=b:=aaZ (q9N h)
theorem Bo{tg:Tg}{b:Fr->Out}(P:Nat->Fr->Prop):∀{ds:List D}{δ:Fr}(n:Nat),P n δ->(∀i d δ,ds[i]?=some d->P (n+i) δ->∃δ' δ'',Dq tg d δ=some δ'/\b δ'=.nxt δ''/\P (n+i+1) δ'')->∃δ',Bg tg b ds δ=.nxt δ'/\P (n+ds.length) δ'
 |[],δ,n,h0,_=>⟨δ,rfl,h0⟩
 |d::ds,δ,n,h0,hs=>by
  obtain⟨δ',δ'',e1,e2,h1⟩:=hs 0 d δ rfl h0
  obtain⟨δ3,e3,h3⟩:=Bo P (ds:=ds) (δ:=δ'') (n+1) h1 fun i d δ hd hP=>by
   have:=hs (i+1) d δ (by simpa using hd) (by rw[show n+(i+1)=n+1+i by omega];exact hP)
   rw[show n+(i+1)+1=n+1+i+1 by exact acu ..]at this
   exact this
  refine⟨δ3,?_,by rw[aaL,show n+(ds.length+1)=n+1+ds.length by omega];exact h3⟩
  unfold Bg
  rw[e1]
  show(b δ').then _=_
  rw[e2]
  exact e3
theorem Dm(i j:Int):b2 .add (.int i) (.int j)=.ok (.int (i+j)):=rfl
theorem DW(i j:Int):b2 .sub (.int i) (.int j)=.ok (.int (i-j)):=rfl
theorem Cn(i j:Int)(h1:-(18446744073709551616)<i)(h2:i<18446744073709551616):b2 .mul (.int i) (.int j)=.ok (.int (i*j)):=by
 show(if _ then _ else _)=_;rw[if_pos (.inl ⟨h1,h2⟩)]
theorem Co(i j:Int)(h1:-(18446744073709551616)<j)(h2:j<18446744073709551616):b2 .mul (.int i) (.int j)=.ok (.int (i*j)):=by
 show(if _ then _ else _)=_;rw[if_pos (.inr ⟨h1,h2⟩)]
theorem Dn(i j:Int)(h1:0<j):b2 .mod (.int i) (.int j)=.ok (.int (i%j)):=by
 show(if _ then _ else _)=_;rw[if_pos h1]
theorem Cp(i j:Int)(h1:0<j)(h2:j<1606938044258990275541962092341162602522202993782792835301376):b2 .fdiv (.int i) (.int j)=.ok (.int (i/j)):=by
 show(if _ then _ else _)=_;rw[if_pos ⟨h1,h2⟩]
theorem Fj(i j:Int)(h1:0<=j)(h2:j<=1000000)(h3:i.natAbs<18446744073709551616):b2 .pow (.int i) (.int j)=.ok (.int (i^j.toNat)):=by
 show(if _ then _ else _)=_;rw[if_pos ⟨h1,h2,h3⟩]
theorem EY(i j:Int):c2 .lt (.int i) (.int j)=.ok (.bl (decide (i<j))):=rfl
theorem EZ(i j:Int):c2 .le (.int i) (.int j)=.ok (.bl (decide (i<=j))):=rfl
theorem E0(i j:Int):c2 .gt (.int i) (.int j)=.ok (.bl (decide (j<i))):=rfl
theorem E1(i j:Int):c2 .ge (.int i) (.int j)=.ok (.bl (decide (j<=i))):=rfl
theorem DX(i j:Int):c2 .eq (.int i) (.int j)=.ok (.bl (i==j)):=rfl
theorem DY(i j:Int):c2 .ne (.int i) (.int j)=.ok (.bl (!(i==j))):=rfl
theorem Ee(d:D)(r:Fr):get (some d::r) 0=.ok d:=rfl
theorem Ef(o:Option D)(r:Fr)(i:Nat):get (o::r) (i+1)=get r i:=by
 unfold get;rw[aa4]
theorem Ai{n:Nat}{b:Ss}{ds:List D}{d:D}(h:exs b (Pu.AS n ds)=.ret d):run n b ds=.ok d:=by
 unfold run;rw[h]
theorem T6{n:Nat}{b:Ss}{ds:List D}{c:Nat}{δ:Fr}(h:exs b (Pu.AS n ds)=.exc c δ):run n b ds=.exc c:=by
 unfold run;rw[h]
abbrev GV(c k:Int):Int:=((((c%2147483629+1013*k+7919)^3%2147483647)*40699+3793*k*k+11)%2147483399)/101
theorem M5(c k:Int)(hk0:0<=k)(hk:k<=100000):CY.den [.int c,.int k]=.ok (.int (GV c k)):=by
 have h1:0<=c%2147483629:=abo _ (by decide)
 have h2:c%2147483629<2147483629:=abP _ (by decide)
 have h3:(c%2147483629+1013*k+7919).natAbs<18446744073709551616:=by omega
 have h4:-(18446744073709551616)<k:=by omega
 have h5:k<18446744073709551616:=by omega
 rw[JB _ rfl]
 simp[run,Du,exs,ex,ev,evs,get,Dm,Cn,Co,Dn,Cp,Fj,Pu.AS,h3,h4,h5,GV]
theorem Gk{ns:List Int}{d:D}(h:d∈ns.map D.int):∃x,d=.int x:=by
 obtain⟨x,_,e⟩:=aat.mp h
 exact⟨x,e.symm⟩
theorem Oh{ns:List Int}{d:D}{lo hi:Option Int}{i:Nat}(h:(cut (ns.map D.int) lo hi)[i]?=some d):∃x,d=.int x:=by
 have:=aaj h
 unfold cut at this
 exact Gk (acX (acY this))
theorem Ic{ns:List Int}{i:Int}(h0:0<=i)(h1:i<ns.length):∃x,ns[i.toNat]?=some x/\atD (ns.map D.int) i=.ok (.int x):=by
 have hl:i.toNat<ns.length:=by omega
 refine⟨ns[i.toNat],aae hl,?_⟩
 unfold atD ixN
 rw[aab,if_pos h0,if_pos h1]
 simp[hl]
theorem LK(ns:List Int)(p:Int)(hp:0<=p):∃i,Dk.den [.lst (ns.map .int),.int p]=.ok (.int i):=by
 rw[Mj _ rfl]
 by_cases h:p<ns.length
 ·obtain⟨x,_,e⟩:=Ic hp h
  refine⟨x,?_⟩
  simp -implicitDefEqProofs [run,exs,ex,ev,evs,evI,evBo,tv,get,B0,Dm,DW,Cn,Co,Dn,Cp,Fj,EY,EZ,E0,E1,DX,DY,Pu.AS,biD,ixD,Fb,D2,evP,upd,Ax,umD,Dr,CC,C5,CP,DL,E.isCN,EF,on1,on2,on3,EE,Ce,Eh,DM,F1,DJ,FC,dI,dB,dS,dL,dT',un1,un0,DV,h,e]
 ·obtain⟨δ',e,s,o,rfl⟩:=Bo (tg:=.nm 3) (b:=exs EK) (fun _ δ=>∃(s:Int)(o:Option D),δ=[some (.lst (ns.map .int)),some (.int p),some (.int s),o]) (ds:=cut (ns.map D.int) none (some 63)) (δ:=[some (.lst (ns.map .int)),some (.int p),some (.int 5),none]) 0 ⟨5,none,rfl⟩ (by
   rintro i d δ hd ⟨s,o,rfl⟩
   obtain⟨x,rfl⟩:=Oh hd
   refine⟨_,_,rfl,?_,(s*48271+x%1000003+1)%2147483647,some (.int x),rfl⟩
   simp -implicitDefEqProofs [run,exs,ex,ev,evs,evI,evBo,tv,get,B0,Dm,DW,Cn,Co,Dn,Cp,Fj,EY,EZ,E0,E1,DX,DY,Pu.AS,biD,ixD,Fb,D2,evP,upd,Ax,umD,Dr,CC,C5,CP,DL,E.isCN,EF,on1,on2,on3,EE,Ce,Eh,DM,F1,DJ,FC,dI,dB,dS,dL,dT',un1,un0,EK])
  refine⟨(s+7919*p)%1000003,?_⟩
  simp -implicitDefEqProofs [run,exs,ex,ev,evs,evI,evBo,tv,get,B0,Dm,DW,Cn,Co,Dn,Cp,Fj,EY,EZ,E0,E1,DX,DY,Pu.AS,biD,ixD,Fb,D2,evP,upd,Ax,umD,Dr,CC,C5,CP,DL,E.isCN,EF,on1,on2,on3,EE,Ce,Eh,DM,F1,DJ,FC,dI,dB,dS,dL,dT',un1,un0,DV,h,e]
theorem BV{a b:Int}{i:Nat}{d:D}(h:(Aw a b)[i]?=some d):d=.int (a+i)/\(i:Int)<b-a:=by
 unfold Aw at h
 rw[aal]at h
 obtain⟨j,hj,e⟩:=aax.mp h
 obtain⟨h1,h2⟩:=aaz.mp hj
 rw[acw]at h2
 subst h2
 rw[aaP]at h1
 exact⟨e.symm,by omega⟩
theorem BW(a b:Int):(Aw a b).length=(b-a).toNat:=by unfold Aw;simp
theorem Cq{a b:Int}(h1:-1000000<=a)(h2:a<=1000000)(h3:-1000000<=b)(h4:b<=1000000):NK (.int a) (.int b)=.ok (Aw a b):=by
 show(if _ then _ else _)=_
 rw[if_pos]
 unfold AE LIM
 simp -implicitDefEqProofs only[aaf,decide_eq_true_eq]
 omega
theorem DE{ns:List Int}{i:Nat}{x:Int}(h:ns[i]?=some x):atD (ns.map D.int) (i:Int)=.ok (.int x):=by
 have hl:=(aaz.mp h).1
 obtain⟨y,e1,e2⟩:=Ic (ns:=ns) (i:=(i:Int)) (by exact aaA _) (by exact aaW.mpr hl)
 rw[aav,h]at e1
 cases e1
 exact e2
theorem JE:b2 .pow (.int 10) (.int 18)=.ok (.int 1000000000000000000):=by
 rw[Fj _ _ (by decide) (by decide) (by decide)];rfl
theorem JF:b2 .pow (.int 10) (.int 59)=.ok (.int 100000000000000000000000000000000000000000000000000000000000):=by
 rw[Fj _ _ (by decide) (by decide) (by decide)];rfl
theorem Bx(ds:List D)(d:D)(h:ds.length<16777216):umD .append [d] ds=some (ds++[d]):=by
 show(if _ then _ else _)=_
 exact if_pos h
section
variable{ns S xs:List Int}{p c left:Int}{i:Nat}{s:Int}{o2:Option D}(hs:0<s)(hat:atD (S.map D.int) (i:Int)=.ok (.int s))(hi:i<=1000)(hx:xs.length<=1000)
include hs hat hi hx
theorem Xa(h1:c<1000000000000000000) :
  exs AQ [some (.lst (ns.map .int)),some (.int p),some (.lst (S.map .int)),some (.int c),some (.int left),some (.lst (xs.map .int)),some (.int i),o2]=.nxt [some (.lst (ns.map .int)),some (.int p),some (.lst (S.map .int)),some (.int c),some (.int left),some (.lst ((xs++[GV c i%s]).map .int)),some (.int i),o2]:=by
 have hmx:=M5 c i (by exact aaA _) (by exact q9B hi (by decide))
 have hap:=Bx (xs.map D.int) (.int (GV c i%s)) (by rw[aab];exact aaC hx (by decide))
 simp -implicitDefEqProofs only[AQ,exs,ex,tv,ev,evs,evI,evBo,Ee,Ef,Res.bind_ok,Res.out_ok,Out.then_nxt,Out.then_ret,abh,aa4,JE,JF,Dm,DW,Cn,Co,Dn,Cp,EY,EZ,E0,E1,DX,DY,B0,decide_true,decide_false,if_true,if_false,aa7,abx,abN,abU,evP,ixD,Fb,D2,upd,Ax,aa6,acH,aaq,ace,biD,Dr,CC,C5,on1,on2,on3,EE,Ce,Eh,DM,F1,DJ,FC,dI,dB,dS,dL,dT',un1,un0,CP,DL,E.isCN,EF,reduceCtorEq,Int.reduceLT,Int.reduceLE,Int.reduceNeg,Int.reduceBEq,h1,hmx,hat,hs,hap]
theorem Xb(h1:¬c<1000000000000000000)(h2:0<left)(h3:s<1606938044258990275541962092341162602522202993782792835301376) :
  exs AQ [some (.lst (ns.map .int)),some (.int p),some (.lst (S.map .int)),some (.int c),some (.int left),some (.lst (xs.map .int)),some (.int i),o2]=.nxt [some (.lst (ns.map .int)),some (.int p),some (.lst (S.map .int)),some (.int c),some (.int (left/s)),some (.lst ((xs++[left%s]).map .int)),some (.int i),o2]:=by
 have hap:=Bx (xs.map D.int) (.int (left%s)) (by rw[aab];exact aaC hx (by decide))
 simp -implicitDefEqProofs only[AQ,exs,ex,tv,ev,evs,evI,evBo,Ee,Ef,Res.bind_ok,Res.out_ok,Out.then_nxt,Out.then_ret,abh,aa4,JE,JF,Dm,DW,Cn,Co,Dn,Cp,EY,EZ,E0,E1,DX,DY,B0,decide_true,decide_false,if_true,if_false,aa7,abx,abN,abU,evP,ixD,Fb,D2,upd,Ax,aa6,acH,aaq,ace,biD,Dr,CC,C5,on1,on2,on3,EE,Ce,Eh,DM,F1,DJ,FC,dI,dB,dS,dL,dT',un1,un0,CP,DL,E.isCN,EF,reduceCtorEq,Int.reduceLT,Int.reduceLE,Int.reduceNeg,Int.reduceBEq,h1,h2,h3,hat,hs,hap]
theorem Xc(h1:¬c<1000000000000000000)(h2:¬0<left){q:Int}(hq:Dk.den [.lst (ns.map .int),.int ((p+1+i)%63)]=.ok (.int q)) :
  exs AQ [some (.lst (ns.map .int)),some (.int p),some (.lst (S.map .int)),some (.int c),some (.int left),some (.lst (xs.map .int)),some (.int i),o2]=.nxt [some (.lst (ns.map .int)),some (.int p),some (.lst (S.map .int)),some (.int c),some (.int left),some (.lst ((xs++[GV q i%s]).map .int)),some (.int i),some (.int q)]:=by
 have hmx:=M5 q i (by exact aaA _) (by exact q9B hi (by decide))
 have hap:=Bx (xs.map D.int) (.int (GV q i%s)) (by rw[aab];exact aaC hx (by decide))
 simp -implicitDefEqProofs only[AQ,exs,ex,tv,ev,evs,evI,evBo,Ee,Ef,Res.bind_ok,Res.out_ok,Out.then_nxt,Out.then_ret,abh,aa4,JE,JF,Dm,DW,Cn,Co,Dn,Cp,EY,EZ,E0,E1,DX,DY,B0,decide_true,decide_false,if_true,if_false,aa7,abx,abN,abU,evP,ixD,Fb,D2,upd,Ax,aa6,acH,aaq,ace,biD,Dr,CC,C5,on1,on2,on3,EE,Ce,Eh,DM,F1,DJ,FC,dI,dB,dS,dL,dT',un1,un0,CP,DL,E.isCN,EF,reduceCtorEq,Int.reduceLT,Int.reduceLE,Int.reduceNeg,Int.reduceBEq,h1,h2,hq,hmx,hat,hs,hap,Int.reduceLT]
end
theorem Fa(ns:List Int)(p:Int)(hp:0<=p)(S:List Int)(hl:S.length<=1000)(hS:∀s∈S,0<s/\s<1606938044258990275541962092341162602522202993782792835301376) :
  ∃xs:List Int,AI.den [.lst (ns.map .int),.int p,.lst (S.map .int)]=.ok (.lst (xs.map .int))/\xs.length=S.length/\∀(j:Nat)(x s:Int),xs[j]?=some x->S[j]?=some s->0<=x/\x<s:=by
 obtain⟨c,hc⟩:=LK ns p hp
 obtain⟨δ',e,left,xs,o1,o2,rfl,hx,hb⟩:=Bo (tg:=.nm 6) (b:=exs AQ) (fun i δ=>∃(left:Int)(xs:List Int)(o1 o2:Option D),δ=[some (.lst (ns.map .int)),some (.int p),some (.lst (S.map .int)),some (.int c),some (.int left),some (.lst (xs.map .int)),o1,o2]/\xs.length=i/\∀(j:Nat)(x s:Int),xs[j]?=some x->S[j]?=some s->0<=x/\x<s)
  (ds:=Aw 0 (S.length:Int)) (δ:=[some (.lst (ns.map .int)),some (.int p),some (.lst (S.map .int)),some (.int c),some (.int c),some (.lst []),none,none]) 0 ⟨c,[],none,none,rfl,rfl,by simp⟩ (by
   rintro i d δ hd ⟨left,xs,o1,o2,rfl,hx,hb⟩
   obtain⟨rfl,hi⟩:=BV hd
   have hx:xs.length=i:=by omega
   have hi':i<S.length:=by exact aaW.mp hi
   have hs:S[i]?=some S[i]:=aae hi'
   have hsp:=hS S[i] (abu hi')
   have hat:=DE hs
   generalize S[i]=s at hs hsp hat
   have fin:∀z:Int,0<=z->z<s->∀(j:Nat)(x s:Int),(xs++[z])[j]?=some x->S[j]?=some s->0<=x/\x<s:=by
    intro z h0 h1 j x s e1 e2
    by_cases hj:j<xs.length
    ·rw[aa0 hj]at e1
     exact hb j x s e1 e2
    ·rw[aaT (by exact ab7.mp hj)]at e1
     have:j=i:=by
      have:=(aaz.mp e1).1
      simp at this;omega
     subst this
     rw[hx,acI]at e1
     rw[hs]at e2
     cases e2;cases e1
     exact⟨h0,h1⟩
   have md:∀y:Int,0<=y%s/\y%s<s:=fun y=>⟨abo _ (by omega),abP _ hsp.1⟩
   have hz:(0:Int)+(i:Int)=(i:Int):=by omega
   rw[hz]
   have len:∀z:Int,(xs++[z]).length=0+i+1:=fun z=>by rw[aaH,hx];simp
   by_cases h1:c<1000000000000000000
   ·exact⟨_,_,rfl,Xa hsp.1 hat (by omega) (by omega) h1,left,xs++[GV c i%s],some (.int i),o2,rfl,len _,fin _ (md _).1 (md _).2⟩
   ·by_cases h2:0<left
    ·exact⟨_,_,rfl,Xb hsp.1 hat (by omega) (by omega) h1 h2 hsp.2,left/s,xs++[left%s],some (.int i),o2,rfl,len _,fin _ (md _).1 (md _).2⟩
    ·obtain⟨q,hq⟩:=LK ns ((p+1+i)%63) (abo _ (by decide))
     exact⟨_,_,rfl,Xc hsp.1 hat (by omega) (by omega) h1 h2 hq,left,xs++[GV q i%s],some (.int i),some (.int q),rfl,len _,fin _ (md _).1 (md _).2⟩)
 refine⟨xs,?_,by rw[hx,BW];exact aci ..,hb⟩
 have hr:=Cq (a:=0) (b:=(S.length:Int)) (by exact by decide) (by exact by decide) (by exact aaA _) (by exact q9B hl (by decide))
 refine(JC _ rfl).trans (Ai ?_)
 simp -implicitDefEqProofs only[Pu.AS,aa1,aam,abc,abi,Dv,exs,ex,tv,ev,evs,evI,evBo,Ee,Ef,Res.bind_ok,Res.out_ok,Out.then_nxt,Out.then_ret,abh,aa4,JE,JF,Dm,DW,Cn,Co,Dn,Cp,EY,EZ,E0,E1,DX,DY,B0,decide_true,decide_false,if_true,if_false,aa7,abx,abN,abU,evP,ixD,Fb,D2,upd,Ax,aa6,acH,aaq,ace,biD,Dr,CC,C5,on1,on2,on3,EE,Ce,Eh,DM,F1,DJ,FC,dI,dB,dS,dL,dT',un1,un0,CP,DL,E.isCN,EF,reduceCtorEq,Int.reduceLT,Int.reduceLE,Int.reduceNeg,Int.reduceBEq,hc,aab,hr,e]
theorem LL(i:Int):HF.den [.int i]=.ok (.bl true):=rfl
theorem BC(i a b:Int):BL.den [.int i,.int a,.int b]=.ok (.bl (decide (a<=i/\i<=b))):=by
 refine(Kf _ rfl).trans (Ai ?_)
 by_cases h1:a<=i<;>by_cases h2:i<=b<;>simp -implicitDefEqProofs only[Pu.AS,aa1,aam,abc,abi,DP,exs,ex,tv,ev,evs,evI,evBo,Ee,Ef,Res.bind_ok,Res.out_ok,Out.then_nxt,Out.then_ret,abh,aa4,JE,JF,Dm,DW,Cn,Co,Dn,Cp,EY,EZ,E0,E1,DX,DY,B0,decide_true,decide_false,if_true,if_false,aa7,abx,abN,abU,evP,ixD,Fb,D2,upd,Ax,aa6,acH,aaq,ace,biD,Dr,CC,C5,on1,on2,on3,EE,Ce,Eh,DM,F1,DJ,FC,dI,dB,dS,dL,dT',un1,un0,CP,DL,E.isCN,EF,reduceCtorEq,Int.reduceLT,Int.reduceLE,Int.reduceNeg,Int.reduceBEq,LL,h1,h2,and_self,and_true,and_false]
theorem at0(a b:D):atD [a,b] 0=.ok a:=rfl
theorem at1(a b:D):atD [a,b] 1=.ok b:=rfl
theorem X7{xs:List Int}(h:xs.length=1):∃a,xs=[a]:=by
 match xs,h with
 |[a],_=>exact⟨a,rfl⟩
section
variable(a b c d e f:D)
theorem X8:atD [a] 0=.ok a:=rfl
end
theorem GW{f:D->Res (Option D)}{g:D->Option D}:∀{ds:List D},(∀d∈ds,f d=.ok (g d))->Bv f ds=.ok (ds.filterMap g)
 |[],_=>rfl
 |d::ds,h=>by
  unfold Bv
  rw[h d aac,GW (ds:=ds) fun x hx=>h x (aaa _ hx)]
  show Res.ok _=_
  rw[abq]
  cases g d<;>rfl
theorem BG{nl:Nat}{fr:List Nat}{tg:Tg}{it:It}{elt:E}{δ:Fr}{ds:List D}{g:D->D}(hi:evI it δ=.ok ds)(h:∀d∈ds,∃δ',Dq tg d (blk nl fr δ)=some δ'/\ev elt δ'=.ok (g d)):ev (.comp0 nl fr tg it elt) δ=.ok (.lst (ds.map g)):=by
 rw[ev,hi,Res.bind_ok,GW (g:=fun d=>some (g d)) (fun d hd=>by
  obtain⟨δ',e1,e2⟩:=h d hd
  rw[e1]
  show(ev elt δ').bind _=_
  rw[e2];rfl),Res.bind_ok,List.filterMap_eq_map']
theorem Id{nl:Nat}{fr:List Nat}{tg:Tg}{it:It}{cond elt:E}{δ:Fr}{ds:List D}{b:D->Bool}{g:D->D}(hi:evI it δ=.ok ds)(h:∀d∈ds,∃δ',Dq tg d (blk nl fr δ)=some δ'/\(ev cond δ').bind B0=.ok (b d)/\(b d=true->ev elt δ'=.ok (g d))):ev (.comp1 nl fr tg it cond elt) δ=.ok (.lst ((ds.filter b).map g)):=by
 rw[ev,hi,Res.bind_ok,GW (g:=fun d=>if b d then some (g d) else none) (fun d hd=>by
  obtain⟨δ',e1,e2,e3⟩:=h d hd
  rw[e1]
  show((ev cond δ').bind B0).bind _=_
  rw[e2,Res.bind_ok]
  cases q:b d with
  |true=>rw[if_pos rfl,e3 q];rfl
  |false=>rfl),Res.bind_ok]
 congr 2
 clear h hi
 induction ds with
 |nil=>rfl
 |cons d ds ih=>
  rw[abq,abI]
  cases q:b d with
  |true=>simp[ih]
  |false=>simp[ih]
theorem Fx{c:Fr->Res Bool}{b:Fr->Out}(P:Nat->Fr->Prop):∀(k n m:Nat){δ:Fr},P m δ->(∀i δ,m<=i->i<m+k->P i δ->c δ=.ok true/\∃δ',b δ=.nxt δ'/\P (i+1) δ')->(∀δ,P (m+k) δ->c δ=.ok false)->k<n->∃δ',Bc c b n δ=.nxt δ'/\P (m+k) δ'
 |0,n+1,m,δ,h0,_,h2,_=>by
  refine⟨δ,?_,h0⟩
  unfold Bc
  rw[h2 δ h0];rfl
 |k+1,n+1,m,δ,h0,h1,h2,hn=>by
  obtain⟨e1,δ',e2,h3⟩:=h1 m δ (aai _) (by omega) h0
  obtain⟨δ2,e4,h4⟩:=Fx P k n (m+1) h3 (fun i δ hi hl=>h1 i δ (by exact aap hi) (by omega)) (fun δ hd=>h2 δ (by rw[show m+(k+1)=m+1+k by omega];exact hd)) (by exact aaZ hn)
  refine⟨δ2,?_,by rw[show m+(k+1)=m+1+k by omega];exact h4⟩
  unfold Bc
  rw[e1,Res.out_ok,if_pos rfl,e2]
  exact e4
theorem Fy(xs:List D)(h:xs.all (D.shp 7)=true):c2 .ne (.lst xs) (.lst [])=.ok (.bl (!xs.isEmpty)):=by
 show(if(D.shp 8 (.lst xs)&&D.shp 8 (.lst [])) then _ else _)=_
 rw[show D.shp 8 (.lst xs)=true from h,show D.shp 8 (.lst [])=true from rfl]
 cases xs<;>rfl
theorem T7(a b:List D)(h:a.length+b.length<=16777216):b2 .add (.lst a) (.lst b)=.ok (.lst (a++b)):=by
 show(if _ then _ else _)=_
 exact if_pos h
abbrev cnt(p f i:Nat):Nat:=(p+f^i-1)/f^i
theorem Ci(p f:Nat):cnt p f 0=p:=by unfold cnt;simp
theorem Gm{p f:Nat}(hf:1<=f)(i:Nat):cnt p f (i+1)=(cnt p f i+f-1)/f:=by
 unfold cnt
 have hw:0<f^i:=abE (by exact hf)
 have h1:(p+f^i-1)/f^i+f-1=(p+f^(i+1)-1)/f^i:=by
  have e:p+f^(i+1)-1=(p+f^i-1)+f^i*(f-1):=by
   have:f^(i+1)=f^i*(f-1)+f^i:=by
    rw[ab4,<- Nat.mul_succ];congr 1;omega
   omega
  rw[e,Nat.add_mul_div_left _ _ hw]
  generalize (p+f^i-1)/f^i=q
  omega
 rw[h1,Nat.div_div_eq_div_mul,ab4]
structure Hs(p f h:Nat):Prop where
 one:cnt p f h=1
 more:∀i,i<h->1<cnt p f i
theorem M6{p f h:Nat}(hf:1<=f)(hh:p<=f^h)(hp:1<=p):cnt p f h=1:=by
 unfold cnt
 have hw:0<f^h:=abE (by exact hf)
 apply acp<;>omega
theorem RZ{p f:Nat}(hf:2<=f)(hp:1<=p):∀n:Nat,p<=f^n->∃h,h<=n/\Hs p f h
 |0,h=>⟨0,aai _,M6 (by exact aap hf) h hp,fun i hi=>absurd hi (by exact absurd hi (abz _))⟩
 |n+1,h=>by
  by_cases hn:p<=f^n
  ·obtain⟨k,h1,h2⟩:=RZ hf hp n hn
   exact⟨k,by exact acC h1,h2⟩
  ·refine⟨n+1,aai _,M6 (by exact aap hf) h hp,fun i hi=>?_⟩
   unfold cnt
   have hw:0<f^i:=abE (by exact aap hf)
   have hm:f^i<=f^n:=ac1 (by exact aap hf) (by exact aaZ hi)
   have:2<=(p+f^i-1)/f^i:=by
    rw[abA hw];omega
   exact this
theorem hs8{p f:Nat}(hf:2<=f)(hp:1<=p)(hp2:p<=200):∃h,h<=8/\Hs p f h:=by
 refine RZ hf hp 8 (aao (show p<=2^8 by exact aao hp2 (by decide)) (ac5 hf 8))
theorem X9{f l:Nat}(hf:f<=8)(hl:l<=9):f^l<=134217728 :=
 aao (ac5 hf l) (aao (ac1 (by decide) hl) (by decide))
theorem EB{p f l j:Nat}(hf:1<=f):j<cnt p f l ↔ j*f^l<p:=by
 unfold cnt
 have hw:0<f^l:=abE (by exact hf)
 rw[<- Nat.succ_le_iff,abA hw,abH]
 omega
theorem Ck{p f l:Nat}(hf:1<=f):cnt p f l<=p:=by
 apply abW
 intro h
 have:=(EB hf).mp h
 have hw:0<f^l:=abE (by exact hf)
 have:=Nat.le_mul_of_pos_right p hw
 omega
abbrev mx(b:Nat->Bool):Nat->Nat
 |0=>0
 |l+1=>if b (l+1) then l+1 else mx b l
end Pu
end
section
open Pu
local macro_rules | `(tactic| simp_arith [$xs,*] $[at $h:ident]?)=>`(tactic| simp -implicitDefEqProofs only [Pu.AS,aa1,aam,abc,abi,↓reduceIte,aaK,Nat.reduceAdd,Nat.reduceSub,adb,Int.reduceAdd,Int.reduceSub,Int.reduceMul,at0,at1,beq_self_eq_true,abB,Bool.and_true,acx,acq,acU,exs,ex,tv,ev,evs,evI,evBo,Ee,Ef,Res.bind_ok,Res.out_ok,Out.then_nxt,Out.then_ret,abh,aa4,JE,JF,Dm,DW,Cn,Co,Dn,Cp,EY,EZ,E0,E1,DX,DY,B0,decide_true,decide_false,if_true,if_false,aa7,abx,abN,abU,evP,ixD,Fb,D2,upd,Ax,aa6,acH,aaq,ace,biD,Dr,CC,C5,on1,on2,on3,EE,Ce,Eh,DM,F1,DJ,FC,dI,dB,dS,dL,dT',un1,un0,CP,DL,E.isCN,EF,reduceCtorEq,Int.reduceLT,Int.reduceLE,Int.reduceNeg,Int.reduceBEq,$xs,*] $[at $h:ident]?)
namespace Pu
open PySem
theorem IX{c:Fr->Res Bool}{b:Fr->Out}{n:Nat}{δ δ':Fr}(h1:c δ=.ok true)(h2:b δ=.nxt δ'):Bc c b (n+1) δ=Bc c b n δ':=by
 rw[Bc,h1,Res.out_ok,if_pos rfl,h2,Out.then_nxt]
theorem E5{c:Fr->Res Bool}{b:Fr->Out}{n:Nat}{δ:Fr}(h1:c δ=.ok false):Bc c b (n+1) δ=.nxt δ:=by
 rw[Bc,h1,Res.out_ok];rfl
abbrev iN(n:Nat):D:=.int n
abbrev AR(xs:List Nat):D:=.lst (xs.map iN)
abbrev lvD(p f h:Nat):List Nat:=(aan (h+1)).map (cnt p f)
abbrev shD(p f:Nat):D:=.tup [.int p,.int f]
abbrev Ak(l j:Nat):D:=.tup [.int l,.int j]
theorem PU{m f:Nat}(hf:1<=f):((m:Int)+(f:Int)-1)/(f:Int)=(((m+f-1)/f:Nat):Int):=by
 rw[Int.natCast_ediv];congr 1;omega
theorem GX{xs:List Nat}{i:Nat}(h:i<xs.length):atD (xs.map iN) (i:Int)=.ok (.int (xs[i]:Nat)):=by
 unfold atD ixN
 rw[aab,if_pos (by exact aaA _),if_pos (by exact aaW.mpr h)]
 simp[h,iN]
theorem Hr(p f i:Nat):((aan (i+1)).map (cnt p f)).map iN=((aan i).map (cnt p f)).map iN++[.int (cnt p f i)]:=by
 rw[abp,aaq,aaq];rfl
section
variable{p f h:Nat}(hf:2<=f)(hf8:f<=8)(H:Hs p f h)(hh:h<=8)
include hf hf8 H hh
theorem T8(xs:List D)(hl:xs.length<=1000)(i:Nat):exs Di [some (shD p f),some (.int f),some (.lst xs),some (.int (cnt p f i))]=.nxt [some (shD p f),some (.int f),some (.lst (xs++[.int (cnt p f i)])),some (.int (cnt p f (i+1)))]:=by
 have hap:=Bx xs (.int (cnt p f i)) (by exact aaC hl (by decide))
 have h1:0<(f:Int):=by exact aaW.mpr (aap hf)
 have h2:(f:Int)<1606938044258990275541962092341162602522202993782792835301376:=by exact q9A hf8 (by decide)
 rw[Gm (by exact aap hf),<- PU (by exact aap hf)]
 simp_arith[Di,hap,h1,h2]
theorem T9:Bc (tv (.cmp .gt (.nm 3) (.cI 1))) (exs Di) FU [some (shD p f),some (.int f),some (.lst []),some (.int p)]=.nxt [some (shD p f),some (.int f),some (.lst (((aan h).map (cnt p f)).map iN)),some (.int (1:Nat))]:=by
 obtain⟨δ',e,rfl⟩:=Fx (c:=tv (.cmp .gt (.nm 3) (.cI 1))) (b:=exs Di) (fun i δ=>δ=[some (shD p f),some (.int f),some (.lst (((aan i).map (cnt p f)).map iN)),some (.int (cnt p f i))]) h FU 0 (δ:=[some (shD p f),some (.int f),some (.lst []),some (.int p)]) (by rw[Ci];rfl) (by
   rintro i δ _ hi rfl
   have:=H.more i (by omega)
   have h1:(1:Int)<(cnt p f i:Int):=by exact aaW.mpr this
   refine⟨?_,_,T8 hf hf8 H hh _ (by simp;omega) i,by rw[Hr]⟩
   simp_arith[h1]) (by
   rintro δ rfl
   rw[aaK,H.one]
   rfl) (by unfold FU;exact aaC hh (by decide))
 rw[e,aaK,H.one]
theorem Gn:Ev.den [shD p f]=.ok (AR (lvD p f h)):=by
 have hl:=T9 hf hf8 H hh
 have hap:=Bx (((aan h).map (cnt p f)).map iN) (.int (1:Nat)) (by simp;exact aaC hh (by decide))
 have e:=Hr p f h
 rw[H.one]at e
 refine(PN _ rfl).trans (Ai ?_)
 unfold AR lvD
 rw[e]
 unfold shD at hl ⊢
 have h1:((1:Nat):Int)=1:=rfl
 rw[h1]at hap hl ⊢
 simp_arith[Gc,hl,hap]
end
theorem BM(p f h:Nat):(lvD p f h).length=h+1:=by unfold lvD;simp
theorem FQ{p f h i:Nat}(hi:i<=h):(lvD p f h)[i]'(by rw[BM];exact abd hi)=cnt p f i:=by unfold lvD;simp
section
variable{p f h:Nat}(hf:2<=f)(hf8:f<=8)(H:Hs p f h)(hh:h<=8){l j:Nat}(hl:l<=h)(hj:j<cnt p f l)
include hl hj
theorem M7:Bl.den [AR (lvD p f h),Ak l j]=.ok (.bl true):=by
 have h1:=BC (l:Int) 0 (((lvD p f h).length:Int)-1)
 rw[BM,decide_eq_true (by omega)]at h1
 have h2:=BC (j:Int) 0 ((cnt p f l:Int)-1)
 rw[decide_eq_true (by omega)]at h2
 have h3:=GX (xs:=lvD p f h) (i:=l) (by rw[BM];exact abd hl)
 rw[FQ hl]at h3
 have h4:(h:Int)+1-1=h:=by omega
 refine(CF _ rfl).trans (Ai ?_)
 unfold AR Ak
 have h5:=BM p f h
 simp_arith[A8,h1,h2,h3,h5,aab,aaK,Nat.reduceAdd,adb]
end
theorem FR{n:Nat}{b:Ss}{ds:List D}{δ:Fr}(h:exs b (Pu.AS n ds)=.nxt δ):run n b ds=.ok .non:=by
 unfold run;rw[h]
theorem Rg(xs:List Nat)(k:Nat):(xs.map iN).all (D.shp k)=true:=by
 rw[aas]
 intro d hd
 obtain⟨n,_,rfl⟩:=aat.mp hd
 cases k<;>rfl
theorem J4(xs:List D)(h:xs.all (D.shp 7)=true):c2 .eq (.lst xs) (.lst [])=.ok (.bl xs.isEmpty):=by
 show(if(D.shp 8 (.lst xs)&&D.shp 8 (.lst [])) then _ else _)=_
 rw[show D.shp 8 (.lst xs)=true from h,show D.shp 8 (.lst [])=true from rfl]
 cases xs<;>rfl
section
variable{p f h:Nat}(hf:2<=f)(hf8:f<=8)(H:Hs p f h)(hh:h<=8)
include hf hf8 H hh
section
variable{l j:Nat}(hl:l<=h)(hj:j<cnt p f l)
include hl hj
theorem Ml:Gd.den [shD p f,Ak l j]=.ok (.bl true):=by
 have h1:=Gn hf hf8 H hh
 have h2:=M7 hl hj
 refine(Ob _ rfl).trans (Ai ?_)
 simp_arith[Fq,h1,h2]
theorem JG:EI.den [shD p f,Ak l j]=.ok .non:=by
 have h1:=Ml hf hf8 H hh hl hj
 refine(Kg _ rfl).trans (FR (δ:=[some (shD p f),some (Ak l j)]) ?_)
 simp_arith[DQ,h1]
end
theorem Rh:LE.den [shD p f]=.ok (Ak h 0):=by
 have h1:=Gn hf hf8 H hh
 have h2:=J4 ((lvD p f h).map iN) (Rg _ _)
 have h3:((lvD p f h).map iN).isEmpty=false:=by
  rw[List.isEmpty_eq_false_iff_exists_mem]
  refine⟨iN (cnt p f 0),aat.mpr ⟨cnt p f 0,?_,rfl⟩⟩
  exact aat.mpr ⟨0,by simp,rfl⟩
 rw[h3]at h2
 have h5:=BM p f h
 refine(Wc _ rfl).trans (Ai ?_)
 unfold AR at h1
 unfold Ak
 have h6:(((h+1:Nat):Int)-1)=h:=by omega
 simp_arith[Kq,h1,h2,h5,h6,aab]
end
abbrev Ap(q:Nat×Nat):D:=Ak q.1 q.2
theorem JH(xs:List D)(d:D):atD (xs++[d]) (-1)=.ok d:=by
 unfold atD ixN
 rw[if_neg (by decide),if_pos (by rw[aaH,abT];omega),aaH,abT]
 show(match (xs++[d])[((-1:Int)+((xs.length+1:Nat):Int)).toNat]? with|some d=>Res.ok d|none=>Res.bad)=_
 rw[show((-1:Int)+((xs.length+1:Nat):Int)).toNat=xs.length by omega,aaT (aai _),acI]
 rfl
section
variable{p f h:Nat}(hf:2<=f)(hf8:f<=8)(H:Hs p f h)(hh:h<=8)
include hf hf8 H hh
abbrev cL(p f i:Nat):D:=.lst (((aan i).map (cnt p f)).map iN++[.int (cnt p f i)])
theorem Ua(i:Nat)(hi:i<=8):exs Bd [some (.int p),some (.int f),some (cL p f i)]=.nxt [some (.int p),some (.int f),some (cL p f (i+1))]:=by
 have h0:=JH (((aan i).map (cnt p f)).map iN) (.int (cnt p f i))
 have hap:=Bx (((aan i).map (cnt p f)).map iN++[.int (cnt p f i)]) (.int (cnt p f (i+1))) (by simp;exact aaC (ac2 hi _) (by decide))
 have h1:0<(f:Int):=by exact aaW.mpr (aap hf)
 have h2:(f:Int)<1606938044258990275541962092341162602522202993782792835301376:=by exact q9A hf8 (by decide)
 have e1:cL p f (i+1)=.lst ((((aan i).map (cnt p f)).map iN++[.int (cnt p f i)])++[.int (cnt p f (i+1))]):=by
  unfold cL;rw[Hr]
 rw[e1]
 rw[Gm (by omega),<- PU (by omega)]at hap ⊢
 unfold cL
 generalize ((aan i).map (cnt p f)).map iN=xs at *
 simp_arith[Bd,h0,h1,h2,hap]
theorem Ub:Bc (tv (.cmp .gt (.ixL (.nm 2) (.neg (.cI 1))) (.cI 1))) (exs Bd) FU [some (.int p),some (.int f),some (cL p f 0)]=.nxt [some (.int p),some (.int f),some (cL p f h)]:=by
 have cd:∀i,tv (.cmp .gt (.ixL (.nm 2) (.neg (.cI 1))) (.cI 1)) [some (.int p),some (.int f),some (cL p f i)]=.ok (decide (1<(cnt p f i:Int))):=fun i=>by
  have h0:=JH (((aan i).map (cnt p f)).map iN) (.int (cnt p f i))
  unfold cL
  simp_arith[h0]
 obtain⟨δ',e,rfl⟩:=Fx (c:=tv (.cmp .gt (.ixL (.nm 2) (.neg (.cI 1))) (.cI 1))) (b:=exs Bd) (fun i δ=>δ=[some (.int p),some (.int f),some (cL p f i)]) h FU 0 (δ:=[some (.int p),some (.int f),some (cL p f 0)]) rfl (by
   rintro i δ _ hi rfl
   have:=H.more i (by omega)
   refine⟨?_,_,Ua hf hf8 H hh i (by omega),rfl⟩
   rw[cd,decide_eq_true (by exact aaW.mpr this)]) (by
   rintro δ rfl
   rw[aaK,cd,H.one]
   rfl) (by unfold FU;exact aaC hh (by decide))
 rw[e,aaK]
theorem IY(hp:1<=p):B3.den [.int p,.int f]=.ok (AR (lvD p f h)):=by
 have hl:=Ub hf hf8 H hh
 have e:AR (lvD p f h)=cL p f h:=by unfold AR lvD cL;rw[Hr]
 have c1:((p:Int)==0)=false:=by simp;exact abw hp
 have e0:cL p f 0=.lst [.int p]:=by unfold cL;rw[Ci];rfl
 rw[e0]at hl
 rw[e]
 refine(Hx _ rfl).trans (Ai ?_)
 simp_arith[Ch,c1,hl]
end
theorem Oi(p f l j:Nat)(hf8:f<=8):∃o,Bg (.nm 5) (exs BP) (Aw 0 (l:Int)) [some (.int p),some (.int f),some (.int l),some (.int j),some (.int 1),none]=.nxt [some (.int p),some (.int f),some (.int l),some (.int j),some (.int ((f^l:Nat):Int)),o]:=by
 obtain⟨δ',e,o,rfl⟩:=Bo (tg:=.nm 5) (b:=exs BP) (fun i δ=>∃o,δ=[some (.int p),some (.int f),some (.int l),some (.int j),some (.int ((f^i:Nat):Int)),o]) (ds:=Aw 0 (l:Int)) (δ:=[some (.int p),some (.int f),some (.int l),some (.int j),some (.int 1),none]) 0 ⟨none,rfl⟩ (by
  rintro i d δ hd ⟨o,rfl⟩
  refine⟨_,_,rfl,?_,some d,rfl⟩
  have h1:-(18446744073709551616)<(f:Int):=by exact aaA _
  have h2:(f:Int)<18446744073709551616:=by exact q9A hf8 (by decide)
  rw[ab4,aaK,abk]
  simp_arith[BP,h1,h2])
 rw[BW,ack,aav,aaK]at e
 exact⟨o,e⟩
theorem PV(p f l j:Nat)(hf8:f<=8)(hl:l<=8):DB.den [.int p,.int f,.int l,.int j]=.ok (Ak (j*f^l) (min p (j*f^l+f^l))):=by
 obtain⟨o,e⟩:=Oi p f l j hf8
 have hr:=Cq (a:=0) (b:=(l:Int)) (by exact by decide) (by exact by decide) (by exact aaA _) (by exact q9B hl (by decide))
 have hw:=X9 (f:=f) (l:=l) hf8 (by exact aao hl (by decide))
 have h1:-(18446744073709551616)<((f^l:Nat):Int):=by exact aaA _
 have h2:((f^l:Nat):Int)<18446744073709551616:=by exact q9A hw (by decide)
 refine(HZ _ rfl).trans (Ai ?_)
 generalize f^l=w at *
 have h3:(((min p (j*w+w):Nat)):Int)=min (p:Int) ((j:Int)*w+w):=by rw[<- abk];omega
 unfold Ak
 rw[h3,abk]
 simp_arith[Cu,hr,e,h1,h2]
mutual
theorem Ie:∀{n:Nat}{d:D},D.shp n d=true->D.eqv d d=true
 |_,.non,_=>by simp[D.eqv]
 |_,.bl b,_=>by simp[D.eqv]
 |_,.int i,_=>by simp[D.eqv]
 |_,.str x,_=>by simp[D.eqv]
 |n+1,.tup ds,h=>by rw[D.eqv];exact eqvs_refl (n:=n) h
 |n+1,.lst ds,h=>by rw[D.eqv];exact eqvs_refl (n:=n) h
 |0,.tup ds,h=>by cases h
 |0,.lst ds,h=>by cases h
 |_,.exn _,h=>by simp[D.shp]at h
 |_,.dic _ _,h=>by simp[D.shp]at h
 |_,.dit _ _,h=>by simp[D.shp]at h
theorem eqvs_refl:∀{n:Nat}{ds:List D},ds.all (D.shp n)=true->D.eqvs ds ds=true
 |_,[],_=>by simp[D.eqvs]
 |n,d::ds,h=>by
  rw[aaS,aaf]at h
  rw[D.eqvs,Ie h.1,eqvs_refl h.2];rfl
end
theorem Oj(d:D)(h:D.shp 8 d=true):c2 .eq d d=.ok (.bl true):=by
 show(if _ then _ else _)=_
 rw[h,Ie h];rfl
theorem IZ(d:D)(h:D.shp 8 d=true):c2 .ne d d=.ok (.bl false):=by
 show(if _ then _ else _)=_
 rw[h,Ie h];rfl
theorem PX(qs:List (Nat×Nat))(k:Nat):(qs.map Ap).all (D.shp (k+1))=true:=by
 rw[aas]
 intro d hd
 obtain⟨n,_,rfl⟩:=aat.mp hd
 cases k<;>rfl
theorem Wd(ds es:List D)(h:ds.length+es.length<=16777216):umD .extend [.lst es] ds=some (ds++es):=by
 show(if _ then _ else _)=_
 exact if_pos h
structure Sp(p f h:Nat):Prop where
 hf:2<=f
 hf8:f<=8
 hp:p<=200
 hh:h<=8
 hs:p=0\/Hs p f h
theorem pw6:b2 .pow (.int 10) (.int 6)=.ok (.int 1000000):=by
 rw[Fj _ _ (by decide) (by decide) (by decide)];rfl
theorem LM(d:D):∀n,(aam n [d]).flatten=aam n d
 |0=>rfl
 |n+1=>by rw[abr,abS,LM d n];rfl
theorem We(d:D)(n:Nat)(h:n<=1000):b2 .mul (.lst [d]) (.int n)=.ok (.lst (aam n d)):=by
 rw[b2,K3,if_pos]
 ·rw[aav,LM]
 ·rw[aav,abT]
  unfold LIM
  omega
theorem m4c(x:Int):x%4=0\/x%4=1\/x%4=2\/x%4=3:=by omega
section
variable{xs rs:List Int}{k:Nat}{s p m:D}{sc x c e:Int}{o7:Option D}(h0:0<=sc)(h1:sc<=100000000000000000)(x0:0<=x)(x1:x<13)(e0:0<=e)(e1:e<13)(a2:atD (xs.map D.int) 2=.ok (.int c))(a3:atD (xs.map D.int) 3=.ok (.int e))(ak:atD (xs.map D.int) (4+(k:Int))=.ok (.int x))(hr:rs.length<=1000)
include h0 h1 x0 x1 e0 e1 a2 a3 ak hr
theorem Uc:∃(r:Int)(o7':Option D),0<=r/\r<=1000000000000000000/\exs AG [some s,some p,some m,some (.lst (xs.map .int)),some (.int sc),some (.lst (rs.map .int)),some (.int k),o7]=.nxt [some s,some p,some m,some (.lst (xs.map .int)),some (.int sc),some (.lst ((rs++[r]).map .int)),some (.int k),o7']:=by
 have hap:=fun r=>Bx (rs.map D.int) (.int r) (by rw[aab];exact aaC hr (by decide))
 have fin:∀w:Int,0<=w->0<=min 1000000000000000000 (w*sc+(if(w==12)=true then 1 else 0)*4):=fun w hw=>Int.le_min.mpr ⟨by decide,ab6 (Int.mul_nonneg hw h0) (by split<;>decide)⟩
 have big:∀w:Int,min 1000000000000000000 (w*sc+(if(w==12)=true then 1 else 0)*4)<=1000000000000000000:=fun w=>Int.min_le_left ..
 have l3:(0:Int)<3:=by decide
 have l4:(0:Int)<4:=by decide
 have l5:(0:Int)<13:=by decide
 have l6:(4:Int)<1606938044258990275541962092341162602522202993782792835301376:=by decide
 have s1:-18446744073709551616<sc:=by exact ab2 (by decide) h0
 have s2:sc<18446744073709551616:=by exact acv h1 (by decide)
 have m3:=abo x (show(3:Int)≠0 by decide)
 have m4:=abo x (show(4:Int)≠0 by decide)
 have m4':=abP x l4
 have m13:=abo (e+(k:Int)) (show(13:Int)≠0 by decide)
 by_cases c1:c=1
 ·subst c1
  refine⟨_,some (.int (x%3)),fin (x%3) m3,big _,?_⟩
  simp_arith[AG,a2,ak,l3,hap,s1,s2]
 by_cases c2:c=2
 ·subst c2
  obtain⟨v,hv,v0,v1⟩:∃v:Int,atD [.int 0,.int 0,.int 0,.int 1] (x%4)=.ok (.int v)/\0<=v/\v<=1:=by
   rcases m4c x with h|h|h|h<;>rw[h]<;>refine⟨_,rfl,?_,?_⟩<;>decide
  have v2:-18446744073709551616<v:=by exact ab2 (by decide) v0
  have v3:v<18446744073709551616:=by exact acv v1 (by decide)
  refine⟨_,some (.int (v*(1+x/4))),fin (v*(1+x/4)) (Int.mul_nonneg v0 (ab6 (by decide) (acM x0 (by decide)))),big _,?_⟩
  simp_arith[AG,a2,ak,l4,l6,hv,v2,v3,hap,s1,s2]
 by_cases c3:c=3
 ·subst c3
  refine⟨_,some (.int ((e+(k:Int))%13)),fin ((e+(k:Int))%13) m13,big _,?_⟩
  simp_arith[AG,a2,a3,ak,l5,hap,s1,s2]
 by_cases c4:c=4
 ·subst c4
  refine⟨_,some (.int e),fin e e0,big _,?_⟩
  simp_arith[AG,a2,a3,ak,hap,s1,s2]
 ·have d1:(c==1)=false:=beq_eq_false_iff_ne.mpr c1
  have d2:(c==2)=false:=beq_eq_false_iff_ne.mpr c2
  have d3:(c==3)=false:=beq_eq_false_iff_ne.mpr c3
  have d4:(c==4)=false:=beq_eq_false_iff_ne.mpr c4
  refine⟨_,some (.int x),fin x x0,big _,?_⟩
  simp_arith[AG,a2,ak,d1,d2,d3,d4,hap,s1,s2]
end
theorem PY(ns:List Int)(p:Int)(hp:0<=p)(m:Nat)(hm:m<=200):∃rs:List Int,rs.length<=m/\(∀r∈rs,0<=r/\r<=1000000000000000000)/\Cg.den [.lst (ns.map .int),.int p,.int m]=.ok (.lst (rs.map .int)):=by
 obtain⟨xs,hrow,hl,hb⟩:=Fa ns p hp ([(m:Int)+1,5,6,13]++aam m 13) (by simp;exact aao hm (by decide)) (by
  intro s hs
  rcases aag.mp hs with h|h
  ·simp only[aak,List.not_mem_nil,or_false]at h
   rcases h with rfl|rfl|rfl|rfl<;>omega
  ·rw[(ab3.mp h).2];decide)
 have hl:xs.length=m+4:=by rw[hl,aaH,aby];simp;exact aci ..
 have g:∀i,i<m+4->∃x,xs[i]?=some x:=fun i hi=>⟨_,aae (by exact hl▸hi)⟩
 obtain⟨c0,g0⟩:=g 0 (by exact Nat.succ_pos _)
 obtain⟨c1,g1⟩:=g 1 (by exact abj ..)
 obtain⟨c2,g2⟩:=g 2 (by exact abj ..)
 obtain⟨c3,g3⟩:=g 3 (by exact abj ..)
 have b0:=hb 0 c0 ((m:Int)+1) g0 (by simp)
 have b1:=hb 1 c1 5 g1 (by simp)
 have b3:=hb 3 c3 13 g3 (by simp)
 have bk:∀i:Nat,i<m->∃x,xs[4+i]?=some x/\0<=x/\x<13:=fun i hi=>by
  obtain⟨x,gx⟩:=g (4+i) (by omega)
  refine⟨x,gx,hb (4+i) x 13 gx ?_⟩
  rw[aaT (by simp)]
  simp[hi]
 have a0:=DE g0
 have a1:=DE g1
 have a2:=DE g2
 have a3:=DE g3
 obtain⟨sc,hsc,s0,s1⟩:∃v:Int,atD [.int 1,.int 1,.int 7,.int 1000000,.int 83333333333333333] c1=.ok (.int v)/\0<=v/\v<=100000000000000000:=by
  have:c1=0\/c1=1\/c1=2\/c1=3\/c1=4:=by omega
  rcases this with rfl|rfl|rfl|rfl|rfl<;>refine⟨_,rfl,?_,?_⟩<;>decide
 obtain⟨n,rfl⟩:∃n:Nat,c0=n:=⟨c0.toNat,by omega⟩
 obtain⟨δ',e,rs,o6,o7,rfl,hrl,hrb⟩:=Bo (tg:=.nm 6) (b:=exs AG) (fun i δ=>∃(rs:List Int)(o6 o7:Option D),δ=[some (.lst (ns.map .int)),some (.int p),some (.int m),some (.lst (xs.map .int)),some (.int sc),some (.lst (rs.map .int)),o6,o7]/\rs.length=i/\∀r∈rs,0<=r/\r<=1000000000000000000) (ds:=Aw 0 (n:Int)) (δ:=[some (.lst (ns.map .int)),some (.int p),some (.int m),some (.lst (xs.map .int)),some (.int sc),some (.lst []),none,none]) 0 ⟨[],none,none,rfl,rfl,fun _ h=>nomatch h⟩ (by
  rintro i d δ hd ⟨rs,o6,o7,rfl,hrl,hrb⟩
  obtain⟨rfl,hi⟩:=BV hd
  rw[abK]
  obtain⟨x,gx,x0,x1⟩:=bk i (by omega)
  have ak:=DE gx
  rw[show((4+i:Nat):Int)=4+(i:Int) by exact rfl]at ak
  obtain⟨r,o7',r0,r1,e⟩:=Uc (s:=.lst (ns.map .int)) (p:=.int p) (m:=.int m) (o7:=o7) s0 s1 x0 x1 b3.1 b3.2 a2 a3 ak (rs:=rs) (by omega)
  refine⟨_,_,rfl,e,rs++[r],some (.int i),o7',rfl,by simp;omega,fun y hy=>?_⟩
  rcases aag.mp hy with h|h
  ·exact hrb y h
  ·rw[aaE.mp h];exact⟨r0,r1⟩)
 rw[BW]at hrl
 refine⟨rs,by omega,hrb,?_⟩
 have hr:=Cq (a:=0) (b:=(n:Int)) (by exact by decide) (by exact by decide) (by exact aaA _) (by omega)
 have hrep:=We (.int 13) m (by exact aao hm (by decide))
 have hadd:=T7 [.int ((m:Int)+1),.int 5,.int 6,.int 13] (aam m (.int 13)) (by simp;exact aao (ac4 hm _) (by decide))
 rw[aaq,abm]at hrow
 refine(HY _ rfl).trans (Ai ?_)
 have a0':atD (xs.map D.int) 0=.ok (.int n):=a0
 have a1':atD (xs.map D.int) 1=.ok (.int c1):=a1
 generalize aam m (D.int 13)=zs at *
 simp only[ace,abc,abi]at hrow hadd
 simp_arith[Cr,hrep,hadd,hrow,pw6,hsc,a0',a1',hr,e]
theorem Ud(ns:List Int)(p:Int)(hp:0<=p):∃f:Nat,2<=f/\f<=8/\Ec.den [.lst (ns.map .int),.int p]=.ok (.int f):=by
 obtain⟨xs,hrow,hl,hb⟩:=Fa ns p hp [7] (by decide) (by decide)
 obtain⟨a,rfl⟩:=X7 hl
 have ha:=hb 0 a 7 rfl rfl
 simp only[ace]at hrow
 refine⟨(2+a).toNat,by omega,by omega,?_⟩
 rw[abt (by omega)]
 refine(JD _ rfl).trans (Ai ?_)
 simp_arith[Dw,hrow,X8]
theorem Ue{rs:List Int}{a b:Nat}(ha:a<=rs.length)(hb:b<=rs.length):cut (rs.map D.int) (some (a:Int)) (some (b:Int))=((rs.drop a).take (b-a)).map D.int:=by
 have e1:sIx rs.length 0 (some (a:Int))=a:=by
  show(if(a:Int)<0 then _ else _:Int).toNat=a
  rw[if_neg (by exact q9F)];omega
 have e2:sIx rs.length rs.length (some (b:Int))=b:=by
  show(if(b:Int)<0 then _ else _:Int).toNat=b
  rw[if_neg (by exact q9F)];omega
 unfold cut
 rw[aab,e1,e2,<- acz,<- acy]
theorem DZ:∀ys:List Int,De (ys.map .int)=some ys
 |[]=>rfl
 |y::r=>by rw[aaI,De,DZ r];rfl
abbrev mxR(rs:List Int)(a b:Nat):Int:=((rs.drop a).take (b-a)).max?.getD 0
theorem LO{ys:List Int}(h:ys≠[]):ys.max?=some (ys.max?.getD 0):=by
 cases q:ys.max? with
 |none=>exact absurd (List.max?_eq_none_iff.mp q) h
 |some m=>rfl
theorem I0{rs:List Int}{a b:Nat}(hab:a<b)(hb:b<=rs.length):((rs.drop a).take (b-a)).max?=some (mxR rs a b):=by
 apply LO
 intro h
 have:=congrArg aa1 h
 rw[abV,acE]at this
 simp at this
 omega
abbrev AB(rs:List Int)(f l n:Nat):List Int:=(aan n).map fun j=>mxR rs (j*f^l) (min rs.length (j*f^l+f^l))
abbrev Af(rs:List Int)(f n:Nat):List (List Int):=(aan n).map fun l=>AB rs f l (cnt rs.length f l)
abbrev Ab(xs:List Int):D:=.lst (xs.map .int)
abbrev Aa(tr:List (List Int)):D:=.lst (tr.map Ab)
theorem Ri(rs:List Int)(f l n:Nat):AB rs f l (n+1)=AB rs f l n++[mxR rs (n*f^l) (min rs.length (n*f^l+f^l))]:=by
 unfold AB;rw[abp,aaq];rfl
theorem GY(rs:List Int)(f n:Nat):Af rs f (n+1)=Af rs f n++[AB rs f n (cnt rs.length f n)]:=by
 unfold Af;rw[abp,aaq];rfl
section
variable{rs:List Int}{f h:Nat}(hf:2<=f)(hf8:f<=8)(H:Hs rs.length f h)(hh:h<=8)(hn:rs.length<=200)
include hf hf8 H hh hn
theorem Uf(tr co:D)(l j:Nat)(hl:l<=h)(hj:j<cnt rs.length f l)(o7 o8:Option D):∃o7' o8',exs Bw [some (Ab rs),some (.int f),some tr,some co,some (.int l),some (Ab (AB rs f l j)),some (.int j),o7,o8]=.nxt [some (Ab rs),some (.int f),some tr,some co,some (.int l),some (Ab (AB rs f l (j+1))),some (.int j),o7',o8']:=by
 have hr:=PV rs.length f l j hf8 (by exact aao hl hh)
 have hlt:=(EB (show 1<=f by exact aap hf)).mp hj
 have hw:0<f^l:=abE (by exact aap hf)
 have hc:=Ue (rs:=rs) (a:=j*f^l) (b:=min rs.length (j*f^l+f^l)) (by exact aap hlt) (by exact aaR ..)
 have hm:=I0 (rs:=rs) (a:=j*f^l) (b:=min rs.length (j*f^l+f^l)) (by omega) (by exact aaR ..)
 have hcl:=Ck (p:=rs.length) (f:=f) (l:=l) (by exact aap hf)
 have hap:=Bx ((AB rs f l j).map .int) (.int (mxR rs (j*f^l) (min rs.length (j*f^l+f^l)))) (by unfold AB;simp;omega)
 have hi:=DZ ((rs.drop (j*f^l)).take (min rs.length (j*f^l+f^l)-j*f^l))
 refine⟨some (.int ((j*f^l:Nat):Int)),some (.int ((min rs.length (j*f^l+f^l):Nat):Int)),?_⟩
 rw[Ri]
 unfold Ab
 rw[aaq]
 generalize mxR rs (j*f^l) (min rs.length (j*f^l+f^l))=M at *
 generalize (rs.drop (j*f^l)).take (min rs.length (j*f^l+f^l)-j*f^l)=ys at *
 generalize min rs.length (j*f^l+f^l)=e at *
 generalize j*f^l=a at *
 unfold Ak at hr
 generalize (AB rs f l j).map D.int=zs at *
 simp_arith[Bw,aab,hr,Dq,FK,hc,hi,Fc,hm,hap]
theorem Wf(tr:D)(l:Nat)(hl:l<=h)(o6 o7 o8:Option D):∃o6' o7' o8',Bg (.nm 6) (exs Bw) (Aw 0 (cnt rs.length f l)) [some (Ab rs),some (.int f),some tr,some (AR (lvD rs.length f h)),some (.int l),some (Ab []),o6,o7,o8]=.nxt [some (Ab rs),some (.int f),some tr,some (AR (lvD rs.length f h)),some (.int l),some (Ab (AB rs f l (cnt rs.length f l))),o6',o7',o8']:=by
 obtain⟨δ',e,o6',o7',o8',rfl⟩:=Bo (tg:=.nm 6) (b:=exs Bw) (fun j δ=>∃o6 o7 o8,δ=[some (Ab rs),some (.int f),some tr,some (AR (lvD rs.length f h)),some (.int l),some (Ab (AB rs f l j)),o6,o7,o8]) (ds:=Aw 0 (cnt rs.length f l)) (δ:=[some (Ab rs),some (.int f),some tr,some (AR (lvD rs.length f h)),some (.int l),some (Ab []),o6,o7,o8]) 0 ⟨o6,o7,o8,rfl⟩ (by
  rintro j d δ hd ⟨o6,o7,o8,rfl⟩
  obtain⟨rfl,hj⟩:=BV hd
  rw[abK,aaK]
  obtain⟨q7,q8,e⟩:=Uf hf hf8 H hh hn tr (AR (lvD rs.length f h)) l j hl (by exact aaW.mp hj) o7 o8
  exact⟨_,_,rfl,e,some (.int j),q7,q8,rfl⟩)
 rw[BW,ack,aav,aaK]at e
 exact⟨o6',o7',o8',e⟩
theorem Rj(l:Nat)(hl:l<=h)(o5 o6 o7 o8:Option D):∃o5' o6' o7' o8',exs B4 [some (Ab rs),some (.int f),some (Aa (Af rs f l)),some (AR (lvD rs.length f h)),some (.int l),o5,o6,o7,o8]=.nxt [some (Ab rs),some (.int f),some (Aa (Af rs f (l+1))),some (AR (lvD rs.length f h)),some (.int l),o5',o6',o7',o8']:=by
 obtain⟨o6',o7',o8',e⟩:=Wf hf hf8 H hh hn (Aa (Af rs f l)) l hl o6 o7 o8
 have h5:=GX (xs:=lvD rs.length f h) (i:=l) (by rw[BM];exact abd hl)
 rw[FQ hl]at h5
 have hcl:=Ck (p:=rs.length) (f:=f) (l:=l) (by exact aap hf)
 have hr:=Cq (a:=0) (b:=(cnt rs.length f l:Int)) (by exact by decide) (by exact by decide) (by exact aaA _) (by exact q9L hcl hn (by decide))
 have hap:=Bx ((Af rs f l).map Ab) (Ab (AB rs f l (cnt rs.length f l))) (by unfold Af;simp;exact q9K hl hh (by decide))
 refine⟨some (Ab (AB rs f l (cnt rs.length f l))),o6',o7',o8',?_⟩
 rw[GY]
 unfold Aa AR at *
 rw[aaq]
 generalize AB rs f l (cnt rs.length f l)=zs at *
 unfold Ab at e hap ⊢
 rw[abb]at e
 simp_arith[B4,h5,hr,e,hap]
theorem LP(hn1:1<=rs.length):Br.den [Ab rs,.int f]=.ok (Aa (Af rs f (h+1))):=by
 have hc:=IY hf hf8 H hh hn1
 have hr:=Cq (a:=0) (b:=((h+1:Nat):Int)) (by exact by decide) (by exact by decide) (by exact aaA _) (by exact q9A hh (by decide))
 obtain⟨δ',e,o4,o5,o6,o7,o8,rfl⟩:=Bo (tg:=.nm 4) (b:=exs B4) (fun l δ=>∃o4 o5 o6 o7 o8,δ=[some (Ab rs),some (.int f),some (Aa (Af rs f l)),some (AR (lvD rs.length f h)),o4,o5,o6,o7,o8]) (ds:=Aw 0 ((h+1:Nat):Int)) (δ:=[some (Ab rs),some (.int f),some (Aa []),some (AR (lvD rs.length f h)),none,none,none,none,none]) 0 ⟨none,none,none,none,none,rfl⟩ (by
  rintro l d δ hd ⟨o4,o5,o6,o7,o8,rfl⟩
  obtain⟨rfl,hl⟩:=BV hd
  rw[abK,aaK]
  obtain⟨q5,q6,q7,q8,e⟩:=Rj hf hf8 H hh hn l (by exact q9O hl) o5 o6 o7 o8
  exact⟨_,_,rfl,e,some (.int l),q5,q6,q7,q8,rfl⟩)
 rw[BW,show 0+(((h+1:Nat):Int)-0).toNat=h+1 by exact aci ..]at e
 have hll:=BM rs.length f h
 refine(IS _ rfl).trans (Ai ?_)
 unfold AR at hc e
 unfold Aa at e ⊢
 rw[abb]at e
 unfold Ab at e ⊢
 simp_arith[CZ,aab,hc,hll,hr,e]
end
theorem EC(xs:List Int)(m k:Nat):D.flat (m+2) (k+1) (Ab xs)=true:=by
 unfold Ab
 show(xs.map D.int).all (D.flat (m+1) k)=true
 rw[aas]
 intro d hd
 obtain⟨x,rfl⟩:=Gk hd
 rfl
theorem Fz(tr:List (List Int)):D.flat 9 2 (Aa tr)=true:=by
 show(tr.map Ab).all (D.flat 8 1)=true
 rw[aas]
 intro d hd
 obtain⟨x,_,rfl⟩:=aat.mp hd
 exact EC x 6 0
theorem Ig(xs:List Int)(k:Nat):D.shp (k+1) (Ab xs)=true:=by
 show(xs.map D.int).all (D.shp k)=true
 rw[aas]
 intro d hd
 obtain⟨x,rfl⟩:=Gk hd
 cases k<;>rfl
theorem Rk(tr:List (List Int)):D.shp 8 (Aa tr)=true:=by
 show(tr.map Ab).all (D.shp 7)=true
 rw[aas]
 intro d hd
 obtain⟨x,_,rfl⟩:=aat.mp hd
 exact Ig x 6
abbrev tl(tr:List (List Int))(l j:Nat):Int:=(tr.getD l []).getD j 0
abbrev Dim(tr:List (List Int))(p f h:Nat):Prop:=tr.map aa1=lvD p f h
theorem Go(rs:List Int)(f h:Nat):Dim (Af rs f (h+1)) rs.length f h:=by
 unfold Dim Af lvD
 rw[aaB]
 apply aaQ
 intro l _
 show(AB rs f l (cnt rs.length f l)).length=_
 unfold AB;simp
section
variable{tr:List (List Int)}{p f h:Nat}(hd:Dim tr p f h)
include hd
theorem BE:tr.length=h+1:=by
 have:=congrArg aa1 hd
 rwa [aab,BM]at this
theorem A9{l:Nat}(hl:l<=h):(tr.getD l []).length=cnt p f l/\tr[l]?=some (tr.getD l []):=by
 have h1:=BE hd
 have h2:tr[l]?=some tr[l]:=aae (by exact aaC hl (aa5 h1.symm))
 have h3:tr.getD l []=tr[l]:=by rw[aah,h2];rfl
 rw[h3]
 refine⟨?_,h2⟩
 have h4:(tr.map aa1)[l]?=some tr[l].length:=by rw[aal,h2];rfl
 rw[hd]at h4
 have h5:(lvD p f h)[l]?=some (cnt p f l):=by rw[aae (by rw[BM];exact abd hl),FQ hl]
 rw[h5]at h4
 exact(Option.some.inj h4).symm
theorem FS{l:Nat}(hl:l<=h):atD (tr.map Ab) (l:Int)=.ok (Ab (tr.getD l [])):=by
 have h1:=BE hd
 unfold atD ixN
 rw[aab,if_pos (by exact aaA _),if_pos (by omega)]
 show(match (tr.map Ab)[(l:Int).toNat]? with|some d=>Res.ok d|none=>Res.bad)=_
 rw[aav,aal,(A9 hd hl).2]
 rfl
theorem LQ{l j:Nat}(hl:l<=h)(hj:j<cnt p f l):atD ((tr.getD l []).map D.int) (j:Int)=.ok (.int (tl tr l j)):=by
 apply DE
 unfold tl
 rw[aah (l:=tr.getD l []),aae (by rw[(A9 hd hl).1];exact hj)]
 rfl
theorem Ki:DS.den [Aa tr]=.ok (AR (lvD p f h)):=by
 have h2:=BG (nl:=1) (fr:=[]) (tg:=.nm 0) (it:=.seq (.nm 0)) (elt:=.bi .len (.cons (.nm 0) .nil)) (δ:=[some (Aa tr)]) (ds:=tr.map Ab) (g:=fun d=>match d with|.lst ds=>.int ds.length|d=>d) (by unfold Aa;simp_arith[]) (fun d hd=>by
  obtain⟨x,_,rfl⟩:=aat.mp hd
  refine⟨[some (Ab x)],rfl,?_⟩
  unfold Ab
  simp_arith[])
 have e:(tr.map Ab).map (fun d=>match d with|.lst ds=>D.int ds.length|d=>d)=(lvD p f h).map iN:=by
  rw[<- hd,aaB,aaB]
  apply aaQ
  intro x _
  show D.int ((x.map D.int).length:Int)=iN x.length
  rw[aab];rfl
 rw[e]at h2
 refine(GP _ rfl).trans (Ai ?_)
 unfold Aa AR at *
 simp_arith[]at h2
 simp_arith[Dj,h2]
theorem CL{l j:Nat}(hl:l<=h)(hj:j<cnt p f l):Ay.den [Aa tr,Ak l j]=.ok (.int (tl tr l j)):=by
 have h1:=Ki hd
 have h2:=M7 hl hj
 have h3:Ek.den [Aa tr,Ak l j]=.ok (.bl true):=by
  refine(HH _ rfl).trans (Ai ?_)
  simp_arith[DT,h1,h2]
 have h4:AK.den [Aa tr,Ak l j]=.ok .non:=by
  refine(C8 _ rfl).trans (FR (δ:=[some (Aa tr),some (Ak l j)]) ?_)
  simp_arith[Be,h3]
 have h5:=FS hd hl
 have h6:=LQ hd hl hj
 refine(Rf _ rfl).trans (Ai ?_)
 unfold Aa Ab Ak at *
 simp_arith[Hn,h4,h5,h6]
theorem Ug:(tr.map Ab).isEmpty=false:=by
 have h1:=BE hd
 cases tr with
 |nil=>cases h1
 |cons a r=>rfl
theorem CM:BY.den [Aa tr]=.ok (Ab (tr.getD 0 [])):=by
 have h1:=J4 (tr.map Ab) (Rk tr)
 rw[Ug hd]at h1
 have h2:=FS hd (aaw h)
 rw[show((0:Nat):Int)=0 from rfl]at h2
 refine(Mh _ rfl).trans (Ai ?_)
 unfold Aa Ab at *
 simp_arith[ET,h1,h2]
theorem Fk:BZ.den [Aa tr,.int f]=.ok (shD p f):=by
 have h1:=CM hd
 have h2:=(A9 hd (aaw h)).1
 rw[Ci]at h2
 refine(Mi _ rfl).trans (Ai ?_)
 unfold Ab at h1
 unfold shD
 simp_arith[EU,h1,aab,h2]
end
theorem M8(a b:Nat):∀c,(aan c).filter (fun k=>decide (a<=k)&&decide (k<b))=(aan (min b c-a)).map (a + ·)
 |0=>by simp
 |c+1=>by
  rw[abp,act,M8 a b c]
  by_cases h:a<=c/\c<b
  ·rw[acf h.2,acf (aap h.2),Nat.succ_sub h.1,abp,aaq]
   congr 1
   simp only[abI,ab1,decide_eq_true h.1,decide_eq_true h.2,abB,if_true,aaI,abb]
   congr 1;exact(ac6 h.1).symm
  ·have h':(decide (a<=c)&&decide (c<b))=false:=by
    rw[<- Bool.not_eq_true,aaf,decide_eq_true_eq,decide_eq_true_eq];exact h
   simp only[abI,ab1,h']
   have e:min b (c+1)-a=min b c-a:=by
    rcases acF c b with z|z
    ·have z2:c<a:=Nat.lt_of_not_le fun y=>h ⟨y,z⟩
     rw[acf z,acf (aap z),acW z2,acW (aap z2)]
    ·rw[Nat.min_eq_left z,Nat.min_eq_left (acC z)]
   rw[e]
   simp
abbrev chN(p f l j:Nat):List (Nat×Nat):=match l with
 |0=>[]
 |l+1=>((aan (cnt p f l)).filter fun k=>k/f==j).map fun k=>(l,k)
theorem J5{f:Nat}(hf:1<=f)(c j:Nat):(aan c).filter (fun k=>k/f==j)=(aan (min (j*f+f) c-j*f)).map (j*f + ·):=by
 rw[<- M8]
 apply adg
 intro k _
 rw[Bool.eq_iff_iff,beq_iff_eq,aaf,decide_eq_true_eq,decide_eq_true_eq]
 constructor
 ·rintro rfl
  have:=Nat.div_add_mod k f
  have h2:=Nat.mod_lt k (show 0<f by exact hf)
  rw[acj]at this
  generalize k%f=r at *
  omega
 ·rintro⟨h1,h2⟩
  exact acp h1 (by rw[abH];omega)
theorem GZ{p f h:Nat}(hf:2<=f)(hf8:f<=8)(H:Hs p f h)(hh:h<=8)(hp:p<=200){l j:Nat}(hl:l<=h)(hj:j<cnt p f l):Bh.den [shD p f,Ak l j]=.ok (.lst ((chN p f l j).map Ap)):=by
 have hc:=JG hf hf8 H hh hl hj
 cases l with
 |zero=>
  refine(HG _ rfl).trans (Ai ?_)
  show _=Out.ret (.lst [])
  unfold Ak shD at *
  rw[show((0:Nat):Int)=0 from rfl]at *
  simp_arith[DR,hc]
 |succ l=>
  have hlv:=Gn hf hf8 H hh
  have h5:=GX (xs:=lvD p f h) (i:=l) (by rw[BM];exact ab9 hl)
  rw[FQ (by exact aap hl)]at h5
  have hcl:=Ck (p:=p) (f:=f) (l:=l) (by exact aap hf)
  have hjl:=Ck (p:=p) (f:=f) (l:=l+1) (by exact aap hf)
  have hjf:j*f<=200*8:=ab8 (by omega) hf8
  have f1:-(18446744073709551616)<(f:Int):=by exact aaA _
  have f2:(f:Int)<18446744073709551616:=by exact q9A hf8 (by decide)
  have e1:((l+1:Nat):Int)-1=(l:Int):=by omega
  have c1:(((l+1:Nat):Int)==0)=false:=by rw[beq_eq_false_iff_ne];omega
  have e2:min ((j:Int)*f+f) (cnt p f l:Int)=((min (j*f+f) (cnt p f l):Nat):Int):=by rw[<- abk];omega
  have hr:=Cq (a:=((j*f:Nat):Int)) (b:=((min (j*f+f) (cnt p f l):Nat):Int)) (by exact aaA _) (by exact q9B hjf (by decide)) (by exact aaA _) (by omega)
  rw[abk]at hr
  have h2:=BG (nl:=1) (fr:=[2]) (tg:=.nm 0) (it:=.r2 (.nm 3) (.nm 4)) (elt:=.tup (.cons (.nm 1) (.cons (.nm 0) .nil))) (δ:=[some (shD p f),some (Ak (l+1) j),some (.int l),some (.int ((j:Int)*f)),some (.int ((min (j*f+f) (cnt p f l):Nat):Int))]) (ds:=Aw ((j:Int)*f) ((min (j*f+f) (cnt p f l):Nat):Int)) (g:=fun d=>.tup [.int l,d]) (by simp_arith[hr]) (fun d hd=>by
   refine⟨[some d,some (.int l)],rfl,?_⟩
   simp_arith[])
  have e3:(Aw ((j:Int)*f) ((min (j*f+f) (cnt p f l):Nat):Int)).map (fun d=>D.tup [.int l,d])=(chN p f (l+1) j).map Ap:=by
   show _=(((aan (cnt p f l)).filter fun k=>k/f==j).map fun k=>(l,k)).map Ap
   rw[J5 (by exact aap hf)]
   unfold Aw
   rw[aaB,aaB,aaB,<- abk,show(((min (j*f+f) (cnt p f l):Nat):Int)-((j*f:Nat):Int)).toNat=min (j*f+f) (cnt p f l)-j*f by omega]
   apply aaQ
   intro i _
   show D.tup [.int l,.int (((j*f:Nat):Int)+(i:Int))]=Ak l (j*f+i)
   rw[<- Int.natCast_add];rfl
  rw[e3]at h2
  refine(HG _ rfl).trans (Ai ?_)
  unfold Ak shD AR at *
  simp_arith[hr]at h2
  simp_arith[DR,hc,c1,e1,f1,f2,hlv,h5,e2,hr,h2]
theorem FA(rs:List Int):A5 (rs.map .int)=(aan rs.length).map fun i=>D.tup [.int (i:Nat),.int (rs.getD i 0)]:=by
 apply abC
 intro i
 unfold A5
 rw[aal,acl,aal,aal]
 by_cases h:i<rs.length
 ·rw[aae h,abY h]
  show some (D.tup [.int ((0+i:Nat):Int),.int rs[i]])=some (D.tup [.int (i:Nat),.int (rs.getD i 0)])
  rw[aaK,aah,aae h];rfl
 ·rw[aba (by exact ab7.mp h),aba (by rw[aaP];exact ab7.mp h)];rfl
theorem Kr{rs:List Int}{i:Nat}(h:i<rs.length):atD (rs.map D.int) (i:Int)=.ok (.int (rs.getD i 0)):=by
 apply DE
 rw[aah,aae h];rfl
theorem Gp{tg:Tg}{b:Fr->Out}{r:D}(P:Fr->Prop)(bad:Nat->Bool):∀{ds:List D}{δ:Fr}(n:Nat),P δ->(∀i d δ,ds[i]?=some d->P δ->∃δ',Dq tg d δ=some δ'/\((bad (n+i)=true/\b δ'=.ret r)\/(bad (n+i)=false/\∃δ'',b δ'=.nxt δ''/\P δ'')))->
  ((aan ds.length).any (fun i=>bad (n+i))=true/\Bg tg b ds δ=.ret r)\/((aan ds.length).any (fun i=>bad (n+i))=false/\∃δ',Bg tg b ds δ=.nxt δ'/\P δ')
 |[],δ,n,h0,_=>.inr ⟨rfl,δ,rfl,h0⟩
 |d::ds,δ,n,h0,hs=>by
  have e:(aan (d::ds).length).any (fun i=>bad (n+i))=(bad n||(aan ds.length).any (fun i=>bad (n+1+i))):=by
   rw[aaL,abQ,abM,List.any_map,Nat.add_zero]
   congr 1
   apply congrArg (List.any (aan ds.length))
   funext i
   show bad (n+(i+1))=bad (n+1+i)
   rw[show n+(i+1)=n+1+i by omega]
  rw[e]
  obtain⟨δ',e1,q⟩:=hs 0 d δ rfl h0
  rw[Nat.add_zero]at q
  rcases q with⟨q1,q2⟩|⟨q1,δ2,q2,q3⟩
  ·refine .inl ⟨by rw[q1];rfl,?_⟩
   unfold Bg
   rw[e1]
   show(b δ').then _=_
   rw[q2];rfl
  ·have ih:=Gp P bad (ds:=ds) (δ:=δ2) (n+1) q3 fun i d δ hd hP=>by
    have:=hs (i+1) d δ (by simpa using hd) hP
    rw[show n+(i+1)=n+1+i by omega]at this
    exact this
   have ef:Bg tg b (d::ds) δ=Bg tg b ds δ2:=by
    rw[Bg,e1]
    show(b δ').then _=_
    rw[q2];rfl
   rw[q1,ac3,ef]
   exact ih
abbrev Cj(tr:List (List Int))(l j:Nat)(v:Int):List (List Int):=tr.set l ((tr.getD l []).set j v)
theorem Ht{tr:List (List Int)}{p f h:Nat}(hd:Dim tr p f h)(l j:Nat)(v:Int):Dim (Cj tr l j v) p f h:=by
 unfold Dim Cj at *
 rw[abJ,<- hd]
 apply abC
 intro i
 by_cases z:l=i
 ·subst z
  rw[abe]
  rw[aaM,aal]
  cases q:tr[l]? with
  |none=>rfl
  |some r=>rw[aah,q];rfl
 ·rw[aay z]
theorem LR{tr:List (List Int)}{n j:Nat}{v:Int}(hn:n<tr.length)(hj:j<(tr.getD n []).length):Ax (A6 (j:Int) (.int v)) [(false,(n:Int))] (Aa tr)=some (Aa (Cj tr n j v)):=by
 have e1:tr[n]?=some (tr.getD n []):=by rw[aah,aae hn];rfl
 have e2:ixN tr.length (n:Int)=some n:=by
  unfold ixN;rw[if_pos (by exact aaA _),if_pos (by exact aaW.mpr hn),aav]
 have e3:ixN (tr.getD n []).length (j:Int)=some j:=by
  unfold ixN;rw[if_pos (by exact aaA _),if_pos (by exact aaW.mpr hj),aav]
 unfold Aa Cj
 rw[Ax,aab,e2,aaY,aal,e1]
 show(Ax (A6 (j:Int) (.int v)) [] (Ab (tr.getD n []))).map _=_
 unfold Ab
 rw[Ax,A6,aab,e3]
 show some (D.lst _)=_
 simp only[abJ]
theorem M9{y:Int}{n:Nat}(hn:0<n):∃k:Nat,k<n/\y%(n:Int)=k:=by
 have h1:=abo y (show(n:Int)≠0 by omega)
 have h2:=abP y (show 0<(n:Int) by exact aaW.mpr hn)
 exact⟨(y%(n:Int)).toNat,by omega,by exact(abt h1).symm⟩
theorem Hu{rs:List Int}{a b:Nat}{x:Int}:x∈(rs.drop a).take (b-a) ↔ ∃k,a<=k/\k<b/\rs[k]?=some x:=by
 rw[List.mem_iff_getElem?]
 constructor
 ·rintro⟨n,h⟩
  rw[adc]at h
  split at h
  ·rw[ade]at h
   exact⟨a+n,by exact acJ ..,by omega,h⟩
  ·cases h
 ·rintro⟨k,h1,h2,h3⟩
  refine⟨k-a,?_⟩
  rw[adc,if_pos (by exact Nat.sub_lt_sub_right h1 h2),ade,show a+(k-a)=k by exact ac6 h1,h3]
theorem Ks{rs:List Int}{a b:Nat}{M:Int}(h1:∃k,a<=k/\k<b/\rs[k]?=some M)(h2:∀k x,a<=k->k<b->rs[k]?=some x->x<=M):mxR rs a b=M:=by
 have:((rs.drop a).take (b-a)).max?=some M:=acg.mpr ⟨Hu.mpr h1,fun x hx=>by
  obtain⟨k,q1,q2,q3⟩:=Hu.mp hx
  exact h2 k x q1 q2 q3⟩
 unfold mxR
 rw[this];rfl
theorem Ja{rs:List Int}{a b:Nat}(hab:a<b)(hb:b<=rs.length):(∃k,a<=k/\k<b/\rs[k]?=some (mxR rs a b))/\∀k x,a<=k->k<b->rs[k]?=some x->x<=mxR rs a b:=by
 obtain⟨h1,h2⟩:=acg.mp (I0 hab hb)
 exact⟨Hu.mp h1,fun k x q1 q2 q3=>h2 x (Hu.mpr ⟨k,q1,q2,q3⟩)⟩
theorem Uh{rs:List Int}{f l c j:Nat}{x:Int}(h:(AB rs f l c)[j]?=some x):j<c/\x=mxR rs (j*f^l) (min rs.length (j*f^l+f^l)):=by
 unfold AB at h
 rw[aal]at h
 obtain⟨i,h1,h2⟩:=aax.mp h
 obtain⟨h3,h4⟩:=aaz.mp h1
 rw[acw]at h4
 rw[aaP]at h3
 subst h4
 exact⟨h3,h2.symm⟩
theorem PZ(rs:List Int)(f l:Nat){c j:Nat}(h:j<c):(AB rs f l c)[j]?=some (mxR rs (j*f^l) (min rs.length (j*f^l+f^l))):=by
 unfold AB
 rw[aal,abY h];rfl
theorem Xd{rs:List Int}{f l A:Nat}(hf:1<=f)(hA:A<cnt rs.length f l):mxR (AB rs f l (cnt rs.length f l)) A (min (cnt rs.length f l) (A+f))=mxR rs (A*f^l) (min rs.length (A*f^l+f*f^l)):=by
 have hw:0<f^l:=abE (by exact hf)
 have hlt:=(EB hf).mp hA
 have hfw:0<f*f^l:=Nat.mul_pos (by exact hf) hw
 have lc:∀j,j*f^l<rs.length->j<cnt rs.length f l:=fun j h=>(EB hf).mpr h
 obtain⟨⟨k,k1,k2,k3⟩,hall⟩:=Ja (rs:=rs) (a:=A*f^l) (b:=min rs.length (A*f^l+f*f^l)) (by omega) (by exact aaR ..)
 have e1:(A+f)*f^l=A*f^l+f*f^l:=acT _ _ _
 generalize mxR rs (A*f^l) (min rs.length (A*f^l+f*f^l))=M at *
 have row:∀j,j<cnt rs.length f l->A<=j->j<A+f->(∃q,A*f^l<=q/\q<min rs.length (A*f^l+f*f^l)/\rs[q]?=some (mxR rs (j*f^l) (min rs.length (j*f^l+f^l)))):=fun j hj h1 h2=>by
  have hjl:=(EB hf).mp hj
  obtain⟨⟨q,q1,q2,q3⟩,_⟩:=Ja (rs:=rs) (a:=j*f^l) (b:=min rs.length (j*f^l+f^l)) (by omega) (by exact aaR ..)
  have m1:A*f^l<=j*f^l:=abX _ h1
  have m2:(j+1)*f^l<=(A+f)*f^l:=abX _ h2
  rw[abH]at m2
  exact⟨q,by exact aao m1 q1,by omega,q3⟩
 refine Ks ?_ fun j x h1 h2 h3=>?_
 ·have j1:k/f^l*f^l<=k:=ac7 _ _
  have j2:k<k/f^l*f^l+f^l:=Nat.lt_div_mul_add hw
  have jA:A<=k/f^l:=(abA hw).mpr k1
  have jB:k/f^l<A+f:=(Nat.div_lt_iff_lt_mul hw).mpr (by omega)
  have jC:=lc (k/f^l) (by omega)
  refine⟨k/f^l,jA,by omega,?_⟩
  rw[PZ rs f l jC]
  congr 1
  refine Ks ⟨k,j1,by omega,k3⟩ fun q x q1 q2 q3=>?_
  have m1:A*f^l<=k/f^l*f^l:=abX _ jA
  have m2:(k/f^l+1)*f^l<=(A+f)*f^l:=abX _ jB
  rw[abH]at m2
  exact hall q x (by exact aao m1 q1) (by omega) q3
 ·obtain⟨hj,rfl⟩:=Uh h3
  obtain⟨q,q1,q2,q3⟩:=row j hj h1 (by omega)
  exact hall q _ q1 q2 q3
theorem LT(rs:List Int)(f:Nat):AB rs f 0 (cnt rs.length f 0)=rs:=by
 rw[Ci]
 apply abC
 intro j
 by_cases h:j<rs.length
 ·rw[PZ rs f 0 h,aae h]
  congr 1
  rw[Nat.pow_zero,Nat.mul_one]
  refine Ks ⟨j,aai _,by omega,aae h⟩ fun k x h1 h2 h3=>?_
  have:k=j:=by omega
  subst this
  rw[aae h]at h3
  cases h3
  exact Int.le_refl _
 ·rw[aba (show(AB rs f 0 rs.length).length<=j by unfold AB;simp;exact ab7.mp h),aba (by exact ab7.mp h)]
abbrev abv(ys:List Int)(f:Nat):List Int:=(aan ((ys.length+f-1)/f)).map fun i=>mxR ys (i*f) (min ys.length (i*f+f))
theorem Na(rs:List Int)(f l c:Nat):(AB rs f l c).length=c:=by unfold AB;simp
theorem Ui{rs:List Int}{f l:Nat}(hf:1<=f):abv (AB rs f l (cnt rs.length f l)) f=AB rs f (l+1) (cnt rs.length f (l+1)):=by
 unfold abv
 rw[Na,Gm hf]
 generalize hN:(cnt rs.length f l+f-1)/f=N
 conv=>rhs;unfold AB
 apply aaQ
 intro i hi
 have hi:i<(cnt rs.length f l+f-1)/f:=by rw[hN];exact abF.mp hi
 have:(i+1)*f<=cnt rs.length f l+f-1:=(abA (by exact hf)).mp hi
 rw[abH]at this
 have e1:i*f^(l+1)=i*f*f^l:=by rw[ab4,acj (f^l) f,Nat.mul_assoc]
 have e2:f^(l+1)=f*f^l:=by rw[ab4,acj]
 rw[Xd hf (by omega),e1,e2]
theorem Nb{rs:List Int}{a b:Nat}(ha:a<=rs.length):cut (rs.map D.int) (some (a:Int)) (some (b:Int))=((rs.drop a).take (min rs.length b-a)).map D.int:=by
 have e1:sIx rs.length 0 (some (a:Int))=a:=by
  show(if(a:Int)<0 then _ else _:Int).toNat=a
  rw[if_neg (by exact q9F)];omega
 have e2:sIx rs.length rs.length (some (b:Int))=min rs.length b:=by
  show(if(b:Int)<0 then _ else _:Int).toNat=_
  rw[if_neg (by exact q9F)];omega
 unfold cut
 rw[aab,e1,e2,<- acz,<- acy]
theorem J6(ys:List Int)(f:Nat)(hf:2<=f)(hf8:f<=8)(hl:ys.length<=200):BB.den [Ab ys,.int f]=.ok (Ab (abv ys f)):=by
 have hN:r3N 0 (ys.length:Int) (f:Int)=(ys.length+f-1)/f:=by
  unfold r3N
  rw[if_pos (by exact aaW.mpr (aap hf)),show(ys.length:Int)-0+(f:Int)-1=((ys.length+f-1:Nat):Int) by omega,<- Int.natCast_ediv,aav]
 have hNl:(ys.length+f-1)/f<=1000:=aao (Nat.div_le_self _ _) (by omega)
 have hr:QD (.int 0) (.int (ys.length:Int)) (.int (f:Int))=.ok (EG 0 (f:Int) ((ys.length+f-1)/f)):=by
  have l1:AE 0=true:=by decide
  have l2:AE (ys.length:Int)=true:=by unfold AE;rw[aaf,decide_eq_true_eq,decide_eq_true_eq];omega
  have l3:AE (f:Int)=true:=by unfold AE;rw[aaf,decide_eq_true_eq,decide_eq_true_eq];omega
  have l4:decide ((f:Int)≠0)=true:=decide_eq_true (by omega)
  have l5:decide (r3N 0 (ys.length:Int) (f:Int)<=LIM)=true:=decide_eq_true (by rw[hN];show _<=16777216;exact aao hNl (by decide))
  rw[QD,l1,l2,l3,l4,l5,hN]
  rfl
 have hc:=BG (nl:=1) (fr:=[0,1]) (tg:=.nm 0) (it:=.r3 (.cI 0) (.bi .len (.cons (.nm 0) .nil)) (.nm 1)) (elt:=.bi .maxL (.cons (.slc (.nm 1) (.nm 0) (.bin .add (.nm 0) (.nm 2))) .nil)) (δ:=[some (Ab ys),some (.int (f:Int))]) (ds:=EG 0 (f:Int) ((ys.length+f-1)/f)) (g:=fun d=>match d with|.int b=>.int (mxR ys b.toNat (min ys.length (b.toNat+f)))|_=>.non) (by
   unfold Ab
   simp_arith[aab,hr]) (fun d hd=>by
  obtain⟨i,hi,rfl⟩:=aat.mp hd
  have hi:=abF.mp hi
  have h1:(i+1)*f<=ys.length+f-1:=(abA (by exact aap hf)).mp hi
  rw[abH]at h1
  have e0:(0:Int)+(i:Int)*(f:Int)=((i*f:Nat):Int):=by rw[abK,abk]
  have e1:((i*f:Nat):Int)+(f:Int)=((i*f+f:Nat):Int):=by exact rfl
  rw[e0]
  refine⟨[some (.int ((i*f:Nat):Int)),some (Ab ys),some (.int (f:Int))],rfl,?_⟩
  show _=Res.ok (D.int (mxR ys (((i*f:Nat):Int).toNat) (min ys.length ((((i*f:Nat):Int).toNat)+f))))
  rw[aav]
  have hcu:=Nb (rs:=ys) (a:=i*f) (b:=i*f+f) (by omega)
  have hm:=I0 (rs:=ys) (a:=i*f) (b:=min ys.length (i*f+f)) (by omega) (by exact aaR ..)
  have hio:=DZ ((ys.drop (i*f)).take (min ys.length (i*f+f)-i*f))
  unfold Ab
  generalize mxR ys (i*f) (min ys.length (i*f+f))=M at *
  generalize (ys.drop (i*f)).take (min ys.length (i*f+f)-i*f)=zs at *
  generalize i*f=q at *
  simp_arith[e1,hcu,hio,Fc,hm])
 have hg:(EG 0 (f:Int) ((ys.length+f-1)/f)).map (fun d=>match d with|.int b=>D.int (mxR ys b.toNat (min ys.length (b.toNat+f)))|_=>.non)=(abv ys f).map .int:=by
  unfold EG abv
  rw[aaB,aaB]
  apply aaQ
  intro i _
  show D.int (mxR ys (((0:Int)+(i:Int)*(f:Int)).toNat) _)=D.int (mxR ys (i*f) (min ys.length (i*f+f)))
  rw[show(0:Int)+(i:Int)*(f:Int)=((i*f:Nat):Int) by rw[abK,abk],aav]
 rw[hg]at hc
 refine(Jy _ rfl).trans (Ai ?_)
 unfold Ab at *
 generalize (abv ys f).map D.int=zs at *
 simp_arith[aab,hr]at hc
 simp_arith[Ds,aab,hr,hc]
theorem Hv{rs:List Int}{f l:Nat}:(AB rs f l (cnt rs.length f l)).length=cnt rs.length f l:=Na ..
abbrev wcb:E:=.cmp .gt (.bi .len (.cons (.nm 3) .nil)) (.cI 1)
theorem J7{rs:List Int}{f h:Nat}(hf:2<=f)(hf8:f<=8)(H:Hs rs.length f h)(hh:h<=8)(hn:rs.length<=200)(hn1:1<=rs.length):DA.den [Ab rs,.int f]=.ok (Aa (Af rs f (h+1))):=by
 obtain⟨δ',e,rfl⟩:=Fx (c:=tv wcb) (b:=exs Gf) (fun l δ=>δ=[some (Ab rs),some (.int (f:Int)),some (Aa (Af rs f l)),some (Ab (AB rs f l (cnt rs.length f l)))]) h FU 0 (δ:=[some (Ab rs),some (.int (f:Int)),some (Aa []),some (Ab rs)]) (by rw[LT];rfl) (by
   rintro l δ _ hl rfl
   have hm:=H.more l (by omega)
   have hcl:=Ck (p:=rs.length) (f:=f) (l:=l) (by exact aap hf)
   have hab:=J6 (AB rs f l (cnt rs.length f l)) f hf hf8 (by rw[Hv];exact aao hcl hn)
   rw[Ui (by exact aap hf)]at hab
   have hap:=Bx ((Af rs f l).map Ab) (Ab (AB rs f l (cnt rs.length f l))) (by unfold Af;simp;omega)
   have hd:BB.dep=9:=Jz
   have hfl:=EC (AB rs f (l+1) (cnt rs.length f (l+1))) 7 8
   have hln:((AB rs f l (cnt rs.length f l)).map D.int).length=cnt rs.length f l:=by rw[aab,Hv]
   have hgt:(1:Int)<(cnt rs.length f l:Int):=by exact aaW.mpr hm
   refine⟨?_,_,?_,rfl⟩
   ·unfold wcb Ab
    simp_arith[hln,hgt]
   ·rw[GY]
    unfold Aa
    rw[aaq]
    show _=Out.nxt [some (Ab rs),some (.int (f:Int)),some (.lst ((Af rs f l).map Ab++[Ab (AB rs f l (cnt rs.length f l))])),some (Ab (AB rs f (l+1) (cnt rs.length f (l+1))))]
    generalize AB rs f (l+1) (cnt rs.length f (l+1))=z1 at *
    generalize AB rs f l (cnt rs.length f l)=z0 at *
    generalize (Af rs f l).map Ab=zt at *
    generalize Ab z1=y1 at *
    generalize Ab z0=y0 at *
    simp_arith[Gf,hap,hab,hd,hfl]) (by
   rintro δ rfl
   rw[aaK]
   have hln:((AB rs f h (cnt rs.length f h)).map D.int).length=1:=by rw[aab,Hv,H.one]
   unfold wcb Ab
   simp_arith[hln]) (by unfold FU;exact aaC hh (by decide))
 rw[aaK]at e
 have hap:=Bx ((Af rs f h).map Ab) (Ab (AB rs f h (cnt rs.length f h))) (by unfold Af;simp;exact aaC hh (by decide))
 have hne:=Fy ((AB rs f h (cnt rs.length f h)).map D.int) (by
  rw[aas]
  intro d hd
  obtain⟨b,_,rfl⟩:=aat.mp hd
  rfl)
 have hie:((AB rs f h (cnt rs.length f h)).map D.int).isEmpty=false:=by
  cases q:(AB rs f h (cnt rs.length f h)).map D.int with
  |nil=>have:=congrArg aa1 q;rw[aab,Hv,H.one]at this;cases this
  |cons a r=>rfl
 rw[hie]at hne
 refine(Rc _ rfl).trans (Ai ?_)
 rw[GY]
 unfold Aa at *
 rw[aaq]
 show _=Out.ret (.lst ((Af rs f h).map Ab++[Ab (AB rs f h (cnt rs.length f h))]))
 rw[abb]at e
 generalize AB rs f h (cnt rs.length f h)=z0 at *
 generalize (Af rs f h).map Ab=zt at *
 unfold wcb at e
 unfold Ab at *
 simp_arith[Hm,e,hne,hap]
theorem ixm(n:Nat):ixN (n+1) (-1)=some n:=by
 unfold ixN
 rw[if_neg (by decide),if_pos (by omega)]
 congr 1
 omega
theorem ixz(n:Nat):ixN (n+1) 0=some 0:=by
 unfold ixN
 rw[if_pos (by decide),if_pos (by omega)];rfl
theorem atz(d:D)(ds:List D):atD (d::ds) 0=.ok d:=by
 unfold atD
 rw[aaL,ixz];rfl
theorem Ya(v d:D)(ds:List D):A6 0 v (d::ds)=some (v::ds):=by
 unfold A6
 rw[aaL,ixz];rfl
theorem hit{d0 d1 d2 d3 d4 d5:D}{a:Int}{as:List Int}{tr:List (List Int)}(h1:as.length<=1000)(h2:∀r∈tr,r.length<=1000):∃d6,exs (.cons (.set 6 [(false,(.cI 0))] (.cI 0) (.bin .add (.ixL (.ixL (.nm 6) (.cI 0)) (.cI 0)) (.cI 1))) (.cons (.mut 6 [(false,(.neg (.cI 1)))] .append (.cons (.cI 5) .nil)) .nil)) [some d0,some d1,some d2,some d3,some d4,some d5,some (Aa ((a::as)::tr)),none]=.nxt [some d0,some d1,some d2,some d3,some d4,some d5,some d6,none]:=by
 obtain⟨y,hy,hyl⟩:∃y:List Int,(((a+1)::as)::tr)[tr.length]?=some y/\y.length<=2000:=by
  cases tr with
  |nil=>exact⟨_,rfl,by simp;omega⟩
  |cons b r=>
   have hlt:r.length<(b::r).length:=by simp
   refine⟨(b::r)[r.length],by rw[aaL,aa4,aae hlt],?_⟩
   have:=h2 _ (abu hlt)
   omega
 have hap:=Bx (y.map D.int) (.int 5) (by rw[aab];omega)
 have e1:ex (.set 6 [(false,(.cI 0))] (.cI 0) (.bin .add (.ixL (.ixL (.nm 6) (.cI 0)) (.cI 0)) (.cI 1))) [some d0,some d1,some d2,some d3,some d4,some d5,some (Aa ((a::as)::tr)),none]=.nxt [some d0,some d1,some d2,some d3,some d4,some d5,some (Aa (((a+1)::as)::tr)),none]:=by
  unfold Aa Ab
  simp_arith[aaL,ixz,atz,Ya,aaY]
 have e2:ex (.mut 6 [(false,(.neg (.cI 1)))] .append (.cons (.cI 5) .nil)) [some d0,some d1,some d2,some d3,some d4,some d5,some (Aa (((a+1)::as)::tr)),none]=upd [some d0,some d1,some d2,some d3,some d4,some d5,some (Aa (((a+1)::as)::tr)),none] 6 (Ax (umD .append [.int 5]) [(false,-1)]):=rfl
 have e3:Ax (umD .append [.int 5]) [(false,-1)] (Aa (((a+1)::as)::tr))=some (.lst (((((a+1)::as)::tr).map Ab).set tr.length (.lst (y.map D.int++[.int 5])))):=by
  unfold Aa
  rw[Ax,aab,aaL,ixm,aaY,aal,hy]
  show(Ax (umD .append [.int 5]) [] (.lst (y.map D.int))).map _=_
  rw[Ax,hap];rfl
 refine⟨.lst (((((a+1)::as)::tr).map Ab).set tr.length (.lst (y.map D.int++[.int 5]))),?_⟩
 rw[exs,e1,Out.then_nxt,exs,e2]
 show(match Ax (umD .append [.int 5]) [(false,-1)] (Aa (((a+1)::as)::tr)) with|some d'=>Out.nxt [some d0,some d1,some d2,some d3,some d4,some d5,some d',none]|none=>.bad).then _=_
 rw[e3];rfl
theorem JI(tr:List (List Int)):DS.den [Aa tr]=.ok (AR (tr.map aa1)):=by
 have h2:=BG (nl:=1) (fr:=[]) (tg:=.nm 0) (it:=.seq (.nm 0)) (elt:=.bi .len (.cons (.nm 0) .nil)) (δ:=[some (Aa tr)]) (ds:=tr.map Ab) (g:=fun d=>match d with|.lst ds=>.int ds.length|d=>d) (by unfold Aa;simp_arith[]) (fun d hd=>by
  obtain⟨x,_,rfl⟩:=aat.mp hd
  refine⟨[some (Ab x)],rfl,?_⟩
  unfold Ab
  simp_arith[])
 have e:(tr.map Ab).map (fun d=>match d with|.lst ds=>D.int ds.length|d=>d)=(tr.map aa1).map iN:=by
  rw[aaB,aaB]
  apply aaQ
  intro x _
  show D.int ((x.map D.int).length:Int)=iN x.length
  rw[aab];rfl
 rw[e]at h2
 refine(GP _ rfl).trans (Ai ?_)
 unfold Aa AR at *
 simp_arith[]at h2
 simp_arith[Dj,h2]
theorem Mm(cs:List Nat)(a b:Int):Bl.den [AR cs,.tup [.int a,.int b]]=.ok (.bl (decide (0<=a/\a<=(cs.length:Int)-1)&&decide (0<=b/\b<=((cs.getD a.toNat 0:Nat):Int)-1))):=by
 have h1:=BC a 0 ((cs.length:Int)-1)
 by_cases c:0<=a/\a<=(cs.length:Int)-1
 ·have h2:=BC b 0 (((cs.getD a.toNat 0:Nat):Int)-1)
  have h3:=GX (xs:=cs) (i:=a.toNat) (by omega)
  rw[abt c.1]at h3
  have e:cs.getD a.toNat 0=cs[a.toNat]'(by omega):=by
   rw[aah,aae (by omega)];rfl
  rw[<- e]at h3
  rw[decide_eq_true c]at h1 ⊢
  refine(CF _ rfl).trans (Ai ?_)
  unfold AR
  simp_arith[A8,h1,h2,h3,aab]
 ·rw[decide_eq_false c]at h1 ⊢
  refine(CF _ rfl).trans (Ai ?_)
  unfold AR
  simp_arith[A8,h1,aab]
theorem Rl(tr:List (List Int))(n:Nat):(tr.map aa1).getD n 0=(tr.getD n []).length:=by
 rw[aah,aah,aal]
 cases tr[n]?<;>rfl
abbrev Gq(tr:List (List Int))(a b:Int):Bool:=decide (0<=a/\a<(tr.length:Int))&&decide (0<=b/\b<((tr.getD a.toNat []).length:Int))
theorem Nc(tr:List (List Int))(a b:Int):Ek.den [Aa tr,.tup [.int a,.int b]]=.ok (.bl (Gq tr a b)):=by
 have h1:=JI tr
 have h2:=Mm (tr.map aa1) a b
 have e1:decide (0<=a/\a<=((tr.map aa1).length:Int)-1)=decide (0<=a/\a<(tr.length:Int)):=by
  rw[aab];apply decide_eq_decide.mpr;omega
 have e2:decide (0<=b/\b<=(((tr.map aa1).getD a.toNat 0:Nat):Int)-1)=decide (0<=b/\b<((tr.getD a.toNat []).length:Int)):=by
  rw[Rl];apply decide_eq_decide.mpr;omega
 rw[e1,e2]at h2
 unfold Gq
 refine(HH _ rfl).trans (Ai ?_)
 generalize AR (tr.map aa1)=u at *
 generalize Aa tr=w at *
 simp_arith[DT,h1,h2]
@[reducible]noncomputable def E3:=Int×Int×Int
abbrev trD(e:E3):D:=.tup [.int e.1,.int e.2.1,.int e.2.2]
theorem at3(a b c:D):atD [a,b,c] 2=.ok c:=rfl
theorem Gr(a b c:D):atD [a,b,c] 0=.ok a:=rfl
theorem Jb(a b c:D):atD [a,b,c] 1=.ok b:=rfl
theorem Uj(tr:List (List Int))(n j:Nat)(v:Int)(a:Nat):((Cj tr n j v).getD a []).length=(tr.getD a []).length:=by
 unfold Cj
 rw[aah,aah,List.getElem?_set]
 split
 ·rename_i h
  subst h
  split
  ·rename_i h
   rw[aae h,aah,aae h]
   simp
  ·rename_i h
   rw[aah,aba (show tr.length<=n by exact ab7.mp h)]
 ·rfl
theorem Wg(tr:List (List Int))(n j:Nat)(v a b:Int):Gq (Cj tr n j v) a b=Gq tr a b:=by
 unfold Gq
 rw[Uj]
 unfold Cj
 rw[aaM]
abbrev Dx(tr:List (List Int))(e:E3):Bool:=Gq tr e.1 e.2.1
abbrev FH(tr:List (List Int))(e:E3):List (List Int):=Cj tr e.1.toNat e.2.1.toNat e.2.2
theorem Rm(tr:List (List Int))(e e':E3):Dx (FH tr e) e'=Dx tr e':=Wg ..
theorem Rn(tr:List (List Int))(e:E3):Dx (FH tr e)=Dx tr:=funext fun e'=>Rm tr e e'
theorem Uk{tr:List (List Int)}{e:E3}(h:Dx tr e=false):AK.den [Aa tr,.tup [.int e.1,.int e.2.1]]=.exc 2:=by
 have h3:=Nc tr e.1 e.2.1
 rw[show Gq tr e.1 e.2.1=false from h]at h3
 refine(C8 _ rfl).trans (T6 (δ:=[some (Aa tr),some (.tup [.int e.1,.int e.2.1])]) ?_)
 generalize Aa tr=w at *
 simp_arith[Be,h3,Out.then_exc]
theorem Rp{tr:List (List Int)}{e:E3}(h:Dx tr e=true):AK.den [Aa tr,.tup [.int e.1,.int e.2.1]]=.ok .non:=by
 have h3:=Nc tr e.1 e.2.1
 rw[show Gq tr e.1 e.2.1=true from h]at h3
 refine(C8 _ rfl).trans (FR (δ:=[some (Aa tr),some (.tup [.int e.1,.int e.2.1])]) ?_)
 generalize Aa tr=w at *
 simp_arith[Be,h3]
theorem Xe{tr:List (List Int)}{e:E3}(h:Dx tr e=true):Ax (A6 e.2.1 (.int e.2.2)) [(false,e.1)] (Aa tr)=some (Aa (FH tr e)):=by
 unfold Dx Gq at h
 rw[aaf,decide_eq_true_eq,decide_eq_true_eq]at h
 obtain⟨⟨h1,h2⟩,h3,h4⟩:=h
 have:=LR (tr:=tr) (n:=e.1.toNat) (j:=e.2.1.toNat) (v:=e.2.2) (by omega) (by omega)
 rw[abt h1,abt h3]at this
 exact this
theorem Nf(T0 W:D):∀(ws:List E3)(tr:List (List Int))(o3:Option D),∃(o3':Option D)(δ':Fr),Bg (.nm 3) (exs CH) (ws.map trD) [some T0,some W,some (Aa tr),o3]=if ws.all (Dx tr)=true then .nxt [some T0,some W,some (Aa (ws.foldl FH tr)),o3'] else .exc 2 δ'
 |[],tr,o3=>⟨o3,[],rfl⟩
 |e::ws,tr,o3=>by
  have dc:AK.dep=9:=Hw
  rw[aaI,Bg,aaS]
  show ∃(o3':Option D)(δ':Fr),(exs CH [some T0,some W,some (Aa tr),some (trD e)]).then _=_
  cases hg:Dx tr e with
  |false=>
   have hc:=Uk hg
   refine⟨none,[some T0,some W,some (Aa tr),some (trD e)],?_⟩
   rw[acq,if_neg (by decide)]
   have x1:∀f:D->Res D,(Res.exc 2:Res D).bind f=.exc 2:=fun _=>rfl
   have x2:∀(δ:Fr)(f:D->Out),(Res.exc 2:Res D).out δ f=.exc 2 δ:=fun _ _=>rfl
   have st:exs CH [some T0,some W,some (Aa tr),some (trD e)]=.exc 2 [some T0,some W,some (Aa tr),some (trD e)]:=by
    unfold trD
    generalize Aa tr=w at *
    simp_arith[CH,Gr,Jb,hc,x1,x2,Out.then_exc]
   rw[st,Out.then_exc]
  |true=>
   have hc:=Rp hg
   have hu:=Xe hg
   have hfl:D.flat 9 9 .non=true:=rfl
   obtain⟨o3',δ',ih⟩:=Nf T0 W ws (FH tr e) (some (trD e))
   rw[Rn]at ih
   refine⟨o3',δ',?_⟩
   rw[acx,abZ,<- ih]
   have st:exs CH [some T0,some W,some (Aa tr),some (trD e)]=.nxt [some T0,some W,some (Aa (FH tr e)),some (trD e)]:=by
    unfold trD
    generalize Aa (FH tr e)=w' at *
    generalize Aa tr=w at *
    simp_arith[CH,Gr,Jb,at3,hc,dc,hfl,X3,hu]
   rw[st,Out.then_nxt]
theorem Rq(tr:List (List Int))(i:Nat)(δ:Fr)(h:get δ i=.ok (Aa tr)):ev (.comp0 1 [] (.nm 0) (.seq (.nm i)) (.bi .list (.cons (.nm 0) .nil))) δ=.ok (Aa tr):=by
 have h2:=BG (nl:=1) (fr:=[]) (tg:=.nm 0) (it:=.seq (.nm i)) (elt:=.bi .list (.cons (.nm 0) .nil)) (δ:=δ) (ds:=tr.map Ab) (g:=fun d=>d) (by rw[evI,ev,h];rfl) (fun d hd=>by
  obtain⟨x,_,rfl⟩:=aat.mp hd
  refine⟨[some (Ab x)],rfl,?_⟩
  unfold Ab
  simp_arith[])
 rw[acK]at h2
 exact h2
theorem Ol(tr:List (List Int)):Ew.den [Aa tr]=.ok (Aa tr):=by
 refine(J2 _ rfl).trans (Ai ?_)
 have h:=Rq tr 0 [some (Aa tr)] rfl
 show exs Ea [some (Aa tr)]=_
 rw[Ea,exs,ex,h];rfl
theorem Mn{tr:List (List Int)}{ws:List E3}(h:ws.all (Dx tr)=true):Hq.den [Aa tr,.lst (ws.map trD)]=.ok (Aa (ws.foldl FH tr)):=by
 have hc:=Ol tr
 obtain⟨o3,δ',e⟩:=Nf (Aa tr) (.lst (ws.map trD)) ws tr none
 rw[h,if_pos rfl]at e
 refine(T5 _ rfl).trans (Ai ?_)
 generalize Aa (ws.foldl FH tr)=T1 at *
 generalize Aa tr=T at *
 generalize ws.map trD=W at *
 simp_arith[IR,hc,e]
abbrev LU(tr:List (List Int))(f l j:Nat):Bool:=decide (tl tr l j<mxR (tr.getD (l-1) []) (j*f) (min (tr.getD (l-1) []).length (j*f+f)))
section
variable{tr:List (List Int)}{p f h:Nat}(hd:Dim tr p f h)(hf:2<=f)(hf8:f<=8)(hh:h<=8)(hp:p<=200)
include hd hf hf8 hh hp
theorem R0{l:Nat}(hl:l<=h):atD (tr.map Ab) (l:Int)=.ok (.lst ((tr.getD l []).map .int)):=FS hd hl
theorem Xf{l j:Nat}(hl:l<=h)(hj:j<cnt p f l):atD ((tr.getD l []).map .int) (j:Int)=.ok (.int (tl tr l j)):=LQ hd hl hj
theorem Xg(l:Nat)(hl:l+1<=h)(o3 o4:Option D):((aan (cnt p f (l+1))).any (LU tr f (l+1))=true/\Bg (.tp [3,4]) (exs B6) (A5 ((abv (tr.getD l []) f).map .int)) [some (Aa tr),some (.int f),some (.int ((l+1:Nat):Int)),o3,o4]=.ret (.bl false)) \/
  ((aan (cnt p f (l+1))).any (LU tr f (l+1))=false/\∃o3' o4',Bg (.tp [3,4]) (exs B6) (A5 ((abv (tr.getD l []) f).map .int)) [some (Aa tr),some (.int f),some (.int ((l+1:Nat):Int)),o3,o4]=.nxt [some (Aa tr),some (.int f),some (.int ((l+1:Nat):Int)),o3',o4']):=by
 have hlen:(abv (tr.getD l []) f).length=cnt p f (l+1):=by
  unfold abv
  rw[aab,aaP,(A9 hd (by exact aap hl)).1,Gm (by exact aap hf)]
 have key:=Gp (tg:=.tp [3,4]) (b:=exs B6) (r:=.bl false) (fun δ=>∃o3 o4,δ=[some (Aa tr),some (.int f),some (.int ((l+1:Nat):Int)),o3,o4]) (LU tr f (l+1)) (ds:=A5 ((abv (tr.getD l []) f).map .int)) (δ:=[some (Aa tr),some (.int f),some (.int ((l+1:Nat):Int)),o3,o4]) 0 ⟨o3,o4,rfl⟩ (by
  rintro i d δ hi ⟨o3,o4,rfl⟩
  rw[FA,aal]at hi
  obtain⟨i',h1,rfl⟩:=aax.mp hi
  obtain⟨h2,h3⟩:=aaz.mp h1
  rw[aaP]at h2
  rw[acw]at h3
  subst h3
  have hv:(abv (tr.getD l []) f).getD i 0=mxR (tr.getD l []) (i*f) (min (tr.getD l []).length (i*f+f)):=by
   rw[aah,aae h2]
   unfold abv
   simp
  rw[hv]
  refine⟨[some (Aa tr),some (.int f),some (.int ((l+1:Nat):Int)),some (.int (i:Nat)),some (.int (mxR (tr.getD l []) (i*f) (min (tr.getD l []).length (i*f+f))))],rfl,?_⟩
  have a1:=R0 hd hf hf8 hh hp hl
  have a2:=Xf hd hf hf8 hh hp hl (j:=i) (by exact hlen▸h2)
  have eL:LU tr f (l+1) (0+i)=decide (tl tr (l+1) i<mxR (tr.getD l []) (i*f) (min (tr.getD l []).length (i*f+f))):=by
   rw[aaK];rfl
  rw[eL]
  unfold Aa
  generalize tr.getD l []=row at *
  generalize (tr.getD (l+1) []).map D.int=w2 at *
  generalize tr.map Ab=w at *
  generalize mxR row (i*f) (min row.length (i*f+f))=M at *
  generalize tl tr (l+1) i=x at *
  generalize ((l+1:Nat):Int)=L at *
  by_cases c:x<M
  ·refine .inl ⟨decide_eq_true c,?_⟩
   simp_arith[B6,a1,a2,c]
  ·refine .inr ⟨decide_eq_false c,_,?_,some (.int i),some (.int M),rfl⟩
   simp_arith[B6,a1,a2,c])
 have e0:(A5 ((abv (tr.getD l []) f).map D.int)).length=cnt p f (l+1):=by
  rw[FA,aab,aaP,hlen]
 rw[e0]at key
 simp only[aaK]at key
 rcases key with⟨k1,k2⟩|⟨k1,δ',k2,o3',o4',rfl⟩
 ·exact .inl ⟨k1,k2⟩
 ·exact .inr ⟨k1,o3',o4',k2⟩
abbrev Wh(tr:List (List Int))(p f i:Nat):Bool:=(aan (cnt p f (i+1))).any (LU tr f (i+1))
theorem Yb:NK (.int 1) (.int ((h+1:Nat):Int))=.ok (Aw 1 ((h+1:Nat):Int)):=Cq (by exact by decide) (by exact by decide) (by exact aaA _) (by exact q9A hh (by decide))
theorem Wi{i:Nat}{d:D}(hi:(Aw 1 ((h+1:Nat):Int))[i]?=some d):d=.int ((i+1:Nat):Int)/\i+1<=h:=by
 obtain⟨rfl,h2⟩:=BV hi
 refine⟨?_,by omega⟩
 congr 1;omega
theorem Wj:(Aw 1 ((h+1:Nat):Int)).length=h:=by rw[BW];omega
theorem Rr:EV.den [Aa tr,.int f]=.ok (.bl (!(aan h).any (Wh tr p f))):=by
 have hr:=Yb hd hf hf8 hh hp
 have key:=Gp (tg:=.nm 2) (b:=exs B7) (r:=.bl false) (fun δ=>∃o2 o3 o4,δ=[some (Aa tr),some (.int f),o2,o3,o4]) (Wh tr p f) (ds:=Aw 1 ((h+1:Nat):Int)) (δ:=[some (Aa tr),some (.int f),none,none,none]) 0 ⟨none,none,none,rfl⟩ (by
  rintro i d δ hi ⟨o2,o3,o4,rfl⟩
  obtain⟨rfl,hi2⟩:=Wi hd hf hf8 hh hp hi
  clear hi
  have hi:=hi2
  refine⟨_,rfl,?_⟩
  rw[aaK]
  have hab:=J6 (tr.getD i []) f hf hf8 (by rw[(A9 hd (by exact aap hi2)).1];have:=Ck (p:=p) (f:=f) (l:=i) (by exact aap hf);exact aao this hp)
  have a1:=R0 hd hf hf8 hh hp (l:=i) (by exact aap hi2)
  have e1:((i+1:Nat):Int)-1=(i:Int):=by omega
  have hen:Jr (Ab (abv (tr.getD i []) f))=.ok (A5 ((abv (tr.getD i []) f).map .int)):=rfl
  rcases Xg hd hf hf8 hh hp i hi o3 o4 with⟨k1,k2⟩|⟨k1,o3',o4',k2⟩
  ·refine .inl ⟨k1,?_⟩
   show exs B7 [some (Aa tr),some (.int f),some (.int ((i+1:Nat):Int)),o3,o4]=_
   generalize A5 ((abv (tr.getD i []) f).map .int)=en at *
   unfold Aa at k2 ⊢
   generalize tr.map Ab=w at *
   unfold Ab at hab hen
   generalize (abv (tr.getD i []) f).map D.int=w3 at *
   generalize (tr.getD i []).map D.int=w2 at *
   generalize ((i+1:Nat):Int)=L at *
   simp_arith[B7,a1,e1,hab,hen,k2]
  ·refine .inr ⟨k1,_,?_,some (.int ((i+1:Nat):Int)),o3',o4',rfl⟩
   show exs B7 [some (Aa tr),some (.int f),some (.int ((i+1:Nat):Int)),o3,o4]=_
   generalize A5 ((abv (tr.getD i []) f).map .int)=en at *
   unfold Aa at k2 ⊢
   generalize tr.map Ab=w at *
   unfold Ab at hab hen
   generalize (abv (tr.getD i []) f).map D.int=w3 at *
   generalize (tr.getD i []).map D.int=w2 at *
   generalize ((i+1:Nat):Int)=L at *
   simp_arith[B7,a1,e1,hab,hen,k2])
 rw[Wj hd hf hf8 hh hp]at key
 simp only[aaK]at key
 have hl:(((tr.map Ab).length:Nat):Int)=((h+1:Nat):Int):=by rw[aab,BE hd]
 refine(Oe _ rfl).trans (Ai ?_)
 rcases key with⟨k1,k2⟩|⟨k1,δ',k2,o2',o3',o4',rfl⟩
 ·rw[k1]
  unfold Aa at k2 ⊢
  generalize tr.map Ab=w at *
  simp_arith[Ey,hl,hr,k2]
 ·rw[k1]
  unfold Aa at k2 ⊢
  generalize tr.map Ab=w at *
  simp_arith[Ey,hl,hr,k2]
end
abbrev FI(tr wt:List (List Int))(l c:Nat):List (Nat×Nat):=((aan c).filter fun j=>decide (tl tr l j≠tl wt l j)).map fun j=>(l,j)
abbrev Bp(tr wt:List (List Int))(p f n:Nat):List (Nat×Nat):=(aan n).flatMap fun l=>FI tr wt l (cnt p f l)
theorem LV(tr wt:List (List Int))(p f n:Nat):Bp tr wt p f (n+1)=Bp tr wt p f n++FI tr wt n (cnt p f n):=by
 unfold Bp
 rw[abp,ac8]
 simp
theorem LW(tr wt:List (List Int))(l c:Nat):(FI tr wt l c).length<=c:=by
 unfold FI
 rw[aab]
 have:=ach (fun j=>decide (tl tr l j≠tl wt l j)) (aan c)
 rw[aaP]at this
 exact this
theorem JJ{tr wt:List (List Int)}{p f:Nat}(hf:1<=f):∀n,(Bp tr wt p f n).length<=n*p
 |0=>by simp[Bp]
 |n+1=>by
  rw[LV,aaH,abH]
  have:=JJ (tr:=tr) (wt:=wt) (p:=p) hf n
  have h2:=LW tr wt n (cnt p f n)
  have:=Ck (p:=p) (f:=f) (l:=n) hf
  omega
theorem Ng{tr wt:List (List Int)}{p f n l j:Nat}(h:(l,j)∈Bp tr wt p f n):l<n/\j<cnt p f l:=by
 unfold Bp at h
 obtain⟨l',h1,h2⟩:=List.mem_flatMap.mp h
 unfold FI at h2
 obtain⟨j',h3,e⟩:=aat.mp h2
 cases e
 exact⟨abF.mp h1,abF.mp (abn.mp h3).1⟩
theorem Rt{xs:List D}{i:Nat}{d:D}(h:(A5 xs)[i]?=some d):∃x,xs[i]?=some x/\d=.tup [.int (i:Nat),x]:=by
 unfold A5 at h
 rw[aal,acl]at h
 cases q:xs[i]? with
 |none=>rw[q]at h;cases h
 |some x=>
  rw[q]at h
  refine⟨x,rfl,?_⟩
  simp only[aa6,Option.some.injEq]at h
  rw[<- h,aaK]
theorem Ru(xs:List D):(A5 xs).length=xs.length:=by unfold A5;simp
theorem Nh(qs:List (Nat×Nat)):D.flat 9 1 (.lst (qs.map Ap))=true:=by
 show(qs.map Ap).all (D.flat 8 0)=true
 rw[aas]
 intro d hd
 obtain⟨q,_,rfl⟩:=aat.mp hd
 rfl
section
variable{tr wt:List (List Int)}{p f h:Nat}(hd:Dim tr p f h)(hw:Dim wt p f h)(hf:2<=f)(hf8:f<=8)(hh:h<=8)(hp:p<=200)
include hd hw hf hf8 hh hp
theorem Ul(l:Nat)(hl:l<=h):exs Em [some (Aa tr),some (Aa wt),some (.lst ((Bp tr wt p f l).map Ap)),some (.int l),some (Ab (tr.getD l []))]=.nxt [some (Aa tr),some (Aa wt),some (.lst ((Bp tr wt p f (l+1)).map Ap)),some (.int l),some (Ab (tr.getD l []))]:=by
 have hrl:=(A9 hd hl).1
 have h2:=Id (nl:=2) (fr:=[3,1]) (tg:=.tp [0,1]) (it:=.en (.nm 4)) (cond:=.cmp .ne (.nm 1) (.ix (.ix (.nm 3) (.nm 2)) (.nm 0))) (elt:=.tup (.cons (.nm 2) (.cons (.nm 0) .nil))) (δ:=[some (Aa tr),some (Aa wt),some (.lst ((Bp tr wt p f l).map Ap)),some (.int l),some (Ab (tr.getD l []))]) (ds:=A5 ((tr.getD l []).map .int)) (b:=fun d=>match d with|.tup [.int j,.int x]=>decide (x≠tl wt l j.toNat)|_=>false) (g:=fun d=>match d with|.tup [j,_]=>.tup [.int l,j]|d=>d) (by
   unfold Ab
   simp_arith[Jr]) (fun d hd'=>by
  rw[FA]at hd'
  obtain⟨j,hj,rfl⟩:=aat.mp hd'
  have hj:=abF.mp hj
  have a1:=FS hw hl
  have a2:=LQ hw hl (j:=j) (by exact hrl▸hj)
  refine⟨[some (.int (j:Nat)),some (.int ((tr.getD l []).getD j 0)),some (.int l),some (Aa wt)],rfl,?_,fun _=>?_⟩
  ·show _=Res.ok (decide ((tr.getD l []).getD j 0≠tl wt l ((j:Int).toNat)))
   rw[aav]
   have e:decide ((tr.getD l []).getD j 0≠tl wt l j)=!((tr.getD l []).getD j 0==tl wt l j):=by
    by_cases c:(tr.getD l []).getD j 0=tl wt l j
    ·rw[decide_eq_false (fun z=>z c),beq_iff_eq.mpr c];rfl
    ·rw[decide_eq_true c,beq_eq_false_iff_ne.mpr c];rfl
   rw[e]
   unfold Aa
   clear hd hw hd' e
   generalize wt.map Ab=w at *
   unfold Ab at a1
   generalize (wt.getD l []).map D.int=u at *
   generalize tl wt l j=y at *
   generalize (tr.getD l []).getD j 0=x at *
   simp_arith[a1,a2]
  ·simp_arith[])
 have e:((A5 ((tr.getD l []).map .int)).filter (fun d=>match d with|.tup [.int j,.int x]=>decide (x≠tl wt l j.toNat)|_=>false)).map (fun d=>match d with|.tup [j,_]=>D.tup [.int l,j]|d=>d)=(FI tr wt l (cnt p f l)).map Ap:=by
  rw[FA,List.filter_map,aaB,hrl]
  unfold FI
  rw[aaB]
  rfl
 rw[e]at h2
 have hl1:=JJ (tr:=tr) (wt:=wt) (p:=p) (f:=f) (by exact aap hf) l
 have hl2:l*p<=8*200:=ab8 (by exact aao hl hh) hp
 have hl3:=LW tr wt l (cnt p f l)
 have hcl:=Ck (p:=p) (f:=f) (l:=l) (by exact aap hf)
 have he:=Wd ((Bp tr wt p f l).map Ap) ((FI tr wt l (cnt p f l)).map Ap) (by simp only[aab];omega)
 rw[LV,aaq]
 clear hd hw
 generalize (Bp tr wt p f l).map Ap=A at *
 generalize (FI tr wt l (cnt p f l)).map Ap=B at *
 generalize Aa tr=w1 at *
 generalize Aa wt=w2 at *
 unfold Ab at *
 generalize (tr.getD l []).map D.int=u at *
 simp_arith[Jr]at h2
 simp_arith[Em,Jr,h2,he]
theorem Jc:Ca.den [Aa tr,Aa wt]=.ok (.lst ((Bp tr wt p f (h+1)).map Ap)):=by
 have r1:=CM hd
 have r2:=CM hw
 have e1:=(A9 hd (aaw h)).1
 have e2:=(A9 hw (aaw h)).1
 have l1:((((tr.getD 0 []).map D.int).length:Nat):Int)=(cnt p f 0:Int):=by rw[aab,e1]
 have l2:((((wt.getD 0 []).map D.int).length:Nat):Int)=(cnt p f 0:Int):=by rw[aab,e2]
 have hca:Eb.den [Aa tr,Aa wt]=.ok .non:=by
  refine(JA _ rfl).trans (FR (δ:=[some (Aa tr),some (Aa wt)]) ?_)
  clear hd hw
  generalize Aa tr=w1 at *
  generalize Aa wt=w2 at *
  unfold Ab at r1 r2
  generalize (tr.getD 0 []).map D.int=u1 at *
  generalize (wt.getD 0 []).map D.int=u2 at *
  simp_arith[Dt,r1,r2,l1,l2]
 have hlen:=BE hd
 obtain⟨δ',e,o3,o4,rfl⟩:=Bo (tg:=.tp [3,4]) (b:=exs Em) (fun i δ=>∃o3 o4,δ=[some (Aa tr),some (Aa wt),some (.lst ((Bp tr wt p f i).map Ap)),o3,o4]) (ds:=A5 (tr.map Ab)) (δ:=[some (Aa tr),some (Aa wt),some (.lst []),none,none]) 0 ⟨none,none,rfl⟩ (by
  rintro i d δ hi ⟨o3,o4,rfl⟩
  obtain⟨x,hx,rfl⟩:=Rt hi
  rw[aal]at hx
  obtain⟨r,hr,rfl⟩:=aax.mp hx
  have hil:i<=h:=by
   have:=(aaz.mp hr).1
   omega
  have er:r=tr.getD i []:=by rw[aah,hr];rfl
  subst er
  rw[aaK]
  exact⟨_,_,rfl,Ul hd hw hf hf8 hh hp i hil,some (.int i),some (Ab (tr.getD i [])),rfl⟩)
 rw[Ru,aab,hlen,aaK]at e
 refine(PQ _ rfl).trans (Ai ?_)
 have hen:Jr (Aa tr)=.ok (A5 (tr.map Ab)):=rfl
 clear hd hw
 generalize A5 (tr.map Ab)=en at *
 generalize Aa tr=w1 at *
 generalize Aa wt=w2 at *
 simp_arith[Gg,hca,hen,e]
end
@[reducible]noncomputable def E4:=Int×Int×Int×Int
abbrev quD(e:E4):D:=.tup [.int e.1,.int e.2.1,.int e.2.2.1,.int e.2.2.2]
abbrev mnd(tr wt:List (List Int))(q:Nat×Nat):E4:=(q.1,q.2,tl tr q.1 q.2,tl wt q.1 q.2)
section
variable{tr:List (List Int)}{p f h:Nat}(hd:Dim tr p f h)(hf:2<=f)(hf8:f<=8)(H:Hs p f h)(hh:h<=8)(hp:p<=200)(hp1:1<=p)
include hd hf hf8 H hh hp hp1
theorem LX:DA.den [Ab (tr.getD 0 []),.int f]=.ok (Aa (Af (tr.getD 0 []) f (h+1)))/\Br.den [Ab (tr.getD 0 []),.int f]=.ok (Aa (Af (tr.getD 0 []) f (h+1)))/\Dim (Af (tr.getD 0 []) f (h+1)) p f h:=by
 have e1:=(A9 hd (aaw h)).1
 rw[Ci]at e1
 have H':Hs (tr.getD 0 []).length f h:=by rw[e1];exact H
 refine⟨J7 hf hf8 H' hh (by exact e1▸hp) (by exact aao hp1 (aa5 e1.symm)),LP hf hf8 H' hh (by exact e1▸hp) (by exact aao hp1 (aa5 e1.symm)),?_⟩
 have:=Go (tr.getD 0 []) f h
 rwa [e1]at this
theorem Om:Fw.den [Aa tr,.int f]=.ok (.tup [Aa (Af (tr.getD 0 []) f (h+1)),.lst (((Bp tr (Af (tr.getD 0 []) f (h+1)) p f (h+1)).map (mnd tr (Af (tr.getD 0 []) f (h+1)))).map quD)]):=by
 obtain⟨hb,_,hw⟩:=LX hd hf hf8 H hh hp hp1
 have hro:=CM hd
 generalize Af (tr.getD 0 []) f (h+1)=wt at *
 have hun:=Jc hd hw hf hf8 hh hp
 have hfl:=Nh (Bp tr wt p f (h+1))
 have d1:Ca.dep=1:=J3
 have d2:Ay.dep=0:=LF
 have hc:=BG (nl:=1) (fr:=[0,2]) (tg:=.nm 0) (it:=.seq (.callB Ca (.cons (.nm 0) (.cons (.nm 2) .nil)))) (elt:=.tup (.cons (.ixS (.nm 0) (.cI 0)) (.cons (.ixS (.nm 0) (.cI 1)) (.cons (.callB Ay (.cons (.nm 1) (.cons (.nm 0) .nil))) (.cons (.callB Ay (.cons (.nm 2) (.cons (.nm 0) .nil))) .nil))))) (δ:=[some (Aa tr),some (.int f),some (Aa wt),none]) (ds:=(Bp tr wt p f (h+1)).map Ap) (g:=fun d=>match d with|.tup [.int a,.int b]=>quD (mnd tr wt (a.toNat,b.toNat))|d=>d) (by
   generalize Aa tr=w1 at *
   generalize Aa wt=w2 at *
   simp_arith[hun,d1,hfl]) (fun d hd'=>by
  obtain⟨⟨l,j⟩,hq,rfl⟩:=aat.mp hd'
  obtain⟨hl,hj⟩:=Ng hq
  have t1:=CL hd (l:=l) (j:=j) (by exact aaZ hl) hj
  have t2:=CL hw (l:=l) (j:=j) (by exact aaZ hl) hj
  refine⟨[some (Ap (l,j)),some (Aa tr),some (Aa wt)],rfl,?_⟩
  show _=Res.ok (quD (mnd tr wt (((l:Nat):Int).toNat,((j:Nat):Int).toNat)))
  rw[aav,aav]
  unfold quD mnd Ap Ak
  unfold Ak at t1 t2
  have f1:D.flat 9 0 (.int (tl tr l j))=true:=rfl
  have f2:D.flat 9 0 (.int (tl wt l j))=true:=rfl
  have s1:D.scal (.int l)=true:=rfl
  have s2:D.scal (.int j)=true:=rfl
  clear hd hw hd' hq
  generalize Aa tr=w1 at *
  generalize Aa wt=w2 at *
  generalize tl tr l j=x at *
  generalize tl wt l j=y at *
  simp_arith[t1,t2,d2,f1,f2,s1,s2])
 have e:((Bp tr wt p f (h+1)).map Ap).map (fun d=>match d with|.tup [.int a,.int b]=>quD (mnd tr wt (a.toNat,b.toNat))|d=>d)=((Bp tr wt p f (h+1)).map (mnd tr wt)).map quD:=by
  rw[aaB,aaB]
  apply aaQ
  rintro⟨l,j⟩ _
  show quD (mnd tr wt (((l:Nat):Int).toNat,((j:Nat):Int).toNat))=_
  rw[aav,aav];rfl
 rw[e]at hc
 refine(PR _ rfl).trans (Ai ?_)
 clear hd hw e
 generalize ((Bp tr wt p f (h+1)).map (mnd tr wt)).map quD=Q at *
 generalize (Bp tr wt p f (h+1)).map Ap=P at *
 generalize Aa tr=w1 at *
 generalize Aa wt=w2 at *
 generalize Ab (tr.getD 0 [])=u at *
 simp_arith[hun,d1,hfl]at hc
 simp_arith[Gi,hro,hb,hun,d1,hfl,hc]
end
abbrev mkT(p f h:Nat)(g:Nat->Nat->Int):List (List Int):=(aan (h+1)).map fun l=>(aan (cnt p f l)).map (g l)
theorem Wk{p f h:Nat}(g:Nat->Nat->Int){l:Nat}(hl:l<=h):(mkT p f h g)[l]?=some ((aan (cnt p f l)).map (g l)):=by
 unfold mkT
 rw[aal,abY (by exact abd hl)];rfl
theorem Uo{p f h:Nat}(g:Nat->Nat->Int){l:Nat}(hl:l<=h):(mkT p f h g).getD l []=(aan (cnt p f l)).map (g l):=by
 rw[aah,Wk g hl];rfl
theorem R1{p f h:Nat}(g:Nat->Nat->Int){l j:Nat}(hl:l<=h)(hj:j<cnt p f l):tl (mkT p f h g) l j=g l j:=by
 unfold tl
 rw[Uo g hl,aah,aal,abY hj];rfl
abbrev gT(rs:List Int)(f l j:Nat):Int:=mxR rs (j*f^l) (min rs.length (j*f^l+f^l))
theorem Ni(rs:List Int)(f h:Nat):Af rs f (h+1)=mkT rs.length f h (gT rs f):=rfl
section
variable{rs:List Int}{f:Nat}(hf:2<=f)
include hf
theorem Yc{l j:Nat}(hj:j<cnt rs.length f l):(∃k,j*f^l<=k/\k<min rs.length (j*f^l+f^l)/\rs[k]?=some (gT rs f l j))/\∀k x,j*f^l<=k->k<min rs.length (j*f^l+f^l)->rs[k]?=some x->x<=gT rs f l j:=by
 have h1:=(EB (show 1<=f by exact aap hf)).mp hj
 have h2:0<f^l:=abE (by exact aap hf)
 exact Ja (by omega) (by exact aaR ..)
variable{k:Nat}(hk:k<rs.length)(v:Int)
include hk
theorem Wl{l j:Nat}(hj:j<cnt rs.length f l)(ne:j≠k/f^l):gT (rs.set k v) f l j=gT rs f l j:=by
 obtain⟨⟨i,i1,i2,i3⟩,b⟩:=Yc hf hj
 have h2:0<f^l:=abE (by exact aap hf)
 have out:∀i,j*f^l<=i->i<min rs.length (j*f^l+f^l)->k≠i:=fun i a b z=>by
  subst z
  apply ne
  rw[eq_comm,acp]
  ·exact a
  ·rw[acT,adh];omega
 unfold gT at *
 rw[aaM]
 refine Ks ⟨i,i1,i2,?_⟩ fun q x q1 q2 q3=>?_
 ·rw[aay (out i i1 i2)];exact i3
 ·rw[aay (out q q1 q2)]at q3
  exact b q x q1 q2 q3
abbrev wrE(rs:List Int)(f k:Nat)(v:Int)(l:Nat):List E3:=if gT rs f l (k/f^l)≠gT (rs.set k v) f l (k/f^l) then [((l:Int),((k/f^l:Nat):Int),gT (rs.set k v) f l (k/f^l))] else []
theorem Wm(l:Nat):k/f^l<cnt rs.length f l:=by
 rw[EB (by exact aap hf)]
 have:=ac7 k (f^l)
 exact aaC this hk
end
theorem LY(P:Nat->Bool)(a:Nat):∀c,(∀j,j<c->j≠a->P j=false)->(aan c).filter P=if a<c/\P a=true then [a] else []
 |0,_=>by simp
 |c+1,h0=>by
  rw[abp,act,LY P a c fun j hj=>h0 j (by exact ab9 hj)]
  by_cases e:c=a
  ·subst e
   cases q:P c<;>simp[q]
  ·have:=h0 c (by exact aai _) e
   rw[abg (by rw[this];decide),ab1,aaF]
   by_cases z:a<c/\P a=true
   ·rw[if_pos z,if_pos ⟨by omega,z.2⟩]
   ·rw[if_neg z,if_neg (fun y=>z ⟨by omega,y.2⟩)]
abbrev asc(rs:List Int)(f k:Nat)(v:Int)(m:Nat):List E3:=(aan m).flatMap (wrE rs f k v)
theorem Xh(rs:List Int)(f k:Nat)(v:Int)(l:Nat):(wrE rs f k v l).length<=1:=by
 unfold wrE;split<;>simp
theorem JK{α:Type}(w:Nat->List α)(m:Nat):(aan (m+1)).flatMap w=(aan m).flatMap w++w m:=by
 rw[abp,ac8];simp
theorem LZ{α:Type}{w w':Nat->List α}:∀m,(∀i,i<m->w i=w' i)->(aan m).flatMap w=(aan m).flatMap w'
 |0,_=>rfl
 |m+1,h=>by rw[JK,JK,LZ m fun i hi=>h i (by exact ab9 hi),h m (by exact aai _)]
section
variable{rs:List Int}{f h k:Nat}(hf:2<=f)(hk:k<rs.length)(v:Int)
include hf hk
abbrev L3(rs:List Int)(f k:Nat)(v:Int)(h:Nat):List E3:=if rs.getD k 0<v then(asc rs f k v (h+1)).reverse else asc rs f k v (h+1)
theorem Up(m:Nat):(asc rs f k v m).length<=m:=by
 induction m with
 |zero=>exact aai _
 |succ m ih=>
  unfold asc at *
  rw[JK,aaH]
  have:=Xh rs f k v m
  exact Nat.add_le_add ih this
theorem Uq:(L3 rs f k v h).length<=h+1:=by
 have:=Up hf hk v (h+1)
 unfold L3
 split
 ·rw[abL];exact this
 ·exact this
theorem Ur:(Bp (Af rs f (h+1)) (Af (rs.set k v) f (h+1)) rs.length f (h+1)).map (fun q=>((q.1:Int),(q.2:Int),tl (Af (rs.set k v) f (h+1)) q.1 q.2))=asc rs f k v (h+1):=by
 unfold Bp asc
 rw[List.map_flatMap]
 refine LZ _ fun l hl=>?_
 have hl:l<=h:=by exact aaZ hl
 have ha:=Wm hf hk l
 have e1:∀j,j<cnt rs.length f l->tl (Af rs f (h+1)) l j=gT rs f l j:=fun j hj=>by rw[Ni];exact R1 _ hl hj
 have e2:∀j,j<cnt rs.length f l->tl (Af (rs.set k v) f (h+1)) l j=gT (rs.set k v) f l j:=fun j hj=>by rw[Ni,aaM];exact R1 _ hl hj
 unfold FI
 rw[LY _ (k/f^l) (cnt rs.length f l) fun j hj ne=>by
  rw[e1 j hj,e2 j hj,Wl hf hk v hj ne];simp]
 rw[e1 _ ha,e2 _ ha]
 unfold wrE
 by_cases c:gT rs f l (k/f^l)≠gT (rs.set k v) f l (k/f^l)
 ·rw[if_pos ⟨ha,decide_eq_true c⟩,if_pos c]
  show [((l:Int),((k/f^l:Nat):Int),tl (Af (rs.set k v) f (h+1)) l (k/f^l))]=_
  rw[e2 _ ha]
 ·rw[if_neg (fun z=>c (of_decide_eq_true z.2)),if_neg c];rfl
end
theorem Xi{p f:Nat}{a:Nat}(h:a<p):EJ.den [shD p f,.int a]=.ok .non:=by
 have hb:=BC a 0 ((p:Int)-1)
 rw[decide_eq_true (by omega)]at hb
 refine(Kh _ rfl).trans (FR (δ:=[some (shD p f),some (.int a)]) ?_)
 unfold shD
 simp_arith[DU,hb]
theorem R4(rs:List Int)(f h:Nat):(Af rs f (h+1)).getD 0 []=rs:=by
 unfold Af
 rw[abQ]
 show AB rs f 0 (cnt rs.length f 0)=rs
 exact LT rs f
theorem Us{v:Int}(h0:0<=v)(h1:v<=1000000000000000000):Ge.den [.int v]=.ok (.bl true):=by
 have hb:=BC v 0 1000000000000000000
 rw[decide_eq_true ⟨h0,h1⟩]at hb
 refine(Oc _ rfl).trans (Ai ?_)
 simp_arith[Fs,hb]
theorem L4(ws:List E3):D.flat 9 1 (.lst (ws.map trD))=true:=by
 show(ws.map trD).all (D.flat 8 0)=true
 rw[aas]
 intro d hd
 obtain⟨q,_,rfl⟩:=aat.mp hd
 rfl
theorem Rv{wt:List (List Int)}{p f h:Nat}(hw:Dim wt p f h)(qs:List (Nat×Nat))(hq:∀q∈qs,q.1<=h/\q.2<cnt p f q.1):CG.den [Aa wt,.lst (qs.map Ap)]=.ok (.lst ((qs.map fun q=>((q.1:Int),(q.2:Int),tl wt q.1 q.2)).map trD)):=by
 have hc:=BG (nl:=1) (fr:=[0]) (tg:=.nm 0) (it:=.seq (.nm 1)) (elt:=.tup (.cons (.ix (.nm 0) (.cI 0)) (.cons (.ix (.nm 0) (.cI 1)) (.cons (.call Ay (.cons (.nm 1) (.cons (.nm 0) .nil))) .nil)))) (δ:=[some (Aa wt),some (.lst (qs.map Ap))]) (ds:=qs.map Ap) (g:=fun d=>match d with|.tup [.int a,.int c]=>trD (a,c,tl wt a.toNat c.toNat)|d=>d) (by
   generalize qs.map Ap=CV at *
   generalize Aa wt=T at *
   simp_arith[]) (fun d hd=>by
  obtain⟨⟨a,c⟩,hm,rfl⟩:=aat.mp hd
  obtain⟨h1,h2⟩:=hq _ hm
  have ht:=CL hw h1 h2
  unfold Ak at ht
  refine⟨[some (.tup [.int a,.int c]),some (Aa wt)],rfl,?_⟩
  show _=Res.ok (D.tup [.int a,.int c,.int (tl wt ((a:Int)).toNat ((c:Int)).toNat)])
  rw[aav,aav]
  simp only at ht
  generalize tl wt a c=x at *
  generalize Aa wt=T at *
  simp_arith[ht])
 rw[aaB]at hc
 have ee:qs.map ((fun d=>match d with|.tup [.int a,.int c]=>trD (a,c,tl wt a.toNat c.toNat)|d=>d) ∘ Ap)=(qs.map fun q=>((q.1:Int),(q.2:Int),tl wt q.1 q.2)).map trD:=by
  rw[aaB]
  apply aaQ
  intro q _
  show trD ((q.1:Int),(q.2:Int),tl wt ((q.1:Int)).toNat ((q.2:Int)).toNat)=_
  rw[aav,aav];rfl
 rw[ee]at hc
 refine(LH _ rfl).trans (Ai ?_)
 generalize hC:E.comp0 1 [0] (.nm 0) (.seq (.nm 1)) (.tup (.cons (.ix (.nm 0) (.cI 0)) (.cons (.ix (.nm 0) (.cI 1)) (.cons (.call Ay (.cons (.nm 1) (.cons (.nm 0) .nil))) .nil))))=C at *
 rw[El,hC]
 generalize (qs.map fun q=>((q.1:Int),(q.2:Int),tl wt q.1 q.2)).map trD=PP at *
 generalize qs.map Ap=CV at *
 generalize Aa wt=T at *
 simp_arith[hc]
theorem Rw{rs:List Int}{k:Nat}(hk:k<rs.length)(v:Int):A6 (k:Int) (.int v) (rs.map D.int)=some ((rs.set k v).map .int):=by
 unfold A6 ixN
 rw[aab,if_pos (by exact aaA _),if_pos (by exact aaW.mpr hk),aav,abJ];rfl
structure Ro(rs:List Int)(f h:Nat):Prop where
 hf:2<=f
 hf8:f<=8
 H:Hs rs.length f h
 hh:h<=8
 hn:rs.length<=200
 hn1:1<=rs.length
theorem Ro.set{rs:List Int}{f h:Nat}(R:Ro rs f h)(k:Nat)(v:Int):Ro (rs.set k v) f h:=by
 obtain⟨a,b,c,d,e,g⟩:=R
 exact⟨a,b,by rw[aaM];exact c,d,by rw[aaM];exact e,by rw[aaM];exact g⟩
section
variable{rs:List Int}{f h k:Nat}(R:Ro rs f h)(hk:k<rs.length){v:Int}(h0:0<=v)(h1:v<=1000000000000000000)
include R hk h0 h1
theorem Mo:Gh.den [Aa (Af rs f (h+1)),.int f,.int k,.int v]=.ok (.tup [Aa (Af (rs.set k v) f (h+1)),.lst ((asc rs f k v (h+1)).map trD)]):=by
 have hd:=Go rs f h
 have hd2:=Go (rs.set k v) f h
 rw[aaM]at hd2
 have hsh:=Fk hd (f:=f)
 have hcp:=Xi (p:=rs.length) (f:=f) hk
 have hir:=Us h0 h1
 have hro:=CM hd
 rw[R4]at hro
 have hset:=Rw hk v
 have R':=R.set k v
 have hbu:=J7 R'.hf R'.hf8 R'.H R'.hh R'.hn R'.hn1
 have hun:=Jc hd hd2 R.hf R.hf8 R.hh R.hn
 have hto:=Rv hd2 (Bp (Af rs f (h+1)) (Af (rs.set k v) f (h+1)) rs.length f (h+1)) (fun q hq=>by
  obtain⟨a,b⟩:=Ng hq
  exact⟨by exact aaZ a,b⟩)
 rw[Ur R.hf hk v]at hto
 have d1:DA.dep=2:=Re
 have d2:Ca.dep=1:=J3
 have d3:CG.dep=1:=LJ
 have f1:=Fz (Af (rs.set k v) f (h+1))
 have f2:=Nh (Bp (Af rs f (h+1)) (Af (rs.set k v) f (h+1)) rs.length f (h+1))
 have f3:=L4 (asc rs f k v (h+1))
 refine(Od _ rfl).trans (Ai ?_)
 unfold Ab at *
 clear hd hd2 R'
 generalize (Bp (Af rs f (h+1)) (Af (rs.set k v) f (h+1)) rs.length f (h+1)).map Ap=UN at *
 generalize (asc rs f k v (h+1)).map trD=W at *
 generalize Aa (Af (rs.set k v) f (h+1))=T2 at *
 generalize Aa (Af rs f (h+1))=T1 at *
 generalize (rs.set k v).map D.int=r2 at *
 generalize rs.map D.int=r1 at *
 generalize shD rs.length f=s at *
 simp_arith[Fv,hsh,hcp,hir,hro,hset,hbu,d1,f1,hun,d2,f2,hto,d3,f3]
theorem Mp:EW.den [Aa (Af rs f (h+1)),.int f,.int k,.int v]=.ok (.lst ((L3 rs f k v h).map trD)):=by
 have hch:=Mo R hk h0 h1
 have hd:=Go rs f h
 have a1:=FS hd (aaw h)
 rw[R4]at a1
 have a2:=Kr hk
 have a1:atD ((Af rs f (h+1)).map Ab) 0=.ok (.lst (rs.map .int)):=a1
 refine(Of _ rfl).trans (Ai ?_)
 have hrv:Vu (.lst ((asc rs f k v (h+1)).map trD))=.ok (((asc rs f k v (h+1)).reverse).map trD):=by rw[acG];rfl
 unfold L3
 by_cases c:rs.getD k 0<v
 ·rw[if_pos c]
  clear hd
  unfold Aa at *
  generalize (asc rs f k v (h+1)).map trD=W at *
  generalize ((asc rs f k v (h+1)).reverse).map trD=W2 at *
  generalize (Af (rs.set k v) f (h+1)).map Ab=T2 at *
  generalize (Af rs f (h+1)).map Ab=T1 at *
  generalize rs.map D.int=r1 at *
  generalize rs.getD k 0=y at *
  simp_arith[Ez,hch,a1,a2,c,hrv]
 ·rw[if_neg c]
  clear hd hrv
  unfold Aa at *
  generalize (asc rs f k v (h+1)).map trD=W at *
  generalize (Af (rs.set k v) f (h+1)).map Ab=T2 at *
  generalize (Af rs f (h+1)).map Ab=T1 at *
  generalize rs.map D.int=r1 at *
  generalize rs.getD k 0=y at *
  simp_arith[Ez,hch,a1,a2,c]
end
abbrev dn(tr:List (List Int))(p f:Nat)(q:Int):Nat->Nat->Nat×Nat
 |0,j=>(0,j)
 |l+1,j=>match (chN p f (l+1) j).find? (fun c=>decide (q<=tl tr c.1 c.2)) with
  |some c=>dn tr p f q l c.2
  |none=>(l+1,j)
abbrev lw(tr:List (List Int))(p f h:Nat)(q:Int):Option (Nat×Nat):=if q<=tl tr h 0 then some (dn tr p f q h 0) else none
abbrev bn(tr:List (List Int))(rs:List Int)(p f l j:Nat):Int:=match l with
 |0=>rs.getD j 0
 |l+1=>((chN p f (l+1) j).map fun c=>tl tr c.1 c.2).max?.getD 0
theorem Kt{p f l j:Nat}{c:Nat×Nat}(h:c∈chN p f (l+1) j):c.1=l/\c.2<cnt p f l:=by
 unfold chN at h
 obtain⟨k,hk,rfl⟩:=aat.mp h
 exact⟨rfl,abF.mp (abn.mp hk).1⟩
theorem Ut{p f l j:Nat}(hf:1<=f):chN p f (l+1) j=(aan (min (j*f+f) (cnt p f l)-j*f)).map fun i=>(l,j*f+i):=by
 show((aan (cnt p f l)).filter fun k=>k/f==j).map (fun k=>(l,k))=_
 rw[J5 hf,aaB];rfl
theorem P0{p f l j:Nat}(hf:1<=f)(hj:j<cnt p f (l+1)):j*f<cnt p f l:=by
 rw[EB hf]at hj ⊢
 rw[ab4,acj (f^l) f,<- Nat.mul_assoc]at hj
 exact hj
theorem Xj{p f l j:Nat}(hf:1<=f)(hj:j<cnt p f (l+1)):chN p f (l+1) j≠[]:=by
 rw[Ut hf]
 have:=P0 hf hj
 intro z
 have:=congrArg aa1 z
 rw[aab,aaP]at this
 simp at this
 omega
theorem R5{tr:List (List Int)}{p f:Nat}{q:Int}(hf:1<=f):∀l j,j<cnt p f l->q<=tl tr l j->(dn tr p f q l j).1<=l/\(dn tr p f q l j).2<cnt p f (dn tr p f q l j).1/\q<=tl tr (dn tr p f q l j).1 (dn tr p f q l j).2/\((dn tr p f q l j).1=0\/∀c∈chN p f (dn tr p f q l j).1 (dn tr p f q l j).2,tl tr c.1 c.2<q)
 |0,j,hj,hq=>⟨aai _,hj,hq,.inl rfl⟩
 |l+1,j,hj,hq=>by
  unfold dn
  cases e:(chN p f (l+1) j).find? (fun c=>decide (q<=tl tr c.1 c.2)) with
  |none=>
   refine⟨aai _,hj,hq,.inr fun c hc=>?_⟩
   have:=List.find?_eq_none.mp e c hc
   simp only[decide_eq_true_eq]at this
   exact Int.not_le.mp this
  |some c=>
   have hm:=acD e
   have hp:=List.find?_some e
   obtain⟨c1,c2⟩:=Kt hm
   have hp:q<=tl tr c.1 c.2:=of_decide_eq_true hp
   rw[c1]at hp
   obtain⟨a,b,d,g⟩:=R5 hf l c.2 c2 hp
   exact⟨acC a,b,d,g⟩
theorem R6{tr:List (List Int)}{p f h:Nat}{q:Int}(hf:1<=f)(hh:0<cnt p f h){l j:Nat}(e:lw tr p f h q=some (l,j)):l<=h/\j<cnt p f l/\q<=tl tr l j/\(l=0\/∀c∈chN p f l j,tl tr c.1 c.2<q):=by
 unfold lw at e
 by_cases c:q<=tl tr h 0
 ·rw[if_pos c]at e
  have e:=Option.some.inj e
  have:=R5 (tr:=tr) (q:=q) hf h 0 hh c
  rw[e]at this
  exact this
 ·rw[if_neg c]at e;cases e
abbrev stp(tr:List (List Int))(rs:List Int)(p f h:Nat)(q:Int):Option (Nat×Nat):=match lw tr p f h q with
 |none=>none
 |some (l,j)=>if bn tr rs p f l j<q then some (l,j) else none
abbrev Ih(tr:List (List Int))(rs:List Int)(p f l j:Nat):List (List Int):=Cj tr l j (bn tr rs p f l j)
abbrev md1(tr:List (List Int))(rs:List Int)(p f l j:Nat):E4:=((l:Int),(j:Int),tl tr l j,bn tr rs p f l j)
abbrev skF(rs:List Int)(p f h:Nat)(q:Int):Nat->List (List Int)->List E4->List (List Int)×List E4
 |0,tr,ms=>(tr,ms)
 |n+1,tr,ms=>match stp tr rs p f h q with
  |none=>(tr,ms)
  |some (l,j)=>skF rs p f h q n (Ih tr rs p f l j) (ms++[md1 tr rs p f l j])
abbrev msr(q:Int)(tr:List (List Int)):Nat:=(tr.map fun r=>(r.filter fun x=>decide (q<=x)).length).sum
theorem Nj{q v:Int}(hv:v<q):∀(r:List Int)(j:Nat),j<r.length->q<=r.getD j 0->((r.set j v).filter fun x=>decide (q<=x)).length+1=(r.filter fun x=>decide (q<=x)).length
 |[],j,h,_=>by simp at h
 |x::r,0,_,h=>by
  have h:q<=x:=h
  rw[List.set_cons_zero,abg (by simp;omega),abf (by simpa using h)];rfl
 |x::r,j+1,hl,h=>by
  have ih:=Nj hv r j (by simpa using hl) (by simpa using h)
  rw[List.set_cons_succ]
  by_cases c:q<=x
  ·rw[abf (by simpa using c),abf (by simpa using c),aaL,aaL,ih]
  ·rw[abg (by simpa using c),abg (by simpa using c)];exact ih
theorem Nk{q v:Int}(hv:v<q){j:Nat}:∀(tr:List (List Int))(l:Nat),l<tr.length->j<(tr.getD l []).length->q<=tl tr l j->msr q (Cj tr l j v)+1=msr q tr
 |[],l,h,_,_=>by simp at h
 |r::tr,0,_,hj,h=>by
  have:=Nj hv r j hj h
  show(((r.set j v).filter fun x=>decide (q<=x)).length+msr q tr)+1=(r.filter fun x=>decide (q<=x)).length+msr q tr
  omega
 |r::tr,l+1,hl,hj,h=>by
  have ih:=Nk hv tr l (by simpa using hl) (by simpa using hj) h
  show((r.filter fun x=>decide (q<=x)).length+msr q (Cj tr l j v))+1=(r.filter fun x=>decide (q<=x)).length+msr q tr
  omega
section
variable{rs:List Int}{p f h:Nat}{q:Int}(hf:2<=f)(hc:0<cnt p f h)
include hf hc
theorem P5{tr:List (List Int)}{l j:Nat}(e:stp tr rs p f h q=some (l,j)):lw tr p f h q=some (l,j)/\bn tr rs p f l j<q/\l<=h/\j<cnt p f l/\q<=tl tr l j:=by
 unfold stp at e
 cases e1:lw tr p f h q with
 |none=>rw[e1]at e;cases e
 |some x=>
  obtain⟨a,b⟩:=x
  rw[e1]at e
  by_cases c:bn tr rs p f a b<q
  ·have e:(if bn tr rs p f a b<q then some (a,b) else none)=some (l,j):=e
   rw[if_pos c]at e
   cases e
   obtain⟨h1,h2,h3,_⟩:=R6 (show 1<=f by exact aap hf) hc e1
   exact⟨rfl,c,h1,h2,h3⟩
  ·have e:(if bn tr rs p f a b<q then some (a,b) else none)=some (l,j):=e
   rw[if_neg c]at e;cases e
theorem Nl{tr:List (List Int)}(hd:Dim tr p f h){l j:Nat}(e:stp tr rs p f h q=some (l,j)):msr q (Ih tr rs p f l j)+1=msr q tr:=by
 obtain⟨_,h1,h2,h3,h4⟩:=P5 hf hc e
 exact Nk h1 tr l (by rw[BE hd];exact abd h2) (by rw[(A9 hd h2).1];exact h3) h4
end
structure Tr(tr:List (List Int))(rs:List Int)(p f h:Nat):Prop where
 hd:Dim tr p f h
 hl:rs.length=p
 hf:2<=f
 hf8:f<=8
 H:Hs p f h
 hh:h<=8
 hp:p<=200
 hp1:1<=p
theorem Tr.put{tr:List (List Int)}{rs:List Int}{p f h:Nat}(R:Tr tr rs p f h)(l j:Nat)(v:Int):Tr (Cj tr l j v) rs p f h:=⟨Ht R.hd ..,R.hl,R.hf,R.hf8,R.H,R.hh,R.hp,R.hp1⟩
theorem Tr.c0{tr:List (List Int)}{rs:List Int}{p f h:Nat}(R:Tr tr rs p f h):0<cnt p f h:=by rw[R.H.one];exact Nat.one_pos
abbrev ndO:Option (Nat×Nat)->D
 |none=>.non
 |some c=>Ak c.1 c.2
section
variable{tr:List (List Int)}{rs:List Int}{p f h:Nat}(R:Tr tr rs p f h)(q:Int)
include R
theorem P6{l j:Nat}(hl:l<=h)(hj:j<cnt p f l):BN.den [Aa tr,.int f,Ab rs,Ak l j]=.ok (.int (bn tr rs p f l j)):=by
 cases l with
 |zero=>
  have hj':j<rs.length:=by
   have:cnt p f 0=p:=by unfold cnt;simp
   rw[R.hl];exact aao hj (aa5 this)
  have ha:=Kr hj'
  have e0:((0:Nat):Int)=0:=rfl
  refine(IP _ rfl).trans (Ai ?_)
  show _=Out.ret (.int (rs.getD j 0))
  unfold Ak Ab
  rw[e0]
  generalize rs.getD j 0=x at *
  generalize Aa tr=T at *
  generalize rs.map D.int=X at *
  simp_arith[Ex,ha]
 |succ l=>
  have hs:=Fk R.hd (f:=f)
  have hc:=GZ R.hf R.hf8 R.H R.hh R.hp hl hj
  have c1:(((l+1:Nat):Int)==0)=false:=by rw[beq_eq_false_iff_ne];omega
  have hcm:=BG (nl:=1) (fr:=[0]) (tg:=.nm 0) (it:=.seq (.call Bh (.cons (.call BZ (.cons (.nm 0) (.cons (.nm 1) .nil))) (.cons (.nm 3) .nil)))) (elt:=.call Ay (.cons (.nm 1) (.cons (.nm 0) .nil))) (δ:=[some (Aa tr),some (.int f),some (Ab rs),some (Ak (l+1) j)]) (ds:=(chN p f (l+1) j).map Ap) (g:=fun d=>match d with|.tup [.int a,.int c]=>.int (tl tr a.toNat c.toNat)|d=>d) (by
    generalize (chN p f (l+1) j).map Ap=CV at *
    generalize Aa tr=T at *
    generalize Ak (l+1) j=N at *
    generalize Ab rs=X at *
    generalize shD p f=s at *
    simp_arith[hs,hc]) (fun d hd=>by
   obtain⟨c,hm,rfl⟩:=aat.mp hd
   obtain⟨z1,z2⟩:=Kt hm
   have ht:=CL R.hd (l:=c.1) (j:=c.2) (by exact aao (aa5 z1) (aap hl)) (by rw[z1];exact z2)
   refine⟨[some (Ak c.1 c.2),some (Aa tr)],rfl,?_⟩
   show _=Res.ok (D.int (tl tr ((c.1:Int)).toNat ((c.2:Int)).toNat))
   rw[aav,aav]
   generalize tl tr c.1 c.2=x at *
   generalize Ak c.1 c.2=N at *
   generalize Aa tr=T at *
   simp_arith[ht])
  rw[aaB]at hcm
  have ee:(chN p f (l+1) j).map ((fun d=>match d with|.tup [.int a,.int c]=>D.int (tl tr a.toNat c.toNat)|d=>d) ∘ Ap)=((chN p f (l+1) j).map fun c=>tl tr c.1 c.2).map .int:=by
   rw[aaB]
   apply aaQ
   intro c _
   show D.int (tl tr ((c.1:Int)).toNat ((c.2:Int)).toNat)=_
   rw[aav,aav];rfl
  rw[ee]at hcm
  have hii:Fc (De (((chN p f (l+1) j).map fun c=>tl tr c.1 c.2).map D.int))=.ok ((chN p f (l+1) j).map fun c=>tl tr c.1 c.2):=by rw[DZ];rfl
  have hmm:Fc ((chN p f (l+1) j).map fun c=>tl tr c.1 c.2).max?=.ok (bn tr rs p f (l+1) j):=by
   have hf:=R.hf
   rw[LO (ys:=(chN p f (l+1) j).map fun c=>tl tr c.1 c.2) (by simpa using Xj (show 1<=f by exact aap hf) hj)];rfl
  refine(IP _ rfl).trans (Ai ?_)
  clear ee
  generalize hC:E.comp0 1 [0] (.nm 0) (.seq (.call Bh (.cons (.call BZ (.cons (.nm 0) (.cons (.nm 1) .nil))) (.cons (.nm 3) .nil)))) (.call Ay (.cons (.nm 1) (.cons (.nm 0) .nil)))=C at *
  rw[Ex,hC]
  generalize bn tr rs p f (l+1) j=B at *
  generalize ((chN p f (l+1) j).map fun c=>tl tr c.1 c.2)=V at *
  unfold Ak at *
  generalize Aa tr=T at *
  generalize Ab rs=X at *
  simp_arith[c1,hcm,hii,hmm]
theorem Uu{l j:Nat}(hl:l<=h)(hj:j<cnt p f l)(o5 o6:Option D):ev (.comp1 1 [2,0] (.nm 0) (.seq (.call Bh (.cons (.nm 3) (.cons (.nm 4) .nil)))) (.cmp .ge (.call Ay (.cons (.nm 2) (.cons (.nm 0) .nil))) (.nm 1)) (.nm 0)) [some (Aa tr),some (.int f),some (.int q),some (shD p f),some (Ak l j),o5,o6]=.ok (.lst (((chN p f l j).filter fun c=>decide (q<=tl tr c.1 c.2)).map Ap)):=by
 have hc:=GZ R.hf R.hf8 R.H R.hh R.hp hl hj
 have hcm:=Id (nl:=1) (fr:=[2,0]) (tg:=.nm 0) (it:=.seq (.call Bh (.cons (.nm 3) (.cons (.nm 4) .nil)))) (cond:=.cmp .ge (.call Ay (.cons (.nm 2) (.cons (.nm 0) .nil))) (.nm 1)) (elt:=.nm 0) (δ:=[some (Aa tr),some (.int f),some (.int q),some (shD p f),some (Ak l j),o5,o6]) (ds:=(chN p f l j).map Ap) (b:=fun d=>match d with|.tup [.int a,.int c]=>decide (q<=tl tr a.toNat c.toNat)|_=>false) (g:=fun d=>d) (by
   generalize (chN p f l j).map Ap=CV at *
   generalize Aa tr=T at *
   generalize Ak l j=N at *
   generalize shD p f=s at *
   simp_arith[hc]) (fun d hd=>by
  obtain⟨c,hm,rfl⟩:=aat.mp hd
  cases l with
  |zero=>exact absurd hm (by intro z;cases z)
  |succ l=>
   obtain⟨z1,z2⟩:=Kt hm
   have ht:=CL R.hd (l:=c.1) (j:=c.2) (by exact aao (aa5 z1) (aap hl)) (by rw[z1];exact z2)
   refine⟨[some (Ak c.1 c.2),some (.int q),some (Aa tr)],rfl,?_,fun _=>?_⟩
   ·show _=Res.ok (decide (q<=tl tr ((c.1:Int)).toNat ((c.2:Int)).toNat))
    rw[aav,aav]
    generalize tl tr c.1 c.2=x at *
    generalize Ak c.1 c.2=N at *
    generalize Aa tr=T at *
    simp_arith[ht]
   ·show _=Res.ok (Ak c.1 c.2)
    generalize Ak c.1 c.2=N at *
    generalize Aa tr=T at *
    simp_arith[])
 rw[List.filter_map,aaB]at hcm
 have ee:(chN p f l j).filter ((fun d=>match d with|.tup [.int a,.int c]=>decide (q<=tl tr a.toNat c.toNat)|_=>false) ∘ Ap)=(chN p f l j).filter fun c=>decide (q<=tl tr c.1 c.2):=by
  apply adg
  intro c _
  show decide (q<=tl tr ((c.1:Int)).toNat ((c.2:Int)).toNat)=_
  rw[aav,aav]
 rw[ee]at hcm
 exact hcm
theorem P7:∀(l j:Nat)(n:Nat)(rest:List (Nat×Nat))(o4 o5:Option D),l<=h->j<cnt p f l->l+1<n->Bc (tv (.cmp .ne (.nm 6) (.lst .nil))) (exs AF) n [some (Aa tr),some (.int f),some (.int q),some (shD p f),o4,o5,some (.lst (((l,j)::rest).map Ap))]=.nxt [some (Aa tr),some (.int f),some (.int q),some (shD p f),some (Ak (dn tr p f q l j).1 (dn tr p f q l j).2),o5,some (.lst [])]:=by
 have key:∀(l j:Nat)(n:Nat)(rest:List (Nat×Nat))(o4 o5:Option D),l<=h->j<cnt p f l->Bc (tv (.cmp .ne (.nm 6) (.lst .nil))) (exs AF) (n+1) [some (Aa tr),some (.int f),some (.int q),some (shD p f),o4,o5,some (.lst (((l,j)::rest).map Ap))]=Bc (tv (.cmp .ne (.nm 6) (.lst .nil))) (exs AF) n [some (Aa tr),some (.int f),some (.int q),some (shD p f),some (Ak l j),o5,some (.lst (((chN p f l j).filter fun c=>decide (q<=tl tr c.1 c.2)).map Ap))]:=fun l j n rest o4 o5 hl hj=>by
  have hne:=Fy (((l,j)::rest).map Ap) (PX _ 6)
  have hne:c2 .ne (.lst (((l,j)::rest).map Ap)) (.lst [])=.ok (.bl true):=hne
  have ha:atD (((l,j)::rest).map Ap) 0=.ok (Ak l j):=by
   rw[aaI]
   unfold atD ixN
   rw[if_pos (by exact by decide),if_pos (by simp)];rfl
  have hfd:=Uu R q hl hj o5 (some (.lst (((l,j)::rest).map Ap)))
  refine IX (by
   generalize ((l,j)::rest).map Ap=FT at *
   generalize Aa tr=T at *
   generalize shD p f=s at *
   simp_arith[hne]) ?_
  generalize hC:E.comp1 1 [2,0] (.nm 0) (.seq (.call Bh (.cons (.nm 3) (.cons (.nm 4) .nil)))) (.cmp .ge (.call Ay (.cons (.nm 2) (.cons (.nm 0) .nil))) (.nm 1)) (.nm 0)=C at *
  rw[AF,hC]
  generalize ((chN p f l j).filter fun c=>decide (q<=tl tr c.1 c.2)).map Ap=F2 at *
  generalize ((l,j)::rest).map Ap=FT at *
  generalize Aa tr=T at *
  generalize Ak l j=N at *
  generalize shD p f=s at *
  simp_arith[ha,hfd]
 have stop:∀(n:Nat)(o4 o5:Option D),Bc (tv (.cmp .ne (.nm 6) (.lst .nil))) (exs AF) (n+1) [some (Aa tr),some (.int f),some (.int q),some (shD p f),o4,o5,some (.lst [])]=.nxt [some (Aa tr),some (.int f),some (.int q),some (shD p f),o4,o5,some (.lst [])]:=fun n o4 o5=>by
  have hne:=Fy [] rfl
  have hne:c2 .ne (.lst []) (.lst [])=.ok (.bl false):=hne
  refine E5 ?_
  generalize Aa tr=T at *
  generalize shD p f=s at *
  simp_arith[hne]
 intro l
 induction l with
 |zero=>
  intro j n rest o4 o5 hl hj hn
  obtain⟨n,rfl⟩:∃k,n=k+2:=⟨n-2,by omega⟩
  rw[key 0 j (n+1) rest o4 o5 hl hj]
  exact stop n _ _
 |succ l ih=>
  intro j n rest o4 o5 hl hj hn
  obtain⟨n,rfl⟩:∃k,n=k+2:=⟨n-2,by omega⟩
  rw[key (l+1) j (n+1) rest o4 o5 hl hj]
  have hh:=List.head?_filter (l:=chN p f (l+1) j) (p:=fun c=>decide (q<=tl tr c.1 c.2))
  unfold dn
  cases e:(chN p f (l+1) j).find? (fun c=>decide (q<=tl tr c.1 c.2)) with
  |none=>
   rw[e]at hh
   rw[List.head?_eq_none_iff.mp hh]
   exact stop n _ _
  |some c=>
   rw[e]at hh
   obtain⟨z1,z2⟩:=Kt (acD e)
   obtain⟨rs2,e0⟩:∃rs2,(chN p f (l+1) j).filter (fun c=>decide (q<=tl tr c.1 c.2))=(l,c.2)::rs2:=by
    cases e1:(chN p f (l+1) j).filter (fun c=>decide (q<=tl tr c.1 c.2)) with
    |nil=>rw[e1]at hh;cases hh
    |cons a r=>rw[e1]at hh;cases hh;exact⟨r,by rw[<- z1]⟩
   rw[e0]
   exact ih c.2 (n+1) rs2 _ o5 (by exact aap hl) z2 (by exact aaZ hn)
theorem Nm:AY.den [Aa tr,.int f,.int q]=.ok (ndO (lw tr p f h q)):=by
 have hs:=Fk R.hd (f:=f)
 have hp1:=R.hp1
 have c1:((p:Int)==0)=false:=by rw[beq_eq_false_iff_ne];omega
 have ht:=Rh R.hf R.hf8 R.H R.hh
 have hte:=CL R.hd (l:=h) (j:=0) (aai _) R.c0
 have hcm:=Id (nl:=1) (fr:=[2,0]) (tg:=.nm 0) (it:=.seqL (.nm 5)) (cond:=.cmp .ge (.call Ay (.cons (.nm 2) (.cons (.nm 0) .nil))) (.nm 1)) (elt:=.nm 0) (δ:=[some (Aa tr),some (.int f),some (.int q),some (shD p f),some .non,some (.lst [Ak h 0]),none]) (ds:=[Ak h 0]) (b:=fun _=>decide (q<=tl tr h 0)) (g:=fun d=>d) (by
   generalize Aa tr=T at *
   generalize Ak h 0=N at *
   generalize shD p f=s at *
   simp_arith[]) (fun d hd=>by
  cases aaE.mp hd
  refine⟨[some (Ak h 0),some (.int q),some (Aa tr)],rfl,?_,fun _=>?_⟩
  ·generalize tl tr h 0=x at *
   generalize Ak h 0=N at *
   generalize Aa tr=T at *
   simp_arith[hte]
  ·generalize Ak h 0=N at *
   generalize Aa tr=T at *
   simp_arith[])
 have hne:=Fy [] rfl
 have hne:c2 .ne (.lst []) (.lst [])=.ok (.bl false):=hne
 refine(HX _ rfl).trans (Ai ?_)
 unfold lw
 by_cases c:q<=tl tr h 0
 ·rw[if_pos c]
  have hl:=P7 R q h 0 FU [] (some .non) (some (.lst [Ak h 0])) (aai _) R.c0 (by have:=R.hh;unfold FU;exact aaC (ac2 this _) (by decide))
  have hl:Bc (tv (.cmp .ne (.nm 6) (.lst .nil))) (exs AF) FU [some (Aa tr),some (.int f),some (.int q),some (shD p f),some .non,some (.lst [Ak h 0]),some (.lst [Ak h 0])]=_:=hl
  rw[abf (by simpa using c),ab1,aaI,abb]at hcm
  show _=Out.ret (Ak (dn tr p f q h 0).1 (dn tr p f q h 0).2)
  generalize hC:E.comp1 1 [2,0] (.nm 0) (.seqL (.nm 5)) (.cmp .ge (.call Ay (.cons (.nm 2) (.cons (.nm 0) .nil))) (.nm 1)) (.nm 0)=C at *
  rw[BO,hC]
  unfold shD at *
  generalize Ak (dn tr p f q h 0).1 (dn tr p f q h 0).2=ND at *
  generalize Aa tr=T at *
  generalize Ak h 0=N at *
  simp_arith[hs,c1,ht,hcm,hl]
 ·rw[if_neg c]
  have hl:Bc (tv (.cmp .ne (.nm 6) (.lst .nil))) (exs AF) FU [some (Aa tr),some (.int f),some (.int q),some (shD p f),some .non,some (.lst [Ak h 0]),some (.lst [])]=.nxt [some (Aa tr),some (.int f),some (.int q),some (shD p f),some .non,some (.lst [Ak h 0]),some (.lst [])]:=by
   rw[show FU=(FU-1)+1 from rfl]
   refine E5 ?_
   generalize Aa tr=T at *
   generalize Ak h 0=N at *
   generalize shD p f=s at *
   simp_arith[hne]
  rw[abg (by simpa using c),ab1,abb]at hcm
  show _=Out.ret .non
  generalize hC:E.comp1 1 [2,0] (.nm 0) (.seqL (.nm 5)) (.cmp .ge (.call Ay (.cons (.nm 2) (.cons (.nm 0) .nil))) (.nm 1)) (.nm 0)=C at *
  rw[BO,hC]
  unfold shD at *
  generalize Aa tr=T at *
  generalize Ak h 0=N at *
  simp_arith[hs,c1,ht,hcm,hl]
end
abbrev pgO:Option (Nat×Nat)->D
 |none=>.non
 |some c=>.int c.2
abbrev L5:E:=.bo true (.cons (.isN true (.nm 6)) (.cons (.cmp .lt (.callB BN (.cons (.nm 4) (.cons (.nm 1) (.cons (.nm 2) (.cons (.nm 6) .nil))))) (.nm 3)) .nil))
theorem scI(i:Int):D.scal (.int i)=true:=rfl
theorem flI(n k:Nat)(i:Int):D.flat (n+1) k (.int i)=true:=rfl
section
variable{tr:List (List Int)}{rs:List Int}{p f h:Nat}(R:Tr tr rs p f h)(q:Int)
include R
theorem P8(T0 M:D)(o7:Option D):tv L5 [some T0,some (.int f),some (Ab rs),some (.int q),some (Aa tr),some M,some (ndO (lw tr p f h q)),o7]=.ok (stp tr rs p f h q).isSome:=by
 unfold stp
 cases e:lw tr p f h q with
 |none=>
  show _=Res.ok false
  unfold ndO L5
  generalize Aa tr=T at *
  generalize Ab rs=X at *
  simp_arith[]
 |some c=>
  obtain⟨l,j⟩:=c
  have hf:=R.hf
  obtain⟨h1,h2,h3,_⟩:=R6 (show 1<=f by exact aap hf) R.c0 e
  have hb:=P6 R h1 h2
  show _=Res.ok (if bn tr rs p f l j<q then some (l,j) else none).isSome
  unfold ndO L5
  simp only
  unfold Ak at *
  generalize bn tr rs p f l j=B at *
  generalize Aa tr=T at *
  generalize Ab rs=X at *
  have dp:BN.dep=0:=IQ
  have fl:=flI 8 0 B
  by_cases c:B<q
  ·rw[if_pos c]
   show _=Res.ok true
   simp_arith[hb,dp,fl,c]
  ·rw[if_neg c]
   show _=Res.ok false
   simp_arith[hb,dp,fl,c]
theorem Wn(T0:D)(ms:List E4)(hm:ms.length<=100000)(o7:Option D){l j:Nat}(e:stp tr rs p f h q=some (l,j)):exs Fu [some T0,some (.int f),some (Ab rs),some (.int q),some (Aa tr),some (.lst (ms.map quD)),some (ndO (lw tr p f h q)),o7]=.nxt [some T0,some (.int f),some (Ab rs),some (.int q),some (Aa (Ih tr rs p f l j)),some (.lst ((ms++[md1 tr rs p f l j]).map quD)),some (ndO (lw (Ih tr rs p f l j) p f h q)),some (.int (bn tr rs p f l j))]:=by
 obtain⟨e1,e2,h1,h2,h3⟩:=P5 R.hf R.c0 e
 rw[e1]
 have hb:=P6 R h1 h2
 have ht:=CL R.hd h1 h2
 have hu:=LR (tr:=tr) (n:=l) (j:=j) (v:=bn tr rs p f l j) (by rw[BE R.hd];exact abd h1) (by rw[(A9 R.hd h1).1];exact h2)
 have hlo:=Nm (R.put l j (bn tr rs p f l j)) q
 have dp1:BN.dep=0:=IQ
 have dp2:Ay.dep=0:=LF
 have dp3:AY.dep=0:=Fh
 have f1:=flI 8 0 (bn tr rs p f l j)
 have f2:=flI 8 0 (tl tr l j)
 have f3:D.flat 9 0 (ndO (lw (Cj tr l j (bn tr rs p f l j)) p f h q))=true:=by
  cases lw (Cj tr l j (bn tr rs p f l j)) p f h q<;>rfl
 have hap:=Bx (ms.map quD) (.tup [.int l,.int j,.int (tl tr l j),.int (bn tr rs p f l j)]) (by rw[aab];exact aaC hm (by decide))
 rw[aaq]
 show _=Out.nxt [_,_,_,_,some (Aa (Cj tr l j (bn tr rs p f l j))),some (.lst (ms.map quD++[.tup [.int l,.int j,.int (tl tr l j),.int (bn tr rs p f l j)]])),some (ndO (lw (Cj tr l j (bn tr rs p f l j)) p f h q)),_]
 clear e e1
 have en:ndO (some (l,j))=.tup [.int l,.int j]:=rfl
 rw[en]
 unfold Ak at *
 generalize ndO (lw (Cj tr l j (bn tr rs p f l j)) p f h q)=N2 at *
 generalize Aa (Cj tr l j (bn tr rs p f l j))=T2 at *
 generalize bn tr rs p f l j=B at *
 generalize tl tr l j=V at *
 generalize Aa tr=T at *
 generalize Ab rs=X at *
 generalize ms.map quD=M at *
 simp_arith[Fu,hb,dp1,f1,scI,ht,dp2,f2,hap,hu,hlo,dp3,f3,-Ax]
end
theorem P9(T0:D){rs:List Int}{p f h:Nat}(q:Int):∀(n:Nat)(tr:List (List Int))(ms:List E4)(w:Nat)(o7:Option D),Tr tr rs p f h->msr q tr<=n->ms.length+n<=100000->n<w->∃o7',Bc (tv L5) (exs Fu) w [some T0,some (.int f),some (Ab rs),some (.int q),some (Aa tr),some (.lst (ms.map quD)),some (ndO (lw tr p f h q)),o7]=.nxt [some T0,some (.int f),some (Ab rs),some (.int q),some (Aa (skF rs p f h q n tr ms).1),some (.lst ((skF rs p f h q n tr ms).2.map quD)),some (ndO (lw (skF rs p f h q n tr ms).1 p f h q)),o7']
 |0,tr,ms,w,o7,R,hm,hl,hw=>by
  obtain⟨w,rfl⟩:∃k,w=k+1:=⟨w-1,by omega⟩
  have hc:=P8 R q T0 (.lst (ms.map quD)) o7
  cases e:stp tr rs p f h q with
  |none=>
   rw[e]at hc
   exact⟨o7,E5 hc⟩
  |some x=>
   obtain⟨l,j⟩:=x
   have:=Nl R.hf R.c0 R.hd e
   omega
 |n+1,tr,ms,w,o7,R,hm,hl,hw=>by
  obtain⟨w,rfl⟩:∃k,w=k+1:=⟨w-1,by omega⟩
  have hc:=P8 R q T0 (.lst (ms.map quD)) o7
  rw[skF]
  cases e:stp tr rs p f h q with
  |none=>
   rw[e]at hc
   exact⟨o7,E5 hc⟩
  |some x=>
   obtain⟨l,j⟩:=x
   rw[e]at hc
   have hs:=Nl R.hf R.c0 R.hd e
   have ht:=Wn R q T0 ms (by exact aao (acJ ..) hl) o7 e
   obtain⟨o7',ih⟩:=P9 T0 q n (Ih tr rs p f l j) (ms++[md1 tr rs p f l j]) w (some (.int (bn tr rs p f l j))) (R.put ..) (by omega) (by rw[aaH];simp;omega) (by exact aaZ hw)
   refine⟨o7',?_⟩
   rw[IX hc ht]
   exact ih
theorem Wo{p f h:Nat}(hf:1<=f)(q:Int){tr:List (List Int)}(hd:Dim tr p f h):msr q tr<=(h+1)*p:=by
 have h1:∀r∈tr,(r.filter fun x=>decide (q<=x)).length<=p:=fun r hr=>by
  obtain⟨i,hi,e⟩:=aa9 hr
  have h2:=ach (fun x=>decide (q<=x)) r
  have hi':i<=h:=by rw[BE hd]at hi;exact aaZ hi
  obtain⟨h3,h4⟩:=A9 hd hi'
  rw[aae hi,e]at h4
  rw[<- Option.some.inj h4]at h3
  have:=Ck (p:=p) (f:=f) (l:=i) hf
  omega
 have h2:∀(xs:List (List Int)),(∀r∈xs,(r.filter fun x=>decide (q<=x)).length<=p)->msr q xs<=xs.length*p:=fun xs=>by
  induction xs with
  |nil=>intro _;exact aaw _
  |cons r xs ih=>
   intro hx
   have a:=hx r aac
   have b:=ih fun s hs=>hx s (aaa _ hs)
   show(r.filter fun x=>decide (q<=x)).length+msr q xs<=(xs.length+1)*p
   rw[acT,adh]
   omega
 have:=h2 tr h1
 rw[BE hd]at this
 exact this
abbrev skT(tr:List (List Int))(rs:List Int)(p f h:Nat)(q:Int):List (List Int):=(skF rs p f h q 2000 tr []).1
abbrev skM(tr:List (List Int))(rs:List Int)(p f h:Nat)(q:Int):List E4:=(skF rs p f h q 2000 tr []).2
theorem Tr.m2{tr:List (List Int)}{rs:List Int}{p f h:Nat}(R:Tr tr rs p f h)(q:Int):msr q tr<=2000:=by
 have h1:=Wo (show 1<=f by have:=R.hf;exact aap this) q R.hd
 have h2:(h+1)*p<=9*200:=ab8 (by have:=R.hh;exact aaC this (by decide)) R.hp
 exact q9J h1 h2 (by decide)
theorem Rx{tr:List (List Int)}{rs:List Int}{p f h:Nat}(R:Tr tr rs p f h)(q:Int):Ho.den [Aa tr,.int f,Ab rs,.int q]=.ok (.tup [pgO (lw (skT tr rs p f h q) p f h q),Aa (skT tr rs p f h q),.lst ((skM tr rs p f h q).map quD)]):=by
 have hcp:Ew.den [Aa tr]=.ok (Aa tr):=by
  have h2:=BG (nl:=1) (fr:=[]) (tg:=.nm 0) (it:=.seq (.nm 0)) (elt:=.bi .list (.cons (.nm 0) .nil)) (δ:=[some (Aa tr)]) (ds:=tr.map Ab) (g:=fun d=>d) rfl (fun d hd=>by
   obtain⟨x,_,rfl⟩:=aat.mp hd
   refine⟨[some (Ab x)],rfl,?_⟩
   unfold Ab
   simp_arith[])
  rw[acK]at h2
  refine(J2 _ rfl).trans (Ai ?_)
  unfold Aa at *
  generalize hC:E.comp0 1 [] (.nm 0) (.seq (.nm 0)) (.bi .list (.cons (.nm 0) .nil))=C at *
  rw[Ea,hC]
  generalize tr.map Ab=T at *
  simp_arith[h2]
 have hlo:=Nm R q
 have dp3:AY.dep=0:=Fh
 have f3:D.flat 9 0 (ndO (lw tr p f h q))=true:=by cases lw tr p f h q<;>rfl
 obtain⟨o7,hl⟩:=P9 (Aa tr) q 2000 tr [] FU none R (R.m2 q) (by decide) (by decide)
 refine(T4 _ rfl).trans (Ai ?_)
 unfold skT skM
 rw[abb]at hl
 generalize skF rs p f h q 2000 tr []=Z at *
 unfold L5 at hl
 cases e:lw Z.1 p f h q with
 |none=>
  rw[e]at hl
  show _=Out.ret (.tup [.non,Aa Z.1,.lst (Z.2.map quD)])
  have hl:_=Out.nxt [_,_,_,_,_,_,some .non,_]:=hl
  generalize ndO (lw tr p f h q)=N1 at *
  generalize Z.2.map quD=MM at *
  generalize Aa Z.1=T2 at *
  generalize Aa tr=T at *
  generalize Ab rs=X at *
  simp_arith[GQ,hcp,hlo,dp3,f3,hl]
 |some c=>
  rw[e]at hl
  show _=Out.ret (.tup [.int c.2,Aa Z.1,.lst (Z.2.map quD)])
  have hl:_=Out.nxt [_,_,_,_,_,_,some (.tup [.int c.1,.int c.2]),_]:=hl
  generalize ndO (lw tr p f h q)=N1 at *
  generalize Z.2.map quD=MM at *
  generalize Aa Z.1=T2 at *
  generalize Aa tr=T at *
  generalize Ab rs=X at *
  simp_arith[GQ,hcp,hlo,dp3,f3,hl,scI]
abbrev SfT(tr:List (List Int))(p f h:Nat):Prop:=∀l j i,l<h->j<cnt p f (l+1)->j*f<=i->i<j*f+f->i<cnt p f l->tl tr l i<=tl tr (l+1) j
abbrev LoP(tr:List (List Int))(rs:List Int)(p:Nat):Prop:=∀i,i<p->rs.getD i 0<=tl tr 0 i
theorem Yd{a b c d e g i:D}{y:Int}(h0:0<=y)(h1:y<7)(P:D->Prop)(pa:P a)(pb:P b)(pc:P c)(pd:P d)(pe:P e)(pg:P g)(pi:P i):∃v,atD [a,b,c,d,e,g,i] y=.ok v/\P v:=by
 have:y=0\/y=1\/y=2\/y=3\/y=4\/y=5\/y=6:=by omega
 rcases this with rfl|rfl|rfl|rfl|rfl|rfl|rfl
 ·exact⟨_,rfl,pa⟩
 ·exact⟨_,rfl,pb⟩
 ·exact⟨_,rfl,pc⟩
 ·exact⟨_,rfl,pd⟩
 ·exact⟨_,rfl,pe⟩
 ·exact⟨_,rfl,pg⟩
 ·exact⟨_,rfl,pi⟩
abbrev L6:Pu.S:=.iff (.cmp .eq (.nm 6) (.cI 0)) (.cons (.asg 9 0 (.ix (.nm 0) (.nm 8))) .nil) (.cons (.asg 10 0 (.bin .mul (.nm 8) (.nm 1))) (.cons (.asg 9 0 (.bi .maxL (.cons (.slc (.ixL (.nm 4) (.neg (.cI 1))) (.nm 10) (.bin .add (.nm 10) (.nm 1))) .nil))) .nil))
abbrev On:Pu.Ss:=.cons (.asg 11 0 (.ix (.nm 2) (.bin .mod (.bin .add (.bin .mul (.cI 7) (.nm 6)) (.nm 8)) (.bi .len (.cons (.nm 2) .nil))))) (.cons (.mut 7 [] .append (.cons (.bi .min (.cons (.bin .pow (.cI 10) (.cI 18)) (.cons (.bin .add (.nm 9) (.ix (.lst (.cons (.cI 0) (.cons (.cI 0) (.cons (.cI 0) (.cons (.cI 1) (.cons (.nm 11) (.cons (.bin .add (.nm 9) (.cI 1)) (.cons (.bin .pow (.cI 10) (.cI 18)) .nil)))))))) (.bin .mod (.nm 11) (.cI 7)))) .nil))) .nil)) .nil)
theorem Wp:Bm=.cons L6 On:=rfl
theorem Wq{ys:List Int}(hyl:ys.length=13)(hyb:∀y∈ys,0<=y){x:Int}(h0:0<=x)(h1:x<=1000000000000000000)(w:List Int)(hw:w.length<=200)(l k:Nat)(o0 o1 o3 o4 o5 o10 o11:Option D):∃v p11,x<=v/\v<=1000000000000000000/\exs On [o0,o1,some (Ab ys),o3,o4,o5,some (.int l),some (Ab w),some (.int k),some (.int x),o10,o11]=.nxt [o0,o1,some (Ab ys),o3,o4,o5,some (.int l),some (Ab (w++[v])),some (.int k),some (.int x),o10,p11]:=by
 obtain⟨n,hn,en⟩:=M9 (y:=7*(l:Int)+k) (n:=13) (by decide)
 have en:(7*(l:Int)+k)%13=n:=en
 have ha:=Kr (rs:=ys) (i:=n) (by exact hyl▸hn)
 have hy:0<=ys.getD n 0:=by
  rw[aah,aae (by exact hyl▸hn)]
  exact hyb _ (abu _)
 generalize ys.getD n 0=y at *
 have m0:=abo y (show(7:Int)≠0 by decide)
 have m1:=abP y (show(0:Int)<7 by decide)
 obtain⟨v,hv,z,rfl,z0⟩:=Yd (a:=.int 0) (b:=.int 0) (c:=.int 0) (d:=.int 1) (e:=.int y) (g:=.int (x+1)) (i:=.int 1000000000000000000) m0 m1 (fun d=>∃z,d=.int z/\0<=z) ⟨_,rfl,by decide⟩ ⟨_,rfl,by decide⟩ ⟨_,rfl,by decide⟩ ⟨_,rfl,by decide⟩ ⟨_,rfl,hy⟩ ⟨_,rfl,by exact ab6 h0 (by decide)⟩ ⟨_,rfl,by decide⟩
 have hap:=Bx (w.map .int) (.int (min 1000000000000000000 (x+z))) (by rw[aab];exact aaC hw (by decide))
 have hl:(((ys.map D.int).length:Nat):Int)=13:=by rw[aab,hyl];rfl
 have c13:(0:Int)<13:=by decide
 refine⟨min 1000000000000000000 (x+z),some (.int y),by omega,by omega,?_⟩
 unfold Ab
 rw[aaq]
 show exs On _=Out.nxt [o0,o1,some (.lst (ys.map D.int)),o3,o4,o5,some (.int l),some (.lst (w.map D.int++[.int (min 1000000000000000000 (x+z))])),some (.int k),some (.int x),o10,some (.int y)]
 generalize ys.map D.int=Y at *
 generalize w.map D.int=W at *
 simp_arith[On,hl,en,ha,hv,hap]
theorem Xk{rs:List Int}{k:Nat}(hk:k<rs.length)(f:Int)(o2 o3 o4 o5 o7 o9 o10 o11:Option D):ex L6 [some (Ab rs),some (.int f),o2,o3,o4,o5,some (.int (0:Nat)),o7,some (.int k),o9,o10,o11]=.nxt [some (Ab rs),some (.int f),o2,o3,o4,o5,some (.int (0:Nat)),o7,some (.int k),some (.int (rs.getD k 0)),o10,o11]:=by
 have ha:=Kr hk
 unfold Ab
 generalize rs.map D.int=X at *
 generalize rs.getD k 0=x at *
 rw[Int.natCast_zero]
 simp_arith[L6,ha]
theorem Xl{f k l:Nat}(hf8:f<=8)(hf:1<=f){A:List (List Int)}{r:List Int}(hA:atD (A.map Ab) (-1)=.ok (Ab r))(hk:k*f<r.length)(o0 o2 o3 o5 o7 o9 o10 o11:Option D):ex L6 [o0,some (.int f),o2,o3,some (Aa A),o5,some (.int ((l+1:Nat):Int)),o7,some (.int k),o9,o10,o11]=.nxt [o0,some (.int f),o2,o3,some (Aa A),o5,some (.int ((l+1:Nat):Int)),o7,some (.int k),some (.int (mxR r (k*f) (min r.length (k*f+f)))),some (.int ((k*f:Nat):Int)),o11]:=by
 have c1:(((l+1:Nat):Int)==0)=false:=by rw[beq_eq_false_iff_ne];omega
 have f1:-(18446744073709551616)<(f:Int):=by exact aaA _
 have f2:(f:Int)<18446744073709551616:=by exact q9A hf8 (by decide)
 have hcu:=Nb (rs:=r) (a:=k*f) (b:=k*f+f) (by exact aap hk)
 have hm:=I0 (rs:=r) (a:=k*f) (b:=min r.length (k*f+f)) (by omega) (by exact aaR ..)
 have hio:=DZ ((r.drop (k*f)).take (min r.length (k*f+f)-k*f))
 have e1:(k:Int)*(f:Int)=((k*f:Nat):Int):=by rw[abk]
 have e2:((k*f:Nat):Int)+(f:Int)=((k*f+f:Nat):Int):=by exact rfl
 clear hk
 generalize mxR r (k*f) (min r.length (k*f+f))=M at *
 generalize (r.drop (k*f)).take (min r.length (k*f+f)-k*f)=zs at *
 unfold Aa
 generalize A.map Ab=w at *
 unfold Ab at *
 generalize r.map D.int=row at *
 generalize ((l+1:Nat):Int)=L at *
 generalize k*f=q at *
 simp_arith[L6,c1,f1,f2,e1,e2,hA,hcu,hio,Fc,hm]
structure Lz(A:List (List Int))(rs:List Int)(f n:Nat):Prop where
 len:A.length=n
 row:∀l,l<n->(A.getD l []).length=cnt rs.length f l
 val:∀l j,l<n->j<cnt rs.length f l->0<=tl A l j/\tl A l j<=1000000000000000000
 lo:0<n->∀i,i<rs.length->rs.getD i 0<=tl A 0 i
 sf:∀l j i,l+1<n->j<cnt rs.length f (l+1)->j*f<=i->i<j*f+f->i<cnt rs.length f l->tl A l i<=tl A (l+1) j
abbrev Ii(A:List (List Int))(rs:List Int)(f:Nat):Nat->Nat->Int
 |0,j=>rs.getD j 0
 |l+1,j=>mxR (A.getD l []) (j*f) (min (A.getD l []).length (j*f+f))
theorem L7{A:List (List Int)}{w:List Int}{l:Nat}(h:l<A.length):(A++[w]).getD l []=A.getD l []:=by
 rw[aah,aa0 h,<- aah]
theorem L8{A:List (List Int)}{w:List Int}:(A++[w]).getD A.length []=w:=by
 rw[aah,aaT (aai _),acI];rfl
section
variable{rs:List Int}{f h:Nat}(hf:2<=f)(hf8:f<=8)(H:Hs rs.length f h)(hh:h<=8)(hn:rs.length<=200)(hrb:∀r∈rs,0<=r/\r<=1000000000000000000)
include hf hf8 H hh hn hrb
theorem Uv{A:List (List Int)}{l:Nat}(Z:Lz A rs f l)(hl:l<=h){j:Nat}(hj:j<cnt rs.length f l){ys:List Int}(hyl:ys.length=13)(hyb:∀y∈ys,0<=y)(w:List Int)(hw:w.length<=200)(o3 o5 o9 o10 o11:Option D):∃v p9 p10 p11,Ii A rs f l j<=v/\0<=v/\v<=1000000000000000000/\exs Bm [some (Ab rs),some (.int f),some (Ab ys),o3,some (Aa A),o5,some (.int l),some (Ab w),some (.int j),o9,o10,o11]=.nxt [some (Ab rs),some (.int f),some (Ab ys),o3,some (Aa A),o5,some (.int l),some (Ab (w++[v])),some (.int j),p9,p10,p11]:=by
 cases l with
 |zero=>
  have hj':j<rs.length:=by rw[Ci]at hj;exact hj
  have hb:=hrb (rs.getD j 0) (by
   rw[aah,aae hj']
   exact abu _)
  obtain⟨v,p11,v1,v2,e⟩:=Wq hyl hyb hb.1 hb.2 w hw 0 j (some (Ab rs)) (some (.int f)) o3 (some (Aa A)) o5 o10 o11
  have hif:=Xk hj' f (some (Ab ys)) o3 (some (Aa A)) o5 (some (Ab w)) o9 o10 o11
  refine⟨v,some (.int (rs.getD j 0)),o10,p11,v1,by omega,v2,?_⟩
  rw[Wp,exs,hif,Out.then_nxt]
  exact e
 |succ l=>
  have hrow:=Z.row l (by exact aai _)
  have hjf:=P0 (show 1<=f by exact aap hf) hj
  have eA:A=A.dropLast++[A.getD l []]:=by
   have hne:A≠[]:=fun z=>by have:=Z.len;rw[z]at this;cases this
   have h1:A.getLast hne=A.getD l []:=by
    rw[List.getLast_eq_getElem,aah,aae (by rw[Z.len];exact aai _)]
    simp only[Z.len,Nat.add_sub_cancel,adj]
   rw[<- h1]
   exact(List.dropLast_concat_getLast hne).symm
  have hA:atD (A.map Ab) (-1)=.ok (Ab (A.getD l [])):=by
   have:A.map Ab=A.dropLast.map Ab++[Ab (A.getD l [])]:=by
    conv=>lhs;rw[eA]
    rw[aaq];rfl
   rw[this]
   exact JH _ _
  have hb:0<=Ii A rs f (l+1) j/\Ii A rs f (l+1) j<=1000000000000000000:=by
   obtain⟨k,k1,k2,k3⟩:=(Ja (rs:=A.getD l []) (a:=j*f) (b:=min (A.getD l []).length (j*f+f)) (by omega) (by exact aaR ..)).1
   have:=Z.val l k (by exact aai _) (by omega)
   have e:tl A l k=mxR (A.getD l []) (j*f) (min (A.getD l []).length (j*f+f)):=by
    unfold tl
    rw[aah (l:=A.getD l []),k3];rfl
   rw[e]at this
   exact this
  obtain⟨v,p11,v1,v2,e⟩:=Wq hyl hyb hb.1 hb.2 w hw (l+1) j (some (Ab rs)) (some (.int f)) o3 (some (Aa A)) o5 (some (.int ((j*f:Nat):Int))) o11
  have hif:=Xl (l:=l) (k:=j) hf8 (by exact aap hf) hA (by exact hrow▸hjf) (some (Ab rs)) (some (Ab ys)) o3 o5 (some (Ab w)) o9 o10 o11
  refine⟨v,some (.int (Ii A rs f (l+1) j)),some (.int ((j*f:Nat):Int)),p11,v1,by omega,v2,?_⟩
  rw[Wp,exs,hif,Out.then_nxt]
  exact e
theorem Wr{A:List (List Int)}{l:Nat}(Z:Lz A rs f l)(hl:l<=h){ys:List Int}(hyl:ys.length=13)(hyb:∀y∈ys,0<=y)(o3 o5 o8 o9 o10 o11:Option D):∃w p8 p9 p10 p11,w.length=cnt rs.length f l/\(∀j,j<cnt rs.length f l->Ii A rs f l j<=w.getD j 0/\0<=w.getD j 0/\w.getD j 0<=1000000000000000000)/\Bg (.nm 8) (exs Bm) (Aw 0 (cnt rs.length f l)) [some (Ab rs),some (.int f),some (Ab ys),o3,some (Aa A),o5,some (.int l),some (Ab []),o8,o9,o10,o11]=.nxt [some (Ab rs),some (.int f),some (Ab ys),o3,some (Aa A),o5,some (.int l),some (Ab w),p8,p9,p10,p11]:=by
 have hcl:=Ck (p:=rs.length) (f:=f) (l:=l) (by exact aap hf)
 obtain⟨δ',e,w,p8,p9,p10,p11,rfl,h1,h2⟩:=Bo (tg:=.nm 8) (b:=exs Bm) (fun k δ=>∃(w:List Int)(o8 o9 o10 o11:Option D),δ=[some (Ab rs),some (.int f),some (Ab ys),o3,some (Aa A),o5,some (.int l),some (Ab w),o8,o9,o10,o11]/\w.length=k/\∀j,j<k->Ii A rs f l j<=w.getD j 0/\0<=w.getD j 0/\w.getD j 0<=1000000000000000000) (ds:=Aw 0 (cnt rs.length f l)) (δ:=[some (Ab rs),some (.int f),some (Ab ys),o3,some (Aa A),o5,some (.int l),some (Ab []),o8,o9,o10,o11]) 0 ⟨[],o8,o9,o10,o11,rfl,rfl,fun j hj=>absurd hj (abz j)⟩ (by
  rintro j d δ hd ⟨w,o8,o9,o10,o11,rfl,hw,hv⟩
  obtain⟨rfl,hj⟩:=BV hd
  rw[abK]
  rw[aaK]at hw hv ⊢
  have hj:j<cnt rs.length f l:=by exact aaW.mp hj
  obtain⟨v,p9,p10,p11,v1,v2,v3,e⟩:=Uv hf hf8 H hh hn hrb Z hl hj hyl hyb w (by omega) o3 o5 o9 o10 o11
  refine⟨_,_,rfl,e,w++[v],some (.int j),p9,p10,p11,rfl,by rw[aaH,hw];rfl,fun i hi=>?_⟩
  by_cases c:i<j
  ·rw[aah,aa0 (by exact hw▸c),<- aah]
   exact hv i c
  ·have:i=w.length:=by omega
   rw[this,aah,aaT (aai _),acI,hw]
   exact⟨v1,v2,v3⟩)
 rw[BW,ack,aav,aaK]at h1 h2
 exact⟨w,p8,p9,p10,p11,h1,h2,e⟩
theorem Uw{A:List (List Int)}{l:Nat}(Z:Lz A rs f l){w:List Int}(hw:w.length=cnt rs.length f l)(hv:∀j,j<cnt rs.length f l->Ii A rs f l j<=w.getD j 0/\0<=w.getD j 0/\w.getD j 0<=1000000000000000000):Lz (A++[w]) rs f (l+1):=by
 have hA:=Z.len
 have t1:∀a b,a<l->tl (A++[w]) a b=tl A a b:=fun a b ha=>by
  unfold tl;rw[L7 (by exact hA▸ha)]
 have t2:∀b,tl (A++[w]) l b=w.getD b 0:=fun b=>by
  unfold tl;rw[<- hA,L8]
 refine⟨by rw[aaH,hA];rfl,fun a ha=>?_,fun a b ha hb=>?_,fun _ i hi=>?_,fun a b i ha hb i1 i2 i3=>?_⟩
 ·by_cases c:a<l
  ·rw[L7 (by exact hA▸c)];exact Z.row a c
  ·have:a=A.length:=by omega
   rw[this,L8,hA];exact hw
 ·by_cases c:a<l
  ·rw[t1 a b c];exact Z.val a b c hb
  ·have:a=l:=by omega
   subst this
   rw[t2];exact(hv b hb).2
 ·by_cases c:0<l
  ·rw[t1 0 i c];exact Z.lo c i hi
  ·have c:l=0:=by omega
   subst c
   rw[t2]
   exact(hv i (by rw[Ci];exact hi)).1
 ·by_cases c:a+1<l
  ·rw[t1 _ _ c,t1 a i (by exact aap c)]
   exact Z.sf a b i c hb i1 i2 i3
  ·have:a+1=l:=by omega
   subst this
   rw[t2,t1 a i (by exact aai _)]
   have h1:=(hv b hb).1
   have hrow:=Z.row a (by exact aai _)
   have h2:=(Ja (rs:=A.getD a []) (a:=b*f) (b:=min (A.getD a []).length (b*f+f)) (by omega) (by exact aaR ..)).2 i (tl A a i) i1 (by omega) (by
    unfold tl
    rw[aah (l:=A.getD a []),aae (by exact aao i3 (aa5 hrow.symm))];rfl)
   exact ab2 h2 h1
theorem Qa(hn1:1<=rs.length){ys:List Int}(hyl:ys.length=13)(hyb:∀y∈ys,0<=y):∃A,Lz A rs f (h+1)/\BF.den [Ab rs,.int f,Ab ys]=.ok (Aa A):=by
 have hc:=IY hf hf8 H hh hn1
 have hr:=Cq (a:=0) (b:=((h+1:Nat):Int)) (by exact by decide) (by exact by decide) (by exact aaA _) (by exact q9A hh (by decide))
 obtain⟨δ',e,A,o6,o7,o8,o9,o10,o11,rfl,Z⟩:=Bo (tg:=.nm 6) (b:=exs CI) (fun l δ=>∃(A:List (List Int))(o6 o7 o8 o9 o10 o11:Option D),δ=[some (Ab rs),some (.int f),some (Ab ys),some (.int rs.length),some (Aa A),some (AR (lvD rs.length f h)),o6,o7,o8,o9,o10,o11]/\Lz A rs f l) (ds:=Aw 0 ((h+1:Nat):Int)) (δ:=[some (Ab rs),some (.int f),some (Ab ys),some (.int rs.length),some (Aa []),some (AR (lvD rs.length f h)),none,none,none,none,none,none]) 0 ⟨[],none,none,none,none,none,none,rfl,rfl,fun l z=>absurd z (abz l),fun l j z=>absurd z (abz l),fun z=>absurd z (aaX 0),fun l j i z=>absurd z (abz _)⟩ (by
  rintro l d δ hd ⟨A,o6,o7,o8,o9,o10,o11,rfl,Z⟩
  obtain⟨rfl,hl⟩:=BV hd
  rw[abK]
  rw[aaK]at Z ⊢
  have hl:l<=h:=by exact q9O hl
  obtain⟨w,p8,p9,p10,p11,hw,hv,e⟩:=Wr hf hf8 H hh hn hrb Z hl hyl hyb (some (.int rs.length)) (some (AR (lvD rs.length f h))) o8 o9 o10 o11
  have h5:=GX (xs:=lvD rs.length f h) (i:=l) (by rw[BM];exact abd hl)
  rw[FQ hl]at h5
  have hcl:=Ck (p:=rs.length) (f:=f) (l:=l) (by exact aap hf)
  have hr:=Cq (a:=0) (b:=(cnt rs.length f l:Int)) (by exact by decide) (by exact by decide) (by exact aaA _) (by exact q9L hcl hn (by decide))
  have hap:=Bx (A.map Ab) (Ab w) (by rw[aab,Z.len];exact q9K hl hh (by decide))
  refine⟨[some (Ab rs),some (.int f),some (Ab ys),some (.int rs.length),some (Aa A),some (AR (lvD rs.length f h)),some (.int l),o7,o8,o9,o10,o11],[some (Ab rs),some (.int f),some (Ab ys),some (.int rs.length),some (Aa (A++[w])),some (AR (lvD rs.length f h)),some (.int l),some (Ab w),p8,p9,p10,p11],rfl,?_,A++[w],_,_,p8,p9,p10,p11,rfl,Uw hf hf8 H hh hn hrb Z hw hv⟩
  clear hv
  unfold Aa AR at *
  rw[aaq]
  unfold Ab at e ⊢
  unfold Ab at hap
  rw[abb]at e
  show _=Out.nxt [_,_,_,_,some (.lst (A.map Ab++[.lst (w.map D.int)])),_,_,_,_,_,_,_]
  unfold Ab
  generalize A.map (fun xs=>D.lst (xs.map D.int))=AA at *
  simp_arith[CI,h5,hr,e,hap])
 rw[BW,show 0+(((h+1:Nat):Int)-0).toNat=h+1 by exact aci ..]at Z
 refine⟨A,Z,?_⟩
 have hll:=BM rs.length f h
 refine(Ia _ rfl).trans (Ai ?_)
 unfold AR at hc e
 unfold Aa at e ⊢
 rw[abb]at e
 unfold Ab at e ⊢
 simp_arith[Cv,aab,hc,hll,hr,e]
end
theorem Xm{A:List (List Int)}{rs:List Int}{f h:Nat}(hf:2<=f)(hf8:f<=8)(H:Hs rs.length f h)(hh:h<=8)(hn:rs.length<=200)(hn1:1<=rs.length)(Z:Lz A rs f (h+1)):Tr A rs rs.length f h/\SfT A rs.length f h/\LoP A rs rs.length:=by
 refine⟨⟨?_,rfl,hf,hf8,H,hh,hn,hn1⟩,fun l j i hl hj i1 i2 i3=>Z.sf l j i (by exact abd hl) hj i1 i2 i3,fun i hi=>Z.lo (by exact Nat.succ_pos _) i hi⟩
 unfold Dim lvD
 apply List.ext_getElem
 ·rw[aab,aab,aaP];exact Z.len
 ·intro i h1 h2
  rw[aab]at h1
  have:=Z.row i (by rw[<- Z.len];exact h1)
  rw[aah,aae h1]at this
  simpa using this
structure Fi(d:D):Prop where
 fl:D.flat 9 2 d=true
 sh:D.shp 4 d=true
 sz:d.sz<=100000
theorem FV{α:Type}(g:α->D)(c:Nat):∀xs:List α,(∀x∈xs,(g x).sz<=c)->D.szs (xs.map g)<=xs.length*c
 |[],_=>aaw _
 |x::r,h=>by
  have h1:=h x aac
  have h2:=FV g c r fun y hy=>h y (aaa _ hy)
  rw[aaI,aaL,acT,adh]
  show(g x).sz+D.szs (r.map g)<=_
  omega
theorem Ux(xs:List Int):(Ab xs).sz<=xs.length+1:=by
 have:=FV D.int 1 xs fun _ _=>aai _
 show D.szs (xs.map D.int)+1<=_
 omega
theorem JL{tr:List (List Int)}{p f h:Nat}(hd:Dim tr p f h)(hf:1<=f)(hh:h<=8)(hp:p<=200):(Aa tr).sz<=1810:=by
 have h1:=FV Ab 201 tr fun r hr=>by
  obtain⟨i,hi,e⟩:=aa9 hr
  have hi':i<=h:=by rw[BE hd]at hi;exact aaZ hi
  obtain⟨h3,h4⟩:=A9 hd hi'
  rw[aae hi,e]at h4
  rw[<- Option.some.inj h4]at h3
  have h5:=Ck (p:=p) (f:=f) (l:=i) hf
  have h6:=Ux r
  omega
 rw[BE hd]at h1
 have h2:(h+1)*201<=9*201:=ab8 (by exact aaC hh (by decide)) (aai _)
 show D.szs (tr.map Ab)+1<=_
 omega
theorem L9(ms:List E4)(n:Nat):D.shp (n+2) (.lst (ms.map quD))=true:=by
 show(ms.map quD).all (D.shp (n+1))=true
 rw[aas]
 intro d hd
 obtain⟨x,_,rfl⟩:=aat.mp hd
 cases n<;>rfl
theorem Uy(ms:List E3)(n:Nat):D.shp (n+2) (.lst (ms.map trD))=true:=by
 show(ms.map trD).all (D.shp (n+1))=true
 rw[aas]
 intro d hd
 obtain⟨x,_,rfl⟩:=aat.mp hd
 cases n<;>rfl
theorem Jd(tr:List (List Int))(n:Nat):D.shp (n+2) (Aa tr)=true:=by
 show(tr.map Ab).all (D.shp (n+1))=true
 rw[aas]
 intro d hd
 obtain⟨x,_,rfl⟩:=aat.mp hd
 exact Ig x n
theorem R7(tr:List (List Int))(n:Nat):D.flat (n+4) 2 (Aa tr)=true:=by
 show(tr.map Ab).all (D.flat (n+3) 1)=true
 rw[aas]
 intro d hd
 obtain⟨x,_,rfl⟩:=aat.mp hd
 exact EC x (n+1) 0
theorem Ws(ms:List E4)(n k:Nat):D.flat (n+3) (k+1) (.lst (ms.map quD))=true:=by
 show(ms.map quD).all (D.flat (n+2) k)=true
 rw[aas]
 intro d hd
 obtain⟨x,_,rfl⟩:=aat.mp hd
 rfl
theorem Xn(ms:List E3)(n k:Nat):D.flat (n+3) (k+1) (.lst (ms.map trD))=true:=by
 show(ms.map trD).all (D.flat (n+2) k)=true
 rw[aas]
 intro d hd
 obtain⟨x,_,rfl⟩:=aat.mp hd
 rfl
theorem Nn(rs:List Int)(p f h:Nat)(q:Int):∀(n:Nat)(tr:List (List Int))(ms:List E4),(skF rs p f h q n tr ms).2.length<=ms.length+n
 |0,_,_=>aai _
 |n+1,tr,ms=>by
  unfold skF
  cases e:stp tr rs p f h q with
  |none=>exact acJ ..
  |some c=>
   obtain⟨l,j⟩:=c
   have:=Nn rs p f h q n (Ih tr rs p f l j) (ms++[md1 tr rs p f l j])
   rw[aaH]at this
   refine aao this ?_
   show ms.length+1+n<=_
   omega
theorem No(rs:List Int)(p f h:Nat)(q:Int):∀(n:Nat)(tr:List (List Int))(ms:List E4),Dim tr p f h->Dim (skF rs p f h q n tr ms).1 p f h
 |0,_,_,d=>d
 |n+1,tr,ms,d=>by
  unfold skF
  cases e:stp tr rs p f h q with
  |none=>exact d
  |some c=>
   obtain⟨l,j⟩:=c
   exact No rs p f h q n (Ih tr rs p f l j) (ms++[md1 tr rs p f l j]) (Ht d ..)
theorem Uz{tr:List (List Int)}{p f h:Nat}(hd:Dim tr p f h)(hf:1<=f)(hh:h<=8)(hp:p<=200):Fi (Aa tr):=⟨Fz tr,Jd tr 2,aao (JL hd hf hh hp) (by decide)⟩
theorem Wt{tr:List (List Int)}{p f h:Nat}(hd:Dim tr p f h)(hf:1<=f)(hh:h<=8)(hp:p<=200)(ms:List E4)(hm:ms.length<=2000):Fi (.tup [Aa tr,.lst (ms.map quD)]):=by
 have h1:=JL hd hf hh hp
 have h2:=FV quD 5 ms fun _ _=>aai _
 refine⟨?_,?_,?_⟩
 ·show([Aa tr,.lst (ms.map quD)]).all (D.flat 8 2)=true
  simp only[aaS,ab5,R7 tr 4,Ws ms 5 1,abB]
 ·show([Aa tr,.lst (ms.map quD)]).all (D.shp 3)=true
  simp only[aaS,ab5,Jd tr 1,L9 ms 1,abB]
 ·show(Aa tr).sz+((D.szs (ms.map quD)+1)+0)+1<=_
  omega
theorem Ry{tr:List (List Int)}{p f h:Nat}(hd:Dim tr p f h)(hf:1<=f)(hh:h<=8)(hp:p<=200)(ms:List E4)(hm:ms.length<=2000)(o:Option (Nat×Nat)):Fi (.tup [pgO o,Aa tr,.lst (ms.map quD)]):=by
 have h1:=JL hd hf hh hp
 have h2:=FV quD 5 ms fun _ _=>aai _
 have h3:(pgO o).sz=1:=by cases o<;>rfl
 have h4:D.flat 8 2 (pgO o)=true:=by cases o<;>rfl
 have h5:D.shp 3 (pgO o)=true:=by cases o<;>rfl
 refine⟨?_,?_,?_⟩
 ·show([pgO o,Aa tr,.lst (ms.map quD)]).all (D.flat 8 2)=true
  simp only[aaS,ab5,R7 tr 4,Ws ms 5 1,h4,abB]
 ·show([pgO o,Aa tr,.lst (ms.map quD)]).all (D.shp 3)=true
  simp only[aaS,ab5,Jd tr 1,L9 ms 1,h5,abB]
 ·show(pgO o).sz+((Aa tr).sz+((D.szs (ms.map quD)+1)+0))+1<=_
  omega
theorem UA(ms:List E3)(hm:ms.length<=2000):Fi (.lst (ms.map trD)):=by
 have h2:=FV trD 4 ms fun _ _=>aai _
 refine⟨Xn ms 6 1,Uy ms 2,?_⟩
 show D.szs (ms.map trD)+1<=_
 omega
theorem Xo(b:Bool):Fi (.bl b):=⟨rfl,rfl,show 1<=100000 by decide⟩
section
variable{T1 T2 f Z:D}{X:List D}{y0 y1 y2:Int}{k:Nat}(hmod:b2 .mod (.int y0) (.int (X.length:Nat))=.ok (.int k))
include hmod
theorem Xp(h:Ho.den [T1,f,.lst X,.int y1]=.ok Z):AJ.den [.int 0,T1,T2,f,.lst X,.lst [.int y0,.int y1,.int y2]]=.ok Z:=by
 have a0:=Gr (.int y0) (.int y1) (.int y2)
 have a1:=Jb (.int y0) (.int y1) (.int y2)
 refine(Dl _ rfl).trans (Ai ?_)
 simp_arith[BQ,hmod,a0,a1,h]
theorem Xq(h:Fw.den [T1,f]=.ok Z):AJ.den [.int 1,T1,T2,f,.lst X,.lst [.int y0,.int y1,.int y2]]=.ok Z:=by
 have a0:=Gr (.int y0) (.int y1) (.int y2)
 refine(Dl _ rfl).trans (Ai ?_)
 simp_arith[BQ,hmod,a0,h]
theorem Xr(h:EV.den [T1,f]=.ok Z):AJ.den [.int 2,T1,T2,f,.lst X,.lst [.int y0,.int y1,.int y2]]=.ok Z:=by
 have a0:=Gr (.int y0) (.int y1) (.int y2)
 refine(Dl _ rfl).trans (Ai ?_)
 simp_arith[BQ,hmod,a0,h]
theorem Xs(h:EW.den [T2,f,.int k,.int y1]=.ok Z)(hz:D.flat 9 1 Z=true):AJ.den [.int 3,T1,T2,f,.lst X,.lst [.int y0,.int y1,.int y2]]=.ok Z:=by
 have a0:=Gr (.int y0) (.int y1) (.int y2)
 have a1:=Jb (.int y0) (.int y1) (.int y2)
 refine(Dl _ rfl).trans (Ai ?_)
 simp_arith[BQ,hmod,a0,a1,h,hz]
theorem Xt{U:List D}{w:Int}(hw:w≠0/\w≠1/\w≠2/\w≠3)(h:Hq.den [.lst U,.lst [.tup [.int 0,.int k,.int y1],.tup [.int ((U.length:Nat)-1),.int 0,.int y2]]]=.ok Z):AJ.den [.int w,.lst U,T2,f,.lst X,.lst [.int y0,.int y1,.int y2]]=.ok Z:=by
 have a0:=Gr (.int y0) (.int y1) (.int y2)
 have a1:=Jb (.int y0) (.int y1) (.int y2)
 have a2:=at3 (.int y0) (.int y1) (.int y2)
 have e0:(w==0)=false:=beq_eq_false_iff_ne.mpr hw.1
 have e1:(w==1)=false:=beq_eq_false_iff_ne.mpr hw.2.1
 have e2:(w==2)=false:=beq_eq_false_iff_ne.mpr hw.2.2.1
 have e3:(w==3)=false:=beq_eq_false_iff_ne.mpr hw.2.2.2
 refine(Dl _ rfl).trans (Ai ?_)
 simp_arith[BQ,hmod,a0,a1,a2,e0,e1,e2,e3,h]
end
theorem Rz{tr:List (List Int)}{rs:List Int}{p f h:Nat}(R:Tr tr rs p f h)(S:Ro rs f h)(w:Int)(y0 y1 y2:Int)(h1:0<=y1)(h2:y1<13):∃d,Fi d/\AJ.den [.int w,Aa tr,Aa (Af rs f (h+1)),.int f,Ab rs,.lst [.int y0,.int y1,.int y2]]=.ok d:=by
 have hf1:1<=f:=by have:=R.hf;exact aap this
 obtain⟨k,hk,ek⟩:=M9 (y:=y0) (n:=rs.length) S.hn1
 have hsk:=Rx R y1
 have hmd:=Om R.hd R.hf R.hf8 R.H R.hh R.hp R.hp1
 have hsf:=Rr R.hd R.hf R.hf8 R.hh R.hp
 have hor:=Mp S hk h1 (show y1<=1000000000000000000 by exact ab2 (ada h2) (by decide))
 have hlen:tr.length=h+1:=BE R.hd
 have hg:([(0,(k:Int),y1),((h:Int),0,y2)]:List E3).all (Dx tr)=true:=by
  have r0:=(A9 R.hd (aaw h)).1
  have rh:=(A9 R.hd (aai h)).1
  rw[Ci]at r0
  have ch:=R.c0
  have hl:=R.hl
  simp only[aaS,ab5,Bool.and_true,aaf]
  refine⟨?_,?_⟩
  ·show(decide (0<=(0:Int)/\(0:Int)<(tr.length:Int))&&decide (0<=(k:Int)/\(k:Int)<((tr.getD (0:Int).toNat []).length:Int)))=true
   rw[aaf,decide_eq_true_eq,decide_eq_true_eq,Int.toNat_zero,r0]
   omega
  ·show(decide (0<=(h:Int)/\(h:Int)<(tr.length:Int))&&decide (0<=(0:Int)/\(0:Int)<((tr.getD (h:Int).toNat []).length:Int)))=true
   rw[aaf,decide_eq_true_eq,decide_eq_true_eq,aav,rh]
   omega
 have hdo:=Mn hg
 have fo:=L4 (L3 rs f k y1 h)
 have ol:=Uq S.hf hk y1 (h:=h)
 have hmod:b2 .mod (.int y0) (.int ((rs.map D.int).length:Nat))=.ok (.int k):=by
  rw[aab,<- ek]
  show(if _ then _ else _)=_
  rw[if_pos (by have:=S.hn1;exact aaW.mpr this)]
 have hl2:((tr.map Ab).length:Int)-1=(h:Int):=by rw[aab,hlen];omega
 have hw:(w=0\/w=1\/w=2\/w=3)\/(w≠0/\w≠1/\w≠2/\w≠3):=by omega
 rcases hw with (rfl|rfl|rfl|rfl)|hw
 ·exact⟨_,Ry (No rs p f h y1 2000 tr [] R.hd) hf1 R.hh R.hp (skM tr rs p f h y1) (aao (Nn rs p f h y1 2000 tr []) (by simp)) (lw (skT tr rs p f h y1) p f h y1),Xp hmod hsk⟩
 ·refine⟨_,Wt (LX R.hd R.hf R.hf8 R.H R.hh R.hp R.hp1).2.2 hf1 R.hh R.hp _ ?_,Xq hmod hmd⟩
  rw[aab]
  have h3:=JJ (tr:=tr) (wt:=Af (tr.getD 0 []) f (h+1)) (p:=p) hf1 (h+1)
  have h4:(h+1)*p<=9*200:=ab8 (by have:=R.hh;exact aaC this (by decide)) R.hp
  exact q9J h3 h4 (by decide)
 ·exact⟨_,Xo _,Xr hmod hsf⟩
 ·exact⟨_,UA _ (by have:=R.hh;omega),Xs hmod hor fo⟩
 ·refine⟨_,Uz (tr:=[(0,(k:Int),y1),((h:Int),0,y2)].foldl FH tr) (Ht (Ht R.hd ..) ..) hf1 R.hh R.hp,Xt hmod hw ?_⟩
  rw[hl2]
  exact hdo
abbrev CD(F:Fn):E:=.comp0 1 [] (.nm 0) (.seq (.nm 0)) (.call F (.cons (.nm 0) .nil))
abbrev BD(F:Fn):Ss:=.cons (.iff (.isi (.nm 0) .list) (.cons (.ret (CD F)) .nil) .nil) (.cons (.iff (.isi (.nm 0) .tuple) (.cons (.ret (.bi .tuple (.cons (CD F) .nil))) .nil) .nil) (.cons (.ret (.nmS 0)) .nil))
theorem R8{F:Fn}{n:Nat}(hF:∀d,D.shp n d=true->F.den [d]=.ok d){ds:List D}(hd:∀d∈ds,D.shp n d=true){x:D}(hx:Dr x=.ok ds):ev (CD F) [some x]=.ok (.lst ds):=by
 have h:=BG (nl:=1) (fr:=[]) (tg:=.nm 0) (it:=.seq (.nm 0)) (elt:=.call F (.cons (.nm 0) .nil)) (δ:=[some x]) (ds:=ds) (g:=fun d=>d) (show(Res.ok x).bind Dr=_ from hx) (fun d hm=>⟨[some d],rfl,hF d (hd d hm)⟩)
 rw[acK]at h
 exact h
theorem FB{F:Fn}{n:Nat}(hF:∀d,D.shp n d=true->F.den [d]=.ok d)(d:D)(h:D.shp (n+1) d=true):run 1 (BD F) [d]=.ok d:=by
 refine Ai ?_
 show exs (BD F) [some d]=_
 unfold BD
 generalize hC:CD F=C
 cases d with
 |lst ds=>
  have h1:=R8 hF (aas.mp (show ds.all (D.shp n)=true from h)) (x:=.lst ds) rfl
  rw[hC]at h1
  simp_arith[h1]
 |tup ds=>
  have h1:=R8 hF (aas.mp (show ds.all (D.shp n)=true from h)) (x:=.tup ds) rfl
  rw[hC]at h1
  simp_arith[h1]
 |non=>rfl
 |bl b=>rfl
 |int i=>rfl
 |str x=>rfl
 |exn c=>cases h
 |dic ks ds=>cases h
 |dit ks ds=>cases h
theorem Xu(d:D)(h:D.shp 0 d=true):BR.den [d]=.ok d:=by
 refine(GR _ rfl).trans (Ai ?_)
 show exs (BD CJ) [some d]=_
 cases d with
 |non=>rfl
 |bl b=>rfl
 |int i=>rfl
 |str x=>rfl
 |_=>cases h
theorem Xv(d:D)(h:D.shp 1 d=true):BS.den [d]=.ok d:=(GS _ rfl).trans (FB Xu d h)
theorem Xw(d:D)(h:D.shp 2 d=true):BT.den [d]=.ok d:=(GT _ rfl).trans (FB Xv d h)
theorem Xx(d:D)(h:D.shp 3 d=true):BU.den [d]=.ok d:=(GU _ rfl).trans (FB Xw d h)
theorem Xy(d:D)(h:D.shp 4 d=true):AT.den [d]=.ok d:=(IV _ rfl).trans (FB Xx d h)
theorem Ij:∀(n m k:Nat)(d:D),D.shp n d=true->n<m->D.flat m k d=true->D.flat m k d.spo=true
 |_,0,_,_,_,hm,_=>absurd hm (abz _)
 |0,m+1,k,d,hs,_,h=>by
  cases d with
  |tup ds=>cases hs
  |lst ds=>cases hs
  |_=>exact h
 |n+1,m+1,k,d,hs,hm,h=>by
  have hm:n<m:=Nat.lt_of_succ_lt_succ hm
  cases d with
  |tup ds=>
   have h:ds.all (D.flat m k)=true:=h
   have hs:ds.all (D.shp n)=true:=hs
   show(D.spos ds).all (D.flat m k)=true
   rw[D.spos_map,aas]
   intro x hx
   obtain⟨y,hy,rfl⟩:=aat.mp hx
   exact Ij n m k y (aas.mp hs y hy) hm (aas.mp h y hy)
  |lst ds=>
   cases k with
   |zero=>cases h
   |succ k=>
    have h:ds.all (D.flat m k)=true:=h
    have hs:ds.all (D.shp n)=true:=hs
    show(D.spos ds++[D.int 99]).all (D.flat m k)=true
    rw[D.spos_map,aas]
    intro x hx
    rcases aag.mp hx with hx|hx
    ·obtain⟨y,hy,rfl⟩:=aat.mp hx
     exact Ij n m k y (aas.mp hs y hy) hm (aas.mp h y hy)
    ·cases aaE.mp hx
     cases m with
     |zero=>exact absurd hm (abz _)
     |succ m=>rfl
  |_=>exact h
theorem R9{d:D}(h:D.shp 4 d=true):D.shp 7 d=true/\D.shp 8 d=true:=by
 have h5:=B5 4 d h
 have h6:=B5 5 d h5
 have h7:=B5 6 d h6
 exact⟨h7,B5 7 d h7⟩
theorem Xz{d:D}(F:Fi d):AZ.den [d]=.ok d.spo/\D.flat 9 2 d.spo=true:=by
 refine⟨if_pos ⟨F.fl,(R9 F.sh).1,aao F.sz (by decide)⟩,Ij 4 9 2 d F.sh (by decide) F.fl⟩
theorem XA{d e:D}(h1:AZ.den [d]=.ok e)(h2:D.flat 9 2 e=true)(o0 o1 o2 o3 o4 o5 o6 o7 o8 o9 o10 o12:Option D):ex (.put AZ 11 []) [o0,o1,o2,o3,o4,o5,o6,o7,o8,o9,o10,some d,o12]=.nxt [o0,o1,o2,o3,o4,o5,o6,o7,o8,o9,o10,some e,o12]:=by
 show(match AZ.den [d] with
  |.ok d=>if D.flat 9 2 d=true then Out.nxt ([o0,o1,o2,o3,o4,o5,o6,o7,o8,o9,o10,_,o12].set 11 (some d)) else .bad
  |_=>.bad)=_
 rw[h1]
 show(if D.flat 9 2 e=true then _ else _)=_
 rw[if_pos h2];rfl
theorem Gs(tr:List (List Int))(i:Nat)(δ:Fr)(h:get δ i=.ok (Aa tr)):ev (.comp0 1 [] (.nm 0) (.seqL (.nm i)) (.bi .list (.cons (.nm 0) .nil))) δ=.ok (Aa tr):=by
 have h2:=BG (nl:=1) (fr:=[]) (tg:=.nm 0) (it:=.seqL (.nm i)) (elt:=.bi .list (.cons (.nm 0) .nil)) (δ:=δ) (ds:=tr.map Ab) (g:=fun d=>d) (show(get δ i).bind CC=_ by rw[h];rfl) (fun d hd=>by
  obtain⟨x,_,rfl⟩:=aat.mp hd
  exact⟨[some (Ab x)],rfl,rfl⟩)
 rw[acK]at h2
 exact h2
@[reducible]noncomputable def Z68(N X F A T2 G W k S:D)(o9 o10 o11 o12:Option D):Fr:=[some N,some X,some F,some A,some T2,some G,some W,some k,some S,o9,o10,o11,o12]
abbrev S1a:S:=.set 5 [(true,(.cI 0)),(false,(.cI 0))] (.cI 0) (.bin .add (.ixL (.ixL (.ixT (.nm 5) (.cI 0)) (.cI 0)) (.cI 0)) (.cI 1))
abbrev S1b:S:=.mut 5 [(true,(.cI 2))] .append (.cons (.cI 3) .nil)
abbrev S1c:S:=.mut 5 [(true,(.cI 2))] .pop .nil
abbrev S1d:S:=.set 5 [(true,(.cI 0)),(false,(.cI 0))] (.cI 0) (.ix (.ixL (.nm 3) (.cI 0)) (.cI 0))
section
variable{N X F T2 W k S G G':D}{GG AA RR:List D}{a:Int}(o9 o10 o11 o12:Option D)
theorem s1a(g0:atD GG 0=.ok (.lst AA))(hA:atD AA 0=.ok (.lst RR))(hR:atD RR 0=.ok (.int a))(u1:Ax (A6 0 (.int (a+1))) [(true,0),(false,0)] (.tup GG)=some G')(A:D):ex S1a (Z68 N X F A T2 (.tup GG) W k S o9 o10 o11 o12)=.nxt (Z68 N X F A T2 G' W k S o9 o10 o11 o12):=by
 have he:ev (.bin .add (.ixL (.ixL (.ixT (.nm 5) (.cI 0)) (.cI 0)) (.cI 0)) (.cI 1)) (Z68 N X F A T2 (.tup GG) W k S o9 o10 o11 o12)=.ok (.int (a+1)):=by
  simp_arith[g0,hA,hR]
 show(ev _ _).out _ _=_
 rw[he]
 show(match Ax (A6 0 (.int (a+1))) [(true,0),(false,0)] (.tup GG) with
  |some d'=>Out.nxt (Z68 N X F A T2 d' W k S o9 o10 o11 o12)
  |none=>.bad)=_
 rw[u1]
theorem s1d(hA:atD AA 0=.ok (.lst RR))(hR:atD RR 0=.ok (.int a))(u1:Ax (A6 0 (.int a)) [(true,0),(false,0)] G=some G'):ex S1d (Z68 N X F (.lst AA) T2 G W k S o9 o10 o11 o12)=.nxt (Z68 N X F (.lst AA) T2 G' W k S o9 o10 o11 o12):=by
 have he:ev (.ix (.ixL (.nm 3) (.cI 0)) (.cI 0)) (Z68 N X F (.lst AA) T2 G W k S o9 o10 o11 o12)=.ok (.int a):=by
  simp_arith[hA,hR]
 show(ev _ _).out _ _=_
 rw[he]
 show(match Ax (A6 0 (.int a)) [(true,0),(false,0)] G with
  |some d'=>Out.nxt (Z68 N X F (.lst AA) T2 d' W k S o9 o10 o11 o12)
  |none=>.bad)=_
 rw[u1]
theorem s1b(u1:Ax (umD .append [.int 3]) [(true,2)] G=some G')(A:D):ex S1b (Z68 N X F A T2 G W k S o9 o10 o11 o12)=.nxt (Z68 N X F A T2 G' W k S o9 o10 o11 o12):=by
 show(match Ax (umD .append [.int 3]) [(true,2)] G with
  |some d'=>Out.nxt (Z68 N X F A T2 d' W k S o9 o10 o11 o12)
  |none=>.bad)=_
 rw[u1]
theorem s1c(u1:Ax (umD .pop []) [(true,2)] G=some G')(A:D):ex S1c (Z68 N X F A T2 G W k S o9 o10 o11 o12)=.nxt (Z68 N X F A T2 G' W k S o9 o10 o11 o12):=by
 show(match Ax (umD .pop []) [(true,2)] G with
  |some d'=>Out.nxt (Z68 N X F A T2 d' W k S o9 o10 o11 o12)
  |none=>.bad)=_
 rw[u1]
end
theorem Wu{N F T2 G1 G2 S w d e:D}{X GG AA RR WW:List D}{k a:Int}
  (hrow:AI.den [N,.int (4+k),.lst [.int 40,.int 13,.int 13]]=.ok S) (hw:atD WW k=.ok w)
  (hdo:AJ.den [w,.lst AA,T2,F,.lst X,S]=.ok d) (hdp:AT.den [d]=.ok d) (hfl:D.flat 9 2 d=true) (hne:c2 .ne d d=.ok (.bl false))
  (hX:D.flat 9 1 (.lst X)=true) (g0:atD GG 0=.ok (.lst AA)) (g1:atD GG 1=.ok T2) (g2:atD GG 2=.ok (.lst X)) (hG:c2 .ne (.tup GG) (.tup [.lst AA,T2,.lst X])=.ok (.bl false))
  (hA:atD AA 0=.ok (.lst RR)) (hR:atD RR 0=.ok (.int a))
  (u1:Ax (A6 0 (.int (a+1))) [(true,0),(false,0)] (.tup GG)=some G1) (u2:Ax (umD .append [.int 3]) [(true,2)] G1=some G2) (u3:Ax (umD .pop []) [(true,2)] G2=some G1) (u4:Ax (A6 0 (.int a)) [(true,0),(false,0)] G1=some (.tup GG))
  (c3:∀δ:Fr,get δ 3=.ok (.lst AA)->ev (.comp0 1 [] (.nm 0) (.seqL (.nm 3)) (.bi .list (.cons (.nm 0) .nil))) δ=.ok (.lst AA)) (c4:∀δ:Fr,get δ 4=.ok T2->ev (.comp0 1 [] (.nm 0) (.seqL (.nm 4)) (.bi .list (.cons (.nm 0) .nil))) δ=.ok T2)
  (sp:AZ.den [d]=.ok e) (sf:D.flat 9 2 e=true) (o8 o9 o10 o11 o12:Option D):∃p9,exs CK [some N,some (.lst X),some F,some (.lst AA),some T2,some (.tup GG),some (.lst WW),some (.int k),o8,o9,o10,o11,o12]=.nxt [some N,some (.lst X),some F,some (.lst AA),some T2,some (.tup GG),some (.lst WW),some (.int k),some S,p9,some d,some e,some d]:=by
 have q3:=c3 [some N,some (.lst X),some F,some (.lst AA),some T2,some (.tup GG),some (.lst WW),some (.int k),some S,o9,o10,o11,o12] rfl
 have q4:=c4 [some N,some (.lst X),some F,some (.lst AA),some T2,some (.tup GG),some (.lst WW),some (.int k),some S,o9,o10,o11,o12] rfl
 have pt:=XA sp sf
 have v1:=s1a (N:=N) (X:=.lst X) (F:=F) (T2:=T2) (W:=.lst WW) (k:=.int k) (S:=S) (some (.tup [.lst AA,T2])) (some d) (some d) (some d) g0 hA hR u1 (.lst AA)
 have v2:=s1b (N:=N) (X:=.lst X) (F:=F) (T2:=T2) (W:=.lst WW) (k:=.int k) (S:=S) (some (.tup [.lst AA,T2])) (some d) (some d) (some d) u2 (.lst AA)
 have v3:=s1c (N:=N) (X:=.lst X) (F:=F) (T2:=T2) (W:=.lst WW) (k:=.int k) (S:=S) (some (.tup [.lst AA,T2])) (some d) (some d) (some d) u3 (.lst AA)
 have v4:=s1d (N:=N) (X:=.lst X) (F:=F) (T2:=T2) (W:=.lst WW) (k:=.int k) (S:=S) (some (.tup [.lst AA,T2])) (some d) (some d) (some d) hA hR u4
 have p1:AJ.dep=2:=Mk
 have p2:AT.dep=2:=IW
 have m0:atD [.lst AA,T2] 0=.ok (.lst AA):=rfl
 have m1:atD [.lst AA,T2] 1=.ok T2:=rfl
 refine⟨some (.tup [.lst AA,T2]),?_⟩
 clear c3 c4 sp u1 u2 u3 u4
 unfold Z68 S1a at v1
 unfold Z68 S1b at v2
 unfold Z68 S1c at v3
 unfold Z68 S1d at v4
 rw[CK]
 generalize E.comp0 1 [] (.nm 0) (.seqL (.nm 3)) (.bi .list (.cons (.nm 0) .nil))=C3 at *
 generalize E.comp0 1 [] (.nm 0) (.seqL (.nm 4)) (.bi .list (.cons (.nm 0) .nil))=C4 at *
 generalize Pu.S.put AZ 11 []=P at *
 generalize Pu.S.set 5 [(true,(.cI 0)),(false,(.cI 0))] (.cI 0) (.bin .add (.ixL (.ixL (.ixT (.nm 5) (.cI 0)) (.cI 0)) (.cI 0)) (.cI 1))=P1 at *
 generalize Pu.S.mut 5 [(true,(.cI 2))] .append (.cons (.cI 3) .nil)=P2 at *
 generalize Pu.S.mut 5 [(true,(.cI 2))] .pop .nil=P3 at *
 generalize Pu.S.set 5 [(true,(.cI 0)),(false,(.cI 0))] (.cI 0) (.ix (.ixL (.nm 3) (.cI 0)) (.cI 0))=P4 at *
 simp_arith[hrow,q3,q4,hw,m0,m1,hdo,p1,hfl,hdp,p2,g0,g1,g2,hX,hne,hG,v1,v2,v3,v4,pt]
theorem ix0(n:Nat):ixN (n+1) 0=some 0:=by
 unfold ixN
 rw[if_pos (by decide),if_pos (by omega)];rfl
theorem Wv(x:D)(xs:List D):atD (x::xs) 0=.ok x:=by
 unfold atD
 rw[aaL,ix0];rfl
theorem Sa(x v:D)(as r:List D)(T2 X:D):Ax (A6 0 v) [(true,0),(false,0)] (.tup [.lst (.lst (x::as)::r),T2,X])=some (.tup [.lst (.lst (v::as)::r),T2,X]):=by
 have h1:Ax (A6 0 v) [] (.lst (x::as))=some (.lst (v::as)):=by
  show(A6 0 v (x::as)).map D.lst=_
  unfold A6
  rw[aaL,ix0];rfl
 have h2:Ax (A6 0 v) [(false,0)] (.lst (.lst (x::as)::r))=some (.lst (.lst (v::as)::r)):=by
  show(ixN (D.lst (x::as)::r).length 0).bind (fun j=>((D.lst (x::as)::r)[j]?).bind fun d=>(Ax (A6 0 v) [] d).map fun d'=>D.lst ((D.lst (x::as)::r).set j d'))=_
  rw[aaL,ix0]
  show(Ax (A6 0 v) [] (.lst (x::as))).map _=_
  rw[h1];rfl
 show(Ax (A6 0 v) [(false,0)] (.lst (.lst (x::as)::r))).map _=_
 rw[h2];rfl
theorem XB(A T2:D)(X:List D)(h:X.length<16777216):Ax (umD .append [.int 3]) [(true,2)] (.tup [A,T2,.lst X])=some (.tup [A,T2,.lst (X++[.int 3])]):=by
 show((umD .append [.int 3] X).map D.lst).map _=_
 rw[Bx X _ h];rfl
theorem XC(A T2:D)(X:List D):Ax (umD .pop []) [(true,2)] (.tup [A,T2,.lst (X++[.int 3])])=some (.tup [A,T2,.lst X]):=by
 show((umD .pop [] (X++[.int 3])).map D.lst).map _=_
 have:umD .pop [] (X++[.int 3])=some X:=by
  show(if X++[D.int 3]=[] then none else some (X++[D.int 3]).dropLast)=_
  rw[if_neg (by simp),List.dropLast_concat]
 rw[this];rfl
theorem Sb(tr wt:List (List Int))(rs:List Int):D.shp 8 (.tup [Aa tr,Aa wt,Ab rs])=true:=by
 show [Aa tr,Aa wt,Ab rs].all (D.shp 7)=true
 simp only[aaS,ab5,Jd tr 5,Jd wt 5,Ig rs 6,abB]
theorem XD(ns:List Int){tr:List (List Int)}{rs:List Int}{p f h:Nat}(R:Tr tr rs p f h)(S:Ro rs f h){ws:List Int}(hws:ws.length=8)(i:Nat)(hi:i<8)(o8 o9 o10 o11 o12:Option D):∃p8 p9 p10 p11 p12,exs CK [some (.lst (ns.map .int)),some (Ab rs),some (.int f),some (Aa tr),some (Aa (Af rs f (h+1))),some (.tup [Aa tr,Aa (Af rs f (h+1)),Ab rs]),some (Ab ws),some (.int i),o8,o9,o10,o11,o12]=.nxt [some (.lst (ns.map .int)),some (Ab rs),some (.int f),some (Aa tr),some (Aa (Af rs f (h+1))),some (.tup [Aa tr,Aa (Af rs f (h+1)),Ab rs]),some (Ab ws),some (.int i),p8,p9,p10,p11,p12]:=by
 obtain⟨ys,hrow,hyl,hyb⟩:=Fa ns (4+(i:Int)) (by exact aaA _) [40,13,13] (by decide) (by decide)
 match ys,hyl with
 |[y0,y1,y2],_=>
 have B1:=hyb 1 y1 _ rfl rfl
 obtain⟨w,_,hw⟩:=Ic (ns:=ws) (i:=(i:Int)) (by exact aaA _) (by omega)
 obtain⟨d,F,hdo⟩:=Rz R S w y0 y1 y2 B1.1 B1.2
 obtain⟨sp,sf⟩:=Xz F
 have hdp:=Xy d F.sh
 have hne:=IZ d (R9 F.sh).2
 have hG:=IZ _ (Sb tr (Af rs f (h+1)) rs)
 have hlen:=BE R.hd
 have hr0:=(A9 R.hd (aaw h)).1
 rw[Ci]at hr0
 have hp1:=R.hp1
 have hX:rs.length<16777216:=by have:=R.hl;have:=R.hp;omega
 have c3:=fun δ hδ=>Gs tr 3 δ hδ
 have c4:=fun δ hδ=>Gs (Af rs f (h+1)) 4 δ hδ
 match tr,hlen,hr0 with
 | (a::as)::r,_,_=>
  obtain⟨p9,e⟩:=Wu (N:=.lst (ns.map .int)) (F:=.int f) (T2:=Aa (Af rs f (h+1))) (GG:=[Aa ((a::as)::r),Aa (Af rs f (h+1)),Ab rs]) (AA:=((a::as)::r).map Ab) (RR:=(a::as).map .int) (X:=rs.map .int) (WW:=ws.map .int) (a:=a) hrow hw hdo hdp F.fl hne (EC rs 7 0) rfl rfl rfl hG (Wv ..) (Wv ..) (Sa ..) (XB _ _ _ (by rw[aab];exact hX)) (XC ..) (Sa ..) c3 c4 sp sf o8 o9 o10 o11 o12
  exact⟨_,_,_,_,_,e⟩
 |[]::r,_,z=>simp at z;omega
theorem UB:∀ns:List Int,ns.length<=63->Gj.den [.lst (ns.map .int)]=.ok (.bl true):=by
 intro ns hns
 obtain⟨r0,hrl,hrb,hrooms⟩:=PY ns 0 (by decide) 39 (by decide)
 obtain⟨zs,hz,hzl,hzb⟩:=Fa ns 9 (by decide) [9] (by decide) (by decide)
 match zs,hzl with
 |[z],_=>
 have Bz:=hzb 0 z _ rfl rfl
 have hrooms:Cg.den [.lst (ns.map .int),.int 0,.int 39]=.ok (.lst (r0.map .int)):=hrooms
 have hz:AI.den [.lst (ns.map .int),.int 9,.lst [.int 9]]=.ok (.lst [.int z]):=hz
 obtain⟨f,hf,hf8,hfan⟩:=Ud ns 1 (by decide)
 obtain⟨ys,hrow,hyl,hyb⟩:=Fa ns 2 (by decide) (aam 13 40) (by decide) (by decide)
 have hyl:ys.length=13:=hyl
 have hyb:∀y∈ys,0<=y:=fun y hy=>by
  obtain⟨i,hi,e⟩:=aa9 hy
  exact(hyb i y 40 (by rw[aae hi,e]) (by
   rw[aa8,if_pos (by exact hyl▸hi)])).1
 obtain⟨ws,hways,hwl,_⟩:=Fa ns 3 (by decide) (aam 8 5) (by decide) (by decide)
 have hwl:ws.length=8:=hwl
 obtain⟨rs,ers⟩:∃rs,rs=r0++[z]:=⟨_,rfl⟩
 have hlen:rs.length=r0.length+1:=by rw[ers,aaH];rfl
 have hadd:b2 .add (.lst (r0.map D.int)) (.lst [.int z])=.ok (.lst (rs.map .int)):=by
  show(if _ then _ else _)=_
  rw[if_pos (by rw[aab];show r0.length+1<=16777216;exact aaC hrl (by decide)),ers,aaq];rfl
 have hb:∀r∈rs,0<=r/\r<=1000000000000000000:=fun r hr=>by
  rw[ers]at hr
  rcases aag.mp hr with hr|hr
  ·exact hrb r hr
  ·rw[aaE.mp hr];omega
 have h200:rs.length<=200:=by omega
 obtain⟨h,hh,H⟩:=hs8 hf (show 1<=rs.length by exact aao (abj ..) (aa5 hlen.symm)) h200
 obtain⟨tr,Z,htr⟩:=Qa hf hf8 H hh h200 hb (by exact aao (abj ..) (aa5 hlen.symm)) hyl hyb
 obtain⟨R,_,_⟩:=Xm hf hf8 H hh h200 (by exact aao (abj ..) (aa5 hlen.symm)) Z
 have S:Ro rs f h:=⟨hf,hf8,H,hh,h200,by exact aao (abj ..) (aa5 hlen.symm)⟩
 have hwt:=LP hf hf8 H hh h200 (by exact aao (abj ..) (aa5 hlen.symm))
 have hr8:=Cq (a:=0) (b:=8) (by exact by decide) (by exact by decide) (by exact by decide) (by exact by decide)
 have c3:=fun δ hδ=>Gs tr 3 δ hδ
 have c4:=fun δ hδ=>Gs (Af rs f (h+1)) 4 δ hδ
 have hX:D.flat 9 1 (Ab rs)=true:=EC rs 7 0
 have p1:BF.dep=2:=Ib
 have p2:Br.dep=2:=IU
 have f1:=Fz tr
 have f2:=Fz (Af rs f (h+1))
 have heq:=Oj _ (Sb tr (Af rs f (h+1)) rs)
 obtain⟨δ',e2,q8,q9,q10,q11,q12,q7,rfl⟩:=Bo (tg:=.nm 7) (b:=exs CK) (fun _ δ=>∃(q8 q9 q10 q11 q12 q7:Option D),δ=[some (.lst (ns.map .int)),some (Ab rs),some (.int f),some (Aa tr),some (Aa (Af rs f (h+1))),some (.tup [Aa tr,Aa (Af rs f (h+1)),Ab rs]),some (Ab ws),q7,q8,q9,q10,q11,q12]) (ds:=Aw 0 8) (δ:=[some (.lst (ns.map .int)),some (Ab rs),some (.int f),some (Aa tr),some (Aa (Af rs f (h+1))),some (.tup [Aa tr,Aa (Af rs f (h+1)),Ab rs]),some (Ab ws),none,none,none,none,none,none]) 0 ⟨none,none,none,none,none,none,rfl⟩ (by
  rintro i d δ hd ⟨q8,q9,q10,q11,q12,q7,rfl⟩
  obtain⟨rfl,hi⟩:=BV hd
  rw[abK]
  obtain⟨p8,p9,p10,p11,p12,e⟩:=XD ns R S hwl i (by exact aaW.mp hi) q8 q9 q10 q11 q12
  exact⟨_,_,rfl,e,p8,p9,p10,p11,p12,some (.int i),rfl⟩)
 have hmul:b2 .mul (.lst [.int 40]) (.int 13)=.ok (.lst ((aam 13 (40:Int)).map .int)):=rfl
 have hmul2:b2 .mul (.lst [.int 5]) (.int 8)=.ok (.lst ((aam 8 (5:Int)).map .int)):=rfl
 have az:atD [.int z] 0=.ok (.int z):=rfl
 have q3:=c3 [some (.lst (ns.map .int)),some (Ab rs),some (.int f),some (Aa tr),some (Aa (Af rs f (h+1))),none,none,none,none,none,none,none,none] rfl
 have q4:=c4 [some (.lst (ns.map .int)),some (Ab rs),some (.int f),some (Aa tr),some (Aa (Af rs f (h+1))),none,none,none,none,none,none,none,none] rfl
 refine(Og _ rfl).trans (Ai ?_)
 show exs EA [some (.lst (ns.map .int)),none,none,none,none,none,none,none,none,none,none,none,none]=_
 clear hrb hyb hb c3 c4 hzb Z R S
 rw[EA]
 unfold Ab at *
 generalize E.comp0 1 [] (.nm 0) (.seqL (.nm 3)) (.bi .list (.cons (.nm 0) .nil))=C3 at *
 generalize E.comp0 1 [] (.nm 0) (.seqL (.nm 4)) (.bi .list (.cons (.nm 0) .nil))=C4 at *
 generalize (aam 13 (40:Int)).map D.int=SS at *
 generalize (aam 8 (5:Int)).map D.int=SW at *
 generalize Aa tr=T1 at *
 generalize Aa (Af rs f (h+1))=T2 at *
 generalize rs.map D.int=X at *
 generalize r0.map D.int=X0 at *
 generalize ys.map D.int=Y at *
 generalize ws.map D.int=WW at *
 generalize ns.map D.int=N at *
 simp_arith[hrooms,hz,az,hadd,hfan,hmul,hrow,htr,p1,f1,hwt,p2,f2,q3,q4,hX,hmul2,hways,hr8,e2,heq]
end Pu
end
namespace Pu
open PySem PySem.Spec PyProof.Rows PySem.W L2
abbrev top(i:Nat):Stmt:=PySem.Challenge.pw_ullage_k68_again_and_shared.main.body.getD i (.Pass ⟨0,0,0,0⟩)
theorem Mq:dfB ["thing"] ["thing"] (top 7) IO 9=true:=by decide +kernel
theorem Kj:dfB ["thing", "least", "most"] ["thing", "least", "most"] (top 8) DP 9=true:=by decide +kernel
theorem Qb:dfB ["shape", "fan", "counts", "many"] ["shape"] (top 10) Gc 1=true:=by decide +kernel
theorem G0:dfB ["counts", "thing"] ["counts", "thing"] (top 12) A8 9=true:=by decide +kernel
theorem Oo:dfB ["shape", "thing"] ["shape", "thing"] (top 11) Fq 9=true:=by decide +kernel
theorem Kk:dfB ["shape", "thing"] ["shape", "thing"] (top 13) DQ 9=true:=by decide +kernel
theorem Mr:dfB ["shape", "node", "beneath", "begin", "end"] ["shape", "node"] (top 14) DR 1=true:=by decide +kernel
theorem Ww:dfB ["shape", "counts"] ["shape"] (top 15) Kq 1=true:=by decide +kernel
theorem Op:dfB ["thing"] ["thing"] (top 17) Fs 9=true:=by decide +kernel
theorem JM:dfB ["level", "fan"] ["level", "fan"] (top 19) Ds 9=true:=by decide +kernel
theorem RA:dfB ["rooms", "fan", "tree", "level"] ["rooms", "fan"] (top 18) Hm 2=true:=by decide +kernel
theorem Qc:dfB ["tree"] ["tree"] (top 20) Ea 2=true:=by decide +kernel
theorem Ma:dfB ["tree"] ["tree"] (top 21) Dj 9=true:=by decide +kernel
theorem Mt:dfB ["tree"] ["tree"] (top 22) ET 1=true:=by decide +kernel
theorem Mv:dfB ["tree", "fan"] ["tree", "fan"] (top 23) EU 0=true:=by decide +kernel
theorem Mw:dfB ["tree", "thing"] ["tree", "thing"] (top 24) DT 9=true:=by decide +kernel
theorem Hy:dfB ["tree", "thing"] ["tree", "thing"] (top 25) Be 9=true:=by decide +kernel
theorem RB:dfB ["tree", "node"] ["tree", "node"] (top 26) Hn 0=true:=by decide +kernel
theorem Mb:dfB ["tree", "nodes"] ["tree", "nodes"] (top 27) El 1=true:=by decide +kernel
theorem Oq:dfB ["tree", "fan", "rooms", "node"] ["tree", "fan", "rooms", "node"] (top 31) Ex 0=true:=by decide +kernel
theorem Ik:dfB ["tree", "fan", "need", "shape", "lowest", "nodes", "fitting"] ["tree", "fan", "need"] (top 30) BO 0=true:=by decide +kernel
theorem UC:dfB ["tree", "fan", "rooms", "need", "after", "mends", "node", "now"] ["tree", "fan", "rooms", "need"] (top 29) GQ 2=true:=by decide +kernel
theorem Kl:dfB ["shape", "page"] ["shape", "page"] (top 33) DU 9=true:=by decide +kernel
theorem JN:dfB ["one", "other"] ["one", "other"] (top 36) Dt 9=true:=by decide +kernel
theorem Qd:dfB ["one", "other", "nodes", "level", "numbers"] ["one", "other"] (top 37) Gg 1=true:=by decide +kernel
theorem Os:dfB ["tree", "fan", "page", "room", "rooms", "after"] ["tree", "fan", "page", "room"] (top 35) Fv 1=true:=by decide +kernel
theorem UD:dfB ["tree", "writes", "after", "write"] ["tree", "writes"] (top 39) IR 2=true:=by decide +kernel
theorem Ot:dfB ["tree", "fan", "level", "place", "least"] ["tree", "fan"] (top 40) Ey 9=true:=by decide +kernel
theorem Ou:dfB ["tree", "fan", "page", "room", "writes"] ["tree", "fan", "page", "room"] (top 41) Ez 1=true:=by decide +kernel
theorem Qe:dfB ["tree", "fan", "after", "mends"] ["tree", "fan"] (top 42) Gi 2=true:=by decide +kernel
theorem Mx:dfB ["_law_script", "_law_place", "_law_seed", "_law_cell_here"] ["_law_script", "_law_place"] (top 44) DV 0=true:=by decide +kernel
theorem JO:dfB ["_law_cell_here", "_law_k", "_law_one", "_law_two"] ["_law_cell_here", "_law_k"] (top 45) Du 1=true:=by decide +kernel
theorem JP:dfB ["_law_script", "_law_place", "_law_sizes", "_law_cell_here", "_law_left", "_law_some", "_law_k", "_law_other"] ["_law_script", "_law_place", "_law_sizes"] (top 46) Dv 2=true:=by decide +kernel
theorem Il:dfB ["_law_script", "_law_place", "_law_most", "_law_some", "_law_scale", "_law_rooms_here", "_law_k", "_law_here"] ["_law_script", "_law_place", "_law_most"] (top 47) Cr 2=true:=by decide +kernel
theorem JQ:dfB ["_law_script", "_law_place"] ["_law_script", "_law_place"] (top 48) Dw 1=true:=by decide +kernel
theorem Hz:dfB ["_law_pages", "_law_fan_here", "_law_found"] ["_law_pages", "_law_fan_here"] (top 49) Ch 1=true:=by decide +kernel
theorem Im:dfB ["_law_pages", "_law_fan_here", "_law_level", "_law_place", "_law_wide", "_law_k"] ["_law_pages", "_law_fan_here", "_law_level", "_law_place"] (top 50) Cu 1=true:=by decide +kernel
theorem Je:dfB ["_law_rooms_here", "_law_fan_here", "_law_tree_here", "_law_counts_here", "_law_level", "_law_row_here", "_law_place", "_law_begin", "_law_end"] ["_law_rooms_here", "_law_fan_here"] (top 51) CZ 2=true:=by decide +kernel
theorem Io:dfB ["_law_rooms_here", "_law_fan_here", "_law_some", "_law_pages", "_law_tree_here", "_law_counts_here", "_law_level", "_law_row_here", "_law_place", "_law_here", "_law_low", "_law_by"] ["_law_rooms_here", "_law_fan_here", "_law_some"] (top 53) Cv 2=true:=by decide +kernel
theorem My:dfB ["_law_way", "_law_tree_here", "_law_whole_here", "_law_fan_here", "_law_rooms_here", "_law_some", "_law_page"] ["_law_way", "_law_tree_here", "_law_whole_here", "_law_fan_here", "_law_rooms_here", "_law_some"] (top 54) BQ 2=true:=by decide +kernel
theorem Ip:RY (top 55):=⟨rfl,_,_,_,_,_,_,_,_,_,_,_,_,_,_,_,_,_,_,_,_,_,_,_,_,_,_,_,_,_,_,_,_,_,_,_,_,_,_,_,_,_,_,_,_,rfl,rfl,rfl,rfl⟩
theorem G3:dfB ["_law_found"] ["_law_found"] (top 56) C9 2=true:=by decide +kernel
theorem G4:dfB ["_law_found"] ["_law_found"] (top 56) Da 2=true:=by decide +kernel
theorem G5:dfB ["_law_found"] ["_law_found"] (top 56) Db 2=true:=by decide +kernel
theorem G6:dfB ["_law_found"] ["_law_found"] (top 56) Dc 2=true:=by decide +kernel
theorem Jf:dfB ["_law_found"] ["_law_found"] (top 56) Ed 2=true:=by decide +kernel
theorem Ov:dfB ["_law_script", "_law_rooms_here", "_law_fan_here", "_law_tree_here", "_law_whole_here", "_law_handed", "_law_ways", "_law_k", "_law_some", "_law_mine", "_law_due", "_law_found", "_law_kept"] ["_law_script"] (top 57) EA 9=true:=by decide +kernel
set_option maxHeartbeats 0 in
theorem Wx{l:PySem.W.OpenLaw}{w:World}{K:PySem.W.Frag}{h:Heap}{mg:Str->Option Value}{fa:Addr}{C2 C3 C6 C7:Addr}(X:K.In h)(G:h.Ns mainGlobals mg)(hfa:mg "law" = some (.ref fa))(t0:Av K "is_whole" (top 7))(t1:Av K "is_between" (top 8))(t2:Av K "levels" (top 10))(t3:Av K "is_counted_node" (top 12))(t4:Av K "is_node" (top 11))(t5:Av K "check_node" (top 13))(t6:Av K "children" (top 14))(t7:Av K "top" (top 15))(t8:Av K "is_room" (top 17))(t9:Av K "level_above" (top 19))(t10:Av K "built" (top 18))(t11:Av K "copied" (top 20))(t12:Av K "counts_of" (top 21))(t13:Av K "rooms_of" (top 22))(t14:Av K "shape_of" (top 23))(t15:Av K "has_node" (top 24))(t16:Av K "check_has_node" (top 25))(t17:Av K "tells" (top 26))(t18:Av K "with_told" (top 27))(t19:Av K "beneath" (top 31))(t20:Av K "lowest_enough" (top 30))(t21:Av K "seek" (top 29))(t22:Av K "check_page" (top 33))(t23:Av K "check_alike" (top 36))(t24:Av K "unlike" (top 37))(t25:Av K "changed" (top 35))(t26:Av K "done" (top 39))(t27:Av K "is_safe" (top 40))(t28:Av K "ordered" (top 41))(t29:Av K "mended" (top 42))(t30:Av K "_law_cell" (top 44))(t31:Av K "_law_mix" (top 45))(t32:Av K "_law_row" (top 46))(t33:Av K "_law_rooms" (top 47))(t34:Av K "_law_fan" (top 48))(t35:Av K "_law_counts" (top 49))(t36:Av K "_law_reach" (top 50))(t37:Av K "_law_tree" (top 51))(t38:Av K "_law_loose" (top 53))(t39:Av K "_law_does" (top 54))(t40:Av K "_law_spoil" (top 55))(t41:Av K "_law_deep" (top 56))(t42:Av K "_law_deep" (top 56))(t43:Av K "_law_deep" (top 56))(t44:Av K "_law_deep" (top 56))(t45:Av K "_law_deep" (top 56))(t46:Av K "_law_deep" (top 56))(t47:Av K "law" (top 57))(n_len:nsIn K mainGlobals "len" = some none)(n_min:nsIn K mainGlobals "min" = some none)(n_max:nsIn K mainGlobals "max" = some none)(n_abs:nsIn K mainGlobals "abs" = some none)(n_int:nsIn K mainGlobals "int" = some none)(n_list:nsIn K mainGlobals "list" = some none)(n_tuple:nsIn K mainGlobals "tuple" = some none)(n_all:nsIn K mainGlobals "all" = some none)(n_any:nsIn K mainGlobals "any" = some none)(n_sum:nsIn K mainGlobals "sum" = some none)(n_sorted:nsIn K mainGlobals "sorted" = some none)(n_isinstance:nsIn K mainGlobals "isinstance" = some none)(n_str:nsIn K mainGlobals "str" = some none)(n_range:nsIn K mainGlobals "range" = some none)(n_enumerate:nsIn K mainGlobals "enumerate" = some none)(n_zip:nsIn K mainGlobals "zip" = some none)(n_reversed:nsIn K mainGlobals "reversed" = some none)(n_bool:nsIn K mainGlobals "bool" = some none)(n_dict:nsIn K mainGlobals "dict" = some none)(n_ValueError:nsIn K mainGlobals "ValueError" = some none)(n_set:nsIn K mainGlobals "set" = some none)(c2:ClsF K "NoNode" C2)(c3:ClsF K "NoPage" C3)(c6:ClsF K "BadRoom" C6)(c7:ClsF K "Unlike" C7)(e2:excIn K C2 D1 "ValueError.__new__" = true)(e3:excIn K C3 D1 "ValueError.__new__" = true)(e6:excIn K C6 D1 "ValueError.__new__" = true)(e7:excIn K C7 D1 "ValueError.__new__" = true)(y2_2:kitOne K (.ref C2) (.ref C2)=some true)(y2_3:kitOne K (.ref C2) (.ref C3)=some false)(y2_6:kitOne K (.ref C2) (.ref C6)=some false)(y2_7:kitOne K (.ref C2) (.ref C7)=some false)(y3_2:kitOne K (.ref C3) (.ref C2)=some false)(y3_3:kitOne K (.ref C3) (.ref C3)=some true)(y3_6:kitOne K (.ref C3) (.ref C6)=some false)(y3_7:kitOne K (.ref C3) (.ref C7)=some false)(y6_2:kitOne K (.ref C6) (.ref C2)=some false)(y6_3:kitOne K (.ref C6) (.ref C3)=some false)(y6_6:kitOne K (.ref C6) (.ref C6)=some true)(y6_7:kitOne K (.ref C6) (.ref C7)=some false)(y7_2:kitOne K (.ref C7) (.ref C2)=some false)(y7_3:kitOne K (.ref C7) (.ref C3)=some false)(y7_6:kitOne K (.ref C7) (.ref C6)=some false)(y7_7:kitOne K (.ref C7) (.ref C7)=some true)(nl:noL K=true)
  (hden:∀ns:List Int,ns.length<=63->Gj.den [.lst (ns.map .int)]=.ok (.bl true)) :
  ∃fd:FuncData,(∀(s:Shared)(v:Value),BindsTo s fd ⟨[v],[]⟩ [("_law_script",v)])/\∀base:Heap,K.In base->base.Ns mainGlobals mg->FnOk l.prog w K mg base (CXe l.prog w) 11 fa fd ["_law_script"] (spL K):=by
 have O:∀base:Heap,Lw.Ok ⟨⟨K,clA [(2,C2),(3,C3),(6,C6),(7,C7)],BH [(2,C2),(3,C3),(6,C6),(7,C7)]⟩,l.prog,w,mg,base⟩:=fun base=>W6 rfl X G ⟨n_len,n_min,n_max,n_abs,n_int,n_list,n_tuple,n_all,n_any,n_sum,n_sorted,n_isinstance,n_str,n_range,n_enumerate,n_zip,n_reversed,n_bool,n_dict,n_ValueError,n_set,trivial⟩ ⟨c2,c3,c6,c7,trivial⟩ ⟨⟨y2_2,y2_3,y2_6,y2_7,trivial⟩,⟨y3_2,y3_3,y3_6,y3_7,trivial⟩,⟨y6_2,y6_3,y6_6,y6_7,trivial⟩,⟨y7_2,y7_3,y7_6,y7_7,trivial⟩,trivial⟩
 refine TM (cs:=[(2,C2),(3,C3),(6,C6),(7,C7)]) (lv:=10) X G hfa t47 Ov (fun _ _ _ _ _ _ s v=>.of_eq rfl) O (fun base=>?_) nl hden
 have rs2:=(⟨rfl,c2.q,e2⟩:NeedG ⟨⟨K,clA [(2,C2),(3,C3),(6,C6),(7,C7)],BH [(2,C2),(3,C3),(6,C6),(7,C7)]⟩,l.prog,w,mg,base⟩ 0 (.rs 2))
 have cl2:=(⟨rfl,PySem.W.mg_of X G c2.q⟩:NeedG ⟨⟨K,clA [(2,C2),(3,C3),(6,C6),(7,C7)],BH [(2,C2),(3,C3),(6,C6),(7,C7)]⟩,l.prog,w,mg,base⟩ 0 (.cl 2))
 have rs3:=(⟨rfl,c3.q,e3⟩:NeedG ⟨⟨K,clA [(2,C2),(3,C3),(6,C6),(7,C7)],BH [(2,C2),(3,C3),(6,C6),(7,C7)]⟩,l.prog,w,mg,base⟩ 0 (.rs 3))
 have cl3:=(⟨rfl,PySem.W.mg_of X G c3.q⟩:NeedG ⟨⟨K,clA [(2,C2),(3,C3),(6,C6),(7,C7)],BH [(2,C2),(3,C3),(6,C6),(7,C7)]⟩,l.prog,w,mg,base⟩ 0 (.cl 3))
 have rs6:=(⟨rfl,c6.q,e6⟩:NeedG ⟨⟨K,clA [(2,C2),(3,C3),(6,C6),(7,C7)],BH [(2,C2),(3,C3),(6,C6),(7,C7)]⟩,l.prog,w,mg,base⟩ 0 (.rs 6))
 have cl6:=(⟨rfl,PySem.W.mg_of X G c6.q⟩:NeedG ⟨⟨K,clA [(2,C2),(3,C3),(6,C6),(7,C7)],BH [(2,C2),(3,C3),(6,C6),(7,C7)]⟩,l.prog,w,mg,base⟩ 0 (.cl 6))
 have rs7:=(⟨rfl,c7.q,e7⟩:NeedG ⟨⟨K,clA [(2,C2),(3,C3),(6,C6),(7,C7)],BH [(2,C2),(3,C3),(6,C6),(7,C7)]⟩,l.prog,w,mg,base⟩ 0 (.rs 7))
 have cl7:=(⟨rfl,PySem.W.mg_of X G c7.q⟩:NeedG ⟨⟨K,clA [(2,C2),(3,C3),(6,C6),(7,C7)],BH [(2,C2),(3,C3),(6,C6),(7,C7)]⟩,l.prog,w,mg,base⟩ 0 (.cl 7))
 have h_is_whole:=An (lv:=0) (O base) (Al X G t0 fun _ _ _ _ _ _=>ba1 fun _=>rfl) Mq trivial
 have h_is_between:=An (lv:=1) (O base) (Al X G t1 fun _ _ _ _ _ _=>ba3 fun _ _ _=>rfl) Kj ⟨⟨by decide,h_is_whole⟩,trivial⟩
 have h_levels:=An (lv:=0) (O base) (Al X G t2 fun _ _ _ _ _ _=>ba1 fun _=>rfl) Qb trivial
 have h_is_counted_node:=An (lv:=2) (O base) (Al X G t3 fun _ _ _ _ _ _=>ba2 fun _ _=>rfl) G0 ⟨⟨by decide,h_is_between⟩,⟨by decide,h_is_between⟩,trivial⟩
 have h_is_node:=An (lv:=3) (O base) (Al X G t4 fun _ _ _ _ _ _=>ba2 fun _ _=>rfl) Oo ⟨⟨by decide,h_is_counted_node⟩,⟨by decide,h_levels⟩,trivial⟩
 have h_check_node:=An (lv:=4) (O base) (Al X G t5 fun _ _ _ _ _ _=>ba2 fun _ _=>rfl) Kk ⟨⟨by decide,h_is_node⟩,rs2,trivial⟩
 have h_children:=An (lv:=5) (O base) (Al X G t6 fun _ _ _ _ _ _=>ba2 fun _ _=>rfl) Mr ⟨⟨by decide,h_check_node⟩,⟨by decide,h_levels⟩,trivial⟩
 have h_top:=An (lv:=1) (O base) (Al X G t7 fun _ _ _ _ _ _=>ba1 fun _=>rfl) Ww ⟨⟨by decide,h_levels⟩,trivial⟩
 have h_is_room:=An (lv:=2) (O base) (Al X G t8 fun _ _ _ _ _ _=>ba1 fun _=>rfl) Op ⟨⟨by decide,h_is_between⟩,trivial⟩
 have h_level_above:=An (lv:=0) (O base) (Al X G t9 fun _ _ _ _ _ _=>ba2 fun _ _=>rfl) JM trivial
 have h_built:=An (lv:=1) (O base) (Al X G t10 fun _ _ _ _ _ _=>ba2 fun _ _=>rfl) RA ⟨⟨by decide,h_level_above⟩,trivial⟩
 have h_copied:=An (lv:=0) (O base) (Al X G t11 fun _ _ _ _ _ _=>ba1 fun _=>rfl) Qc trivial
 have h_counts_of:=An (lv:=0) (O base) (Al X G t12 fun _ _ _ _ _ _=>ba1 fun _=>rfl) Ma trivial
 have h_rooms_of:=An (lv:=0) (O base) (Al X G t13 fun _ _ _ _ _ _=>ba1 fun _=>rfl) Mt trivial
 have h_shape_of:=An (lv:=1) (O base) (Al X G t14 fun _ _ _ _ _ _=>ba2 fun _ _=>rfl) Mv ⟨⟨by decide,h_rooms_of⟩,trivial⟩
 have h_has_node:=An (lv:=3) (O base) (Al X G t15 fun _ _ _ _ _ _=>ba2 fun _ _=>rfl) Mw ⟨⟨by decide,h_is_counted_node⟩,⟨by decide,h_counts_of⟩,trivial⟩
 have h_check_has_node:=An (lv:=4) (O base) (Al X G t16 fun _ _ _ _ _ _=>ba2 fun _ _=>rfl) Hy ⟨⟨by decide,h_has_node⟩,rs2,trivial⟩
 have h_tells:=An (lv:=5) (O base) (Al X G t17 fun _ _ _ _ _ _=>ba2 fun _ _=>rfl) RB ⟨⟨by decide,h_check_has_node⟩,trivial⟩
 have h_with_told:=An (lv:=6) (O base) (Al X G t18 fun _ _ _ _ _ _=>ba2 fun _ _=>rfl) Mb ⟨⟨by decide,h_tells⟩,trivial⟩
 have h_beneath:=An (lv:=6) (O base) (Al X G t19 fun _ _ _ _ _ _=>ba4 fun _ _ _ _=>rfl) Oq ⟨⟨by decide,h_children⟩,⟨by decide,h_shape_of⟩,⟨by decide,h_tells⟩,trivial⟩
 have h_lowest_enough:=An (lv:=6) (O base) (Al X G t20 fun _ _ _ _ _ _=>ba3 fun _ _ _=>rfl) Ik ⟨⟨by decide,h_shape_of⟩,⟨by decide,h_top⟩,⟨by decide,h_tells⟩,⟨by decide,h_children⟩,⟨by decide,h_tells⟩,trivial⟩
 have h_seek:=An (lv:=7) (O base) (Al X G t21 fun _ _ _ _ _ _=>ba4 fun _ _ _ _=>rfl) UC ⟨⟨by decide,h_copied⟩,⟨by decide,h_lowest_enough⟩,⟨by decide,h_beneath⟩,⟨by decide,h_beneath⟩,⟨by decide,h_tells⟩,⟨by decide,h_lowest_enough⟩,trivial⟩
 have h_check_page:=An (lv:=2) (O base) (Al X G t22 fun _ _ _ _ _ _=>ba2 fun _ _=>rfl) Kl ⟨⟨by decide,h_is_between⟩,rs3,trivial⟩
 have h_check_alike:=An (lv:=1) (O base) (Al X G t23 fun _ _ _ _ _ _=>ba2 fun _ _=>rfl) JN ⟨⟨by decide,h_rooms_of⟩,⟨by decide,h_rooms_of⟩,rs7,trivial⟩
 have h_unlike:=An (lv:=2) (O base) (Al X G t24 fun _ _ _ _ _ _=>ba2 fun _ _=>rfl) Qd ⟨⟨by decide,h_check_alike⟩,trivial⟩
 have h_changed:=An (lv:=7) (O base) (Al X G t25 fun _ _ _ _ _ _=>ba4 fun _ _ _ _=>rfl) Os ⟨⟨by decide,h_check_page⟩,⟨by decide,h_shape_of⟩,⟨by decide,h_is_room⟩,rs6,⟨by decide,h_rooms_of⟩,⟨by decide,h_built⟩,⟨by decide,h_with_told⟩,⟨by decide,h_unlike⟩,trivial⟩
 have h_done:=An (lv:=5) (O base) (Al X G t26 fun _ _ _ _ _ _=>ba2 fun _ _=>rfl) UD ⟨⟨by decide,h_copied⟩,⟨by decide,h_check_has_node⟩,trivial⟩
 have h_is_safe:=An (lv:=1) (O base) (Al X G t27 fun _ _ _ _ _ _=>ba2 fun _ _=>rfl) Ot ⟨⟨by decide,h_level_above⟩,trivial⟩
 have h_ordered:=An (lv:=8) (O base) (Al X G t28 fun _ _ _ _ _ _=>ba4 fun _ _ _ _=>rfl) Ou ⟨⟨by decide,h_changed⟩,trivial⟩
 have h_mended:=An (lv:=6) (O base) (Al X G t29 fun _ _ _ _ _ _=>ba2 fun _ _=>rfl) Qe ⟨⟨by decide,h_built⟩,⟨by decide,h_rooms_of⟩,⟨by decide,h_unlike⟩,⟨by decide,h_tells⟩,⟨by decide,h_tells⟩,trivial⟩
 have h_law_cell:=An (lv:=0) (O base) (Al X G t30 fun _ _ _ _ _ _=>ba2 fun _ _=>rfl) Mx trivial
 have h_law_mix_k11:=An (lv:=0) (O base) (Al X G t31 fun _ _ _ _ _ _=>ba2 fun _ _=>rfl) JO trivial
 have h_law_row_k11:=An (lv:=1) (O base) (Al X G t32 fun _ _ _ _ _ _=>ba3 fun _ _ _=>rfl) JP ⟨⟨by decide,h_law_cell⟩,⟨by decide,h_law_mix_k11⟩,⟨by decide,h_law_cell⟩,⟨by decide,h_law_mix_k11⟩,trivial⟩
 have h_law_rooms_k21:=An (lv:=2) (O base) (Al X G t33 fun _ _ _ _ _ _=>ba3 fun _ _ _=>rfl) Il ⟨⟨by decide,h_law_row_k11⟩,trivial⟩
 have h_law_fan_k22:=An (lv:=2) (O base) (Al X G t34 fun _ _ _ _ _ _=>ba2 fun _ _=>rfl) JQ ⟨⟨by decide,h_law_row_k11⟩,trivial⟩
 have h_law_counts_k11:=An (lv:=0) (O base) (Al X G t35 fun _ _ _ _ _ _=>ba2 fun _ _=>rfl) Hz trivial
 have h_law_reach_k12:=An (lv:=0) (O base) (Al X G t36 fun _ _ _ _ _ _=>ba4 fun _ _ _ _=>rfl) Im trivial
 have h_law_tree_k22:=An (lv:=1) (O base) (Al X G t37 fun _ _ _ _ _ _=>ba2 fun _ _=>rfl) Je ⟨⟨by decide,h_law_counts_k11⟩,⟨by decide,h_law_reach_k12⟩,trivial⟩
 have h_law_loose_k65:=An (lv:=1) (O base) (Al X G t38 fun _ _ _ _ _ _=>ba3 fun _ _ _=>rfl) Io ⟨⟨by decide,h_law_counts_k11⟩,trivial⟩
 have h_law_does:=An (lv:=9) (O base) (Al X G t39 fun _ _ _ _ _ _=>ba6 fun _ _ _ _ _ _=>rfl) My ⟨⟨by decide,h_seek⟩,⟨by decide,h_mended⟩,⟨by decide,h_is_safe⟩,⟨by decide,h_ordered⟩,⟨by decide,h_done⟩,trivial⟩
 have h_law_spoil_k68:=T3 (lv:=0) (O base) (Al X G t40 fun _ _ _ _ _ _=>ba1 fun _=>rfl) Ip trivial
 have h_law_deep_k68_r0:=TL (L:=⟨⟨K,clA [(2,C2),(3,C3),(6,C6),(7,C7)],BH [(2,C2),(3,C3),(6,C6),(7,C7)]⟩,l.prog,w,mg,base⟩) (ps:=["_law_found"]) (lv:=1) (dep:=2) (Al X G t41 fun _ _ _ _ _ _=>ba1 fun _=>rfl)
 have h_law_deep_k68_r1:=An (lv:=1) (O base) (Al X G t42 fun _ _ _ _ _ _=>ba1 fun _=>rfl) G3 ⟨⟨by decide,h_law_deep_k68_r0⟩,⟨by decide,h_law_deep_k68_r0⟩,trivial⟩
 have h_law_deep_k68_r2:=An (lv:=2) (O base) (Al X G t43 fun _ _ _ _ _ _=>ba1 fun _=>rfl) G4 ⟨⟨by decide,h_law_deep_k68_r1⟩,⟨by decide,h_law_deep_k68_r1⟩,trivial⟩
 have h_law_deep_k68_r3:=An (lv:=3) (O base) (Al X G t44 fun _ _ _ _ _ _=>ba1 fun _=>rfl) G5 ⟨⟨by decide,h_law_deep_k68_r2⟩,⟨by decide,h_law_deep_k68_r2⟩,trivial⟩
 have h_law_deep_k68_r4:=An (lv:=4) (O base) (Al X G t45 fun _ _ _ _ _ _=>ba1 fun _=>rfl) G6 ⟨⟨by decide,h_law_deep_k68_r3⟩,⟨by decide,h_law_deep_k68_r3⟩,trivial⟩
 have h_law_deep_k68:=An (lv:=5) (O base) (Al X G t46 fun _ _ _ _ _ _=>ba1 fun _=>rfl) Jf ⟨⟨by decide,h_law_deep_k68_r4⟩,⟨by decide,h_law_deep_k68_r4⟩,trivial⟩
 exact⟨⟨by decide,h_law_rooms_k21⟩,⟨by decide,h_law_row_k11⟩,⟨by decide,h_law_fan_k22⟩,⟨by decide,h_law_loose_k65⟩,⟨by decide,h_law_row_k11⟩,⟨by decide,h_law_tree_k22⟩,⟨by decide,h_law_row_k11⟩,⟨by decide,h_law_row_k11⟩,⟨by decide,h_law_deep_k68⟩,⟨by decide,h_law_does⟩,⟨by decide,h_law_does⟩,⟨by decide,h_law_deep_k68⟩,⟨by decide,h_law_spoil_k68⟩,⟨by decide,h_law_deep_k68⟩,⟨by decide,h_law_does⟩,trivial⟩
end Pu
open PySem PySem.W PyProof.Rows
namespace PySem.W.Fast
def tw17258749019103882470:=0
def tw12011975056347393877:=0
def tw11566801669849381026:=0
def tw13052274120315730578:=0
def tw2616854673617146740:=0
def tw4840390248872036528:=0
def tw15452407390678626284:=0
def tw5497652106611512266:=0
def tw2026706540849699071:=0
def tw175487079985108500:=0
def tw16190959132115915185:=0
def tw13720625790560133081:=0
def tw7922997259515674946:=0
def tw14440433723654623680:=0
def tw9798937422938272969:=0
def tw17433920116776418454:=0
def tw15411293700469862023:=0
def tw18283013508123145673:=0
def tw13631812755968544973:=0
def tw15208317129807517592:=0
def tw6102929451038902893:=0
def tw989403768331394680:=0
def tw18111726575967459155:=0
def tw51657072172590905:=0
def tw8099716462906032834:=0
def tw17036365569190513596:=0
def tw5102590018587549378:=0
def tw11328947895141489076:=0
def tw3272799430005127979:=0
def tw15787720362441193300:=0
def tw12857798020652082704:=0
def tw13739109228103853230:=0
def tw13126592604481236742:=0
def tw16555297351950069344:=0
def tw12730311664013283279:=0
def tw2528302737924221331:=0
def tw7774803473609968165:=0
def tw17074286133627060990:=0
def tw4961839006143141102:=0
def tw9346438662693067857:=0
def tw17715265204077358715:=0
def tw13994722795094607234:=0
def tw5414766279110573644:=0
def tw15942854166181123351:=0
def tw13969834000324949474:=0
def tw9049365676174683202:=0
def tw15377312552364521281:=0
def tw18051143063853580181:=0
def tw16108618234788504384:=0
def tw2084091347629679041:=0
def tw6969345937848144084:=0
def tw10310830597951420758:=0
def tw17325783380454688934:=0
def tw6686281935518531427:=0
def tw2763805623413668431:=0
def tw8549722042815775008:=0
def tw17627097280630416035:=0
def tw831701679726885174:=0
def tw15520611976651094195:=0
def tw707570273197203688:=0
def tw3521827544804233304:=0
def tw7113902345591614611:=0
def tw17082394661346772088:=0
def tw16017730871548544502:=0
def tw8554517599419554782:=0
def tw7657845601568628655:=0
def tw5812878535623317080:=0
def tw2406292793759146318:=0
def tw17236346551812942402:=0
def tw14616859688291807657:=0
def tw7781890565309056462:=0
def tw17239300268530355819:=0
def tw15977969037764504532:=0
def tw12279611087239622025:=0
def tw9054991292657490777:=0
def tw5767533807089682239:=0
def tw561152833048483193:=0
def tw13653583589108229885:=0
def tw4568333216458493474:=0
def tw2280600172164828818:=0
def tw17561018148225625792:=0
def tw5072721259989815012:=0
def tw14277870434601767334:=0
def tw9012582736103978707:=0
def tw10699452756571271049:=0
def tw13892247958348199212:=0
def tw10123252786578966452:=0
def tw12626758560153253549:=0
def tw2430076975513786943:=0
def tw3751733750651582918:=0
def tw10590584861802278730:=0
def tw9142577271587133331:=0
def tw16734303989185457312:=0
def tw9408677177328884400:=0
def tw4075078592533151816:=0
def tw6713615190677003621:=0
def tw4079205068963768618:=0
def tw12574529641643855024:=0
def tw15502886256252180591:=0
def tw13098982905078839771:=0
def tw4449930118547165202:=0
def tw18112259697554104005:=0
def tw15375817814249602235:=0
def tw3416942221097738168:=0
def tw80774011547476037:=0
def tw9010877176158628854:=0
def tw4582958669012875464:=0
def tw6837811088427531655:=0
def tw12626985423493634722:=0
def tw15620292646310696314:=0
def tw2552662519601080973:=0
def tw10662493547792654583:=0
def tw11806718530444648082:=0
def tw16898908538270555073:=0
def tw228724202259220415:=0
def tw6939402665413610773:=0
def tw1813711989297212753:=0
def tw3658823419444097448:=0
def tw2264368506645449257:=0
def tw15567711868380078853:=0
def tw7723098595687143741:=0
def tw2737234417786825625:=0
def tw1927838286240070283:=0
def tw2602216411156371593:=0
def tw2626543302065982227:=0
def tw814487705814038322:=0
def tw2329311149896990612:=0
def tw9039711702651014899:=0
def tw16105217765646017614:=0
def tw4072168454933888657:=0
def tw18135750756033309966:=0
def tw17848289333836872145:=0
def tw15601803554479264316:=0
def tw1078440240141392702:=0
def tw9315485051274090444:=0
def tw13380643185260257061:=0
def tw16140303673391304288:=0
def tw15001309719204716689:=0
def tw15390488491769417488:=0
def tw9864812428025949284:=0
def tw16930677197215052030:=0
def tw2715285519102638944:=0
end PySem.W.Fast
local macro_rules | `(tactic| simp_arith!)=>`(tactic| (refine' Pu.Az ?za ?zl ?zc ?zk; (case za=>k_is); (case zl=>k_is); (case zc=>k_is); (case zk=>k_is)))
local macro_rules | `(tactic| simp_all_arith)=>`(tactic| (refine' Pu.N9 ?zq ?zx1 ?zx2 ?zx3 ?zx4 ?zx5 ?zx6 ?zx7 ?zt1 ?zt2 ?zt3 ?zt4 ?zt5 ?zt6 ?zv ?zs; (case zq=>k_is); (case zx1=>k_is); (case zx2=>k_is); (case zx3=>k_is); (case zx4=>k_is); (case zx5=>k_is); (case zx6=>k_is); (case zx7=>k_is); (case zt1=>kit_is); (case zt2=>kit_is); (case zt3=>kit_is); (case zt4=>kit_is); (case zt5=>kit_is); (case zt6=>kit_is); (case zv=>kit_is); (case zs=>k_is)))
set_option maxRecDepth 100000 in
set_option maxHeartbeats 0 in
theorem PySem.Challenge.cw_ullage_k68_again_and_shared_holds : PySem.Challenge.rw_ullage_k68_again_and_shared.Holds := by
 w_on;o_law;k_head;(case hw=>w_witness2)
 k_fill
 refine Pu.W4 (l:=PySem.Challenge.rw_ullage_k68_again_and_shared) (k:=11) (x := "_law_script") rfl rfl ⟨rfl,by decide,by decide⟩ (fun w h Y=>PySem.W.kIn_of Y) ?F
 case F=>
  intro w mg fa h KX G hmg
  refine' Pu.Wx KX G hmg ?t0 ?t1 ?t2 ?t3 ?t4 ?t5 ?t6 ?t7 ?t8 ?t9 ?t10 ?t11 ?t12 ?t13 ?t14 ?t15 ?t16 ?t17 ?t18 ?t19 ?t20 ?t21 ?t22 ?t23 ?t24 ?t25 ?t26 ?t27 ?t28 ?t29 ?t30 ?t31 ?t32 ?t33 ?t34 ?t35 ?t36 ?t37 ?t38 ?t39 ?t40 ?t41 ?t42 ?t43 ?t44 ?t45 ?t46 ?t47 ?n_len ?n_min ?n_max ?n_abs ?n_int ?n_list ?n_tuple ?n_all ?n_any ?n_sum ?n_sorted ?n_isinstance ?n_str ?n_range ?n_enumerate ?n_zip ?n_reversed ?n_bool ?n_dict ?n_ValueError ?n_set ?c2 ?c3 ?c6 ?c7 ?e2 ?e3 ?e6 ?e7 ?y2_2 ?y2_3 ?y2_6 ?y2_7 ?y3_2 ?y3_3 ?y3_6 ?y3_7 ?y6_2 ?y6_3 ?y6_6 ?y6_7 ?y7_2 ?y7_3 ?y7_6 ?y7_7 ?nl Pu.UB
  (case t0=>simp_arith!)
  (case t1=>simp_arith!)
  (case t2=>simp_arith!)
  (case t3=>simp_arith!)
  (case t4=>simp_arith!)
  (case t5=>simp_arith!)
  (case t6=>simp_arith!)
  (case t7=>simp_arith!)
  (case t8=>simp_arith!)
  (case t9=>simp_arith!)
  (case t10=>simp_arith!)
  (case t11=>simp_arith!)
  (case t12=>simp_arith!)
  (case t13=>simp_arith!)
  (case t14=>simp_arith!)
  (case t15=>simp_arith!)
  (case t16=>simp_arith!)
  (case t17=>simp_arith!)
  (case t18=>simp_arith!)
  (case t19=>simp_arith!)
  (case t20=>simp_arith!)
  (case t21=>simp_arith!)
  (case t22=>simp_arith!)
  (case t23=>simp_arith!)
  (case t24=>simp_arith!)
  (case t25=>simp_arith!)
  (case t26=>simp_arith!)
  (case t27=>simp_arith!)
  (case t28=>simp_arith!)
  (case t29=>simp_arith!)
  (case t30=>simp_arith!)
  (case t31=>simp_arith!)
  (case t32=>simp_arith!)
  (case t33=>simp_arith!)
  (case t34=>simp_arith!)
  (case t35=>simp_arith!)
  (case t36=>simp_arith!)
  (case t37=>simp_arith!)
  (case t38=>simp_arith!)
  (case t39=>simp_arith!)
  (case t40=>simp_arith!)
  (case t41=>simp_arith!)
  (case t42=>simp_arith!)
  (case t43=>simp_arith!)
  (case t44=>simp_arith!)
  (case t45=>simp_arith!)
  (case t46=>simp_arith!)
  (case t47=>simp_arith!)
  (case n_len=>k_is)
  (case n_min=>k_is)
  (case n_max=>k_is)
  (case n_abs=>k_is)
  (case n_int=>k_is)
  (case n_list=>k_is)
  (case n_tuple=>k_is)
  (case n_all=>k_is)
  (case n_any=>k_is)
  (case n_sum=>k_is)
  (case n_sorted=>k_is)
  (case n_isinstance=>k_is)
  (case n_str=>k_is)
  (case n_range=>k_is)
  (case n_enumerate=>k_is)
  (case n_zip=>k_is)
  (case n_reversed=>k_is)
  (case n_bool=>k_is)
  (case n_dict=>k_is)
  (case n_ValueError=>k_is)
  (case n_set=>k_is)
  (case c2=>simp_all_arith)
  (case c3=>simp_all_arith)
  (case c6=>simp_all_arith)
  (case c7=>simp_all_arith)
  (case e2=>k_exc)
  (case e3=>k_exc)
  (case e6=>k_exc)
  (case e7=>k_exc)
  (case y2_2=>kit_is)
  (case y2_3=>kit_is)
  (case y2_6=>kit_is)
  (case y2_7=>kit_is)
  (case y3_2=>kit_is)
  (case y3_3=>kit_is)
  (case y3_6=>kit_is)
  (case y3_7=>kit_is)
  (case y6_2=>kit_is)
  (case y6_3=>kit_is)
  (case y6_6=>kit_is)
  (case y6_7=>kit_is)
  (case y7_2=>kit_is)
  (case y7_3=>kit_is)
  (case y7_6=>kit_is)
  (case y7_7=>kit_is)
  (case nl=>exact rfl)

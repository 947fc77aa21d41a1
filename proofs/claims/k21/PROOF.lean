import PyProof.Rows.All
import Wide.All
import OpenK.AllK
import Wide.FinOn
import Lean
import PyProof.EqAt
import PyProof.EqKinds
import PyProof.TupleCall
import PyProof.ZipIter
import PyProof.LongRange
import PyProof.StrBlockL
import PyProof.StrCalls6
import PyProof.SliceStr
import PyProof.StrWalks
import PyProof.StrLawsIn
import PyProof.StrOps2
import PyProof.DelItemList
import PyProof.ListOps
import PyProof.FitsReplace
import PyProof.DictTable
import PyProof.DictKinds
import PyProof.DictStraight
import KE.KEqDict
import PyProof.InstStoreFacts
import PyProof.InstStore
import PySem.Challenge.RW_ullage_k21_checked_rooms
set_option Elab.async false
set_option linter.all false
set_option bootstrap.genMatcherCode false
set_option compiler.extract_closed false
set_option maxRecDepth 100000
section
namespace L2
open PySem PySem.Spec PyProof.Rows
noncomputable abbrev Key := Sum Int Str
noncomputable def keyIs : Key → Value → Bool
  | .inl k, v => Value.isInt k v
  | .inr x, v => Value.isStrOf x v
noncomputable def keyH (w : World) : Key → Int
  | .inl k => hashInt k
  | .inr x => hashStr w x
theorem keyIs_shape : ∀ {k : Key} {v : Value}, keyIs k v = true → (∃ i t, k = Sum.inl i ∧ v = Value.int i t) ∨ (∃ x t, k = Sum.inr x ∧ v = Value.str x t)
  | .inl i, v, h => by
    obtain ⟨t, e⟩ := Value.isInt_shape (k := i) (v := v) h
    exact .inl ⟨i, t, rfl, e⟩
  | .inr x, v, h => by
    obtain ⟨t, e⟩ := Value.isStrOf_shape (x := x) (v := v) h
    exact .inr ⟨x, t, rfl, e⟩
theorem key_ll (a b : Int) : decide ((Sum.inl a : Key) = Sum.inl b) = (a == b) := by
  by_cases e : a = b
  · subst e; simp
  · have h : ¬ (Sum.inl a : Key) = Sum.inl b := fun q => e (Sum.inl.inj q)
    rw [decide_eq_false h]
    exact (beq_eq_false_iff_ne.mpr e).symm
theorem key_rr (a b : Str) : decide ((Sum.inr a : Key) = Sum.inr b) = decide (a = b) := by
  by_cases e : a = b
  · subst e; simp
  · have h : ¬ (Sum.inr a : Key) = Sum.inr b := fun q => e (Sum.inr.inj q)
    rw [decide_eq_false h, decide_eq_false e]
theorem key_lr (a : Int) (b : Str) : decide ((Sum.inl a : Key) = Sum.inr b) = false := decide_eq_false (fun q => nomatch q)
theorem key_rl (a : Str) (b : Int) : decide ((Sum.inr a : Key) = Sum.inl b) = false := decide_eq_false (fun q => nomatch q)
noncomputable def mixKind (prog : Program) (w : World) : PySem.KeyKind prog w Key where
  is := keyIs
  hash := keyH w
  inj := fun v a b ha hb => by
    rcases keyIs_shape ha with ⟨i, t, rfl, rfl⟩ | ⟨x, t, rfl, rfl⟩
    · rcases keyIs_shape hb with ⟨j, u, rfl, e⟩ | ⟨y, u, rfl, e⟩
      · injection e with e1 _; rw [e1]
      · exact nomatch e
    · rcases keyIs_shape hb with ⟨j, u, rfl, e⟩ | ⟨y, u, rfl, e⟩
      · exact nomatch e
      · injection e with e1 _; rw [e1]
  byValue := fun k v h => by
    rcases keyIs_shape h with ⟨i, t, rfl, rfl⟩ | ⟨x, t, rfl, rfl⟩ <;> rfl
  pyHash := fun hv h => by
    rcases keyIs_shape hv with ⟨i, t, rfl, rfl⟩ | ⟨x, t, rfl, rfl⟩
    · exact wpAny_pyHash_int h
    · exact wpAny_pyHash_str h
  eqBool := fun hu hv h => by
    rcases keyIs_shape hu with ⟨i, t, rfl, rfl⟩ | ⟨x, t, rfl, rfl⟩
    · rcases keyIs_shape hv with ⟨j, u, rfl, rfl⟩ | ⟨y, u, rfl, rfl⟩
      · rw [key_ll] at h; exact wpAny_eqBool_int h
      · rw [key_lr] at h; exact SeqAt.EqAt.int_str i t y u _ _ _ _ h
    · rcases keyIs_shape hv with ⟨j, u, rfl, rfl⟩ | ⟨y, u, rfl, rfl⟩
      · rw [key_rl] at h; exact SeqAt.EqAt.str_int x t j u _ _ _ _ h
      · rw [key_rr] at h; exact wpAny_eqBool_str h
  «strs» := fun k x t v h => by
    rcases keyIs_shape h with ⟨i, u, rfl, e⟩ | ⟨y, u, rfl, e⟩
    · exact nomatch e
    · injection e with e1 _
      subst e1
      cases v <;> rfl
end L2
namespace L2
open PySem PySem.Spec PyProof.Rows
inductive V where
  | non | bl (b : Bool) | int (i : Int) | str (x : Str) | byt (b : Array UInt8) | flt (b : UInt64) | ref (a : Addr) | ty (n : String)
  deriving DecidableEq
noncomputable def RelV : V → Value → Prop
  | .non, u => u = Value.none
  | .bl b, u => u = Value.bool b
  | .int i, u => ∃ t, u = Value.int i t
  | .str x, u => ∃ t, u = Value.str x t
  | .byt b, u => ∃ t, u = Value.bytes b t
  | .flt b, u => ∃ t, u = Value.float b t
  | .ref a, u => u = Value.ref a
  | .ty n, u => u = Value.type n
noncomputable abbrev Vals : List V → List Value → Prop := Paired RelV
theorem Vals.length {xs : List V} {us : List Value} (r : Vals xs us) : xs.length = us.length := Paired.length r
theorem Vals.get : ∀ {xs : List V} {us : List Value} {i : Nat} {x : V}, Vals xs us → xs[i]? = some x → ∃ u, us[i]? = some u ∧ RelV x u
  | _, _, _, _, .nil, e => by simp at e
  | _, _, 0, _, .cons r _, e => by simp at e; subst e; exact ⟨_, rfl, r⟩
  | _, _, i + 1, x, .cons _ t, e => by
    obtain ⟨u, h1, h2⟩ := Vals.get (i := i) (x := x) t (by simpa using e)
    exact ⟨u, by simpa using h1, h2⟩
theorem Vals.set {x : V} {u : Value} (r : RelV x u) : ∀ {xs : List V} {us : List Value} (i : Nat), Vals xs us → Vals (xs.set i x) (us.set i u)
  | _, _, _, .nil => .nil
  | _, _, 0, .cons _ t => .cons r t
  | _, _, i + 1, .cons q t => .cons q (Vals.set r i t)
theorem Vals.append : ∀ {xs ys : List V} {us ws : List Value}, Vals xs us → Vals ys ws → Vals (xs ++ ys) (us ++ ws)
  | _, _, _, _, .nil, s => s
  | _, _, _, _, .cons r t, s => .cons r (Vals.append t s)
theorem Vals.take : ∀ {xs : List V} {us : List Value} (n : Nat), Vals xs us → Vals (xs.take n) (us.take n)
  | _, _, 0, _ => .nil
  | _, _, _ + 1, .nil => .nil
  | _, _, n + 1, .cons r t => .cons r (Vals.take n t)
theorem Vals.drop : ∀ {xs : List V} {us : List Value} (n : Nat), Vals xs us → Vals (xs.drop n) (us.drop n)
  | _, _, 0, r => r
  | _, _, _ + 1, .nil => .nil
  | _, _, n + 1, .cons _ t => Vals.drop n t
noncomputable def RelO : Option V → Option Value → Prop
  | some v, some u => RelV v u
  | none, none => True
  | _, _ => False
noncomputable def KV {κ : Type} : List (κ × V) → List (κ × Value) → Prop := Paired fun (p : κ × V) (q : κ × Value) => p.1 = q.1 ∧ RelV p.2 q.2
noncomputable def kV : Key → V
  | .inl i => .int i
  | .inr x => .str x
inductive HO where
    | lst (xs : List V)
    | tup (xs : List V)
    | dK (kvs : List (Key × V)) | dT (kvs : List (List Key × V))
    | set (S : Int → Bool) (n : Nat)
    | ins (C dx : Addr) (fs : List (Str × V))
    | own (x : Addr)
    | xd (fs : List (Str × V))
    | met (f x : Addr)
    | rng (lo hi : Int)
    | frz (o : Obj) (u : HO)
    | tbl (ps : Array Value)
    | ext (φ : Heap → Prop)
noncomputable abbrev Hp := Addr → Option HO
noncomputable def upd (H : Hp) (a : Addr) (o : HO) : Hp := fun b => if b = a then some o else H b
theorem upd_same {H : Hp} {a : Addr} {o : HO} : upd H a o a = some o := by unfold upd; rw [if_pos rfl]
theorem upd_ne {H : Hp} {a b : Addr} {o : HO} (h : b ≠ a) : upd H a o b = H b := by unfold upd; rw [if_neg h]
theorem ne_of_none {H : Hp} {a b : Addr} {o : HO} (h : H a = some o) (h' : H b = none) : a ≠ b := by
  intro e; subst e; rw [h] at h'; cases h'
section
variable (P : Program) (w : World)
noncomputable def ObjOk (H : Hp) (h : Heap) (a : Addr) : HO → Prop
  | .lst xs => xs.length ≤ sizeLine ∧ ∃ (its : List Value) (n : Nat), Vals xs its ∧ h.get? a = some { cls := .type "list", data := .seq its.toArray n }
  | .tup xs => xs.length ≤ sizeLine ∧ ∃ its : List Value, Vals xs its ∧ IsTup h a its.toArray
  | .dK kvs => kvs.length ≤ sizeLine ∧ (a == sysModules) = false ∧ ∃ vs, KV kvs vs ∧ h.DictOf (mixKind P w) a vs
  | .dT kvs => kvs.length ≤ sizeLine ∧ (a == sysModules) = false ∧ ∃ xs : List (List Key × Addr × Value),
      Paired (fun (p : List Key × V) (q : List Key × Addr × Value) => p.1 = q.1 ∧ H q.2.1 = some (.tup (p.1.map kV)) ∧ RelV p.2 q.2.2) kvs xs ∧
      ∃ o es ep, h.get? a = some o ∧ o.ExactDict ∧ o.data = .dict es ep ∧ es.toList = xs.map (entryOfKey (tupleKind (mixKind P w))) ∧ (xs.map (·.1)).Nodup
  | .set S n => h.SetOf (intKind P w) a S n
  | .ins C dx fs => H dx = some (.own a) ∧ fs.length ≤ 1000 ∧ dx ≠ a ∧ h.get? a = some (PySem.W.instObj C dx) ∧
      ∃ mA, h.Ns1 dx mA ∧ (∀ f, RelO (fs.lookup f) (mA f)) ∧ PySem.Within mA (fs.map (·.1))
  | .own _ => ∃ o, h.get? a = some o
  | .xd fs => ∃ mA, h.Ns1 a mA ∧ ∀ f, RelO (fs.lookup f) (mA f)
  | .rng lo hi => ∃ t u v, h.get? a = some { cls := .type "range", data := .fields #[.int lo t, .int hi u, .int 1 v] }
  | .frz o u => h.get? a = some o ∧ ObjOk H h a u
  | .tbl ps => h.get? a = some { cls := .none, data := .fields ps }
  | .met f x => h.get? a = some (PySem.W.methodObj (.ref f) (.ref x))
  | .ext φ => φ h ∧ (∃ o, h.get? a = some o) ∧ ∀ h1 h2 : Heap, φ h1 → (∀ o, h1.get? a = some o → h2.get? a = some o) → φ h2
noncomputable def HOk (H : Hp) (h : Heap) : Prop := ∀ a o, H a = some o → ObjOk P w H h a o
end
section
variable {P : Program} {w : World} {H H' : Hp} {h h' : Heap} {a : Addr} {o : HO}
theorem ObjOk.lt (x : ObjOk P w H h a o) : a < h.objs.size := by
  cases o with
  | lst xs => obtain ⟨_, _, _, _, e⟩ := x; exact Heap.lt_size e
  | tup xs => obtain ⟨_, _, _, p⟩ := x; exact p.lt
  | dK kvs => obtain ⟨_, _, _, _, o, _, _, e, _⟩ := x; exact Heap.lt_size e
  | dT kvs => obtain ⟨_, _, _, _, o, _, _, e, _⟩ := x; exact Heap.lt_size e
  | set S n => obtain ⟨o, _, _, _, e, _⟩ := x; exact Heap.lt_size e
  | ins C dx fs => obtain ⟨_, _, _, e, _⟩ := x; exact Heap.lt_size e
  | own y => obtain ⟨_, e⟩ := x; exact Heap.lt_size e
  | xd fs => obtain ⟨_, ⟨_, _, _, e, _⟩, _⟩ := x; exact Heap.lt_size e
  | rng lo hi => obtain ⟨_, _, _, e⟩ := x; exact Heap.lt_size e
  | frz ob u => obtain ⟨e, _⟩ := x; exact Heap.lt_size e
  | tbl ps => exact Heap.lt_size (show h.get? a = some _ from x)
  | met f y => exact Heap.lt_size (show h.get? a = some _ from x)
  | ext φ => obtain ⟨_, ⟨_, e⟩, _⟩ := x; exact Heap.lt_size e
theorem Paired.mapP {α β : Type} {F G : α → β → Prop} : ∀ {l₁ : List α} {l₂ : List β}, Paired F l₁ l₂ → (∀ a b, F a b → G a b) → Paired G l₁ l₂
  | _, _, .nil, _ => .nil
  | _, _, .cons r t, f => .cons (f _ _ r) (Paired.mapP t f)
theorem ObjOk.stay (x : ObjOk P w H h a o) (k : ∀ b u, (b = a ∨ H b = some (.own a)) → h.get? b = some u → h'.get? b = some u)
    (ho : ∀ b, H b = some (.own a) → H' b = some (.own a)) (ht : ∀ b xs, H b = some (.tup xs) → H' b = some (.tup xs)) : ObjOk P w H' h' a o := by
  induction o with
  | lst xs => obtain ⟨z, its, n, r, e⟩ := x; exact ⟨z, its, n, r, k _ _ (.inl rfl) e⟩
  | tup xs => obtain ⟨z, its, r, ob, e, c⟩ := x; exact ⟨z, its, r, ob, k _ _ (.inl rfl) e, c⟩
  | dK kvs => obtain ⟨z, y, vs, r, ob, es, ep, e, c⟩ := x; exact ⟨z, y, vs, r, ob, es, ep, k _ _ (.inl rfl) e, c⟩
  | dT kvs =>
    obtain ⟨z, y, xs, r, ob, es, ep, e, c⟩ := x
    exact ⟨z, y, xs, Paired.mapP r fun p q z => ⟨z.1, ht _ _ z.2.1, z.2.2⟩, ob, es, ep, k _ _ (.inl rfl) e, c⟩
  | set S n => obtain ⟨ob, es, ep, t, e, c⟩ := x; exact ⟨ob, es, ep, t, k _ _ (.inl rfl) e, c⟩
  | ins C dx fs =>
    obtain ⟨d, z, ne, e, mA, ⟨od, es, ep, e2, c⟩, r⟩ := x
    exact ⟨ho _ d, z, ne, k _ _ (.inl rfl) e, mA, ⟨od, es, ep, k _ _ (.inr d) e2, c⟩, r⟩
  | own y => obtain ⟨ob, e⟩ := x; exact ⟨ob, k _ _ (.inl rfl) e⟩
  | xd fs => obtain ⟨mA, ⟨od, es, ep, e, c⟩, r⟩ := x; exact ⟨mA, ⟨od, es, ep, k _ _ (.inl rfl) e, c⟩, r⟩
  | rng lo hi => obtain ⟨t, u, v, e⟩ := x; exact ⟨t, u, v, k _ _ (.inl rfl) e⟩
  | frz ob u ih => obtain ⟨e, q⟩ := x; exact ⟨k _ _ (.inl rfl) e, ih q⟩
  | tbl ps =>
    have e : h.get? a = some { cls := .none, data := .fields ps } := x
    show h'.get? a = some { cls := .none, data := .fields ps }
    exact k a _ (.inl rfl) e
  | met f y =>
    have e : h.get? a = some (PySem.W.methodObj (.ref f) (.ref y)) := x
    show h'.get? a = some (PySem.W.methodObj (.ref f) (.ref y))
    exact k a _ (.inl rfl) e
  | ext φ => obtain ⟨p, ⟨o, e⟩, st⟩ := x; exact ⟨st _ _ p fun o q => k _ _ (.inl rfl) q, ⟨o, k _ _ (.inl rfl) e⟩, st⟩
theorem HOk.lt (x : HOk P w H h) (e : H a = some o) : a < h.objs.size := (x a o e).lt
theorem HOk.fresh (x : HOk P w H h) (e : h.objs.size ≤ a) : H a = none := by
  cases q : H a with
  | none => rfl
  | some u => exact absurd (Nat.lt_of_lt_of_le (x.lt q) e) (Nat.lt_irrefl _)
theorem HOk.kept (x : HOk P w H h) (k : ∀ b u, h.get? b = some u → h'.get? b = some u) : HOk P w H h' := fun a o e =>
  (x a o e).stay (fun b u _ q => k b u q) (fun _ q => q) fun _ _ q => q
theorem HOk.laid (x : HOk P w H h) (k : ∀ b u, h.get? b = some u → h'.get? b = some u) (hp : h.objs.size ≤ a) (new : ObjOk P w (upd H a o) h' a o) : HOk P w (upd H a o) h' := fun b u e => by
  have hn := x.fresh hp
  by_cases hb : b = a
  · subst hb; rw [upd_same] at e; cases e; exact new
  · rw [upd_ne hb] at e
    exact (x b u e).stay (fun c v _ q => k c v q) (fun c q => by rw [upd_ne (ne_of_none q hn)]; exact q) fun c xs q => by rw [upd_ne (ne_of_none q hn)]; exact q
end
noncomputable def Rd (H : Hp) (a : Addr) (u : HO) : Prop := H a = some u ∨ ∃ o, H a = some (.frz o u)
theorem Rd.ok {P : Program} {w : World} {H : Hp} {h : Heap} {a : Addr} {u : HO} (r : Rd H a u) (x : HOk P w H h) : ObjOk P w H h a u := by
  rcases r with r | ⟨o, r⟩
  · exact x a u r
  · obtain ⟨_, q⟩ := x a _ r
    exact q
noncomputable def Mut : Option HO → Prop
  | some (.lst _) => True
  | some (.dK _) => True
  | some (.dT _) => True
  | some (.set _ _) => True
  | some (.ins _ _ _) => True
  | some (.ext _) => True
  | _ => False
section
variable {P : Program} {w : World} {H : Hp} {h h' : Heap} {x e : Addr} {o' : HO}
theorem HOk.write (ok : HOk P w H h) (mu : Mut (H x)) (he : e = x ∨ H e = some (.own x)) (k : ∀ b u, b ≠ e → h.get? b = some u → h'.get? b = some u) (heo : ∃ u, h'.get? e = some u)
    (new : ObjOk P w (upd H x o') h' x o') : HOk P w (upd H x o') h' := fun b u q => by
  have nown : ∀ c y, H c = some (.own y) → c ≠ x := fun c y r z => by subst z; rw [r] at mu; exact mu
  have ntup : ∀ c xs, H c = some (.tup xs) → c ≠ x := fun c xs r z => by subst z; rw [r] at mu; exact mu
  by_cases hb : b = x
  · subst hb; rw [upd_same] at q; cases q; exact new
  · rw [upd_ne hb] at q
    by_cases hbe : b = e
    · have q' : H b = some (.own x) := by
        rcases he with z | z
        · exact absurd (hbe.trans z) hb
        · rw [hbe]; exact z
      rw [q] at q'; cases q'
      obtain ⟨v, hv⟩ := heo
      exact ⟨v, by rw [hbe]; exact hv⟩
    · refine (ok b u q).stay (fun c v hc r => k c v ?_ r) (fun c r => by rw [upd_ne (nown c b r)]; exact r) fun c xs r => by rw [upd_ne (ntup c xs r)]; exact r
      rcases hc with rfl | hc
      · exact hbe
      · rintro rfl
        rcases he with z | z
        · exact nown c b hc z
        · rw [hc] at z; cases z; exact hb rfl
end
structure Un (fs ex : List Addr) (H H' : Hp) (h h' : Heap) : Prop where
  keep : ∀ b o, h.get? b = some o → H b = none → b ∉ fs → b ∉ ex → h'.get? b = some o
  slot : ∀ b o, h.get? b = some o → H b = none → b ∈ fs → b ∉ ex → ∃ sl, h'.get? b = some { o with slots := sl }
  free : ∀ b o, h.get? b = some o → H b = none → b ∉ ex → H' b = none
  there : ∀ b o, h.get? b = some o → b ∉ ex → ∃ o', h'.get? b = some o'
  tups : ∀ b xs, H b = some (.tup xs) → H' b = some (.tup xs)
  frzs : ∀ b o u, H b = some (.frz o u) → H' b = some (.frz o u)
  tbls : ∀ b ps, H b = some (.tbl ps) → ∃ more, H' b = some (.tbl (ps ++ more))
section
variable {fs fs' ex ex' : List Addr} {H H1 H2 : Hp} {h h1 h2 h' : Heap} {a x e : Addr} {o : HO}
theorem Un.any (u : Un fs ex H H1 h h1) {b : Addr} {ob : Obj} (q : h.get? b = some ob) (n : H b = none) (hx : b ∉ ex) : ∃ sl, h1.get? b = some { ob with slots := sl } := by
  by_cases hb : b ∈ fs
  · exact u.slot b ob q n hb hx
  · exact ⟨ob.slots, u.keep b ob q n hb hx⟩
theorem Un.kept (k : ∀ b u, h.get? b = some u → h'.get? b = some u) : Un fs ex H H h h' :=
  ⟨fun b ob q _ _ _ => k b ob q, fun b ob q _ _ _ => ⟨ob.slots, k b ob q⟩, fun _ _ _ n _ => n, fun b ob q _ => ⟨ob, k b ob q⟩, fun _ _ q => q, fun _ _ _ q => q, fun _ ps q => ⟨#[], by rw [q]; simp⟩⟩
theorem Un.refl : Un fs ex H H h h := Un.kept fun _ _ q => q
theorem Un.laid (k : ∀ b u, h.get? b = some u → h'.get? b = some u) (hp : h.objs.size ≤ a) (hn : H a = none) : Un fs ex H (upd H a o) h h' where
  keep := fun b u q _ _ _ => k b u q
  slot := fun b u q _ _ _ => ⟨u.slots, k b u q⟩
  free := fun b u q n _ => by rw [upd_ne (Nat.ne_of_lt (Nat.lt_of_lt_of_le (Heap.lt_size q) hp))]; exact n
  there := fun b u q _ => ⟨u, k b u q⟩
  tups := fun b xs q => by rw [upd_ne (ne_of_none q hn)]; exact q
  frzs := fun b u xs q => by rw [upd_ne (ne_of_none q hn)]; exact q
  tbls := fun b ps q => ⟨#[], by rw [upd_ne (ne_of_none q hn), q]; simp⟩
theorem Un.write (mu : Mut (H x)) (he : e = x ∨ H e = some (.own x)) (k : ∀ b u, b ≠ e → h.get? b = some u → h'.get? b = some u) (heo : ∃ u, h'.get? e = some u) : Un fs ex H (upd H x o) h h' := by
  have hx : ∀ b, H b = none → b ≠ x := fun b n z => by subst z; rw [n] at mu; exact mu
  have hb : ∀ b, H b = none → b ≠ e := fun b n z => by
    subst z
    rcases he with r | r
    · exact hx b n r
    · rw [n] at r; cases r
  have hm : ∀ b u, H b = some u → ¬ Mut (some u) → b ≠ x := fun b u q nm z => by subst z; rw [q] at mu; exact nm mu
  refine ⟨fun b u q n _ _ => k b u (hb b n) q, fun b u q n _ _ => ⟨u.slots, k b u (hb b n) q⟩, fun b u q n _ => by rw [upd_ne (hx b n)]; exact n, fun b u q _ => ?_,
    fun b xs q => by rw [upd_ne (hm b _ q fun z => z)]; exact q, fun b u xs q => by rw [upd_ne (hm b _ q fun z => z)]; exact q, fun b ps q => ⟨#[], by rw [upd_ne (hm b _ q fun z => z), q]; simp⟩⟩
  by_cases hbe : b = e
  · subst hbe; exact heo
  · exact ⟨u, k b u hbe q⟩
end
noncomputable def trk (h : Heap) (H : Hp) : List Addr := (List.range h.objs.size).filter fun a => (H a).isSome
noncomputable def hidT (h : Heap) (H : Hp) : Heap := PySem.W.hideAll h (trk h H)
theorem hidT_size (h : Heap) (H : Hp) : (hidT h H).objs.size = h.objs.size := PySem.W.hideAll_size _ _
theorem hidT_get {h : Heap} {H : Hp} {b : Addr} {o : Obj} (e : h.get? b = some o) (n : H b = none) : (hidT h H).get? b = some o :=
  PySem.W.hideAll_get _ e fun hm => by
    have q : (H b).isSome = true := (List.mem_filter.mp hm).2
    rw [n] at q; simp at q
theorem of_hidT {h : Heap} {H : Hp} {b : Addr} {o : Obj} (e : (hidT h H).get? b = some o) : h.get? b = some o ∧ H b = none := by
  have e' : h.get? b = some o := PySem.W.of_hideAll (trk h H) e
  refine ⟨e', ?_⟩
  cases q : H b with
  | none => rfl
  | some x =>
    have hm : b ∈ trk h H := List.mem_filter.mpr ⟨List.mem_range.mpr (Heap.lt_size e'), by simp [q]⟩
    have z : (hidT h H).get? b = none := PySem.W.hideAll_none (trk h H) hm
    rw [z] at e; cases e
end L2
namespace L2
open PySem PySem.Spec PyProof.Rows
structure Mod (K : PySem.W.Frag) (mg : Str → Option Value) (base : Heap) : Prop where
  kin : K.In base
  glob : base.Ns mainGlobals mg
  blt : ∃ mb, base.Ns builtinsNs mb ∧ ∀ x : Str, x ≠ "__name__" → mb x = bootBuiltins x
  nolimit : base.NoLimit
structure Cx where
  prog : Program
  w : World
  K : PySem.W.Frag
  mg : Str → Option Value
  base : Heap
  A : Around
  N : List Str
  s₀ : Shared
  H₀ : Hp
  env : Env
  outer : List Env
  stack : List Env
  ex : List Addr
  fn : Str → Bool
  calm : Bool
  pn : List (Addr × Obj)
  xe : Value → Shared → Prop
noncomputable def frs (l : List Env) : List Addr := l.filterMap (·.frame)
noncomputable abbrev Cx.fs (X : Cx) : List Addr := frs X.outer
noncomputable def Vis (sc : Scope) (x : Str) : Prop := sc.names.lookup x = some .local ∨ sc.names.lookup x = some .cell ∨ sc.names.lookup x = some .free
noncomputable def Loc (sc : Scope) (x : Str) : Prop := sc.names.lookup x = some .local ∨ sc.names.lookup x = some .cell
noncomputable def Look (env : Env) (h : Heap) (m : Str → Option Value) (x : Str) (u : Value) : Prop :=
  (env.kindOf x = some .local ∧ m x = some u) ∨ ((env.kindOf x = some .cell ∨ env.kindOf x = some .free) ∧ ∃ c, env.cells.lookup x = some c ∧ h.IsCell c (some u))
structure Cx.Ok (X : Cx) : Prop where
  mod : Mod X.K X.mg X.base
  kind : X.env.scope.kind = .function
  glob : X.env.globals = mainGlobals
  blt : X.env.builtins = builtinsNs
  above : X.s₀.heap.objs.size ≤ X.env.locals
  inj : ∀ x y c, X.env.cells.lookup x = some c → X.env.cells.lookup y = some c → x = y
  has : ∀ x, (X.env.kindOf x = some .cell ∨ X.env.kindOf x = some .free) → ∃ c, X.env.cells.lookup x = some c
  cab : ∀ x c, X.fn x = true → X.env.cells.lookup x = some c → X.s₀.heap.objs.size ≤ c
  hd : X.calm = true → X.A.handled = none
  frames : X.A.frames = some X.stack
  stk : X.stack = X.outer ∨ (X.stack = X.env :: X.outer ∧ X.env.frame = some X.env.locals)
  exf : ∀ b ∈ X.ex, b ≠ X.env.locals ∧ ∀ x c, X.env.cells.lookup x = some c → c ≠ b
  bs : ∀ b o, X.base.get? b = some o → X.s₀.heap.get? b = some o ∧ X.H₀ b = none
  bsz : X.base.objs.size ≤ X.s₀.heap.objs.size
  noex : ∀ b o, X.base.get? b = some o → b ∉ X.ex
  exfs : ∀ b ∈ X.ex, b ∉ X.fs
  funs : X.s₀.heap.FunFrames X.base X.outer
  frf : ∀ b ∈ X.fs, X.H₀ b = none
structure Inv (X : Cx) (pins : List (Addr × Obj)) (σ : List (Option V)) (H : Hp) (s : Shared) : Prop where
  ok : X.Ok
  os : s.os = X.s₀.os
  bare : AllBare s.gens
  base : Un X.fs X.ex X.H₀ H X.s₀.heap s.heap
  loc : ∃ m, s.heap.Ns X.env.locals m ∧ ∀ (i : Nat) (x : Str) (v : V), X.N[i]? = some x → σ[i]? = some (some v) → Vis X.env.scope x → ∃ u, RelV v u ∧ Look X.env s.heap m x u
  cell : ∀ x c, X.env.cells.lookup x = some c → ∃ v, s.heap.IsCell c v
  free : H X.env.locals = none
  freeC : ∀ x c, X.env.cells.lookup x = some c → H c = none
  pin : ∀ p ∈ X.pn ++ pins, s.heap.get? p.1 = some p.2 ∧ H p.1 = none ∧ p.1 ≠ X.env.locals ∧ p.1 ∉ X.fs ∧ ∀ v, p.2.data ≠ .cell v
  hok : HOk X.prog X.w H s.heap
  len : σ.length = X.N.length
section
variable {X : Cx} {pins : List (Addr × Obj)} {σ : List (Option V)} {H H' : Hp} {s : Shared} {h' : Heap}
theorem Cx.Ok.nofr (ok : X.Ok) {b : Addr} {o : Obj} (e : X.base.get? b = some o) : b ∉ X.fs := fun hb => by
  have := (ok.funs.mem hb).1
  rw [e] at this; cases this
theorem Inv.bs (I : Inv X pins σ H s) : ∀ b o, X.base.get? b = some o → s.heap.get? b = some o ∧ H b = none := fun b o e =>
  ⟨I.base.keep b o (I.ok.bs b o e).1 (I.ok.bs b o e).2 (I.ok.nofr e) (I.ok.noex b o e), I.base.free b o (I.ok.bs b o e).1 (I.ok.bs b o e).2 (I.ok.noex b o e)⟩
theorem Inv.bk (I : Inv X pins σ H s) : ∀ b o, X.base.get? b = some o → s.heap.get? b = some o := fun b o e => (I.bs b o e).1
theorem Inv.mod (I : Inv X pins σ H s) : Mod X.K X.mg X.base := I.ok.mod
theorem Inv.kIn (I : Inv X pins σ H s) : X.K.In s.heap := I.ok.mod.kin.keeps I.bk
theorem Inv.fr (I : Inv X pins σ H s) : ∃ m, Fr X.base X.env.locals s.heap m :=
  let ⟨m, hn, _⟩ := I.loc
  ⟨m, hn, I.bk, Nat.le_trans I.ok.bsz I.ok.above⟩
theorem Inv.lt (I : Inv X pins σ H s) : X.env.locals < s.heap.objs.size := let ⟨_, hn, _⟩ := I.loc; hn.lt
theorem Inv.sz (I : Inv X pins σ H s) : X.s₀.heap.objs.size ≤ s.heap.objs.size := Nat.le_trans I.ok.above (Nat.le_of_lt I.lt)
theorem Inv.nofs (I : Inv X pins σ H s) {a : Addr} (h : s.heap.objs.size ≤ a) : a ∉ X.fs := fun hb => by
  obtain ⟨_, o, ho, _⟩ := I.ok.funs.mem hb
  exact absurd (Nat.lt_of_lt_of_le (Heap.lt_size ho) (Nat.le_trans I.sz h)) (Nat.lt_irrefl _)
theorem Inv.cne (I : Inv X pins σ H s) : ∀ x c, X.env.cells.lookup x = some c → c ≠ X.env.locals := fun x c e z => by
  obtain ⟨v, o, ho, hd⟩ := I.cell x c e
  obtain ⟨m, ⟨o', es, ep, ho', hd', _⟩, _⟩ := I.loc
  rw [z, ho'] at ho; cases ho; rw [hd'] at hd; cases hd
theorem Inv.funs (I : Inv X pins σ H s) : s.heap.FunFrames X.base X.outer := by
  have all : ∀ (l : List Env), (∀ b ∈ frs l, b ∈ X.fs) → X.s₀.heap.FunFrames X.base l → s.heap.FunFrames X.base l := by
    intro l
    induction l with
    | nil => intro _ _; trivial
    | cons env r ih =>
      intro hs hl
      obtain ⟨hk, ⟨L, o, hf, hn, ho, hd⟩, hr⟩ := hl
      have hL : L ∈ X.fs := hs L (by unfold frs; rw [List.filterMap_cons, hf]; exact List.mem_cons_self)
      obtain ⟨sl, e⟩ := I.base.slot L o ho (I.ok.frf L hL) hL fun z => I.ok.exfs L z hL
      exact ⟨hk, ⟨L, _, hf, hn, e, hd⟩, ih (fun b hb => hs b (by unfold frs; rw [List.filterMap_cons, hf]; exact List.mem_cons_of_mem _ hb)) hr⟩
  exact all X.outer (fun _ hb => hb) I.ok.funs
theorem Inv.stack (I : Inv X pins σ H s) : s.heap.FunFrames X.base X.stack := by
  rcases I.ok.stk with e | ⟨e, hf⟩
  · rw [e]; exact I.funs
  · rw [e]
    obtain ⟨m, hn, _⟩ := I.loc
    refine .cons (by rw [I.ok.kind]; decide) hf hn ?_ I.funs
    exact Heap.get?_none_of_le (Nat.le_trans I.ok.bsz I.ok.above)
theorem Inv.stkSub (I : Inv X pins σ H s) : ∀ b ∈ frs X.stack, b ∈ X.env.locals :: X.fs := fun b hb => by
  rcases I.ok.stk with e | ⟨e, hf⟩
  · rw [e] at hb; exact List.mem_cons_of_mem _ hb
  · rw [e] at hb
    unfold frs at hb
    rw [List.filterMap_cons, hf] at hb
    exact hb
theorem Inv.stkFree (I : Inv X pins σ H s) : ∀ b ∈ frs X.stack, H b = none := fun b hb => by
  rcases List.mem_cons.mp (I.stkSub b hb) with e | hb
  · rw [e]; exact I.free
  · obtain ⟨_, o, ho, _⟩ := I.ok.funs.mem hb
    exact I.base.free b o ho (I.ok.frf b hb) fun z => I.ok.exfs b z hb
theorem Inv.step {g' : Array GenState} {t' : Nat} {d' : Drawn} {ch : List Addr} (I : Inv X pins σ H s)
    (hch : ∀ b ∈ ch, (b ∈ X.ex ∨ X.s₀.heap.objs.size ≤ b) ∧ b ≠ X.env.locals ∧ (∀ x c, X.env.cells.lookup x = some c → c ≠ b) ∧ ∀ p ∈ X.pn ++ pins, p.1 ≠ b)
    (keep : ∀ b o, b ≠ X.env.locals → b ∉ X.fs → b ∉ ch → s.heap.get? b = some o → H b = none → h'.get? b = some o)
    (slot : ∀ b o, b ≠ X.env.locals → b ∈ X.fs → b ∉ ch → s.heap.get? b = some o → H b = none → ∃ sl, h'.get? b = some { o with slots := sl }) (free : ∀ b o, b ∉ ch → s.heap.get? b = some o → H b = none → H' b = none)
    (there : ∀ b o, b ∉ ch → s.heap.get? b = some o → ∃ o', h'.get? b = some o')
    (tups : ∀ b xs, H b = some (.tup xs) → H' b = some (.tup xs)) (frzs : ∀ b o u, H b = some (.frz o u) → H' b = some (.frz o u)) (tbls : ∀ b ps, H b = some (.tbl ps) → ∃ more, H' b = some (.tbl (ps ++ more)))
    (ns : ∀ m, s.heap.Ns X.env.locals m → h'.Ns X.env.locals m) (hok : HOk X.prog X.w H' h') (hg : AllBare g') :
    Inv X pins σ H' { s with heap := h', gens := g', drawn := d', toks := t' } := by
  have neL : ∀ b o, X.s₀.heap.get? b = some o → b ≠ X.env.locals := fun b o e => Nat.ne_of_lt (Nat.lt_of_lt_of_le (Heap.lt_size e) I.ok.above)
  have neC : ∀ b o, X.s₀.heap.get? b = some o → b ∉ X.ex → b ∉ ch := fun b o e hx hb => by
    rcases (hch b hb).1 with z | z
    · exact hx z
    · exact absurd (Nat.lt_of_lt_of_le (Heap.lt_size e) z) (Nat.lt_irrefl _)
  have cellK : ∀ x c, X.env.cells.lookup x = some c → ∀ v, s.heap.IsCell c v → h'.IsCell c v := fun x c e v ⟨o, ho, hd⟩ => by
    have nch : c ∉ ch := fun z => (hch c z).2.2.1 x c e rfl
    by_cases hc : c ∈ X.fs
    · obtain ⟨sl, q⟩ := slot c o (I.cne x c e) hc nch ho (I.freeC x c e)
      exact ⟨_, q, hd⟩
    · exact ⟨o, keep c o (I.cne x c e) hc nch ho (I.freeC x c e), hd⟩
  refine ⟨I.ok, I.os, hg, ⟨fun b o e n hb hx => ?_, fun b o e n hb hx => ?_, fun b o e n hx => ?_, fun b o e hx => ?_, fun b xs e => tups b xs (I.base.tups b xs e), fun b o xs e => frzs b o xs (I.base.frzs b o xs e), fun b ps e => ?_⟩, ?_, fun x c e => ?_, ?_, fun x c e => ?_, fun p hp => ?_, hok, I.len⟩
  · exact keep b o (neL b o e) hb (neC b o e hx) (I.base.keep b o e n hb hx) (I.base.free b o e n hx)
  · obtain ⟨sl, e1⟩ := I.base.slot b o e n hb hx
    obtain ⟨sl', e2⟩ := slot b _ (neL b o e) hb (neC b o e hx) e1 (I.base.free b o e n hx)
    exact ⟨sl', e2⟩
  · obtain ⟨o', e1⟩ := I.base.there b o e hx
    exact free b o' (neC b o e hx) e1 (I.base.free b o e n hx)
  · obtain ⟨o', e1⟩ := I.base.there b o e hx
    exact there b o' (neC b o e hx) e1
  · obtain ⟨m1, e1⟩ := I.base.tbls b ps e
    obtain ⟨m2, e2⟩ := tbls b _ e1
    exact ⟨m1 ++ m2, by rw [e2, Array.append_assoc]⟩
  · obtain ⟨m, hn, hl⟩ := I.loc
    refine ⟨m, ns m hn, fun i x v e1 e2 e3 => ?_⟩
    obtain ⟨u, r, l⟩ := hl i x v e1 e2 e3
    refine ⟨u, r, ?_⟩
    rcases l with l | ⟨k, c, e, z⟩
    · exact .inl l
    · exact .inr ⟨k, c, e, cellK x c e _ z⟩
  · obtain ⟨v, z⟩ := I.cell x c e
    exact ⟨v, cellK x c e v z⟩
  · obtain ⟨m, ⟨o, _, _, ho, _⟩, _⟩ := I.loc
    exact free _ o (fun z => (hch _ z).2.1 rfl) ho I.free
  · obtain ⟨v, o, ho, hd⟩ := I.cell x c e
    exact free c o (fun z => (hch c z).2.2.1 x c e rfl) ho (I.freeC x c e)
  · obtain ⟨e, n, ne, nf, d⟩ := I.pin p hp
    have nch : p.1 ∉ ch := fun z => (hch p.1 z).2.2.2 p hp rfl
    exact ⟨keep p.1 p.2 ne nf nch e n, free p.1 p.2 nch e n, ne, nf, d⟩
theorem Inv.un {t' : Nat} (I : Inv X pins σ H s) (u : Un X.fs [] H H' s.heap h') (hok : HOk X.prog X.w H' h') : Inv X pins σ H' { s with heap := h', toks := t' } := by
  obtain ⟨m, ⟨o, es, ep, ho, r⟩, _⟩ := id I.loc
  obtain ⟨sl, hL⟩ := u.any ho I.free (by simp)
  exact I.step (g' := s.gens) (d' := s.drawn) (ch := []) (fun _ z => nomatch z) (fun b o _ hb _ e n => u.keep b o e n hb (by simp)) (fun b o _ hb _ e n => u.slot b o e n hb (by simp)) (fun b o _ e n => u.free b o e n (by simp)) (fun b o _ e => u.there b o e (by simp)) u.tups u.frzs u.tbls (fun m' hm => by
    obtain ⟨o', es', ep', ho', r'⟩ := hm
    rw [ho] at ho'; cases ho'
    exact ⟨_, es', ep', hL, r'⟩) hok I.bare
theorem Inv.call {g' : Array GenState} {t' : Nat} {d' : Drawn} {ch : List Addr} (I : Inv X pins σ H s) (u : Un (frs X.stack) ch H H' s.heap h') (hok : HOk X.prog X.w H' h') (hg : AllBare g')
    (hch : ∀ b ∈ ch, (b ∈ X.ex ∨ X.s₀.heap.objs.size ≤ b) ∧ b ≠ X.env.locals ∧ (∀ x c, X.env.cells.lookup x = some c → c ≠ b) ∧ ∀ p ∈ X.pn ++ pins, p.1 ≠ b) :
    Inv X pins σ H' { s with heap := h', gens := g', drawn := d', toks := t' } := by
  obtain ⟨m, ⟨o, es, ep, ho, r⟩, _⟩ := id I.loc
  obtain ⟨sl, hL⟩ := u.any ho I.free fun z => (hch _ z).2.1 rfl
  exact I.step (ch := ch) hch (fun b o hL hb hc e n => u.keep b o e n (fun z => (List.mem_cons.mp (I.stkSub b z)).elim hL hb) hc) (fun b o _ _ hc e n => u.any e n hc) (fun b o hc e n => u.free b o e n hc) (fun b o hc e => u.there b o e hc) u.tups u.frzs u.tbls (fun m' hm => by
    obtain ⟨o', es', ep', ho', r'⟩ := hm
    rw [ho] at ho'; cases ho'
    exact ⟨_, es', ep', hL, r'⟩) hok hg
theorem Inv.turned {t' : Nat} {it : Addr} (I : Inv X pins σ H s) (k : ∀ b o, b ≠ it → s.heap.get? b = some o → h'.get? b = some o) (hn : H it = none) (hL : it ≠ X.env.locals)
    (h1 : it ∈ X.ex ∨ X.s₀.heap.objs.size ≤ it) (h2 : ∀ x c, X.env.cells.lookup x = some c → c ≠ it) (h3 : ∀ p ∈ X.pn ++ pins, p.1 ≠ it) : Inv X pins σ H { s with heap := h', toks := t' } := by
  have nit : ∀ b u, H b = some u → b ≠ it := fun b u e z => by rw [z, hn] at e; cases e
  refine I.step (g' := s.gens) (d' := s.drawn) (ch := [it]) (fun b hb => ?_) (fun b o _ _ hc e _ => k b o (fun z => hc (by simp [z])) e) (fun b o _ _ hc e _ => ⟨o.slots, k b o (fun z => hc (by simp [z])) e⟩) (fun _ _ _ _ n => n)
    (fun b o hc e => ⟨o, k b o (fun z => hc (by simp [z])) e⟩) (fun _ _ e => e) (fun _ _ _ e => e) (fun b ps e => ⟨#[], by rw [e]; simp⟩) (fun m hm => ?_) (fun b u e => ?_) I.bare
  · have e : b = it := by simpa using hb
    subst e
    exact ⟨h1, hL, h2, h3⟩
  · obtain ⟨o, es, ep, ho, r⟩ := hm
    exact ⟨o, es, ep, k _ o (Ne.symm hL) ho, r⟩
  · refine (I.hok b u e).stay (fun c v hc q => k c v ?_ q) (fun _ q => q) fun _ _ q => q
    rcases hc with z | z
    · rw [z]; exact nit b u e
    · exact nit c _ z
theorem Inv.tok (I : Inv X pins σ H s) (t : Nat) : Inv X pins σ H { s with toks := t } := I.un (h' := s.heap) (t' := t) Un.refl I.hok
theorem Inv.kept {t' : Nat} (I : Inv X pins σ H s) (k : ∀ b u, s.heap.get? b = some u → h'.get? b = some u) : Inv X pins σ H { s with heap := h', toks := t' } := I.un (Un.kept k) (I.hok.kept k)
theorem Inv.laid {a : Addr} {o : HO} {t' : Nat} (I : Inv X pins σ H s) (k : ∀ b u, s.heap.get? b = some u → h'.get? b = some u) (hp : s.heap.objs.size ≤ a) (new : ObjOk X.prog X.w (upd H a o) h' a o) :
    Inv X pins σ (upd H a o) { s with heap := h', toks := t' } := I.un (Un.laid k hp (I.hok.fresh hp)) (I.hok.laid k hp new)
theorem Inv.write {x e : Addr} {o : HO} {t' : Nat} (I : Inv X pins σ H s) (mu : Mut (H x)) (he : e = x ∨ H e = some (.own x)) (k : ∀ b u, b ≠ e → s.heap.get? b = some u → h'.get? b = some u) (heo : ∃ u, h'.get? e = some u)
    (new : ObjOk X.prog X.w (upd H x o) h' x o) : Inv X pins σ (upd H x o) { s with heap := h', toks := t' } := I.un (Un.write mu he k heo) (I.hok.write mu he k heo new)
theorem Inv.weak {σ' : List (Option V)} (I : Inv X pins σ H s) (hl : σ'.length = σ.length) (w : ∀ (i : Nat) v, σ'[i]? = some (some v) → σ[i]? = some (some v)) : Inv X pins σ' H s :=
  ⟨I.ok, I.os, I.bare, I.base, let ⟨m, hn, hl'⟩ := I.loc; ⟨m, hn, fun i x v e1 e2 e3 => hl' i x v e1 (w i v e2) e3⟩, I.cell, I.free, I.freeC, I.pin, I.hok, hl.trans I.len⟩
theorem Inv.pins_of {pins' : List (Addr × Obj)} (I : Inv X pins σ H s) (h : ∀ p ∈ pins', s.heap.get? p.1 = some p.2 ∧ H p.1 = none ∧ p.1 ≠ X.env.locals ∧ p.1 ∉ X.fs ∧ ∀ v, p.2.data ≠ .cell v) : Inv X pins' σ H s :=
  ⟨I.ok, I.os, I.bare, I.base, I.loc, I.cell, I.free, I.freeC, fun p hp => (List.mem_append.mp hp).elim (fun z => I.pin p (List.mem_append_left _ z)) (h p), I.hok, I.len⟩
theorem nodup_ix {N : List Str} (hN : N.Nodup) {i j : Nat} {x : Str} (a : N[i]? = some x) (b : N[j]? = some x) : i = j := by
  obtain ⟨h1, e1⟩ := List.getElem?_eq_some_iff.mp a
  obtain ⟨h2, e2⟩ := List.getElem?_eq_some_iff.mp b
  exact (List.getElem_inj hN).mp (e1.trans e2.symm)
theorem store_ok2 {M : Model} {A : Around} {E : Value → Shared → Prop} {i : Nat} {x : Str} {v : V} {u : Value} {Q : Unit → Shared → Prop} (I : Inv X pins σ H s) (hN : X.N.Nodup) (hi : X.N[i]? = some x) (hx : Loc X.env.scope x) (r : RelV v u)
    (h : ∀ s', Inv X pins (σ.set i (some v)) H s' → (∃ a, Heap.SameBut a s.heap s'.heap ∧ (a = X.env.locals ∨ X.env.cells.lookup x = some a)) → Q () s') (hf : X.fn x = true ∨ X.env.scope.names.lookup x = some .local := by first | exact .inl rfl | exact .inr rfl | assumption) : wpAny M A (storeName X.env x u) Q E s := by
  obtain ⟨m, hn, hl⟩ := id I.loc
  have hcls : (X.env.scope.kind == .class || (X.env.scope.kind == .module && X.env.locals != X.env.globals)) = false := by rw [I.ok.kind]; rfl
  have hiσ : i < σ.length := by rw [I.len]; exact (List.getElem?_eq_some_iff.mp hi).1
  have cne := I.cne
  have tracked : ∀ {a : Addr} {h' : Heap}, (∃ o, s.heap.get? a = some o ∧ H a = none) → Heap.SameBut a s.heap h' → HOk X.prog X.w H h' := fun {a h'} ha hs b ob e => by
    obtain ⟨_, _, hfree⟩ := ha
    refine (I.hok b ob e).stay (fun c w' hc q => (hs.2 c ?_).trans q) (fun _ q => q) fun _ _ q => q
    rintro rfl
    rcases hc with rfl | hc
    · rw [hfree] at e; cases e
    · rw [hfree] at hc; cases hc
  rcases hx with hk | hk
  · refine wpAny_storeName_local hk hn (fun h' hn' hs => ?_) hcls
    obtain ⟨oL, _, _, hoL, _⟩ := id hn
    refine h _ ⟨I.ok, I.os, I.bare, ⟨fun b o e n hb hx => ?_, fun b o e n hb hx => ?_, I.base.free, fun b o e hx => ?_, I.base.tups, I.base.frzs, I.base.tbls⟩, ⟨_, hn', fun j y v' e1 e2 e3 => ?_⟩, fun y c e => ?_, I.free, I.freeC, fun p hp => ?_, tracked ⟨oL, hoL, I.free⟩ hs, by simpa using I.len⟩ ⟨_, hs, .inl rfl⟩
    · exact (hs.2 b (Nat.ne_of_lt (Nat.lt_of_lt_of_le (Heap.lt_size e) I.ok.above))).trans (I.base.keep b o e n hb hx)
    · obtain ⟨sl, e1⟩ := I.base.slot b o e n hb hx
      exact ⟨sl, (hs.2 b (Nat.ne_of_lt (Nat.lt_of_lt_of_le (Heap.lt_size e) I.ok.above))).trans e1⟩
    · obtain ⟨o', e1⟩ := I.base.there b o e hx
      exact ⟨o', (hs.2 b (Nat.ne_of_lt (Nat.lt_of_lt_of_le (Heap.lt_size e) I.ok.above))).trans e1⟩
    · by_cases hj : j = i
      · subst hj
        rw [hi] at e1; cases e1
        rw [List.getElem?_set_self hiσ] at e2
        cases e2
        exact ⟨u, r, .inl ⟨hk, by simp⟩⟩
      · rw [List.getElem?_set_ne (Ne.symm hj)] at e2
        obtain ⟨u', r', q⟩ := hl j y v' e1 e2 e3
        refine ⟨u', r', ?_⟩
        rcases q with ⟨k, e⟩ | ⟨k, c, e, z⟩
        · refine .inl ⟨k, ?_⟩
          have : y ≠ x := fun e => hj (nodup_ix hN e1 (e ▸ hi))
          simp [this, e]
        · exact .inr ⟨k, c, e, z.sameBut hs (cne y c e)⟩
    · obtain ⟨w', z⟩ := I.cell y c e
      exact ⟨w', z.sameBut hs (cne y c e)⟩
    · obtain ⟨e, n, ne, nf, d⟩ := I.pin p hp
      exact ⟨(hs.2 p.1 ne).trans e, n, ne, nf, d⟩
  · have hfn : X.fn x = true := by
      rcases hf with z | z
      · exact z
      · rw [z] at hk; cases hk
    obtain ⟨c, hc⟩ := I.ok.has x (.inl hk)
    obtain ⟨w', z⟩ := I.cell x c hc
    refine wpAny_storeName_cell I.ok.kind hk hc z (fun h' hc' hs => ?_)
    obtain ⟨oc, hoc, hocd⟩ := id z
    refine h { s with heap := h' } ⟨I.ok, I.os, I.bare, ⟨fun b o e n hb hx => ?_, fun b o e n hb hx => ?_, I.base.free, fun b o e hx => ?_, I.base.tups, I.base.frzs, I.base.tbls⟩, ⟨m, hn.sameBut hs (Ne.symm (cne x c hc)), fun j y v' e1 e2 e3 => ?_⟩, fun y c' e => ?_, I.free, I.freeC, fun p hp => ?_, tracked ⟨oc, hoc, I.freeC x c hc⟩ hs, by simpa using I.len⟩ ⟨c, hs, .inr hc⟩
    · exact (hs.2 b (Nat.ne_of_lt (Nat.lt_of_lt_of_le (Heap.lt_size e) (I.ok.cab x c hfn hc)))).trans (I.base.keep b o e n hb hx)
    · obtain ⟨sl, e1⟩ := I.base.slot b o e n hb hx
      exact ⟨sl, (hs.2 b (Nat.ne_of_lt (Nat.lt_of_lt_of_le (Heap.lt_size e) (I.ok.cab x c hfn hc)))).trans e1⟩
    · obtain ⟨o', e1⟩ := I.base.there b o e hx
      exact ⟨o', (hs.2 b (Nat.ne_of_lt (Nat.lt_of_lt_of_le (Heap.lt_size e) (I.ok.cab x c hfn hc)))).trans e1⟩
    · by_cases hj : j = i
      · subst hj
        rw [hi] at e1; cases e1
        rw [List.getElem?_set_self hiσ] at e2
        cases e2
        exact ⟨u, r, .inr ⟨.inl hk, c, hc, hc'⟩⟩
      · rw [List.getElem?_set_ne (Ne.symm hj)] at e2
        obtain ⟨u', r', q⟩ := hl j y v' e1 e2 e3
        refine ⟨u', r', ?_⟩
        rcases q with q | ⟨k, c', e, z'⟩
        · exact .inl q
        · refine .inr ⟨k, c', e, z'.sameBut hs ?_⟩
          rintro rfl
          exact hj (nodup_ix hN e1 (I.ok.inj _ _ _ e hc ▸ hi))
    · by_cases hcc : c' = c
      · subst hcc; exact ⟨_, hc'⟩
      · obtain ⟨w2, z2⟩ := I.cell y c' e
        exact ⟨w2, z2.sameBut hs hcc⟩
    · obtain ⟨e, n, ne, nf, d⟩ := I.pin p hp
      refine ⟨(hs.2 p.1 ?_).trans e, n, ne, nf, d⟩
      intro q
      rw [q, hoc] at e
      have q' : oc = p.2 := Option.some.inj e
      exact d w' (by rw [← q']; exact hocd)
theorem store_ok {M : Model} {A : Around} {E : Value → Shared → Prop} {i : Nat} {x : Str} {v : V} {u : Value} {Q : Unit → Shared → Prop} (I : Inv X pins σ H s) (hN : X.N.Nodup) (hi : X.N[i]? = some x) (hx : Loc X.env.scope x) (r : RelV v u)
    (h : ∀ s', Inv X pins (σ.set i (some v)) H s' → Q () s') (hf : X.fn x = true ∨ X.env.scope.names.lookup x = some .local := by first | exact .inl rfl | exact .inr rfl | assumption) : wpAny M A (storeName X.env x u) Q E s :=
  store_ok2 I hN hi hx r (fun s' I' _ => h s' I') hf
end
noncomputable abbrev XK := Value → Option Addr → Hp → Prop
noncomputable abbrev St := List (Option V)
noncomputable abbrev VK := V → Hp → Prop
noncomputable abbrev TE := St → Hp → VK → Prop
noncomputable abbrev TT := St → Hp → (Bool → Hp → Prop) → Prop
noncomputable abbrev TA := St → Hp → (List V → Hp → Prop) → Prop
structure Ends where
  nx : St → Hp → Prop
  rt : VK
  bk : St → Hp → Prop := fun _ _ => False
  ct : St → Hp → Prop := fun _ _ => False
noncomputable abbrev TS := Ends → St → Hp → Prop
noncomputable def EP (X : Cx) (pins : List (Addr × Obj)) (σ : St) (Q : VK) (u : Value) (s' : Shared) : Prop := ∃ v H', Inv X pins σ H' s' ∧ RelV v u ∧ Q v H'
noncomputable def TP (X : Cx) (pins : List (Addr × Obj)) (σ : St) (Q : Bool → Hp → Prop) (b : Bool) (s' : Shared) : Prop := ∃ H', Inv X pins σ H' s' ∧ Q b H'
noncomputable def AP (X : Cx) (pins : List (Addr × Obj)) (σ : St) (Q : List V → Hp → Prop) (us : List Value) (s' : Shared) : Prop := ∃ vs H', Inv X pins σ H' s' ∧ Vals vs us ∧ Q vs H'
noncomputable def SP (X : Cx) (pins : List (Addr × Obj)) (D : Ends) (f : Flow) (s' : Shared) : Prop :=
  match f with
  | .next => ∃ σ' H', Inv X pins σ' H' s' ∧ D.nx σ' H'
  | .brk => ∃ σ' H', Inv X pins σ' H' s' ∧ D.bk σ' H'
  | .cont => ∃ σ' H', Inv X pins σ' H' s' ∧ D.ct σ' H'
  | .ret u => ∃ v σ' H', Inv X pins σ' H' s' ∧ RelV v u ∧ D.rt v H'
noncomputable def PE (X : Cx) (e : Expr) (t : TE) : Prop :=
  ∀ (pins : List (Addr × Obj)) (s : Shared) (σ : St) (H : Hp) (Q : VK), Inv X pins σ H s → t σ H Q → wpAny (model X.prog X.w) X.A (eval e X.env) (EP X pins σ Q) X.xe s
noncomputable def PT (X : Cx) (e : Expr) (t : TT) : Prop :=
  ∀ (pins : List (Addr × Obj)) (s : Shared) (σ : St) (H : Hp) (Q : Bool → Hp → Prop), Inv X pins σ H s → t σ H Q → wpAny (model X.prog X.w) X.A (isTrue e X.env (eval e X.env)) (TP X pins σ Q) X.xe s
noncomputable def PW (X : Cx) (e : Expr) (t : TT) : Prop :=
  ∀ (whole : Sem Value) (pins : List (Addr × Obj)) (s : Shared) (σ : St) (H : Hp) (Q : Bool → Hp → Prop), Inv X pins σ H s → t σ H Q → wpAny (model X.prog X.w) X.A (isTrue e X.env whole) (TP X pins σ Q) X.xe s
theorem PW.pt {X : Cx} {e : Expr} {t : TT} (h : PW X e t) : PT X e t := h _
noncomputable def PA (X : Cx) (es : List Expr) (t : TA) : Prop :=
  ∀ (pos : Pos) (pins : List (Addr × Obj)) (s : Shared) (σ : St) (H : Hp) (Q : List V → Hp → Prop), Inv X pins σ H s → t σ H Q → wpAny (model X.prog X.w) X.A (spliced (backTo pos (starEach es X.env))) (AP X pins σ Q) X.xe s
noncomputable def PS (X : Cx) (st : Stmt) (t : TS) : Prop :=
  ∀ (pins : List (Addr × Obj)) (s : Shared) (σ : St) (H : Hp) (D : Ends), Inv X pins σ H s → t D σ H → wpAny (model X.prog X.w) X.A (exec st X.env) (SP X pins D) X.xe s
noncomputable def PSs (X : Cx) (st : List Stmt) (t : TS) : Prop :=
  ∀ (pins : List (Addr × Obj)) (s : Shared) (σ : St) (H : Hp) (D : Ends), Inv X pins σ H s → t D σ H → wpAny (model X.prog X.w) X.A (execs st X.env) (SP X pins D) X.xe s
theorem thn {α : Type} {t : Sem α} {Q Q' : α → Shared → Prop} {M : Model} {A : Around} {E : Value → Shared → Prop} {s : Shared} (h : wpAny M A t Q E s) (hQ : ∀ a s, Q a s → Q' a s) : wpAny M A t Q' E s := wpAny_mono h hQ fun _ _ x => x
end L2
namespace L2
open PySem PySem.Spec PyProof.Rows
section
variable {X : Cx}
theorem bin {a b : Expr} {ta tb : TE} (ha : PE X a ta) (hb : PE X b tb) {pins : List (Addr × Obj)} {s : Shared} {σ : St} {H : Hp} {R : V → V → Hp → Prop} (I : Inv X pins σ H s) (h : ta σ H fun x H1 => tb σ H1 fun y H2 => R x y H2)
    {α : Type} {Q : α → Shared → Prop} {f : Value → Value → Sem α}
    (hf : ∀ v u s2 x y H2, Inv X pins σ H2 s2 → RelV x v → RelV y u → R x y H2 → wpAny (model X.prog X.w) X.A (f v u) Q X.xe s2) :
    wpAny (model X.prog X.w) X.A (eval a X.env) (fun v s₁ => wpAny (model X.prog X.w) X.A (eval b X.env) (fun u s₂ => wpAny (model X.prog X.w) X.A (f v u) Q X.xe s₂) X.xe s₁) X.xe s := by
  refine thn (ha pins s σ H _ I h) fun v s1 ⟨x, H1, I1, r1, q1⟩ => ?_
  refine thn (hb pins s1 σ H1 _ I1 q1) fun u s2 ⟨y, H2, I2, r2, q2⟩ => ?_
  exact hf v u s2 x y H2 I2 r1 r2 q2
noncomputable def tVar (i : Nat) : TE := fun σ H Q => ∃ v, σ[i]? = some (some v) ∧ Q v H
noncomputable def tC (v : V) : TE := fun _ H Q => Q v H
theorem pe_var {i : Nat} {x : Str} {pos : Pos} (hN : X.N[i]? = some x) (hv : Vis X.env.scope x) (hd : (x == ("__debug__" : Str)) = false := by decide) (hcd : (x == ("__classdict__" : Str)) = false := by decide) : PE X (.Name x pos) (tVar i) := by
  intro pins s σ H Q I h
  obtain ⟨v, e, h⟩ := h
  obtain ⟨m, hn, hl⟩ := I.loc
  obtain ⟨u, r, l⟩ := hl i x v hN e hv
  have fin : EP X pins σ Q u s := ⟨v, H, I, r, h⟩
  rcases l with ⟨hk, hm⟩ | ⟨hk, c, hc, hcell⟩
  · exact wpAny_Name (wpAny_loadName_local I.ok.kind hk hn hm fin) hd
  · rcases hk with hk | hk
    · exact wpAny_Name (wpAny_loadName_cell I.ok.kind hk hc hcell fin) hd
    · exact wpAny_Name (wpAny_loadName_free I.ok.kind hk hc hcell fin hcd) hd
theorem pe_int {i j pos} : PE X (.Constant (.int i) j pos) (tC (.int i)) := fun _ _ _ H _ I h => wpAny_Constant_int ⟨.int i, H, I.tok _, ⟨_, rfl⟩, h⟩
theorem pe_bl {b j pos} : PE X (.Constant (.bool b) j pos) (tC (.bl b)) := fun _ _ _ H _ I h => Constant_bool ⟨.bl b, H, I, rfl, h⟩
theorem pe_non {j pos} : PE X (.Constant .none j pos) (tC .non) := fun _ _ _ H _ I h => Constant_none ⟨.non, H, I, rfl, h⟩
theorem pe_str {x j pos} : PE X (.Constant (.str x) j pos) (tC (.str x)) := fun _ _ _ H _ I h => Calls.Constant_str ⟨.str x, H, I.tok _, ⟨_, rfl⟩, h⟩
noncomputable def Gl (X : Cx) (x : Str) : Prop := X.env.kindOf x = some .globalImplicit
theorem ld_glob {E : Value → Shared → Prop} {pins : List (Addr × Obj)} {s : Shared} {σ : St} {H : Hp} {x : Str} {u : Value} {pos : Pos} {Q : Value → Shared → Prop} (I : Inv X pins σ H s) (hg : Gl X x) (hm : X.mg x = some u) (h : Q u s)
    (hd : (x == ("__debug__" : Str)) = false := by decide) : wpAny (model X.prog X.w) X.A (eval (.Name x pos) X.env) Q E s :=
  Calls.Name_function_global I.ok.kind hg (Calls.loadGlobal_global (by rw [I.ok.glob]; exact I.mod.glob.keeps I.bk) hm h) hd
theorem ld_blt {E : Value → Shared → Prop} {pins : List (Addr × Obj)} {s : Shared} {σ : St} {H : Hp} {x : Str} {u : Value} {pos : Pos} {Q : Value → Shared → Prop} (I : Inv X pins σ H s) (hg : Gl X x) (hm : X.mg x = none) (hv : bootBuiltins x = some u) (h : Q u s)
    (hn : x ≠ "__name__" := by decide) (hd : (x == ("__debug__" : Str)) = false := by decide) : wpAny (model X.prog X.w) X.A (eval (.Name x pos) X.env) Q E s := by
  obtain ⟨mb, h1, h2⟩ := I.mod.blt
  exact Calls.Name_function_global I.ok.kind hg (Calls.loadGlobal_builtin (by rw [I.ok.glob]; exact I.mod.glob.keeps I.bk) hm (by rw [I.ok.blt]; exact h1.keeps I.bk) ((h2 x hn).trans hv) h) hd
theorem pe_glob {x : Str} {v : V} {u : Value} {pos : Pos} (hg : Gl X x) (hm : X.mg x = some u) (r : RelV v u) (hd : (x == ("__debug__" : Str)) = false := by decide) : PE X (.Name x pos) (tC v) :=
  fun _ _ _ H _ I h => ld_glob I hg hm ⟨v, H, I, r, h⟩ hd
theorem pe_bltn {x : Str} {v : V} {u : Value} {pos : Pos} (hg : Gl X x) (hm : X.mg x = none) (hv : bootBuiltins x = some u) (r : RelV v u) (hn : x ≠ "__name__" := by decide) (hd : (x == ("__debug__" : Str)) = false := by decide) : PE X (.Name x pos) (tC v) :=
  fun _ _ _ H _ I h => ld_blt I hg hm hv ⟨v, H, I, r, h⟩ hn hd
variable {a b : Expr} {ta tb : TE} {pos : Pos}
noncomputable def PC (X : Cx) (op : CmpOp) (a b : Expr) (t : TE) : Prop :=
  ∀ (pins : List (Addr × Obj)) (s : Shared) (σ : St) (H : Hp) (Q : VK), Inv X pins σ H s → t σ H Q →
    wpAny (model X.prog X.w) X.A (eval a X.env) (fun v s₁ => wpAny (model X.prog X.w) X.A (eval b X.env) (fun u s₂ => wpAny (model X.prog X.w) X.A (compareOp op v u) (EP X pins σ Q) X.xe s₂) X.xe s₁) X.xe s
theorem nobehind (b : Expr) {op : CmpOp} (h : op ≠ .In) (h2 : op ≠ .NotIn) : behindInMarks op b = false := by
  have e1 : (op == CmpOp.In) = false := by cases op <;> first | rfl | exact absurd rfl h
  have e2 : (op == CmpOp.NotIn) = false := by cases op <;> first | rfl | exact absurd rfl h2
  cases b <;> simp [behindInMarks, e1, e2]
noncomputable def tIsN (ta : TE) : TE := fun σ H Q => ta σ H fun x H1 => Q (.bl (decide (x = .non))) H1
noncomputable def tNotN (ta : TE) : TE := fun σ H Q => ta σ H fun x H1 => Q (.bl (!decide (x = .non))) H1
theorem RelV.none_iff {x : V} {v : Value} (r : RelV x v) : (v == Value.none) = decide (x = .non) := by
  cases x with
  | non => cases r; rfl
  | bl _ => cases r; rfl
  | int _ => obtain ⟨t, rfl⟩ := r; rfl
  | str _ => obtain ⟨t, rfl⟩ := r; rfl
  | byt _ => obtain ⟨t, rfl⟩ := r; rfl
  | flt _ => obtain ⟨t, rfl⟩ := r; rfl
  | ref _ => cases r; rfl
  | ty _ => cases r; rfl
theorem pc_isN {j pos'} (ha : PE X a ta) : PC X .Is a (.Constant .none j pos') (tIsN ta) := by
  intro pins s σ H Q I h
  refine thn (ha pins s σ H _ I h) fun v s1 ⟨x, H1, I1, r1, q1⟩ => ?_
  exact Constant_none (is_none_gen ⟨.bl _, H1, I1, by rw [r1.none_iff]; rfl, q1⟩)
theorem pc_notN {j pos'} (ha : PE X a ta) : PC X .IsNot a (.Constant .none j pos') (tNotN ta) := by
  intro pins s σ H Q I h
  refine thn (ha pins s σ H _ I h) fun v s1 ⟨x, H1, I1, r1, q1⟩ => ?_
  exact Constant_none (isnot_none_gen ⟨.bl _, H1, I1, by rw [r1.none_iff]; rfl, q1⟩)
noncomputable def tB (t : TE) : TT := fun σ H Q => t σ H fun x H1 => ∃ c, x = .bl c ∧ Q c H1
theorem pe_cmp {op : CmpOp} {t : TE} (h : PC X op a b t) (h1 : behindInMarks op b = false := by first | exact nobehind _ (by decide) (by decide) | rfl) : PE X (.Compare a [op] [b] pos) t := fun pins s σ H Q I hw => wpAny_Compare1 (h pins s σ H Q I hw) h1
theorem pt_cmp {op : CmpOp} {t : TE} (h : PC X op a b t) (h1 : behindInMarks op b = false := by first | exact nobehind _ (by decide) (by decide) | rfl) : PT X (.Compare a [op] [b] pos) (tB t) := by
  intro pins s σ H Q I hw
  refine wpAny_isTrue_Compare1 (thn (h pins s σ H _ I hw) fun v s1 h1 => thn h1 fun u s2 h2 => thn h2 fun c s3 ⟨x, H1, I1, r1, q1⟩ => ?_) h1
  obtain ⟨d, rfl, q⟩ := q1
  cases r1
  exact wpAny_truthy_bool ⟨H1, I1, q⟩
variable {tA tB' : TT} {rest : List Expr}
noncomputable def tAnd (t u : TT) : TT := fun σ H Q => t σ H fun c H1 => if c = true then u σ H1 Q else Q false H1
noncomputable def tOr (t u : TT) : TT := fun σ H Q => t σ H fun c H1 => if c = true then Q true H1 else u σ H1 Q
noncomputable def tNot (t : TT) : TT := fun σ H Q => t σ H fun c H1 => Q (!c) H1
theorem pw_and1 (ha : PT X a tA) : PW X (.BoolOp .And [a] pos) tA := by
  intro wh pins s σ H Q I h
  refine isTrue_and (thn (ha pins s σ H Q I h) fun c s1 e => ?_)
  cases c with
  | true => exact isTrue_and_nil e
  | false => exact e
theorem pw_or1 (ha : PT X a tA) : PW X (.BoolOp .Or [a] pos) tA := by
  intro wh pins s σ H Q I h
  refine isTrue_or (thn (ha pins s σ H Q I h) fun c s1 e => ?_)
  cases c with
  | false => exact isTrue_or_nil e
  | true => exact e
theorem pw_and (ha : PT X a tA) (hb : PW X (.BoolOp .And (b :: rest) pos) tB') : PW X (.BoolOp .And (a :: b :: rest) pos) (tAnd tA tB') := by
  intro wh pins s σ H Q I h
  refine isTrue_and (thn (ha pins s σ H _ I h) fun c s1 ⟨H1, I1, q1⟩ => ?_)
  cases c with
  | true => exact hb wh pins s1 σ H1 Q I1 q1
  | false => exact ⟨H1, I1, q1⟩
theorem pw_or (ha : PT X a tA) (hb : PW X (.BoolOp .Or (b :: rest) pos) tB') : PW X (.BoolOp .Or (a :: b :: rest) pos) (tOr tA tB') := by
  intro wh pins s σ H Q I h
  refine isTrue_or (thn (ha pins s σ H _ I h) fun c s1 ⟨H1, I1, q1⟩ => ?_)
  cases c with
  | true => exact ⟨H1, I1, q1⟩
  | false => exact hb wh pins s1 σ H1 Q I1 q1
theorem pt_not (ha : PT X a tA) : PT X (.UnaryOp .Not a pos) (tNot tA) := by
  intro pins s σ H Q I h
  exact isTrue_not (ha pins s σ H (fun c H1 => Q (!c) H1) I h)
noncomputable def tAndV (ta tb : TE) : TE := fun σ H Q => ta σ H fun x H1 => ∃ c, x = .bl c ∧ if c = true then tb σ H1 Q else Q (.bl false) H1
noncomputable def tOrV (ta tb : TE) : TE := fun σ H Q => ta σ H fun x H1 => ∃ c, x = .bl c ∧ if c = true then Q (.bl true) H1 else tb σ H1 Q
noncomputable def tNotV (ta : TE) : TE := fun σ H Q => ta σ H fun x H1 => ∃ c, x = .bl c ∧ Q (.bl (!c)) H1
theorem pe_one {op} {t : TE} (h : PE X a t) : PE X (.BoolOp op [a] pos) t := fun pins s σ H Q I hw => BoolOp_one (h pins s σ H Q I hw)
theorem pe_and (ha : PE X a ta) (hb : PE X (.BoolOp .And (b :: rest) pos) tb) : PE X (.BoolOp .And (a :: b :: rest) pos) (tAndV ta tb) := by
  intro pins s σ H Q I h
  refine BoolOp_and (thn (ha pins s σ H _ I h) fun v s1 ⟨x, H1, I1, r1, q1⟩ => ?_)
  obtain ⟨c, rfl, q1⟩ := q1
  cases r1
  refine wpAny_truthy_bool ?_
  cases c with
  | true => exact hb pins s1 σ H1 Q I1 q1
  | false => exact ⟨.bl false, H1, I1, rfl, q1⟩
theorem pe_or (ha : PE X a ta) (hb : PE X (.BoolOp .Or (b :: rest) pos) tb) : PE X (.BoolOp .Or (a :: b :: rest) pos) (tOrV ta tb) := by
  intro pins s σ H Q I h
  refine BoolOp_or (thn (ha pins s σ H _ I h) fun v s1 ⟨x, H1, I1, r1, q1⟩ => ?_)
  obtain ⟨c, rfl, q1⟩ := q1
  cases r1
  refine wpAny_truthy_bool ?_
  cases c with
  | false => exact hb pins s1 σ H1 Q I1 q1
  | true => exact ⟨.bl true, H1, I1, rfl, q1⟩
theorem pe_not (ha : PE X a ta) : PE X (.UnaryOp .Not a pos) (tNotV ta) := by
  intro pins s σ H Q I h
  refine UnaryOp_ (thn (ha pins s σ H _ I h) fun v s1 ⟨x, H1, I1, r1, q1⟩ => ?_)
  obtain ⟨c, rfl, q1⟩ := q1
  cases r1
  exact not_of (wpAny_truthy_bool ⟨.bl (!c), H1, I1, rfl, q1⟩)
end
end L2
namespace L2
open PySem PySem.Spec PyProof.Rows
noncomputable def SqL (K : PySem.W.Frag) (H : Hp) (a : Addr) (xs : List V) : Prop :=
  Rd H a (.lst xs) ∨
    ∃ (o : Obj) (its : Array Value) (n : Nat), K.lookup a = some o ∧ o.cls = .type "list" ∧ o.dict = none ∧ o.data = .seq its n ∧ its.size ≤ sizeLine ∧ Vals xs its.toList
noncomputable def SqT (K : PySem.W.Frag) (H : Hp) (a : Addr) (xs : List V) : Prop :=
  Rd H a (.tup xs) ∨
    ∃ (o : Obj) (its : Array Value) (n : Nat), K.lookup a = some o ∧ o.cls = .type "tuple" ∧ o.data = .seq its n ∧ its.size ≤ sizeLine ∧ Vals xs its.toList
noncomputable def absV : Value → Option V
  | .none => some .non
  | .bool b => some (.bl b)
  | .int i _ => some (.int i)
  | .str x _ => some (.str x)
  | .bytes b _ => some (.byt b)
  | .float b _ => some (.flt b)
  | .ref a => some (.ref a)
  | .type n => some (.ty n)
  | _ => none
theorem RelV.abs {x : V} {u : Value} (r : RelV x u) : absV u = some x := by
  cases x with
  | non => cases r; rfl
  | bl _ => cases r; rfl
  | int _ => obtain ⟨t, rfl⟩ := r; rfl
  | str _ => obtain ⟨t, rfl⟩ := r; rfl
  | byt _ => obtain ⟨t, rfl⟩ := r; rfl
  | flt _ => obtain ⟨t, rfl⟩ := r; rfl
  | ref _ => cases r; rfl
  | ty _ => cases r; rfl
theorem RelV.inj {x y : V} {u : Value} (r : RelV x u) (q : RelV y u) : x = y := Option.some.inj (r.abs.symm.trans q.abs)
theorem Vals.inj : ∀ {xs ys : List V} {us : List Value}, Vals xs us → Vals ys us → xs = ys
  | _, _, _, .nil, .nil => rfl
  | _, _, _, .cons r t, .cons r' t' => by rw [r.inj r', Vals.inj t t']
section
variable {X : Cx} {pins : List (Addr × Obj)} {σ : St} {H : Hp} {s : Shared} {a : Addr} {xs ys : List V}
theorem SqL.of {K : PySem.W.Frag} (h : H a = some (.lst xs)) : SqL K H a xs := .inl (.inl h)
theorem SqT.of {K : PySem.W.Frag} (h : H a = some (.tup xs)) : SqT K H a xs := .inl (.inl h)
theorem Inv.list (I : Inv X pins σ H s) (h : SqL X.K H a xs) : ∃ its : List Value, Vals xs its ∧ PlainL s.heap a its.toArray ∧ xs.length ≤ sizeLine := by
  rcases h with h | ⟨o, its, n, hk, hc, hd, hs, hz, r⟩
  · obtain ⟨z, its, n, r, e⟩ := h.ok I.hok
    exact ⟨its, r, ⟨_, n, e, rfl, rfl, rfl⟩, z⟩
  · refine ⟨its.toList, r, ⟨o, n, I.kIn a o hk, hc, hd, by simpa using hs⟩, ?_⟩
    have e := r.length
    simp only [Array.length_toList] at e
    omega
theorem Inv.tuple (I : Inv X pins σ H s) (h : SqT X.K H a xs) : ∃ its : List Value, Vals xs its ∧ IsTup s.heap a its.toArray ∧ xs.length ≤ sizeLine := by
  rcases h with h | ⟨o, its, n, hk, hc, hs, hz, r⟩
  · obtain ⟨z, its, r, p⟩ := h.ok I.hok
    exact ⟨its, r, p, z⟩
  · refine ⟨its.toList, r, ⟨o, I.kIn a o hk, hc, n, by simpa using hs⟩, ?_⟩
    have e := r.length
    simp only [Array.length_toList] at e
    omega
theorem Inv.list_inj (I : Inv X pins σ H s) (h : SqL X.K H a xs) (h' : SqL X.K H a ys) : xs = ys := by
  obtain ⟨its, r, ⟨o, n, e, _, _, d⟩, _⟩ := I.list h
  obtain ⟨its', r', ⟨o', n', e', _, _, d'⟩, _⟩ := I.list h'
  rw [e] at e'; cases e'
  rw [d] at d'
  injection d' with d1 _
  have : its = its' := by simpa using congrArg Array.toList d1
  subst this
  exact r.inj r'
theorem Inv.tuple_inj (I : Inv X pins σ H s) (h : SqT X.K H a xs) (h' : SqT X.K H a ys) : xs = ys := by
  obtain ⟨its, r, ⟨o, e, _, n, d⟩, _⟩ := I.tuple h
  obtain ⟨its', r', ⟨o', e', _, n', d'⟩, _⟩ := I.tuple h'
  rw [e] at e'; cases e'
  rw [d] at d'
  injection d' with d1 _
  have : its = its' := by simpa using congrArg Array.toList d1
  subst this
  exact r.inj r'
end
section
variable {X : Cx} {pins : List (Addr × Obj)} {σ : St} {H : Hp} {s : Shared} {E : Value → Shared → Prop}
end
section
variable {X : Cx} {st : Stmt} {rest : List Stmt} {t u : TS} {e : Expr} {te : TE} {pos : Pos}
noncomputable def tNext : TS := fun D σ H => D.nx σ H
noncomputable def tSeq (t u : TS) : TS := fun D σ H => t { D with nx := u D } σ H
theorem pss_nil : PSs X [] tNext := fun _ _ σ H _ I h => wpAny_execs_nil ⟨σ, H, I, h⟩
theorem pss_cons (h1 : PS X st t) (h2 : PSs X rest u) : PSs X (st :: rest) (tSeq t u) := by
  intro pins s σ H D I h
  refine wpAny_execs_cons (thn (h1 pins s σ H { D with nx := u D } I h) fun f s1 q => ?_)
  cases f with
  | next =>
    obtain ⟨σ', H', I', q⟩ := q
    exact h2 pins s1 σ' H' D I' q
  | ret v => exact q
  | brk => exact q
  | cont => exact q
theorem pss_one (h1 : PS X st t) : PSs X [st] t := by
  intro pins s σ H D I h
  refine wpAny_execs_cons (thn (h1 pins s σ H D I h) fun f s1 q => ?_)
  cases f with
  | next => exact wpAny_execs_nil q
  | ret v => exact q
  | brk => exact q
  | cont => exact q
theorem Inv.quiet {pins : List (Addr × Obj)} {σ : St} {H : Hp} {s : Shared} (I : Inv X pins σ H s) : interactive X.env = false := by simp [interactive, I.ok.kind]
noncomputable def tDrop (te : TE) : TS := fun D σ H => te σ H fun _ H1 => D.nx σ H1
theorem ps_expr (he : PE X e te) (hs : swapsWith e none pos.line X.env = pure false := by rfl) : PS X (.Expr e pos) (tDrop te) := by
  intro pins s σ H D I h
  exact wpAny_Expr_any (thn (he pins s σ H _ I h) fun v s1 ⟨x, H1, I1, r1, q1⟩ => ⟨σ, H1, I1, q1⟩) I.quiet hs
noncomputable def tRet (te : TE) : TS := fun D σ H => te σ H D.rt
theorem ps_ret (he : PE X e te) : PS X (.Return (some e) pos) (tRet te) := by
  intro pins s σ H D I h
  exact wpAny_Return_some (thn (he pins s σ H _ I h) fun v s1 ⟨x, H1, I1, r1, q1⟩ => ⟨x, σ, H1, I1, r1, q1⟩)
noncomputable def tIfS (c : TT) (t u : TS) : TS := fun D σ H => c σ H fun b H1 => if b = true then t D σ H1 else u D σ H1
theorem ps_if {c : Expr} {a b : List Stmt} {tc : TT} (hc : PT X c tc) (ha : PSs X a t) (hb : PSs X b u) : PS X (.If c a b pos) (tIfS tc t u) := by
  intro pins s σ H D I h
  refine wpAny_If (thn (hc pins s σ H _ I h) fun d s1 ⟨H1, I1, q1⟩ => ?_)
  cases d with
  | true => exact ha pins s1 σ H1 D I1 q1
  | false => exact hb pins s1 σ H1 D I1 q1
end
noncomputable abbrev TG := V → St → Hp → (St → Hp → Prop) → Prop
noncomputable abbrev TGs := List V → St → Hp → (St → Hp → Prop) → Prop
noncomputable def PG (X : Cx) (target : Expr) (t : TG) : Prop :=
  ∀ (pins : List (Addr × Obj)) (s : Shared) (σ : St) (H : Hp) (v : V) (u : Value) (Q : St → Hp → Prop), Inv X pins σ H s → RelV v u → t v σ H Q →
    wpAny (model X.prog X.w) X.A (assign target X.env u) (fun _ s' => ∃ σ' H', Inv X pins σ' H' s' ∧ Q σ' H') X.xe s
noncomputable def PGs (X : Cx) (ts : List Expr) (t : TGs) : Prop :=
  ∀ (pins : List (Addr × Obj)) (s : Shared) (σ : St) (H : Hp) (vs : List V) (us : List Value) (Q : St → Hp → Prop), Inv X pins σ H s → Vals vs us → t vs σ H Q →
    wpAny (model X.prog X.w) X.A (assignInOrder ((assignEach ts X.env).map (·.2)) us) (fun _ s' => ∃ σ' H', Inv X pins σ' H' s' ∧ Q σ' H') X.xe s
noncomputable abbrev TSet := V → V → V → Hp → (Hp → Prop) → Prop
noncomputable def PSet (X : Cx) (t : TSet) : Prop :=
  ∀ (pins : List (Addr × Obj)) (s : Shared) (σ : St) (H : Hp) (o i v : V) (ov iv u : Value) (Q : Hp → Prop), Inv X pins σ H s → RelV o ov → RelV i iv → RelV v u → t o i v H Q →
    wpAny (model X.prog X.w) X.A (setItem ov iv u) (fun _ s' => ∃ H', Inv X pins σ H' s' ∧ Q H') X.xe s
section
variable {X : Cx} {pos : Pos}
noncomputable def gName (i : Nat) : TG := fun v σ H Q => Q (σ.set i (some v)) H
theorem pg_name {i : Nat} {x : Str} (hN : X.N.Nodup) (hi : X.N[i]? = some x) (hx : Loc X.env.scope x) (hf : X.fn x = true ∨ X.env.scope.names.lookup x = some .local := by first | exact .inl rfl | exact .inr rfl | assumption) : PG X (.Name x pos) (gName i) := by
  intro pins s σ H v u Q I r h
  exact wpAny_assign_Name (store_ok I hN hi hx r (fun s' I' => ⟨_, H, I', h⟩) hf)
noncomputable def gNil : TGs := fun vs σ H Q => vs = [] ∧ Q σ H
noncomputable def gCons (t : TG) (u : TGs) : TGs := fun vs σ H Q => ∃ v r, vs = v :: r ∧ t v σ H fun σ' H' => u r σ' H' Q
theorem pgs_nil : PGs X [] gNil := by
  intro pins s σ H vs us Q I r h
  obtain ⟨e, h⟩ := h
  subst e
  cases r
  exact assignInOrder_nil ⟨σ, H, I, h⟩
theorem pgs_cons {e : Expr} {es : List Expr} {t : TG} {u : TGs} (h1 : PG X e t) (h2 : PGs X es u)
    (hs : (assignEach (e :: es) X.env).map (·.2) = assign e X.env :: (assignEach es X.env).map (·.2) := by rfl) : PGs X (e :: es) (gCons t u) := by
  intro pins s σ H vs us Q I r h
  obtain ⟨v, vr, e1, h⟩ := h
  subst e1
  cases r with
  | cons r rr =>
    rw [hs]
    refine assignInOrder_cons (thn (h1 pins s σ H _ _ _ I r h) fun _ s1 ⟨σ1, H1, I1, q1⟩ => ?_)
    exact h2 pins s1 σ1 H1 _ _ Q I1 rr q1
noncomputable def gTup (K : PySem.W.Frag) (n : Nat) (t : TGs) : TG := fun v σ H Q => ∃ a xs, v = .ref a ∧ SqT K H a xs ∧ xs.length = n ∧ t xs σ H Q
theorem pg_tup {es : List Expr} {k : Nat} {t : TGs} {n : Nat} (hc : X.calm = true) (h : PGs X es t)
    (hn : (assignEach es X.env).length = n := by rfl) (hst : (assignEach es X.env).findIdx? (·.1) = none := by rfl) : PG X (.Tuple es k pos) (gTup X.K n t) := by
  intro pins s σ H v u Q I r hw
  obtain ⟨a, xs, e1, hq, hl, hw⟩ := hw
  subst e1
  cases r
  obtain ⟨its, rv, ht, hz⟩ := I.tuple hq
  refine assign_Tuple_tuple (I.ok.hd hc) ht (by simp [hn, ← hl, rv.length]) hst fun h' hx => ?_
  have I1 : Inv X pins σ H { s with heap := h' } := I.kept (t' := s.toks) fun b o e => hx b o (Nat.ne_of_lt (Heap.lt_size e)) e
  exact h pins _ σ H xs _ Q I1 (by simpa using rv) hw
noncomputable def gSub (to ti : TE) (t : TSet) : TG := fun v σ H Q => to σ H fun o H1 => ti σ H1 fun i H2 => t o i v H2 fun H3 => Q σ H3
theorem pg_sub {o i : Expr} {to ti : TE} {t : TSet} (ho : PE X o to) (hi : PE X i ti) (hs : PSet X t)
    (ha : ∀ v, assign (.Subscript o i pos) X.env v = (do
      let ov ← holding [v] (eval o X.env)
      let iv ← holding [v, ov] (eval i X.env)
      standAt pos
      holding [v, ov, iv] (setItem ov iv v)
      release [v, ov, iv] []) := by intro _; rfl) : PG X (.Subscript o i pos) (gSub to ti t) := by
  intro pins s σ H v u Q I r h
  rw [ha]
  refine wpAny_bind (wpAny_holding (thn (ho pins s σ H _ I h) fun ov s1 ⟨x, H1, I1, r1, q1⟩ => ?_))
  refine wpAny_bind (wpAny_holding (thn (hi pins s1 σ H1 _ I1 q1) fun iv s2 ⟨y, H2, I2, r2, q2⟩ => ?_))
  refine wpAny_bind (wpAny_standAt (wpAny_bind (wpAny_holding (thn (hs pins s2 σ H2 x y v ov iv u _ I2 r1 r2 r q2) fun _ s3 ⟨H3, I3, q3⟩ => ?_))))
  exact wpAny_release ⟨σ, H3, I3, q3⟩
noncomputable def tAsg (te : TE) (g : TG) : TS := fun D σ H => te σ H fun x H1 => g x σ H1 D.nx
theorem ps_asg {tg e : Expr} {te : TE} {g : TG} (he : PE X e te) (hg : PG X tg g) (hs : swapsWithSole [tg] e pos.line X.env = pure false := by rfl) (hw : swappedStores [tg] e X.env = pure none := by rfl)
    (h1 : (assignEach [tg] X.env).map (·.2) = [assign tg X.env] := by rfl) : PS X (.Assign [tg] e pos) (tAsg te g) := by
  intro pins s σ H D I h
  refine wpAny_Assign_stores (thn (he pins s σ H _ I h) fun v s1 ⟨x, H1, I1, r1, q1⟩ => ?_) hs hw
  rw [h1]
  exact thn (hg pins s1 σ H1 x v _ I1 r1 q1) fun _ s2 q => q
theorem ps_set {i : Nat} {x : Str} {e : Expr} {te : TE} {pos' : Pos} (hN : X.N.Nodup) (hi : X.N[i]? = some x) (hx : Loc X.env.scope x) (he : PE X e te) (hs : swapsWith e (some (.Name x pos')) pos.line X.env = pure false := by rfl) (hf : X.fn x = true ∨ X.env.scope.names.lookup x = some .local := by first | exact .inl rfl | exact .inr rfl | assumption) :
    PS X (.Assign [.Name x pos'] e pos) (tAsg te (gName i)) := by
  intro pins s σ H D I h
  refine wpAny_Assign_Name (thn (he pins s σ H _ I h) fun v s1 ⟨y, H1, I1, r1, q1⟩ => ?_) hs
  exact store_ok I1 hN hi hx r1 (fun s2 I2 => ⟨_, H1, I2, q1⟩) hf
end
section
variable {X : Cx} {pos : Pos}
noncomputable def tWhile (c : TT) (tb : TS) : TS := fun D σ H => ∃ W : Nat → St → Hp → Prop, (∃ m, W m σ H) ∧ ∀ m σ H, W m σ H →
  c σ H fun b H1 => if b = true then ∃ N : St → Hp → Prop, (∀ σ' H', N σ' H' → ∃ m', m' < m ∧ W m' σ' H') ∧ tb { D with nx := N, ct := N, bk := D.nx } σ H1 else D.nx σ H1
theorem ps_while {c : Expr} {body : List Stmt} {tc : TT} {tb : TS} (hp : PassesOwn (model X.prog X.w) X.A X.env X.xe) (hc : PT X c tc) (hb : PSs X body tb) : PS X (.While c body [] pos) (tWhile tc tb) := by
  intro pins s σ H D I h
  obtain ⟨W, ⟨m0, w0⟩, turn⟩ := h
  refine wpAny_While (codeAny_whileLoop (fun n s' => ∃ σ' H', Inv X pins σ' H' s' ∧ W n σ' H') ?_ m0 ⟨σ, H, I, w0⟩)
  rintro n s1 ⟨σ1, H1, I1, w1⟩
  refine wpAny_passesOwn hp (thn (hc pins s1 σ1 H1 _ I1 (turn n σ1 H1 w1)) fun b s2 ⟨H2, I2, q2⟩ => ?_)
  cases b with
  | true =>
    obtain ⟨N, hN, q2⟩ := q2
    rw [if_pos rfl]
    refine wpAny_passesOwn hp (thn (hb pins s2 σ1 H2 _ I2 q2) fun f s3 q3 => ?_)
    cases f with
    | next =>
      obtain ⟨σ3, H3, I3, n3⟩ := q3
      obtain ⟨m', hm, w3⟩ := hN σ3 H3 n3
      exact ⟨m', hm, σ3, H3, I3, w3⟩
    | cont =>
      obtain ⟨σ3, H3, I3, n3⟩ := q3
      obtain ⟨m', hm, w3⟩ := hN σ3 H3 n3
      exact ⟨m', hm, σ3, H3, I3, w3⟩
    | brk => exact q3
    | ret v => exact q3
  | false =>
    rw [if_neg Bool.false_ne_true]
    exact wpAny_execs_nil ⟨σ1, H2, I2, q2⟩
end
structure It where
  go : Nat → Hp → Prop
  yld : Nat → Hp → V → Hp → Prop
  stop : Nat → Hp → Prop
noncomputable def FpOk (X : Cx) (pins : List (Addr × Obj)) (H : Hp) (b : Addr) : Prop :=
  H b = none ∧ b ≠ X.env.locals ∧ b ∉ X.fs ∧ (b ∈ X.ex ∨ X.s₀.heap.objs.size ≤ b) ∧ (∀ x c, X.env.cells.lookup x = some c → c ≠ b) ∧ ∀ p ∈ X.pn ++ pins, p.1 ≠ b
theorem Inv.fpOk {X : Cx} {pins : List (Addr × Obj)} {σ : St} {H H' : Hp} {s : Shared} {b : Addr} (I : Inv X pins σ H s) (hb : s.heap.objs.size ≤ b) (hn : H' b = none) : FpOk X pins H' b := by
  refine ⟨hn, Nat.ne_of_gt (Nat.lt_of_lt_of_le I.lt hb), I.nofs hb, .inr (Nat.le_trans I.sz hb), fun x c e z => ?_, fun p hp z => ?_⟩
  · obtain ⟨v, q⟩ := I.cell x c e
    exact absurd (Nat.lt_of_lt_of_le q.lt (by rw [z]; exact hb)) (Nat.lt_irrefl _)
  · exact absurd (Nat.lt_of_lt_of_le (Heap.lt_size (I.pin p hp).1) (by rw [z]; exact hb)) (Nat.lt_irrefl _)
structure Turn (P : Program) (w : World) (K : PySem.W.Frag) (tg : Expr) (J : It) (fp : List Addr) (it : Addr) (tn : Nat → Heap → Prop) : Prop where
  mem : it ∈ fp
  obj : ∀ i h, tn i h → ∀ b ∈ fp, ∃ o, h.get? b = some o ∧ ∀ v, o.data ≠ .cell v
  keep : ∀ i h h', tn i h → (∀ b ∈ fp, ∀ o, h.get? b = some o → h'.get? b = some o) → tn i h'
  item : ∀ (X : Cx), X.prog = P → X.w = w → X.K = K → X.calm = true → ∀ (i : Nat) (pins : List (Addr × Obj)) (s : Shared) (σ : St) (H : Hp) (E : Value → Shared → Prop), Inv X pins σ H s → (∀ b ∈ fp, FpOk X pins H b) → tn i s.heap → J.go i H →
    wpAny (model P w) X.A (pyNext (.ref it)) (fun r s1 => ∃ u, r = some u ∧
      wpAny (model P w) X.A (letOwnedTupleGo tg (.ref it) u) (fun _ s2 => ∃ x H', Inv X pins σ H' s2 ∧ RelV x u ∧ J.yld i H x H' ∧ tn (i + 1) s2.heap ∧ ∀ b ∈ fp, H' b = none) E s1) E s
  done : ∀ (X : Cx), X.prog = P → X.w = w → X.K = K → X.calm = true → ∀ (i : Nat) (pins : List (Addr × Obj)) (s : Shared) (σ : St) (H : Hp) (E : Value → Shared → Prop), Inv X pins σ H s → (∀ b ∈ fp, FpOk X pins H b) → tn i s.heap → J.stop i H →
    wpAny (model P w) X.A (pyNext (.ref it)) (fun r s1 => r = none ∧ Inv X pins σ H s1) E s
  self : ∀ (A : Around) (i : Nat) (s : Shared) (Q : Value → Shared → Prop) (E : Value → Shared → Prop), tn i s.heap → Q (.ref it) s → wpAny (model P w) A (pyIter (.ref it)) Q E s
noncomputable abbrev TI := St → Hp → (It → Hp → Prop) → Prop
noncomputable def PIE (X : Cx) (pins : List (Addr × Obj)) (σ : St) (tg : Expr) (R : It → Hp → Prop) (itv : Value) (s2 : Shared) : Prop :=
  ∃ (it : Addr) (fp : List Addr) (tn : Nat → Heap → Prop) (J : It) (H' : Hp), itv = .ref it ∧ Inv X pins σ H' s2 ∧ Turn X.prog X.w X.K tg J fp it tn ∧ tn 0 s2.heap ∧ (∀ b ∈ fp, FpOk X pins H' b) ∧ R J H'
noncomputable def PI (X : Cx) (tg iter : Expr) (wi : TI) : Prop :=
  ∀ (pins : List (Addr × Obj)) (s : Shared) (σ : St) (H : Hp) (R : It → Hp → Prop), Inv X pins σ H s → wi σ H R →
    wpAny (model X.prog X.w) X.A (eval iter X.env) (fun v s1 => wpAny (model X.prog X.w) X.A (pyIter v) (PIE X pins σ tg R) X.xe s1) X.xe s
theorem go_of {M : Model} {A : Around} {E : Value → Shared → Prop} {s : Shared} {tg : Expr} {it : Addr} {u : Value} {o : Obj} {n : String} {vs : Array Value} {Q : Unit → Shared → Prop} (ho : s.heap.get? it = some o) (hc : o.cls = .type n) (hd : o.data = .fields vs)
    (hn : ["enumerate", "zip", "dict_itemiterator", "dict_reverseitemiterator", "odict_iterator", "itertools.zip_longest", "itertools.pairwise"].contains n = false) (hQ : Q () s) : wpAny M A (letOwnedTupleGo tg (.ref it) u) Q E s := by
  unfold letOwnedTupleGo
  cases tg <;> first
    | exact wpAny_pure hQ
    | (cases u <;> first
        | exact wpAny_pure hQ
        | (refine wpAny_bind (wpAny_load ho ?_)
           rw [hc, hd]
           show wpAny M A (if (["enumerate", "zip", "dict_itemiterator", "dict_reverseitemiterator", "odict_iterator", "itertools.zip_longest", "itertools.pairwise"].contains n && vs[0]? == some (rawInt _)) = true then _ else _) Q E s
           rw [if_neg (by intro h; rw [hn, Bool.false_and] at h; cases h)]
           exact wpAny_pure hQ))
noncomputable def Itl (K : PySem.W.Frag) (a : Addr) : It :=
  ⟨fun i H => ∃ xs x, SqL K H a xs ∧ xs[i]? = some x, fun i H x H' => H' = H ∧ ∀ xs, SqL K H a xs → xs[i]? = some x, fun i H => ∃ xs, SqL K H a xs ∧ xs.length ≤ i⟩
noncomputable def Itt (K : PySem.W.Frag) (a : Addr) : It :=
  ⟨fun i H => ∃ xs x, SqT K H a xs ∧ xs[i]? = some x, fun i H x H' => H' = H ∧ ∀ xs, SqT K H a xs → xs[i]? = some x, fun i H => ∃ xs, SqT K H a xs ∧ xs.length ≤ i⟩
noncomputable def Itr (lo : Int) (n : Nat) : It := ⟨fun i _ => i < n, fun i H x H' => H' = H ∧ x = .int (lo + i), fun i _ => n ≤ i⟩
theorem turn_list {P : Program} {w : World} {K : PySem.W.Frag} {tg : Expr} (a it : Addr) : Turn P w K tg (Itl K a) [it] it (fun i h => h.IsListIter it a i) where
  mem := by simp
  obj := fun i h st b hb => by
    have e : b = it := by simpa using hb
    subst e
    obtain ⟨o, e, c, d⟩ := st
    exact ⟨o, e, fun v z => by rw [d] at z; cases z⟩
  keep := fun i h h' st k => st.at fun o e => k it (by simp) o e
  item := by
    intro X hP hw hK hc i pins s σ H E I hf st hg
    subst hP hw hK
    obtain ⟨xs, x, hq, hx⟩ := hg
    obtain ⟨its, rv, p, hz⟩ := I.list hq
    obtain ⟨u, hu, ru⟩ := rv.get hx
    obtain ⟨f0, f1, f2, f3, f4, f5⟩ := hf it (by simp)
    refine wpAny_pyNext_list_item st p.isList (x := u) (by simpa using hu) fun h' st' sb => ?_
    have I1 : Inv X pins σ H { s with heap := h' } := I.turned (t' := s.toks) (fun b o hb e => (sb.2 b hb).trans e) f0 f1 f3 f4 f5
    obtain ⟨o, e, c, d⟩ := id st'
    exact ⟨u, rfl, go_of (s := { s with heap := h' }) e c d (by decide) ⟨x, H, I1, ru, ⟨rfl, fun ys hy => by rw [I.list_inj hy hq]; exact hx⟩, st', fun b hb => (hf b hb).1⟩⟩
  done := by
    intro X hP hw hK hc i pins s σ H E I hf st hg
    subst hP hw hK
    obtain ⟨xs, hq, hx⟩ := hg
    obtain ⟨its, rv, p, hz⟩ := I.list hq
    obtain ⟨f0, f1, f2, f3, f4, f5⟩ := hf it (by simp)
    have hl := rv.length
    exact wpAny_pyNext_list_end (I.ok.hd hc) st p.isList (by simp; omega) fun h' eb => ⟨rfl, I.turned (t' := s.toks) (fun b o hb e => eb b o hb e) f0 f1 f3 f4 f5⟩
  self := fun _ _ _ _ _ st h => wpAny_pyIter_listiter st h
theorem turn_tuple {P : Program} {w : World} {K : PySem.W.Frag} {tg : Expr} (a it : Addr) : Turn P w K tg (Itt K a) [it] it (fun i h => h.IsTupleIter it a i) where
  mem := by simp
  obj := fun i h st b hb => by
    have e : b = it := by simpa using hb
    subst e
    obtain ⟨o, e, c, d⟩ := st
    exact ⟨o, e, fun v z => by rw [d] at z; cases z⟩
  keep := fun i h h' st k => st.at fun o e => k it (by simp) o e
  item := by
    intro X hP hw hK hc i pins s σ H E I hf st hg
    subst hP hw hK
    obtain ⟨xs, x, hq, hx⟩ := hg
    obtain ⟨its, rv, p, hz⟩ := I.tuple hq
    obtain ⟨u, hu, ru⟩ := rv.get hx
    obtain ⟨f0, f1, f2, f3, f4, f5⟩ := hf it (by simp)
    refine wpAny_pyNext_tuple_item st (show s.heap.IsTuple a its.toArray from p) (x := u) (by simpa using hu) fun h' st' sb => ?_
    have I1 : Inv X pins σ H { s with heap := h' } := I.turned (t' := s.toks) (fun b o hb e => (sb.2 b hb).trans e) f0 f1 f3 f4 f5
    obtain ⟨o, e, c, d⟩ := id st'
    exact ⟨u, rfl, go_of (s := { s with heap := h' }) e c d (by decide) ⟨x, H, I1, ru, ⟨rfl, fun ys hy => by rw [I.tuple_inj hy hq]; exact hx⟩, st', fun b hb => (hf b hb).1⟩⟩
  done := by
    intro X hP hw hK hc i pins s σ H E I hf st hg
    subst hP hw hK
    obtain ⟨xs, hq, hx⟩ := hg
    obtain ⟨its, rv, p, hz⟩ := I.tuple hq
    obtain ⟨f0, f1, f2, f3, f4, f5⟩ := hf it (by simp)
    have hl := rv.length
    exact wpAny_pyNext_tuple_end (I.ok.hd hc) st (show s.heap.IsTuple a its.toArray from p) (by simp; omega) fun h' eb => ⟨rfl, I.turned (t' := s.toks) (fun b o hb e => eb b o hb e) f0 f1 f3 f4 f5⟩
  self := fun _ _ _ _ _ st h => wpAny_pyIter_tupleiter st h
theorem turn_range {P : Program} {w : World} {K : PySem.W.Frag} {tg : Expr} (it : Addr) (lo : Int) (n : Nat) : Turn P w K tg (Itr lo n) [it] it (fun i h => IsRangeIter h it (lo + (i : Nat) * 1) ((n : Int) - (i : Nat)) 1) where
  mem := by simp
  obj := fun i h st b hb => by
    have e : b = it := by simpa using hb
    subst e
    exact ⟨_, st, fun v z => by
      have z' : Data.fields _ = Data.cell v := z
      cases z'⟩
  keep := fun i h h' st k => k it (by simp) _ st
  item := by
    intro X hP hw hK hc i pins s σ H E I hf st hg
    subst hP hw hK
    obtain ⟨f0, f1, f2, f3, f4, f5⟩ := hf it (by simp)
    have W := Walks.range (prog := X.prog) (w := X.w) (I.ok.hd hc) it lo 1 n
    refine W.item i s _ _ hg st fun v h' tk hv st' kk => ?_
    obtain ⟨t, rfl⟩ := hv
    have I1 : Inv X pins σ H { s with heap := h', toks := tk } := I.turned (fun b o hb e => kk b o (by simpa using hb) e) f0 f1 f3 f4 f5
    refine ⟨_, rfl, go_of (s := { s with heap := h', toks := tk }) (n := "range_iterator") st' rfl rfl (by decide) ⟨.int (lo + i), H, I1, ⟨t, ?_⟩, ⟨rfl, rfl⟩, st', fun b hb => (hf b hb).1⟩⟩
    rw [Int.mul_one]
  done := by
    intro X hP hw hK hc i pins s σ H E I hf st hg
    subst hP hw hK
    obtain ⟨f0, f1, f2, f3, f4, f5⟩ := hf it (by simp)
    exact wpAny_pyNext_range_end (I.ok.hd hc) st (by have : n ≤ i := hg; omega) fun h' eb => ⟨rfl, I.turned (t' := s.toks) (fun b o hb e => eb b o hb e) f0 f1 f3 f4 f5⟩
  self := fun _ _ _ _ _ st h => wpAny_pyIter_rangeiter st h
end L2
namespace L2
open PySem PySem.Spec PyProof.Rows
section
variable {X : Cx} {tg : Expr}
theorem range_it {pins : List (Addr × Obj)} {σ : St} {H : Hp} {s : Shared} {R : It → Hp → Prop} {E : Value → Shared → Prop} {lo hi : Int} {t u v : Tok} {tk : Nat} (I : Inv X pins σ H s) (h1 : -(2 ^ 62) ≤ lo) (h2 : lo < 2 ^ 62) (h3 : -(2 ^ 62) ≤ hi) (h4 : hi < 2 ^ 62)
    (q : R (Itr lo (hi - lo).toNat) H) : wpAny (model X.prog X.w) X.A (pyIter (.ref s.heap.objs.size)) (PIE X pins σ tg R) E { s with heap := s.heap.push { cls := .type "range", data := .fields #[.int lo t, .int hi u, .int 1 v] }, toks := tk } := by
  refine wpAny_pyIter_range (IsRange.new ..) (small_one h1 h2 h3 h4) ?_
  have I1 : Inv X pins σ H { s with heap := s.heap.push { cls := .type "range", data := .fields #[.int lo t, .int hi u, .int 1 v] }, toks := tk } := I.kept fun b o e => Heap.get?_push_of_some _ e
  refine ⟨(s.heap.push { cls := .type "range", data := .fields #[.int lo t, .int hi u, .int 1 v] }).objs.size, [(s.heap.push { cls := .type "range", data := .fields #[.int lo t, .int hi u, .int 1 v] }).objs.size], _, _, H, rfl,
    I1.kept (t' := tk) fun b o e => Heap.get?_push_of_some _ e, turn_range _ lo (hi - lo).toNat, ?_, fun b hb => ?_, q⟩
  · have e1 : lo + ((0 : Nat) : Int) * 1 = lo := by simp
    have e2 : (((hi - lo).toNat : Nat) : Int) - ((0 : Nat) : Int) = Builtin.Range.rangeSize lo hi 1 := by rw [rangeSize_one]; split <;> omega
    show IsRangeIter _ _ (lo + ((0 : Nat) : Int) * 1) ((((hi - lo).toNat : Nat) : Int) - ((0 : Nat) : Int)) 1
    rw [e1, e2]
    exact Heap.get?_push_size _ rfl
  · have e : b = (s.heap.push { cls := .type "range", data := .fields #[.int lo t, .int hi u, .int 1 v] }).objs.size := by simpa using hb
    subst e
    exact I1.fpOk (Nat.le_refl _) (I1.hok.fresh (Nat.le_refl _))
noncomputable def iRng1 (ta : TA) : TI := fun σ H R => ta σ H fun vs H1 => ∃ j : Int, vs = [.int j] ∧ -(2 ^ 62) ≤ j ∧ j < 2 ^ 62 ∧ R (Itr 0 j.toNat) H1
theorem pi_range1 {a : Expr} {ta : TA} {p pos : Pos} (hg : Gl X "range") (hm : X.mg "range" = none) (ha : PA X [a] ta) (hs : starEach [a] X.env = [(false, eval a X.env)] := by rfl) : PI X tg (.Call (.Name "range" p) [a] [] pos) (iRng1 ta) := by
  intro pins s σ H R I h
  refine Call_ (ld_blt I hg hm boot_range (PyProof.Rows.callWith_type1 (thn (ha pos pins s σ H _ I h) fun us s1 ⟨vs, H1, I1, r1, q1⟩ => ?_) hs rfl))
  obtain ⟨j, e, q1, q2, q⟩ := q1
  subst e
  cases r1 with
  | cons r rr =>
    cases rr
    obtain ⟨t, rfl⟩ := r
    exact call_range_1 (range_it I1 (by omega) (by omega) q1 q2 (by simpa using q))
noncomputable def tFor (wi : TI) (g : TG) (tb : TS) : TS := fun D σ H => wi σ H fun J H1 => ∃ W : Nat → Nat → St → Hp → Prop, (∃ m, W 0 m σ H1) ∧ ∀ i m σ H, W i m σ H →
  (J.stop i H ∧ D.nx σ H) ∨ (J.go i H ∧ ∃ N : St → Hp → Prop, (∀ σ' H', N σ' H' → ∃ m', m' < m ∧ W (i + 1) m' σ' H') ∧ ∀ x H', J.yld i H x H' → g x σ H' fun σ2 H2 => tb { D with nx := N, ct := N, bk := D.nx } σ2 H2)
noncomputable def pinsAt (fp : List Addr) (h : Heap) : List (Addr × Obj) := fp.filterMap fun b => (h.get? b).map fun o => (b, o)
theorem mem_pinsAt {fp : List Addr} {h : Heap} {b : Addr} {o : Obj} (hb : b ∈ fp) (e : h.get? b = some o) : (b, o) ∈ pinsAt fp h := List.mem_filterMap.mpr ⟨b, hb, by rw [e]; rfl⟩
theorem of_pinsAt {fp : List Addr} {h : Heap} {p : Addr × Obj} (hp : p ∈ pinsAt fp h) : p.1 ∈ fp ∧ h.get? p.1 = some p.2 := by
  obtain ⟨b, hb, e⟩ := List.mem_filterMap.mp hp
  cases q : h.get? b with
  | none => rw [q] at e; cases e
  | some o =>
    rw [q] at e
    have e' : (b, o) = p := Option.some.inj e
    subst e'
    exact ⟨hb, q⟩
theorem Inv.pinned {pins : List (Addr × Obj)} {σ : St} {H : Hp} {s : Shared} {fp : List Addr} (I : Inv X pins σ H s) (hf : ∀ b ∈ fp, FpOk X pins H b) (ho : ∀ b ∈ fp, ∃ o, s.heap.get? b = some o ∧ ∀ v, o.data ≠ .cell v) : Inv X (pins ++ pinsAt fp s.heap) σ H s :=
  I.pins_of fun p hp => (List.mem_append.mp hp).elim (fun z => I.pin p (List.mem_append_right _ z)) fun z => by
    obtain ⟨hb, e⟩ := of_pinsAt z
    obtain ⟨f0, f1, f2, _⟩ := hf p.1 hb
    obtain ⟨o, e', d⟩ := ho p.1 hb
    rw [e] at e'; cases e'
    exact ⟨e, f0, f1, f2, d⟩
theorem Inv.unpinned {pins pl : List (Addr × Obj)} {σ : St} {H : Hp} {s : Shared} (I : Inv X (pins ++ pl) σ H s) : Inv X pins σ H s := I.pins_of fun p hp => I.pin p (List.mem_append_right _ (List.mem_append_left _ hp))
theorem ps_for {iter : Expr} {body : List Stmt} {wi : TI} {g : TG} {tb : TS} {pos : Pos} (hp : PassesOwn (model X.prog X.w) X.A X.env X.xe) (hc : X.calm = true) (hi : PI X tg iter wi) (hg : PG X tg g) (hb : PSs X body tb)
    (hs : ∀ x, foldedSetIterable iter X.env x = pure x := by intro _; rfl) : PS X (.For tg iter body [] pos) (tFor wi g tb) := by
  intro pins s σ H D I h
  refine wpAny_For (thn (hi pins s σ H _ I h) fun v s1 h1 => thn h1 fun itv s2 h2 => ?_) hs
  obtain ⟨it, fp, tn, J, H2, e, I2, T, st2, f2, W, ⟨m0, w0⟩, turn⟩ := h2
  subst e
  have stat : ∀ {H' : Hp}, (∀ b ∈ fp, H' b = none) → ∀ b ∈ fp, FpOk X pins H' b := fun hn b hb => ⟨hn b hb, (f2 b hb).2⟩
  refine codeAny_forLoop_any (fun n s' => ∃ i σ' H', Inv X pins σ' H' s' ∧ tn i s'.heap ∧ (∀ b ∈ fp, H' b = none) ∧ W i n σ' H') ?_ m0 ⟨0, σ, H2, I2, st2, fun b hb => (f2 b hb).1, w0⟩
  rintro n s3 ⟨i, σ3, H3, I3, st3, fr3, w3⟩
  rcases turn i n σ3 H3 w3 with ⟨stop, qn⟩ | ⟨go, N, hN, step⟩
  · refine wpAny_passesOwn hp (thn (T.done X rfl rfl rfl hc i pins s3 σ3 H3 X.xe I3 (stat fr3) st3 stop) fun r s4 ⟨hr, I4⟩ => ?_)
    subst hr
    exact wpAny_execs_nil ⟨σ3, H3, I4, qn⟩
  · refine wpAny_passesOwn hp (thn (T.item X rfl rfl rfl hc i pins s3 σ3 H3 X.xe I3 (stat fr3) st3 go) fun r s4 ⟨u, hr, h4⟩ => ?_)
    subst hr
    refine wpAny_passesOwn hp (thn h4 fun _ s5 ⟨x, H5, I5, r5, y5, st5, fr5⟩ => ?_)
    have I5' := I5.pinned (stat fr5) (T.obj _ _ st5)
    refine wpAny_passesOwn hp (thn (hg _ s5 σ3 H5 x u _ I5' r5 (step x H5 y5)) fun _ s6 ⟨σ6, H6, I6, q6⟩ => ?_)
    refine wpAny_passesOwn hp (thn (hb _ s6 σ6 H6 _ I6 q6) fun f s7 q7 => ?_)
    have again : ∀ {σ7 : St} {H7 : Hp}, Inv X (pins ++ pinsAt fp s5.heap) σ7 H7 s7 → N σ7 H7 → ∃ m, m < n ∧ ∃ i σ' H', Inv X pins σ' H' s7 ∧ tn i s7.heap ∧ (∀ b ∈ fp, H' b = none) ∧ W i m σ' H' := fun {σ7 H7} I7 n7 => by
      obtain ⟨m', hm, w7⟩ := hN σ7 H7 n7
      refine ⟨m', hm, i + 1, σ7, H7, I7.unpinned, T.keep _ _ _ st5 fun b hb o e => (I7.pin (b, o) (List.mem_append_right _ (List.mem_append_right _ (mem_pinsAt hb e)))).1, fun b hb => ?_, w7⟩
      obtain ⟨o, e, d⟩ := T.obj _ _ st5 b hb
      exact (I7.pin (b, o) (List.mem_append_right _ (List.mem_append_right _ (mem_pinsAt hb e)))).2.1
    cases f with
    | next => obtain ⟨σ7, H7, I7, n7⟩ := q7; exact again I7 n7
    | cont => obtain ⟨σ7, H7, I7, n7⟩ := q7; exact again I7 n7
    | brk => obtain ⟨σ7, H7, I7, q7⟩ := q7; exact ⟨σ7, H7, I7.unpinned, q7⟩
    | ret v => obtain ⟨x7, σ7, H7, I7, r7, q7⟩ := q7; exact ⟨x7, σ7, H7, I7.unpinned, r7, q7⟩
end
end L2
namespace L2
open PySem PySem.Spec PyProof.Rows
noncomputable abbrev R2 := V → V → Hp → VK → Prop
noncomputable def OpR (X : Cx) (f : Value → Value → Sem Value) (r : R2) : Prop :=
  ∀ (pins : List (Addr × Obj)) (s : Shared) (σ : St) (H : Hp) (x y : V) (v u : Value) (Q : VK), Inv X pins σ H s → RelV x v → RelV y u → r x y H Q →
    wpAny (model X.prog X.w) X.A (f v u) (EP X pins σ Q) X.xe s
noncomputable def UnR (X : Cx) (f : Value → Sem Value) (r : V → Hp → VK → Prop) : Prop :=
  ∀ (pins : List (Addr × Obj)) (s : Shared) (σ : St) (H : Hp) (x : V) (v : Value) (Q : VK), Inv X pins σ H s → RelV x v → r x H Q →
    wpAny (model X.prog X.w) X.A (f v) (EP X pins σ Q) X.xe s
noncomputable def CallR (X : Cx) (f : Value) (r : List V → Hp → VK → Prop) : Prop :=
  ∀ (pins : List (Addr × Obj)) (s : Shared) (σ : St) (H : Hp) (xs : List V) (us : List Value) (Q : VK), Inv X pins σ H s → Vals xs us → r xs H Q →
    wpAny (model X.prog X.w) X.A (call f us) (EP X pins σ Q) X.xe s
noncomputable def TruR (X : Cx) (r : V → Hp → (Bool → Hp → Prop) → Prop) : Prop :=
  ∀ (pins : List (Addr × Obj)) (s : Shared) (σ : St) (H : Hp) (x : V) (v : Value) (Q : Bool → Hp → Prop), Inv X pins σ H s → RelV x v → r x H Q →
    wpAny (model X.prog X.w) X.A (truthy v) (TP X pins σ Q) X.xe s
noncomputable def tOp (r : R2) (ta tb : TE) : TE := fun σ H Q => ta σ H fun x H1 => tb σ H1 fun y H2 => r x y H2 Q
noncomputable def tUn (r : V → Hp → VK → Prop) (ta : TE) : TE := fun σ H Q => ta σ H fun x H1 => r x H1 Q
noncomputable def rI (C : Int → Int → Prop) (g : Int → Int → V) : R2 := fun x y H Q => ∃ i j, x = .int i ∧ y = .int j ∧ C i j ∧ Q (g i j) H
noncomputable def rI0 (g : Int → Int → V) : R2 := fun x y H Q => ∃ i j, x = .int i ∧ y = .int j ∧ Q (g i j) H
noncomputable def rU (g : Int → V) : V → Hp → VK → Prop := fun x H Q => ∃ i, x = .int i ∧ Q (g i) H
section
variable {X : Cx} {a b c : Expr} {ta tb tc : TE} {pos : Pos}
theorem binT (ha : PE X a ta) (hb : PE X b tb) {pins : List (Addr × Obj)} {s : Shared} {σ : St} {H : Hp} {R : V → V → Hp → Prop} (I : Inv X pins σ H s)
    (h : ta σ H fun x H1 => tb σ H1 fun y H2 => R x y H2) {Q : Value → Shared → Prop} {f : Value → Value → Sem Value}
    (hf : ∀ v u s2 x y H2, Inv X pins σ H2 s2 → RelV x v → RelV y u → R x y H2 → wpAny (model X.prog X.w) X.A (f v u) Q X.xe s2) :
    wpAny (model X.prog X.w) X.A (eval a X.env) (fun v s₁ => wpAny (model X.prog X.w) X.A (eval b X.env) (fun u s₂ => wpAny (model X.prog X.w) X.A (f v u) Q X.xe s₂) X.xe s₁) X.xe s := by
  refine thn (ha pins s σ H _ I h) fun v s1 ⟨x, H1, I1, r1, q1⟩ => ?_
  refine thn (hb pins s1 σ H1 _ I1 q1) fun u s2 ⟨y, H2, I2, r2, q2⟩ => ?_
  exact hf v u s2 x y H2 I2 r1 r2 q2
theorem pe_op {op : Operator} {r : R2} (ho : OpR X (binaryOp op) r) (ha : PE X a ta) (hb : PE X b tb) : PE X (.BinOp a op b pos) (tOp r ta tb) := by
  intro pins s σ H Q I h
  exact wpAny_BinOp (binT ha hb I h fun v u s2 x y H2 I2 rx ry q => ho pins s2 σ H2 x y v u Q I2 rx ry q)
theorem pe_un {op : UnaryOp} {r : V → Hp → VK → Prop} (ho : UnR X (unaryOp op) r) (ha : PE X a ta) : PE X (.UnaryOp op a pos) (tUn r ta) := by
  intro pins s σ H Q I h
  exact UnaryOp_ (thn (ha pins s σ H _ I h) fun v s1 ⟨x, H1, I1, r1, q1⟩ => ho pins s1 σ H1 x v Q I1 r1 q1)
theorem opI {f : Value → Value → Sem Value} {C : Int → Int → Prop} {g : Int → Int → Int}
    (rule : ∀ (i j : Int) (t u : Tok) (s : Shared) (Q : Value → Shared → Prop) (E : Value → Shared → Prop), C i j → Q (.int (g i j) s.toks) { s with toks := s.toks + 1 } → wpAny (model X.prog X.w) X.A (f (.int i t) (.int j u)) Q E s) :
    OpR X f (rI C fun i j => .int (g i j)) := by
  intro pins s σ H x y v u Q I rx ry h
  obtain ⟨i, j, rfl, rfl, hc, q⟩ := h
  obtain ⟨t, rfl⟩ := rx
  obtain ⟨t', rfl⟩ := ry
  exact rule i j t t' s _ _ hc ⟨.int (g i j), H, I.tok _, ⟨_, rfl⟩, q⟩
theorem opI0 {f : Value → Value → Sem Value} {g : Int → Int → Int}
    (rule : ∀ (i j : Int) (t u : Tok) (s : Shared) (Q : Value → Shared → Prop) (E : Value → Shared → Prop), Q (.int (g i j) s.toks) { s with toks := s.toks + 1 } → wpAny (model X.prog X.w) X.A (f (.int i t) (.int j u)) Q E s) :
    OpR X f (rI0 fun i j => .int (g i j)) := by
  intro pins s σ H x y v u Q I rx ry h
  obtain ⟨i, j, rfl, rfl, q⟩ := h
  obtain ⟨t, rfl⟩ := rx
  obtain ⟨t', rfl⟩ := ry
  exact rule i j t t' s _ _ ⟨.int (g i j), H, I.tok _, ⟨_, rfl⟩, q⟩
theorem opB0 {f : Value → Value → Sem Value} {g : Int → Int → Bool}
    (rule : ∀ (i j : Int) (t u : Tok) (s : Shared) (Q : Value → Shared → Prop) (E : Value → Shared → Prop), Q (.bool (g i j)) s → wpAny (model X.prog X.w) X.A (f (.int i t) (.int j u)) Q E s) :
    OpR X f (rI0 fun i j => .bl (g i j)) := by
  intro pins s σ H x y v u Q I rx ry h
  obtain ⟨i, j, rfl, rfl, q⟩ := h
  obtain ⟨t, rfl⟩ := rx
  obtain ⟨t', rfl⟩ := ry
  exact rule i j t t' s _ _ ⟨.bl (g i j), H, I, rfl, q⟩
noncomputable def CPow (i j : Int) : Prop := 0 ≤ j ∧ j ≤ 1000000 ∧ i.natAbs < 2 ^ 64
noncomputable def CMul (i j : Int) : Prop := (-(2 ^ 64) < i ∧ i < 2 ^ 64) ∨ (-(2 ^ 64) < j ∧ j < 2 ^ 64)
theorem CMul.ok {i j : Int} (h : CMul i j) : IntMulOk i j := by
  rcases h with ⟨h1, h2⟩ | ⟨h1, h2⟩
  · exact .of_left (intBits_le_64 h1 h2)
  · exact .of_right (intBits_le_64 h1 h2)
theorem op_add : OpR X (binaryOp .Add) (rI0 fun i j => .int (i + j)) := opI0 fun _ _ _ _ _ _ _ q => add_int q
theorem op_sub : OpR X (binaryOp .Sub) (rI0 fun i j => .int (i - j)) := opI0 fun _ _ _ _ _ _ _ q => sub_int q
theorem op_mod : OpR X (binaryOp .Mod) (rI (fun _ j => 0 < j) fun i j => .int (i % j)) := opI fun i j _ _ _ _ _ hc q => by
  have h1 : (0 : Int) < j := hc
  exact mod_int' (by omega) (by rw [Int.fmod_eq_emod_of_nonneg i (by omega)]; exact q)
theorem op_pow : OpR X (binaryOp .Pow) (rI CPow fun i j => .int (i ^ j.toNat)) := opI fun _ _ _ _ _ _ _ hc q => pow_int_small hc.1 hc.2.1 hc.2.2 q
theorem unI {f : Value → Sem Value} {g : Int → Int}
    (rule : ∀ (i : Int) (t : Tok) (s : Shared) (Q : Value → Shared → Prop) (E : Value → Shared → Prop), Q (.int (g i) s.toks) { s with toks := s.toks + 1 } → wpAny (model X.prog X.w) X.A (f (.int i t)) Q E s) :
    UnR X f (rU fun i => .int (g i)) := by
  intro pins s σ H x v Q I rx h
  obtain ⟨i, rfl, q⟩ := h
  obtain ⟨t, rfl⟩ := rx
  exact rule i t s _ _ ⟨.int (g i), H, I.tok _, ⟨_, rfl⟩, q⟩
theorem un_neg : UnR X (unaryOp .USub) (rU fun i => .int (-i)) := unI fun _ _ _ _ _ q => neg_int q
end
section
variable {X : Cx} {a b c : Expr} {ta tb tc : TE} {pos : Pos}
theorem op_lt : OpR X (compareOp .Lt) (rI0 fun i j => .bl (decide (i < j))) := opB0 fun _ _ _ _ _ _ _ q => lt_int q
theorem op_le : OpR X (compareOp .LtE) (rI0 fun i j => .bl (decide (i ≤ j))) := opB0 fun _ _ _ _ _ _ _ q => le_int q
theorem op_gt : OpR X (compareOp .Gt) (rI0 fun i j => .bl (decide (j < i))) := opB0 fun _ _ _ _ _ _ _ q => gt_int q
theorem op_ge : OpR X (compareOp .GtE) (rI0 fun i j => .bl (decide (j ≤ i))) := opB0 fun _ _ _ _ _ _ _ q => ge_int q
theorem OpR.or {f : Value → Value → Sem Value} {r r' : R2} (h : OpR X f r) (h' : OpR X f r') : OpR X f (fun x y H Q => r x y H Q ∨ r' x y H Q) := by
  intro pins s σ H x y v u Q I rx ry q
  rcases q with q | q
  · exact h pins s σ H x y v u Q I rx ry q
  · exact h' pins s σ H x y v u Q I rx ry q
theorem pe_cmpR {op : CmpOp} {r : R2} (ho : OpR X (compareOp op) r) (ha : PE X a ta) (hb : PE X b tb) (hm : behindInMarks op b = false) : PE X (.Compare a [op] [b] pos) (tOp r ta tb) := by
  intro pins s σ H Q I h
  exact wpAny_Compare1 (binT ha hb I h fun v u s2 x y H2 I2 rx ry q => ho pins s2 σ H2 x y v u Q I2 rx ry q) hm
noncomputable def tTest (t : TE) : TT := fun σ H Q => t σ H fun x H' => ∃ k, x = .bl k ∧ Q k H'
theorem pt_cmpR {op : CmpOp} {r : R2} (ho : OpR X (compareOp op) r) (ha : PE X a ta) (hb : PE X b tb) (hm : behindInMarks op b = false) : PT X (.Compare a [op] [b] pos) (tTest (tOp r ta tb)) := by
  intro pins s σ H Q I h
  refine wpAny_isTrue_Compare1 (thn (ha pins s σ H _ I h) fun v s1 ⟨x, H1, I1, r1, q1⟩ => thn (hb pins s1 σ H1 _ I1 q1) fun u s2 ⟨y, H2, I2, r2, q2⟩ =>
    thn (ho pins s2 σ H2 x y v u _ I2 r1 r2 q2) fun c s3 ⟨z, H3, I3, r3, k, e, q3⟩ => ?_) hm
  subst e
  cases r3
  exact wpAny_truthy_bool ⟨H3, I3, q3⟩
noncomputable def tChain (r r' : R2) (ta tb tc : TE) : TE := fun σ H Q => ta σ H fun x H1 => tb σ H1 fun y H2 => r x y H2 fun z H3 => ∃ k, z = .bl k ∧
  (if k = true then tc σ H3 fun w' H4 => r' y w' H4 Q else Q (.bl false) H3)
theorem pe_chain {op op' : CmpOp} {r r' : R2} (ho : OpR X (compareOp op) r) (ho' : OpR X (compareOp op') r') (ha : PE X a ta) (hb : PE X b tb) (hc : PE X c tc)
    (hm : lastMarks [op, op'] [b, c] = false := by with_unfolding_all rfl) : PE X (.Compare a [op, op'] [b, c] pos) (tChain r r' ta tb tc) := by
  intro pins s σ H Q I h
  refine Compare_chain (thn (ha pins s σ H _ I h) fun v s1 ⟨x, H1, I1, r1, q1⟩ => chain_link (thn (hb pins s1 σ H1 _ I1 q1) fun u s2 ⟨y, H2, I2, r2, q2⟩ =>
    thn (ho pins s2 σ H2 x y v u _ I2 r1 r2 q2) fun d s3 ⟨z, H3, I3, r3, k, e, q3⟩ => ?_)) hm
  subst e
  cases r3
  refine wpAny_truthy_bool ?_
  cases k with
  | false => exact ite_ff ⟨.bl false, H3, I3, rfl, q3⟩
  | true => exact ite_tt (chain_last (thn (hc pins s3 σ H3 _ I3 q3) fun w' s4 ⟨z', H4, I4, r4, q4⟩ => ho' pins s4 σ H4 y z' u w' Q I4 r2 r4 q4))
theorem pt_chain {op op' : CmpOp} {r r' : R2} (ho : OpR X (compareOp op) r) (ho' : OpR X (compareOp op') r') (ha : PE X a ta) (hb : PE X b tb) (hc : PE X c tc)
    (hm : lastMarks [op, op'] [b, c] = false := by with_unfolding_all rfl) : PT X (.Compare a [op, op'] [b, c] pos) (tTest (tChain r r' ta tb tc)) := by
  intro pins s σ H Q I h
  refine isTrue_chain (thn (ha pins s σ H _ I h) fun v s1 ⟨x, H1, I1, r1, q1⟩ => test_link (thn (hb pins s1 σ H1 _ I1 q1) fun u s2 ⟨y, H2, I2, r2, q2⟩ =>
    thn (ho pins s2 σ H2 x y v u _ I2 r1 r2 q2) fun d s3 ⟨z, H3, I3, r3, k, e, q3⟩ => ?_)) hm
  subst e
  cases r3
  refine wpAny_truthy_bool ?_
  cases k with
  | false =>
    obtain ⟨k', e', q'⟩ := q3
    cases e'
    exact ite_ff ⟨H3, I3, q'⟩
  | true =>
    refine ite_tt (test_last (thn (hc pins s3 σ H3 _ I3 q3) fun w' s4 ⟨z', H4, I4, r4, q4⟩ => thn (ho' pins s4 σ H4 y z' u w' _ I4 r2 r4 q4) fun d' s5 ⟨z2, H5, I5, r5, k2, e2, q5⟩ => ?_))
    subst e2
    cases r5
    exact wpAny_truthy_bool ⟨H5, I5, q5⟩
noncomputable def TruV (K : PySem.W.Frag) (x : V) (H : Hp) (k : Bool) : Prop :=
  match x with
  | .non => k = false
  | .bl b => k = b
  | .int i => k = (i != 0)
  | .str y => y.length ≤ sizeLine ∧ k = ((y.length : Int) != 0)
  | .byt y => y.size ≤ sizeLine ∧ k = ((y.size : Int) != 0)
  | .ref p => (∃ xs, SqL K H p xs ∧ k = !xs.isEmpty) ∨ (∃ xs, SqT K H p xs ∧ k = !xs.isEmpty) ∨ ∃ kvs, H p = some (.dK kvs) ∧ k = !kvs.isEmpty
  | _ => False
theorem isEmpty_kv {κ : Type} {kvs : List (κ × V)} {vs : List (κ × Value)} (r : KV kvs vs) : (!vs.isEmpty) = !kvs.isEmpty := by
  cases r <;> rfl
theorem isEmpty_of {xs : List V} {its : List Value} (r : Vals xs its) : (!its.toArray.isEmpty) = !xs.isEmpty := by
  cases r <;> simp
theorem line63 : (sizeLine : Nat) < 2 ^ 63 := by rw [sizeLine_eq]; decide
theorem tru_ok : TruR X (fun x H Q => ∃ k, TruV X.K x H k ∧ Q k H) := by
  intro pins s σ H x v Q I rx h
  obtain ⟨k, e, q⟩ := h
  have hl := line63
  have hs : sizeLine = 16777216 := sizeLine_eq
  cases x with
  | non =>
    cases rx
    have e' : k = false := e
    subst e'
    exact truthy_none ⟨H, I, q⟩
  | bl b =>
    cases rx
    have e' : k = b := e
    subst e'
    exact wpAny_truthy_bool ⟨H, I, q⟩
  | int i =>
    obtain ⟨t, rfl⟩ := rx
    have e' : k = (i != 0) := e
    subst e'
    exact PySem.P.truthy_int ⟨H, I, q⟩
  | str y =>
    obtain ⟨t, rfl⟩ := rx
    obtain ⟨hy, e'⟩ : y.length ≤ sizeLine ∧ k = ((y.length : Int) != 0) := e
    subst e'
    exact PySem.P.truthy_str (by omega) ⟨H, I.tok _, q⟩
  | byt y =>
    obtain ⟨t, rfl⟩ := rx
    obtain ⟨hy, e'⟩ : y.size ≤ sizeLine ∧ k = ((y.size : Int) != 0) := e
    subst e'
    exact PySem.W.truthy_bytes (by omega) ⟨H, I.tok _, q⟩
  | ref p =>
    cases rx
    have e' : (∃ xs, SqL X.K H p xs ∧ k = !xs.isEmpty) ∨ (∃ xs, SqT X.K H p xs ∧ k = !xs.isEmpty) ∨ ∃ kvs, H p = some (.dK kvs) ∧ k = !kvs.isEmpty := e
    rcases e' with ⟨xs, hx, e'⟩ | ⟨xs, hx, e'⟩ | ⟨kvs, hx, e'⟩
    · subst e'
      obtain ⟨its, r, pl, hz⟩ := I.list hx
      have hlen := r.length
      exact wpAny_truthy_list pl.isList (by simp only [List.size_toArray]; omega) ⟨H, I.tok _, by rw [isEmpty_of r]; exact q⟩
    · subst e'
      obtain ⟨its, r, pl, hz⟩ := I.tuple hx
      have hlen := r.length
      exact truthy_tuple pl (by simp only [List.size_toArray]; omega) ⟨H, I.tok _, by rw [isEmpty_of r]; exact q⟩
    · subst e'
      obtain ⟨hz, hS, vs, r, m⟩ : kvs.length ≤ sizeLine ∧ (p == sysModules) = false ∧ ∃ vs, KV kvs vs ∧ s.heap.DictOf (mixKind X.prog X.w) p vs := I.hok p _ hx
      have hlen : kvs.length = vs.length := Paired.length r
      exact wpAny_truthy_dict hS m (by omega) ⟨H, I.tok _, by rw [isEmpty_kv r]; exact q⟩
  | _ => exact (show False from e).elim
theorem pt_truth (ha : PE X a ta) (he : ∀ whole, isTrue a X.env whole = (do let v ← whole; standAt a.pos; holding [v] (truthy v))) :
    PT X a (fun σ H Q => ta σ H fun x H' => ∃ k, TruV X.K x H' k ∧ Q k H') := by
  intro pins s σ H Q I h
  exact isTrue_plain (thn (ha pins s σ H _ I h) fun v s1 ⟨x, H1, I1, r1, q1⟩ => tru_ok pins s1 σ H1 x v Q I1 r1 q1) (he _)
theorem op_add_str : OpR X (binaryOp .Add) (fun x y H Q => ∃ i j, x = .str i ∧ y = .str j ∧ i.length + j.length ≤ sizeLine ∧ Q (.str (i ++ j)) H) := by
  intro pins s σ H x y v u Q I rx ry h
  obtain ⟨i, j, rfl, rfl, hz, q⟩ := h
  obtain ⟨t, rfl⟩ := rx
  obtain ⟨t', rfl⟩ := ry
  exact add_str (fun t' tk => ⟨.str (i ++ j), H, I.tok _, ⟨_, rfl⟩, q⟩) hz
theorem vals1 {x : V} {us : List Value} (r : Vals [x] us) : ∃ u, us = [u] ∧ RelV x u := by
  cases r with
  | cons r1 r2 => cases r2; exact ⟨_, rfl, r1⟩
theorem vals2 {x y : V} {us : List Value} (r : Vals [x, y] us) : ∃ u w', us = [u, w'] ∧ RelV x u ∧ RelV y w' := by
  cases r with
  | cons r1 r2 =>
    cases r2 with
    | cons r3 r4 => cases r4; exact ⟨_, _, rfl, r1, r3⟩
theorem call_min2 (hc : X.calm = true) : CallR X (.builtin "min") (fun xs H Q => ∃ i j, xs = [.int i, .int j] ∧ Q (.int (if j < i then j else i)) H) := by
  intro pins s σ H xs us Q I r h
  obtain ⟨i, j, rfl, q⟩ := h
  obtain ⟨u, w', rfl, ⟨t, rfl⟩, ⟨t', rfl⟩⟩ := vals2 r
  refine min_two_ints (I.ok.hd hc) fun h' tk k => ⟨_, H, I.kept k, ?_, q⟩
  by_cases hj : j < i
  · rw [if_pos hj, if_pos hj]; exact ⟨_, rfl⟩
  · rw [if_neg hj, if_neg hj]; exact ⟨_, rfl⟩
theorem call_int1 : CallR X (.type "int") (fun xs H Q => (∃ i, xs = [.int i] ∧ Q (.int i) H) ∨ ∃ k, xs = [.bl k] ∧ Q (.int (if k then 1 else 0)) H) := by
  intro pins s σ H xs us Q I r h
  rcases h with ⟨i, rfl, q⟩ | ⟨k, rfl, q⟩
  · obtain ⟨u, rfl, t, rfl⟩ := vals1 r
    exact call_int_int ⟨.int i, H, I, ⟨_, rfl⟩, q⟩
  · obtain ⟨u, rfl, r1⟩ := vals1 r
    cases r1
    exact call_int_bool ⟨.int (if k then 1 else 0), H, I.tok _, ⟨_, rfl⟩, q⟩
end
end L2
namespace L2
open PySem PySem.Spec PyProof.Rows
structure ObjM (h : Heap) (x dx C : Addr) (mA : Str → Option Value) : Prop where
  obj : h.get? x = some (PySem.W.instObj C dx)
  ns : h.Ns1 dx mA
  ne : dx ≠ x
theorem lookIn_ns {h : Heap} {dx : Addr} {mA : Str → Option Value} (n : h.Ns1 dx mA) : ∃ od, h.get? dx = some od ∧ ∀ name, PySem.W.lookIn name od = some (mA name) := by
  obtain ⟨o, es, ep, ho, hd, hk, _, hm⟩ := n
  refine ⟨o, ho, fun name => ?_⟩
  have e := hm name
  unfold nsFind findBy at e
  rw [← Array.find?_toList] at e
  unfold PySem.W.lookIn
  rw [hd]
  dsimp only
  split
  · rename_i y q
    rw [q] at e
    exact congrArg some e
  · rename_i q
    rw [q] at e
    have a : es.toList.any (·.refKey) = false := by
      rw [List.any_eq_false]
      intro y hy
      obtain ⟨z, t, hkey⟩ := hk y (Array.mem_toList_iff.mp hy)
      simp [DictEntry.refKey, hkey]
    have a' : ¬ es.toList.any (·.refKey) = true := by rw [a]; exact Bool.false_ne_true
    rw [if_neg a']
    exact congrArg some e
theorem ObjM.look {h : Heap} {x dx C : Addr} {mA : Str → Option Value} (I : ObjM h x dx C mA) : ∃ od, PySem.W.InstAt h x (PySem.W.instObj C dx) C (some od) ∧ ∀ name, PySem.W.lookIn name od = some (mA name) :=
  let ⟨od, ho, hl⟩ := lookIn_ns I.ns
  ⟨od, ⟨I.obj, rfl, rfl, ho⟩, hl⟩
section
variable {prog : Program} {w : World} {A : Around} {E : Value → Shared → Prop} {s : Shared} {K : PySem.W.Frag} {x dx C f : Addr} {mA : Str → Option Value} {name : Str} {v : Value}
end
theorem RelO.some_of {v : V} {o : Option Value} (r : RelO (some v) o) : ∃ u, o = some u ∧ RelV v u := by
  cases o with
  | none => exact (show False from r).elim
  | some u => exact ⟨u, rfl, r⟩
section
variable {P : Program} {w : World} {H H' : Hp} {h h' : Heap} {a C dx : Addr} {fs fs' : List (Str × V)}
theorem ins_get (hok : HOk P w H h) (e : H a = some (.ins C dx fs)) : ∃ mA, ObjM h a dx C mA ∧ (∀ f, RelO (fs.lookup f) (mA f)) ∧ PySem.Within mA (fs.map (·.1)) ∧ fs.length ≤ 1000 ∧ H dx = some (.own a) := by
  obtain ⟨d, z, ne, ob, mA, n, r, q⟩ := (show ObjOk P w H h a (.ins C dx fs) from hok a _ e)
  exact ⟨mA, ⟨ob, n, ne⟩, r, q, z, d⟩
end
structure Cls (K : PySem.W.Frag) (C : Addr) : Prop where
  pg : PySem.W.plainGet K C Str.empty = true
  hd : PySem.W.hasDictIn K C = true
  po : PySem.W.plainOver K C = true
  sa : PySem.W.findIn K (.ref C) "__setattr__" = some (some (.builtin "object.__setattr__"))
theorem Cls.get {K : PySem.W.Frag} {C : Addr} (c : Cls K C) (f : Str) : PySem.W.plainGet K C f = true := c.pg
section
variable {X : Cx} {pins : List (Addr × Obj)} {σ : St} {H : Hp} {s : Shared} {a C dx : Addr} {fs : List (Str × V)} {f : Str} {v : V} {A : Around} {E : Value → Shared → Prop}
theorem attr_of {prog : Program} {w : World} {env : Env} {e : Expr} {f : Str} {pos : Pos} {s : Shared} {Q : Value → Shared → Prop} (hb : attributeBase e f env (eval e env) = eval e env)
    (h : wpAny (model prog w) A (eval e env) (fun o s₁ => wpAny (model prog w) A (getAttr o f true) Q E s₁) E s) : wpAny (model prog w) A (eval (.Attribute e f pos) env) Q E s :=
  Attribute_any_ h (by rw [arm_eval_Attribute, hb])
end
section
variable {X : Cx} {o e value : Expr} {f : Str} {pos pos' tpos : Pos} {ta tv : TE}
end
section
variable {X : Cx} {pins : List (Addr × Obj)} {σ : St} {H : Hp} {s : Shared} {A : Around} {E : Value → Shared → Prop} {Q : Value → Shared → Prop} {c : Value} {b : Bool}
inductive TyOf (K : PySem.W.Frag) (H : Hp) : V → Value → Prop where
  | non : TyOf K H .non (.type "NoneType")
  | bl (x : Bool) : TyOf K H (.bl x) (.type "bool")
  | int (i : Int) : TyOf K H (.int i) (.type "int")
  | str (x : Str) : TyOf K H (.str x) (.type "str")
  | flt (x : UInt64) : TyOf K H (.flt x) (.type "float")
  | lst {a : Addr} {xs : List V} (e : H a = some (.lst xs)) : TyOf K H (.ref a) (.type "list")
  | frz {a : Addr} {o : Obj} {xs : List V} (e : H a = some (.frz o (.lst xs))) : TyOf K H (.ref a) (.type "list")
  | tup {a : Addr} {xs : List V} (e : H a = some (.tup xs)) : TyOf K H (.ref a) (.type "tuple")
  | dK {a : Addr} {kvs : List (Key × V)} (e : H a = some (.dK kvs)) : TyOf K H (.ref a) (.type "dict")
  | dT {a : Addr} {kvs : List (List Key × V)} (e : H a = some (.dT kvs)) : TyOf K H (.ref a) (.type "dict")
  | ins {a C dx : Addr} {fs : List (Str × V)} (e : H a = some (.ins C dx fs)) (cl : Cls K C) (ha : PySem.W.findIn K (.ref C) "__class__" = some (some (.builtin "object.__class__")))
      (hn : PySem.W.specialIn K (.builtin "object.__class__") "__get__" = some (some (.builtin "getset_descriptor.__get__"))) (htk : PySem.W.takesIn K (.builtin "object.__class__") = some true)
      (hm : PySem.W.mroIn K C (.type "object") = some true) : TyOf K H (.ref a) (.ref C)
theorem isinst_ok {x : V} {u t : Value} (I : Inv X pins σ H s) (rx : RelV x u) (ty : TyOf X.K H x t) (e : PySem.W.kitOne X.K t c = some b) (h : ∀ tk, Q (.bool b) { s with toks := tk }) :
    wpAny (model X.prog X.w) A (call (.builtin "isinstance") [u, c]) Q E s := by
  cases ty with
  | non => cases (show u = Value.none from rx); exact PySem.W.kia_one PySem.W.kitx_none I.kIn True.intro e (fun z => nomatch z) h
  | bl y => cases (show u = Value.bool y from rx); exact PySem.W.kia_one PySem.W.kitx_bool I.kIn True.intro e (fun z => nomatch z) h
  | int i => obtain ⟨t, q⟩ := (show ∃ t, u = Value.int i t from rx); cases q; exact PySem.W.kia_one PySem.W.kitx_int I.kIn True.intro e (fun z => nomatch z) h
  | str y => obtain ⟨t, q⟩ := (show ∃ t, u = Value.str y t from rx); cases q; exact PySem.W.kia_one PySem.W.kitx_str I.kIn True.intro e (fun z => nomatch z) h
  | flt y => obtain ⟨t, q⟩ := (show ∃ t, u = Value.float y t from rx); cases q; exact PySem.W.kia_one PySem.W.kitx_float I.kIn True.intro e (fun z => nomatch z) h
  | @lst a xs ea =>
    cases (show u = Value.ref a from rx)
    obtain ⟨_, _, n, _, h1⟩ := (show ObjOk X.prog X.w H s.heap a (.lst xs) from I.hok a _ ea)
    exact PySem.W.kia_one PySem.W.kitx_list I.kIn ⟨_, h1, rfl⟩ e (fun z => nomatch z) h
  | @frz a ob xs ea =>
    cases (show u = Value.ref a from rx)
    obtain ⟨_, _, _, n, _, h1⟩ := (show ObjOk X.prog X.w H s.heap a (.frz ob (.lst xs)) from I.hok a _ ea)
    exact PySem.W.kia_one PySem.W.kitx_list I.kIn ⟨_, h1, rfl⟩ e (fun z => nomatch z) h
  | @tup a xs ea =>
    cases (show u = Value.ref a from rx)
    obtain ⟨_, _, _, p⟩ := (show ObjOk X.prog X.w H s.heap a (.tup xs) from I.hok a _ ea)
    obtain ⟨o, h1, h2, _⟩ := p
    exact PySem.W.kia_one PySem.W.kitx_tuple I.kIn ⟨o, h1, h2⟩ e (fun z => nomatch z) h
  | @dK a kvs ea =>
    cases (show u = Value.ref a from rx)
    obtain ⟨_, _, vs, _, p⟩ := (show ObjOk X.prog X.w H s.heap a (.dK kvs) from I.hok a _ ea)
    obtain ⟨o, es, ep, h1, h2, _⟩ := p
    exact PySem.W.kia_one PySem.W.kitx_dict I.kIn ⟨o, h1, h2.1⟩ e (fun z => nomatch z) h
  | @dT a kvs ea =>
    cases (show u = Value.ref a from rx)
    obtain ⟨_, _, xs, _, o, es, ep, h1, h2, _⟩ := (show ObjOk X.prog X.w H s.heap a (.dT kvs) from I.hok a _ ea)
    exact PySem.W.kia_one PySem.W.kitx_dict I.kIn ⟨o, h1, h2.1⟩ e (fun z => nomatch z) h
  | @ins a C dx fs ea cl ha hn htk hm =>
    cases (show u = Value.ref a from rx)
    obtain ⟨mA, O, _⟩ := ins_get I.hok ea
    obtain ⟨od, J, _⟩ := O.look
    exact PySem.W.kia_one (PySem.W.kitx_own (cl.get _) cl.hd ha hn htk hm) I.kIn J e (fun z => nomatch z) h
end
end L2
namespace L2
open PySem PySem.Spec PyProof.Rows
structure Room (k : Nat) (A : Around) : Prop where
  hd : A.handled = none
  dp : A.depth + 3 * k + 5 < recursionLimit
  un : A.units + 16 * k + 200 < cLine
theorem Room.mono {j k : Nat} {A : Around} (r : Room k A) (h : j ≤ k) : Room j A := ⟨r.hd, by have := r.dp; omega, by have := r.un; omega⟩
theorem Room.deeper {k : Nat} {A : Around} (r : Room (k + 1) A) (env : Env) : Room k (A.deeper env) :=
  ⟨r.hd, by have := r.dp; show A.depth + 1 + 3 * k + 5 < _; omega, by have := r.un; show A.units + 3 + 16 * k + 200 < _; omega⟩
theorem make_depth {A : Around} {C : Addr} {us : List Value} {kw : List (Str × Value)} : (A.under (.builtin "type.__call__" ⟨.ref C :: us, kw⟩)).depth = A.depth + 1 := by
  first | rfl | simp [Around.under, Code.weight, Code.isCreation, Code.isGuard, Code.isCaller, Code.frames, Code.isFrame, guardIds]
theorem make_units {A : Around} {C : Addr} {us : List Value} {kw : List (Str × Value)} : (A.under (.builtin "type.__call__" ⟨.ref C :: us, kw⟩)).units = A.units + 1 := by
  first | rfl | simp [Around.under, Code.cUnits, Code.frames, Code.isFrame]
theorem Room.make {k : Nat} {A : Around} (r : Room (k + 1) A) (C : Addr) (us : List Value) (kw : List (Str × Value)) : Room k (A.under (.builtin "type.__call__" ⟨.ref C :: us, kw⟩)) :=
  ⟨r.hd, by have := r.dp; rw [make_depth]; omega, by have := r.un; rw [make_units]; omega⟩
theorem Room.depth {k : Nat} {A : Around} (r : Room k A) : A.depth < recursionLimit := by have := r.dp; omega
theorem Room.units {k : Nat} {A : Around} (r : Room k A) : A.units + 64 < cLine := by have := r.un; omega
noncomputable def tNil : TA := fun _ H Q => Q [] H
noncomputable def tCons (ta : TE) (tr : TA) : TA := fun σ H Q => ta σ H fun x H1 => tr σ H1 fun xs H2 => Q (x :: xs) H2
section
variable {X : Cx} {e : Expr} {es : List Expr} {te : TE} {t : TA} {pos : Pos}
theorem pa_nil : PA X [] tNil := fun _ _ _ _ H Q I h => Calls.spliced_nil ⟨[], H, I, .nil, h⟩
theorem pa_cons (ha : PE X e te) (hr : PA X es t) (hs : starEach (e :: es) X.env = (false, eval e X.env) :: starEach es X.env := by rfl) : PA X (e :: es) (tCons te t) := by
  intro pos pins s σ H Q I h
  rw [hs]
  show wpAny _ _ (spliced ((false, eval e X.env) :: backTo pos (starEach es X.env))) _ _ s
  refine Calls.spliced_cons (thn (ha pins s σ H _ I h) fun u s1 ⟨x, H1, I1, r1, q1⟩ => ?_)
  exact thn (hr pos pins s1 σ H1 _ I1 q1) fun us s2 ⟨xs, H2, I2, r2, q2⟩ => ⟨x :: xs, H2, I2, .cons r1 r2, q2⟩
noncomputable def tTup (t : TA) : TE := fun σ H Q => t σ H fun xs H1 => xs.length ≤ sizeLine ∧ ∀ p, H1 p = none → Q (.ref p) (upd H1 p (.tup xs))
noncomputable def tLst (t : TA) : TE := fun σ H Q => t σ H fun xs H1 => xs.length ≤ sizeLine ∧ ∀ p, H1 p = none → Q (.ref p) (upd H1 p (.lst xs))
theorem pe_tup {x1} (h : PA X es t) : PE X (.Tuple es x1 pos) (tTup t) := by
  intro pins s σ H Q I hq
  refine wpAny_Tuple_spliced (thn (h pos pins s σ H _ I hq) fun us s1 ⟨xs, H1, I1, r, z, q⟩ => ⟨by rw [← r.length]; exact z, ?_⟩)
  have hf : H1 s1.heap.objs.size = none := I1.hok.fresh (Nat.le_refl _)
  refine ⟨.ref s1.heap.objs.size, upd H1 s1.heap.objs.size (.tup xs), I1.laid (t' := s1.toks) (fun b u e => Heap.get?_push_of_some _ e) (Nat.le_refl _) ?_, rfl, q _ hf⟩
  exact ⟨z, us, r, ⟨_, Heap.get?_push_size _ rfl, rfl, _, rfl⟩⟩
theorem pe_lst (h : PA X es t) : PE X (.List es pos) (tLst t) := by
  intro pins s σ H Q I hq
  refine wpAny_List_spliced (thn (h pos pins s σ H _ I hq) fun us s1 ⟨xs, H1, I1, r, z, q⟩ => ⟨by rw [← r.length]; exact z, ?_⟩)
  have hf : H1 s1.heap.objs.size = none := I1.hok.fresh (Nat.le_refl _)
  refine ⟨.ref s1.heap.objs.size, upd H1 s1.heap.objs.size (.lst xs), I1.laid (t' := s1.toks) (fun b u e => Heap.get?_push_of_some _ e) (Nat.le_refl _) ?_, rfl, q _ hf⟩
  exact ⟨z, us, 0, r, Heap.get?_push_size _ rfl⟩
end
noncomputable abbrev Sp := List V → Hp → VK → XK → Prop
noncomputable abbrev CXT := List Env → Hp → Shared → XK → Value → Shared → Prop
structure Env0 (P : Program) (w : World) (K : PySem.W.Frag) (mg : Str → Option Value) (base : Heap) (A : Around) (outer : List Env) (s : Shared) (H : Hp) : Prop where
  frames : A.frames = some outer
  mod : Mod K mg base
  bs : ∀ b o, base.get? b = some o → s.heap.get? b = some o ∧ H b = none
  bsz : base.objs.size ≤ s.heap.objs.size
  funs : s.heap.FunFrames base outer
  frf : ∀ b ∈ frs outer, H b = none
  hok : HOk P w H s.heap
  bare : AllBare s.gens
noncomputable def CE (outer : List Env) (P : Program) (w : World) (H : Hp) (s : Shared) (Q : VK) (u : Value) (s' : Shared) : Prop :=
  ∃ v H', s'.os = s.os ∧ AllBare s'.gens ∧ Un (frs outer) [] H H' s.heap s'.heap ∧ HOk P w H' s'.heap ∧ RelV v u ∧ Q v H'
noncomputable def CR (CX : CXT) (outer : List Env) (P : Program) (w : World) (H : Hp) (s : Shared) (Q : VK) (E : XK) (r : Result) (s' : Shared) : Prop :=
  match r with
  | .ok (.ret u) => CE outer P w H s Q u s'
  | .ok _ => False
  | .error e => CX outer H s E e s'
structure FnOk (P : Program) (w : World) (K : PySem.W.Frag) (mg : Str → Option Value) (base : Heap) (CX : CXT) (k : Nat) (f : Addr) (fd : FuncData) (ps : List Str) (sp : Sp) : Prop where
  len : ∀ vs H Q E, sp vs H Q E → vs.length = ps.length
  run : ∀ (A : Around) (outer : List Env) (s : Shared) (H : Hp) (args : Args) (us : List Value) (vs : List V) (Q : VK) (E : XK), Room k A → Env0 P w K mg base A outer s H → BindsTo s fd args (ps.zip us) → Vals vs us → sp vs H Q E →
    codeAny (model P w) A (.call (.ref f) args) (CR CX outer P w H s Q E) s
theorem FnOk.imp {P : Program} {w : World} {K : PySem.W.Frag} {mg : Str → Option Value} {base : Heap} {CX : CXT} {k : Nat} {f : Addr} {fd : FuncData} {ps : List Str} {sp sp' : Sp} (F : FnOk P w K mg base CX k f fd ps sp)
    (h : ∀ vs H Q E, sp' vs H Q E → sp vs H Q E) : FnOk P w K mg base CX k f fd ps sp' :=
  ⟨fun vs H Q E q => F.len vs H Q E (h _ _ _ _ q), fun A outer s H args us vs Q E hr he hb hv hs => F.run A outer s H args us vs Q E hr he hb hv (h _ _ _ _ hs)⟩
theorem Env0.make {P : Program} {w : World} {K : PySem.W.Frag} {mg : Str → Option Value} {base : Heap} {A : Around} {outer : List Env} {s : Shared} {H : Hp} (e : Env0 P w K mg base A outer s H) (C : Addr) (us : List Value) (kw : List (Str × Value)) :
    Env0 P w K mg base (A.under (.builtin "type.__call__" ⟨.ref C :: us, kw⟩)) outer s H := ⟨by first | exact e.frames | (simpa [Around.under, Code.envs, Code.isFrame, pushEnvs] using e.frames), e.mod, e.bs, e.bsz, e.funs, e.frf, e.hok, e.bare⟩
section
variable {X : Cx} {pins : List (Addr × Obj)} {σ : St} {H : Hp} {s s' : Shared}
theorem Inv.env0 (I : Inv X pins σ H s) : Env0 X.prog X.w X.K X.mg X.base X.A X.stack s H :=
  ⟨I.ok.frames, I.ok.mod, I.bs, Nat.le_trans I.ok.bsz I.sz, I.stack, I.stkFree, I.hok, I.bare⟩
theorem Inv.after {Q : VK} {u : Value} (I : Inv X pins σ H s) (h : CE X.stack X.prog X.w H s Q u s') : EP X pins σ Q u s' := by
  obtain ⟨v, H', os, bare, un, hok, r, q⟩ := h
  obtain ⟨hh, g, d, t, os'⟩ := s'
  obtain rfl : os' = s.os := os
  exact ⟨v, H', I.call (h' := hh) (g' := g) (d' := d) (t' := t) (ch := []) un hok bare (fun b z => absurd z (by simp)), r, q⟩
end
noncomputable def Binds (K : PySem.W.Frag) (fd : FuncData) (ps : List Str) (ds : List Value) : Prop :=
  ∀ (s : Shared) (us : List Value), K.In s.heap → (us ++ ds).length = ps.length → BindsTo s fd ⟨us, []⟩ (ps.zip (us ++ ds))
theorem Binds.all {K : PySem.W.Frag} {fd : FuncData} {ps : List Str} (h : ∀ us : List Value, us.length = ps.length → bindArgs fd ⟨us, []⟩ = pure (ps.zip us)) : Binds K fd ps [] := fun s us _ hl => by
  rw [List.append_nil] at hl ⊢
  exact .of_eq (h us hl)
noncomputable def Passes (CX : CXT) (X : Cx) (E : XK) : Prop := ∀ (pins : List (Addr × Obj)) (σ : St) (H : Hp) (s : Shared) (e : Value) (s' : Shared), Inv X pins σ H s → CX X.stack H s E e s' → X.xe e s'
section
variable {X : Cx} {CX : CXT} {k : Nat} {f C : Addr} {fd : FuncData} {ps : List Str} {sp : Sp} {dvs : List V} {ds : List Value} {E : XK} {x m : Str} {p pos apos : Pos} {e o : Expr} {es : List Expr} {ta : TE} {t : TA}
end
section
variable {X : Cx} {CX : CXT} {k : Nat} {f C : Addr} {fd : FuncData} {ps ks : List Str} {sp : Sp} {E : XK} {x m : Str} {p pos apos kpos : Pos} {e o : Expr} {es : List Expr} {kws : List Keyword} {te ta : TE} {t tk : TA} {nm : Option Str}
variable {g : List Value → List Value → List Value} {gV : List V → List V → List V}
end
structure FnScope (N P : List Str) (sc : Scope) : Prop where
  kind : sc.kind = .function
  co : sc.isCoroutine = false
  gen : sc.isGenerator = false
  nd : N.Nodup
  pre : N.take P.length = P
  par : ∀ x ∈ P, sc.names.lookup x = some .local ∨ sc.names.lookup x = some .cell
  nofree : ∀ y ∈ sc.names, y.2 ≠ .free
theorem bindL_out {kindOf : Str → Option NameKind} {x : Str} : ∀ {binds : List (Str × Value)} {m : Str → Option Value}, (∀ v, (x, v) ∉ binds) → bindL kindOf binds m x = m x
  | [], _, _ => rfl
  | (n, v) :: r, m, h => by
    unfold bindL
    rw [bindL_out fun w hw => h w (List.mem_cons_of_mem _ hw)]
    split
    · have : x ≠ n := by rintro rfl; exact h v List.mem_cons_self
      simp [this]
    · rfl
theorem bindC_out {kindOf : Str → Option NameKind} {x : Str} : ∀ {binds : List (Str × Value)} {m : Str → Option Value}, (∀ v, (x, v) ∉ binds) → bindC kindOf binds m x = m x
  | [], _, _ => rfl
  | (n, v) :: r, m, h => by
    unfold bindC
    rw [bindC_out fun w hw => h w (List.mem_cons_of_mem _ hw)]
    split
    · rfl
    · have : x ≠ n := by rintro rfl; exact h v List.mem_cons_self
      simp [this]
theorem bindL_get {kindOf : Str → Option NameKind} {x : Str} {v : Value} : ∀ {P : List Str} {vs : List Value} {i : Nat} {m : Str → Option Value}, P.Nodup → P[i]? = some x → vs[i]? = some v → kindOf x = some .local →
    bindL kindOf (P.zip vs) m x = some v
  | [], _, _, _, _, h, _, _ => by simp at h
  | _ :: _, [], _, _, _, _, h, _ => by simp at h
  | p :: P, w :: vs, 0, m, nd, h1, h2, hk => by
    simp at h1 h2; subst h1; subst h2
    show bindL kindOf ((p, w) :: P.zip vs) m p = _
    unfold bindL
    rw [bindL_out fun v hv => (List.nodup_cons.mp nd).1 (List.of_mem_zip hv).1, if_pos hk]
    simp
  | p :: P, w :: vs, i + 1, m, nd, h1, h2, hk => by
    show bindL kindOf ((p, w) :: P.zip vs) m x = _
    unfold bindL
    exact bindL_get (i := i) (List.nodup_cons.mp nd).2 (by simpa using h1) (by simpa using h2) hk
theorem bindC_get {kindOf : Str → Option NameKind} {x : Str} {v : Value} : ∀ {P : List Str} {vs : List Value} {i : Nat} {m : Str → Option Value}, P.Nodup → P[i]? = some x → vs[i]? = some v → kindOf x ≠ some .local →
    bindC kindOf (P.zip vs) m x = some v
  | [], _, _, _, _, h, _, _ => by simp at h
  | _ :: _, [], _, _, _, _, h, _ => by simp at h
  | p :: P, w :: vs, 0, m, nd, h1, h2, hk => by
    simp at h1 h2; subst h1; subst h2
    show bindC kindOf ((p, w) :: P.zip vs) m p = _
    unfold bindC
    rw [bindC_out fun v hv => (List.nodup_cons.mp nd).1 (List.of_mem_zip hv).1, if_neg hk]
    simp
  | p :: P, w :: vs, i + 1, m, nd, h1, h2, hk => by
    show bindC kindOf ((p, w) :: P.zip vs) m x = _
    unfold bindC
    exact bindC_get (i := i) (List.nodup_cons.mp nd).2 (by simpa using h1) (by simpa using h2) hk
noncomputable def start (N : List Str) (vs : List V) : St := vs.map some ++ List.replicate (N.length - vs.length) none
noncomputable def cxOf (CX : CXT) (P : Program) (w : World) (K : PySem.W.Frag) (mg : Str → Option Value) (base : Heap) (N : List Str) (qual : Str) (scope : Scope) (f : Addr) (cd : Value) (A : Around) (outer : List Env) (s : Shared) (H : Hp) (E : XK) : Cx where
  prog := P
  w := w
  K := K
  mg := mg
  base := base
  A := A.deeper (envOfC qual scope s.heap.objs.size f cd)
  N := N
  s₀ := s
  H₀ := H
  env := envOfC qual scope s.heap.objs.size f cd
  outer := outer
  stack := envOfC qual scope s.heap.objs.size f cd :: outer
  ex := []
  calm := true
  fn := fun _ => true
  pn := []
  xe := fun e s' => wpAny (model P w) (A.deeper (envOfC qual scope s.heap.objs.size f cd)) (leaving (envOfC qual scope s.heap.objs.size f cd) e) (fun _ s'' => CX outer H s E e s'') (fun e' s'' => CX outer H s E e' s'') s'
theorem cell_has {sc : Scope} {n : Nat} {x : Str} (h : sc.names.lookup x = some .cell) : ∃ c, (cellsFrom n sc.names []).lookup x = some c := by
  have q := PySem.W.cellsFrom_some sc.names n [] (.inl h)
  exact Option.isSome_iff_exists.mp q
theorem inv_start {CX : CXT} {P : Program} {w : World} {K : PySem.W.Frag} {mg : Str → Option Value} {base : Heap} {N ps : List Str} {qual : Str} {scope : Scope} {f : Addr} {cd : Value} {A : Around} {outer : List Env} {s s1 : Shared} {H : Hp} {E : XK} {us : List Value} {vs : List V}
    (S : FnScope N ps scope) (hd : A.handled = none) (e0 : Env0 P w K mg base A outer s H) (hl : vs.length = ps.length) (r : Vals vs us)
    (x : InCallC s s.heap.objs.size (bindL (envOfC qual scope s.heap.objs.size f cd).kindOf (ps.zip us) fun _ => none) (cellsFrom (s.heap.objs.size + 1) scope.names []) (bindC (envOfC qual scope s.heap.objs.size f cd).kindOf (ps.zip us) fun _ => none) s1) :
    Inv (cxOf CX P w K mg base N qual scope f cd A outer s H E) [] (start N vs) H s1 := by
  have hpl : ps.length ≤ N.length := by have := congrArg List.length S.pre; rw [List.length_take] at this; omega
  obtain ⟨h1, tk, rfl, hk⟩ := x.done
  have noA : ∀ b : Addr, b ∉ (cxOf CX P w K mg base N qual scope f cd A outer s H E).ex := fun b z => absurd (show b ∈ ([] : List Addr) from z) (by simp)
  refine ⟨⟨e0.mod, S.kind, rfl, rfl, Nat.le_refl _, fun y z c h1 h2 => ?_, fun y hy => ?_, fun y c _ h => ?_, fun _ => hd, Around.frames_deeper e0.frames, .inr ⟨rfl, rfl⟩, fun b z => absurd z (noA b), e0.bs, e0.bsz, fun b _ _ => noA b, fun b z => absurd z (noA b), e0.funs, e0.frf⟩,
    rfl, e0.bare, Un.kept hk, ⟨_, x.toInCall.ns, fun i y v h1 h2 h3 => ?_⟩, fun y c h => ⟨_, x.cell y c h⟩, e0.hok.fresh (Nat.le_refl _), fun y c h => ?_, fun p hp => absurd (show p ∈ ([] : List (Addr × Obj)) from hp) (by simp), e0.hok.kept hk, ?_⟩
  · exact name_of_addr x.apart (PySem.mem_of_lookup h1) (PySem.mem_of_lookup h2)
  · have hy : scope.names.lookup y = some .cell ∨ scope.names.lookup y = some .free := hy
    rcases hy with hy | hy
    · exact cell_has hy
    · exact absurd rfl (S.nofree _ (PySem.mem_of_lookup hy))
  · exact Nat.le_of_lt (x.above y c (PySem.mem_of_lookup h))
  · have hi : i < vs.length := by
      unfold start at h2
      by_cases hi : i < vs.length
      · exact hi
      · rw [List.getElem?_append_right (by simpa using hi)] at h2
        rw [List.getElem?_replicate] at h2
        split at h2 <;> cases h2
    have ha : vs[i]? = some v := by
      unfold start at h2
      rw [List.getElem?_append_left (by simpa using hi), List.getElem?_map] at h2
      cases e : vs[i]? with
      | none => rw [e] at h2; cases h2
      | some a => rw [e] at h2; cases h2; rfl
    obtain ⟨u, hu, rv⟩ := r.get ha
    have hp : ps[i]? = some y := by
      rw [← S.pre, List.getElem?_take_of_lt (by omega)]; exact h1
    have ndP : ps.Nodup := by rw [← S.pre]; exact S.nd.sublist (List.take_sublist _ _)
    refine ⟨u, rv, ?_⟩
    rcases S.par y (List.mem_of_getElem? hp) with k | k
    · exact .inl ⟨k, bindL_get ndP hp hu k⟩
    · obtain ⟨c, e⟩ := cell_has (n := s.heap.objs.size + 1) k
      refine .inr ⟨.inl k, c, e, ?_⟩
      have q := x.cell y c e
      rw [bindC_get ndP hp hu (by show scope.names.lookup y ≠ _; rw [k]; decide)] at q
      exact q
  · exact e0.hok.fresh (Nat.le_of_lt (x.above y c (PySem.mem_of_lookup h)))
  · unfold start
    show _ = N.length
    rw [List.length_append, List.length_map, List.length_replicate]
    omega
theorem fn_of {CX : CXT} {P : Program} {w : World} {K : PySem.W.Frag} {mg : Str → Option Value} {base : Heap} {k : Nat} {f : Addr} {name qual : Str} {params : Arguments} {body : List Stmt} {scope : Scope} {dV kV doc pm cdv ct oc : Value} {an od : Option Addr}
    {osl : Array (Option Value)} {N ps : List Str} {sp : Sp} (lk : K.lookup f = some ⟨oc, od, .func (PySem.W.fnOf name qual params body scope dV kV doc pm an cdv ct), osl⟩) (hcd : PySem.W.codeIn K cdv qual = true) (S : FnScope N ps scope)
    (len : ∀ vs H Q E, sp vs H Q E → vs.length = ps.length)
    (hbody : ∀ (A : Around) (outer : List Env) (s : Shared) (H : Hp) (vs : List V) (Q : VK) (E : XK), Room k (A.deeper (envOfC qual scope s.heap.objs.size f cdv)) → sp vs H Q E →
      ∃ t, PSs (cxOf CX P w K mg base N qual scope f cdv A outer s H E) body t ∧ t { nx := fun _ H' => Q .non H', rt := Q } (start N vs) H) :
    FnOk P w K mg base CX (k + 1) f (PySem.W.fnOf name qual params body scope dV kV doc pm an cdv ct) ps sp := by
  refine ⟨len, fun A outer s H args us vs Q E hr e0 hb r hsp => ?_⟩
  have hl := len _ _ _ _ hsp
  have KX : K.In s.heap := e0.mod.kin.keeps fun b o e => (e0.bs b o e).1
  have lim : s.heap.NoLimit := e0.mod.nolimit.keeps fun b o e => (e0.bs b o e).1
  have hkind : ∀ y ∈ ps.zip us, scope.names.lookup y.1 = some .local ∨ (scope.names.lookup y.1 = some .cell ∧ ((cellsFrom (s.heap.objs.size + 1) scope.names []).lookup y.1).isSome = true) := fun ⟨n, v⟩ hy => by
    rcases S.par n (List.of_mem_zip hy).1 with q | q
    · exact .inl q
    · exact .inr ⟨q, PySem.W.cellsFrom_some _ _ _ (.inl q)⟩
  refine codeAny_call_function hr.depth (KX _ _ lk) rfl S.co S.gen rfl (PySem.W.codeRec_of KX hcd) (hb _ _ _ _ ?_)
  refine wpAny_newFunctionEnv_cells S.kind hkind fun env he s1 x => ?_
  subst he
  refine ⟨lim.keeps x.toInCall.keep, codeAny_func ?_⟩
  obtain ⟨t, ht, hq⟩ := hbody A outer s H vs Q E (hr.deeper _) hsp
  have I : Inv (cxOf CX P w K mg base N qual scope f cdv A outer s H E) [] (start N vs) H s1 := inv_start S hr.hd e0 hl r x
  refine wpAny_mono (ht [] s1 (start N vs) H _ I hq) (fun fl s' hs => ?_) fun e s' hs => hs
  have fin : ∀ {σ' : St} {H' : Hp} {v : V} {u : Value}, Inv (cxOf CX P w K mg base N qual scope f cdv A outer s H E) [] σ' H' s' → RelV v u → Q v H' → CE outer P w H s Q u s' :=
    fun {σ' H' v u} J rv q => ⟨v, H', J.os, J.bare, J.base, J.hok, rv, q⟩
  cases fl with
  | ret u =>
    obtain ⟨v, σ', H', J, rv, q⟩ := hs
    exact fin J rv q
  | next =>
    obtain ⟨σ', H', J, q⟩ := hs
    exact fin (v := V.non) (u := Value.none) J rfl q
  | brk =>
    obtain ⟨_, _, _, q⟩ := hs
    exact False.elim q
  | cont =>
    obtain ⟨_, _, _, q⟩ := hs
    exact False.elim q
end L2
namespace L2
open PySem PySem.Spec PyProof.Rows
section
variable {X : Cx} {x : Str} {p pos : Pos} {e : Expr} {es : List Expr} {t : TA} {id T : String} {r : List V → Hp → VK → Prop}
noncomputable def tCB (r : List V → Hp → VK → Prop) (t : TA) : TE := fun σ H Q => t σ H fun vs H1 => r vs H1 Q
theorem pe_callB (hc : CallR X (.builtin id) r) (hg : Gl X x) (hm : X.mg x = none) (hv : bootBuiltins x = some (.builtin id)) (ha : PA X (e :: es) t) (hn : x ≠ "__name__" := by decide) (hdb : (x == ("__debug__" : Str)) = false := by decide)
    (he : starEach (e :: es) X.env = (false, eval e X.env) :: starEach es X.env := by rfl) (hpl : (backTo pos (starEach es X.env)).any (·.1) = false := by rfl) : PE X (.Call (.Name x p) (e :: es) [] pos) (tCB r t) := by
  intro pins s σ H Q I h
  refine wpAny_Call_Name_kw (ld_blt I hg hm hv ?_ hn hdb)
  exact PyProof.Rows.callWith_builtin1 (thn (ha pos pins s σ H _ I h) fun us s1 ⟨vs, H1, I1, r1, q1⟩ => hc pins s1 σ H1 vs us Q I1 r1 q1) he hpl
theorem pe_callTy (hc : CallR X (.type T) r) (hg : Gl X x) (hm : X.mg x = none) (hv : bootBuiltins x = some (.type T)) (ha : PA X (e :: es) t) (hn : x ≠ "__name__" := by decide) (hdb : (x == ("__debug__" : Str)) = false := by decide)
    (he : starEach (e :: es) X.env = (false, eval e X.env) :: starEach es X.env := by rfl) (hpl : (backTo pos (starEach es X.env)).any (·.1) = false := by rfl) : PE X (.Call (.Name x p) (e :: es) [] pos) (tCB r t) := by
  intro pins s σ H Q I h
  refine wpAny_Call_Name_kw (ld_blt I hg hm hv ?_ hn hdb)
  exact PyProof.Rows.callWith_type1 (thn (ha pos pins s σ H _ I h) fun us s1 ⟨vs, H1, I1, r1, q1⟩ => hc pins s1 σ H1 vs us Q I1 r1 q1) he hpl
end
end L2
namespace HT
open PySem PyProof.Rows
section
open PySem.SeqAt
open PySem.AutoSeq1 (wpAny_loadPart')
open PySem.MeetsSeq PySem.MeetsSeq2 PySem.MeetsSeq3
end
section
variable {prog : Program} {w : World} {A : Around} {E : Value → Shared → Prop} {s : Shared}
noncomputable def sIx (n d : Nat) : Option Int → Nat
  | none => d
  | some v => if v < 0 then (v + (n : Int)).toNat else min v.toNat n
theorem sIx_le (n d : Nat) (hd : d ≤ n) (o : Option Int) : sIx n d o ≤ n := by
  cases o with
  | none => exact hd
  | some v =>
    show (if v < 0 then (v + (n : Int)).toNat else min v.toNat n) ≤ n
    by_cases hv : v < 0
    · rw [if_pos hv]; omega
    · rw [if_neg hv]; exact Nat.min_le_right _ _
theorem clip_eq (v : Int) (n d : Nat) : (if v < 0 then max (v + (n : Int)) 0 else min v (n : Int)) = ((sIx n d (some v) : Nat) : Int) := by
  show (if v < 0 then max (v + (n : Int)) 0 else min v (n : Int)) = (((if v < 0 then (v + (n : Int)).toNat else min v.toNat n) : Nat) : Int)
  by_cases hv : v < 0
  · simp only [if_pos hv]; omega
  · simp only [if_neg hv]; omega
theorem adjust_gen (lo hi : Option Int) (n : Nat) : Builtin.Slice.sliceAdjust lo hi 1 (n : Int) = (((sIx n 0 lo : Nat) : Int), ((sIx n n hi : Nat) : Int)) := by
  have h1 : ¬ ((1 : Int) < 0) := by omega
  unfold Builtin.Slice.sliceAdjust
  simp only [h1, if_false]
  refine Prod.ext ?_ ?_
  · cases lo with
    | none => rfl
    | some v => exact clip_eq v n 0
  · cases hi with
    | none => rfl
    | some v => exact clip_eq v n n
theorem places_gen (i j : Nat) : Builtin.Slice.slicePlaces (i : Int) (j : Int) 1 = j - i := by
  unfold Builtin.Slice.slicePlaces
  have h1 : (1 : Int) > 0 := by omega
  simp only [h1, if_true, Int.ediv_one]
  split <;> omega
theorem slicePart_ {v : Value} {o : Option Int} {Q : Option Int → Shared → Prop} (p : IsPart v o) (h : Q o s) : wpAny (model prog w) A (Builtin.Slice.slicePartIndex v) Q E s := by
  cases p with
  | none => exact slicePart_none h
  | int i t => exact slicePart_int h
theorem sliceApplied_gen {sl : Addr} {vl vu : Value} {lo hi : Option Int} {n : Nat} {Q : Int × Int × Nat → Shared → Prop} (hs : s.heap.IsSliceOf sl vl vu .none) (pl : IsPart vl lo) (pu : IsPart vu hi)
    (h : Q (((sIx n 0 lo : Nat) : Int), 1, sIx n n hi - sIx n 0 lo) s) : wpAny (model prog w) A (Builtin.Slice.sliceApplied (.ref sl) (pure (n : Int))) Q E s := by
  obtain ⟨os, hos, hcs, hds⟩ := id hs
  unfold Builtin.Slice.sliceApplied Builtin.Slice.sliceFields
  refine wpAny_bind (wpAny_bind (wpAny_field hos hds (x := vl) rfl (wpAny_bind (wpAny_field hos hds (x := vu) rfl (wpAny_bind (wpAny_field hos hds (x := .none) rfl (wpAny_pure ?_)))))))
  refine wpAny_bind (slicePart_none ?_)
  show wpAny _ _ (if ((1 : Int) == 0) = true then _ else _) _ _ s
  rw [if_neg (by decide)]
  refine wpAny_bind (slicePart_ pl (wpAny_bind (slicePart_ pu (wpAny_bind (wpAny_pure ?_)))))
  show wpAny _ _ (match Builtin.Slice.sliceAdjust lo hi 1 (n : Int) with | (lo, hi) => pure (lo, (1 : Int), Builtin.Slice.slicePlaces lo hi 1)) _ _ s
  rw [adjust_gen lo hi n]
  show wpAny _ _ (pure (((sIx n 0 lo : Nat) : Int), (1 : Int), Builtin.Slice.slicePlaces ((sIx n 0 lo : Nat) : Int) ((sIx n n hi : Nat) : Int) 1)) _ _ s
  rw [places_gen]
  exact wpAny_pure h
theorem pick_gen (xs : Array Value) (i k : Nat) : ((List.range k).filterMap fun (m : Nat) => xs[((i : Int) + (m : Int) * 1).toNat]?).toArray = ((xs.toList.drop i).take k).toArray := by
  have e : (fun (m : Nat) => xs[((i : Int) + (m : Int) * 1).toNat]?) = fun m => xs[i + m]? := by
    funext m
    have : ((i : Int) + (m : Int) * 1).toNat = i + m := by omega
    rw [this]
  rw [e]
  have := pick_run xs i k
  rw [List.filterMap_map] at this
  have e2 : ((fun x => xs[x]?) ∘ fun x => i + x) = fun m => xs[i + m]? := rfl
  rw [e2] at this
  rw [this]
theorem getItem_tuple_cut {t sl : Addr} {items : Array Value} {vl vu : Value} {lo hi : Option Int} {Q : Value → Shared → Prop} (ht : IsTup s.heap t items) (hs : s.heap.IsSliceOf sl vl vu .none) (pl : IsPart vl lo) (pu : IsPart vu hi)
    (hw : ¬ (sIx items.size 0 lo = 0 ∧ sIx items.size items.size hi = items.size))
    (h : Q (.ref s.heap.objs.size) { s with heap := s.heap.push { cls := .type "tuple", data := .seq ((items.toList.drop (sIx items.size 0 lo)).take (sIx items.size items.size hi - sIx items.size 0 lo)).toArray } })
    (hsz : items.size ≤ sizeLine) : wpAny (model prog w) A (getItem (.ref t) (.ref sl)) Q E s := by
  have htake : sizeOk (.seq ((items.toList.drop (sIx items.size 0 lo)).take (sIx items.size items.size hi - sIx items.size 0 lo)).toArray) := by
    show ((items.toList.drop (sIx items.size 0 lo)).take (sIx items.size items.size hi - sIx items.size 0 lo)).toArray.size ≤ sizeLine
    rw [List.size_toArray, List.length_take, List.length_drop, Array.length_toList]
    omega
  have hj : sIx items.size items.size hi ≤ items.size := sIx_le _ _ (Nat.le_refl _) hi
  obtain ⟨os, hos, hcs, hds⟩ := id hs
  have hTs : s.TypeIs (.ref sl) "slice" := ⟨os, hos, hcs⟩
  unfold getItem
  try with_reducible refine wpAny_holding ?_
  first | refine wpAny_bind (wpAny_pure ?_) | skip
  refine wpAny_bind (wpAny_sequenceKey ht.typeIs (by decide) ?_)
  refine wpAny_bind (wpAny_callSpecial?_slot (name := Str.ofString "__getitem__") ht.typeIs PyProof.Rows.slot_tuple_getitem
    (wpAny_call_entry PyProof.Rows.slot_tuple_getitem ht.typeIs entry_tuple_getitem ?_ (args_tuple_getitem _ _)))
  show wpAny _ _ (Builtin.Tuple.tupleItemsOf (.ref t) >>= _) _ _ s
  refine wpAny_bind (tupleItemsOf_ ht ?_)
  refine wpAny_bind (wpAny_typeOf hTs ?_)
  rw [if_pos (by decide)]
  refine wpAny_bind (sliceApplied_gen hs pl pu ?_)
  have hno : ¬ ((((sIx items.size 0 lo : Nat) : Int) == 0 && (1 : Int) == 1 && (sIx items.size items.size hi - sIx items.size 0 lo) == items.size) = true) := by
    intro q
    rw [Bool.and_eq_true, Bool.and_eq_true] at q
    have q1 : ((sIx items.size 0 lo : Nat) : Int) = 0 := eq_of_beq q.1.1
    have q2 : sIx items.size items.size hi - sIx items.size 0 lo = items.size := eq_of_beq q.2
    exact hw ⟨by omega, by omega⟩
  show wpAny _ _ (if (((sIx items.size 0 lo : Nat) : Int) == 0 && (1 : Int) == 1 && (sIx items.size items.size hi - sIx items.size 0 lo) == items.size) = true then _ else _) _ _ s
  rw [if_neg hno, pick_gen]
  first
    | exact wpAny_bind (m := Builtin.Tuple.tupleExact _) (wpAny_newObj_type (wpAny_pure ⟨_, rfl, wpAny_pure h⟩) htake)
    | exact wpAny_bind (m := Builtin.Tuple.tupleExact _) (wpAny_newObj_type (wpAny_bind (wpAny_pure (wpAny_pure ⟨_, rfl, wpAny_pure h⟩))) htake)
    | exact wpAny_bind (wpAny_bind (m := Builtin.Tuple.tupleExact _) (wpAny_newObj_type (wpAny_pure (wpAny_pure ⟨_, rfl, wpAny_pure h⟩)) htake))
    | exact wpAny_bind (wpAny_bind (m := Builtin.Tuple.tupleExact _) (wpAny_newObj_type (wpAny_pure ⟨_, rfl, wpAny_pure h⟩) htake))
end
end HT
namespace L2
open PySem PySem.Spec PyProof.Rows
noncomputable abbrev TO := St → Hp → (Option Int → Hp → Prop) → Prop
noncomputable def PO (X : Cx) (e : Option Expr) (t : TO) : Prop :=
  ∀ (pins : List (Addr × Obj)) (s : Shared) (σ : St) (H : Hp) (Q : Option Int → Hp → Prop), Inv X pins σ H s → t σ H Q →
    wpAny (model X.prog X.w) X.A (evalPart e X.env) (fun u s' => ∃ o H', Inv X pins σ H' s' ∧ IsPart u o ∧ Q o H') X.xe s
noncomputable def tNoPart : TO := fun _ H Q => Q none H
noncomputable def tPart (t : TE) : TO := fun σ H Q => t σ H fun x H1 => ∃ i, x = .int i ∧ Q (some i) H1
section
variable {X : Cx} {e : Expr} {te : TE} {lo hi : Option Expr} {tl th : TO} {pos p2 : Pos}
theorem po_none : PO X none tNoPart := by
  intro pins s σ H Q I h
  rw [evalPart_none]
  exact wpAny_pure ⟨none, H, I, .none, h⟩
theorem po_some (h : PE X e te) : PO X (some e) (tPart te) := by
  intro pins s σ H Q I hw
  rw [evalPart_some]
  refine thn (h pins s σ H _ I hw) fun u s1 ⟨x, H1, I1, r1, q1⟩ => ?_
  obtain ⟨i, rfl, q⟩ := q1
  obtain ⟨t, rfl⟩ := r1
  exact ⟨some i, H1, I1, .int i t, q⟩
noncomputable def SlR (X : Cx) (r : V → Option Int → Option Int → Hp → VK → Prop) : Prop :=
  ∀ (pins : List (Addr × Obj)) (s : Shared) (σ : St) (H : Hp) (x : V) (v vl vu : Value) (lo hi : Option Int) (sl : Addr) (Q : VK), Inv X pins σ H s → RelV x v → s.heap.IsSliceOf sl vl vu .none → IsPart vl lo → IsPart vu hi → r x lo hi H Q →
    ∃ T id, typeLookup (.type T) "__getitem__" = pure (some (.builtin id)) ∧ s.TypeIs v T ∧ wpAny (model X.prog X.w) X.A (getItem v (.ref sl)) (EP X pins σ Q) X.xe s
theorem SlR.or {r r' : V → Option Int → Option Int → Hp → VK → Prop} (h : SlR X r) (h' : SlR X r') : SlR X (fun x lo hi H Q => r x lo hi H Q ∨ r' x lo hi H Q) := by
  intro pins s σ H x v vl vu lo hi sl Q I rx hs pl pu q
  rcases q with q | q
  · exact h pins s σ H x v vl vu lo hi sl Q I rx hs pl pu q
  · exact h' pins s σ H x v vl vu lo hi sl Q I rx hs pl pu q
noncomputable def tSl (r : V → Option Int → Option Int → Hp → VK → Prop) (te : TE) (tl th : TO) : TE := fun σ H Q => te σ H fun x H1 => tl σ H1 fun l H2 => th σ H2 fun u H3 => r x l u H3 Q
theorem pe_slice {r : V → Option Int → Option Int → Hp → VK → Prop} (hr : SlR X r) (he : PE X e te) (hl : PO X lo tl) (hu : PO X hi th) : PE X (.Subscript e (.Slice lo hi none p2) pos) (tSl r te tl th) := by
  intro pins s σ H Q I h
  refine Subscript_ (thn (he pins s σ H _ I h) fun v s1 ⟨x, H1, I1, r1, q1⟩ => ?_)
  refine wpAny_Slice (thn (hl pins s1 σ H1 _ I1 q1) fun vl s2 ⟨l, H2, I2, pl, q2⟩ => thn (hu pins s2 σ H2 _ I2 q2) fun vu s3 ⟨u, H3, I3, pu, q3⟩ => ?_)
  rw [evalPart_none]
  refine wpAny_pure ?_
  have I4 : Inv X pins σ H3 { s3 with heap := s3.heap.push { cls := .type "slice", data := .fields #[vl, vu, .none] } } := I3.kept (t' := s3.toks) fun b ob q => Heap.get?_push_of_some _ q
  obtain ⟨T, id, hT, ht, hg⟩ := hr pins { s3 with heap := s3.heap.push { cls := .type "slice", data := .fields #[vl, vu, .none] } } σ H3 x v vl vu l u s3.heap.objs.size Q I4 r1 (Heap.IsSliceOf.new ..) pl pu q3
  show wpAny (model X.prog X.w) X.A (subscriptTail e (.Slice lo hi none p2) v (.ref s3.heap.objs.size)) (EP X pins σ Q) X.xe { s3 with heap := s3.heap.push { cls := .type "slice", data := .fields #[vl, vu, .none] } }
  exact tail_any (ops := [.ref s3.heap.objs.size, v]) ht hT hg (by with_unfolding_all rfl)
noncomputable def cutV (xs : List V) (lo hi : Option Int) : List V := (xs.drop (HT.sIx xs.length 0 lo)).take (HT.sIx xs.length xs.length hi - HT.sIx xs.length 0 lo)
theorem cutV_length (xs : List V) (lo hi : Option Int) : (cutV xs lo hi).length ≤ xs.length := by
  unfold cutV
  rw [List.length_take, List.length_drop]
  omega
noncomputable def rSlT (K : PySem.W.Frag) : V → Option Int → Option Int → Hp → VK → Prop := fun x lo hi H Q => ∃ a xs, x = .ref a ∧ SqT K H a xs ∧
  ¬ (HT.sIx xs.length 0 lo = 0 ∧ HT.sIx xs.length xs.length hi = xs.length) ∧ ∀ p, H p = none → Q (.ref p) (upd H p (.tup (cutV xs lo hi)))
theorem sl_tup : SlR X (rSlT X.K) := by
  intro pins s σ H x v vl vu lo hi sl Q I rx hs pl pu h
  obtain ⟨a, xs, rfl, hx, hw, q⟩ := h
  cases rx
  obtain ⟨its, r, ht, hz⟩ := I.tuple hx
  have hlen : its.toArray.size = xs.length := by rw [List.size_toArray]; exact r.length.symm
  refine ⟨"tuple", _, PyProof.Rows.slot_tuple_getitem.lookup, ht.typeIs, ?_⟩
  refine HT.getItem_tuple_cut ht hs pl pu (by rw [hlen]; exact hw) ?_ (by rw [hlen]; exact hz)
  rw [hlen]
  refine ⟨.ref s.heap.objs.size, _, I.laid (t' := s.toks) (o := .tup (cutV xs lo hi)) (fun b ob q => Heap.get?_push_of_some _ q) (Nat.le_refl _) ?_, rfl, q _ (I.hok.fresh (Nat.le_refl _))⟩
  exact ⟨Nat.le_trans (cutV_length xs lo hi) hz, _, (r.drop (HT.sIx xs.length 0 lo)).take (HT.sIx xs.length xs.length hi - HT.sIx xs.length 0 lo), IsTup.new _ _⟩
end
end L2
namespace L2
open PySem PySem.Spec PyProof.Rows
noncomputable def ixN (n : Nat) (i : Int) : Option Nat := if 0 ≤ i then (if i < n then some i.toNat else none) else if -(n : Int) ≤ i then some (i + n).toNat else none
noncomputable def atI {α : Type} (xs : List α) (i : Int) : Option α := (ixN xs.length i).bind fun j => xs[j]?
theorem ixN_seq {n : Nat} {i : Int} {j : Nat} (h : ixN n i = some j) : seqIndex? i n = some j ∧ j < n ∧ -(n : Int) ≤ i ∧ i < n := by
  unfold ixN at h
  by_cases h0 : 0 ≤ i
  · rw [if_pos h0] at h
    by_cases h1 : i < n
    · rw [if_pos h1] at h
      have e : i.toNat = j := Option.some.inj h
      exact ⟨by rw [seqIndex_of h0 h1, e], by omega, by omega, h1⟩
    · rw [if_neg h1] at h; cases h
  · rw [if_neg h0] at h
    by_cases h1 : -(n : Int) ≤ i
    · rw [if_pos h1] at h
      have e : (i + n).toNat = j := Option.some.inj h
      exact ⟨by rw [seqIndex_neg (by omega) h1, e], by omega, h1, by omega⟩
    · rw [if_neg h1] at h; cases h
theorem atI_get {α : Type} {xs : List α} {i : Int} {v : α} (h : atI xs i = some v) : ∃ j, seqIndex? i xs.length = some j ∧ xs[j]? = some v ∧ j < xs.length ∧ -(xs.length : Int) ≤ i ∧ i < xs.length := by
  unfold atI at h
  cases e : ixN xs.length i with
  | none => rw [e] at h; cases h
  | some j =>
    rw [e] at h
    obtain ⟨h1, h2, h3, h4⟩ := ixN_seq e
    exact ⟨j, h1, h, h2, h3, h4⟩
noncomputable def PlainIx (b : Expr) : Prop := ∀ o i, subscripted b false o i = operate [o, i] (getItem o i)
noncomputable def IxR (X : Cx) (r : R2) : Prop :=
  ∀ (value slice : Expr) (pins : List (Addr × Obj)) (s : Shared) (σ : St) (H : Hp) (x y : V) (v u : Value) (Q : VK), Inv X pins σ H s → RelV x v → RelV y u → r x y H Q →
    subscripted slice false v u = operate [v, u] (getItem v u) → wpAny (model X.prog X.w) X.A (subscriptTail value slice v u) (EP X pins σ Q) X.xe s
noncomputable def MtR (X : Cx) (id : String) (r : V → List V → Hp → VK → Prop) : Prop :=
  ∀ (pins : List (Addr × Obj)) (s : Shared) (σ : St) (H : Hp) (x : V) (xs : List V) (v : Value) (us : List Value) (Q : VK), Inv X pins σ H s → RelV x v → Vals xs us → r x xs H Q →
    wpAny (model X.prog X.w) X.A (call (.builtin id) (v :: us)) (EP X pins σ Q) X.xe s
section
variable {X : Cx} {a b : Expr} {ta tb : TE} {pos : Pos}
theorem IxR.or {r r' : R2} (h : IxR X r) (h' : IxR X r') : IxR X (fun x y H Q => r x y H Q ∨ r' x y H Q) := by
  intro value slice pins s σ H x y v u Q I rx ry q hs
  rcases q with q | q
  · exact h value slice pins s σ H x y v u Q I rx ry q hs
  · exact h' value slice pins s σ H x y v u Q I rx ry q hs
theorem pe_ix {r : R2} (hr : IxR X r) (ha : PE X a ta) (hb : PE X b tb) (hs : PlainIx b) : PE X (.Subscript a b pos) (tOp r ta tb) := by
  intro pins s σ H Q I h
  exact Subscript_ (binT ha hb I h fun v u s2 x y H2 I2 rx ry q => hr a b pins s2 σ H2 x y v u Q I2 rx ry q (hs _ _))
noncomputable def rIxL (K : PySem.W.Frag) : R2 := fun x y H Q => ∃ p xs i v, x = .ref p ∧ y = .int i ∧ SqL K H p xs ∧ atI xs i = some v ∧ Q v H
noncomputable def rIxT (K : PySem.W.Frag) : R2 := fun x y H Q => ∃ p xs i v, x = .ref p ∧ y = .int i ∧ SqT K H p xs ∧ atI xs i = some v ∧ Q v H
theorem ix_list : IxR X (rIxL X.K) := by
  intro value slice pins s σ H x y v u Q I rx ry h hs
  obtain ⟨p, xs, i, z, rfl, rfl, hq, he, q⟩ := h
  cases rx
  obtain ⟨t, rfl⟩ := ry
  obtain ⟨its, r, pl, hz⟩ := I.list hq
  obtain ⟨j, h1, h2, h3, h4, h5⟩ := atI_get he
  obtain ⟨w, ew, rw'⟩ := r.get h2
  have hl := r.length
  have hn := line63
  have fin : EP X pins σ Q w s := ⟨z, H, I, rw', q⟩
  by_cases h0 : 0 ≤ i
  · have hj : i.toNat = j := by
      rw [seqIndex_of h0 h5] at h1
      exact Option.some.inj h1
    exact item_listR pl.isList h0 (by omega) (by rw [hj]; simpa using ew) fin hs
  · have hj : (i + (its.toArray.size : Int)).toNat = j := by
      rw [seqIndex_neg (by omega) h4] at h1
      rw [List.size_toArray, ← hl]
      exact Option.some.inj h1
    exact subscriptTail_builtinR (x := w) pl.isList.typeIs slot_list_getitem.lookup
      (wpAny_getItem_list_neg (Q := fun r s' => r = w ∧ EP X pins σ Q r s') pl.isList (by omega) (by rw [List.size_toArray] <;> omega) (by omega) (by rw [hj]; simpa using ew) ⟨rfl, fin⟩) hs
theorem ix_tup : IxR X (rIxT X.K) := by
  intro value slice pins s σ H x y v u Q I rx ry h hs
  obtain ⟨p, xs, i, z, rfl, rfl, hq, he, q⟩ := h
  cases rx
  obtain ⟨t, rfl⟩ := ry
  obtain ⟨its, r, pl, hz⟩ := I.tuple hq
  obtain ⟨j, h1, h2, h3, h4, h5⟩ := atI_get he
  obtain ⟨w, ew, rw'⟩ := r.get h2
  have hl := r.length
  have hn := line63
  have fin : EP X pins σ Q w s := ⟨z, H, I, rw', q⟩
  exact subscriptTail_builtinR (x := w) pl.typeIs slot_tuple_getitem.lookup
    (getItem_tuple (j := j) (Q := fun r s' => r = w ∧ EP X pins σ Q r s') pl (by omega) (by omega) (by rw [List.size_toArray, ← hl]; exact h1) (by simpa using ew) ⟨rfl, fin⟩) hs
theorem mapSeq_set (its : List Value) (n j : Nat) (u : Value) : Obj.mapSeq (·.setIfInBounds j u) { cls := .type "list", data := .seq its.toArray n } = { cls := .type "list", data := .seq (its.set j u).toArray n } := by
  simp [Obj.mapSeq]
theorem Inv.lst {pins : List (Addr × Obj)} {σ : St} {H : Hp} {s : Shared} {p : Addr} {xs : List V} (I : Inv X pins σ H s) (h : H p = some (.lst xs)) :
    ∃ (its : List Value) (n : Nat), Vals xs its ∧ s.heap.get? p = some { cls := .type "list", data := .seq its.toArray n } ∧ xs.length ≤ sizeLine := by
  obtain ⟨z, its, n, r, e⟩ := I.hok p _ h
  exact ⟨its, n, r, e, z⟩
theorem Inv.lstUpd {pins : List (Addr × Obj)} {σ : St} {H : Hp} {s : Shared} {p : Addr} {xs ys : List V} {its its' : List Value} {n n' : Nat} {f : Obj → Obj} (I : Inv X pins σ H s) (h : H p = some (.lst xs))
    (ho : s.heap.get? p = some { cls := .type "list", data := .seq its.toArray n }) (hf : f { cls := .type "list", data := .seq its.toArray n } = { cls := .type "list", data := .seq its'.toArray n' }) (r : Vals ys its') (hz : ys.length ≤ sizeLine) (t : Nat) :
    Inv X pins σ (upd H p (.lst ys)) { s with heap := s.heap.update p f, toks := t } := by
  have e : (s.heap.update p f).get? p = some { cls := .type "list", data := .seq its'.toArray n' } := by
    rw [Heap.get?_update_self f ho (by rw [hf] <;> rfl), hf]
  refine I.write (x := p) (e := p) (by rw [h]; trivial) (.inl rfl) (fun b u hb q => (Heap.get?_update_other _ _ (Ne.symm hb)).trans q) ⟨_, e⟩ ?_
  exact ⟨hz, its', n', r, e⟩
noncomputable def rSetL : V → V → V → Hp → (Hp → Prop) → Prop := fun o i v H Q => ∃ p xs k j, o = .ref p ∧ i = .int k ∧ H p = some (.lst xs) ∧ ixN xs.length k = some j ∧ Q (upd H p (.lst (xs.set j v)))
theorem set_list : PSet X rSetL := by
  intro pins s σ H o i v ov iv u Q I ro ri rv h
  obtain ⟨p, xs, k, j, rfl, rfl, hp, hj, q⟩ := h
  cases ro
  obtain ⟨t, rfl⟩ := ri
  obtain ⟨its, n, r, ho, hz⟩ := I.lst hp
  obtain ⟨h1, h2, h3, h4⟩ := ixN_seq hj
  have hl := r.length
  have hn := line63
  have I' : Inv X pins σ (upd H p (.lst (xs.set j v))) { s with heap := s.heap.update p (Obj.mapSeq (·.setIfInBounds j u)) } :=
    I.lstUpd hp ho (mapSeq_set its n j u) (r.set rv j) (by rw [List.length_set]; exact hz) s.toks
  by_cases h0 : 0 ≤ k
  · have hk : k.toNat = j := by
      rw [seqIndex_of h0 h4] at h1
      exact Option.some.inj h1
    exact PySem.W.ki_setAt ho h0 (by omega) (by rw [List.size_toArray, ← hl]; exact h4) (by rw [hk]; exact ⟨_, I', q⟩)
  · have hk : (k + (its.toArray.size : Int)).toNat = j := by
      rw [seqIndex_neg (by omega) h3] at h1
      rw [List.size_toArray, ← hl]
      exact Option.some.inj h1
    exact PySem.W.ki_setBack ho (by omega) (by rw [List.size_toArray, ← hl]; exact h3) (by omega) (by rw [hk]; exact ⟨_, I', q⟩)
theorem slice_bounds (lo hi : Option Int) (n : Nat) : (sliceBounds lo hi none n).1 = ((HT.sIx n 0 lo : Nat) : Int) ∧ (sliceBounds lo hi none n).2.1 = ((HT.sIx n n hi : Nat) : Int) ∧ (sliceBounds lo hi none n).2.2 = 1 := by
  refine ⟨?_, ?_, rfl⟩
  · cases lo with
    | none => simp [sliceBounds, HT.sIx]
    | some i =>
      simp only [sliceBounds, HT.sIx, Option.getD_none, show (1 : Int) > 0 by decide, if_true]
      by_cases h : i < 0
      · simp only [h, if_true] <;> omega
      · simp only [h, if_false] <;> omega
  · cases hi with
    | none => simp [sliceBounds, HT.sIx]
    | some i =>
      simp only [sliceBounds, HT.sIx, Option.getD_none, show (1 : Int) > 0 by decide, if_true]
      by_cases h : i < 0
      · simp only [h, if_true] <;> omega
      · simp only [h, if_false] <;> omega
theorem slicePick_cut (its : List Value) (lo hi : Option Int) : slicePick its.toArray lo hi none = ((its.drop (HT.sIx its.length 0 lo)).take (HT.sIx its.length its.length hi - HT.sIx its.length 0 lo)).toArray := by
  obtain ⟨h1, h2, h3⟩ := slice_bounds lo hi its.toArray.size
  unfold slicePick
  rw [h1, h2, h3]
  simp only [sliceRange_one, pick_run, List.size_toArray] <;> rfl
noncomputable def rSlL (K : PySem.W.Frag) : V → Option Int → Option Int → Hp → VK → Prop := fun x lo hi H Q => ∃ a xs, x = .ref a ∧ SqL K H a xs ∧ ∀ p, H p = none → Q (.ref p) (upd H p (.lst (cutV xs lo hi)))
theorem sl_list : SlR X (rSlL X.K) := by
  intro pins s σ H x v vl vu lo hi sl Q I rx hs pl pu h
  obtain ⟨a, xs, rfl, hx, q⟩ := h
  cases rx
  obtain ⟨its, r, ht, hz⟩ := I.list hx
  have hlen := r.length
  refine ⟨"list", _, slot_list_getitem.lookup, ht.isList.typeIs, ?_⟩
  refine wpAny_getItem_list_slice ht.isList hs pl pu .none (by simp) ?_ (by rw [List.size_toArray] <;> omega)
  rw [slicePick_cut, ← hlen]
  refine ⟨.ref s.heap.objs.size, _, I.laid (t' := s.toks) (o := .lst (cutV xs lo hi)) (fun b ob q => Heap.get?_push_of_some _ q) (Nat.le_refl _) ?_, rfl, q _ (I.hok.fresh (Nat.le_refl _))⟩
  exact ⟨Nat.le_trans (cutV_length xs lo hi) hz, _, 0, (r.drop (HT.sIx xs.length 0 lo)).take (HT.sIx xs.length xs.length hi - HT.sIx xs.length 0 lo), Heap.get?_push_size _ rfl⟩
theorem call_len_seq : CallR X (.builtin "len") (fun xs H Q => ∃ p ys, xs = [.ref p] ∧ (SqL X.K H p ys ∨ SqT X.K H p ys) ∧ Q (.int ys.length) H) := by
  intro pins s σ H xs us Q I r h
  obtain ⟨p, ys, rfl, hq, q⟩ := h
  obtain ⟨u, rfl, rx⟩ := vals1 r
  cases rx
  have hn := line63
  rcases hq with hq | hq
  · obtain ⟨its, r', pl, hz⟩ := I.list hq
    have hlen := r'.length
    exact Calls.call_len_list pl.isList (by simp only [List.size_toArray] <;> omega) ⟨.int ys.length, H, I.tok _, ⟨s.toks + 1, by rw [List.size_toArray, hlen]⟩, q⟩
  · obtain ⟨its, r', pl, hz⟩ := I.tuple hq
    have hlen := r'.length
    exact len_tuple pl (by simp only [List.size_toArray] <;> omega) ⟨.int ys.length, H, I.tok _, ⟨s.toks + 1, by rw [List.size_toArray, hlen]⟩, q⟩
theorem call_list_of : CallR X (.type "list") (fun xs H Q => ∃ p ys, xs = [.ref p] ∧ (SqL X.K H p ys ∨ SqT X.K H p ys) ∧ ∀ l, H l = none → Q (.ref l) (upd H l (.lst ys))) := by
  intro pins s σ H xs us Q I r h
  obtain ⟨p, ys, rfl, hq, q⟩ := h
  obtain ⟨u, rfl, rx⟩ := vals1 r
  cases rx
  have fin : ∀ (its : List Value), Vals ys its → ys.length ≤ sizeLine → ∀ (h' : Heap) (c' : Nat), (∀ b o', s.heap.get? b = some o' → h'.get? b = some o') →
      h'.get? s.heap.objs.size = some { cls := .type "list", dict := none, data := .seq its.toArray c', slots := #[] } → EP X pins σ Q (.ref s.heap.objs.size) { s with heap := h' } := fun its r' hz h' c' kp e =>
    ⟨.ref s.heap.objs.size, _, I.laid (t' := s.toks) kp (Nat.le_refl _) (show ObjOk X.prog X.w _ h' _ (.lst ys) from ⟨hz, its, c', r', e⟩), rfl, q _ (I.hok.fresh (Nat.le_refl _))⟩
  rcases hq with hq | hq
  · obtain ⟨its, r', pl, hz⟩ := I.list hq
    have hlen := r'.length
    obtain ⟨o, ho, hc, n, hd⟩ := pl.isList
    exact call_list_seq p (.inl rfl) ho hc hd (fun h' c' kp e => fin its r' hz h' c' kp e) (by simp only [List.size_toArray] <;> omega)
  · obtain ⟨its, r', pl, hz⟩ := I.tuple hq
    have hlen := r'.length
    obtain ⟨o, ho, hc, n, hd⟩ := pl
    exact call_list_seq p (.inr rfl) ho hc hd (fun h' c' kp e => fin its r' hz h' c' kp e) (by simp only [List.size_toArray] <;> omega)
noncomputable def tyV (K : PySem.W.Frag) (T : String) (x : V) (H : Hp) : Prop := match x with
  | .str _ => T = "str"
  | .int _ => T = "int"
  | .ref p => (T = "list" ∧ ∃ xs, SqL K H p xs) ∨ (T = "tuple" ∧ ∃ o, K.lookup p = some o ∧ o.cls = .type "tuple" ∧ o.dict = none) ∨
      (T = "dict" ∧ ((∃ kvs, H p = some (.dK kvs)) ∨ ∃ kvs, H p = some (.dT kvs))) ∨ (T = "set" ∧ ∃ S n, H p = some (.set S n))
  | _ => False
theorem tyV_is {pins : List (Addr × Obj)} {σ : St} {H : Hp} {s : Shared} {T : String} {x : V} {v : Value} (I : Inv X pins σ H s) (r : RelV x v) (ty : tyV X.K T x H) :
    s.TypeIs v T ∧ ∀ a, v = .ref a → ∃ ob, s.heap.get? a = some ob ∧ ob.dict = none := by
  cases x with
  | str z =>
    obtain ⟨t, rfl⟩ := r
    cases (show T = "str" from ty)
    exact ⟨typeIs_str s z t, fun _ e => nomatch e⟩
  | int i =>
    obtain ⟨t, rfl⟩ := r
    cases (show T = "int" from ty)
    exact ⟨typeIs_int s i t, fun _ e => nomatch e⟩
  | ref p =>
    cases r
    rcases ty with ⟨rfl, xs, hq⟩ | ⟨rfl, o, hk, hc, hd⟩ | ⟨rfl, hk⟩ | ⟨rfl, S, n, hk⟩
    · obtain ⟨its, _, pl, _⟩ := I.list hq
      refine ⟨pl.isList.typeIs, fun a e => ?_⟩
      cases e
      obtain ⟨o, n, e, c, hd, _⟩ := pl
      exact ⟨o, e, hd⟩
    · refine ⟨⟨o, I.kIn p o hk, hc⟩, fun a e => ?_⟩
      cases e
      exact ⟨o, I.kIn _ o hk, hd⟩
    · have z : ∃ o, s.heap.get? p = some o ∧ o.ExactDict := by
        rcases hk with ⟨kvs, hk⟩ | ⟨kvs, hk⟩
        · obtain ⟨_, _, _, _, o, _, _, e, ex, _⟩ := I.hok p _ hk
          exact ⟨o, e, ex⟩
        · obtain ⟨_, _, _, _, o, _, _, e, ex, _⟩ := I.hok p _ hk
          exact ⟨o, e, ex⟩
      obtain ⟨o, e, ex⟩ := z
      refine ⟨⟨o, e, ex.1⟩, fun a e2 => ?_⟩
      cases e2
      exact ⟨o, e, ex.2.1⟩
    · obtain ⟨o, _, _, _, e, ex, _⟩ := I.hok p _ hk
      refine ⟨⟨o, e, ex.1⟩, fun a e2 => ?_⟩
      cases e2
      exact ⟨o, e, ex.2.1⟩
  | _ => exact False.elim ty
noncomputable def tBM0 (K : PySem.W.Frag) (T : String) (r : V → List V → Hp → VK → Prop) (to : TE) : TE := fun σ H Q => to σ H fun x H1 => tyV K T x H1 ∧ r x [] H1 Q
noncomputable def tBM (K : PySem.W.Frag) (T : String) (r : V → List V → Hp → VK → Prop) (to : TE) (t : TA) : TE := fun σ H Q => to σ H fun x H1 => tyV K T x H1 ∧ t σ H1 fun xs H2 => r x xs H2 Q
variable {o e : Expr} {es : List Expr} {to : TE} {t : TA} {name : Str} {apos cpos : Pos} {T id : String} {r : V → List V → Hp → VK → Prop}
theorem pe_bm0 (pa : PlainAttrs T) (slot : Slot T name id) (hty : typeOf (.builtin id) = pure (.type "method_descriptor")) (hm : MtR X id r) (ho : PE X o to)
    (hbase : attributeBase o name X.env (eval o X.env) = eval o X.env := by rfl) (hline : (apos.endLine == cpos.line) = true := by rfl) : PE X (.Call (.Attribute o name apos) [] [] cpos) (tBM0 X.K T r to) := by
  intro pins s σ H Q I h
  refine wpAny_Call_method0_late hbase hline (thn (ho pins s σ H _ I h) fun v s1 ⟨x, H1, I1, r1, ty, q1⟩ => ?_)
  obtain ⟨h1, h2⟩ := tyV_is I1 r1 ty
  exact ⟨T, id, pa, slot, hty, h1, h2, Calls.callWith_builtin rfl (PySem.evalArgs_none (hm pins s1 σ H1 x [] v [] Q I1 r1 .nil q1))⟩
theorem pe_bm (pa : PlainAttrs T) (slot : Slot T name id) (hty : typeOf (.builtin id) = pure (.type "method_descriptor")) (hm : MtR X id r) (ho : PE X o to) (ha : PA X (e :: es) t)
    (hbase : attributeBase o name X.env (eval o X.env) = eval o X.env := by rfl)
    (hfew : ((backTo cpos (starEach (e :: es) X.env)).all (fun x => !x.1) && (backToKw cpos (keywordEach [] X.env)).all (fun x => x.1.isSome)
      && decide ((e :: es).length + ([] : List Keyword).length + (if ([] : List Keyword).isEmpty then 0 else 1) < 30)) = true := by rfl)
    (hline : (apos.endLine == cpos.line) = true := by rfl) (hs : starEach (e :: es) X.env = (false, eval e X.env) :: starEach es X.env := by rfl) (hplain : (backTo cpos (starEach es X.env)).any (·.1) = false := by rfl) :
    PE X (.Call (.Attribute o name apos) (e :: es) [] cpos) (tBM X.K T r to t) := by
  intro pins s σ H Q I h
  refine wpAny_Call_method_late hbase hfew hline rfl (thn (ho pins s σ H _ I h) fun v s1 ⟨x, H1, I1, r1, ty, q1⟩ => ?_)
  obtain ⟨h1, h2⟩ := tyV_is I1 r1 ty
  refine ⟨T, id, pa, slot, hty, h1, h2, ?_⟩
  have hA := ha cpos pins s1 σ H1 _ I1 q1
  rw [hs] at hA ⊢
  refine Calls.callWith_builtin (by show (false || (backTo cpos (starEach es X.env)).any (·.1)) = false; rw [hplain] <;> rfl) (Calls.evalArgs_plain ?_)
  exact thn hA fun us s2 ⟨vs, H2, I2, r2, q2⟩ => hm pins s2 σ H2 x vs v us Q I2 r1 r2 q2
/- xs.append(e), list.index on a module's tuple .. are MtR facts of 06m -/
end
end L2
namespace L2
open PySem PySem.Spec PyProof.Rows
noncomputable def MtM (X : Cx) (id : String) (r : V → List V → Hp → VK → Prop) : Prop :=
  ∀ (pins : List (Addr × Obj)) (s : Shared) (σ : St) (H : Hp) (x : V) (xs : List V) (v : Value) (us : List Value) (Q : VK), Inv X pins σ H s → RelV x v → Vals xs us → r x xs H Q →
    wpAny (model X.prog X.w) X.A (call (.builtin id) (v :: us)) (EP X pins σ Q) X.xe s
theorem Vals.one : ∀ {x : V} {us : List Value}, Vals [x] us → ∃ u, us = [u] ∧ RelV x u
  | _, _, .cons r .nil => ⟨_, rfl, r⟩
theorem Vals.zero : ∀ {us : List Value}, Vals [] us → us = []
  | _, .nil => rfl
theorem Vals.reverse {xs : List V} {us : List Value} (h : Vals xs us) : Vals xs.reverse us.reverse := by
  induction h with
  | nil => exact .nil
  | cons r t ih => rw [List.reverse_cons, List.reverse_cons]; exact Vals.append ih (.cons r .nil)
theorem Vals.rep {xs : List V} {us : List Value} (h : Vals xs us) : ∀ k : Nat, Vals (List.replicate k xs).flatten (List.replicate k us).flatten
  | 0 => .nil
  | k + 1 => by
    rw [List.replicate_succ, List.replicate_succ, List.flatten_cons, List.flatten_cons]
    exact Vals.append h (Vals.rep h k)
theorem foldl_rep (its : List Value) : ∀ (k : Nat) (acc : List Value),
    List.foldl (fun x1 x2 => x1 ++ x2) acc.toArray (List.replicate k its.toArray) = (acc ++ (List.replicate k its).flatten).toArray
  | 0, acc => by simp
  | k + 1, acc => by
    have e : acc.toArray ++ its.toArray = (acc ++ its).toArray := by simp
    have e2 : (acc ++ its) ++ (List.replicate k its).flatten = acc ++ (List.replicate (k + 1) its).flatten := by
      rw [List.replicate_succ, List.flatten_cons, List.append_assoc]
    rw [← e2, ← foldl_rep its k (acc ++ its), ← e, List.replicate_succ, List.foldl_cons]
section
variable {X : Cx} {pins : List (Addr × Obj)} {σ : St} {H : Hp} {s : Shared} {l b : Addr} {xs ys zs : List V}
theorem Inv.lset {its its' : List Value} {n : Nat} {f : Array Value → Array Value} {t' : Nat} (I : Inv X pins σ H s) (hH : H l = some (.lst xs))
    (e : s.heap.get? l = some { cls := .type "list", data := .seq its.toArray n }) (hf : f its.toArray = its'.toArray) (hv : Vals ys its') (hz : ys.length ≤ sizeLine) :
    Inv X pins σ (upd H l (.lst ys)) { s with heap := s.heap.update l (Obj.mapSeq f), toks := t' } := by
  have q := PySem.IsL.update e f
  rw [hf] at q
  refine I.write (x := l) (e := l) (by rw [hH]; exact trivial) (.inl rfl) (fun b' u hb hu => (Heap.get?_update_other s.heap (Obj.mapSeq f) (Ne.symm hb)).trans hu) ⟨_, q⟩ ?_
  exact ⟨hz, its', _, hv, q⟩
theorem Inv.lnew {its : List Value} {t' : Nat} (I : Inv X pins σ H s) (hv : Vals ys its) (hz : ys.length ≤ sizeLine) :
    Inv X pins σ (upd H s.heap.objs.size (.lst ys)) { s with heap := s.heap.push { cls := .type "list", data := .seq its.toArray }, toks := t' } :=
  I.laid (fun _ _ q => Heap.get?_push_of_some _ q) (Nat.le_refl _) ⟨hz, its, 0, hv, Heap.get?_push_size _ rfl⟩
theorem Inv.fresh (I : Inv X pins σ H s) : H s.heap.objs.size = none := I.hok.fresh (Nat.le_refl _)
theorem Inv.lstM (I : Inv X pins σ H s) (hH : H l = some (.lst xs)) : xs.length ≤ sizeLine ∧ ∃ (its : List Value) (n : Nat), Vals xs its ∧ xs.length = its.length ∧ s.heap.get? l = some { cls := .type "list", data := .seq its.toArray n } := by
  obtain ⟨z, its, n, r, e⟩ := I.hok l _ hH
  exact ⟨z, its, n, r, r.length, e⟩
theorem notLongL {n : Nat} (h : n ≤ sizeLine) : Builtin.List.listTooLong n = false := by
  unfold Builtin.List.listTooLong
  exact decide_eq_false (by omega)
end
section
variable {X : Cx}
noncomputable def rAppend : V → List V → Hp → VK → Prop := fun x vs H Q => ∃ l xs y, x = .ref l ∧ vs = [y] ∧ H l = some (.lst xs) ∧ xs.length < sizeLine ∧ Q .non (upd H l (.lst (xs ++ [y])))
theorem mt_append : MtM X "list.append" rAppend := by
  intro pins s σ H x vs v us Q I rx rv h
  obtain ⟨l, xs, y, rfl, rfl, hH, hz, q⟩ := h
  cases rx
  obtain ⟨u, rfl, ru⟩ := rv.one
  obtain ⟨z, its, n, r, hl, e⟩ := I.lstM hH
  refine call_meets F.slot_list_append ⟨_, e, rfl⟩ F.entry_list_append (F.args_list_append_2 _ _) (PySem.list_append l its.toArray n u (by rw [List.size_toArray]; omega)) ⟨e, ?_⟩
  refine ⟨.non, _, I.lset (its' := its ++ [u]) hH e (by simp) (r.append (.cons ru .nil)) ?_, rfl, q⟩
  rw [List.length_append, List.length_singleton]
  omega
noncomputable def rClear : V → List V → Hp → VK → Prop := fun x vs H Q => ∃ l xs, x = .ref l ∧ vs = [] ∧ H l = some (.lst xs) ∧ Q .non (upd H l (.lst []))
theorem mt_clear : MtM X "list.clear" rClear := by
  intro pins s σ H x vs v us Q I rx rv h
  obtain ⟨l, xs, rfl, rfl, hH, q⟩ := h
  cases rx
  have hus := rv.zero
  subst hus
  obtain ⟨z, its, n, r, hl, e⟩ := I.lstM hH
  refine call_meets F.slot_list_clear ⟨_, e, rfl⟩ F.entry_list_clear (F.args_list_clear_1 _) (AutoSeq1.list_clear_list_0 l its.toArray n (by rw [List.size_toArray]; omega)) ⟨e, ?_⟩
  exact ⟨.non, _, I.lset (its' := []) (ys := []) hH e rfl .nil (Nat.zero_le _), rfl, q⟩
theorem len_rep {α : Type} (xs : List α) (k : Nat) : (List.replicate k xs).flatten.length = k * xs.length := by
  induction k with
  | zero => simp
  | succ k ih => rw [List.replicate_succ, List.flatten_cons, List.length_append, ih, Nat.succ_mul, Nat.add_comm]
end
section
variable {prog : Program} {w : World} {A : Around} {E : Value → Shared → Prop} {s : Shared}
set_option maxRecDepth 100000 in
end
section
variable {X : Cx}
end
end L2
namespace Att
open PySem PySem.W PySem.Calls PyProof.Rows
theorem ints_of_wellAll {P : Params} {h : Heap} : ∀ (ns : List Int) (vs : List Value), WellAll P h vs (ns.map WData.int) → IntsAre vs ns := by
  intro ns
  induction ns with
  | nil =>
    intro vs w
    rw [List.map_nil] at w
    cases w
    exact .nil
  | cons n ns ih =>
    intro vs w
    rw [List.map_cons] at w
    cases w with
    | cons a b =>
      cases a
      exact .cons _ _ (ih _ b)
theorem script_of {l : OpenLaw} {n : Nat} (hn : l.most = some n) {P : Params} {h : Heap} {args : List WData} {vals : List Value}
    (hpre : l.row.toRowW.claim.pre args = true) (hwl : WellAll P h vals args) :
    ∃ a vs ns, vals = [Value.ref a] ∧ args = [WData.list (ns.map WData.int)] ∧ h.get? a = some { cls := .type "list", data := .seq vs.toArray } ∧ IntsAre vs ns ∧ ns.length ≤ n := by
  have hsh : WShape.hasAll [] args [.list .int] = true := (pre_splitW hpre).1
  have hc : l.pre.holds [] { args := args } = true := (pre_splitW hpre).2
  obtain ⟨d, r, rfl, h1, h2⟩ := hasAllW_cons hsh
  obtain rfl := hasAllW_nil h2
  obtain ⟨xs, rfl, h3⟩ := hasW_list h1
  obtain ⟨ns, rfl⟩ := items_int h3
  have hlen : ns.length ≤ n := by
    unfold OpenLaw.pre at hc
    have h4 : (WTm.not (.lt (.lit (.int (n : Int))) (.len (.arg 0)))).holds [] { args := [.list (ns.map .int)] } = true := by
      have h4 := (holds_andW hc).1
      rw [hn] at h4
      exact h4
    have h5 := condW_of h4 (w_not (w_lt w_lit (w_len_list (w_arg rfl))))
    rw [List.length_map] at h5
    refine Nat.le_of_not_lt fun q => ?_
    have q' : (n : Int) < ((ns.length : Nat) : Int) := by omega
    first
      | (rw [decide_eq_true q'] at h5; exact absurd h5 (by decide))
      | (simp at h5; omega)
  cases hwl with
  | cons w1 w2 =>
    cases w2
    cases w1 with
    | list ho hall => exact ⟨_, _, ns, rfl, rfl, ho, ints_of_wellAll ns _ hall, hlen⟩
theorem post_true (l : OpenLaw) (args : List WData) : l.row.toRowW.claim.post args (.bool true) args = true :=
  postW_of (r := l.row.toRowW) (X := (true == true))
    (show WShape.has [] (.bool true) .bool = true by first | rfl | decide | simp [WShape.has, WShape.arms, WShape.armsAll])
    (show (WTm.eq .res (.lit (.bool true))).value [] { args := args, res := some (.bool true), after := args } = some (.bool (true == true)) from w_eq_bool (w_res rfl) w_lit) rfl
theorem attach_call {l : OpenLaw} {n : Nat} {q : Program} {loose : List Str} {XP : (Str → Option Value) → Heap → Prop} {YP : World → Heap → Prop} {d : DefRec}
    (hn : l.most = some n) (hdf : d.params.defaults = [])
    (call : ∀ (w : World) (s₀ s₁ : Shared) (mg mb : Str → Option Value) (fa : Addr) (o : Obj) (pm cd doc : Value) (a : Addr) (vs : List Value) (ns : List Int),
      Ground q loose [] XP w s₀ mg mb s₁.heap → YP w s₁.heap →
      s₁.heap.get? fa = some o → o.data = .func (docDef d.name d.params d.body d.scope pm cd doc) → s₁.heap.CodeRec cd d.name → mg d.name = some (.ref fa) →
      s₁.heap.get? a = some { cls := .type "list", data := .seq vs.toArray } → IntsAre vs ns → ns.length ≤ n → s₁.gens = #[] →
      codeAny (model l.prog w) callerA (.call (.ref fa) ⟨[.ref a], []⟩) (fun r s' => r = .ok (.ret (.bool true)) ∧ OldK s₁.heap s'.heap ∧ s'.os = s₁.os ∧ AllBare s'.gens) s₁) :
    WalkO q loose XP YP l.row.toRowW d [] (fun f vs => PySem.call f vs) := by
  intro w s₀ s₁ mg mb G Y fa o pm cd doc dV kV ho hd hcd hD hmg hg args vals as hpre hlay hrd hwl hlo
  obtain rfl : dV = .none := Dflts.none hD hdf
  obtain rfl : kV = .none := Dflts.noKw hD
  obtain ⟨a, vs, ns, rfl, rfl, hobj, hints, hlen⟩ := script_of hn hpre hwl
  refine enter_call (codeAny_mono (call w s₀ s₁ mg mb fa o pm cd doc a vs ns G Y ho (fd_plain hd) hcd hmg hobj hints hlen hg) fun r s' hq => ?_)
  obtain ⟨rfl, h2, h3, h4⟩ := hq
  exact ⟨.inl ⟨.bool true, .bool true, [], rfl, fun _ => rfl, .bool true, post_true l _, fun _ => ⟨List.Pairwise.nil, fun _ hm => (nomatch hm)⟩⟩, h2, h3, h4⟩
section
variable {prog : Program} {w : World} {A : Around} {E : Value → Shared → Prop} {s : Shared} {K : Frag}
end
end Att
namespace L2
open PySem PySem.Spec PyProof.Rows
theorem vals_ints : ∀ {vs : List Value} {ns : List Int}, IntsAre vs ns → Vals (ns.map V.int) vs
  | _, _, .nil => .nil
  | _, _, .cons n t h => .cons ⟨t, rfl⟩ (vals_ints h)
noncomputable def Only (H : Hp) : Prop := ∀ b, H b = none ∨ ∃ o xs, H b = some (.frz o (.lst xs))
theorem law_call {P : Program} {w : World} {K : PySem.W.Frag} {mg mb : Str → Option Value} {CX : CXT} {k : Nat} {fa a : Addr} {fd : FuncData} {x : Str} {sp : Sp} {s₁ : Shared} {vs : List Value} {ns : List Int}
    (KX : K.In s₁.heap) (hns : s₁.heap.Ns mainGlobals mg) (hb : s₁.heap.Ns builtinsNs mb) (hbb : ∀ x : Str, x ≠ "__name__" → mb x = bootBuiltins x) (hlim : s₁.heap.NoLimit) (hg : s₁.gens = #[])
    (ha : s₁.heap.get? a = some { cls := .type "list", data := .seq vs.toArray }) (hi : IntsAre vs ns) (hl : ns.length ≤ sizeLine) (hr : Room k callerA)
    (F : ∀ base : Heap, K.In base → base.Ns mainGlobals mg → FnOk P w K mg base CX k fa fd [x] sp) (hbind : ∀ (s : Shared) (u : Value), BindsTo s fd ⟨[u], []⟩ [(x, u)])
    (hsp : ∀ H : Hp, Only H → SqL K H a (ns.map V.int) → sp [.ref a] H (fun v _ => v = .bl true) fun _ _ _ => False)
    (hCX : ∀ H e s', CX [] H s₁ (fun _ _ _ => False) e s' → False) :
    codeAny (model P w) callerA (.call (.ref fa) ⟨[.ref a], []⟩) (fun r s' => r = .ok (.ret (.bool true)) ∧ OldK s₁.heap s'.heap ∧ s'.os = s₁.os ∧ AllBare s'.gens) s₁ := by
  have rv := vals_ints hi
  have lenV := hi.length
  have core : ∀ H : Hp, Only H → SqL K H a (ns.map V.int) → HOk P w H s₁.heap → (∀ b, H b ≠ none → b = a) → (H a ≠ none → K.lookup a = none) →
      codeAny (model P w) callerA (.call (.ref fa) ⟨[.ref a], []⟩) (fun r s' => r = .ok (.ret (.bool true)) ∧ OldK s₁.heap s'.heap ∧ s'.os = s₁.os ∧ AllBare s'.gens) s₁ := by
    intro H hO hS hok hA hK
    have base_of : ∀ {b : Addr} {o : Obj}, s₁.heap.get? b = some o → H b = none → (hidT s₁.heap H).get? b = some o := fun e n => hidT_get e n
    have noA : ∀ {b : Addr} {o : Obj} {es : Array DictEntry} {ep : Nat}, s₁.heap.get? b = some o → o.data = .dict es ep → H b = none := fun {b o es ep} e d => by
      cases q : H b with
      | none => rfl
      | some u =>
        have e' : b = a := hA b (by rw [q]; simp)
        subst e'
        rw [ha] at e; cases e
        have d' : Data.seq vs.toArray _ = Data.dict es ep := d
        cases d'
    have nsK : ∀ {b : Addr} {m : Str → Option Value}, s₁.heap.Ns b m → (hidT s₁.heap H).Ns b m := fun {b m} ⟨o, es, ep, e, d, r⟩ => ⟨o, es, ep, base_of e (noA e d), d, r⟩
    have hKb : K.In (hidT s₁.heap H) := fun b o e => base_of (KX b o e) (by
      cases q : H b with
      | none => rfl
      | some u =>
        have e' : b = a := hA b (by rw [q]; simp)
        subst e'
        rw [hK (by rw [q]; simp)] at e; cases e)
    have hM : Mod K mg (hidT s₁.heap H) := ⟨hKb, nsK hns, ⟨mb, nsK hb, hbb⟩, let ⟨mc, h1, h2⟩ := hlim; ⟨mc, nsK h1, h2⟩⟩
    have e0 : Env0 P w K mg (hidT s₁.heap H) callerA [] s₁ H := ⟨rfl, hM, fun b o e => of_hidT e, Nat.le_of_eq (hidT_size _ _), trivial, fun b hb => absurd (show b ∈ ([] : List Addr) from hb) (by simp), hok, .of_eq hg⟩
    refine codeAny_mono ((F _ hKb (nsK hns)).run callerA [] s₁ H ⟨[.ref a], []⟩ [.ref a] [.ref a] _ _ hr e0 (hbind s₁ (.ref a)) (.cons rfl .nil) (hsp H hO hS)) fun r s' h => ?_
    cases r with
    | error e => exact (hCX H e s' h).elim
    | ok fl =>
      cases fl with
      | next => exact False.elim h
      | brk => exact False.elim h
      | cont => exact False.elim h
      | ret u =>
        obtain ⟨v, H', os, bare, un, hok', r', q⟩ := h
        have q' : v = .bl true := q
        subst q'
        obtain rfl : u = Value.bool true := r'
        refine ⟨rfl, OldK.of_keep fun b o e => ?_, os, bare⟩
        cases q : H b with
        | none => exact un.keep b o e q (by intro z; exact absurd (show b ∈ ([] : List Addr) from z) (by simp)) (by simp)
        | some u =>
          rcases hO b with z | ⟨ob, xs, z⟩
          · rw [q] at z; cases z
          · have z2 := un.frzs b ob _ z
            obtain ⟨e1, _⟩ := hok b _ z
            obtain ⟨e2, _⟩ := hok' b _ z2
            rw [e] at e1; cases e1
            exact e2
  cases hk : K.lookup a with
  | some o =>
    have e := KX a o hk
    rw [ha] at e
    cases e
    refine core (fun _ => none) (fun _ => .inl rfl) (.inr ⟨_, vs.toArray, _, hk, rfl, rfl, rfl, by rw [List.size_toArray, lenV]; exact hl, by simpa using rv⟩) (fun b u z => by have z' : (none : Option HO) = some u := z; cases z') (fun b z => absurd rfl z) fun z => absurd rfl z
  | none =>
    refine core (fun b => if b = a then some (.frz { cls := .type "list", data := .seq vs.toArray } (.lst (ns.map V.int))) else none) (fun b => ?_) (.inl (.inr ⟨{ cls := .type "list", data := .seq vs.toArray }, if_pos rfl⟩)) (fun b u z => ?_) (fun b z => ?_) fun _ => hk
    · by_cases hb : b = a
      · exact .inr ⟨_, _, if_pos hb⟩
      · exact .inl (if_neg hb)
    · by_cases hb : b = a
      · have z' := (if_pos hb).symm.trans z
        cases z'
        subst hb
        exact ⟨ha, by rw [List.length_map]; exact hl, vs, _, rv, ha⟩
      · have z' := (if_neg hb).symm.trans z
        cases z'
    · by_cases hb : b = a
      · exact hb
      · exact absurd (if_neg hb) z
end L2
namespace L2
open PySem PySem.Spec PyProof.Rows
theorem walk_of {l : PySem.W.OpenLaw} {n k : Nat} {q : Program} {loose : List Str} {XP : (Str → Option Value) → Heap → Prop} {YP : World → Heap → Prop} {d : DefRec} {K : Params → PySem.W.Frag} {CX : World → CXT} {sp : World → Sp} {x : Str}
    (hn : l.most = some n) (hn2 : n ≤ sizeLine) (hdf : d.params.defaults = []) (hr : Room k callerA)
    (hY : ∀ (w : World) (h : Heap), YP w h → (K w.params).In h)
    (F : ∀ (w : World) (mg : Str → Option Value) (fa : Addr) (h : Heap), (K w.params).In h → h.Ns mainGlobals mg → mg d.name = some (.ref fa) →
      ∃ fd : FuncData, (∀ (s : Shared) (u : Value), BindsTo s fd ⟨[u], []⟩ [(x, u)]) ∧
        ∀ base : Heap, (K w.params).In base → base.Ns mainGlobals mg → FnOk l.prog w (K w.params) mg base (CX w) k fa fd [x] (sp w))
    (hsp : ∀ (w : World) (H : Hp) (a : Addr) (ns : List Int), ns.length ≤ n → Only H → SqL (K w.params) H a (ns.map V.int) → sp w [.ref a] H (fun v _ => v = .bl true) fun _ _ _ => False)
    (hCX : ∀ (w : World) (H : Hp) (s : Shared) (e : Value) (s' : Shared), CX w [] H s (fun _ _ _ => False) e s' → False) :
    PySem.W.WalkO q loose XP YP l.row.toRowW d [] (fun f vs => PySem.call f vs) := by
  refine Att.attach_call hn hdf fun w s₀ s₁ mg mb fa o pm cd doc a vs ns G Y ho hd hcd hmg hobj hints hlen hg => ?_
  have KX := hY w _ Y
  obtain ⟨fd, hb, hF⟩ := F w mg fa _ KX G.T.g hmg
  exact law_call KX G.T.g G.T.b G.T.builtins G.T.nolimit hg hobj hints (Nat.le_trans hlen hn2) hr hF hb (fun H hO hS => hsp w H a ns hlen hO hS) fun H e s' => hCX w H s₁ e s'
end L2
/- THE LAST THEOREM (shape; LID, My.* are yours):
   My.Adr: a structure of the addresses that your layer names (classes, functions); My.Txt K t: a structure (Prop) of the equations over K;
   My.txt_mk : {K} {implicit addresses ..} (e1 : nsIn K mainGlobals "law" = some (some (.ref f))) (e2 : K.lookup f = some ⟨oc, od, .func (fnOf "law" "law" params body scope dV kV doc pm an cdv ct), sl⟩) (e3 : codeIn K cdv "law" = true) .. : ∃ t, My.Txt K t
set_option maxRecDepth 100000 in
set_option maxHeartbeats 0 in
(the tactic k_is has no namespace: write k_is) -/
namespace L2
open PySem PySem.Spec PyProof.Rows
noncomputable def defArgs (s : Stmt) : Arguments := match s with
  | .FunctionDef _ a _ _ _ _ _ _ _ _ => a
  | _ => { posonlyargs := [], args := [], vararg := none, kwonlyargs := [], kw_defaults := [], kwarg := none, defaults := [] }
noncomputable def defBody (s : Stmt) : List Stmt := match s with
  | .FunctionDef _ _ b _ _ _ _ _ _ _ => b
  | _ => []
noncomputable def defScope (s : Stmt) : Scope := match s with
  | .FunctionDef _ _ _ _ _ _ sc _ _ _ => sc
  | _ => { kind := .function, names := [], isGenerator := false, isCoroutine := false }
structure Fun (K : PySem.W.Frag) (x qual : Str) (st : Stmt) (f : Addr) (fd : FuncData) : Prop where
  ex : ∃ (oc : Value) (od : Option Addr) (kV doc pm : Value) (an : Option Addr) (cdv ct : Value) (osl : Array (Option Value)),
    fd = PySem.W.fnOf x qual (defArgs st) (defBody st) (defScope st) .none kV doc pm an cdv ct ∧ K.lookup f = some ⟨oc, od, .func fd, osl⟩ ∧ PySem.W.codeIn K cdv qual = true
  kp : PySem.W.keepIn K (.ref f) = true
section
variable {P : Program} {w : World} {K : PySem.W.Frag} {mg : Str → Option Value} {base : Heap}
theorem Fun.binds {x qual : Str} {st : Stmt} {f : Addr} {fd : FuncData} {ps : List Str} (F : Fun K x qual st f fd)
    (h : ∀ (kV doc pm : Value) (an : Option Addr) (cdv ct : Value) (us : List Value), us.length = ps.length → bindArgs (PySem.W.fnOf x qual (defArgs st) (defBody st) (defScope st) .none kV doc pm an cdv ct) ⟨us, []⟩ = pure (ps.zip us)) : Binds K fd ps [] := by
  obtain ⟨oc, od, kV, doc, pm, an, cdv, ct, osl, rfl, lk, hcd⟩ := F.ex
  exact .all (h kV doc pm an cdv ct)
theorem fun_mk {x qual : Str} {st : Stmt} {f : Addr} {oc : Value} {od an : Option Addr} {osl : Array (Option Value)} {kV doc pm cdv ct : Value} (l : K.lookup f = some ⟨oc, od, .func (PySem.W.fnOf x qual (defArgs st) (defBody st) (defScope st) .none kV doc pm an cdv ct), osl⟩)
    (c : PySem.W.codeIn K cdv qual = true) (k : PySem.W.keepIn K (.ref f) = true) : Fun K x qual st f (PySem.W.fnOf x qual (defArgs st) (defBody st) (defScope st) .none kV doc pm an cdv ct) := ⟨⟨oc, od, kV, doc, pm, an, cdv, ct, osl, rfl, l, c⟩, k⟩
end
section
variable {X : Cx}
end
noncomputable def Same (H H' : Hp) : Prop := ∀ b o, H b = some o → H' b = some o
theorem Same.refl (H : Hp) : Same H H := fun _ _ h => h
theorem Same.trans {H H1 H2 : Hp} (a : Same H H1) (b : Same H1 H2) : Same H H2 := fun c o h => b c o (a c o h)
theorem Same.free {H H' : Hp} (e : Same H H') {l : Addr} (h : H' l = Option.none) : H l = Option.none := by
  cases q : H l with
  | none => rfl
  | some o =>
    rw [e l o q] at h
    cases h
theorem Same.seq {K : PySem.W.Frag} {H H' : Hp} {a : Addr} {xs : List V} (e : Same H H') (h : SqL K H a xs) : SqL K H' a xs := by
  rcases h with (h | ⟨o, h⟩) | h
  · exact .inl (.inl (e _ _ h))
  · exact .inl (.inr ⟨o, e _ _ h⟩)
  · exact .inr h
end L2
end
section
namespace L2
open PySem PySem.Spec PyProof.Rows
section
variable {κ : Type} [DecidableEq κ]
noncomputable def valV (kvs : List (κ × V)) (k : κ) : Option V := (kvs.find? fun kv => decide (kv.1 = k)).map (·.2)
noncomputable def putK (kvs : List (κ × V)) (k : κ) (v : V) : List (κ × V) :=
  if (kvs.any fun kv => decide (kv.1 = k)) = true then kvs.map (fun kv => if kv.1 = k then (kv.1, v) else kv) else kvs ++ [(k, v)]
noncomputable def dropK (kvs : List (κ × V)) (k : κ) : List (κ × V) := kvs.filter fun kv => decide (kv.1 ≠ k)
theorem valV_pos {p : κ × V} {r : List (κ × V)} {k : κ} (e : p.1 = k) : valV (p :: r) k = some p.2 := by simp [valV, List.find?_cons, e]
theorem valV_neg {p : κ × V} {r : List (κ × V)} {k : κ} (e : ¬ p.1 = k) : valV (p :: r) k = valV r k := by simp [valV, List.find?_cons, e]
theorem valV_any (k : κ) : ∀ kvs : List (κ × V), (kvs.any fun kv => decide (kv.1 = k)) = (valV kvs k).isSome
  | [] => rfl
  | p :: r => by
    rw [List.any_cons]
    by_cases e : p.1 = k
    · simp only [valV_pos e, decide_eq_true e, Bool.true_or, Option.isSome_some]
    · rw [valV_neg e, decide_eq_false e, Bool.false_or]; exact valV_any k r
theorem RelO.isSome_eq {o : Option V} {u : Option Value} (r : RelO o u) : o.isSome = u.isSome := by
  cases o with
  | none => cases u with
    | none => rfl
    | some _ => exact (show False from r).elim
  | some _ => cases u with
    | none => exact (show False from r).elim
    | some _ => rfl
theorem RelO.getD {o : Option V} {u : Option Value} {d : V} {d' : Value} (r : RelO o u) (rd : RelV d d') : RelV (o.getD d) (u.getD d') := by
  cases o with
  | none => cases u with
    | none => exact rd
    | some _ => exact (show False from r).elim
  | some _ => cases u with
    | none => exact (show False from r).elim
    | some _ => exact r
theorem KV.val {kvs : List (κ × V)} {vs : List (κ × Value)} (r : KV kvs vs) (k : κ) : RelO (valV kvs k) (valueAt vs k) := by
  unfold KV at r
  induction r with
  | nil => exact True.intro
  | @cons p q ps qs h t ih =>
    obtain ⟨h1, h2⟩ := h
    by_cases e : p.1 = k
    · have e' : q.1 = k := h1.symm.trans e
      have b : valueAt (q :: qs) k = some q.2 := by simp [valueAt, List.find?_cons, e']
      rw [valV_pos e, b]; exact h2
    · have e' : ¬ q.1 = k := fun z => e (h1.trans z)
      have b : valueAt (q :: qs) k = valueAt qs k := by simp [valueAt, List.find?_cons, e']
      rw [valV_neg e, b]; exact ih
theorem KV.any {kvs : List (κ × V)} {vs : List (κ × Value)} (r : KV kvs vs) (k : κ) : (kvs.any fun kv => decide (kv.1 = k)) = vs.any fun kv => decide (kv.1 = k) := by
  unfold KV at r
  induction r with
  | nil => rfl
  | cons h t ih => rw [List.any_cons, List.any_cons, ih, h.1]
theorem KV.repl {kvs : List (κ × V)} {vs : List (κ × Value)} (r : KV kvs vs) (k : κ) {y : V} {u : Value} (ry : RelV y u) :
    KV (kvs.map fun kv => if kv.1 = k then (kv.1, y) else kv) (vs.map fun kv => if kv.1 = k then (kv.1, u) else kv) := by
  unfold KV at r ⊢
  induction r with
  | nil => exact .nil
  | @cons p q ps qs h t ih =>
    rw [List.map_cons, List.map_cons]
    refine .cons ?_ ih
    obtain ⟨h1, h2⟩ := h
    by_cases e : p.1 = k
    · rw [if_pos e, if_pos (h1.symm.trans e)]; exact ⟨h1, ry⟩
    · rw [if_neg e, if_neg (fun z => e (h1.trans z))]; exact ⟨h1, h2⟩
theorem KV.put {kvs : List (κ × V)} {vs : List (κ × Value)} (r : KV kvs vs) (k : κ) {y : V} {u : Value} (ry : RelV y u) : KV (putK kvs k y) (stored vs k u) := by
  unfold putK stored
  rw [r.any k]
  by_cases e : (vs.any fun kv => decide (kv.1 = k)) = true
  · rw [if_pos e, if_pos e]; exact r.repl k ry
  · rw [if_neg e, if_neg e]; exact Paired.snoc r ⟨rfl, ry⟩
theorem KV.drop {kvs : List (κ × V)} {vs : List (κ × Value)} (r : KV kvs vs) (k : κ) : KV (dropK kvs k) (without vs k) := by
  unfold KV at r ⊢
  unfold dropK without
  induction r with
  | nil => exact .nil
  | @cons p q ps qs h t ih =>
    obtain ⟨h1, h2⟩ := h
    rw [List.filter_cons, List.filter_cons]
    by_cases e : p.1 = k
    · have a : ¬ decide (p.1 ≠ k) = true := by simp [e]
      have b : ¬ decide (q.1 ≠ k) = true := by simp [h1.symm.trans e]
      rw [if_neg a, if_neg b]; exact ih
    · have e' : ¬ q.1 = k := fun z => e (h1.trans z)
      have a : decide (p.1 ≠ k) = true := by simp [e]
      have b : decide (q.1 ≠ k) = true := by simp [e']
      rw [if_pos a, if_pos b]; exact .cons ⟨h1, h2⟩ ih
theorem KV.length {kvs : List (κ × V)} {vs : List (κ × Value)} (r : KV kvs vs) : kvs.length = vs.length := Paired.length r
end
noncomputable abbrev KT (H : Hp) : List (List Key × V) → List (List Key × Addr × Value) → Prop := Paired fun p q => p.1 = q.1 ∧ H q.2.1 = some (.tup (p.1.map kV)) ∧ RelV p.2 q.2.2
theorem KT.val {H : Hp} {kvs : List (List Key × V)} {xs : List (List Key × Addr × Value)} (r : KT H kvs xs) (k : List Key) : RelO (valV kvs k) ((atKey xs k).map (·.2)) := by
  induction r with
  | nil => exact True.intro
  | @cons p q ps qs h t ih =>
    obtain ⟨h1, _, h2⟩ := h
    by_cases e : p.1 = k
    · have e' : q.1 = k := h1.symm.trans e
      have b : atKey (q :: qs) k = some q.2 := by simp [atKey, List.find?_cons, e']
      rw [valV_pos e, b]; exact h2
    · have e' : ¬ q.1 = k := fun z => e (h1.trans z)
      have b : atKey (q :: qs) k = atKey qs k := by simp [atKey, List.find?_cons, e']
      rw [valV_neg e, b]; exact ih
theorem KT.repl {H : Hp} {kvs : List (List Key × V)} {xs : List (List Key × Addr × Value)} (r : KT H kvs xs) (k : List Key) {y : V} {u : Value} (ry : RelV y u) :
    KT H (kvs.map fun kv => if kv.1 = k then (kv.1, y) else kv) (xs.map (putAt k u)) := by
  induction r with
  | nil => exact .nil
  | @cons p q ps qs h t ih =>
    rw [List.map_cons, List.map_cons]
    refine .cons ?_ ih
    obtain ⟨h1, h2, h3⟩ := h
    unfold putAt
    by_cases e : p.1 = k
    · rw [if_pos e, if_pos (h1.symm.trans e)]; exact ⟨h1, h2, ry⟩
    · rw [if_neg e, if_neg (fun z => e (h1.trans z))]; exact ⟨h1, h2, h3⟩
theorem KT.put {H : Hp} {kvs : List (List Key × V)} {xs : List (List Key × Addr × Value)} (r : KT H kvs xs) (k : List Key) {b : Addr} {y : V} {u : Value} (hb : H b = some (.tup (k.map kV))) (ry : RelV y u) :
    KT H (putK kvs k y) (storedH xs k b u) := by
  have e : (kvs.any fun kv => decide (kv.1 = k)) = (atKey xs k).isSome := by
    rw [valV_any, (r.val k).isSome_eq, Option.isSome_map]
  unfold putK storedH
  rw [e]
  by_cases q : (atKey xs k).isSome = true
  · rw [if_pos q, if_pos q]; exact r.repl k ry
  · rw [if_neg q, if_neg q]; exact Paired.snoc r ⟨rfl, hb, ry⟩
theorem KT.keeps {H H' : Hp} {kvs : List (List Key × V)} {xs : List (List Key × Addr × Value)} (r : KT H kvs xs) (ht : ∀ b ys, H b = some (.tup ys) → H' b = some (.tup ys)) : KT H' kvs xs :=
  Paired.mapP r fun _ _ z => ⟨z.1, ht _ _ z.2.1, z.2.2⟩
section
variable {P : Program} {w : World} {H : Hp} {h : Heap} {a : Addr}
theorem rd_of {u : HO} (ok : HOk P w H h) (e : Rd H a u) : ObjOk P w H h a u := e.ok ok
theorem dk_rd {kvs : List (Key × V)} (ok : HOk P w H h) (e : Rd H a (.dK kvs)) : kvs.length ≤ sizeLine ∧ (a == sysModules) = false ∧ ∃ vs, KV kvs vs ∧ h.DictOf (mixKind P w) a vs :=
  show ObjOk P w H h a (.dK kvs) from rd_of ok e
theorem dk_of {kvs : List (Key × V)} (ok : HOk P w H h) (e : H a = some (.dK kvs)) : kvs.length ≤ sizeLine ∧ (a == sysModules) = false ∧ ∃ vs, KV kvs vs ∧ h.DictOf (mixKind P w) a vs := dk_rd ok (.inl e)
end
noncomputable def DGet (H : Hp) (a : Addr) (y : V) (r : Option V) : Prop :=
  (∃ kvs k, Rd H a (.dK kvs) ∧ y = kV k ∧ r = valV kvs k) ∨ ∃ kvs k b, Rd H a (.dT kvs) ∧ y = .ref b ∧ H b = some (.tup (k.map kV)) ∧ r = valV kvs k
noncomputable def DPut (H : Hp) (a : Addr) (y v : V) (H' : Hp) : Prop :=
  (∃ kvs k, H a = some (.dK kvs) ∧ y = kV k ∧ kvs.length < sizeLine ∧ H' = upd H a (.dK (putK kvs k v))) ∨
  ∃ kvs k b, H a = some (.dT kvs) ∧ y = .ref b ∧ H b = some (.tup (k.map kV)) ∧ kvs.length < sizeLine ∧ H' = upd H a (.dT (putK kvs k v))
theorem DGet.k {H : Hp} {a : Addr} {kvs : List (Key × V)} {k : Key} (e : H a = some (.dK kvs)) : DGet H a (kV k) (valV kvs k) := .inl ⟨kvs, k, .inl e, rfl, rfl⟩
theorem DGet.t {H : Hp} {a b : Addr} {kvs : List (List Key × V)} {k : List Key} (e : H a = some (.dT kvs)) (eb : H b = some (.tup (k.map kV))) : DGet H a (.ref b) (valV kvs k) := .inr ⟨kvs, k, b, .inl e, rfl, eb, rfl⟩
theorem DPut.k {H : Hp} {a : Addr} {kvs : List (Key × V)} {k : Key} {v : V} (e : H a = some (.dK kvs)) (hl : kvs.length < sizeLine) : DPut H a (kV k) v (upd H a (.dK (putK kvs k v))) := .inl ⟨kvs, k, e, rfl, hl, rfl⟩
theorem DPut.t {H : Hp} {a b : Addr} {kvs : List (List Key × V)} {k : List Key} {v : V} (e : H a = some (.dT kvs)) (eb : H b = some (.tup (k.map kV))) (hl : kvs.length < sizeLine) :
    DPut H a (.ref b) v (upd H a (.dT (putK kvs k v))) := .inr ⟨kvs, k, b, e, rfl, eb, hl, rfl⟩
section
variable {X : Cx} {pins : List (Addr × Obj)} {σ : St} {H : Hp} {s : Shared} {a : Addr} {y v : V} {u r : Value} {o : Option V} {A : Around} {E : Value → Shared → Prop}
theorem Inv.big (I : Inv X pins σ H s) : sysModules < s.heap.objs.size := by
  have h : mainGlobals < s.heap.objs.size := (I.mod.glob.keeps I.bk).lt
  exact Nat.lt_trans (by decide) h
end
section
variable {X : Cx} {pins : List (Addr × Obj)} {σ : St} {H : Hp} {s : Shared} {a : Addr} {kvs : List (Key × V)} {k : Key} {u : Value} {A : Around} {E : Value → Shared → Prop}
end
section
variable {X : Cx} {o i e value : Expr} {pos pos' tpos : Pos} {td ty tv : TE}
end
theorem dk_empty {P : Program} {w : World} {H : Hp} (h : Heap) (hb : sysModules < h.objs.size) : ObjOk P w H (h.push { cls := .type "dict", data := .dict #[] }) h.objs.size (.dK []) :=
  ⟨Nat.zero_le _, beq_eq_false_iff_ne.mpr (Ne.symm (Nat.ne_of_lt hb)), [], .nil, Heap.DictOf.new h⟩
noncomputable def tDNewK : TE := fun _ H Q => ∀ p, H p = none → Q (.ref p) (upd H p (.dK []))
section
variable {X : Cx} {pos : Pos}
theorem pe_dnewK : PE X (.Dict [] [] pos) tDNewK := fun pins s σ H Q I h =>
  wpAny_Dict_empty ⟨.ref s.heap.objs.size, _, I.laid (a := s.heap.objs.size) (o := .dK []) (t' := s.toks) (fun _ _ q => Heap.get?_push_of_some _ q) (Nat.le_refl _) (dk_empty s.heap I.big), rfl, h _ (I.hok.fresh (Nat.le_refl _))⟩
end
section
variable {X : Cx} {pins : List (Addr × Obj)} {σ : St} {H : Hp} {s : Shared} {a : Addr} {y d : V} {u r : Value} {o : Option V} {A : Around} {E : Value → Shared → Prop}
end
section
variable {X : Cx} {o e f : Expr} {apos cpos : Pos} {td ty tx : TE}
end
section
variable {X : Cx} {pins : List (Addr × Obj)} {σ : St} {H : Hp} {s : Shared} {a : Addr} {kvs : List (Key × V)} {A : Around} {E : Value → Shared → Prop}
end
section
variable {X : Cx} {pins : List (Addr × Obj)} {σ : St} {H : Hp} {s : Shared} {a : Addr} {y : V} {u : Value} {A : Around} {E : Value → Shared → Prop}
end
end L2
end
section
set_option maxHeartbeats 1000000
namespace L2
open PySem PySem.Spec PyProof.Rows PySem.W
section
variable {prog : Program} {w : World} {A : Around} {E : Value → Shared → Prop} {s : Shared} {K : Frag} {e C : Addr} {ox : Obj}
structure XCls (K : Frag) (C : Addr) : Prop where
  ga : findIn K (.ref C) "__getattribute__" = some (some (.builtin "BaseException.__getattribute__"))
  gn : findIn K (.ref C) "__getattr__" = some none
  sb : subIn K (.ref C) (.type "BaseException") = some true
  cl : findIn K (.ref C) "__class__" = some (some (.builtin "object.__class__"))
  mo : mroIn K C (.type "object") = some true
  ty : typeIn K (.ref C) = some (.type "type")
  cc : (clsIn K C).isSome = true
noncomputable def XAt (e C : Addr) (h : Heap) : Prop := ∃ oe, h.get? e = some oe ∧ oe.cls = .ref C
noncomputable def XDt (e C dx : Addr) (h : Heap) : Prop := ∃ oe, h.get? e = some oe ∧ oe.cls = .ref C ∧ oe.dict = some dx ∧ ∀ c, oe.data ≠ .cls c
theorem XDt.at {h : Heap} {dx : Addr} (I : XDt e C dx h) : XAt e C h := let ⟨oe, h1, h2, _⟩ := I; ⟨oe, h1, h2⟩
theorem XAt.type {M : Model} {h : Heap} (I : XAt e C h) : Looks M h (typeOf (.ref e)) (.ref C) := by
  obtain ⟨oe, h1, h2⟩ := I
  exact h2 ▸ (Looks.ld h1).andThen .now
theorem xc_get {R : Result → Shared → Prop} (X : K.In s.heap) (I : XAt e C s.heap) (c : XCls K C) (h : R (.ok (.ret (.ref C))) s) :
    codeAny (model prog w) A (.call (.builtin "getset_descriptor.__get__") ⟨[.builtin "object.__class__", .ref e, .ref C], []⟩) R s := by
  obtain ⟨hh, g, d, t, os⟩ := s
  have hT5 : (⟨hh, g, d, t, os⟩ : Shared).TypeIs (.builtin "object.__class__") "getset_descriptor" := F.typeOf_object_class
  have L0 := I.type (M := model prog w)
  have L1 := looks_mroIn (M := model prog w) X c.mo
  refine codeAny_call_builtin F.slot_gs_get.plain F.entry_gs_get (F.slot_gs_get.check _ _ _ _ _ _ _ _ hT5 (F.args_gs_get _ _ _) ?_)
  repeat (any_goals (first | assumption | refine L0.at ?_ | refine L1.at ?_ | refine wpAny_bind (L0.at ?_) | refine wpAny_bind (L1.at ?_) | wp_step))
  refine ⟨Code.quiet_builtin _ (by decide +kernel), codeAny_builtin KF.entry_class ?_⟩
  unfold Builtin.«object.__class__» shownTypeOf
  repeat (any_goals (first | assumption | refine L0.at ?_ | refine wpAny_bind (L0.at ?_) | wp_step))
theorem xc_call {tk : Tok} {R : Result → Shared → Prop} (X : K.In s.heap) (I : XAt e C s.heap) (c : XCls K C) (h : R (.ok (.ret (.ref C))) s) :
    codeAny (model prog w) A (.call (.builtin "BaseException.__getattribute__") ⟨[.ref e, .str "__class__" tk], []⟩) R s := by
  obtain ⟨hh, g, d, t, os⟩ := s
  have L0 := I.type (M := model prog w)
  have LS := looks_subIn (M := model prog w) X c.sb
  have LI : Looks (model prog w) hh (isInstance (.ref e) (.type "BaseException")) true := L0.andThen LS
  have LC := looks_findIn (M := model prog w) X c.cl
  refine codeAny_call_builtin (by decide +kernel) F.entry_bexc_ga ?_
  have hk : builtinKind "BaseException.__getattribute__" = some .slot := by decide +kernel
  have hsplit : splitId "BaseException.__getattribute__" = some ("BaseException", "__getattribute__") := by decide +kernel
  have ha := F.args_bexc_ga (.ref e) (.str "__class__" tk)
  simp only [checkBuiltinCall, hk, hsplit]
  refine wpAny_bind (LI.at ?_)
  unfold argsOk at ha
  simp only [Bool.not_true, Bool.false_eq_true, if_false]
  refine wpAny_of_eq ha ?_
  have hT5 : (⟨hh, g, d, t, os⟩ : Shared).TypeIs (.builtin "object.__class__") "getset_descriptor" := F.typeOf_object_class
  have f5 := F.typeOf_object_class
  have f6 := F.slot_gs_get.lookup
  have f7 := F.slot_gs_set.lookup
  repeat (any_goals (first | assumption | refine L0.at ?_ | refine wpAny_bind (L0.at ?_) | refine LC.at ?_ | refine wpAny_bind (LC.at ?_) | wp_step))
  exact xc_get X I c (wpAny_pure h)
theorem xc_attr {Q : Option Value → Shared → Prop} (X : K.In s.heap) (I : XAt e C s.heap) (c : XCls K C) (h : Q (some (.ref C)) { s with toks := s.toks + 1 }) :
    wpAny (model prog w) A (getAttr? (.ref e) "__class__") Q E s := by
  obtain ⟨hh, g, d, t, os⟩ := s
  have L0 := I.type (M := model prog w)
  have LG := looks_findIn (M := model prog w) X c.ga
  have LN := looks_findIn (M := model prog w) X c.gn
  have fb1 := F.excAttr_ValueError.ga.bind (.ref e)
  unfold getAttr? getAttrBy? getAttrBy
  repeat (first | refine wpAny_bind (L0.at ?_) | refine wpAny_bind (LG.at ?_) | refine wpAny_bind (LN.at ?_) | refine LN.at ?_ | wp_step)
  exact xc_call (s := ⟨hh, g, d, t + 1, os⟩) X I c (handed_on rfl (wpAny_pure h))
theorem kitx_exc (c : XCls K C) : KitX K (.ref e) (.ref C) (XAt e C) where
  ty := fun _ _ _ I => I.type
  it := fun M h X _ => by
    have hc := c.cc
    unfold clsIn at hc
    split at hc
    · rename_i ho
      intro A' Q' E' s' k q
      unfold isType loadHead
      exact wpAny_bind (wpAny_loadPart (k _ _ (X _ _ ho)) (wpAny_pure q))
    · cases hc
  ne := fun h tp dd its n sl X htp => by
    refine Bool.eq_false_iff.mpr fun q => ?_
    have e : C = tp := Value.ref.inj (beq_iff_eq.mp q)
    subst e
    have hc := c.cc
    unfold clsIn at hc
    split at hc
    · rename_i ho
      have z := (X _ _ ho).symm.trans htp
      cases z
    · cases hc
  ca := fun X I k => xc_attr X I c k
end
noncomputable def xO (a C : Addr) : HO := .ext (XAt a C)
noncomputable def xA (a C dx : Addr) : HO := .ext (XDt a C dx)
noncomputable def dO (a : Addr) : HO := .ext (KitAt a "dict")
inductive TyX (K : Frag) (H : Hp) : V → Value → Prop where
  | dct {a : Addr} (y : H a = some (dO a)) : TyX K H (.ref a) (.type "dict")
  | of {x : V} {t : Value} (y : TyOf K H x t) : TyX K H x t
  | exc {a C : Addr} (y : H a = some (xO a C)) (c : XCls K C) : TyX K H (.ref a) (.ref C)
  | exa {a C dx : Addr} (y : H a = some (xA a C dx)) (c : XCls K C) : TyX K H (.ref a) (.ref C)
noncomputable def clV : V → Option Value
  | .ty n => some (.type n)
  | .ref C => some (.ref C)
  | _ => none
noncomputable def rIsi (K : Frag) : List V → Hp → VK → Prop := fun xs H Q => ∃ x c cv t b, xs = [x, c] ∧ clV c = some cv ∧ TyX K H x t ∧ kitOne K t cv = some b ∧ Q (.bl b) H
theorem call_isi {X : Cx} : CallR X (.builtin "isinstance") (rIsi X.K) := by
  intro pins s σ H xs us Q I r h
  obtain ⟨x, c, cv, t, b, rfl, hc, ty, e, q⟩ := h
  obtain ⟨u, w', rfl, ru, rw'⟩ := vals2 r
  have ec : w' = cv := by
    cases c with
    | ty n => cases hc; exact rw'
    | ref C => cases hc; exact rw'
    | _ => cases hc
  subst ec
  have fin : ∀ tk, EP X pins σ Q (.bool b) { s with toks := tk } := fun tk => ⟨.bl b, H, I.tok tk, rfl, q⟩
  cases ty with
  | @dct a y =>
    cases (show u = Value.ref a from ru)
    exact kia_one kitx_dict I.kIn (I.hok a _ y).1 e (fun z => nomatch z) fin
  | of y => exact isinst_ok I ru y e fin
  | @exc a C y c =>
    cases (show u = Value.ref a from ru)
    exact kia_one (kitx_exc c) I.kIn (I.hok a _ y).1 e (fun z => nomatch z) fin
  | @exa a C dx y c =>
    cases (show u = Value.ref a from ru)
    exact kia_one (kitx_exc c) I.kIn (show XDt a C dx s.heap from (I.hok a _ y).1).at e (fun z => nomatch z) fin
noncomputable def DK (h h' : Heap) : Prop := ∀ b o, h.get? b = some o → ∃ o', h'.get? b = some o' ∧ o'.dict = o.dict
theorem DK.refl (h : Heap) : DK h h := fun b o e => ⟨o, e, rfl⟩
theorem DK.trans {h h1 h2 : Heap} (a : DK h h1) (b : DK h1 h2) : DK h h2 := fun x o e => by
  obtain ⟨o1, e1, d1⟩ := a x o e
  obtain ⟨o2, e2, d2⟩ := b x o1 e1
  exact ⟨o2, e2, d2.trans d1⟩
inductive Tame {α : Type} : Sem α → Prop
  | pure (a : α) : Tame (.pure a)
  | raise (e : Value) : Tame (.raise e)
  | unsupported (x : String) : Tame (.unsupported x)
  | rule {x : String} {k : Unit → Sem α} (h : ∀ u, Tame (k u)) : Tame (.rule x k)
  | at {p : Pos} {k : Unit → Sem α} (h : ∀ u, Tame (k u)) : Tame (.at p k)
  | load {a : Addr} {x : Option Value} {k : Obj → Sem α} (h : ∀ u, Tame (k u)) : Tame (.load a x k)
  | update {a : Addr} {x : Option Value} {f : Obj → Obj} {k : Unit → Sem α} (d : ∀ o, (f o).dict = o.dict) (fr : ∀ o, o.isFreed = false → (f o).isFreed = false) (h : ∀ u, Tame (k u)) : Tame (.update a x f k)
  | alloc {o : Obj} {k : Addr → Sem α} (h : ∀ u, Tame (k u)) : Tame (.alloc o k)
  | point {l : List Value} {k : Unit → Sem α} (h : ∀ u, Tame (k u)) : Tame (.point l k)
  | fresh {k : Tok → Sem α} (h : ∀ u, Tame (k u)) : Tame (.fresh k)
  | ask {k : Setting → Sem α} (h : ∀ u, Tame (k u)) : Tame (.ask k)
  | handled {o : Bool} {k : Option Value → Sem α} (h : ∀ u, Tame (k u)) : Tame (.handled o k)
  | register {a : Addr} {k : Unit → Sem α} : Tame (.register a k)
  | loadIfAlive {a : Addr} {k : Option Obj → Sem α} (h : ∀ u, Tame (k u)) : Tame (.loadIfAlive a k)
  | stack {k : List (Code × Pos) → Sem α} (h : ∀ u, Tame (k u)) : Tame (.stack k)
theorem Tame.bind {α β : Type} {t : Sem α} {f : α → Sem β} (h : Tame t) (hf : ∀ a, Tame (f a)) : Tame (t >>= f) := by
  induction h with
  | pure a => exact hf a
  | raise e => exact .raise e
  | unsupported x => exact .unsupported x
  | rule _ ih => exact .rule ih
  | «at» _ ih => exact .at ih
  | load _ ih => exact .load ih
  | update d fr _ ih => exact .update d fr ih
  | alloc _ ih => exact .alloc ih
  | point _ ih => exact .point ih
  | fresh _ ih => exact .fresh ih
  | ask _ ih => exact .ask ih
  | handled _ ih => exact .handled ih
  | register => exact .register
  | loadIfAlive _ ih => exact .loadIfAlive ih
  | stack _ ih => exact .stack ih
theorem Tame.wp {α : Type} {M : Model} {Γ : PySem.Ctx} {Q : α → Pos → Shared → Prop} {E : Value → Pos → Shared → Prop} {t : Sem α} (h : Tame t) : ∀ {p : Pos} {s : Shared}, Sem.wp M Γ t Q E p s → Sem.wp M Γ t (fun a p' s' => Q a p' s' ∧ DK s.heap s'.heap) (fun e p' s' => E e p' s' ∧ DK s.heap s'.heap) p s := by
  have up : ∀ {α : Type} {t : Sem α} {Q : α → Pos → Shared → Prop} {E : Value → Pos → Shared → Prop} {p : Pos} {s : Shared} {h : Heap}, DK h s.heap → Sem.wp M Γ t (fun a p' s' => Q a p' s' ∧ DK s.heap s'.heap) (fun e p' s' => E e p' s' ∧ DK s.heap s'.heap) p s → Sem.wp M Γ t (fun a p' s' => Q a p' s' ∧ DK h s'.heap) (fun e p' s' => E e p' s' ∧ DK h s'.heap) p s :=
    fun d z => Sem.wp_mono M Γ _ (fun _ _ _ q => ⟨q.1, d.trans q.2⟩) (fun _ _ _ q => ⟨q.1, d.trans q.2⟩) _ _ z
  induction h with
  | pure a => intro p s z; exact ⟨z, DK.refl _⟩
  | raise e => intro p s z; exact ⟨z, DK.refl _⟩
  | unsupported x => intro p s z; exact z
  | rule _ ih => intro p s z; exact ih _ z
  | «at» _ ih => intro p s z; exact ih _ z
  | load _ ih => intro p s ⟨o, e, z⟩; exact ⟨o, e, ih _ z⟩
  | @update a x f k d fr _ ih =>
    intro p s ⟨e, z⟩
    refine ⟨e, up (h := s.heap) ?_ (ih _ z)⟩
    intro b o q
    by_cases c : b = a
    · subst c
      have hf := (Heap.get?_some_iff.mp q).2
      exact ⟨f o, Heap.get?_update_self _ q (fr o hf), d o⟩
    · exact ⟨o, (Heap.get?_update_ne _ _ _ _ c).trans q, rfl⟩
  | @alloc o k _ ih =>
    intro p s z
    show Sem.wp M Γ (k s.heap.objs.size) _ _ p { s with heap := s.heap.push o }
    refine up (h := s.heap) ?_ (ih _ z)
    exact fun b o q => ⟨o, Heap.get?_push_of_some _ q, rfl⟩
  | point _ ih => intro p s z; exact ih _ z
  | fresh _ ih => intro p s z; exact ih _ z
  | ask _ ih => intro p s z; exact ih _ z
  | handled _ ih => intro p s z; exact ih _ z
  | register => intro p s z; exact z
  | loadIfAlive _ ih => intro p s z; exact ih _ z
  | stack _ ih => intro p s z; exact ih _ z
theorem Tame.any {α : Type} {M : Model} {A : Around} {Q : α → Shared → Prop} {E : Value → Shared → Prop} {t : Sem α} {s : Shared} (h : Tame t) (z : wpAny M A t Q E s) : wpAny M A t (fun a s' => Q a s' ∧ DK s.heap s'.heap) (fun e s' => E e s' ∧ DK s.heap s'.heap) s := fun Γ p hΓ => h.wp (z Γ p hΓ)
theorem tame_load {a : Addr} : Tame (load a) := .load fun _ => .pure _
theorem tame_loadPart {a : Addr} {x : Option Value} : Tame (loadPart a x) := .load fun _ => .pure _
theorem tame_alloc {o : Obj} : Tame (alloc o) := .alloc fun _ => .pure _
theorem tame_stack : Tame stack := .stack fun _ => .pure _
theorem tame_register {a : Addr} : Tame (register a) := .register
theorem tame_uns {α : Type} {x : String} : Tame (unsupported x : Sem α) := .unsupported _
theorem tame_pure {α : Type} {x : α} : Tame (pure x : Sem α) := .pure _
theorem tame_rule {x : String} : Tame (rule x) := .rule fun _ => .pure _
theorem mapF_dict (f : Array Value → Array Value) (o : Obj) : (Obj.mapFields f o).dict = o.dict := by
  obtain ⟨c, d, dt, sl⟩ := o
  cases dt <;> rfl
theorem mapF_free (f : Array Value → Array Value) (o : Obj) (h : o.isFreed = false) : (Obj.mapFields f o).isFreed = false := by
  obtain ⟨c, d, dt, sl⟩ := o
  cases dt <;> first | rfl | exact h
theorem tame_mapF {a : Addr} {f : Array Value → Array Value} : Tame (update a (Obj.mapFields f)) := .update (mapF_dict f) (mapF_free f) fun _ => .pure _
theorem tame_field {v : Value} {i : Nat} : Tame (field v i) := by
  unfold field fieldsOf
  repeat' (first | exact tame_load | exact tame_loadPart | exact tame_alloc | exact tame_stack | exact tame_register | exact tame_uns | exact tame_pure | exact tame_rule | exact tame_mapF | assumption | refine Tame.bind ?_ fun _ => ?_ | split | (intro _) | (dsimp only))
theorem tame_updateField {a : Addr} {i : Nat} {x : Value} : Tame (updateField a i x) := by
  unfold updateField
  repeat' (first | exact tame_load | exact tame_loadPart | exact tame_alloc | exact tame_stack | exact tame_register | exact tame_uns | exact tame_pure | exact tame_rule | exact tame_mapF | assumption | refine Tame.bind ?_ fun _ => ?_ | split | (intro _) | (dsimp only))
theorem tame_setField {v x : Value} {i : Nat} : Tame (setField v i x) := by
  unfold setField
  split
  · exact tame_updateField
  · exact tame_uns
theorem tame_newFields {x : String} {vs : List Value} : Tame (newFields x vs) := by
  unfold newFields newObj newObjAsIs classHasDel
  repeat' (first | exact tame_load | exact tame_loadPart | exact tame_alloc | exact tame_stack | exact tame_register | exact tame_uns | exact tame_pure | exact tame_rule | exact tame_mapF | assumption | refine Tame.bind ?_ fun _ => ?_ | split | (intro _) | (dsimp only))
theorem tame_frameEnvs : Tame frameEnvs := by
  unfold frameEnvs
  repeat' (first | exact tame_load | exact tame_loadPart | exact tame_alloc | exact tame_stack | exact tame_register | exact tame_uns | exact tame_pure | exact tame_rule | exact tame_mapF | assumption | refine Tame.bind ?_ fun _ => ?_ | split | (intro _) | (dsimp only))
theorem tame_keptBack {env : Env} {b : Bool} {l : List Env} : Tame (keptBack env b l) := by
  cases l with
  | nil => unfold keptBack underTheClaimsCaller; repeat' (first | exact tame_load | exact tame_loadPart | exact tame_alloc | exact tame_stack | exact tame_register | exact tame_uns | exact tame_pure | exact tame_rule | exact tame_mapF | assumption | refine Tame.bind ?_ fun _ => ?_ | split | (intro _) | (dsimp only))
  | cons c l => exact .pure _
theorem tame_behind {env : Env} {l : List Env} : Tame (behindIsImport env l) := by
  have := @tame_field env.code 12
  unfold behindIsImport
  repeat' (first | exact tame_load | exact tame_loadPart | exact tame_alloc | exact tame_stack | exact tame_register | exact tame_uns | exact tame_pure | exact tame_rule | exact tame_mapF | assumption | refine Tame.bind ?_ fun _ => ?_ | split | (intro _) | (dsimp only))
theorem tame_ready : ∀ l : List Env, Tame (readyFrames l)
  | [] => .pure _
  | env :: outer => by
    have h1 := tame_ready outer
    have h2 := @tame_behind env outer
    have h3 := fun b => @tame_keptBack env b outer
    unfold readyFrames
    split
    · refine Tame.bind tame_load fun o => ?_
      split
      · exact .pure _
      · exact Tame.bind h2 fun b => Tame.bind (h3 b) fun v => Tame.bind (.update (fun _ => rfl) (fun o h => by obtain ⟨c, d, dt, sl⟩ := o; cases dt <;> first | rfl | exact h) fun _ => .pure _) fun _ => h1
    · exact tame_uns
theorem tame_frameOf {env : Env} : Tame (PySem.frameOf env) := by
  have h1 := tame_frameEnvs
  unfold PySem.frameOf
  refine Tame.bind h1 fun l => ?_
  refine Tame.bind ?_ fun o => ?_
  · cases List.dropWhile (fun x => x.frame != env.frame) l with
    | nil => exact .pure _
    | cons e r => unfold frameObject; exact Tame.bind (tame_ready _) fun _ => .pure _
  · cases o <;> first | exact .pure _ | exact .unsupported _
theorem tame_place {f : Addr} {b : Bool} : Tame (entryPlaceOf f b) := by
  unfold entryPlaceOf
  repeat' (first | exact tame_load | exact tame_loadPart | exact tame_alloc | exact tame_stack | exact tame_register | exact tame_uns | exact tame_pure | exact tame_rule | exact tame_mapF | assumption | refine Tame.bind ?_ fun _ => ?_ | split | (intro _) | (dsimp only))
theorem tame_setFlight {e : Value} {f : Option Addr} : Tame (setFlight e f) := by
  have h1 := @tame_field e 1
  have h2 := fun v x => @tame_setField v x 3
  unfold setFlight
  refine Tame.bind h1 fun v => ?_
  split
  · exact h2 _ _
  · exact .pure _
theorem tame_noteFrame {e : Value} {env : Env} : Tame (noteFrame e env) := by
  have h1 := fun v i => @tame_field v i
  have h2 := fun v x i => @tame_setField v x i
  have h3 := tame_frameOf (env := env)
  have h4 := fun f b => @tame_place f b
  unfold noteFrame
  split
  · refine Tame.bind (h1 _ _) fun v => ?_
    have h5 : ∀ f, Tame (do setField e 1 (← EntryCells.newEntry v (← PySem.frameOf env) .none (rawInt f) .none (← entryPlaceOf f (v != .none)))) := fun f => Tame.bind h3 fun _ => Tame.bind (h4 _ _) fun _ => Tame.bind tame_newFields fun _ => h2 _ _ _
    dsimp only
    split
    · refine Tame.bind (h1 _ _) fun v => ?_
      split
      · exact .pure _
      · exact Tame.bind (h2 _ _ _) fun _ => h5 _
    · exact h5 _
  · exact tame_uns
theorem tame_leaving {e : Value} {env : Env} : Tame (leaving env e) := Tame.bind tame_noteFrame fun _ => tame_setFlight
end L2
end
section
set_option maxHeartbeats 1000000
namespace L2
open PySem PySem.Spec PyProof.Rows PySem.W
theorem ObjOk.there {P : Program} {w : World} {H : Hp} {h : Heap} {a : Addr} {o : HO} (x : ObjOk P w H h a o) : ∃ ob, h.get? a = some ob := by
  induction o with
  | lst xs => obtain ⟨_, _, _, _, e⟩ := x; exact ⟨_, e⟩
  | tup xs => obtain ⟨_, _, _, ob, e, _⟩ := x; exact ⟨_, e⟩
  | dK kvs => obtain ⟨_, _, _, _, ob, _, _, e, _⟩ := x; exact ⟨_, e⟩
  | dT kvs => obtain ⟨_, _, _, _, ob, _, _, e, _⟩ := x; exact ⟨_, e⟩
  | set S n => obtain ⟨ob, _, _, _, e, _⟩ := x; exact ⟨_, e⟩
  | ins C dx fs => obtain ⟨_, _, _, e, _⟩ := x; exact ⟨_, e⟩
  | own y => exact x
  | xd fs => obtain ⟨_, ⟨od, _, _, e, _⟩, _⟩ := x; exact ⟨_, e⟩
  | rng lo hi => obtain ⟨_, _, _, e⟩ := x; exact ⟨_, e⟩
  | frz ob u _ => exact ⟨_, x.1⟩
  | tbl ps => exact ⟨_, x⟩
  | met f y => exact ⟨_, x⟩
  | ext φ => exact x.2.1
theorem HOk.hide {P : Program} {w : World} {H : Hp} {h : Heap} (x : HOk P w H h) {fs : List Addr} (hf : ∀ b ∈ fs, H b = none) : HOk P w H (hideAll h fs) := fun a o e =>
  (x a o e).stay (fun b u hb q => hideAll_get _ q fun z => by
    have n := hf b z
    rcases hb with rfl | hb
    · rw [n] at e; cases e
    · rw [n] at hb; cases hb) (fun _ q => q) fun _ _ q => q
noncomputable def CXe (P : Program) (w : World) : CXT := fun outer H s E ev s' => ∃ (e : Addr) (cls a0 : Value) (H' : Hp) (B : Heap) (od : Option Addr), ev = .ref e ∧ s'.os = s.os ∧ AllBare s'.gens ∧ Heap.FlyingW B outer e cls a0 s'.heap ∧ HOk P w H' B ∧ H' e = none ∧
  (∀ b o, s.heap.get? b = some o → H b = none → b ∉ frs outer → B.get? b = some o) ∧ (∀ b o, s.heap.get? b = some o → H b = none → b ∈ frs outer → ∃ sl, s'.heap.get? b = some { o with slots := sl }) ∧
  (∀ b o, s.heap.get? b = some o → H b = none → H' b = none) ∧ (∀ b o, s.heap.get? b = some o → b ∉ frs outer → ∃ o', B.get? b = some o') ∧
  (∀ b xs, H b = some (.tup xs) → H' b = some (.tup xs)) ∧ (∀ b o u, H b = some (.frz o u) → H' b = some (.frz o u)) ∧ (∀ b ps, H b = some (.tbl ps) → ∃ more, H' b = some (.tbl (ps ++ more))) ∧ (∀ dx, od = some dx → ∃ oe, s'.heap.get? e = some oe ∧ oe.dict = some dx) ∧ E cls od H'
noncomputable def XWish (X : Cx) (E : XK) : Prop := ∀ (pins : List (Addr × Obj)) (σ : St) (H : Hp) (s : Shared) (h' : Heap) (e C : Addr) (vs : List Value), Inv X pins σ H s → Heap.MadeExcOf s.heap h' e (.ref C) vs → E (.ref C) none H → X.xe (.ref e) { s with heap := h' }
section
variable {P : Program} {w : World} {K : Frag} {mg : Str → Option Value} {base : Heap} {N : List Str} {qual : Str} {scope : Scope} {f : Addr} {cd : Value} {A : Around} {outer : List Env} {s₀ : Shared} {H₀ : Hp} {E E' : XK}
theorem xwish_of (hE : ∀ c d H, E c d H → E' c d H) : XWish (cxOf (CXe P w) P w K mg base N qual scope f cd A outer s₀ H₀ E') E := by
  intro pins σ H s h' e C vs I hx he
  show wpAny _ _ (leaving _ (.ref e)) _ _ _
  have hfr : ∀ env ∈ (cxOf (CXe P w) P w K mg base N qual scope f cd A outer s₀ H₀ E').stack, ∀ b, env.frame = some b → b ∈ frs (cxOf (CXe P w) P w K mg base N qual scope f cd A outer s₀ H₀ E').stack := fun env h b hb => List.mem_filterMap.mpr ⟨env, h, hb⟩
  have hB := I.hok.hide I.stkFree
  have hff := funFrames_hide I.stack hfr
  have en : H e = none := by
    cases q : H e with
    | none => rfl
    | some o => obtain ⟨ob, z⟩ := (I.hok e o q).there; rw [hx.new] at z; cases z
  refine wpAny_leaves_madeW (base := hideAll s.heap (frs (cxOf (CXe P w) P w K mg base N qual scope f cd A outer s₀ H₀ E').stack)) I.ok.frames rfl (fun b o q => of_hideAll _ q) hff hx fun h2 t fl _ _ up => ?_
  have sub : ∀ b ∈ frs outer, b ∈ frs (cxOf (CXe P w) P w K mg base N qual scope f cd A outer s₀ H₀ E').stack := fun b hb => by
    obtain ⟨env, h1, h2⟩ := List.mem_filterMap.mp hb
    exact List.mem_filterMap.mpr ⟨env, List.mem_cons_of_mem _ h1, h2⟩
  have nloc : ∀ b o, s₀.heap.get? b = some o → b ≠ s₀.heap.objs.size := fun b o q z => by
    have := Heap.lt_size q
    exact Nat.lt_irrefl _ (z ▸ this)
  have nfr : ∀ b o, s₀.heap.get? b = some o → b ∉ frs outer → b ∉ frs (cxOf (CXe P w) P w K mg base N qual scope f cd A outer s₀ H₀ E').stack := fun b o q hb z => by
    obtain ⟨env, h1, h2⟩ := List.mem_filterMap.mp z
    rcases List.mem_cons.mp h1 with rfl | h1
    · exact nloc b o q (Option.some.inj h2).symm
    · exact hb (List.mem_filterMap.mpr ⟨env, h1, h2⟩)
  have nx : ∀ b : Addr, b ∉ (cxOf (CXe P w) P w K mg base N qual scope f cd A outer s₀ H₀ E').ex := fun b z => absurd (show b ∈ ([] : List Addr) from z) (by simp)
  refine ⟨e, .ref C, .ref t, H, _, none, rfl, I.os, I.bare, fl, hB, en, fun b o q n hb => hideAll_get _ (I.base.keep b o q n hb (nx b)) (nfr b o q hb), fun b o q n hb => ?_, fun b o q n => I.base.free b o q n (nx b), fun b o q hb => ?_, I.base.tups, I.base.frzs, I.base.tbls, (fun _ z => nomatch z), hE _ _ _ he⟩
  · obtain ⟨sl, e1⟩ := I.base.slot b o q n hb (nx b)
    obtain ⟨⟨hn, o2, ho2, hnf⟩⟩ := And.intro (I.stack.mem (sub b hb)) trivial
    rw [e1] at ho2
    cases ho2
    obtain ⟨sl2, e2⟩ := up b _ (hx.keeps b _ e1) hnf
    exact ⟨sl2, e2⟩
  · obtain ⟨o', e1⟩ := I.base.there b o q (nx b)
    exact ⟨o', hideAll_get _ e1 (nfr b o q hb)⟩
theorem passX (hE : ∀ c d H, E c d H → E' c d H) : Passes (CXe P w) (cxOf (CXe P w) P w K mg base N qual scope f cd A outer s₀ H₀ E') E := by
  intro pins σ H s ev s' I h
  obtain ⟨e, cls, a0, H', B, od, rfl, ho, hg, fl, hok, en, keep, slot, free, there, tups, frzs, tbls, hdd, he⟩ := h
  show wpAny _ _ (leaving _ (.ref e)) _ _ _
  refine wpAny_mono (tame_leaving.any (wpAny_leaves_onW (Q := fun _ s2 => ∃ h2, s2 = { s' with heap := h2 } ∧ Heap.FlyingW B outer e cls a0 h2 ∧ s'.heap.UpToSlots h2) (base := B) I.ok.frames rfl fl fun h2 fl2 up => ⟨h2, rfl, fl2, up⟩)) (fun _ s2 q2 => ?_) fun _ _ z => z.1
  obtain ⟨⟨h2, rfl, fl2, up⟩, dk⟩ := q2
  have sub : ∀ b ∈ frs outer, b ∈ frs (cxOf (CXe P w) P w K mg base N qual scope f cd A outer s₀ H₀ E').stack := fun b hb => by
    obtain ⟨env, h1, h2⟩ := List.mem_filterMap.mp hb
    exact List.mem_filterMap.mpr ⟨env, List.mem_cons_of_mem _ h1, h2⟩
  have nfr : ∀ b o, s₀.heap.get? b = some o → b ∉ frs outer → b ∉ frs (cxOf (CXe P w) P w K mg base N qual scope f cd A outer s₀ H₀ E').stack := fun b o q hb z => by
    obtain ⟨env, h1, h2⟩ := List.mem_filterMap.mp z
    rcases List.mem_cons.mp h1 with rfl | h1
    · exact Nat.lt_irrefl _ ((Option.some.inj h2).symm ▸ Heap.lt_size q)
    · exact hb (List.mem_filterMap.mpr ⟨env, h1, h2⟩)
  have nx : ∀ b : Addr, b ∉ (cxOf (CXe P w) P w K mg base N qual scope f cd A outer s₀ H₀ E').ex := fun b z => absurd (show b ∈ ([] : List Addr) from z) (by simp)
  have frNF : ∀ b o, s'.heap.get? b = some o → b ∈ frs (cxOf (CXe P w) P w K mg base N qual scope f cd A outer s₀ H₀ E').stack → ∃ sl, h2.get? b = some { o with slots := sl } := fun b o q hb => by
    obtain ⟨hn, o2, ho2, hnf⟩ := fl.2.2.1.mem hb
    rw [q] at ho2
    cases ho2
    exact up b _ q hnf
  refine ⟨e, cls, a0, H', B, od, rfl, ho.trans I.os, hg, fl2, hok, en, fun b o q n hb => keep b o (I.base.keep b o q n hb (nx b)) (I.base.free b o q n (nx b)) (nfr b o q hb), fun b o q n hb => ?_,
    fun b o q n => ?_, fun b o q hb => ?_, fun b xs q => tups b xs (I.base.tups b xs q), fun b o u q => frzs b o u (I.base.frzs b o u q), fun b ps q => ?_, fun dx z => (by obtain ⟨oe, q1, q2⟩ := hdd dx z; obtain ⟨o', q3, q4⟩ := dk e oe q1; exact ⟨o', q3, q4.trans q2⟩), hE _ _ _ he⟩
  · obtain ⟨sl, e1⟩ := I.base.slot b o q n hb (nx b)
    obtain ⟨sl1, e2⟩ := slot b _ e1 (I.base.free b o q n (nx b)) (sub b hb)
    obtain ⟨sl2, e3⟩ := frNF b _ e2 (sub b hb)
    exact ⟨sl2, e3⟩
  · obtain ⟨o', e1⟩ := I.base.there b o q (nx b)
    exact free b o' e1 (I.base.free b o q n (nx b))
  · obtain ⟨o', e1⟩ := I.base.there b o q (nx b)
    exact there b o' e1 (nfr b o q hb)
  · obtain ⟨m1, e1⟩ := I.base.tbls b ps q
    obtain ⟨m2, e2⟩ := tbls b _ e1
    exact ⟨m1 ++ m2, by rw [e2, Array.append_assoc]⟩
end
section
variable {X : Cx} {C : Addr} {x : Str} {e : Expr} {es : List Expr} {t : TA} {E : XK} {np cpos pos : Pos}
abbrev bmVE : List Value := [.type "ValueError", .type "Exception", .type "BaseException", .type "object"]
end
noncomputable abbrev EXT := St → XK
noncomputable def PassAt (CX : CXT) (X : Cx) (E : EXT) : Prop := ∀ (pins : List (Addr × Obj)) (σ : St) (H : Hp) (s : Shared) (e : Value) (s' : Shared), Inv X pins σ H s → CX X.stack H s (E σ) e s' → X.xe e s'
noncomputable def tCallX (sp : Sp) (dvs : List V) (E : EXT) (t : TA) : TE := fun σ H Q => t σ H fun vs H1 => sp (vs ++ dvs) H1 Q (E σ)
section
variable {X : Cx} {CX : CXT} {k : Nat} {f : Addr} {fd : FuncData} {ps : List Str} {sp : Sp} {dvs : List V} {ds : List Value} {E : EXT} {x : Str} {p pos : Pos} {e : Expr} {es : List Expr} {t : TA}
theorem pe_callX (F : FnOk X.prog X.w X.K X.mg X.base CX k f fd ps sp) (hr : Room k X.A) (hg : Gl X x) (hm : X.mg x = some (.ref f)) (hk : PySem.W.keepIn X.K (.ref f) = true) (hb : Binds X.K fd ps ds) (hd : Vals dvs ds) (hx : PassAt CX X E)
    (ha : PA X (e :: es) t) (hdb : (x == ("__debug__" : Str)) = false := by decide) (he : starEach (e :: es) X.env = (false, eval e X.env) :: starEach es X.env := by rfl) (hpl : (backTo pos (starEach es X.env)).any (·.1) = false := by rfl) :
    PE X (.Call (.Name x p) (e :: es) [] pos) (tCallX sp dvs E t) := by
  intro pins s σ H Q I h
  refine wpAny_Call_Name_kw (ld_glob I hg hm ?_ hdb)
  refine PySem.W.callWith_K (h₀ := X.base) I.ok.mod.kin hk (thn (ha pos pins s σ H _ I h) fun us s1 ⟨vs, H1, I1, r, q⟩ => ⟨I1.kIn, ?_⟩) he hpl
  have r2 : Vals (vs ++ dvs) (us ++ ds) := r.append hd
  have hl : (us ++ ds).length = ps.length := r2.length ▸ F.len _ _ _ _ q
  refine wpAny_call (codeAny_mono (F.run X.A X.stack s1 H1 ⟨us, []⟩ (us ++ ds) (vs ++ dvs) Q (E σ) hr I1.env0 (hb s1 us I1.kIn hl) r2 q) fun rr s' hq => ?_)
  rcases rr with ev | fl
  · exact hx pins σ H1 s1 ev s' I1 hq
  · cases fl with
    | ret u => exact I1.after hq
    | next => exact False.elim hq
    | brk => exact False.elim hq
    | cont => exact False.elim hq
end
noncomputable def Cx.inX (X : Cx) (e : Addr) : Cx := { X with A := X.A.mark (some (.ref e)), calm := false, xe := fun _ _ => False }
theorem Cx.Ok.inX {X : Cx} (ok : X.Ok) (e : Addr) : (X.inX e).Ok :=
  ⟨ok.mod, ok.kind, ok.glob, ok.blt, ok.above, ok.inj, ok.has, ok.cab, fun z => (nomatch z), ok.frames, ok.stk, ok.exf, ok.bs, ok.bsz, ok.noex, ok.exfs, ok.funs, ok.frf⟩
theorem Inv.inX {X : Cx} {pins : List (Addr × Obj)} {σ : St} {H : Hp} {s : Shared} (I : Inv X pins σ H s) (e : Addr) : Inv (X.inX e) pins σ H s := ⟨I.ok.inX e, I.os, I.bare, I.base, I.loc, I.cell, I.free, I.freeC, I.pin, I.hok, I.len⟩
theorem Inv.outX {X : Cx} {pins : List (Addr × Obj)} {σ : St} {H : Hp} {s : Shared} {e : Addr} (ok : X.Ok) (I : Inv (X.inX e) pins σ H s) : Inv X pins σ H s := ⟨ok, I.os, I.bare, I.base, I.loc, I.cell, I.free, I.freeC, I.pin, I.hok, I.len⟩
noncomputable abbrev WT := Value → Shared → Prop
noncomputable abbrev PT0 := List (Addr × Obj)
noncomputable def xOd (e C : Addr) : Option Addr → HO
  | none => xO e C
  | some dx => xA e C dx
noncomputable def tTry (K : Frag) (c : Value) (i : Nat) (tb : EXT → WT → PT0 → TS) (th : Addr → TS) (te : TS) : TS := fun D σ H => ∀ (W : WT) (pn : PT0),
  tb (fun σ1 cls od H1 => ∃ C, cls = .ref C ∧ exmOne K (.ref C) c = some true ∧ ∀ e, H1 e = none → th e { nx := fun σ2 H2 => D.nx (σ2.set i none) H2, rt := D.rt } (σ1.set i (some (.ref e))) (upd H1 e (xOd e C od))) W pn { D with nx := te D } σ H
noncomputable abbrev Cx.inT (X : Cx) (W : Value → Shared → Prop) (pn : List (Addr × Obj)) : Cx := { X with xe := W, pn := pn }
theorem Cx.Ok.inT {X : Cx} (ok : X.Ok) (W : Value → Shared → Prop) (pn : List (Addr × Obj)) : (X.inT W pn).Ok :=
  ⟨ok.mod, ok.kind, ok.glob, ok.blt, ok.above, ok.inj, ok.has, ok.cab, ok.hd, ok.frames, ok.stk, ok.exf, ok.bs, ok.bsz, ok.noex, ok.exfs, ok.funs, ok.frf⟩
theorem Inv.intoT {X : Cx} {pins : List (Addr × Obj)} {σ : St} {H : Hp} {s : Shared} (I : Inv X pins σ H s) (W : Value → Shared → Prop) : Inv (X.inT W (X.pn ++ pins)) [] σ H s :=
  ⟨I.ok.inT W _, I.os, I.bare, I.base, I.loc, I.cell, I.free, I.freeC, fun p hp => I.pin p (by rcases List.mem_append.mp hp with z | z; exact z; cases z), I.hok, I.len⟩
theorem Inv.outT {X : Cx} {pins pins' : List (Addr × Obj)} {σ : St} {H : Hp} {s : Shared} {W : Value → Shared → Prop} (ok : X.Ok) (I : Inv (X.inT W (X.pn ++ pins)) pins' σ H s) : Inv X pins σ H s :=
  ⟨ok, I.os, I.bare, I.base, I.loc, I.cell, I.free, I.freeC, fun p hp => I.pin p (List.mem_append_left _ hp), I.hok, I.len⟩
section
variable {X : Cx} {pins : List (Addr × Obj)} {σ : St} {H : Hp} {s : Shared}
theorem goes_ok {M : Model} {A : Around} {E : Value → Shared → Prop} {i : Nat} {n : Str} {pos : Pos} {Q : Unit → Shared → Prop} (I : Inv X pins σ H s) (hN : X.N.Nodup) (hi : X.N[i]? = some n) (hk : X.env.kindOf n = some .local)
    (h : ∀ s', Inv X pins (σ.set i none) H s' → Q () s') : wpAny M A (do bindName X.env n .none; unbindBehindTheSuite X.env n pos) Q E s := by
  obtain ⟨m, hn, hl⟩ := id I.loc
  have hcls : (X.env.scope.kind == .class || (X.env.scope.kind == .module && X.env.locals != X.env.globals)) = false := by rw [I.ok.kind]; rfl
  obtain ⟨oL, _, _, hoL, _⟩ := id hn
  have ab := I.ok.above
  refine wpAny_nameGoes_keeps hk hn hcls fun h' v hn' hs => h _ ⟨I.ok, I.os, I.bare, ⟨fun b o e n hb hx => ?_, fun b o e n hb hx => ?_, I.base.free, fun b o e hx => ?_, I.base.tups, I.base.frzs, I.base.tbls⟩, ⟨_, hn', fun j y v' e1 e2 e3 => ?_⟩, fun y c e => ?_, I.free, I.freeC, fun p hp => ?_, fun b ob e => ?_, by simpa using I.len⟩
  · exact (hs.2 b (Nat.ne_of_lt (Nat.lt_of_lt_of_le (Heap.lt_size e) ab))).trans (I.base.keep b o e n hb hx)
  · obtain ⟨sl, e1⟩ := I.base.slot b o e n hb hx
    exact ⟨sl, (hs.2 b (Nat.ne_of_lt (Nat.lt_of_lt_of_le (Heap.lt_size e) ab))).trans e1⟩
  · obtain ⟨o', e1⟩ := I.base.there b o e hx
    exact ⟨o', (hs.2 b (Nat.ne_of_lt (Nat.lt_of_lt_of_le (Heap.lt_size e) ab))).trans e1⟩
  · have hj : j ≠ i := fun z => by
      subst z
      rw [List.getElem?_set] at e2
      split at e2
      · split at e2 <;> cases e2
      · rename_i z; exact z rfl
    rw [List.getElem?_set_ne (Ne.symm hj)] at e2
    obtain ⟨u', r', q⟩ := hl j y v' e1 e2 e3
    refine ⟨u', r', ?_⟩
    rcases q with ⟨k, e⟩ | ⟨k, c, e, z⟩
    · refine .inl ⟨k, ?_⟩
      have : y ≠ n := fun e => hj (nodup_ix hN e1 (e ▸ hi))
      simp [this, e]
    · exact .inr ⟨k, c, e, z.sameBut hs (I.cne y c e)⟩
  · obtain ⟨w', z⟩ := I.cell y c e
    exact ⟨w', z.sameBut hs (I.cne y c e)⟩
  · obtain ⟨e, n, ne, nf, d⟩ := I.pin p hp
    exact ⟨(hs.2 p.1 ne).trans e, n, ne, nf, d⟩
  · refine (I.hok b ob e).stay (fun c w' hc q => (hs.2 c ?_).trans q) (fun _ q => q) fun _ _ q => q
    rintro rfl
    have hfree := I.free
    rcases hc with rfl | hc
    · rw [hfree] at e; cases e
    · rw [hfree] at hc; cases hc
theorem Inv.landed {s' : Shared} {h5 B : Heap} {e C : Addr} {a0 : Value} {H' : Hp} (I : Inv X pins σ H s) (hs : X.stack = X.env :: X.outer) (hf : X.env.frame = some X.env.locals) (ho : s'.os = s.os) (hg : AllBare s'.gens)
    (fl : Heap.FlyingW B X.stack e (.ref C) a0 h5) (up : s'.heap.UpToSlots h5) (fl0 : Heap.FlyingW B X.stack e (.ref C) a0 s'.heap) (hok : HOk X.prog X.w H' B) (en : H' e = none)
    (keep : ∀ b o, s.heap.get? b = some o → H b = none → b ∉ frs X.stack → B.get? b = some o) (slot : ∀ b o, s.heap.get? b = some o → H b = none → b ∈ frs X.stack → ∃ sl, s'.heap.get? b = some { o with slots := sl })
    (free : ∀ b o, s.heap.get? b = some o → H b = none → H' b = none) (there : ∀ b o, s.heap.get? b = some o → b ∉ frs X.stack → ∃ o', B.get? b = some o')
    (tups : ∀ b xs, H b = some (.tup xs) → H' b = some (.tup xs)) (frzs : ∀ b o u, H b = some (.frz o u) → H' b = some (.frz o u)) (tbls : ∀ b ps, H b = some (.tbl ps) → ∃ more, H' b = some (.tbl (ps ++ more))) {t' : Nat} {od : Option Addr} (hdd : ∀ dx, od = some dx → ∃ oe, h5.get? e = some oe ∧ oe.dict = some dx) :
    Inv X pins σ (upd H' e (xOd e C od)) { s' with heap := h5, toks := t' } := by
  have mem : ∀ b, b ∈ frs X.stack ↔ b = X.env.locals ∨ b ∈ X.fs := fun b => by
    rw [hs]; unfold frs Cx.fs frs
    rw [List.filterMap_cons, hf]
    exact List.mem_cons
  have frs5 : ∀ b o, s.heap.get? b = some o → H b = none → b ∈ frs X.stack → ∃ sl, h5.get? b = some { o with slots := sl } := fun b o q n hb => by
    obtain ⟨sl, e1⟩ := slot b o q n hb
    obtain ⟨_, o2, ho2, hnf⟩ := fl0.2.2.1.mem hb
    rw [e1] at ho2
    cases ho2
    obtain ⟨sl2, e2⟩ := up b _ e1 hnf
    exact ⟨sl2, e2⟩
  have nee : ∀ b, b ∈ frs X.stack → b ≠ e := fun b hb z => by
    subst z
    obtain ⟨_, o2, ho2, hnf⟩ := fl.2.2.1.mem hb
    obtain ⟨oe, vs, h1, _, h2, _⟩ := fl.first
    rw [h1] at ho2
    cases ho2
    exact hnf vs h2
  have upne : ∀ b o, H' b = some o → (upd H' e (xOd e C od)) b = some o := fun b o q => by rw [upd_ne (fun z => by subst z; rw [en] at q; cases q)]; exact q
  have neo : ∀ b o, s.heap.get? b = some o → H b = none → b ≠ e := fun b o q n => by
    by_cases hb : b ∈ frs X.stack
    · exact nee b hb
    · intro z; subst z
      have := keep b o q n hb
      rw [fl.2.1] at this; cases this
  obtain ⟨hh, g2, d2, t2, os2⟩ := s'
  obtain rfl : os2 = s.os := ho
  show Inv X pins σ _ { s with heap := h5, gens := g2, drawn := d2, toks := t' }
  refine I.step (h' := h5) (g' := g2) (d' := d2) (t' := t') (ch := []) (fun b z => absurd z (by simp)) (fun b o hb hbf _ q n => fl.1 b o (keep b o q n fun z => ?_)) (fun b o hb hbf _ q n => frs5 b o q n ((mem b).mpr (.inr hbf))) (fun b o _ q n => ?_) (fun b o _ q => ?_)
    (fun b xs q => upne b _ (tups b xs q)) (fun b o u q => upne b _ (frzs b o u q)) (fun b ps q => ?_) (fun m hn => ?_) ?_ hg
  · rcases (mem b).mp z with z | z
    · exact hb z
    · exact hbf z
  · rw [upd_ne (neo b o q n)]; exact free b o q n
  · by_cases hb : b ∈ frs X.stack
    · have n : H b = none := I.stkFree b hb
      obtain ⟨sl, e2⟩ := frs5 b o q n hb
      exact ⟨_, e2⟩
    · obtain ⟨o', e1⟩ := there b o q hb
      exact ⟨o', fl.1 b o' e1⟩
  · obtain ⟨m2, e2⟩ := tbls b ps q
    exact ⟨m2, upne b _ e2⟩
  · obtain ⟨oL, es, ep, hoL, hd, hk, hm⟩ := hn
    obtain ⟨sl, e2⟩ := frs5 _ _ hoL I.free ((mem _).mpr (.inl rfl))
    exact ⟨_, es, ep, e2, hd, hk, hm⟩
  · intro b o q
    by_cases hb : b = e
    · subst hb
      rw [upd_same] at q
      cases q
      obtain ⟨oe, h1, h2⟩ := fl.there
      cases od with
      | none => exact ⟨⟨oe, h1, h2⟩, ⟨oe, h1⟩, fun h1 h2 ⟨o, e1, e2⟩ k => ⟨o, k o e1, e2⟩⟩
      | some dx =>
        obtain ⟨o', q3, q4⟩ := hdd dx rfl
        rw [h1] at q3; cases q3
        obtain ⟨oe', vs, f1, _, f2, _⟩ := fl.first
        rw [h1] at f1; cases f1
        exact ⟨⟨oe, h1, h2, q4, fun c z => by rw [f2] at z; cases z⟩, ⟨oe, h1⟩, fun h1 h2 ⟨o, e1, e2⟩ k => ⟨o, k o e1, e2⟩⟩
    · rw [upd_ne hb] at q
      refine (hok b o q).stay (fun c u _ z => fl.1 c u z) (fun c z => upne c _ z) fun c xs z => upne c _ z
theorem ps_try {body suite orelse : List Stmt} {b₀ : Stmt} {n x : Str} {np hpos pos : Pos} {i : Nat} {c : Value} {tb : EXT → WT → PT0 → TS} {th : Addr → TS} {te : TS} (hc : X.calm = true) (hs : X.stack = X.env :: X.outer) (hf : X.env.frame = some X.env.locals)
    (hN : X.N.Nodup) (hi : X.N[i]? = some n) (hk : X.env.kindOf n = some .local) (hg : Gl X x) (hm : X.mg x = some c)
    (hb : ∀ (E : EXT) (W : Value → Shared → Prop) (pn : List (Addr × Obj)), PassAt (CXe X.prog X.w) (X.inT W pn) E → PSs (X.inT W pn) body (tb E W pn)) (hh : ∀ e, PSs (X.inX e) (b₀ :: suite) (th e)) (ho : PSs X orelse te)
    (hd : (x == ("__debug__" : Str)) = false := by decide) :
    PS X (.Try body [.ExceptHandler (some (.Name x np)) (some n) (b₀ :: suite) hpos] orelse [] pos) (tTry X.K c i tb th te) := by
  intro pins s σ H D I h
  refine wpAny_Try_except ?_
  have I2 := I.intoT (W := fun e s₁ => wpAny (model X.prog X.w) X.A (noteFrame e X.env) (fun _ s₂ => wpAny (model X.prog X.w) X.A (setFlight e none) (fun _ s₃ => wpAny (model X.prog X.w) X.A (handleBy e X.env [.ExceptHandler (some (.Name x np)) (some n) (b₀ :: suite) hpos]) (SP X pins D) X.xe s₃) X.xe s₂) X.xe s₁)
  refine thn (hb _ _ _ ?_ [] s σ H _ I2 (h _ _)) fun f s1 q => ?_
  · intro pins' σ1 H1 s1 ev s' I1 hcx
    obtain ⟨e, cls, a0, H', B, od, rfl, hos, hgn, fl, hok, en, keep, slot, free, there, tups, frzs, tbls, hdd, C, rfl, hex, hth⟩ := hcx
    have J : Inv X pins σ1 H1 s1 := I1.outT I.ok
    have fl' : Heap.FlyingW B (X.env :: X.outer) e (.ref C) a0 s'.heap := hs ▸ fl
    refine wpAny_mono (tame_noteFrame.any (wpAny_looks_onW (Q := fun _ s2 => ∃ h4, s2 = { s' with heap := h4 } ∧ Heap.HeldW B (X.env :: X.outer) e (.ref C) a0 X.env.locals h4 ∧ s'.heap.UpToSlots h4) (base := B) (by rw [I.ok.frames, hs]) hf fl' fun h4 held up4 => ⟨h4, rfl, held, up4⟩)) (fun _ s2 q2 => ?_) fun _ _ z => z.1
    obtain ⟨⟨h4, rfl, held, up4⟩, dk4⟩ := q2
    refine wpAny_mono (tame_setFlight.any (wpAny_landsW (Q := fun _ s2 => ∃ h5, s2 = { s' with heap := h5 } ∧ Heap.FlyingW B (X.env :: X.outer) e (.ref C) a0 h5 ∧ h4.UpToSlots h5) held fun h5 fl5 up5 => ⟨h5, rfl, fl5, up5⟩)) (fun _ s2 q2 => ?_) fun _ _ z => z.1
    obtain ⟨⟨h5, rfl, fl5, up5⟩, dk5⟩ := q2
    have hd5 : ∀ dx, od = some dx → ∃ oe, h5.get? e = some oe ∧ oe.dict = some dx := fun dx z => by
      obtain ⟨oe, q1, q2⟩ := hdd dx z
      obtain ⟨o', q3, q4⟩ := (DK.trans dk4 dk5) e oe q1
      exact ⟨o', q3, q4.trans q2⟩
    have up45 := up4.trans up5
    have J5 := J.landed (s' := s') (h5 := h5) (t' := s'.toks) hs hf hos hgn (hs.symm ▸ fl5) up45 fl hok en keep slot free there tups frzs tbls hd5
    refine wpAny_handleBy_cons (codeAny_handlers_test (ld_glob (X := X.inX e) (J5.inX e) hg hm ?_ hd)) (by intro q; cases q)
    have LT : Looks (model X.prog X.w) h5 (typeOf (.ref e)) (.ref C) := XAt.type fl5.there
    refine (exm_one J5.kIn LT hex).here ?_
    refine codeAny_handlers_suite_as ?_
    refine wpAny_mono (tame_setFlight.any (lands_againW (Q := fun _ s2 => ∃ h6, s2 = { s' with heap := h6 } ∧ Heap.FlyingW B (X.env :: X.outer) e (.ref C) a0 h6 ∧ h5.UpToSlots h6) fl5 fun h6 fl6 up6 => ⟨h6, rfl, fl6, up6⟩)) (fun _ s2 q2 => ?_) fun _ _ z => z.1
    obtain ⟨⟨h6, rfl, fl6, up6⟩, dk6⟩ := q2
    have hd6 : ∀ dx, od = some dx → ∃ oe, h6.get? e = some oe ∧ oe.dict = some dx := fun dx z => by
      obtain ⟨oe, q1, q2⟩ := hd5 dx z
      obtain ⟨o', q3, q4⟩ := dk6 e oe q1
      exact ⟨o', q3, q4.trans q2⟩
    have J6 := J.landed (s' := s') (h5 := h6) (t' := s'.toks) hs hf hos hgn (hs.symm ▸ fl6) (up45.trans up6) fl hok en keep slot free there tups frzs tbls hd6
    refine store_ok (X := X.inX e) (v := .ref e) (J6.inX e) hN hi (.inl hk) rfl (fun s7 J7 => ?_) (.inr hk)
    refine wpAny_mono (hh e pins s7 _ _ _ J7 (hth e en)) (fun f s8 q8 => ?_) fun _ _ z => z.elim
    cases f with
    | next =>
      obtain ⟨σ2, H2, K2, q2⟩ := q8
      exact goes_ok (K2.outX I.ok) hN hi hk fun s9 K9 => ⟨_, H2, K9, q2⟩
    | ret u =>
      obtain ⟨v, σ2, H2, K2, rv, q2⟩ := q8
      exact goes_ok (K2.outX I.ok) hN hi hk fun s9 K9 => ⟨v, _, H2, K9, rv, q2⟩
    | brk =>
      obtain ⟨_, _, _, q2⟩ := q8
      exact False.elim q2
    | cont =>
      obtain ⟨_, _, _, q2⟩ := q8
      exact False.elim q2
  · cases f with
    | next =>
      obtain ⟨σ2, H2, K2, q2⟩ := q
      exact ho pins s1 σ2 H2 D (K2.outT I.ok) q2
    | ret u =>
      obtain ⟨v, σ2, H2, K2, rv, q2⟩ := q
      exact ⟨v, σ2, H2, K2.outT I.ok, rv, q2⟩
    | brk =>
      obtain ⟨σ2, H2, K2, q2⟩ := q
      exact ⟨σ2, H2, K2.outT I.ok, q2⟩
    | cont =>
      obtain ⟨σ2, H2, K2, q2⟩ := q
      exact ⟨σ2, H2, K2.outT I.ok, q2⟩
end
end L2
end
section
set_option maxHeartbeats 1000000
namespace L2
open PySem PySem.Spec PyProof.Rows PySem.W
section
variable {prog : Program} {w : World} {A : Around} {R : Result → Shared → Prop} {s : Shared} {elt tg iter : Expr} {ifs : List Expr} {scope : Scope} {pos : Pos} {it acc : Value} {env : Env}
noncomputable def closOf (env : Env) (names : List (Str × NameKind)) (cs : List (Str × Addr)) : List (Str × Addr) := names.foldl (fun cs x => if (x.2 == NameKind.free) = true then (x.1, (env.cells.lookup x.1).getD 0) :: cs else cs) cs
end
structure Bk where
  (C : Addr)
  (fp : List Addr)
  (s : Shared)
  (H : Hp)
noncomputable abbrev Cx.blk (X : Cx) (scope : Scope) (C : Addr) (fp : List Addr) (N : List Str) (s : Shared) (H : Hp) : Cx :=
  { X with N := N, s₀ := s, H₀ := H, env := compEnvC scope (closOf X.env scope.names []) C X.env, outer := X.stack, ex := fp, fn := fun _ => false, pn := [], xe := fun _ _ => False }
end L2
end
section
set_option maxHeartbeats 1000000
namespace L2
open PySem PySem.Spec PyProof.Rows PySem.W
mutual
inductive RD (K : Frag) (H : Hp) : V → PyData → Prop where
  | non : RD K H .non .none
  | bl (b : Bool) : RD K H (.bl b) (.bool b)
  | int (i : Int) : RD K H (.int i) (.int i)
  | str (x : Str) : RD K H (.str x) (.str x)
  | lst {a : Addr} {xs : List V} {ds : List PyData} (h : SqL K H a xs) (r : RDs K H xs ds) : RD K H (.ref a) (.list ds)
  | tup {a : Addr} {xs : List V} {ds : List PyData} (h : SqT K H a xs) (r : RDs K H xs ds) : RD K H (.ref a) (.tuple ds)
inductive RDs (K : Frag) (H : Hp) : List V → List PyData → Prop where
  | nil : RDs K H [] []
  | cons {x : V} {xs : List V} {d : PyData} {ds : List PyData} (h : RD K H x d) (r : RDs K H xs ds) : RDs K H (x :: xs) (d :: ds)
end
section
variable {X : Cx} {pins : List (Addr × Obj)} {σ : St} {H : Hp} {s : Shared}
mutual
theorem RD.reads (I : Inv X pins σ H s) : ∀ {v : V} {d : PyData} {u : Value}, RD X.K H v d → RelV v u → ∃ as, Reads s.heap u d as
  | _, _, _, .non, r => by cases (show _ = Value.none from r); exact ⟨_, .none⟩
  | _, _, _, .bl b, r => by cases (show _ = Value.bool b from r); exact ⟨_, .bool b⟩
  | _, _, _, .int i, r => by obtain ⟨t, q⟩ := (show ∃ t, _ = Value.int i t from r); cases q; exact ⟨_, .int i t⟩
  | _, _, _, .str x, r => by obtain ⟨t, q⟩ := (show ∃ t, _ = Value.str x t from r); cases q; exact ⟨_, .str x t⟩
  | _, _, _, .lst (a := a) h rs, r => by
    cases (show _ = Value.ref a from r)
    obtain ⟨its, rv, ⟨o, n, hp, hc, _, hd⟩, _⟩ := I.list h
    obtain ⟨as, ra⟩ := RDs.reads I rs rv
    exact ⟨_, reads_list_at hp hc hd (by simpa using ra)⟩
  | _, _, _, .tup (a := a) h rs, r => by
    cases (show _ = Value.ref a from r)
    obtain ⟨its, rv, ⟨o, h1, h2, n, h3⟩, _⟩ := I.tuple h
    obtain ⟨as, ra⟩ := RDs.reads I rs rv
    exact ⟨_, reads_tuple_at h1 h2 h3 (by simpa using ra)⟩
theorem RDs.reads (I : Inv X pins σ H s) : ∀ {xs : List V} {ds : List PyData} {us : List Value}, RDs X.K H xs ds → Vals xs us → ∃ as, ReadsAll s.heap us ds as
  | _, _, _, .nil, .nil => ⟨_, .nil⟩
  | _, _, _, .cons h r, .cons q t => by
    obtain ⟨as, e1⟩ := RD.reads I h q
    obtain ⟨bs, e2⟩ := RDs.reads I r t
    exact ⟨_, .cons e1 e2⟩
end
noncomputable def rEqD (K : Frag) (neg : Bool) : R2 := fun x y H Q => ∃ d e, RD K H x d ∧ RD K H y e ∧ SeqAt.shaped d = true ∧ SeqAt.shaped e = true ∧ Q (.bl (if neg then !d.eqv e else d.eqv e)) H
theorem op_eqD (hu : X.A.units + 64 < cLine) : OpR X (compareOp .Eq) (rEqD X.K false) := by
  intro pins s σ H x y u w' Q I rx ry h
  obtain ⟨d, e, h1, h2, s1, s2, q⟩ := h
  obtain ⟨_, r1⟩ := h1.reads I rx
  obtain ⟨_, r2⟩ := h2.reads I ry
  exact eq_dataH r1 r2 s1 s2 hu ⟨.bl (d.eqv e), H, I, rfl, q⟩
theorem op_neD (hu : X.A.units + 64 < cLine) : OpR X (compareOp .NotEq) (rEqD X.K true) := by
  intro pins s σ H x y u w' Q I rx ry h
  obtain ⟨d, e, h1, h2, s1, s2, q⟩ := h
  obtain ⟨_, r1⟩ := h1.reads I rx
  obtain ⟨_, r2⟩ := h2.reads I ry
  exact ne_dataH r1 r2 s1 s2 hu ⟨.bl (!d.eqv e), H, I, rfl, q⟩
end
end L2
end
section
set_option maxHeartbeats 1000000
namespace L2
open PySem PySem.Spec PyProof.Rows PySem.W
section
variable {P : Program} {w : World} {K : Frag} {mg : Str → Option Value} {base : Heap}
theorem Fun.okX {x qual : Str} {st : Stmt} {f : Addr} {fd : FuncData} {N ps : List Str} {k : Nat} {sp : Sp} (F : Fun K x qual st f fd) (S : FnScope N ps (defScope st)) (len : ∀ vs H Q E, sp vs H Q E → vs.length = ps.length)
    (hbody : ∀ (f : Addr) (cdv : Value) (A : Around) (outer : List Env) (s : Shared) (H : Hp) (vs : List V) (Q : VK) (E : XK), Room k (A.deeper (envOfC qual (defScope st) s.heap.objs.size f cdv)) → sp vs H Q E →
      ∃ t, PSs (cxOf (CXe P w) P w K mg base N qual (defScope st) f cdv A outer s H E) (defBody st) t ∧ t { nx := fun _ H' => Q .non H', rt := Q } (start N vs) H) : FnOk P w K mg base (CXe P w) (k + 1) f fd ps sp := by
  obtain ⟨oc, od, kV, doc, pm, an, cdv, ct, osl, rfl, lk, hcd⟩ := F.ex
  exact fn_of lk hcd S len fun A outer s H vs Q E hr hsp => hbody f cdv A outer s H vs Q E hr hsp
noncomputable def Df (K : Frag) (mg : Str → Option Value) (x : Str) (st : Stmt) (ps : List Str) : Prop := ∃ f fd, Fun K x x st f fd ∧ mg x = some (.ref f) ∧ Binds K fd ps []
noncomputable def Has (P : Program) (w : World) (K : Frag) (mg : Str → Option Value) (base : Heap) (x : Str) (k : Nat) (ps : List Str) (sp : Sp) : Prop :=
  ∃ f fd, FnOk P w K mg base (CXe P w) k f fd ps sp ∧ mg x = some (.ref f) ∧ PySem.W.keepIn K (.ref f) = true ∧ Binds K fd ps []
theorem df_mk {h : Heap} {x : Str} {st : Stmt} {ps : List Str} {f : Addr} {oc : Value} {od an : Option Addr} {osl : Array (Option Value)} {kV doc pm cdv ct : Value} (X : K.In h) (G : h.Ns mainGlobals mg) (a : nsIn K mainGlobals x = some (some (.ref f)))
    (l : K.lookup f = some ⟨oc, od, .func (PySem.W.fnOf x x (defArgs st) (defBody st) (defScope st) .none kV doc pm an cdv ct), osl⟩) (c : PySem.W.codeIn K cdv x = true) (k : PySem.W.keepIn K (.ref f) = true)
    (hb : ∀ (kV doc pm : Value) (an : Option Addr) (cdv ct : Value) (us : List Value), us.length = ps.length → bindArgs (PySem.W.fnOf x x (defArgs st) (defBody st) (defScope st) .none kV doc pm an cdv ct) ⟨us, []⟩ = pure (ps.zip us)) : Df K mg x st ps := by
  have F := fun_mk (st := st) l c k
  exact ⟨f, _, F, mg_of X G a, F.binds hb⟩
end
section
variable {X : Cx} {k : Nat} {ps : List Str} {sp : Sp} {E : XK} {EX : EXT} {x : Str} {p pos : Pos} {e : Expr} {es : List Expr} {t : TA}
theorem pe_hX (F : Has X.prog X.w X.K X.mg X.base x k ps sp) (hr : Room k X.A) (hg : Gl X x) (hx : PassAt (CXe X.prog X.w) X EX) (ha : PA X (e :: es) t) (hdb : (x == ("__debug__" : Str)) = false := by decide)
    (he : starEach (e :: es) X.env = (false, eval e X.env) :: starEach es X.env := by rfl) (hpl : (backTo pos (starEach es X.env)).any (·.1) = false := by rfl) : PE X (.Call (.Name x p) (e :: es) [] pos) (tCallX sp [] EX t) := by
  obtain ⟨f, fd, F, m, kp, b⟩ := F
  exact pe_callX F hr hg m kp b .nil hx ha hdb he hpl
end
theorem Same.new {H : Hp} {p : Addr} {o : HO} (h : H p = none) : Same H (upd H p o) := fun b u e => by rw [upd_ne (ne_of_none e h)]; exact e
theorem Same.put {H H1 : Hp} {p : Addr} {o : HO} (s : Same H H1) (h : H p = none) : Same H (upd H1 p o) := fun b u e => by rw [upd_ne (ne_of_none e h)]; exact s b u e
theorem Same.tup {K : Frag} {H H' : Hp} {a : Addr} {xs : List V} (e : Same H H') (h : SqT K H a xs) : SqT K H' a xs := by
  rcases h with (h | ⟨o, h⟩) | h
  · exact .inl (.inl (e _ _ h))
  · exact .inl (.inr ⟨o, e _ _ h⟩)
  · exact .inr h
mutual
theorem Same.rd {K : Frag} {H H' : Hp} (e : Same H H') : ∀ {x : V} {d : PyData}, RD K H x d → RD K H' x d
  | _, _, .non => .non
  | _, _, .bl b => .bl b
  | _, _, .int i => .int i
  | _, _, .str x => .str x
  | _, _, .lst h r => .lst (e.seq h) (Same.rds e r)
  | _, _, .tup h r => .tup (e.tup h) (Same.rds e r)
theorem Same.rds {K : Frag} {H H' : Hp} (e : Same H H') : ∀ {xs : List V} {ds : List PyData}, RDs K H xs ds → RDs K H' xs ds
  | _, _, .nil => .nil
  | _, _, .cons h r => .cons (Same.rd e h) (Same.rds e r)
end
section
variable {X : Cx} {es : List Expr} {te : TE} {t : TA} {pos : Pos}
end
section
variable {env : Env} {t : Option Expr} {n : Nat} {pos : Pos}
end
end L2
end
section
set_option maxHeartbeats 1000000
namespace L2
open PySem PySem.Spec PyProof.Rows PySem.W
end L2
end
section
namespace L2
open PySem PySem.Spec PyProof.Rows PySem.W
section
variable {X : Cx} {pins : List (Addr × Obj)} {σ : St} {H : Hp} {s : Shared} {h' : Heap}
theorem Inv.turnLaid {t' : Nat} {ch : List Addr} {a : Addr} {o : HO} (I : Inv X pins σ H s) (k : ∀ b u, b ∉ ch → s.heap.get? b = some u → h'.get? b = some u) (hf : ∀ c ∈ ch, FpOk X pins H c) (ha : s.heap.objs.size ≤ a) (new : ObjOk X.prog X.w (upd H a o) h' a o) :
    Inv X pins σ (upd H a o) { s with heap := h', toks := t' } := by
  have hn := I.hok.fresh ha
  have nch : ∀ b u, H b = some u → b ∉ ch := fun b u e z => by rw [(hf b z).1] at e; cases e
  have na : ∀ b u, s.heap.get? b = some u → b ≠ a := fun b u e z => absurd (Nat.lt_of_lt_of_le (Heap.lt_size e) (z ▸ ha)) (Nat.lt_irrefl _)
  refine I.step (g' := s.gens) (d' := s.drawn) (ch := ch) (fun b hb => ?_) (fun b o _ _ hc e _ => k b o hc e) (fun b o _ _ hc e _ => ⟨o.slots, k b o hc e⟩) (fun b u _ e n => by rw [upd_ne (na b u e)]; exact n)
    (fun b o hc e => ⟨o, k b o hc e⟩) (fun b xs e => by rw [upd_ne (ne_of_none e hn)]; exact e) (fun b u v e => by rw [upd_ne (ne_of_none e hn)]; exact e) (fun b ps e => ⟨#[], by rw [upd_ne (ne_of_none e hn), e]; simp⟩) (fun m hm => ?_) (fun b u e => ?_) I.bare
  · obtain ⟨f0, f1, f2, f3, f4, f5⟩ := hf b hb
    exact ⟨f3, f1, f4, f5⟩
  · obtain ⟨o, es, ep, ho, r⟩ := hm
    exact ⟨o, es, ep, k _ o (fun z => (hf _ z).2.1 rfl) ho, r⟩
  · by_cases hb : b = a
    · subst hb; rw [upd_same] at e; cases e; exact new
    · rw [upd_ne hb] at e
      refine (I.hok b u e).stay (fun c v hc q => k c v ?_ q) (fun c q => by rw [upd_ne (ne_of_none q hn)]; exact q) fun c xs q => by rw [upd_ne (ne_of_none q hn)]; exact q
      rcases hc with z | z
      · rw [z]; exact nch b u e
      · exact nch c _ z
theorem Inv.turnedL {t' : Nat} {ch : List Addr} (I : Inv X pins σ H s) (k : ∀ b u, b ∉ ch → s.heap.get? b = some u → h'.get? b = some u) (hf : ∀ c ∈ ch, FpOk X pins H c) : Inv X pins σ H { s with heap := h', toks := t' } := by
  have nch : ∀ b u, H b = some u → b ∉ ch := fun b u e z => by rw [(hf b z).1] at e; cases e
  refine I.step (g' := s.gens) (d' := s.drawn) (ch := ch) (fun b hb => ?_) (fun b o _ _ hc e _ => k b o hc e) (fun b o _ _ hc e _ => ⟨o.slots, k b o hc e⟩) (fun b u _ e n => n)
    (fun b o hc e => ⟨o, k b o hc e⟩) (fun b xs e => e) (fun b u v e => e) (fun b ps e => ⟨#[], by rw [e]; simp⟩) (fun m hm => ?_) (fun b u e => ?_) I.bare
  · obtain ⟨f0, f1, f2, f3, f4, f5⟩ := hf b hb
    exact ⟨f3, f1, f4, f5⟩
  · obtain ⟨o, es, ep, ho, r⟩ := hm
    exact ⟨o, es, ep, k _ o (fun z => (hf _ z).2.1 rfl) ho, r⟩
  · refine (I.hok b u e).stay (fun c v hc q => k c v ?_ q) (fun c q => q) fun c xs q => q
    rcases hc with z | z
    · rw [z]; exact nch b u e
    · exact nch c _ z
end
noncomputable def Ite (K : PySem.W.Frag) (a : Addr) : It :=
  ⟨fun i H => ∃ xs x, SqL K H a xs ∧ xs[i]? = some x, fun i H v H' => ∃ t, H t = none ∧ v = .ref t ∧ ∀ xs x, SqL K H a xs → xs[i]? = some x → H' = upd H t (.tup [.int i, x]), fun i H => ∃ xs, SqL K H a xs ∧ xs.length ≤ i⟩
theorem turn_enum {P : Program} {w : World} {K : PySem.W.Frag} {elts : List Expr} {k1 : Nat} {pos : Pos} (a it e : Addr) (hne : e ≠ it) : Turn P w K (.Tuple elts k1 pos) (Ite K a) [e, it] e (fun i h => (∃ old, IsEnum h e it (i : Nat) old) ∧ h.IsListIter it a i) where
  mem := by simp
  obj := fun i h st b hb => by
    obtain ⟨⟨old, st⟩, o, ho, c, d⟩ := st
    rcases List.mem_cons.mp hb with rfl | hb
    · exact ⟨_, st, fun v z => by
        have z' : Data.fields _ = Data.cell v := z
        cases z'⟩
    · cases List.mem_singleton.mp hb
      exact ⟨o, ho, fun v z => by rw [d] at z; cases z⟩
  keep := fun i h h' st k => by
    obtain ⟨⟨old, st⟩, st2⟩ := st
    exact ⟨⟨old, k e (by simp) _ st⟩, st2.at fun o q => k it (by simp) o q⟩
  item := by
    intro X hP hw hK hc i pins s σ H E I hf st hg
    subst hP hw hK
    obtain ⟨xs, x, hq, hx⟩ := hg
    obtain ⟨its, rv, p, hz⟩ := I.list hq
    obtain ⟨u, hu, ru⟩ := rv.get hx
    obtain ⟨⟨old, st1⟩, st2⟩ := st
    have fe := hf e (by simp)
    have fi := hf it (by simp)
    refine wpAny_pyNext_enum_item st1 st2 p.isList (x := u) (by simpa using hu) hne fun h' ho hit' hT hsz hk => ?_
    refine ⟨_, rfl, wpAny_letOwnedTupleGo_enum ho fun h2 he2 hs2 => ?_⟩
    have lte : e < s.heap.objs.size := Heap.lt_size st1
    have lti : it < s.heap.objs.size := by obtain ⟨o, q, _⟩ := st2; exact Heap.lt_size q
    have hT2 : h2.get? s.heap.objs.size = some { cls := .type "tuple", data := .seq #[.int i s.toks, u] } := (hs2.2 _ (Nat.ne_of_gt lte)).trans hT
    have I1 : Inv X pins σ (upd H s.heap.objs.size (.tup [.int i, x])) { s with heap := h2, toks := s.toks + 1 } := I.turnLaid (ch := [e, it]) (fun b o hb q => by
        have n1 : b ≠ e := fun z => hb (by simp [z])
        have n2 : b ≠ it := fun z => hb (by simp [z])
        exact (hs2.2 b n1).trans (hk b o n1 n2 q)) hf (Nat.le_refl _)
      ⟨by simp [sizeLine], [.int i s.toks, u], .cons ⟨s.toks, rfl⟩ (.cons ru .nil), ⟨_, hT2, rfl, _, rfl⟩⟩
    refine ⟨.ref s.heap.objs.size, _, I1, rfl, ⟨_, I.hok.fresh (Nat.le_refl _), rfl, fun ys y hy hyx => ?_⟩, ⟨⟨u, ?_⟩, hit'.at fun o q => (hs2.2 it (Ne.symm hne)).trans q⟩, fun b hb => ?_⟩
    · have := I.list_inj hy hq
      subst this
      rw [hx] at hyx
      cases hyx
      rfl
    · have : ((i + 1 : Nat) : Int) = (i : Int) + 1 := by omega
      rw [this]; exact he2
    · rw [upd_ne (fun z => by
        subst z
        rcases List.mem_cons.mp hb with q | q
        · exact absurd lte (by rw [← q]; exact Nat.lt_irrefl _)
        · exact absurd lti (by rw [← List.mem_singleton.mp q]; exact Nat.lt_irrefl _))]
      exact (hf b hb).1
  done := by
    intro X hP hw hK hc i pins s σ H E I hf st hg
    subst hP hw hK
    obtain ⟨xs, hq, hx⟩ := hg
    obtain ⟨its, rv, p, hz⟩ := I.list hq
    obtain ⟨⟨old, st1⟩, st2⟩ := st
    have hl := rv.length
    refine wpAny_pyNext_enum_end (I.ok.hd hc) st1 st2 p.isList (by simp; omega) fun h' eb => ⟨rfl, I.turnedL (t' := s.toks) (ch := [e, it]) (fun b o hb q => eb b o (fun z => hb (by simp [z])) q) hf⟩
  self := fun _ _ _ _ _ st h => let ⟨⟨_, st⟩, _⟩ := st; wpAny_pyIter_enum st h
end L2
end
section
namespace L2
open PySem PySem.Spec PyProof.Rows PySem.W
section
variable {X : Cx}
theorem Vals.tk {xs : List V} {us : List Value} (h : Vals xs us) : ∀ n, Vals (xs.take n) (us.take n) ∧ Vals (xs.drop n) (us.drop n) := by
  induction h with
  | nil => intro n; cases n <;> exact ⟨.nil, .nil⟩
  | cons h1 h2 ih =>
    intro n
    cases n with
    | zero => exact ⟨.nil, .cons h1 h2⟩
    | succ n => exact ⟨.cons h1 (ih n).1, (ih n).2⟩
end
end L2
end
section
namespace L2
open PySem PySem.Spec PyProof.Rows PySem.W
end L2
end
section
namespace L2
open PySem PySem.Spec PyProof.Rows PySem.W
section
variable {X : Cx} {tg : Expr}
end
end L2
end
section
namespace L2
open PySem PySem.Spec PyProof.Rows PySem.W
section
variable {prog : Program} {w : World} {A : Around} {E : Value → Shared → Prop} {s : Shared}
end
end L2
end
section
namespace L2
open PySem PySem.Spec PyProof.Rows PySem.W
section
variable {prog : Program} {w : World} {A : Around} {E : Value → Shared → Prop} {s : Shared}
end
end L2
namespace L2
open PySem PySem.Spec PyProof.Rows PySem.W
section
variable {X : Cx} {tg : Expr}
end
end L2
end
section
namespace L2
open PySem PySem.Spec PyProof.Rows PySem.W
section
variable {X : Cx}
end
end L2
end
section
namespace L2
open PySem PySem.Spec PyProof PyProof.Rows PySem.W
section
variable {X : Cx} {e est : Expr} {te : TE} {tk : TO} {pos p2 : Pos}
end
end L2
end
section
namespace L2
open PySem PySem.Spec PyProof.Rows PySem.W
end L2
end
section
namespace L2
open PySem PySem.Spec PyProof PyProof.Rows PySem.W
section
variable {prog : Program} {w : World} {A : Around} {E : Value → Shared → Prop}
theorem draw_l {it l : Addr} {items : Array Value} (hne : l ≠ it) : ∀ (n i : Nat) (s : Shared) (Q : List Value → Shared → Prop), s.heap.IsListIter it l i → s.heap.IsList l items → i + n ≤ items.size → (∀ h', h'.IsListIter it l (i + n) → Heap.SameBut it s.heap h' → Q ((items.toList.drop i).take n) { s with heap := h' }) → wpAny (model prog w) A (draw (.ref it) n) Q E s
  | 0, i, s, Q, hit, _, _, hQ => wpAny_pure (by simpa using hQ s.heap hit (Heap.SameBut.refl ..))
  | n + 1, i, s, Q, hit, hl, hle, hQ => by
    have hz : i < items.size := by omega
    show wpAny _ _ (pyNext (.ref it) >>= _) Q E s; refine wpAny_bind (wpAny_pyNext_list_item hit hl (x := items[i]) (by simp [hz]) fun h1 hit1 hs1 => ?_)
    have hl1 : h1.IsList l items := by
      obtain ⟨o, e, c⟩ := hl
      exact ⟨o, (hs1.2 l hne).trans e, c⟩
    refine wpAny_bind (wpAny_holding (draw_l hne n (i + 1) _ _ hit1 hl1 (by omega) fun h2 hit2 hs2 => wpAny_pure ?_))
    have hd : items.toList.drop i = items[i] :: items.toList.drop (i + 1) := by simp [List.drop_eq_getElem_cons, hz]
    have := hQ h2 (by rw [show i + (n + 1) = i + 1 + n by omega]; exact hit2) ⟨hs2.1.trans hs1.1, fun b hb => (hs2.2 b hb).trans (hs1.2 b hb)⟩
    rw [hd, List.take_succ_cons] at this; exact this
theorem items_l {s : Shared} {l : Addr} {items : Array Value} {Q : List Value → Shared → Prop} (hh : A.handled = none) (hl : s.heap.IsList l items) (hQ : ∀ h', Heap.ExtBut s.heap.objs.size s.heap h' → Q items.toList { s with heap := h' }) : wpAny (model prog w) A (unpackItems (.ref l) items.size none) Q E s := by
  have hlt : l ≠ s.heap.objs.size := by obtain ⟨o, ho, _⟩ := hl; exact Nat.ne_of_lt (Heap.lt_size ho)
  unfold unpackItems notIterableAtAll
  refine wpAny_bind (wpAny_bind (wpAny_specialOf hl.typeIs slot_list_iter.lookup (wpAny_pure ?_)))
  simp only [Bool.false_eq_true, if_false]; refine wpAny_bind (wpAny_holding (wpAny_pyIter_list hl ?_))
  have hl0 : (s.heap.push { cls := .type "list_iterator", data := .fields #[.ref l, .int 0 0] }).IsList l items := by
    obtain ⟨o, e, c⟩ := hl
    exact ⟨o, Heap.get?_push_of_some _ e, c⟩
  refine wpAny_bind (wpAny_holding (draw_l hlt items.size 0 _ _ ⟨_, Heap.get?_push_size _ rfl, rfl, rfl⟩ hl0 (by omega) fun h1 hit1 hs1 => ?_))
  have hall : List.take items.size (List.drop 0 items.toList) = items.toList := by
    rw [List.drop_zero]; exact List.take_of_length_le (by simp)
  rw [hall, if_neg (by simp)]
  have hl1 : h1.IsList l items := by
    obtain ⟨o, e, c⟩ := hl0
    exact ⟨o, (hs1.2 l hlt).trans e, c⟩
  refine wpAny_bind (wpAny_holding (wpAny_pyNext_list_end hh hit1 hl1 (by simp) fun h2 he2 => ?_))
  simp only [Option.isSome_none, Bool.false_eq_true, if_false]
  exact wpAny_pure (hQ h2 fun b o hb e => he2 b o hb ((hs1.2 b hb).trans (Heap.get?_push_of_some _ e)))
end
section
variable {X : Cx} {pos : Pos}
noncomputable def gLst (K : PySem.W.Frag) (n : Nat) (t : TGs) : TG := fun v σ H Q => ∃ a xs, v = .ref a ∧ SqL K H a xs ∧ xs.length = n ∧ t xs σ H Q
theorem pg_lst {es : List Expr} {k : Nat} {t : TGs} {n : Nat} (hc : X.calm = true) (h : PGs X es t) (hn : (assignEach es X.env).length = n) (hst : (assignEach es X.env).findIdx? (·.1) = none) : PG X (.Tuple es k pos) (gLst X.K n t) := by
  intro pins s σ H v u Q I r hw
  obtain ⟨a, xs, rfl, hq, hl, hw⟩ := hw
  cases r
  obtain ⟨its, rv, pl, hz⟩ := I.list hq
  rw [assign_Tuple]
  refine wpAny_bind (wpAny_standAt ?_)
  unfold unpack
  rw [hst, hn, ← hl, rv.length, show its.length = its.toArray.size by simp]
  refine wpAny_bind (wpAny_holding (items_l (I.ok.hd hc) pl.isList fun h' hx => ?_))
  have I1 : Inv X pins σ H { s with heap := h' } := I.kept (t' := s.toks) fun b o e => hx b o (Nat.ne_of_lt (Heap.lt_size e)) e
  exact h pins _ σ H xs _ Q I1 (by simpa using rv) hw
end
end L2
end
section
namespace L2
open PySem PySem.Spec PyProof PyProof.Rows PySem.W
section
variable {prog : Program} {w : World} {A : Around} {R : Result → Shared → Prop} {I : Addr} {fp wr : List Addr} {n : Nat} {P : Nat → Value → Prop} {St : Nat → Heap → Prop}
end
section
variable {prog : Program} {w : World} {A : Around} {E : Value → Shared → Prop} {s : Shared}
end
end L2
end
section
namespace L2
open PySem PySem.Spec PyProof.Rows PySem.W
section
variable {X : Cx} {tg : Expr}
end
end L2
end
section
namespace L2
open PySem PySem.Spec PyProof.Rows PySem.W
section
variable {prog : Program} {w : World} {A : Around} {E : Value → Shared → Prop} {s : Shared}
end
section
variable {X : Cx}
end
end L2
end
section
namespace L2
open PySem PySem.Spec PyProof PyProof.Rows PySem.W PySem.Builtin PySem.Builtin.Str
section
variable {X : Cx}
end
end L2
end
section
namespace L2
open PySem PySem.Spec PyProof PyProof.Rows PySem.W PySem.Builtin PySem.Builtin.Str
section
variable {X : Cx} {tg : Expr}
end
end L2
end
section
namespace L2
open PySem PySem.Spec PyProof PyProof.Rows PySem.W
section
variable {prog : Program} {w : World} {A : Around} {E : Value → Shared → Prop} {s : Shared} {n : Nat}
end
section
variable {X : Cx} {pos p2 : Pos}
end
end L2
end
section
namespace L2
open PySem PySem.Spec PyProof.Rows PySem.W
section
variable {prog : Program} {w : World} {A : Around} {E : Value → Shared → Prop} {s : Shared}
end
end L2
end
section
namespace L2
open PySem PySem.Spec PyProof.Rows PySem.W
open AutoSeq1 (wpAny_loadPart')
theorem FpOk.upd {X : Cx} {pins : List (Addr × Obj)} {H : Hp} {c t : Addr} {o : HO} (h : FpOk X pins H c) (n : c ≠ t) : FpOk X pins (upd H t o) c := by
  obtain ⟨f0, f1, f2, f3, f4, f5⟩ := h
  exact ⟨by rw [upd_ne n]; exact f0, f1, f2, f3, f4, f5⟩
end L2
end
section
set_option maxHeartbeats 1000000
namespace L2
open PySem PySem.Spec PyProof.Rows PySem.W
section
variable {P : Program} {w : World} {K : Frag} {mg : Str → Option Value} {base : Heap} {N : List Str} {qual : Str} {scope : Scope} {f : Addr} {cd : Value} {A : Around} {outer : List Env} {s₀ : Shared} {H₀ : Hp} {E E' : XK}
end
theorem frames_base {h base base' : Heap} (k : ∀ b, base.get? b = none → base'.get? b = none) : ∀ {l : List Env}, h.FunFrames base l → h.FunFrames base' l
  | [], _ => trivial
  | env :: rest, hl => by
    obtain ⟨hk, ⟨L, o, hf, hn, ho, hd⟩, hr⟩ := hl
    exact ⟨hk, ⟨L, o, hf, k L hn, ho, hd⟩, frames_base k hr⟩
end L2
end
section
namespace L2
open PySem PySem.Spec PyProof.Rows
noncomputable def PEk (X : Cx) (e : Expr) (t : TE) : Prop :=
  ∀ (pins : List (Addr × Obj)) (s : Shared) (σ : St) (H : Hp) (Q : VK), Inv X pins σ H s → 0 < s.toks → t σ H Q → wpAny (model X.prog X.w) X.A (eval e X.env) (EP X pins σ Q) X.xe s
section
variable {X : Cx} {a b e o : Expr} {es : List Expr} {ta tb te to : TE} {t : TA} {pos : Pos}
theorem PE.k (h : PE X e te) : PEk X e te := fun pins s σ H Q I _ q => h pins s σ H Q I q
end
end L2
end
section
namespace L2
open PySem PySem.Spec PyProof.Rows PySem.W PySem.SeqAt
theorem rc_nod {P : Program} {w : World} {A : Around} {s : Shared} {a b : Addr} (na : (a == sysModules) = false) (nb : (b == sysModules) = false) (da : s.heap.DictOf (mixKind P w) a []) (db : s.heap.DictOf (mixKind P w) b []) (hu : A.units < cLine) : RcAt A s (.ref a) (.ref b) true := by
  intro prog w' E Q h
  have any : ∀ {c : Addr}, s.heap.DictOf (mixKind P w) c [] → s.heap.DictOf (mixKind prog w') c [] := by
    rintro c ⟨o, es, ep, h1, h2, h3, _, h5, h6⟩
    cases es with
    | mk l =>
      have : l = [] := by cases h5; rfl
      subst this
      exact ⟨o, _, ep, h1, h2, h3, fun e he => by cases he; contradiction, .nil, h6⟩
  exact keq_eq na nb (any da) (any db) hu (fun _ => KeqHits.nil) h
end L2
end
section
set_option maxHeartbeats 1000000
namespace L2
open PySem PySem.Spec PyProof.Rows PySem.W
open Builtin Builtin.ObjectAttr
noncomputable def xcB (C C0 : Addr) (cd : ClassData) (sl : Array (Option Value)) : Bool := match cd.mro, sl.toList with
  | .ref C' :: .ref D :: bm, [_, _, _, _, some (.builtin n), _] => C' == C && D == C0 && bm == bmVE && n == "ValueError.__new__" && !cd.hasDel && cd.hasDict
  | _, _ => false
noncomputable def XcIn (K : Frag) (C : Addr) : Prop := ∃ C0 dd cd sl, K.lookup C = some ⟨.type "type", dd, .cls cd, sl⟩ ∧ xcB C C0 cd sl = true ∧ excIn K C0 bmVE "ValueError.__new__" = true
theorem tail_exc {K : Frag} {h : Heap} {C : Addr} {bmB : List Value} {newId : String} (X : K.In h) (q : excIn K C bmB newId = true) : OwnTail h bmB (.ref C :: bmB) := by
  unfold excIn at q
  split at q
  · rename_i dd cd sl ho
    split at q
    · rename_i C' bm k0 k1 k2 k3 n k5 hm hs
      simp only [Bool.and_eq_true, beq_iff_eq, Bool.not_eq_true'] at q
      obtain ⟨⟨⟨⟨⟨rfl, rfl⟩, hdel⟩, ht⟩, hok⟩, hni⟩ := q
      exact .own (X _ _ ho) (.of_isNs (isNs_of_in X hok)) (nsMap_none_of_in X hok hni) .base
    · cases q
  · cases q
theorem xc_of_in {K : Frag} {h : Heap} {C : Addr} (X : K.In h) (q : XcIn K C) :
    ∃ bm N nm qn bs sn sub ab col dd k0 k1 k2 k3 k5, h.get? C = some (excClassObj nm qn C N bs bm true sn sub ab col dd k0 k1 k2 k3 k5 "ValueError.__new__") ∧ OwnTail h bmVE bm := by
  obtain ⟨C0, dd, cd, sl, ho, q, he⟩ := q
  unfold xcB at q
  split at q
  · rename_i C' D bm k0 k1 k2 k3 n k5 hm hs
    simp only [Bool.and_eq_true, beq_iff_eq, Bool.not_eq_true'] at q
    obtain ⟨⟨⟨⟨⟨rfl, rfl⟩, rfl⟩, rfl⟩, hdel⟩, hdct⟩ := q
    obtain ⟨nm, bs, mro, ns, qn, hd, sn, sub, ab, col, del⟩ := cd
    dsimp only at hm hdel hdct
    subst hm hdel hdct
    have hsl : sl = #[k0, k1, k2, k3, some (.builtin "ValueError.__new__"), k5] := by
      obtain ⟨l⟩ := sl
      simp only at hs
      rw [hs]
    subst hsl
    exact ⟨_, ns, nm, qn, bs, sn, sub, ab, col, dd, k0, k1, k2, k3, k5, X _ _ ho, tail_exc X he⟩
  · cases q
noncomputable abbrev xTup (us : List Value) : Obj := { cls := .type "tuple", data := .seq us.toArray }
noncomputable abbrev xObj (C t : Addr) : Obj := { cls := .ref C, data := .fields #[.ref t, .none, .none, .none, .bool false, .none] }
section
variable {prog : Program} {w : World} {A : Around} {E : Value → Shared → Prop} {h : Heap} {g : Array GenState} {d : Drawn} {t : Nat} {os : OsState}
variable {nm q : Str} {C N : Addr} {bs bm bmB : List Value} {hdct : Bool} {sn : List Str} {sub : List Value} {ab : Bool} {col : Option Bool} {dd : Option Addr} {k0 k1 k2 k3 k5 : Option Value} {B newId initId : String}
theorem xi_core (F : ExcBaseFacts B newId initId bmB) (T : OwnTail h bmB bm) {rest : List Value} {init : Value} {R : Result → Shared → Prop}
    (hC : h.get? C = some (excClassObj nm q C N bs bm hdct sn sub ab col dd k0 k1 k2 k3 k5 newId)) (hi : Looks (model prog w) h (typeLookup (.ref C) "__init__") (some init))
    (hb : ∀ self, Looks (model prog w) h (bindSpecial init self) (init, [self])) (hrest : rest.length ≤ sizeLine)
    (hq : codeAny (model prog w) (A.under (.builtin "type.__call__" ⟨.ref C :: rest, []⟩)) (.call init ⟨.ref (h.objs.size + 1) :: rest, []⟩) (InitBack (h.objs.size + 1) R) ⟨(h.push (xTup rest)).push (xObj C h.objs.size), g, d, t, os⟩) :
    codeAny (model prog w) A (.call (.ref C) ⟨rest, []⟩) R ⟨h, g, d, t, os⟩ := by
  have f1 := tc_lookup
  have f2 := tc_bind (.ref C)
  have hT : (⟨h, g, d, t, os⟩ : Shared).TypeIs (.ref C) "type" := ⟨_, hC, rfl⟩
  refine codeAny_of_tree ?_
  show wpAny _ _ (callAny (.ref C) _) _ _ _
  repeat (any_goals (first | assumption | with_reducible refine wpAny_loadPart_at hC ?_ | wp_step))
  refine ⟨rfl, ?_⟩
  refine codeAny_call_builtin_at (Code.quiet_builtin _ (by decide +kernel)) entry_typeCall (wpAny_check_type_call_sub hC ?_)
  repeat (first | with_reducible refine wpAny_loadPart_at hC ?_ | with_reducible refine wpAny_madeBy_exc hC ?_ | wp_step)
  refine codeAny_call_builtin_code (Code.quiet_builtin _ F.quiet) (wpAny_check_new_subT F T hC ?_)
  refine codeAny_exc_new_subT F T hC ?_ hrest
  show wpAny _ _ _ _ _ _
  have k : ∀ b o, h.get? b = some o → ((h.push (xTup rest)).push (xObj C h.objs.size)).get? b = some o := fun b o e => Heap.get?_push_of_some _ (Heap.get?_push_of_some _ e)
  have hC₁ := k _ _ hC
  have hget : ((h.push (xTup rest)).push (xObj C h.objs.size)).get? (h.objs.size + 1) = some (xObj C h.objs.size) := by heap_get
  have hcC : (Value.ref C :: bm).contains (.ref C) = true := by simp
  have i1 := hi.keeps k
  have b1 := (hb (.ref (h.objs.size + 1))).keeps k
  unfold isInstance
  repeat (first | with_reducible refine wpAny_loadPart_at hget ?_ | (with_reducible refine wpAny_isSubtype_exc hC₁ ?_; rw [hcC]) | wp_step)
  refine wpAny_isSubtype_exc (C := C) hC₁ ?_
  rw [hcC]
  have t1 : Looks (model prog w) ((h.push (xTup rest)).push (xObj C h.objs.size)) (typeOf (.ref (h.objs.size + 1))) (.ref C) := (Looks.ld hget).andThen .now
  rw [if_neg (by decide)]
  refine wpAny_bind (wpAny_holding ?_)
  unfold callSpecial? specialOf
  refine wpAny_bind (wpAny_bind (t1.at ?_))
  refine i1.at ?_
  refine wpAny_holding (wpAny_bind (b1.at ?_))
  refine wpAny_bind (wpAny_call ?_)
  refine codeAny_mono hq fun r s' z => ?_
  cases r with
  | error e => exact z
  | ok fl =>
    cases fl with
    | ret v =>
      obtain ⟨rfl, z⟩ := z
      exact wpAny_pure (wpAny_pure z)
    | _ => exact z.elim
end
section
variable {prog : Program} {w : World} {A : Around} {E : Value → Shared → Prop} {h : Heap} {g : Array GenState} {d : Drawn} {t : Nat} {os : OsState}
variable {nm q : Str} {C N x : Addr} {bs bm : List Value} {sn : List Str} {sub : List Value} {ab : Bool} {col : Option Bool} {dd : Option Addr} {k0 k1 k2 k3 k5 : Option Value} {newId : String}
  {name : Str} {v : Value}
noncomputable def Stored (h h' : Heap) (x : Addr) (o : Obj) (name : Str) (v : Value) : Prop :=
  h'.get? x = some { o with dict := some h.objs.size } ∧ h'.Ns1 h.objs.size (fun y => if y = name then some v else none) ∧ (∀ b ob, b ≠ x → h.get? b = some ob → h'.get? b = some ob)
theorem xs_entry {tk : Tok} {Q : Fin → Shared → Prop} {o : Obj} (hp : ∀ self : Value, refuseLoop self "__setattr__" bm = pure ())
    (hC : h.get? C = some (excClassObj nm q C N bs bm true sn sub ab col dd k0 k1 k2 k3 k5 newId)) (hx : h.get? x = some o) (hc : o.cls = .ref C) (hnc : ∀ c, o.data ≠ .cls c) (hdn : o.dict = none)
    (hna : Looks (model prog w) h (typeLookup (.ref C) name) none)
    (hq : ∀ h' tk', Stored h h' x o name v → Q (.done (.ret .none)) ⟨h', g, d, tk', os⟩) :
    wpAny (model prog w) A (Builtin.«object.__setattr__» ⟨[.ref x, .str name tk, v], []⟩) Q E ⟨h, g, d, t, os⟩ := by
  have hpass := hp (.ref x)
  unfold Builtin.«object.__setattr__»
  repeat (first | rw [refuse_eq] | (rw [refuseLoop_ref, hpass]) | (with_reducible refine wpAny_loadPart_at hx ?_; rw [hc]) | with_reducible refine wpAny_mroOf_exc hC ?_ | refine wpAny_bind (hna.at ?_) | wp_step)
  rw [hdn]
  dsimp only
  rw [if_neg (by simp [typeHasDict])]
  have hx₁ : (h.push { cls := .type "dict", data := .dict #[] }).get? x = some o := Heap.get?_push_of_some _ hx
  have hxs : x ≠ h.objs.size := Nat.ne_of_lt (Heap.lt_size hx)
  have hgd : ((h.push { cls := .type "dict", data := .dict #[] }).update x fun o => { cls := o.cls, dict := some h.objs.size, data := o.data, slots := o.slots }).get? h.objs.size
      = some { cls := .type "dict", data := .dict #[] } :=
    (Heap.get?_update_ne _ _ _ _ hxs.symm).trans (Heap.get?_push_at rfl rfl)
  have hnd : ((h.push { cls := .type "dict", data := .dict #[] }).update x fun o => { cls := o.cls, dict := some h.objs.size, data := o.data, slots := o.slots }).Ns h.objs.size (fun _ => none) :=
    ⟨_, #[], _, hgd, rfl, fun e he => absurd he (by simp), fun _ => rfl⟩
  have main : wpAny (model prog w) A (do
      let d ← alloc { cls := Value.type "dict", data := Data.dict #[] }
      update x fun o => { cls := o.cls, dict := some d, data := o.data, slots := o.slots }
      dictMade (Value.ref C) x d) (fun a s' =>
      wpAny (model prog w) A
        (match a with
        | some d => storeInDict d (Value.str name tk) name v
        | none => noDictFor (Value.ref x) (Value.ref C) name (none : Option Value).isSome)
        Q E s') E { heap := h, gens := g, drawn := d, toks := t, os := os } := by
    refine wpAny_bind (wpAny_alloc' ?_)
    refine wpAny_bind (wpAny_update' hx₁ ?_)
    refine wpAny_pure ?_
    show wpAny _ _ (storeInDict h.objs.size (.str name tk) name v) _ _ _
    unfold storeInDict newKeyGuard
    refine wpAny_bind (wpAny_pure (wpAny_bind (wpAny_nsSet1 (Heap.Ns1.of_empty hnd) fun h' hn' hs => ?_)))
    obtain ⟨oD, esD, epD, hoD, hdD, hcD⟩ := hn'.count (Within.cons name v Within.nil)
    refine wpAny_bind (wpAny_lookBehind hoD (by rw [hdD]; exact pastItsLine_dict (Nat.le_trans hcD (by rw [List.length_cons, List.length_nil, sizeLine_eq]; omega))) ?_)
    wp_walk
    refine hq h' _ ⟨?_, ?_, fun b ob hbx hb => ?_⟩
    · refine (hs.2 x hxs).trans (Heap.get?_update_self _ hx₁ ?_)
      have hfr := (Heap.get?_some_iff.mp hx).2
      obtain ⟨oc, od, odt, osl⟩ := o
      cases odt <;> first | rfl | exact hfr
    · obtain ⟨o', es, ep, e1, e2, e3, eu, e4⟩ := hn'
      exact ⟨o', es, ep, e1, e2, e3, eu, fun y => by rw [e4 y]⟩
    · exact (hs.2 b (Nat.ne_of_lt (Heap.lt_size hb))).trans ((Heap.get?_update_ne _ _ _ _ hbx).trans (Heap.get?_push_of_some _ hb))
  split
  · rename_i c hcd
    exact absurd hcd (hnc c)
  · exact main
theorem tail_passes {bmB : List Value} (T : OwnTail h bmB bm) {self : Value} (hp : refuseLoop self "__setattr__" bmB = pure ()) : refuseLoop self "__setattr__" bm = pure () := by
  induction T with
  | base => exact hp
  | own _ _ _ _ ih => rw [refuseLoop_ref]; exact ih
theorem xs_attr {bmB : List Value} {Q : Unit → Shared → Prop} {o : Obj} (SF : StoreFacts "ValueError" bmB "object.__setattr__" "object") (T : OwnTail h bmB bm)
    (hC : h.get? C = some (excClassObj nm q C N bs bm true sn sub ab col dd k0 k1 k2 k3 k5 newId)) (hx : h.get? x = some o) (hc : o.cls = .ref C) (hnc : ∀ c, o.data ≠ .cls c) (hdn : o.dict = none)
    (hsa : Looks (model prog w) h (typeLookup (.ref C) "__setattr__") (some (.builtin "object.__setattr__"))) (hna : Looks (model prog w) h (typeLookup (.ref C) name) none)
    (hq : ∀ h' tk', Stored h h' x o name v → Q () ⟨h', g, d, tk', os⟩) :
    wpAny (model prog w) A (setAttr (.ref x) name v) Q E ⟨h, g, d, t, os⟩ := by
  have f3 := SF.slot.bind (.ref x)
  have t1 : Looks (model prog w) h (typeOf (.ref x)) (.ref C) := hc ▸ (Looks.ld hx).andThen .now
  have ck : ∀ (A' : Around) (E' : Value → Shared → Prop) (Q' : Unit → Shared → Prop) (nameV : Value) (t' : Nat), Q' () ⟨h, g, d, t', os⟩ → wpAny (model prog w) A' (checkBuiltinCall "object.__setattr__" ⟨[.ref x, nameV, v], []⟩) Q' E' ⟨h, g, d, t', os⟩ := by
    intro A' E' Q' nameV t' hq'
    have hcB : (Value.ref C :: bm).contains (.type "object") = true := by rw [List.contains_cons, T.hasType SF.hasOwner, Bool.or_true]
    have ha := SF.args (.ref x) nameV v
    simp only [checkBuiltinCall, SF.kind, SF.split]
    refine wpAny_bind ?_
    · unfold isInstance
      repeat (first | (with_reducible refine wpAny_loadPart_at hx ?_; rw [hc]) | (with_reducible refine wpAny_isSubtype_exc hC ?_; rw [hcB]) | wp_step)
      exact hq'
  unfold setAttr callSpecial? specialOf
  repeat (first | refine wpAny_bind (t1.at ?_) | refine wpAny_bind (hsa.at ?_) | refine hsa.at ?_ | wp_step)
  refine codeAny_call_builtin SF.slot.plain SF.entry (ck _ _ _ _ _ (xs_entry (fun self => tail_passes T (SF.passes self)) hC hx hc hnc hdn hna fun h' tk' z => ?_))
  exact wpAny_pure (wpAny_pure (hq _ _ z))
end
section
variable {prog : Program} {w : World} {A : Around} {E : Value → Shared → Prop} {s : Shared} {K : Frag} {e C dx : Addr} {ox : Obj} {name : Str} {v : Value} {mA : Str → Option Value}
theorem xa_call {nm q : Str} {N : Addr} {bs bm : List Value} {sn : List Str} {sub : List Value} {ab : Bool} {col : Option Bool} {dd : Option Addr} {k0 k1 k2 k3 k5 : Option Value} {newId : String} {tk : Tok} {R : Result → Shared → Prop} (hC : s.heap.get? C = some (excClassObj nm q C N bs bm true sn sub ab col dd k0 k1 k2 k3 k5 newId)) (X : K.In s.heap) (I : XDt e C dx s.heap) (c : XCls K C) (hna : findIn K (.ref C) name = some none) (hns : s.heap.Ns dx mA) (hv : mA name = some v) (h : R (.ok (.ret v)) s) :
    codeAny (model prog w) A (.call (.builtin "BaseException.__getattribute__") ⟨[.ref e, .str name tk], []⟩) R s := by
  obtain ⟨hh, g, d, t, os⟩ := s
  have L0 := I.at.type (M := model prog w)
  have LS := looks_subIn (M := model prog w) X c.sb
  have LI : Looks (model prog w) hh (isInstance (.ref e) (.type "BaseException")) true := L0.andThen LS
  have LC := looks_findIn (M := model prog w) X hna
  obtain ⟨oe, he, hec, hed, hnc⟩ := I
  refine codeAny_call_builtin (by decide +kernel) F.entry_bexc_ga ?_
  have hk : builtinKind "BaseException.__getattribute__" = some .slot := by decide +kernel
  have hsplit : splitId "BaseException.__getattribute__" = some ("BaseException", "__getattribute__") := by decide +kernel
  have ha := F.args_bexc_ga (.ref e) (.str name tk)
  simp only [checkBuiltinCall, hk, hsplit]
  refine wpAny_bind (LI.at ?_)
  unfold argsOk at ha
  simp only [Bool.not_true, Bool.false_eq_true, if_false]
  refine wpAny_of_eq ha ?_
  unfold Builtin.«object.__getattribute__»
  repeat (any_goals (first | assumption | refine L0.at ?_ | refine wpAny_bind (L0.at ?_) | refine LC.at ?_ | refine wpAny_bind (LC.at ?_) | wp_step))
  split
  · rename_i c' hcd
    exact absurd hcd (hnc c')
  unfold instanceDict
  repeat (first | (with_reducible refine wpAny_loadPart_at he ?_; rw [hec]) | wp_step)
  repeat (first | with_reducible refine wpAny_loadPart_at hC ?_ | wp_step)
  rw [hed]
  repeat (first | (with_reducible refine wpAny_nsGet hns ?_; rw [hv]) | wp_step)
  exact h
theorem xa_attr {nm q : Str} {N : Addr} {bs bm : List Value} {sn : List Str} {sub : List Value} {ab : Bool} {col : Option Bool} {dd : Option Addr} {k0 k1 k2 k3 k5 : Option Value} {newId : String} {expr : Bool} {Q : Value → Shared → Prop} (hC : s.heap.get? C = some (excClassObj nm q C N bs bm true sn sub ab col dd k0 k1 k2 k3 k5 newId)) (X : K.In s.heap) (I : XDt e C dx s.heap) (c : XCls K C) (hna : findIn K (.ref C) name = some none) (hns : s.heap.Ns dx mA) (hv : mA name = some v) (hh : handedOut v = pure v) (h : Q v { s with toks := s.toks + 1 }) :
    wpAny (model prog w) A (getAttr (.ref e) name expr) Q E s := by
  obtain ⟨hh', g, d, t, os⟩ := s
  have L0 := I.at.type (M := model prog w)
  have LG := looks_findIn (M := model prog w) X c.ga
  have LN := looks_findIn (M := model prog w) X c.gn
  have fb1 := F.excAttr_ValueError.ga.bind (.ref e)
  unfold getAttr getAttrBy
  repeat (first | refine wpAny_bind (L0.at ?_) | refine wpAny_bind (LG.at ?_) | refine wpAny_bind (LN.at ?_) | refine LN.at ?_ | wp_step)
  have hx0 : (expr && onTheHeap (Value.builtin "BaseException.__getattribute__")) = false := by cases expr <;> rfl
  rw [hx0]
  repeat wp_step
  refine xa_call (s := ⟨hh', g, d, t + 1, os⟩) hC X I c hna hns hv ?_
  show wpAny _ _ _ _ _ _
  show wpAny _ _ (handedOut v) _ _ _
  rw [hh]
  exact wpAny_pure h
end
theorem HOk.laidN {P : Program} {w : World} {H : Hp} {h h' : Heap} {a : Addr} {o : HO} (x : HOk P w H h) (k : ∀ b u, h.get? b = some u → h'.get? b = some u) (hn : H a = none) (new : ObjOk P w (upd H a o) h' a o) : HOk P w (upd H a o) h' := fun b u e => by
  by_cases hb : b = a
  · subst hb; rw [upd_same] at e; cases e; exact new
  · rw [upd_ne hb] at e
    exact (x b u e).stay (fun c v _ q => k c v q) (fun c q => by rw [upd_ne (ne_of_none q hn)]; exact q) fun c xs q => by rw [upd_ne (ne_of_none q hn)]; exact q
theorem Inv.laidN {X : Cx} {pins : List (Addr × Obj)} {σ : St} {H : Hp} {s : Shared} {h' : Heap} {a : Addr} {o : HO} {t' : Nat} (I : Inv X pins σ H s) (k : ∀ b u, s.heap.get? b = some u → h'.get? b = some u) (hp : s.heap.get? a = none) (hn : H a = none) (new : ObjOk X.prog X.w (upd H a o) h' a o) :
    Inv X pins σ (upd H a o) { s with heap := h', toks := t' } := I.un ⟨fun b u q _ _ _ => k b u q, fun b u q _ _ _ => ⟨u.slots, k b u q⟩, fun b u q n _ => by rw [upd_ne (fun z => by subst z; rw [hp] at q; cases q)]; exact n, fun b u q _ => ⟨u, k b u q⟩, fun b xs q => by rw [upd_ne (ne_of_none q hn)]; exact q, fun b u xs q => by rw [upd_ne (ne_of_none q hn)]; exact q, fun b ps q => ⟨#[], by rw [upd_ne (ne_of_none q hn), Array.append_empty]; exact q⟩⟩ (I.hok.laidN k hn new)
noncomputable def xB (a C t : Addr) : HO := .ext fun h => h.get? a = some (xObj C t)
noncomputable def xE (a C t dx : Addr) : HO := .ext fun h => h.get? a = some { xObj C t with dict := some dx }
structure XOwn (K : Frag) (C : Addr) (f : Str) : Prop where
  cls : XcIn K C
  sa : findIn K (.ref C) "__setattr__" = some (some (.builtin "object.__setattr__"))
  na : findIn K (.ref C) f = some none
section
variable {X : Cx} {C : Addr} {x : Str} {e o value : Expr} {es : List Expr} {t : TA} {ta tv : TE} {np cpos pos pos' : Pos} {f : Str}
theorem pe_atx (he : PE X e ta) (c : XCls X.K C) (O : XOwn X.K C f) (hb : attributeBase e f X.env (eval e X.env) = eval e X.env) :
    PE X (.Attribute e f pos) (fun σ H Q => ta σ H fun x H1 => ∃ a dx ob i, x = .ref a ∧ H1 a = some (xA a C dx) ∧ H1 dx = some (.frz ob (.xd [(f, .int i)])) ∧ Q (.int i) H1) := by
  intro pins s σ H Q I h
  refine attr_of hb (thn (he pins s σ H _ I h) fun u s1 ⟨x, H1, I1, rx, a, dx, ob, i, ex, ea, ed, q⟩ => ?_)
  subst ex
  obtain rfl : u = Value.ref a := rx
  obtain ⟨bm, N', nm, q', bs, sn, sub, ab, col, dd, k0, k1, k2, k3, k5, hCo, T⟩ := xc_of_in I1.kIn O.cls
  obtain ⟨_, mA, hns, hr⟩ := I1.hok dx _ ed
  obtain ⟨w', hw, rw'⟩ := RelO.some_of (v := .int i) (o := mA f) (by have := hr f; rw [List.lookup_cons, beq_self_eq_true] at this; exact this)
  obtain ⟨tk, rfl⟩ := (show ∃ tk, w' = Value.int i tk from rw')
  have hh : handedOut (Value.int i tk) = pure (Value.int i tk) := rfl
  exact xa_attr hCo I1.kIn (show XDt a C dx s1.heap from (I1.hok a _ ea).1) c O.na hns.ns hw hh ⟨.int i, H1, I1.tok _, rw', q⟩
theorem ps_xfld (ha : PE X o ta) (hv : PE X value tv) (O : XOwn X.K C f) (hs : swapsWith value (some (.Attribute o f pos')) pos.line X.env = pure false) : PS X (.Assign [.Attribute o f pos'] value pos) (fun D σ H => tv σ H fun y H1 => ta σ H1 fun x H2 => ∃ a t, x = .ref a ∧ H2 a = some (xB a C t) ∧ ∀ dx ob H3, H2 dx = none → dx ≠ a → H3 a = some (xE a C t dx) → H3 dx = some (.frz ob (.xd [(f, y)])) → (∀ b, b ≠ a → b ≠ dx → H3 b = H2 b) → D.nx σ H3) := by
  intro pins s σ H D I h
  refine plainObj_wpAny_Assign_Attribute (thn (hv pins s σ H _ I h) fun u s1 ⟨y, H1, I1, ry, q⟩ => thn (ha pins s1 σ H1 _ I1 q) fun ov s2 ⟨x, H2, I2, rx, a, t, ex, ea, q2⟩ => ?_) hs
  subst ex
  obtain rfl : ov = Value.ref a := rx
  obtain ⟨bm, N', nm, q', bs, sn, sub, ab, col, dd, k0, k1, k2, k3, k5, hCo, T⟩ := xc_of_in I2.kIn O.cls
  obtain ⟨hh, g, d, tk, os⟩ := s2
  have hx : hh.get? a = some (xObj C t) := (I2.hok a _ ea).1
  refine xs_attr (Q := fun _ s' => _) PySem.F.store_ValueError T hCo hx rfl (fun c z => by cases z) rfl (looks_findIn I2.kIn O.sa) (looks_findIn I2.kIn O.na) fun h' tk' S => ?_
  obtain ⟨S1, S2, S3⟩ := S
  obtain ⟨oD, es', ep', hoD, rD⟩ := id S2
  have hfr := (Heap.get?_some_iff.mp hoD).2
  have hsz : a ≠ hh.objs.size := Nat.ne_of_lt (Heap.lt_size hx)
  have hp : (hh.push oD).get? hh.objs.size = some oD := Heap.get?_push_size _ hfr
  have I3 := I2.laid (a := hh.objs.size) (o := .frz oD (.xd [(f, y)])) (h' := hh.push oD) (t' := tk) (fun b u q => Heap.get?_push_of_some _ q) (Nat.le_refl _) ⟨hp, _, S2.at fun o q => by rw [hoD] at q; cases q; exact hp, fun g' => by
    rw [List.lookup_cons]
    by_cases z : g' = f
    · subst z; rw [beq_self_eq_true, if_pos rfl]; exact ry
    · rw [if_neg z, beq_eq_false_iff_ne.mpr z]; exact True.intro⟩
  have I4 := I3.write (x := a) (e := a) (o := xE a C t hh.objs.size) (h' := h') (t' := tk') (by rw [upd_ne hsz, ea]; exact True.intro) (.inl rfl) (fun b u hb q => ?_) ⟨_, S1⟩ ⟨S1, ⟨_, S1⟩, fun h1 h2 e1 k => k _ e1⟩
  · refine ⟨σ, _, I4, q2 hh.objs.size oD _ (I2.hok.fresh (Nat.le_refl _)) (Ne.symm hsz) upd_same (by rw [upd_ne (Ne.symm hsz), upd_same]) fun b n1 n2 => by rw [upd_ne n1, upd_ne n2]⟩
  · by_cases z : b = hh.objs.size
    · subst z
      have q : (hh.push oD).get? hh.objs.size = some u := q
      rw [hp] at q; cases q; exact hoD
    · rw [Heap.get?_push_ne _ _ _ z] at q
      exact S3 b u hb q
end
noncomputable def spI (C : Addr) (f : Str) : Sp := fun vs H Q _ => ∃ a t v, vs = [.ref a, v] ∧ H a = some (xB a C t) ∧ ∀ dx ob H3, H dx = none → dx ≠ a → H3 a = some (xE a C t dx) → H3 dx = some (.frz ob (.xd [(f, v)])) → (∀ b, b ≠ a → b ≠ dx → H3 b = H b) → Q .non H3
section
variable {P : Program} {w : World} {K : Frag} {mg : Str → Option Value} {base : Heap} {C : Addr} {f : Str}
theorem xinit_fn {q s0 a0 : Str} {st : Stmt} {fI : Addr} {fd : FuncData} {p1 p2 p3 p4 : Pos} (F : Fun K "__init__" q st fI fd) (S : FnScope [s0, a0] [s0, a0] (defScope st)) (hb : defBody st = [.Assign [.Attribute (.Name s0 p1) f p2] (.Name a0 p3) p4]) (O : XOwn K C f)
    (h1 : (defScope st).names.lookup s0 = some .local) (h2 : (defScope st).names.lookup a0 = some .local) (d1 : (s0 == ("__debug__" : Str)) = false) (d2 : (a0 == ("__debug__" : Str)) = false) (d3 : (s0 == ("__classdict__" : Str)) = false) (d4 : (a0 == ("__classdict__" : Str)) = false) :
    FnOk P w K mg base (CXe P w) 1 fI fd [s0, a0] (spI C f) := by
  refine Fun.okX F S (fun vs H Q E h => ?_) fun f' cdv A outer s H vs Q E hr hsp => ?_
  · obtain ⟨a, t, v, rfl, _⟩ := h; rfl
  · obtain ⟨a, t, v, rfl, ha, h⟩ := hsp
    rw [hb]
    refine ⟨_, pss_one (ps_xfld (C := C) (pe_var (i := 0) rfl (.inl h1) d1 d3) (pe_var (i := 1) rfl (.inl h2) d2 d4) O rfl), ?_⟩
    exact ⟨v, rfl, .ref a, rfl, a, t, rfl, ha, fun dx ob H3 n1 n2 n3 n4 n5 => h dx ob H3 n1 n2 n3 n4 n5⟩
end
section
variable {X : Cx} {C fI : Addr} {x f : Str} {e : Expr} {te : TE} {np cpos : Pos} {fd : FuncData} {ps : List Str} {CX : CXT}
variable {t : TA}
theorem run_mkE {pins : List (Addr × Obj)} {σ : St} {H1 : Hp} {s1 : Shared} {us : List Value} {v : V} {Q : Value → Shared → Prop} (F : FnOk X.prog X.w X.K X.mg X.base CX 1 fI fd ps (spI C f)) (hr : Room 2 X.A) (hb : Binds X.K fd ps []) (O : XOwn X.K C f)
    (hi : findIn X.K (.ref C) "__init__" = some (some (.ref fI))) (hf : typeIn X.K (.ref fI) = some (.type "function")) (hps : Passes CX X fun _ _ _ => False) (I1 : Inv X pins σ H1 s1) (r : Vals [v] us)
    (q : ∀ a t dx ob H3 s', Inv X pins σ H3 s' → s1.heap.get? a = none → H1 a = none → H1 dx = none → dx ≠ a → H3 a = some (xE a C t dx) → H3 dx = some (.frz ob (.xd [(f, v)])) → (∀ b, b ≠ a → b ≠ dx → H3 b = H1 b) → Q (.ref a) s') :
    wpAny (model X.prog X.w) X.A (call (.ref C) us) Q X.xe s1 := by
  obtain ⟨hh, g, d, tk, os⟩ := s1
  obtain ⟨bm, N', nm, q', bs, sn, sub, ab, col, dd, k0, k1, k2, k3, k5, hCo, T⟩ := xc_of_in I1.kIn O.cls
  have hlen : us.length = 1 := by rw [← r.length]; rfl
  have hget : ((hh.push (xTup us)).push (xObj C hh.objs.size)).get? (hh.objs.size + 1) = some (xObj C hh.objs.size) := by heap_get
  have fr : H1 (hh.objs.size + 1) = none := I1.hok.fresh (Nat.le_succ _)
  have I2 := I1.laid (a := hh.objs.size + 1) (o := xB (hh.objs.size + 1) C hh.objs.size) (h' := (hh.push (xTup us)).push (xObj C hh.objs.size)) (t' := tk) (fun b u q => Heap.get?_push_of_some _ (Heap.get?_push_of_some _ q)) (Nat.le_succ _) ⟨hget, ⟨_, hget⟩, fun h1 h2 e1 k => k _ e1⟩
  have r2 : Vals (V.ref (hh.objs.size + 1) :: [v]) (Value.ref (hh.objs.size + 1) :: us) := .cons rfl r
  have hsp : spI C f (V.ref (hh.objs.size + 1) :: [v]) (upd H1 (hh.objs.size + 1) (xB (hh.objs.size + 1) C hh.objs.size)) (fun v' H' => v' = .non ∧ ∃ dx ob, H1 dx = none ∧ dx ≠ hh.objs.size + 1 ∧ H' (hh.objs.size + 1) = some (xE (hh.objs.size + 1) C hh.objs.size dx) ∧ H' dx = some (.frz ob (.xd [(f, v)])) ∧ ∀ b, b ≠ hh.objs.size + 1 → b ≠ dx → H' b = H1 b) (fun _ _ _ => False) :=
    ⟨_, _, _, rfl, upd_same, fun dx ob H3 n1 n2 n3 n4 n5 => ⟨rfl, dx, ob, by rw [upd_ne n2] at n1; exact n1, n2, n3, n4, fun b m1 m2 => by rw [n5 b m1 m2, upd_ne m1]⟩⟩
  have hl : (Value.ref (hh.objs.size + 1) :: us ++ []).length = ps.length := by
    have e := r2.length
    rw [F.len _ _ _ _ hsp] at e
    rw [List.append_nil]; exact e.symm
  have hbs := hb _ (Value.ref (hh.objs.size + 1) :: us) I2.kIn hl
  rw [List.append_nil] at hbs
  refine wpAny_call (xi_core PySem.F.excBase_ValueError T hCo (looks_findIn I1.kIn hi) (fun self => bind_fn I1.kIn self hf) (by rw [hlen]; decide) (codeAny_mono (F.run _ X.stack _ _ ⟨Value.ref (hh.objs.size + 1) :: us, []⟩ (Value.ref (hh.objs.size + 1) :: us) _ _ (fun _ _ _ => False) (hr.make C us [])
    (I2.env0.make C us []) hbs r2 hsp) fun r s' hq' => ?_))
  cases r with
  | error e => exact hps pins σ _ _ e s' I2 hq'
  | ok fl =>
    cases fl with
    | ret u =>
      obtain ⟨v', H', I3, rv, ev, dx, ob, n1, n2, n3, n4, n5⟩ := I2.after hq'
      subst ev
      exact ⟨rv, q _ _ dx ob H' s' I3 (Heap.get?_none_of_le (Nat.le_succ _)) fr n1 n2 n3 n4 n5⟩
    | next => exact False.elim hq'
    | brk => exact False.elim hq'
    | cont => exact False.elim hq'
end
end L2
end
section
set_option maxHeartbeats 1000000
namespace L2
open PySem PySem.Spec PyProof.Rows PySem.W
noncomputable def without (H : Hp) (e : Addr) : Hp := fun b => if b = e then none else H b
theorem without_ne {H : Hp} {e b : Addr} (h : b ≠ e) : without H e b = H b := if_neg h
theorem without_same {H : Hp} {e : Addr} : without H e e = none := if_pos rfl
noncomputable def XWishA (X : Cx) (E : XK) : Prop := ∀ (pins : List (Addr × Obj)) (σ : St) (H : Hp) (s : Shared) (e C t dx : Addr), Inv X pins σ H s → (∀ o, X.s₀.heap.get? e = some o → e ∈ X.ex) → H e = some (xE e C t dx) → E (.ref C) (some dx) (without H e) → X.xe (.ref e) s
section
variable {P : Program} {w : World} {K : Frag} {mg : Str → Option Value} {base : Heap} {N : List Str} {qual : Str} {scope : Scope} {f : Addr} {cd : Value} {A : Around} {outer : List Env} {s₀ : Shared} {H₀ : Hp} {E E' : XK}
theorem xwishA_of (hE : ∀ c d H, E c d H → E' c d H) : XWishA (cxOf (CXe P w) P w K mg base N qual scope f cd A outer s₀ H₀ E') E := by
  intro pins σ H s e C t dx I e0 hx he
  have e0 : s₀.heap.get? e = none := by
    cases z : s₀.heap.get? e with
    | none => rfl
    | some o => exact absurd (show e ∈ ([] : List Addr) from e0 o z) (by simp)
  show wpAny _ _ (leaving _ (.ref e)) _ _ _
  have hfr : ∀ env ∈ (cxOf (CXe P w) P w K mg base N qual scope f cd A outer s₀ H₀ E').stack, ∀ b, env.frame = some b → b ∈ frs (cxOf (CXe P w) P w K mg base N qual scope f cd A outer s₀ H₀ E').stack := fun env h b hb => List.mem_filterMap.mpr ⟨env, h, hb⟩
  have hoe : s.heap.get? e = some { xObj C t with dict := some dx } := (I.hok e _ hx).1
  have hok' : HOk P w (without H e) s.heap := fun b o q => by
    have hb : b ≠ e := fun z => by rw [z, without_same] at q; cases q
    rw [without_ne hb] at q
    refine (I.hok b o q).stay (fun c u _ z => z) (fun c z => ?_) fun c xs z => ?_
    · rw [without_ne (fun y => by rw [y, hx] at z; cases z)]; exact z
    · rw [without_ne (fun y => by rw [y, hx] at z; cases z)]; exact z
  have nst : ∀ b ∈ frs (cxOf (CXe P w) P w K mg base N qual scope f cd A outer s₀ H₀ E').stack, H b = none := I.stkFree
  have hB := hok'.hide (fs := e :: frs (cxOf (CXe P w) P w K mg base N qual scope f cd A outer s₀ H₀ E').stack) fun b hb => by
    rcases List.mem_cons.mp hb with rfl | hb
    · exact without_same
    · by_cases z : b = e
      · rw [z]; exact without_same
      · rw [without_ne z]; exact nst b hb
  have hff := funFrames_hide I.stack hfr
  have hff2 : s.heap.FunFrames (hideAll s.heap (e :: frs (cxOf (CXe P w) P w K mg base N qual scope f cd A outer s₀ H₀ E').stack)) (cxOf (CXe P w) P w K mg base N qual scope f cd A outer s₀ H₀ E').stack := frames_base (fun b q => by
    cases q2 : (hideAll s.heap (e :: frs (cxOf (CXe P w) P w K mg base N qual scope f cd A outer s₀ H₀ E').stack)).get? b with
    | none => rfl
    | some u =>
      exfalso
      have h1 := of_hideAll _ q2
      by_cases z : b ∈ e :: frs (cxOf (CXe P w) P w K mg base N qual scope f cd A outer s₀ H₀ E').stack
      · rw [hideAll_none _ z] at q2; cases q2
      · rw [hideAll_get _ h1 (fun y => z (List.mem_cons_of_mem _ y))] at q; cases q) hff
  have hen : (hideAll s.heap (e :: frs (cxOf (CXe P w) P w K mg base N qual scope f cd A outer s₀ H₀ E').stack)).get? e = none := hideAll_none _ (List.mem_cons_self ..)
  refine wpAny_mono (tame_leaving.any (wpAny_leaving_firstW (Q := fun _ s2 => ∃ h2, s2 = { s with heap := h2 } ∧ Heap.LeftW (hideAll s.heap (e :: frs (cxOf (CXe P w) P w K mg base N qual scope f cd A outer s₀ H₀ E').stack)) (cxOf (CXe P w) P w K mg base N qual scope f cd A outer s₀ H₀ E').stack e (.ref C) (.ref t) s.heap h2) (a0 := .ref t) I.ok.frames hff2 rfl hoe (fun b o q => of_hideAll _ q) hen rfl rfl rfl fun h2 hL => ⟨h2, rfl, hL⟩)) (fun _ s2 q2 => ?_) fun _ _ z => z.1
  obtain ⟨⟨h2, rfl, k1, ⟨_, _, k2⟩, k3, up⟩, dk⟩ := q2
  have sub : ∀ b ∈ frs outer, b ∈ frs (cxOf (CXe P w) P w K mg base N qual scope f cd A outer s₀ H₀ E').stack := fun b hb => by
    obtain ⟨env, h1, h2⟩ := List.mem_filterMap.mp hb
    exact List.mem_filterMap.mpr ⟨env, List.mem_cons_of_mem _ h1, h2⟩
  have nloc : ∀ b o, s₀.heap.get? b = some o → b ≠ s₀.heap.objs.size := fun b o q z => by
    have := Heap.lt_size q
    exact Nat.lt_irrefl _ (z ▸ this)
  have nfr : ∀ b o, s₀.heap.get? b = some o → b ∉ frs outer → b ∉ e :: frs (cxOf (CXe P w) P w K mg base N qual scope f cd A outer s₀ H₀ E').stack := fun b o q hb z => by
    rcases List.mem_cons.mp z with rfl | z
    · rw [e0] at q; cases q
    · obtain ⟨env, h1, h2⟩ := List.mem_filterMap.mp z
      rcases List.mem_cons.mp h1 with rfl | h1
      · exact nloc b o q (Option.some.inj h2).symm
      · exact hb (List.mem_filterMap.mpr ⟨env, h1, h2⟩)
  have nx : ∀ b : Addr, b ∉ (cxOf (CXe P w) P w K mg base N qual scope f cd A outer s₀ H₀ E').ex := fun b z => absurd (show b ∈ ([] : List Addr) from z) (by simp)
  have wo : ∀ b u, H b = some u → (∀ φ, u ≠ .ext φ) → without H e b = some u := fun b u q n => by
    rw [without_ne (fun z => by rw [z, hx] at q; cases q; exact n _ rfl)]; exact q
  refine ⟨e, .ref C, .ref t, without H e, _, some dx, rfl, I.os, I.bare, ⟨k1, hen, k2, k3⟩, hB, without_same, fun b o q n hb => hideAll_get _ (I.base.keep b o q n hb (nx b)) (nfr b o q hb), fun b o q n hb => ?_, fun b o q n => ?_, fun b o q hb => ?_, fun b xs q => wo _ _ (I.base.tups b xs q) (fun φ z => by cases z), fun b o u q => wo _ _ (I.base.frzs b o u q) (fun φ z => by cases z), fun b ps q => ?_, fun dx' z => ?_, hE _ _ _ he⟩
  · obtain ⟨sl, e1⟩ := I.base.slot b o q n hb (nx b)
    obtain ⟨⟨hn, o2, ho2, hnf⟩⟩ := And.intro (I.stack.mem (sub b hb)) trivial
    rw [e1] at ho2
    cases ho2
    obtain ⟨sl2, e2⟩ := up b _ e1 hnf
    exact ⟨sl2, e2⟩
  · have hb : b ≠ e := fun z => by rw [z, e0] at q; cases q
    rw [without_ne hb]; exact I.base.free b o q n (nx b)
  · obtain ⟨o', e1⟩ := I.base.there b o q (nx b)
    exact ⟨o', hideAll_get _ e1 (nfr b o q hb)⟩
  · obtain ⟨more, q2⟩ := I.base.tbls b ps q
    exact ⟨more, wo _ _ q2 fun φ z => by cases z⟩
  · cases z
    obtain ⟨o', q3, q4⟩ := dk e _ hoe
    exact ⟨o', q3, q4⟩
end
section
variable {prog : Program} {w : World} {A : Around} {E : Value → Shared → Prop} {env : Env} {M : Model}
variable {nm q : Str} {C N : Addr} {bs bm : List Value} {hdct : Bool} {sn : List Str} {sub : List Value} {ab : Bool} {col : Option Bool} {dd : Option Addr} {k0 k1 k2 k3 k5 : Option Value} {newId : String}
theorem raise_made {s : Shared} {x : Sem Value} {Q : Flow → Shared → Prop} (hbase : bm.contains (.type "BaseException") = true) (hh : A.handled = none)
    (h : wpAny M A x (fun v s₁ => ∃ e t dx, v = .ref e ∧ s₁.heap.get? C = some (excClassObj nm q C N bs bm hdct sn sub ab col dd k0 k1 k2 k3 k5 newId) ∧ s₁.heap.get? e = some { cls := .ref C, dict := some dx, data := .fields #[.ref t, .none, .none, .none, .bool false, .none] } ∧ E (.ref e) s₁) E s) :
    wpAny M A (raiseStmt env (some x) none) Q E s := by
  have hcB : (Value.ref C :: bm).contains (.type "BaseException") = true := by rw [List.contains_cons, hbase, Bool.or_true]
  unfold raiseStmt
  refine wpAny_bind (wpAny_mono h (fun v s₁ h₁ => ?_) fun _ _ x => x)
  obtain ⟨e, t, dx, rfl, hC, he, hE⟩ := h₁
  obtain ⟨hp, g, d, tk, os⟩ := s₁
  repeat (first | with_reducible refine wpAny_loadPart_at he ?_ | with_reducible refine wpAny_loadPart_at hC ?_ | (with_reducible refine wpAny_isSubtype_exc hC ?_; rw [hcB]) | wp_step)
  exact wpAny_raiseNew_none hh hE
end
section
variable {X : Cx} {C fI : Addr} {x f : Str} {e : Expr} {t : TA} {np cpos pos : Pos} {fd : FuncData} {ps : List Str} {CX : CXT} {E : XK}
theorem ps_raiseA (hw : XWishA X E) (hc : X.calm = true) (F : FnOk X.prog X.w X.K X.mg X.base CX 1 fI fd ps (spI C f)) (hr : Room 2 X.A) (hg : Gl X x) (hm : X.mg x = some (.ref C)) (hk : keepIn X.K (.ref C) = true) (hb : Binds X.K fd ps []) (O : XOwn X.K C f)
    (hi : findIn X.K (.ref C) "__init__" = some (some (.ref fI))) (hf : typeIn X.K (.ref fI) = some (.type "function")) (hps : Passes CX X fun _ _ _ => False) (ha : PA X [e] t) (hd : (x == ("__debug__" : Str)) = false := by decide)
    (he : starEach [e] X.env = (false, eval e X.env) :: starEach [] X.env := by rfl) :
    PS X (.Raise (some (.Call (.Name x np) [e] [] cpos)) none pos) (fun D σ H => t σ H fun vs H1 => ∃ v, vs = [v] ∧ ∀ dx ob H3, H1 dx = none → H3 dx = some (.frz ob (.xd [(f, v)])) → (∀ b u, H1 b = some u → H3 b = some u) → E (.ref C) (some dx) H3) := by
  intro pins s σ H D I h
  rw [arm_exec_Raise]
  simp only [evalOpt, Option.map]
  have hT := xc_of_in I.mod.kin O.cls
  obtain ⟨bm, N', nm, q', bs, sn, sub, ab, col, dd, k0, k1, k2, k3, k5, hCo, T⟩ := hT
  refine wpAny_bind (wpAny_standAt (raise_made (C := C) (nm := nm) (q := q') (N := N') (bs := bs) (bm := bm) (sn := sn) (sub := sub) (ab := ab) (col := col) (dd := dd) (k0 := k0) (k1 := k1) (k2 := k2) (k3 := k3) (k5 := k5) (newId := "ValueError.__new__") (hdct := true) (T.hasType rfl) (I.ok.hd hc) ?_))
  refine wpAny_bind (wpAny_mono (Q := fun v s₁ => ∃ e t dx, v = .ref e ∧ s₁.heap.get? C = some (excClassObj nm q' C N' bs bm true sn sub ab col dd k0 k1 k2 k3 k5 "ValueError.__new__") ∧ s₁.heap.get? e = some { cls := .ref C, dict := some dx, data := .fields #[.ref t, .none, .none, .none, .bool false, .none] } ∧ X.xe (.ref e) s₁) ?_ (fun v s₃ h₃ => wpAny_bind (wpAny_standAt (wpAny_pure h₃))) fun _ _ x => x)
  refine wpAny_Call_Name_kw (ld_glob I hg hm ?_ hd)
  refine PySem.W.callWith_K (h₀ := X.base) I.ok.mod.kin hk (thn (ha cpos pins s σ H _ I h) fun us s1 ⟨vs, H1, I1, r, v, ev, q⟩ => ⟨I1.kIn, ?_⟩) he rfl
  subst ev
  refine run_mkE F hr hb O hi hf hps I1 r fun a t dx ob H3 s' I3 n0 m1 m2 m3 m4 m5 m6 => ?_
  have ho := (I3.hok a _ m4).1
  refine ⟨a, t, dx, rfl, I3.bk _ _ hCo, ho, hw pins σ H3 s' a C t dx I3 ?_ m4 (q dx ob _ m2 (by rw [without_ne m3]; exact m5) fun b u z => ?_)⟩
  · intro o z
    refine Classical.byContradiction fun nx => ?_
    obtain ⟨o', z2⟩ := I1.base.there a o z nx
    rw [n0] at z2; cases z2
  · have hb : b ≠ a := fun y => by rw [y, m1] at z; cases z
    have hb2 : b ≠ dx := fun y => by rw [y, m2] at z; cases z
    rw [without_ne hb, m6 b hb hb2]; exact z
end
end L2
end
section
set_option maxHeartbeats 1000000
namespace L2
open PySem PySem.Spec PyProof.Rows PySem.W
structure Room0 (k : Nat) (A : Around) : Prop where
  dp : A.depth + 3 * k + 5 < recursionLimit
  un : A.units + 16 * k + 200 < cLine
theorem Room.r0 {k : Nat} {A : Around} (r : Room k A) : Room0 k A := ⟨r.dp, r.un⟩
theorem Room0.mono {j k : Nat} {A : Around} (r : Room0 k A) (h : j ≤ k) : Room0 j A := ⟨by have := r.dp; omega, by have := r.un; omega⟩
theorem Room0.deeper {k : Nat} {A : Around} (r : Room0 (k + 1) A) (env : Env) : Room0 k (A.deeper env) :=
  ⟨by have := r.dp; show A.depth + 1 + 3 * k + 5 < _; omega, by have := r.un; show A.units + 3 + 16 * k + 200 < _; omega⟩
theorem Room0.units {k : Nat} {A : Around} (r : Room0 k A) : A.units + 64 < cLine := by have := r.un; omega
noncomputable def cx0 (CX : CXT) (P : Program) (w : World) (K : Frag) (mg : Str → Option Value) (base : Heap) (N : List Str) (qual : Str) (scope : Scope) (f : Addr) (cd : Value) (A : Around) (outer : List Env) (s : Shared) (H : Hp) (E : XK) : Cx := { cxOf CX P w K mg base N qual scope f cd A outer s H E with calm := false }
section
variable {CX : CXT} {P : Program} {w : World} {K : Frag} {mg : Str → Option Value} {base : Heap} {N ps : List Str} {qual : Str} {scope : Scope} {f : Addr} {cd : Value} {A : Around} {outer : List Env} {s s1 : Shared} {H : Hp} {E : XK} {us : List Value} {vs : List V}
theorem inv_start0 (S : FnScope N ps scope) (e0 : Env0 P w K mg base A outer s H) (hl : vs.length = ps.length) (r : Vals vs us)
    (x : InCallC s s.heap.objs.size (bindL (envOfC qual scope s.heap.objs.size f cd).kindOf (ps.zip us) fun _ => none) (cellsFrom (s.heap.objs.size + 1) scope.names []) (bindC (envOfC qual scope s.heap.objs.size f cd).kindOf (ps.zip us) fun _ => none) s1) :
    Inv (cx0 CX P w K mg base N qual scope f cd A outer s H E) [] (start N vs) H s1 := by
  have I := inv_start (CX := CX) (E := E) (A := { A with handled := none }) S rfl ⟨e0.frames, e0.mod, e0.bs, e0.bsz, e0.funs, e0.frf, e0.hok, e0.bare⟩ hl r x
  exact ⟨⟨I.ok.mod, I.ok.kind, I.ok.glob, I.ok.blt, I.ok.above, I.ok.inj, I.ok.has, I.ok.cab, (fun z => nomatch z), Around.frames_deeper e0.frames, I.ok.stk, I.ok.exf, I.ok.bs, I.ok.bsz, I.ok.noex, I.ok.exfs, I.ok.funs, I.ok.frf⟩, I.os, I.bare, I.base, I.loc, I.cell, I.free, I.freeC, I.pin, I.hok, I.len⟩
end
noncomputable abbrev Sp0 := List V → Hp → VK → Prop
structure FnOk0 (P : Program) (w : World) (K : Frag) (mg : Str → Option Value) (base : Heap) (k : Nat) (f : Addr) (fd : FuncData) (ps : List Str) (sp : Sp0) : Prop where
  len : ∀ vs H Q, sp vs H Q → vs.length = ps.length
  run : ∀ (A : Around) (outer : List Env) (s : Shared) (H : Hp) (args : Args) (us : List Value) (vs : List V) (Q : VK), Room0 k A → Env0 P w K mg base A outer s H → BindsTo s fd args (ps.zip us) → Vals vs us → sp vs H Q →
    codeAny (model P w) A (.call (.ref f) args) (CR (CXe P w) outer P w H s Q fun _ _ _ => False) s
section
variable {P : Program} {w : World} {K : Frag} {mg : Str → Option Value} {base : Heap}
theorem Fun.ok0 {x qual : Str} {st : Stmt} {f : Addr} {fd : FuncData} {N ps : List Str} {k : Nat} {sp : Sp0} (F : Fun K x qual st f fd) (S : FnScope N ps (defScope st)) (len : ∀ vs H Q, sp vs H Q → vs.length = ps.length)
    (hbody : ∀ (cdv : Value) (A : Around) (outer : List Env) (s : Shared) (H : Hp) (vs : List V) (Q : VK), Room0 k (A.deeper (envOfC qual (defScope st) s.heap.objs.size f cdv)) → sp vs H Q →
      ∃ t, PSs (cx0 (CXe P w) P w K mg base N qual (defScope st) f cdv A outer s H fun _ _ _ => False) (defBody st) t ∧ t { nx := fun _ H' => Q .non H', rt := Q } (start N vs) H) : FnOk0 P w K mg base (k + 1) f fd ps sp := by
  obtain ⟨oc, od, kV, doc, pm, an, cdv, ct, osl, rfl, lk, hcd⟩ := F.ex
  refine ⟨len, fun A outer s H args us vs Q hr e0 hb r hsp => ?_⟩
  have hl := len _ _ _ hsp
  have KX : K.In s.heap := e0.mod.kin.keeps fun b o e => (e0.bs b o e).1
  have lim : s.heap.NoLimit := e0.mod.nolimit.keeps fun b o e => (e0.bs b o e).1
  have hkind : ∀ y ∈ ps.zip us, (defScope st).names.lookup y.1 = some .local ∨ ((defScope st).names.lookup y.1 = some .cell ∧ ((cellsFrom (s.heap.objs.size + 1) (defScope st).names []).lookup y.1).isSome = true) := fun ⟨n, v⟩ hy => by
    rcases S.par n (List.of_mem_zip hy).1 with q | q
    · exact .inl q
    · exact .inr ⟨q, PySem.W.cellsFrom_some _ _ _ (.inl q)⟩
  refine codeAny_call_function (by have := hr.dp; omega) (KX _ _ lk) rfl S.co S.gen rfl (PySem.W.codeRec_of KX hcd) (hb _ _ _ _ ?_)
  refine wpAny_newFunctionEnv_cells S.kind hkind fun env he s1 x => ?_
  subst he
  refine ⟨lim.keeps x.toInCall.keep, codeAny_func ?_⟩
  obtain ⟨t, ht, hq⟩ := hbody cdv A outer s H vs Q (hr.deeper _) hsp
  have I : Inv (cx0 (CXe P w) P w K mg base N qual (defScope st) f cdv A outer s H fun _ _ _ => False) [] (start N vs) H s1 := inv_start0 S e0 hl r x
  refine wpAny_mono (ht [] s1 (start N vs) H _ I hq) (fun fl s' hs => ?_) fun e s' hs => hs
  have fin : ∀ {σ' : St} {H' : Hp} {v : V} {u : Value}, Inv (cx0 (CXe P w) P w K mg base N qual (defScope st) f cdv A outer s H fun _ _ _ => False) [] σ' H' s' → RelV v u → Q v H' → CE outer P w H s Q u s' :=
    fun {σ' H' v u} J rv q => ⟨v, H', J.os, J.bare, J.base, J.hok, rv, q⟩
  cases fl with
  | ret u =>
    obtain ⟨v, σ', H', J, rv, q⟩ := hs
    exact fin J rv q
  | next =>
    obtain ⟨σ', H', J, q⟩ := hs
    exact fin (v := V.non) (u := Value.none) J rfl q
  | brk =>
    obtain ⟨_, _, _, q⟩ := hs
    exact False.elim q
  | cont =>
    obtain ⟨_, _, _, q⟩ := hs
    exact False.elim q
noncomputable def Has0 (P : Program) (w : World) (K : Frag) (mg : Str → Option Value) (base : Heap) (x : Str) (k : Nat) (ps : List Str) (sp : Sp0) : Prop :=
  ∃ f fd, FnOk0 P w K mg base k f fd ps sp ∧ mg x = some (.ref f) ∧ PySem.W.keepIn K (.ref f) = true ∧ Binds K fd ps []
end
section
variable {X : Cx} {k : Nat} {ps : List Str} {sp : Sp0} {x : Str} {p pos : Pos} {e : Expr} {es : List Expr} {t : TA}
theorem pe_callH (F : Has0 X.prog X.w X.K X.mg X.base x k ps sp) (hr : Room0 k X.A) (hg : Gl X x) (hx : Passes (CXe X.prog X.w) X fun _ _ _ => False) (ha : PA X (e :: es) t) (hdb : (x == ("__debug__" : Str)) = false := by decide)
    (he : starEach (e :: es) X.env = (false, eval e X.env) :: starEach es X.env := by rfl) (hpl : (backTo pos (starEach es X.env)).any (·.1) = false := by rfl) :
    PE X (.Call (.Name x p) (e :: es) [] pos) (fun σ H Q => t σ H fun vs H1 => sp vs H1 Q) := by
  obtain ⟨f, fd, F, hm, hk, hb⟩ := F
  intro pins s σ H Q I h
  refine wpAny_Call_Name_kw (ld_glob I hg hm ?_ hdb)
  refine PySem.W.callWith_K (h₀ := X.base) I.ok.mod.kin hk (thn (ha pos pins s σ H _ I h) fun us s1 ⟨vs, H1, I1, r, q⟩ => ⟨I1.kIn, ?_⟩) he hpl
  have hl : (us ++ []).length = ps.length := by rw [List.append_nil, ← r.length]; exact F.len _ _ _ q
  have hbs := hb s1 us I1.kIn hl
  rw [List.append_nil] at hbs
  refine wpAny_call (codeAny_mono (F.run X.A X.stack s1 H1 ⟨us, []⟩ us vs Q hr I1.env0 hbs r q) fun rr s' hq => ?_)
  rcases rr with ev | fl
  · exact hx pins σ H1 s1 ev s' I1 hq
  · cases fl with
    | ret u => exact I1.after hq
    | next => exact False.elim hq
    | brk => exact False.elim hq
    | cont => exact False.elim hq
end
end L2
end
section
namespace Pu
open PySem (Str)
inductive D where
  | non
  | bl (b : Bool)
  | int (i : Int)
  | str (x : Str)
  | tup (ds : List D)
  | lst (ds : List D)
  | exn (c : Nat)
  | dic (ks : List (Sum Int Str)) (ds : List D)
  | dit (ks : List (List (Sum Int Str))) (ds : List D)
inductive Res (α : Type) where
  | ok (a : α)
  | exc (c : Nat)
  | bad
namespace Res
noncomputable def bind {α β : Type} : Res α → (α → Res β) → Res β
  | .ok a, f => f a
  | .exc c, _ => .exc c
  | .bad, _ => .bad
@[simp] theorem bind_ok {α β : Type} (a : α) (f : α → Res β) : (Res.ok a).bind f = f a := rfl
@[simp] theorem bind_exc {α β : Type} (c : Nat) (f : α → Res β) : (Res.exc c : Res α).bind f = .exc c := rfl
@[simp] theorem bind_bad {α β : Type} (f : α → Res β) : (Res.bad : Res α).bind f = .bad := rfl
theorem bind_eq_ok {α β : Type} {r : Res α} {f : α → Res β} {b : β} (h : r.bind f = .ok b) : ∃ a, r = .ok a ∧ f a = .ok b := by
  cases r <;> simp_all
end Res
mutual
noncomputable def D.eqv : D → D → Bool
  | .non, .non => true
  | .bl a, .bl b => a == b
  | .bl a, .int j => (if a then 1 else 0) == j
  | .int i, .bl b => i == (if b then 1 else 0)
  | .int i, .int j => i == j
  | .str x, .str y => x == y
  | .lst xs, .lst ys => D.eqvs xs ys
  | .tup xs, .tup ys => D.eqvs xs ys
  | _, _ => false
noncomputable def D.eqvs : List D → List D → Bool
  | [], [] => true
  | x :: xs, y :: ys => D.eqv x y && D.eqvs xs ys
  | _, _ => false
end
noncomputable def D.shp : Nat → D → Bool
  | _, .non => true
  | _, .bl _ => true
  | _, .int _ => true
  | _, .str x => x.cps.all (· < 0x110000)
  | 0, .tup _ => false
  | 0, .lst _ => false
  | n + 1, .tup ds => ds.all (D.shp n)
  | n + 1, .lst ds => ds.all (D.shp n)
  | _, .exn _ => false
  | _, .dic _ _ => false
  | _, .dit _ _ => false
noncomputable def D.sm : Nat → D → D → Bool
  | _, .non, .non => true
  | _, .bl a, .bl b => a == b
  | _, .int a, .int b => a == b
  | _, .str a, .str b => a == b
  | n + 1, .tup xs, .tup ys => xs.length == ys.length && (List.zipWith (D.sm n) xs ys).all id
  | n + 1, .lst xs, .lst ys => xs.length == ys.length && (List.zipWith (D.sm n) xs ys).all id
  | _, .dic [] [], .dic [] [] => true
  | _, _, _ => false
noncomputable def D.flat : Nat → Nat → D → Bool
  | 0, _, _ => false
  | _ + 1, _, .non => true
  | _ + 1, _, .bl _ => true
  | _ + 1, _, .int _ => true
  | _ + 1, _, .str _ => true
  | _ + 1, _, .exn _ => true
  | m + 1, k, .tup ds => ds.all (D.flat m k)
  | _ + 1, 0, .lst _ => false
  | m + 1, k + 1, .lst ds => ds.all (D.flat m k)
  | _ + 1, 0, .dic _ _ => false
  | m + 1, k + 1, .dic _ ds => ds.all (D.flat m k)
  | _ + 1, 0, .dit _ _ => false
  | m + 1, k + 1, .dit _ ds => ds.all (D.flat m k)
noncomputable abbrev LIM : Nat := 16777216
noncomputable abbrev Fr := List (Option D)
structure Fn where
  name : Str
  ar : Nat
  lv : Nat
  dep : Nat
  den : List D → Res D
set_option genSizeOf false
set_option genSizeOfSpec false
set_option genInjectivity false
inductive B2 where
  | add | sub | mul | fdiv | mod | pow
  deriving DecidableEq
inductive C2 where
  | lt | le | gt | ge | eq | ne | inn | nin
  | sm
  deriving DecidableEq
inductive Kd where
  | int | bool | str | list | tuple | dict | verr | cls (n : Nat)
  deriving DecidableEq
inductive Bi where
  | len | min | int | list | listL
  deriving DecidableEq
inductive Tg where
  | nm (i : Nat)
  | tp (is : List Nat)
  deriving DecidableEq
mutual
inductive E where
  | nm (i : Nat)
  | cN
  | cB (b : Bool)
  | cI (i : Int)
  | cS (x : Str)
  | gl (x : Str) (d : D)
  | tup (es : Es)
  | lst (es : Es)
  | bin (o : B2) (a b : E)
  | neg (a : E)
  | not (a : E)
  | cmp (o : C2) (a b : E)
  | chain (o o' : C2) (a b c : E)
  | isN (n : Bool) (a : E)
  | bo (and : Bool) (es : Es)
  | ix (a i : E)
  | ixL (a i : E)
  | dNew
  | slc (a lo hi : E)
  | call (f : Fn) (es : Es)
  | callB (f : Fn) (es : Es)
  | bi (b : Bi) (es : Es)
  | isi (a : E) (k : Kd)
  | isiM (a : E) (ns : List Nat)
  | callH (f : Fn) (es : Es)
  | atX (e : E)
inductive Es where
  | nil
  | cons (e : E) (r : Es)
inductive It where
  | seq (e : E)
  | seqL (e : E)
  | r1 (a : E)
  | en (e : E)
end
noncomputable def get (δ : Fr) (i : Nat) : Res D := match δ[i]? with
  | some (some d) => .ok d
  | _ => .bad
noncomputable def on1 : List D → (D → Res D) → Res D
  | [a], f => f a
  | _, _ => .bad
noncomputable def on2 : List D → (D → D → Res D) → Res D
  | [a, b], f => f a b
  | _, _ => .bad
noncomputable def on3 : List D → (D → D → D → Res D) → Res D
  | [a, b, c], f => f a b c
  | _, _ => .bad
noncomputable def int1 : D → (Int → Res D) → Res D
  | .int i, f => f i
  | _, _ => .bad
noncomputable def int2 (a b : D) (f : Int → Int → Res D) : Res D := int1 a fun i => int1 b fun j => f i j
noncomputable def seqD : D → (List D → Res D) → Res D
  | .lst ds, f => f ds
  | .tup ds, f => f ds
  | _, _ => .bad
noncomputable def addD : D → D → Res D
  | .int i, .int j => .ok (.int (i + j))
  | .lst a, .lst b => if a.length + b.length ≤ LIM then .ok (.lst (a ++ b)) else .bad
  | .str a, .str b => if a.length + b.length ≤ LIM then .ok (.str (a ++ b)) else .bad
  | _, _ => .bad
noncomputable def mulD : D → D → Res D
  | .int i, .int j => if (-(2 ^ 64) < i ∧ i < 2 ^ 64) ∨ (-(2 ^ 64) < j ∧ j < 2 ^ 64) then .ok (.int (i * j)) else if i.natAbs < 2 ^ 400 ∧ j.natAbs < 2 ^ 400 then .ok (.int (i * j)) else .bad
  | .lst a, .int k => if -(2 ^ 63) ≤ k ∧ k < 2 ^ 63 ∧ a.length * k.toNat ≤ LIM then .ok (.lst (List.replicate k.toNat a).flatten) else .bad
  | _, _ => .bad
noncomputable def b2 : B2 → D → D → Res D
  | .add, a, b => addD a b
  | .sub, a, b => int2 a b fun i j => .ok (.int (i - j))
  | .mul, a, b => mulD a b
  | .fdiv, a, b => int2 a b fun i j => if 0 < j ∧ j < 2 ^ 200 then .ok (.int (i / j)) else .bad
  | .mod, a, b => int2 a b fun i j => if 0 < j then .ok (.int (i % j)) else .bad
  | .pow, a, b => int2 a b fun i j => if 0 ≤ j ∧ j ≤ 1000000 ∧ i.natAbs < 2 ^ 64 then .ok (.int (i ^ j.toNat)) else .bad
noncomputable def D.scal : D → Bool
  | .non | .bl _ | .int _ | .str _ => true
  | _ => false
noncomputable def inD (x : D) (ys : List D) : Res Bool := if D.shp 8 x && ys.all (D.shp 8) then .ok (ys.any fun y => D.eqv y x) else .bad
noncomputable def c2 : C2 → D → D → Res D
  | .lt, a, b => int2 a b fun i j => .ok (.bl (decide (i < j)))
  | .le, a, b => int2 a b fun i j => .ok (.bl (decide (i ≤ j)))
  | .gt, a, b => int2 a b fun i j => .ok (.bl (decide (j < i)))
  | .ge, a, b => int2 a b fun i j => .ok (.bl (decide (j ≤ i)))
  | .eq, x, y => if D.shp 8 x && D.shp 8 y then .ok (.bl (D.eqv x y)) else .bad
  | .ne, x, y => if D.shp 8 x && D.shp 8 y then .ok (.bl (!D.eqv x y)) else .bad
  | .inn, x, y => seqD y fun ys => (inD x ys).bind fun b => .ok (.bl b)
  | .nin, x, y => seqD y fun ys => (inD x ys).bind fun b => .ok (.bl !b)
  | .sm, x, y => if D.sm 8 x y = true then .ok (.bl true) else .bad
noncomputable def ixN (n : Nat) (i : Int) : Option Nat := if 0 ≤ i then (if i < n then some i.toNat else none) else if -(n : Int) ≤ i then some (i + n).toNat else none
noncomputable def atD (ds : List D) (i : Int) : Res D := match (ixN ds.length i).bind (fun j => ds[j]?) with
  | some d => .ok d
  | none => .bad
noncomputable def ixD : D → D → Res D
  | .lst ds, .int i => atD ds i
  | .tup ds, .int i => atD ds i
  | _, _ => .bad
noncomputable def ixLD : D → D → Res D
  | .lst ds, .int i => atD ds i
  | _, _ => .bad
noncomputable def ixTD : D → D → Res D
  | .tup ds, .int i => atD ds i
  | _, _ => .bad
noncomputable def sIx (n d : Nat) : Option Int → Nat
  | none => d
  | some v => (if v < 0 then max (v + (n : Int)) 0 else min v (n : Int)).toNat
noncomputable def cut {α : Type} (xs : List α) (lo hi : Option Int) : List α := (xs.drop (sIx xs.length 0 lo)).take (sIx xs.length xs.length hi - sIx xs.length 0 lo)
noncomputable def partD : D → Res (Option Int)
  | .int i => .ok (some i)
  | _ => .bad
noncomputable def partR (n : Bool) (r : Res D) : Res (Option Int) := if n then .ok none else r.bind partD
noncomputable def E.isCN : E → Bool
  | .cN => true
  | _ => false
noncomputable def cutD : D → Option Int → Option Int → Res D
  | .lst ds, lo, hi => .ok (.lst (cut ds lo hi))
  | .tup ds, lo, hi => if ds.all D.scal = true ∧ ¬ (sIx ds.length 0 lo = 0 ∧ sIx ds.length ds.length hi = ds.length) then .ok (.tup (cut ds lo hi)) else .bad
  | _, _, _ => .bad
noncomputable def truth : D → Res Bool
  | .non => .ok false
  | .bl b => .ok b
  | .int i => .ok (i != 0)
  | .lst ds => .ok (!ds.isEmpty)
  | .tup ds => .ok (!ds.isEmpty)
  | _ => .bad
noncomputable def isa (c d : Nat) : Bool := c == d || d == 0
noncomputable def dI : D → Bool
  | .int _ => true
  | .bl _ => true
  | _ => false
noncomputable def dB : D → Bool
  | .bl _ => true
  | _ => false
noncomputable def dS : D → Bool
  | .str _ => true
  | _ => false
noncomputable def dL : D → Bool
  | .lst _ => true
  | _ => false
noncomputable def dT' : D → Bool
  | .tup _ => true
  | _ => false
noncomputable def dD : D → Bool
  | .exn c => c == 999
  | .dic _ _ => true
  | .dit _ _ => true
  | _ => false
noncomputable def xatN (i : Int) : Nat := 1000 + (if 0 ≤ i then 2 * i.toNat else 2 * (-i).toNat + 1)
noncomputable def xatI (c : Nat) : Int := if (c - 1000) % 2 = 0 then (((c - 1000) / 2 : Nat) : Int) else -(((c - 1000) / 2 : Nat) : Int)
theorem xatN_ge (i : Int) : 1000 ≤ xatN i := Nat.le_add_right ..
theorem xatI_atN (i : Int) : xatI (xatN i) = i := by
  unfold xatI xatN
  rw [Nat.add_sub_cancel_left]
  by_cases h : 0 ≤ i
  · rw [if_pos h, if_pos (by omega)]; omega
  · rw [if_neg h, if_neg (by omega)]; omega
noncomputable def kcX (c : Nat) : Nat := if 1000 ≤ c then 4 else c
noncomputable def cat (n c : Nat) : Bool := isa (kcX n) c
noncomputable def noA {α : Type} : Res α → Res α
  | .exc c => if 1000 ≤ c then .bad else .exc c
  | r => r
noncomputable def noE : Res D → Res D
  | .ok d => .ok d
  | _ => .bad
noncomputable def atXD : D → Res D
  | .exn c => if 1000 ≤ c then .ok (.int (xatI c)) else .bad
  | _ => .bad
noncomputable def dX : D → (Nat → Bool) → Res Bool
  | .exn c, f => if c == 999 then .bad else .ok (f (kcX c))
  | _, _ => .bad
noncomputable def isKd (d : D) : Kd → Res Bool
  | .int => .ok (dI d)
  | .bool => .ok (dB d)
  | .str => .ok (dS d)
  | .list => .ok (dL d)
  | .tuple => .ok (dT' d)
  | .dict => .ok (dD d)
  | .verr => dX d fun _ => true
  | .cls n => dX d fun c => isa c n
noncomputable def intsOf : List D → Option (List Int)
  | [] => some []
  | .int i :: r => (intsOf r).map (i :: ·)
  | _ => none
noncomputable def boolsOf : List D → Option (List Bool)
  | [] => some []
  | .bl i :: r => (boolsOf r).map (i :: ·)
  | _ => none
noncomputable def optR {α : Type} : Option α → Res α
  | some a => .ok a
  | none => .bad
noncomputable def intsD : D → (List Int → Res D) → Res D
  | .lst ds, f => (optR (intsOf ds)).bind f
  | _, _ => .bad
noncomputable def boolsD : D → (List Bool → Res D) → Res D
  | .lst ds, f => (optR (boolsOf ds)).bind f
  | _, _ => .bad
noncomputable def lstD : D → (List D → Res D) → Res D
  | .lst ds, f => f ds
  | _, _ => .bad
noncomputable def intD : D → Res D
  | .int i => .ok (.int i)
  | .bl b => .ok (.int (if b then 1 else 0))
  | _ => .bad
noncomputable def biD : Bi → List D → Res D
  | .len, ds => on1 ds fun d => seqD d fun ds => .ok (.int ds.length)
  | .min, ds => on2 ds fun a b => int2 a b fun i j => .ok (.int (min i j))
  | .int, ds => on1 ds intD
  | .list, ds => on1 ds fun d => seqD d fun ds => .ok (.lst ds)
  | .listL, ds => on1 ds fun d => lstD d fun ds => .ok (.lst ds)
noncomputable def asgAll : List Nat → List D → Fr → Option Fr
  | [], [], δ => some δ
  | i :: is, d :: ds, δ => asgAll is ds (δ.set i (some d))
  | _, _, _ => none
noncomputable def asgTg : Tg → D → Fr → Option Fr
  | .nm i, d, δ => some (δ.set i (some d))
  | .tp is, .tup ds, δ => asgAll is ds δ
  | .tp is, .lst ds, δ => asgAll is ds δ
  | _, _, _ => none
noncomputable def blk (nl : Nat) (fr : List Nat) (δ : Fr) : Fr := List.replicate nl none ++ fr.map fun j => (δ[j]?).join
noncomputable def rangeD (a b : Int) : List D := (List.range (b - a).toNat).map fun (i : Nat) => D.int (a + i)
noncomputable def itSeq : D → Res (List D)
  | .lst ds => .ok ds
  | .tup ds => .ok ds
  | _ => .bad
noncomputable def itSeqL : D → Res (List D)
  | .lst ds => .ok ds
  | _ => .bad
noncomputable def smallI (i : Int) : Bool := decide (-(2 ^ 62) ≤ i) && decide (i < 2 ^ 62)
noncomputable def itR2 : D → D → Res (List D)
  | .int a, .int b => if smallI a && smallI b && decide ((b - a).toNat ≤ LIM) then .ok (rangeD a b) else .bad
  | _, _ => .bad
noncomputable def enumD (ds : List D) : List D := ds.zipIdx.map fun p => .tup [.int p.2, p.1]
noncomputable def itEn : D → Res (List D)
  | .lst ds => .ok (enumD ds)
  | _ => .bad
mutual
noncomputable def ev : E → Fr → Res D
  | .nm i, δ => get δ i
  | .cN, _ => .ok .non
  | .cB b, _ => .ok (.bl b)
  | .cI i, _ => .ok (.int i)
  | .cS x, _ => .ok (.str x)
  | .gl _ d, _ => .ok d
  | .tup es, δ => (evs es δ).bind fun ds => .ok (.tup ds)
  | .lst es, δ => (evs es δ).bind fun ds => .ok (.lst ds)
  | .bin o a b, δ => (ev a δ).bind fun x => (ev b δ).bind fun y => b2 o x y
  | .neg a, δ => (ev a δ).bind fun x => match x with | .int i => .ok (.int (-i)) | _ => .bad
  | .not a, δ => (ev a δ).bind fun x => match x with | .bl b => .ok (.bl !b) | _ => .bad
  | .cmp o a b, δ => (ev a δ).bind fun x => (ev b δ).bind fun y => c2 o x y
  | .chain o o' a b c, δ => (ev a δ).bind fun x => (ev b δ).bind fun y => (c2 o x y).bind fun r => match r with
    | .bl true => (ev c δ).bind fun z => c2 o' y z
    | .bl false => .ok (.bl false)
    | _ => .bad
  | .isN n a, δ => (ev a δ).bind fun x => .ok (.bl (match x with | .non => !n | _ => n))
  | .bo k es, δ => evBo k es δ
  | .ix a i, δ => (ev a δ).bind fun x => (ev i δ).bind fun y => ixD x y
  | .ixL a i, δ => (ev a δ).bind fun x => (ev i δ).bind fun y => ixLD x y
  | .dNew, _ => .ok (.dic [] [])
  | .slc a lo hi, δ => (ev a δ).bind fun x => (partR lo.isCN (ev lo δ)).bind fun l => (partR hi.isCN (ev hi δ)).bind fun h => cutD x l h
  | .call f es, δ => (evs es δ).bind fun ds => f.den ds
  | .callB f es, δ => (evs es δ).bind fun ds => (f.den ds).bind fun d => if D.flat 9 f.dep d then .ok d else .bad
  | .bi b es, δ => (evs es δ).bind fun ds => biD b ds
  | .isi a k, δ => (ev a δ).bind fun x => (isKd x k).bind fun b => .ok (.bl b)
  | .isiM a ns, δ => (ev a δ).bind fun x => (dX x fun c => ns.any (isa c)).bind fun b => .ok (.bl b)
  | .callH f es, δ => (evs es δ).bind fun ds => noE (f.den ds)
  | .atX e, δ => (ev e δ).bind atXD
noncomputable def evs : Es → Fr → Res (List D)
  | .nil, _ => .ok []
  | .cons e r, δ => (ev e δ).bind fun x => (evs r δ).bind fun xs => .ok (x :: xs)
noncomputable def evBo (k : Bool) : Es → Fr → Res D
  | .nil, _ => .bad
  | .cons e .nil, δ => ev e δ
  | .cons e (.cons e' r), δ => (ev e δ).bind fun x => match x with
    | .bl c => if c = k then evBo k (.cons e' r) δ else .ok (.bl c)
    | _ => .bad
noncomputable def evI : It → Fr → Res (List D)
  | .seq e, δ => (ev e δ).bind itSeq
  | .seqL e, δ => (ev e δ).bind itSeqL
  | .r1 a, δ => (ev a δ).bind fun x => itR2 (.int 0) x
  | .en e, δ => (ev e δ).bind itEn
end
noncomputable def tv (e : E) (δ : Fr) : Res Bool := (ev e δ).bind truth
inductive Um where
  | append | extend | clear
  deriving DecidableEq
mutual
inductive S where
  | asg (x : Nat) (k : Nat) (e : E)
  | dem (x : Nat) (k : Nat)
  | dead (x : Nat)
  | set (x : Nat) (path : List (Bool × E)) (i e : E)
  | mut (x : Nat) (path : List (Bool × E)) (m : Um) (es : Es)
  | expr (e : E)
  | iff (c : E) (a b : Ss)
  | wh (c : E) (b : Ss)
  | for_ (tg : Tg) (it : It) (b : Ss)
  | ret (e : E)
  | raiseA (e : E)
  | try_ (b : Ss) (c : Nat) (i : Nat) (h : Ss) (e : Ss)
inductive Ss where
  | nil
  | cons (s : S) (r : Ss)
end
inductive Out where
  | nxt (δ : Fr)
  | ret (d : D)
  | exc (c : Nat) (δ : Fr)
  | bad
noncomputable def evP : List (Bool × E) → Fr → Res (List (Bool × Int))
  | [], _ => .ok []
  | (t, e) :: r, δ => match ev e δ with
    | .ok (.int i) => (evP r δ).bind fun is => .ok ((t, i) :: is)
    | _ => .bad
noncomputable def updP (f : List D → Option (List D)) : List (Bool × Int) → D → Option D
  | [], .lst ds => (f ds).map D.lst
  | (false, i) :: r, .lst ds => (ixN ds.length i).bind fun j => (ds[j]?).bind fun d => (updP f r d).map fun d' => .lst (ds.set j d')
  | (true, i) :: r, .tup ds => (ixN ds.length i).bind fun j => (ds[j]?).bind fun d => (updP f r d).map fun d' => .tup (ds.set j d')
  | _, _ => none
noncomputable def un1 {α : Type} : List D → (D → Option α) → Option α
  | [d], f => f d
  | _, _ => none
noncomputable def un0 {α : Type} : List D → Option α → Option α
  | [], r => r
  | _, _ => none
noncomputable def umExt (ds : List D) : D → Option (List D)
  | .lst es => if ds.length + es.length ≤ LIM then some (ds ++ es) else none
  | _ => none
noncomputable def umD : Um → List D → List D → Option (List D)
  | .append, es, ds => un1 es fun d => if ds.length < LIM then some (ds ++ [d]) else none
  | .extend, es, ds => un1 es (umExt ds)
  | .clear, es, _ => un0 es (some [])
noncomputable def setAt (i : Int) (d : D) (ds : List D) : Option (List D) := (ixN ds.length i).map fun j => ds.set j d
noncomputable def upd (δ : Fr) (x : Nat) (f : D → Option D) : Out := match δ[x]? with
  | some (some d) => match f d with
    | some d' => .nxt (δ.set x (some d'))
    | none => .bad
  | _ => .bad
noncomputable def Res.out {α : Type} (r : Res α) (δ : Fr) (f : α → Out) : Out := match r with
  | .ok a => f a
  | .exc c => .exc c δ
  | .bad => .bad
@[simp] theorem Res.out_ok {α : Type} (a : α) (δ : Fr) (f : α → Out) : (Res.ok a).out δ f = f a := rfl
@[simp] theorem Res.out_exc {α : Type} (c : Nat) (δ : Fr) (f : α → Out) : (Res.exc c : Res α).out δ f = .exc c δ := rfl
@[simp] theorem Res.out_bad {α : Type} (δ : Fr) (f : α → Out) : (Res.bad : Res α).out δ f = .bad := rfl
noncomputable def raiA : D → Fr → Out
  | .int i, δ => .exc (xatN i) δ
  | _, _ => .bad
noncomputable def Out.then (o : Out) (f : Fr → Out) : Out := match o with
  | .nxt δ => f δ
  | .ret d => .ret d
  | .exc c δ => .exc c δ
  | .bad => .bad
@[simp] theorem Out.then_nxt (δ : Fr) (f : Fr → Out) : (Out.nxt δ).then f = f δ := rfl
@[simp] theorem Out.then_ret (d : D) (f : Fr → Out) : (Out.ret d).then f = .ret d := rfl
@[simp] theorem Out.then_exc (c : Nat) (δ : Fr) (f : Fr → Out) : (Out.exc c δ).then f = .exc c δ := rfl
@[simp] theorem Out.then_bad (f : Fr → Out) : Out.bad.then f = .bad := rfl
noncomputable def wloop (c : Fr → Res Bool) (b : Fr → Out) : Nat → Fr → Out
  | 0, _ => .bad
  | n + 1, δ => (c δ).out δ fun t => if t then (b δ).then (wloop c b n) else .nxt δ
noncomputable def floop (tg : Tg) (b : Fr → Out) : List D → Fr → Out
  | [], δ => .nxt δ
  | d :: ds, δ => match asgTg tg d δ with
    | some δ' => (b δ').then (floop tg b ds)
    | none => .bad
noncomputable def setO : Res D → (Int → Out) → Out
  | .ok (.int n), f => f n
  | _, _ => .bad
noncomputable def FU : Nat := 1073741824
mutual
noncomputable def ex : S → Fr → Out
  | .dem _ _, δ => .nxt δ
  | .dead _, δ => .nxt δ
  | .asg x _ e, δ => (ev e δ).out δ fun d => .nxt (δ.set x (some d))
  | .set x p i e, δ => (ev e δ).out δ fun d => match evP p δ, ev i δ with
    | .ok q, .ok (.int n) => upd δ x (updP (setAt n d) q)
    | _, _ => .bad
  | .mut x p m es, δ => match evP p δ, evs es δ with
    | .ok q, .ok ds => upd δ x (updP (umD m ds) q)
    | _, _ => .bad
  | .expr e, δ => (ev e δ).out δ fun _ => .nxt δ
  | .iff c a b, δ => (tv c δ).out δ fun t => if t then exs a δ else exs b δ
  | .wh c b, δ => wloop (tv c) (exs b) FU δ
  | .for_ tg it b, δ => (evI it δ).out δ fun ds => floop tg (exs b) ds δ
  | .ret e, δ => (ev e δ).out δ fun d => .ret d
  | .raiseA e, δ => (ev e δ).out δ fun d => raiA d δ
  | .try_ b c i h e, δ => match exs b δ with
    | .nxt δ' => exs e δ'
    | .ret d => .ret d
    | .exc n δ' => if cat n c then (match exs h (δ'.set i (some (.exn n))) with
      | .nxt δ2 => .nxt (δ2.set i none)
      | .ret d => .ret d
      | _ => .bad) else .bad
    | .bad => .bad
noncomputable def exs : Ss → Fr → Out
  | .nil, δ => .nxt δ
  | .cons s r, δ => (ex s δ).then (exs r)
end
noncomputable def start (n : Nat) (ds : List D) : Fr := ds.map some ++ List.replicate (n - ds.length) none
noncomputable def run (n : Nat) (b : Ss) (ds : List D) : Res D := match exs b (start n ds) with
  | .nxt _ => .ok .non
  | .ret d => .ok d
  | .exc c _ => .exc c
  | .bad => .bad
end Pu
end
section
namespace Pu
open PySem PySem.W L2
inductive T where
  | non
  | bl (b : Bool)
  | int (i : Int)
  | str (x : Str)
  | tup (a : Addr) (ts : List T)
  | lst (a : Addr) (ts : List T)
  | exn (a : Addr) (c : Nat)
  | dic (a : Addr) (ks : List (Sum Int Str)) (ts : List T)
  | dit (a : Addr) (ks : List (List (Sum Int Str))) (ts : List T)
noncomputable def T.val : T → V
  | .non => .non
  | .bl b => .bl b
  | .int i => .int i
  | .str x => .str x
  | .tup a _ => .ref a
  | .lst a _ => .ref a
  | .exn a _ => .ref a
  | .dic a _ _ => .ref a
  | .dit a _ _ => .ref a
mutual
noncomputable def T.dat : T → D
  | .non => .non
  | .bl b => .bl b
  | .int i => .int i
  | .str x => .str x
  | .tup _ ts => .tup (T.dats ts)
  | .lst _ ts => .lst (T.dats ts)
  | .exn _ c => .exn c
  | .dic _ ks ts => .dic ks (T.dats ts)
  | .dit _ ks ts => .dit ks (T.dats ts)
noncomputable def T.dats : List T → List D
  | [] => []
  | t :: r => t.dat :: T.dats r
end
theorem T.dats_map : ∀ ts : List T, T.dats ts = ts.map T.dat
  | [] => rfl
  | t :: r => by simp [T.dats, T.dats_map r]
structure Px where
  K : Frag
  cl : Nat → Addr
  has : Nat → Bool
noncomputable def exO (p : Px) (a : Addr) (c : Nat) : HO := if c = 999 then dO a else xO a (p.cl c)
noncomputable def XOk (p : Px) (H : Hp) (a : Addr) (c : Nat) : Prop := ((H a = some (exO p a c) ∧ (c = 999 ∨ p.has c = true)) ∧ c < 1000) ∨ ((∃ dx ob, H a = some (xA a (p.cl 4) dx) ∧ H dx = some (.frz ob (.xd [("at", .int (xatI c))])) ∧ p.has 4 = true) ∧ 1000 ≤ c)
mutual
noncomputable def T.Ok (p : Px) (H : Hp) : T → Prop
  | .dic a ks ts => (H a = some (.dK (ks.zip (ts.map T.val))) ∧ ks.Nodup ∧ ks.length = ts.length) ∧ T.Oks p H ts
  | .dit a ks ts => (H a = some (.dT (ks.zip (ts.map T.val))) ∧ ks.Nodup ∧ ks.length = ts.length) ∧ T.Oks p H ts
  | .tup a ts => H a = some (.tup (ts.map T.val)) ∧ T.Oks p H ts
  | .lst a ts => Rd H a (.lst (ts.map T.val)) ∧ T.Oks p H ts
  | .exn a c => XOk p H a c
  | .non => True
  | .bl _ => True
  | .int _ => True
  | .str _ => True
noncomputable def T.Oks (p : Px) (H : Hp) : List T → Prop
  | [] => True
  | t :: r => t.Ok p H ∧ T.Oks p H r
noncomputable def T.adr : T → Nat → List Addr
  | .tup _ ts, k => T.adrs ts k
  | .lst _ _, 0 => []
  | .lst a ts, k + 1 => a :: T.adrs ts k
  | .non, _ => []
  | .bl _, _ => []
  | .int _, _ => []
  | .str _, _ => []
  | .exn _ _, _ => []
  | .dic _ _ _, 0 => []
  | .dic a _ ts, k + 1 => a :: T.adrs ts k
  | .dit _ _ _, 0 => []
  | .dit a _ ts, k + 1 => a :: T.adrs ts k
noncomputable def T.adrs : List T → Nat → List Addr
  | [], _ => []
  | t :: r, k => t.adr k ++ T.adrs r k
noncomputable def T.rest : T → Nat → List Addr
  | .tup _ ts, k => T.rests ts k
  | .lst a ts, 0 => a :: T.rests ts 0
  | .lst _ ts, k + 1 => T.rests ts k
  | .non, _ => []
  | .bl _, _ => []
  | .int _, _ => []
  | .str _, _ => []
  | .exn _ _, _ => []
  | .dic a _ ts, 0 => a :: T.rests ts 0
  | .dic _ _ ts, k + 1 => T.rests ts k
  | .dit a _ ts, 0 => a :: T.rests ts 0
  | .dit _ _ ts, k + 1 => T.rests ts k
noncomputable def T.rests : List T → Nat → List Addr
  | [], _ => []
  | t :: r, k => t.rest k ++ T.rests r k
end
theorem T.ind {P : T → Prop} (h0 : P .non) (h1 : ∀ b, P (.bl b)) (h2 : ∀ i, P (.int i)) (h3 : ∀ x, P (.str x)) (h4 : ∀ a ts, (∀ t ∈ ts, P t) → P (.tup a ts)) (h5 : ∀ a ts, (∀ t ∈ ts, P t) → P (.lst a ts)) (h6 : ∀ a c, P (.exn a c)) (h7 : ∀ a ks ts, (∀ t ∈ ts, P t) → P (.dic a ks ts)) (h8 : ∀ a ks ts, (∀ t ∈ ts, P t) → P (.dit a ks ts)) : ∀ t, P t
  | .non => h0
  | .bl b => h1 b
  | .int i => h2 i
  | .str x => h3 x
  | .tup a ts => h4 a ts fun t h => T.ind h0 h1 h2 h3 h4 h5 h6 h7 h8 t
  | .lst a ts => h5 a ts fun t h => T.ind h0 h1 h2 h3 h4 h5 h6 h7 h8 t
  | .exn a c => h6 a c
  | .dic a ks ts => h7 a ks ts fun t h => T.ind h0 h1 h2 h3 h4 h5 h6 h7 h8 t
  | .dit a ks ts => h8 a ks ts fun t h => T.ind h0 h1 h2 h3 h4 h5 h6 h7 h8 t
termination_by t => t
theorem T.oks_iff {p : Px} {H : Hp} : ∀ {ts : List T}, T.Oks p H ts ↔ ∀ t ∈ ts, t.Ok p H
  | [] => by simp [T.Oks]
  | t :: r => by simp [T.Oks, T.oks_iff (ts := r)]
theorem T.mem_adrs {a : Addr} {k : Nat} : ∀ {ts : List T}, a ∈ T.adrs ts k ↔ ∃ t ∈ ts, a ∈ t.adr k
  | [] => by simp [T.adrs]
  | t :: r => by simp [T.adrs, T.mem_adrs (ts := r)]
theorem T.mem_rests {a : Addr} {k : Nat} : ∀ {ts : List T}, a ∈ T.rests ts k ↔ ∃ t ∈ ts, a ∈ t.rest k
  | [] => by simp [T.rests]
  | t :: r => by simp [T.rests, T.mem_rests (ts := r)]
theorem T.adrs_append {k : Nat} : ∀ {ts us : List T}, T.adrs (ts ++ us) k = T.adrs ts k ++ T.adrs us k
  | [], us => by simp [T.adrs]
  | t :: r, us => by simp [T.adrs, T.adrs_append (ts := r)]
theorem T.rests_append {k : Nat} : ∀ {ts us : List T}, T.rests (ts ++ us) k = T.rests ts k ++ T.rests us k
  | [], us => by simp [T.rests]
  | t :: r, us => by simp [T.rests, T.rests_append (ts := r)]
theorem T.adr_zero : ∀ t : T, t.adr 0 = [] := by
  refine T.ind rfl (fun _ => rfl) (fun _ => rfl) (fun _ => rfl) (fun a ts ih => ?_) (fun _ _ _ => by simp [T.adr]) (fun _ _ => rfl) (fun _ _ _ _ => by simp [T.adr]) (fun _ _ _ _ => by simp [T.adr])
  simp only [T.adr]
  refine List.eq_nil_iff_forall_not_mem.mpr fun b hb => ?_
  obtain ⟨t, ht, h⟩ := T.mem_adrs.mp hb
  rw [ih t ht] at h; cases h
theorem T.adrs_zero (ts : List T) : T.adrs ts 0 = [] := by
  refine List.eq_nil_iff_forall_not_mem.mpr fun b hb => ?_
  obtain ⟨t, ht, h⟩ := T.mem_adrs.mp hb
  rw [T.adr_zero] at h; cases h
theorem T.all_iff {a : Addr} : ∀ (t : T) (k : Nat), a ∈ t.rest 0 ↔ a ∈ t.adr k ∨ a ∈ t.rest k := by
  refine T.ind (by simp [T.rest, T.adr]) (by simp [T.rest, T.adr]) (by simp [T.rest, T.adr]) (by simp [T.rest, T.adr]) (fun b ts ih k => ?_) (fun b ts ih k => ?_) (by simp [T.rest, T.adr]) (fun b ks ts ih k => ?_) (fun b ks ts ih k => ?_)
  · simp only [T.rest, T.adr, T.mem_rests, T.mem_adrs]
    constructor
    · rintro ⟨t, ht, h⟩
      rcases (ih t ht k).mp h with h | h
      · exact .inl ⟨t, ht, h⟩
      · exact .inr ⟨t, ht, h⟩
    · rintro (⟨t, ht, h⟩ | ⟨t, ht, h⟩)
      · exact ⟨t, ht, (ih t ht k).mpr (.inl h)⟩
      · exact ⟨t, ht, (ih t ht k).mpr (.inr h)⟩
  · cases k with
    | zero => simp [T.adr]
    | succ k =>
      simp only [T.rest, T.adr, T.mem_rests, T.mem_adrs, List.mem_cons]
      constructor
      · rintro (h | ⟨t, ht, h⟩)
        · exact .inl (.inl h)
        rcases (ih t ht k).mp h with h | h
        · exact .inl (.inr ⟨t, ht, h⟩)
        · exact .inr ⟨t, ht, h⟩
      · rintro ((h | ⟨t, ht, h⟩) | ⟨t, ht, h⟩)
        · exact .inl h
        · exact .inr ⟨t, ht, (ih t ht k).mpr (.inl h)⟩
        · exact .inr ⟨t, ht, (ih t ht k).mpr (.inr h)⟩
  · cases k with
    | zero => simp [T.adr]
    | succ k =>
      simp only [T.rest, T.adr, T.mem_rests, T.mem_adrs, List.mem_cons]
      constructor
      · rintro (h | ⟨t, ht, h⟩)
        · exact .inl (.inl h)
        rcases (ih t ht k).mp h with h | h
        · exact .inl (.inr ⟨t, ht, h⟩)
        · exact .inr ⟨t, ht, h⟩
      · rintro ((h | ⟨t, ht, h⟩) | ⟨t, ht, h⟩)
        · exact .inl h
        · exact .inr ⟨t, ht, (ih t ht k).mpr (.inl h)⟩
        · exact .inr ⟨t, ht, (ih t ht k).mpr (.inr h)⟩
  · cases k with
    | zero => simp [T.adr]
    | succ k =>
      simp only [T.rest, T.adr, T.mem_rests, T.mem_adrs, List.mem_cons]
      constructor
      · rintro (h | ⟨t, ht, h⟩)
        · exact .inl (.inl h)
        rcases (ih t ht k).mp h with h | h
        · exact .inl (.inr ⟨t, ht, h⟩)
        · exact .inr ⟨t, ht, h⟩
      · rintro ((h | ⟨t, ht, h⟩) | ⟨t, ht, h⟩)
        · exact .inl h
        · exact .inr ⟨t, ht, (ih t ht k).mpr (.inl h)⟩
        · exact .inr ⟨t, ht, (ih t ht k).mpr (.inr h)⟩
theorem T.alls_iff {a : Addr} (ts : List T) (k : Nat) : a ∈ T.rests ts 0 ↔ a ∈ T.adrs ts k ∨ a ∈ T.rests ts k := by
  simp only [T.mem_rests, T.mem_adrs]
  constructor
  · rintro ⟨t, ht, h⟩
    rcases (T.all_iff t k).mp h with h | h
    · exact .inl ⟨t, ht, h⟩
    · exact .inr ⟨t, ht, h⟩
  · rintro (⟨t, ht, h⟩ | ⟨t, ht, h⟩)
    · exact ⟨t, ht, (T.all_iff t k).mpr (.inl h)⟩
    · exact ⟨t, ht, (T.all_iff t k).mpr (.inr h)⟩
theorem T.rest_le {a : Addr} : ∀ (t : T) {j j' : Nat}, j ≤ j' → a ∈ t.rest j' → a ∈ t.rest j := by
  refine T.ind (by simp [T.rest]) (by simp [T.rest]) (by simp [T.rest]) (by simp [T.rest]) (fun b ts ih j j' hj h => ?_) (fun b ts ih j j' hj h => ?_) (by simp [T.rest]) (fun b ks ts ih j j' hj h => ?_) (fun b ks ts ih j j' hj h => ?_)
  · simp only [T.rest, T.mem_rests] at h ⊢
    obtain ⟨t, ht, h⟩ := h
    exact ⟨t, ht, ih t ht hj h⟩
  · cases j' with
    | zero => cases Nat.le_zero.mp hj; exact h
    | succ j' =>
      simp only [T.rest, T.mem_rests] at h
      obtain ⟨t, ht, h⟩ := h
      cases j with
      | zero => exact List.mem_cons_of_mem _ (T.mem_rests.mpr ⟨t, ht, ih t ht (Nat.zero_le _) h⟩)
      | succ j => exact T.mem_rests.mpr ⟨t, ht, ih t ht (Nat.le_of_succ_le_succ hj) h⟩
  · cases j' with
    | zero => cases Nat.le_zero.mp hj; exact h
    | succ j' =>
      simp only [T.rest, T.mem_rests] at h
      obtain ⟨t, ht, h⟩ := h
      cases j with
      | zero => exact List.mem_cons_of_mem _ (T.mem_rests.mpr ⟨t, ht, ih t ht (Nat.zero_le _) h⟩)
      | succ j => exact T.mem_rests.mpr ⟨t, ht, ih t ht (Nat.le_of_succ_le_succ hj) h⟩
  · cases j' with
    | zero => cases Nat.le_zero.mp hj; exact h
    | succ j' =>
      simp only [T.rest, T.mem_rests] at h
      obtain ⟨t, ht, h⟩ := h
      cases j with
      | zero => exact List.mem_cons_of_mem _ (T.mem_rests.mpr ⟨t, ht, ih t ht (Nat.zero_le _) h⟩)
      | succ j => exact T.mem_rests.mpr ⟨t, ht, ih t ht (Nat.le_of_succ_le_succ hj) h⟩
theorem T.adr_le {a : Addr} : ∀ (t : T) {j j' : Nat}, j ≤ j' → a ∈ t.adr j → a ∈ t.adr j' := by
  refine T.ind (by simp [T.adr]) (by simp [T.adr]) (by simp [T.adr]) (by simp [T.adr]) (fun b ts ih j j' hj h => ?_) (fun b ts ih j j' hj h => ?_) (by simp [T.adr]) (fun b ks ts ih j j' hj h => ?_) (fun b ks ts ih j j' hj h => ?_)
  · simp only [T.adr, T.mem_adrs] at h ⊢
    obtain ⟨t, ht, h⟩ := h
    exact ⟨t, ht, ih t ht hj h⟩
  · cases j with
    | zero => simp [T.adr] at h
    | succ j =>
      cases j' with
      | zero => omega
      | succ j' =>
        simp only [T.adr, List.mem_cons, T.mem_adrs] at h ⊢
        rcases h with h | ⟨t, ht, h⟩
        · exact .inl h
        · exact .inr ⟨t, ht, ih t ht (Nat.le_of_succ_le_succ hj) h⟩
  · cases j with
    | zero => simp [T.adr] at h
    | succ j =>
      cases j' with
      | zero => omega
      | succ j' =>
        simp only [T.adr, List.mem_cons, T.mem_adrs] at h ⊢
        rcases h with h | ⟨t, ht, h⟩
        · exact .inl h
        · exact .inr ⟨t, ht, ih t ht (Nat.le_of_succ_le_succ hj) h⟩
  · cases j with
    | zero => simp [T.adr] at h
    | succ j =>
      cases j' with
      | zero => omega
      | succ j' =>
        simp only [T.adr, List.mem_cons, T.mem_adrs] at h ⊢
        rcases h with h | ⟨t, ht, h⟩
        · exact .inl h
        · exact .inr ⟨t, ht, ih t ht (Nat.le_of_succ_le_succ hj) h⟩
noncomputable def T.Nd (t : T) (k : Nat) : Prop := (t.adr k).Nodup ∧ ∀ a ∈ t.rest k, a ∉ t.adr k
noncomputable def T.Nds (ts : List T) (k : Nat) : Prop := (T.adrs ts k).Nodup ∧ ∀ a ∈ T.rests ts k, a ∉ T.adrs ts k
theorem T.nd_zero (t : T) : t.Nd 0 := by unfold T.Nd; rw [T.adr_zero]; exact ⟨List.nodup_nil, fun _ _ h => nomatch h⟩
theorem T.nds_zero (ts : List T) : T.Nds ts 0 := by unfold T.Nds; rw [T.adrs_zero]; exact ⟨List.nodup_nil, fun _ _ h => nomatch h⟩
theorem T.nds_cons {t : T} {r : List T} {k : Nat} : T.Nds (t :: r) k ↔ t.Nd k ∧ T.Nds r k ∧ (∀ a ∈ t.adr k, a ∉ T.rests r 0) ∧ (∀ a ∈ T.adrs r k, a ∉ t.rest 0) := by
  unfold T.Nds T.Nd
  simp only [T.adrs, T.rests, List.nodup_append, List.mem_append]
  constructor
  · rintro ⟨⟨n1, n2, n3⟩, h⟩
    refine ⟨⟨n1, fun a ha hb => h a (.inl ha) (.inl hb)⟩, ⟨n2, fun a ha hb => h a (.inr ha) (.inr hb)⟩, fun a ha hb => ?_, fun a ha hb => ?_⟩
    · rcases (T.alls_iff r k).mp hb with q | q
      · exact n3 a ha a q rfl
      · exact h a (.inr q) (.inl ha)
    · rcases (T.all_iff t k).mp hb with q | q
      · exact n3 a q a ha rfl
      · exact h a (.inl q) (.inr ha)
  · rintro ⟨⟨n1, h1⟩, ⟨n2, h2⟩, c1, c2⟩
    refine ⟨⟨n1, n2, fun a ha b hb e => ?_⟩, fun a ha hb => ?_⟩
    · subst e
      exact c1 a ha ((T.alls_iff r k).mpr (.inl hb))
    · rcases ha with ha | ha <;> rcases hb with hb | hb
      · exact h1 a ha hb
      · exact c2 a hb ((T.all_iff t k).mpr (.inr ha))
      · exact c1 a hb ((T.alls_iff r k).mpr (.inr ha))
      · exact h2 a ha hb
theorem T.nd_down : ∀ (t : T) {k : Nat}, t.Nd (k + 1) → t.Nd k := by
  have lists : ∀ (ts : List T), (∀ t ∈ ts, ∀ {k : Nat}, t.Nd (k + 1) → t.Nd k) → ∀ {k : Nat}, T.Nds ts (k + 1) → T.Nds ts k := by
    intro ts
    induction ts with
    | nil => intro _ k _; exact ⟨by simp [T.adrs], by simp [T.rests]⟩
    | cons t r ih =>
      intro h k n
      obtain ⟨n1, n2, c1, c2⟩ := T.nds_cons.mp n
      exact T.nds_cons.mpr ⟨h t (List.mem_cons_self ..) n1, ih (fun u hu => h u (List.mem_cons_of_mem _ hu)) n2, fun a ha => c1 a (T.adr_le t (Nat.le_succ k) ha), fun a ha => c2 a (by
        obtain ⟨u, hu, hq⟩ := T.mem_adrs.mp ha
        exact T.mem_adrs.mpr ⟨u, hu, T.adr_le u (Nat.le_succ k) hq⟩)⟩
  refine T.ind (fun _ => by simp [T.Nd, T.adr]) (fun _ _ => by simp [T.Nd, T.adr]) (fun _ _ => by simp [T.Nd, T.adr]) (fun _ _ => by simp [T.Nd, T.adr]) (fun a ts ih k n => ?_) (fun a ts ih k n => ?_) (fun _ _ _ => by simp [T.Nd, T.adr]) (fun a ks ts ih k n => ?_) (fun a ks ts ih k n => ?_)
  · exact lists ts ih n
  · cases k with
    | zero => exact T.nd_zero _
    | succ k =>
      obtain ⟨n1, n2⟩ := n
      simp only [T.adr, T.rest, List.nodup_cons] at n1 n2
      have := lists ts ih (k := k) ⟨n1.2, fun b hb hc => n2 b hb (List.mem_cons_of_mem _ hc)⟩
      refine ⟨?_, ?_⟩
      · simp only [T.adr, List.nodup_cons]
        refine ⟨fun h => n1.1 ?_, this.1⟩
        obtain ⟨u, hu, hq⟩ := T.mem_adrs.mp h
        exact T.mem_adrs.mpr ⟨u, hu, T.adr_le u (Nat.le_succ k) hq⟩
      · intro b hb hc
        simp only [T.adr, T.rest, List.mem_cons] at hb hc
        rcases hc with rfl | hc
        · have h0 := (T.alls_iff ts (k + 1)).mp ((T.alls_iff ts k).mpr (.inr hb))
          rcases h0 with h0 | h0
          · exact n1.1 h0
          · exact n2 b h0 (List.mem_cons_self ..)
        · exact this.2 b hb hc
  · cases k with
    | zero => exact T.nd_zero _
    | succ k =>
      obtain ⟨n1, n2⟩ := n
      simp only [T.adr, T.rest, List.nodup_cons] at n1 n2
      have := lists ts ih (k := k) ⟨n1.2, fun b hb hc => n2 b hb (List.mem_cons_of_mem _ hc)⟩
      refine ⟨?_, ?_⟩
      · simp only [T.adr, List.nodup_cons]
        refine ⟨fun h => n1.1 ?_, this.1⟩
        obtain ⟨u, hu, hq⟩ := T.mem_adrs.mp h
        exact T.mem_adrs.mpr ⟨u, hu, T.adr_le u (Nat.le_succ k) hq⟩
      · intro b hb hc
        simp only [T.adr, T.rest, List.mem_cons] at hb hc
        rcases hc with rfl | hc
        · have h0 := (T.alls_iff ts (k + 1)).mp ((T.alls_iff ts k).mpr (.inr hb))
          rcases h0 with h0 | h0
          · exact n1.1 h0
          · exact n2 b h0 (List.mem_cons_self ..)
        · exact this.2 b hb hc
  · cases k with
    | zero => exact T.nd_zero _
    | succ k =>
      obtain ⟨n1, n2⟩ := n
      simp only [T.adr, T.rest, List.nodup_cons] at n1 n2
      have := lists ts ih (k := k) ⟨n1.2, fun b hb hc => n2 b hb (List.mem_cons_of_mem _ hc)⟩
      refine ⟨?_, ?_⟩
      · simp only [T.adr, List.nodup_cons]
        refine ⟨fun h => n1.1 ?_, this.1⟩
        obtain ⟨u, hu, hq⟩ := T.mem_adrs.mp h
        exact T.mem_adrs.mpr ⟨u, hu, T.adr_le u (Nat.le_succ k) hq⟩
      · intro b hb hc
        simp only [T.adr, T.rest, List.mem_cons] at hb hc
        rcases hc with rfl | hc
        · have h0 := (T.alls_iff ts (k + 1)).mp ((T.alls_iff ts k).mpr (.inr hb))
          rcases h0 with h0 | h0
          · exact n1.1 h0
          · exact n2 b h0 (List.mem_cons_self ..)
        · exact this.2 b hb hc
theorem T.nd_le (t : T) {k k' : Nat} (h : k ≤ k') (n : t.Nd k') : t.Nd k := by
  induction k' with
  | zero => cases Nat.le_zero.mp h; exact n
  | succ k' ih =>
    rcases Nat.lt_or_ge k (k' + 1) with q | q
    · exact ih (Nat.le_of_lt_succ q) (T.nd_down t n)
    · cases Nat.le_antisymm h q; exact n
theorem T.nds_le {ts : List T} {k k' : Nat} (h : k ≤ k') (n : T.Nds ts k') : T.Nds ts k := by
  have := T.nd_le (.tup 0 ts) h (k' := k') n
  exact this
noncomputable def HO.mu : HO → Bool
  | .lst _ => true
  | .dK _ => true
  | .dT _ => true
  | _ => false
noncomputable def Mu (H : Hp) (a : Addr) : Prop := ∃ o, H a = some o ∧ HO.mu o = true
theorem Mu.l {H : Hp} {a : Addr} {vs : List V} (h : H a = some (.lst vs)) : Mu H a := ⟨_, h, rfl⟩
theorem exO_mu {p : Px} {a : Addr} {c : Nat} : HO.mu (exO p a c) = false := by
  unfold exO
  split <;> rfl
theorem T.Ok.keep' {p : Px} {H H' : Hp} : ∀ (t : T), (∀ a u, H a = some u → (a ∈ t.rest 0 ∨ HO.mu u = false) → H' a = some u) → t.Ok p H → t.Ok p H' := by
  refine T.ind (P := fun t => (∀ a u, H a = some u → (a ∈ t.rest 0 ∨ HO.mu u = false) → H' a = some u) → t.Ok p H → t.Ok p H') (fun _ h => h) (fun _ _ h => h) (fun _ _ h => h) (fun _ _ h => h) (fun a ts ih k h => ?_) (fun a ts ih k h => ?_) (fun a c k h => ?_) (fun a ks ts ih k h => ?_) (fun a ks ts ih k h => ?_)
  · obtain ⟨h1, h2⟩ := h
    refine ⟨k _ _ h1 (.inr rfl), T.oks_iff.mpr fun t ht => ih t ht (fun b u e q => k b u e ?_) (T.oks_iff.mp h2 t ht)⟩
    rcases q with q | q
    · exact .inl (T.mem_rests.mpr ⟨t, ht, q⟩)
    · exact .inr q
  · obtain ⟨h1, h2⟩ := h
    refine ⟨?_, T.oks_iff.mpr fun t ht => ih t ht (fun b u e q => k b u e ?_) (T.oks_iff.mp h2 t ht)⟩
    · rcases h1 with h1 | ⟨o, h1⟩
      · exact .inl (k _ _ h1 (.inl (List.mem_cons_self ..)))
      · exact .inr ⟨o, k _ _ h1 (.inl (List.mem_cons_self ..))⟩
    · rcases q with q | q
      · exact .inl (List.mem_cons_of_mem _ (T.mem_rests.mpr ⟨t, ht, q⟩))
      · exact .inr q
  · rcases h with ⟨h, lt⟩ | ⟨⟨dx, ob, h1, h2, h3⟩, ge⟩
    · exact .inl ⟨⟨k _ _ h.1 (.inr exO_mu), h.2⟩, lt⟩
    · exact .inr ⟨⟨dx, ob, k _ _ h1 (.inr rfl), k _ _ h2 (.inr rfl), h3⟩, ge⟩
  · obtain ⟨⟨h1, h3⟩, h2⟩ := h
    refine ⟨⟨k _ _ h1 (.inl (List.mem_cons_self ..)), h3⟩, T.oks_iff.mpr fun t ht => ih t ht (fun b u e q => k b u e ?_) (T.oks_iff.mp h2 t ht)⟩
    rcases q with q | q
    · exact .inl (List.mem_cons_of_mem _ (T.mem_rests.mpr ⟨t, ht, q⟩))
    · exact .inr q
  · obtain ⟨⟨h1, h3⟩, h2⟩ := h
    refine ⟨⟨k _ _ h1 (.inl (List.mem_cons_self ..)), h3⟩, T.oks_iff.mpr fun t ht => ih t ht (fun b u e q => k b u e ?_) (T.oks_iff.mp h2 t ht)⟩
    rcases q with q | q
    · exact .inl (List.mem_cons_of_mem _ (T.mem_rests.mpr ⟨t, ht, q⟩))
    · exact .inr q
theorem T.Ok.keep {p : Px} {H H' : Hp} {t : T} (k : ∀ a u, H a = some u → (a ∈ t.rest 0 ∨ HO.mu u = false) → H' a = some u) (h : t.Ok p H) : t.Ok p H' := T.Ok.keep' t k h
theorem T.Ok.same {p : Px} {H H' : Hp} {t : T} (s : Same H H') (h : t.Ok p H) : t.Ok p H' := h.keep fun a u e _ => s a u e
theorem T.Oks.same {p : Px} {H H' : Hp} {ts : List T} (s : Same H H') (h : T.Oks p H ts) : T.Oks p H' ts := T.oks_iff.mpr fun t ht => (T.oks_iff.mp h t ht).same s
theorem Rd_some {H : Hp} {a : Addr} {u : HO} (h : Rd H a u) : H a ≠ none := by
  rcases h with h | ⟨o, h⟩ <;> rw [h] <;> simp
theorem T.Ok.dom' {p : Px} {H : Hp} {a : Addr} : ∀ (t : T), t.Ok p H → a ∈ t.rest 0 → H a ≠ none := by
  refine T.ind (P := fun t => t.Ok p H → a ∈ t.rest 0 → H a ≠ none) (fun _ h => nomatch h) (fun _ _ h => nomatch h) (fun _ _ h => nomatch h) (fun _ _ h => nomatch h) (fun b ts ih k h => ?_) (fun b ts ih k h => ?_) (fun _ _ _ h => nomatch h) (fun b ks ts ih k h => ?_) (fun b ks ts ih k h => ?_)
  · obtain ⟨t, ht, q⟩ := T.mem_rests.mp h
    exact ih t ht (T.oks_iff.mp k.2 t ht) q
  · rcases List.mem_cons.mp h with rfl | h
    · exact Rd_some k.1
    · obtain ⟨t, ht, q⟩ := T.mem_rests.mp h
      exact ih t ht (T.oks_iff.mp k.2 t ht) q
  · rcases List.mem_cons.mp h with rfl | h
    · rw [k.1.1]; exact fun z => nomatch z
    · obtain ⟨t, ht, q⟩ := T.mem_rests.mp h
      exact ih t ht (T.oks_iff.mp k.2 t ht) q
  · rcases List.mem_cons.mp h with rfl | h
    · rw [k.1.1]; exact fun z => nomatch z
    · obtain ⟨t, ht, q⟩ := T.mem_rests.mp h
      exact ih t ht (T.oks_iff.mp k.2 t ht) q
theorem T.Ok.dom {p : Px} {H : Hp} {a : Addr} {t : T} (h : t.Ok p H) (m : a ∈ t.rest 0) : H a ≠ none := T.Ok.dom' t h m
theorem T.Ok.domk {p : Px} {H : Hp} {a : Addr} {t : T} {k : Nat} (h : t.Ok p H) (m : a ∈ t.adr k) : H a ≠ none := h.dom ((T.all_iff t k).mpr (.inl m))
end Pu
end
section
namespace Pu
open PySem PySem.Spec PyProof.Rows PySem.W L2
noncomputable def gj (c : Bool) (x : Nat × Nat) : Option (Nat × Nat) := if c then some x else none
mutual
noncomputable def jk (tn : List Nat) : E → Option (Nat × Nat)
  | .nm i => match tn[i]? with
    | some j => gj (decide (j < 90)) (j, 0)
    | none => none
  | .cN => some (0, 9)
  | .cB _ => some (0, 9)
  | .cI _ => some (0, 9)
  | .cS _ => some (0, 9)
  | .gl _ d => gj (D.scal d) (0, 9)
  | .tup es => jks tn es
  | .lst es => (jks tn es).bind fun x => some (if x.1 = 0 then (0, x.2 + 1) else (x.1 + 1, 0))
  | .bin _ a b => (jk tn a).bind fun x => (jk tn b).bind fun y => gj (decide (x.1 ≤ 1) && decide (y.1 ≤ 1)) (0, 1)
  | .neg a => (jk tn a).bind fun _ => some (0, 9)
  | .not a => (jk tn a).bind fun _ => some (0, 9)
  | .cmp _ a b => (jk tn a).bind fun _ => (jk tn b).bind fun _ => some (0, 9)
  | .chain _ _ a b c => (jk tn a).bind fun _ => (jk tn b).bind fun _ => (jk tn c).bind fun _ => some (0, 9)
  | .isN _ a => (jk tn a).bind fun _ => some (0, 9)
  | .bo _ es => jks tn es
  | .ix a i => (jk tn a).bind fun x => (jk tn i).bind fun _ => gj (decide (x.1 = 0)) (0, 0)
  | .ixL a i => (jk tn a).bind fun x => (jk tn i).bind fun _ => some (x.1 - 1, 0)
  | .dNew => some (0, 9)
  | .slc a lo hi => (jk tn a).bind fun x => (jk tn lo).bind fun _ => (jk tn hi).bind fun _ => gj (decide (x.1 ≤ 1)) (0, 1)
  | .call f es => (jks tn es).bind fun x => gj (decide (x.1 = 0)) (0, f.dep)
  | .callB f es => (jks tn es).bind fun _ => some (0, 9)
  | .bi b es => (jks tn es).bind fun x => match b with
    | .list => gj (decide (x.1 = 0)) (0, 1)
    | .listL => gj (decide (x.1 ≤ 1)) (0, 1)
    | _ => some (0, 9)
  | .isi a _ => (jk tn a).bind fun _ => some (0, 9)
  | .isiM a _ => (jk tn a).bind fun _ => some (0, 9)
  | .callH f es => (jks tn es).bind fun x => gj (decide (x.1 = 0)) (0, f.dep)
  | .atX a => (jk tn a).bind fun _ => some (0, 9)
noncomputable def jks (tn : List Nat) : Es → Option (Nat × Nat)
  | .nil => some (0, 9)
  | .cons e r => (jk tn e).bind fun x => (jks tn r).bind fun y => some (max x.1 y.1, if max x.1 y.1 = 0 then min x.2 y.2 else 0)
noncomputable def jkI (tn : List Nat) : It → Option Nat
  | .seq e => (jk tn e).bind fun x => if x.1 = 0 then some 0 else none
  | .seqL e => (jk tn e).bind fun x => if x.1 ≤ 1 then some x.1 else none
  | .r1 a => (jk tn a).bind fun _ => some 0
  | .en e => (jk tn e).bind fun x => if x.1 ≤ 1 then some x.1 else none
end
noncomputable abbrev St := L2.St
noncomputable abbrev Ft := List (Option T)
noncomputable def vτ (τ : Ft) : St := τ.map (Option.map T.val)
noncomputable def dτ (τ : Ft) : Fr := τ.map (Option.map T.dat)
noncomputable def Fok (p : Px) (tn : List Nat) (τ : Ft) (H : Hp) : Prop := ∀ (i : Nat) (t : T) (j : Nat), τ[i]? = some (some t) → tn[i]? = some j → j < 90 → t.Ok p H
noncomputable def Sh (tn : List Nat) (τ : Ft) (a : Addr) : Prop := ∃ (i : Nat) (t : T) (j : Nat), τ[i]? = some (some t) ∧ tn[i]? = some j ∧ j < 90 ∧ a ∈ t.rest j
theorem Fok.same {p : Px} {tn : List Nat} {τ : Ft} {H H' : Hp} (h : Fok p tn τ H) (s : Same H H') : Fok p tn τ H' := fun i t j e e' l => (h i t j e e' l).same s
theorem Fok.dom {p : Px} {tn : List Nat} {τ : Ft} {H : Hp} (h : Fok p tn τ H) {a : Addr} (s : Sh tn τ a) : H a ≠ none := by
  obtain ⟨i, t, j, e, e', l, m⟩ := s
  exact (h i t j e e' l).dom (T.rest_le t (Nat.zero_le j) m)
theorem vτ_get {τ : Ft} {i : Nat} {t : T} (h : τ[i]? = some (some t)) : (vτ τ)[i]? = some (some t.val) := by simp [vτ, h]
theorem dτ_get {τ : Ft} {i : Nat} {d : D} (h : get (dτ τ) i = .ok d) : ∃ t, τ[i]? = some (some t) ∧ t.dat = d := by
  unfold get dτ at h
  rw [List.getElem?_map] at h
  cases q : τ[i]? with
  | none => rw [q] at h; cases h
  | some o =>
    rw [q] at h
    cases o with
    | none => cases h
    | some t => exact ⟨t, rfl, by simpa using h⟩
structure Rs (p : Px) (B : Addr → Prop) (H H' : Hp) (j k : Nat) (t : T) : Prop where
  same : Same H H'
  ok : t.Ok p H'
  src : ∀ a ∈ t.rest j, H a = none ∨ B a
  new : ∀ a ∈ t.adr k, H a = none ∧ Mu H' a
  nd : t.Nd k
structure RsL (p : Px) (B : Addr → Prop) (H H' : Hp) (j k : Nat) (ts : List T) : Prop where
  same : Same H H'
  ok : T.Oks p H' ts
  src : ∀ a ∈ T.rests ts j, H a = none ∨ B a
  new : ∀ a ∈ T.adrs ts k, H a = none ∧ Mu H' a
  nd : T.Nds ts k
theorem Rs.back {p : Px} {B : Addr → Prop} {H H1 H2 : Hp} {j k : Nat} {t : T} (r : Rs p B H1 H2 j k t) (s : Same H H1) : Rs p B H H2 j k t :=
  ⟨s.trans r.same, r.ok, fun a m => (r.src a m).imp s.free id, fun a m => ⟨s.free (r.new a m).1, (r.new a m).2⟩, r.nd⟩
theorem Rs.fwd {p : Px} {B : Addr → Prop} {H H1 H2 : Hp} {j k : Nat} {t : T} (r : Rs p B H H1 j k t) (s : Same H1 H2) : Rs p B H H2 j k t :=
  ⟨r.same.trans s, r.ok.same s, r.src, fun a m => ⟨(r.new a m).1, let ⟨vs, e, mu⟩ := (r.new a m).2; ⟨vs, s _ _ e, mu⟩⟩, r.nd⟩
theorem Rs.le {p : Px} {B : Addr → Prop} {H H1 : Hp} {j k j' k' : Nat} {t : T} (r : Rs p B H H1 j k t) (hj : j ≤ j') (hk : k' ≤ k) : Rs p B H H1 j' k' t :=
  ⟨r.same, r.ok, fun a m => r.src a (T.rest_le t hj m), fun a m => r.new a (T.adr_le t hk m), T.nd_le t hk r.nd⟩
theorem RsL.back {p : Px} {B : Addr → Prop} {H H1 H2 : Hp} {j k : Nat} {t : List T} (r : RsL p B H1 H2 j k t) (s : Same H H1) : RsL p B H H2 j k t :=
  ⟨s.trans r.same, r.ok, fun a m => (r.src a m).imp s.free id, fun a m => ⟨s.free (r.new a m).1, (r.new a m).2⟩, r.nd⟩
noncomputable def T.sc : T → Bool
  | .non => true
  | .bl _ => true
  | .int _ => true
  | .str _ => true
  | _ => false
theorem Rs.scal {p : Px} {B : Addr → Prop} {H H' : Hp} {j k : Nat} {t : T} (s : Same H H') (h : t.sc = true) : Rs p B H H' j k t := by
  cases t <;> first | exact ⟨s, trivial, by simp [T.rest], by simp [T.adr], by simp [T.Nd, T.adr]⟩ | cases h
noncomputable def OdAt (c : Nat) (H : Hp) (od : Option Addr) : Prop := (c < 1000 ∧ od = none) ∨ (1000 ≤ c ∧ ∃ dx ob, od = some dx ∧ H dx = some (.frz ob (.xd [("at", .int (xatI c))])))
noncomputable def XW (p : Px) (E : XK) (c : Nat) (H : Hp) : Prop := ∀ od, OdAt c H od → E (.ref (p.cl (kcX c))) od H
noncomputable def Lg {α : Type} (p : Px) (EX : EXT) (σ : St) (r : Res α) (H : Hp) (Kc : α → Prop) : Prop := match r with
  | .ok a => Kc a
  | .exc c => p.has (kcX c) = true → ∀ H', Same H H' → XW p (EX σ) c H'
  | .bad => False
theorem Lg.bind {α β : Type} {p : Px} {EX : EXT} {σ : St} {r : Res α} {f : α → Res β} {H : Hp} {Kc : β → Prop} (h : Lg p EX σ (r.bind f) H Kc) : Lg p EX σ r H fun a => Lg p EX σ (f a) H Kc := by
  cases r <;> exact h
theorem Lg.mono {α : Type} {p : Px} {EX : EXT} {σ : St} {r : Res α} {H H1 : Hp} {Kc Kc' : α → Prop} (h : Lg p EX σ r H Kc) (s : Same H H1) (m : ∀ a, r = .ok a → Kc a → Kc' a) : Lg p EX σ r H1 Kc' := by
  cases r with
  | ok a => exact m a rfl h
  | exc c => exact fun hc H' s' => h hc H' (s.trans s')
  | bad => exact h
theorem Lg.guard {α : Type} {p : Px} {EX : EXT} {σ : St} {c : Prop} [Decidable c] {r : Res α} {H : Hp} {Kc : α → Prop} (h : Lg p EX σ (if c then r else .bad) H Kc) : c ∧ Lg p EX σ r H Kc := by
  split at h
  · exact ⟨‹_›, h⟩
  · exact (show False from h).elim
noncomputable abbrev KE (p : Px) (B : Addr → Prop) (H : Hp) (j k : Nat) (Q : VK) : D → Prop := fun d => ∀ t H', t.dat = d → Rs p B H H' j k t → Q t.val H'
noncomputable abbrev KL (p : Px) (B : Addr → Prop) (H : Hp) (j k : Nat) (Q : List V → Hp → Prop) : List D → Prop := fun ds => ∀ ts H', T.dats ts = ds → RsL p B H H' j k ts → Q (ts.map T.val) H'
noncomputable def lE (p : Px) (EX : EXT) (tn : List Nat) (e : E) : TE := fun σ H Q => ∃ τ, σ = vτ τ ∧ Fok p tn τ H ∧ ∃ j k, jk tn e = some (j, k) ∧ Lg p EX σ (ev e (dτ τ)) H (KE p (Sh tn τ) H j k Q)
noncomputable def lEs (p : Px) (EX : EXT) (tn : List Nat) (es : Es) : TA := fun σ H Q => ∃ τ, σ = vτ τ ∧ Fok p tn τ H ∧ ∃ j k, jks tn es = some (j, k) ∧ Lg p EX σ (evs es (dτ τ)) H (KL p (Sh tn τ) H j k Q)
noncomputable def lT (p : Px) (EX : EXT) (tn : List Nat) (e : E) : TT := fun σ H Q => ∃ τ, σ = vτ τ ∧ Fok p tn τ H ∧ (jk tn e).isSome = true ∧ Lg p EX σ (tv e (dτ τ)) H fun b => ∀ H', Same H H' → Q b H'
theorem PE.mono {X : Cx} {e : Expr} {t t' : TE} (h : PE X e t) (m : ∀ σ H Q, t' σ H Q → t σ H Q) : PE X e t' := fun pins s σ H Q I q => h pins s σ H Q I (m _ _ _ q)
theorem PT.mono {X : Cx} {e : Expr} {t t' : TT} (h : PT X e t) (m : ∀ σ H Q, t' σ H Q → t σ H Q) : PT X e t' := fun pins s σ H Q I q => h pins s σ H Q I (m _ _ _ q)
theorem PA.mono {X : Cx} {e : List Expr} {t t' : TA} (h : PA X e t) (m : ∀ σ H Q, t' σ H Q → t σ H Q) : PA X e t' := fun pos pins s σ H Q I q => h pos pins s σ H Q I (m _ _ _ q)
section
variable {p : Px} {EX : EXT} {tn : List Nat} {X : Cx} {pos : Pos}
theorem gj_eq {c : Bool} {x : Nat × Nat} {j k : Nat} (h : gj c x = some (j, k)) : c = true ∧ x = (j, k) := by
  unfold gj at h
  split at h
  · exact ⟨‹_›, Option.some.inj h⟩
  · cases h
theorem l1 {x : E} {β : Type} {f : D → Res β} {τ : Ft} {H : Hp} {Kc : β → Prop} {Q : VK} {ja ka : Nat} (hF : Fok p tn τ H) (hj : jk tn x = some (ja, ka)) (h : Lg p EX (vτ τ) ((ev x (dτ τ)).bind f) H Kc)
    (m : ∀ d t H1, t.dat = d → Rs p (Sh tn τ) H H1 ja ka t → Lg p EX (vτ τ) (f d) H Kc → Q t.val H1) : lE p EX tn x (vτ τ) H Q :=
  ⟨τ, rfl, hF, ja, ka, hj, h.bind.mono (Same.refl _) fun d _ hd t H1 ht R => m d t H1 ht R hd⟩
theorem l2 {x : E} {β : Type} {f : D → Res β} {τ : Ft} {H H1 : Hp} {Kc : β → Prop} {Q : VK} {ja ka : Nat} (hF : Fok p tn τ H) (s : Same H H1) (hj : jk tn x = some (ja, ka)) (h : Lg p EX (vτ τ) ((ev x (dτ τ)).bind f) H Kc)
    (m : ∀ d t H2, t.dat = d → Rs p (Sh tn τ) H1 H2 ja ka t → Lg p EX (vτ τ) (f d) H Kc → Q t.val H2) : lE p EX tn x (vτ τ) H1 Q :=
  ⟨τ, rfl, hF.same s, ja, ka, hj, h.bind.mono s fun d _ hd t H2 ht R => m d t H2 ht R hd⟩
theorem snd_nm {i : Nat} {x : Str} (hN : X.N[i]? = some x) (hv : Vis X.env.scope x) (hd : (x == ("__debug__" : Str)) = false) (hcd : (x == ("__classdict__" : Str)) = false) : PE X (.Name x pos) (lE p EX tn (.nm i)) := by
  refine PE.mono (pe_var hN hv hd hcd) fun σ H Q h => ?_
  obtain ⟨τ, rfl, hF, j, k, hj, h⟩ := h
  simp only [jk] at hj
  split at hj
  · rename_i j' hj'
    obtain ⟨hlt, e⟩ := gj_eq hj
    cases e
    simp only [ev] at h
    cases q : get (dτ τ) i with
    | ok d =>
      rw [q] at h
      obtain ⟨t, ht, e⟩ := dτ_get q
      exact ⟨t.val, vτ_get ht, h t H e ⟨Same.refl _, hF i t j ht hj' (of_decide_eq_true hlt), fun a m => .inr ⟨i, t, j, ht, hj', of_decide_eq_true hlt, m⟩, by rw [T.adr_zero]; simp, T.nd_zero t⟩⟩
    | exc c => rw [q] at h; unfold get at q; split at q <;> cases q
    | bad => rw [q] at h; exact h.elim
  · cases hj
theorem snd_c {e : Expr} {x : E} {t : T} (hp : PE X e (tC t.val)) (hs : t.sc = true) (he : ∀ δ, ev x δ = .ok t.dat) : PE X e (lE p EX tn x) := by
  refine PE.mono hp fun σ H Q h => ?_
  obtain ⟨τ, rfl, hF, j, k, hj, h⟩ := h
  rw [he] at h
  exact h t H rfl (Rs.scal (Same.refl _) hs)
theorem rs_cons {B : Addr → Prop} {H H1 H2 : Hp} {j1 k1 j2 k2 : Nat} {t : T} {ts : List T} (hB : ∀ a, B a → H a ≠ none) (r : Rs p B H H1 j1 k1 t) (q : RsL p B H1 H2 j2 k2 ts) : RsL p B H H2 (max j1 j2) (if max j1 j2 = 0 then min k1 k2 else 0) (t :: ts) := by
  have r2 := r.fwd q.same
  refine ⟨r2.same, ⟨r2.ok, q.ok⟩, fun a m => ?_, fun a m => ?_, ?_⟩
  · simp only [T.rests, List.mem_append] at m
    rcases m with m | m
    · exact r.src a (T.rest_le t (Nat.le_max_left ..) m)
    · obtain ⟨u, hu, m⟩ := T.mem_rests.mp m
      exact (q.src a (T.mem_rests.mpr ⟨u, hu, T.rest_le u (Nat.le_max_right ..) m⟩)).imp r.same.free id
  · split at m
    · simp only [T.adrs, List.mem_append] at m
      rcases m with m | m
      · exact r2.new a (T.adr_le t (Nat.min_le_left ..) m)
      · obtain ⟨u, hu, m⟩ := T.mem_adrs.mp m
        have z := q.new a (T.mem_adrs.mpr ⟨u, hu, T.adr_le u (Nat.min_le_right ..) m⟩)
        exact ⟨r.same.free z.1, z.2⟩
    · rw [T.adrs_zero] at m; cases m
  · split
    · rename_i hz
      have h1 : j1 = 0 := by omega
      have h2 : j2 = 0 := by omega
      subst h1 h2
      refine T.nds_cons.mpr ⟨T.nd_le t (Nat.min_le_left ..) r.nd, T.nds_le (Nat.min_le_right ..) q.nd, fun a m m' => ?_, fun a m m' => ?_⟩
      · have m1 := T.adr_le t (Nat.min_le_left k1 k2) m
        rcases q.src a m' with z | z
        · exact r.ok.domk m1 z
        · exact hB a z (r.new a m1).1
      · obtain ⟨u, hu, m⟩ := T.mem_adrs.mp m
        exact r.ok.dom m' (q.new a (T.mem_adrs.mpr ⟨u, hu, T.adr_le u (Nat.min_le_right ..) m⟩)).1
    · exact T.nds_zero _
theorem sndA_nil : PA X [] (lEs p EX tn .nil) := by
  refine PA.mono pa_nil fun σ H Q h => ?_
  obtain ⟨τ, rfl, hF, j, k, hj, h⟩ := h
  exact h [] H rfl ⟨Same.refl _, trivial, by simp [T.rests], by simp [T.adrs], by simp [T.Nds, T.adrs]⟩
theorem sndA_cons {e : Expr} {es : List Expr} {x : E} {xs : Es} (he : PE X e (lE p EX tn x)) (hes : PA X es (lEs p EX tn xs)) (hs : starEach (e :: es) X.env = (false, eval e X.env) :: starEach es X.env) : PA X (e :: es) (lEs p EX tn (.cons x xs)) := by
  refine PA.mono (pa_cons he hes hs) fun σ H Q h => ?_
  obtain ⟨τ, rfl, hF, j, k, hj, h⟩ := h
  simp only [jks] at hj
  obtain ⟨⟨j1, k1⟩, h1, hj⟩ := Option.bind_eq_some_iff.mp hj
  obtain ⟨⟨j2, k2⟩, h2, hj⟩ := Option.bind_eq_some_iff.mp hj
  cases hj
  simp only [evs] at h
  refine l1 hF h1 h fun d t H1 ht R h => ?_
  refine ⟨τ, rfl, hF.same R.same, j2, k2, h2, h.bind.mono R.same fun ds _ hd ts H2 hts R2 => ?_⟩
  exact hd (t :: ts) H2 (by simp [T.dats, ht, hts]) (rs_cons (fun a => hF.dom) R R2)
end
end Pu
end
section
namespace Pu
open PySem PySem.Spec PyProof.Rows PySem.W L2
section
variable {p : Px} {EX : EXT} {tn : List Nat} {X : Cx} {pos : Pos}
theorem rs_tup {B : Addr → Prop} {H H1 : Hp} {j k : Nat} {a : Addr} {ts : List T} (r : RsL p B H H1 j k ts) (hn : H1 a = none) : Rs p B H (L2.upd H1 a (.tup (ts.map T.val))) j k (.tup a ts) := by
  have s := Same.new (o := .tup (ts.map T.val)) hn
  exact ⟨r.same.trans s, ⟨upd_same, r.ok.same s⟩, r.src, fun b m => ⟨(r.new b m).1, let ⟨vs, e, mu⟩ := (r.new b m).2; ⟨vs, s _ _ e, mu⟩⟩, r.nd⟩
theorem rs_lst {B : Addr → Prop} {H H1 : Hp} {j k : Nat} {a : Addr} {ts : List T} (r : RsL p B H H1 j k ts) (hn : H1 a = none) :
    Rs p B H (L2.upd H1 a (.lst (ts.map T.val))) (if j = 0 then 0 else j + 1) (if j = 0 then k + 1 else 0) (.lst a ts) := by
  have s := Same.new (o := .lst (ts.map T.val)) hn
  have ha : H a = none := r.same.free hn
  refine ⟨r.same.trans s, ⟨.inl upd_same, r.ok.same s⟩, fun b m => ?_, fun b m => ?_, ?_⟩
  · split at m
    · rename_i e
      subst e
      simp only [T.rest, List.mem_cons] at m
      rcases m with rfl | m
      · exact .inl ha
      · exact r.src b m
    · exact r.src b m
  · split at m
    · simp only [T.adr, List.mem_cons] at m
      rcases m with rfl | m
      · exact ⟨ha, _, upd_same, rfl⟩
      · exact ⟨(r.new b m).1, let ⟨vs, e, mu⟩ := (r.new b m).2; ⟨vs, s _ _ e, mu⟩⟩
    · rw [T.adr_zero] at m; cases m
  · split
    · rename_i e
      subst e
      have out : a ∉ T.rests ts 0 := fun m => by
        obtain ⟨t, ht, m⟩ := T.mem_rests.mp m
        exact (T.oks_iff.mp r.ok t ht).dom m hn
      refine ⟨?_, fun b m m' => ?_⟩
      · simp only [T.adr, List.nodup_cons]
        exact ⟨fun m => out ((T.alls_iff ts k).mpr (.inl m)), r.nd.1⟩
      · simp only [T.adr, T.rest, List.mem_cons] at m m'
        rcases m' with rfl | m'
        · exact out ((T.alls_iff ts k).mpr (.inr m))
        · exact r.nd.2 b m m'
    · exact T.nd_zero _
theorem dats_length : ∀ ts : List T, (T.dats ts).length = ts.length := fun ts => by rw [T.dats_map, List.length_map]
noncomputable def Es.len : Es → Nat
  | .nil => 0
  | .cons _ r => r.len + 1
theorem evs_length : ∀ (es : Es) (δ : Fr) (ds : List D), evs es δ = .ok ds → ds.length = es.len
  | .nil, δ, ds, h => by simp only [evs] at h; cases h; rfl
  | .cons e r, δ, ds, h => by
    simp only [evs] at h
    obtain ⟨x, _, h⟩ := Res.bind_eq_ok h
    obtain ⟨xs, h2, h⟩ := Res.bind_eq_ok h
    cases h
    rw [List.length_cons, evs_length r δ xs h2, Es.len]
theorem snd_tup {es : List Expr} {xs : Es} {k1 : Nat} (h : PA X es (lEs p EX tn xs)) (hl : xs.len ≤ 1000) : PE X (.Tuple es k1 pos) (lE p EX tn (.tup xs)) := by
  refine PE.mono (pe_tup h) fun σ H Q h => ?_
  obtain ⟨τ, rfl, hF, j, k, hj, h⟩ := h
  simp only [ev] at h
  refine ⟨τ, rfl, hF, j, k, hj, h.bind.mono (Same.refl _) fun ds e hd ts H1 hts R => ⟨?_, fun a ha => hd (.tup a ts) _ (by simp [T.dat, hts]) (rs_tup R ha)⟩⟩
  have := evs_length _ _ _ e
  rw [List.length_map, ← dats_length, hts, this]
  exact Nat.le_trans hl (by decide)
theorem snd_lst {es : List Expr} {xs : Es} (h : PA X es (lEs p EX tn xs)) (hl : xs.len ≤ 1000) : PE X (.List es pos) (lE p EX tn (.lst xs)) := by
  refine PE.mono (pe_lst h) fun σ H Q h => ?_
  obtain ⟨τ, rfl, hF, j, k, hj, h⟩ := h
  simp only [jk] at hj
  obtain ⟨⟨j1, k1⟩, h1, hj⟩ := Option.bind_eq_some_iff.mp hj
  simp only [ev] at h
  refine ⟨τ, rfl, hF, j1, k1, h1, h.bind.mono (Same.refl _) fun ds e hd ts H1 hts R => ⟨?_, fun a ha => hd (.lst a ts) _ (by simp [T.dat, hts]) ?_⟩⟩
  · have := evs_length _ _ _ e
    rw [List.length_map, ← dats_length, hts, this]
    exact Nat.le_trans hl (by decide)
  · have q := rs_lst R ha
    have hj := Option.some.inj hj
    by_cases z : j1 = 0
    · subst z; simp only [if_true] at q; simp at hj; obtain ⟨rfl, rfl⟩ := hj; exact q
    · simp only [if_neg z] at q; simp [z] at hj; obtain ⟨rfl, rfl⟩ := hj; exact q
noncomputable def opOf : B2 → Operator
  | .add => .Add
  | .sub => .Sub
  | .mul => .Mult
  | .fdiv => .FloorDiv
  | .mod => .Mod
  | .pow => .Pow
theorem Inv.lstR {pins : List (Addr × Obj)} {σ : St} {H : Hp} {s : Shared} {l : Addr} {xs : List V} (I : Inv X pins σ H s) (hH : Rd H l (.lst xs)) : xs.length ≤ sizeLine ∧ ∃ (its : List Value) (n : Nat), Vals xs its ∧ xs.length = its.length ∧ s.heap.get? l = some { cls := .type "list", data := .seq its.toArray n } := by
  obtain ⟨z, its, n, r, e⟩ := hH.ok I.hok
  exact ⟨z, its, n, r, r.length, e⟩
noncomputable def rCatR : R2 := fun x y H Q => ∃ l b xs zs, x = .ref l ∧ y = .ref b ∧ Rd H l (.lst xs) ∧ Rd H b (.lst zs) ∧ xs.length + zs.length ≤ sizeLine ∧ ∀ q, H q = none → Q (.ref q) (L2.upd H q (.lst (xs ++ zs)))
theorem op_catR : OpR X (binaryOp .Add) rCatR := by
  intro pins s σ H x y v u Q I rx ry h
  obtain ⟨l, b, xs, zs, rfl, rfl, hH, hB, hz, q⟩ := h
  cases rx
  cases ry
  obtain ⟨z, its, n, r, hl, e⟩ := Inv.lstR I hH
  obtain ⟨z2, its2, n2, r2, hl2, e2⟩ := Inv.lstR I hB
  refine PySem.P.add_list e e2 ?_ (by rw [List.size_toArray, List.size_toArray]; omega)
  have ea : its.toArray ++ its2.toArray = (its ++ its2).toArray := by simp
  rw [ea]
  exact ⟨.ref _, _, I.lnew (t' := s.toks) (r.append r2) (by rw [List.length_append]; omega), rfl, q _ I.fresh⟩
noncomputable def rRepR : R2 := fun x y H Q => ∃ l k xs, x = .ref l ∧ y = .int k ∧ Rd H l (.lst xs) ∧ -(2 ^ 63) ≤ k ∧ k < 2 ^ 63 ∧ xs.length * k.toNat ≤ sizeLine ∧
  ∀ q, H q = none → Q (.ref q) (L2.upd H q (.lst (List.replicate k.toNat xs).flatten))
noncomputable def CDivB (_ j : Int) : Prop := 0 < j ∧ j < 2 ^ 200
theorem op_fdivB : OpR X (binaryOp .FloorDiv) (rI CDivB fun i j => .int (i / j)) := opI fun i j _ _ _ _ _ hc q => by
  have e : i / j = i.fdiv j := (Int.fdiv_eq_ediv_of_nonneg _ (Int.le_of_lt hc.1)).symm
  rw [e] at q
  refine floordiv_int (by have := hc.1; omega) q (.inl (PyProof.noPylong_of_log2 ?_))
  have h1 : j.natAbs < 2 ^ 200 := by
    have e1 : (j.natAbs : Int) = j := Int.natAbs_of_nonneg (Int.le_of_lt hc.1)
    have e2 : (j.natAbs : Int) < ((2 ^ 200 : Nat) : Int) := by rw [e1]; exact hc.2
    exact Int.ofNat_lt.mp e2
  have : j.natAbs.log2 < 200 := by
    refine (Nat.log2_lt (by have := hc.1; omega)).mpr h1
  omega
theorem op_repR : OpR X (binaryOp .Mult) rRepR := by
  intro pins s σ H x y v u Q I rx ry h
  obtain ⟨l, k, xs, rfl, rfl, hH, h1, h2, hz, q⟩ := h
  cases rx
  obtain ⟨t, rfl⟩ := ry
  obtain ⟨z, its, n, r, hl, e⟩ := Inv.lstR I hH
  have hlen : its.toArray.size * k.toNat ≤ sizeLine := by rw [List.size_toArray, ← hl]; exact hz
  have hcap : ¬ its.toArray.size * k.toNat > (2 ^ 63 - 1) / 8 := by
    have : (sizeLine : Nat) ≤ (2 ^ 63 - 1) / 8 := by decide
    omega
  have hfit : ¬ (!Builtin.List.listFitsIndex k) = true := by
    rw [fitsIndex_both h1 h2]
    exact Bool.false_ne_true
  have hlong : ¬ Builtin.List.listTooLong (its.toArray.size * k.toNat) = true := by
    rw [notLongL hlen]
    exact Bool.false_ne_true
  have hnew : List.foldl (fun x1 x2 => x1 ++ x2) #[] (List.replicate (if its.toArray.isEmpty = true then 0 else k.toNat) its.toArray) = (List.replicate k.toNat its).flatten.toArray := by
    have f0 : ∀ m : Nat, List.foldl (fun x1 x2 => x1 ++ x2) #[] (List.replicate m its.toArray) = (List.replicate m its).flatten.toArray := fun m => by
      have := foldl_rep its m []
      rw [List.nil_append] at this
      exact this
    rw [f0]
    cases its with
    | nil => simp
    | cons a r' => rw [if_neg (by simp)]
  refine wpAny_binaryOp_repeat_ref (T := "list") (U := "int") (by decide) ⟨_, e, rfl⟩ (fun s' => typeIs_int s' k t) noFill_list_mul F.fills_int_mul F.slot_int_rmul repeat_list F.slot_int_index.lookup
    (call_meets F.slot_int_rmul (typeIs_int s k t) F.entry_int_rmul (F.args_int_rmul_2 _ _) (int___rmul___int_list k t l its.toArray n)
      ⟨e, rfl, ⟨_, e, rfl⟩, call_meets F.slot_list_mul ⟨_, e, rfl⟩ F.entry_list_mul (F.args_list_mul_2 _ _) (AutoListH.list___mul___list_int_3 l its.toArray n k t hfit hcap hlong) ⟨e, ?_⟩⟩)
  rw [hnew]
  exact ⟨.ref _, _, I.lnew (t' := s.toks) (r.rep k.toNat) (by rw [len_rep, Nat.mul_comm]; exact hz), rfl, q _ I.fresh⟩
noncomputable def CMulB (i j : Int) : Prop := CMul i j ∨ (i.natAbs < 2 ^ 400 ∧ j.natAbs < 2 ^ 400)
theorem bits400 {k : Int} (h : k.natAbs < 2 ^ 400) : Builtin.Int.intBits k ≤ 400 := by
  unfold Builtin.Int.intBits
  split
  · exact Nat.zero_le _
  · have : k.natAbs.log2 < 400 := by
      rcases Nat.eq_zero_or_pos k.natAbs with h0 | hp
      · rw [h0]; decide
      · exact (Nat.log2_lt (Nat.ne_of_gt hp)).mpr h
    omega
theorem CMulB.ok {i j : Int} (h : CMulB i j) : IntMulOk i j := by
  rcases h with h | ⟨h1, h2⟩
  · exact h.ok
  · have b1 := bits400 h1
    have b2 := bits400 h2
    have : Builtin.Int.intTooBig (Builtin.Int.intBits i + Builtin.Int.intBits j) = false := by
      unfold Builtin.Int.intTooBig bitsLine
      exact decide_eq_false (by omega)
    unfold IntMulOk
    rw [this]
    simp
theorem op_mulB : OpR X (binaryOp .Mult) (rI CMulB fun i j => .int (i * j)) := opI fun _ _ _ _ _ _ _ hc q => mul_int q hc.ok
noncomputable def rAll : B2 → R2
  | .add => fun x y H Q => rI0 (fun i j => .int (i + j)) x y H Q ∨ (rCatR x y H Q ∨ ∃ i j, x = .str i ∧ y = .str j ∧ i.length + j.length ≤ sizeLine ∧ Q (.str (i ++ j)) H)
  | .sub => rI0 fun i j => .int (i - j)
  | .mul => fun x y H Q => rI CMulB (fun i j => .int (i * j)) x y H Q ∨ rRepR x y H Q
  | .fdiv => rI CDivB fun i j => .int (i / j)
  | .mod => rI (fun _ j => 0 < j) fun i j => .int (i % j)
  | .pow => rI CPow fun i j => .int (i ^ j.toNat)
theorem opr_all : ∀ o : B2, OpR X (binaryOp (opOf o)) (rAll o)
  | .add => op_add.or (op_catR.or op_add_str)
  | .sub => op_sub
  | .mul => op_mulB.or op_repR
  | .fdiv => op_fdivB
  | .mod => op_mod
  | .pow => op_pow
theorem Rs.elems {B : Addr → Prop} {H H1 : Hp} {j k : Nat} {a : Addr} {ts : List T} (r : Rs p B H H1 j k (.lst a ts)) (hj : j ≤ 1) : ∀ b ∈ T.rests ts 0, H b = none ∨ B b := fun b m => by
  refine r.src b (T.rest_le _ hj (j' := 1) ?_)
  exact m
theorem rs_new {B : Addr → Prop} {H H1 : Hp} {a : Addr} {ts : List T} (s : Same H H1) (ok : T.Oks p H1 ts) (src : ∀ b ∈ T.rests ts 0, H b = none ∨ B b) (hn : H1 a = none) : Rs p B H (L2.upd H1 a (.lst (ts.map T.val))) 0 1 (.lst a ts) := by
  have := rs_lst (j := 0) (k := 0) (p := p) (B := B) (H := H) (a := a) (ts := ts) ⟨s, ok, src, by rw [T.adrs_zero]; simp, T.nds_zero ts⟩ hn
  exact this
theorem int1_is {t : T} {f : Int → Res D} {Q : Res D → Prop} (hb : ¬ Q .bad) (h : Q (int1 t.dat f)) : ∃ i, t = .int i ∧ Q (f i) := by
  cases t with
  | int i => exact ⟨i, rfl, h⟩
  | _ => exact absurd h hb
theorem int2_is {t u : T} {f : Int → Int → Res D} {Q : Res D → Prop} (hb : ¬ Q .bad) (h : Q (int2 t.dat u.dat f)) : ∃ i j, t = .int i ∧ u = .int j ∧ Q (f i j) := by
  obtain ⟨i, rfl, h⟩ := int1_is (t := t) hb h
  obtain ⟨j, rfl, h⟩ := int1_is (t := u) hb h
  exact ⟨i, j, rfl, rfl, h⟩
theorem addT_is {t u : T} {Q : Res D → Prop} (hb : ¬ Q .bad) (h : Q (addD t.dat u.dat)) : (∃ i j, t = .int i ∧ u = .int j ∧ Q (.ok (.int (i + j)))) ∨ (∃ x y, t = .str x ∧ u = .str y ∧ Q (addD (.str x) (.str y))) ∨ ∃ a ts b us, t = .lst a ts ∧ u = .lst b us ∧ Q (addD (.lst (T.dats ts)) (.lst (T.dats us))) := by
  cases t with
  | int i =>
    cases u with
    | int j => exact .inl ⟨i, j, rfl, rfl, h⟩
    | _ => exact absurd h hb
  | str x =>
    cases u with
    | str y => exact .inr (.inl ⟨x, y, rfl, rfl, h⟩)
    | _ => exact absurd h hb
  | lst a ts =>
    cases u with
    | lst b us => exact .inr (.inr ⟨a, ts, b, us, rfl, rfl, h⟩)
    | _ => exact absurd h hb
  | _ => exact absurd h hb
theorem mulT_is {t u : T} {Q : Res D → Prop} (hb : ¬ Q .bad) (h : Q (mulD t.dat u.dat)) : (∃ i j, t = .int i ∧ u = .int j ∧ Q (mulD (.int i) (.int j))) ∨ ∃ a ts k, t = .lst a ts ∧ u = .int k ∧ Q (mulD (.lst (T.dats ts)) (.int k)) := by
  cases t with
  | int i =>
    cases u with
    | int j => exact .inl ⟨i, j, rfl, rfl, h⟩
    | _ => exact absurd h hb
  | lst a ts =>
    cases u with
    | int k => exact .inr ⟨a, ts, k, rfl, rfl, h⟩
    | _ => exact absurd h hb
  | _ => exact absurd h hb
theorem b2_ok {B : Addr → Prop} {H H2 : Hp} {ja jb ka kb : Nat} {t u : T} {o : B2} {σ : St} {Q : VK} (r : Rs p B H H2 ja ka t) (r' : Rs p B H H2 jb kb u) (ha : ja ≤ 1) (hb : jb ≤ 1) (h : Lg p EX σ (b2 o t.dat u.dat) H (KE p B H 0 1 Q)) : rAll o t.val u.val H2 Q := by
  have sc : ∀ w : T, w.sc = true → Rs p B H H2 0 1 w := fun w hw => Rs.scal r.same hw
  cases o with
  | add =>
    rcases addT_is (Q := fun r => Lg p EX σ r H _) id h with ⟨i, j, rfl, rfl, h⟩ | ⟨x, y, rfl, rfl, h⟩ | ⟨a, ts, b, us, rfl, rfl, h⟩
    · exact .inl ⟨_, _, rfl, rfl, h (.int _) H2 rfl (sc _ rfl)⟩
    · obtain ⟨hl, h⟩ := h.guard
      exact .inr (.inr ⟨_, _, rfl, rfl, hl, h (.str _) H2 rfl (sc _ rfl)⟩)
    · skip
      obtain ⟨hl, h⟩ := h.guard
      · refine .inr (.inl ⟨a, b, _, _, rfl, rfl, r.ok.1, r'.ok.1, ?_, fun q hq => ?_⟩)
        · rw [List.length_map, List.length_map, ← dats_length, ← dats_length]; exact hl
        · rw [← List.map_append]
          refine h (.lst q (ts ++ us)) _ (by simp [T.dat, T.dats_map]) (rs_new r.same (T.oks_iff.mpr fun w hw => ?_) (fun c m => ?_) hq)
          · rcases List.mem_append.mp hw with hw | hw
            · exact T.oks_iff.mp r.ok.2 w hw
            · exact T.oks_iff.mp r'.ok.2 w hw
          · rw [T.rests_append, List.mem_append] at m
            rcases m with m | m
            · exact r.elems ha c m
            · exact r'.elems hb c m
  | sub =>
    obtain ⟨i, j, rfl, rfl, h⟩ := int2_is (Q := fun r => Lg p EX σ r H _) id h
    exact ⟨_, _, rfl, rfl, h (.int _) H2 rfl (sc _ rfl)⟩
  | mul =>
    rcases mulT_is (Q := fun r => Lg p EX σ r H _) id h with ⟨i, j, rfl, rfl, h⟩ | ⟨a, ts, k, rfl, rfl, h⟩
    · by_cases c : (-(2 ^ 64) < i ∧ i < 2 ^ 64) ∨ (-(2 ^ 64) < j ∧ j < 2 ^ 64)
      · have h : Lg p EX σ (if (-(2 ^ 64) < i ∧ i < 2 ^ 64) ∨ (-(2 ^ 64) < j ∧ j < 2 ^ 64) then Res.ok (D.int (i * j)) else if i.natAbs < 2 ^ 400 ∧ j.natAbs < 2 ^ 400 then .ok (.int (i * j)) else .bad) H _ := h
        rw [if_pos c] at h
        exact .inl ⟨_, _, rfl, rfl, .inl c, h (.int _) H2 rfl (sc _ rfl)⟩
      · have h : Lg p EX σ (if (-(2 ^ 64) < i ∧ i < 2 ^ 64) ∨ (-(2 ^ 64) < j ∧ j < 2 ^ 64) then Res.ok (D.int (i * j)) else if i.natAbs < 2 ^ 400 ∧ j.natAbs < 2 ^ 400 then .ok (.int (i * j)) else .bad) H _ := h
        rw [if_neg c] at h
        obtain ⟨hl, h⟩ := h.guard
        exact .inl ⟨_, _, rfl, rfl, .inr hl, h (.int _) H2 rfl (sc _ rfl)⟩
    · skip
      obtain ⟨⟨h1, h2, h3⟩, h⟩ := h.guard
      · refine .inr ⟨a, k, _, rfl, rfl, r.ok.1, h1, h2, ?_, fun q hq => ?_⟩
        · rw [List.length_map, ← dats_length]; exact h3
        · have e : (List.replicate k.toNat (ts.map T.val)).flatten = (List.replicate k.toNat ts).flatten.map T.val := by
            rw [List.map_flatten, List.map_replicate]
          rw [e]
          refine h (.lst q (List.replicate k.toNat ts).flatten) _ ?_ (rs_new r.same (T.oks_iff.mpr fun w hw => ?_) (fun c m => ?_) hq)
          · rw [T.dat, T.dats_map, T.dats_map, List.map_flatten, List.map_replicate]
          · obtain ⟨l, hl, hw⟩ := List.mem_flatten.mp hw
            rw [(List.mem_replicate.mp hl).2] at hw
            exact T.oks_iff.mp r.ok.2 w hw
          · obtain ⟨w, hw, m⟩ := T.mem_rests.mp m
            obtain ⟨l, hl, hw⟩ := List.mem_flatten.mp hw
            rw [(List.mem_replicate.mp hl).2] at hw
            exact r.elems ha c (T.mem_rests.mpr ⟨w, hw, m⟩)
  | fdiv =>
    obtain ⟨i, j, rfl, rfl, h⟩ := int2_is (Q := fun r => Lg p EX σ r H _) id h
    obtain ⟨hl, h⟩ := h.guard
    exact ⟨_, _, rfl, rfl, hl, h (.int _) H2 rfl (sc _ rfl)⟩
  | mod =>
    obtain ⟨i, j, rfl, rfl, h⟩ := int2_is (Q := fun r => Lg p EX σ r H _) id h
    obtain ⟨hl, h⟩ := h.guard
    exact ⟨_, _, rfl, rfl, hl, h (.int _) H2 rfl (sc _ rfl)⟩
  | pow =>
    obtain ⟨i, j, rfl, rfl, h⟩ := int2_is (Q := fun r => Lg p EX σ r H _) id h
    obtain ⟨hl, h⟩ := h.guard
    exact ⟨_, _, rfl, rfl, hl, h (.int _) H2 rfl (sc _ rfl)⟩
theorem snd_bin {a b : Expr} {x y : E} {o : B2} (ha : PE X a (lE p EX tn x)) (hb : PE X b (lE p EX tn y)) : PE X (.BinOp a (opOf o) b pos) (lE p EX tn (.bin o x y)) := by
  refine PE.mono (pe_op (opr_all o) ha hb) fun σ H Q h => ?_
  obtain ⟨τ, rfl, hF, j, k, hj, h⟩ := h
  simp only [jk] at hj
  obtain ⟨⟨j1, k1⟩, h1, hj⟩ := Option.bind_eq_some_iff.mp hj
  obtain ⟨⟨j2, k2⟩, h2, hj⟩ := Option.bind_eq_some_iff.mp hj
  obtain ⟨hc, e⟩ := gj_eq hj
  cases e
  simp only [Bool.and_eq_true, decide_eq_true_eq] at hc
  simp only [ev] at h
  refine l1 hF h1 h fun d t H1 ht R h => l2 hF R.same h2 h fun d' t' H2 ht' R' h => ?_
  subst ht ht'
  exact b2_ok (R.fwd R'.same) (R'.back R.same) hc.1 hc.2 h
end
end Pu
end
section
namespace Pu
open PySem PySem.Spec PyProof.Rows PySem.W L2
mutual
noncomputable def D.py : D → PyData
  | .non => .none
  | .bl b => .bool b
  | .int i => .int i
  | .str x => .str x
  | .tup ds => .tuple (D.pys ds)
  | .lst ds => .list (D.pys ds)
  | .exn _ => .none
  | .dic _ _ => .none
  | .dit _ _ => .none
noncomputable def D.pys : List D → List PyData
  | [] => []
  | d :: r => d.py :: D.pys r
end
theorem D.ind {P : D → Prop} (h0 : P .non) (h1 : ∀ b, P (.bl b)) (h2 : ∀ i, P (.int i)) (h3 : ∀ x, P (.str x)) (h4 : ∀ ts, (∀ t ∈ ts, P t) → P (.tup ts)) (h5 : ∀ ts, (∀ t ∈ ts, P t) → P (.lst ts)) (h6 : ∀ c, P (.exn c)) (h7 : ∀ ks ts, P (.dic ks ts)) (h8 : ∀ ks ts, P (.dit ks ts)) : ∀ t, P t
  | .non => h0
  | .bl b => h1 b
  | .int i => h2 i
  | .str x => h3 x
  | .tup ts => h4 ts fun t h => D.ind h0 h1 h2 h3 h4 h5 h6 h7 h8 t
  | .lst ts => h5 ts fun t h => D.ind h0 h1 h2 h3 h4 h5 h6 h7 h8 t
  | .exn c => h6 c
  | .dic ks ts => h7 ks ts
  | .dit ks ts => h8 ks ts
termination_by t => t
theorem shp_exn {n c : Nat} : D.shp n (.exn c) = false := by cases n <;> rfl
theorem shp_dct {n : Nat} {ks : List (Sum Int Str)} {ds : List D} : D.shp n (.dic ks ds) = false := by cases n <;> rfl
theorem shp_dit {n : Nat} {ks : List (List (Sum Int Str))} {ds : List D} : D.shp n (.dit ks ds) = false := by cases n <;> rfl
theorem shp_tup {n : Nat} {ds : List D} (h : D.shp n (.tup ds) = true) : ∃ m, n = m + 1 ∧ ∀ d ∈ ds, D.shp m d = true := by
  cases n with
  | zero => cases h
  | succ m => exact ⟨m, rfl, by simpa [D.shp] using h⟩
theorem shp_lst {n : Nat} {ds : List D} (h : D.shp n (.lst ds) = true) : ∃ m, n = m + 1 ∧ ∀ d ∈ ds, D.shp m d = true := by
  cases n with
  | zero => cases h
  | succ m => exact ⟨m, rfl, by simpa [D.shp] using h⟩
theorem eqv_py : ∀ (d e : D) (n m : Nat), d.shp n = true → e.shp m = true → d.eqv e = d.py.eqv e.py := by
  have lists : ∀ (ds : List D), (∀ d ∈ ds, ∀ (e : D) (n m : Nat), d.shp n = true → e.shp m = true → d.eqv e = d.py.eqv e.py) → ∀ (es : List D) (n m : Nat), (∀ d ∈ ds, d.shp n = true) → (∀ e ∈ es, e.shp m = true) → D.eqvs ds es = PyData.eqvAll (D.pys ds) (D.pys es) := by
    intro ds
    induction ds with
    | nil => intro _ es n m _ _; cases es <;> simp [D.eqvs, D.pys, PyData.eqvAll]
    | cons d r ih =>
      intro h es n m h1 h2
      cases es with
      | nil => simp [D.eqvs, D.pys, PyData.eqvAll]
      | cons e s =>
        simp only [D.eqvs, D.pys, PyData.eqvAll]
        rw [h d (List.mem_cons_self ..) e n m (h1 d (List.mem_cons_self ..)) (h2 e (List.mem_cons_self ..)), ih (fun x hx => h x (List.mem_cons_of_mem _ hx)) s n m (fun x hx => h1 x (List.mem_cons_of_mem _ hx)) (fun x hx => h2 x (List.mem_cons_of_mem _ hx))]
  refine D.ind ?_ ?_ ?_ ?_ ?_ ?_ ?_ ?_ ?_
  · intro e n m _ h; cases e <;> simp [D.eqv, D.py, PyData.eqv, shp_exn, shp_dct, shp_dit] at h ⊢
  · intro b e n m _ h; cases e <;> simp [D.eqv, D.py, PyData.eqv, shp_exn, shp_dct, shp_dit] at h ⊢
  · intro b e n m _ h; cases e <;> simp [D.eqv, D.py, PyData.eqv, shp_exn, shp_dct, shp_dit] at h ⊢
  · intro b e n m _ h; cases e <;> simp [D.eqv, D.py, PyData.eqv, shp_exn, shp_dct, shp_dit] at h ⊢
  · intro ds ih e n m h1 h2
    cases e with
    | tup es =>
      obtain ⟨n', _, h1⟩ := shp_tup h1
      obtain ⟨m', _, h2⟩ := shp_tup h2
      simp only [D.eqv, D.py, PyData.eqv]
      exact lists ds ih es n' m' h1 h2
    | exn c => rw [shp_exn] at h2; cases h2
    | dic ks cs => rw [shp_dct] at h2; cases h2
    | dit ks cs => rw [shp_dit] at h2; cases h2
    | _ => simp [D.eqv, D.py, PyData.eqv]
  · intro ds ih e n m h1 h2
    cases e with
    | lst es =>
      obtain ⟨n', _, h1⟩ := shp_lst h1
      obtain ⟨m', _, h2⟩ := shp_lst h2
      simp only [D.eqv, D.py, PyData.eqv]
      exact lists ds ih es n' m' h1 h2
    | exn c => rw [shp_exn] at h2; cases h2
    | dic ks cs => rw [shp_dct] at h2; cases h2
    | dit ks cs => rw [shp_dit] at h2; cases h2
    | _ => simp [D.eqv, D.py, PyData.eqv]
  · intro c e n m h; rw [shp_exn] at h; cases h
  · intro ks cs e n m h; rw [shp_dct] at h; cases h
  · intro ks cs e n m h; rw [shp_dit] at h; cases h
theorem shp_lay : ∀ (d : D) (n : Nat), d.shp n = true → d.py.canLay0 = true ∧ d.py.depth ≤ n := by
  have lists : ∀ (ds : List D), (∀ d ∈ ds, ∀ (n : Nat), d.shp n = true → d.py.canLay0 = true ∧ d.py.depth ≤ n) → ∀ n, (∀ d ∈ ds, d.shp n = true) → PyData.canLayAll0 (D.pys ds) = true ∧ PyData.depthAll (D.pys ds) ≤ n := by
    intro ds
    induction ds with
    | nil => intro _ n _; simp [D.pys, PyData.canLayAll0, PyData.depthAll]
    | cons d r ih =>
      intro h n h1
      obtain ⟨a1, a2⟩ := h d (List.mem_cons_self ..) n (h1 d (List.mem_cons_self ..))
      obtain ⟨b1, b2⟩ := ih (fun x hx => h x (List.mem_cons_of_mem _ hx)) n (fun x hx => h1 x (List.mem_cons_of_mem _ hx))
      simp only [D.pys, PyData.canLayAll0, PyData.depthAll, a1, b1, Bool.and_self, true_and]
      omega
  refine D.ind ?_ ?_ ?_ ?_ ?_ ?_ ?_ ?_ ?_
  · intro n h; simp [D.py, PyData.canLay0, PyData.depth]
  · intro b n h; simp [D.py, PyData.canLay0, PyData.depth]
  · intro b n h; simp [D.py, PyData.canLay0, PyData.depth]
  · intro x n h
    simp only [D.py, PyData.canLay0, PyData.depth, Nat.zero_le, and_true]
    cases n <;> exact h
  · intro ds ih n h
    obtain ⟨m, rfl, h'⟩ := shp_tup h
    have := lists ds ih m h'
    simp only [D.py, PyData.canLay0, PyData.depth]
    exact ⟨this.1, by omega⟩
  · intro ds ih n h
    obtain ⟨m, rfl, h'⟩ := shp_lst h
    have := lists ds ih m h'
    simp only [D.py, PyData.canLay0, PyData.depth]
    exact ⟨this.1, by omega⟩
  · intro c n h; rw [shp_exn] at h; cases h
  · intro ks cs n h; rw [shp_dct] at h; cases h
  · intro ks cs n h; rw [shp_dit] at h; cases h
theorem shaped_of {d : D} (h : d.shp 8 = true) : SeqAt.shaped d.py = true := by
  obtain ⟨h1, h2⟩ := shp_lay d 8 h
  unfold SeqAt.shaped
  rw [h1, Bool.true_and]
  exact decide_eq_true (by omega)
theorem rd_of {p : Px} {H : Hp} : ∀ (t : T) (n : Nat), t.Ok p H → t.dat.shp n = true → RD p.K H t.val t.dat.py := by
  have lists : ∀ (ts : List T), (∀ t ∈ ts, ∀ n, t.Ok p H → t.dat.shp n = true → RD p.K H t.val t.dat.py) → ∀ n, T.Oks p H ts → (∀ d ∈ T.dats ts, d.shp n = true) → RDs p.K H (ts.map T.val) (D.pys (T.dats ts)) := by
    intro ts
    induction ts with
    | nil => intro _ _ _ _; exact .nil
    | cons t r ih =>
      intro h n ok hs
      exact .cons (h t (List.mem_cons_self ..) n ok.1 (hs _ (by simp [T.dats]))) (ih (fun u hu => h u (List.mem_cons_of_mem _ hu)) n ok.2 (fun d hd => hs d (by simp [T.dats, hd])))
  refine T.ind (fun _ _ _ => .non) (fun b _ _ _ => .bl b) (fun i _ _ _ => .int i) (fun x _ _ _ => .str x) (fun a ts ih n ok h => ?_) (fun a ts ih n ok h => ?_) (fun a c n ok h => ?_) (fun a ks ts _ n ok h => by rw [T.dat, shp_dct] at h; cases h) (fun a ks ts _ n ok h => by rw [T.dat, shp_dit] at h; cases h)
  · obtain ⟨m, rfl, h'⟩ := shp_tup h
    exact .tup (SqT.of ok.1) (lists ts ih m ok.2 h')
  · obtain ⟨m, rfl, h'⟩ := shp_lst h
    exact .lst (.inl ok.1) (lists ts ih m ok.2 h')
  · rw [T.dat, shp_exn] at h; cases h
theorem Rd_lst_inj {H : Hp} {a : Addr} {xs ys : List V} (h : Rd H a (.lst xs)) (h' : Rd H a (.lst ys)) : xs = ys := by
  rcases h with h | ⟨o, h⟩ <;> rcases h' with h' | ⟨o', h'⟩ <;> rw [h] at h' <;> cases h' <;> rfl
theorem T.det {p : Px} {H : Hp} : ∀ (t u : T) (n m : Nat), t.Ok p H → u.Ok p H → t.dat.shp n = true → u.dat.shp m = true → t.val = u.val → t.dat = u.dat := by
  have lists : ∀ (ts : List T), (∀ t ∈ ts, ∀ (u : T) (n m : Nat), t.Ok p H → u.Ok p H → t.dat.shp n = true → u.dat.shp m = true → t.val = u.val → t.dat = u.dat) → ∀ (us : List T) (n m : Nat), T.Oks p H ts → T.Oks p H us →
      (∀ d ∈ T.dats ts, d.shp n = true) → (∀ d ∈ T.dats us, d.shp m = true) → ts.map T.val = us.map T.val → T.dats ts = T.dats us := by
    intro ts
    induction ts with
    | nil => intro _ us n m _ _ _ _ e; cases us with | nil => rfl | cons u r => simp at e
    | cons t r ih =>
      intro h us n m o1 o2 s1 s2 e
      cases us with
      | nil => simp at e
      | cons u q =>
        simp only [List.map_cons, List.cons.injEq] at e
        simp only [T.dats, List.cons.injEq]
        exact ⟨h t (List.mem_cons_self ..) u n m o1.1 o2.1 (s1 _ (by simp [T.dats])) (s2 _ (by simp [T.dats])) e.1, ih (fun x hx => h x (List.mem_cons_of_mem _ hx)) q n m o1.2 o2.2 (fun d hd => s1 d (by simp [T.dats, hd])) (fun d hd => s2 d (by simp [T.dats, hd])) e.2⟩
  refine T.ind ?_ ?_ ?_ ?_ ?_ ?_ ?_ ?_ ?_
  · intro u n m _ _ _ _ e; cases u <;> first | rfl | cases e
  · intro b u n m _ _ _ _ e; cases u <;> first | (cases e; rfl) | cases e
  · intro b u n m _ _ _ _ e; cases u <;> first | (cases e; rfl) | cases e
  · intro b u n m _ _ _ _ e; cases u <;> first | (cases e; rfl) | cases e
  · intro a ts ih u n m o1 o2 s1 s2 e
    cases u with
    | tup b us =>
      cases e
      obtain ⟨n', _, s1⟩ := shp_tup s1
      obtain ⟨m', _, s2⟩ := shp_tup s2
      have q := o1.1.symm.trans o2.1
      simp only [Option.some.injEq, HO.tup.injEq] at q
      simp only [T.dat, lists ts ih us n' m' o1.2 o2.2 s1 s2 q]
    | lst b us =>
      cases e
      have h1 := o1.1
      rcases o2.1 with h | ⟨_, h⟩ <;> rw [h] at h1 <;> cases h1
    | exn b c => rw [T.dat, shp_exn] at s2; cases s2
    | dic b ks cs => rw [T.dat, shp_dct] at s2; cases s2
    | dit b ks cs => rw [T.dat, shp_dit] at s2; cases s2
    | _ => cases e
  · intro a ts ih u n m o1 o2 s1 s2 e
    cases u with
    | tup b us =>
      cases e
      have h1 := o2.1
      rcases o1.1 with h | ⟨_, h⟩ <;> rw [h] at h1 <;> cases h1
    | lst b us =>
      cases e
      obtain ⟨n', _, s1⟩ := shp_lst s1
      obtain ⟨m', _, s2⟩ := shp_lst s2
      have q := Rd_lst_inj o1.1 o2.1
      simp only [T.dat, lists ts ih us n' m' o1.2 o2.2 s1 s2 q]
    | exn b c => rw [T.dat, shp_exn] at s2; cases s2
    | dic b ks cs => rw [T.dat, shp_dct] at s2; cases s2
    | dit b ks cs => rw [T.dat, shp_dit] at s2; cases s2
    | _ => cases e
  · intro a c u n m _ _ h; rw [T.dat, shp_exn] at h; cases h
  · intro a ks ts _ u n m _ _ h; rw [T.dat, shp_dct] at h; cases h
  · intro a ks ts _ u n m _ _ h; rw [T.dat, shp_dit] at h; cases h
section
variable {p : Px} {EX : EXT} {tn : List Nat} {X : Cx} {pos : Pos}
theorem eqAt_of (hK : X.K = p.K) {pins : List (Addr × Obj)} {σ : St} {H : Hp} {s : Shared} {A : Around} (I : Inv X pins σ H s) {t u : T} {x y : Value} (hu : A.units + 60 < cLine) (o1 : t.Ok p H) (o2 : u.Ok p H) (s1 : t.dat.shp 8 = true) (s2 : u.dat.shp 8 = true) (r1 : RelV t.val x) (r2 : RelV u.val y) :
    SeqAt.EqAt A s x y (t.dat.eqv u.dat) := by
  intro prog w E Q hQ
  obtain ⟨as, q1⟩ := RD.reads (X := X) I (hK ▸ rd_of t 8 o1 s1) r1
  obtain ⟨bs, q2⟩ := RD.reads (X := X) I (hK ▸ rd_of u 8 o2 s2) r2
  obtain ⟨c1, d1⟩ := shp_lay _ 8 s1
  obtain ⟨c2, d2⟩ := shp_lay _ 8 s2
  refine PySem.SeqAt.eqBoolOverData prog w A E s x y _ _ as bs Q q1 q2 c1 c2 (by omega) ?_
  rw [← eqv_py _ _ 8 8 s1 s2]
  exact hQ
theorem kv_nil {vs : List (L2.Key × Value)} (h : L2.KV [] vs) : vs = [] := by cases h; rfl
theorem vals_at {xs : List V} {us : List Value} (r : Vals xs us) : ∀ {i : Nat} {u : Value}, us[i]? = some u → ∃ x, xs[i]? = some x ∧ RelV x u := by
  induction r with
  | nil => intro i u h; cases h
  | cons r q ih =>
    intro i u h
    cases i with
    | zero => cases h; exact ⟨_, rfl, r⟩
    | succ i => exact ih h
theorem sm_at {n : Nat} {xs ys : List D} (h : (List.zipWith (D.sm n) xs ys).all id = true) {i : Nat} {x y : D} (e1 : xs[i]? = some x) (e2 : ys[i]? = some y) : D.sm n x y = true := by
  rw [List.all_eq_true] at h
  exact h _ (List.mem_of_getElem? (i := i) (by rw [List.getElem?_zipWith, e1, e2]))
theorem sm_rc {pins : List (Addr × Obj)} {σ : St} {H : Hp} {s : Shared} (hK : X.K = p.K) (I : Inv X pins σ H s) : ∀ (n : Nat) (t u : T) (A : Around) (x y : Value), t.Ok p H → u.Ok p H → D.sm n t.dat u.dat = true → A.units + n < cLine → RelV t.val x → RelV u.val y → SeqAt.RcAt A s x y true ∧ SeqAt.EqAt A s x y true := by
  have ref : ∀ {A : Around} {a b : Addr}, SeqAt.RcAt A s (.ref a) (.ref b) true → SeqAt.RcAt A s (.ref a) (.ref b) true ∧ SeqAt.EqAt A s (.ref a) (.ref b) true := fun {A a b} h => by
    refine ⟨h, ?_⟩
    by_cases e : a = b
    · subst e; exact SeqAt.EqAt.same _
    · exact SeqAt.EqAt.of_refs e h
  have items : ∀ (n : Nat), (∀ (t u : T) (A : Around) (x y : Value), t.Ok p H → u.Ok p H → D.sm n t.dat u.dat = true → A.units + n < cLine → RelV t.val x → RelV u.val y → SeqAt.RcAt A s x y true ∧ SeqAt.EqAt A s x y true) → ∀ (ts us : List T) (A : Around) (xs ys : List Value), T.Oks p H ts → T.Oks p H us → (List.zipWith (D.sm n) (T.dats ts) (T.dats us)).all id = true → A.units + (n + 1) < cLine → Vals (ts.map T.val) xs → Vals (us.map T.val) ys → ∀ j (h1 : j < xs.toArray.size) (h2 : j < ys.toArray.size), SeqAt.EqAt A.in1 s xs.toArray[j] ys.toArray[j] true := by
    intro n ih ts us A xs ys o1 o2 h hu r1 r2 j h1 h2
    obtain ⟨v1, e1, q1⟩ := vals_at r1 (i := j) (u := xs[j]) (List.getElem?_eq_getElem (by simpa using h1))
    obtain ⟨v2, e2, q2⟩ := vals_at r2 (i := j) (u := ys[j]) (List.getElem?_eq_getElem (by simpa using h2))
    rw [List.getElem?_map] at e1 e2
    obtain ⟨t, t1, rfl⟩ := Option.map_eq_some_iff.mp e1
    obtain ⟨u, u1, rfl⟩ := Option.map_eq_some_iff.mp e2
    have hs := sm_at (i := j) (x := t.dat) (y := u.dat) h (by rw [T.dats_map, List.getElem?_map, t1]; rfl) (by rw [T.dats_map, List.getElem?_map, u1]; rfl)
    have := (ih t u A.in1 xs[j] ys[j] (T.oks_iff.mp o1 t (List.mem_of_getElem? t1)) (T.oks_iff.mp o2 u (List.mem_of_getElem? u1)) hs (by show A.units + 1 + n < cLine; omega) q1 q2).2
    simpa using this
  have key : ∀ (n : Nat), (∀ m, n = m + 1 → ∀ (t u : T) (A : Around) (x y : Value), t.Ok p H → u.Ok p H → D.sm m t.dat u.dat = true → A.units + m < cLine → RelV t.val x → RelV u.val y → SeqAt.RcAt A s x y true ∧ SeqAt.EqAt A s x y true) → ∀ (t u : T) (A : Around) (x y : Value), t.Ok p H → u.Ok p H → D.sm n t.dat u.dat = true → A.units + n < cLine → RelV t.val x → RelV u.val y → SeqAt.RcAt A s x y true ∧ SeqAt.EqAt A s x y true := by
    intro n ih t u A x y o1 o2 h hu r1 r2
    cases t with
    | non =>
      cases u with
      | non => cases r1; cases r2; exact ⟨SeqAt.RcAt.none_none, SeqAt.EqAt.same _⟩
      | _ => cases n <;> exact Bool.noConfusion (show false = true from h)
    | bl a =>
      cases u with
      | bl b =>
        have e : a = b := by cases n <;> exact beq_iff_eq.mp h
        subst e
        cases r1; cases r2
        exact ⟨by simpa using SeqAt.RcAt.bool_bool (A := A) (s := s) a a, SeqAt.EqAt.same _⟩
      | _ => cases n <;> exact Bool.noConfusion (show false = true from h)
    | int a =>
      cases u with
      | int b =>
        have e : a = b := by cases n <;> exact beq_iff_eq.mp h
        subst e
        obtain ⟨t1, rfl⟩ := (show ∃ t, x = Value.int a t from r1)
        obtain ⟨t2, rfl⟩ := (show ∃ t, y = Value.int a t from r2)
        exact ⟨by simpa using SeqAt.RcAt.int_int (A := A) (s := s) a t1 a t2, by simpa using SeqAt.EqAt.int_int (A := A) (s := s) a t1 a t2⟩
      | _ => cases n <;> exact Bool.noConfusion (show false = true from h)
    | str a =>
      cases u with
      | str b =>
        have e : a = b := by cases n <;> exact beq_iff_eq.mp h
        subst e
        obtain ⟨t1, rfl⟩ := (show ∃ t, x = Value.str a t from r1)
        obtain ⟨t2, rfl⟩ := (show ∃ t, y = Value.str a t from r2)
        exact ⟨by simpa using SeqAt.RcAt.str_str (A := A) (s := s) a t1 a t2, by simpa using SeqAt.EqAt.str_str (A := A) (s := s) a t1 a t2⟩
      | _ => cases n <;> exact Bool.noConfusion (show false = true from h)
    | tup a ts =>
      cases u with
      | tup b us =>
        cases n with
        | zero => exact Bool.noConfusion (show false = true from h)
        | succ n =>
          obtain ⟨hl, h⟩ := Bool.and_eq_true_iff.mp (show ((T.dats ts).length == (T.dats us).length && (List.zipWith (D.sm n) (T.dats ts) (T.dats us)).all id) = true from h)
          obtain ⟨its, q1, p1, _⟩ := I.tuple (SqT.of o1.1)
          obtain ⟨its2, q2, p2, _⟩ := I.tuple (SqT.of o2.1)
          cases r1; cases r2
          have hz : its.toArray.size = its2.toArray.size := by
            have := beq_iff_eq.mp hl
            rw [T.dats_map, T.dats_map, List.length_map, List.length_map] at this
            have l1 := q1.length
            have l2 := q2.length
            rw [List.length_map] at l1 l2
            simp only [List.size_toArray]; omega
          have := SeqAt.RcAt.tuples (e := fun _ => true) p1 p2 (by omega) (items n (ih n rfl) ts us A its its2 o1.2 o2.2 h hu q1 q2)
          refine ref ?_
          have e1 : ((List.range (min its.toArray.size its2.toArray.size)).all (fun _ => true) && its.toArray.size == its2.toArray.size) = true := by rw [hz]; simp
          rw [e1] at this
          exact this
      | _ => cases n <;> exact Bool.noConfusion (show false = true from h)
    | lst a ts =>
      cases u with
      | lst b us =>
        cases n with
        | zero => exact Bool.noConfusion (show false = true from h)
        | succ n =>
          obtain ⟨hl, h⟩ := Bool.and_eq_true_iff.mp (show ((T.dats ts).length == (T.dats us).length && (List.zipWith (D.sm n) (T.dats ts) (T.dats us)).all id) = true from h)
          obtain ⟨its, q1, p1, _⟩ := I.list (.inl o1.1)
          obtain ⟨its2, q2, p2, _⟩ := I.list (.inl o2.1)
          cases r1; cases r2
          have hz : its.toArray.size = its2.toArray.size := by
            have := beq_iff_eq.mp hl
            rw [T.dats_map, T.dats_map, List.length_map, List.length_map] at this
            have l1 := q1.length
            have l2 := q2.length
            rw [List.length_map] at l1 l2
            simp only [List.size_toArray]; omega
          have := SeqAt.RcAt.lists (e := fun _ => true) p1.isList p2.isList hz (by omega) (items n (ih n rfl) ts us A its its2 o1.2 o2.2 h hu q1 q2)
          have e1 : (List.range its.toArray.size).all (fun _ => true) = true := by simp
          rw [e1] at this
          exact ref this
      | _ => cases n <;> exact Bool.noConfusion (show false = true from h)
    | exn a c => cases u <;> cases n <;> exact Bool.noConfusion (show false = true from h)
    | dic a ks ts =>
      cases u with
      | dic b ls us =>
        match ks, ts, ls, us, o1, o2, h with
        | [], [], [], [], o1, o2, _ =>
          obtain ⟨_, na, vs, kv, da⟩ := L2.dk_of I.hok o1.1.1
          obtain ⟨_, nb, vs2, kv2, db⟩ := L2.dk_of I.hok o2.1.1
          cases r1; cases r2
          rw [kv_nil kv] at da
          rw [kv_nil kv2] at db
          exact ref (L2.rc_nod na nb da db (by omega))
        | _ :: _, _, _, _, _, _, h => cases n <;> exact Bool.noConfusion (show false = true from h)
        | [], _ :: _, _, _, _, _, h => cases n <;> exact Bool.noConfusion (show false = true from h)
        | [], [], _ :: _, _, _, _, h => cases n <;> exact Bool.noConfusion (show false = true from h)
        | [], [], [], _ :: _, _, _, h => cases n <;> exact Bool.noConfusion (show false = true from h)
      | _ => cases n <;> first | exact Bool.noConfusion (show false = true from h) | (cases ks <;> cases ts <;> exact Bool.noConfusion (show false = true from h))
    | dit a ks ts => cases u <;> cases n <;> exact Bool.noConfusion (show false = true from h)
  intro n
  induction n with
  | zero => exact key 0 fun m e => nomatch e
  | succ n ih => exact key (n + 1) fun m e => by cases e; exact ih
noncomputable def eqS (us : List T) (t : T) (y : Value) : Bool := @decide (∃ u ∈ us, RelV u.val y ∧ u.dat.eqv t.dat = true) (Classical.propDecidable _)
theorem eqS_of {H : Hp} {us : List T} {t u : T} {y : Value} (ok : T.Oks p H us) (sh : ∀ w ∈ us, w.dat.shp 8 = true) (hu : u ∈ us) (r : RelV u.val y) : eqS us t y = u.dat.eqv t.dat := by
  unfold eqS
  cases e : u.dat.eqv t.dat with
  | true => exact @decide_eq_true _ (Classical.propDecidable _) ⟨u, hu, r, e⟩
  | false =>
    refine @decide_eq_false _ (Classical.propDecidable _) ?_
    rintro ⟨w, hw, r', e'⟩
    rw [T.det w u 8 8 (T.oks_iff.mp ok w hw) (T.oks_iff.mp ok u hu) (sh w hw) (sh u hu) (RelV.inj r' r)] at e'
    rw [e] at e'; cases e'
theorem any_eqS {H : Hp} {us : List T} {t : T} (ok : T.Oks p H us) (sh : ∀ w ∈ us, w.dat.shp 8 = true) : ∀ (ws : List T) (ys : List Value), (∀ w ∈ ws, w ∈ us) → Vals (ws.map T.val) ys → ys.any (eqS us t) = ws.any fun w => w.dat.eqv t.dat
  | [], _, _, .nil => rfl
  | w :: ws, _, h, .cons r q => by
    rw [List.any_cons, List.any_cons, eqS_of ok sh (h w (List.mem_cons_self ..)) r, any_eqS ok sh ws _ (fun x hx => h x (List.mem_cons_of_mem _ hx)) q]
theorem mem_vals : ∀ {ws : List T} {ys : List Value} {y : Value}, Vals (ws.map T.val) ys → y ∈ ys → ∃ w ∈ ws, RelV w.val y
  | [], _, y, .nil, h => nomatch h
  | w :: ws, _, y, .cons r q, h => by
    rcases List.mem_cons.mp h with rfl | h
    · exact ⟨w, List.mem_cons_self .., r⟩
    · obtain ⟨w', hw, r'⟩ := mem_vals q h
      exact ⟨w', List.mem_cons_of_mem _ hw, r'⟩
noncomputable def rInT (p : Px) (neg : Bool) : R2 := fun x y H Q => ∃ (t : T) (a : Addr) (us : List T), x = t.val ∧ y = .ref a ∧ (Rd H a (.lst (us.map T.val)) ∨ H a = some (.tup (us.map T.val))) ∧ T.Oks p H us ∧ t.Ok p H ∧ t.dat.shp 8 = true ∧ (∀ w ∈ us, w.dat.shp 8 = true) ∧
  Q (.bl (if neg then !(us.any fun w => w.dat.eqv t.dat) else us.any fun w => w.dat.eqv t.dat)) H
theorem op_inT (hK : X.K = p.K) (hu : X.A.units + 64 < cLine) : OpR X (compareOp .In) (rInT p false) := by
  intro pins s σ H x y v u Q I rx ry h
  obtain ⟨t, a, us, rfl, rfl, hq, ok, o1, s1, s2, q⟩ := h
  cases ry
  rcases hq with hq | hq
  · obtain ⟨its, r, pl, hz⟩ := I.list (.inl hq)
    refine SeqAt.in_listAt (eqS us t) pl.isList (fun w hw => ?_) ⟨.bl _, H, I, rfl, ?_⟩
    · obtain ⟨w', hw', r'⟩ := mem_vals r (by simpa using hw)
      rw [eqS_of ok s2 hw' r']
      exact eqAt_of hK I (by show X.A.units + 1 + 60 < cLine; omega) (T.oks_iff.mp ok w' hw') o1 (s2 w' hw') s1 r' rx
    · rw [show its.toArray.any (eqS us t) = its.any (eqS us t) by simp, any_eqS ok s2 us its (fun _ h => h) r]
      exact q
  · obtain ⟨its, r, pl, hz⟩ := I.tuple (SqT.of hq)
    refine SeqAt.in_tupleAt (eqS us t) pl (fun w hw => ?_) ⟨.bl _, H, I, rfl, ?_⟩
    · obtain ⟨w', hw', r'⟩ := mem_vals r (by simpa using hw)
      rw [eqS_of ok s2 hw' r']
      exact eqAt_of hK I (by show X.A.units + 1 + 60 < cLine; omega) (T.oks_iff.mp ok w' hw') o1 (s2 w' hw') s1 r' rx
    · rw [show its.toArray.any (eqS us t) = its.any (eqS us t) by simp, any_eqS ok s2 us its (fun _ h => h) r]
      exact q
theorem op_notInT (hK : X.K = p.K) (hu : X.A.units + 64 < cLine) : OpR X (compareOp .NotIn) (rInT p true) := by
  intro pins s σ H x y v u Q I rx ry h
  obtain ⟨t, a, us, rfl, rfl, hq, ok, o1, s1, s2, q⟩ := h
  cases ry
  rcases hq with hq | hq
  · obtain ⟨its, r, pl, hz⟩ := I.list (.inl hq)
    refine SeqAt.notIn_listAt (eqS us t) pl.isList (fun w hw => ?_) ⟨.bl _, H, I, rfl, ?_⟩
    · obtain ⟨w', hw', r'⟩ := mem_vals r (by simpa using hw)
      rw [eqS_of ok s2 hw' r']
      exact eqAt_of hK I (by show X.A.units + 1 + 60 < cLine; omega) (T.oks_iff.mp ok w' hw') o1 (s2 w' hw') s1 r' rx
    · rw [show its.toArray.any (eqS us t) = its.any (eqS us t) by simp, any_eqS ok s2 us its (fun _ h => h) r]
      exact q
  · obtain ⟨its, r, pl, hz⟩ := I.tuple (SqT.of hq)
    refine SeqAt.notIn_tupleAt (eqS us t) pl (fun w hw => ?_) ⟨.bl _, H, I, rfl, ?_⟩
    · obtain ⟨w', hw', r'⟩ := mem_vals r (by simpa using hw)
      rw [eqS_of ok s2 hw' r']
      exact eqAt_of hK I (by show X.A.units + 1 + 60 < cLine; omega) (T.oks_iff.mp ok w' hw') o1 (s2 w' hw') s1 r' rx
    · rw [show its.toArray.any (eqS us t) = its.any (eqS us t) by simp, any_eqS ok s2 us its (fun _ h => h) r]
      exact q
end
end Pu
end
section
namespace Pu
open PySem PySem.Spec PyProof.Rows PySem.W L2
section
variable {p : Px} {EX : EXT} {tn : List Nat} {X : Cx} {pos : Pos}
noncomputable def cmpOf : C2 → CmpOp
  | .lt => .Lt
  | .le => .LtE
  | .gt => .Gt
  | .ge => .GtE
  | .eq => .Eq
  | .ne => .NotEq
  | .inn => .In
  | .nin => .NotIn
  | .sm => .Eq
noncomputable def rEqT (p : Px) (neg : Bool) : R2 := fun x y H Q => ∃ t u : T, x = t.val ∧ y = u.val ∧ t.Ok p H ∧ u.Ok p H ∧ t.dat.shp 8 = true ∧ u.dat.shp 8 = true ∧ Q (.bl (if neg then !t.dat.eqv u.dat else t.dat.eqv u.dat)) H
noncomputable def rSmT (p : Px) : R2 := fun x y H Q => ∃ t u : T, x = t.val ∧ y = u.val ∧ t.Ok p H ∧ u.Ok p H ∧ D.sm 8 t.dat u.dat = true ∧ Q (.bl true) H
noncomputable def rCmp (p : Px) : C2 → R2
  | .lt => rI0 fun i j => .bl (decide (i < j))
  | .le => rI0 fun i j => .bl (decide (i ≤ j))
  | .gt => rI0 fun i j => .bl (decide (j < i))
  | .ge => rI0 fun i j => .bl (decide (j ≤ i))
  | .eq => rEqT p false
  | .ne => rEqT p true
  | .inn => rInT p false
  | .nin => rInT p true
  | .sm => rSmT p
theorem cmp_all (hK : X.K = p.K) (hu : X.A.units + 64 < cLine) : ∀ o : C2, OpR X (compareOp (cmpOf o)) (rCmp p o)
  | .lt => op_lt
  | .le => op_le
  | .gt => op_gt
  | .ge => op_ge
  | .eq => by
    intro pins s σ H x y v u Q I rx ry h
    obtain ⟨t, w, rfl, rfl, o1, o2, s1, s2, q⟩ := h
    refine op_eqD hu pins s σ H _ _ v u Q I rx ry ⟨_, _, hK ▸ rd_of t 8 o1 s1, hK ▸ rd_of w 8 o2 s2, shaped_of s1, shaped_of s2, ?_⟩
    rw [← eqv_py _ _ 8 8 s1 s2]; exact q
  | .ne => by
    intro pins s σ H x y v u Q I rx ry h
    obtain ⟨t, w, rfl, rfl, o1, o2, s1, s2, q⟩ := h
    refine op_neD hu pins s σ H _ _ v u Q I rx ry ⟨_, _, hK ▸ rd_of t 8 o1 s1, hK ▸ rd_of w 8 o2 s2, shaped_of s1, shaped_of s2, ?_⟩
    rw [← eqv_py _ _ 8 8 s1 s2]; exact q
  | .inn => op_inT hK hu
  | .nin => op_notInT hK hu
  | .sm => by
    intro pins s σ H x y v u Q I rx ry h
    obtain ⟨t, w, rfl, rfl, o1, o2, hs, q⟩ := h
    exact (sm_rc hK I 8 t w X.A v u o1 o2 hs (by omega) rx ry).1 X.prog X.w X.xe _ ⟨.bl true, H, I, rfl, q⟩
theorem any_dats {t : T} : ∀ us : List T, ((T.dats us).any fun y => D.eqv y t.dat) = us.any fun w => w.dat.eqv t.dat
  | [] => rfl
  | u :: r => by simp [T.dats, any_dats r]
theorem all_dats {f : D → Bool} : ∀ {us : List T}, (T.dats us).all f = true → ∀ w ∈ us, f w.dat = true
  | [], _, w, h => nomatch h
  | u :: r, h, w, hw => by
    simp only [T.dats, List.all_cons, Bool.and_eq_true] at h
    rcases List.mem_cons.mp hw with rfl | hw
    · exact h.1
    · exact all_dats h.2 w hw
theorem in_ok {β : Type} {t : T} {us : List T} {σ : St} {H : Hp} {f : Bool → Res β} {Kc : β → Prop} (h : Lg p EX σ ((inD t.dat (T.dats us)).bind f) H Kc) : t.dat.shp 8 = true ∧ (∀ w ∈ us, w.dat.shp 8 = true) ∧ Lg p EX σ (f (us.any fun w => w.dat.eqv t.dat)) H Kc := by
  have h := h.bind
  unfold inD at h
  obtain ⟨hc, h⟩ := h.guard
  rw [Bool.and_eq_true] at hc
  rw [any_dats] at h
  exact ⟨hc.1, fun w hw => all_dats hc.2 w hw, h⟩
theorem c2_ok {B : Addr → Prop} {H H2 : Hp} {ja jb ka kb : Nat} {t u : T} {o : C2} {σ : St} {Kc : D → Prop} {Q : VK} (r : Rs p B H H2 ja ka t) (r' : Rs p B H H2 jb kb u) (h : Lg p EX σ (c2 o t.dat u.dat) H Kc) (hQ : ∀ b, Kc (.bl b) → Q (.bl b) H2) : rCmp p o t.val u.val H2 Q := by
  cases o with
  | lt =>
    obtain ⟨i, j, rfl, rfl, h⟩ := int2_is (Q := fun r => Lg p EX σ r H Kc) id h
    exact ⟨_, _, rfl, rfl, hQ _ h⟩
  | le =>
    obtain ⟨i, j, rfl, rfl, h⟩ := int2_is (Q := fun r => Lg p EX σ r H Kc) id h
    exact ⟨_, _, rfl, rfl, hQ _ h⟩
  | gt =>
    obtain ⟨i, j, rfl, rfl, h⟩ := int2_is (Q := fun r => Lg p EX σ r H Kc) id h
    exact ⟨_, _, rfl, rfl, hQ _ h⟩
  | ge =>
    obtain ⟨i, j, rfl, rfl, h⟩ := int2_is (Q := fun r => Lg p EX σ r H Kc) id h
    exact ⟨_, _, rfl, rfl, hQ _ h⟩
  | eq =>
    simp only [c2] at h
    obtain ⟨hc, h⟩ := h.guard
    rw [Bool.and_eq_true] at hc
    exact ⟨t, u, rfl, rfl, r.ok, r'.ok, hc.1, hc.2, hQ _ h⟩
  | ne =>
    simp only [c2] at h
    obtain ⟨hc, h⟩ := h.guard
    rw [Bool.and_eq_true] at hc
    exact ⟨t, u, rfl, rfl, r.ok, r'.ok, hc.1, hc.2, hQ _ h⟩
  | inn =>
    cases u <;> first | exact (show False from h).elim | skip
    · obtain ⟨s1, s2, h⟩ := in_ok h
      exact ⟨t, _, _, rfl, rfl, .inr r'.ok.1, r'.ok.2, r.ok, s1, s2, hQ _ h⟩
    · obtain ⟨s1, s2, h⟩ := in_ok h
      exact ⟨t, _, _, rfl, rfl, .inl r'.ok.1, r'.ok.2, r.ok, s1, s2, hQ _ h⟩
  | nin =>
    cases u <;> first | exact (show False from h).elim | skip
    · obtain ⟨s1, s2, h⟩ := in_ok h
      exact ⟨t, _, _, rfl, rfl, .inr r'.ok.1, r'.ok.2, r.ok, s1, s2, hQ _ h⟩
    · obtain ⟨s1, s2, h⟩ := in_ok h
      exact ⟨t, _, _, rfl, rfl, .inl r'.ok.1, r'.ok.2, r.ok, s1, s2, hQ _ h⟩
  | sm =>
    simp only [c2] at h
    obtain ⟨hc, h⟩ := h.guard
    exact ⟨t, u, rfl, rfl, r.ok, r'.ok, hc, hQ _ h⟩
theorem KE.bl {B : Addr → Prop} {H H2 : Hp} {j k : Nat} {Q : VK} {b : Bool} (s : Same H H2) (h : KE p B H j k Q (.bl b)) : Q (.bl b) H2 := h (.bl b) H2 rfl (Rs.scal s rfl)
theorem lcmp {x y : E} {o : C2} {τ : Ft} {H : Hp} {Kc : D → Prop} {Q : VK} {j1 k1 j2 k2 : Nat} (hF : Fok p tn τ H) (h1 : jk tn x = some (j1, k1)) (h2 : jk tn y = some (j2, k2))
    (h : Lg p EX (vτ τ) ((ev x (dτ τ)).bind fun a => (ev y (dτ τ)).bind fun b => c2 o a b) H Kc) (hQ : ∀ b H2, Same H H2 → Kc (.bl b) → Q (.bl b) H2) : tOp (rCmp p o) (lE p EX tn x) (lE p EX tn y) (vτ τ) H Q := by
  refine l1 hF h1 h fun d t H1 ht R h => l2 hF R.same h2 h fun d' t' H2 ht' R' h => ?_
  subst ht ht'
  exact c2_ok (R.fwd R'.same) (R'.back R.same) h fun b hb => hQ b H2 (R.same.trans R'.same) hb
theorem snd_cmp (hK : X.K = p.K) (hu : X.A.units + 64 < cLine) {a b : Expr} {x y : E} {o : C2} (ha : PE X a (lE p EX tn x)) (hb : PE X b (lE p EX tn y)) (hm : behindInMarks (cmpOf o) b = false) : PE X (.Compare a [cmpOf o] [b] pos) (lE p EX tn (.cmp o x y)) := by
  refine PE.mono (pe_cmpR (cmp_all hK hu o) ha hb hm) fun σ H Q h => ?_
  obtain ⟨τ, rfl, hF, j, k, hj, h⟩ := h
  simp only [jk] at hj
  obtain ⟨⟨j1, k1⟩, h1, hj⟩ := Option.bind_eq_some_iff.mp hj
  obtain ⟨⟨j2, k2⟩, h2, hj⟩ := Option.bind_eq_some_iff.mp hj
  simp only [ev] at h
  exact lcmp hF h1 h2 h fun b H2 s hb => KE.bl s hb
theorem sndT_cmp (hK : X.K = p.K) (hu : X.A.units + 64 < cLine) {a b : Expr} {x y : E} {o : C2} (ha : PE X a (lE p EX tn x)) (hb : PE X b (lE p EX tn y)) (hm : behindInMarks (cmpOf o) b = false) : PT X (.Compare a [cmpOf o] [b] pos) (lT p EX tn (.cmp o x y)) := by
  refine PT.mono (pt_cmpR (cmp_all hK hu o) ha hb hm) fun σ H Q h => ?_
  obtain ⟨τ, rfl, hF, hj, h⟩ := h
  obtain ⟨q, hj⟩ := Option.isSome_iff_exists.mp hj
  simp only [jk] at hj
  obtain ⟨⟨j1, k1⟩, h1, hj⟩ := Option.bind_eq_some_iff.mp hj
  obtain ⟨⟨j2, k2⟩, h2, hj⟩ := Option.bind_eq_some_iff.mp hj
  simp only [tv, ev] at h
  exact lcmp hF h1 h2 h.bind fun b H2 s hb => ⟨b, rfl, hb H2 s⟩
theorem lchain {x y z : E} {o o' : C2} {τ : Ft} {H : Hp} {Kc : D → Prop} {Q : VK} {j1 k1 j2 k2 j3 k3 : Nat} (hF : Fok p tn τ H) (h1 : jk tn x = some (j1, k1)) (h2 : jk tn y = some (j2, k2)) (h3 : jk tn z = some (j3, k3))
    (h : Lg p EX (vτ τ) (ev (.chain o o' x y z) (dτ τ)) H Kc) (hQ : ∀ b H2, Same H H2 → Kc (.bl b) → Q (.bl b) H2) : tChain (rCmp p o) (rCmp p o') (lE p EX tn x) (lE p EX tn y) (lE p EX tn z) (vτ τ) H Q := by
  simp only [ev] at h
  refine l1 hF h1 h fun d t H1 ht R h => l2 hF R.same h2 h fun d' t' H2 ht' R' h => ?_
  subst ht ht'
  refine c2_ok (R.fwd R'.same) (R'.back R.same) h.bind fun b h => ⟨b, rfl, ?_⟩
  have s2 := R.same.trans R'.same
  cases b with
  | false => exact hQ false H2 s2 h
  | true =>
    refine l2 hF s2 h3 h fun d'' t'' H3 ht'' R'' h => ?_
    subst ht''
    exact c2_ok ((R'.back R.same).fwd R''.same) (R''.back s2) h fun b hb => hQ b H3 (s2.trans R''.same) hb
theorem snd_chain (hK : X.K = p.K) (hu : X.A.units + 64 < cLine) {a b c : Expr} {x y z : E} {o o' : C2} (ha : PE X a (lE p EX tn x)) (hb : PE X b (lE p EX tn y)) (hc : PE X c (lE p EX tn z)) (hm : lastMarks [cmpOf o, cmpOf o'] [b, c] = false) : PE X (.Compare a [cmpOf o, cmpOf o'] [b, c] pos) (lE p EX tn (.chain o o' x y z)) := by
  refine PE.mono (pe_chain (cmp_all hK hu o) (cmp_all hK hu o') ha hb hc hm) fun σ H Q h => ?_
  obtain ⟨τ, rfl, hF, j, k, hj, h⟩ := h
  simp only [jk] at hj
  obtain ⟨⟨j1, k1⟩, h1, hj⟩ := Option.bind_eq_some_iff.mp hj
  obtain ⟨⟨j2, k2⟩, h2, hj⟩ := Option.bind_eq_some_iff.mp hj
  obtain ⟨⟨j3, k3⟩, h3, hj⟩ := Option.bind_eq_some_iff.mp hj
  exact lchain hF h1 h2 h3 h fun b H2 s hb => KE.bl s hb
theorem sndT_chain (hK : X.K = p.K) (hu : X.A.units + 64 < cLine) {a b c : Expr} {x y z : E} {o o' : C2} (ha : PE X a (lE p EX tn x)) (hb : PE X b (lE p EX tn y)) (hc : PE X c (lE p EX tn z)) (hm : lastMarks [cmpOf o, cmpOf o'] [b, c] = false) : PT X (.Compare a [cmpOf o, cmpOf o'] [b, c] pos) (lT p EX tn (.chain o o' x y z)) := by
  refine PT.mono (pt_chain (cmp_all hK hu o) (cmp_all hK hu o') ha hb hc hm) fun σ H Q h => ?_
  obtain ⟨τ, rfl, hF, hj, h⟩ := h
  obtain ⟨q, hj⟩ := Option.isSome_iff_exists.mp hj
  simp only [jk] at hj
  obtain ⟨⟨j1, k1⟩, h1, hj⟩ := Option.bind_eq_some_iff.mp hj
  obtain ⟨⟨j2, k2⟩, h2, hj⟩ := Option.bind_eq_some_iff.mp hj
  obtain ⟨⟨j3, k3⟩, h3, hj⟩ := Option.bind_eq_some_iff.mp hj
  unfold tv at h
  exact lchain hF h1 h2 h3 h.bind fun b H2 s hb => ⟨b, rfl, hb H2 s⟩
theorem isN_dat {t : T} : decide (t.val = V.non) = (match t.dat with | .non => true | _ => false) := by
  cases t <;> rfl
theorem lisN {x : E} {n : Bool} {τ : Ft} {H : Hp} {Kc : D → Prop} {Q : VK} {j1 k1 : Nat} (hF : Fok p tn τ H) (h1 : jk tn x = some (j1, k1)) (h : Lg p EX (vτ τ) (ev (.isN n x) (dτ τ)) H Kc) (hQ : ∀ b H2, Same H H2 → Kc (.bl b) → Q (.bl b) H2) :
    lE p EX tn x (vτ τ) H fun v H1 => Q (.bl (if n then !decide (v = .non) else decide (v = .non))) H1 := by
  simp only [ev] at h
  refine l1 hF h1 h fun d t H1 ht R h => ?_
  subst ht
  refine hQ _ H1 R.same ?_
  have h : Kc (.bl (match t.dat with | .non => !n | _ => n)) := h
  rw [isN_dat]
  cases n <;> cases t <;> exact h
theorem snd_isN {a : Expr} {x : E} {n : Bool} {j pos'} (ha : PE X a (lE p EX tn x)) : PE X (.Compare a [if n then .IsNot else .Is] [.Constant .none j pos'] pos) (lE p EX tn (.isN n x)) := by
  have key : ∀ σ H Q, lE p EX tn (.isN n x) σ H Q → lE p EX tn x σ H fun v H1 => Q (.bl (if n then !decide (v = .non) else decide (v = .non))) H1 := by
    intro σ H Q h
    obtain ⟨τ, rfl, hF, j, k, hj, h⟩ := h
    simp only [jk] at hj
    obtain ⟨⟨j1, k1⟩, h1, hj⟩ := Option.bind_eq_some_iff.mp hj
    exact lisN hF h1 h fun b H2 s hb => KE.bl s hb
  cases n with
  | true => exact PE.mono (pe_cmp (pc_notN ha)) fun σ H Q h => key σ H Q h
  | false => exact PE.mono (pe_cmp (pc_isN ha)) fun σ H Q h => key σ H Q h
theorem sndT_isN {a : Expr} {x : E} {n : Bool} {j pos'} (ha : PE X a (lE p EX tn x)) : PT X (.Compare a [if n then .IsNot else .Is] [.Constant .none j pos'] pos) (lT p EX tn (.isN n x)) := by
  have key : ∀ σ H Q, lT p EX tn (.isN n x) σ H Q → lE p EX tn x σ H fun v H1 => ∃ c, V.bl (if n then !decide (v = .non) else decide (v = .non)) = V.bl c ∧ Q c H1 := by
    intro σ H Q h
    obtain ⟨τ, rfl, hF, hj, h⟩ := h
    obtain ⟨q, hj⟩ := Option.isSome_iff_exists.mp hj
    simp only [jk] at hj
    obtain ⟨⟨j1, k1⟩, h1, hj⟩ := Option.bind_eq_some_iff.mp hj
    unfold tv at h
    exact lisN (Q := fun v H1 => ∃ c, v = V.bl c ∧ Q c H1) hF h1 h.bind fun b H2 s hb => ⟨b, rfl, hb H2 s⟩
  cases n with
  | true => exact PT.mono (pt_cmp (pc_notN ha)) fun σ H Q h => key σ H Q h
  | false => exact PT.mono (pt_cmp (pc_isN ha)) fun σ H Q h => key σ H Q h
end
end Pu
end
section
namespace Pu
open PySem PySem.Spec PyProof.Rows PySem.W L2
section
variable {p : Px} {EX : EXT} {tn : List Nat} {X : Cx} {pos : Pos}
theorem snd_neg {a : Expr} {x : E} (ha : PE X a (lE p EX tn x)) : PE X (.UnaryOp .USub a pos) (lE p EX tn (.neg x)) := by
  refine PE.mono (pe_un un_neg ha) fun σ H Q h => ?_
  obtain ⟨τ, rfl, hF, j, k, hj, h⟩ := h
  simp only [jk] at hj
  obtain ⟨⟨j1, k1⟩, h1, hj⟩ := Option.bind_eq_some_iff.mp hj
  simp only [ev] at h
  refine l1 hF h1 h fun d t H1 ht R h => ?_
  subst ht
  cases t <;> simp only [T.dat] at h
  all_goals first | exact (show False from h).elim | exact ⟨_, rfl, h (.int _) H1 rfl (Rs.scal R.same rfl)⟩
theorem snd_not {a : Expr} {x : E} (ha : PE X a (lE p EX tn x)) : PE X (.UnaryOp .Not a pos) (lE p EX tn (.not x)) := by
  refine PE.mono (pe_not ha) fun σ H Q h => ?_
  obtain ⟨τ, rfl, hF, j, k, hj, h⟩ := h
  simp only [jk] at hj
  obtain ⟨⟨j1, k1⟩, h1, hj⟩ := Option.bind_eq_some_iff.mp hj
  simp only [ev] at h
  refine l1 hF h1 h fun d t H1 ht R h => ?_
  subst ht
  cases t <;> simp only [T.dat] at h
  all_goals first | exact (show False from h).elim | exact ⟨_, rfl, h (.bl _) H1 rfl (Rs.scal R.same rfl)⟩
theorem truth_ok {H : Hp} {t : T} {σ : St} {H0 : Hp} {Kc : Bool → Prop} (hK : X.K = p.K) (ok : t.Ok p H) (h : Lg p EX σ (truth t.dat) H0 Kc) : ∃ b, TruV X.K t.val H b ∧ Kc b := by
  cases t <;> simp only [T.dat, truth] at h
  · exact ⟨false, rfl, h⟩
  · exact ⟨_, rfl, h⟩
  · exact ⟨_, rfl, h⟩
  · exact (show False from h).elim
  · rename_i a ts
    refine ⟨_, .inr (.inl ⟨_, SqT.of ok.1, rfl⟩), ?_⟩
    have h : Kc (!(T.dats ts).isEmpty) := h
    cases ts <;> exact h
  · rename_i a ts
    refine ⟨_, .inl ⟨_, .inl ok.1, rfl⟩, ?_⟩
    have h : Kc (!(T.dats ts).isEmpty) := h
    cases ts <;> exact h
  · exact (show False from h).elim
  · exact (show False from h).elim
  · exact (show False from h).elim
noncomputable def plainT : Expr → Bool
  | .UnaryOp .Not _ _ => false
  | .BoolOp _ _ _ => false
  | .IfExp _ _ _ _ => false
  | .Compare _ _ _ _ => false
  | _ => true
theorem plainT_is {a : Expr} {env : Env} (h : plainT a = true) : ∀ whole, isTrue a env whole = (do let v ← whole; standAt a.pos; holding [v] (truthy v)) := by
  intro whole
  cases a with
  | UnaryOp o x q => cases o <;> first | rfl | cases h
  | BoolOp _ _ _ => cases h
  | IfExp _ _ _ _ => cases h
  | Compare _ _ _ _ => cases h
  | _ => rfl
theorem sndT_plain (hK : X.K = p.K) {a : Expr} {x : E} (ha : PE X a (lE p EX tn x)) (hp : plainT a = true) : PT X a (lT p EX tn x) := by
  refine PT.mono (pt_truth ha (plainT_is hp)) fun σ H Q h => ?_
  obtain ⟨τ, rfl, hF, hj, h⟩ := h
  obtain ⟨⟨j, k⟩, hj⟩ := Option.isSome_iff_exists.mp hj
  refine l1 hF hj h fun d t H1 ht R h => ?_
  subst ht
  obtain ⟨b, tb, hb⟩ := truth_ok (X := X) hK R.ok h
  exact ⟨b, tb, hb H1 R.same⟩
theorem sndT_not {a : Expr} {x : E} (ha : PT X a (lT p EX tn x)) : PT X (.UnaryOp .Not a pos) (lT p EX tn (.not x)) := by
  refine PT.mono (pt_not ha) fun σ H Q h => ?_
  obtain ⟨τ, rfl, hF, hj, h⟩ := h
  obtain ⟨q, hj⟩ := Option.isSome_iff_exists.mp hj
  simp only [jk] at hj
  obtain ⟨⟨j1, k1⟩, h1, hj⟩ := Option.bind_eq_some_iff.mp hj
  refine ⟨τ, rfl, hF, by rw [h1]; rfl, ?_⟩
  unfold tv at h ⊢
  simp only [ev] at h
  cases q : ev x (dτ τ) with
  | ok d =>
    rw [q] at h
    simp only [Res.bind_ok] at h ⊢
    cases d <;> simp only [Res.bind_bad] at h
    all_goals first | exact (show False from h).elim | exact h
  | exc c => rw [q] at h; exact h
  | bad => rw [q] at h; exact h
theorem bo_one {a : Expr} {x : E} {k0 : Bool} (ha : PE X a (lE p EX tn x)) : PE X (.BoolOp (if k0 then .And else .Or) [a] pos) (lE p EX tn (.bo k0 (.cons x .nil))) := by
  refine PE.mono (pe_one ha) fun σ H Q h => ?_
  obtain ⟨τ, rfl, hF, j, k, hj, h⟩ := h
  simp only [jk, jks] at hj
  obtain ⟨⟨j1, k1⟩, h1, hj⟩ := Option.bind_eq_some_iff.mp hj
  simp only [ev, evBo] at h
  have hj := Option.some.inj hj
  refine ⟨τ, rfl, hF, j1, k1, h1, h.mono (Same.refl _) fun d _ hd t H' ht R => hd t H' ht (R.le ?_ ?_)⟩
  · simp at hj; omega
  · simp at hj
    obtain ⟨h1, h2⟩ := hj
    rw [← h2]
    split
    · exact Nat.min_le_left ..
    · exact Nat.zero_le _
theorem bo_cons {a b : Expr} {rest : List Expr} {x y : E} {r : Es} {k0 : Bool} (ha : PE X a (lE p EX tn x)) (hb : PE X (.BoolOp (if k0 then .And else .Or) (b :: rest) pos) (lE p EX tn (.bo k0 (.cons y r)))) :
    PE X (.BoolOp (if k0 then .And else .Or) (a :: b :: rest) pos) (lE p EX tn (.bo k0 (.cons x (.cons y r)))) := by
  have key : ∀ σ H Q, lE p EX tn (.bo k0 (.cons x (.cons y r))) σ H Q → lE p EX tn x σ H fun v H1 => ∃ c, v = .bl c ∧ if c = k0 then lE p EX tn (.bo k0 (.cons y r)) σ H1 Q else Q (.bl c) H1 := by
    intro σ H Q h
    obtain ⟨τ, rfl, hF, j, k, hj, h⟩ := h
    simp only [jk, jks] at hj
    obtain ⟨⟨j1, k1⟩, h1, hj⟩ := Option.bind_eq_some_iff.mp hj
    obtain ⟨⟨j2, k2⟩, h2, hj⟩ := Option.bind_eq_some_iff.mp hj
    have hj := Option.some.inj hj
    simp only [Prod.mk.injEq] at hj
    simp only [ev, evBo] at h
    refine l1 hF h1 h fun d t H1 ht R h => ?_
    subst ht
    cases t <;> simp only [T.dat] at h
    all_goals first | exact (show False from h).elim | skip
    rename_i c
    refine ⟨c, rfl, ?_⟩
    by_cases z : c = k0
    · rw [if_pos z] at h ⊢
      refine ⟨τ, rfl, hF.same R.same, j2, k2, by simp only [jk, jks]; exact h2, ?_⟩
      simp only [ev]
      refine h.mono R.same fun d _ hd t H' ht R' => hd t H' ht ((R'.back R.same).le (by omega) ?_)
      rw [← hj.2]
      split
      · exact Nat.min_le_right ..
      · exact Nat.zero_le _
    · rw [if_neg z] at h ⊢
      exact h (.bl c) H1 rfl (Rs.scal R.same rfl)
  cases k0 with
  | true =>
    refine PE.mono (pe_and ha hb) fun σ H Q h => ?_
    refine (show ∀ (A B : VK), (∀ v H, A v H → B v H) → lE p EX tn x σ H A → lE p EX tn x σ H B from ?_) _ _ ?_ (key σ H Q h)
    · rintro A B m ⟨τ, e, hF, j, k, hj, h⟩
      exact ⟨τ, e, hF, j, k, hj, h.mono (Same.refl _) fun d _ hd t H' ht R => m _ _ (hd t H' ht R)⟩
    · rintro v H1 ⟨c, rfl, h⟩
      exact ⟨c, rfl, by cases c <;> simpa using h⟩
  | false =>
    refine PE.mono (pe_or ha hb) fun σ H Q h => ?_
    refine (show ∀ (A B : VK), (∀ v H, A v H → B v H) → lE p EX tn x σ H A → lE p EX tn x σ H B from ?_) _ _ ?_ (key σ H Q h)
    · rintro A B m ⟨τ, e, hF, j, k, hj, h⟩
      exact ⟨τ, e, hF, j, k, hj, h.mono (Same.refl _) fun d _ hd t H' ht R => m _ _ (hd t H' ht R)⟩
    · rintro v H1 ⟨c, rfl, h⟩
      exact ⟨c, rfl, by cases c <;> simpa using h⟩
theorem boT_one {a : Expr} {x : E} {k0 : Bool} (ha : PT X a (lT p EX tn x)) : PW X (.BoolOp (if k0 then .And else .Or) [a] pos) (lT p EX tn (.bo k0 (.cons x .nil))) := by
  have key : ∀ σ H Q, lT p EX tn (.bo k0 (.cons x .nil)) σ H Q → lT p EX tn x σ H Q := by
    rintro σ H Q ⟨τ, rfl, hF, hj, h⟩
    refine ⟨τ, rfl, hF, ?_, by simpa only [tv, ev, evBo] using h⟩
    obtain ⟨q, hj⟩ := Option.isSome_iff_exists.mp hj
    simp only [jk, jks] at hj
    obtain ⟨⟨j1, k1⟩, h1, hj⟩ := Option.bind_eq_some_iff.mp hj
    rw [h1]; rfl
  cases k0 with
  | true => exact fun wh pins s σ H Q I h => pw_and1 ha wh pins s σ H Q I (key σ H Q h)
  | false => exact fun wh pins s σ H Q I h => pw_or1 ha wh pins s σ H Q I (key σ H Q h)
theorem boT_cons {a b : Expr} {rest : List Expr} {x y : E} {r : Es} {k0 : Bool} (ha : PT X a (lT p EX tn x)) (hb : PW X (.BoolOp (if k0 then .And else .Or) (b :: rest) pos) (lT p EX tn (.bo k0 (.cons y r)))) :
    PW X (.BoolOp (if k0 then .And else .Or) (a :: b :: rest) pos) (lT p EX tn (.bo k0 (.cons x (.cons y r)))) := by
  have key : ∀ σ H Q, lT p EX tn (.bo k0 (.cons x (.cons y r))) σ H Q → lT p EX tn x σ H fun c H1 => if c = k0 then lT p EX tn (.bo k0 (.cons y r)) σ H1 Q else Q c H1 := by
    rintro σ H Q ⟨τ, rfl, hF, hj, h⟩
    obtain ⟨q, hj⟩ := Option.isSome_iff_exists.mp hj
    simp only [jk, jks] at hj
    obtain ⟨⟨j1, k1⟩, h1, hj⟩ := Option.bind_eq_some_iff.mp hj
    obtain ⟨⟨j2, k2⟩, h2, hj⟩ := Option.bind_eq_some_iff.mp hj
    refine ⟨τ, rfl, hF, by rw [h1]; rfl, ?_⟩
    simp only [tv, ev, evBo] at h ⊢
    cases q : ev x (dτ τ) with
    | ok d =>
      rw [q] at h
      simp only [Res.bind_ok] at h ⊢
      cases d <;> simp only [Res.bind_bad] at h
      all_goals first | exact (show False from h).elim | skip
      rename_i c
      show ∀ H', Same H H' → if c = k0 then _ else _
      intro H' s
      by_cases z : c = k0
      · rw [if_pos z] at h ⊢
        refine ⟨τ, rfl, hF.same s, by simp only [jk, jks]; rw [h2]; rfl, ?_⟩
        simp only [tv, ev]
        exact h.mono s fun b _ hb H2 s2 => hb H2 (s.trans s2)
      · rw [if_neg z] at h ⊢
        exact h H' s
    | exc c => rw [q] at h; exact h
    | bad => rw [q] at h; exact h
  have mon : ∀ (σ : St) (H : Hp) (A B : Bool → Hp → Prop), (∀ v H, A v H → B v H) → lT p EX tn x σ H A → lT p EX tn x σ H B := by
    rintro σ H A B m ⟨τ, e, hF, hj, h⟩
    exact ⟨τ, e, hF, hj, h.mono (Same.refl _) fun b _ hb H' s => m _ _ (hb H' s)⟩
  cases k0 with
  | true => exact fun wh pins s σ H Q I h => pw_and ha hb wh pins s σ H Q I (mon _ _ _ _ (fun c H1 h => by cases c <;> simpa using h) (key σ H Q h))
  | false => exact fun wh pins s σ H Q I h => pw_or ha hb wh pins s σ H Q I (mon _ _ _ _ (fun c H1 h => by cases c <;> simpa using h) (key σ H Q h))
end
end Pu
end
section
namespace Pu
open PySem PySem.Spec PyProof.Rows PySem.W L2
section
variable {p : Px} {EX : EXT} {tn : List Nat} {X : Cx} {pos : Pos}
theorem ixN_eq (n : Nat) (i : Int) : L2.ixN n i = ixN n i := rfl
theorem at_ok {ts : List T} {i : Int} {σ : St} {H : Hp} {Kc : D → Prop} (h : Lg p EX σ (atD (T.dats ts) i) H Kc) : ∃ t ∈ ts, atI (ts.map T.val) i = some t.val ∧ Kc t.dat := by
  unfold atD at h
  rw [dats_length] at h
  cases q : ixN ts.length i with
  | none => rw [q] at h; exact (show False from h).elim
  | some j =>
    rw [q] at h
    simp only [Option.bind_some] at h
    rw [T.dats_map, List.getElem?_map] at h
    cases e : ts[j]? with
    | none => rw [e] at h; exact (show False from h).elim
    | some t =>
      rw [e] at h
      refine ⟨t, List.mem_of_getElem? e, ?_, h⟩
      unfold atI
      rw [List.length_map, ixN_eq, q]
      show (ts.map T.val)[j]? = _
      rw [List.getElem?_map, e]; rfl
theorem Rs.sub {B : Addr → Prop} {H H1 : Hp} {j k j' : Nat} {t u : T} (r : Rs p B H H1 j k t) (ok : u.Ok p H1) (h : ∀ a ∈ u.rest j', a ∈ t.rest j) : Rs p B H H1 j' 0 u :=
  ⟨r.same, ok, fun a m => r.src a (h a m), by rw [T.adr_zero]; simp, T.nd_zero u⟩
noncomputable def plainI : Expr → Bool
  | .Slice _ _ _ _ => false
  | _ => true
theorem plainI_is {b : Expr} (h : plainI b = true) : PlainIx b := by
  intro o i
  cases b <;> first | rfl | cases h
theorem ix_any (hK : X.K = p.K) : IxR X (fun x y H Q => rIxL X.K x y H Q ∨ rIxT X.K x y H Q) := ix_list.or ix_tup
theorem snd_ix (hK : X.K = p.K) {a b : Expr} {x y : E} (ha : PE X a (lE p EX tn x)) (hb : PE X b (lE p EX tn y)) (hp : plainI b = true) : PE X (.Subscript a b pos) (lE p EX tn (.ix x y)) := by
  refine PE.mono (pe_ix (ix_any hK) ha hb (plainI_is hp)) fun σ H Q h => ?_
  obtain ⟨τ, rfl, hF, j, k, hj, h⟩ := h
  simp only [jk] at hj
  obtain ⟨⟨j1, k1⟩, h1, hj⟩ := Option.bind_eq_some_iff.mp hj
  obtain ⟨⟨j2, k2⟩, h2, hj⟩ := Option.bind_eq_some_iff.mp hj
  obtain ⟨hc, e⟩ := gj_eq hj
  cases e
  have hc := of_decide_eq_true hc
  subst hc
  simp only [ev] at h
  refine l1 hF h1 h fun d t H1 ht R h => l2 hF R.same h2 h fun d' t' H2 ht' R' h => ?_
  subst ht ht'
  have R := R.fwd R'.same
  cases t <;> cases t' <;> simp only [T.dat, ixD] at h
  all_goals first | exact (show False from h).elim | skip
  · obtain ⟨u, hu, e, h⟩ := at_ok h
    exact .inr ⟨_, _, _, _, rfl, rfl, SqT.of R.ok.1, e, h u H2 rfl (R.sub (T.oks_iff.mp R.ok.2 u hu) fun b m => T.mem_rests.mpr ⟨u, hu, m⟩)⟩
  · obtain ⟨u, hu, e, h⟩ := at_ok h
    exact .inl ⟨_, _, _, _, rfl, rfl, .inl R.ok.1, e, h u H2 rfl (R.sub (T.oks_iff.mp R.ok.2 u hu) fun b m => List.mem_cons_of_mem _ (T.mem_rests.mpr ⟨u, hu, m⟩))⟩
theorem snd_ixL {a b : Expr} {x y : E} (ha : PE X a (lE p EX tn x)) (hb : PE X b (lE p EX tn y)) (hp : plainI b = true) : PE X (.Subscript a b pos) (lE p EX tn (.ixL x y)) := by
  refine PE.mono (pe_ix ix_list ha hb (plainI_is hp)) fun σ H Q h => ?_
  obtain ⟨τ, rfl, hF, j, k, hj, h⟩ := h
  simp only [jk] at hj
  obtain ⟨⟨j1, k1⟩, h1, hj⟩ := Option.bind_eq_some_iff.mp hj
  obtain ⟨⟨j2, k2⟩, h2, hj⟩ := Option.bind_eq_some_iff.mp hj
  have hj := Option.some.inj hj
  simp only [Prod.mk.injEq] at hj
  obtain ⟨rfl, rfl⟩ := hj
  simp only [ev] at h
  refine l1 hF h1 h fun d t H1 ht R h => l2 hF R.same h2 h fun d' t' H2 ht' R' h => ?_
  subst ht ht'
  have R := R.fwd R'.same
  cases t <;> cases t' <;> simp only [T.dat, ixLD] at h
  all_goals first | exact (show False from h).elim | skip
  obtain ⟨u, hu, e, h⟩ := at_ok h
  refine ⟨_, _, _, _, rfl, rfl, .inl R.ok.1, e, h u H2 rfl (R.sub (T.oks_iff.mp R.ok.2 u hu) fun b m => ?_)⟩
  cases j1 with
  | zero => exact List.mem_cons_of_mem _ (T.mem_rests.mpr ⟨u, hu, m⟩)
  | succ j1 => exact T.mem_rests.mpr ⟨u, hu, m⟩
theorem sIx_eq (n d : Nat) (o : Option Int) : HT.sIx n d o = sIx n d o := by
  cases o with
  | none => rfl
  | some v => exact Int.ofNat_inj.mp (by rw [← HT.clip_eq v n d]; unfold sIx; simp only; split <;> omega)
theorem cut_map {α β : Type} (f : α → β) (xs : List α) (lo hi : Option Int) : (cut xs lo hi).map f = cut (xs.map f) lo hi := by
  unfold cut; rw [List.map_take, List.map_drop, List.length_map]
theorem cutV_eq (ts : List T) (lo hi : Option Int) : cutV (ts.map T.val) lo hi = (cut ts lo hi).map T.val := by
  unfold cutV cut
  rw [List.map_take, List.map_drop, List.length_map, sIx_eq, sIx_eq]
theorem cut_sub {α : Type} {xs : List α} {lo hi : Option Int} {x : α} (h : x ∈ cut xs lo hi) : x ∈ xs := List.mem_of_mem_drop (List.mem_of_mem_take h)
noncomputable def lO (p : Px) (EX : EXT) (tn : List Nat) (e : E) : TO := fun σ H Q => ∃ τ, σ = vτ τ ∧ Fok p tn τ H ∧ (jk tn e).isSome = true ∧ Lg p EX σ (partR e.isCN (ev e (dτ τ))) H fun o => ∀ H', Same H H' → Q o H'
theorem sndO_none : PO X none (lO p EX tn .cN) := by
  intro pins s σ H Q I h
  obtain ⟨τ, rfl, hF, hj, h⟩ := h
  exact po_none pins s _ H Q I (h H (Same.refl _))
theorem sndO_some {e : Expr} {x : E} (he : PE X e (lE p EX tn x)) (hx : x.isCN = false) : PO X (some e) (lO p EX tn x) := by
  intro pins s σ H Q I h
  obtain ⟨τ, rfl, hF, hj, h⟩ := h
  obtain ⟨⟨j, k⟩, hj⟩ := Option.isSome_iff_exists.mp hj
  unfold partR at h
  rw [hx, if_neg (by decide)] at h
  refine po_some he pins s _ H Q I (l1 hF hj h fun d t H1 ht R h => ?_)
  subst ht
  cases t <;> simp only [T.dat, partD] at h
  all_goals first | exact (show False from h).elim | exact ⟨_, rfl, h H1 R.same⟩
theorem dats_sc : ∀ {ts : List T}, (T.dats ts).all D.scal = true → ∀ t ∈ ts, t.sc = true
  | [], _, t, h => nomatch h
  | u :: r, h, t, ht => by
    simp only [T.dats, List.all_cons, Bool.and_eq_true] at h
    rcases List.mem_cons.mp ht with rfl | ht
    · cases t <;> first | rfl | cases h.1
    · exact dats_sc h.2 t ht
theorem sc_rest {t : T} {j : Nat} (h : t.sc = true) : t.rest j = [] := by cases t <;> first | rfl | cases h
theorem sc_adr {t : T} {j : Nat} (h : t.sc = true) : t.adr j = [] := by cases t <;> first | rfl | cases h
theorem rests_sc {ts : List T} {j : Nat} (h : ∀ t ∈ ts, t.sc = true) : T.rests ts j = [] := by
  refine List.eq_nil_iff_forall_not_mem.mpr fun b hb => ?_
  obtain ⟨t, ht, q⟩ := T.mem_rests.mp hb
  rw [sc_rest (h t ht)] at q; cases q
theorem adrs_sc {ts : List T} {j : Nat} (h : ∀ t ∈ ts, t.sc = true) : T.adrs ts j = [] := by
  refine List.eq_nil_iff_forall_not_mem.mpr fun b hb => ?_
  obtain ⟨t, ht, q⟩ := T.mem_adrs.mp hb
  rw [sc_adr (h t ht)] at q; cases q
theorem rs_tupsc {B : Addr → Prop} {H H1 : Hp} {j k : Nat} {a : Addr} {ts : List T} (s : Same H H1) (ok : (T.tup a ts).Ok p H1) (h : ∀ t ∈ ts, t.sc = true) : Rs p B H H1 j k (.tup a ts) :=
  ⟨s, ok, by simp only [T.rest]; rw [rests_sc h]; simp, by simp only [T.adr]; rw [adrs_sc h]; simp, by unfold T.Nd; simp only [T.adr, T.rest]; rw [rests_sc h, adrs_sc h]; simp⟩
theorem snd_slc {a : Expr} {lo hi : Option Expr} {p2 : Pos} {x y z : E} (ha : PE X a (lE p EX tn x)) (hl : PO X lo (lO p EX tn y)) (hh : PO X hi (lO p EX tn z)) : PE X (.Subscript a (.Slice lo hi none p2) pos) (lE p EX tn (.slc x y z)) := by
  refine PE.mono (pe_slice (sl_list.or sl_tup) ha hl hh) fun σ H Q h => ?_
  obtain ⟨τ, rfl, hF, j, k, hj, h⟩ := h
  simp only [jk] at hj
  obtain ⟨⟨j1, k1⟩, h1, hj⟩ := Option.bind_eq_some_iff.mp hj
  obtain ⟨q2, h2, hj⟩ := Option.bind_eq_some_iff.mp hj
  obtain ⟨q3, h3, hj⟩ := Option.bind_eq_some_iff.mp hj
  obtain ⟨hc, e⟩ := gj_eq hj
  cases e
  have hc := of_decide_eq_true hc
  simp only [ev] at h
  refine l1 hF h1 h fun d t H1 ht R h => ?_
  subst ht
  refine ⟨τ, rfl, hF.same R.same, by rw [h2]; rfl, h.bind.mono R.same fun l _ h H2 s2 => ?_⟩
  refine ⟨τ, rfl, hF.same (R.same.trans s2), by rw [h3]; rfl, h.bind.mono (R.same.trans s2) fun u _ h H3 s3 => ?_⟩
  have R := R.fwd (s2.trans s3)
  cases t with
  | tup b ts =>
    simp only [T.dat, cutD] at h
    obtain ⟨⟨g1, g2⟩, h⟩ := h.guard
    refine .inr ⟨b, _, rfl, SqT.of R.ok.1, ?_, fun q hq => ?_⟩
    · rw [List.length_map, sIx_eq, sIx_eq, ← dats_length]; exact g2
    · rw [cutV_eq]
      have sn := Same.new (o := .tup ((cut ts l u).map T.val)) hq
      refine h (.tup q (cut ts l u)) _ (by simp only [T.dat, T.dats_map, cut_map]) (rs_tupsc (R.same.trans sn) ⟨upd_same, T.oks_iff.mpr fun w hw => ((T.oks_iff.mp R.ok.2 w (cut_sub hw))).same sn⟩ fun w hw => dats_sc g1 w (cut_sub hw))
  | lst b ts =>
    simp only [T.dat, cutD] at h
    refine .inl ⟨b, _, rfl, .inl R.ok.1, fun q hq => ?_⟩
    rw [cutV_eq]
    refine h (.lst q (cut ts l u)) _ (by simp only [T.dat, T.dats_map, cut_map]) (rs_new R.same (T.oks_iff.mpr fun w hw => T.oks_iff.mp R.ok.2 w (cut_sub hw)) (fun c m => ?_) hq)
    obtain ⟨w, hw, m⟩ := T.mem_rests.mp m
    exact R.elems hc c (T.mem_rests.mpr ⟨w, cut_sub hw, m⟩)
  | _ => exact (show False from h).elim
end
end Pu
end
section
namespace Pu
open PySem PySem.Spec PyProof.Rows PySem.W L2
noncomputable def spF (p : Px) (F : Fn) : Sp := fun vs H Q E => ∃ ts : List T, vs = ts.map T.val ∧ T.Oks p H ts ∧ ts.length = F.ar ∧ match F.den (T.dats ts) with
  | .ok d => ∀ t H', t.dat = d → Rs p (fun a => a ∈ T.rests ts 0) H H' 0 F.dep t → Q t.val H'
  | .exc c => p.has (kcX c) = true → ∀ H', Same H H' → XW p E c H'
  | .bad => False
noncomputable def spF0 (p : Px) (F : Fn) : Sp0 := fun vs H Q => ∃ ts : List T, vs = ts.map T.val ∧ T.Oks p H ts ∧ ts.length = F.ar ∧ match F.den (T.dats ts) with
  | .ok d => ∀ t H', t.dat = d → Rs p (fun a => a ∈ T.rests ts 0) H H' 0 F.dep t → Q t.val H'
  | _ => False
noncomputable def HasF0 (p : Px) (X : Cx) (F : Fn) : Prop := ∃ ps : List Str, ps.length = F.ar ∧ Has0 X.prog X.w X.K X.mg X.base F.name F.lv ps (spF0 p F)
noncomputable def HasF (p : Px) (X : Cx) (F : Fn) : Prop := ∃ ps : List Str, ps.length = F.ar ∧ Has X.prog X.w X.K X.mg X.base F.name F.lv ps (spF p F)
noncomputable def spM (p : Px) (F : Fn) : Sp := fun vs H Q _ => ∃ (t : T) (ts : List T), vs = t.val :: ts.map T.val ∧ t.Ok p H ∧ T.Oks p H ts ∧ ts.length + 1 = F.ar ∧ t.Nd 2 ∧ (∀ b ∈ t.adr 2, (Mu H b) ∧ b ∉ T.rests ts 0) ∧ ∃ d, F.den (t.dat :: T.dats ts) = .ok d ∧
  ∀ (t' : T) (H' : Hp), t'.dat = d → t'.val = t.val → t'.Ok p H' → t'.Nd 2 → (∀ b u, H b = some u → b ∉ t.adr 2 → H' b = some u) → (∀ b ∈ t'.adr 2, (b ∈ t.adr 2 ∨ H b = none) ∧ Mu H' b) → Q .non H'
noncomputable def HasM (p : Px) (X : Cx) (F : Fn) : Prop := ∃ ps : List Str, ps.length = F.ar ∧ Has X.prog X.w X.K X.mg X.base F.name F.lv ps (spM p F)
noncomputable def spN (p : Px) (F : Fn) : Sp := fun vs H Q _ => ∃ (ts : List T) (a : Addr) (us : List T), vs = ts.map T.val ∧ T.Oks p H ts ∧ ts.length = F.ar ∧ ts[F.dep - 1000]? = some (.lst a us) ∧ (∀ (i : Nat) (u : T), i ≠ F.dep - 1000 → ts[i]? = some u → a ∉ u.rest 0) ∧ a ∉ T.rests us 0 ∧ (Mu H a) ∧
  ∃ (b : Bool) (ds : List D), F.den (T.dats ts) = .ok (.tup [.bl b, .lst ds]) ∧ ∀ (us' : List T) (H' : Hp), T.dats us' = ds → (T.lst a us').Ok p H' → (Mu H' a) → (∀ c u, H c = some u → c ≠ a → H' c = some u) → Q (.bl b) H'
noncomputable def HasN (p : Px) (X : Cx) (F : Fn) : Prop := ∃ ps : List Str, ps.length = F.ar ∧ Has X.prog X.w X.K X.mg X.base F.name F.lv ps (spN p F)
theorem flat_rest : ∀ (m : Nat) (t : T) (k : Nat), t.dat.flat m k = true → t.rest k = []
  | 0, t, k, h => by simp [D.flat] at h
  | m + 1, t, k, h => by
    cases t with
    | tup a ts =>
      simp only [T.dat, D.flat] at h
      simp only [T.rest]
      refine List.eq_nil_iff_forall_not_mem.mpr fun b hb => ?_
      obtain ⟨t, ht, q⟩ := T.mem_rests.mp hb
      rw [flat_rest m t k (all_dats h t ht)] at q; cases q
    | lst a ts =>
      cases k with
      | zero => simp [T.dat, D.flat] at h
      | succ k =>
        simp only [T.dat, D.flat] at h
        simp only [T.rest]
        refine List.eq_nil_iff_forall_not_mem.mpr fun b hb => ?_
        obtain ⟨t, ht, q⟩ := T.mem_rests.mp hb
        rw [flat_rest m t k (all_dats h t ht)] at q; cases q
    | dic a ks ts =>
      cases k with
      | zero => simp [T.dat, D.flat] at h
      | succ k =>
        simp only [T.dat, D.flat] at h
        simp only [T.rest]
        refine List.eq_nil_iff_forall_not_mem.mpr fun b hb => ?_
        obtain ⟨t, ht, q⟩ := T.mem_rests.mp hb
        rw [flat_rest m t k (all_dats h t ht)] at q; cases q
    | dit a ks ts =>
      cases k with
      | zero => simp [T.dat, D.flat] at h
      | succ k =>
        simp only [T.dat, D.flat] at h
        simp only [T.rest]
        refine List.eq_nil_iff_forall_not_mem.mpr fun b hb => ?_
        obtain ⟨t, ht, q⟩ := T.mem_rests.mp hb
        rw [flat_rest m t k (all_dats h t ht)] at q; cases q
    | _ => rfl
noncomputable def noStar : Expr → Bool
  | .Starred _ _ => false
  | _ => true
theorem star_of {e : Expr} {es : List Expr} {env : Env} (h : noStar e = true) : starEach (e :: es) env = (false, eval e env) :: starEach es env := by
  cases e <;> first | rfl | cases h
theorem stars_any {pos : Pos} {env : Env} : ∀ {es : List Expr}, es.all noStar = true → (backTo pos (starEach es env)).any (·.1) = false
  | [], _ => rfl
  | e :: es, h => by
    rw [List.all_cons, Bool.and_eq_true] at h
    rw [star_of h.1]
    have ih := stars_any (pos := pos) (env := env) h.2
    unfold backTo at ih ⊢
    rw [List.map_cons, List.any_cons, ih]; rfl
section
variable {p : Px} {EX : EXT} {tn : List Nat} {X : Cx} {pos np : Pos}
theorem snd_call {F : Fn} {e : Expr} {es : List Expr} {x : E} {xs : Es} (hx : PassAt (CXe X.prog X.w) X EX) (hF : HasF p X F) (hr : Room F.lv X.A) (hg : Gl X F.name) (hdb : (F.name == ("__debug__" : Str)) = false) (ha : PA X (e :: es) (lEs p EX tn (.cons x xs))) (hst : (e :: es).all noStar = true) (hl : (Es.cons x xs).len = F.ar) :
    PE X (.Call (.Name F.name np) (e :: es) [] pos) (lE p EX tn (.call F (.cons x xs))) := by
  obtain ⟨ps, hps, hF⟩ := hF
  rw [List.all_cons, Bool.and_eq_true] at hst
  refine PE.mono (pe_hX hF hr hg hx ha hdb (star_of hst.1) (stars_any hst.2)) fun σ H Q h => ?_
  obtain ⟨τ, rfl, hFr, j, k, hj, h⟩ := h
  simp only [jk] at hj
  obtain ⟨⟨j1, k1⟩, h1, hj⟩ := Option.bind_eq_some_iff.mp hj
  obtain ⟨hc, e⟩ := gj_eq hj
  cases e
  have hc : j1 = 0 := of_decide_eq_true hc
  subst hc
  simp only [ev] at h
  refine ⟨τ, rfl, hFr, 0, k1, h1, h.bind.mono (Same.refl _) fun ds e hd ts H1 hts R => ?_⟩
  show spF p F (ts.map T.val ++ []) H1 Q (EX (vτ τ))
  rw [List.append_nil]
  refine ⟨ts, rfl, R.ok, ?_, ?_⟩
  · rw [← dats_length, hts, evs_length _ _ _ e, hl]
  · rw [hts]
    cases q : F.den ds with
    | ok d =>
      rw [q] at hd
      intro t H' ht R'
      refine hd t H' ht ⟨R.same.trans R'.same, R'.ok, fun a m => ?_, fun a m => ⟨R.same.free (R'.new a m).1, (R'.new a m).2⟩, R'.nd⟩
      rcases R'.src a m with z | z
      · exact .inl (R.same.free z)
      · exact R.src a z
    | exc c =>
      rw [q] at hd
      exact fun hc H' s => hd hc H' (R.same.trans s)
    | bad => rw [q] at hd; exact hd
theorem snd_callH {F : Fn} {e : Expr} {es : List Expr} {x : E} {xs : Es} (hx : Passes (CXe X.prog X.w) X fun _ _ _ => False) (hF : HasF0 p X F) (hr : Room0 F.lv X.A) (hg : Gl X F.name) (hdb : (F.name == ("__debug__" : Str)) = false) (ha : PA X (e :: es) (lEs p EX tn (.cons x xs))) (hst : (e :: es).all noStar = true) (hl : (Es.cons x xs).len = F.ar) :
    PE X (.Call (.Name F.name np) (e :: es) [] pos) (lE p EX tn (.callH F (.cons x xs))) := by
  obtain ⟨ps, hps, hF⟩ := hF
  rw [List.all_cons, Bool.and_eq_true] at hst
  refine PE.mono (pe_callH hF hr hg hx ha hdb (star_of hst.1) (stars_any hst.2)) fun σ H Q h => ?_
  obtain ⟨τ, rfl, hFr, j, k, hj, h⟩ := h
  simp only [jk] at hj
  obtain ⟨⟨j1, k1⟩, h1, hj⟩ := Option.bind_eq_some_iff.mp hj
  obtain ⟨hc, e⟩ := gj_eq hj
  cases e
  have hc : j1 = 0 := of_decide_eq_true hc
  subst hc
  simp only [ev] at h
  refine ⟨τ, rfl, hFr, 0, k1, h1, h.bind.mono (Same.refl _) fun ds e hd ts H1 hts R => ?_⟩
  refine ⟨ts, rfl, R.ok, ?_, ?_⟩
  · rw [← dats_length, hts, evs_length _ _ _ e, hl]
  · rw [hts]
    cases q : F.den ds with
    | ok d =>
      rw [q] at hd
      intro t H' ht R'
      refine hd t H' ht ⟨R.same.trans R'.same, R'.ok, fun a m => ?_, fun a m => ⟨R.same.free (R'.new a m).1, (R'.new a m).2⟩, R'.nd⟩
      rcases R'.src a m with z | z
      · exact .inl (R.same.free z)
      · exact R.src a z
    | exc c =>
      rw [q] at hd
      exact (show False from hd)
    | bad => rw [q] at hd; exact (show False from hd)
theorem T.adr_rest : ∀ (t : T) {d K : Nat}, t.rest d = [] → d ≤ K → t.adr K = t.adr d := by
  have lists : ∀ (ts : List T), (∀ t ∈ ts, ∀ {d K : Nat}, t.rest d = [] → d ≤ K → t.adr K = t.adr d) → ∀ {d K : Nat}, T.rests ts d = [] → d ≤ K → T.adrs ts K = T.adrs ts d := by
    intro ts
    induction ts with
    | nil => intro _ d K _ _; rfl
    | cons t r ih =>
      intro h d K hr hk
      simp only [T.rests, List.append_eq_nil_iff] at hr
      show t.adr K ++ T.adrs r K = t.adr d ++ T.adrs r d
      rw [h t (List.mem_cons_self ..) hr.1 hk, ih (fun u hu => h u (List.mem_cons_of_mem _ hu)) hr.2 hk]
  refine T.ind (by intros; rfl) (by intros; rfl) (by intros; rfl) (by intros; rfl) (fun a ts ih d K h hk => ?_) (fun a ts ih d K h hk => ?_) (by intros; rfl) (fun a ks ts ih d K h hk => ?_) (fun a ks ts ih d K h hk => ?_)
  · exact lists ts ih h hk
  · cases d with
    | zero => cases h
    | succ d =>
      cases K with
      | zero => omega
      | succ K => exact congrArg (a :: ·) (lists ts ih h (Nat.le_of_succ_le_succ hk))
  · cases d with
    | zero => cases h
    | succ d =>
      cases K with
      | zero => omega
      | succ K => exact congrArg (a :: ·) (lists ts ih h (Nat.le_of_succ_le_succ hk))
  · cases d with
    | zero => cases h
    | succ d =>
      cases K with
      | zero => omega
      | succ K => exact congrArg (a :: ·) (lists ts ih h (Nat.le_of_succ_le_succ hk))
theorem snd_callB {F : Fn} {e : Expr} {es : List Expr} {x : E} {xs : Es} (hx : PassAt (CXe X.prog X.w) X EX) (hF : HasF p X F) (hr : Room F.lv X.A) (hg : Gl X F.name) (hdb : (F.name == ("__debug__" : Str)) = false) (ha : PA X (e :: es) (lEs p EX tn (.cons x xs))) (hst : (e :: es).all noStar = true) (hl : (Es.cons x xs).len = F.ar) :
    PE X (.Call (.Name F.name np) (e :: es) [] pos) (lE p EX tn (.callB F (.cons x xs))) := by
  obtain ⟨ps, hps, hF⟩ := hF
  rw [List.all_cons, Bool.and_eq_true] at hst
  refine PE.mono (pe_hX hF hr hg hx ha hdb (star_of hst.1) (stars_any hst.2)) fun σ H Q h => ?_
  obtain ⟨τ, rfl, hFr, j, k, hj, h⟩ := h
  simp only [jk] at hj
  obtain ⟨⟨j1, k1⟩, h1, hj⟩ := Option.bind_eq_some_iff.mp hj
  have hj := Option.some.inj hj
  simp only [Prod.mk.injEq] at hj
  obtain ⟨rfl, rfl⟩ := hj
  simp only [ev] at h
  refine ⟨τ, rfl, hFr, j1, k1, h1, h.bind.mono (Same.refl _) fun ds e hd ts H1 hts R => ?_⟩
  show spF p F (ts.map T.val ++ []) H1 Q (EX (vτ τ))
  rw [List.append_nil]
  refine ⟨ts, rfl, R.ok, ?_, ?_⟩
  · rw [← dats_length, hts, evs_length _ _ _ e, hl]
  · rw [hts]
    cases q : F.den ds with
    | ok d =>
      rw [q] at hd
      obtain ⟨hf, hd⟩ := Lg.guard hd
      intro t H' ht R'
      subst ht
      have r0 := flat_rest 9 t F.dep hf
      have up : ∀ a, a ∈ t.rest 0 → a ∈ t.adr F.dep := fun a m => by
        rcases (T.all_iff t F.dep).mp m with z | z
        · exact z
        · rw [r0] at z; cases z
      refine hd t H' rfl ⟨R.same.trans R'.same, R'.ok, fun a m => .inl (R.same.free (R'.new a (up a m)).1), fun a m => ?_, ?_⟩
      · have := R'.new a (up a ((T.all_iff t 9).mpr (.inl m)))
        exact ⟨R.same.free this.1, this.2⟩
      · by_cases c9 : 9 ≤ F.dep
        · exact T.nd_le t c9 R'.nd
        · have e9 := T.adr_rest t r0 (show F.dep ≤ 9 by omega)
          refine ⟨by rw [e9]; exact R'.nd.1, fun a m _ => ?_⟩
          have := T.rest_le t (show F.dep ≤ 9 by omega) m
          rw [r0] at this; cases this
    | exc c =>
      rw [q] at hd
      exact fun hc H' s => hd hc H' (R.same.trans s)
    | bad => rw [q] at hd; exact hd
theorem snd_biG {b : Bi} {e : Expr} {es : List Expr} {x : E} {xs : Es} {ex : Expr} {r : List V → Hp → VK → Prop} (hp : PE X ex (tCB r (lEs p EX tn (.cons x xs))))
    (hr : ∀ (B : Addr → Prop) (H H1 : Hp) (j1 k1 j k : Nat) (ts : List T) (σ : St) (Q : VK), RsL p B H H1 j1 k1 ts → (match b with | .list => gj (decide (j1 = 0)) (0, 1) | .listL => gj (decide (j1 ≤ 1)) (0, 1) | _ => some (0, 9)) = some (j, k) →
      Lg p EX σ (biD b (T.dats ts)) H (KE p B H j k Q) → r (ts.map T.val) H1 Q) : PE X ex (lE p EX tn (.bi b (.cons x xs))) := by
  refine PE.mono hp fun σ H Q h => ?_
  obtain ⟨τ, rfl, hFr, j, k, hj, h⟩ := h
  simp only [jk] at hj
  obtain ⟨⟨j1, k1⟩, h1, hj⟩ := Option.bind_eq_some_iff.mp hj
  simp only [ev] at h
  refine ⟨τ, rfl, hFr, j1, k1, h1, h.bind.mono (Same.refl _) fun ds e hd ts H1 hts R => ?_⟩
  subst hts
  exact hr (Sh tn τ) H H1 j1 k1 j k ts _ Q R hj hd
section
variable {e : Expr} {es : List Expr} {x : E} {xs : Es} (hg : ∀ y : Str, y ∈ (["len", "min", "max", "abs", "int", "list", "tuple", "all", "any", "sum", "sorted", "isinstance", "str", "range", "enumerate", "zip", "reversed"] : List Str) → X.mg y = none)
  (ha : PA X (e :: es) (lEs p EX tn (.cons x xs))) (hst : (e :: es).all noStar = true)
include hg ha hst
theorem snd_len (hgl : Gl X "len") : PE X (.Call (.Name "len" np) (e :: es) [] pos) (lE p EX tn (.bi .len (.cons x xs))) := by
  rw [List.all_cons, Bool.and_eq_true] at hst
  refine snd_biG (es := es) (e := e) (pe_callB call_len_seq hgl (hg _ (by simp)) PySem.boot_len ha (by decide) (by decide) (star_of hst.1) (stars_any hst.2)) fun B H H1 j1 k1 j k ts σ Q R hj h => ?_
  rcases ts with _ | ⟨t, _ | ⟨u, r⟩⟩
  · exact (show False from h).elim
  · cases t with
    | lst a us => exact ⟨a, _, rfl, .inl (.inl R.ok.1.1), by have := h (.int _) H1 rfl (Rs.scal R.same rfl); rw [dats_length, ← List.length_map (f := T.val)] at this; exact this⟩
    | tup a us => exact ⟨a, _, rfl, .inr (SqT.of R.ok.1.1), by have := h (.int _) H1 rfl (Rs.scal R.same rfl); rw [dats_length, ← List.length_map (f := T.val)] at this; exact this⟩
    | _ => exact (show False from h).elim
  · exact (show False from h).elim
theorem snd_int (hgl : Gl X "int") : PE X (.Call (.Name "int" np) (e :: es) [] pos) (lE p EX tn (.bi .int (.cons x xs))) := by
  rw [List.all_cons, Bool.and_eq_true] at hst
  refine snd_biG (es := es) (e := e) (pe_callTy call_int1 hgl (hg _ (by simp)) (by decide +kernel) ha (by decide) (by decide) (star_of hst.1) (stars_any hst.2)) fun B H H1 j1 k1 j k ts σ Q R hj h => ?_
  rcases ts with _ | ⟨t, _ | ⟨u, r⟩⟩
  · exact (show False from h).elim
  · cases t with
    | int i => exact .inl ⟨i, rfl, h (.int _) H1 rfl (Rs.scal R.same rfl)⟩
    | bl b => exact .inr ⟨b, rfl, h (.int _) H1 rfl (Rs.scal R.same rfl)⟩
    | _ => exact (show False from h).elim
  · exact (show False from h).elim
theorem snd_list (hgl : Gl X "list") : PE X (.Call (.Name "list" np) (e :: es) [] pos) (lE p EX tn (.bi .list (.cons x xs))) := by
  rw [List.all_cons, Bool.and_eq_true] at hst
  refine snd_biG (es := es) (e := e) (pe_callTy call_list_of hgl (hg _ (by simp)) (by decide +kernel) ha (by decide) (by decide) (star_of hst.1) (stars_any hst.2)) fun B H H1 j1 k1 j k ts σ Q R hj h => ?_
  obtain ⟨hc, ej⟩ := gj_eq hj
  cases ej
  have hc : j1 = 0 := of_decide_eq_true hc
  subst hc
  rcases ts with _ | ⟨t, _ | ⟨u, r⟩⟩
  · exact (show False from h).elim
  · cases t with
    | lst a us => exact ⟨a, _, rfl, .inl (.inl R.ok.1.1), fun l hl => h (.lst l us) _ rfl (rs_new R.same R.ok.1.2 (fun c m => R.src c (by simp [T.rests, T.rest, m])) hl)⟩
    | tup a us => exact ⟨a, _, rfl, .inr (SqT.of R.ok.1.1), fun l hl => h (.lst l us) _ rfl (rs_new R.same R.ok.1.2 (fun c m => R.src c (by simp [T.rests, T.rest, m])) hl)⟩
    | _ => exact (show False from h).elim
  · exact (show False from h).elim
theorem snd_listL (hgl : Gl X "list") : PE X (.Call (.Name "list" np) (e :: es) [] pos) (lE p EX tn (.bi .listL (.cons x xs))) := by
  rw [List.all_cons, Bool.and_eq_true] at hst
  refine snd_biG (es := es) (e := e) (pe_callTy call_list_of hgl (hg _ (by simp)) (by decide +kernel) ha (by decide) (by decide) (star_of hst.1) (stars_any hst.2)) fun B H H1 j1 k1 j k ts σ Q R hj h => ?_
  obtain ⟨hc, ej⟩ := gj_eq hj
  cases ej
  have hc : j1 ≤ 1 := of_decide_eq_true hc
  rcases ts with _ | ⟨t, _ | ⟨u, r⟩⟩
  · exact (show False from h).elim
  · cases t with
    | lst a us => exact ⟨a, _, rfl, .inl (.inl R.ok.1.1), fun l hl => h (.lst l us) _ rfl (rs_new R.same R.ok.1.2 (fun c m => R.src c (by
        simp only [T.rests, List.append_nil]
        exact T.rest_le (.lst a us) hc (j' := 1) m)) hl)⟩
    | _ => exact (show False from h).elim
  · exact (show False from h).elim
end
end
end Pu
end
section
namespace Pu
open PySem PySem.Spec PyProof.Rows PySem.W L2
section
variable {p : Px} {EX : EXT} {tn : List Nat} {X : Cx} {pos np : Pos}
section
variable {e : Expr} {es : List Expr} {x : E} {xs : Es} (hg : ∀ y : Str, y ∈ (["len", "min", "max", "abs", "int", "list", "tuple", "all", "any", "sum", "sorted", "isinstance", "str", "range", "enumerate", "zip", "reversed"] : List Str) → X.mg y = none)
  (ha : PA X (e :: es) (lEs p EX tn (.cons x xs))) (hst : (e :: es).all noStar = true)
include hg ha hst
theorem snd_min (hcm : X.calm = true) (hgl : Gl X "min") : PE X (.Call (.Name "min" np) (e :: es) [] pos) (lE p EX tn (.bi .min (.cons x xs))) := by
  rw [List.all_cons, Bool.and_eq_true] at hst
  refine snd_biG (es := es) (e := e) (pe_callB (call_min2 hcm) hgl (hg _ (by simp)) (by decide +kernel) ha (by decide) (by decide) (star_of hst.1) (stars_any hst.2)) fun B H H1 j1 k1 j k ts σ Q R hj h => ?_
  rcases ts with _ | ⟨t, _ | ⟨u, _ | ⟨v, r⟩⟩⟩
  · exact (show False from h).elim
  · exact (show False from h).elim
  · obtain ⟨i, m, rfl, rfl, h⟩ := int2_is (t := t) (u := u) (Q := fun r => Lg p EX σ r H (KE p B H j k Q)) id h
    refine ⟨i, m, rfl, ?_⟩
    have := h (.int _) H1 rfl (Rs.scal R.same rfl)
    have e : (if m < i then m else i) = min i m := by split <;> omega
    rw [e]; exact this
  · exact (show False from h).elim
end
end
end Pu
end
section
namespace Pu
open PySem PySem.Spec PyProof.Rows PySem.W L2
structure ItOk (p : Px) (B : Addr → Prop) (H H1 : Hp) (J : L2.It) (us : List T) (j : Nat) (ds : List D) : Prop where
  same : Same H H1
  ok : T.Oks p H1 us
  src : ∀ a ∈ T.rests us j, H a = none ∨ B a
  len : ds.length ≤ sizeLine
  go : ∀ (i : Nat) (H' : Hp), T.Oks p H' us → i < ds.length → J.go i H'
  stop : ∀ (i : Nat) (H' : Hp), T.Oks p H' us → ds.length ≤ i → J.stop i H'
  yld : ∀ (i : Nat) (H' : Hp) (v : V) (H'' : Hp) (d : D), T.Oks p H' us → ds[i]? = some d → J.yld i H' v H'' → Same H' H'' ∧ ∃ t : T, t.val = v ∧ t.dat = d ∧ t.Ok p H'' ∧ (∀ a ∈ t.rest 0, a ∈ T.rests us 0) ∧ ∀ a ∈ t.rest 0, H a = none ∨ B a
noncomputable def lI (p : Px) (EX : EXT) (tn : List Nat) (it : It) : TI := fun σ H R => ∃ τ, σ = vτ τ ∧ Fok p tn τ H ∧ ∃ j, jkI tn it = some j ∧ Lg p EX σ (evI it (dτ τ)) H fun ds => ∀ J us H1, ItOk p (Sh tn τ) H H1 J us j ds → R J H1
theorem PI.mono {X : Cx} {tg e : Expr} {t t' : TI} (h : PI X tg e t) (m : ∀ σ H Q, t' σ H Q → t σ H Q) : PI X tg e t' := fun pins s σ H Q I q => h pins s σ H Q I (m _ _ _ q)
section
variable {p : Px} {EX : EXT} {tn : List Nat} {X : Cx} {pos np : Pos} {tg : Expr}
theorem dats_get {ts : List T} {i : Nat} {d : D} (h : (T.dats ts)[i]? = some d) : ∃ t, ts[i]? = some t ∧ t.dat = d := by
  rw [T.dats_map, List.getElem?_map] at h
  obtain ⟨t, h1, h2⟩ := Option.map_eq_some_iff.mp h
  exact ⟨t, h1, h2⟩
theorem itok_list (hK : X.K = p.K) {B : Addr → Prop} {H H1 : Hp} {j k : Nat} {a : Addr} {ts : List T} (r : Rs p B H H1 j k (.lst a ts)) (hj : j ≤ 1) (hl : ts.length ≤ sizeLine) : ItOk p B H H1 (Itl X.K a) [.lst a ts] j (T.dats ts) where
  same := r.same
  ok := ⟨r.ok, trivial⟩
  src := fun b m => r.src b (by simpa [T.rests] using m)
  len := by rw [dats_length]; exact hl
  go := fun i H' ok h => by
    rw [dats_length] at h
    exact ⟨_, (ts.map T.val)[i]'(by simpa using h), .inl ok.1.1, by simp [h]⟩
  stop := fun i H' ok h => ⟨_, .inl ok.1.1, by simpa [dats_length] using h⟩
  yld := fun i H' v H'' d ok h y => by
    obtain ⟨rfl, y⟩ := y
    obtain ⟨t, ht, e⟩ := dats_get h
    have := y _ (.inl ok.1.1)
    rw [List.getElem?_map, ht] at this
    refine ⟨Same.refl _, t, Option.some.inj this, e, T.oks_iff.mp ok.1.2 t (List.mem_of_getElem? ht), fun b m => by simp only [T.rests, T.rest, List.append_nil]; exact List.mem_cons_of_mem _ (T.mem_rests.mpr ⟨t, List.mem_of_getElem? ht, m⟩), fun b m => r.elems hj b (T.mem_rests.mpr ⟨t, List.mem_of_getElem? ht, m⟩)⟩
theorem itok_tup {B : Addr → Prop} {H H1 : Hp} {k : Nat} {a : Addr} {ts : List T} (r : Rs p B H H1 0 k (.tup a ts)) (hl : ts.length ≤ sizeLine) : ItOk p B H H1 (Itt X.K a) [.tup a ts] 0 (T.dats ts) where
  same := r.same
  ok := ⟨r.ok, trivial⟩
  src := fun b m => r.src b (by simpa [T.rests] using m)
  len := by rw [dats_length]; exact hl
  go := fun i H' ok h => by
    rw [dats_length] at h
    exact ⟨_, (ts.map T.val)[i]'(by simpa using h), SqT.of ok.1.1, by simp [h]⟩
  stop := fun i H' ok h => ⟨_, SqT.of ok.1.1, by simpa [dats_length] using h⟩
  yld := fun i H' v H'' d ok h y => by
    obtain ⟨rfl, y⟩ := y
    obtain ⟨t, ht, e⟩ := dats_get h
    have := y _ (SqT.of ok.1.1)
    rw [List.getElem?_map, ht] at this
    refine ⟨Same.refl _, t, Option.some.inj this, e, T.oks_iff.mp ok.1.2 t (List.mem_of_getElem? ht), fun b m => by simp only [T.rests, T.rest, List.append_nil]; exact T.mem_rests.mpr ⟨t, List.mem_of_getElem? ht, m⟩, fun b m => r.src b (T.mem_rests.mpr ⟨t, List.mem_of_getElem? ht, m⟩)⟩
noncomputable def iSeq (K : Frag) (tl : TE) : TI := fun σ H R => tl σ H fun x H1 => ∃ a, x = .ref a ∧ ((∃ xs, SqL K H1 a xs ∧ (xs.length ≤ sizeLine → R (Itl K a) H1)) ∨ (∃ xs, SqT K H1 a xs ∧ (xs.length ≤ sizeLine → R (Itt K a) H1)))
theorem pi_seq {l : Expr} {tl : TE} (hl : PE X l tl) : PI X tg l (iSeq X.K tl) := by
  intro pins s σ H R I h
  refine thn (hl pins s σ H _ I h) fun v s1 ⟨x, H1, I1, r1, q1⟩ => ?_
  obtain ⟨a, e, q1⟩ := q1
  subst e
  cases r1
  rcases q1 with ⟨xs, hq, q⟩ | ⟨xs, hq, q⟩
  · obtain ⟨its, rv, pl, hz⟩ := I1.list hq
    refine wpAny_pyIter_list pl.isList ?_
    refine ⟨s1.heap.objs.size, [s1.heap.objs.size], _, _, H1, rfl, I1.kept (t' := s1.toks) fun b o e => Heap.get?_push_of_some _ e, turn_list a _, ⟨_, Heap.get?_push_size _ rfl, rfl, rfl⟩, fun b hb => ?_, q hz⟩
    have e : b = s1.heap.objs.size := by simpa using hb
    subst e
    exact I1.fpOk (Nat.le_refl _) (I1.hok.fresh (Nat.le_refl _))
  · obtain ⟨its, rv, pl, hz⟩ := I1.tuple hq
    refine wpAny_pyIter_tuple (show s1.heap.IsTuple a its.toArray from pl) ?_
    refine ⟨s1.heap.objs.size, [s1.heap.objs.size], _, _, H1, rfl, I1.kept (t' := s1.toks) fun b o e => Heap.get?_push_of_some _ e, turn_tuple a _, ⟨_, Heap.get?_push_size _ rfl, rfl, rfl⟩, fun b hb => ?_, q hz⟩
    have e : b = s1.heap.objs.size := by simpa using hb
    subst e
    exact I1.fpOk (Nat.le_refl _) (I1.hok.fresh (Nat.le_refl _))
theorem sndI_seq (hK : X.K = p.K) {e : Expr} {x : E} (he : PE X e (lE p EX tn x)) : PI X tg e (lI p EX tn (.seq x)) := by
  refine PI.mono (pi_seq he) fun σ H R h => ?_
  obtain ⟨τ, rfl, hF, j, hj, h⟩ := h
  simp only [jkI] at hj
  obtain ⟨⟨j1, k1⟩, h1, hj⟩ := Option.bind_eq_some_iff.mp hj
  split at hj
  · rename_i z
    cases hj
    have z : j1 = 0 := z
    subst z
    simp only [evI] at h
    refine l1 hF h1 h fun d t H1 ht r h => ?_
    subst ht
    cases t with
    | lst a ts => exact ⟨a, rfl, .inl ⟨_, .inl r.ok.1, fun hz => h _ _ _ (itok_list hK r (by omega) (by simpa using hz))⟩⟩
    | tup a ts => exact ⟨a, rfl, .inr ⟨_, SqT.of r.ok.1, fun hz => h _ _ _ (itok_tup r (by simpa using hz))⟩⟩
    | _ => exact (show False from h).elim
  · cases hj
theorem sndI_seqL (hK : X.K = p.K) {e : Expr} {x : E} (he : PE X e (lE p EX tn x)) : PI X tg e (lI p EX tn (.seqL x)) := by
  refine PI.mono (pi_seq he) fun σ H R h => ?_
  obtain ⟨τ, rfl, hF, j, hj, h⟩ := h
  simp only [jkI] at hj
  obtain ⟨⟨j1, k1⟩, h1, hj⟩ := Option.bind_eq_some_iff.mp hj
  split at hj
  · rename_i z
    cases hj
    simp only [evI] at h
    refine l1 hF h1 h fun d t H1 ht r h => ?_
    subst ht
    cases t with
    | lst a ts => exact ⟨a, rfl, .inl ⟨_, .inl r.ok.1, fun hz => h _ _ _ (itok_list hK r z (by simpa using hz))⟩⟩
    | _ => exact (show False from h).elim
  · cases hj
theorem itok_range {B : Addr → Prop} {H H1 : Hp} {a b : Int} (s : Same H H1) (hl : (b - a).toNat ≤ LIM) : ItOk p B H H1 (Itr a (b - a).toNat) [] 0 (rangeD a b) where
  same := s
  ok := trivial
  src := fun c m => nomatch m
  len := by unfold rangeD; rw [List.length_map, List.length_range]; exact hl
  go := fun i H' _ h => by unfold rangeD at h; rw [List.length_map, List.length_range] at h; exact h
  stop := fun i H' _ h => by unfold rangeD at h; rw [List.length_map, List.length_range] at h; exact h
  yld := fun i H' v H'' d _ h y => by
    obtain ⟨rfl, rfl⟩ := y
    unfold rangeD at h
    rw [List.getElem?_map] at h
    obtain ⟨n, h1, h2⟩ := Option.map_eq_some_iff.mp h
    have : n = i := by
      obtain ⟨_, e⟩ := List.getElem?_eq_some_iff.mp h1
      simpa using e.symm
    subst this
    exact ⟨Same.refl _, .int (a + n), rfl, h2, trivial, by simp [T.rest], by simp [T.rest]⟩
theorem small_of {i : Int} (h : smallI i = true) : -(2 ^ 62) ≤ i ∧ i < 2 ^ 62 := by
  unfold smallI at h
  rw [Bool.and_eq_true] at h
  exact ⟨of_decide_eq_true h.1, of_decide_eq_true h.2⟩
theorem sndI_r1 {e : Expr} {x : E} (he : PE X e (lE p EX tn x)) (hst : noStar e = true) (hg : Gl X "range") (hm : X.mg "range" = none) : PI X tg (.Call (.Name "range" np) [e] [] pos) (lI p EX tn (.r1 x)) := by
  refine PI.mono (pi_range1 hg hm (pa_cons he pa_nil (star_of hst)) (star_of hst)) fun σ H R h => ?_
  obtain ⟨τ, rfl, hF, j, hj, h⟩ := h
  simp only [jkI] at hj
  obtain ⟨⟨j1, k1⟩, h1, hj⟩ := Option.bind_eq_some_iff.mp hj
  cases hj
  simp only [evI] at h
  refine l1 hF h1 h fun d t H1 ht r h => ?_
  subst ht
  cases t with
  | int b =>
    obtain ⟨hc, h⟩ := Lg.guard (r := .ok (rangeD 0 b)) h
    rw [Bool.and_eq_true, Bool.and_eq_true] at hc
    obtain ⟨h3, h4⟩ := small_of hc.1.2
    have hl := of_decide_eq_true hc.2
    have := h _ _ _ (itok_range (p := p) r.same hl)
    rw [Int.sub_zero] at this
    exact ⟨b, rfl, h3, h4, this⟩
  | _ => exact (show False from h).elim
noncomputable def iEn (K : Frag) (ta : TA) : TI := fun σ H R => ta σ H fun vs H1 => ∃ a, vs = [.ref a] ∧ ∃ xs, SqL K H1 a xs ∧ (xs.length ≤ sizeLine → R (Ite K a) H1)
theorem pi_enum {e : Expr} {ta : TA} {elts : List Expr} {k1 : Nat} {q : Pos} (hg : Gl X "enumerate") (hm : X.mg "enumerate" = none) (ha : PA X [e] ta) (hs : starEach [e] X.env = [(false, eval e X.env)]) : PI X (.Tuple elts k1 q) (.Call (.Name "enumerate" np) [e] [] pos) (iEn X.K ta) := by
  intro pins s σ H R I h
  refine Call_ (ld_blt I hg hm (show bootBuiltins "enumerate" = some (.type "enumerate") by decide +kernel) (PyProof.Rows.callWith_type1 (thn (ha pos pins s σ H _ I h) fun us s1 ⟨vs, H1, I1, r1, q1⟩ => ?_) hs rfl))
  obtain ⟨a, e, xs, hq, q⟩ := q1
  subst e
  cases r1 with
  | cons r rr =>
    cases rr
    cases r
    obtain ⟨its, rv, pl, hz⟩ := I1.list hq
    refine call_enumerate_list pl.isList fun h' hE hI hsz hk => wpAny_pyIter_enum hE ?_
    refine ⟨s1.heap.objs.size + 1, [s1.heap.objs.size + 1, s1.heap.objs.size], _, _, H1, rfl, I1.kept (t' := s1.toks) hk, turn_enum a _ _ (Nat.succ_ne_self _), ⟨⟨_, hE⟩, hI⟩, fun b hb => ?_, q hz⟩
    rcases List.mem_cons.mp hb with rfl | hb
    · exact I1.fpOk (Nat.le_succ _) (I1.hok.fresh (Nat.le_succ _))
    · cases List.mem_singleton.mp hb
      exact I1.fpOk (Nat.le_refl _) (I1.hok.fresh (Nat.le_refl _))
theorem itok_enum (hK : X.K = p.K) {B : Addr → Prop} {H H1 : Hp} {j k : Nat} {a : Addr} {ts : List T} (r : Rs p B H H1 j k (.lst a ts)) (hj : j ≤ 1) (hl : ts.length ≤ sizeLine) : ItOk p B H H1 (Ite X.K a) [.lst a ts] j (enumD (T.dats ts)) where
  same := r.same
  ok := ⟨r.ok, trivial⟩
  src := fun b m => r.src b (by simpa [T.rests] using m)
  len := by unfold enumD; rw [List.length_map, List.length_zipIdx, dats_length]; exact hl
  go := fun i H' ok h => by
    unfold enumD at h
    rw [List.length_map, List.length_zipIdx, dats_length] at h
    exact ⟨_, (ts.map T.val)[i]'(by simpa using h), .inl ok.1.1, by simp [h]⟩
  stop := fun i H' ok h => by
    unfold enumD at h
    rw [List.length_map, List.length_zipIdx, dats_length] at h
    exact ⟨_, .inl ok.1.1, by simpa using h⟩
  yld := fun i H' v H'' d ok h y => by
    obtain ⟨t0, hn, rfl, y⟩ := y
    unfold enumD at h
    rw [List.getElem?_map, List.getElem?_zipIdx] at h
    obtain ⟨d0, h1, rfl⟩ := Option.map_eq_some_iff.mp h
    obtain ⟨d1, h2, rfl⟩ := Option.map_eq_some_iff.mp h1
    obtain ⟨t, ht, rfl⟩ := dats_get h2
    have := y _ t.val (.inl ok.1.1) (by rw [List.getElem?_map, ht]; rfl)
    subst this
    have s0 := Same.new (o := .tup [.int i, t.val]) hn
    have okt := T.oks_iff.mp ok.1.2 t (List.mem_of_getElem? ht)
    refine ⟨s0, .tup t0 [.int i, t], rfl, ?_, ⟨upd_same, trivial, okt.keep (fun a u e _ => s0 a u e), trivial⟩, fun b m => ?_, fun b m => ?_⟩
    · simp [T.dat, T.dats]
    · have m : b ∈ t.rest 0 := by simpa [T.rest, T.rests] using m
      simp only [T.rests, T.rest, List.append_nil]; exact List.mem_cons_of_mem _ (T.mem_rests.mpr ⟨t, List.mem_of_getElem? ht, m⟩)
    · have m : b ∈ t.rest 0 := by simpa [T.rest, T.rests] using m
      exact r.elems hj b (T.mem_rests.mpr ⟨t, List.mem_of_getElem? ht, m⟩)
theorem sndI_en (hK : X.K = p.K) {e : Expr} {x : E} {elts : List Expr} {k1 : Nat} {q : Pos} (he : PE X e (lE p EX tn x)) (hst : noStar e = true) (hg : Gl X "enumerate") (hm : X.mg "enumerate" = none) : PI X (.Tuple elts k1 q) (.Call (.Name "enumerate" np) [e] [] pos) (lI p EX tn (.en x)) := by
  refine PI.mono (pi_enum hg hm (pa_cons he pa_nil (star_of hst)) (star_of hst)) fun σ H R h => ?_
  obtain ⟨τ, rfl, hF, j, hj, h⟩ := h
  simp only [jkI] at hj
  obtain ⟨⟨j1, k1⟩, h1, hj⟩ := Option.bind_eq_some_iff.mp hj
  split at hj
  · rename_i z
    cases hj
    simp only [evI] at h
    refine l1 hF h1 h fun d t H1 ht r h => ?_
    subst ht
    cases t with
    | lst a ts => exact ⟨a, rfl, _, .inl r.ok.1, fun hz => h _ _ _ (itok_enum hK r z (by simpa using hz))⟩
    | _ => exact (show False from h).elim
  · cases hj
end
end Pu
end
section
namespace Pu
open PySem PySem.Spec PyProof.Rows PySem.W L2
noncomputable def asgAllT : List Nat → List T → Ft → Option Ft
  | [], [], τ => some τ
  | i :: is, t :: ts, τ => asgAllT is ts (τ.set i (some t))
  | _, _, _ => none
noncomputable def asgTgT : Tg → T → Ft → Option Ft
  | .nm i, t, τ => some (τ.set i (some t))
  | .tp is, .tup _ ts, τ => asgAllT is ts τ
  | .tp is, .lst _ ts, τ => asgAllT is ts τ
  | _, _, _ => none
theorem dτ_set (τ : Ft) (i : Nat) (t : T) : dτ (τ.set i (some t)) = (dτ τ).set i (some t.dat) := by unfold dτ; rw [List.map_set]; rfl
theorem vτ_set (τ : Ft) (i : Nat) (t : T) : vτ (τ.set i (some t)) = (vτ τ).set i (some t.val) := by unfold vτ; rw [List.map_set]; rfl
theorem asgAll_dat : ∀ (is : List Nat) (ts : List T) (τ : Ft), asgAll is (T.dats ts) (dτ τ) = (asgAllT is ts τ).map dτ
  | [], [], τ => rfl
  | [], t :: ts, τ => rfl
  | i :: is, [], τ => rfl
  | i :: is, t :: ts, τ => by simp only [T.dats, asgAll, asgAllT]; rw [← dτ_set, asgAll_dat is ts]
theorem asgTg_dat (g : Tg) (t : T) (τ : Ft) : asgTg g t.dat (dτ τ) = (asgTgT g t τ).map dτ := by
  cases g with
  | nm i => simp only [asgTg, asgTgT, Option.map_some, dτ_set]
  | tp is => cases t <;> first | rfl | exact asgAll_dat is _ τ
noncomputable def gNames : List Nat → TGs
  | [] => gNil
  | i :: r => gCons (gName i) (gNames r)
noncomputable def lG (K : Frag) : Tg → TG
  | .nm i => gName i
  | .tp is => fun v σ H Q => gTup K is.length (gNames is) v σ H Q ∨ gLst K is.length (gNames is) v σ H Q
theorem gNames_ok {H : Hp} {Q : L2.St → Hp → Prop} : ∀ {is : List Nat} {ts : List T} {τ τ' : Ft}, asgAllT is ts τ = some τ' → Q (vτ τ') H → gNames is (ts.map T.val) (vτ τ) H Q
  | [], [], τ, τ', h, q => by cases h; exact ⟨rfl, q⟩
  | [], t :: ts, τ, τ', h, q => by cases h
  | i :: is, [], τ, τ', h, q => by cases h
  | i :: is, t :: ts, τ, τ', h, q => by
    refine ⟨t.val, ts.map T.val, rfl, ?_⟩
    show gNames is (ts.map T.val) ((vτ τ).set i (some t.val)) H Q
    rw [← vτ_set]
    exact gNames_ok (τ := τ.set i (some t)) h q
theorem asgAllT_len : ∀ {is : List Nat} {ts : List T} {τ τ' : Ft}, asgAllT is ts τ = some τ' → ts.length = is.length
  | [], [], τ, τ', h => rfl
  | [], t :: ts, τ, τ', h => by cases h
  | i :: is, [], τ, τ', h => by cases h
  | i :: is, t :: ts, τ, τ', h => by simp [asgAllT_len (is := is) (ts := ts) (τ := τ.set i (some t)) h]
theorem lG_ok {K : Frag} {p : Px} {H : Hp} {g : Tg} {t : T} {τ τ' : Ft} {Q : L2.St → Hp → Prop} (ok : t.Ok p H) (h : asgTgT g t τ = some τ') (q : Q (vτ τ') H) : lG K g t.val (vτ τ) H Q := by
  cases g with
  | nm i =>
    cases h
    show Q ((vτ τ).set i (some t.val)) H
    rw [← vτ_set]; exact q
  | tp is =>
    cases t with
    | tup a ts => exact .inl ⟨a, ts.map T.val, rfl, SqT.of ok.1, by rw [List.length_map]; exact asgAllT_len h, gNames_ok h q⟩
    | lst a ts => exact .inr ⟨a, ts.map T.val, rfl, .inl ok.1, by rw [List.length_map]; exact asgAllT_len h, gNames_ok h q⟩
    | _ => cases h
noncomputable def Tg.sl : Tg → List Nat
  | .nm i => [i]
  | .tp is => is
theorem asgAllT_get {P : Option T → Prop} : ∀ {is : List Nat} {ts : List T} {τ τ' : Ft}, asgAllT is ts τ = some τ' → (∀ t ∈ ts, P (some t)) → ∀ i o, τ'[i]? = some o → P o ∨ (i ∉ is ∧ τ[i]? = some o)
  | [], [], τ, τ', h, _, i, o, e => by cases h; exact .inr ⟨by simp, e⟩
  | [], t :: ts, τ, τ', h, _, _, _, _ => by cases h
  | i :: is, [], τ, τ', h, _, _, _, _ => by cases h
  | i :: is, t :: ts, τ, τ', h, hp, j, o, e => by
    rcases asgAllT_get (P := P) (is := is) (ts := ts) (τ := τ.set i (some t)) h (fun u hu => hp u (List.mem_cons_of_mem _ hu)) j o e with q | ⟨q1, q2⟩
    · exact .inl q
    · by_cases z : i = j
      · subst z
        rw [List.getElem?_set_self' ] at q2
        cases w : τ[i]? with
        | none => rw [w] at q2; cases q2
        | some x =>
          rw [w] at q2
          have : o = some t := by simpa using q2.symm
          subst this
          exact .inl (hp t (List.mem_cons_self ..))
      · rw [List.getElem?_set_ne z] at q2
        refine .inr ⟨?_, q2⟩
        intro m
        rcases List.mem_cons.mp m with rfl | m
        · exact z rfl
        · exact q1 m
theorem asgTgT_get {P : Option T → Prop} {g : Tg} {t : T} {τ τ' : Ft} (h : asgTgT g t τ = some τ') (hp : P (some t)) (hp' : ∀ a ts, (t = .tup a ts ∨ t = .lst a ts) → ∀ u ∈ ts, P (some u)) (i : Nat) (o : Option T) (e : τ'[i]? = some o) : P o ∨ (i ∉ g.sl ∧ τ[i]? = some o) := by
  cases g with
  | nm k =>
    cases h
    by_cases z : k = i
    · subst z
      rw [List.getElem?_set_self'] at e
      cases w : τ[k]? with
      | none => rw [w] at e; cases e
      | some x =>
        rw [w] at e
        have : o = some t := by simpa using e.symm
        subst this; exact .inl hp
    · rw [List.getElem?_set_ne z] at e
      exact .inr ⟨by simpa [Tg.sl] using fun q => z q.symm, e⟩
  | tp is =>
    cases t with
    | tup a ts => exact asgAllT_get (P := P) h (fun u hu => hp' a ts (.inl rfl) u hu) i o e
    | lst a ts => exact asgAllT_get (P := P) h (fun u hu => hp' a ts (.inr rfl) u hu) i o e
    | _ => cases h
theorem asgAllT_length : ∀ {is : List Nat} {ts : List T} {τ τ' : Ft}, asgAllT is ts τ = some τ' → τ'.length = τ.length
  | [], [], τ, τ', h => by cases h; rfl
  | [], t :: ts, τ, τ', h => by cases h
  | i :: is, [], τ, τ', h => by cases h
  | i :: is, t :: ts, τ, τ', h => by rw [asgAllT_length (is := is) (ts := ts) (τ := τ.set i (some t)) h, List.length_set]
theorem asgTgT_length {g : Tg} {t : T} {τ τ' : Ft} (h : asgTgT g t τ = some τ') : τ'.length = τ.length := by
  cases g with
  | nm k => cases h; rw [List.length_set]
  | tp is => cases t <;> first | cases h | exact asgAllT_length h
end Pu
end
section
namespace Pu
open PySem PySem.Spec PyProof.Rows PySem.W L2
theorem T.nds_append {ts us : List T} {k : Nat} (h1 : T.Nds ts k) (h2 : T.Nds us k) (c1 : ∀ a ∈ T.adrs ts k, a ∉ T.rests us 0) (c2 : ∀ a ∈ T.adrs us k, a ∉ T.rests ts 0) : T.Nds (ts ++ us) k := by
  unfold T.Nds
  rw [T.adrs_append, T.rests_append]
  refine ⟨List.nodup_append.mpr ⟨h1.1, h2.1, fun a ha b hb e => ?_⟩, fun a ha hb => ?_⟩
  · subst e; exact c1 a ha ((T.alls_iff us k).mpr (.inl hb))
  · rcases List.mem_append.mp ha with ha | ha <;> rcases List.mem_append.mp hb with hb | hb
    · exact h1.2 a ha hb
    · exact c2 a hb ((T.alls_iff ts k).mpr (.inr ha))
    · exact c1 a hb ((T.alls_iff us k).mpr (.inr ha))
    · exact h2.2 a ha hb
noncomputable abbrev EX0 : EXT := fun _ _ _ _ => False
section
variable {p : Px} {EX : EXT} {tn : List Nat} {X : Cx} {pos np : Pos}
theorem PS.mono {X : Cx} {st : Stmt} {t t' : TS} (h : PS X st t) (m : ∀ D σ H, t' D σ H → t D σ H) : PS X st t' := fun pins s σ H D I q => h pins s σ H D I (m _ _ _ q)
end
end Pu
end
section
namespace Pu
open PySem PySem.Spec PyProof.Rows PySem.W L2
structure CkC where
  N : List Str
  sc : Scope
  fn : Bool
  rz : Bool
  cm : Bool
noncomputable def visB (sc : Scope) (x : Str) : Bool := match sc.names.lookup x with
  | some .local => true
  | some .cell => true
  | some .free => true
  | _ => false
noncomputable def locB (c : CkC) (x : Str) : Bool := match c.sc.names.lookup x with
  | some .local => true
  | some .cell => c.fn
  | _ => false
noncomputable def glB (sc : Scope) (x : Str) : Bool := match sc.names.lookup x with
  | some .globalImplicit => true
  | _ => false
noncomputable def okNm (x : Str) : Bool := !(x == ("__debug__" : Str)) && !(x == ("__classdict__" : Str))
noncomputable def relab (scope outer : Scope) : Scope :=
  { scope with names := scope.names.map fun (n, k) => if (k == .free && outer.kind == .function && outer.names.lookup n == some .cell) then (n, .cell) else (n, k) }
theorem relab_is (scope : Scope) (env : Env) : relabel scope env = relab scope env.scope := rfl
noncomputable def bnames : List Str := ["len", "min", "max", "abs", "int", "list", "tuple", "all", "any", "sum", "sorted", "isinstance", "str", "range", "enumerate", "zip", "reversed"]
noncomputable def ckG (c : CkC) : Tg → Expr → Bool
  | .nm i, .Name x _ => (c.N[i]? == some x) && locB c x
  | .tp is, .Tuple es _ _ => ckGs c is es && c.cm
  | _, _ => false
where ckGs (c : CkC) : List Nat → List Expr → Bool
  | [], [] => true
  | i :: is, .Name x _ :: es => (c.N[i]? == some x) && locB c x && ckGs c is es
  | _, _ => false
noncomputable def isTup : Expr → Bool
  | .Tuple _ _ _ => true
  | _ => false
noncomputable def xTup : Expr → Option (List Expr × Nat × Pos)
  | .Tuple es k p => some (es, k, p)
  | _ => none
noncomputable def noSet : Expr → Bool
  | .Set _ _ _ => false
  | _ => true
noncomputable def clsNames : List Str := ["RoomError", "BadShape", "NoNode", "NoPage", "NotRooms", "NotATree", "BadRoom", "Unlike", "BadScale", "BadStore", "BadName", "BadLength", "Twice", "Full", "NoThing", "NoDeed", "NoLine"]
noncomputable def clsName (n : Nat) : Str := clsNames.getD n "RoomError"
theorem clsName_nd (n : Nat) : (clsName n == ("__debug__" : Str)) = false := by
  have h : ∀ x ∈ clsNames, (x == ("__debug__" : Str)) = false := by decide
  unfold clsName
  rw [List.getD_eq_getElem?_getD]
  cases q : clsNames[n]? with
  | none => decide
  | some x => exact h x (List.mem_of_getElem? q)
noncomputable def kdTy : Kd → String
  | .int => "int"
  | .bool => "bool"
  | .str => "str"
  | .list => "list"
  | .tuple => "tuple"
  | .dict => "dict"
  | .verr => "ValueError"
  | .cls _ => ""
noncomputable def kdName : Kd → Str
  | .cls n => clsName n
  | k => Str.ofString (kdTy k)
noncomputable def ckKd (c : CkC) (k : Kd) : Expr → Bool
  | .Name x _ => (x == kdName k) && glB c.sc x
  | _ => false
noncomputable def ckClsL (c : CkC) : List Nat → List Expr → Bool
  | [], [] => true
  | n :: ns, .Name x _ :: es => (x == clsName n) && glB c.sc x && ckClsL c ns es
  | _, _ => false
noncomputable def ckCls (c : CkC) (ns : List Nat) : Expr → Bool
  | .Tuple es _ _ => ckClsL c ns es && decide (ns.length ≤ 1000)
  | _ => false
noncomputable def nmB2 : Expr → Bool
  | .Name _ _ => true
  | .Subscript _ _ _ => true
  | _ => false
noncomputable def biName : Bi → Str
  | .len => "len"
  | .min => "min"
  | .int => "int"
  | .list => "list"
  | .listL => "list"
noncomputable def biOk : Bi → Bool
  | _ => true
noncomputable def biFree : Bi → Bool
  | .len => true
  | .int => true
  | .list => true
  | .listL => true
  | _ => false
mutual
noncomputable def E.tst : E → Bool
  | .not a => a.tst
  | .bo _ es => es.tsts
  | _ => true
noncomputable def Es.tsts : Es → Bool
  | .nil => true
  | .cons e r => e.tst && r.tsts
end
noncomputable def isNone : Expr → Bool
  | .Constant .none _ _ => true
  | _ => false
noncomputable def partCk (b : Bool) (f : Expr → Bool) : Option Expr → Bool
  | none => b
  | some l => !b && f l
mutual
noncomputable def ckE (c : CkC) : E → Expr → Bool
  | .nm i, .Name x _ => (c.N[i]? == some x) && visB c.sc x && okNm x
  | .cN, .Constant .none _ _ => true
  | .cB b, .Constant (.bool b') _ _ => b == b'
  | .cI i, .Constant (.int i') _ _ => i == i'
  | .cS x, .Constant (.str x') _ _ => x == x'
  | .gl x d, .Name y _ => (x == y) && glB c.sc y && okNm y && D.scal d
  | .tup es, .Tuple xs _ _ => ckEs c es xs && decide (es.len ≤ 1000)
  | .lst es, .List xs _ => ckEs c es xs && decide (es.len ≤ 1000)
  | .bin o a b, .BinOp l op r _ => (op == opOf o) && ckE c a l && ckE c b r
  | .neg a, .UnaryOp .USub l _ => ckE c a l
  | .not a, .UnaryOp .Not l _ => ckE c a l
  | .cmp o a b, .Compare l [op] [r] _ => (op == cmpOf o) && ckE c a l && ckE c b r && noSet r
  | .chain o o' a b d, .Compare l [op, op'] [r, r'] _ => (op == cmpOf o) && (op' == cmpOf o') && ckE c a l && ckE c b r && ckE c d r' && noSet r'
  | .isN n a, .Compare l [op] [r] _ => (op == if n then .IsNot else .Is) && isNone r && ckE c a l
  | .bo k es, .BoolOp op xs _ => (op == if k then .And else .Or) && ckEs c es xs
  | .ix a i, .Subscript a' i' _ => ckE c a a' && ckE c i i' && plainI i'
  | .ixL a i, .Subscript a' i' _ => ckE c a a' && ckE c i i' && plainI i'
  | .dNew, .Dict [] [] _ => true
  | .slc a lo hi, .Subscript a' (.Slice lo' hi' none _) _ => ckE c a a' && partCk lo.isCN (ckE c lo) lo' && partCk hi.isCN (ckE c hi) hi'
  | .call f es, .Call (.Name x _) xs [] _ => (x == f.name) && glB c.sc x && okNm x && ckEs c es xs && decide (es.len = f.ar) && decide (0 < es.len) && c.cm
  | .callB f es, .Call (.Name x _) xs [] _ => (x == f.name) && glB c.sc x && okNm x && ckEs c es xs && decide (es.len = f.ar) && decide (0 < es.len) && c.cm
  | .bi b es, .Call (.Name x _) xs [] _ => (x == biName b) && glB c.sc x && biOk b && ckEs c es xs && decide (0 < es.len) && (c.cm || biFree b)
  | .isi a k, .Call (.Name x _) [l, r] [] _ => (x == ("isinstance" : Str)) && glB c.sc x && ckE c a l && ckKd c k r && noStar l
  | .isiM a ns, .Call (.Name x _) [l, r] [] _ => (x == ("isinstance" : Str)) && glB c.sc x && ckE c a l && ckCls c ns r && noStar l
  | .callH f es, .Call (.Name x _) xs [] _ => (x == f.name) && glB c.sc x && okNm x && ckEs c es xs && decide (es.len = f.ar) && decide (0 < es.len) && !c.cm && !c.rz
  | .atX a, .Attribute o name _ => (name == ("at" : Str)) && ckE c a o && nmB2 o
  | _, _ => false
noncomputable def ckEs (c : CkC) : Es → List Expr → Bool
  | .nil, [] => true
  | .cons e r, x :: xs => ckE c e x && noStar x && ckEs c r xs
  | _, _ => false
noncomputable def ckI (c : CkC) (tg : Expr) : It → Expr → Bool
  | .seq e, x => ckE c e x
  | .seqL e, x => ckE c e x
  | .r1 a, .Call (.Name x _) [l] [] _ => (x == ("range" : Str)) && glB c.sc x && ckE c a l && noStar l
  | .en a, .Call (.Name x _) [l] [] _ => (x == ("enumerate" : Str)) && glB c.sc x && ckE c a l && noStar l && isTup tg
  | _, _ => false
end
end Pu
end
section
namespace Pu
open PySem PySem.Spec PyProof.Rows PySem.W L2
inductive Nd1 where
  | fn (F : Fn)
  | fm (F : Fn)
  | fc (F : Fn)
  | cl (n : Nat)
  | rs (n : Nat)
  | mk (n : Nat)
  | f0 (F : Fn)
  | ma
  | ax
  | gl (x : Str) (d : D)
mutual
noncomputable def E.need : E → List Nd1
  | .nm _ => []
  | .cN => []
  | .cB _ => []
  | .cI _ => []
  | .cS _ => []
  | .gl x d => [.gl x d]
  | .tup es => es.need
  | .lst es => es.need
  | .bin _ a b => a.need ++ b.need
  | .neg a => a.need
  | .not a => a.need
  | .cmp _ a b => a.need ++ b.need
  | .chain _ _ a b c => a.need ++ (b.need ++ c.need)
  | .isN _ a => a.need
  | .bo _ es => es.need
  | .ix a i => a.need ++ i.need
  | .ixL a i => a.need ++ i.need
  | .dNew => []
  | .slc a lo hi => a.need ++ (lo.need ++ hi.need)
  | .call f es => .fn f :: es.need
  | .callB f es => .fn f :: es.need
  | .bi _ es => es.need
  | .isi a k => (match k with | .cls n => [.cl n] | _ => []) ++ a.need
  | .isiM a ns => ns.map .cl ++ a.need
  | .callH f es => .f0 f :: es.need
  | .atX a => .ax :: a.need
noncomputable def Es.need : Es → List Nd1
  | .nil => []
  | .cons e r => e.need ++ r.need
noncomputable def It.need : It → List Nd1
  | .seq e => e.need
  | .seqL e => e.need
  | .r1 a => a.need
  | .en e => e.need
end
noncomputable def dT : D → T
  | .bl b => .bl b
  | .int i => .int i
  | .str x => .str x
  | _ => .non
theorem dT_dat {d : D} (h : D.scal d = true) : (dT d).dat = d ∧ (dT d).sc = true := by cases d <;> first | exact ⟨rfl, rfl⟩ | cases h
noncomputable def NeedOk (p : Px) (lv : Nat) (X : Cx) : Nd1 → Prop
  | .fn F => F.lv ≤ lv ∧ HasF p X F
  | .fm F => F.lv ≤ lv ∧ HasM p X F
  | .fc F => F.lv ≤ lv ∧ HasN p X F
  | .cl n => p.has n = true ∧ X.mg (clsName n) = some (.ref (p.cl n))
  | .rs n => p.has n = true ∧ nsIn X.K mainGlobals (clsName n) = some (some (.ref (p.cl n))) ∧ excIn X.K (p.cl n) bmVE "ValueError.__new__" = true
  | .f0 F => F.lv ≤ lv ∧ HasF0 p X F
  | .mk n => p.has n = true ∧ nsIn X.K mainGlobals (clsName n) = some (some (.ref (p.cl n))) ∧ excIn X.K (p.cl n) bmVE "ValueError.__new__" = true ∧ keepIn X.K (.ref (p.cl n)) = true
  | .ma => 2 ≤ lv ∧ p.has 4 = true ∧ X.mg (clsName 4) = some (.ref (p.cl 4)) ∧ keepIn X.K (.ref (p.cl 4)) = true ∧ XOwn X.K (p.cl 4) "at" ∧ ∃ fI fd ps, findIn X.K (.ref (p.cl 4)) "__init__" = some (some (.ref fI)) ∧ typeIn X.K (.ref fI) = some (.type "function") ∧ FnOk X.prog X.w X.K X.mg X.base (CXe X.prog X.w) 1 fI fd ps (spI (p.cl 4) "at") ∧ Binds X.K fd ps []
  | .ax => p.has 4 = true ∧ XOwn X.K (p.cl 4) "at"
  | .gl x d => ∃ u, X.mg x = some u ∧ RelV (dT d).val u
structure Kx (p : Px) : Prop where
  no : p.has 999 = false
  lt : ∀ c, p.has c = true → c < 1000
  ks : ∀ c, p.has c = true → subIn p.K (.ref (p.cl c)) (.ref (p.cl c)) = some true
  x : ∀ c, p.has c = true → XCls p.K (p.cl c)
  kb : ∀ c, p.has c = true → ∀ T ∈ (["int", "bool", "str", "list", "tuple", "dict"] : List String), kitOne p.K (.ref (p.cl c)) (.type T) = some false
  kv : ∀ c, p.has c = true → kitOne p.K (.ref (p.cl c)) (.type "ValueError") = some true
  kc : ∀ c d, p.has c = true → p.has d = true → kitOne p.K (.ref (p.cl c)) (.ref (p.cl d)) = some (isa c d)
structure Ct (p : Px) (c : CkC) (lv : Nat) (X : Cx) (EX : EXT) : Prop where
  K : X.K = p.K
  N : X.N = c.N
  sc : X.env.scope = c.sc
  nd : X.N.Nodup
  calm : c.cm = true → X.calm = true
  room : c.cm = true → Room lv X.A
  un : X.A.units + 64 < cLine
  r0 : Room0 lv X.A
  blt : ∀ y ∈ bnames, X.mg y = none
  bt : ∀ y ∈ (["bool", "dict", "ValueError"] : List Str), X.mg y = none
  pass : PassAt (CXe X.prog X.w) X EX
  fn : c.fn = true → ∀ x, X.fn x = true
  kx : Kx p
  ph : c.rz = true → True
section
variable {p : Px} {c : CkC} {lv : Nat} {X : Cx} {EX : EXT} {tn : List Nat} {pos np : Pos}
theorem Ct.gl (C : Ct p c lv X EX) {x : Str} (h : glB c.sc x = true) : Gl X x := by
  unfold glB at h
  show X.env.scope.names.lookup x = _
  rw [C.sc]
  split at h
  · assumption
  · cases h
theorem Ct.vis (C : Ct p c lv X EX) {x : Str} (h : visB c.sc x = true) : Vis X.env.scope x := by
  unfold visB at h
  unfold Vis
  rw [C.sc]
  split at h
  · exact .inl ‹_›
  · exact .inr (.inl ‹_›)
  · exact .inr (.inr ‹_›)
  · cases h
theorem Ct.loc (C : Ct p c lv X EX) {x : Str} (h : locB c x = true) : L2.Loc X.env.scope x ∧ (X.fn x = true ∨ X.env.scope.names.lookup x = some .local) := by
  unfold locB at h
  unfold L2.Loc
  rw [C.sc]
  split at h
  · rename_i e; exact ⟨.inl e, .inr e⟩
  · rename_i e; exact ⟨.inr e, .inl (C.fn h x)⟩
  · cases h
theorem okNm_is {x : Str} (h : okNm x = true) : (x == ("__debug__" : Str)) = false ∧ (x == ("__classdict__" : Str)) = false := by
  unfold okNm at h
  rw [Bool.and_eq_true, Bool.not_eq_true', Bool.not_eq_true'] at h
  exact h
theorem Ct.hu (C : Ct p c lv X EX) : X.A.units + 64 < cLine := C.un
theorem sndGs (C : Ct p c lv X EX) : ∀ {is : List Nat} {es : List Expr}, ckG.ckGs c is es = true → PGs X es (gNames is) ∧ (assignEach es X.env).length = is.length ∧ (assignEach es X.env).findIdx? (·.1) = none
  | [], [], _ => ⟨pgs_nil, rfl, rfl⟩
  | [], e :: es, h => Bool.noConfusion (show false = true from h)
  | i :: is, [], h => Bool.noConfusion (show false = true from h)
  | i :: is, e :: es, h => by
    cases e with
    | Name x q =>
      have h : ((c.N[i]? == some x) && locB c x && ckG.ckGs c is es) = true := h
      rw [Bool.and_eq_true, Bool.and_eq_true] at h
      obtain ⟨⟨h1, h2⟩, h3⟩ := h
      obtain ⟨a1, a2, a3⟩ := sndGs C h3
      obtain ⟨l1, l2⟩ := C.loc h2
      refine ⟨pgs_cons (pg_name C.nd (by rw [C.N]; exact beq_iff_eq.mp h1) l1 l2) a1 rfl, ?_, ?_⟩
      · show (assignEach es X.env).length + 1 = _; rw [a2]; rfl
      · show List.findIdx? (·.1) ((false, _) :: assignEach es X.env) = none
        rw [List.findIdx?_cons, a3]; rfl
    | _ => exact Bool.noConfusion (show false = true from h)
theorem sndG (C : Ct p c lv X EX) {g : Tg} {e : Expr} (h : ckG c g e = true) : PG X e (lG X.K g) := by
  cases g with
  | nm i =>
    cases e with
    | Name x q =>
      have h : ((c.N[i]? == some x) && locB c x) = true := h
      rw [Bool.and_eq_true] at h
      obtain ⟨l1, l2⟩ := C.loc h.2
      exact pg_name C.nd (by rw [C.N]; exact beq_iff_eq.mp h.1) l1 l2
    | _ => exact Bool.noConfusion (show false = true from h)
  | tp is =>
    cases e with
    | Tuple es k q =>
      rw [show ckG c (.tp is) (.Tuple es k q) = (ckG.ckGs c is es && c.cm) from rfl, Bool.and_eq_true] at h
      obtain ⟨a1, a2, a3⟩ := sndGs C h.1
      intro pins s σ H v u Q I r hw
      rcases hw with hw | hw
      · exact pg_tup (C.calm h.2) a1 a2 a3 pins s σ H v u Q I r hw
      · exact pg_lst (C.calm h.2) a1 a2 a3 pins s σ H v u Q I r hw
    | _ => exact Bool.noConfusion (show false = true from h)
theorem mem_zip {α β : Type} {xs : List α} {ys : List β} {j : Nat} {a : α} {b : β} (h1 : xs[j]? = some a) (h2 : ys[j]? = some b) : (a, b) ∈ xs.zip ys := by
  have : (xs.zip ys)[j]? = some (a, b) := by rw [List.getElem?_zip_eq_some]; exact ⟨h1, h2⟩
  exact List.mem_of_getElem? this
theorem Ct.blk (C : Ct p c lv X EX) {scope : Scope} {N : List Str} (hN : N.Nodup) (z : Bk) : Ct p ⟨N, relab scope c.sc, false, false, c.cm⟩ lv (X.blk scope z.C z.fp N z.s z.H) EX0 where
  K := C.K
  N := rfl
  sc := by show relabel scope X.env = _; rw [relab_is, C.sc]
  nd := hN
  calm := C.calm
  room := C.room
  un := C.un
  r0 := C.r0
  blt := C.blt
  bt := C.bt
  pass := fun _ _ _ _ _ _ _ h => by
    obtain ⟨_, _, _, _, _, _, _, _, _, _, _, _, _, _, _, _, _, _, _, _, z⟩ := h
    exact z.elim
  fn := fun z => nomatch z
  kx := C.kx
  ph := fun z => nomatch z
theorem NeedOk.blk {scope : Scope} {N : List Str} {z : Bk} {n : Nd1} (h : NeedOk p lv X n) : NeedOk p lv (X.blk scope z.C z.fp N z.s z.H) n := by
  cases n <;> exact h
theorem noSet_is {e : Expr} {env : Env} (h : noSet e = true) : ∀ y, foldedSetIterable e env y = pure y := by
  intro y
  cases e <;> first | rfl | cases h
theorem noSet_mark {op : CmpOp} {e : Expr} (h : noSet e = true) : behindInMarks op e = false := by
  cases e <;> first | rfl | cases h
end
end Pu
end
section
namespace Pu
open PySem PySem.Spec PyProof.Rows PySem.W L2
section
variable {p : Px} {c : CkC} {lv : Nat} {X : Cx} {EX : EXT} {tn : List Nat} {pos np : Pos}
theorem both (C : Ct p c lv X EX) {e : Expr} {x : E} (h : PE X e (lE p EX tn x)) (hp : plainT e = true) : PE X e (lE p EX tn x) ∧ (x.tst = true → PT X e (lT p EX tn x)) := ⟨h, fun _ => sndT_plain C.K h hp⟩
noncomputable def kdV (p : Px) : Kd → Value
  | .cls n => .ref (p.cl n)
  | k => .type (kdTy k)
noncomputable def kdHas (p : Px) : Kd → Prop
  | .cls n => p.has n = true
  | _ => True
theorem tyx_of (C : Ct p c lv X EX) {H : Hp} {t : T} (ok : t.Ok p H) : ∃ ty, TyX X.K H t.val ty ∧ ∀ k b, isKd t.dat k = .ok b → kdHas p k → kitOne X.K ty (kdV p k) = some b := by
  cases t with
  | non => exact ⟨_, .of .non, fun k b h _ => by cases k <;> cases h <;> rfl⟩
  | bl x => exact ⟨_, .of (.bl x), fun k b h _ => by cases k <;> cases h <;> rfl⟩
  | int x => exact ⟨_, .of (.int x), fun k b h _ => by cases k <;> cases h <;> rfl⟩
  | str x => exact ⟨_, .of (.str x), fun k b h _ => by cases k <;> cases h <;> rfl⟩
  | tup a ts => exact ⟨_, .of (.tup ok.1), fun k b h _ => by cases k <;> cases h <;> rfl⟩
  | lst a ts =>
    rcases ok.1 with e | ⟨o, e⟩
    · exact ⟨_, .of (.lst e), fun k b h _ => by cases k <;> cases h <;> rfl⟩
    · exact ⟨_, .of (.frz e), fun k b h _ => by cases k <;> cases h <;> rfl⟩
  | dic a ks ts => exact ⟨_, .of (.dK ok.1.1), fun k b h _ => by cases k <;> cases h <;> rfl⟩
  | dit a ks ts => exact ⟨_, .of (.dT ok.1.1), fun k b h _ => by cases k <;> cases h <;> rfl⟩
  | exn a n =>
    have main : ∀ m, n ≠ 999 → p.has m = true → kcX n = m → TyX X.K H (V.ref a) (Value.ref (p.cl m)) → ∃ ty, TyX X.K H (T.exn a n).val ty ∧ ∀ k b, isKd (T.exn a n).dat k = .ok b → kdHas p k → kitOne X.K ty (kdV p k) = some b := by
      intro m hn hs hk hty
      have hn' : (n == 999) = false := beq_eq_false_iff_ne.mpr hn
      refine ⟨_, hty, fun k b h hh => ?_⟩
      rw [C.K]
      have kb := C.kx.kb m hs
      cases k with
      | verr =>
        have h : (if (n == 999) = true then Res.bad else Res.ok true) = Res.ok b := h
        rw [hn', if_neg (by decide)] at h
        cases h; exact C.kx.kv m hs
      | cls m' =>
        have h : (if (n == 999) = true then Res.bad else Res.ok (isa (kcX n) m')) = Res.ok b := h
        rw [hn', if_neg (by decide), hk] at h
        cases h; exact C.kx.kc m m' hs hh
      | dict =>
        have h : Res.ok (n == 999) = Res.ok b := h
        rw [hn'] at h
        cases h; exact kb _ (by decide)
      | _ => cases h; exact kb _ (by decide)
    rcases ok with ⟨ok, lt⟩ | ⟨⟨dx, ob, e1, e2, hs⟩, ge⟩
    · by_cases hn : n = 999
      · subst hn
        refine ⟨_, .dct (by rw [ok.1]; rfl), fun k b h _ => ?_⟩
        cases k <;> cases h <;> rfl
      · have hs := ok.2.resolve_left hn
        exact main n hn hs (if_neg (Nat.not_le_of_lt lt)) (.exc (by rw [ok.1]; unfold exO; rw [if_neg hn]) (C.K ▸ C.kx.x n hs))
    · exact main 4 (fun z => by subst z; exact absurd ge (by decide)) hs (if_pos ge) (.exa e1 (C.K ▸ C.kx.x 4 hs))
theorem snd_isi (C : Ct p c lv X EX) {l r : Expr} {x : E} {k : Kd} {v : V} {cv : Value} (hl : PE X l (lE p EX tn x)) (hr : PE X r (tC v)) (hst : noStar l = true) (hst' : noStar r = true) (hgl : Gl X "isinstance") (hcv : clV v = some cv)
    (hk : ∀ (H : Hp) (t : T) (b : Bool), t.Ok p H → isKd t.dat k = .ok b → ∃ ty, TyX X.K H t.val ty ∧ kitOne X.K ty cv = some b) : PE X (.Call (.Name "isinstance" np) [l, r] [] pos) (lE p EX tn (.isi x k)) := by
  refine PE.mono (pe_callB call_isi hgl (C.blt _ (by simp [bnames])) (by decide +kernel) (pa_cons hl (pa_cons hr pa_nil (star_of hst')) (star_of hst)) (by decide) (by decide) (star_of hst) (stars_any (by simp [hst']))) fun σ H Q h => ?_
  obtain ⟨τ, rfl, hF, j, k', hj, h⟩ := h
  simp only [jk] at hj
  obtain ⟨⟨j1, k1⟩, h1, hj⟩ := Option.bind_eq_some_iff.mp hj
  simp only [ev] at h
  refine l1 hF h1 h fun d t H1 ht R h => ?_
  subst ht
  cases q : isKd t.dat k with
  | ok b =>
    rw [q] at h
    obtain ⟨ty, h2, h3⟩ := hk H1 t b R.ok q
    exact ⟨t.val, v, cv, ty, b, rfl, hcv, h2, h3, h (.bl b) H1 rfl (Rs.scal R.same rfl)⟩
  | exc n =>
    rw [q] at h
    cases t with
    | exn a c =>
      have hx : ∀ f, dX (T.exn a c).dat f ≠ .exc n := fun f e => by
        unfold T.dat dX at e
        split at e <;> simp_all
        split at e <;> cases e
      cases k with
      | verr => exact absurd (show dX (T.exn a c).dat (fun _ => true) = .exc n from q) (hx _)
      | cls m => exact absurd (show dX (T.exn a c).dat (fun c => isa c m) = .exc n from q) (hx _)
      | _ => cases q
    | _ => cases k <;> cases q
  | bad => rw [q] at h; exact (show False from h).elim
theorem isi_kd (C : Ct p c lv X EX) {k : Kd} {r : Expr} (h : ckKd c k r = true) (hn : ∀ n, k = .cls n → NeedOk p lv X (.cl n)) : ∃ v cv, PE X r (tC v) ∧ clV v = some cv ∧ noStar r = true ∧ ∀ (H : Hp) (t : T) (b : Bool), t.Ok p H → isKd t.dat k = .ok b → ∃ ty, TyX X.K H t.val ty ∧ kitOne X.K ty cv = some b := by
  cases r with
  | Name x q =>
    have h : ((x == kdName k) && glB c.sc x) = true := h
    rw [Bool.and_eq_true, beq_iff_eq] at h
    obtain ⟨rfl, h⟩ := h
    have fin : kdHas p k → ∀ (H : Hp) (t : T) (b : Bool), t.Ok p H → isKd t.dat k = .ok b → ∃ ty, TyX X.K H t.val ty ∧ kitOne X.K ty (kdV p k) = some b := fun hk H t b ok e => let ⟨ty, a, f⟩ := tyx_of C ok; ⟨ty, a, f _ _ e hk⟩
    have key : (∃ n, k = .cls n) ∨ (kdHas p k ∧ kdV p k = .type (kdTy k) ∧ X.mg (kdName k) = none ∧ bootBuiltins (kdName k) = some (.type (kdTy k)) ∧ kdName k ≠ "__name__" ∧ (kdName k == ("__debug__" : Str)) = false) := by
      cases k with
      | cls n => exact .inl ⟨n, rfl⟩
      | bool => exact .inr ⟨trivial, rfl, C.bt _ (by decide), by decide +kernel, by decide, by decide⟩
      | dict => exact .inr ⟨trivial, rfl, C.bt _ (by decide), by decide +kernel, by decide, by decide⟩
      | verr => exact .inr ⟨trivial, rfl, C.bt _ (by decide), by decide +kernel, by decide, by decide⟩
      | _ => exact .inr ⟨trivial, rfl, C.blt _ (by decide), by decide +kernel, by decide, by decide⟩
    rcases key with ⟨n, rfl⟩ | ⟨k1, k2, k3, k4, k5, k6⟩
    · obtain ⟨h1, h2⟩ := hn n rfl
      exact ⟨.ref (p.cl n), .ref (p.cl n), pe_glob (C.gl h) h2 rfl (clsName_nd n), rfl, rfl, fin h1⟩
    · exact ⟨.ty (kdTy k), .type (kdTy k), pe_bltn (C.gl h) k3 k4 rfl k5 k6, rfl, rfl, k2 ▸ fin k1⟩
  | _ => exact Bool.noConfusion (show false = true from h)
noncomputable def rIsiT (K : Frag) : List V → Hp → VK → Prop := fun xs H Q => ∃ (a C tp : Addr) (Cs : List Addr) (b : Bool), xs = [.ref a, .ref tp] ∧ (H a = some (xO a C) ∨ ∃ dx, H a = some (xA a C dx)) ∧ XCls K C ∧ H tp = some (.tup (Cs.map V.ref)) ∧ kitAny K (.ref C) (Cs.map Value.ref) = some b ∧ Q (.bl b) H
theorem vals_refs : ∀ {Cs : List Addr} {its : List Value}, Vals (Cs.map V.ref) its → its = Cs.map Value.ref
  | [], its, h => by cases h; rfl
  | C :: r, its, h => by
    cases h with
    | cons h1 h2 =>
      rw [vals_refs (Cs := r) h2]
      cases (show _ = Value.ref C from h1)
      rfl
theorem call_isiT : CallR X (.builtin "isinstance") (rIsiT X.K) := by
  intro pins s σ H xs us Q I r h
  obtain ⟨a, C, tp, Cs, b, rfl, y, c, ht, e, q⟩ := h
  obtain ⟨u, w', rfl, ru, rw'⟩ := vals2 r
  cases (show u = Value.ref a from ru)
  cases (show w' = Value.ref tp from rw')
  obtain ⟨_, its, rel, o, ho, hc, n, hd⟩ := I.hok tp _ ht
  cases vals_refs rel
  obtain ⟨oc, dd, od, sl⟩ := o
  cases hc
  cases hd
  have ya : XAt a C s.heap := by
    rcases y with y | ⟨dx, y⟩
    · exact (I.hok a _ y).1
    · exact (show XDt a C dx s.heap from (I.hok a _ y).1).at
  exact kia_tup (kitx_exc c) I.kIn ya ho e (fun z => nomatch z) fun tk => ⟨.bl b, H, I.tok tk, rfl, q⟩
theorem pa_cls (C : Ct p c lv X EX) : ∀ {ns : List Nat} {es : List Expr}, (∀ n ∈ ns, NeedOk p lv X (.cl n)) → ckClsL c ns es = true → PA X es (fun _ H Q => Q (ns.map fun n => V.ref (p.cl n)) H)
  | [], [], _, _ => pa_nil
  | [], e :: es, _, h => Bool.noConfusion (show false = true from h)
  | n :: ns, [], _, h => Bool.noConfusion (show false = true from h)
  | n :: ns, e :: es, hn, h => by
    cases e with
    | Name x q =>
      have h : ((x == clsName n) && glB c.sc x && ckClsL c ns es) = true := h
      rw [Bool.and_eq_true, Bool.and_eq_true, beq_iff_eq] at h
      obtain ⟨⟨rfl, h2⟩, h3⟩ := h
      obtain ⟨_, g2⟩ := hn n (List.mem_cons_self ..)
      exact PA.mono (pa_cons (pe_glob (v := .ref (p.cl n)) (C.gl h2) g2 rfl (clsName_nd n)) (pa_cls C (fun k hk => hn k (List.mem_cons_of_mem _ hk)) h3) rfl) fun σ H Q z => z
    | _ => exact Bool.noConfusion (show false = true from h)
theorem any_of (kx : Kx p) {k : Nat} (hk : p.has k = true) : ∀ {ns : List Nat}, (∀ n ∈ ns, p.has n = true) → kitAny p.K (.ref (p.cl k)) ((ns.map p.cl).map Value.ref) = some (ns.any (isa k))
  | [], _ => rfl
  | n :: ns, hn => by
    have k1 := kx.kc k n hk (hn n (List.mem_cons_self ..))
    have ih := any_of kx hk (ns := ns) fun m hm => hn m (List.mem_cons_of_mem _ hm)
    rw [List.map_cons, List.map_cons, kitAny, k1, List.any_cons]
    cases isa k n with
    | true => rfl
    | false => exact ih
theorem snd_isiM (C : Ct p c lv X EX) {l : Expr} {es : List Expr} {x : E} {ns : List Nat} {kt : Nat} {pt : Pos} (hl : PE X l (lE p EX tn x)) (hst : noStar l = true) (hgl : Gl X "isinstance") (hn : ∀ n ∈ ns, NeedOk p lv X (.cl n)) (hc : ckClsL c ns es = true) (hlen : ns.length ≤ 1000) : PE X (.Call (.Name "isinstance" np) [l, .Tuple es kt pt] [] pos) (lE p EX tn (.isiM x ns)) := by
  refine PE.mono (pe_callB call_isiT hgl (C.blt _ (by simp [bnames])) (by decide +kernel) (pa_cons hl (pa_cons (pe_tup (pa_cls C hn hc)) pa_nil rfl) (star_of hst)) (by decide) (by decide) (star_of hst) rfl) fun σ H Q h => ?_
  obtain ⟨τ, rfl, hF, j, k', hj, h⟩ := h
  simp only [jk] at hj
  obtain ⟨⟨j1, k1⟩, h1, hj⟩ := Option.bind_eq_some_iff.mp hj
  simp only [ev] at h
  refine l1 hF h1 h fun d t H1 ht R h => ?_
  subst ht
  refine ⟨by rw [List.length_map]; exact Nat.le_trans hlen (by decide), fun tp htp => ?_⟩
  cases t with
  | exn a k =>
    have h : Lg p EX (vτ τ) ((if (k == 999) = true then Res.bad else Res.ok (ns.any (isa (kcX k)))).bind fun b => Res.ok (D.bl b)) H (KE p (Sh tn τ) H j k' Q) := h
    by_cases hk9 : k = 999
    · subst hk9; exact (show False from h).elim
    rw [if_neg (by simpa using hk9)] at h
    have Rok : XOk p H1 a k := R.ok
    have hka : p.has (kcX k) = true ∧ (H1 a = some (xO a (p.cl (kcX k))) ∨ ∃ dx, H1 a = some (xA a (p.cl (kcX k)) dx)) := by
      rcases Rok with ⟨Rok, lt⟩ | ⟨⟨dx, ob, e1, e2, hs⟩, ge⟩
      · have kk : kcX k = k := if_neg (Nat.not_le_of_lt lt)
        rw [kk]
        exact ⟨Rok.2.resolve_left hk9, .inl (by rw [Rok.1]; unfold exO; rw [if_neg hk9])⟩
      · have kk : kcX k = 4 := if_pos ge
        rw [kk]
        exact ⟨hs, .inr ⟨dx, e1⟩⟩
    obtain ⟨hks, hka⟩ := hka
    have sm : Same H1 (L2.upd H1 tp (.tup (ns.map fun n => V.ref (p.cl n)))) := fun a' u e => by
      rw [L2.upd_ne (fun z => by subst z; rw [htp] at e; cases e)]; exact e
    have e1 : (ns.map fun n => V.ref (p.cl n)) = (ns.map p.cl).map V.ref := by rw [List.map_map]; rfl
    refine ⟨a, p.cl (kcX k), tp, ns.map p.cl, ns.any (isa (kcX k)), rfl, hka.imp (sm _ _) (fun ⟨dx, z⟩ => ⟨dx, sm _ _ z⟩), C.K ▸ C.kx.x _ hks, by rw [L2.upd_same, e1], C.K ▸ any_of C.kx hks (fun n hm => (hn n hm).1), ?_⟩
    exact h (.bl _) _ rfl (Rs.scal (R.same.trans sm) rfl)
  | _ => exact (show False from h).elim
theorem passNo : Passes (CXe X.prog X.w) X fun _ _ _ => False := by
  intro pins σ H s e s' I h
  obtain ⟨_, _, _, _, _, _, _, _, _, _, _, _, _, _, _, _, _, _, _, _, h⟩ := h
  exact h.elim
theorem snd_atX (C : Ct p c lv X EX) {o : Expr} {x : E} (A : PE X o (lE p EX tn x)) (hN : NeedOk p lv X .ax) (hb : attributeBase o "at" X.env (eval o X.env) = eval o X.env) : PE X (.Attribute o "at" pos) (lE p EX tn (.atX x)) := by
  obtain ⟨r1, r2⟩ := hN
  refine PE.mono (pe_atx A (C.K ▸ C.kx.x 4 r1) r2 hb) fun σ H Q h => ?_
  obtain ⟨τ, rfl, hF, j, k', hj, h⟩ := h
  simp only [jk] at hj
  obtain ⟨⟨j1, k1⟩, h1, hj⟩ := Option.bind_eq_some_iff.mp hj
  simp only [ev] at h
  refine l1 hF h1 h fun d t H1 ht R h => ?_
  subst ht
  cases t with
  | exn a n =>
    have h : Lg p EX (vτ τ) (if 1000 ≤ n then Res.ok (D.int (xatI n)) else .bad) H (KE p (Sh tn τ) H j k' Q) := h
    have Rok : XOk p H1 a n := R.ok
    rcases Rok with ⟨_, lt⟩ | ⟨⟨dx, ob, e1, e2, _⟩, ge⟩
    · rw [if_neg (Nat.not_le_of_lt lt)] at h; exact (show False from h).elim
    · rw [if_pos ge] at h
      exact ⟨a, dx, ob, xatI n, rfl, e1, e2, h (.int (xatI n)) H1 rfl (Rs.scal R.same rfl)⟩
  | _ => exact (show False from h).elim
theorem snd_dNew : PE X (.Dict [] [] pos) (lE p EX tn .dNew) := by
  refine PE.mono L2.pe_dnewK fun σ H Q h => ?_
  obtain ⟨τ, rfl, hF, j, k, hj, h⟩ := h
  simp only [jk] at hj
  cases hj
  intro a ha
  have s := Same.new (o := .dK []) ha
  refine h (.dic a [] []) _ rfl ⟨s, ⟨⟨upd_same, List.nodup_nil, rfl⟩, trivial⟩, fun b m => ?_, fun b m => ?_, ⟨?_, fun b m => nomatch (show b ∈ ([] : List Addr) from m)⟩⟩
  · rcases List.mem_cons.mp m with rfl | m
    · exact .inl ha
    · cases m
  · rcases List.mem_cons.mp m with rfl | m
    · exact ⟨ha, _, upd_same, rfl⟩
    · cases m
  · exact List.nodup_cons.mpr ⟨List.not_mem_nil, List.nodup_nil⟩
end
end Pu
end
section
set_option maxHeartbeats 1000000
namespace Pu
open PySem PySem.Spec PyProof.Rows PySem.W L2
theorem and3 {a b : Bool} (h : (a && b) = true) : a = true ∧ b = true := Bool.and_eq_true _ _ |>.mp h
theorem need_l {p : Px} {lv : Nat} {X : Cx} {a b : List Nd1} (h : ∀ n ∈ a ++ b, NeedOk p lv X n) : (∀ n ∈ a, NeedOk p lv X n) ∧ ∀ n ∈ b, NeedOk p lv X n := ⟨fun n m => h n (List.mem_append_left _ m), fun n m => h n (List.mem_append_right _ m)⟩
theorem ckEs_stars {c : CkC} : ∀ {es : Es} {xs : List Expr}, ckEs c es xs = true → xs.all noStar = true ∧ xs.length = es.len
  | .nil, [], _ => ⟨rfl, rfl⟩
  | .nil, x :: xs, h => Bool.noConfusion (show false = true from h)
  | .cons e r, [], h => Bool.noConfusion (show false = true from h)
  | .cons e r, x :: xs, h => by
    have h : (ckE c e x && noStar x && ckEs c r xs) = true := h
    obtain ⟨h, h3⟩ := and3 h
    obtain ⟨h1, h2⟩ := and3 h
    obtain ⟨a, b⟩ := ckEs_stars h3
    exact ⟨by rw [List.all_cons, h2, a]; rfl, by rw [List.length_cons, b, Es.len]⟩
mutual
theorem snd {p : Px} {lv : Nat} : ∀ (x : E) {c : CkC} {X : Cx} {EX : EXT} {tn : List Nat} (C : Ct p c lv X EX) (e : Expr), (∀ n ∈ x.need, NeedOk p lv X n) → ckE c x e = true → PE X e (lE p EX tn x) ∧ (x.tst = true → PT X e (lT p EX tn x))
  | .nm i, c, X, EX, tn, C, e, hn, h => by
    cases e with
    | Name y q =>
      have h : ((c.N[i]? == some y) && visB c.sc y && okNm y) = true := h
      obtain ⟨h, h3⟩ := and3 h
      obtain ⟨h1, h2⟩ := and3 h
      obtain ⟨d1, d2⟩ := okNm_is h3
      exact both C (snd_nm (by rw [C.N]; exact beq_iff_eq.mp h1) (C.vis h2) d1 d2) rfl
    | _ => exact Bool.noConfusion (show false = true from h)
  | .cN, c, X, EX, tn, C, e, hn, h => by
    cases e with
    | Constant k j q =>
      cases k with
      | none => exact both C (snd_c (t := .non) pe_non rfl (fun _ => rfl)) rfl
      | _ => exact Bool.noConfusion (show false = true from h)
    | _ => exact Bool.noConfusion (show false = true from h)
  | .cB b, c, X, EX, tn, C, e, hn, h => by
    cases e with
    | Constant k j q =>
      cases k with
      | bool b' =>
        cases beq_iff_eq.mp (show (b == b') = true from h)
        exact both C (snd_c (t := .bl b) pe_bl rfl (fun _ => rfl)) rfl
      | _ => exact Bool.noConfusion (show false = true from h)
    | _ => exact Bool.noConfusion (show false = true from h)
  | .cI b, c, X, EX, tn, C, e, hn, h => by
    cases e with
    | Constant k j q =>
      cases k with
      | int b' =>
        cases beq_iff_eq.mp (show (b == b') = true from h)
        exact both C (snd_c (t := .int b) pe_int rfl (fun _ => rfl)) rfl
      | _ => exact Bool.noConfusion (show false = true from h)
    | _ => exact Bool.noConfusion (show false = true from h)
  | .cS b, c, X, EX, tn, C, e, hn, h => by
    cases e with
    | Constant k j q =>
      cases k with
      | str b' =>
        cases beq_iff_eq.mp (show (b == b') = true from h)
        exact both C (snd_c (t := .str b) pe_str rfl (fun _ => rfl)) rfl
      | _ => exact Bool.noConfusion (show false = true from h)
    | _ => exact Bool.noConfusion (show false = true from h)
  | .gl y d, c, X, EX, tn, C, e, hn, h => by
    cases e with
    | Name y' q =>
      have h : ((y == y') && glB c.sc y' && okNm y' && D.scal d) = true := h
      obtain ⟨h, h4⟩ := and3 h
      obtain ⟨h, h3⟩ := and3 h
      obtain ⟨h1, h2⟩ := and3 h
      cases beq_iff_eq.mp h1
      obtain ⟨u, m, r⟩ := hn (.gl y d) (List.mem_singleton.mpr rfl)
      obtain ⟨e1, e2⟩ := dT_dat h4
      exact both C (snd_c (t := dT d) (pe_glob (C.gl h2) m r (okNm_is h3).1) e2 (fun _ => by rw [e1]; rfl)) rfl
    | _ => exact Bool.noConfusion (show false = true from h)
  | .tup es, c, X, EX, tn, C, e, hn, h => by
    cases e with
    | Tuple xs k q =>
      obtain ⟨h1, h2⟩ := and3 (show (ckEs c es xs && decide (es.len ≤ 1000)) = true from h)
      exact both C (snd_tup (sndA es C xs hn h1).1 (of_decide_eq_true h2)) rfl
    | _ => exact Bool.noConfusion (show false = true from h)
  | .lst es, c, X, EX, tn, C, e, hn, h => by
    cases e with
    | List xs q =>
      obtain ⟨h1, h2⟩ := and3 (show (ckEs c es xs && decide (es.len ≤ 1000)) = true from h)
      exact both C (snd_lst (sndA es C xs hn h1).1 (of_decide_eq_true h2)) rfl
    | _ => exact Bool.noConfusion (show false = true from h)
  | .bin o a b, c, X, EX, tn, C, e, hn, h => by
    cases e with
    | BinOp l op r q =>
      obtain ⟨h, h3⟩ := and3 (show ((op == opOf o) && ckE c a l && ckE c b r) = true from h)
      obtain ⟨h1, h2⟩ := and3 h
      cases beq_iff_eq.mp h1
      obtain ⟨n1, n2⟩ := need_l hn
      exact both C (snd_bin (snd a C l n1 h2).1 (snd b C r n2 h3).1) rfl
    | _ => exact Bool.noConfusion (show false = true from h)
  | .neg a, c, X, EX, tn, C, e, hn, h => by
    cases e with
    | UnaryOp o l q =>
      cases o with
      | USub => exact both C (snd_neg (snd a C l hn h).1) rfl
      | _ => exact Bool.noConfusion (show false = true from h)
    | _ => exact Bool.noConfusion (show false = true from h)
  | .not a, c, X, EX, tn, C, e, hn, h => by
    cases e with
    | UnaryOp o l q =>
      cases o with
      | Not =>
        obtain ⟨h1, h2⟩ := snd a C (tn := tn) l hn h
        exact ⟨snd_not h1, fun ht => sndT_not (h2 ht)⟩
      | _ => exact Bool.noConfusion (show false = true from h)
    | _ => exact Bool.noConfusion (show false = true from h)
  | .cmp o a b, c, X, EX, tn, C, e, hn, h => by
    cases e with
    | Compare l ops rs q =>
      match ops, rs, h with
      | [op], [r], h =>
        obtain ⟨h, h4⟩ := and3 (show ((op == cmpOf o) && ckE c a l && ckE c b r && noSet r) = true from h)
        obtain ⟨h, h3⟩ := and3 h
        obtain ⟨h1, h2⟩ := and3 h
        cases beq_iff_eq.mp h1
        obtain ⟨n1, n2⟩ := need_l hn
        have A := (snd a C (tn := tn) l n1 h2).1
        have B := (snd b C (tn := tn) r n2 h3).1
        exact ⟨snd_cmp C.K C.hu A B (noSet_mark h4), fun _ => sndT_cmp C.K C.hu A B (noSet_mark h4)⟩
      | [], _, h => exact Bool.noConfusion (show false = true from h)
      | [_], [], h => exact Bool.noConfusion (show false = true from h)
      | [_], _ :: _ :: _, h => exact Bool.noConfusion (show false = true from h)
      | _ :: _ :: _, _, h => exact Bool.noConfusion (show false = true from h)
    | _ => exact Bool.noConfusion (show false = true from h)
  | .chain o o' a b d, c, X, EX, tn, C, e, hn, h => by
    cases e with
    | Compare l ops rs q =>
      match ops, rs, h with
      | [op, op'], [r, r'], h =>
        obtain ⟨h, h6⟩ := and3 (show ((op == cmpOf o) && (op' == cmpOf o') && ckE c a l && ckE c b r && ckE c d r' && noSet r') = true from h)
        obtain ⟨h, h5⟩ := and3 h
        obtain ⟨h, h4⟩ := and3 h
        obtain ⟨h, h3⟩ := and3 h
        obtain ⟨h1, h2⟩ := and3 h
        cases beq_iff_eq.mp h1
        cases beq_iff_eq.mp h2
        obtain ⟨n1, n2⟩ := need_l hn
        obtain ⟨n2, n3⟩ := need_l n2
        have A := (snd a C (tn := tn) l n1 h3).1
        have B := (snd b C (tn := tn) r n2 h4).1
        have D := (snd d C (tn := tn) r' n3 h5).1
        exact ⟨snd_chain C.K C.hu A B D (noSet_mark h6), fun _ => sndT_chain C.K C.hu A B D (noSet_mark h6)⟩
      | [], _, h => exact Bool.noConfusion (show false = true from h)
      | [_], _, h => exact Bool.noConfusion (show false = true from h)
      | [_, _], [], h => exact Bool.noConfusion (show false = true from h)
      | [_, _], [_], h => exact Bool.noConfusion (show false = true from h)
      | [_, _], _ :: _ :: _ :: _, h => exact Bool.noConfusion (show false = true from h)
      | _ :: _ :: _ :: _, _, h => exact Bool.noConfusion (show false = true from h)
    | _ => exact Bool.noConfusion (show false = true from h)
  | .isN n a, c, X, EX, tn, C, e, hn, h => by
    cases e with
    | Compare l ops rs q =>
      match ops, rs, h with
      | [op], [r], h =>
        obtain ⟨h, h3⟩ := and3 (show ((op == if n then .IsNot else .Is) && isNone r && ckE c a l) = true from h)
        obtain ⟨h1, h2⟩ := and3 h
        cases beq_iff_eq.mp h1
        have A := (snd a C (tn := tn) l hn h3).1
        cases r with
        | Constant k j q' =>
          cases k with
          | none => exact ⟨snd_isN A, fun _ => sndT_isN A⟩
          | _ => cases h2
        | _ => cases h2
      | [], _, h => exact Bool.noConfusion (show false = true from h)
      | [_], [], h => exact Bool.noConfusion (show false = true from h)
      | [_], _ :: _ :: _, h => exact Bool.noConfusion (show false = true from h)
      | _ :: _ :: _, _, h => exact Bool.noConfusion (show false = true from h)
    | _ => exact Bool.noConfusion (show false = true from h)
  | .bo k es, c, X, EX, tn, C, e, hn, h => by
    cases e with
    | BoolOp op xs q =>
      obtain ⟨h1, h2⟩ := and3 (show ((op == if k then .And else .Or) && ckEs c es xs) = true from h)
      cases beq_iff_eq.mp h1
      obtain ⟨a1, a2⟩ := (sndA es C (tn := tn) xs hn h2).2 k q
      exact ⟨a1, fun ht => (a2 ht).pt⟩
    | _ => exact Bool.noConfusion (show false = true from h)
  | .ix a i, c, X, EX, tn, C, e, hn, h => by
    cases e with
    | Subscript l r q =>
      obtain ⟨h, h3⟩ := and3 (show (ckE c a l && ckE c i r && plainI r) = true from h)
      obtain ⟨h1, h2⟩ := and3 h
      obtain ⟨n1, n2⟩ := need_l hn
      exact both C (snd_ix C.K (snd a C l n1 h1).1 (snd i C r n2 h2).1 h3) rfl
    | _ => exact Bool.noConfusion (show false = true from h)
  | .ixL a i, c, X, EX, tn, C, e, hn, h => by
    cases e with
    | Subscript l r q =>
      obtain ⟨h, h3⟩ := and3 (show (ckE c a l && ckE c i r && plainI r) = true from h)
      obtain ⟨h1, h2⟩ := and3 h
      obtain ⟨n1, n2⟩ := need_l hn
      exact both C (snd_ixL (snd a C l n1 h1).1 (snd i C r n2 h2).1 h3) rfl
    | _ => exact Bool.noConfusion (show false = true from h)
  | .dNew, c, X, EX, tn, C, e, hn, h => by
    cases e with
    | Dict ks vs q =>
      match ks, vs, h with
      | [], [], _ => exact both C snd_dNew rfl
      | [], _ :: _, h => exact Bool.noConfusion (show false = true from h)
      | _ :: _, _, h => exact Bool.noConfusion (show false = true from h)
    | _ => exact Bool.noConfusion (show false = true from h)
  | .slc a lo hi, c, X, EX, tn, C, e, hn, h => by
    cases e with
    | Subscript l r q =>
      cases r with
      | Slice lo' hi' st q2 =>
        cases st with
        | none =>
          obtain ⟨h, h3⟩ := and3 (show (ckE c a l && partCk lo.isCN (ckE c lo) lo' && partCk hi.isCN (ckE c hi) hi') = true from h)
          obtain ⟨h1, h2⟩ := and3 h
          obtain ⟨n1, n2⟩ := need_l hn
          obtain ⟨n2, n3⟩ := need_l n2
          have cn : ∀ {y : E}, y.isCN = true → y = .cN := fun {y} z => by cases y <;> first | rfl | cases z
          have P1 : PO X lo' (lO p EX tn lo) := by
            cases lo' with
            | none => cases cn h2; exact sndO_none
            | some l' =>
              obtain ⟨g1, g2⟩ := and3 h2
              exact sndO_some (snd lo C l' n2 g2).1 (by simpa using g1)
          have P2 : PO X hi' (lO p EX tn hi) := by
            cases hi' with
            | none => cases cn h3; exact sndO_none
            | some l' =>
              obtain ⟨g1, g2⟩ := and3 h3
              exact sndO_some (snd hi C l' n3 g2).1 (by simpa using g1)
          exact both C (snd_slc (snd a C l n1 h1).1 P1 P2) rfl
        | some _ => exact Bool.noConfusion (show false = true from h)
      | _ => exact Bool.noConfusion (show false = true from h)
    | _ => exact Bool.noConfusion (show false = true from h)
  | .call f es, c, X, EX, tn, C, e, hn, h => by
    cases e with
    | Call fn xs ks q =>
      cases fn with
      | Name y q' =>
        cases ks with
        | nil =>
          obtain ⟨h, h7⟩ := and3 (show ((y == f.name) && glB c.sc y && okNm y && ckEs c es xs && decide (es.len = f.ar) && decide (0 < es.len) && c.cm) = true from h)
          obtain ⟨h, h6⟩ := and3 h
          obtain ⟨h, h5⟩ := and3 h
          obtain ⟨h, h4⟩ := and3 h
          obtain ⟨h, h3⟩ := and3 h
          obtain ⟨h1, h2⟩ := and3 h
          cases beq_iff_eq.mp h1
          obtain ⟨s1, s2⟩ := ckEs_stars h4
          obtain ⟨f1, f2⟩ := hn (.fn f) (List.mem_cons_self ..)
          have A := (sndA es C (tn := tn) xs (fun n m => hn n (List.mem_cons_of_mem _ m)) h4).1
          cases es with
          | nil => cases of_decide_eq_true h6
          | cons e1 r1 =>
            cases xs with
            | nil => cases s2
            | cons x1 xr => exact both C (snd_call C.pass f2 ((C.room h7).mono f1) (C.gl h2) (okNm_is h3).1 A s1 (of_decide_eq_true h5)) rfl
        | cons _ _ => exact Bool.noConfusion (show false = true from h)
      | _ => exact Bool.noConfusion (show false = true from h)
    | _ => exact Bool.noConfusion (show false = true from h)
  | .callH f es, c, X, EX, tn, C, e, hn, h => by
    cases e with
    | Call fn xs ks q =>
      cases fn with
      | Name y q' =>
        cases ks with
        | nil =>
          obtain ⟨h, h8⟩ := and3 (show ((y == f.name) && glB c.sc y && okNm y && ckEs c es xs && decide (es.len = f.ar) && decide (0 < es.len) && !c.cm && !c.rz) = true from h)
          obtain ⟨h, h7⟩ := and3 h
          obtain ⟨h, h6⟩ := and3 h
          obtain ⟨h, h5⟩ := and3 h
          obtain ⟨h, h4⟩ := and3 h
          obtain ⟨h, h3⟩ := and3 h
          obtain ⟨h1, h2⟩ := and3 h
          cases beq_iff_eq.mp h1
          obtain ⟨s1, s2⟩ := ckEs_stars h4
          obtain ⟨f1, f2⟩ := hn (.f0 f) (List.mem_cons_self ..)
          have A := (sndA es C (tn := tn) xs (fun n m => hn n (List.mem_cons_of_mem _ m)) h4).1
          cases es with
          | nil => cases of_decide_eq_true h6
          | cons e1 r1 =>
            cases xs with
            | nil => cases s2
            | cons x1 xr => exact both C (snd_callH passNo f2 (C.r0.mono f1) (C.gl h2) (okNm_is h3).1 A s1 (of_decide_eq_true h5)) rfl
        | cons _ _ => exact Bool.noConfusion (show false = true from h)
      | _ => exact Bool.noConfusion (show false = true from h)
    | _ => exact Bool.noConfusion (show false = true from h)
  | .callB f es, c, X, EX, tn, C, e, hn, h => by
    cases e with
    | Call fn xs ks q =>
      cases fn with
      | Name y q' =>
        cases ks with
        | nil =>
          obtain ⟨h, h7⟩ := and3 (show ((y == f.name) && glB c.sc y && okNm y && ckEs c es xs && decide (es.len = f.ar) && decide (0 < es.len) && c.cm) = true from h)
          obtain ⟨h, h6⟩ := and3 h
          obtain ⟨h, h5⟩ := and3 h
          obtain ⟨h, h4⟩ := and3 h
          obtain ⟨h, h3⟩ := and3 h
          obtain ⟨h1, h2⟩ := and3 h
          cases beq_iff_eq.mp h1
          obtain ⟨s1, s2⟩ := ckEs_stars h4
          obtain ⟨f1, f2⟩ := hn (.fn f) (List.mem_cons_self ..)
          have A := (sndA es C (tn := tn) xs (fun n m => hn n (List.mem_cons_of_mem _ m)) h4).1
          cases es with
          | nil => cases of_decide_eq_true h6
          | cons e1 r1 =>
            cases xs with
            | nil => cases s2
            | cons x1 xr => exact both C (snd_callB C.pass f2 ((C.room h7).mono f1) (C.gl h2) (okNm_is h3).1 A s1 (of_decide_eq_true h5)) rfl
        | cons _ _ => exact Bool.noConfusion (show false = true from h)
      | _ => exact Bool.noConfusion (show false = true from h)
    | _ => exact Bool.noConfusion (show false = true from h)
  | .bi b es, c, X, EX, tn, C, e, hn, h => by
    cases e with
    | Call fn xs ks q =>
      cases fn with
      | Name y q' =>
        cases ks with
        | nil =>
          obtain ⟨h, h6⟩ := and3 (show ((y == biName b) && glB c.sc y && biOk b && ckEs c es xs && decide (0 < es.len) && (c.cm || biFree b)) = true from h)
          obtain ⟨h, h5⟩ := and3 h
          obtain ⟨h, h4⟩ := and3 h
          obtain ⟨h, h3⟩ := and3 h
          obtain ⟨h1, h2⟩ := and3 h
          cases beq_iff_eq.mp h1
          obtain ⟨s1, s2⟩ := ckEs_stars h4
          have A := (sndA es C (tn := tn) xs hn h4).1
          cases es with
          | nil => cases of_decide_eq_true h5
          | cons e1 r1 =>
            cases xs with
            | nil => cases s2
            | cons x1 xr =>
              refine both C ?_ rfl
              cases b with
              | len => exact snd_len C.blt A s1 (C.gl h2)
              | min => exact snd_min C.blt A s1 (C.calm (by rw [show biFree .min = false from rfl, Bool.or_false] at h6; exact h6)) (C.gl h2)
              | int => exact snd_int C.blt A s1 (C.gl h2)
              | list => exact snd_list C.blt A s1 (C.gl h2)
              | listL => exact snd_listL C.blt A s1 (C.gl h2)
        | cons _ _ => exact Bool.noConfusion (show false = true from h)
      | _ => exact Bool.noConfusion (show false = true from h)
    | _ => exact Bool.noConfusion (show false = true from h)
  | .isi a k, c, X, EX, tn, C, e, hn, h => by
    cases e with
    | Call fn xs ks q =>
      cases fn with
      | Name y q' =>
        match xs, ks, h with
        | [l, r], [], h =>
          obtain ⟨h, h5⟩ := and3 (show ((y == ("isinstance" : Str)) && glB c.sc y && ckE c a l && ckKd c k r && noStar l) = true from h)
          obtain ⟨h, h4⟩ := and3 h
          obtain ⟨h, h3⟩ := and3 h
          obtain ⟨h1, h2⟩ := and3 h
          cases beq_iff_eq.mp h1
          obtain ⟨n1, n2⟩ := need_l hn
          obtain ⟨v, cv, e1, e2, e3, e4⟩ := isi_kd C h4 (fun n e => n1 _ (by subst e; exact List.mem_singleton.mpr rfl))
          exact both C (snd_isi C (snd a C l n2 h3).1 e1 h5 e3 (C.gl h2) e2 e4) rfl
        | [], _, h => exact Bool.noConfusion (show false = true from h)
        | [_], _, h => exact Bool.noConfusion (show false = true from h)
        | _ :: _ :: _ :: _, _, h => exact Bool.noConfusion (show false = true from h)
        | [_, _], _ :: _, h => exact Bool.noConfusion (show false = true from h)
      | _ => exact Bool.noConfusion (show false = true from h)
    | _ => exact Bool.noConfusion (show false = true from h)
  | .isiM a ns, c, X, EX, tn, C, e, hn, h => by
    cases e with
    | Call f xs ks q =>
      cases f with
      | Name x np =>
        match xs, ks, h with
        | [l, r], [], h =>
          obtain ⟨h, h5⟩ := and3 (show ((x == ("isinstance" : Str)) && glB c.sc x && ckE c a l && ckCls c ns r && noStar l) = true from h)
          obtain ⟨h, h4⟩ := and3 h
          obtain ⟨h, h3⟩ := and3 h
          obtain ⟨h1, h2⟩ := and3 h
          cases beq_iff_eq.mp h1
          obtain ⟨n1, n2⟩ := need_l hn
          cases r with
          | Tuple es kt pt =>
            obtain ⟨g1, g2⟩ := and3 (show (ckClsL c ns es && decide (ns.length ≤ 1000)) = true from h4)
            exact both C (snd_isiM C (snd a C l n2 h3).1 h5 (C.gl h2) (fun n hm => n1 _ (List.mem_map.mpr ⟨n, hm, rfl⟩)) g1 (of_decide_eq_true g2)) rfl
          | _ => exact Bool.noConfusion (show false = true from h4)
        | [], _, h => exact Bool.noConfusion (show false = true from h)
        | [_], _, h => exact Bool.noConfusion (show false = true from h)
        | _ :: _ :: _ :: _, _, h => exact Bool.noConfusion (show false = true from h)
        | [_, _], _ :: _, h => exact Bool.noConfusion (show false = true from h)
      | _ => exact Bool.noConfusion (show false = true from h)
    | _ => exact Bool.noConfusion (show false = true from h)
  | .atX a, c, X, EX, tn, C, e, hn, h => by
    cases e with
    | Attribute o name ap =>
      obtain ⟨h, h3⟩ := and3 (show ((name == ("at" : Str)) && ckE c a o && nmB2 o) = true from h)
      obtain ⟨h1, h2⟩ := and3 h
      cases beq_iff_eq.mp h1
      have hb : attributeBase o "at" X.env (eval o X.env) = eval o X.env := by
        cases o <;> first | rfl | exact Bool.noConfusion (show false = true from h3)
      exact both C (snd_atX C (snd a C o (fun n m => hn n (List.mem_cons_of_mem _ m)) h2).1 (hn _ (List.mem_cons_self ..)) hb) rfl
    | _ => exact Bool.noConfusion (show false = true from h)
theorem sndA {p : Px} {lv : Nat} : ∀ (es : Es) {c : CkC} {X : Cx} {EX : EXT} {tn : List Nat} (C : Ct p c lv X EX) (xs : List Expr), (∀ n ∈ es.need, NeedOk p lv X n) → ckEs c es xs = true →
    PA X xs (lEs p EX tn es) ∧ ∀ (k : Bool) (q : Pos), PE X (.BoolOp (if k then .And else .Or) xs q) (lE p EX tn (.bo k es)) ∧ (es.tsts = true → PW X (.BoolOp (if k then .And else .Or) xs q) (lT p EX tn (.bo k es)))
  | .nil, c, X, EX, tn, C, xs, hn, h => by
    cases xs with
    | nil =>
      refine ⟨sndA_nil, fun k q => ⟨fun pins s σ H Q I h => ?_, fun _ wh pins s σ H Q I h => ?_⟩⟩
      · obtain ⟨τ, rfl, hF, j, k', hj, h⟩ := h
        simp only [ev, evBo] at h
        exact (show False from h).elim
      · obtain ⟨τ, rfl, hF, hj, h⟩ := h
        simp only [tv, ev, evBo] at h
        exact (show False from h).elim
    | cons _ _ => exact Bool.noConfusion (show false = true from h)
  | .cons e r, c, X, EX, tn, C, xs, hn, h => by
    cases xs with
    | nil => exact Bool.noConfusion (show false = true from h)
    | cons x xs =>
      obtain ⟨h, h3⟩ := and3 (show (ckE c e x && noStar x && ckEs c r xs) = true from h)
      obtain ⟨h1, h2⟩ := and3 h
      obtain ⟨n1, n2⟩ := need_l hn
      obtain ⟨A1, A2⟩ := snd e C (tn := tn) x n1 h1
      obtain ⟨B1, B2⟩ := sndA r C (tn := tn) xs n2 h3
      refine ⟨sndA_cons A1 B1 (star_of h2), fun k q => ?_⟩
      cases r with
      | nil =>
        cases xs with
        | nil => exact ⟨bo_one A1, fun z => boT_one (A2 (and3 (show (e.tst && true) = true from z)).1)⟩
        | cons _ _ => exact Bool.noConfusion (show false = true from h3)
      | cons e' r' =>
        cases xs with
        | nil => exact Bool.noConfusion (show false = true from h3)
        | cons x' xs' =>
          obtain ⟨C1, C2⟩ := B2 k q
          exact ⟨bo_cons A1 C1, fun z => let ⟨z1, z2⟩ := and3 (show (e.tst && (Es.cons e' r').tsts) = true from z); boT_cons (A2 z1) (C2 z2)⟩
theorem sndI {p : Px} {lv : Nat} : ∀ (it : It) {c : CkC} {X : Cx} {EX : EXT} {tn : List Nat} {tg : Expr} (C : Ct p c lv X EX) (e : Expr), (∀ n ∈ it.need, NeedOk p lv X n) → ckI c tg it e = true → PI X tg e (lI p EX tn it)
  | .seq a, c, X, EX, tn, tg, C, e, hn, h => sndI_seq C.K (snd a C e hn h).1
  | .seqL a, c, X, EX, tn, tg, C, e, hn, h => sndI_seqL C.K (snd a C e hn h).1
  | .r1 a, c, X, EX, tn, tg, C, e, hn, h => by
    cases e with
    | Call fn xs ks q =>
      cases fn with
      | Name y q' =>
        match xs, ks, h with
        | [l], [], h =>
          obtain ⟨h, h4⟩ := and3 (show ((y == ("range" : Str)) && glB c.sc y && ckE c a l && noStar l) = true from h)
          obtain ⟨h, h3⟩ := and3 h
          obtain ⟨h1, h2⟩ := and3 h
          cases beq_iff_eq.mp h1
          exact sndI_r1 (snd a C l hn h3).1 h4 (C.gl h2) (C.blt _ (by simp [bnames]))
        | [], _, h => exact Bool.noConfusion (show false = true from h)
        | _ :: _ :: _, _, h => exact Bool.noConfusion (show false = true from h)
        | [_], _ :: _, h => exact Bool.noConfusion (show false = true from h)
      | _ => exact Bool.noConfusion (show false = true from h)
    | _ => exact Bool.noConfusion (show false = true from h)
  | .en a, c, X, EX, tn, tg, C, e, hn, h => by
    cases e with
    | Call fn xs ks q =>
      cases fn with
      | Name y q' =>
        match xs, ks, h with
        | [l], [], h =>
          obtain ⟨h, h5⟩ := and3 (show ((y == ("enumerate" : Str)) && glB c.sc y && ckE c a l && noStar l && isTup tg) = true from h)
          obtain ⟨h, h4⟩ := and3 h
          obtain ⟨h, h3⟩ := and3 h
          obtain ⟨h1, h2⟩ := and3 h
          cases beq_iff_eq.mp h1
          cases tg with
          | Tuple es k q2 => exact sndI_en C.K (snd a C l hn h3).1 h4 (C.gl h2) (C.blt _ (by simp [bnames]))
          | _ => exact Bool.noConfusion (show false = true from h5)
        | [], _, h => exact Bool.noConfusion (show false = true from h)
        | _ :: _ :: _, _, h => exact Bool.noConfusion (show false = true from h)
        | [_], _ :: _, h => exact Bool.noConfusion (show false = true from h)
      | _ => exact Bool.noConfusion (show false = true from h)
    | _ => exact Bool.noConfusion (show false = true from h)
end
end Pu
end
section
namespace Pu
open PySem PySem.Spec PyProof.Rows PySem.W L2
inductive Md where
  | sh
  | ow (k : Nat)
  | br (k : Nat)
  | dead
  deriving DecidableEq
noncomputable abbrev Ms := List Md
noncomputable def Md.tn : Md → Nat
  | .sh => 0
  | .ow k => k
  | .br k => k
  | .dead => 99
noncomputable def Md.le : Md → Md → Bool
  | _, .dead => true
  | .sh, .sh => true
  | .ow _, .sh => true
  | .ow k, .ow k' => decide (0 < k' ∧ k' ≤ k)
  | .br k, .br k' => decide (k = k')
  | _, _ => false
noncomputable def Md.small : Md → Bool
  | .ow k => decide (0 < k ∧ k < 90)
  | .br k => decide (k < 90)
  | _ => true
noncomputable def Md.meet (a b : Md) : Md := if a = b then a else match a, b with
  | .ow k, .ow k' => if 0 < min k k' then .ow (min k k') else .sh
  | .ow _, .sh => .sh
  | .sh, .ow _ => .sh
  | _, _ => .dead
noncomputable def tnM (m : Ms) : List Nat := m.map Md.tn
theorem tnM_get {m : Ms} {i j : Nat} (h : (tnM m)[i]? = some j) : ∃ d, m[i]? = some d ∧ d.tn = j := by
  unfold tnM at h
  rw [List.getElem?_map] at h
  exact Option.map_eq_some_iff.mp h
theorem tnM_of {m : Ms} {i : Nat} {d : Md} (h : m[i]? = some d) : (tnM m)[i]? = some d.tn := by
  unfold tnM; rw [List.getElem?_map, h]; rfl
noncomputable def Own (m : Ms) (τ : Ft) (a : Addr) : Prop := ∃ (i : Nat) (t : T) (k : Nat), τ[i]? = some (some t) ∧ m[i]? = some (.ow k) ∧ a ∈ t.adr k
noncomputable def Md.low : Md → Nat
  | .sh => 0
  | .ow _ => 0
  | .br k => k
  | .dead => 99
structure Sf (p : Px) (H0 : Hp) (A0 : Addr → Prop) (m : Ms) (τ : Ft) (H : Hp) : Prop where
  len : τ.length = m.length
  small : ∀ d ∈ m, d.small = true
  same : Same H0 H
  ok : Fok p (tnM m) τ H
  own : ∀ (i : Nat) (t : T) (k : Nat) (a : Addr), τ[i]? = some (some t) → m[i]? = some (.ow k) → a ∈ t.adr k → H0 a = none ∧ Mu H a
  src : ∀ a, Sh (tnM m) τ a → H0 a = none ∨ A0 a
  nd : ∀ (i : Nat) (t : T) (k : Nat), τ[i]? = some (some t) → m[i]? = some (.ow k) → t.Nd k
  sep : ∀ (i j : Nat) (t u : T) (k : Nat) (d : Md), i ≠ j → τ[i]? = some (some t) → m[i]? = some (.ow k) → τ[j]? = some (some u) → m[j]? = some d → d ≠ .dead → ∀ a ∈ t.adr k, a ∉ u.rest d.low
  top : ∀ (i j : Nat) (t u : T) (k k2 : Nat), τ[i]? = some (some t) → m[i]? = some (.ow k) → τ[j]? = some (some u) → m[j]? = some (.br k2) → ∀ a ts, t = .lst a ts → a ∉ u.rest 0
section
variable {p : Px} {H0 : Hp} {A0 : Addr → Prop} {m m' : Ms} {τ : Ft} {H H' : Hp}
theorem Sf.at (S : Sf p H0 A0 m τ H) {i : Nat} {t : T} {d : Md} (e : τ[i]? = some (some t)) (h : m[i]? = some d) (hd : d ≠ .dead) : t.Ok p H := by
  refine S.ok i t d.tn e (tnM_of h) ?_
  have := S.small d (List.mem_of_getElem? h)
  cases d with
  | sh => exact (by decide : (0 : Nat) < 90)
  | ow k => exact (of_decide_eq_true this).2
  | br k => exact of_decide_eq_true this
  | dead => exact absurd rfl hd
theorem Sf.ownOk (S : Sf p H0 A0 m τ H) {a : Addr} (o : Own m τ a) : H0 a = none ∧ Mu H a := by
  obtain ⟨i, t, k, e, h, q⟩ := o
  exact S.own i t k a e h q
theorem Sf.disj (S : Sf p H0 A0 m τ H) {a : Addr} (o : Own m τ a) : ¬ Sh (tnM m) τ a := by
  rintro ⟨j, u, jj, e', h', l, q'⟩
  obtain ⟨i, t, k, e, h, q⟩ := o
  obtain ⟨d, hd, rfl⟩ := tnM_get h'
  have hdd : d ≠ .dead := fun z => by subst z; exact absurd l (by decide)
  by_cases z : i = j
  · subst z
    rw [h] at hd; cases hd
    rw [e] at e'
    cases e'
    exact (S.nd i _ k e h).2 a q' q
  · refine S.sep i j t u k d z e h e' hd hdd a q (T.rest_le u ?_ q')
    cases d <;> simp [Md.low, Md.tn]
theorem Sf.grow (S : Sf p H0 A0 m τ H) (s : Same H H') : Sf p H0 A0 m τ H' :=
  ⟨S.len, S.small, S.same.trans s, S.ok.same s, fun i t k a e h q => ⟨(S.own i t k a e h q).1, let ⟨vs, z, mu⟩ := (S.own i t k a e h q).2; ⟨vs, s _ _ z, mu⟩⟩, S.src, S.nd, S.sep, S.top⟩
noncomputable def leM (m m' : Ms) : Bool := decide (m.length = m'.length) && (m.zip m').all fun q => q.1.le q.2
theorem leM_get (h : leM m m' = true) {i : Nat} {d' : Md} (e : m'[i]? = some d') : ∃ d, m[i]? = some d ∧ d.le d' = true := by
  unfold leM at h
  obtain ⟨h1, h2⟩ := and3 h
  have h1 := of_decide_eq_true h1
  have hi : i < m.length := by
    rw [h1]; exact (List.getElem?_eq_some_iff.mp e).1
  refine ⟨m[i], List.getElem?_eq_getElem hi, List.all_eq_true.mp h2 (m[i], d') (mem_zip (List.getElem?_eq_getElem hi) e)⟩
theorem leM_refl {m : Ms} (h : ∀ d ∈ m, d.small = true) : leM m m = true := by
  unfold leM
  simp only [decide_true, Bool.true_and]
  refine List.all_eq_true.mpr fun q hq => ?_
  obtain ⟨i, hi, e⟩ := List.getElem_of_mem hq
  have hi' : i < m.length := by simpa using hi
  have hs := h m[i] (List.getElem_mem hi')
  have : q = (m[i], m[i]) := by rw [← e]; simp
  rw [this]
  generalize m[i] = d at hs
  cases d <;> simp_all [Md.le, Md.small]
theorem Sf.weak (S : Sf p H0 A0 m τ H) (h : leM m m' = true) : Sf p H0 A0 m' τ H := by
  have hl : m.length = m'.length := of_decide_eq_true (and3 (show (decide (m.length = m'.length) && _) = true from h)).1
  have shd : ∀ a, Sh (tnM m') τ a → Sh (tnM m) τ a ∨ Own m τ a := by
    rintro a ⟨i, t, j, e, ej, l, q⟩
    obtain ⟨d', hd', rfl⟩ := tnM_get ej
    obtain ⟨d, hd, le⟩ := leM_get h hd'
    have sm := S.small d (List.mem_of_getElem? hd)
    cases d' with
    | dead => exact absurd l (by decide)
    | sh =>
      cases d with
      | sh => exact .inl ⟨i, t, 0, e, tnM_of hd, by decide, q⟩
      | ow k =>
        rcases (T.all_iff t k).mp q with z | z
        · exact .inr ⟨i, t, k, e, hd, z⟩
        · exact .inl ⟨i, t, k, e, tnM_of hd, (of_decide_eq_true sm).2, z⟩
      | _ => cases le
    | ow k' =>
      cases d with
      | ow k =>
        rcases (T.all_iff t k).mp (T.rest_le t (Nat.zero_le _) q) with z | z
        · exact .inr ⟨i, t, k, e, hd, z⟩
        · exact .inl ⟨i, t, k, e, tnM_of hd, (of_decide_eq_true sm).2, z⟩
      | _ => cases le
    | br k' =>
      cases d with
      | br k =>
        have : k = k' := of_decide_eq_true le
        subst this
        exact .inl ⟨i, t, k, e, tnM_of hd, of_decide_eq_true sm, q⟩
      | _ => cases le
  have ownd : ∀ {i : Nat} {k' : Nat}, m'[i]? = some (.ow k') → ∃ k, m[i]? = some (.ow k) ∧ k' ≤ k := by
    intro i k' hd'
    obtain ⟨d, hd, le⟩ := leM_get h hd'
    cases d with
    | ow k => exact ⟨k, hd, (of_decide_eq_true le).2⟩
    | _ => cases le
  refine ⟨S.len.trans hl, fun d' hd' => ?_, S.same, fun i t j e ej l => ?_, fun i t k' a e hk q => ?_, fun a sh => ?_, fun i t k' e hk => ?_, fun i j t u k' d' ne e hk e' hd' nd a q => ?_, fun i j t u k' k2 e hk e' hd' a ts z => ?_⟩
  · obtain ⟨i, hi, rfl⟩ := List.getElem_of_mem hd'
    obtain ⟨d, hd, le⟩ := leM_get h (List.getElem?_eq_getElem hi)
    have sm := S.small d (List.mem_of_getElem? hd)
    generalize m'[i] = d' at le
    cases d' <;> cases d <;> simp_all [Md.le, Md.small] <;> omega
  · obtain ⟨d', hd', rfl⟩ := tnM_get ej
    obtain ⟨d, hd, le⟩ := leM_get h hd'
    refine S.at e hd fun z => ?_
    subst z
    cases d' <;> first | exact absurd l (by decide) | cases le
  · obtain ⟨k, hd, le⟩ := ownd hk
    exact S.own i t k a e hd (T.adr_le t le q)
  · rcases shd a sh with z | z
    · exact S.src a z
    · exact .inl (S.ownOk z).1
  · obtain ⟨k, hd, le⟩ := ownd hk
    exact T.nd_le t le (S.nd i t k e hd)
  · obtain ⟨k, hd, le⟩ := ownd hk
    obtain ⟨d, hdj, lj⟩ := leM_get h hd'
    have hdd : d ≠ .dead := fun z => by subst z; cases d' <;> first | exact nd rfl | cases lj
    refine fun q' => S.sep i j t u k d ne e hd e' hdj hdd a (T.adr_le t le q) (T.rest_le u ?_ q')
    cases d' <;> cases d <;> first | exact Nat.zero_le _ | (cases lj; done) | exact absurd rfl nd | skip
    exact Nat.le_of_eq (of_decide_eq_true lj)
  · obtain ⟨k, hd, le⟩ := ownd hk
    obtain ⟨d, hdj, lj⟩ := leM_get h hd'
    cases d with
    | br k3 => exact S.top i j t u k k3 e hd e' hdj a ts z
    | _ => cases lj
noncomputable def up (l : List Nat) : List Nat := l ++ l.map (· + 1000)
theorem vτ_ne {τ : Ft} {x i : Nat} {s : Option T} (h : i ≠ x) : (vτ (τ.set x s))[i]? = (vτ τ)[i]? := by
  unfold vτ
  rw [List.getElem?_map, List.getElem?_map, List.getElem?_set_ne (Ne.symm h)]
theorem vτ_eq {τ τ' : Ft} {i : Nat} (h : τ'[i]? = τ[i]?) : (vτ τ')[i]? = (vτ τ)[i]? := by
  unfold vτ
  rw [List.getElem?_map, List.getElem?_map, h]
theorem ne_of_up {x i : Nat} {l : List Nat} (h : i + 1000 ∉ x :: (x + 1000) :: l) : i ≠ x := fun z => h (by rw [z]; exact List.mem_cons_of_mem _ (List.mem_cons_self ..))
theorem nup {i : Nat} {l : List Nat} (h : i + 1000 ∉ up l) : i ∉ l := fun z => h (List.mem_append_right _ (List.mem_map.mpr ⟨i, z, rfl⟩))
theorem vτ_put (τ : Ft) (x : Nat) (t : T) : vτ (τ.set x (some t)) = (vτ τ).set x (some t.val) := by
  unfold vτ
  rw [List.map_set]; rfl
theorem vτ_sm {τ : Ft} {x : Nat} {t t' : T} (h : τ[x]? = some (some t)) (e : t'.val = t.val) : vτ (τ.set x (some t')) = vτ τ := by
  rw [vτ_put, e]
  refine List.ext_getElem? fun i => ?_
  by_cases z : x = i
  · subst z
    rw [List.getElem?_set_self', vτ_get h]; rfl
  · rw [List.getElem?_set_ne z]
theorem two_in {i x y : Nat} {l : List Nat} (h : i ∈ [x, y]) : i ∈ x :: y :: l := by
  rcases List.mem_cons.mp h with e | e
  · rw [e]; exact List.mem_cons_self ..
  · rw [List.mem_singleton.mp e]; exact List.mem_cons_of_mem _ (List.mem_cons_self ..)
structure Stp (m m' : Ms) (w0 : List Nat) (τ τ' : Ft) (H H' : Hp) : Prop where
  keep : ∀ a u, H a = some u → ¬ Own m τ a → H' a = some u
  grow : ∀ a, Own m' τ' a → Own m τ a ∨ H a = none
  wr : ∀ i, i ∉ w0 → τ'[i]? = τ[i]?
  ad : ∀ i, i + 1000 ∉ w0 → (vτ τ')[i]? = (vτ τ)[i]?
theorem Own.weak (h : leM m m' = true) {a : Addr} (o : Own m' τ a) : Own m τ a := by
  obtain ⟨i, t, k, e, hk, q⟩ := o
  obtain ⟨d, hd, le⟩ := leM_get h hk
  cases d with
  | ow k2 => exact ⟨i, t, k2, e, hd, T.adr_le t (of_decide_eq_true le).2 q⟩
  | _ => cases le
theorem Stp.refl (wr : List Nat) (h : leM m m' = true) (s : Same H H') : Stp m m' wr τ τ H H' := ⟨fun a u e _ => s a u e, fun a o => .inl (o.weak h), fun _ _ => rfl, fun _ _ => rfl⟩
theorem Stp.trans {m1 m2 m3 : Ms} {w1 w2 : List Nat} {τ1 τ2 τ3 : Ft} {H1 H2 H3 : Hp} (a : Stp m1 m2 w1 τ1 τ2 H1 H2) (b : Stp m2 m3 w2 τ2 τ3 H2 H3) : Stp m1 m3 (w1 ++ w2) τ1 τ3 H1 H3 := by
  refine ⟨fun x u e n => b.keep x u (a.keep x u e n) fun o => ?_, fun x o => ?_, fun i hi => ?_, fun i hi => (b.ad i fun h => hi (List.mem_append_right _ h)).trans (a.ad i fun h => hi (List.mem_append_left _ h))⟩
  · rcases a.grow x o with z | z
    · exact n z
    · rw [e] at z; cases z
  · rcases b.grow x o with z | z
    · exact a.grow x z
    · cases q : H1 x with
      | none => exact .inr rfl
      | some u =>
        refine .inl (Classical.byContradiction fun n => ?_)
        rw [a.keep x u q n] at z; cases z
  · rw [b.wr i (fun h => hi (List.mem_append_right _ h)), a.wr i (fun h => hi (List.mem_append_left _ h))]
theorem Stp.mono {w1 w2 : List Nat} {τ' : Ft} (a : Stp m m' w1 τ τ' H H') (h : ∀ i ∈ w1, i ∈ w2) : Stp m m' w2 τ τ' H H' := ⟨a.keep, a.grow, fun i hi => a.wr i fun q => hi (h i q), fun i hi => a.ad i fun q => hi (h _ q)⟩
end
end Pu
end
section
namespace Pu
open PySem PySem.Spec PyProof.Rows PySem.W L2
noncomputable def mdK (k : Nat) : Md := if k = 0 then .sh else .ow k
theorem mdK_ow {k k' : Nat} (h : mdK k = .ow k') : k' = k ∧ k ≠ 0 := by unfold mdK at h; split at h <;> simp_all
theorem mdK_br {k k' : Nat} (h : mdK k = .br k') : False := by unfold mdK at h; split at h <;> simp_all
section
variable {p : Px} {H0 : Hp} {A0 : Addr → Prop} {m m' : Ms} {τ : Ft} {H H1 : Hp}
theorem set_get {α : Type} {l : List α} {x i : Nat} {v w : α} (h : (l.set x v)[i]? = some w) : (i = x ∧ w = v) ∨ (i ≠ x ∧ l[i]? = some w) := by
  by_cases z : x = i
  · subst z
    rw [List.getElem?_set_self'] at h
    cases q : l[x]? with
    | none => rw [q] at h; cases h
    | some y =>
      rw [q] at h
      exact .inl ⟨rfl, by simpa using h.symm⟩
  · rw [List.getElem?_set_ne z] at h
    exact .inr ⟨fun e => z e.symm, h⟩
theorem sf_asg {x k ke : Nat} {t : T} (S : Sf p H0 A0 m τ H) (R : Rs p (Sh (tnM m) τ) H H1 0 ke t) (hk : k ≤ ke) (hx : x < m.length) (h90 : k < 90) : Sf p H0 A0 (m.set x (mdK k)) (τ.set x (some t)) H1 ∧ Stp m (m.set x (mdK k)) [x, x + 1000] τ (τ.set x (some t)) H H1 := by
  have S1 := S.grow R.same
  have dom : ∀ {i : Nat} {u : T} {d : Md}, τ[i]? = some (some u) → m[i]? = some d → d ≠ .dead → ∀ a ∈ u.rest 0, H a ≠ none := fun e hd nd a q => (S.at e hd nd).dom q
  have tnew : ∀ a ∈ t.adr k, H a = none := fun a q => (R.new a (T.adr_le t hk q)).1
  have town : ∀ a, Own m τ a → a ∉ t.rest 0 := fun a o q => by
    rcases R.src a q with z | z
    · obtain ⟨_, vs, e, mu⟩ := S.ownOk o
      rw [e] at z; cases z
    · exact S.disj o z
  have owns : ∀ a, Own (m.set x (mdK k)) (τ.set x (some t)) a → a ∈ t.adr k ∨ Own m τ a := by
    rintro a ⟨i, u, k', e, hk', q⟩
    rcases set_get e with ⟨rfl, e2⟩ | ⟨ne, e⟩
    · cases e2
      rcases set_get hk' with ⟨_, z⟩ | ⟨z, _⟩
      · obtain ⟨rfl, _⟩ := mdK_ow z.symm
        exact .inl q
      · exact absurd rfl z
    · rcases set_get hk' with ⟨z, _⟩ | ⟨_, z⟩
      · exact absurd z ne
      · exact .inr ⟨i, u, k', e, z, q⟩
  refine ⟨⟨by rw [List.length_set, List.length_set]; exact S.len, fun d hd => ?_, S1.same, fun i u j e ej l => ?_, fun i u k' a e hk' q => ?_, fun a sh => ?_, fun i u k' e hk' => ?_, fun i j u w k' d ne e hk' e' hd nd a q => ?_, fun i j u w k' k2 e hk' e' hd a ts z => ?_⟩,
    fun a u e _ => R.same a u e, fun a o => ?_, fun i hi => ?_, fun i hi => vτ_ne (ne_of_up hi)⟩
  · rcases List.mem_or_eq_of_mem_set hd with z | z
    · exact S.small d z
    · subst z
      unfold mdK
      split
      · rfl
      · exact decide_eq_true ⟨by omega, h90⟩
  · obtain ⟨d, hd, rfl⟩ := tnM_get ej
    rcases set_get e with ⟨rfl, e2⟩ | ⟨ne, e⟩
    · cases e2; exact R.ok
    · rcases set_get hd with ⟨z, _⟩ | ⟨_, z⟩
      · exact absurd z ne
      · exact S1.ok i u _ e (tnM_of z) l
  · rcases set_get e with ⟨rfl, e2⟩ | ⟨ne, e⟩
    · cases e2
      rcases set_get hk' with ⟨_, z⟩ | ⟨z, _⟩
      · obtain ⟨rfl, _⟩ := mdK_ow z.symm
        have := R.new a (T.adr_le _ hk q)
        exact ⟨S.same.free this.1, this.2⟩
      · exact absurd rfl z
    · rcases set_get hk' with ⟨z, _⟩ | ⟨_, z⟩
      · exact absurd z ne
      · exact S1.own i u k' a e z q
  · obtain ⟨i, u, j, e, ej, l, q⟩ := sh
    obtain ⟨d, hd, rfl⟩ := tnM_get ej
    rcases set_get e with ⟨rfl, e2⟩ | ⟨ne, e⟩
    · cases e2
      rcases R.src a (T.rest_le _ (Nat.zero_le _) q) with z | z
      · exact .inl (S.same.free z)
      · exact S.src a z
    · rcases set_get hd with ⟨z, _⟩ | ⟨_, z⟩
      · exact absurd z ne
      · exact S.src a ⟨i, u, _, e, tnM_of z, l, q⟩
  · rcases set_get e with ⟨rfl, e2⟩ | ⟨ne, e⟩
    · cases e2
      rcases set_get hk' with ⟨_, z⟩ | ⟨z, _⟩
      · obtain ⟨rfl, _⟩ := mdK_ow z.symm
        exact T.nd_le _ hk R.nd
      · exact absurd rfl z
    · rcases set_get hk' with ⟨z, _⟩ | ⟨_, z⟩
      · exact absurd z ne
      · exact S.nd i u k' e z
  · rcases set_get e with ⟨rfl, e2⟩ | ⟨n1, e1⟩
    · cases e2
      rcases set_get hk' with ⟨_, z⟩ | ⟨z, _⟩
      · obtain ⟨rfl, _⟩ := mdK_ow z.symm
        rcases set_get e' with ⟨z', _⟩ | ⟨n2, e3⟩
        · exact absurd z'.symm ne
        · rcases set_get hd with ⟨z', _⟩ | ⟨_, hd3⟩
          · exact absurd z' n2
          · exact fun q' => dom e3 hd3 nd a (T.rest_le w (Nat.zero_le _) q') (tnew a q)
      · exact absurd rfl z
    · rcases set_get hk' with ⟨z, _⟩ | ⟨_, hk3⟩
      · exact absurd z n1
      · rcases set_get e' with ⟨z4, e2⟩ | ⟨n2, e3⟩
        · cases e2
          exact fun q' => town a ⟨i, u, k', e1, hk3, q⟩ (T.rest_le _ (Nat.zero_le _) q')
        · rcases set_get hd with ⟨z, _⟩ | ⟨_, hd3⟩
          · exact absurd z n2
          · exact S.sep i j u w k' d ne e1 hk3 e3 hd3 nd a q
  · rcases set_get hd with ⟨_, z'⟩ | ⟨n2, hd3⟩
    · exact (mdK_br z'.symm).elim
    · rcases set_get e' with ⟨z', _⟩ | ⟨_, e3⟩
      · exact absurd z' n2
      · rcases set_get e with ⟨z4, e2⟩ | ⟨n1, e1⟩
        · cases e2
          rcases set_get hk' with ⟨_, z'⟩ | ⟨z', _⟩
          · obtain ⟨z5, hk0⟩ := mdK_ow z'.symm
            subst z
            have mem : a ∈ (T.lst a ts).adr k := by
              cases k with
              | zero => exact absurd rfl hk0
              | succ n => exact List.mem_cons_self ..
            exact fun q' => dom e3 hd3 (by intro c; cases c) a q' (tnew a mem)
          · exact absurd z4 z'
        · rcases set_get hk' with ⟨z', _⟩ | ⟨_, hk3⟩
          · exact absurd z' n1
          · exact S.top i j u w k' k2 e1 hk3 e3 hd3 a ts z
  · rcases owns a o with z | z
    · exact .inr (tnew a z)
    · exact .inl z
  · rw [List.getElem?_set_ne (fun z => hi (by simp [z]))]
noncomputable def setAll (m : Ms) (is : List Nat) (d : Md) : Ms := is.foldl (fun m i => m.set i d) m
theorem setAll_length (d : Md) : ∀ (is : List Nat) (m : Ms), (setAll m is d).length = m.length
  | [], m => rfl
  | i :: is, m => by show (setAll (m.set i d) is d).length = _; rw [setAll_length d is, List.length_set]
theorem setAll_get {d d' : Md} : ∀ {is : List Nat} {m : Ms} {i : Nat}, (setAll m is d)[i]? = some d' → (i ∈ is ∧ d' = d) ∨ (i ∉ is ∧ m[i]? = some d')
  | [], m, i, h => .inr ⟨by simp, h⟩
  | j :: is, m, i, h => by
    rcases setAll_get (is := is) (m := m.set j d) h with ⟨z1, z2⟩ | ⟨z1, z2⟩
    · exact .inl ⟨List.mem_cons_of_mem _ z1, z2⟩
    · rcases set_get z2 with ⟨rfl, e⟩ | ⟨ne, e⟩
      · exact .inl ⟨List.mem_cons_self .., e⟩
      · exact .inr ⟨fun q => by rcases List.mem_cons.mp q with q | q; exact ne q; exact z1 q, e⟩
theorem asgAllT_keep : ∀ {is : List Nat} {ts : List T} {τ τ' : Ft} {i : Nat}, asgAllT is ts τ = some τ' → i ∉ is → τ'[i]? = τ[i]?
  | [], [], τ, τ', i, h, _ => by cases h; rfl
  | [], t :: ts, τ, τ', i, h, _ => by cases h
  | j :: is, [], τ, τ', i, h, _ => by cases h
  | j :: is, t :: ts, τ, τ', i, h, hi => by
    rw [asgAllT_keep (is := is) (ts := ts) (τ := τ.set j (some t)) h (fun q => hi (List.mem_cons_of_mem _ q)), List.getElem?_set_ne (fun z => hi (by simp [z]))]
theorem asgTgT_keep {g : Tg} {t : T} {τ τ' : Ft} {i : Nat} (h : asgTgT g t τ = some τ') (hi : i ∉ g.sl) : τ'[i]? = τ[i]? := by
  cases g with
  | nm k => cases h; rw [List.getElem?_set_ne (fun z => hi (by simp [Tg.sl, z]))]
  | tp is => cases t <;> first | cases h | exact asgAllT_keep h hi
theorem sf_many {is : List Nat} {τ' : Ft} (S : Sf p H0 A0 m τ H) (s : Same H H1) (hlen : τ'.length = τ.length) (hin : ∀ (i : Nat) (u : T), i ∈ is → τ'[i]? = some (some u) → u.Ok p H1 ∧ ∀ a ∈ u.rest 0, (H0 a = none ∨ A0 a) ∧ ¬ Own m τ a) (hout : ∀ i, i ∉ is → τ'[i]? = τ[i]?) :
    Sf p H0 A0 (setAll m is .sh) τ' H1 ∧ Stp m (setAll m is .sh) (up is) τ τ' H H1 := by
  have S1 := S.grow s
  have both : ∀ {i : Nat} {u : T} {d : Md}, τ'[i]? = some (some u) → (setAll m is .sh)[i]? = some d → (d = .sh ∧ u.Ok p H1 ∧ ∀ a ∈ u.rest 0, (H0 a = none ∨ A0 a) ∧ ¬ Own m τ a) ∨ (τ[i]? = some (some u) ∧ m[i]? = some d) := by
    intro i u d e hd
    rcases setAll_get hd with ⟨z1, z2⟩ | ⟨z1, z2⟩
    · exact .inl ⟨z2, hin i u z1 e⟩
    · exact .inr ⟨(hout i z1) ▸ e, z2⟩
  have town : ∀ {u : T}, (∀ a ∈ u.rest 0, (H0 a = none ∨ A0 a) ∧ ¬ Own m τ a) → ∀ a, Own m τ a → a ∉ u.rest 0 := fun src a o q => (src a q).2 o
  refine ⟨⟨by rw [hlen, setAll_length]; exact S.len, fun d hd => ?_, S1.same, fun i u j e ej l => ?_, fun i u k' a e hk' q => ?_, fun a sh => ?_, fun i u k' e hk' => ?_, fun i j u w k' d ne e hk' e' hd nd a q => ?_, fun i j u w k' k2 e hk' e' hd a ts z => ?_⟩,
    fun a u e _ => s a u e, fun a o => ?_, fun i hi => hout i fun z => hi (List.mem_append_left _ z), fun i hi => vτ_eq (hout i (nup hi))⟩
  · obtain ⟨i, hi, rfl⟩ := List.getElem_of_mem hd
    rcases setAll_get (List.getElem?_eq_getElem hi) with ⟨_, z⟩ | ⟨_, z⟩
    · rw [z]; rfl
    · exact S.small _ (List.mem_of_getElem? z)
  · obtain ⟨d, hd, rfl⟩ := tnM_get ej
    rcases both e hd with ⟨_, q, _⟩ | ⟨q1, q2⟩
    · exact q
    · exact S1.ok i u _ q1 (tnM_of q2) l
  · rcases both e hk' with ⟨z, _⟩ | ⟨q1, q2⟩
    · cases z
    · exact S1.own i u k' a q1 q2 q
  · obtain ⟨i, u, j, e, ej, l, q⟩ := sh
    obtain ⟨d, hd, rfl⟩ := tnM_get ej
    rcases both e hd with ⟨_, _, q'⟩ | ⟨q1, q2⟩
    · exact (q' a (T.rest_le u (Nat.zero_le _) q)).1
    · exact S.src a ⟨i, u, _, q1, tnM_of q2, l, q⟩
  · rcases both e hk' with ⟨z, _⟩ | ⟨q1, q2⟩
    · cases z
    · exact S.nd i u k' q1 q2
  · rcases both e hk' with ⟨z, _⟩ | ⟨q1, q2⟩
    · cases z
    · rcases both e' hd with ⟨_, _, q'⟩ | ⟨q3, q4⟩
      · exact fun q5 => town q' a ⟨i, u, k', q1, q2, q⟩ (T.rest_le w (Nat.zero_le _) q5)
      · exact S.sep i j u w k' d ne q1 q2 q3 q4 nd a q
  · rcases both e hk' with ⟨z, _⟩ | ⟨q1, q2⟩
    · cases z
    · rcases both e' hd with ⟨z', _⟩ | ⟨q3, q4⟩
      · cases z'
      · exact S.top i j u w k' k2 q1 q2 q3 q4 a ts z
  · obtain ⟨i, u, k', e, hk', q⟩ := o
    rcases both e hk' with ⟨z, _⟩ | ⟨q1, q2⟩
    · cases z
    · exact .inl ⟨i, u, k', q1, q2, q⟩
theorem Sf.fine (S : Sf p H0 A0 m τ H) {a : Addr} (h : H a = none ∨ Sh (tnM m) τ a) : (H0 a = none ∨ A0 a) ∧ ¬ Own m τ a := by
  rcases h with z | z
  · refine ⟨.inl (S.same.free z), fun o => ?_⟩
    obtain ⟨_, vs, e, mu⟩ := S.ownOk o
    rw [e] at z; cases z
  · exact ⟨S.src a z, fun o => S.disj o z⟩
theorem sf_tg0 {g : Tg} {t : T} {τ' : Ft} (S : Sf p H0 A0 m τ H) (s : Same H H1) (ok : t.Ok p H1) (src : ∀ a ∈ t.rest 0, (H0 a = none ∨ A0 a) ∧ ¬ Own m τ a) (h : asgTgT g t τ = some τ') : Sf p H0 A0 (setAll m g.sl .sh) τ' H1 ∧ Stp m (setAll m g.sl .sh) (up g.sl) τ τ' H H1 := by
  refine sf_many S s (asgTgT_length h) (fun i u hi e => ?_) (fun i hi => asgTgT_keep h hi)
  rcases asgTgT_get (P := fun o => ∀ w, o = some w → w.Ok p H1 ∧ ∀ a ∈ w.rest 0, (H0 a = none ∨ A0 a) ∧ ¬ Own m τ a) h (fun w e => by cases e; exact ⟨ok, src⟩)
      (fun a ts e u hu w e' => by
        cases e'
        rcases e with e | e
        · subst e
          exact ⟨T.oks_iff.mp ok.2 u hu, fun b q => src b (T.mem_rests.mpr ⟨u, hu, q⟩)⟩
        · subst e
          exact ⟨T.oks_iff.mp ok.2 u hu, fun b q => src b (List.mem_cons_of_mem _ (T.mem_rests.mpr ⟨u, hu, q⟩))⟩) i (some u) e with q | ⟨q, _⟩
  · exact q u rfl
  · exact absurd hi q
end
end Pu
end
section
namespace Pu
open PySem PySem.Spec PyProof.Rows PySem.W L2
noncomputable def subT : List (Bool × Int) → T → Option T
  | [], t => some t
  | (false, i) :: r, .lst _ ts => (ixN ts.length i).bind fun j => (ts[j]?).bind fun t => subT r t
  | (true, i) :: r, .tup _ ts => (ixN ts.length i).bind fun j => (ts[j]?).bind fun t => subT r t
  | _, _ => none
noncomputable def putT (s : T) : List (Bool × Int) → T → Option T
  | [], _ => some s
  | (false, i) :: r, .lst a ts => (ixN ts.length i).bind fun j => (ts[j]?).bind fun t => (putT s r t).map fun t' => .lst a (ts.set j t')
  | (true, i) :: r, .tup a ts => (ixN ts.length i).bind fun j => (ts[j]?).bind fun t => (putT s r t).map fun t' => .tup a (ts.set j t')
  | _, _ => none
noncomputable def lnP : List (Bool × Int) → Nat
  | [] => 0
  | (false, _) :: r => lnP r + 1
  | (true, _) :: r => lnP r
theorem set_split {α : Type} {l : List α} {j : Nat} {x : α} (h : l[j]? = some x) : ∃ l1 l2, l = l1 ++ x :: l2 ∧ ∀ y, l.set j y = l1 ++ y :: l2 := by
  obtain ⟨hj, e⟩ := List.getElem?_eq_some_iff.mp h
  refine ⟨l.take j, l.drop (j + 1), ?_, fun y => ?_⟩
  · rw [← e, List.getElem_cons_drop, List.take_append_drop]
  · rw [List.set_eq_take_append_cons_drop, if_pos hj]
theorem nds_mid {l1 l2 : List T} {c : T} {k : Nat} : T.Nds (l1 ++ c :: l2) k ↔ T.Nds (l1 ++ l2) k ∧ c.Nd k ∧ (∀ a ∈ c.adr k, a ∉ T.rests (l1 ++ l2) 0) ∧ (∀ a ∈ T.adrs (l1 ++ l2) k, a ∉ c.rest 0) := by
  induction l1 with
  | nil =>
    rw [List.nil_append, List.nil_append, T.nds_cons]
    exact ⟨fun ⟨a, b, c, d⟩ => ⟨b, a, c, d⟩, fun ⟨b, a, c, d⟩ => ⟨a, b, c, d⟩⟩
  | cons x l1 ih =>
    rw [List.cons_append, List.cons_append, T.nds_cons, T.nds_cons, ih]
    simp only [T.rests_append, T.adrs_append, T.rests, T.adrs, List.mem_append, not_or]
    constructor
    · rintro ⟨h1, ⟨h2, h3, h4, h5⟩, h6, h7⟩
      refine ⟨⟨h1, h2, fun a q => ⟨(h6 a q).1, (h6 a q).2.2⟩, fun a q => h7 a ?_⟩, h3, fun a q => ⟨fun z => h7 a (.inr (.inl q)) z, h4 a q⟩, fun a q => ?_⟩
      · rcases q with q | q
        · exact .inl q
        · exact .inr (.inr q)
      · rcases q with q | q
        · exact (h6 a q).2.1
        · exact h5 a q
    · rintro ⟨⟨h1, h2, h6, h7⟩, h3, h4, h5⟩
      refine ⟨h1, ⟨h2, h3, fun a q => (h4 a q).2, fun a q => h5 a (.inr q)⟩, fun a q => ⟨(h6 a q).1, h5 a (.inl q), (h6 a q).2⟩, fun a q => ?_⟩
      rcases q with q | q | q
      · exact h7 a (.inl q)
      · exact (h4 a q).1
      · exact h7 a (.inr q)
section
variable {p : Px}
theorem sub_in : ∀ (q : List (Bool × Int)) {t s : T} {k : Nat}, subT q t = some s → lnP q ≤ k → (∀ b ∈ s.rest 0, b ∈ t.rest 0) ∧ (∀ b ∈ s.adr (k - lnP q), b ∈ t.adr k)
  | [], t, s, k, h, _ => by cases h; exact ⟨fun b q => q, fun b q => q⟩
  | (false, i) :: r, .lst a ts, s, k, h, hl => by
    simp only [subT] at h
    obtain ⟨j, _, h⟩ := Option.bind_eq_some_iff.mp h
    obtain ⟨c, hc, h⟩ := Option.bind_eq_some_iff.mp h
    cases k with
    | zero => simp [lnP] at hl
    | succ k =>
      obtain ⟨h1, h2⟩ := sub_in r (k := k) h (by simp [lnP] at hl; exact hl)
      refine ⟨fun b q => List.mem_cons_of_mem _ (T.mem_rests.mpr ⟨c, List.mem_of_getElem? hc, h1 b q⟩), fun b q => List.mem_cons_of_mem _ (T.mem_adrs.mpr ⟨c, List.mem_of_getElem? hc, h2 b ?_⟩)⟩
      have : k + 1 - lnP ((false, i) :: r) = k - lnP r := by simp only [lnP]; omega
      rw [this] at q; exact q
  | (true, i) :: r, .tup a ts, s, k, h, hl => by
    simp only [subT] at h
    obtain ⟨j, _, h⟩ := Option.bind_eq_some_iff.mp h
    obtain ⟨c, hc, h⟩ := Option.bind_eq_some_iff.mp h
    obtain ⟨h1, h2⟩ := sub_in r (k := k) h hl
    exact ⟨fun b q => T.mem_rests.mpr ⟨c, List.mem_of_getElem? hc, h1 b q⟩, fun b q => T.mem_adrs.mpr ⟨c, List.mem_of_getElem? hc, h2 b q⟩⟩
  | (false, i) :: r, .tup a ts, s, k, h, _ => by cases h
  | (true, i) :: r, .lst a ts, s, k, h, _ => by cases h
  | (b, i) :: r, .non, s, k, h, _ => by cases b <;> cases h
  | (b, i) :: r, .bl _, s, k, h, _ => by cases b <;> cases h
  | (b, i) :: r, .int _, s, k, h, _ => by cases b <;> cases h
  | (b, i) :: r, .str _, s, k, h, _ => by cases b <;> cases h
  | (b, i) :: r, .exn _ _, s, k, h, _ => by cases b <;> cases h
  | (b, i) :: r, .dic _ _ _, s, k, h, _ => by cases b <;> cases h
  | (b, i) :: r, .dit _ _ _, s, k, h, _ => by cases b <;> cases h
theorem mid_ok {l1 l2 : List T} {c c' : T} {k : Nat} {F N : Addr → Prop} (hFN : ∀ b, F b → N b) (nds : T.Nds (l1 ++ c :: l2) k) (nd' : c'.Nd k) (hA : ∀ b ∈ c'.adr k, b ∈ c.adr k ∨ F b) (hB : ∀ b ∈ c'.rest k, b ∈ c.rest k ∨ N b) (hF : ∀ b, F b → b ∉ T.rests (l1 ++ c :: l2) 0) (hN : ∀ b, N b → b ∉ T.adrs (l1 ++ c :: l2) k) :
    T.Nds (l1 ++ c' :: l2) k ∧ (∀ b ∈ T.adrs (l1 ++ c' :: l2) k, b ∈ T.adrs (l1 ++ c :: l2) k ∨ F b) ∧ (∀ b ∈ T.rests (l1 ++ c' :: l2) k, b ∈ T.rests (l1 ++ c :: l2) k ∨ N b) := by
  obtain ⟨m1, m2, m3, m4⟩ := nds_mid.mp nds
  have inm : ∀ b, b ∈ T.rests (l1 ++ l2) 0 → b ∈ T.rests (l1 ++ c :: l2) 0 := fun b q => by
    simp only [T.rests_append, T.rests, List.mem_append] at q ⊢
    rcases q with q | q
    · exact .inl q
    · exact .inr (.inr q)
  have ina : ∀ b, b ∈ T.adrs (l1 ++ l2) k → b ∈ T.adrs (l1 ++ c :: l2) k := fun b q => by
    simp only [T.adrs_append, T.adrs, List.mem_append] at q ⊢
    rcases q with q | q
    · exact .inl q
    · exact .inr (.inr q)
  have cm : ∀ b, b ∈ c.adr k → b ∈ T.adrs (l1 ++ c :: l2) k := fun b q => by
    simp only [T.adrs_append, T.adrs, List.mem_append]
    exact .inr (.inl q)
  refine ⟨nds_mid.mpr ⟨m1, nd', fun b q q' => ?_, fun b q q' => ?_⟩, fun b q => ?_, fun b q => ?_⟩
  · rcases hA b q with z | z
    · exact m3 b z q'
    · exact hF b z (inm b q')
  · rcases (T.all_iff c' k).mp q' with z | z
    · rcases hA b z with y | y
      · exact m4 b q ((T.all_iff c k).mpr (.inl y))
      · exact hN b (hFN b y) (ina b q)
    · rcases hB b z with y | y
      · exact m4 b q ((T.all_iff c k).mpr (.inr y))
      · exact hN b y (ina b q)
  · simp only [T.adrs_append, T.adrs, List.mem_append] at q ⊢
    rcases q with q | q | q
    · exact .inl (.inl q)
    · exact (hA b q).imp (fun z => .inr (.inl z)) id
    · exact .inl (.inr (.inr q))
  · simp only [T.rests_append, T.rests, List.mem_append] at q ⊢
    rcases q with q | q | q
    · exact .inl (.inl q)
    · exact (hB b q).imp (fun z => .inr (.inl z)) id
    · exact .inl (.inr (.inr q))
theorem keep_ok {H H' : Hp} {a : Addr} {t : T} (hkeep : ∀ b w, H b = some w → b ≠ a → H' b = some w) (hpl : Mu H a) (ok : t.Ok p H) (hn : a ∉ t.rest 0) : t.Ok p H' := by
  refine ok.keep fun b w e q => hkeep b w e fun z => ?_
  subst z
  rcases q with q | q
  · exact hn q
  · obtain ⟨vs, z, mu⟩ := hpl
    rw [z] at e
    cases e
    rw [mu] at q; cases q
theorem put_ok {H H' : Hp} {a : Addr} {ts us : List T} {F N : Addr → Prop} (hkeep : ∀ b w, H b = some w → b ≠ a → H' b = some w) (hpl : Mu H a) (hs : (T.lst a us).Ok p H') (hFN : ∀ b, F b → N b) :
    ∀ (q : List (Bool × Int)) {t : T} {k : Nat}, subT q t = some (.lst a ts) → lnP q < k → t.Nd k → t.Ok p H → (∀ b, F b → b ∉ t.rest 0) → (∀ b, N b → b ∉ t.adr k) → (∀ b ∈ T.adrs us (k - 1 - lnP q), b ∈ T.adrs ts (k - 1 - lnP q) ∨ F b) →
      (∀ b ∈ T.rests us (k - 1 - lnP q), b ∈ T.rests ts (k - 1 - lnP q) ∨ N b) → T.Nds us (k - 1 - lnP q) →
      ∃ t', putT (.lst a us) q t = some t' ∧ t'.val = t.val ∧ t'.Ok p H' ∧ t'.Nd k ∧ (∀ b ∈ t'.adr k, b ∈ t.adr k ∨ F b) ∧ (∀ b ∈ t'.rest k, b ∈ t.rest k ∨ N b)
  | [], t, k, h, hl, nd, ok, hF, hN, hA, hB, hnd => by
    cases h
    cases k with
    | zero => cases hl
    | succ k =>
      have e : k + 1 - 1 - lnP [] = k := by simp [lnP]
      rw [e] at hA hB hnd
      obtain ⟨n1, n2⟩ := nd
      simp only [T.adr, List.nodup_cons] at n1
      refine ⟨_, rfl, rfl, hs, ⟨?_, fun b m m' => ?_⟩, fun b m => ?_, fun b m => hB b m⟩
      · simp only [T.adr, List.nodup_cons]
        refine ⟨fun m => ?_, hnd.1⟩
        rcases hA a m with z | z
        · exact n1.1 z
        · exact hF a z (List.mem_cons_self ..)
      · simp only [T.adr, T.rest, List.mem_cons] at m m'
        rcases m' with rfl | m'
        · rcases hB b m with z | z
          · exact n2 b z (List.mem_cons_self ..)
          · exact hN b z (List.mem_cons_self ..)
        · exact hnd.2 b m m'
      · simp only [T.adr, List.mem_cons] at m ⊢
        rcases m with m | m
        · exact .inl (.inl m)
        · exact (hA b m).imp .inr id
  | (false, i) :: r, .lst b0 cs, k, h, hl, nd, ok, hF, hN, hA, hB, hnd => by
    simp only [subT] at h
    obtain ⟨j, hj, h⟩ := Option.bind_eq_some_iff.mp h
    obtain ⟨c, hc, h⟩ := Option.bind_eq_some_iff.mp h
    cases k with
    | zero => cases hl
    | succ k =>
      have hl' : lnP r < k := by simp only [lnP] at hl; omega
      have e : k + 1 - 1 - lnP ((false, i) :: r) = k - 1 - lnP r := by simp only [lnP]; omega
      rw [e] at hA hB hnd
      obtain ⟨n1, n2⟩ := nd
      simp only [T.adr, T.rest, List.nodup_cons] at n1 n2
      have nds : T.Nds cs k := ⟨n1.2, fun x hx hy => n2 x hx (List.mem_cons_of_mem _ hy)⟩
      have hcm := List.mem_of_getElem? hc
      obtain ⟨l1, l2, e1, e2⟩ := set_split hc
      rw [e1] at nds
      obtain ⟨m1, m2, m3, m4⟩ := nds_mid.mp nds
      obtain ⟨ain, aad⟩ := sub_in r (k := k) h (by omega)
      have aadr : a ∈ c.adr k := aad a (by
        have : k - lnP r = (k - lnP r - 1) + 1 := by omega
        rw [this]; exact List.mem_cons_self ..)
      obtain ⟨c', p1, p2, p3, p4, p5, p6⟩ := put_ok hkeep hpl hs hFN r h hl' m2 (T.oks_iff.mp ok.2 c hcm) (fun b f q => hF b f (List.mem_cons_of_mem _ (T.mem_rests.mpr ⟨c, hcm, q⟩))) (fun b n q => hN b n (List.mem_cons_of_mem _ (T.mem_adrs.mpr ⟨c, hcm, q⟩))) hA hB hnd
      obtain ⟨q1, q2, q3⟩ := mid_ok hFN nds p4 p5 p6 (fun b f q => hF b f (List.mem_cons_of_mem _ (by rw [e1]; exact q))) (fun b n q => hN b n (List.mem_cons_of_mem _ (by rw [e1]; exact q)))
      have ab : b0 ≠ a := fun z => n1.1 (by rw [z, T.mem_adrs]; exact ⟨c, hcm, aadr⟩)
      have hv : (l1 ++ c' :: l2).map T.val = cs.map T.val := by rw [e1]; simp [p2]
      refine ⟨.lst b0 (l1 ++ c' :: l2), by simp only [putT, hj, Option.bind_some, hc, p1, Option.map_some, e2], rfl, ⟨?_, T.oks_iff.mpr fun w hw => ?_⟩, ⟨?_, fun b m m' => ?_⟩, fun b m => ?_, fun b m => ?_⟩
      · rw [hv]
        rcases ok.1 with z | ⟨o, z⟩
        · exact .inl (hkeep _ _ z ab)
        · exact .inr ⟨o, hkeep _ _ z ab⟩
      · rcases List.mem_append.mp hw with hw | hw
        · refine keep_ok hkeep hpl (T.oks_iff.mp ok.2 w (by rw [e1]; exact List.mem_append_left _ hw)) fun q => m3 a aadr ?_
          rw [T.rests_append]; exact List.mem_append_left _ (T.mem_rests.mpr ⟨w, hw, q⟩)
        · rcases List.mem_cons.mp hw with rfl | hw
          · exact p3
          · refine keep_ok hkeep hpl (T.oks_iff.mp ok.2 w (by rw [e1]; exact List.mem_append_right _ (List.mem_cons_of_mem _ hw))) fun q => m3 a aadr ?_
            rw [T.rests_append]; exact List.mem_append_right _ (T.mem_rests.mpr ⟨w, hw, q⟩)
      · simp only [T.adr, List.nodup_cons]
        refine ⟨fun m => ?_, q1.1⟩
        rcases q2 b0 m with z | z
        · exact n1.1 (by rw [e1]; exact z)
        · exact hF b0 z (List.mem_cons_self ..)
      · simp only [T.adr, T.rest, List.mem_cons] at m m'
        rcases m' with rfl | m'
        · rcases q3 b m with z | z
          · exact n2 b (by rw [e1]; exact z) (List.mem_cons_self ..)
          · exact hN b z (List.mem_cons_self ..)
        · exact q1.2 b m m'
      · simp only [T.adr, List.mem_cons] at m ⊢
        rcases m with m | m
        · exact .inl (.inl m)
        · rw [e1]; exact (q2 b m).imp .inr id
      · simp only [T.rest] at m ⊢
        rw [e1]; exact q3 b m
  | (true, i) :: r, .tup b0 cs, k, h, hl, nd, ok, hF, hN, hA, hB, hnd => by
    simp only [subT] at h
    obtain ⟨j, hj, h⟩ := Option.bind_eq_some_iff.mp h
    obtain ⟨c, hc, h⟩ := Option.bind_eq_some_iff.mp h
    have hl' : lnP r < k := hl
    have nds : T.Nds cs k := nd
    have hcm := List.mem_of_getElem? hc
    obtain ⟨l1, l2, e1, e2⟩ := set_split hc
    rw [e1] at nds
    obtain ⟨m1, m2, m3, m4⟩ := nds_mid.mp nds
    obtain ⟨ain, aad⟩ := sub_in r (k := k) h (by omega)
    have aadr : a ∈ c.adr k := aad a (by
      have : k - lnP r = (k - lnP r - 1) + 1 := by omega
      rw [this]; exact List.mem_cons_self ..)
    obtain ⟨c', p1, p2, p3, p4, p5, p6⟩ := put_ok hkeep hpl hs hFN r h hl' m2 (T.oks_iff.mp ok.2 c hcm) (fun b f q => hF b f (T.mem_rests.mpr ⟨c, hcm, q⟩)) (fun b n q => hN b n (T.mem_adrs.mpr ⟨c, hcm, q⟩)) hA hB hnd
    obtain ⟨q1, q2, q3⟩ := mid_ok hFN nds p4 p5 p6 (fun b f q => hF b f (by rw [T.rest, e1]; exact q)) (fun b n q => hN b n (by rw [T.adr, e1]; exact q))
    have ab : b0 ≠ a := fun z => by
      obtain ⟨vs, y, mu⟩ := hpl
      have := ok.1
      rw [z, y] at this; cases this
      exact nomatch (show false = true from mu)
    have hv : (l1 ++ c' :: l2).map T.val = cs.map T.val := by rw [e1]; simp [p2]
    refine ⟨.tup b0 (l1 ++ c' :: l2), by simp only [putT, hj, Option.bind_some, hc, p1, Option.map_some, e2], rfl, ⟨?_, T.oks_iff.mpr fun w hw => ?_⟩, q1, fun b m => ?_, fun b m => ?_⟩
    · rw [hv]; exact hkeep _ _ ok.1 ab
    · rcases List.mem_append.mp hw with hw | hw
      · refine keep_ok hkeep hpl (T.oks_iff.mp ok.2 w (by rw [e1]; exact List.mem_append_left _ hw)) fun q => m3 a aadr ?_
        rw [T.rests_append]; exact List.mem_append_left _ (T.mem_rests.mpr ⟨w, hw, q⟩)
      · rcases List.mem_cons.mp hw with rfl | hw
        · exact p3
        · refine keep_ok hkeep hpl (T.oks_iff.mp ok.2 w (by rw [e1]; exact List.mem_append_right _ (List.mem_cons_of_mem _ hw))) fun q => m3 a aadr ?_
          rw [T.rests_append]; exact List.mem_append_right _ (T.mem_rests.mpr ⟨w, hw, q⟩)
    · simp only [T.adr] at m ⊢
      rw [e1]; exact q2 b m
    · simp only [T.rest] at m ⊢
      rw [e1]; exact q3 b m
  | (false, i) :: r, .tup a ts, k, h, _, _, _, _, _, _, _, _ => by cases h
  | (true, i) :: r, .lst a ts, k, h, _, _, _, _, _, _, _, _ => by cases h
  | (b, i) :: r, .non, k, h, _, _, _, _, _, _, _, _ => by cases b <;> cases h
  | (b, i) :: r, .bl _, k, h, _, _, _, _, _, _, _, _ => by cases b <;> cases h
  | (b, i) :: r, .int _, k, h, _, _, _, _, _, _, _, _ => by cases b <;> cases h
  | (b, i) :: r, .str _, k, h, _, _, _, _, _, _, _, _ => by cases b <;> cases h
  | (b, i) :: r, .exn _ _, k, h, _, _, _, _, _, _, _, _ => by cases b <;> cases h
  | (b, i) :: r, .dic _ _ _, k, h, _, _, _, _, _, _, _, _ => by cases b <;> cases h
  | (b, i) :: r, .dit _ _ _, k, h, _, _, _, _, _, _, _, _ => by cases b <;> cases h
end
end Pu
end
section
namespace Pu
open PySem PySem.Spec PyProof.Rows PySem.W L2
theorem sub_nd : ∀ (q : List (Bool × Int)) {t s : T} {k : Nat}, subT q t = some s → lnP q ≤ k → t.Nd k → s.Nd (k - lnP q)
  | [], t, s, k, h, _, n => by cases h; exact n
  | (false, i) :: r, .lst a ts, s, k, h, hl, n => by
    simp only [subT] at h
    obtain ⟨j, _, h⟩ := Option.bind_eq_some_iff.mp h
    obtain ⟨c, hc, h⟩ := Option.bind_eq_some_iff.mp h
    cases k with
    | zero => simp [lnP] at hl
    | succ k =>
      obtain ⟨n1, n2⟩ := n
      simp only [T.adr, T.rest, List.nodup_cons] at n1 n2
      have nds : T.Nds ts k := ⟨n1.2, fun x hx hy => n2 x hx (List.mem_cons_of_mem _ hy)⟩
      obtain ⟨l1, l2, e1, _⟩ := set_split hc
      rw [e1] at nds
      have := sub_nd r (k := k) h (by simp [lnP] at hl; exact hl) (nds_mid.mp nds).2.1
      have e : k + 1 - lnP ((false, i) :: r) = k - lnP r := by simp only [lnP]; omega
      rw [e]; exact this
  | (true, i) :: r, .tup a ts, s, k, h, hl, n => by
    simp only [subT] at h
    obtain ⟨j, _, h⟩ := Option.bind_eq_some_iff.mp h
    obtain ⟨c, hc, h⟩ := Option.bind_eq_some_iff.mp h
    have nds : T.Nds ts k := n
    obtain ⟨l1, l2, e1, _⟩ := set_split hc
    rw [e1] at nds
    exact sub_nd r (k := k) h hl (nds_mid.mp nds).2.1
  | (false, i) :: r, .tup a ts, s, k, h, _, _ => by cases h
  | (true, i) :: r, .lst a ts, s, k, h, _, _ => by cases h
  | (b, i) :: r, .non, s, k, h, _, _ => by cases b <;> cases h
  | (b, i) :: r, .bl _, s, k, h, _, _ => by cases b <;> cases h
  | (b, i) :: r, .int _, s, k, h, _, _ => by cases b <;> cases h
  | (b, i) :: r, .str _, s, k, h, _, _ => by cases b <;> cases h
  | (b, i) :: r, .exn _ _, s, k, h, _, _ => by cases b <;> cases h
theorem dats_set (ts : List T) (j : Nat) (t : T) : T.dats (ts.set j t) = (T.dats ts).set j t.dat := by rw [T.dats_map, T.dats_map, List.map_set]
theorem upd_dat {f : List D → Option (List D)} : ∀ (q : List (Bool × Int)) {t : T} {d' : D}, updP f q t.dat = some d' → ∃ a ts ds', subT q t = some (.lst a ts) ∧ f (T.dats ts) = some ds' ∧ ∀ us t', T.dats us = ds' → putT (.lst a us) q t = some t' → t'.dat = d'
  | [], t, d', h => by
    cases t with
    | lst a ts =>
      simp only [T.dat, updP] at h
      obtain ⟨ds', h1, rfl⟩ := Option.map_eq_some_iff.mp h
      exact ⟨a, ts, ds', rfl, h1, fun us t' e1 e2 => by cases e2; simp [T.dat, e1]⟩
    | _ => cases h
  | (b, i) :: r, t, d', h => by
    cases b with
    | false =>
      cases t with
      | lst a ts =>
        simp only [T.dat, updP, dats_length] at h
        obtain ⟨j, hj, h⟩ := Option.bind_eq_some_iff.mp h
        obtain ⟨d, hd, h⟩ := Option.bind_eq_some_iff.mp h
        obtain ⟨d2, h1, rfl⟩ := Option.map_eq_some_iff.mp h
        obtain ⟨c, hc, rfl⟩ := dats_get hd
        obtain ⟨a', ts', ds', s1, s2, s3⟩ := upd_dat r h1
        refine ⟨a', ts', ds', by simp only [subT, hj, Option.bind_some, hc, s1], s2, fun us t' e1 e2 => ?_⟩
        simp only [putT, hj, Option.bind_some, hc] at e2
        obtain ⟨c', e3, rfl⟩ := Option.map_eq_some_iff.mp e2
        simp only [T.dat, dats_set, s3 us c' e1 e3]
      | _ => cases h
    | true =>
      cases t with
      | tup a ts =>
        simp only [T.dat, updP, dats_length] at h
        obtain ⟨j, hj, h⟩ := Option.bind_eq_some_iff.mp h
        obtain ⟨d, hd, h⟩ := Option.bind_eq_some_iff.mp h
        obtain ⟨d2, h1, rfl⟩ := Option.map_eq_some_iff.mp h
        obtain ⟨c, hc, rfl⟩ := dats_get hd
        obtain ⟨a', ts', ds', s1, s2, s3⟩ := upd_dat r h1
        refine ⟨a', ts', ds', by simp only [subT, hj, Option.bind_some, hc, s1], s2, fun us t' e1 e2 => ?_⟩
        simp only [putT, hj, Option.bind_some, hc] at e2
        obtain ⟨c', e3, rfl⟩ := Option.map_eq_some_iff.mp e2
        simp only [T.dat, dats_set, s3 us c' e1 e3]
      | _ => cases h
section
variable {p : Px} {H0 : Hp} {A0 : Addr → Prop} {m m1 : Ms} {τ : Ft} {H H1 : Hp}
theorem sf_put {x k : Nat} {t : T} {q : List (Bool × Int)} {a : Addr} {ts us : List T} {F N : Addr → Prop} (S : Sf p H0 A0 m τ H) (s : Same H H1) (hx : τ[x]? = some (some t)) (hm : m[x]? = some (.ow k)) (hq : subT q t = some (.lst a ts)) (hl : lnP q < k) (hus : T.Oks p H1 us) (hFN : ∀ b, F b → N b)
    (hA : ∀ b ∈ T.adrs us (k - 1 - lnP q), b ∈ T.adrs ts (k - 1 - lnP q) ∨ F b) (hB : ∀ b ∈ T.rests us (k - 1 - lnP q), b ∈ T.rests ts (k - 1 - lnP q) ∨ N b) (hnd : T.Nds us (k - 1 - lnP q))
    (f0 : ∀ b, F b → b ∉ t.rest 0) (f1 : ∀ b, F b → H0 b = none ∧ Mu H1 b) (f4 : ∀ b, F b → Own m τ b ∨ H b = none) (n0 : ∀ b, N b → b ∉ t.adr k) (n1 : ∀ b, N b → H0 b = none ∨ A0 b)
    (hlen : m1.length = m.length) (hmx : m1[x]? = some (.ow k)) (hmo : ∀ (j : Nat) (d : Md), j ≠ x → m1[j]? = some d → d ≠ .dead → m[j]? = some d ∧ (q ≠ [] → ∀ k2, d ≠ .br k2))
    (f2 : ∀ (j : Nat) (u : T) (d : Md), j ≠ x → τ[j]? = some (some u) → m1[j]? = some d → d ≠ .dead → ∀ b, F b → b ∉ u.rest d.low) (n2 : ∀ (i : Nat) (u : T) (k' : Nat), i ≠ x → τ[i]? = some (some u) → m1[i]? = some (.ow k') → ∀ b, N b → b ∉ u.adr k') :
    ∃ t', putT (.lst a us) q t = some t' ∧ t'.val = t.val ∧ Sf p H0 A0 m1 (τ.set x (some t')) (L2.upd H1 a (.lst (us.map T.val))) ∧ Stp m m1 [x] τ (τ.set x (some t')) H (L2.upd H1 a (.lst (us.map T.val))) := by
  have S1 := S.grow s
  obtain ⟨ain, aad⟩ := sub_in q (k := k) hq (by omega)
  have ek : k - lnP q = (k - 1 - lnP q) + 1 := by omega
  have aadr : a ∈ t.adr k := aad a (by rw [ek]; exact List.mem_cons_self ..)
  have arest : a ∈ t.rest 0 := (T.all_iff t k).mpr (.inl aadr)
  have nds := sub_nd q hq (by omega : lnP q ≤ k) (S.nd x t k hx hm)
  rw [ek] at nds
  obtain ⟨nd1, nd2⟩ := nds
  simp only [T.adr, T.rest, List.nodup_cons] at nd1 nd2
  have hpl : Mu H1 a := (S1.own x t k a hx hm aadr).2
  have hkeep : ∀ b w, H1 b = some w → b ≠ a → L2.upd H1 a (.lst (us.map T.val)) b = some w := fun b w e n => by rw [upd_ne n]; exact e
  have aus : a ∉ T.rests us 0 := fun z => by
    rcases (T.alls_iff us (k - 1 - lnP q)).mp z with z | z
    · rcases hA a z with y | y
      · exact nd1.1 y
      · exact f0 a y arest
    · rcases hB a z with y | y
      · exact nd2 a y (List.mem_cons_self ..)
      · exact n0 a y aadr
  have hs : (T.lst a us).Ok p (L2.upd H1 a (.lst (us.map T.val))) := ⟨.inl upd_same, T.oks_iff.mpr fun u hu => keep_ok hkeep hpl (T.oks_iff.mp hus u hu) fun z => aus (T.mem_rests.mpr ⟨u, hu, z⟩)⟩
  obtain ⟨t', p1, p2, p3, p4, p5, p6⟩ := put_ok hkeep hpl hs hFN q hq hl (S.nd x t k hx hm) (S1.at hx hm (by intro c; cases c)) f0 n0 hA hB hnd
  have all' : ∀ b ∈ t'.rest 0, b ∈ t.rest 0 ∨ N b := fun b z => by
    rcases (T.all_iff t' k).mp z with z | z
    · exact (p5 b z).imp (fun y => (T.all_iff t k).mpr (.inl y)) (hFN b)
    · exact (p6 b z).imp (fun y => (T.all_iff t k).mpr (.inr y)) id
  have sm0 : 0 < k ∧ k < 90 := of_decide_eq_true (S.small _ (List.mem_of_getElem? hm))
  have sm := sm0.2
  have other : ∀ {j : Nat} {u : T} {d : Md}, j ≠ x → τ[j]? = some (some u) → m1[j]? = some d → d ≠ .dead → u.Ok p (L2.upd H1 a (.lst (us.map T.val))) := by
    intro j u d ne e hd nd
    obtain ⟨h1, h2⟩ := hmo j d ne hd nd
    refine keep_ok hkeep hpl (S1.at e h1 nd) ?_
    cases d with
    | sh => exact S.sep x j t u k _ (Ne.symm ne) hx hm e h1 nd a aadr
    | ow k2 => exact S.sep x j t u k _ (Ne.symm ne) hx hm e h1 nd a aadr
    | br k2 =>
      cases q with
      | nil =>
        cases hq
        exact S.top x j _ u k k2 hx hm e h1 a ts rfl
      | cons _ _ => exact absurd rfl (h2 (by simp) k2)
    | dead => exact absurd rfl nd
  refine ⟨t', p1, p2, ⟨by rw [List.length_set, hlen]; exact S.len, fun d hd => ?_, fun b u e => ?_, fun i u j e ej l => ?_, fun i u k' b e hk' z => ?_, fun b sh => ?_, fun i u k' e hk' => ?_, fun i j u w k' d ne e hk' e' hd nd b z => ?_, fun i j u w k' k2 e hk' e' hd b cs z => ?_⟩,
    fun b u e n => ?_, fun b o => ?_, fun i hi => ?_, fun i _ => by rw [vτ_sm hx p2]⟩
  · obtain ⟨i, hi, rfl⟩ := List.getElem_of_mem hd
    by_cases z : i = x
    · subst z
      rw [List.getElem?_eq_getElem hi] at hmx
      rw [Option.some.inj hmx]
      exact decide_eq_true sm0
    · by_cases y : m1[i] = .dead
      · rw [y]; rfl
      · exact S.small _ (List.mem_of_getElem? (hmo i _ z (List.getElem?_eq_getElem hi) y).1)
  · rw [upd_ne (fun z => by
      have := (S.own x t k a hx hm aadr).1
      rw [z] at e
      rw [this] at e; cases e)]
    exact S1.same b u e
  · obtain ⟨d, hd, rfl⟩ := tnM_get ej
    rcases set_get e with ⟨rfl, e2⟩ | ⟨ne, e1⟩
    · cases e2; exact p3
    · exact other ne e1 hd (fun z => by subst z; exact absurd l (by decide))
  · rcases set_get e with ⟨rfl, e2⟩ | ⟨ne, e1⟩
    · cases e2
      rw [hmx] at hk'
      cases hk'
      rcases p5 b z with y | y
      · obtain ⟨y1, vs, y2, mu⟩ := S1.own i t k b hx hm y
        by_cases w : b = a
        · subst w; exact ⟨y1, _, upd_same, rfl⟩
        · exact ⟨y1, vs, hkeep _ _ y2 w, mu⟩
      · obtain ⟨y1, vs, y2, mu⟩ := f1 b y
        exact ⟨y1, vs, hkeep _ _ y2 (fun w => f0 b y (w ▸ arest)), mu⟩
    · obtain ⟨h1, _⟩ := hmo i _ ne hk' (by intro c; cases c)
      obtain ⟨y1, vs, y2, mu⟩ := S1.own i u k' b e1 h1 z
      exact ⟨y1, vs, hkeep _ _ y2 (fun w => S.sep x i t u k _ (Ne.symm ne) hx hm e1 h1 (by intro c; cases c) a aadr (w ▸ (T.all_iff u k').mpr (.inl z))), mu⟩
  · obtain ⟨i, u, j, e, ej, l, z⟩ := sh
    obtain ⟨d, hd, rfl⟩ := tnM_get ej
    rcases set_get e with ⟨rfl, e2⟩ | ⟨ne, e1⟩
    · cases e2
      rw [hmx] at hd
      cases hd
      rcases p6 b z with y | y
      · exact S.src b ⟨i, t, k, hx, tnM_of hm, sm, y⟩
      · exact n1 b y
    · obtain ⟨h1, _⟩ := hmo i _ ne hd (fun z => by subst z; exact absurd l (by decide))
      exact S.src b ⟨i, u, _, e1, tnM_of h1, l, z⟩
  · rcases set_get e with ⟨rfl, e2⟩ | ⟨ne, e1⟩
    · cases e2
      rw [hmx] at hk'
      cases hk'
      exact p4
    · exact S.nd i u k' e1 (hmo i _ ne hk' (by intro c; cases c)).1
  · rcases set_get e with ⟨rfl, e2⟩ | ⟨ne1, e1⟩
    · cases e2
      rw [hmx] at hk'
      cases hk'
      rcases set_get e' with ⟨z', _⟩ | ⟨ne2, e3⟩
      · exact absurd z'.symm ne
      · rcases p5 b z with y | y
        · exact S.sep i j t w k d ne hx hm e3 (hmo j d ne2 hd nd).1 nd b y
        · exact f2 j w d ne2 e3 hd nd b y
    · obtain ⟨h1, _⟩ := hmo i _ ne1 hk' (by intro c; cases c)
      rcases set_get e' with ⟨z', e2⟩ | ⟨ne2, e3⟩
      · cases e2
        subst z'
        rw [hmx] at hd
        cases hd
        intro y
        rcases all' b y with y | y
        · exact S.sep i j u t k' _ ne e1 h1 hx hm (by intro c; cases c) b z y
        · exact n2 i u k' ne1 e1 hk' b y z
      · exact S.sep i j u w k' d ne e1 h1 e3 (hmo j d ne2 hd nd).1 nd b z
  · have ne2 : j ≠ x := fun y => by subst y; rw [hmx] at hd; cases hd
    rcases set_get e' with ⟨y, _⟩ | ⟨_, e3⟩
    · exact absurd y ne2
    obtain ⟨h3, h4⟩ := hmo j _ ne2 hd (by intro c; cases c)
    rcases set_get e with ⟨rfl, e2⟩ | ⟨ne1, e1⟩
    · cases e2
      rw [hmx] at hk'
      cases hk'
      cases q with
      | nil =>
        cases hq
        cases p1
        cases z
        exact S.top i j _ w k k2 hx hm e3 h3 _ ts rfl
      | cons _ _ => exact absurd rfl (h4 (by simp) k2)
    · exact S.top i j u w k' k2 e1 (hmo i _ ne1 hk' (by intro c; cases c)).1 e3 h3 b cs z
  · rw [upd_ne (show b ≠ a from fun z => n ⟨x, t, k, hx, hm, by rw [z]; exact aadr⟩)]
    exact s b u e
  · obtain ⟨i, u, k', e, hk', z⟩ := o
    rcases set_get e with ⟨rfl, e2⟩ | ⟨ne, e1⟩
    · cases e2
      rw [hmx] at hk'
      cases hk'
      rcases p5 b z with y | y
      · exact .inl ⟨i, t, k, hx, hm, y⟩
      · exact f4 b y
    · exact .inl ⟨i, u, k', e1, (hmo i _ ne hk' (by intro c; cases c)).1, z⟩
  · rw [List.getElem?_set_ne (fun z => hi (by simp [z]))]
end
end Pu
end
section
namespace Pu
open PySem PySem.Spec PyProof.Rows PySem.W L2
structure Zx where
  p : Px
  H0 : Hp
  A0 : Addr → Prop
  EX : EXT
  mx : Ms
  dep : Nat
noncomputable def Um.kind : Um → Nat
  | .append => 1
  | .extend => 2
  | _ => 0
mutual
noncomputable def wrS : S → List Nat
  | .asg x _ _ => [x, x + 1000]
  | .dem _ _ => []
  | .dead _ => []
  | .set x _ _ _ => [x]
  | .mut x _ _ _ => [x]
  | .expr _ => []
  | .iff _ a b => wrSs a ++ wrSs b
  | .wh _ b => wrSs b
  | .for_ g _ b => up g.sl ++ wrSs b
  | .ret _ => []
  | .raiseA _ => []
  | .try_ b _ i h e => wrSs b ++ (i :: (i + 1000) :: (wrSs h ++ wrSs e))
noncomputable def wrSs : Ss → List Nat
  | .nil => []
  | .cons s r => wrS s ++ wrSs r
end
noncomputable def meetM (a b : Ms) : Ms := List.zipWith Md.meet a b
noncomputable def joinO : Option Ms → Option Ms → Option Ms
  | none, b => b
  | a, none => a
  | some a, some b => some (meetM a b)
noncomputable def killO (i : Nat) : Option Ms → Option Ms
  | some m => some (m.set i .dead)
  | none => none
noncomputable def okJ : Option Ms → Option Ms → Bool
  | some a, some r => leM a r
  | none, _ => true
  | some _, none => false
noncomputable def It.nmOf : It → Option Nat
  | .seqL (.nm x) => some x
  | _ => none
noncomputable def rk (m : Ms) (e : E) : Option Nat := match e with
  | .nm i => match m[i]? with
    | some (.ow k) => some k
    | some .sh => some 0
    | _ => none
  | e => (jk (tnM m) e).bind fun x => if x.1 = 0 then some x.2 else none
noncomputable def killBr (m : Ms) : Ms := m.map fun d => match d with
  | .br _ => .dead
  | d => d
noncomputable def pathOk (m : Ms) : List (Bool × E) → Bool
  | [] => true
  | (_, e) :: r => (jk (tnM m) e).isSome && pathOk m r
noncomputable def lnE : List (Bool × E) → Nat
  | [] => 0
  | (false, _) :: r => lnE r + 1
  | (true, _) :: r => lnE r
noncomputable def Es.mvOf (m : Ms) : Es → Option (Nat × Nat)
  | .cons (.nm y) .nil => match m[y]? with
    | some (.ow k) => some (y, k)
    | _ => none
  | _ => none
mutual
noncomputable def msS (mx : Ms) (dep : Nat) : S → Ms → Option (Option Ms)
  | .asg x k e, m => (jk (tnM m) e).bind fun c => if c.1 = 0 ∧ k ≤ c.2 ∧ x < m.length ∧ k < 90 ∧ leM m mx = true then some (some (m.set x (mdK k))) else none
  | .dem x k, m => if leM m (m.set x (mdK k)) = true then some (some (m.set x (mdK k))) else none
  | .dead x, m => if leM m (m.set x .dead) = true then some (some (m.set x .dead)) else none
  | .set x p i e, m => (jk (tnM m) e).bind fun c => (jk (tnM m) i).bind fun _ => match m[x]? with
    | some (.ow k) => if c.1 = 0 ∧ lnE p < k ∧ k - 1 - lnE p ≤ c.2 ∧ pathOk m p = true ∧ leM m mx = true then some (some (if p.isEmpty then m else killBr m)) else none
    | _ => none
  | .mut x p u es, m => match m[x]? with
    | some (.ow k) => if lnE p < k ∧ pathOk m p = true ∧ leM m mx = true then (match es.mvOf m with
        | some (y, ky) => if u = .append ∧ y ≠ x ∧ k - 1 - lnE p ≤ ky ∧ p.isEmpty = true then some (some (m.set y (.br ky))) else none
        | none => (jks (tnM m) es).bind fun c => if (c.1 = 0 ∨ (u = .extend ∧ c.1 ≤ 1)) ∧ (k - 1 - lnE p = 0 ∨ (u.kind = 1 ∧ k - 1 - lnE p ≤ c.2) ∨ (u.kind = 2 ∧ k - lnE p ≤ c.2) ∨ u.kind = 0) then some (some (if p.isEmpty then m else killBr m)) else none) else none
    | _ => none
  | .expr e, m => (jk (tnM m) e).bind fun _ => if leM m mx = true then some (some m) else none
  | .iff c a b, m => (jk (tnM m) c).bind fun _ => if leM m mx = true then (msSs mx dep a m).bind fun ra => (msSs mx dep b m).bind fun rb => if okJ ra (joinO ra rb) = true ∧ okJ rb (joinO ra rb) = true then some (joinO ra rb) else none
    else none
  | .wh c b, m => (jk (tnM m) c).bind fun _ => if leM m mx = true then (msSs mx dep b m).bind fun r => match r with
      | none => some (some m)
      | some mb => if leM mb m = true then some (some m) else none
    else none
  | .for_ g it b, m => (jkI (tnM m) it).bind fun j => if leM m mx = true ∧ leM m (setAll m g.sl .dead) = true ∧ (j = 0 ∨ ∃ x, it.nmOf = some x ∧ x ∉ wrSs b ∧ x ∉ up g.sl) then (msSs mx dep b (setAll (setAll m g.sl .dead) g.sl .sh)).bind fun r => match r with
      | none => some (some (setAll m g.sl .dead))
      | some mb => if leM mb (setAll m g.sl .dead) = true then some (some (setAll m g.sl .dead)) else none
    else none
  | .ret e, m => (rk m e).bind fun k => if (dep ≤ k ∧ dep < 1000) ∧ leM m mx = true then some none else none
  | .raiseA e, m => (jk (tnM m) e).bind fun _ => if leM m mx = true then some none else none
  | .try_ b _ i h e, m => if i < m.length ∧ leM m (setAll m (wrSs b) .dead) = true then (msSs (setAll m (wrSs b) .dead) dep b m).bind fun rb =>
      (msSs (List.replicate m.length .dead) dep h ((setAll m (wrSs b) .dead).set i .sh)).bind fun rh =>
        (match rb with
          | none => some none
          | some m1 => msSs mx dep e m1).bind fun re => if okJ re (joinO re (killO i rh)) = true ∧ okJ (killO i rh) (joinO re (killO i rh)) = true then some (joinO re (killO i rh)) else none
    else none
noncomputable def msSs (mx : Ms) (dep : Nat) : Ss → Ms → Option (Option Ms)
  | .nil, m => some (some m)
  | .cons s r, m => (msS mx dep s m).bind fun o => match o with
    | none => some none
    | some m1 => msSs mx dep r m1
end
noncomputable def lRet (Z : Zx) (w : List Nat) (d : D) (τ : Ft) (E : Ends) : Prop := if Z.dep < 1000 then ∀ (t : T) (H' : Hp), t.dat = d → Rs Z.p Z.A0 Z.H0 H' 0 Z.dep t → E.rt t.val H'
  else Z.dep ∉ w ∧ ∀ (b : Bool) (us : List T) (a : Addr) (H' : Hp), d = .tup [.bl b, .lst (T.dats us)] → (vτ τ)[Z.dep - 1000]? = some (some (.ref a)) → (T.lst a us).Ok Z.p H' → (Mu H' a) → Same Z.H0 H' → E.rt (.bl b) H'
theorem lRet.lo {Z : Zx} {w : List Nat} {d : D} {τ : Ft} {E : Ends} (h : lRet Z w d τ E) (hd : Z.dep < 1000) {t : T} {H' : Hp} (e : t.dat = d) (R : Rs Z.p Z.A0 Z.H0 H' 0 Z.dep t) : E.rt t.val H' := by
  unfold lRet at h
  rw [if_pos hd] at h
  exact h t H' e R
theorem lRet.to {Z Z2 : Zx} {w w2 : List Nat} {d : D} {τ τ2 : Ft} {E E2 : Ends} (h : lRet Z w d τ E) (hw : ∀ i ∈ w2, i ∈ w) (hv : ∀ i, i + 1000 ∉ w → (vτ τ2)[i]? = (vτ τ)[i]?) (he : E2.rt = E.rt := by rfl) (hz : lRet Z2 w2 d τ2 E2 = lRet Z w2 d τ2 E2 := by rfl) : lRet Z2 w2 d τ2 E2 := by
  rw [hz]; clear hz
  unfold lRet at *
  rw [he]
  split
  · rename_i c; rw [if_pos c] at h; exact h
  · rename_i c
    rw [if_neg c] at h
    have e : Z.dep - 1000 + 1000 = Z.dep := Nat.sub_add_cancel (Nat.not_lt.mp c)
    refine ⟨fun z => h.1 (hw _ z), fun b us a H' e1 e2 => h.2 b us a H' e1 ?_⟩
    rw [← hv (Z.dep - 1000) (by rw [e]; exact h.1)]
    exact e2
noncomputable def lOut (Z : Zx) (m : Ms) (r : Option Ms) (w : List Nat) (o : Out) (τ : Ft) (H : Hp) (D : Ends) : Prop := match o with
  | .nxt δ' => ∀ (m' : Ms) (τ' : Ft) (H' : Hp), r = some m' → dτ τ' = δ' → Sf Z.p Z.H0 Z.A0 m' τ' H' → Stp m m' w τ τ' H H' → D.nx (vτ τ') H'
  | .ret d => lRet Z w d τ D
  | .exc c δ' => Z.p.has (kcX c) = true → ∀ (τ' : Ft) (H' : Hp), dτ τ' = δ' → Sf Z.p Z.H0 Z.A0 Z.mx τ' H' → Stp m Z.mx w τ τ' H H' → XW Z.p (Z.EX (vτ τ')) c H'
  | .bad => False
noncomputable def lS (Z : Zx) (s : S) : TS := fun D σ H => ∃ τ m r, σ = vτ τ ∧ Sf Z.p Z.H0 Z.A0 m τ H ∧ msS Z.mx Z.dep s m = some r ∧ lOut Z m r (wrS s) (ex s (dτ τ)) τ H D
noncomputable def lSs (Z : Zx) (s : Ss) : TS := fun D σ H => ∃ τ m r, σ = vτ τ ∧ Sf Z.p Z.H0 Z.A0 m τ H ∧ msSs Z.mx Z.dep s m = some r ∧ lOut Z m r (wrSs s) (exs s (dτ τ)) τ H D
theorem PSs.mono {X : Cx} {st : List Stmt} {t t' : TS} (h : PSs X st t) (m : ∀ D σ H, t' D σ H → t D σ H) : PSs X st t' := fun pins s σ H D I q => h pins s σ H D I (m _ _ _ q)
section
variable {Z : Zx} {m : Ms} {r : Option Ms} {w : List Nat} {τ : Ft} {H : Hp} {D : Ends} {X : Cx} {pos : Pos}
theorem lOut.lg {α : Type} {q : Res α} {f : α → Out} (S : Sf Z.p Z.H0 Z.A0 m τ H) (hm : leM m Z.mx = true) (h : lOut Z m r w (q.out (dτ τ) f) τ H D) : Lg Z.p Z.EX (vτ τ) q H fun a => lOut Z m r w (f a) τ H D := by
  cases q with
  | ok a => exact h
  | exc c => exact fun hc H' s => h hc τ H' rfl ((S.weak hm).grow s) (Stp.refl w hm s)
  | bad => exact h
theorem if_some {c : Prop} [Decidable c] {α : Type} {x y : α} (h : (if c then some x else none) = some y) : c ∧ x = y := by
  split at h
  · exact ⟨‹_›, Option.some.inj h⟩
  · cases h
theorem asg_to {x k : Nat} {e : E} {σ : L2.St} (h : lS Z (.asg x k e) D σ H) : ∃ τ m, σ = vτ τ ∧ Sf Z.p Z.H0 Z.A0 m τ H ∧ tAsg (lE Z.p Z.EX (tnM m) e) (gName x) D σ H := by
  obtain ⟨τ, m, r, rfl, S, hr, h⟩ := h
  simp only [msS] at hr
  obtain ⟨⟨j1, k1⟩, h1, hr⟩ := Option.bind_eq_some_iff.mp hr
  obtain ⟨⟨c1, c2, c3, c4, c5⟩, rfl⟩ := if_some hr
  have c1 : j1 = 0 := c1
  subst c1
  refine ⟨τ, m, rfl, S, τ, rfl, S.ok, 0, k1, h1, ?_⟩
  simp only [ex] at h
  refine (h.lg S c5).mono (Same.refl _) fun d _ h t H1 ht R => ?_
  subst ht
  obtain ⟨S2, P2⟩ := sf_asg S R c2 c3 c4
  show D.nx ((vτ τ).set x (some t.val)) H1
  rw [← vτ_set]
  exact h _ _ H1 rfl (dτ_set τ x t) S2 P2
end
end Pu
end
section
namespace Pu
open PySem PySem.Spec PyProof.Rows PySem.W L2
theorem killBr_get {m : Ms} {i : Nat} {d : Md} (h : (killBr m)[i]? = some d) : (d = .dead) ∨ (m[i]? = some d ∧ ∀ k2, d ≠ .br k2) := by
  unfold killBr at h
  rw [List.getElem?_map] at h
  obtain ⟨d', h1, h2⟩ := Option.map_eq_some_iff.mp h
  cases d' with
  | br k => exact .inl h2.symm
  | sh => cases h2; exact .inr ⟨h1, by simp⟩
  | ow k => cases h2; exact .inr ⟨h1, by simp⟩
  | dead => exact .inl h2.symm
theorem killBr_ow {m : Ms} {i k : Nat} (h : m[i]? = some (.ow k)) : (killBr m)[i]? = some (.ow k) := by
  unfold killBr; rw [List.getElem?_map, h]; rfl
section
variable {p : Px} {H0 : Hp} {A0 : Addr → Prop} {m : Ms} {τ : Ft} {H H1 : Hp}
theorem sf_new {x k : Nat} {t : T} {q : List (Bool × Int)} {a : Addr} {ts us es : List T} (S : Sf p H0 A0 m τ H) (s : Same H H1) (hx : τ[x]? = some (some t)) (hm : m[x]? = some (.ow k)) (hq : subT q t = some (.lst a ts)) (hl : lnP q < k) (hus : T.Oks p H1 us)
    (hA : ∀ b ∈ T.adrs us (k - 1 - lnP q), b ∈ T.adrs ts (k - 1 - lnP q) ∨ b ∈ T.adrs es (k - 1 - lnP q)) (hB : ∀ b ∈ T.rests us (k - 1 - lnP q), b ∈ T.rests ts (k - 1 - lnP q) ∨ b ∈ T.rests es 0)
    (hnd : T.Nds ts (k - 1 - lnP q) → (∀ b ∈ T.adrs es (k - 1 - lnP q), b ∉ T.rests ts 0) → (∀ b ∈ T.adrs ts (k - 1 - lnP q), b ∉ T.rests es 0) → T.Nds us (k - 1 - lnP q))
    (src : ∀ b ∈ T.rests es 0, H b = none ∨ Sh (tnM m) τ b) (new : ∀ b ∈ T.adrs es (k - 1 - lnP q), H b = none ∧ Mu H1 b) :
    ∃ t', putT (.lst a us) q t = some t' ∧ t'.val = t.val ∧ Sf p H0 A0 (if q.isEmpty then m else killBr m) (τ.set x (some t')) (L2.upd H1 a (.lst (us.map T.val))) ∧ Stp m (if q.isEmpty then m else killBr m) [x] τ (τ.set x (some t')) H (L2.upd H1 a (.lst (us.map T.val))) := by
  have dom : ∀ {j : Nat} {u : T} {d : Md}, τ[j]? = some (some u) → m[j]? = some d → d ≠ .dead → ∀ b ∈ u.rest 0, H b ≠ none := fun e hd nd b z => (S.at e hd nd).dom z
  obtain ⟨ain, aad⟩ := sub_in q (k := k) hq (by omega)
  have ek : k - lnP q = (k - 1 - lnP q) + 1 := by omega
  have nds := sub_nd q hq (by omega : lnP q ≤ k) (S.nd x t k hx hm)
  rw [ek] at nds aad
  have ndt : T.Nds ts (k - 1 - lnP q) := by
    obtain ⟨n1, n2⟩ := nds
    simp only [T.adr, T.rest, List.nodup_cons] at n1 n2
    exact ⟨n1.2, fun b z y => n2 b z (List.mem_cons_of_mem _ y)⟩
  have hxd : ∀ b ∈ t.rest 0, H b ≠ none := dom hx hm (by intro c; cases c)
  have notOwn : ∀ b ∈ T.rests es 0, ¬ Own m τ b := fun b z o => by
    rcases src b z with y | y
    · obtain ⟨_, vs, e, mu⟩ := S.ownOk o
      rw [e] at y; cases y
    · exact S.disj o y
  have hm1 : ∀ (j : Nat) (d : Md), (if q.isEmpty then m else killBr m)[j]? = some d → d ≠ .dead → m[j]? = some d ∧ (q ≠ [] → ∀ k2, d ≠ .br k2) := by
    intro j d hd nd
    cases q with
    | nil => exact ⟨hd, fun z => absurd rfl z⟩
    | cons z r =>
      rcases killBr_get hd with y | ⟨y1, y2⟩
      · exact absurd y nd
      · exact ⟨y1, fun _ => y2⟩
  refine sf_put (F := fun b => b ∈ T.adrs es (k - 1 - lnP q)) (N := fun b => b ∈ T.rests es 0) S s hx hm hq hl hus (fun b z => (T.alls_iff es _).mpr (.inl z)) hA hB ?_ (fun b z y => hxd b y (new b z).1) (fun b z => ⟨S.same.free (new b z).1, (new b z).2⟩) (fun b z => .inr (new b z).1)
    (fun b z y => notOwn b z ⟨x, t, k, hx, hm, y⟩) (fun b z => ?_) ?_ ?_ (fun j d _ hd nd => hm1 j d hd nd) (fun j u d ne e hd nd b z y => ?_) (fun i u k' ne e hk b z y => ?_)
  · refine hnd ndt (fun b z y => ?_) (fun b z y => ?_)
    · exact hxd b (ain b (List.mem_cons_of_mem _ y)) (new b z).1
    · exact notOwn b y ⟨x, t, k, hx, hm, aad b (List.mem_cons_of_mem _ z)⟩
  · rcases src b z with y | y
    · exact .inl (S.same.free y)
    · exact S.src b y
  · split
    · rfl
    · unfold killBr; rw [List.length_map]
  · split
    · exact hm
    · exact killBr_ow hm
  · exact dom e (hm1 j d hd nd).1 nd b (T.rest_le u (Nat.zero_le _) y) (new b z).1
  · exact notOwn b z ⟨i, u, k', e, (hm1 i _ hk (by intro c; cases c)).1, y⟩
theorem nds_snoc {ts : List T} {e : T} {k : Nat} (ne : e.Nd k) (h1 : T.Nds ts k) (h2 : ∀ b ∈ T.adrs [e] k, b ∉ T.rests ts 0) (h3 : ∀ b ∈ T.adrs ts k, b ∉ T.rests [e] 0) : T.Nds (ts ++ [e]) k :=
  T.nds_append h1 (T.nds_cons.mpr ⟨ne, by simp [T.Nds, T.adrs], by simp [T.rests], by simp [T.adrs]⟩) h3 h2
theorem nds_set {ts : List T} {j : Nat} {c e : T} {k : Nat} (hc : ts[j]? = some c) (ne : e.Nd k) (h1 : T.Nds ts k) (h2 : ∀ b ∈ T.adrs [e] k, b ∉ T.rests ts 0) (h3 : ∀ b ∈ T.adrs ts k, b ∉ T.rests [e] 0) :
    T.Nds (ts.set j e) k ∧ (∀ b ∈ T.adrs (ts.set j e) k, b ∈ T.adrs ts k ∨ b ∈ T.adrs [e] k) ∧ (∀ b ∈ T.rests (ts.set j e) k, b ∈ T.rests ts k ∨ b ∈ T.rests [e] 0) := by
  obtain ⟨l1, l2, e1, e2⟩ := set_split hc
  rw [e1] at h1 h2 h3
  rw [e2, e1]
  refine ⟨nds_mid.mpr ⟨(nds_mid.mp h1).1, ne, fun b z y => h2 b (by simpa [T.adrs] using z) ?_, fun b z y => h3 b ?_ (by simpa [T.rests] using y)⟩, fun b z => ?_, fun b z => ?_⟩
  · simp only [T.rests_append, T.rests, List.mem_append] at y ⊢
    rcases y with y | y
    · exact .inl y
    · exact .inr (.inr y)
  · simp only [T.adrs_append, T.adrs, List.mem_append] at z ⊢
    rcases z with z | z
    · exact .inl z
    · exact .inr (.inr z)
  · simp only [T.adrs_append, T.adrs, List.mem_append, List.append_nil] at z ⊢
    rcases z with z | z | z
    · exact .inl (.inl z)
    · exact .inr z
    · exact .inl (.inr (.inr z))
  · simp only [T.rests_append, T.rests, List.mem_append, List.append_nil] at z ⊢
    rcases z with z | z | z
    · exact .inl (.inl z)
    · exact .inr (T.rest_le e (Nat.zero_le _) z)
    · exact .inl (.inr (.inr z))
end
end Pu
end
section
namespace Pu
open PySem PySem.Spec PyProof.Rows PySem.W L2
theorem evP_noexc : ∀ (q : List (Bool × E)) (δ : Fr) (c : Nat), evP q δ ≠ .exc c
  | [], δ, c => by simp [evP]
  | (t, e) :: r, δ, c => by
    simp only [evP]
    split
    · cases h : evP r δ with
      | ok is => simp
      | exc c' => exact absurd h (evP_noexc r δ c')
      | bad => simp
    · simp
theorem evP_snoc : ∀ (q : List (Bool × E)) {δ : Fr} {b : Bool} {e : E} {is : List (Bool × Int)}, evP (q ++ [(b, e)]) δ = .ok is → ∃ js i, evP q δ = .ok js ∧ ev e δ = .ok (.int i) ∧ is = js ++ [(b, i)]
  | [], δ, b, e, is, h => by
    simp only [List.nil_append, evP] at h
    split at h
    · rename_i i he
      simp only [Res.bind_ok] at h
      cases h
      exact ⟨[], i, rfl, he, rfl⟩
    · cases h
  | (t, e') :: r, δ, b, e, is, h => by
    simp only [List.cons_append, evP] at h
    split at h
    · rename_i i' he'
      obtain ⟨js', h1, h2⟩ := Res.bind_eq_ok h
      cases h2
      obtain ⟨js, i, h3, h4, rfl⟩ := evP_snoc r h1
      exact ⟨(t, i') :: js, i, by simp only [evP, he', h3, Res.bind_ok], h4, rfl⟩
    · cases h
theorem subT_snoc : ∀ (q : List (Bool × Int)) {t s' : T} {b : Bool} {i : Int}, subT (q ++ [(b, i)]) t = some s' → ∃ s, subT q t = some s ∧ subT [(b, i)] s = some s'
  | [], t, s', b, i, h => ⟨t, rfl, h⟩
  | (c, j) :: r, t, s', b, i, h => by
    cases c with
    | false =>
      cases t with
      | lst a ts =>
        simp only [List.cons_append, subT] at h ⊢
        obtain ⟨n, h1, h⟩ := Option.bind_eq_some_iff.mp h
        obtain ⟨u, h2, h⟩ := Option.bind_eq_some_iff.mp h
        obtain ⟨s, h3, h4⟩ := subT_snoc r h
        exact ⟨s, by rw [h1]; simp only [Option.bind_some]; rw [h2]; exact h3, h4⟩
      | _ => cases h
    | true =>
      cases t with
      | tup a ts =>
        simp only [List.cons_append, subT] at h ⊢
        obtain ⟨n, h1, h⟩ := Option.bind_eq_some_iff.mp h
        obtain ⟨u, h2, h⟩ := Option.bind_eq_some_iff.mp h
        obtain ⟨s, h3, h4⟩ := subT_snoc r h
        exact ⟨s, by rw [h1]; simp only [Option.bind_some]; rw [h2]; exact h3, h4⟩
      | _ => cases h
theorem subT_ok {p : Px} {H : Hp} : ∀ (q : List (Bool × Int)) {t s : T}, t.Ok p H → subT q t = some s → s.Ok p H
  | [], t, s, ok, h => by cases h; exact ok
  | (c, j) :: r, t, s, ok, h => by
    cases c with
    | false =>
      cases t with
      | lst a ts =>
        simp only [subT] at h
        obtain ⟨n, h1, h⟩ := Option.bind_eq_some_iff.mp h
        obtain ⟨u, h2, h⟩ := Option.bind_eq_some_iff.mp h
        exact subT_ok r (T.oks_iff.mp ok.2 u (List.mem_of_getElem? h2)) h
      | _ => cases h
    | true =>
      cases t with
      | tup a ts =>
        simp only [subT] at h
        obtain ⟨n, h1, h⟩ := Option.bind_eq_some_iff.mp h
        obtain ⟨u, h2, h⟩ := Option.bind_eq_some_iff.mp h
        exact subT_ok r (T.oks_iff.mp ok.2 u (List.mem_of_getElem? h2)) h
      | _ => cases h
theorem subT_at {b : Bool} {i : Int} {s s' : T} (h : subT [(b, i)] s = some s') : (∃ a ts, s = .lst a ts ∧ atI (ts.map T.val) i = some s'.val) ∨ (∃ a ts, s = .tup a ts ∧ atI (ts.map T.val) i = some s'.val) := by
  cases b with
  | false =>
    cases s with
    | lst a ts =>
      simp only [subT] at h
      obtain ⟨n, h1, h⟩ := Option.bind_eq_some_iff.mp h
      obtain ⟨u, h2, h⟩ := Option.bind_eq_some_iff.mp h
      cases h
      refine .inl ⟨a, ts, rfl, ?_⟩
      unfold atI
      rw [List.length_map, ixN_eq, h1]
      show (ts.map T.val)[n]? = _
      rw [List.getElem?_map, h2]; rfl
    | _ => cases h
  | true =>
    cases s with
    | tup a ts =>
      simp only [subT] at h
      obtain ⟨n, h1, h⟩ := Option.bind_eq_some_iff.mp h
      obtain ⟨u, h2, h⟩ := Option.bind_eq_some_iff.mp h
      cases h
      refine .inr ⟨a, ts, rfl, ?_⟩
      unfold atI
      rw [List.length_map, ixN_eq, h1]
      show (ts.map T.val)[n]? = _
      rw [List.getElem?_map, h2]; rfl
    | _ => cases h
noncomputable def pathJ (tn : List Nat) (q : List (Bool × E)) : Prop := ∀ e ∈ q, (jk tn e.2).isSome = true
noncomputable def lPl (p : Px) (EX : EXT) (tn : List Nat) (x : Nat) (q : List (Bool × E)) : TE := fun σ H Q => ∃ τ t is s, σ = vτ τ ∧ Fok p tn τ H ∧ pathJ tn q ∧ τ[x]? = some (some t) ∧ t.Ok p H ∧ evP q (dτ τ) = .ok is ∧ subT is t = some s ∧ ∀ H', Same H H' → Q s.val H'
noncomputable def ckPl (c : CkC) (x : Nat) : List (Bool × E) → Expr → Bool
  | [], .Name y _ => (c.N[x]? == some y) && visB c.sc y && okNm y
  | (_, e) :: r, .Subscript o i _ => ckPl c x r o && ckE c e i && plainI i
  | _, _ => false
section
variable {p : Px} {c : CkC} {lv : Nat} {X : Cx} {EX : EXT} {tn : List Nat} {pos np : Pos}
theorem sndPl (C : Ct p c lv X EX) {x : Nat} : ∀ {rp : List (Bool × E)} {o : Expr}, (∀ e ∈ rp, ∀ n ∈ e.2.need, NeedOk p lv X n) → ckPl c x rp o = true → PE X o (lPl p EX tn x rp.reverse)
  | [], o, hn, h => by
    cases o with
    | Name y q =>
      obtain ⟨h, h3⟩ := and3 (show ((c.N[x]? == some y) && visB c.sc y && okNm y) = true from h)
      obtain ⟨h1, h2⟩ := and3 h
      obtain ⟨d1, d2⟩ := okNm_is h3
      refine PE.mono (pe_var (by rw [C.N]; exact beq_iff_eq.mp h1) (C.vis h2) d1 d2) fun σ H Q h => ?_
      obtain ⟨τ, t, is, s, rfl, hF, _, ht, ok, e, hs, hq⟩ := h
      simp only [List.reverse_nil, evP] at e
      cases e
      cases hs
      exact ⟨_, vτ_get ht, hq H (Same.refl _)⟩
    | _ => exact Bool.noConfusion (show false = true from h)
  | (b, e) :: rp, o, hn, h => by
    cases o with
    | Subscript o' i q =>
      obtain ⟨h, h3⟩ := and3 (show (ckPl c x rp o' && ckE c e i && plainI i) = true from h)
      obtain ⟨h1, h2⟩ := and3 h
      have A := sndPl C (rp := rp) (o := o') (fun e he => hn e (List.mem_cons_of_mem _ he)) h1
      have B := (snd e C (tn := tn) i (hn (b, e) (List.mem_cons_self ..)) h2).1
      refine PE.mono (pe_ix (ix_list.or ix_tup) A B (plainI_is h3)) fun σ H Q h => ?_
      rw [List.reverse_cons] at h
      obtain ⟨τ, t, is, s, rfl, hF, hj, ht, ok, ev1, hs, hq⟩ := h
      obtain ⟨js, n, e1, e2, rfl⟩ := evP_snoc _ ev1
      obtain ⟨s1, hs1, hs2⟩ := subT_snoc _ hs
      refine ⟨τ, t, js, s1, rfl, hF, fun e he => hj e (List.mem_append_left _ he), ht, ok, e1, hs1, fun H1 sm => ?_⟩
      obtain ⟨⟨j, k⟩, hj'⟩ := Option.isSome_iff_exists.mp (hj (b, e) (List.mem_append_right _ (List.mem_singleton.mpr rfl)))
      refine ⟨τ, rfl, hF.same sm, j, k, hj', ?_⟩
      rw [e2]
      intro t2 H2 ht2 R
      have hv : t2.val = .int n := by cases t2 <;> simp [T.dat] at ht2 <;> simp [T.val, ht2]
      rw [hv]
      have ok1 := (subT_ok _ ok hs1).same (sm.trans R.same)
      rcases subT_at hs2 with ⟨a, ts, rfl, at1⟩ | ⟨a, ts, rfl, at1⟩
      · exact .inl ⟨a, _, n, _, rfl, rfl, .inl ok1.1, at1, hq H2 (sm.trans R.same)⟩
      · exact .inr ⟨a, _, n, _, rfl, rfl, SqT.of ok1.1, at1, hq H2 (sm.trans R.same)⟩
    | _ => exact Bool.noConfusion (show false = true from h)
theorem pathOk_is {m : Ms} : ∀ {q : List (Bool × E)}, pathOk m q = true → pathJ (tnM m) q
  | [], _ => fun e he => nomatch he
  | (b, e) :: r, h => by
    obtain ⟨h1, h2⟩ := and3 (show ((jk (tnM m) e).isSome && pathOk m r) = true from h)
    intro e' he
    rcases List.mem_cons.mp he with rfl | he
    · exact h1
    · exact pathOk_is h2 e' he
theorem lnE_is : ∀ {q : List (Bool × E)} {δ : Fr} {is : List (Bool × Int)}, evP q δ = .ok is → lnP is = lnE q ∧ is.isEmpty = q.isEmpty
  | [], δ, is, h => by simp only [evP] at h; cases h; exact ⟨rfl, rfl⟩
  | (b, e) :: r, δ, is, h => by
    simp only [evP] at h
    split at h
    · obtain ⟨js, h1, h2⟩ := Res.bind_eq_ok h
      cases h2
      have := (lnE_is h1).1
      cases b <;> simp [lnP, lnE, this]
    · cases h
theorem upd_nxt {δ : Fr} {x : Nat} {f : D → Option D} {Z : Zx} {m : Ms} {r : Option Ms} {w : List Nat} {τ : Ft} {H : Hp} {En : Ends} (h : lOut Z m r w (upd (dτ τ) x f) τ H En) : ∃ t d', τ[x]? = some (some t) ∧ f t.dat = some d' ∧ lOut Z m r w (.nxt ((dτ τ).set x (some d'))) τ H En := by
  unfold upd at h
  cases q : (dτ τ)[x]? with
  | none => rw [q] at h; exact (show False from h).elim
  | some o =>
    rw [q] at h
    cases o with
    | none => exact (show False from h).elim
    | some d =>
      have : get (dτ τ) x = .ok d := by unfold get; rw [q]
      obtain ⟨t, ht, rfl⟩ := dτ_get this
      simp only at h
      cases q2 : f t.dat with
      | none => rw [q2] at h; exact (show False from h).elim
      | some d' => rw [q2] at h; exact ⟨t, d', ht, q2, h⟩
end
end Pu
end
section
namespace Pu
open PySem PySem.Spec PyProof.Rows PySem.W L2
theorem vτ_same {τ : Ft} {x : Nat} {t t' : T} (h : τ[x]? = some (some t)) (e : t'.val = t.val) : vτ (τ.set x (some t')) = vτ τ := by
  rw [vτ_set, e]
  refine List.ext_getElem? fun i => ?_
  by_cases z : x = i
  · subst z
    rw [List.getElem?_set_self', vτ_get h]; rfl
  · rw [List.getElem?_set_ne z]
theorem plain_at {H : Hp} {a : Addr} {vs : List V} (h : Rd H a (.lst vs)) (hp : Mu H a) : H a = some (.lst vs) := by
  rcases h with h | ⟨o, h⟩
  · exact h
  · obtain ⟨ws, e, mu⟩ := hp
    rw [h] at e; cases e
    exact nomatch (show false = true from mu)
section
variable {Z : Zx} {m : Ms} {r : Option Ms} {w : List Nat} {τ : Ft} {H : Hp} {D : Ends} {X : Cx} {pos : Pos} {σ : L2.St}
theorem set_to {x : Nat} {q : List (Bool × E)} {i e : E} (h : lS Z (.set x q i e) D σ H) : ∃ m, tAsg (lE Z.p Z.EX (tnM m) e) (gSub (lPl Z.p Z.EX (tnM m) x q) (lE Z.p Z.EX (tnM m) i) rSetL) D σ H := by
  obtain ⟨τ, m, r, rfl, S, hr, h⟩ := h
  refine ⟨m, ?_⟩
  simp only [msS] at hr
  obtain ⟨⟨j1, k1⟩, h1, hr⟩ := Option.bind_eq_some_iff.mp hr
  obtain ⟨⟨j2, k2⟩, h2, hr⟩ := Option.bind_eq_some_iff.mp hr
  split at hr
  · rename_i k hmx
    obtain ⟨⟨c1, c2, c3, c4, c5⟩, rfl⟩ := if_some hr
    have c1 : j1 = 0 := c1
    subst c1
    simp only [ex] at h
    refine ⟨τ, rfl, S.ok, 0, k1, h1, (h.lg S c5).mono (Same.refl _) fun d _ h te H1 hte R => ?_⟩
    subst hte
    cases ep : evP q (dτ τ) with
    | exc c => exact absurd ep (evP_noexc _ _ _)
    | bad => rw [ep] at h; exact (show False from h).elim
    | ok is =>
    rw [ep] at h
    cases ei : ev i (dτ τ) with
    | exc c => rw [ei] at h; exact (show False from h).elim
    | bad => rw [ei] at h; exact (show False from h).elim
    | ok di =>
    rw [ei] at h
    cases di with
    | int n =>
      simp only at h
      obtain ⟨t, d', ht, hu, h⟩ := upd_nxt (δ := dτ τ) h
      obtain ⟨a, ts, ds', hs, hf, hd'⟩ := upd_dat is hu
      unfold setAt at hf
      obtain ⟨j, hj, rfl⟩ := Option.map_eq_some_iff.mp hf
      rw [dats_length] at hj
      obtain ⟨l1, l2⟩ := lnE_is ep
      refine ⟨τ, t, is, .lst a ts, rfl, S.ok.same R.same, pathOk_is c4, ht, (S.at ht hmx (by intro c; cases c)).same R.same, ep, hs, fun H2 s2 => ?_⟩
      refine ⟨τ, rfl, S.ok.same (R.same.trans s2), j2, k2, h2, ?_⟩
      rw [ei]
      intro t2 H3 ht2 R3
      have hv : t2.val = .int n := by cases t2 <;> simp [T.dat] at ht2 <;> simp [T.val, ht2]
      rw [hv]
      have s3 : Same H1 H3 := s2.trans R3.same
      have sH3 : Same H H3 := R.same.trans s3
      have S3 := S.grow sH3
      have hl : lnP is < k := by rw [l1]; exact c2
      have aadr : a ∈ t.adr k := (sub_in is (k := k) hs (by omega)).2 a (by
        have : k - lnP is = (k - lnP is - 1) + 1 := by omega
        rw [this]; exact List.mem_cons_self ..)
      have okt := subT_ok _ (S3.at ht hmx (by intro c; cases c)) hs
      have hpl := plain_at okt.1 (S3.own x t k a ht hmx aadr).2
      have hjl : j < ts.length := by
        unfold ixN at hj
        split at hj
        · split at hj
          · cases hj; omega
          · cases hj
        · split at hj
          · cases hj; omega
          · cases hj
      have hc : ts[j]? = some ts[j] := List.getElem?_eq_getElem hjl
      refine ⟨a, _, n, j, rfl, rfl, hpl, by rw [List.length_map]; exact hj, ?_⟩
      rw [← List.map_set]
      have R' : Rs Z.p (Sh (tnM m) τ) H H3 0 (k - 1 - lnP is) te := (R.fwd s3).le (Nat.le_refl _) (by rw [l1]; exact c3)
      obtain ⟨t', p1, p2, S4, P4⟩ := sf_new (us := ts.set j te) (es := [te]) S sH3 ht hmx hs hl (T.oks_iff.mpr fun w hw => by
          rcases List.mem_or_eq_of_mem_set hw with z | rfl
          · exact T.oks_iff.mp okt.2 w z
          · exact R'.ok)
        (fun b z => (show b ∈ T.adrs ts _ ∨ b ∈ T.adrs [te] _ from by
          obtain ⟨w, hw, z2⟩ := T.mem_adrs.mp z
          rcases List.mem_or_eq_of_mem_set hw with y | rfl
          · exact .inl (T.mem_adrs.mpr ⟨w, y, z2⟩)
          · exact .inr (by simpa [T.adrs] using z2)))
        (fun b z => (by
          obtain ⟨w, hw, z2⟩ := T.mem_rests.mp z
          rcases List.mem_or_eq_of_mem_set hw with y | rfl
          · exact .inl (T.mem_rests.mpr ⟨w, y, z2⟩)
          · exact .inr (by simpa [T.rests] using T.rest_le w (Nat.zero_le _) z2)))
        (fun n1 n2 n3 => (nds_set hc R'.nd n1 n2 n3).1)
        (fun b z => R'.src b (by simpa [T.rests] using z)) (fun b z => R'.new b (by simpa [T.adrs] using z))
      have := h _ _ _ (by rw [l2]) (by rw [dτ_set, hd' _ _ (dats_set ..) p1]) S4 P4
      rw [vτ_same ht p2] at this
      exact this
    | _ => exact (show False from h).elim
  · cases hr
theorem tyV_lst {K : Frag} {H : Hp} {a : Addr} {vs : List V} (h : H a = some (.lst vs)) : tyV K "list" (.ref a) H := .inl ⟨rfl, _, SqL.of h⟩
theorem mut_core {x : Nat} {q : List (Bool × E)} {u : Um} {es : Es} {k : Nat} (S : Sf Z.p Z.H0 Z.A0 m τ H) (hmx : m[x]? = some (.ow k)) (c2 : lnE q < k) (c4 : pathOk m q = true) (h : lOut Z m r [x] (ex (.mut x q u es) (dτ τ)) τ H D) :
    ∃ t is ds a ts ds', τ[x]? = some (some t) ∧ evP q (dτ τ) = .ok is ∧ evs es (dτ τ) = .ok ds ∧ subT is t = some (.lst a ts) ∧ lnP is = lnE q ∧ is.isEmpty = q.isEmpty ∧ umD u ds (T.dats ts) = some ds' ∧
      (∀ H3, Same H H3 → H3 a = some (.lst (ts.map T.val)) ∧ T.Oks Z.p H3 ts ∧ a ∈ t.adr k) ∧
      (∀ us m' H3 t', T.dats us = ds' → r = some m' → putT (.lst a us) is t = some t' → t'.val = t.val → Sf Z.p Z.H0 Z.A0 m' (τ.set x (some t')) (L2.upd H3 a (.lst (us.map T.val))) → Stp m m' [x] τ (τ.set x (some t')) H (L2.upd H3 a (.lst (us.map T.val))) → D.nx (vτ τ) (L2.upd H3 a (.lst (us.map T.val)))) := by
  simp only [ex] at h
  cases ep : evP q (dτ τ) with
  | exc c => exact absurd ep (evP_noexc _ _ _)
  | bad => rw [ep] at h; exact (show False from h).elim
  | ok is =>
  rw [ep] at h
  cases ee : evs es (dτ τ) with
  | exc c => rw [ee] at h; exact (show False from h).elim
  | bad => rw [ee] at h; exact (show False from h).elim
  | ok ds =>
  rw [ee] at h
  simp only at h
  obtain ⟨t, d', ht, hu, h⟩ := upd_nxt (δ := dτ τ) h
  obtain ⟨a, ts, ds', hs, hf, hd'⟩ := upd_dat is hu
  obtain ⟨l1, l2⟩ := lnE_is ep
  refine ⟨t, is, ds, a, ts, ds', ht, rfl, rfl, hs, l1, l2, hf, fun H3 sH3 => ?_, fun us m' H3 t' e1 e2 p1 p2 S4 P4 => ?_⟩
  · have S3 := S.grow sH3
    have hl : lnP is < k := by rw [l1]; exact c2
    have aadr : a ∈ t.adr k := (sub_in is (k := k) hs (by omega)).2 a (by
      have : k - lnP is = (k - lnP is - 1) + 1 := by omega
      rw [this]; exact List.mem_cons_self ..)
    have okt := subT_ok _ (S3.at ht hmx (by intro c; cases c)) hs
    exact ⟨plain_at okt.1 (S3.own x t k a ht hmx aadr).2, okt.2, aadr⟩
  · have := h m' _ _ e2 (by rw [dτ_set, hd' us t' e1 p1]) S4 P4
    rw [vτ_same ht p2] at this
    exact this
noncomputable def rUm : Um → V → List V → Hp → VK → Prop
  | .append => rAppend
  | .extend => fun x vs H Q => ∃ l b xs zs, x = .ref l ∧ vs = [.ref b] ∧ H l = some (.lst xs) ∧ Rd H b (.lst zs) ∧ xs.length + zs.length ≤ sizeLine ∧ Q .non (L2.upd H l (.lst (xs ++ zs)))
  | .clear => rClear
noncomputable def rExtendR : V → List V → Hp → VK → Prop := fun x vs H Q => ∃ l b xs zs, x = .ref l ∧ vs = [.ref b] ∧ H l = some (.lst xs) ∧ Rd H b (.lst zs) ∧ xs.length + zs.length ≤ sizeLine ∧ Q .non (L2.upd H l (.lst (xs ++ zs)))
end
section
variable {X : Cx}
theorem mt_extendR : MtM X "list.extend" rExtendR := by
  intro pins s σ H x vs v us Q I rx rv h
  obtain ⟨l, b, xs, zs, rfl, rfl, hH, hB, hz, q⟩ := h
  cases rx
  obtain ⟨u, rfl, ru⟩ := rv.one
  cases ru
  obtain ⟨z, its, n, r, hl, e⟩ := I.lstM hH
  obtain ⟨z2, its2, n2, r2, hl2, e2⟩ := Inv.lstR I hB
  have hsz : its.toArray.size + its2.toArray.size ≤ sizeLine := by rw [List.size_toArray, List.size_toArray]; omega
  have hlong : ¬ (!its.toArray.isEmpty && Builtin.List.listTooLong (its.toArray.size + its2.toArray.size)) = true := by
    rw [notLongL hsz, Bool.and_false]
    exact Bool.false_ne_true
  refine call_meets F.slot_list_extend ⟨_, e, rfl⟩ F.entry_list_extend (F.args_list_extend_2 _ _)
    (AutoSeq1.list_extend_list_list_0 l its.toArray n b its2.toArray n2 hlong (by rw [List.size_toArray]; omega) (by omega)) ⟨e, e2, ?_⟩
  refine ⟨.non, _, I.lset (its' := its ++ its2) hH e (by simp) (r.append r2) ?_, rfl, q⟩
  rw [List.length_append]
  omega
end
section
variable {Z : Zx} {m : Ms} {r : Option Ms} {w : List Nat} {τ : Ft} {H : Hp} {D : Ends} {X : Cx} {pos : Pos} {σ : L2.St}
theorem mut_new {x : Nat} {q : List (Bool × E)} {u : Um} {es : Es} {k : Nat} (hK : X.K = Z.p.K) (S : Sf Z.p Z.H0 Z.A0 m τ H) (hmx : m[x]? = some (.ow k)) (c2 : lnE q < k) (c4 : pathOk m q = true) {j1 k1 : Nat} (h1 : jks (tnM m) es = some (j1, k1))
    (hc : (j1 = 0 ∨ (u = .extend ∧ j1 ≤ 1)) ∧ (k - 1 - lnE q = 0 ∨ (u.kind = 1 ∧ k - 1 - lnE q ≤ k1) ∨ (u.kind = 2 ∧ k - lnE q ≤ k1) ∨ u.kind = 0)) (hr : r = some (if q.isEmpty then m else killBr m)) (h : lOut Z m r [x] (ex (.mut x q u es) (dτ τ)) τ H D) :
    lPl Z.p Z.EX (tnM m) x q (vτ τ) H fun v H1 => tyV X.K "list" v H1 ∧ lEs Z.p Z.EX (tnM m) es (vτ τ) H1 fun vs H2 => rUm u v vs H2 fun _ H3 => D.nx (vτ τ) H3 := by
  obtain ⟨t, is, ds, a, ts, ds', ht, ep, ee, hs, l1, l2, hf, hpl, hnx⟩ := mut_core S hmx c2 c4 h
  subst hr
  refine ⟨τ, t, is, .lst a ts, rfl, S.ok, pathOk_is c4, ht, S.at ht hmx (by intro c; cases c), ep, hs, fun H1 s1 => ⟨tyV_lst (hpl H1 s1).1, ?_⟩⟩
  refine ⟨τ, rfl, S.ok.same s1, j1, k1, h1, ?_⟩
  rw [ee]
  intro tes H2 hte R
  subst hte
  have s2 : Same H H2 := s1.trans R.same
  obtain ⟨p0, okt, aadr⟩ := hpl H2 s2
  have hl : lnP is < k := by rw [l1]; exact c2
  have fin : ∀ us es', T.dats us = ds' → T.Oks Z.p H2 us → (∀ b ∈ T.adrs us (k - 1 - lnP is), b ∈ T.adrs ts (k - 1 - lnP is) ∨ b ∈ T.adrs es' (k - 1 - lnP is)) → (∀ b ∈ T.rests us (k - 1 - lnP is), b ∈ T.rests ts (k - 1 - lnP is) ∨ b ∈ T.rests es' 0) →
      (T.Nds ts (k - 1 - lnP is) → (∀ b ∈ T.adrs es' (k - 1 - lnP is), b ∉ T.rests ts 0) → (∀ b ∈ T.adrs ts (k - 1 - lnP is), b ∉ T.rests es' 0) → T.Nds us (k - 1 - lnP is)) → (∀ b ∈ T.rests es' 0, H b = none ∨ Sh (tnM m) τ b) → (∀ b ∈ T.adrs es' (k - 1 - lnP is), H b = none ∧ Mu H2 b) →
      D.nx (vτ τ) (L2.upd H2 a (.lst (us.map T.val))) := by
    intro us es' e1 e2 e3 e4 e5 e6 e7
    obtain ⟨t', p1, p2, S4, P4⟩ := sf_new (us := us) (es := es') S s2 ht hmx hs hl e2 e3 e4 e5 e6 e7
    rw [l2] at S4 P4
    exact hnx us _ H2 t' e1 rfl p1 p2 S4 P4
  have hz : ts.length ≤ sizeLine ∨ True := .inr trivial
  cases u with
  | append =>
    rcases tes with _ | ⟨te, _ | ⟨te2, ter⟩⟩
    · cases hf
    · simp only [T.dats, umD] at hf
      obtain ⟨hlt, rfl⟩ := if_some hf
      have hj : j1 = 0 := by
        rcases hc.1 with z | ⟨z, _⟩
        · exact z
        · cases z
      subst hj
      have hk1 : k - 1 - lnP is ≤ k1 ∨ k - 1 - lnP is = 0 := by
        rw [l1]
        rcases hc.2 with z | ⟨_, z⟩ | ⟨z, _⟩ | z
        · exact .inr z
        · exact .inl z
        · cases z
        · cases z
      refine ⟨a, _, te.val, rfl, rfl, p0, by rw [List.length_map, ← dats_length]; exact hlt, ?_⟩
      have := fin (ts ++ [te]) [te] (by rw [T.dats_map, List.map_append, ← T.dats_map]; rfl) (T.oks_iff.mpr fun w hw => by
          rcases List.mem_append.mp hw with z | z
          · exact T.oks_iff.mp okt w z
          · exact T.oks_iff.mp R.ok w z)
        (fun b z => by rw [T.adrs_append, List.mem_append] at z; exact z) (fun b z => by
          rw [T.rests_append, List.mem_append] at z
          refine z.imp id fun z => ?_
          simp only [T.rests, List.append_nil] at z ⊢
          exact T.rest_le te (Nat.zero_le _) z)
        (fun n1 n2 n3 => nds_snoc (by
          rcases hk1 with z | z
          · exact (T.nds_le z R.nd : T.Nds [te] _) |> fun w => (T.nds_cons.mp w).1
          · rw [z]; exact T.nd_zero te) n1 n2 n3)
        (fun b z => (R.src b z).imp s1.free id) (fun b z => by
          rcases hk1 with y | y
          · obtain ⟨w, hw, z⟩ := T.mem_adrs.mp z
            have := R.new b (T.mem_adrs.mpr ⟨w, hw, T.adr_le w y z⟩)
            exact ⟨s1.free this.1, this.2⟩
          · rw [y, T.adrs_zero] at z; cases z)
      rw [List.map_append] at this
      exact this
    · have : umD .append (T.dats (te :: te2 :: ter)) (T.dats ts) = none := rfl
      rw [this] at hf; cases hf
  | extend =>
    rcases tes with _ | ⟨te, _ | ⟨te2, ter⟩⟩
    · cases hf
    · cases te with
      | lst b0 es' =>
        simp only [T.dats, T.dat, umD] at hf
        obtain ⟨hlt, rfl⟩ := if_some hf
        have hj : j1 ≤ 1 := by
          rcases hc.1 with z | ⟨_, z⟩
          · omega
          · exact z
        have hk1 : k - 1 - lnP is + 1 ≤ k1 ∨ k - 1 - lnP is = 0 := by
          rw [l1]
          rcases hc.2 with z | ⟨z, _⟩ | ⟨_, z⟩ | z
          · exact .inr z
          · cases z
          · exact .inl (by omega)
          · cases z
        refine ⟨a, b0, _, _, rfl, rfl, p0, R.ok.1.1, by rw [List.length_map, List.length_map, ← dats_length, ← dats_length]; exact hlt, ?_⟩
        have nde : T.Nds es' (k - 1 - lnP is) := by
          rcases hk1 with z | z
          · obtain ⟨n1, n2⟩ := (T.nds_cons.mp (T.nds_le z R.nd)).1
            simp only [T.adr, T.rest, List.nodup_cons] at n1 n2
            exact ⟨n1.2, fun b y w => n2 b y (List.mem_cons_of_mem _ w)⟩
          · rw [z]; exact T.nds_zero _
        have := fin (ts ++ es') es' (by rw [T.dats_map, List.map_append, ← T.dats_map, ← T.dats_map]) (T.oks_iff.mpr fun w hw => by
            rcases List.mem_append.mp hw with z | z
            · exact T.oks_iff.mp okt w z
            · exact T.oks_iff.mp R.ok.1.2 w z)
          (fun b z => by rw [T.adrs_append, List.mem_append] at z; exact z) (fun b z => by
            rw [T.rests_append, List.mem_append] at z
            refine z.imp id fun z => ?_
            obtain ⟨w, hw, z2⟩ := T.mem_rests.mp z
            exact T.mem_rests.mpr ⟨w, hw, T.rest_le w (Nat.zero_le _) z2⟩)
          (fun n1 n2 n3 => T.nds_append n1 nde n3 n2)
          (fun b z => (R.src b (by
            simp only [T.rests, List.append_nil]
            exact T.rest_le (.lst b0 es') hj (j' := 1) z)).imp s1.free id) (fun b z => by
            rcases hk1 with y | y
            · have := R.new b (T.mem_adrs.mpr ⟨.lst b0 es', List.mem_singleton.mpr rfl, T.adr_le (.lst b0 es') y (List.mem_cons_of_mem _ z)⟩)
              exact ⟨s1.free this.1, this.2⟩
            · rw [y, T.adrs_zero] at z; cases z)
        rw [List.map_append] at this
        exact this
      | _ => cases hf
    · have : umD .extend (T.dats (te :: te2 :: ter)) (T.dats ts) = none := rfl
      rw [this] at hf; cases hf
  | clear =>
    rcases tes with _ | ⟨te, ter⟩
    · cases hf
      refine ⟨a, _, rfl, rfl, p0, ?_⟩
      exact fin [] [] rfl trivial (fun b z => nomatch z) (fun b z => nomatch z) (fun n1 _ _ => by simp [T.Nds, T.adrs]) (fun b z => nomatch z) (fun b z => nomatch z)
    · have : umD .clear (T.dats (te :: ter)) (T.dats ts) = none := rfl
      rw [this] at hf; cases hf
end
end Pu
end
section
namespace Pu
open PySem PySem.Spec PyProof.Rows PySem.W L2
section
variable {p : Px} {H0 : Hp} {A0 : Addr → Prop} {m : Ms} {τ : Ft} {H H1 : Hp}
theorem sf_br {y ky : Nat} {ty : T} (S : Sf p H0 A0 (m.set y .dead) τ H) (hy : τ[y]? = some (some ty)) (hm : y < m.length) (h90 : ky < 90) (ok : ty.Ok p H) (src : ∀ a ∈ ty.rest ky, H0 a = none ∨ A0 a)
    (sep : ∀ (i : Nat) (t : T) (k : Nat), τ[i]? = some (some t) → (m.set y .dead)[i]? = some (.ow k) → ∀ a ∈ t.adr k, a ∉ ty.rest ky) (top : ∀ (i : Nat) (t : T) (k : Nat), τ[i]? = some (some t) → (m.set y .dead)[i]? = some (.ow k) → ∀ a ts, t = .lst a ts → a ∉ ty.rest 0) : Sf p H0 A0 (m.set y (.br ky)) τ H := by
  have back : ∀ {i : Nat} {d : Md}, (m.set y (.br ky))[i]? = some d → (i = y ∧ d = .br ky) ∨ (i ≠ y ∧ (m.set y .dead)[i]? = some d) := by
    intro i d h
    rcases set_get h with z | ⟨z1, z2⟩
    · exact .inl z
    · exact .inr ⟨z1, by rw [List.getElem?_set_ne (Ne.symm z1)]; exact z2⟩
  have ow' : ∀ {i k : Nat}, (m.set y (.br ky))[i]? = some (.ow k) → (m.set y .dead)[i]? = some (.ow k) := by
    intro i k h
    rcases back h with ⟨_, z⟩ | ⟨_, z⟩
    · cases z
    · exact z
  refine ⟨by have := S.len; rw [List.length_set] at this ⊢; exact this, fun d hd => ?_, S.same, fun i t j e ej l => ?_, fun i t k a e hk q => S.own i t k a e (ow' hk) q, fun a sh => ?_, fun i t k e hk => S.nd i t k e (ow' hk), fun i j t u k d ne e hk e' hd nd a q => ?_, fun i j t u k k2 e hk e' hd a ts z => ?_⟩
  · obtain ⟨i, hi, rfl⟩ := List.getElem_of_mem hd
    rcases back (List.getElem?_eq_getElem hi) with ⟨_, z⟩ | ⟨_, z⟩
    · rw [z]; exact decide_eq_true h90
    · exact S.small _ (List.mem_of_getElem? z)
  · obtain ⟨d, hd, rfl⟩ := tnM_get ej
    rcases back hd with ⟨rfl, z⟩ | ⟨_, z⟩
    · rw [hy] at e; cases e; exact ok
    · exact S.ok i t _ e (tnM_of z) l
  · obtain ⟨i, t, j, e, ej, l, q⟩ := sh
    obtain ⟨d, hd, rfl⟩ := tnM_get ej
    rcases back hd with ⟨rfl, z⟩ | ⟨_, z⟩
    · rw [hy] at e; cases e; subst z; exact src a q
    · exact S.src a ⟨i, t, _, e, tnM_of z, l, q⟩
  · rcases back hd with ⟨rfl, z⟩ | ⟨_, z⟩
    · rw [hy] at e'; cases e'; subst z; exact sep i t k e (ow' hk) a q
    · exact S.sep i j t u k d ne e (ow' hk) e' z nd a q
  · rcases back hd with ⟨rfl, z'⟩ | ⟨_, z'⟩
    · rw [hy] at e'; cases e'; exact top i t k e (ow' hk) a ts z
    · exact S.top i j t u k k2 e (ow' hk) e' z' a ts z
theorem sf_move {x y k ky : Nat} {ty : T} {a : Addr} {ts : List T} (S : Sf p H0 A0 m τ H) (s : Same H H1) (hx : τ[x]? = some (some (.lst a ts))) (hm : m[x]? = some (.ow k)) (hy : τ[y]? = some (some ty)) (hmy : m[y]? = some (.ow ky)) (hne : y ≠ x) (hk : k - 1 ≤ ky) :
    Sf p H0 A0 (m.set y (.br ky)) (τ.set x (some (.lst a (ts ++ [ty])))) (L2.upd H1 a (.lst ((ts ++ [ty]).map T.val))) ∧ Stp m (m.set y (.br ky)) [x] τ (τ.set x (some (.lst a (ts ++ [ty])))) H (L2.upd H1 a (.lst ((ts ++ [ty]).map T.val))) := by
  have S1 := S.grow s
  have sm : 0 < k ∧ k < 90 := of_decide_eq_true (S.small _ (List.mem_of_getElem? hm))
  have smy : 0 < ky ∧ ky < 90 := of_decide_eq_true (S.small _ (List.mem_of_getElem? hmy))
  have no : ∀ {k0 : Nat}, Md.ow k0 ≠ .dead := by intro k0 c; cases c
  have hyl : y < m.length := (List.getElem?_eq_some_iff.mp hmy).1
  have sxy : ∀ b ∈ (T.lst a ts).adr k, b ∉ ty.rest 0 := S.sep x y _ ty k _ (Ne.symm hne) hx hm hy hmy no
  have syx : ∀ b ∈ ty.adr ky, b ∉ (T.lst a ts).rest 0 := S.sep y x ty _ ky _ hne hy hmy hx hm no
  obtain ⟨k', rfl⟩ : ∃ k', k = k' + 1 := ⟨k - 1, by omega⟩
  have aadr : a ∈ (T.lst a ts).adr (k' + 1) := List.mem_cons_self ..
  have ndx := S.nd x _ _ hx hm
  have ndt : T.Nds ts k' := by
    obtain ⟨n1, n2⟩ := ndx
    simp only [T.adr, T.rest, List.nodup_cons] at n1 n2
    exact ⟨n1.2, fun b z y => n2 b z (List.mem_cons_of_mem _ y)⟩
  have hk' : k' ≤ ky := by omega
  have okx := S1.at hx hm no
  have oky := S1.at hy hmy no
  have e0 : k' + 1 - 1 - lnP [] = k' := by simp [lnP]
  obtain ⟨t', p1, p2, S2, P2⟩ := sf_put (F := fun b => b ∈ ty.adr k') (N := fun b => b ∈ ty.rest 0) (m1 := m.set y .dead) (us := ts ++ [ty]) (q := []) S s hx hm rfl (by simp [lnP])
    (T.oks_iff.mpr fun w hw => by
      rcases List.mem_append.mp hw with z | z
      · exact T.oks_iff.mp okx.2 w z
      · cases List.mem_singleton.mp z; exact oky)
    (fun b z => (T.all_iff ty k').mpr (.inl z))
    (by
      rw [e0]
      intro b z
      rw [T.adrs_append, List.mem_append] at z
      exact z.imp id fun z => by simpa [T.adrs] using z)
    (by
      rw [e0]
      intro b z
      rw [T.rests_append, List.mem_append] at z
      exact z.imp id fun z => T.rest_le ty (Nat.zero_le k') (by simpa [T.rests] using z))
    (by
      rw [e0]
      exact nds_snoc (T.nd_le ty hk' (S.nd y ty ky hy hmy)) ndt (fun b z w => syx b (T.adr_le ty hk' (by simpa [T.adrs] using z)) (List.mem_cons_of_mem _ w)) (fun b z w => sxy b (List.mem_cons_of_mem _ z) (by simpa [T.rests] using w)))
    (fun b z => syx b (T.adr_le ty hk' z)) (fun b z => S1.own y ty ky b hy hmy (T.adr_le ty hk' z)) (fun b z => .inl ⟨y, ty, ky, hy, hmy, T.adr_le ty hk' z⟩) (fun b z w => sxy b w z)
    (fun b z => by
      rcases (T.all_iff ty ky).mp z with w | w
      · exact .inl (S.own y ty ky b hy hmy w).1
      · exact S.src b ⟨y, ty, ky, hy, tnM_of hmy, smy.2, w⟩)
    (by rw [List.length_set]) (by rw [List.getElem?_set_ne hne]; exact hm)
    (fun j d ne hd nd => by
      rcases set_get hd with ⟨_, z⟩ | ⟨_, z⟩
      · exact absurd z nd
      · exact ⟨z, fun w => absurd rfl w⟩)
    (fun j u d ne e hd nd b z => by
      rcases set_get hd with ⟨_, w⟩ | ⟨w, hd⟩
      · exact absurd w nd
      · exact S.sep y j ty u ky d (Ne.symm w) hy hmy e hd nd b (T.adr_le ty hk' z))
    (fun i u k2 ne e hk2 b z w => by
      rcases set_get hk2 with ⟨_, w'⟩ | ⟨w', hk2⟩
      · cases w'
      · exact S.sep i y u ty k2 _ w' e hk2 hy hmy no b w z)
  cases p1
  have hy' : (τ.set x (some (.lst a (ts ++ [ty]))))[y]? = some (some ty) := by rw [List.getElem?_set_ne (Ne.symm hne)]; exact hy
  have atop : a ∉ ty.rest 0 := sxy a aadr
  refine ⟨sf_br S2 hy' hyl smy.2 ?_ (fun b z => S.src b ⟨y, ty, ky, hy, tnM_of hmy, smy.2, z⟩) (fun i t k2 e hk2 b z w => ?_) (fun i t k2 e hk2 b cs z => ?_), P2.keep, fun b o => P2.grow b ?_, P2.wr, P2.ad⟩
  · refine keep_ok (H := H1) (fun b w e n => by rw [upd_ne n]; exact e) (S1.own x _ _ a hx hm aadr).2 oky atop
  · rcases set_get e with ⟨rfl, e2⟩ | ⟨n1, e1⟩
    · cases e2
      rcases set_get hk2 with ⟨w', _⟩ | ⟨_, hk2⟩
      · exact hne w'.symm
      · rw [hm] at hk2
        cases hk2
        simp only [T.adr, T.adrs_append, T.adrs, List.mem_cons, List.mem_append, List.append_nil] at z
        rcases z with rfl | z | z
        · exact atop (T.rest_le ty (Nat.zero_le _) w)
        · exact sxy b (List.mem_cons_of_mem _ z) (T.rest_le ty (Nat.zero_le _) w)
        · exact (S.nd y ty ky hy hmy).2 b w (T.adr_le ty hk' z)
    · rcases set_get hk2 with ⟨_, w'⟩ | ⟨w', hk2⟩
      · cases w'
      · exact S.sep i y t ty k2 _ w' e1 hk2 hy hmy no b z (T.rest_le ty (Nat.zero_le _) w)
  · rcases set_get e with ⟨rfl, e2⟩ | ⟨n1, e1⟩
    · cases e2
      cases z
      exact atop
    · rcases set_get hk2 with ⟨_, w'⟩ | ⟨w', hk2⟩
      · cases w'
      · subst z
        have := of_decide_eq_true (S.small _ (List.mem_of_getElem? hk2))
        refine S.sep i y _ ty k2 _ w' e1 hk2 hy hmy no b ?_
        obtain ⟨k3, rfl⟩ : ∃ k3, k2 = k3 + 1 := ⟨k2 - 1, by omega⟩
        exact List.mem_cons_self ..
  · obtain ⟨i, t, k2, e, hk2, z⟩ := o
    refine ⟨i, t, k2, e, ?_, z⟩
    rcases set_get hk2 with ⟨_, w'⟩ | ⟨w', hk2⟩
    · cases w'
    · rw [List.getElem?_set_ne (Ne.symm w')]; exact hk2
end
section
variable {Z : Zx} {m : Ms} {r : Option Ms} {τ : Ft} {H : Hp} {D : Ends} {X : Cx}
theorem mut_mv {x y k ky : Nat} (S : Sf Z.p Z.H0 Z.A0 m τ H) (hmx : m[x]? = some (.ow k)) (hmy : m[y]? = some (.ow ky)) (hne : y ≠ x) (hk : k - 1 ≤ ky) (hr : r = some (m.set y (.br ky))) (h : lOut Z m r [x] (ex (.mut x [] .append (.cons (.nm y) .nil)) (dτ τ)) τ H D) :
    lPl Z.p Z.EX (tnM m) x [] (vτ τ) H fun v H1 => tyV X.K "list" v H1 ∧ (tCons (tVar y) tNil) (vτ τ) H1 fun vs H2 => rAppend v vs H2 fun _ H3 => D.nx (vτ τ) H3 := by
  have sm : 0 < k ∧ k < 90 := of_decide_eq_true (S.small _ (List.mem_of_getElem? hmx))
  obtain ⟨t, is, ds, a, ts, ds', ht, ep, ee, hs, l1, l2, hf, hpl, hnx⟩ := mut_core S hmx (by simp [lnE]; omega) rfl h
  cases ep
  cases hs
  subst hr
  simp only [evs, ev] at ee
  obtain ⟨d, e1, ee⟩ := Res.bind_eq_ok ee
  cases ee
  obtain ⟨ty, hy, rfl⟩ := dτ_get e1
  simp only [umD] at hf
  obtain ⟨hlt, rfl⟩ := if_some hf
  refine ⟨τ, _, [], .lst a ts, rfl, S.ok, pathOk_is rfl, ht, S.at ht hmx (by intro c; cases c), rfl, rfl, fun H1 s1 => ⟨tyV_lst (hpl H1 s1).1, ?_⟩⟩
  refine ⟨ty.val, vτ_get hy, ?_⟩
  show rAppend (.ref a) [ty.val] H1 (fun _ H3 => D.nx (vτ τ) H3)
  refine ⟨a, _, ty.val, rfl, rfl, (hpl H1 s1).1, by rw [List.length_map, ← dats_length]; exact hlt, ?_⟩
  obtain ⟨S2, P2⟩ := sf_move S s1 ht hmx hy hmy hne hk
  have := hnx (ts ++ [ty]) _ H1 _ (by rw [T.dats_map, List.map_append, ← T.dats_map]; rfl) rfl rfl rfl S2 P2
  rw [List.map_append] at this
  exact this
end
end Pu
end
section
namespace Pu
open PySem PySem.Spec PyProof.Rows PySem.W L2
section
variable {Z : Zx} {m : Ms} {r : Option Ms} {w : List Nat} {τ : Ft} {H : Hp} {D : Ends} {X : Cx} {pos : Pos} {σ : L2.St}
theorem expr_to {e : E} (h : lS Z (.expr e) D σ H) : ∃ m, tDrop (lE Z.p Z.EX (tnM m) e) D σ H := by
  obtain ⟨τ, m, r, rfl, S, hr, h⟩ := h
  refine ⟨m, ?_⟩
  simp only [msS] at hr
  obtain ⟨⟨j1, k1⟩, h1, hr⟩ := Option.bind_eq_some_iff.mp hr
  obtain ⟨c2, rfl⟩ := if_some hr
  simp only [ex] at h
  exact ⟨τ, rfl, S.ok, j1, k1, h1, (h.lg S c2).mono (Same.refl _) fun d _ h t H1 ht R => h m τ H1 rfl rfl (S.grow R.same) (Stp.refl _ (leM_refl S.small) R.same)⟩
theorem kcX_lt {c : Nat} (h : c < 1000) : kcX c = c := if_neg (Nat.not_le_of_lt h)
theorem raiseA_to {e : E} (h : lS Z (.raiseA e) D σ H) : ∃ m, lE Z.p Z.EX (tnM m) e σ H fun v H1 => ∃ i : Int, v = .int i ∧ (Z.p.has 4 = true → ∀ H2 dx ob, Same H1 H2 → H2 dx = some (.frz ob (.xd [("at", .int i)])) → Z.EX σ (.ref (Z.p.cl 4)) (some dx) H2) := by
  obtain ⟨τ, m, r, rfl, S, hr, h⟩ := h
  refine ⟨m, ?_⟩
  simp only [msS] at hr
  obtain ⟨⟨j1, k1⟩, h1, hr⟩ := Option.bind_eq_some_iff.mp hr
  obtain ⟨c2, rfl⟩ := if_some hr
  simp only [ex] at h
  refine ⟨τ, rfl, S.ok, j1, k1, h1, (h.lg S c2).mono (Same.refl _) fun d e h t H1 ht R => ?_⟩
  subst ht
  cases t with
  | int i =>
    refine ⟨i, rfl, fun hc H2 dx ob sm hd => ?_⟩
    have k : kcX (xatN i) = 4 := if_pos (xatN_ge i)
    have s2 := R.same.trans sm
    have := h (by rw [k]; exact hc) τ H2 rfl ((S.weak c2).grow s2) (Stp.refl _ c2 s2) (some dx) (.inr ⟨xatN_ge i, dx, ob, rfl, by rw [xatI_atN]; exact hd⟩)
    rw [k] at this; exact this
  | _ => exact (show False from h).elim
theorem ret_to {e : E} (h : lS Z (.ret e) D σ H) : (∃ (i : Nat) (t : T), e = .nm i ∧ σ[i]? = some (some t.val) ∧ D.rt t.val H) ∨ ∃ m, lE Z.p Z.EX (tnM m) e σ H D.rt := by
  obtain ⟨τ, m, r, rfl, S, hr, h⟩ := h
  simp only [msS] at hr
  obtain ⟨k, hk, hr⟩ := Option.bind_eq_some_iff.mp hr
  obtain ⟨⟨⟨c1, c0⟩, c2⟩, rfl⟩ := if_some hr
  simp only [ex] at h
  have gen : ∀ j, (jk (tnM m) e = some (j, k)) → j = 0 → ∃ m, lE Z.p Z.EX (tnM m) e (vτ τ) H D.rt := by
    intro j hj hz
    subst hz
    refine ⟨m, τ, rfl, S.ok, 0, k, hj, (h.lg S c2).mono (Same.refl _) fun d _ h t H1 ht R => lRet.lo h c0 ht ⟨S.same.trans R.same, R.ok, fun a q => ?_, fun a q => ?_, T.nd_le t c1 R.nd⟩⟩
    · rcases R.src a q with z | z
      · exact .inl (S.same.free z)
      · exact S.src a z
    · have := R.new a (T.adr_le t c1 q)
      exact ⟨S.same.free this.1, this.2⟩
  by_cases hnm : ∃ i, e = .nm i
  · obtain ⟨i, rfl⟩ := hnm
    simp only [rk] at hk
    cases q : get (dτ τ) i with
    | exc c => unfold get at q; split at q <;> cases q
    | bad => simp only [ev, q] at h; exact (show False from h).elim
    | ok d =>
      obtain ⟨t, ht, rfl⟩ := dτ_get q
      simp only [ev, q] at h
      refine .inl ⟨i, t, rfl, vτ_get ht, lRet.lo h c0 rfl ?_⟩
      split at hk
      · rename_i k0 hm
        cases hk
        have sm : 0 < k ∧ k < 90 := of_decide_eq_true (S.small _ (List.mem_of_getElem? hm))
        refine ⟨S.same, S.at ht hm (by intro c; cases c), fun a z => ?_, fun a z => S.own i t k a ht hm (T.adr_le t c1 z), T.nd_le t c1 (S.nd i t k ht hm)⟩
        rcases (T.all_iff t k).mp z with y | y
        · exact .inl (S.own i t k a ht hm y).1
        · exact S.src a ⟨i, t, k, ht, tnM_of hm, sm.2, y⟩
      · rename_i hm
        cases hk
        have c1 : Z.dep = 0 := by omega
        rw [c1]
        exact ⟨S.same, S.at ht hm (by intro c; cases c), fun a z => S.src a ⟨i, t, 0, ht, tnM_of hm, by decide, z⟩, by rw [T.adr_zero]; simp, T.nd_zero t⟩
      · cases hk
  · refine .inr ?_
    have : rk m e = (jk (tnM m) e).bind fun x => if x.1 = 0 then some x.2 else none := by
      cases e <;> first | rfl | exact absurd ⟨_, rfl⟩ hnm
    rw [this] at hk
    obtain ⟨⟨j1, k1⟩, h1, hk⟩ := Option.bind_eq_some_iff.mp hk
    obtain ⟨z, rfl⟩ := if_some hk
    exact gen j1 h1 z
theorem lOut.weak {r1 r2 : Option Ms} {w1 w2 : List Nat} {o : Out} (h : lOut Z m r2 w2 o τ H D) (hj : okJ r1 r2 = true) (hw : ∀ i ∈ w1, i ∈ w2) : lOut Z m r1 w1 o τ H D := by
  cases o with
  | nxt δ' =>
    intro m' τ' H' e1 e2 S P
    subst e1
    cases r2 with
    | none => cases hj
    | some m2 => exact h m2 τ' H' rfl e2 (S.weak hj) ⟨P.keep, fun a o => P.grow a (o.weak hj), fun i hi => P.wr i fun q => hi (hw i q), fun i hi => P.ad i fun q => hi (hw _ q)⟩
  | ret d => exact h.to hw fun _ _ => rfl
  | exc c δ' => exact fun hc τ' H' e S P => h hc τ' H' e S (P.mono hw)
  | bad => exact h
theorem iff_to {c : E} {a b : Ss} (h : lS Z (.iff c a b) D σ H) : ∃ m, tIfS (lT Z.p Z.EX (tnM m) c) (lSs Z a) (lSs Z b) D σ H := by
  obtain ⟨τ, m, r, rfl, S, hr, h⟩ := h
  refine ⟨m, ?_⟩
  simp only [msS] at hr
  obtain ⟨⟨j1, k1⟩, h1, hr⟩ := Option.bind_eq_some_iff.mp hr
  split at hr
  · rename_i c2
    obtain ⟨ra, h2, hr⟩ := Option.bind_eq_some_iff.mp hr
    obtain ⟨rb, h3, hr⟩ := Option.bind_eq_some_iff.mp hr
    obtain ⟨⟨c3, c4⟩, rfl⟩ := if_some hr
    simp only [ex] at h
    refine ⟨τ, rfl, S.ok, by rw [h1]; rfl, (h.lg S c2).mono (Same.refl _) fun t _ h H1 s1 => ?_⟩
    have S1 := S.grow s1
    have shift : ∀ {o : Out} {r0 : Option Ms} {w0 : List Nat}, lOut Z m r0 w0 o τ H D → lOut Z m r0 w0 o τ H1 D := by
      intro o r0 w0 h
      cases o with
      | nxt δ' => exact fun m' τ' H' e1 e2 S P => h m' τ' H' e1 e2 S ⟨fun a u e n => P.keep a u (s1 a u e) n, fun a o => (P.grow a o).imp id s1.free, P.wr, P.ad⟩
      | ret d => exact h
      | exc c δ' => exact fun hc τ' H' e S P => h hc τ' H' e S ⟨fun a u e n => P.keep a u (s1 a u e) n, fun a o => (P.grow a o).imp id s1.free, P.wr, P.ad⟩
      | bad => exact h
    cases t with
    | true =>
      rw [if_pos rfl] at h
      show (if true = true then lSs Z a D (vτ τ) H1 else lSs Z b D (vτ τ) H1)
      rw [if_pos rfl]
      exact ⟨τ, m, ra, rfl, S1, h2, shift (h.weak c3 fun i hi => List.mem_append_left _ hi)⟩
    | false =>
      rw [if_neg (by decide)] at h
      show (if false = true then lSs Z a D (vτ τ) H1 else lSs Z b D (vτ τ) H1)
      rw [if_neg (by decide)]
      exact ⟨τ, m, rb, rfl, S1, h3, shift (h.weak c4 fun i hi => List.mem_append_right _ hi)⟩
  · cases hr
theorem lOut.shift {H1 : Hp} {o : Out} (s1 : Same H H1) (h : lOut Z m r w o τ H D) : lOut Z m r w o τ H1 D := by
  cases o with
  | nxt δ' => exact fun m' τ' H' e1 e2 S P => h m' τ' H' e1 e2 S ⟨fun a u e n => P.keep a u (s1 a u e) n, fun a o => (P.grow a o).imp id s1.free, P.wr, P.ad⟩
  | ret d => exact h
  | exc c δ' => exact fun hc τ' H' e S P => h hc τ' H' e S ⟨fun a u e n => P.keep a u (s1 a u e) n, fun a o => (P.grow a o).imp id s1.free, P.wr, P.ad⟩
  | bad => exact h
theorem lOut.after {m1 : Ms} {τ1 : Ft} {H1 : Hp} {w1 w2 : List Nat} {o : Out} (P : Stp m m1 w1 τ τ1 H H1) (hw1 : ∀ i ∈ w1, i ∈ w) (hw2 : ∀ i ∈ w2, i ∈ w) (h : lOut Z m r w o τ H D) : lOut Z m1 r w2 o τ1 H1 D := by
  cases o with
  | nxt δ' => exact fun m' τ' H' e1 e2 S Q => h m' τ' H' e1 e2 S ((P.trans Q).mono fun i hi => by
      rcases List.mem_append.mp hi with z | z
      · exact hw1 i z
      · exact hw2 i z)
  | ret d => exact h.to hw2 fun i hi => P.ad i fun z => hi (hw1 _ z)
  | exc c δ' => exact fun hc τ' H' e S Q => h hc τ' H' e S ((P.trans Q).mono fun i hi => by
      rcases List.mem_append.mp hi with z | z
      · exact hw1 i z
      · exact hw2 i z)
  | bad => exact h
theorem seq_to {s : S} {rest : Ss} (h : lSs Z (.cons s rest) D σ H) : lS Z s { D with nx := lSs Z rest D } σ H := by
  obtain ⟨τ, m, r, rfl, S, hr, h⟩ := h
  simp only [msSs] at hr
  obtain ⟨r1, h1, hr⟩ := Option.bind_eq_some_iff.mp hr
  refine ⟨τ, m, r1, rfl, S, h1, ?_⟩
  simp only [exs] at h
  cases q : ex s (dτ τ) with
  | nxt δ' =>
    rw [q] at h
    intro m' τ' H' e1 e2 S' P
    subst e1
    simp only at hr
    refine ⟨τ', m', r, rfl, S', hr, ?_⟩
    rw [e2]
    exact h.after P (fun i hi => List.mem_append_left _ hi) (fun i hi => List.mem_append_right _ hi)
  | ret d => rw [q] at h; exact lRet.to (show lRet Z _ d τ D from h) (fun i hi => List.mem_append_left _ hi) fun _ _ => rfl
  | exc c δ' =>
    rw [q] at h
    exact fun hc τ' H' e S' P => h hc τ' H' e S' (P.mono fun i hi => List.mem_append_left _ hi)
  | bad => rw [q] at h; exact h
theorem nil_to (h : lSs Z .nil D σ H) : D.nx σ H := by
  obtain ⟨τ, m, r, rfl, S, hr, h⟩ := h
  cases hr
  exact h m τ H rfl rfl S (Stp.refl _ (leM_refl S.small) (Same.refl _))
theorem skip_to {s : S} {rest : Ss} (hs : (∃ x k, s = .dem x k) ∨ (∃ x, s = .dead x)) (h : lSs Z (.cons s rest) D σ H) : lSs Z rest D σ H := by
  obtain ⟨τ, m, r, rfl, S, hr, h⟩ := h
  simp only [msSs] at hr
  obtain ⟨r1, h1, hr⟩ := Option.bind_eq_some_iff.mp hr
  rcases hs with ⟨x, k, rfl⟩ | ⟨x, rfl⟩
  · simp only [msS] at h1
    obtain ⟨c, rfl⟩ := if_some h1
    refine ⟨τ, _, r, rfl, S.weak c, hr, ?_⟩
    simp only [exs, ex, Out.then_nxt] at h
    exact h.after (w1 := []) (Stp.refl _ c (Same.refl _)) (fun i hi => nomatch hi) (fun i hi => List.mem_append_right _ hi)
  · simp only [msS] at h1
    obtain ⟨c, rfl⟩ := if_some h1
    refine ⟨τ, _, r, rfl, S.weak c, hr, ?_⟩
    simp only [exs, ex, Out.then_nxt] at h
    exact h.after (w1 := []) (Stp.refl _ c (Same.refl _)) (fun i hi => nomatch hi) (fun i hi => List.mem_append_right _ hi)
end
end Pu
end
section
namespace Pu
open PySem PySem.Spec PyProof.Rows PySem.W L2
section
variable {Z : Zx} {m : Ms} {r : Option Ms} {w : List Nat} {τ : Ft} {H : Hp} {D : Ends} {X : Cx} {pos : Pos} {σ : L2.St}
theorem wh_to {c : E} {b : Ss} (h : lS Z (.wh c b) D σ H) : ∃ m, tWhile (lT Z.p Z.EX (tnM m) c) (lSs Z b) D σ H := by
  obtain ⟨τ, m, r, rfl, S, hr, h⟩ := h
  refine ⟨m, ?_⟩
  simp only [msS] at hr
  obtain ⟨⟨j1, k1⟩, h1, hr⟩ := Option.bind_eq_some_iff.mp hr
  split at hr
  · rename_i c2
    obtain ⟨rb, h2, hr⟩ := Option.bind_eq_some_iff.mp hr
    have hrb : r = some m ∧ okJ rb (some m) = true := by
      cases rb with
      | none => exact ⟨(Option.some.inj hr).symm, rfl⟩
      | some mb =>
        obtain ⟨z, e⟩ := if_some hr
        exact ⟨e.symm, z⟩
    obtain ⟨rfl, hj⟩ := hrb
    simp only [ex] at h
    refine ⟨fun n σ H' => ∃ τ', σ = vτ τ' ∧ Sf Z.p Z.H0 Z.A0 m τ' H' ∧ Stp m m (wrSs b) τ τ' H H' ∧ lOut Z m (some m) (wrSs b) (wloop (tv c) (exs b) n (dτ τ')) τ H D, ⟨FU, τ, rfl, S, Stp.refl _ (leM_refl S.small) (Same.refl _), h⟩, ?_⟩
    rintro n σ' H' ⟨τ', rfl, S', P', h'⟩
    cases n with
    | zero => exact (show False from h').elim
    | succ n =>
      simp only [wloop] at h'
      have hb := h'.after (w := wrSs b) (w1 := wrSs b) (w2 := wrSs b) P' (fun _ z => z) (fun _ z => z)
      refine ⟨τ', rfl, S'.ok, by rw [h1]; rfl, (hb.lg S' c2).mono (Same.refl _) fun t et hb2 H1 s1 => ?_⟩
      rw [et] at h'
      simp only [Res.out_ok] at h'
      cases t with
      | false =>
        show (if false = true then _ else D.nx (vτ τ') H1)
        rw [if_neg (by decide)]
        rw [if_neg (by decide)] at h'
        exact h' m τ' H1 rfl rfl (S'.grow s1) ⟨fun a u e n => s1 _ _ (P'.keep a u e n), P'.grow, P'.wr, P'.ad⟩
      | true =>
        rw [if_pos rfl] at h' hb2
        show (if true = true then _ else _)
        rw [if_pos rfl]
        refine ⟨fun σ2 H2 => ∃ τ2, σ2 = vτ τ2 ∧ Sf Z.p Z.H0 Z.A0 m τ2 H2 ∧ Stp m m (wrSs b) τ τ2 H H2 ∧ lOut Z m (some m) (wrSs b) (wloop (tv c) (exs b) n (dτ τ2)) τ H D, fun σ2 H2 q => ⟨n, Nat.lt_succ_self n, q⟩, ?_⟩
        refine ⟨τ', m, rb, rfl, S'.grow s1, h2, ?_⟩
        have hb3 := hb2.shift s1
        have P1 : Stp m m (wrSs b) τ τ' H H1 := ⟨fun a u e n => s1 _ _ (P'.keep a u e n), P'.grow, P'.wr, P'.ad⟩
        cases q : exs b (dτ τ') with
        | nxt δ2 =>
          rw [q] at h'
          intro m' τ2 H2 e1 e2 S2 P2
          subst e1
          have hle : leM m' m = true := hj
          refine ⟨τ2, rfl, S2.weak hle, ((P1.trans P2).mono (w2 := wrSs b) (fun i hi => by simpa using hi)) |> fun P3 => ⟨P3.keep, fun a o => P3.grow a (Own.weak hle o), P3.wr, P3.ad⟩, ?_⟩
          rw [e2]; exact h'
        | ret d => rw [q] at hb3; exact hb3
        | exc c' δ' => rw [q] at hb3; exact hb3
        | bad => rw [q] at hb3; exact hb3
  · cases hr
theorem Stp.lesser {m1 m2 : Ms} {τ' : Ft} {H' : Hp} (h : leM m1 m2 = true) (P : Stp m m1 w τ τ' H H') : Stp m m2 w τ τ' H H' := ⟨P.keep, fun a o => P.grow a (Own.weak h o), P.wr, P.ad⟩
theorem for_core {K : Frag} {g : Tg} {b : Ss} {J : L2.It} {us : List T} {ds : List Pu.D} {j : Nat} {H1 : Hp} {rb : Option Ms} (S : Sf Z.p Z.H0 Z.A0 m τ H) (IT : ItOk Z.p (Sh (tnM m) τ) H H1 J us j ds) (hd : leM m (setAll m g.sl .dead) = true)
    (h2 : msSs Z.mx Z.dep b (setAll (setAll m g.sl .dead) g.sl .sh) = some rb) (hj : okJ rb (some (setAll m g.sl .dead)) = true)
    (per : ∀ (τ' : Ft) (H' : Hp), Sf Z.p Z.H0 Z.A0 (setAll m g.sl .dead) τ' H' → Stp m (setAll m g.sl .dead) (up g.sl ++ wrSs b) τ τ' H1 H' → T.Oks Z.p H' us)
    (h : lOut Z m (some (setAll m g.sl .dead)) (up g.sl ++ wrSs b) (floop g (exs b) ds (dτ τ)) τ H1 D) :
    ∃ W : Nat → Nat → L2.St → Hp → Prop, (∃ n, W 0 n (vτ τ) H1) ∧ ∀ i n σ H, W i n σ H → (J.stop i H ∧ D.nx σ H) ∨ (J.go i H ∧ ∃ N : L2.St → Hp → Prop, (∀ σ' H', N σ' H' → ∃ n', n' < n ∧ W (i + 1) n' σ' H') ∧ ∀ x H', J.yld i H x H' → lG K g x σ H' fun σ2 H2 => lSs Z b { D with nx := N, ct := N, bk := D.nx } σ2 H2) := by
  have S1 := S.grow IT.same
  have fineU : ∀ a, (H a = none ∨ Sh (tnM m) τ a) → (Z.H0 a = none ∨ Z.A0 a) ∧ ¬ Own m τ a := fun a q => S.fine q
  refine ⟨fun i n σ H' => n = ds.length - i ∧ i ≤ ds.length ∧ ∃ τ', σ = vτ τ' ∧ Sf Z.p Z.H0 Z.A0 (setAll m g.sl .dead) τ' H' ∧ Stp m (setAll m g.sl .dead) (up g.sl ++ wrSs b) τ τ' H1 H' ∧ lOut Z m (some (setAll m g.sl .dead)) (up g.sl ++ wrSs b) (floop g (exs b) (ds.drop i) (dτ τ')) τ H1 D,
    ⟨ds.length, by simp, Nat.zero_le _, τ, rfl, S1.weak hd, Stp.refl _ hd (Same.refl _), by simpa using h⟩, ?_⟩
  rintro i n σ' H' ⟨rfl, hi, τ', rfl, S', P', h'⟩
  have usok := per τ' H' S' P'
  rcases Nat.lt_or_ge i ds.length with hlt | hge
  · have hdi : ds[i]? = some ds[i] := List.getElem?_eq_getElem hlt
    rw [List.drop_eq_getElem_cons hlt] at h'
    simp only [floop] at h'
    refine .inr ⟨IT.go i H' usok hlt, fun σ2 H2 => ∃ τ2, σ2 = vτ τ2 ∧ Sf Z.p Z.H0 Z.A0 (setAll m g.sl .dead) τ2 H2 ∧ Stp m (setAll m g.sl .dead) (up g.sl ++ wrSs b) τ τ2 H1 H2 ∧ lOut Z m (some (setAll m g.sl .dead)) (up g.sl ++ wrSs b) (floop g (exs b) (ds.drop (i + 1)) (dτ τ2)) τ H1 D,
      fun σ2 H2 q => ⟨ds.length - (i + 1), by omega, rfl, hlt, q⟩, fun x H'' y => ?_⟩
    obtain ⟨s2, t, rfl, ht, tok, tus, tsrc⟩ := IT.yld i H' x H'' ds[i] usok hdi y
    rw [← ht, asgTg_dat] at h'
    cases q : asgTgT g t τ' with
    | none => rw [q] at h'; exact (show False from h').elim
    | some τ2 =>
      rw [q] at h'
      simp only [Option.map_some] at h'
      have src : ∀ a ∈ t.rest 0, (Z.H0 a = none ∨ Z.A0 a) ∧ ¬ Own (setAll m g.sl .dead) τ' a := fun a z => by
        refine ⟨(fineU a (tsrc a z)).1, fun o => ?_⟩
        rcases P'.grow a o with w | w
        · exact (fineU a (tsrc a z)).2 w
        · obtain ⟨v, hv, z2⟩ := T.mem_rests.mp (tus a z)
          exact (T.oks_iff.mp IT.ok v hv).dom z2 w
      obtain ⟨S2, P2⟩ := sf_tg0 S' s2 tok src q
      refine lG_ok tok q ⟨τ2, _, rb, rfl, S2, h2, ?_⟩
      have P3 := P'.trans P2
      have h3 := h'.after (w := up g.sl ++ wrSs b) (w2 := wrSs b) P3 (fun i hi => by
        simp only [List.mem_append] at hi ⊢
        rcases hi with (hi | hi) | hi
        · exact .inl hi
        · exact .inr hi
        · exact .inl hi) (fun i hi => List.mem_append_right _ hi)
      cases e : exs b (dτ τ2) with
      | nxt δ3 =>
        rw [e] at h'
        intro m' τ3 H3 e1 e2 S3 P4
        subst e1
        have hle : leM m' (setAll m g.sl .dead) = true := hj
        refine ⟨τ3, rfl, S3.weak hle, Stp.lesser hle ((P3.trans P4).mono fun i hi => ?_), ?_⟩
        · simp only [List.mem_append] at hi ⊢
          rcases hi with ((hi | hi) | hi) | hi
          · exact .inl hi
          · exact .inr hi
          · exact .inl hi
          · exact .inr hi
        · rw [e2]; exact h'
      | ret d => rw [e] at h3; exact h3
      | exc c' δ' => rw [e] at h3; exact h3
      | bad => rw [e] at h3; exact h3
  · refine .inl ⟨IT.stop i H' usok hge, ?_⟩
    have hil : i = ds.length := Nat.le_antisymm hi hge
    subst hil
    rw [List.drop_length] at h'
    exact h' _ τ' H' rfl rfl S' P'
theorem for_to {K : Frag} {g : Tg} {it : It} {b : Ss} (h : lS Z (.for_ g it b) D σ H) : (∃ m, tFor (lI Z.p Z.EX (tnM m) it) (lG K g) (lSs Z b) D σ H) ∨
    (∃ x, it = .seqL (.nm x) ∧ ∃ v a xs, σ[x]? = some (some v) ∧ v = .ref a ∧ SqL X.K H a xs ∧ (X.K = Z.p.K → xs.length ≤ sizeLine → ∃ W : Nat → Nat → L2.St → Hp → Prop, (∃ n, W 0 n σ H) ∧ ∀ i n σ H, W i n σ H → ((Itl X.K a).stop i H ∧ D.nx σ H) ∨ ((Itl X.K a).go i H ∧ ∃ N : L2.St → Hp → Prop, (∀ σ' H', N σ' H' → ∃ n', n' < n ∧ W (i + 1) n' σ' H') ∧
      ∀ x H', (Itl X.K a).yld i H x H' → lG K g x σ H' fun σ2 H2 => lSs Z b { D with nx := N, ct := N, bk := D.nx } σ2 H2))) := by
  obtain ⟨τ, m, r, rfl, S, hr, h⟩ := h
  simp only [msS] at hr
  obtain ⟨j, h1, hr⟩ := Option.bind_eq_some_iff.mp hr
  split at hr
  · rename_i c
    obtain ⟨c1, c2, c3⟩ := c
    obtain ⟨rb, h2, hr⟩ := Option.bind_eq_some_iff.mp hr
    have hrb : r = some (setAll m g.sl .dead) ∧ okJ rb (some (setAll m g.sl .dead)) = true := by
      cases rb with
      | none => exact ⟨(Option.some.inj hr).symm, rfl⟩
      | some mb =>
        obtain ⟨z, e⟩ := if_some hr
        exact ⟨e.symm, z⟩
    obtain ⟨rfl, hj⟩ := hrb
    simp only [ex] at h
    by_cases z : j = 0
    · subst z
      refine .inl ⟨m, τ, rfl, S.ok, 0, h1, (h.lg S c1).mono (Same.refl _) fun ds _ h J us H1 IT => ?_⟩
      refine for_core S IT c2 h2 hj (fun τ' H' S' P' => ?_) (h.shift IT.same)
      have S1 := S.grow IT.same
      refine T.oks_iff.mpr fun u hu => (T.oks_iff.mp IT.ok u hu).keep fun a w e q => P'.keep a w e fun o => ?_
      rcases q with q | q
      · exact (S.fine (IT.src a (T.mem_rests.mpr ⟨u, hu, q⟩))).2 o
      · obtain ⟨_, vs, e2, mu⟩ := S1.ownOk o
        rw [e2] at e
        cases e; rw [mu] at q; cases q
    · rcases c3 with c3 | ⟨x, c3, c4, c5⟩
      · exact absurd c3 z
      · have hit : it = .seqL (.nm x) := by
          unfold It.nmOf at c3
          split at c3
          · cases c3; rfl
          · cases c3
        subst hit
        refine .inr ⟨x, rfl, ?_⟩
        have hlg := h.lg S c1
        cases q : get (dτ τ) x with
        | exc c => unfold get at q; split at q <;> cases q
        | bad => simp only [evI, ev, q, Res.bind_bad] at hlg; exact (show False from hlg).elim
        | ok d =>
          obtain ⟨t, ht, rfl⟩ := dτ_get q
          simp only [evI, ev, q, Res.bind_ok] at hlg
          cases t with
          | lst a ts =>
            simp only [jkI] at h1
            obtain ⟨⟨j1, k1⟩, h3, h1⟩ := Option.bind_eq_some_iff.mp h1
            obtain ⟨hj1, e1⟩ := if_some h1
            have e1 : j1 = j := e1
            subst e1
            simp only [jk] at h3
            split at h3
            · rename_i j' hj'
              obtain ⟨hlt, e⟩ := gj_eq h3
              cases e
              have okt := S.ok x _ j1 ht hj' (of_decide_eq_true hlt)
              refine ⟨_, a, ts.map T.val, vτ_get ht, rfl, .inl okt.1, fun hK hz => ?_⟩
              have R : Rs Z.p (Sh (tnM m) τ) H H j1 0 (.lst a ts) := ⟨Same.refl _, okt, fun b m' => .inr ⟨x, _, j1, ht, hj', of_decide_eq_true hlt, m'⟩, by rw [T.adr_zero]; simp, T.nd_zero _⟩
              refine for_core S (itok_list hK R hj1 (by simpa using hz)) c2 h2 hj (fun τ' H' S' P' => ?_) hlg
              obtain ⟨d, hd, ed⟩ := tnM_get hj'
              have hdd : d ≠ .dead := fun w => by subst w; subst ed; exact absurd (of_decide_eq_true hlt) (by decide)
              have hx' : (setAll m g.sl .dead)[x]? = some d := by
                have hlen : x < (setAll m g.sl .dead).length := by rw [setAll_length]; exact (List.getElem?_eq_some_iff.mp hd).1
                rcases setAll_get (List.getElem?_eq_getElem hlen) with ⟨w, _⟩ | ⟨_, w⟩
                · exact absurd (List.mem_append_left _ w) c5
                · rw [List.getElem?_eq_getElem hlen]
                  rw [hd] at w
                  exact w.symm
              refine ⟨S'.at (i := x) (by rw [P'.wr x (fun w => by rcases List.mem_append.mp w with w | w; exact c5 w; exact c4 w)]; exact ht) hx' hdd, trivial⟩
            · cases h3
          | _ => exact (show False from hlg).elim
  · cases hr
end
section
variable {p : Px} {H0 : Hp} {A0 : Addr → Prop} {m : Ms} {τ : Ft} {H H1 : Hp}
theorem sf_dead {x : Nat} {s : Option T} (S : Sf p H0 A0 m τ H) : Sf p H0 A0 (m.set x .dead) (τ.set x s) H := by
  have back : ∀ {i : Nat} {u : T} {d : Md}, d ≠ .dead → (τ.set x s)[i]? = some (some u) → (m.set x .dead)[i]? = some d → τ[i]? = some (some u) ∧ m[i]? = some d := by
    intro i u d nd e h
    rcases set_get h with ⟨_, z⟩ | ⟨z1, z2⟩
    · exact absurd z nd
    · rcases set_get e with ⟨z, _⟩ | ⟨_, e⟩
      · exact absurd z z1
      · exact ⟨e, z2⟩
  have no : ∀ {k : Nat}, Md.ow k ≠ .dead := by intro k c; cases c
  have nb : ∀ {k : Nat}, Md.br k ≠ .dead := by intro k c; cases c
  have lt : ∀ {d : Md}, d.tn < 90 → d ≠ .dead := fun l z => by subst z; exact absurd l (by decide)
  refine ⟨by rw [List.length_set, List.length_set]; exact S.len, fun d hd => ?_, S.same, fun i t j e ej l => ?_, fun i t k a e hk q => ?_, fun a sh => ?_, fun i t k e hk => ?_, fun i j t u k d ne e hk e' hd nd a q => ?_, fun i j t u k k2 e hk e' hd a ts z => ?_⟩
  · rcases List.mem_or_eq_of_mem_set hd with z | z
    · exact S.small d z
    · subst z; rfl
  · obtain ⟨d, hd, rfl⟩ := tnM_get ej
    obtain ⟨q1, q2⟩ := back (lt l) e hd
    exact S.ok i t _ q1 (tnM_of q2) l
  · obtain ⟨q1, q2⟩ := back no e hk
    exact S.own i t k a q1 q2 q
  · obtain ⟨i, t, j, e, ej, l, q⟩ := sh
    obtain ⟨d, hd, rfl⟩ := tnM_get ej
    obtain ⟨q1, q2⟩ := back (lt l) e hd
    exact S.src a ⟨i, t, _, q1, tnM_of q2, l, q⟩
  · obtain ⟨q1, q2⟩ := back no e hk
    exact S.nd i t k q1 q2
  · obtain ⟨q1, q2⟩ := back no e hk
    obtain ⟨q3, q4⟩ := back nd e' hd
    exact S.sep i j t u k d ne q1 q2 q3 q4 nd a q
  · obtain ⟨q1, q2⟩ := back no e hk
    obtain ⟨q3, q4⟩ := back nb e' hd
    exact S.top i j t u k k2 q1 q2 q3 q4 a ts z
end
section
variable {Z : Zx} {m : Ms} {r : Option Ms} {w : List Nat} {τ : Ft} {H : Hp} {D : Ends} {X : Cx} {pos : Pos} {σ : L2.St}
end
theorem exm_of {p : Px} (kx : Kx p) {k n : Nat} (hk : p.has k = true) (hn : p.has n = true) (h : isa k n = true) : exmOne p.K (.ref (p.cl k)) (.ref (p.cl n)) = some true := by
  have k1 := kx.kc k n hk hn
  rw [h] at k1
  unfold exmOne
  rw [if_pos (by rw [(kx.x n hn).sb]; rfl)]
  by_cases hne : p.cl k = p.cl n
  · rw [hne]
    unfold kitCls
    dsimp only
    rw [if_pos (by rw [(kx.x n hn).cc, (kx.x n hn).ty]; rfl)]
    exact kx.ks n hn
  · unfold kitOne at k1
    rw [if_neg (fun z => hne (by
      have := eq_of_beq z
      injection this with this))] at k1
    exact k1
theorem vτ_none (τ : Ft) (i : Nat) : vτ (τ.set i none) = (vτ τ).set i none := by unfold vτ; rw [List.map_set]; rfl
theorem dτ_none (τ : Ft) (i : Nat) : dτ (τ.set i none) = (dτ τ).set i none := by unfold dτ; rw [List.map_set]; rfl
section
variable {Z : Zx} {m : Ms} {r : Option Ms} {w : List Nat} {τ : Ft} {H : Hp} {D : Ends} {σ : L2.St}
theorem stp_dead {i : Nat} : Stp m (m.set i .dead) [i, i + 1000] τ (τ.set i none) H H := by
  refine ⟨fun a u e _ => e, fun a o => ?_, fun j hj => by rw [List.getElem?_set_ne (fun z => hj (by simp [z]))], fun j hj => vτ_ne (ne_of_up hj)⟩
  obtain ⟨j, u, k', e, hk, q⟩ := o
  rcases set_get hk with ⟨_, z⟩ | ⟨z1, z2⟩
  · cases z
  · rcases set_get e with ⟨z, _⟩ | ⟨_, e⟩
    · exact absurd z z1
    · exact .inl ⟨j, u, k', e, z2, q⟩
theorem try_to {K : Frag} {b h e : Ss} {n i : Nat} (hK : K = Z.p.K) (kx : Kx Z.p) (hn : Z.p.has n = true) (hq : lS Z (.try_ b n i h e) D σ H) : ∃ mb mh, tTry K (.ref (Z.p.cl n)) i (fun E _ _ => lSs { Z with EX := E, mx := mb } b) (fun _ => lSs { Z with EX := EX0, mx := mh } h) (lSs Z e) D σ H := by
  obtain ⟨τ, m, r, rfl, S, hr, hq⟩ := hq
  simp only [msS] at hr
  split at hr
  · rename_i cc
    obtain ⟨c1, c2⟩ := cc
    obtain ⟨rb, h1, hr⟩ := Option.bind_eq_some_iff.mp hr
    obtain ⟨rh, h2, hr⟩ := Option.bind_eq_some_iff.mp hr
    obtain ⟨re, h3, hr⟩ := Option.bind_eq_some_iff.mp hr
    obtain ⟨⟨c3, c4⟩, rfl⟩ := if_some hr
    refine ⟨setAll m (wrSs b) .dead, List.replicate m.length .dead, fun W pn => ⟨τ, m, rb, rfl, S, h1, ?_⟩⟩
    simp only [ex] at hq
    cases q : exs b (dτ τ) with
    | bad => rw [q] at hq; exact hq
    | ret d => rw [q] at hq; exact lRet.to (show lRet Z _ d τ D from hq) (fun j hj => List.mem_append_left _ hj) fun _ _ => rfl
    | nxt δ1 =>
      rw [q] at hq
      intro m1 τ1 H1 em e2 S1 P1
      subst em e2
      refine ⟨τ1, m1, re, rfl, S1, h3, ?_⟩
      exact ((show lOut Z m _ _ (exs e (dτ τ1)) τ H D from hq).weak (w1 := wrS (.try_ b n i h e)) c3 (fun _ z => z)).after P1 (fun j hj => List.mem_append_left _ hj) (fun j hj => List.mem_append_right _ (List.mem_cons_of_mem _ (List.mem_cons_of_mem _ (List.mem_append_right _ hj))))
    | exc k δ1 =>
      rw [q] at hq
      intro hk τ1 H1 e2 S1 P1
      subst e2
      simp only at hq
      intro od hod
      by_cases cc : cat k n = true
      · rw [if_pos cc] at hq
        refine ⟨_, rfl, hK ▸ exm_of kx hk hn cc, fun a ha => ?_⟩
        have hl : i < (setAll m (wrSs b) .dead).length := by rw [setAll_length]; exact c1
        have sm : Same H1 (L2.upd H1 a (xOd a (Z.p.cl (kcX k)) od)) := fun a' u e => by
          rw [L2.upd_ne (fun z => by subst z; rw [ha] at e; cases e)]; exact e
        have xok : XOk Z.p (L2.upd H1 a (xOd a (Z.p.cl (kcX k)) od)) a k := by
          rcases hod with ⟨lt, rfl⟩ | ⟨ge, dx, ob, rfl, hdx⟩
          · have kk := kcX_lt lt
            rw [kk] at hk ⊢
            exact .inl ⟨⟨by rw [L2.upd_same]; unfold exO; rw [if_neg (fun z => by rw [z, kx.no] at hk; cases hk)]; rfl, .inr hk⟩, lt⟩
          · have kk : kcX k = 4 := if_pos ge
            rw [kk] at hk ⊢
            exact .inr ⟨⟨dx, ob, L2.upd_same, by rw [L2.upd_ne (fun z => by subst z; rw [ha] at hdx; cases hdx)]; exact hdx, hk⟩, ge⟩
        have R : Rs Z.p (Sh (tnM (setAll m (wrSs b) .dead)) τ1) H1 (L2.upd H1 a (xOd a (Z.p.cl (kcX k)) od)) 0 0 (.exn a k) := ⟨sm, xok, by simp [T.rest], by simp [T.adr], by simp [T.Nd, T.adr]⟩
        obtain ⟨S2, P2⟩ := sf_asg S1 R (Nat.le_refl 0) hl (by decide)
        have e0 : mdK 0 = .sh := rfl
        rw [e0] at S2 P2
        refine ⟨τ1.set i (some (.exn a k)), _, rh, by rw [vτ_set]; rfl, S2, h2, ?_⟩
        rw [dτ_set]
        cases q2 : exs h ((dτ τ1).set i (some (.exn k))) with
        | bad => rw [show (T.exn a k).dat = .exn k from rfl, q2]; rw [q2] at hq; exact hq
        | exc _ _ => rw [show (T.exn a k).dat = .exn k from rfl, q2]; rw [q2] at hq; exact (show False from hq).elim
        | ret d =>
          rw [show (T.exn a k).dat = .exn k from rfl, q2]
          rw [q2] at hq
          exact lRet.to (show lRet Z _ d τ D from hq) (fun j hj => List.mem_append_right _ (List.mem_cons_of_mem _ (List.mem_cons_of_mem _ (List.mem_append_left _ hj)))) fun j hj => (P1.trans P2).ad j fun z => hj (by
            rcases List.mem_append.mp z with z | z
            · exact List.mem_append_left _ z
            · exact List.mem_append_right _ (two_in z))
        | nxt δ2 =>
          rw [show (T.exn a k).dat = .exn k from rfl, q2]
          rw [q2] at hq
          intro m2 τ2 H2 em e3 S3 P3
          subst em e3
          have hw := (show lOut Z m _ _ (.nxt ((dτ τ2).set i none)) τ H D from hq).weak (w1 := wrS (.try_ b n i h e)) c4 (fun _ z => z)
          have := hw (m2.set i .dead) (τ2.set i none) H2 rfl (dτ_none τ2 i) (sf_dead S3) ((((P1.trans P2).trans P3).trans stp_dead).mono fun j hj => ?_)
          · rw [vτ_none] at this
            exact this
          · rcases List.mem_append.mp hj with hj | hj
            · rcases List.mem_append.mp hj with hj | hj
              · rcases List.mem_append.mp hj with hj | hj
                · exact List.mem_append_left _ hj
                · exact List.mem_append_right _ (two_in hj)
              · exact List.mem_append_right _ (List.mem_cons_of_mem _ (List.mem_cons_of_mem _ (List.mem_append_left _ hj)))
            · exact List.mem_append_right _ (two_in hj)
      · rw [if_neg cc] at hq; exact (show False from hq).elim
  · cases hr
end
noncomputable def OwnN (m : Ms) (τ : Ft) (I : List Nat) (a : Addr) : Prop := ∃ (i : Nat) (t : T) (k : Nat), i ∉ I ∧ τ[i]? = some (some t) ∧ m[i]? = some (.ow k) ∧ a ∈ t.adr k
section
variable {p : Px} {H0 : Hp} {A0 : Addr → Prop} {m : Ms} {τ : Ft} {H H1 H2 : Hp}
theorem OwnN.own {I : List Nat} {a : Addr} (h : OwnN m τ I a) : Own m τ a := let ⟨i, t, k, _, e, q, z⟩ := h; ⟨i, t, k, e, q, z⟩
end
section
variable {Z : Zx} {m : Ms} {τ : Ft} {H : Hp} {D : Ends} {σ : L2.St}
end
section
variable {Z : Zx} {D : Ends} {X : Cx} {σ : L2.St} {H : Hp}
noncomputable def lOA (Z : Zx) (m m1 : Ms) (w : List Nat) (y : Nat) (o : Out) (τ : Ft) (H : Hp) (D : Ends) : Prop := match o with
  | .nxt δ' => ∀ (τ' : Ft) (H' : Hp) (a : Addr) (ts ts' : List T), dτ τ' = δ' → τ[y]? = some (some (.lst a ts)) → τ'[y]? = some (some (.lst a ts')) → Sf Z.p Z.H0 Z.A0 m1 τ' H' → Stp m m1 w τ τ' H H' → D.nx (vτ τ') H'
  | o => lOut Z m (some m1) w o τ H D
theorem lOA.lg {α : Type} {m m1 : Ms} {w : List Nat} {τ : Ft} {y : Nat} {q : Res α} {f : α → Out} (S : Sf Z.p Z.H0 Z.A0 m τ H) (hm : leM m Z.mx = true) (h : lOA Z m m1 w y (q.out (dτ τ) f) τ H D) : Lg Z.p Z.EX (vτ τ) q H fun a => lOA Z m m1 w y (f a) τ H D := by
  cases q with
  | ok a => exact h
  | exc c => exact fun hc H' s => h hc τ H' rfl ((S.weak hm).grow s) (Stp.refl w hm s)
  | bad => exact h
theorem lOA.shift {H1 : Hp} {m m1 : Ms} {w : List Nat} {τ : Ft} {y : Nat} {o : Out} (s1 : Same H H1) (h : lOA Z m m1 w y o τ H D) : lOA Z m m1 w y o τ H1 D := by
  cases o with
  | nxt δ' => exact fun τ' H' a ts ts' e1 e2 e3 S P => h τ' H' a ts ts' e1 e2 e3 S ⟨fun a u e n => P.keep a u (s1 a u e) n, fun a o => (P.grow a o).imp id s1.free, P.wr, P.ad⟩
  | ret d => exact h
  | exc c δ' => exact fun hc τ' H' e S P => h hc τ' H' e S ⟨fun a u e n => P.keep a u (s1 a u e) n, fun a o => (P.grow a o).imp id s1.free, P.wr, P.ad⟩
  | bad => exact h
noncomputable def vals (σ : L2.St) : List Nat → Option (List V)
  | [] => some []
  | i :: r => match σ[i]? with
    | some (some v) => (vals σ r).map (v :: ·)
    | _ => none
end
end Pu
end
section
namespace Pu
open PySem PySem.Spec PyProof.Rows PySem.W L2
noncomputable def pathNeed : List (Bool × E) → List Nd1
  | [] => []
  | (_, e) :: r => e.need ++ pathNeed r
mutual
noncomputable def S.need : S → List Nd1
  | .asg _ _ e => e.need
  | .dem _ _ => []
  | .dead _ => []
  | .set _ q i e => pathNeed q ++ (i.need ++ e.need)
  | .mut _ q _ es => pathNeed q ++ es.need
  | .expr e => e.need
  | .iff c a b => c.need ++ (a.need ++ b.need)
  | .wh c b => c.need ++ b.need
  | .for_ _ it b => it.need ++ b.need
  | .ret e => e.need
  | .raiseA e => .ma :: e.need
  | .try_ b c _ h e => .cl c :: (b.need ++ (h.need ++ e.need))
noncomputable def Ss.need : Ss → List Nd1
  | .nil => []
  | .cons s r => s.need ++ r.need
end
noncomputable def umName : Um → Str
  | .append => "append"
  | .extend => "extend"
  | .clear => "clear"
noncomputable def umAr : Um → Nat → Bool
  | .append, n => decide (n = 1)
  | .extend, n => decide (n = 1)
  | _, n => decide (n = 0)
noncomputable def notComp : Expr → Bool
  | .ListComp _ _ _ _ => false
  | .SetComp _ _ _ _ => false
  | .DictComp _ _ _ _ _ => false
  | _ => true
noncomputable def notCall0 : Expr → Bool
  | .Call _ _ _ _ => false
  | _ => true
noncomputable def nmOf : Expr → Option (Str × Pos)
  | .Name x p => some (x, p)
  | _ => none
noncomputable def hdOf : List ExceptHandler → List Stmt → Option (Str × Str × List Stmt)
  | [.ExceptHandler (some (.Name x _)) (some y) h _], [] => some (x, y, h)
  | _, _ => none
theorem hdOf_is {hs : List ExceptHandler} {fin h : List Stmt} {x y : Str} (e : hdOf hs fin = some (x, y, h)) : ∃ p1 p2, hs = [.ExceptHandler (some (.Name x p1)) (some y) h p2] ∧ fin = [] := by
  unfold hdOf at e
  split at e
  · cases e; exact ⟨_, _, rfl, rfl⟩
  · cases e
noncomputable def Rows (st : Stmt) (a b y f a2 b2 : Str) (es : List Expr) (k : Nat) (q : Pos) (e : Expr) : Prop := ∃ p1 p2 p3 p4 p5 p6 p7 p8 p9 p10 p11, es = [.Name a p1, .Name b p2] ∧ st = .For (.Tuple [.Name a p1, .Name b p2] k q) (.Call (.Name f p4) [.Name y p3, e] [] p5) [.Assign [.Subscript (.Name a2 p6) (.Slice none none none p7) p8] (.Name b2 p9) p10] [] p11
mutual
noncomputable def ckS (c : CkC) : S → Stmt → Bool
  | .asg x _ e, .Assign [.Name y _] e' _ => (c.N[x]? == some y) && locB c y && ckE c e e'
  | .set x q i e, .Assign [.Subscript o i' _] e' _ => ckPl c x q.reverse o && ckE c i i' && plainI i' && ckE c e e' && notComp e'
  | .mut x q u es, .Expr (.Call (.Attribute o name ap) xs [] cp) _ => ckPl c x q.reverse o && (name == umName u) && ckEs c es xs && (ap.endLine == cp.line) && notCall0 o && decide (es.len < 20) && umAr u es.len
  | .expr e, .Expr e' _ => ckE c e e' && notComp e'
  | .iff t a b, .If t' a' b' _ => ckE c t t' && t.tst && ckSs c a a' && ckSs c b b'
  | .wh t b, .While t' b' [] _ => ckE c t t' && t.tst && ckSs c b b' && c.rz
  | .for_ g it b, .For tg it' b' [] _ => ckG c g tg && ckI c tg it it' && noSet it' && ckSs c b b' && c.rz && c.cm
  | .ret e, .Return (some e') _ => ckE c e e'
  | .raiseA a, .Raise (some (.Call (.Name x _) [e] [] _)) none _ => (x == clsName 4) && glB c.sc x && ckE c a e && noStar e && c.rz && c.cm
  | .try_ b n i h e, .Try b' hs e' fin _ => match hdOf hs fin with
    | some (x, y, h') => (x == clsName n) && glB c.sc x && okNm x && (c.N[i]? == some y) && (c.sc.names.lookup y == some .local) && c.rz && c.cm && !h'.isEmpty && ckSs { c with rz := false } b b' && ckSs { c with rz := false, cm := false } h h' && ckSs c e e'
    | none => false
  | _, _ => false
noncomputable def ckSs (c : CkC) : Ss → List Stmt → Bool
  | .nil, [] => true
  | .cons (.dem _ _) r, st => ckSs c r st
  | .cons (.dead _) r, st => ckSs c r st
  | .cons s r, x :: xs => ckS c s x && ckSs c r xs
  | _, _ => false
end
structure Cs (Z : Zx) (c : CkC) (lv : Nat) (X : Cx) (E : XK) : Prop where
  ct : Ct Z.p c lv X Z.EX
  ex : c.rz = true → Z.EX = fun _ => E
  xw : c.rz = true → XWish X E ∧ XWishA X E
  po : c.rz = true → PassesOwn (model X.prog X.w) X.A X.env X.xe
  kind : c.sc.kind = .function
  stk : X.stack = X.env :: X.outer
  frm : X.env.frame = some X.env.locals
section
variable {Z : Zx} {c : CkC} {lv : Nat} {X : Cx} {E : XK} {pos : Pos}
theorem notComp_sw {e : Expr} {t : Option Expr} {n : Nat} {env : Env} (h : notComp e = true) : swapsWith e t n env = pure false := by
  cases e <;> first | rfl | cases h
theorem pathNeed_is {q : List (Bool × Pu.E)} : ∀ e ∈ q, ∀ n ∈ e.2.need, n ∈ pathNeed q := by
  induction q with
  | nil => intro e he; cases he
  | cons a q ih =>
    intro e he n hn
    obtain ⟨b, e0⟩ := a
    rcases List.mem_cons.mp he with rfl | he
    · exact List.mem_append_left _ hn
    · exact List.mem_append_right _ (ih e he n hn)
theorem sndS_asg (C : Cs Z c lv X E) {x k : Nat} {e : Pu.E} {y : Str} {py : Pos} {e' : Expr} (hn : ∀ n ∈ e.need, NeedOk Z.p lv X n) (h1 : (c.N[x]? == some y) = true) (h2 : locB c y = true) (h3 : ckE c e e' = true) : PS X (.Assign [.Name y py] e' pos) (lS Z (.asg x k e)) := by
  have hN : X.N[x]? = some y := by rw [C.ct.N]; exact beq_iff_eq.mp h1
  obtain ⟨l1, l2⟩ := C.ct.loc h2
  intro pins s σ H D I h
  obtain ⟨τ, m, rfl, S, h⟩ := asg_to h
  by_cases hc : notComp e' = true
  · exact ps_set C.ct.nd hN l1 (snd e C.ct (tn := tnM m) e' hn h3).1 (notComp_sw hc) l2 pins s _ H D I h
  · cases e' with
    | ListComp elt' gens scope q =>
      have hsw : ∃ b : Bool, swapsWith (.ListComp elt' gens scope q) (some (.Name y py)) pos.line X.env = pure b := ⟨_, rfl⟩
      obtain ⟨b, hsw⟩ := hsw
      cases b with
      | false => exact ps_set C.ct.nd hN l1 (snd e C.ct (tn := tnM m) _ hn h3).1 hsw l2 pins s _ H D I h
      | true =>
        cases e with
        | _ => exact Bool.noConfusion (show false = true from h3)
    | SetComp _ _ _ _ =>
      cases e with
      | _ => exact Bool.noConfusion (show false = true from h3)
    | DictComp _ _ _ _ _ =>
      cases e with
      | _ => exact Bool.noConfusion (show false = true from h3)
    | _ => exact absurd rfl hc
theorem sole_sub {o i : Expr} {q : Pos} {e' : Expr} {env : Env} {n : Nat} (h : notComp e' = true) : swapsWithSole [.Subscript o i q] e' n env = pure false := by
  cases e' <;> first | rfl | cases h
theorem sndS_expr (C : Cs Z c lv X E) {e : Pu.E} {e' : Expr} (hn : ∀ n ∈ e.need, NeedOk Z.p lv X n) (h1 : ckE c e e' = true) (h2 : notComp e' = true) : PS X (.Expr e' pos) (lS Z (.expr e)) := by
  intro pins s σ H D I h
  obtain ⟨m, h⟩ := expr_to h
  exact ps_expr (snd e C.ct (tn := tnM m) e' hn h1).1 (notComp_sw h2) pins s σ H D I h
theorem sndS_set (C : Cs Z c lv X E) {x : Nat} {q : List (Bool × Pu.E)} {i e : Pu.E} {o i' e' : Expr} {p2 : Pos} (n1 : ∀ n ∈ pathNeed q, NeedOk Z.p lv X n) (n2 : ∀ n ∈ i.need, NeedOk Z.p lv X n) (n3 : ∀ n ∈ e.need, NeedOk Z.p lv X n)
    (h1 : ckPl c x q.reverse o = true) (h2 : ckE c i i' = true) (h3 : plainI i' = true) (h4 : ckE c e e' = true) (h5 : notComp e' = true) : PS X (.Assign [.Subscript o i' p2] e' pos) (lS Z (.set x q i e)) := by
  intro pins s σ H D I h
  obtain ⟨m, h⟩ := set_to h
  have A := sndPl C.ct (tn := tnM m) (x := x) (rp := q.reverse) (o := o) (fun e he n hn => n1 n (pathNeed_is e (List.mem_reverse.mp he) n hn)) h1
  rw [List.reverse_reverse] at A
  have hw : swappedStores [.Subscript o i' p2] e' X.env = pure none := by cases e' <;> rfl
  refine ps_asg (snd e C.ct (tn := tnM m) e' n3 h4).1 (pg_sub A (snd i C.ct (tn := tnM m) i' n2 h2).1 set_list (fun v => ?_)) (sole_sub h5) hw rfl pins s σ H D I h
  cases i' <;> first | rfl | cases h3
theorem nil_args {p : Px} {EX : EXT} {tn : List Nat} {K : Frag} {u : V → List V → Hp → VK → Prop} {x : Nat} {q : List (Bool × Pu.E)} {σ : L2.St} {H : Hp} {Q : Hp → Prop} (h : lPl p EX tn x q σ H fun v H1 => tyV K "list" v H1 ∧ lEs p EX tn .nil σ H1 fun vs H2 => u v vs H2 fun _ H3 => Q H3) :
    lPl p EX tn x q σ H fun v H1 => tyV K "list" v H1 ∧ u v [] H1 fun _ H3 => Q H3 := by
  obtain ⟨τ, t, is, s, e1, e2, e3, e4, e5, e6, e7, h⟩ := h
  refine ⟨τ, t, is, s, e1, e2, e3, e4, e5, e6, e7, fun H' s' => ?_⟩
  obtain ⟨h1, τ2, rfl, hF, j, k, hj, h2⟩ := h H' s'
  exact ⟨h1, h2 [] H' rfl ⟨Same.refl _, trivial, by simp [T.rests], by simp [T.adrs], by simp [T.Nds, T.adrs]⟩⟩
theorem ckPl_base {x : Nat} {rp : List (Bool × Pu.E)} {o : Expr} {name : Str} {env : Env} (h : ckPl c x rp o = true) : attributeBase o name env (eval o env) = eval o env := by
  cases rp with
  | nil => cases o <;> first | rfl | exact Bool.noConfusion (show false = true from h)
  | cons a r => obtain ⟨b, e⟩ := a; cases o <;> first | rfl | exact Bool.noConfusion (show false = true from h)
theorem sndS_mut (C : Cs Z c lv X E) {x : Nat} {q : List (Bool × Pu.E)} {u : Um} {es : Es} {o : Expr} {xs : List Expr} {ap cp : Pos} (n1 : ∀ n ∈ pathNeed q, NeedOk Z.p lv X n) (n2 : ∀ n ∈ es.need, NeedOk Z.p lv X n)
    (h1 : ckPl c x q.reverse o = true) (h2 : ckEs c es xs = true) (h3 : (ap.endLine == cp.line) = true) (h5 : umAr u es.len = true) : PS X (.Expr (.Call (.Attribute o (umName u) ap) xs [] cp) pos) (lS Z (.mut x q u es)) := by
  intro pins s σ H D I h
  obtain ⟨τ, m, r, rfl, S, hr, h⟩ := h
  have A : PE X o (lPl Z.p Z.EX (tnM m) x q) := by
    have A := sndPl C.ct (tn := tnM m) (x := x) (rp := q.reverse) (o := o) (fun e he n hn => n1 n (pathNeed_is e (List.mem_reverse.mp he) n hn)) h1
    rwa [List.reverse_reverse] at A
  have hb : ∀ name : Str, attributeBase o name X.env (eval o X.env) = eval o X.env := fun name => ckPl_base h1
  obtain ⟨st, sl⟩ := ckEs_stars h2
  simp only [msS] at hr
  split at hr
  · rename_i k hmx
    split at hr
    · rename_i hc
      obtain ⟨c1, c2, c3⟩ := hc
      cases hmv : es.mvOf m with
      | some yk =>
        obtain ⟨y, ky⟩ := yk
        rw [hmv] at hr
        obtain ⟨⟨d1, d2, d3, d4⟩, rfl⟩ := if_some hr
        subst d1
        have hq : q = [] := by cases q with | nil => rfl | cons _ _ => cases d4
        subst hq
        have hes : es = .cons (.nm y) .nil ∧ m[y]? = some (.ow ky) := by
          unfold Es.mvOf at hmv
          split at hmv
          · split at hmv
            · cases hmv; exact ⟨rfl, ‹_›⟩
            · cases hmv
          · cases hmv
        obtain ⟨rfl, hmy⟩ := hes
        cases xs with
        | nil => cases sl
        | cons a xr =>
          cases xr with
          | cons _ _ => cases sl
          | nil =>
            obtain ⟨g, _⟩ := and3 (show (ckE c (.nm y) a && noStar a && ckEs c .nil []) = true from h2)
            obtain ⟨g1, g2⟩ := and3 g
            cases a with
            | Name z pz =>
              obtain ⟨g, g5⟩ := and3 (show ((c.N[y]? == some z) && visB c.sc z && okNm z) = true from g1)
              obtain ⟨g3, g4⟩ := and3 g
              obtain ⟨e1, e2⟩ := okNm_is g5
              have hv : PE X (.Name z pz) (tVar y) := pe_var (by rw [C.ct.N]; exact beq_iff_eq.mp g3) (C.ct.vis g4) e1 e2
              refine ps_expr (pe_bm PySem.F.plainAttrs_list PySem.F.slot_list_append PySem.F.type_list_append mt_append A (pa_cons hv pa_nil rfl) (hb _) rfl h3 rfl rfl) rfl pins s _ H D I ?_
              exact mut_mv (X := X) S hmx hmy d2 (by simpa [lnE] using d3) rfl h
            | _ => exact Bool.noConfusion (show false = true from g1)
      | none =>
        rw [hmv] at hr
        obtain ⟨⟨j1, k1⟩, g1, hr⟩ := Option.bind_eq_some_iff.mp hr
        obtain ⟨hcc, rfl⟩ := if_some hr
        have B := (sndA es C.ct (tn := tnM m) xs n2 h2).1
        have M := mut_new (X := X) C.ct.K S hmx c1 c2 g1 hcc rfl h
        have one : ∀ {y : Expr}, noStar y = true → ((backTo cp (starEach [y] X.env)).all (fun x => !x.1) && (backToKw cp (keywordEach [] X.env)).all (fun x => x.1.isSome) && decide ([y].length + ([] : List Keyword).length + (if ([] : List Keyword).isEmpty then 0 else 1) < 30)) = true := by
          intro y hy
          rw [star_of hy]; rfl
        cases u with
        | append =>
          have h5 : es.len = 1 := of_decide_eq_true h5
          match xs, sl, st with
          | [y], _, st =>
            have hy : noStar y = true := by simpa using st
            exact ps_expr (pe_bm PySem.F.plainAttrs_list PySem.F.slot_list_append PySem.F.type_list_append mt_append A B (hb _) (one hy) h3 (star_of hy) rfl) rfl pins s _ H D I M
          | [], sl, _ => rw [h5] at sl; cases sl
          | _ :: _ :: _, sl, _ => rw [h5] at sl; cases sl
        | extend =>
          have h5 : es.len = 1 := of_decide_eq_true h5
          match xs, sl, st with
          | [y], _, st =>
            have hy : noStar y = true := by simpa using st
            exact ps_expr (pe_bm PySem.F.plainAttrs_list PySem.F.slot_list_extend PySem.F.type_list_extend mt_extendR A B (hb _) (one hy) h3 (star_of hy) rfl) rfl pins s _ H D I M
          | [], sl, _ => rw [h5] at sl; cases sl
          | _ :: _ :: _, sl, _ => rw [h5] at sl; cases sl
        | clear =>
          have h5 : es.len = 0 := of_decide_eq_true h5
          rw [h5] at sl
          cases xs with
          | cons _ _ => cases sl
          | nil =>
            cases es with
            | cons _ _ => cases h5
            | nil =>
              refine ps_expr (pe_bm0 PySem.F.plainAttrs_list PySem.F.slot_list_clear PySem.F.type_list_clear mt_clear A (hb _) h3) rfl pins s _ H D I ?_
              exact nil_args M
    · cases hr
  · cases hr
end
end Pu
end
section
namespace Pu
open PySem PySem.Spec PyProof.Rows PySem.W L2
section
variable {Z : Zx} {c : CkC} {lv : Nat} {X : Cx} {E : XK} {pos : Pos}
theorem sndS_ret (C : Cs Z c lv X E) {e : Pu.E} {e' : Expr} (hn : ∀ n ∈ e.need, NeedOk Z.p lv X n) (h1 : ckE c e e' = true) : PS X (.Return (some e') pos) (lS Z (.ret e)) := by
  intro pins s σ H D I h
  rcases ret_to h with ⟨i, t, rfl, hs, hq⟩ | ⟨m, h⟩
  · cases e' with
    | Name y q =>
      obtain ⟨g, h3⟩ := and3 (show ((c.N[i]? == some y) && visB c.sc y && okNm y) = true from h1)
      obtain ⟨h1, h2⟩ := and3 g
      obtain ⟨d1, d2⟩ := okNm_is h3
      exact ps_ret (pe_var (by rw [C.ct.N]; exact beq_iff_eq.mp h1) (C.ct.vis h2) d1 d2) pins s σ H D I ⟨_, hs, hq⟩
    | _ => exact Bool.noConfusion (show false = true from h1)
  · exact ps_ret (snd e C.ct (tn := tnM m) e' hn h1).1 pins s σ H D I h
theorem sndS_raiseA (C : Cs Z c lv X E) {a : Pu.E} {e : Expr} {np cp : Pos} (hn : ∀ n ∈ a.need, NeedOk Z.p lv X n) (hN : NeedOk Z.p lv X .ma) (h1 : glB c.sc (clsName 4) = true) (h3 : ckE c a e = true) (h4 : noStar e = true) (hrz : c.rz = true) (hcm : c.cm = true) :
    PS X (.Raise (some (.Call (.Name (clsName 4) np) [e] [] cp)) none pos) (lS Z (.raiseA a)) := by
  intro pins s σ H D I h
  obtain ⟨r0, r1, r2, r3, r4, fI, fd, ps, r5, r6, r7, r8⟩ := hN
  obtain ⟨m, h⟩ := raiseA_to h
  have A := (snd a C.ct (tn := tnM m) e hn h3).1
  refine ps_raiseA (C.xw hrz).2 (C.ct.calm hcm) r7 ((C.ct.room hcm).mono r0) (C.ct.gl h1) r2 r3 r8 r4 r5 r6 passNo (pa_cons A pa_nil (star_of h4)) (clsName_nd 4) (star_of h4) pins s σ H D I ?_
  show lE Z.p Z.EX (tnM m) a σ H fun v H1 => ∃ v', [v] = [v'] ∧ _
  obtain ⟨τ, e1, hF, j, k, hj, h⟩ := h
  refine ⟨τ, e1, hF, j, k, hj, h.mono (Same.refl _) fun d _ hd t H1 ht R => ?_⟩
  obtain ⟨i, hv, hq⟩ := hd t H1 ht R
  refine ⟨_, rfl, fun dx ob H3 n1 n2 n3 => ?_⟩
  have := hq r1 H3 dx ob (fun b u z => n3 b u z) (by rw [← hv]; exact n2)
  rw [C.ex hrz] at this
  exact this
end
section
variable {Z : Zx} {c : CkC} {lv : Nat} {X : Cx} {E : XK} {pos : Pos}
end
section
variable {Z : Zx} {c : CkC} {lv : Nat} {X : Cx} {E : XK} {pos : Pos}
end
section
variable {Z : Zx} {c : CkC} {lv : Nat} {X : Cx} {E : XK} {pos : Pos}
theorem sndS_try (C : Cs Z c lv X E) (hcm : X.calm = true) {b h e : Ss} {n i : Nat} {y : Str} {b' e' hr : List Stmt} {b0 : Stmt} {p1 p2 : Pos} (nC : NeedOk Z.p lv X (.cl n)) (hi : X.N[i]? = some y) (hl : c.sc.names.lookup y = some .local) (hg : Gl X (clsName n)) (hd : (clsName n == ("__debug__" : Str)) = false)
    (B : ∀ (EX : EXT) (W : WT) (pn : PT0), PassAt (CXe X.prog X.w) (X.inT W pn) EX → ∀ mx, PSs (X.inT W pn) b' (lSs { Z with EX := EX, mx := mx } b)) (S : ∀ a mx, PSs (X.inX a) (b0 :: hr) (lSs { Z with EX := EX0, mx := mx } h)) (O : PSs X e' (lSs Z e)) :
    PS X (.Try b' [.ExceptHandler (some (.Name (clsName n) p1)) (some y) (b0 :: hr) p2] e' [] pos) (lS Z (.try_ b n i h e)) := by
  intro pins s σ H D I hq
  obtain ⟨mb, mh, q⟩ := try_to (K := X.K) C.ct.K C.ct.kx nC.1 hq
  have hk : X.env.kindOf y = some .local := by
    show X.env.scope.names.lookup y = _
    rw [C.ct.sc]; exact hl
  exact ps_try hcm C.stk C.frm C.ct.nd hi hk hg nC.2 (fun E W pn hp => B E W pn hp mb) (fun a => S a mh) O hd pins s σ H D I q
end
section
variable {Z : Zx} {c : CkC} {lv : Nat} {X : Cx} {E : XK} {pos : Pos}
end
mutual
theorem sndS {Z : Zx} {c : CkC} {lv : Nat} {X : Cx} {E : XK} (C : Cs Z c lv X E) : ∀ (s : S) (st : Stmt), (∀ n ∈ s.need, NeedOk Z.p lv X n) → ckS c s st = true → PS X st (lS Z s)
  | .asg x k e, st, hn, h => by
    cases st with
    | Assign ts e' q =>
      match ts, h with
      | [t], h =>
        cases t with
        | Name y py =>
          obtain ⟨h, h3⟩ := and3 (show ((c.N[x]? == some y) && locB c y && ckE c e e') = true from h)
          obtain ⟨h1, h2⟩ := and3 h
          exact sndS_asg C hn h1 h2 h3
        | _ => exact Bool.noConfusion (show false = true from h)
      | [], h => exact Bool.noConfusion (show false = true from h)
      | t :: _ :: _, h => cases t <;> exact Bool.noConfusion (show false = true from h)
    | _ => exact Bool.noConfusion (show false = true from h)
  | .dem _ _, st, hn, h => by cases st <;> exact Bool.noConfusion (show false = true from h)
  | .dead _, st, hn, h => by cases st <;> exact Bool.noConfusion (show false = true from h)
  | .set x q i e, st, hn, h => by
    cases st with
    | Assign ts e' q2 =>
      match ts, h with
      | [t], h =>
        cases t with
        | Subscript o i' py =>
          obtain ⟨h, h5⟩ := and3 (show (ckPl c x q.reverse o && ckE c i i' && plainI i' && ckE c e e' && notComp e') = true from h)
          obtain ⟨h, h4⟩ := and3 h
          obtain ⟨h, h3⟩ := and3 h
          obtain ⟨h1, h2⟩ := and3 h
          obtain ⟨n1, n2⟩ := need_l hn
          obtain ⟨n2, n3⟩ := need_l n2
          exact sndS_set C n1 n2 n3 h1 h2 h3 h4 h5
        | _ => exact Bool.noConfusion (show false = true from h)
      | [], h => exact Bool.noConfusion (show false = true from h)
      | t :: _ :: _, h => cases t <;> exact Bool.noConfusion (show false = true from h)
    | _ => exact Bool.noConfusion (show false = true from h)
  | .mut x q u es, st, hn, h => by
    cases st with
    | Expr v q2 =>
      cases v with
      | Call f xs ks cp =>
        cases f with
        | Attribute o name ap =>
          cases ks with
          | nil =>
            obtain ⟨h, h8⟩ := and3 (show (ckPl c x q.reverse o && (name == umName u) && ckEs c es xs && (ap.endLine == cp.line) && notCall0 o && decide (es.len < 20) && umAr u es.len) = true from h)
            obtain ⟨h, h7⟩ := and3 h
            obtain ⟨h, h5⟩ := and3 h
            obtain ⟨h, h4⟩ := and3 h
            obtain ⟨h, h3⟩ := and3 h
            obtain ⟨h1, h2⟩ := and3 h
            cases beq_iff_eq.mp h2
            obtain ⟨n1, n2⟩ := need_l hn
            exact sndS_mut C n1 n2 h1 h3 h4 h8
          | cons _ _ => exact Bool.noConfusion (show false = true from h)
        | _ => exact Bool.noConfusion (show false = true from h)
      | _ => exact Bool.noConfusion (show false = true from h)
    | _ => exact Bool.noConfusion (show false = true from h)
  | .expr e, st, hn, h => by
    cases st with
    | Expr v q2 =>
      obtain ⟨h1, h2⟩ := and3 (show (ckE c e v && notComp v) = true from h)
      exact sndS_expr C hn h1 h2
    | _ => exact Bool.noConfusion (show false = true from h)
  | .iff t a b, st, hn, h => by
    cases st with
    | If t' a' b' q =>
      obtain ⟨h, h4⟩ := and3 (show (ckE c t t' && t.tst && ckSs c a a' && ckSs c b b') = true from h)
      obtain ⟨h, h3⟩ := and3 h
      obtain ⟨h1, h2⟩ := and3 h
      obtain ⟨n1, n2⟩ := need_l hn
      obtain ⟨n2, n3⟩ := need_l n2
      intro pins s σ H D I h
      obtain ⟨m, h⟩ := iff_to h
      exact ps_if ((snd t C.ct (tn := tnM m) t' n1 h1).2 h2) (sndSs C a a' n2 h3) (sndSs C b b' n3 h4) pins s σ H D I h
    | _ => exact Bool.noConfusion (show false = true from h)
  | .wh t b, st, hn, h => by
    cases st with
    | While t' b' el q =>
      cases el with
      | nil =>
        obtain ⟨h, hrz⟩ := and3 (show (ckE c t t' && t.tst && ckSs c b b' && c.rz) = true from h)
        obtain ⟨h, h3⟩ := and3 h
        obtain ⟨h1, h2⟩ := and3 h
        obtain ⟨n1, n2⟩ := need_l hn
        intro pins s σ H D I h
        obtain ⟨m, h⟩ := wh_to h
        exact ps_while (C.po hrz) ((snd t C.ct (tn := tnM m) t' n1 h1).2 h2) (sndSs C b b' n2 h3) pins s σ H D I h
      | cons _ _ => exact Bool.noConfusion (show false = true from h)
    | _ => exact Bool.noConfusion (show false = true from h)
  | .for_ g it b, st, hn, h => by
    cases st with
    | For tg it' b' el q =>
      cases el with
      | nil =>
        obtain ⟨h, hcm⟩ := and3 (show (ckG c g tg && ckI c tg it it' && noSet it' && ckSs c b b' && c.rz && c.cm) = true from h)
        obtain ⟨h, hrz⟩ := and3 h
        obtain ⟨h, h4⟩ := and3 h
        obtain ⟨h, h3⟩ := and3 h
        obtain ⟨h1, h2⟩ := and3 h
        obtain ⟨n1, n2⟩ := need_l hn
        have B := sndSs C b b' n2 h4
        intro pins s σ H D I h
        rcases for_to (K := X.K) (X := X) h with ⟨m, h⟩ | ⟨x, rfl, v, a, xs, e1, rfl, sq, hW⟩
        · exact ps_for (C.po hrz) (C.ct.calm hcm) (sndI it C.ct (tn := tnM m) it' n1 h2) (sndG C.ct h1) B (noSet_is h3) pins s σ H D I h
        · cases it' with
          | Name y q' =>
            obtain ⟨g, g3⟩ := and3 (show ((c.N[x]? == some y) && visB c.sc y && okNm y) = true from h2)
            obtain ⟨g1, g2⟩ := and3 g
            obtain ⟨d1, d2⟩ := okNm_is g3
            refine ps_for (C.po hrz) (C.ct.calm hcm) (pi_seq (pe_var (by rw [C.ct.N]; exact beq_iff_eq.mp g1) (C.ct.vis g2) d1 d2)) (sndG C.ct h1) B (noSet_is h3) pins s σ H D I ?_
            exact ⟨_, e1, a, rfl, .inl ⟨xs, sq, hW C.ct.K⟩⟩
          | _ => exact Bool.noConfusion (show false = true from h2)
      | cons _ _ => exact Bool.noConfusion (show false = true from h)
    | _ => exact Bool.noConfusion (show false = true from h)
  | .ret e, st, hn, h => by
    cases st with
    | Return v q =>
      cases v with
      | some e' => exact sndS_ret C hn h
      | none => exact Bool.noConfusion (show false = true from h)
    | _ => exact Bool.noConfusion (show false = true from h)
  | .raiseA a, st, hn, h => by
    cases st with
    | Raise v w q =>
      cases v with
      | none => exact Bool.noConfusion (show false = true from h)
      | some v =>
        cases v with
        | Call f xs ks q' =>
          cases f with
          | Name x np =>
            match xs, ks, w, h with
            | [e], [], none, h =>
              obtain ⟨h, hcm⟩ := and3 (show ((x == clsName 4) && glB c.sc x && ckE c a e && noStar e && c.rz && c.cm) = true from h)
              obtain ⟨h, hrz⟩ := and3 h
              obtain ⟨h, h4⟩ := and3 h
              obtain ⟨h, h3⟩ := and3 h
              obtain ⟨h1, h2⟩ := and3 h
              cases beq_iff_eq.mp h1
              exact sndS_raiseA C (fun n m => hn n (List.mem_cons_of_mem _ m)) (hn _ (List.mem_cons_self ..)) h2 h3 h4 hrz hcm
            | [], _, _, h => exact Bool.noConfusion (show false = true from h)
            | _ :: _ :: _, _, _, h => exact Bool.noConfusion (show false = true from h)
            | [_], _ :: _, _, h => exact Bool.noConfusion (show false = true from h)
            | [_], [], some _, h => exact Bool.noConfusion (show false = true from h)
          | _ => exact Bool.noConfusion (show false = true from h)
        | _ => exact Bool.noConfusion (show false = true from h)
    | _ => exact Bool.noConfusion (show false = true from h)
  | .try_ b n i h e, st, hn, hck => by
    cases st with
    | Try b' hs e' fin q =>
      have hck : (match hdOf hs fin with
        | some (x, y, h') => (x == clsName n) && glB c.sc x && okNm x && (c.N[i]? == some y) && (c.sc.names.lookup y == some .local) && c.rz && c.cm && !h'.isEmpty && ckSs { c with rz := false } b b' && ckSs { c with rz := false, cm := false } h h' && ckSs c e e'
        | none => false) = true := hck
      cases hh : hdOf hs fin with
      | none => rw [hh] at hck; cases hck
      | some w =>
        obtain ⟨x, y, h'⟩ := w
        rw [hh] at hck
        obtain ⟨p1, p2, rfl, rfl⟩ := hdOf_is hh
        obtain ⟨hck, g10⟩ := and3 hck
        obtain ⟨hck, g9⟩ := and3 hck
        obtain ⟨hck, g8⟩ := and3 hck
        obtain ⟨hck, g7⟩ := and3 hck
        obtain ⟨hck, gcm⟩ := and3 hck
        obtain ⟨hck, g6⟩ := and3 hck
        obtain ⟨hck, g5⟩ := and3 hck
        obtain ⟨hck, g4⟩ := and3 hck
        obtain ⟨hck, g3⟩ := and3 hck
        obtain ⟨g1, g2⟩ := and3 hck
        cases beq_iff_eq.mp g1
        have nC : NeedOk Z.p lv X (.cl n) := hn _ (List.mem_cons_self ..)
        have hn' : ∀ k ∈ b.need ++ (h.need ++ e.need), NeedOk Z.p lv X k := fun k m => hn k (List.mem_cons_of_mem _ m)
        obtain ⟨n1, n2⟩ := need_l hn'
        obtain ⟨n2, n3⟩ := need_l n2
        cases h' with
        | nil => cases g7
        | cons b0 hr =>
          refine sndS_try C (C.ct.calm gcm) nC (by rw [C.ct.N]; exact beq_iff_eq.mp g4) (beq_iff_eq.mp g5) (C.ct.gl g2) (okNm_is g3).1 (fun EX W pn hp mx => ?_) (fun a mx => ?_) (sndSs C e e' n3 g10)
          · exact sndSs (Z := { Z with EX := EX, mx := _ }) (c := { c with rz := false }) (X := X.inT W pn) (E := E) ⟨⟨C.ct.K, C.ct.N, C.ct.sc, C.ct.nd, C.ct.calm, C.ct.room, C.ct.un, ⟨C.ct.r0.dp, C.ct.r0.un⟩, C.ct.blt, C.ct.bt, hp, C.ct.fn, C.ct.kx, (fun z => nomatch z)⟩, (fun z => nomatch z), (fun z => nomatch z), (fun z => nomatch z), C.kind, C.stk, C.frm⟩ b b' n1 g8
          · refine sndSs (Z := { Z with EX := EX0, mx := _ }) (c := { c with rz := false, cm := false }) (X := X.inX a) (E := E) ⟨⟨C.ct.K, C.ct.N, C.ct.sc, C.ct.nd, (fun z => nomatch z), (fun z => nomatch z), C.ct.un, ⟨C.ct.r0.dp, C.ct.r0.un⟩, C.ct.blt, C.ct.bt, ?_, C.ct.fn, C.ct.kx, (fun z => nomatch z)⟩, (fun z => nomatch z), (fun z => nomatch z), (fun z => nomatch z), C.kind, C.stk, C.frm⟩ h (b0 :: hr) n2 g9
            intro _ _ _ _ _ _ _ hx
            obtain ⟨_, _, _, _, _, _, _, _, _, _, _, _, _, _, _, _, _, _, _, _, z⟩ := hx
            exact z.elim
    | _ => exact Bool.noConfusion (show false = true from hck)
theorem sndSs {Z : Zx} {c : CkC} {lv : Nat} {X : Cx} {E : XK} (C : Cs Z c lv X E) : ∀ (s : Ss) (st : List Stmt), (∀ n ∈ s.need, NeedOk Z.p lv X n) → ckSs c s st = true → PSs X st (lSs Z s)
  | .nil, st, hn, h => by
    cases st with
    | nil => exact fun pins s σ H D I h => pss_nil pins s σ H D I (nil_to h)
    | cons _ _ => exact Bool.noConfusion (show false = true from h)
  | .cons s r, st, hn, h => by
    obtain ⟨n1, n2⟩ := need_l hn
    have skip : (∃ x k, s = .dem x k) ∨ (∃ x, s = .dead x) → ckSs c r st = true → PSs X st (lSs Z (.cons s r)) := fun hs h => PSs.mono (sndSs C r st n2 h) fun D σ H q => skip_to hs q
    by_cases hd : (∃ x k, s = .dem x k) ∨ (∃ x, s = .dead x)
    · refine skip hd ?_
      rcases hd with ⟨x, k, rfl⟩ | ⟨x, rfl⟩
      · exact h
      · exact h
    · cases st with
      | nil => cases s <;> first | exact Bool.noConfusion (show false = true from h) | exact absurd (.inl ⟨_, _, rfl⟩) hd | exact absurd (.inr ⟨_, rfl⟩) hd
      | cons x xs =>
        have h : (ckS c s x && ckSs c r xs) = true := by
          cases s <;> first | exact h | exact absurd (.inl ⟨_, _, rfl⟩) hd | exact absurd (.inr ⟨_, rfl⟩) hd
        obtain ⟨h1, h2⟩ := and3 h
        exact PSs.mono (pss_cons (sndS C s x n1 h1) (sndSs C r xs n2 h2)) fun D σ H q => seq_to q
end
end Pu
end
section
namespace Pu
open PySem PySem.Spec PyProof.Rows PySem.W L2
structure Lw where
  p : Px
  P : Program
  w : World
  mg : Str → Option Value
  base : Heap
structure Lw.Ok (L : Lw) : Prop where
  blt : ∀ y ∈ bnames, L.mg y = none
  bt : ∀ y ∈ (["bool", "dict", "ValueError"] : List Str), L.mg y = none
  kx : Kx L.p
noncomputable def HasG (L : Lw) (F : Fn) : Prop := ∃ ps : List Str, ps.length = F.ar ∧ Has L.P L.w L.p.K L.mg L.base F.name F.lv ps (spF L.p F)
noncomputable def HasG0 (L : Lw) (F : Fn) : Prop := ∃ ps : List Str, ps.length = F.ar ∧ Has0 L.P L.w L.p.K L.mg L.base F.name F.lv ps (spF0 L.p F)
noncomputable def HasGM (L : Lw) (F : Fn) : Prop := ∃ ps : List Str, ps.length = F.ar ∧ Has L.P L.w L.p.K L.mg L.base F.name F.lv ps (spM L.p F)
noncomputable def HasGN (L : Lw) (F : Fn) : Prop := ∃ ps : List Str, ps.length = F.ar ∧ Has L.P L.w L.p.K L.mg L.base F.name F.lv ps (spN L.p F)
noncomputable def NeedG (L : Lw) (lv : Nat) : Nd1 → Prop
  | .fn F => F.lv ≤ lv ∧ HasG L F
  | .fm F => F.lv ≤ lv ∧ HasGM L F
  | .fc F => F.lv ≤ lv ∧ HasGN L F
  | .cl n => L.p.has n = true ∧ L.mg (clsName n) = some (.ref (L.p.cl n))
  | .rs n => L.p.has n = true ∧ nsIn L.p.K mainGlobals (clsName n) = some (some (.ref (L.p.cl n))) ∧ excIn L.p.K (L.p.cl n) bmVE "ValueError.__new__" = true
  | .f0 F => F.lv ≤ lv ∧ HasG0 L F
  | .mk n => L.p.has n = true ∧ nsIn L.p.K mainGlobals (clsName n) = some (some (.ref (L.p.cl n))) ∧ excIn L.p.K (L.p.cl n) bmVE "ValueError.__new__" = true ∧ keepIn L.p.K (.ref (L.p.cl n)) = true
  | .ma => 2 ≤ lv ∧ L.p.has 4 = true ∧ L.mg (clsName 4) = some (.ref (L.p.cl 4)) ∧ keepIn L.p.K (.ref (L.p.cl 4)) = true ∧ XOwn L.p.K (L.p.cl 4) "at" ∧ ∃ fI fd ps, findIn L.p.K (.ref (L.p.cl 4)) "__init__" = some (some (.ref fI)) ∧ typeIn L.p.K (.ref fI) = some (.type "function") ∧ FnOk L.P L.w L.p.K L.mg L.base (CXe L.P L.w) 1 fI fd ps (spI (L.p.cl 4) "at") ∧ Binds L.p.K fd ps []
  | .ax => L.p.has 4 = true ∧ XOwn L.p.K (L.p.cl 4) "at"
  | .gl x d => ∃ u, L.mg x = some u ∧ RelV (dT d).val u
noncomputable def AllN (f : Nd1 → Prop) : List Nd1 → Prop
  | [] => True
  | n :: r => f n ∧ AllN f r
theorem AllN.mem {f : Nd1 → Prop} : ∀ {l : List Nd1}, AllN f l → ∀ n ∈ l, f n
  | [], _, n, h => by cases h
  | m :: r, h, n, hn => by
    rcases List.mem_cons.mp hn with rfl | hn
    · exact h.1
    · exact AllN.mem h.2 n hn
noncomputable def mkFn (name : Str) (ar lv dep n : Nat) (body : Ss) : Fn := ⟨name, ar, lv, dep, fun ds => if ds.length = ar then run n body ds else .bad⟩
theorem den_eq {x : Str} {ar lv dep n : Nat} {b : Ss} {ds : List D} (h : ds.length = ar) : (mkFn x ar lv dep n b).den ds = run n b ds := if_pos h
noncomputable def m0 (ar n : Nat) : Ms := List.replicate ar .sh ++ List.replicate (n - ar) .dead
noncomputable def τ0 (n : Nat) (ts : List T) : Ft := ts.map some ++ List.replicate (n - ts.length) none
theorem vτ0 (N : List Str) (ts : List T) : vτ (τ0 N.length ts) = L2.start N (ts.map T.val) := by
  unfold vτ τ0 L2.start
  rw [List.map_append, List.map_map, List.map_map, List.map_replicate, List.length_map]
  rfl
theorem dτ0 (n : Nat) (ts : List T) : dτ (τ0 n ts) = Pu.start n (T.dats ts) := by
  unfold dτ τ0 Pu.start
  rw [List.map_append, List.map_map, T.dats_map, List.map_map, List.map_replicate, List.length_map]
  rfl
theorem m0_get {ar n i : Nat} {d : Md} (h : (m0 ar n)[i]? = some d) : (i < ar ∧ d = .sh) ∨ (ar ≤ i ∧ d = .dead) := by
  unfold m0 at h
  by_cases hi : i < ar
  · rw [List.getElem?_append_left (by simpa using hi), List.getElem?_replicate, if_pos hi] at h
    exact .inl ⟨hi, (Option.some.inj h).symm⟩
  · rw [List.getElem?_append_right (by simpa using hi), List.getElem?_replicate] at h
    split at h
    · exact .inr ⟨Nat.le_of_not_lt hi, (Option.some.inj h).symm⟩
    · cases h
theorem τ0_get {n i : Nat} {ts : List T} {t : T} (h : (τ0 n ts)[i]? = some (some t)) : t ∈ ts := by
  unfold τ0 at h
  have := List.mem_of_getElem? h
  rw [List.mem_append] at this
  rcases this with z | z
  · obtain ⟨u, hu, e⟩ := List.mem_map.mp z
    cases e; exact hu
  · have := (List.mem_replicate.mp z).2; cases this
theorem oks_mem {p : Px} {H : Hp} : ∀ {ts : List T}, T.Oks p H ts → ∀ t ∈ ts, t.Ok p H
  | [], _, t, h => by cases h
  | u :: r, h, t, ht => by
    rcases List.mem_cons.mp ht with rfl | ht
    · exact h.1
    · exact oks_mem h.2 t ht
theorem sf0 {p : Px} {H : Hp} {ts : List T} {n ar : Nat} (ok : T.Oks p H ts) (hl : ts.length = ar) (hn : ar ≤ n) : Sf p H (fun a => a ∈ T.rests ts 0) (m0 ar n) (τ0 n ts) H := by
  have noOw : ∀ {i k : Nat}, (m0 ar n)[i]? ≠ some (.ow k) := fun {i k} h => by
    rcases m0_get h with ⟨_, z⟩ | ⟨_, z⟩ <;> cases z
  refine ⟨?_, fun d hd => ?_, Same.refl _, fun i t j h1 h2 h3 => oks_mem ok t (τ0_get h1), fun i t k a h1 h2 => absurd h2 noOw, ?_, fun i t k h1 h2 => absurd h2 noOw, fun i j t u k d h0 h1 h2 => absurd h2 noOw, fun i j t u k k2 h1 h2 => absurd h2 noOw⟩
  · unfold τ0 m0
    simp [hl]
  · obtain ⟨i, hi⟩ := List.getElem?_of_mem hd
    rcases m0_get hi with ⟨_, rfl⟩ | ⟨_, rfl⟩ <;> rfl
  · rintro a ⟨i, t, j, h1, h2, h3, h4⟩
    obtain ⟨d, h5, rfl⟩ := tnM_get h2
    right
    refine T.mem_rests.mpr ⟨t, τ0_get h1, ?_⟩
    rcases m0_get h5 with ⟨_, rfl⟩ | ⟨_, rfl⟩
    · exact h4
    · exact absurd h3 (by decide)
theorem NeedG.to {L : Lw} {lv : Nat} {n : Nd1} (h : NeedG L lv n) {X : Cx} (e1 : X.prog = L.P) (e2 : X.w = L.w) (e3 : X.K = L.p.K) (e4 : X.mg = L.mg) (e5 : X.base = L.base) : NeedOk L.p lv X n := by
  cases n with
  | fn F =>
    refine ⟨h.1, ?_⟩
    unfold HasF
    rw [e1, e2, e3, e4, e5]
    exact h.2
  | fm F =>
    refine ⟨h.1, ?_⟩
    unfold HasM
    rw [e1, e2, e3, e4, e5]
    exact h.2
  | fc F =>
    refine ⟨h.1, ?_⟩
    unfold HasN
    rw [e1, e2, e3, e4, e5]
    exact h.2
  | cl n => show _ ∧ _; rw [e4]; exact h
  | rs n => show _ ∧ _ ∧ _; rw [e3]; exact h
  | f0 F =>
    refine ⟨h.1, ?_⟩
    unfold HasF0
    rw [e1, e2, e3, e4, e5]
    exact h.2
  | mk n => show _ ∧ _ ∧ _ ∧ _; rw [e3]; exact h
  | ma => show _ ∧ _ ∧ _; rw [e1, e2, e3, e4, e5]; exact h
  | ax => show _ ∧ _; rw [e3]; exact h
  | gl x d => show ∃ u, _; rw [e4]; exact h
theorem def_fn {L : Lw} (O : L.Ok) {x : Str} {st : Stmt} {N ps : List Str} {ar lv dep : Nat} {body : Ss} {f : Addr} {fd : FuncData} (D : Fun L.p.K x x st f fd) (S : FnScope N ps (defScope st)) (har : ps.length = ar)
    (hck : ckSs ⟨N, defScope st, true, true, true⟩ body (defBody st) = true) (hms : (msSs (List.replicate N.length .dead) dep body (m0 ar N.length)).isSome = true) (hn : AllN (NeedG L lv) body.need) (hdp : dep < 1000) : FnOk L.P L.w L.p.K L.mg L.base (CXe L.P L.w) (lv + 1) f fd ps (spF L.p (mkFn x ar (lv + 1) dep N.length body)) := by
  have hpl : ps.length ≤ N.length := by have := congrArg List.length S.pre; rw [List.length_take] at this; omega
  refine Fun.okX D S (fun vs H Q E h => ?_) fun f cdv A outer s H vs Q E hr hsp => ?_
  · obtain ⟨ts, rfl, _, h, _⟩ := h
    rw [List.length_map, h]; exact har.symm
  · obtain ⟨ts, rfl, ok, hl, h⟩ := hsp
    have hl : ts.length = ar := hl
    obtain ⟨r, hr'⟩ := Option.isSome_iff_exists.mp hms
    let Z : Zx := ⟨L.p, H, fun a => a ∈ T.rests ts 0, fun _ => E, List.replicate N.length .dead, dep⟩
    have C : Cs Z ⟨N, defScope st, true, true, true⟩ lv (cxOf (CXe L.P L.w) L.P L.w L.p.K L.mg L.base N x (defScope st) f cdv A outer s H E) E := by
      refine ⟨⟨rfl, rfl, rfl, S.nd, fun _ => rfl, fun _ => hr, hr.units, hr.r0, O.blt, O.bt, ?_, fun _ _ => rfl, O.kx, fun _ => trivial⟩, fun _ => rfl, fun _ => ⟨xwish_of fun _ _ _ h => h, xwishA_of fun _ _ _ h => h⟩, fun _ => PassesOwn.leaving, S.kind, rfl, rfl⟩
      intro pins σ H' s' e s'' I h
      exact passX (fun _ _ _ h => h) pins σ H' s' e s'' I h
    refine ⟨_, sndSs C body (defBody st) (fun n hnm => (hn.mem n hnm).to rfl rfl rfl rfl rfl) hck, τ0 N.length ts, m0 ar N.length, r, (vτ0 N ts).symm, sf0 ok hl (by omega), hr', ?_⟩
    have h : match (if (T.dats ts).length = ar then run N.length body (T.dats ts) else .bad) with
      | .ok d => ∀ t H', t.dat = d → Rs L.p (fun a => a ∈ T.rests ts 0) H H' 0 dep t → Q t.val H'
      | .exc c => L.p.has (kcX c) = true → ∀ H', Same H H' → XW L.p E c H'
      | .bad => False := h
    rw [if_pos (by rw [T.dats_map, List.length_map]; exact hl)] at h
    unfold run at h
    rw [dτ0]
    cases q : exs body (Pu.start N.length (T.dats ts)) with
    | nxt δ =>
      rw [q] at h
      intro m' τ' H' e1 e2 S' P'
      exact h .non H' rfl (Rs.scal S'.same rfl)
    | ret d =>
      rw [q] at h
      show lRet Z _ d _ _
      unfold lRet
      rw [if_pos (show Z.dep < 1000 from hdp)]
      exact h
    | exc c δ =>
      rw [q] at h
      intro hc τ' H' e S' P'
      exact h hc H' S'.same
    | bad => rw [q] at h; exact h.elim
theorem def_fn0 {L : Lw} (O : L.Ok) {x : Str} {st : Stmt} {N ps : List Str} {ar lv dep : Nat} {body : Ss} {f : Addr} {fd : FuncData} (D : Fun L.p.K x x st f fd) (S : FnScope N ps (defScope st)) (har : ps.length = ar)
    (hck : ckSs ⟨N, defScope st, true, false, false⟩ body (defBody st) = true) (hms : (msSs (List.replicate N.length .dead) dep body (m0 ar N.length)).isSome = true) (hn : AllN (NeedG L lv) body.need) (hdp : dep < 1000) : FnOk0 L.P L.w L.p.K L.mg L.base (lv + 1) f fd ps (spF0 L.p (mkFn x ar (lv + 1) dep N.length body)) := by
  have hpl : ps.length ≤ N.length := by have := congrArg List.length S.pre; rw [List.length_take] at this; omega
  refine Fun.ok0 D S (fun vs H Q h => ?_) fun cdv A outer s H vs Q hr hsp => ?_
  · obtain ⟨ts, rfl, _, h, _⟩ := h
    rw [List.length_map, h]; exact har.symm
  · obtain ⟨ts, rfl, ok, hl, h⟩ := hsp
    have hl : ts.length = ar := hl
    obtain ⟨r, hr'⟩ := Option.isSome_iff_exists.mp hms
    let Z : Zx := ⟨L.p, H, fun a => a ∈ T.rests ts 0, fun _ _ _ _ => False, List.replicate N.length .dead, dep⟩
    have C : Cs Z ⟨N, defScope st, true, false, false⟩ lv (cx0 (CXe L.P L.w) L.P L.w L.p.K L.mg L.base N x (defScope st) f cdv A outer s H fun _ _ _ => False) (fun _ _ _ => False) := by
      refine ⟨⟨rfl, rfl, rfl, S.nd, (fun z => nomatch z), (fun z => nomatch z), hr.units, hr, O.blt, O.bt, ?_, fun _ _ => rfl, O.kx, (fun z => nomatch z)⟩, (fun z => nomatch z), (fun z => nomatch z), (fun z => nomatch z), S.kind, rfl, rfl⟩
      intro pins σ H' s' e s'' I h
      obtain ⟨_, _, _, _, _, _, _, _, _, _, _, _, _, _, _, _, _, _, _, _, z⟩ := h
      exact z.elim
    refine ⟨_, sndSs C body (defBody st) (fun n hnm => (hn.mem n hnm).to rfl rfl rfl rfl rfl) hck, τ0 N.length ts, m0 ar N.length, r, (vτ0 N ts).symm, sf0 ok hl (by omega), hr', ?_⟩
    have h : match (if (T.dats ts).length = ar then run N.length body (T.dats ts) else .bad) with
      | .ok d => ∀ t H', t.dat = d → Rs L.p (fun a => a ∈ T.rests ts 0) H H' 0 dep t → Q t.val H'
      | _ => False := h
    rw [if_pos (by rw [T.dats_map, List.length_map]; exact hl)] at h
    unfold run at h
    rw [dτ0]
    cases q : exs body (Pu.start N.length (T.dats ts)) with
    | nxt δ =>
      rw [q] at h
      intro m' τ' H' e1 e2 S' P'
      exact h .non H' rfl (Rs.scal S'.same rfl)
    | ret d =>
      rw [q] at h
      show lRet Z _ d _ _
      unfold lRet
      rw [if_pos (show Z.dep < 1000 from hdp)]
      exact h
    | exc c δ =>
      rw [q] at h
      exact (show False from h).elim
    | bad => rw [q] at h; exact (show False from h).elim
theorem def_has0 {L : Lw} (O : L.Ok) {x : Str} {st : Stmt} {N ps : List Str} {ar lv dep : Nat} {body : Ss} (D : Df L.p.K L.mg x st ps) (S : FnScope N ps (defScope st)) (har : ps.length = ar)
    (hck : ckSs ⟨N, defScope st, true, false, false⟩ body (defBody st) = true) (hms : (msSs (List.replicate N.length .dead) dep body (m0 ar N.length)).isSome = true) (hn : AllN (NeedG L lv) body.need) (hdp : dep < 1000) : HasG0 L (mkFn x ar (lv + 1) dep N.length body) := by
  obtain ⟨f, fd, F, m, b⟩ := D
  exact ⟨ps, har, f, fd, def_fn0 O F S har hck hms hn hdp, m, F.kp, b⟩
theorem def_has {L : Lw} (O : L.Ok) {x : Str} {st : Stmt} {N ps : List Str} {ar lv dep : Nat} {body : Ss} (D : Df L.p.K L.mg x st ps) (S : FnScope N ps (defScope st)) (har : ps.length = ar)
    (hck : ckSs ⟨N, defScope st, true, true, true⟩ body (defBody st) = true) (hms : (msSs (List.replicate N.length .dead) dep body (m0 ar N.length)).isSome = true) (hn : AllN (NeedG L lv) body.need) (hdp : dep < 1000) : HasG L (mkFn x ar (lv + 1) dep N.length body) := by
  obtain ⟨f, fd, F, m, b⟩ := D
  exact ⟨ps, har, f, fd, def_fn O F S har hck hms hn hdp, m, F.kp, b⟩
noncomputable def isLs : Value → Bool
  | .type x => x == "list"
  | _ => false
noncomputable def noL (K : Frag) : Bool := K.all fun e => !isLs e.2.cls
theorem mem_lk {a : Addr} {o : Obj} : ∀ {K : Frag}, K.lookup a = some o → (a, o) ∈ K
  | [], h => by cases h
  | (b, u) :: r, h => by
    by_cases e : a = b
    · subst e
      rw [List.lookup_cons_self] at h
      cases h
      exact List.mem_cons_self
    · have : (a == b) = false := by simpa using e
      rw [List.lookup_cons, this] at h
      exact List.mem_cons_of_mem _ (mem_lk h)
theorem noL_is {K : Frag} (h : noL K = true) {a : Addr} {o : Obj} (e : K.lookup a = some o) : o.cls ≠ .type "list" := fun z => by
  have := List.all_eq_true.mp h (a, o) (mem_lk e)
  rw [z] at this
  cases this
noncomputable def spL (K : Frag) : Sp := fun vs H Q E => ∃ (a : Addr) (ns : List Int), vs = [.ref a] ∧ ns.length ≤ 63 ∧ SqL K H a (ns.map V.int) ∧ ∀ H', Q (.bl true) H'
theorem ints_val : ∀ ns : List Int, (ns.map T.int).map T.val = ns.map V.int
  | [] => rfl
  | n :: r => by rw [List.map_cons, List.map_cons, List.map_cons, ints_val r]; rfl
theorem ints_dat : ∀ ns : List Int, T.dats (ns.map T.int) = ns.map D.int
  | [] => rfl
  | n :: r => by rw [List.map_cons, List.map_cons, T.dats, ints_dat r]; rfl
theorem ints_ok {p : Px} {H : Hp} : ∀ ns : List Int, T.Oks p H (ns.map T.int)
  | [] => trivial
  | n :: r => ⟨trivial, ints_ok r⟩
theorem law_fn {P : Program} {w : World} {K : Frag} {mg : Str → Option Value} {base : Heap} {p : Px} {F : Fn} {f : Addr} {fd : FuncData} {ps : List Str} (hF : FnOk P w K mg base (CXe P w) F.lv f fd ps (spF p F)) (hp : p.K = K) (ha : F.ar = 1) (hK : noL K = true)
    (hd : ∀ ns : List Int, ns.length ≤ 63 → F.den [.lst (ns.map .int)] = .ok (.bl true)) : FnOk P w K mg base (CXe P w) F.lv f fd ps (spL K) := by
  refine hF.imp fun vs H Q E h => ?_
  obtain ⟨a, ns, rfl, hl, hS, q⟩ := h
  have hR : Rd H a (.lst (ns.map V.int)) := by
    rcases hS with h | ⟨o, its, n, e, c, _⟩
    · exact h
    · exact absurd c (noL_is hK e)
  refine ⟨[.lst a (ns.map T.int)], rfl, ⟨⟨by rw [ints_val]; exact hR, ints_ok ns⟩, trivial⟩, ha.symm, ?_⟩
  have e : T.dats [T.lst a (ns.map T.int)] = [.lst (ns.map .int)] := by
    show [D.lst (T.dats (ns.map T.int))] = _
    rw [ints_dat]
  rw [e, hd ns hl]
  intro t H' ht R
  cases t <;> first | cases ht | skip
  exact q H'
theorem walkP {l : PySem.W.OpenLaw} {k : Nat} {q : Program} {loose : List Str} {XP : (Str → Option Value) → Heap → Prop} {YP : World → Heap → Prop} {d : DefRec} {K : Params → PySem.W.Frag} {x : Str} (hn : l.most = some 63) (hdf : d.params.defaults = []) (hr : Room k callerA)
    (hY : ∀ (w : World) (h : Heap), YP w h → (K w.params).In h)
    (F : ∀ (w : World) (mg : Str → Option Value) (fa : Addr) (h : Heap), (K w.params).In h → h.Ns mainGlobals mg → mg d.name = some (.ref fa) →
      ∃ fd : FuncData, (∀ (s : Shared) (u : Value), BindsTo s fd ⟨[u], []⟩ [(x, u)]) ∧ ∀ base : Heap, (K w.params).In base → base.Ns mainGlobals mg → FnOk l.prog w (K w.params) mg base (CXe l.prog w) k fa fd [x] (spL (K w.params))) :
    PySem.W.WalkO q loose XP YP l.row.toRowW d [] (fun f vs => PySem.call f vs) :=
  L2.walk_of (n := 63) (k := k) (x := x) (CX := fun w => CXe l.prog w) (sp := fun w => spL (K w.params)) hn (by decide) hdf hr hY F (fun _ _ a ns hl _ hS => ⟨a, ns, rfl, hl, hS, fun _ => rfl⟩) fun w H s e s' h => by
    obtain ⟨_, _, _, _, _, _, _, _, _, _, _, _, _, _, _, _, _, _, _, _, z⟩ := h
    exact z
end Pu
end
section
namespace Pu
open PySem PySem.Spec PyProof.Rows PySem.W L2
noncomputable def TopF (K : Frag) (x : Str) (st : Stmt) : Prop := ∃ (f : Addr) (oc : Value) (od an : Option Addr) (sl : Array (Option Value)) (kV dc pm cd ct : Value), nsIn K mainGlobals x = some (some (.ref f)) ∧ K.lookup f = some ⟨oc, od, .func (fnOf x x (defArgs st) (defBody st) (defScope st) .none kV dc pm an cd ct), sl⟩ ∧ codeIn K cd x = true ∧ keepIn K (.ref f) = true
theorem topF {K : Frag} {x : Str} {st : Stmt} {f : Addr} {oc : Value} {od an : Option Addr} {sl : Array (Option Value)} {kV dc pm cd ct : Value} (a : nsIn K mainGlobals x = some (some (.ref f))) (l : K.lookup f = some ⟨oc, od, .func (fnOf x x (defArgs st) (defBody st) (defScope st) .none kV dc pm an cd ct), sl⟩) (c : codeIn K cd x = true) (k : keepIn K (.ref f) = true) : TopF K x st := ⟨f, oc, od, an, sl, kV, dc, pm, cd, ct, a, l, c, k⟩
theorem df_top {K : Frag} {h : Heap} {mg : Str → Option Value} {x : Str} {st : Stmt} {ps : List Str} (X : K.In h) (G : h.Ns mainGlobals mg) (t : TopF K x st) (hb : ∀ (kV doc pm : Value) (an : Option Addr) (cdv ct : Value) (us : List Value), us.length = ps.length → bindArgs (fnOf x x (defArgs st) (defBody st) (defScope st) .none kV doc pm an cdv ct) ⟨us, []⟩ = pure (ps.zip us)) : Df K mg x st ps := by
  obtain ⟨f, oc, od, an, sl, kV, dc, pm, cd, ct, a, l, c, k⟩ := t
  exact df_mk X G a l c k hb
theorem ba1 {fd : FuncData} {a0 : Str} (h : ∀ u0 : Value, bindArgs fd ⟨[u0], []⟩ = pure [(a0, u0)]) : ∀ us : List Value, us.length = ([a0] : List Str).length → bindArgs fd ⟨us, []⟩ = pure (([a0] : List Str).zip us)
  | [u0], _ => h u0
theorem ba2 {fd : FuncData} {a0 a1 : Str} (h : ∀ u0 u1 : Value, bindArgs fd ⟨[u0, u1], []⟩ = pure [(a0, u0), (a1, u1)]) : ∀ us : List Value, us.length = ([a0, a1] : List Str).length → bindArgs fd ⟨us, []⟩ = pure (([a0, a1] : List Str).zip us)
  | [u0, u1], _ => h u0 u1
theorem ba3 {fd : FuncData} {a0 a1 a2 : Str} (h : ∀ u0 u1 u2 : Value, bindArgs fd ⟨[u0, u1, u2], []⟩ = pure [(a0, u0), (a1, u1), (a2, u2)]) : ∀ us : List Value, us.length = ([a0, a1, a2] : List Str).length → bindArgs fd ⟨us, []⟩ = pure (([a0, a1, a2] : List Str).zip us)
  | [u0, u1, u2], _ => h u0 u1 u2
structure ClsF (K : Frag) (x : Str) (C : Addr) : Prop where
  q : nsIn K mainGlobals x = some (some (.ref C))
  x : XCls K C
  t : ∀ T ∈ (["int", "bool", "str", "list", "tuple", "dict"] : List String), kitOne K (.ref C) (.type T) = some false
  v : kitOne K (.ref C) (.type "ValueError") = some true
  s : subIn K (.ref C) (.ref C) = some true
theorem clsF {K : Frag} {x : Str} {C : Addr} {cd : ClassData} (q : nsIn K mainGlobals x = some (some (.ref C)))
    (ga : findIn K (.ref C) "__getattribute__" = some (some (.builtin "BaseException.__getattribute__"))) (gn : findIn K (.ref C) "__getattr__" = some none) (sb : subIn K (.ref C) (.type "BaseException") = some true)
    (cl : findIn K (.ref C) "__class__" = some (some (.builtin "object.__class__"))) (mo : mroIn K C (.type "object") = some true) (ty : typeIn K (.ref C) = some (.type "type")) (cc : clsIn K C = some cd)
    (t1 : kitOne K (.ref C) (.type "int") = some false) (t2 : kitOne K (.ref C) (.type "bool") = some false) (t3 : kitOne K (.ref C) (.type "str") = some false) (t4 : kitOne K (.ref C) (.type "list") = some false) (t5 : kitOne K (.ref C) (.type "tuple") = some false) (t6 : kitOne K (.ref C) (.type "dict") = some false)
    (v : kitOne K (.ref C) (.type "ValueError") = some true) (s : subIn K (.ref C) (.ref C) = some true) : ClsF K x C := by
  refine ⟨q, ⟨ga, gn, sb, cl, mo, ty, by rw [cc]; rfl⟩, fun T hT => ?_, v, s⟩
  simp only [List.mem_cons, List.not_mem_nil, or_false] at hT
  rcases hT with rfl | rfl | rfl | rfl | rfl | rfl <;> assumption
noncomputable abbrev Cs' := List (Nat × Addr)
noncomputable def clA : Cs' → Nat → Addr
  | [], _ => 0
  | (c, a) :: r, n => if n = c then a else clA r n
noncomputable def hasA : Cs' → Nat → Bool
  | [], _ => false
  | (c, _) :: r, n => (n == c && decide (c < 1000)) || hasA r n
noncomputable def AllC {α : Type} (f : α → Prop) : List α → Prop
  | [] => True
  | q :: r => f q ∧ AllC f r
theorem AllC.mem {α : Type} {f : α → Prop} : ∀ {l : List α}, AllC f l → ∀ n ∈ l, f n
  | [], _, n, h => by cases h
  | m :: r, h, n, hn => by
    rcases List.mem_cons.mp hn with rfl | hn
    · exact h.1
    · exact AllC.mem h.2 n hn
theorem hasA_mem : ∀ {cs : Cs'} {n : Nat}, hasA cs n = true → (n, clA cs n) ∈ cs
  | [], n, h => by cases h
  | (c, a) :: r, n, h => by
    unfold hasA at h
    unfold clA
    by_cases e : n = c
    · subst e; rw [if_pos rfl]; exact List.mem_cons_self
    · rw [if_neg e]
      have : (n == c) = false := by simpa using e
      rw [this, Bool.false_and, Bool.false_or] at h
      exact List.mem_cons_of_mem _ (hasA_mem h)
theorem hasA_lt : ∀ {cs : Cs'} {n : Nat}, hasA cs n = true → n < 1000
  | [], n, h => by cases h
  | (c, a) :: r, n, h => by
    unfold hasA at h
    rcases Bool.or_eq_true _ _ ▸ h with h | h
    · rw [Bool.and_eq_true, beq_iff_eq, decide_eq_true_eq] at h
      rw [h.1]; exact h.2
    · exact hasA_lt h
theorem kx_of {K : Frag} {cs : Cs'} (h9 : hasA cs 999 = false) (h : AllC (fun q => ClsF K (clsName q.1) q.2) cs) (y : AllC (fun q => AllC (fun r => kitOne K (.ref q.2) (.ref r.2) = some (isa q.1 r.1)) cs) cs) : Kx ⟨K, clA cs, hasA cs⟩ :=
  ⟨h9, fun c hc => hasA_lt hc, fun c hc => (h.mem _ (hasA_mem hc)).s, fun c hc => (h.mem _ (hasA_mem hc)).x, fun c hc => (h.mem _ (hasA_mem hc)).t, fun c hc => (h.mem _ (hasA_mem hc)).v, fun c d hc hd => (y.mem _ (hasA_mem hc)).mem _ (hasA_mem hd)⟩
theorem ok_of {K : Frag} {P : Program} {w : World} {mg : Str → Option Value} {base h : Heap} {cs : Cs'} (h9 : hasA cs 999 = false) (X : K.In h) (G : h.Ns mainGlobals mg) (nb : AllC (fun y => nsIn K mainGlobals y = some none) (bnames ++ (["bool", "dict", "ValueError"] : List Str))) (hc : AllC (fun q => ClsF K (clsName q.1) q.2) cs) (y : AllC (fun q => AllC (fun r => kitOne K (.ref q.2) (.ref r.2) = some (isa q.1 r.1)) cs) cs) : Lw.Ok ⟨⟨K, clA cs, hasA cs⟩, P, w, mg, base⟩ :=
  ⟨fun z hz => mg_none_of X G (nb.mem z (List.mem_append_left _ hz)), fun z hz => mg_none_of X G (nb.mem z (List.mem_append_right _ hz)), kx_of h9 hc y⟩
noncomputable def mthOf : Stmt → Stmt
  | .ClassDef _ _ _ (s :: _) _ _ _ _ _ _ _ => s
  | s => s
noncomputable def MthF (K : Frag) (q : Str) (C : Addr) (st : Stmt) : Prop := ∃ (f : Addr) (oc : Value) (od an : Option Addr) (sl : Array (Option Value)) (kV dc pm cd ct : Value), findIn K (.ref C) "__init__" = some (some (.ref f)) ∧ typeIn K (.ref f) = some (.type "function") ∧ K.lookup f = some ⟨oc, od, .func (fnOf "__init__" q (defArgs st) (defBody st) (defScope st) .none kV dc pm an cd ct), sl⟩ ∧ codeIn K cd q = true ∧ keepIn K (.ref f) = true
theorem mthF {K : Frag} {q : Str} {C : Addr} {st : Stmt} {f : Addr} {oc : Value} {od an : Option Addr} {sl : Array (Option Value)} {kV dc pm cd ct : Value} (a : findIn K (.ref C) "__init__" = some (some (.ref f))) (b : typeIn K (.ref f) = some (.type "function")) (l : K.lookup f = some ⟨oc, od, .func (fnOf "__init__" q (defArgs st) (defBody st) (defScope st) .none kV dc pm an cd ct), sl⟩) (c : codeIn K cd q = true) (k : keepIn K (.ref f) = true) : MthF K q C st := ⟨f, oc, od, an, sl, kV, dc, pm, cd, ct, a, b, l, c, k⟩
noncomputable def bodyB : List Stmt → Bool
  | [.Assign [.Attribute (.Name s _) f _] (.Name a _) _] => s == ("self" : Str) && f == ("at" : Str) && a == ("at" : Str)
  | _ => false
theorem bodyB_is {b : List Stmt} (h : bodyB b = true) : ∃ p1 p2 p3 p4, b = [.Assign [.Attribute (.Name "self" p1) "at" p2] (.Name "at" p3) p4] := by
  unfold bodyB at h
  split at h
  · simp only [Bool.and_eq_true, beq_iff_eq] at h
    obtain ⟨⟨rfl, rfl⟩, rfl⟩ := h
    exact ⟨_, _, _, _, rfl⟩
  · cases h
noncomputable def iniB (st : Stmt) : Bool := decide ((defScope st).kind = .function) && !(defScope st).isCoroutine && !(defScope st).isGenerator && decide ((defScope st).names.lookup ("self" : Str) = some .local) && decide ((defScope st).names.lookup ("at" : Str) = some .local) && (defScope st).names.all (fun y => decide (y.2 ≠ .free)) && bodyB (defBody st)
theorem ma_of {L : Lw} {q : Str} {st : Stmt} (M : MthF L.p.K q (L.p.cl 4) st) (hb : ∀ (kV doc pm : Value) (an : Option Addr) (cdv ct : Value) (us : List Value), us.length = 2 → bindArgs (fnOf "__init__" q (defArgs st) (defBody st) (defScope st) .none kV doc pm an cdv ct) ⟨us, []⟩ = pure ((["self", "at"] : List Str).zip us)) (hi : iniB st = true) (O : XOwn L.p.K (L.p.cl 4) "at") :
    ∃ fI fd ps, findIn L.p.K (.ref (L.p.cl 4)) "__init__" = some (some (.ref fI)) ∧ typeIn L.p.K (.ref fI) = some (.type "function") ∧ FnOk L.P L.w L.p.K L.mg L.base (CXe L.P L.w) 1 fI fd ps (spI (L.p.cl 4) "at") ∧ Binds L.p.K fd ps [] := by
  obtain ⟨f, oc, od, an, sl, kV, dc, pm, cd, ct, a, b, l, c, k⟩ := M
  unfold iniB at hi
  simp only [Bool.and_eq_true, decide_eq_true_eq, List.all_eq_true, Bool.not_eq_true'] at hi
  obtain ⟨⟨⟨⟨⟨⟨h1, h2⟩, h3⟩, h4⟩, h5⟩, h6⟩, h7⟩ := hi
  obtain ⟨p1, p2, p3, p4, h7⟩ := bodyB_is h7
  have S : FnScope ["self", "at"] ["self", "at"] (defScope st) := ⟨h1, h2, h3, by decide, rfl, fun x hx => by
    simp only [List.mem_cons, List.not_mem_nil, or_false] at hx
    rcases hx with rfl | rfl
    · exact .inl h4
    · exact .inl h5, h6⟩
  exact ⟨f, _, _, a, b, xinit_fn ⟨⟨oc, od, kV, dc, pm, an, cd, ct, sl, rfl, l, c⟩, k⟩ S h7 O h4 h5 (by decide) (by decide) (by decide) (by decide), Binds.all fun us hl => hb kV dc pm an cd ct us hl⟩
noncomputable def dfB (N : List Str) (ps : List Str) (st : Stmt) (b : Ss) (dep : Nat) : Bool :=
  decide ((defScope st).kind = .function) && !(defScope st).isCoroutine && !(defScope st).isGenerator && decide N.Nodup && decide (N.take ps.length = ps) && ps.all (fun x => decide ((defScope st).names.lookup x = some .local ∨ (defScope st).names.lookup x = some .cell)) && (defScope st).names.all (fun y => decide (y.2 ≠ .free)) && ckSs ⟨N, defScope st, true, true, true⟩ b (defBody st) && (msSs (List.replicate N.length .dead) dep b (m0 ps.length N.length)).isSome && decide (dep < 1000)
theorem dfB_is {N ps : List Str} {st : Stmt} {b : Ss} {dep : Nat} (h : dfB N ps st b dep = true) : FnScope N ps (defScope st) ∧ ckSs ⟨N, defScope st, true, true, true⟩ b (defBody st) = true ∧ (msSs (List.replicate N.length .dead) dep b (m0 ps.length N.length)).isSome = true ∧ dep < 1000 := by
  unfold dfB at h
  simp only [Bool.and_eq_true, decide_eq_true_eq, List.all_eq_true, Bool.not_eq_true'] at h
  obtain ⟨⟨⟨⟨⟨⟨⟨⟨⟨h1, h2⟩, h3⟩, h4⟩, h5⟩, h6⟩, h7⟩, h8⟩, h9⟩, h10⟩ := h
  exact ⟨⟨h1, h2, h3, h4, h5, h6, h7⟩, h8, h9, h10⟩
theorem has_of {L : Lw} (O : L.Ok) {x : Str} {st : Stmt} {N ps : List Str} {lv dep : Nat} {b : Ss} (D : Df L.p.K L.mg x st ps) (h : dfB N ps st b dep = true) (hn : AllN (NeedG L lv) b.need) : HasG L (mkFn x ps.length (lv + 1) dep N.length b) :=
  def_has O D (dfB_is h).1 rfl (dfB_is h).2.1 (dfB_is h).2.2.1 hn (dfB_is h).2.2.2
noncomputable def dfH (N : List Str) (ps : List Str) (st : Stmt) (b : Ss) (dep : Nat) : Bool :=
  decide ((defScope st).kind = .function) && !(defScope st).isCoroutine && !(defScope st).isGenerator && decide N.Nodup && decide (N.take ps.length = ps) && ps.all (fun x => decide ((defScope st).names.lookup x = some .local ∨ (defScope st).names.lookup x = some .cell)) && (defScope st).names.all (fun y => decide (y.2 ≠ .free)) && ckSs ⟨N, defScope st, true, false, false⟩ b (defBody st) && (msSs (List.replicate N.length .dead) dep b (m0 ps.length N.length)).isSome && decide (dep < 1000)
theorem has_ofH {L : Lw} (O : L.Ok) {x : Str} {st : Stmt} {N ps : List Str} {lv dep : Nat} {b : Ss} (D : Df L.p.K L.mg x st ps) (h : dfH N ps st b dep = true) (hn : AllN (NeedG L lv) b.need) : HasG0 L (mkFn x ps.length (lv + 1) dep N.length b) := by
  unfold dfH at h
  simp only [Bool.and_eq_true, decide_eq_true_eq, List.all_eq_true, Bool.not_eq_true'] at h
  obtain ⟨⟨⟨⟨⟨⟨⟨⟨⟨h1, h2⟩, h3⟩, h4⟩, h5⟩, h6⟩, h7⟩, h8⟩, h9⟩, h10⟩ := h
  exact def_has0 O D ⟨h1, h2, h3, h4, h5, h6, h7⟩ rfl h8 h9 hn h10
theorem law_top {l : PySem.W.OpenLaw} {w : World} {K : Frag} {h : Heap} {mg : Str → Option Value} {fa : Addr} {cs : Cs'} {x : Str} {st : Stmt} {N : List Str} {lv dep : Nat} {b : Ss} (X : K.In h) (G : h.Ns mainGlobals mg) (hfa : mg "law" = some (.ref fa)) (t : TopF K "law" st) (hck : dfB N [x] st b dep = true)
    (hb : ∀ (kV dc pm : Value) (an : Option Addr) (cd ct : Value) (s : Shared) (v : Value), BindsTo s (fnOf "law" "law" (defArgs st) (defBody st) (defScope st) .none kV dc pm an cd ct) ⟨[v], []⟩ [(x, v)])
    (O : ∀ base : Heap, Lw.Ok ⟨⟨K, clA cs, hasA cs⟩, l.prog, w, mg, base⟩) (hn : ∀ base : Heap, AllN (NeedG ⟨⟨K, clA cs, hasA cs⟩, l.prog, w, mg, base⟩ lv) b.need) (nl : noL K = true)
    (hden : ∀ ns : List Int, ns.length ≤ 63 → (mkFn "law" 1 (lv + 1) dep N.length b).den [.lst (ns.map .int)] = .ok (.bl true)) :
    ∃ fd : FuncData, (∀ (s : Shared) (v : Value), BindsTo s fd ⟨[v], []⟩ [(x, v)]) ∧ ∀ base : Heap, K.In base → base.Ns mainGlobals mg → FnOk l.prog w K mg base (CXe l.prog w) (lv + 1) fa fd [x] (spL K) := by
  obtain ⟨f, oc, od, an, sl, kV, dc, pm, cd, ct, a, l', c, k⟩ := t
  have e := hfa.symm.trans (mg_of X G a)
  cases e
  refine ⟨_, hb kV dc pm an cd ct, fun base _ _ => ?_⟩
  exact law_fn (F := mkFn "law" 1 (lv + 1) dep N.length b) (def_fn (L := ⟨⟨K, clA cs, hasA cs⟩, l.prog, w, mg, base⟩) (O base) (fun_mk (st := st) l' c k) (dfB_is hck).1 rfl (dfB_is hck).2.1 (dfB_is hck).2.2.1 (hn base) (dfB_is hck).2.2.2) rfl rfl nl hden
end Pu
end
namespace Pu
open PySem PySem.Spec PyProof.Rows PySem.W L2
noncomputable def b_is_whole : Ss :=
  (.cons (.ret (.bo true (.cons (.isi (.nm 0) .int) (.cons (.not (.isi (.nm 0) .bool)) .nil))))
  .nil)
noncomputable def fn_is_whole : Fn := mkFn "is_whole" 1 1 9 1 b_is_whole
theorem dn_is_whole (ds : List D) (h : ds.length = 1) : fn_is_whole.den ds = run 1 b_is_whole ds := den_eq h
noncomputable def b_is_between : Ss :=
  (.cons (.ret (.bo true (.cons (.call fn_is_whole (.cons (.nm 0) .nil)) (.cons (.chain .le .le (.nm 1) (.nm 0) (.nm 2)) .nil))))
  .nil)
noncomputable def fn_is_between : Fn := mkFn "is_between" 3 2 9 3 b_is_between
theorem dn_is_between (ds : List D) (h : ds.length = 3) : fn_is_between.den ds = run 3 b_is_between ds := den_eq h
noncomputable def b_is_room : Ss :=
  (.cons (.ret (.call fn_is_between (.cons (.nm 0) (.cons (.cI 0) (.cons (.bin .pow (.cI 10) (.cI 18)) .nil)))))
  .nil)
noncomputable def fn_is_room : Fn := mkFn "is_room" 1 3 9 1 b_is_room
theorem dn_is_room (ds : List D) (h : ds.length = 1) : fn_is_room.den ds = run 1 b_is_room ds := den_eq h
noncomputable def b_checked_rooms_l1 : Ss :=
  (.cons (.iff (.bo false (.cons (.cmp .eq (.nm 1) (.gl "MOST_PAGES" (.int 200))) (.cons (.not (.call fn_is_room (.cons (.nm 2) .nil))) .nil)))
  (.cons (.raiseA (.nm 1))
  .nil)
  .nil)
  .nil)
noncomputable def b_checked_rooms : Ss :=
  (.cons (.for_ (.tp [1, 2]) (.en (.nm 0))
  b_checked_rooms_l1)
  (.cons (.ret (.bi .list (.cons (.nm 0) .nil)))
  .nil))
noncomputable def fn_checked_rooms : Fn := mkFn "checked_rooms" 1 4 1 3 b_checked_rooms
theorem dn_checked_rooms (ds : List D) (h : ds.length = 1) : fn_checked_rooms.den ds = run 3 b_checked_rooms ds := den_eq h
theorem dp_checked_rooms : fn_checked_rooms.dep = 1 := rfl
noncomputable def b_law_cell_l1 : Ss :=
  (.cons (.asg 2 0 (.bin .mod (.bin .add (.bin .add (.bin .mul (.nm 2) (.cI 48271)) (.bin .mod (.nm 3) (.cI 1000003))) (.cI 1)) (.cI 2147483647)))
  .nil)
noncomputable def b_law_cell : Ss :=
  (.cons (.iff (.cmp .lt (.nm 1) (.bi .len (.cons (.nm 0) .nil)))
  (.cons (.ret (.ix (.nm 0) (.nm 1)))
  .nil)
  .nil)
  (.cons (.asg 2 0 (.cI 5))
  (.cons (.for_ (.nm 3) (.seq (.slc (.nm 0) .cN (.cI 63)))
  b_law_cell_l1)
  (.cons (.ret (.bin .mod (.bin .add (.nm 2) (.bin .mul (.cI 7919) (.nm 1))) (.cI 1000003)))
  .nil))))
noncomputable def fn_law_cell : Fn := mkFn "_law_cell" 2 1 0 4 b_law_cell
theorem dn_law_cell (ds : List D) (h : ds.length = 2) : fn_law_cell.den ds = run 4 b_law_cell ds := den_eq h
noncomputable def b_law_mix_k11 : Ss :=
  (.cons (.asg 2 0 (.bin .mod (.bin .pow (.bin .add (.bin .add (.bin .mod (.nm 0) (.cI 2147483629)) (.bin .mul (.cI 1013) (.nm 1))) (.cI 7919)) (.cI 3)) (.cI 2147483647)))
  (.cons (.asg 3 0 (.bin .mod (.bin .add (.bin .add (.bin .mul (.nm 2) (.cI 40699)) (.bin .mul (.bin .mul (.cI 3793) (.nm 1)) (.nm 1))) (.cI 11)) (.cI 2147483399)))
  (.cons (.ret (.bin .fdiv (.nm 3) (.cI 101)))
  .nil)))
noncomputable def fn_law_mix_k11 : Fn := mkFn "_law_mix" 2 1 1 4 b_law_mix_k11
theorem dn_law_mix_k11 (ds : List D) (h : ds.length = 2) : fn_law_mix_k11.den ds = run 4 b_law_mix_k11 ds := den_eq h
noncomputable def b_law_row_k11_l1 : Ss :=
  (.cons (.iff (.cmp .lt (.nm 3) (.bin .pow (.cI 10) (.cI 18)))
  (.cons (.mut 5 [] .append (.cons (.bin .mod (.call fn_law_mix_k11 (.cons (.nm 3) (.cons (.nm 6) .nil))) (.ix (.nm 2) (.nm 6))) .nil))
  .nil)
  (.cons (.iff (.cmp .gt (.nm 4) (.cI 0))
  (.cons (.mut 5 [] .append (.cons (.bin .mod (.nm 4) (.ix (.nm 2) (.nm 6))) .nil))
  (.cons (.asg 4 0 (.bin .fdiv (.nm 4) (.ix (.nm 2) (.nm 6))))
  .nil))
  (.cons (.asg 7 0 (.call fn_law_cell (.cons (.nm 0) (.cons (.bin .mod (.bin .add (.bin .add (.nm 1) (.cI 1)) (.nm 6)) (.cI 63)) .nil))))
  (.cons (.mut 5 [] .append (.cons (.bin .mod (.call fn_law_mix_k11 (.cons (.nm 7) (.cons (.nm 6) .nil))) (.ix (.nm 2) (.nm 6))) .nil))
  .nil)))
  .nil))
  .nil)
noncomputable def b_law_row_k11 : Ss :=
  (.cons (.asg 3 0 (.call fn_law_cell (.cons (.nm 0) (.cons (.nm 1) .nil))))
  (.cons (.asg 4 0 (.nm 3))
  (.cons (.asg 5 2 (.lst .nil))
  (.cons (.for_ (.nm 6) (.r1 (.bi .len (.cons (.nm 2) .nil)))
  b_law_row_k11_l1)
  (.cons (.ret (.nm 5))
  .nil)))))
noncomputable def fn_law_row_k11 : Fn := mkFn "_law_row" 3 2 2 8 b_law_row_k11
theorem dn_law_row_k11 (ds : List D) (h : ds.length = 3) : fn_law_row_k11.den ds = run 8 b_law_row_k11 ds := den_eq h
noncomputable def b_law_rooms_k21_l1 : Ss :=
  (.cons (.asg 7 0 (.ixL (.nm 3) (.bin .add (.cI 4) (.nm 6))))
  (.cons (.iff (.cmp .eq (.ixL (.nm 3) (.cI 2)) (.cI 1))
  (.cons (.asg 7 0 (.bin .mod (.nm 7) (.cI 3)))
  .nil)
  .nil)
  (.cons (.iff (.cmp .eq (.ixL (.nm 3) (.cI 2)) (.cI 2))
  (.cons (.asg 7 0 (.bin .mul (.ix (.lst (.cons (.cI 0) (.cons (.cI 0) (.cons (.cI 0) (.cons (.cI 1) .nil))))) (.bin .mod (.nm 7) (.cI 4))) (.bin .add (.cI 1) (.bin .fdiv (.nm 7) (.cI 4)))))
  .nil)
  .nil)
  (.cons (.iff (.cmp .eq (.ixL (.nm 3) (.cI 2)) (.cI 3))
  (.cons (.asg 7 0 (.bin .mod (.bin .add (.ixL (.nm 3) (.cI 3)) (.nm 6)) (.cI 13)))
  .nil)
  .nil)
  (.cons (.iff (.cmp .eq (.ixL (.nm 3) (.cI 2)) (.cI 4))
  (.cons (.asg 7 0 (.ixL (.nm 3) (.cI 3)))
  .nil)
  .nil)
  (.cons (.mut 5 [] .append (.cons (.bi .min (.cons (.bin .pow (.cI 10) (.cI 18)) (.cons (.bin .add (.bin .mul (.nm 7) (.nm 4)) (.bin .mul (.bi .int (.cons (.cmp .eq (.nm 7) (.cI 12)) .nil)) (.cI 4))) .nil))) .nil))
  .nil))))))
noncomputable def b_law_rooms_k21 : Ss :=
  (.cons (.asg 3 2 (.call fn_law_row_k11 (.cons (.nm 0) (.cons (.nm 1) (.cons (.bin .add (.lst (.cons (.bin .add (.nm 2) (.cI 1)) (.cons (.cI 5) (.cons (.cI 6) (.cons (.cI 13) .nil))))) (.bin .mul (.lst (.cons (.cI 13) .nil)) (.nm 2))) .nil)))))
  (.cons (.asg 4 0 (.ix (.lst (.cons (.cI 1) (.cons (.cI 1) (.cons (.cI 7) (.cons (.bin .pow (.cI 10) (.cI 6)) (.cons (.cI 83333333333333333) .nil)))))) (.ixL (.nm 3) (.cI 1))))
  (.cons (.asg 5 2 (.lst .nil))
  (.cons (.dem 3 1)
  (.cons (.for_ (.nm 6) (.r1 (.ixL (.nm 3) (.cI 0)))
  b_law_rooms_k21_l1)
  (.cons (.ret (.nm 5))
  .nil))))))
noncomputable def fn_law_rooms_k21 : Fn := mkFn "_law_rooms" 3 3 2 8 b_law_rooms_k21
theorem dn_law_rooms_k21 (ds : List D) (h : ds.length = 3) : fn_law_rooms_k21.den ds = run 8 b_law_rooms_k21 ds := den_eq h
noncomputable def b_law_whole : Ss :=
  (.cons (.ret (.bo true (.cons (.isi (.nm 0) .int) (.cons (.not (.isi (.nm 0) .bool)) .nil))))
  .nil)
noncomputable def fn_law_whole : Fn := mkFn "_law_whole" 1 1 9 1 b_law_whole
theorem dn_law_whole (ds : List D) (h : ds.length = 1) : fn_law_whole.den ds = run 1 b_law_whole ds := den_eq h
noncomputable def b_law_bad_k21_l1 : Ss :=
  (.cons (.asg 2 0 (.ix (.nm 0) (.nm 1)))
  (.cons (.iff (.bo false (.cons (.cmp .ge (.nm 1) (.cI 200)) (.cons (.not (.call fn_law_whole (.cons (.nm 2) .nil))) (.cons (.cmp .lt (.nm 2) (.cI 0)) (.cons (.cmp .gt (.nm 2) (.bin .pow (.cI 10) (.cI 18))) .nil)))))
  (.cons (.ret (.nm 1))
  .nil)
  .nil)
  .nil))
noncomputable def b_law_bad_k21 : Ss :=
  (.cons (.for_ (.nm 1) (.r1 (.bi .len (.cons (.nm 0) .nil)))
  b_law_bad_k21_l1)
  (.cons (.ret .cN)
  .nil))
noncomputable def fn_law_bad_k21 : Fn := mkFn "_law_bad" 1 2 0 3 b_law_bad_k21
theorem dn_law_bad_k21 (ds : List D) (h : ds.length = 1) : fn_law_bad_k21.den ds = run 3 b_law_bad_k21 ds := den_eq h
theorem dp_law_bad_k21 : fn_law_bad_k21.dep = 0 := rfl
noncomputable def b_law_refused_k21 : Ss :=
  (.cons (.try_ (.cons (.expr (.call fn_checked_rooms (.cons (.nm 0) .nil)))
  .nil)
  4 2
  (.cons (.asg 3 0 (.bo true (.cons (.isi (.nm 2) (.cls 0)) (.cons (.isi (.nm 2) .verr) (.cons (.not (.isiM (.nm 2) [6, 3, 5])) .nil)))))
  (.cons (.ret (.bo true (.cons (.nm 3) (.cons (.callH fn_law_whole (.cons (.atX (.nm 2)) .nil)) (.cons (.cmp .eq (.atX (.nm 2)) (.nm 1)) .nil)))))
  .nil))
  .nil)
  (.cons (.ret (.cB false))
  .nil))
noncomputable def fn_law_refused_k21 : Fn := mkFn "_law_refused" 2 5 0 4 b_law_refused_k21
theorem dn_law_refused_k21 (ds : List D) (h : ds.length = 2) : fn_law_refused_k21.den ds = run 4 b_law_refused_k21 ds := den_eq h
theorem dp_law_refused_k21 : fn_law_refused_k21.dep = 0 := rfl
noncomputable def b_law_made_k21_l1 : Ss :=
  (.cons (.mut 1 [] .append (.cons (.bin .mul (.bi .len (.cons (.nm 1) .nil)) (.cI 7)) .nil))
  .nil)
noncomputable def b_law_made_k21_l2 : Ss :=
  (.cons (.iff (.cmp .gt (.bi .len (.cons (.nm 1) .nil)) (.cI 0))
  (.cons (.set 1 [] (.bin .mod (.ixL (.nm 2) (.bin .add (.cI 2) (.nm 4))) (.bi .len (.cons (.nm 1) .nil))) (.ixL (.nm 3) (.ixL (.nm 2) (.bin .add (.cI 4) (.nm 4)))))
  .nil)
  .nil)
  .nil)
noncomputable def b_law_made_k21 : Ss :=
  (.cons (.asg 1 2 (.call fn_law_rooms_k21 (.cons (.nm 0) (.cons (.cI 0) (.cons (.cI 60) .nil)))))
  (.cons (.asg 2 2 (.call fn_law_row_k11 (.cons (.nm 0) (.cons (.cI 1) (.cons (.lst (.cons (.cI 3) (.cons (.cI 4) (.cons (.cI 300) (.cons (.cI 300) (.cons (.cI 13) (.cons (.cI 13) (.cons (.cI 4) .nil)))))))) .nil)))))
  (.cons (.iff (.cmp .eq (.ixL (.nm 2) (.cI 1)) (.cI 0))
  (.cons (.wh (.cmp .lt (.bi .len (.cons (.nm 1) .nil)) (.ix (.lst (.cons (.cI 199) (.cons (.cI 200) (.cons (.cI 201) (.cons (.cI 300) .nil))))) (.ixL (.nm 2) (.cI 6))))
  b_law_made_k21_l1)
  .nil)
  .nil)
  (.cons (.asg 3 2 (.lst (.cons .cN (.cons (.cB true) (.cons (.cB false) (.cons (.neg (.cI 1)) (.cons (.bin .add (.bin .pow (.cI 10) (.cI 18)) (.cI 1)) (.cons (.cS "3") (.cons (.tup (.cons (.cI 3) .nil)) (.cons (.lst (.cons (.cI 3) .nil)) (.cons .dNew (.cons (.bin .pow (.cI 10) (.cI 59)) (.cons (.neg (.bin .pow (.cI 10) (.cI 59))) (.cons (.cS "") (.cons (.cS "12") .nil)))))))))))))))
  (.cons (.dem 1 1)
  (.cons (.dem 3 1)
  (.cons (.for_ (.nm 4) (.r1 (.ixL (.nm 2) (.cI 0)))
  b_law_made_k21_l2)
  (.cons (.ret (.nm 1))
  .nil))))))))
noncomputable def fn_law_made_k21 : Fn := mkFn "_law_made" 1 4 1 5 b_law_made_k21
theorem dn_law_made_k21 (ds : List D) (h : ds.length = 1) : fn_law_made_k21.den ds = run 5 b_law_made_k21 ds := den_eq h
noncomputable def b_law_k21 : Ss :=
  (.cons (.asg 1 1 (.call fn_law_made_k21 (.cons (.nm 0) .nil)))
  (.cons (.asg 2 0 (.callB fn_law_bad_k21 (.cons (.nm 1) .nil)))
  (.cons (.asg 3 1 (.bi .listL (.cons (.nm 1) .nil)))
  (.cons (.iff (.isN true (.nm 2))
  (.cons (.ret (.bo true (.cons (.callB fn_law_refused_k21 (.cons (.nm 3) (.cons (.nm 2) .nil))) (.cons (.cmp .sm (.nm 3) (.nm 1)) (.cons (.callB fn_law_refused_k21 (.cons (.nm 3) (.cons (.nm 2) .nil))) .nil)))))
  .nil)
  .nil)
  (.cons (.asg 4 1 (.callB fn_checked_rooms (.cons (.nm 3) .nil)))
  (.cons (.iff (.bo false (.cons (.not (.isi (.nm 4) .list)) (.cons (.cmp .ne (.nm 4) (.nm 1)) (.cons (.cmp .ne (.nm 3) (.nm 1)) .nil))))
  (.cons (.ret (.cB false))
  .nil)
  .nil)
  (.cons (.mut 4 [] .append (.cons (.cI 3) .nil))
  (.cons (.ret (.bo true (.cons (.cmp .sm (.nm 3) (.nm 1)) (.cons (.cmp .eq (.callB fn_checked_rooms (.cons (.nm 3) .nil)) (.nm 1)) .nil))))
  .nil))))))))
noncomputable def fn_law_k21 : Fn := mkFn "law" 1 6 0 5 b_law_k21
theorem dn_law_k21 (ds : List D) (h : ds.length = 1) : fn_law_k21.den ds = run 5 b_law_k21 ds := den_eq h
end Pu
section
namespace Pu
open PySem
theorem q9B {f n : Nat} {k : Int} (h : f ≤ n) (e : (n : Int) ≤ k) : (f : Int) ≤ k := Int.le_trans (Int.ofNat_le.mpr h) e
theorem floop_ind {tg : Tg} {b : Fr → Out} (P : Nat → Fr → Prop) : ∀ {ds : List D} {δ : Fr} (n : Nat), P n δ → (∀ i d δ, ds[i]? = some d → P (n + i) δ → ∃ δ' δ'', asgTg tg d δ = some δ' ∧ b δ' = .nxt δ'' ∧ P (n + i + 1) δ'') → ∃ δ', floop tg b ds δ = .nxt δ' ∧ P (n + ds.length) δ'
  | [], δ, n, h0, _ => ⟨δ, rfl, h0⟩
  | d :: ds, δ, n, h0, hs => by
    obtain ⟨δ', δ'', e1, e2, h1⟩ := hs 0 d δ rfl h0
    obtain ⟨δ3, e3, h3⟩ := floop_ind P (ds := ds) (δ := δ'') (n + 1) h1 fun i d δ hd hP => by
      have := hs (i + 1) d δ (by simpa using hd) (by rw [show n + (i + 1) = n + 1 + i by omega]; exact hP)
      rw [show n + (i + 1) + 1 = n + 1 + i + 1 by exact Nat.add_right_comm ..] at this
      exact this
    refine ⟨δ3, ?_, by rw [List.length_cons, show n + (ds.length + 1) = n + 1 + ds.length by omega]; exact h3⟩
    unfold floop
    rw [e1]
    show (b δ').then _ = _
    rw [e2]
    exact e3
theorem b2_add (i j : Int) : b2 .add (.int i) (.int j) = .ok (.int (i + j)) := rfl
theorem b2_sub (i j : Int) : b2 .sub (.int i) (.int j) = .ok (.int (i - j)) := rfl
theorem b2_mulL (i j : Int) (h1 : -(18446744073709551616) < i) (h2 : i < 18446744073709551616) : b2 .mul (.int i) (.int j) = .ok (.int (i * j)) := by
  show (if _ then _ else _) = _; rw [if_pos (.inl ⟨h1, h2⟩)]
theorem b2_mulR (i j : Int) (h1 : -(18446744073709551616) < j) (h2 : j < 18446744073709551616) : b2 .mul (.int i) (.int j) = .ok (.int (i * j)) := by
  show (if _ then _ else _) = _; rw [if_pos (.inr ⟨h1, h2⟩)]
theorem b2_mod (i j : Int) (h1 : 0 < j) : b2 .mod (.int i) (.int j) = .ok (.int (i % j)) := by
  show (if _ then _ else _) = _; rw [if_pos h1]
theorem b2_fdiv (i j : Int) (h1 : 0 < j) (h2 : j < 1606938044258990275541962092341162602522202993782792835301376) : b2 .fdiv (.int i) (.int j) = .ok (.int (i / j)) := by
  show (if _ then _ else _) = _; rw [if_pos ⟨h1, h2⟩]
theorem b2_pow (i j : Int) (h1 : 0 ≤ j) (h2 : j ≤ 1000000) (h3 : i.natAbs < 18446744073709551616) : b2 .pow (.int i) (.int j) = .ok (.int (i ^ j.toNat)) := by
  show (if _ then _ else _) = _; rw [if_pos ⟨h1, h2, h3⟩]
theorem c2_lt (i j : Int) : c2 .lt (.int i) (.int j) = .ok (.bl (decide (i < j))) := rfl
theorem c2_le (i j : Int) : c2 .le (.int i) (.int j) = .ok (.bl (decide (i ≤ j))) := rfl
theorem c2_gt (i j : Int) : c2 .gt (.int i) (.int j) = .ok (.bl (decide (j < i))) := rfl
theorem c2_ge (i j : Int) : c2 .ge (.int i) (.int j) = .ok (.bl (decide (j ≤ i))) := rfl
theorem c2_eqI (i j : Int) : c2 .eq (.int i) (.int j) = .ok (.bl (i == j)) := rfl
theorem c2_neI (i j : Int) : c2 .ne (.int i) (.int j) = .ok (.bl (!(i == j))) := rfl
theorem get_zero (d : D) (r : Fr) : get (some d :: r) 0 = .ok d := rfl
theorem get_succ (o : Option D) (r : Fr) (i : Nat) : get (o :: r) (i + 1) = get r i := by
  unfold get; rw [List.getElem?_cons_succ]
theorem run_ret {n : Nat} {b : Ss} {ds : List D} {d : D} (h : exs b (Pu.start n ds) = .ret d) : run n b ds = .ok d := by
  unfold run; rw [h]
theorem run_exc {n : Nat} {b : Ss} {ds : List D} {c : Nat} {δ : Fr} (h : exs b (Pu.start n ds) = .exc c δ) : run n b ds = .exc c := by
  unfold run; rw [h]
noncomputable def mixZ (c k : Int) : Int := ((((c % 2147483629 + 1013 * k + 7919) ^ 3 % 2147483647) * 40699 + 3793 * k * k + 11) % 2147483399) / 101
theorem den_mix (c k : Int) (hk0 : 0 ≤ k) (hk : k ≤ 100000) : fn_law_mix_k11.den [.int c, .int k] = .ok (.int (mixZ c k)) := by
  have h1 : 0 ≤ c % 2147483629 := Int.emod_nonneg _ (by decide)
  have h2 : c % 2147483629 < 2147483629 := Int.emod_lt_of_pos _ (by decide)
  have h3 : (c % 2147483629 + 1013 * k + 7919).natAbs < 18446744073709551616 := by omega
  have h4 : -(18446744073709551616) < k := by omega
  have h5 : k < 18446744073709551616 := by omega
  rw [dn_law_mix_k11 _ rfl]
  simp [run, b_law_mix_k11, exs, ex, ev, evs, get, b2_add, b2_mulL, b2_mulR, b2_mod, b2_fdiv, b2_pow, Pu.start, h3, h4, h5, mixZ]
end Pu
end
section
namespace Pu
open PySem
theorem int_of_mem {ns : List Int} {d : D} (h : d ∈ ns.map D.int) : ∃ x, d = .int x := by
  obtain ⟨x, _, e⟩ := List.mem_map.mp h
  exact ⟨x, e.symm⟩
theorem int_of_cut {ns : List Int} {d : D} {lo hi : Option Int} {i : Nat} (h : (cut (ns.map D.int) lo hi)[i]? = some d) : ∃ x, d = .int x := by
  have := List.mem_of_getElem? h
  unfold cut at this
  exact int_of_mem (List.mem_of_mem_drop (List.mem_of_mem_take this))
theorem atD_ints {ns : List Int} {i : Int} (h0 : 0 ≤ i) (h1 : i < ns.length) : ∃ x, ns[i.toNat]? = some x ∧ atD (ns.map D.int) i = .ok (.int x) := by
  have hl : i.toNat < ns.length := by omega
  refine ⟨ns[i.toNat], List.getElem?_eq_getElem hl, ?_⟩
  unfold atD ixN
  rw [List.length_map, if_pos h0, if_pos h1]
  simp [hl]
theorem den_cell (ns : List Int) (p : Int) (hp : 0 ≤ p) : ∃ i, fn_law_cell.den [.lst (ns.map .int), .int p] = .ok (.int i) := by
  rw [dn_law_cell _ rfl]
  by_cases h : p < ns.length
  · obtain ⟨x, _, e⟩ := atD_ints hp h
    refine ⟨x, ?_⟩
    simp -implicitDefEqProofs [run, exs, ex, ev, evs, evI, evBo, tv, get, truth, b2_add, b2_sub, b2_mulL, b2_mulR, b2_mod, b2_fdiv, b2_pow, c2_lt, c2_le, c2_gt, c2_ge, c2_eqI, c2_neI, Pu.start, biD, ixD, ixLD, ixTD, evP, upd, updP, umD, itSeq, itSeqL, isKd, partR, partD, E.isCN, cutD, on1, on2, on3, int1, int2, intsD, boolsD, lstD, seqD, intD, dI, dB, dS, dL, dT', un1, un0, b_law_cell, h, e]
  · obtain ⟨δ', e, s, o, rfl⟩ := floop_ind (tg := .nm 3) (b := exs b_law_cell_l1) (fun _ δ => ∃ (s : Int) (o : Option D), δ = [some (.lst (ns.map .int)), some (.int p), some (.int s), o]) (ds := cut (ns.map D.int) none (some 63)) (δ := [some (.lst (ns.map .int)), some (.int p), some (.int 5), none]) 0 ⟨5, none, rfl⟩ (by
      rintro i d δ hd ⟨s, o, rfl⟩
      obtain ⟨x, rfl⟩ := int_of_cut hd
      refine ⟨_, _, rfl, ?_, (s * 48271 + x % 1000003 + 1) % 2147483647, some (.int x), rfl⟩
      simp -implicitDefEqProofs [run, exs, ex, ev, evs, evI, evBo, tv, get, truth, b2_add, b2_sub, b2_mulL, b2_mulR, b2_mod, b2_fdiv, b2_pow, c2_lt, c2_le, c2_gt, c2_ge, c2_eqI, c2_neI, Pu.start, biD, ixD, ixLD, ixTD, evP, upd, updP, umD, itSeq, itSeqL, isKd, partR, partD, E.isCN, cutD, on1, on2, on3, int1, int2, intsD, boolsD, lstD, seqD, intD, dI, dB, dS, dL, dT', un1, un0, b_law_cell_l1])
    refine ⟨(s + 7919 * p) % 1000003, ?_⟩
    simp -implicitDefEqProofs [run, exs, ex, ev, evs, evI, evBo, tv, get, truth, b2_add, b2_sub, b2_mulL, b2_mulR, b2_mod, b2_fdiv, b2_pow, c2_lt, c2_le, c2_gt, c2_ge, c2_eqI, c2_neI, Pu.start, biD, ixD, ixLD, ixTD, evP, upd, updP, umD, itSeq, itSeqL, isKd, partR, partD, E.isCN, cutD, on1, on2, on3, int1, int2, intsD, boolsD, lstD, seqD, intD, dI, dB, dS, dL, dT', un1, un0, b_law_cell, h, e]
theorem rangeD_get {a b : Int} {i : Nat} {d : D} (h : (rangeD a b)[i]? = some d) : d = .int (a + i) ∧ (i : Int) < b - a := by
  unfold rangeD at h
  rw [List.getElem?_map] at h
  obtain ⟨j, hj, e⟩ := Option.map_eq_some_iff.mp h
  obtain ⟨h1, h2⟩ := List.getElem?_eq_some_iff.mp hj
  rw [List.getElem_range] at h2
  subst h2
  rw [List.length_range] at h1
  exact ⟨e.symm, by omega⟩
theorem rangeD_len (a b : Int) : (rangeD a b).length = (b - a).toNat := by unfold rangeD; simp
theorem itR2_ok {a b : Int} (h1 : -1000000 ≤ a) (h2 : a ≤ 1000000) (h3 : -1000000 ≤ b) (h4 : b ≤ 1000000) : itR2 (.int a) (.int b) = .ok (rangeD a b) := by
  show (if _ then _ else _) = _
  rw [if_pos]
  unfold smallI LIM
  simp -implicitDefEqProofs only [Bool.and_eq_true, decide_eq_true_eq]
  omega
theorem ix_ints {ns : List Int} {i : Nat} {x : Int} (h : ns[i]? = some x) : atD (ns.map D.int) (i : Int) = .ok (.int x) := by
  have hl := (List.getElem?_eq_some_iff.mp h).1
  obtain ⟨y, e1, e2⟩ := atD_ints (ns := ns) (i := (i : Int)) (by exact Int.natCast_nonneg _) (by exact Int.ofNat_le.mpr hl)
  rw [Int.toNat_natCast, h] at e1
  cases e1
  exact e2
end Pu
end
section
namespace Pu
open PySem
theorem pw18 : b2 .pow (.int 10) (.int 18) = .ok (.int 1000000000000000000) := by
  rw [b2_pow _ _ (by decide) (by decide) (by decide)]; rfl
theorem pw59 : b2 .pow (.int 10) (.int 59) = .ok (.int 100000000000000000000000000000000000000000000000000000000000) := by
  rw [b2_pow _ _ (by decide) (by decide) (by decide)]; rfl
theorem app_ok (ds : List D) (d : D) (h : ds.length < 16777216) : umD .append [d] ds = some (ds ++ [d]) := by
  show (if _ then _ else _) = _
  exact if_pos h
section
variable {ns S xs : List Int} {p c left : Int} {i : Nat} {s : Int} {o2 : Option D} (hs : 0 < s) (hat : atD (S.map D.int) (i : Int) = .ok (.int s)) (hi : i ≤ 1000) (hx : xs.length ≤ 1000)
include hs hat hi hx
theorem row_a (h1 : c < 1000000000000000000) :
    exs b_law_row_k11_l1 [some (.lst (ns.map .int)), some (.int p), some (.lst (S.map .int)), some (.int c), some (.int left), some (.lst (xs.map .int)), some (.int i), o2] = .nxt [some (.lst (ns.map .int)), some (.int p), some (.lst (S.map .int)), some (.int c), some (.int left), some (.lst ((xs ++ [mixZ c i % s]).map .int)), some (.int i), o2] := by
  have hmx := den_mix c i (by exact Int.natCast_nonneg _) (by exact q9B hi (by decide))
  have hap := app_ok (xs.map D.int) (.int (mixZ c i % s)) (by rw [List.length_map]; exact Nat.lt_of_le_of_lt hx (by decide))
  simp -implicitDefEqProofs only [b_law_row_k11_l1, exs, ex, tv, ev, evs, evI, evBo, get_zero, get_succ, Res.bind_ok, Res.out_ok, Out.then_nxt, Out.then_ret, List.getElem?_cons_zero, List.getElem?_cons_succ, pw18, pw59, b2_add, b2_sub, b2_mulL, b2_mulR, b2_mod, b2_fdiv, c2_lt, c2_le, c2_gt, c2_ge, c2_eqI, c2_neI, truth, decide_true, decide_false, if_true, if_false, Bool.false_eq_true, Bool.true_eq_false, Bool.not_true, Bool.not_false, evP, ixD, ixLD, ixTD, upd, updP, Option.map_some, List.set, List.map_append, List.map, biD, itSeq, itSeqL, isKd, on1, on2, on3, int1, int2, intsD, boolsD, lstD, seqD, intD, dI, dB, dS, dL, dT', un1, un0, partR, partD, E.isCN, cutD, reduceCtorEq, Int.reduceLT, Int.reduceLE, Int.reduceNeg, Int.reduceBEq, h1, hmx, hat, hs, hap]
theorem row_b (h1 : ¬ c < 1000000000000000000) (h2 : 0 < left) (h3 : s < 1606938044258990275541962092341162602522202993782792835301376) :
    exs b_law_row_k11_l1 [some (.lst (ns.map .int)), some (.int p), some (.lst (S.map .int)), some (.int c), some (.int left), some (.lst (xs.map .int)), some (.int i), o2] = .nxt [some (.lst (ns.map .int)), some (.int p), some (.lst (S.map .int)), some (.int c), some (.int (left / s)), some (.lst ((xs ++ [left % s]).map .int)), some (.int i), o2] := by
  have hap := app_ok (xs.map D.int) (.int (left % s)) (by rw [List.length_map]; exact Nat.lt_of_le_of_lt hx (by decide))
  simp -implicitDefEqProofs only [b_law_row_k11_l1, exs, ex, tv, ev, evs, evI, evBo, get_zero, get_succ, Res.bind_ok, Res.out_ok, Out.then_nxt, Out.then_ret, List.getElem?_cons_zero, List.getElem?_cons_succ, pw18, pw59, b2_add, b2_sub, b2_mulL, b2_mulR, b2_mod, b2_fdiv, c2_lt, c2_le, c2_gt, c2_ge, c2_eqI, c2_neI, truth, decide_true, decide_false, if_true, if_false, Bool.false_eq_true, Bool.true_eq_false, Bool.not_true, Bool.not_false, evP, ixD, ixLD, ixTD, upd, updP, Option.map_some, List.set, List.map_append, List.map, biD, itSeq, itSeqL, isKd, on1, on2, on3, int1, int2, intsD, boolsD, lstD, seqD, intD, dI, dB, dS, dL, dT', un1, un0, partR, partD, E.isCN, cutD, reduceCtorEq, Int.reduceLT, Int.reduceLE, Int.reduceNeg, Int.reduceBEq, h1, h2, h3, hat, hs, hap]
theorem row_c (h1 : ¬ c < 1000000000000000000) (h2 : ¬ 0 < left) {q : Int} (hq : fn_law_cell.den [.lst (ns.map .int), .int ((p + 1 + i) % 63)] = .ok (.int q)) :
    exs b_law_row_k11_l1 [some (.lst (ns.map .int)), some (.int p), some (.lst (S.map .int)), some (.int c), some (.int left), some (.lst (xs.map .int)), some (.int i), o2] = .nxt [some (.lst (ns.map .int)), some (.int p), some (.lst (S.map .int)), some (.int c), some (.int left), some (.lst ((xs ++ [mixZ q i % s]).map .int)), some (.int i), some (.int q)] := by
  have hmx := den_mix q i (by exact Int.natCast_nonneg _) (by exact q9B hi (by decide))
  have hap := app_ok (xs.map D.int) (.int (mixZ q i % s)) (by rw [List.length_map]; exact Nat.lt_of_le_of_lt hx (by decide))
  simp -implicitDefEqProofs only [b_law_row_k11_l1, exs, ex, tv, ev, evs, evI, evBo, get_zero, get_succ, Res.bind_ok, Res.out_ok, Out.then_nxt, Out.then_ret, List.getElem?_cons_zero, List.getElem?_cons_succ, pw18, pw59, b2_add, b2_sub, b2_mulL, b2_mulR, b2_mod, b2_fdiv, c2_lt, c2_le, c2_gt, c2_ge, c2_eqI, c2_neI, truth, decide_true, decide_false, if_true, if_false, Bool.false_eq_true, Bool.true_eq_false, Bool.not_true, Bool.not_false, evP, ixD, ixLD, ixTD, upd, updP, Option.map_some, List.set, List.map_append, List.map, biD, itSeq, itSeqL, isKd, on1, on2, on3, int1, int2, intsD, boolsD, lstD, seqD, intD, dI, dB, dS, dL, dT', un1, un0, partR, partD, E.isCN, cutD, reduceCtorEq, Int.reduceLT, Int.reduceLE, Int.reduceNeg, Int.reduceBEq, h1, h2, hq, hmx, hat, hs, hap, Int.reduceLT]
end
end Pu
end
section
namespace Pu
open PySem
theorem den_row (ns : List Int) (p : Int) (hp : 0 ≤ p) (S : List Int) (hl : S.length ≤ 1000) (hS : ∀ s ∈ S, 0 < s ∧ s < 1606938044258990275541962092341162602522202993782792835301376) :
    ∃ xs : List Int, fn_law_row_k11.den [.lst (ns.map .int), .int p, .lst (S.map .int)] = .ok (.lst (xs.map .int)) ∧ xs.length = S.length ∧ ∀ (j : Nat) (x s : Int), xs[j]? = some x → S[j]? = some s → 0 ≤ x ∧ x < s := by
  obtain ⟨c, hc⟩ := den_cell ns p hp
  obtain ⟨δ', e, left, xs, o1, o2, rfl, hx, hb⟩ := floop_ind (tg := .nm 6) (b := exs b_law_row_k11_l1) (fun i δ => ∃ (left : Int) (xs : List Int) (o1 o2 : Option D), δ = [some (.lst (ns.map .int)), some (.int p), some (.lst (S.map .int)), some (.int c), some (.int left), some (.lst (xs.map .int)), o1, o2] ∧ xs.length = i ∧ ∀ (j : Nat) (x s : Int), xs[j]? = some x → S[j]? = some s → 0 ≤ x ∧ x < s)
    (ds := rangeD 0 (S.length : Int)) (δ := [some (.lst (ns.map .int)), some (.int p), some (.lst (S.map .int)), some (.int c), some (.int c), some (.lst []), none, none]) 0 ⟨c, [], none, none, rfl, rfl, by simp⟩ (by
      rintro i d δ hd ⟨left, xs, o1, o2, rfl, hx, hb⟩
      obtain ⟨rfl, hi⟩ := rangeD_get hd
      have hx : xs.length = i := by omega
      have hi' : i < S.length := by exact Int.ofNat_le.mp hi
      have hs : S[i]? = some S[i] := List.getElem?_eq_getElem hi'
      have hsp := hS S[i] (List.getElem_mem hi')
      have hat := ix_ints hs
      generalize S[i] = s at hs hsp hat
      have fin : ∀ z : Int, 0 ≤ z → z < s → ∀ (j : Nat) (x s : Int), (xs ++ [z])[j]? = some x → S[j]? = some s → 0 ≤ x ∧ x < s := by
        intro z h0 h1 j x s e1 e2
        by_cases hj : j < xs.length
        · rw [List.getElem?_append_left hj] at e1
          exact hb j x s e1 e2
        · rw [List.getElem?_append_right (by exact Nat.not_lt.mp hj)] at e1
          have : j = i := by
            have := (List.getElem?_eq_some_iff.mp e1).1
            simp at this; omega
          subst this
          rw [hx, Nat.sub_self] at e1
          rw [hs] at e2
          cases e2; cases e1
          exact ⟨h0, h1⟩
      have md : ∀ y : Int, 0 ≤ y % s ∧ y % s < s := fun y => ⟨Int.emod_nonneg _ (by omega), Int.emod_lt_of_pos _ hsp.1⟩
      have hz : (0 : Int) + (i : Int) = (i : Int) := by omega
      rw [hz]
      have len : ∀ z : Int, (xs ++ [z]).length = 0 + i + 1 := fun z => by rw [List.length_append, hx]; simp
      by_cases h1 : c < 1000000000000000000
      · exact ⟨_, _, rfl, row_a hsp.1 hat (by omega) (by omega) h1, left, xs ++ [mixZ c i % s], some (.int i), o2, rfl, len _, fin _ (md _).1 (md _).2⟩
      · by_cases h2 : 0 < left
        · exact ⟨_, _, rfl, row_b hsp.1 hat (by omega) (by omega) h1 h2 hsp.2, left / s, xs ++ [left % s], some (.int i), o2, rfl, len _, fin _ (md _).1 (md _).2⟩
        · obtain ⟨q, hq⟩ := den_cell ns ((p + 1 + i) % 63) (Int.emod_nonneg _ (by decide))
          exact ⟨_, _, rfl, row_c hsp.1 hat (by omega) (by omega) h1 h2 hq, left, xs ++ [mixZ q i % s], some (.int i), some (.int q), rfl, len _, fin _ (md _).1 (md _).2⟩)
  refine ⟨xs, ?_, by rw [hx, rangeD_len]; exact Nat.add_comm .., hb⟩
  have hr := itR2_ok (a := 0) (b := (S.length : Int)) (by exact by decide) (by exact by decide) (by exact Int.natCast_nonneg _) (by exact q9B hl (by decide))
  refine (dn_law_row_k11 _ rfl).trans (run_ret ?_)
  simp -implicitDefEqProofs only [Pu.start, List.length, List.replicate, List.cons_append, List.nil_append, b_law_row_k11, exs, ex, tv, ev, evs, evI, evBo, get_zero, get_succ, Res.bind_ok, Res.out_ok, Out.then_nxt, Out.then_ret, List.getElem?_cons_zero, List.getElem?_cons_succ, pw18, pw59, b2_add, b2_sub, b2_mulL, b2_mulR, b2_mod, b2_fdiv, c2_lt, c2_le, c2_gt, c2_ge, c2_eqI, c2_neI, truth, decide_true, decide_false, if_true, if_false, Bool.false_eq_true, Bool.true_eq_false, Bool.not_true, Bool.not_false, evP, ixD, ixLD, ixTD, upd, updP, Option.map_some, List.set, List.map_append, List.map, biD, itSeq, itSeqL, isKd, on1, on2, on3, int1, int2, intsD, boolsD, lstD, seqD, intD, dI, dB, dS, dL, dT', un1, un0, partR, partD, E.isCN, cutD, reduceCtorEq, Int.reduceLT, Int.reduceLE, Int.reduceNeg, Int.reduceBEq, hc, List.length_map, hr, e]
end Pu
end
section
namespace Pu
open PySem
theorem at0 (a b : D) : atD [a, b] 0 = .ok a := rfl
theorem at1 (a b : D) : atD [a, b] 1 = .ok b := rfl
end Pu
end
section
namespace Pu
open PySem
section
variable {z : Int} {n : Nat} (hz : 1 ≤ z) (hz2 : z ≤ 1000000000000000000) (hn1 : 1 ≤ n) (hn : n ≤ 16)
include hz hz2 hn1 hn
end
end Pu
end
section
namespace Pu
open PySem
section
variable (a b c d e f : D)
end
end Pu
end
section
namespace Pu
open PySem
theorem ev_cI (i : Int) (δ : Fr) : ev (.cI i) δ = .ok (.int i) := by rw [ev]
theorem wloop_ind {c : Fr → Res Bool} {b : Fr → Out} (P : Nat → Fr → Prop) : ∀ (k n m : Nat) {δ : Fr}, P m δ → (∀ i δ, m ≤ i → i < m + k → P i δ → c δ = .ok true ∧ ∃ δ', b δ = .nxt δ' ∧ P (i + 1) δ') → (∀ δ, P (m + k) δ → c δ = .ok false) → k < n → ∃ δ', wloop c b n δ = .nxt δ' ∧ P (m + k) δ'
  | 0, n + 1, m, δ, h0, _, h2, _ => by
    refine ⟨δ, ?_, h0⟩
    unfold wloop
    rw [h2 δ h0]; rfl
  | k + 1, n + 1, m, δ, h0, h1, h2, hn => by
    obtain ⟨e1, δ', e2, h3⟩ := h1 m δ (Nat.le_refl _) (by omega) h0
    obtain ⟨δ2, e4, h4⟩ := wloop_ind P k n (m + 1) h3 (fun i δ hi hl => h1 i δ (by exact Nat.le_of_lt hi) (by omega)) (fun δ hd => h2 δ (by rw [show m + (k + 1) = m + 1 + k by omega]; exact hd)) (by exact Nat.le_of_lt_succ hn)
    refine ⟨δ2, ?_, by rw [show m + (k + 1) = m + 1 + k by omega]; exact h4⟩
    unfold wloop
    rw [e1, Res.out_ok, if_pos rfl, e2]
    exact e4
theorem b2_addL (a b : List D) (h : a.length + b.length ≤ 16777216) : b2 .add (.lst a) (.lst b) = .ok (.lst (a ++ b)) := by
  show (if _ then _ else _) = _
  exact if_pos h
end Pu
end
section
namespace Pu
open PySem
noncomputable def cnt (p f i : Nat) : Nat := (p + f ^ i - 1) / f ^ i
structure Hs (p f h : Nat) : Prop where
  one : cnt p f h = 1
  more : ∀ i, i < h → 1 < cnt p f i
noncomputable def mx (b : Nat → Bool) : Nat → Nat
  | 0 => 0
  | l + 1 => if b (l + 1) then l + 1 else mx b l
end Pu
end
section
open Pu
local macro_rules | `(tactic| simp_arith [$xs,*] $[at $h:ident]?) => `(tactic| simp -implicitDefEqProofs only [Pu.start, List.length, List.replicate, List.cons_append, List.nil_append, ↓reduceIte, Nat.zero_add, Nat.reduceAdd, Nat.reduceSub, Int.cast_ofNat_Int, Int.reduceAdd, Int.reduceSub, Int.reduceMul, at0, at1, beq_self_eq_true, Bool.and_self, Bool.and_true, Bool.true_and, Bool.false_and, Bool.and_false, exs, ex, tv, ev, evs, evI, evBo, get_zero, get_succ, Res.bind_ok, Res.out_ok, Out.then_nxt, Out.then_ret, List.getElem?_cons_zero, List.getElem?_cons_succ, pw18, pw59, b2_add, b2_sub, b2_mulL, b2_mulR, b2_mod, b2_fdiv, c2_lt, c2_le, c2_gt, c2_ge, c2_eqI, c2_neI, truth, decide_true, decide_false, if_true, if_false, Bool.false_eq_true, Bool.true_eq_false, Bool.not_true, Bool.not_false, evP, ixD, ixLD, ixTD, upd, updP, Option.map_some, List.set, List.map_append, List.map, biD, itSeq, itSeqL, isKd, on1, on2, on3, int1, int2, intsD, boolsD, lstD, seqD, intD, dI, dB, dS, dL, dT', un1, un0, partR, partD, E.isCN, cutD, reduceCtorEq, Int.reduceLT, Int.reduceLE, Int.reduceNeg, Int.reduceBEq, $xs,*] $[at $h:ident]?)
namespace Pu
open PySem
noncomputable def lvD (p f h : Nat) : List Nat := (List.range (h + 1)).map (cnt p f)
section
variable {p f h : Nat} (hf : 2 ≤ f) (hf8 : f ≤ 8) (H : Hs p f h) (hh : h ≤ 8)
include hf hf8 H hh
end
section
variable {p f h : Nat} (hf : 2 ≤ f) (hf8 : f ≤ 8) (H : Hs p f h) (hh : h ≤ 8) {l j : Nat} (hl : l ≤ h) (hj : j < cnt p f l)
include hl hj
end
end Pu
namespace Pu
open PySem
section
variable {p f h : Nat} (hf : 2 ≤ f) (hf8 : f ≤ 8) (H : Hs p f h) (hh : h ≤ 8)
include hf hf8 H hh
section
variable {l j : Nat} (hl : l ≤ h) (hj : j < cnt p f l)
include hl hj
end
end
end Pu
namespace Pu
open PySem
section
variable {p f h : Nat} (hf : 2 ≤ f) (hf8 : f ≤ 8) (H : Hs p f h) (hh : h ≤ 8)
include hf hf8 H hh
section
variable {a e : Nat} (hae : a < e) (hep : e ≤ p)
include hae hep
end
end
end Pu
namespace Pu
open PySem
section
variable {p f h : Nat} (hf : 2 ≤ f) (hf8 : f ≤ 8) (H : Hs p f h) (hh : h ≤ 8)
include hf hf8 H hh
end
mutual
theorem eqv_refl : ∀ {n : Nat} {d : D}, D.shp n d = true → D.eqv d d = true
  | _, .non, _ => by simp [D.eqv]
  | _, .bl b, _ => by simp [D.eqv]
  | _, .int i, _ => by simp [D.eqv]
  | _, .str x, _ => by simp [D.eqv]
  | n + 1, .tup ds, h => by rw [D.eqv]; exact eqvs_refl (n := n) h
  | n + 1, .lst ds, h => by rw [D.eqv]; exact eqvs_refl (n := n) h
  | 0, .tup ds, h => by cases h
  | 0, .lst ds, h => by cases h
  | _, .exn _, h => by simp [D.shp] at h
  | _, .dic _ _, h => by simp [D.shp] at h
  | _, .dit _ _, h => by simp [D.shp] at h
theorem eqvs_refl : ∀ {n : Nat} {ds : List D}, ds.all (D.shp n) = true → D.eqvs ds ds = true
  | _, [], _ => by simp [D.eqvs]
  | n, d :: ds, h => by
    rw [List.all_cons, Bool.and_eq_true] at h
    rw [D.eqvs, eqv_refl h.1, eqvs_refl h.2]; rfl
end
theorem c2_eq_self (d : D) (h : D.shp 8 d = true) : c2 .eq d d = .ok (.bl true) := by
  show (if _ then _ else _) = _
  rw [h, eqv_refl h]; rfl
theorem c2_ne_self (d : D) (h : D.shp 8 d = true) : c2 .ne d d = .ok (.bl false) := by
  show (if _ then _ else _) = _
  rw [h, eqv_refl h]; rfl
end Pu
namespace Pu
open PySem
section
variable (a b c d e f g h : D)
end
structure Sp (p f h : Nat) : Prop where
  hf : 2 ≤ f
  hf8 : f ≤ 8
  hp : p ≤ 200
  hh : h ≤ 8
  hs : p = 0 ∨ Hs p f h
end Pu
namespace Pu
open PySem
theorem pw6 : b2 .pow (.int 10) (.int 6) = .ok (.int 1000000) := by
  rw [b2_pow _ _ (by decide) (by decide) (by decide)]; rfl
theorem flat_rep (d : D) : ∀ n, (List.replicate n [d]).flatten = List.replicate n d
  | 0 => rfl
  | n + 1 => by rw [List.replicate_succ, List.flatten_cons, flat_rep d n]; rfl
theorem b2_rep (d : D) (n : Nat) (h : n ≤ 1000) : b2 .mul (.lst [d]) (.int n) = .ok (.lst (List.replicate n d)) := by
  rw [b2, mulD, if_pos]
  · rw [Int.toNat_natCast, flat_rep]
  · rw [Int.toNat_natCast, List.length_singleton]
    unfold LIM
    omega
theorem m4c (x : Int) : x % 4 = 0 ∨ x % 4 = 1 ∨ x % 4 = 2 ∨ x % 4 = 3 := by omega
section
variable {xs rs : List Int} {k : Nat} {s p m : D} {sc x c e : Int} {o7 : Option D} (h0 : 0 ≤ sc) (h1 : sc ≤ 100000000000000000) (x0 : 0 ≤ x) (x1 : x < 13) (e0 : 0 ≤ e) (e1 : e < 13) (a2 : atD (xs.map D.int) 2 = .ok (.int c)) (a3 : atD (xs.map D.int) 3 = .ok (.int e)) (ak : atD (xs.map D.int) (4 + (k : Int)) = .ok (.int x)) (hr : rs.length ≤ 1000)
include h0 h1 x0 x1 e0 e1 a2 a3 ak hr
theorem rm_turn : ∃ (r : Int) (o7' : Option D), 0 ≤ r ∧ r ≤ 1000000000000000000 ∧ exs b_law_rooms_k21_l1 [some s, some p, some m, some (.lst (xs.map .int)), some (.int sc), some (.lst (rs.map .int)), some (.int k), o7] = .nxt [some s, some p, some m, some (.lst (xs.map .int)), some (.int sc), some (.lst ((rs ++ [r]).map .int)), some (.int k), o7'] := by
  have hap := fun r => app_ok (rs.map D.int) (.int r) (by rw [List.length_map]; exact Nat.lt_of_le_of_lt hr (by decide))
  have fin : ∀ w : Int, 0 ≤ w → 0 ≤ min 1000000000000000000 (w * sc + (if (w == 12) = true then 1 else 0) * 4) := fun w hw => Int.le_min.mpr ⟨by decide, Int.add_nonneg (Int.mul_nonneg hw h0) (by split <;> decide)⟩
  have big : ∀ w : Int, min 1000000000000000000 (w * sc + (if (w == 12) = true then 1 else 0) * 4) ≤ 1000000000000000000 := fun w => Int.min_le_left ..
  have l3 : (0 : Int) < 3 := by decide
  have l4 : (0 : Int) < 4 := by decide
  have l5 : (0 : Int) < 13 := by decide
  have l6 : (4 : Int) < 1606938044258990275541962092341162602522202993782792835301376 := by decide
  have s1 : -18446744073709551616 < sc := by exact Int.le_trans (by decide) h0
  have s2 : sc < 18446744073709551616 := by exact Int.lt_of_le_of_lt h1 (by decide)
  have m3 := Int.emod_nonneg x (show (3 : Int) ≠ 0 by decide)
  have m4 := Int.emod_nonneg x (show (4 : Int) ≠ 0 by decide)
  have m4' := Int.emod_lt_of_pos x l4
  have m13 := Int.emod_nonneg (e + (k : Int)) (show (13 : Int) ≠ 0 by decide)
  by_cases c1 : c = 1
  · subst c1
    refine ⟨_, some (.int (x % 3)), fin (x % 3) m3, big _, ?_⟩
    simp_arith [b_law_rooms_k21_l1, a2, ak, l3, hap, s1, s2]
  by_cases c2 : c = 2
  · subst c2
    obtain ⟨v, hv, v0, v1⟩ : ∃ v : Int, atD [.int 0, .int 0, .int 0, .int 1] (x % 4) = .ok (.int v) ∧ 0 ≤ v ∧ v ≤ 1 := by
      rcases m4c x with h | h | h | h <;> rw [h] <;> refine ⟨_, rfl, ?_, ?_⟩ <;> decide
    have v2 : -18446744073709551616 < v := by exact Int.le_trans (by decide) v0
    have v3 : v < 18446744073709551616 := by exact Int.lt_of_le_of_lt v1 (by decide)
    refine ⟨_, some (.int (v * (1 + x / 4))), fin (v * (1 + x / 4)) (Int.mul_nonneg v0 (Int.add_nonneg (by decide) (Int.ediv_nonneg x0 (by decide)))), big _, ?_⟩
    simp_arith [b_law_rooms_k21_l1, a2, ak, l4, l6, hv, v2, v3, hap, s1, s2]
  by_cases c3 : c = 3
  · subst c3
    refine ⟨_, some (.int ((e + (k : Int)) % 13)), fin ((e + (k : Int)) % 13) m13, big _, ?_⟩
    simp_arith [b_law_rooms_k21_l1, a2, a3, ak, l5, hap, s1, s2]
  by_cases c4 : c = 4
  · subst c4
    refine ⟨_, some (.int e), fin e e0, big _, ?_⟩
    simp_arith [b_law_rooms_k21_l1, a2, a3, ak, hap, s1, s2]
  · have d1 : (c == 1) = false := beq_eq_false_iff_ne.mpr c1
    have d2 : (c == 2) = false := beq_eq_false_iff_ne.mpr c2
    have d3 : (c == 3) = false := beq_eq_false_iff_ne.mpr c3
    have d4 : (c == 4) = false := beq_eq_false_iff_ne.mpr c4
    refine ⟨_, some (.int x), fin x x0, big _, ?_⟩
    simp_arith [b_law_rooms_k21_l1, a2, ak, d1, d2, d3, d4, hap, s1, s2]
end
theorem den_rooms (ns : List Int) (p : Int) (hp : 0 ≤ p) (m : Nat) (hm : m ≤ 200) : ∃ rs : List Int, rs.length ≤ m ∧ (∀ r ∈ rs, 0 ≤ r ∧ r ≤ 1000000000000000000) ∧ fn_law_rooms_k21.den [.lst (ns.map .int), .int p, .int m] = .ok (.lst (rs.map .int)) := by
  obtain ⟨xs, hrow, hl, hb⟩ := den_row ns p hp ([(m : Int) + 1, 5, 6, 13] ++ List.replicate m 13) (by simp; exact Nat.le_trans hm (by decide)) (by
    intro s hs
    rcases List.mem_append.mp hs with h | h
    · simp only [List.mem_cons, List.not_mem_nil, or_false] at h
      rcases h with rfl | rfl | rfl | rfl <;> omega
    · rw [(List.mem_replicate.mp h).2]; decide)
  have hl : xs.length = m + 4 := by rw [hl, List.length_append, List.length_replicate]; simp; exact Nat.add_comm ..
  have g : ∀ i, i < m + 4 → ∃ x, xs[i]? = some x := fun i hi => ⟨_, List.getElem?_eq_getElem (by exact hl ▸ hi)⟩
  obtain ⟨c0, g0⟩ := g 0 (by exact Nat.succ_pos _)
  obtain ⟨c1, g1⟩ := g 1 (by exact Nat.le_add_left ..)
  obtain ⟨c2, g2⟩ := g 2 (by exact Nat.le_add_left ..)
  obtain ⟨c3, g3⟩ := g 3 (by exact Nat.le_add_left ..)
  have b0 := hb 0 c0 ((m : Int) + 1) g0 (by simp)
  have b1 := hb 1 c1 5 g1 (by simp)
  have b3 := hb 3 c3 13 g3 (by simp)
  have bk : ∀ i : Nat, i < m → ∃ x, xs[4 + i]? = some x ∧ 0 ≤ x ∧ x < 13 := fun i hi => by
    obtain ⟨x, gx⟩ := g (4 + i) (by omega)
    refine ⟨x, gx, hb (4 + i) x 13 gx ?_⟩
    rw [List.getElem?_append_right (by simp)]
    simp [hi]
  have a0 := ix_ints g0
  have a1 := ix_ints g1
  have a2 := ix_ints g2
  have a3 := ix_ints g3
  obtain ⟨sc, hsc, s0, s1⟩ : ∃ v : Int, atD [.int 1, .int 1, .int 7, .int 1000000, .int 83333333333333333] c1 = .ok (.int v) ∧ 0 ≤ v ∧ v ≤ 100000000000000000 := by
    have : c1 = 0 ∨ c1 = 1 ∨ c1 = 2 ∨ c1 = 3 ∨ c1 = 4 := by omega
    rcases this with rfl | rfl | rfl | rfl | rfl <;> refine ⟨_, rfl, ?_, ?_⟩ <;> decide
  obtain ⟨n, rfl⟩ : ∃ n : Nat, c0 = n := ⟨c0.toNat, by omega⟩
  obtain ⟨δ', e, rs, o6, o7, rfl, hrl, hrb⟩ := floop_ind (tg := .nm 6) (b := exs b_law_rooms_k21_l1) (fun i δ => ∃ (rs : List Int) (o6 o7 : Option D), δ = [some (.lst (ns.map .int)), some (.int p), some (.int m), some (.lst (xs.map .int)), some (.int sc), some (.lst (rs.map .int)), o6, o7] ∧ rs.length = i ∧ ∀ r ∈ rs, 0 ≤ r ∧ r ≤ 1000000000000000000) (ds := rangeD 0 (n : Int)) (δ := [some (.lst (ns.map .int)), some (.int p), some (.int m), some (.lst (xs.map .int)), some (.int sc), some (.lst []), none, none]) 0 ⟨[], none, none, rfl, rfl, fun _ h => nomatch h⟩ (by
    rintro i d δ hd ⟨rs, o6, o7, rfl, hrl, hrb⟩
    obtain ⟨rfl, hi⟩ := rangeD_get hd
    rw [Int.zero_add]
    obtain ⟨x, gx, x0, x1⟩ := bk i (by omega)
    have ak := ix_ints gx
    rw [show ((4 + i : Nat) : Int) = 4 + (i : Int) by exact rfl] at ak
    obtain ⟨r, o7', r0, r1, e⟩ := rm_turn (s := .lst (ns.map .int)) (p := .int p) (m := .int m) (o7 := o7) s0 s1 x0 x1 b3.1 b3.2 a2 a3 ak (rs := rs) (by omega)
    refine ⟨_, _, rfl, e, rs ++ [r], some (.int i), o7', rfl, by simp; omega, fun y hy => ?_⟩
    rcases List.mem_append.mp hy with h | h
    · exact hrb y h
    · rw [List.mem_singleton.mp h]; exact ⟨r0, r1⟩)
  rw [rangeD_len] at hrl
  refine ⟨rs, by omega, hrb, ?_⟩
  have hr := itR2_ok (a := 0) (b := (n : Int)) (by exact by decide) (by exact by decide) (by exact Int.natCast_nonneg _) (by omega)
  have hrep := b2_rep (.int 13) m (by exact Nat.le_trans hm (by decide))
  have hadd := b2_addL [.int ((m : Int) + 1), .int 5, .int 6, .int 13] (List.replicate m (.int 13)) (by simp; exact Nat.le_trans (Nat.add_le_add_left hm _) (by decide))
  rw [List.map_append, List.map_replicate] at hrow
  refine (dn_law_rooms_k21 _ rfl).trans (run_ret ?_)
  have a0' : atD (xs.map D.int) 0 = .ok (.int n) := a0
  have a1' : atD (xs.map D.int) 1 = .ok (.int c1) := a1
  generalize List.replicate m (D.int 13) = zs at *
  simp only [List.map, List.cons_append, List.nil_append] at hrow hadd
  simp_arith [b_law_rooms_k21, hrep, hadd, hrow, pw6, hsc, a0', a1', hr, e]
end Pu
namespace Pu
open PySem
noncomputable def intL (xs : List Int) : D := .lst (xs.map .int)
section
variable {rs : List Int} {f h : Nat} (hf : 2 ≤ f) (hf8 : f ≤ 8) (H : Hs rs.length f h) (hh : h ≤ 8) (hn : rs.length ≤ 200)
include hf hf8 H hh hn
end
theorem flat_ints (xs : List Int) (m k : Nat) : D.flat (m + 2) (k + 1) (intL xs) = true := by
  unfold intL
  show (xs.map D.int).all (D.flat (m + 1) k) = true
  rw [List.all_eq_true]
  intro d hd
  obtain ⟨x, rfl⟩ := int_of_mem hd
  rfl
theorem shp_ints (xs : List Int) (k : Nat) : D.shp (k + 1) (intL xs) = true := by
  show (xs.map D.int).all (D.shp k) = true
  rw [List.all_eq_true]
  intro d hd
  obtain ⟨x, rfl⟩ := int_of_mem hd
  cases k <;> rfl
end Pu
namespace Pu
open PySem
noncomputable def tl (tr : List (List Int)) (l j : Nat) : Int := (tr.getD l []).getD j 0
noncomputable def Dim (tr : List (List Int)) (p f h : Nat) : Prop := tr.map List.length = lvD p f h
section
variable {tr : List (List Int)} {p f h : Nat} (hd : Dim tr p f h)
include hd
end
end Pu
namespace Pu
open PySem
theorem at_D {xs : List D} {i : Nat} (h : i < xs.length) : atD xs (i : Int) = .ok xs[i] := by
  unfold atD ixN
  rw [if_pos (by exact Int.natCast_nonneg _), if_pos (by exact Int.ofNat_le.mpr h)]
  simp [h]
end Pu
namespace Pu
open PySem
theorem mod_nat {y : Int} {n : Nat} (hn : 0 < n) : ∃ k : Nat, k < n ∧ y % (n : Int) = k := by
  have h1 := Int.emod_nonneg y (show (n : Int) ≠ 0 by omega)
  have h2 := Int.emod_lt_of_pos y (show 0 < (n : Int) by exact Int.ofNat_le.mpr hn)
  exact ⟨(y % (n : Int)).toNat, by omega, by exact (Int.toNat_of_nonneg h1).symm⟩
end Pu
namespace Pu
open PySem
noncomputable def whB : D → Bool
  | .int _ => true
  | _ => false
noncomputable def rmB : D → Bool
  | .int i => decide (0 ≤ i ∧ i ≤ 1000000000000000000)
  | _ => false
theorem wh21 (d : D) : fn_is_whole.den [d] = .ok (.bl (whB d)) := by
  refine (dn_is_whole _ rfl).trans (run_ret ?_)
  cases d <;> (simp_arith [b_is_whole, whB])
theorem lwh21 (d : D) : fn_law_whole.den [d] = .ok (.bl (whB d)) := by
  refine (dn_law_whole _ rfl).trans (run_ret ?_)
  cases d <;> (simp_arith [b_law_whole, whB])
theorem btw21 (d : D) : fn_is_between.den [d, .int 0, .int 1000000000000000000] = .ok (.bl (rmB d)) := by
  have hw := wh21 d
  refine (dn_is_between _ rfl).trans (run_ret ?_)
  cases d with
  | int i =>
    have hw : fn_is_whole.den [.int i] = .ok (.bl true) := hw
    show _ = Out.ret (.bl (decide (0 ≤ i ∧ i ≤ 1000000000000000000)))
    by_cases c1 : 0 ≤ i
    · by_cases c2 : i ≤ 1000000000000000000
      · rw [decide_eq_true ⟨c1, c2⟩]
        simp_arith [b_is_between, hw, c1, c2]
      · rw [decide_eq_false fun z => c2 z.2]
        simp_arith [b_is_between, hw, c1, c2]
    · rw [decide_eq_false fun z => c1 z.1]
      simp_arith [b_is_between, hw, c1]
  | _ =>
    have hw : fn_is_whole.den [_] = .ok (.bl false) := hw
    show _ = Out.ret (.bl false)
    simp_arith [b_is_between, hw]
theorem room21 (d : D) : fn_is_room.den [d] = .ok (.bl (rmB d)) := by
  have hb := btw21 d
  refine (dn_is_room _ rfl).trans (run_ret ?_)
  generalize rmB d = b at *
  simp_arith [b_is_room, hb]
noncomputable def fb21 : Nat → List D → Option Nat
  | _, [] => none
  | k, d :: r => if k == 200 || !rmB d then some k else fb21 (k + 1) r
noncomputable def en21 : Nat → List D → List D
  | _, [] => []
  | k, d :: r => .tup [.int k, d] :: en21 (k + 1) r
theorem ck_loop (L : D) : ∀ (ds : List D) (k : Nat) (o1 o2 : Option D), ∃ p1 p2, floop (.tp [1, 2]) (exs b_checked_rooms_l1) (en21 k ds) [some L, o1, o2] = match fb21 k ds with | none => .nxt [some L, p1, p2] | some i => .exc (xatN i) [some L, p1, p2]
  | [], k, o1, o2 => ⟨o1, o2, rfl⟩
  | d :: ds, k, o1, o2 => by
    have hr := room21 d
    rw [en21, floop]
    show ∃ p1 p2, (exs b_checked_rooms_l1 [some L, some (.int k), some d]).then _ = _
    unfold fb21
    by_cases c : k = 200
    · subst c
      have st : exs b_checked_rooms_l1 [some L, some (.int ((200 : Nat) : Int)), some d] = .exc (xatN ((200 : Nat) : Int)) [some L, some (.int ((200 : Nat) : Int)), some d] := by
        have e : (((200 : Nat) : Int) == 200) = true := rfl
        simp_arith [b_checked_rooms_l1, e, raiA, Out.then_exc]
      refine ⟨some (.int ((200 : Nat) : Int)), some d, ?_⟩
      rw [st]; rfl
    · have e : ((k : Int) == 200) = false := by rw [beq_eq_false_iff_ne]; omega
      have e2 : (k == 200) = false := beq_eq_false_iff_ne.mpr c
      rw [e2, Bool.false_or]
      cases hb : rmB d with
      | true =>
        rw [hb] at hr
        obtain ⟨p1, p2, ih⟩ := ck_loop L ds (k + 1) (some (.int k)) (some d)
        refine ⟨p1, p2, ?_⟩
        have st : exs b_checked_rooms_l1 [some L, some (.int k), some d] = .nxt [some L, some (.int k), some d] := by
          simp_arith [b_checked_rooms_l1, e, hr]
        rw [st, Out.then_nxt]
        exact ih
      | false =>
        rw [hb] at hr
        have st : exs b_checked_rooms_l1 [some L, some (.int k), some d] = .exc (xatN k) [some L, some (.int k), some d] := by
          simp_arith [b_checked_rooms_l1, e, hr, raiA, Out.then_exc]
        refine ⟨some (.int k), some d, ?_⟩
        rw [st]; rfl
theorem chk_ok21 {ds : List D} (he : enumD ds = en21 0 ds) (h : fb21 0 ds = none) : fn_checked_rooms.den [.lst ds] = .ok (.lst ds) := by
  obtain ⟨p1, p2, e⟩ := ck_loop (.lst ds) ds 0 none none
  rw [h] at e
  have hi : itEn (.lst ds) = .ok (en21 0 ds) := by rw [← he]; rfl
  refine (dn_checked_rooms _ rfl).trans (run_ret ?_)
  show exs b_checked_rooms [some (.lst ds), none, none] = _
  rw [b_checked_rooms]
  generalize en21 0 ds = EN at *
  simp_arith [hi, e]
theorem chk_no21 {ds : List D} {i : Nat} (he : enumD ds = en21 0 ds) (h : fb21 0 ds = some i) : fn_checked_rooms.den [.lst ds] = .exc (xatN i) := by
  obtain ⟨p1, p2, e⟩ := ck_loop (.lst ds) ds 0 none none
  rw [h] at e
  have hi : itEn (.lst ds) = .ok (en21 0 ds) := by rw [← he]; rfl
  refine (dn_checked_rooms _ rfl).trans (run_exc (δ := [some (.lst ds), p1, p2]) ?_)
  show exs b_checked_rooms [some (.lst ds), none, none] = _
  rw [b_checked_rooms]
  generalize en21 0 ds = EN at *
  simp_arith [hi, e, Out.then_exc]
theorem ref21 {ds : List D} {i : Nat} (he : enumD ds = en21 0 ds) (h : fb21 0 ds = some i) : fn_law_refused_k21.den [.lst ds, .int i] = .ok (.bl true) := by
  have hd := chk_no21 he h
  have kk : kcX (xatN i) = 4 := if_pos (xatN_ge i)
  have i1 : cat (xatN i) 4 = true := by unfold cat; rw [kk]; rfl
  have h9 : (xatN i == 999) = false := beq_eq_false_iff_ne.mpr (by have := xatN_ge i; omega)
  have j1 : isa 4 0 = true := rfl
  have j2 : [6, 3, 5].any (isa 4) = false := rfl
  have hA : atXD (.exn (xatN i)) = .ok (.int i) := by
    show (if 1000 ≤ xatN i then Res.ok (D.int (xatI (xatN i))) else .bad) = _
    rw [if_pos (xatN_ge i), xatI_atN]
  have hw : noE (fn_law_whole.den [.int i]) = .ok (.bl true) := rfl
  refine (dn_law_refused_k21 _ rfl).trans (run_ret ?_)
  generalize xatN i = xi at *
  simp_arith [b_law_refused_k21, hd, Res.out_exc, Out.then_exc, i1, dX, h9, kk, j1, j2, hA, hw]
theorem en_is : ∀ (ds : List D) (k : Nat), (ds.zipIdx k).map (fun p => D.tup [.int (p.2 : Nat), p.1]) = en21 k ds
  | [], k => rfl
  | d :: ds, k => by rw [List.zipIdx_cons, List.map_cons, en_is ds (k + 1)]; rfl
theorem en0 (ds : List D) : enumD ds = en21 0 ds := en_is ds 0
noncomputable def rg21 : Nat → List D → List D
  | _, [] => []
  | k, _ :: r => .int k :: rg21 (k + 1) r
theorem rg_is : ∀ (ds : List D) (k : Nat), (List.range ds.length).map (fun (i : Nat) => D.int ((k : Int) + i)) = rg21 k ds
  | [], k => rfl
  | d :: ds, k => by
    rw [List.length_cons, List.range_succ_eq_map, List.map_cons, List.map_map, rg21, ← rg_is ds (k + 1)]
    congr 1
    apply List.map_congr_left
    intro i _
    show D.int ((k : Int) + ((i + 1 : Nat) : Int)) = D.int (((k + 1 : Nat) : Int) + (i : Int))
    congr 1; omega
theorem rg0 (ds : List D) : rangeD 0 (ds.length : Int) = rg21 0 ds := by
  rw [← rg_is ds 0]
  unfold rangeD
  rw [Int.sub_zero, Int.toNat_natCast]
  rfl
theorem bd_loop (ds : List D) : ∀ (r : List D) (k : Nat), k ≤ 200 → ds.drop k = r → ∀ (o1 o2 : Option D), ∃ p1 p2, floop (.nm 1) (exs b_law_bad_k21_l1) (rg21 k r) [some (.lst ds), o1, o2] = match fb21 k r with | none => .nxt [some (.lst ds), p1, p2] | some i => .ret (.int i)
  | [], k, _, _, o1, o2 => ⟨o1, o2, rfl⟩
  | d :: r, k, hk, hd, o1, o2 => by
    have hlt : k < ds.length := by
      have := congrArg List.length hd
      rw [List.length_drop, List.length_cons] at this; omega
    have hdk : ds[k] = d ∧ ds.drop (k + 1) = r := by
      rw [List.drop_eq_getElem_cons hlt, List.cons.injEq] at hd; exact hd
    have hat : atD ds (k : Int) = .ok d := by rw [at_D hlt, hdk.1]
    have hw := lwh21 d
    rw [rg21, floop]
    show ∃ p1 p2, (exs b_law_bad_k21_l1 [some (.lst ds), some (.int k), o2]).then _ = _
    unfold fb21
    by_cases c : k = 200
    · subst c
      have hat : atD ds 200 = .ok d := hat
      have st : exs b_law_bad_k21_l1 [some (.lst ds), some (.int 200), o2] = .ret (.int 200) := by
        simp_arith [b_law_bad_k21_l1, hat]
      refine ⟨none, none, ?_⟩
      show (exs b_law_bad_k21_l1 [some (.lst ds), some (.int 200), o2]).then _ = _
      rw [st]; rfl
    · have e : ¬ (200 : Int) ≤ (k : Int) := by omega
      have e2 : (k == 200) = false := beq_eq_false_iff_ne.mpr c
      rw [e2, Bool.false_or]
      cases hb : rmB d with
      | true =>
        obtain ⟨p1, p2, ih⟩ := bd_loop ds r (k + 1) (by omega) hdk.2 (some (.int k)) (some d)
        refine ⟨p1, p2, ?_⟩
        have st : exs b_law_bad_k21_l1 [some (.lst ds), some (.int k), o2] = .nxt [some (.lst ds), some (.int k), some d] := by
          cases d with
          | int i =>
            have hw : fn_law_whole.den [.int i] = .ok (.bl true) := hw
            have hb : 0 ≤ i ∧ i ≤ 1000000000000000000 := of_decide_eq_true hb
            have c1 : ¬ i < 0 := by omega
            have c2 : ¬ 1000000000000000000 < i := by omega
            simp_arith [b_law_bad_k21_l1, hat, e, hw, c1, c2]
          | _ => cases hb
        rw [st, Out.then_nxt]
        exact ih
      | false =>
        have st : exs b_law_bad_k21_l1 [some (.lst ds), some (.int k), o2] = .ret (.int k) := by
          cases d with
          | int i =>
            have hw : fn_law_whole.den [.int i] = .ok (.bl true) := hw
            have hb : ¬ (0 ≤ i ∧ i ≤ 1000000000000000000) := of_decide_eq_false hb
            by_cases c1 : i < 0
            · simp_arith [b_law_bad_k21_l1, hat, e, hw, c1]
            · have c2 : 1000000000000000000 < i := by omega
              simp_arith [b_law_bad_k21_l1, hat, e, hw, c1, c2]
          | _ =>
            have hw : fn_law_whole.den [_] = .ok (.bl false) := hw
            simp_arith [b_law_bad_k21_l1, hat, e, hw]
        refine ⟨none, none, ?_⟩
        rw [st]; rfl
noncomputable def du21 (ds : List D) : D := match fb21 0 ds with | none => .non | some i => .int i
theorem bad21 (ds : List D) (hl : ds.length ≤ 1000) : fn_law_bad_k21.den [.lst ds] = .ok (du21 ds) := by
  have hr := itR2_ok (a := 0) (b := (ds.length : Int)) (by omega) (by omega) (by omega) (by omega)
  rw [rg0] at hr
  obtain ⟨p1, p2, e⟩ := bd_loop ds ds 0 (by omega) rfl none none
  refine (dn_law_bad_k21 _ rfl).trans (run_ret ?_)
  show exs b_law_bad_k21 [some (.lst ds), none, none] = _
  unfold du21
  cases h : fb21 0 ds with
  | none =>
    rw [h] at e
    generalize rg21 0 ds = RG at *
    simp_arith [b_law_bad_k21, hr, e]
  | some i =>
    rw [h] at e
    generalize rg21 0 ds = RG at *
    simp_arith [b_law_bad_k21, hr, e]
theorem fb_none : ∀ (ds : List D) (k : Nat), fb21 k ds = none → ∀ d ∈ ds, rmB d = true
  | [], _, _, d, hd => nomatch hd
  | e :: ds, k, h, d, hd => by
    unfold fb21 at h
    split at h
    · cases h
    · rename_i c
      rcases List.mem_cons.mp hd with rfl | hd
      · cases q : rmB d with
        | true => rfl
        | false => rw [q] at c; exact absurd (Bool.or_true _) c
      · exact fb_none ds (k + 1) h d hd
theorem ints21 : ∀ (ns : List D), (∀ d ∈ ns, rmB d = true) → ∃ xs : List Int, ns = xs.map .int
  | [], _ => ⟨[], rfl⟩
  | d :: ns, h => by
    obtain ⟨xs, e⟩ := ints21 ns fun x hx => h x (List.mem_cons_of_mem _ hx)
    have hd := h d (List.mem_cons_self ..)
    cases d with
    | int i => exact ⟨i :: xs, by rw [e]; rfl⟩
    | _ => exact Bool.noConfusion (show false = true from hd)
noncomputable def ok21 (d : D) : Prop := D.sm 7 d d = true
theorem ok_int (i : Int) : ok21 (.int i) := by unfold ok21; rw [D.sm, beq_self_eq_true]
theorem sm_z21 {n : Nat} : ∀ {ds : List D}, (∀ d ∈ ds, D.sm n d d = true) → (List.zipWith (D.sm n) ds ds).all id = true
  | [], _ => rfl
  | d :: ds, h => by
    rw [List.zipWith_cons_cons, List.all_cons, h d (List.mem_cons_self ..), sm_z21 fun x hx => h x (List.mem_cons_of_mem _ hx)]; rfl
theorem sm21 {ds : List D} (h : ∀ d ∈ ds, ok21 d) : c2 .sm (.lst ds) (.lst ds) = .ok (.bl true) := by
  show (if D.sm 8 (.lst ds) (.lst ds) = true then Res.ok (D.bl true) else .bad) = _
  rw [if_pos (by rw [D.sm, sm_z21 h, beq_self_eq_true]; rfl)]
noncomputable def odd21 : List D := [.non, .bl true, .bl false, .int (-1), .int 1000000000000000001, .str "3", .tup [.int 3], .lst [.int 3], .dic [] [], .int 100000000000000000000000000000000000000000000000000000000000, .int (-100000000000000000000000000000000000000000000000000000000000), .str "", .str "12"]
theorem ok_odd : ∀ d ∈ odd21, ok21 d := by
  intro d hd
  simp only [odd21, List.mem_cons, List.not_mem_nil, or_false] at hd
  rcases hd with rfl | rfl | rfl | rfl | rfl | rfl | rfl | rfl | rfl | rfl | rfl | rfl | rfl
  all_goals first | rfl | exact ok_int _ | (unfold ok21; rw [D.sm, beq_self_eq_true])
theorem ixn21 {n m : Nat} (h : n < m) : ixN m (n : Int) = some n := by
  unfold ixN; rw [if_pos (by omega), if_pos (by omega), Int.toNat_natCast]
theorem set21 {S od : D} {ds ds' Y OD : List D} {k a b m : Int} (c1 : 0 < (ds.length : Int)) (h1 : atD Y (2 + k) = .ok (.int a)) (h2 : atD Y (4 + k) = .ok (.int b)) (en : a % (ds.length : Int) = m) (ho : atD OD b = .ok od) (hs : setAt m od ds = some ds') : exs b_law_made_k21_l2 [some S, some (.lst ds), some (.lst Y), some (.lst OD), some (.int k)] = .nxt [some S, some (.lst ds'), some (.lst Y), some (.lst OD), some (.int k)] := by
  simp_arith [b_law_made_k21_l2, c1, h1, h2, en, ho, setO, hs]
theorem turn21 {S : D} {ds Y : List D} (hl : ds.length ≤ 300) (hok : ∀ d ∈ ds, ok21 d) (k : Nat) {a b : Int} (h1 : atD Y (2 + (k : Int)) = .ok (.int a)) (h2 : atD Y (4 + (k : Int)) = .ok (.int b)) (b0 : 0 ≤ b) (b1 : b < 13) : ∃ ds', ds'.length ≤ 300 ∧ (∀ d ∈ ds', ok21 d) ∧ exs b_law_made_k21_l2 [some S, some (.lst ds), some (.lst Y), some (.lst odd21), some (.int k)] = .nxt [some S, some (.lst ds'), some (.lst Y), some (.lst odd21), some (.int k)] := by
  by_cases c : 0 < ds.length
  · have c1 : (0 : Int) < (ds.length : Int) := by omega
    obtain ⟨n, hn, en⟩ := mod_nat (y := a) c
    obtain ⟨j, rfl⟩ : ∃ j : Nat, b = j := ⟨b.toNat, by omega⟩
    have hj : j < odd21.length := by show j < 13; omega
    have ho := at_D (xs := odd21) (i := j) hj
    have hm := ok_odd _ (List.getElem_mem hj)
    have hs : setAt (n : Int) odd21[j] ds = some (ds.set n odd21[j]) := by unfold setAt; rw [ixn21 hn]; rfl
    refine ⟨ds.set n odd21[j], by rw [List.length_set]; exact hl, fun d hd => ?_, ?_⟩
    · rcases List.mem_or_eq_of_mem_set hd with hd | rfl
      · exact hok d hd
      · exact hm
    · exact set21 c1 h1 h2 en ho hs
  · have c1 : ¬ (0 : Int) < (ds.length : Int) := by omega
    refine ⟨ds, hl, hok, ?_⟩
    generalize odd21 = OD at *
    simp_arith [b_law_made_k21_l2, c1]
theorem evm {R : List D} {S Y : D} {n : Int} (hn : (R.length : Int) = n) : ev (.bin .mul (.bi .len (.cons (.nm 1) .nil)) (.cI 7)) [some S, some (.lst R), some Y, none, none] = .ok (.int (n * 7)) := by
  have hm := b2_mulR n 7 (by decide) (by decide)
  have hl : ev (.bi .len (.cons (.nm 1) .nil)) [some S, some (.lst R), some Y, none, none] = .ok (.int n) := by
    simp_arith [hn]
  rw [ev, hl, Res.bind_ok, ev, Res.bind_ok]
  exact hm
theorem mut_app {x : Nat} {e : E} {δ : Fr} {v : D} {R R' : List D} (he : ev e δ = .ok v) (hx : δ[x]? = some (some (.lst R))) (hap : umD .append [v] R = some R') : ex (.mut x [] .append (.cons e .nil)) δ = .nxt (δ.set x (some (.lst R'))) := by
  have h1 : updP (umD .append [v]) [] (.lst R) = some (.lst R') := by rw [updP, hap]; rfl
  generalize hF : umD .append [v] = F at *
  rw [ex, evP, evs, he, Res.bind_ok, evs, Res.bind_ok]
  dsimp only
  rw [hF]
  unfold upd
  rw [hx]
  dsimp only
  rw [h1]
theorem l1_21 {S Y : D} {R R' : List D} {n : Int} (hn : (R.length : Int) = n) (hap : umD .append [.int (n * 7)] R = some R') : exs b_law_made_k21_l1 [some S, some (.lst R), some Y, none, none] = .nxt [some S, some (.lst R'), some Y, none, none] := by
  have h := mut_app (x := 1) (evm (S := S) (Y := Y) hn) rfl hap
  rw [b_law_made_k21_l1, exs, h, Out.then_nxt, exs]
  rfl
theorem lt_21 {S Y : D} {R : List D} {EM : E} {n m : Int} {b : Bool} (hn : (R.length : Int) = n) (ht : ev EM [some S, some (.lst R), some Y, none, none] = .ok (.int m)) (hb : decide (n < m) = b) : tv (.cmp .lt (.bi .len (.cons (.nm 1) .nil)) EM) [some S, some (.lst R), some Y, none, none] = .ok b := by
  simp_arith [hn, ht, hb]
theorem fill21 {S : D} {Ys : List D} {M : Nat} (hM : M ≤ 300) (ht : ∀ R : List D, ev (.ix (.lst (.cons (.cI 199) (.cons (.cI 200) (.cons (.cI 201) (.cons (.cI 300) .nil))))) (.ixL (.nm 2) (.cI 6))) [some S, some (.lst R), some (.lst Ys), none, none] = .ok (.int M)) {rs : List Int} (hl : rs.length ≤ 60) : ∃ rs' : List Int, rs'.length ≤ 300 ∧ wloop (tv (.cmp .lt (.bi .len (.cons (.nm 1) .nil)) (.ix (.lst (.cons (.cI 199) (.cons (.cI 200) (.cons (.cI 201) (.cons (.cI 300) .nil))))) (.ixL (.nm 2) (.cI 6))))) (exs b_law_made_k21_l1) FU [some S, some (intL rs), some (.lst Ys), none, none] = .nxt [some S, some (intL rs'), some (.lst Ys), none, none] := by
  generalize E.ix (.lst (.cons (.cI 199) (.cons (.cI 200) (.cons (.cI 201) (.cons (.cI 300) .nil))))) (.ixL (.nm 2) (.cI 6)) = EM at *
  obtain ⟨δ', e, rs', hr, rfl⟩ := wloop_ind (c := tv (.cmp .lt (.bi .len (.cons (.nm 1) .nil)) EM)) (b := exs b_law_made_k21_l1) (fun i δ => ∃ rs' : List Int, rs'.length = i ∧ δ = [some S, some (intL rs'), some (.lst Ys), none, none]) (M - rs.length) FU rs.length (δ := [some S, some (intL rs), some (.lst Ys), none, none]) ⟨rs, rfl, rfl⟩ (by
    rintro i δ h2 h3 ⟨rs', hr, rfl⟩
    have hl2 : ((rs'.map D.int).length : Int) = (i : Int) := by rw [List.length_map, hr]
    have hap := app_ok (rs'.map D.int) (.int ((i : Int) * 7)) (by rw [List.length_map]; omega)
    have htt := ht (rs'.map D.int)
    refine ⟨lt_21 hl2 htt (decide_eq_true (by omega)), _, l1_21 hl2 hap, rs' ++ [(i : Int) * 7], by rw [List.length_append, hr]; rfl, ?_⟩
    unfold intL
    rw [List.map_append, List.map_singleton]) (by
    rintro δ ⟨rs', hr, rfl⟩
    have hl2 : ((rs'.map D.int).length : Int) = (rs'.length : Int) := by rw [List.length_map]
    exact lt_21 hl2 (ht (rs'.map D.int)) (decide_eq_false (by omega))) (by unfold FU; omega)
  by_cases c : M ≤ rs.length
  · exact ⟨rs', by omega, e⟩
  · exact ⟨rs', by omega, e⟩
theorem made21 (ns : List Int) : ∃ ds : List D, fn_law_made_k21.den [.lst (ns.map .int)] = .ok (.lst ds) ∧ ds.length ≤ 300 ∧ ∀ d ∈ ds, ok21 d := by
  obtain ⟨rs, hrl, _, hrooms⟩ := den_rooms ns 0 (by decide) 60 (by omega)
  obtain ⟨ys, hrow, hyl, hb⟩ := den_row ns 1 (by decide) [3, 4, 300, 300, 13, 13, 4] (by decide) (by decide)
  have hyl : ys.length = 7 := hyl
  have gy : ∀ i : Nat, i < 7 → ∃ y, atD (ys.map D.int) ((i : Nat) : Int) = .ok (.int y) ∧ ∀ s, [3, 4, 300, 300, 13, 13, (4 : Int)][i]? = some s → 0 ≤ y ∧ y < s := fun i hi => by
    have e : ys[i]? = some ys[i] := List.getElem?_eq_getElem (by omega)
    exact ⟨ys[i], ix_ints e, fun s hs => hb i _ s e hs⟩
  obtain ⟨y0, g0, b0⟩ := gy 0 (by decide)
  obtain ⟨y1, g1, _⟩ := gy 1 (by decide)
  obtain ⟨y6, g6, b6⟩ := gy 6 (by decide)
  have b0 := b0 3 rfl
  have b6 := b6 4 rfl
  have g0 : atD (ys.map D.int) 0 = .ok (.int y0) := g0
  have g1 : atD (ys.map D.int) 1 = .ok (.int y1) := g1
  have g6 : atD (ys.map D.int) 6 = .ok (.int y6) := g6
  obtain ⟨M, hM, hMa⟩ : ∃ M : Nat, M ≤ 300 ∧ atD [.int 199, .int 200, .int 201, .int 300] y6 = .ok (.int M) := by
    have : y6 = 0 ∨ y6 = 1 ∨ y6 = 2 ∨ y6 = 3 := by omega
    rcases this with rfl | rfl | rfl | rfl
    · exact ⟨199, by omega, rfl⟩
    · exact ⟨200, by omega, rfl⟩
    · exact ⟨201, by omega, rfl⟩
    · exact ⟨300, by omega, rfl⟩
  have hEM : ∀ R : List D, ev (.ix (.lst (.cons (.cI 199) (.cons (.cI 200) (.cons (.cI 201) (.cons (.cI 300) .nil))))) (.ixL (.nm 2) (.cI 6))) [some (.lst (ns.map .int)), some (.lst R), some (.lst (ys.map .int)), none, none] = .ok (.int M) := fun R => by
    generalize ys.map D.int = Y at *
    generalize ns.map D.int = NS at *
    simp_arith [g6, hMa]
  obtain ⟨rs', hrl', hW⟩ := fill21 hM hEM hrl
  obtain ⟨qs, hql, hq⟩ : ∃ qs : List Int, qs.length ≤ 300 ∧ ex (.iff (.cmp .eq (.ixL (.nm 2) (.cI 1)) (.cI 0)) (.cons (.wh (.cmp .lt (.bi .len (.cons (.nm 1) .nil)) (.ix (.lst (.cons (.cI 199) (.cons (.cI 200) (.cons (.cI 201) (.cons (.cI 300) .nil))))) (.ixL (.nm 2) (.cI 6)))) b_law_made_k21_l1) .nil) .nil) [some (.lst (ns.map .int)), some (intL rs), some (.lst (ys.map .int)), none, none] = .nxt [some (.lst (ns.map .int)), some (intL qs), some (.lst (ys.map .int)), none, none] := by
    by_cases c : y1 = 0
    · have c : (y1 == 0) = true := beq_iff_eq.mpr c
      refine ⟨rs', hrl', ?_⟩
      generalize (E.cmp .lt (.bi .len (.cons (.nm 1) .nil)) (.ix (.lst (.cons (.cI 199) (.cons (.cI 200) (.cons (.cI 201) (.cons (.cI 300) .nil))))) (.ixL (.nm 2) (.cI 6)))) = C at *
      generalize ys.map D.int = Y at *
      generalize intL rs = R1 at *
      generalize intL rs' = R2 at *
      simp_arith [g1, c, hW]
    · have c : (y1 == 0) = false := beq_eq_false_iff_ne.mpr c
      refine ⟨rs, by omega, ?_⟩
      generalize ys.map D.int = Y at *
      generalize intL rs = R1 at *
      simp_arith [g1, c]
  have okq : ∀ d ∈ qs.map D.int, ok21 d := fun d hd => by
    obtain ⟨x, _, rfl⟩ := List.mem_map.mp hd
    exact ok_int x
  obtain ⟨N, rfl⟩ : ∃ N : Nat, y0 = N := ⟨y0.toNat, by omega⟩
  have hr := itR2_ok (a := 0) (b := (N : Int)) (by omega) (by omega) (by omega) (by omega)
  obtain ⟨δ', e, ds, o4, hdl, hdo, rfl⟩ := floop_ind (tg := .nm 4) (b := exs b_law_made_k21_l2) (fun i δ => ∃ (ds : List D) (o4 : Option D), ds.length ≤ 300 ∧ (∀ d ∈ ds, ok21 d) ∧ δ = [some (.lst (ns.map .int)), some (.lst ds), some (.lst (ys.map .int)), some (.lst odd21), o4]) (ds := rangeD 0 (N : Int)) (δ := [some (.lst (ns.map .int)), some (.lst (qs.map .int)), some (.lst (ys.map .int)), some (.lst odd21), none]) 0 ⟨qs.map .int, none, by rw [List.length_map]; exact hql, okq, rfl⟩ (by
    rintro i d δ hd ⟨ds, o4, hdl, hdo, rfl⟩
    obtain ⟨rfl, hi⟩ := rangeD_get hd
    rw [Int.zero_add]
    obtain ⟨a, ga, _⟩ := gy (2 + i) (by omega)
    obtain ⟨b, gb, bb⟩ := gy (4 + i) (by omega)
    have bb := bb 13 (by
      have : i = 0 ∨ i = 1 := by omega
      rcases this with rfl | rfl <;> rfl)
    rw [show ((2 + i : Nat) : Int) = 2 + (i : Int) by omega] at ga
    rw [show ((4 + i : Nat) : Int) = 4 + (i : Int) by omega] at gb
    obtain ⟨ds', h1, h2, h3⟩ := turn21 (S := .lst (ns.map .int)) hdl hdo i ga gb bb.1 bb.2
    exact ⟨_, _, rfl, h3, ds', some (.int i), h1, h2, rfl⟩)
  refine ⟨ds, (dn_law_made_k21 _ rfl).trans (run_ret ?_), hdl, hdo⟩
  show exs b_law_made_k21 [some (.lst (ns.map .int)), none, none, none, none] = _
  have hrooms : fn_law_rooms_k21.den [.lst (ns.map .int), .int 0, .int 60] = .ok (intL rs) := hrooms
  simp only [List.map] at hrow
  have hodd : ∀ o0 o1 o2 : Option D, ev (.lst (.cons .cN (.cons (.cB true) (.cons (.cB false) (.cons (.neg (.cI 1)) (.cons (.bin .add (.bin .pow (.cI 10) (.cI 18)) (.cI 1)) (.cons (.cS "3") (.cons (.tup (.cons (.cI 3) .nil)) (.cons (.lst (.cons (.cI 3) .nil)) (.cons .dNew (.cons (.bin .pow (.cI 10) (.cI 59)) (.cons (.neg (.bin .pow (.cI 10) (.cI 59))) (.cons (.cS "") (.cons (.cS "12") .nil)))))))))))))) [o0, o1, o2, none, none] = .ok (.lst odd21) := fun o0 o1 o2 => by
    unfold odd21
    simp_arith []
  unfold intL at hq hrooms
  rw [b_law_made_k21]
  generalize hSI : S.iff (.cmp .eq (.ixL (.nm 2) (.cI 1)) (.cI 0)) _ _ = SI at *
  generalize hOE : E.lst (.cons .cN _) = OE at *
  generalize odd21 = OD at *
  generalize rs.map D.int = R1 at *
  generalize qs.map D.int = R2 at *
  generalize ys.map D.int = Y at *
  generalize ns.map D.int = NS at *
  simp_arith [hrooms, hrow, hq, hodd, g0, hr, e]
theorem den_law : ∀ ns : List Int, ns.length ≤ 63 → fn_law_k21.den [.lst (ns.map .int)] = .ok (.bl true) := by
  intro ns _
  obtain ⟨ds, hm, hl, hok⟩ := made21 ns
  have hb := bad21 ds (by omega)
  have hs := sm21 hok
  have d1 : fn_law_bad_k21.dep = 0 := dp_law_bad_k21
  have d2 : fn_law_refused_k21.dep = 0 := dp_law_refused_k21
  have d3 : fn_checked_rooms.dep = 1 := dp_checked_rooms
  have fb : ∀ b : Bool, D.flat 9 0 (.bl b) = true := fun _ => rfl
  refine (dn_law_k21 _ rfl).trans (run_ret ?_)
  show exs b_law_k21 [some (.lst (ns.map .int)), none, none, none, none] = _
  cases h : fb21 0 ds with
  | some i =>
    have hb : fn_law_bad_k21.den [.lst ds] = .ok (.int i) := by rw [hb]; unfold du21; rw [h]
    have hr := ref21 (en0 ds) h
    have fi : D.flat 9 0 (.int (i : Int)) = true := rfl
    have hn : ev (.isN true (.nm 2)) [some (.lst (ns.map .int)), some (.lst ds), some (.int i), some (.lst ds), none] = .ok (.bl true) := rfl
    rw [b_law_k21]
    generalize E.isN true (.nm 2) = EN at *
    generalize ns.map D.int = NS at *
    simp_arith [hm, hb, d1, fi, hn, hr, d2, fb, hs]
  | none =>
    have hb : fn_law_bad_k21.den [.lst ds] = .ok .non := by rw [hb]; unfold du21; rw [h]
    obtain ⟨xs, rfl⟩ := ints21 ds (fb_none ds 0 h)
    have hc := chk_ok21 (en0 _) h
    have fn' : D.flat 9 0 .non = true := rfl
    have fl : D.flat 9 1 (.lst (xs.map D.int)) = true := flat_ints xs 7 0
    have hn : ev (.isN true (.nm 2)) [some (.lst (ns.map .int)), some (.lst (xs.map .int)), some .non, some (.lst (xs.map .int)), none] = .ok (.bl false) := rfl
    have hsh : D.shp 8 (.lst (xs.map D.int)) = true := shp_ints xs 7
    have hne := c2_ne_self _ hsh
    have heq := c2_eq_self _ hsh
    have hap := app_ok (xs.map D.int) (.int 3) (by omega)
    have hM := mut_app (x := 4) (e := .cI 3) (δ := [some (.lst (ns.map .int)), some (.lst (xs.map .int)), some .non, some (.lst (xs.map .int)), some (.lst (xs.map .int))]) (ev_cI 3 _) rfl hap
    have hM : ex (.mut 4 [] .append (.cons (.cI 3) .nil)) [some (.lst (ns.map .int)), some (.lst (xs.map .int)), some .non, some (.lst (xs.map .int)), some (.lst (xs.map .int))] = .nxt [some (.lst (ns.map .int)), some (.lst (xs.map .int)), some .non, some (.lst (xs.map .int)), some (.lst (xs.map .int ++ [.int 3]))] := hM
    rw [b_law_k21]
    generalize E.isN true (.nm 2) = EN at *
    generalize S.mut 4 [] .append (.cons (.cI 3) .nil) = MS at *
    generalize ns.map D.int = NS at *
    generalize xs.map D.int = XS at *
    generalize XS ++ [.int 3] = XT at *
    simp_arith [hm, hb, d1, fn', hn, hc, d3, fl, hne, heq, hM, hs]
end Pu
end
namespace Pu
open PySem PySem.Spec PyProof.Rows PySem.W L2
noncomputable def top (i : Nat) : Stmt := PySem.Challenge.pw_ullage_k21_checked_rooms.main.body.getD i (.Pass ⟨0, 0, 0, 0⟩)
theorem ck_is_whole : dfB ["thing"] ["thing"] (top 7) b_is_whole 9 = true := by decide +kernel
theorem ck_is_between : dfB ["thing", "least", "most"] ["thing", "least", "most"] (top 8) b_is_between 9 = true := by decide +kernel
theorem ck_is_room : dfB ["thing"] ["thing"] (top 11) b_is_room 9 = true := by decide +kernel
theorem ck_checked_rooms : dfB ["rooms", "at", "room"] ["rooms"] (top 12) b_checked_rooms 1 = true := by decide +kernel
theorem ck_law_cell : dfB ["_law_script", "_law_place", "_law_seed", "_law_cell_here"] ["_law_script", "_law_place"] (top 14) b_law_cell 0 = true := by decide +kernel
theorem ck_law_mix_k11 : dfB ["_law_cell_here", "_law_k", "_law_one", "_law_two"] ["_law_cell_here", "_law_k"] (top 15) b_law_mix_k11 1 = true := by decide +kernel
theorem ck_law_row_k11 : dfB ["_law_script", "_law_place", "_law_sizes", "_law_cell_here", "_law_left", "_law_some", "_law_k", "_law_other"] ["_law_script", "_law_place", "_law_sizes"] (top 16) b_law_row_k11 2 = true := by decide +kernel
theorem ck_law_rooms_k21 : dfB ["_law_script", "_law_place", "_law_most", "_law_some", "_law_scale", "_law_rooms_here", "_law_k", "_law_here"] ["_law_script", "_law_place", "_law_most"] (top 17) b_law_rooms_k21 2 = true := by decide +kernel
theorem ck_law_whole : dfB ["_law_thing"] ["_law_thing"] (top 18) b_law_whole 9 = true := by decide +kernel
theorem ck0_law_whole : dfH ["_law_thing"] ["_law_thing"] (top 18) b_law_whole 9 = true := by decide +kernel
theorem ck_law_bad_k21 : dfB ["_law_rooms_here", "_law_at", "_law_one"] ["_law_rooms_here"] (top 19) b_law_bad_k21 0 = true := by decide +kernel
theorem ck_law_refused_k21 : dfB ["_law_rooms_here", "_law_due", "e", "_law_fine"] ["_law_rooms_here", "_law_due"] (top 20) b_law_refused_k21 0 = true := by decide +kernel
theorem ck_law_made_k21 : dfB ["_law_script", "_law_rooms_here", "_law_some", "_law_odd", "_law_k"] ["_law_script"] (top 21) b_law_made_k21 1 = true := by decide +kernel
theorem ck_law_k21 : dfB ["_law_script", "_law_rooms_here", "_law_due", "_law_handed", "_law_found"] ["_law_script"] (top 22) b_law_k21 0 = true := by decide +kernel
set_option maxHeartbeats 0 in
theorem all_mk {l : PySem.W.OpenLaw} {w : World} {K : PySem.W.Frag} {h : Heap} {mg : Str → Option Value} {fa : Addr} {C0 C3 C4 C5 C6 : Addr} {dd4 : Option Addr} {cd4 : ClassData} {sl4 : Array (Option Value)} {gv0 : Value} (X : K.In h) (G : h.Ns mainGlobals mg) (hfa : mg "law" = some (.ref fa)) (t0 : TopF K "is_whole" (top 7)) (t1 : TopF K "is_between" (top 8)) (t2 : TopF K "is_room" (top 11)) (t3 : TopF K "checked_rooms" (top 12)) (t4 : TopF K "_law_cell" (top 14)) (t5 : TopF K "_law_mix" (top 15)) (t6 : TopF K "_law_row" (top 16)) (t7 : TopF K "_law_rooms" (top 17)) (t8 : TopF K "_law_whole" (top 18)) (t9 : TopF K "_law_bad" (top 19)) (t10 : TopF K "_law_refused" (top 20)) (t11 : TopF K "_law_made" (top 21)) (t12 : TopF K "law" (top 22)) (n_len : nsIn K mainGlobals "len" = some none) (n_min : nsIn K mainGlobals "min" = some none) (n_max : nsIn K mainGlobals "max" = some none) (n_abs : nsIn K mainGlobals "abs" = some none) (n_int : nsIn K mainGlobals "int" = some none) (n_list : nsIn K mainGlobals "list" = some none) (n_tuple : nsIn K mainGlobals "tuple" = some none) (n_all : nsIn K mainGlobals "all" = some none) (n_any : nsIn K mainGlobals "any" = some none) (n_sum : nsIn K mainGlobals "sum" = some none) (n_sorted : nsIn K mainGlobals "sorted" = some none) (n_isinstance : nsIn K mainGlobals "isinstance" = some none) (n_str : nsIn K mainGlobals "str" = some none) (n_range : nsIn K mainGlobals "range" = some none) (n_enumerate : nsIn K mainGlobals "enumerate" = some none) (n_zip : nsIn K mainGlobals "zip" = some none) (n_reversed : nsIn K mainGlobals "reversed" = some none) (n_bool : nsIn K mainGlobals "bool" = some none) (n_dict : nsIn K mainGlobals "dict" = some none) (n_ValueError : nsIn K mainGlobals "ValueError" = some none) (c0 : ClsF K "RoomError" C0) (c3 : ClsF K "NoPage" C3) (c4 : ClsF K "NotRooms" C4) (c5 : ClsF K "NotATree" C5) (c6 : ClsF K "BadRoom" C6) (e0 : excIn K C0 bmVE "ValueError.__new__" = true) (kp4 : keepIn K (.ref C4) = true) (xl : K.lookup C4 = some ⟨.type "type", dd4, .cls cd4, sl4⟩) (xm : xcB C4 C0 cd4 sl4 = true) (xo2 : findIn K (.ref C4) "__setattr__" = some (some (.builtin "object.__setattr__"))) (xo3 : findIn K (.ref C4) "at" = some none) (mi : MthF K "NotRooms.__init__" C4 (mthOf (top 3))) (y0_0 : kitOne K (.ref C0) (.ref C0) = some true) (y0_3 : kitOne K (.ref C0) (.ref C3) = some false) (y0_4 : kitOne K (.ref C0) (.ref C4) = some false) (y0_5 : kitOne K (.ref C0) (.ref C5) = some false) (y0_6 : kitOne K (.ref C0) (.ref C6) = some false) (y3_0 : kitOne K (.ref C3) (.ref C0) = some true) (y3_3 : kitOne K (.ref C3) (.ref C3) = some true) (y3_4 : kitOne K (.ref C3) (.ref C4) = some false) (y3_5 : kitOne K (.ref C3) (.ref C5) = some false) (y3_6 : kitOne K (.ref C3) (.ref C6) = some false) (y4_0 : kitOne K (.ref C4) (.ref C0) = some true) (y4_3 : kitOne K (.ref C4) (.ref C3) = some false) (y4_4 : kitOne K (.ref C4) (.ref C4) = some true) (y4_5 : kitOne K (.ref C4) (.ref C5) = some false) (y4_6 : kitOne K (.ref C4) (.ref C6) = some false) (y5_0 : kitOne K (.ref C5) (.ref C0) = some true) (y5_3 : kitOne K (.ref C5) (.ref C3) = some false) (y5_4 : kitOne K (.ref C5) (.ref C4) = some false) (y5_5 : kitOne K (.ref C5) (.ref C5) = some true) (y5_6 : kitOne K (.ref C5) (.ref C6) = some false) (y6_0 : kitOne K (.ref C6) (.ref C0) = some true) (y6_3 : kitOne K (.ref C6) (.ref C3) = some false) (y6_4 : kitOne K (.ref C6) (.ref C4) = some false) (y6_5 : kitOne K (.ref C6) (.ref C5) = some false) (y6_6 : kitOne K (.ref C6) (.ref C6) = some true) (gq0 : PySem.W.nsIn K mainGlobals "MOST_PAGES" = some (some gv0)) (rq0 : RelV (dT (.int 200)).val gv0) (nl : noL K = true)
    (hden : ∀ ns : List Int, ns.length ≤ 63 → fn_law_k21.den [.lst (ns.map .int)] = .ok (.bl true)) :
    ∃ fd : FuncData, (∀ (s : Shared) (v : Value), BindsTo s fd ⟨[v], []⟩ [("_law_script", v)]) ∧ ∀ base : Heap, K.In base → base.Ns mainGlobals mg → FnOk l.prog w K mg base (CXe l.prog w) 6 fa fd ["_law_script"] (spL K) := by
  have O : ∀ base : Heap, Lw.Ok ⟨⟨K, clA [(0, C0), (3, C3), (4, C4), (5, C5), (6, C6)], hasA [(0, C0), (3, C3), (4, C4), (5, C5), (6, C6)]⟩, l.prog, w, mg, base⟩ := fun base => ok_of rfl X G ⟨n_len, n_min, n_max, n_abs, n_int, n_list, n_tuple, n_all, n_any, n_sum, n_sorted, n_isinstance, n_str, n_range, n_enumerate, n_zip, n_reversed, n_bool, n_dict, n_ValueError, trivial⟩ ⟨c0, c3, c4, c5, c6, trivial⟩ ⟨⟨y0_0, y0_3, y0_4, y0_5, y0_6, trivial⟩, ⟨y3_0, y3_3, y3_4, y3_5, y3_6, trivial⟩, ⟨y4_0, y4_3, y4_4, y4_5, y4_6, trivial⟩, ⟨y5_0, y5_3, y5_4, y5_5, y5_6, trivial⟩, ⟨y6_0, y6_3, y6_4, y6_5, y6_6, trivial⟩, trivial⟩
  refine law_top (cs := [(0, C0), (3, C3), (4, C4), (5, C5), (6, C6)]) (lv := 5) X G hfa t12 ck_law_k21 (fun _ _ _ _ _ _ s v => .of_eq rfl) O (fun base => ?_) nl hden
  have rs0 := (⟨rfl, c0.q, e0⟩ : NeedG ⟨⟨K, clA [(0, C0), (3, C3), (4, C4), (5, C5), (6, C6)], hasA [(0, C0), (3, C3), (4, C4), (5, C5), (6, C6)]⟩, l.prog, w, mg, base⟩ 0 (.rs 0))
  have cl0 := (⟨rfl, PySem.W.mg_of X G c0.q⟩ : NeedG ⟨⟨K, clA [(0, C0), (3, C3), (4, C4), (5, C5), (6, C6)], hasA [(0, C0), (3, C3), (4, C4), (5, C5), (6, C6)]⟩, l.prog, w, mg, base⟩ 0 (.cl 0))
  have cl3 := (⟨rfl, PySem.W.mg_of X G c3.q⟩ : NeedG ⟨⟨K, clA [(0, C0), (3, C3), (4, C4), (5, C5), (6, C6)], hasA [(0, C0), (3, C3), (4, C4), (5, C5), (6, C6)]⟩, l.prog, w, mg, base⟩ 0 (.cl 3))
  have cl4 := (⟨rfl, PySem.W.mg_of X G c4.q⟩ : NeedG ⟨⟨K, clA [(0, C0), (3, C3), (4, C4), (5, C5), (6, C6)], hasA [(0, C0), (3, C3), (4, C4), (5, C5), (6, C6)]⟩, l.prog, w, mg, base⟩ 0 (.cl 4))
  have cl5 := (⟨rfl, PySem.W.mg_of X G c5.q⟩ : NeedG ⟨⟨K, clA [(0, C0), (3, C3), (4, C4), (5, C5), (6, C6)], hasA [(0, C0), (3, C3), (4, C4), (5, C5), (6, C6)]⟩, l.prog, w, mg, base⟩ 0 (.cl 5))
  have cl6 := (⟨rfl, PySem.W.mg_of X G c6.q⟩ : NeedG ⟨⟨K, clA [(0, C0), (3, C3), (4, C4), (5, C5), (6, C6)], hasA [(0, C0), (3, C3), (4, C4), (5, C5), (6, C6)]⟩, l.prog, w, mg, base⟩ 0 (.cl 6))
  have ax := (⟨rfl, ⟨C0, dd4, cd4, sl4, xl, xm, e0⟩, xo2, xo3⟩ : NeedG ⟨⟨K, clA [(0, C0), (3, C3), (4, C4), (5, C5), (6, C6)], hasA [(0, C0), (3, C3), (4, C4), (5, C5), (6, C6)]⟩, l.prog, w, mg, base⟩ 0 .ax)
  have mao := fun (lv : Nat) (hlv : 2 ≤ lv) => (⟨hlv, rfl, PySem.W.mg_of X G c4.q, kp4, ⟨⟨C0, dd4, cd4, sl4, xl, xm, e0⟩, xo2, xo3⟩, ma_of (L := ⟨⟨K, clA [(0, C0), (3, C3), (4, C4), (5, C5), (6, C6)], hasA [(0, C0), (3, C3), (4, C4), (5, C5), (6, C6)]⟩, l.prog, w, mg, base⟩) mi (fun _ _ _ _ _ _ => ba2 fun _ _ => rfl) (by decide +kernel) ⟨⟨C0, dd4, cd4, sl4, xl, xm, e0⟩, xo2, xo3⟩⟩ : NeedG ⟨⟨K, clA [(0, C0), (3, C3), (4, C4), (5, C5), (6, C6)], hasA [(0, C0), (3, C3), (4, C4), (5, C5), (6, C6)]⟩, l.prog, w, mg, base⟩ lv .ma)
  have gl0 := (⟨_, PySem.W.mg_of X G gq0, rq0⟩ : NeedG ⟨⟨K, clA [(0, C0), (3, C3), (4, C4), (5, C5), (6, C6)], hasA [(0, C0), (3, C3), (4, C4), (5, C5), (6, C6)]⟩, l.prog, w, mg, base⟩ 0 (.gl "MOST_PAGES" (.int 200)))
  have h_is_whole := has_of (lv := 0) (O base) (df_top X G t0 fun _ _ _ _ _ _ => ba1 fun _ => rfl) ck_is_whole trivial
  have h_is_between := has_of (lv := 1) (O base) (df_top X G t1 fun _ _ _ _ _ _ => ba3 fun _ _ _ => rfl) ck_is_between ⟨⟨by decide, h_is_whole⟩, trivial⟩
  have h_is_room := has_of (lv := 2) (O base) (df_top X G t2 fun _ _ _ _ _ _ => ba1 fun _ => rfl) ck_is_room ⟨⟨by decide, h_is_between⟩, trivial⟩
  have h_checked_rooms := has_of (lv := 3) (O base) (df_top X G t3 fun _ _ _ _ _ _ => ba1 fun _ => rfl) ck_checked_rooms ⟨gl0, ⟨by decide, h_is_room⟩, mao _ (by decide), trivial⟩
  have h_law_cell := has_of (lv := 0) (O base) (df_top X G t4 fun _ _ _ _ _ _ => ba2 fun _ _ => rfl) ck_law_cell trivial
  have h_law_mix_k11 := has_of (lv := 0) (O base) (df_top X G t5 fun _ _ _ _ _ _ => ba2 fun _ _ => rfl) ck_law_mix_k11 trivial
  have h_law_row_k11 := has_of (lv := 1) (O base) (df_top X G t6 fun _ _ _ _ _ _ => ba3 fun _ _ _ => rfl) ck_law_row_k11 ⟨⟨by decide, h_law_cell⟩, ⟨by decide, h_law_mix_k11⟩, ⟨by decide, h_law_cell⟩, ⟨by decide, h_law_mix_k11⟩, trivial⟩
  have h_law_rooms_k21 := has_of (lv := 2) (O base) (df_top X G t7 fun _ _ _ _ _ _ => ba3 fun _ _ _ => rfl) ck_law_rooms_k21 ⟨⟨by decide, h_law_row_k11⟩, trivial⟩
  have h_law_whole := has_of (lv := 0) (O base) (df_top X G t8 fun _ _ _ _ _ _ => ba1 fun _ => rfl) ck_law_whole trivial
  have h0_law_whole := has_ofH (lv := 0) (O base) (df_top X G t8 fun _ _ _ _ _ _ => ba1 fun _ => rfl) ck0_law_whole trivial
  have h_law_bad_k21 := has_of (lv := 1) (O base) (df_top X G t9 fun _ _ _ _ _ _ => ba1 fun _ => rfl) ck_law_bad_k21 ⟨⟨by decide, h_law_whole⟩, trivial⟩
  have h_law_refused_k21 := has_of (lv := 4) (O base) (df_top X G t10 fun _ _ _ _ _ _ => ba2 fun _ _ => rfl) ck_law_refused_k21 ⟨cl4, ⟨by decide, h_checked_rooms⟩, cl0, cl6, cl3, cl5, ⟨by decide, h0_law_whole⟩, ax, ax, trivial⟩
  have h_law_made_k21 := has_of (lv := 3) (O base) (df_top X G t11 fun _ _ _ _ _ _ => ba1 fun _ => rfl) ck_law_made_k21 ⟨⟨by decide, h_law_rooms_k21⟩, ⟨by decide, h_law_row_k11⟩, trivial⟩
  exact ⟨⟨by decide, h_law_made_k21⟩, ⟨by decide, h_law_bad_k21⟩, ⟨by decide, h_law_refused_k21⟩, ⟨by decide, h_law_refused_k21⟩, ⟨by decide, h_checked_rooms⟩, ⟨by decide, h_checked_rooms⟩, trivial⟩
end Pu
open PySem PySem.W PyProof.Rows
noncomputable def PySem.W.Fast.tw9223373732946629468 : Nat := 0
noncomputable def PySem.W.Fast.tw5489541489646417450 : Nat := 0
noncomputable def PySem.W.Fast.tw2547841411935832042 : Nat := 0
noncomputable def PySem.W.Fast.tw11384232582586277819 : Nat := 0
noncomputable def PySem.W.Fast.tw1334054628917606575 : Nat := 0
noncomputable def PySem.W.Fast.tw1978733223984311231 : Nat := 0
noncomputable def PySem.W.Fast.tw4960451766138675974 : Nat := 0
noncomputable def PySem.W.Fast.tw6460633989515485643 : Nat := 0
noncomputable def PySem.W.Fast.tw1432523654675284880 : Nat := 0
noncomputable def PySem.W.Fast.tw13423801530625144599 : Nat := 0
noncomputable def PySem.W.Fast.tw9351187456569802369 : Nat := 0
noncomputable def PySem.W.Fast.tw11853398733421766086 : Nat := 0
noncomputable def PySem.W.Fast.tw9806461991065779772 : Nat := 0
noncomputable def PySem.W.Fast.tw18093224389877857472 : Nat := 0
noncomputable def PySem.W.Fast.tw10114014744786181568 : Nat := 0
noncomputable def PySem.W.Fast.tw2693289811542001587 : Nat := 0
noncomputable def PySem.W.Fast.tw8592190396836920521 : Nat := 0
noncomputable def PySem.W.Fast.tw17784197279885575758 : Nat := 0
noncomputable def PySem.W.Fast.tw780580787636801104 : Nat := 0
noncomputable def PySem.W.Fast.tw13230501301303030132 : Nat := 0
noncomputable def PySem.W.Fast.tw9899284587495974512 : Nat := 0
noncomputable def PySem.W.Fast.tw15769145167055604205 : Nat := 0
noncomputable def PySem.W.Fast.tw9425274974743086419 : Nat := 0
noncomputable def PySem.W.Fast.tw12493138968390954532 : Nat := 0
noncomputable def PySem.W.Fast.tw11781777678655193404 : Nat := 0
noncomputable def PySem.W.Fast.tw10952270049999475 : Nat := 0
noncomputable def PySem.W.Fast.tw15991615644408817105 : Nat := 0
noncomputable def PySem.W.Fast.tw8189577144402395223 : Nat := 0
noncomputable def PySem.W.Fast.tw14294106012727947129 : Nat := 0
noncomputable def PySem.W.Fast.tw6552870504911421177 : Nat := 0
noncomputable def PySem.W.Fast.tw4146975248508849011 : Nat := 0
noncomputable def PySem.W.Fast.tw11226459766715307173 : Nat := 0
noncomputable def PySem.W.Fast.tw7081415508615940336 : Nat := 0
noncomputable def PySem.W.Fast.tw8677129794099038030 : Nat := 0
noncomputable def PySem.W.Fast.tw13673483631293101308 : Nat := 0
noncomputable def PySem.W.Fast.tw18150715299324259845 : Nat := 0
noncomputable def PySem.W.Fast.tw765178717416028269 : Nat := 0
noncomputable def PySem.W.Fast.tw9691989046927315604 : Nat := 0
noncomputable def PySem.W.Fast.tw5179384283757296725 : Nat := 0
noncomputable def PySem.W.Fast.tw17890291915438900178 : Nat := 0
noncomputable def PySem.W.Fast.tw6139601103060453073 : Nat := 0
noncomputable def PySem.W.Fast.tw1510681207898455322 : Nat := 0
noncomputable def PySem.W.Fast.tw9189874732061621305 : Nat := 0
noncomputable def PySem.W.Fast.tw6528090164819819695 : Nat := 0
noncomputable def PySem.W.Fast.tw12617423091240510866 : Nat := 0
noncomputable def PySem.W.Fast.tw12418585586279402138 : Nat := 0
noncomputable def PySem.W.Fast.tw10385128200365932179 : Nat := 0
noncomputable def PySem.W.Fast.tw17641314582137557287 : Nat := 0
noncomputable def PySem.W.Fast.tw17210585278293954810 : Nat := 0
noncomputable def PySem.W.Fast.tw8705163611797572606 : Nat := 0
noncomputable def PySem.W.Fast.tw13089988011083780343 : Nat := 0
noncomputable def PySem.W.Fast.tw13503464122547005535 : Nat := 0
noncomputable def PySem.W.Fast.tw6647384578865249164 : Nat := 0
noncomputable def PySem.W.Fast.tw13300375217475133265 : Nat := 0
noncomputable def PySem.W.Fast.tw7316456513272215826 : Nat := 0
noncomputable def PySem.W.Fast.tw700861831214151801 : Nat := 0
noncomputable def PySem.W.Fast.tw5925776258656231591 : Nat := 0
noncomputable def PySem.W.Fast.tw13907707225523222609 : Nat := 0
noncomputable def PySem.W.Fast.tw4972338599651944162 : Nat := 0
noncomputable def PySem.W.Fast.tw4199299770564353761 : Nat := 0
noncomputable def PySem.W.Fast.tw8716126575722923646 : Nat := 0
noncomputable def PySem.W.Fast.tw7671163696610185803 : Nat := 0
noncomputable def PySem.W.Fast.tw14160252169222181214 : Nat := 0
noncomputable def PySem.W.Fast.tw1566675420027829896 : Nat := 0
noncomputable def PySem.W.Fast.tw3565143385935655518 : Nat := 0
noncomputable def PySem.W.Fast.tw18390177504778099811 : Nat := 0
noncomputable def PySem.W.Fast.tw14822140732028643599 : Nat := 0
noncomputable def PySem.W.Fast.tw878216727566763305 : Nat := 0
noncomputable def PySem.W.Fast.tw6120458290592089705 : Nat := 0
noncomputable def PySem.W.Fast.tw17448528304898427531 : Nat := 0
noncomputable def PySem.W.Fast.tw6630698570962138599 : Nat := 0
set_option maxRecDepth 100000 in
set_option maxHeartbeats 0 in
theorem PySem.Challenge.cw_ullage_k21_checked_rooms_holds : PySem.Challenge.rw_ullage_k21_checked_rooms.Holds := by
  w_on; o_law; k_head; (case hw => w_witness2)
  k_fill
  refine Pu.walkP (l := PySem.Challenge.rw_ullage_k21_checked_rooms) (k := 6) (x := "_law_script") rfl rfl ⟨rfl, by decide, by decide⟩ (fun w h Y => PySem.W.kIn_of Y) ?F
  case F =>
    intro w mg fa h KX G hmg
    refine' Pu.all_mk KX G hmg ?t0 ?t1 ?t2 ?t3 ?t4 ?t5 ?t6 ?t7 ?t8 ?t9 ?t10 ?t11 ?t12 ?n_len ?n_min ?n_max ?n_abs ?n_int ?n_list ?n_tuple ?n_all ?n_any ?n_sum ?n_sorted ?n_isinstance ?n_str ?n_range ?n_enumerate ?n_zip ?n_reversed ?n_bool ?n_dict ?n_ValueError ?c0 ?c3 ?c4 ?c5 ?c6 ?e0 ?kp4 ?xl ?xm ?xo2 ?xo3 ?mi ?y0_0 ?y0_3 ?y0_4 ?y0_5 ?y0_6 ?y3_0 ?y3_3 ?y3_4 ?y3_5 ?y3_6 ?y4_0 ?y4_3 ?y4_4 ?y4_5 ?y4_6 ?y5_0 ?y5_3 ?y5_4 ?y5_5 ?y5_6 ?y6_0 ?y6_3 ?y6_4 ?y6_5 ?y6_6 ?gq0 ?rq0 ?nl Pu.den_law
    (case t0 => refine' Pu.topF ?za ?zl ?zc ?zk; (case za => k_is); (case zl => k_is); (case zc => k_is); (case zk => k_is))
    (case t1 => refine' Pu.topF ?za ?zl ?zc ?zk; (case za => k_is); (case zl => k_is); (case zc => k_is); (case zk => k_is))
    (case t2 => refine' Pu.topF ?za ?zl ?zc ?zk; (case za => k_is); (case zl => k_is); (case zc => k_is); (case zk => k_is))
    (case t3 => refine' Pu.topF ?za ?zl ?zc ?zk; (case za => k_is); (case zl => k_is); (case zc => k_is); (case zk => k_is))
    (case t4 => refine' Pu.topF ?za ?zl ?zc ?zk; (case za => k_is); (case zl => k_is); (case zc => k_is); (case zk => k_is))
    (case t5 => refine' Pu.topF ?za ?zl ?zc ?zk; (case za => k_is); (case zl => k_is); (case zc => k_is); (case zk => k_is))
    (case t6 => refine' Pu.topF ?za ?zl ?zc ?zk; (case za => k_is); (case zl => k_is); (case zc => k_is); (case zk => k_is))
    (case t7 => refine' Pu.topF ?za ?zl ?zc ?zk; (case za => k_is); (case zl => k_is); (case zc => k_is); (case zk => k_is))
    (case t8 => refine' Pu.topF ?za ?zl ?zc ?zk; (case za => k_is); (case zl => k_is); (case zc => k_is); (case zk => k_is))
    (case t9 => refine' Pu.topF ?za ?zl ?zc ?zk; (case za => k_is); (case zl => k_is); (case zc => k_is); (case zk => k_is))
    (case t10 => refine' Pu.topF ?za ?zl ?zc ?zk; (case za => k_is); (case zl => k_is); (case zc => k_is); (case zk => k_is))
    (case t11 => refine' Pu.topF ?za ?zl ?zc ?zk; (case za => k_is); (case zl => k_is); (case zc => k_is); (case zk => k_is))
    (case t12 => refine' Pu.topF ?za ?zl ?zc ?zk; (case za => k_is); (case zl => k_is); (case zc => k_is); (case zk => k_is))
    (case n_len => k_is)
    (case n_min => k_is)
    (case n_max => k_is)
    (case n_abs => k_is)
    (case n_int => k_is)
    (case n_list => k_is)
    (case n_tuple => k_is)
    (case n_all => k_is)
    (case n_any => k_is)
    (case n_sum => k_is)
    (case n_sorted => k_is)
    (case n_isinstance => k_is)
    (case n_str => k_is)
    (case n_range => k_is)
    (case n_enumerate => k_is)
    (case n_zip => k_is)
    (case n_reversed => k_is)
    (case n_bool => k_is)
    (case n_dict => k_is)
    (case n_ValueError => k_is)
    (case c0 => refine' Pu.clsF ?zq ?zx1 ?zx2 ?zx3 ?zx4 ?zx5 ?zx6 ?zx7 ?zt1 ?zt2 ?zt3 ?zt4 ?zt5 ?zt6 ?zv ?zs; (case zq => k_is); (case zx1 => k_is); (case zx2 => k_is); (case zx3 => k_is); (case zx4 => k_is); (case zx5 => k_is); (case zx6 => k_is); (case zx7 => k_is); (case zt1 => kit_is); (case zt2 => kit_is); (case zt3 => kit_is); (case zt4 => kit_is); (case zt5 => kit_is); (case zt6 => kit_is); (case zv => kit_is); (case zs => k_is))
    (case c3 => refine' Pu.clsF ?zq ?zx1 ?zx2 ?zx3 ?zx4 ?zx5 ?zx6 ?zx7 ?zt1 ?zt2 ?zt3 ?zt4 ?zt5 ?zt6 ?zv ?zs; (case zq => k_is); (case zx1 => k_is); (case zx2 => k_is); (case zx3 => k_is); (case zx4 => k_is); (case zx5 => k_is); (case zx6 => k_is); (case zx7 => k_is); (case zt1 => kit_is); (case zt2 => kit_is); (case zt3 => kit_is); (case zt4 => kit_is); (case zt5 => kit_is); (case zt6 => kit_is); (case zv => kit_is); (case zs => k_is))
    (case c4 => refine' Pu.clsF ?zq ?zx1 ?zx2 ?zx3 ?zx4 ?zx5 ?zx6 ?zx7 ?zt1 ?zt2 ?zt3 ?zt4 ?zt5 ?zt6 ?zv ?zs; (case zq => k_is); (case zx1 => k_is); (case zx2 => k_is); (case zx3 => k_is); (case zx4 => k_is); (case zx5 => k_is); (case zx6 => k_is); (case zx7 => k_is); (case zt1 => kit_is); (case zt2 => kit_is); (case zt3 => kit_is); (case zt4 => kit_is); (case zt5 => kit_is); (case zt6 => kit_is); (case zv => kit_is); (case zs => k_is))
    (case c5 => refine' Pu.clsF ?zq ?zx1 ?zx2 ?zx3 ?zx4 ?zx5 ?zx6 ?zx7 ?zt1 ?zt2 ?zt3 ?zt4 ?zt5 ?zt6 ?zv ?zs; (case zq => k_is); (case zx1 => k_is); (case zx2 => k_is); (case zx3 => k_is); (case zx4 => k_is); (case zx5 => k_is); (case zx6 => k_is); (case zx7 => k_is); (case zt1 => kit_is); (case zt2 => kit_is); (case zt3 => kit_is); (case zt4 => kit_is); (case zt5 => kit_is); (case zt6 => kit_is); (case zv => kit_is); (case zs => k_is))
    (case c6 => refine' Pu.clsF ?zq ?zx1 ?zx2 ?zx3 ?zx4 ?zx5 ?zx6 ?zx7 ?zt1 ?zt2 ?zt3 ?zt4 ?zt5 ?zt6 ?zv ?zs; (case zq => k_is); (case zx1 => k_is); (case zx2 => k_is); (case zx3 => k_is); (case zx4 => k_is); (case zx5 => k_is); (case zx6 => k_is); (case zx7 => k_is); (case zt1 => kit_is); (case zt2 => kit_is); (case zt3 => kit_is); (case zt4 => kit_is); (case zt5 => kit_is); (case zt6 => kit_is); (case zv => kit_is); (case zs => k_is))
    (case e0 => k_exc)
    (case kp4 => k_is)
    (case xl => k_is)
    (case xm => exact rfl)
    (case xo2 => k_is)
    (case xo3 => k_is)
    (case mi => refine' Pu.mthF ?za ?zb ?zl ?zc ?zk; (case za => k_is); (case zb => k_is); (case zl => k_is); (case zc => k_is); (case zk => k_is))
    (case y0_0 => kit_is)
    (case y0_3 => kit_is)
    (case y0_4 => kit_is)
    (case y0_5 => kit_is)
    (case y0_6 => kit_is)
    (case y3_0 => kit_is)
    (case y3_3 => kit_is)
    (case y3_4 => kit_is)
    (case y3_5 => kit_is)
    (case y3_6 => kit_is)
    (case y4_0 => kit_is)
    (case y4_3 => kit_is)
    (case y4_4 => kit_is)
    (case y4_5 => kit_is)
    (case y4_6 => kit_is)
    (case y5_0 => kit_is)
    (case y5_3 => kit_is)
    (case y5_4 => kit_is)
    (case y5_5 => kit_is)
    (case y5_6 => kit_is)
    (case y6_0 => kit_is)
    (case y6_3 => kit_is)
    (case y6_4 => kit_is)
    (case y6_5 => kit_is)
    (case y6_6 => kit_is)
    (case gq0 => k_is)
    (case rq0 => first | exact rfl | exact ⟨_, rfl⟩)
    (case nl => exact rfl)

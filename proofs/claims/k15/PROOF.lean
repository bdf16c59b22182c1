import PyProof.Rows.All
import Wide.All
import OpenK.AllK
import Wide.FinOn
import HandS.ForMost
import HandS.Exc
import HandS.Property
import HandS.ClsMeth
import HandS.Evl
import HandS.IsInst
import HandS.Zip
import HandS.Star
import HandS.TupAny
import HandS.Conv
import HandS.Walk
import HandS.SetFor
import HandS.Strs
import KE.GoesEnum
import HandS.Gcd
import KE.KMathGC
import KE.KDictZip
import KE.GoesMore
import KE.GoesZip
import KE.KDictKeyed
import HandS.NoneIn
import HandS.Dict
import HandS.SetKeys
import HandS.More
import PyProof.TupleOfSeq
import HandS.ExcOwn
import HandS.TryMany
import HandS.WordsExc
import KE.KExcInit
import KE.SortData
import HandS.Iter
import PySem.Challenge.RW_bentlines_k15_place_exactly_if_no_three
set_option Elab.async false
set_option linter.all false
set_option maxRecDepth 100000
set_option maxHeartbeats 4000000
/-! Bl: what a pure expression, test, statement of the program is worth, told over data (D), the heap apart. -/
namespace Bl
open PySem PySem.Spec PyProof.Rows L2
/-! ### data -/
inductive D where
  | non | bl (b : Bool) | int (i : Int) | str (x : Str) | ty (n : String)
  | tup (l : List D) | tupN (l : List D) | lst (l : List D) | par (l : List D) | lstV (l : List D)
  | ins (C : Addr) (fs : List (Str × D))
  | dT (kvs : List (List Key × D))
def ExS (S : List Addr) (H H' : Hp) : Prop := ∀ a o, a ∉ S → H a = some o → H' a = some o
theorem ExS.refl (S : List Addr) (H : Hp) : ExS S H H := fun _ _ _ h => h
theorem ExS.trans {S : List Addr} {H H1 H2 : Hp} (a : ExS S H H1) (b : ExS S H1 H2) : ExS S H H2 := fun x o n h => b x o n (a x o n h)
theorem ExS.of {S : List Addr} {H H' : Hp} (e : Evl.Ex H H') : ExS S H H' := fun a o _ h => e a o h
/-- the tuple at a as data may lean on it: not one of the mutable ones (S): a key of dicts may be it -/
def TupA (S : List Addr) (H : Hp) (a : Addr) (xs : List V) : Prop := a ∉ S ∧ H a = some (.tup xs)
/-- a tuple that is known to have no dict of its own (its type's methods are found), or one of the written part -/
def TupN (K : PySem.W.Frag) (S : List Addr) (H : Hp) (a : Addr) (xs : List V) : Prop :=
  (a ∉ S ∧ ∃ o : Obj, o.dict = none ∧ H a = some (.frz o (.tup xs))) ∨
    ∃ (o : Obj) (its : Array Value) (n : Nat), o.dict = none ∧ K.lookup a = some o ∧ o.cls = .type "tuple" ∧ o.data = .seq its n ∧ its.size ≤ sizeLine ∧ Vals xs its.toList
def LstA (K : PySem.W.Frag) (S : List Addr) (H : Hp) (a : Addr) (xs : List V) : Prop :=
  (a ∉ S ∧ Rd H a (.lst xs)) ∨
    ∃ (o : Obj) (its : Array Value) (n : Nat), K.lookup a = some o ∧ o.cls = .type "list" ∧ o.dict = none ∧ o.data = .seq its n ∧ its.size ≤ sizeLine ∧ Vals xs its.toList
theorem TupA.sq {K : PySem.W.Frag} {S : List Addr} {H : Hp} {a : Addr} {xs : List V} (h : TupA S H a xs) : SqT K H a xs := .inl (.inl h.2)
theorem TupN.sq {K : PySem.W.Frag} {S : List Addr} {H : Hp} {a : Addr} {xs : List V} (h : TupN K S H a xs) : SqT K H a xs := by
  rcases h with ⟨_, o, _, h⟩ | ⟨o, its, n, _, h⟩
  · exact .inl (.inr ⟨o, h⟩)
  · exact .inr ⟨o, its, n, h⟩
theorem LstA.sq {K : PySem.W.Frag} {S : List Addr} {H : Hp} {a : Addr} {xs : List V} (h : LstA K S H a xs) : SqL K H a xs := by
  rcases h with ⟨_, h⟩ | h
  · exact .inl h
  · exact .inr h
theorem rd_mono {S : List Addr} {H H' : Hp} {a : Addr} {u : HO} (e : ExS S H H') (n : a ∉ S) (h : Rd H a u) : Rd H' a u := by
  rcases h with h | ⟨o, h⟩
  · exact .inl (e a _ n h)
  · exact .inr ⟨o, e a _ n h⟩
theorem TupN.mono {K : PySem.W.Frag} {S : List Addr} {H H' : Hp} {a : Addr} {xs : List V} (e : ExS S H H') (h : TupN K S H a xs) : TupN K S H' a xs := by
  rcases h with ⟨n, o, d, h⟩ | h
  · exact .inl ⟨n, o, d, e a _ n h⟩
  · exact .inr h
theorem LstA.mono {K : PySem.W.Frag} {S : List Addr} {H H' : Hp} {a : Addr} {xs : List V} (e : ExS S H H') (h : LstA K S H a xs) : LstA K S H' a xs := by
  rcases h with ⟨n, h⟩ | h
  · exact .inl ⟨n, rd_mono e n h⟩
  · exact .inr h
inductive G where
  | v (x : V) (d : D) | vs (xs : List V) (ds : List D) | fl (xs : List (Str × V)) (ds : List (Str × D)) | kd (xs : List (List Key × V)) (ds : List (List Key × D))
inductive DenG (K : PySem.W.Frag) (S : List Addr) (H : Hp) : G → Prop where
  | non : DenG K S H (.v .non .non)
  | bl (b : Bool) : DenG K S H (.v (.bl b) (.bl b))
  | int (i : Int) : DenG K S H (.v (.int i) (.int i))
  | str (x : Str) : DenG K S H (.v (.str x) (.str x))
  | ty (n : String) : DenG K S H (.v (.ty n) (.ty n))
  | tup {a : Addr} {xs : List V} {ds : List D} (h : TupA S H a xs) (r : DenG K S H (.vs xs ds)) : DenG K S H (.v (.ref a) (.tup ds))
  | tupN {a : Addr} {xs : List V} {ds : List D} (h : TupN K S H a xs) (r : DenG K S H (.vs xs ds)) : DenG K S H (.v (.ref a) (.tupN ds))
  | par {a : Addr} {xs : List V} {ds : List D} (n : a ∉ S) (h : Rd H a (.tup xs)) (r : DenG K S H (.vs xs ds)) : DenG K S H (.v (.ref a) (.par ds))
  | lst {a : Addr} {xs : List V} {ds : List D} (h : LstA K S H a xs) (r : DenG K S H (.vs xs ds)) : DenG K S H (.v (.ref a) (.lst ds))
  | lstV {a : Addr} {xs : List V} {ds : List D} (n : a ∉ S) (h : H a = some (.lst xs)) (r : DenG K S H (.vs xs ds)) : DenG K S H (.v (.ref a) (.lstV ds))
  | ins {a C dx : Addr} {fs : List (Str × V)} {gs : List (Str × D)} (n : a ∉ S) (h : H a = some (.ins C dx fs)) (r : DenG K S H (.fl fs gs)) : DenG K S H (.v (.ref a) (.ins C gs))
  | dT {a : Addr} {kvs : List (List Key × V)} {gs : List (List Key × D)} (n : a ∉ S) (h : H a = some (.dT kvs)) (r : DenG K S H (.kd kvs gs)) : DenG K S H (.v (.ref a) (.dT gs))
  | nil : DenG K S H (.vs [] [])
  | cons {x : V} {d : D} {xs : List V} {ds : List D} (h : DenG K S H (.v x d)) (r : DenG K S H (.vs xs ds)) : DenG K S H (.vs (x :: xs) (d :: ds))
  | fnil : DenG K S H (.fl [] [])
  | fcons {f : Str} {x : V} {d : D} {xs : List (Str × V)} {ds : List (Str × D)} (h : DenG K S H (.v x d)) (r : DenG K S H (.fl xs ds)) : DenG K S H (.fl ((f, x) :: xs) ((f, d) :: ds))
  | knil : DenG K S H (.kd [] [])
  | kcons {k : List Key} {x : V} {d : D} {xs : List (List Key × V)} {ds : List (List Key × D)} (h : DenG K S H (.v x d)) (r : DenG K S H (.kd xs ds)) : DenG K S H (.kd ((k, x) :: xs) ((k, d) :: ds))
abbrev Den (K : PySem.W.Frag) (S : List Addr) (H : Hp) (x : V) (d : D) : Prop := DenG K S H (.v x d)
abbrev Dens (K : PySem.W.Frag) (S : List Addr) (H : Hp) (xs : List V) (ds : List D) : Prop := DenG K S H (.vs xs ds)
abbrev Flds (K : PySem.W.Frag) (S : List Addr) (H : Hp) (xs : List (Str × V)) (ds : List (Str × D)) : Prop := DenG K S H (.fl xs ds)
abbrev KDs (K : PySem.W.Frag) (S : List Addr) (H : Hp) (xs : List (List Key × V)) (ds : List (List Key × D)) : Prop := DenG K S H (.kd xs ds)
section
variable {K : PySem.W.Frag} {S S' : List Addr} {H H' : Hp}
theorem DenG.mono (e : ExS S H H') {g : G} (h : DenG K S H g) : DenG K S H' g := by
  induction h with
  | non => exact .non
  | bl b => exact .bl b
  | int b => exact .int b
  | str b => exact .str b
  | ty b => exact .ty b
  | tup h _ r => exact .tup ⟨h.1, e _ _ h.1 h.2⟩ r
  | tupN h _ r => exact .tupN (h.mono e) r
  | par n h _ r => exact .par n (rd_mono e n h) r
  | lst h _ r => exact .lst (h.mono e) r
  | lstV n h _ r => exact .lstV n (e _ _ n h) r
  | ins n h _ r => exact .ins n (e _ _ n h) r
  | dT n h _ r => exact .dT n (e _ _ n h) r
  | nil => exact .nil
  | cons _ _ h r => exact .cons h r
  | fnil => exact .fnil
  | fcons _ _ h r => exact .fcons h r
  | knil => exact .knil
  | kcons _ _ h r => exact .kcons h r
/-- fewer mutable ones -/
theorem DenG.less (e : ∀ a, a ∈ S' → a ∈ S) {g : G} (h : DenG K S H g) : DenG K S' H g := by
  induction h with
  | non => exact .non
  | bl b => exact .bl b
  | int b => exact .int b
  | str b => exact .str b
  | ty b => exact .ty b
  | tup h _ r => exact .tup ⟨fun q => h.1 (e _ q), h.2⟩ r
  | tupN h _ r => exact .tupN (h.imp (fun z => ⟨fun q => z.1 (e _ q), z.2⟩) id) r
  | par n h _ r => exact .par (fun q => n (e _ q)) h r
  | lst h _ r => exact .lst (h.imp (fun z => ⟨fun q => z.1 (e _ q), z.2⟩) id) r
  | lstV n h _ r => exact .lstV (fun q => n (e _ q)) h r
  | ins n h _ r => exact .ins (fun q => n (e _ q)) h r
  | dT n h _ r => exact .dT (fun q => n (e _ q)) h r
  | nil => exact .nil
  | cons _ _ h r => exact .cons h r
  | fnil => exact .fnil
  | fcons _ _ h r => exact .fcons h r
  | knil => exact .knil
  | kcons _ _ h r => exact .kcons h r
/-- more mutable ones, each of which H does not know -/
theorem nin_more (e : ∀ a, a ∈ S' → a ∈ S ∨ H a = none) {a : Addr} {u : HO} (n : a ∉ S) (h : H a = some u) : a ∉ S' := fun q => by
  rcases e a q with z | z
  · exact n z
  · rw [z] at h
    cases h
theorem rd_some {a : Addr} {u : HO} (h : Rd H a u) : ∃ w, H a = some w := by
  rcases h with h | ⟨o, h⟩
  · exact ⟨_, h⟩
  · exact ⟨_, h⟩
theorem DenG.more (e : ∀ a, a ∈ S' → a ∈ S ∨ H a = none) {g : G} (h : DenG K S H g) : DenG K S' H g := by
  induction h with
  | non => exact .non
  | bl b => exact .bl b
  | int b => exact .int b
  | str b => exact .str b
  | ty b => exact .ty b
  | tup h _ r => exact .tup ⟨nin_more e h.1 h.2, h.2⟩ r
  | tupN h _ r => exact .tupN (h.imp (fun z => ⟨z.2.elim fun _ q => nin_more e z.1 q.2, z.2⟩) id) r
  | par n h _ r => exact .par ((rd_some h).elim fun _ q => nin_more e n q) h r
  | lst h _ r => exact .lst (h.imp (fun z => ⟨(rd_some z.2).elim fun _ q => nin_more e z.1 q, z.2⟩) id) r
  | lstV n h _ r => exact .lstV (nin_more e n h) h r
  | ins n h _ r => exact .ins (nin_more e n h) h r
  | dT n h _ r => exact .dT (nin_more e n h) h r
  | nil => exact .nil
  | cons _ _ h r => exact .cons h r
  | fnil => exact .fnil
  | fcons _ _ h r => exact .fcons h r
  | knil => exact .knil
  | kcons _ _ h r => exact .kcons h r
theorem Den.mono (e : ExS S H H') {v : V} {d : D} (h : Den K S H v d) : Den K S H' v d := DenG.mono e h
theorem Dens.mono (e : ExS S H H') {v : List V} {d : List D} (h : Dens K S H v d) : Dens K S H' v d := DenG.mono e h
theorem Dens.uncons {x : V} {d : D} {xs : List V} {ds : List D} (h : Dens K S H (x :: xs) (d :: ds)) : Den K S H x d ∧ Dens K S H xs ds := by
  cases h with
  | cons h r => exact ⟨h, r⟩
theorem Dens.length : ∀ {xs : List V} {ds : List D}, Dens K S H xs ds → xs.length = ds.length
  | [], [], _ => rfl
  | [], _ :: _, h => nomatch h
  | _ :: _, [], h => nomatch h
  | _ :: _, _ :: _, h => congrArg (· + 1) (Dens.length h.uncons.2)
theorem Dens.get : ∀ {xs : List V} {ds : List D} {i : Nat} {d : D}, Dens K S H xs ds → ds[i]? = some d → ∃ x, xs[i]? = some x ∧ Den K S H x d
  | [], [], _, _, _, e => by simp at e
  | [], _ :: _, _, _, h, _ => nomatch h
  | _ :: _, [], _, _, h, _ => nomatch h
  | x :: _, _ :: _, 0, _, h, e => ⟨x, rfl, (Option.some.inj e) ▸ h.uncons.1⟩
  | _ :: _, _ :: _, i + 1, _, h, e => Dens.get (i := i) h.uncons.2 e
theorem Dens.get' : ∀ {xs : List V} {ds : List D} {i : Nat} {x : V}, Dens K S H xs ds → xs[i]? = some x → ∃ d, ds[i]? = some d ∧ Den K S H x d
  | [], [], _, _, _, e => by simp at e
  | [], _ :: _, _, _, h, _ => nomatch h
  | _ :: _, [], _, _, h, _ => nomatch h
  | _ :: _, d :: _, 0, _, h, e => ⟨d, rfl, (Option.some.inj e) ▸ h.uncons.1⟩
  | _ :: _, _ :: _, i + 1, _, h, e => Dens.get' (i := i) h.uncons.2 e
theorem Dens.append : ∀ {xs ys : List V} {ds es : List D}, Dens K S H xs ds → Dens K S H ys es → Dens K S H (xs ++ ys) (ds ++ es)
  | [], _, [], _, _, r => r
  | [], _, _ :: _, _, h, _ => nomatch h
  | _ :: _, _, [], _, h, _ => nomatch h
  | _ :: _, _, _ :: _, _, h, r => .cons h.uncons.1 (Dens.append h.uncons.2 r)
theorem Dens.take : ∀ {xs : List V} {ds : List D} (n : Nat), Dens K S H xs ds → Dens K S H (xs.take n) (ds.take n)
  | [], [], 0, _ => .nil
  | [], [], _ + 1, _ => .nil
  | [], _ :: _, _, h => nomatch h
  | _ :: _, [], _, h => nomatch h
  | _ :: _, _ :: _, 0, _ => .nil
  | _ :: _, _ :: _, n + 1, h => .cons h.uncons.1 (Dens.take n h.uncons.2)
theorem Dens.drop : ∀ {xs : List V} {ds : List D} (n : Nat), Dens K S H xs ds → Dens K S H (xs.drop n) (ds.drop n)
  | [], [], 0, _ => .nil
  | [], [], _ + 1, _ => .nil
  | [], _ :: _, _, h => nomatch h
  | _ :: _, [], _, h => nomatch h
  | _ :: _, _ :: _, 0, h => h
  | _ :: _, _ :: _, n + 1, h => Dens.drop n h.uncons.2
theorem Dens.reverse : ∀ {xs : List V} {ds : List D}, Dens K S H xs ds → Dens K S H xs.reverse ds.reverse
  | [], [], _ => .nil
  | [], _ :: _, h => nomatch h
  | _ :: _, [], h => nomatch h
  | _ :: _, _ :: _, h => by
    rw [List.reverse_cons, List.reverse_cons]
    exact (Dens.reverse h.uncons.2).append (.cons h.uncons.1 .nil)
theorem Dens.set {x : V} {d : D} (hx : Den K S H x d) : ∀ {xs : List V} {ds : List D} (i : Nat), Dens K S H xs ds → Dens K S H (xs.set i x) (ds.set i d)
  | [], [], _, _ => .nil
  | [], _ :: _, _, h => nomatch h
  | _ :: _, [], _, h => nomatch h
  | _ :: _, _ :: _, 0, h => .cons hx h.uncons.2
  | _ :: _, _ :: _, i + 1, h => .cons h.uncons.1 (Dens.set hx i h.uncons.2)
/-- scalars alone: data tell the values -/
def scV : D → Option V
  | .non => some .non
  | .bl b => some (.bl b)
  | .int i => some (.int i)
  | .str x => some (.str x)
  | .ty n => some (.ty n)
  | _ => none
theorem Den.sc {v w : V} {d : D} (h : Den K S H v d) (e : scV d = some w) : v = w := by
  cases h <;> first | exact Option.some.inj e | cases e
theorem Den.of_int {v : V} {i : Int} (h : Den K S H v (.int i)) : v = .int i := by cases h; rfl
theorem Den.of_bl {v : V} {b : Bool} (h : Den K S H v (.bl b)) : v = .bl b := by cases h; rfl
/-- tuples of whatever make -/
def tupL : D → Option (List D)
  | .tup l => some l
  | .tupN l => some l
  | .par l => some l
  | _ => none
theorem Den.of_tup {v : V} {d : D} {ds : List D} (h : Den K S H v d) (e : tupL d = some ds) : ∃ a xs, v = .ref a ∧ SqT K H a xs ∧ Dens K S H xs ds := by
  cases h with
  | tup h r => cases e; exact ⟨_, _, rfl, h.sq, r⟩
  | tupN h r => cases e; exact ⟨_, _, rfl, h.sq, r⟩
  | par n h r => cases e; exact ⟨_, _, rfl, .inl h, r⟩
  | _ => cases e
theorem Den.of_lst {v : V} {ds : List D} (h : Den K S H v (.lst ds)) : ∃ a xs, v = .ref a ∧ LstA K S H a xs ∧ Dens K S H xs ds := by
  cases h with
  | lst h r => exact ⟨_, _, rfl, h, r⟩
theorem DenG.of_tup {v : V} {d : D} {ds : List D} (h : DenG K S H (.v v d)) (e : tupL d = some ds) : ∃ a xs, v = .ref a ∧ SqT K H a xs ∧ Dens K S H xs ds := Den.of_tup h e
theorem DenG.of_lst {v : V} {ds : List D} (h : DenG K S H (.v v (.lst ds))) : ∃ a xs, v = .ref a ∧ LstA K S H a xs ∧ Dens K S H xs ds := Den.of_lst h
theorem Dens.ints : ∀ {xs : List V} {ns : List Int}, Dens K S H xs (ns.map D.int) → xs = ns.map V.int
  | [], [], _ => rfl
  | [], _ :: _, h => nomatch h
  | _ :: _, [], h => nomatch h
  | x :: xs, n :: ns, h => by
    have h' : Dens K S H (x :: xs) (D.int n :: ns.map D.int) := h
    rw [h'.uncons.1.of_int, Dens.ints h'.uncons.2] <;> rfl
theorem Dens.of_ints : ∀ (ns : List Int), Dens K S H (ns.map V.int) (ns.map D.int)
  | [] => .nil
  | n :: ns => .cons (.int n) (Dens.of_ints ns)
theorem Dens.bls : ∀ {xs : List V} {ns : List Bool}, Dens K S H xs (ns.map D.bl) → xs = ns.map V.bl
  | [], [], _ => rfl
  | [], _ :: _, h => nomatch h
  | _ :: _, [], h => nomatch h
  | x :: xs, n :: ns, h => by
    have h' : Dens K S H (x :: xs) (D.bl n :: ns.map D.bl) := h
    rw [h'.uncons.1.of_bl, Dens.bls h'.uncons.2] <;> rfl
end
/-! ### what a slot, a value may be: data, or one of the mutable lists -/
inductive R where
  | d (x : D) | own (k : Nat)
inductive DenR (K : PySem.W.Frag) (S : List Addr) (H : Hp) : V → R → Prop where
  | d {v : V} {x : D} (h : Den K S H v x) : DenR K S H v (.d x)
  | own {a : Addr} {k : Nat} (h : S[k]? = some a) : DenR K S H (.ref a) (.own k)
theorem DenR.mono {K : PySem.W.Frag} {S : List Addr} {H H' : Hp} {v : V} {r : R} (e : ExS S H H') (h : DenR K S H v r) : DenR K S H' v r := by
  cases h with
  | d h => exact .d (h.mono e)
  | own h => exact .own h
abbrev Sta := List (Option R)
structure Slots (K : PySem.W.Frag) (S : List Addr) (H : Hp) (σ : L2.St) (st : Sta) : Prop where
  len : σ.length = st.length
  sl : ∀ (i : Nat) (r : R), st[i]? = some (some r) → ∃ v, σ[i]? = some (some v) ∧ DenR K S H v r
/-- a mutable thing: a list, a dict with keys of tuples, a dict from ints to mutable lists, a list of mutable things (its ints are idle) -/
inductive OB where
  | l (xs : List D) | t (gs : List (List Key × D)) | g (gs : List (Int × Nat)) | r (gs : List (Int × Nat))
def GR (S : List Addr) (kv : Key × V) (g : Int × Nat) : Prop := kv.1 = Sum.inl g.1 ∧ ∃ b, kv.2 = .ref b ∧ S[g.2]? = some b
inductive ObAt (K : PySem.W.Frag) (S : List Addr) (H : Hp) (a : Addr) : OB → Prop where
  | l {xs : List V} {l : List D} (h : H a = some (.lst xs)) (r : Dens K S H xs l) : ObAt K S H a (.l l)
  | t {kvs : List (List Key × V)} {gs : List (List Key × D)} (h : H a = some (.dT kvs)) (r : KDs K S H kvs gs) : ObAt K S H a (.t gs)
  | g {kvs : List (Key × V)} {gs : List (Int × Nat)} (h : H a = some (.dK kvs)) (r : Paired (GR S) kvs gs) : ObAt K S H a (.g gs)
  | r {kvs : List (Key × V)} {gs : List (Int × Nat)} (h : H a = some (.lst (kvs.map (·.2)))) (r : Paired (GR S) kvs gs) : ObAt K S H a (.r gs)
theorem ObAt.has {K : PySem.W.Frag} {S : List Addr} {H : Hp} {a : Addr} {b : OB} (h : ObAt K S H a b) : ∃ u, H a = some u := by
  cases h with
  | l h _ => exact ⟨_, h⟩
  | t h _ => exact ⟨_, h⟩
  | g h _ => exact ⟨_, h⟩
  | r h _ => exact ⟨_, h⟩
theorem ObAt.keep {K : PySem.W.Frag} {S : List Addr} {H H' : Hp} {a : Addr} {b : OB} (h : ObAt K S H a b) (e : ExS S H H') (k : ∀ u, H a = some u → H' a = some u) : ObAt K S H' a b := by
  cases h with
  | l h r => exact .l (k _ h) (r.mono e)
  | t h r => exact .t (k _ h) (DenG.mono e r)
  | g h r => exact .g (k _ h) r
  | r h r => exact .r (k _ h) r
theorem gr_imp {S S' : List Addr} (f : ∀ (k : Nat) a, S[k]? = Option.some a → S'[k]? = Option.some a) {kv : Key × V} {g : Int × Nat} (h : GR S kv g) : GR S' kv g :=
  ⟨h.1, h.2.elim fun b z => ⟨b, z.1, f _ _ z.2⟩⟩
theorem paired_imp' {α β : Type} {F G : α → β → Prop} (h : ∀ a b, F a b → G a b) : ∀ {l : List α} {m : List β}, Paired F l m → Paired G l m
  | _, _, .nil => .nil
  | _, _, .cons r t => .cons (h _ _ r) (paired_imp' h t)
theorem ObAt.more {K : PySem.W.Frag} {S S' : List Addr} {H : Hp} {a : Addr} {b : OB} (h : ObAt K S H a b) (e : ∀ a, a ∈ S' → a ∈ S ∨ H a = none) (f : ∀ (k : Nat) a, S[k]? = Option.some a → S'[k]? = Option.some a) : ObAt K S' H a b := by
  cases h with
  | l h r => exact .l h (DenG.more e r)
  | t h r => exact .t h (DenG.more e r)
  | g h r => exact .g h (paired_imp' (fun _ _ => gr_imp f) r)
  | r h r => exact .r h (paired_imp' (fun _ _ => gr_imp f) r)
structure Owns (K : PySem.W.Frag) (S : List Addr) (H : Hp) (ow : List OB) : Prop where
  len : S.length = ow.length
  nd : S.Nodup
  ob : ∀ (k : Nat) (b : OB), ow[k]? = some b → ∃ a, S[k]? = some a ∧ ObAt K S H a b
theorem Owns.at_ {K : PySem.W.Frag} {S : List Addr} {H : Hp} {ow : List OB} (o : Owns K S H ow) (k : Nat) (l : List D) (h : ow[k]? = some (.l l)) : ∃ a xs, S[k]? = some a ∧ H a = some (.lst xs) ∧ Dens K S H xs l := by
  obtain ⟨a, h1, h2⟩ := o.ob k _ h
  cases h2 with
  | l h r => exact ⟨a, _, h1, h, r⟩
theorem Slots.mono {K : PySem.W.Frag} {S : List Addr} {H H' : Hp} {σ : L2.St} {st : Sta} (e : ExS S H H') (h : Slots K S H σ st) : Slots K S H' σ st :=
  ⟨h.len, fun i r q => let ⟨v, z, y⟩ := h.sl i r q; ⟨v, z, y.mono e⟩⟩
theorem Owns.ex {K : PySem.W.Frag} {S : List Addr} {H H' : Hp} {ow : List OB} (e : Evl.Ex H H') (h : Owns K S H ow) : Owns K S H' ow :=
  ⟨h.len, h.nd, fun k l q => let ⟨a, z, y⟩ := h.ob k l q; ⟨a, z, y.keep (.of e) fun u hu => e _ _ hu⟩⟩
theorem Slots.set {K : PySem.W.Frag} {S : List Addr} {H : Hp} {σ : L2.St} {st : Sta} {v : V} {r : R} (h : Slots K S H σ st) (i : Nat) (hr : DenR K S H v r) : Slots K S H (σ.set i (some v)) (st.set i (some r)) := by
  refine ⟨by rw [List.length_set, List.length_set, h.len], fun j q e => ?_⟩
  by_cases hj : i = j
  · subst hj
    by_cases hl : i < st.length
    · rw [List.getElem?_set_self hl] at e
      have e' := Option.some.inj (Option.some.inj e)
      subst e'
      exact ⟨v, List.getElem?_set_self (by rw [h.len]; exact hl), hr⟩
    · rw [List.getElem?_eq_none (by rw [List.length_set]; omega)] at e
      cases e
  · rw [List.getElem?_set_ne hj] at e
    obtain ⟨w, z, y⟩ := h.sl j q e
    exact ⟨w, by rw [List.getElem?_set_ne hj]; exact z, y⟩
/-- fewer things known -/
theorem Slots.weak {K : PySem.W.Frag} {S : List Addr} {H : Hp} {σ : L2.St} {st st' : Sta} (h : Slots K S H σ st) (hl : st.length = st'.length) (hk : ∀ (i : Nat) r, st'[i]? = some (some r) → st[i]? = some (some r)) : Slots K S H σ st' :=
  ⟨h.len.trans hl, fun i r e => h.sl i r (hk i r e)⟩
def wipeD (st : Sta) : List Nat → Sta
  | [] => st
  | v :: vs => (wipeD st vs).set v none
theorem Slots.wipe {K : PySem.W.Frag} {S : List Addr} {H : Hp} {σ : L2.St} {st : Sta} (h : Slots K S H σ st) : ∀ vs : List Nat, Slots K S H (L2.wipe σ vs) (wipeD st vs)
  | [] => h
  | v :: vs => by
    have ih := h.wipe vs
    unfold L2.wipe wipeD
    refine ⟨by rw [List.length_set, List.length_set, ih.len], fun j q e => ?_⟩
    by_cases hj : v = j
    · subst hj
      by_cases hl : v < (wipeD st vs).length
      · rw [List.getElem?_set_self hl] at e
        cases e
      · rw [List.getElem?_eq_none (by rw [List.length_set]; omega)] at e
        cases e
    · rw [List.getElem?_set_ne hj] at e
      obtain ⟨w, z, y⟩ := ih.sl j q e
      exact ⟨w, by rw [List.getElem?_set_ne hj]; exact z, y⟩
/-- one of the mutable lists stands apart from a new object -/
theorem Owns.nin {K : PySem.W.Frag} {S : List Addr} {H : Hp} {ow : List OB} (h : Owns K S H ow) {p : Addr} (hp : H p = none) : p ∉ S := fun q => by
  obtain ⟨k, hk, e⟩ := List.getElem_of_mem q
  have hk2 : k < ow.length := by rw [← h.len]; exact hk
  obtain ⟨a, z, y⟩ := h.ob k _ (List.getElem?_eq_getElem hk2)
  have e2 : S[k]? = some p := by rw [List.getElem?_eq_getElem hk, e]
  rw [e2] at z
  have z' := Option.some.inj z
  subst z'
  obtain ⟨u, hu⟩ := y.has
  rw [hp] at hu
  cases hu
theorem new_tup {K : PySem.W.Frag} {S : List Addr} {H : Hp} {ow : List OB} {p : Addr} {xs : List V} {ds : List D} (o : Owns K S H ow) (hp : H p = none) (r : Dens K S H xs ds) : Den K S (upd H p (.tup xs)) (.ref p) (.tup ds) :=
  .tup ⟨o.nin hp, upd_same⟩ (r.mono (.of (Evl.Ex.new hp)))
theorem new_tupN {K : PySem.W.Frag} {S : List Addr} {H : Hp} {ow : List OB} {p : Addr} {xs : List V} {ds : List D} {ob : Obj} (o : Owns K S H ow) (hp : H p = none) (hd : ob.dict = none) (r : Dens K S H xs ds) : Den K S (upd H p (.frz ob (.tup xs))) (.ref p) (.tupN ds) :=
  .tupN (.inl ⟨o.nin hp, ob, hd, upd_same⟩) (r.mono (.of (Evl.Ex.new hp)))
theorem new_par {K : PySem.W.Frag} {S : List Addr} {H : Hp} {ow : List OB} {p : Addr} {xs : List V} {ds : List D} (o : Owns K S H ow) (hp : H p = none) (r : Dens K S H xs ds) : Den K S (upd H p (.tup xs)) (.ref p) (.par ds) :=
  .par (o.nin hp) (.inl upd_same) (r.mono (.of (Evl.Ex.new hp)))
theorem Den.lstW {K : PySem.W.Frag} {S : List Addr} {H : Hp} {v : V} {l : List D} (h : Den K S H v (.lstV l)) : Den K S H v (.lst l) := by
  cases h with
  | lstV n h r => exact .lst (.inl ⟨n, .inl h⟩) r
theorem new_lstV {K : PySem.W.Frag} {S : List Addr} {H : Hp} {ow : List OB} {p : Addr} {xs : List V} {ds : List D} (o : Owns K S H ow) (hp : H p = none) (r : Dens K S H xs ds) : Den K S (upd H p (.lst xs)) (.ref p) (.lstV ds) :=
  .lstV (o.nin hp) upd_same (r.mono (.of (Evl.Ex.new hp)))
theorem new_lst {K : PySem.W.Frag} {S : List Addr} {H : Hp} {ow : List OB} {p : Addr} {xs : List V} {ds : List D} (o : Owns K S H ow) (hp : H p = none) (r : Dens K S H xs ds) : Den K S (upd H p (.lst xs)) (.ref p) (.lst ds) :=
  .lst (.inl ⟨o.nin hp, .inl upd_same⟩) (r.mono (.of (Evl.Ex.new hp)))
end Bl
set_option Elab.async false
set_option linter.all false
set_option maxRecDepth 100000
set_option maxHeartbeats 4000000
/-! BlTup: tuples as they are made: each known to have no dict of its own -/
namespace Bl
open PySem PySem.Spec PyProof.Rows L2
section
variable {X : Cx} {es : List Expr} {pos p : Pos}
/-- a new tuple object -/
abbrev tobj (us : List Value) : Obj := { cls := .type "tuple", data := .seq us.toArray }
def tTupF (t : TA) : TE := fun σ H Q => t σ H fun xs H1 => xs.length ≤ sizeLine ∧ ∀ p ob, ob.dict = none → H1 p = none → Q (.ref p) (upd H1 p (.frz ob (.tup xs)))
theorem frz_ok {P : Program} {w : World} {H : Hp} {h : Heap} {a : Addr} {xs : List V} {us : List Value} {ob : Obj} (hz : xs.length ≤ sizeLine) (r : Vals xs us) (e : h.get? a = some ob) (hc : ob.cls = .type "tuple") (hd : ∃ n, ob.data = .seq us.toArray n) : ObjOk P w H h a (.frz ob (.tup xs)) :=
  ⟨e, hz, us, r, ⟨ob, e, hc, hd⟩⟩
theorem pe_tupF {x1 : Nat} {t : TA} (h : PA X es t) : PE X (.Tuple es x1 pos) (tTupF t) := by
  refine ⟨fun pins s σ H Q I hq => ?_⟩
  refine wpAny_Tuple_spliced (thn (h.run pos pins s σ H _ I hq) fun us s1 ⟨xs, H1, I1, r, z, q⟩ => ⟨by rw [← r.length]; exact z, ?_⟩)
  have hf : H1 s1.heap.objs.size = none := I1.hok.fresh (Nat.le_refl _)
  have I2 := I1.laid (t' := s1.toks) (a := s1.heap.objs.size) (o := .frz (tobj us) (.tup xs)) (h' := s1.heap.push (tobj us)) (fun b u e => Heap.get?_push_of_some _ e) (Nat.le_refl _) (frz_ok z r (Heap.get?_push_size _ rfl) rfl ⟨_, rfl⟩)
  exact ⟨.ref s1.heap.objs.size, _, I2, rfl, q _ _ rfl hf⟩
theorem call_tuple_F : CallR X (.type "tuple") (fun xs H Q => ∃ p ys, xs = [.ref p] ∧ ((SqL X.K H p ys ∧ ∀ l ob, ob.dict = none → H l = none → Q (.ref l) (upd H l (.frz ob (.tup ys)))) ∨ (SqT X.K H p ys ∧ Q (.ref p) H))) := by
  intro pins s σ H xs us Q I r h
  obtain ⟨p, ys, rfl, h⟩ := h
  obtain ⟨u, rfl, rx⟩ := vals1 r
  cases rx
  rcases h with ⟨hq, q⟩ | ⟨hq, q⟩
  · obtain ⟨its, r', pl, hz⟩ := I.list hq
    have hlen := r'.length
    refine call_tuple_list pl.isList (fun h' kp => ?_) (by simp only [List.size_toArray] <;> omega)
    have I1 : Inv X pins σ H { s with heap := h' } := I.kept (t' := s.toks) kp
    have I2 : Inv X pins σ (upd H h'.objs.size (.frz (tobj its) (.tup ys))) { s with heap := h'.push (tobj its) } :=
      I1.laid (t' := s.toks) (fun b o e => Heap.get?_push_of_some _ e) (Nat.le_refl _) (frz_ok hz r' (Heap.get?_push_size _ rfl) rfl ⟨_, rfl⟩)
    exact ⟨.ref h'.objs.size, _, I2, rfl, q _ _ rfl (I1.hok.fresh (Nat.le_refl _))⟩
  · obtain ⟨its, r', pl, hz⟩ := I.tuple hq
    exact call_tuple_same pl ⟨.ref p, H, I, rfl, q⟩
def rCatF (K : PySem.W.Frag) : R2 := fun x y H Q => ∃ a b xs ys, x = .ref a ∧ y = .ref b ∧ SqT K H a xs ∧ SqT K H b ys ∧ xs.length + ys.length ≤ sizeLine ∧
  (xs = [] → Q (.ref b) H) ∧ (xs ≠ [] → ys = [] → Q (.ref a) H) ∧ (xs ≠ [] → ys ≠ [] → ∀ p ob, ob.dict = none → H p = none → Q (.ref p) (upd H p (.frz ob (.tup (xs ++ ys)))))
theorem op_catF : OpR X (binaryOp .Add) (rCatF X.K) := by
  intro pins s σ H x y v u Q I rx ry h
  obtain ⟨a, b, xs, ys, rfl, rfl, ha, hb, hz, q0, q1, q2⟩ := h
  by_cases hx : xs = []
  · subst hx
    cases rx
    cases ry
    obtain ⟨its, r1, p1, _⟩ := I.tuple ha
    obtain ⟨its2, r2, p2, _⟩ := I.tuple hb
    cases r1
    exact cat_tup0 p1 p2 ⟨.ref b, H, I, rfl, q0 rfl⟩
  · cases rx
    cases ry
    obtain ⟨its, r1, p1, _⟩ := I.tuple ha
    obtain ⟨its2, r2, p2, _⟩ := I.tuple hb
    refine HT.cat_tup p1 p2 (fun z => hx (r1.nil_iff.mp z)) (fun z => ⟨.ref a, H, I, rfl, q1 hx (r2.nil_iff.mp z)⟩) (fun z => ?_) (by rw [← r1.length, ← r2.length]; exact hz)
    have I2 := I.laid (t' := s.toks) (a := s.heap.objs.size) (o := .frz (tobj (its ++ its2)) (.tup (xs ++ ys))) (h' := s.heap.push (tobj (its ++ its2))) (fun b ob q => Heap.get?_push_of_some _ q) (Nat.le_refl _)
      (frz_ok (by rw [List.length_append]; exact hz) (r1.append r2) (Heap.get?_push_size _ rfl) rfl ⟨_, rfl⟩)
    exact ⟨.ref s.heap.objs.size, _, I2, rfl, q2 hx (fun w => z (r2.nil_iff.mpr w)) _ _ rfl (I.hok.fresh (Nat.le_refl _))⟩
def rSlF (K : PySem.W.Frag) : V → Option Int → Option Int → Hp → VK → Prop := fun x lo hi H Q => ∃ a xs, x = .ref a ∧ SqT K H a xs ∧
  (HT.sIx xs.length 0 lo = 0 ∧ HT.sIx xs.length xs.length hi = xs.length → Q (.ref a) H) ∧ (¬ (HT.sIx xs.length 0 lo = 0 ∧ HT.sIx xs.length xs.length hi = xs.length) → ∀ p ob, ob.dict = none → H p = none → Q (.ref p) (upd H p (.frz ob (.tup (cutV xs lo hi)))))
theorem sl_tupF : SlR X (rSlF X.K) := by
  intro pins s σ H x v vl vu lo hi sl Q I rx hs pl pu h
  obtain ⟨a, xs, rfl, hx, q1, q2⟩ := h
  cases rx
  obtain ⟨its, r, ht, hz⟩ := I.tuple hx
  have hlen : its.toArray.size = xs.length := by rw [List.size_toArray]; exact r.length.symm
  refine ⟨"tuple", _, PyProof.Rows.slot_tuple_getitem.lookup, ht.typeIs, ?_⟩
  by_cases hw : HT.sIx xs.length 0 lo = 0 ∧ HT.sIx xs.length xs.length hi = xs.length
  · exact getItem_tuple_whole ht hs pl pu (by rw [hlen]; exact hw) ⟨.ref a, H, I, rfl, q1 hw⟩
  · refine HT.getItem_tuple_cut ht hs pl pu (by rw [hlen]; exact hw) ?_ (by rw [hlen]; exact hz)
    rw [hlen]
    have I2 := I.laid (t' := s.toks) (a := s.heap.objs.size) (o := .frz (tobj ((its.drop (HT.sIx xs.length 0 lo)).take (HT.sIx xs.length xs.length hi - HT.sIx xs.length 0 lo))) (.tup (cutV xs lo hi)))
      (h' := s.heap.push (tobj ((its.drop (HT.sIx xs.length 0 lo)).take (HT.sIx xs.length xs.length hi - HT.sIx xs.length 0 lo)))) (fun b ob q => Heap.get?_push_of_some _ q) (Nat.le_refl _)
      (frz_ok (Nat.le_trans (cutV_length xs lo hi) hz) ((r.drop (HT.sIx xs.length 0 lo)).take (HT.sIx xs.length xs.length hi - HT.sIx xs.length 0 lo)) (Heap.get?_push_size _ rfl) rfl ⟨_, rfl⟩)
    exact ⟨.ref s.heap.objs.size, _, I2, rfl, q2 hw _ _ rfl (I.hok.fresh (Nat.le_refl _))⟩
/-- a tuple without a dict of its own: its type's methods are found -/
def tyN (K : PySem.W.Frag) (x : V) (H : Hp) : Prop := ∃ a xs, x = .ref a ∧ ((∃ o : Obj, o.dict = none ∧ H a = some (.frz o (.tup xs))) ∨ ∃ (o : Obj) (its : Array Value) (n : Nat), o.dict = none ∧ K.lookup a = some o ∧ o.cls = .type "tuple" ∧ o.data = .seq its n ∧ its.size ≤ sizeLine ∧ Vals xs its.toList)
theorem tyN_is {pins : List (Addr × Obj)} {σ : L2.St} {H : Hp} {s : Shared} {x : V} {v : Value} (I : Inv X pins σ H s) (r : RelV x v) (ty : tyN X.K x H) :
    s.TypeIs v "tuple" ∧ ∀ a, v = .ref a → ∃ ob, s.heap.get? a = some ob ∧ ob.dict = none := by
  obtain ⟨a, xs, rfl, h⟩ := ty
  cases r
  rcases h with ⟨o, hd, h⟩ | ⟨o, its, n, hd, hk, hc, _⟩
  · obtain ⟨e, hz, us, _, o2, e2, hc, _⟩ := I.hok a _ h
    rw [e] at e2
    cases e2
    exact ⟨⟨o, e, hc⟩, fun b eb => by cases eb; exact ⟨o, e, hd⟩⟩
  · exact ⟨⟨o, I.kIn a o hk, hc⟩, fun b eb => by cases eb; exact ⟨o, I.kIn _ o hk, hd⟩⟩
def tBMN (K : PySem.W.Frag) (r : V → List V → Hp → VK → Prop) (to : TE) (t : TA) : TE := fun σ H Q => to σ H fun x H1 => tyN K x H1 ∧ t σ H1 fun xs H2 => r x xs H2 Q
variable {o e : Expr} {to : TE} {t : TA} {name : Str} {apos cpos : Pos} {id : String} {r : V → List V → Hp → VK → Prop}
theorem pe_bmN (pa : PlainAttrs "tuple") (slot : Slot "tuple" name id) (hty : typeOf (.builtin id) = pure (.type "method_descriptor")) (hm : MtR X id r) (ho : PE X o to) (ha : PA X (e :: es) t)
    (h1 : attributeBase o name X.env (eval o X.env) = eval o X.env)
    (h2 : ((backTo cpos (starEach (e :: es) X.env)).all (fun x => !x.1) && (backToKw cpos (keywordEach [] X.env)).all (fun x => x.1.isSome)
      && decide ((e :: es).length + ([] : List Keyword).length + (if ([] : List Keyword).isEmpty then 0 else 1) < 30)) = true)
    (h3 : (apos.endLine == cpos.line) = true) (h4 : starEach (e :: es) X.env = (false, eval e X.env) :: starEach es X.env) (h5 : (backTo cpos (starEach es X.env)).any (·.1) = false) :
    PE X (.Call (.Attribute o name apos) (e :: es) [] cpos) (tBMN X.K r to t) := by
  refine ⟨fun pins s σ H Q I h => ?_⟩
  refine wpAny_Call_method_late h1 h2 h3 rfl (thn (ho.run pins s σ H _ I h) fun v s1 ⟨x, H1, I1, r1, ty, q1⟩ => ?_)
  obtain ⟨g1, g2⟩ := tyN_is I1 r1 ty
  refine ⟨"tuple", id, pa, slot, hty, g1, g2, ?_⟩
  have hA := ha.run cpos pins s1 σ H1 _ I1 q1
  rw [h4] at hA ⊢
  refine Calls.callWith_builtin (by show (false || (backTo cpos (starEach es X.env)).any (·.1)) = false; rw [h5] <;> rfl) (Calls.evalArgs_plain ?_)
  exact thn hA fun us s2 ⟨vs, H2, I2, r2, q2⟩ => hm pins s2 σ H2 x vs v us Q I2 r1 r2 q2
end
end Bl
set_option Elab.async false
set_option linter.all false
set_option maxRecDepth 100000
set_option maxHeartbeats 4000000
namespace Bl
open PySem PySem.Spec PyProof.Rows L2
/-! ### onwards: more mutable lists (each new), the rest as it was -/
structure Fwd (S : List Addr) (H : Hp) (S' : List Addr) (H' : Hp) : Prop where
  gr : ∃ ps, S' = S ++ ps ∧ ∀ p ∈ ps, H p = none
  ex : ExS S H H'
theorem Fwd.refl (S : List Addr) (H : Hp) : Fwd S H S H := ⟨⟨[], (List.append_nil S).symm, fun _ h => nomatch h⟩, .refl S H⟩
theorem Fwd.of {S : List Addr} {H H' : Hp} (e : Evl.Ex H H') : Fwd S H S H' := ⟨⟨[], (List.append_nil S).symm, fun _ h => nomatch h⟩, .of e⟩
theorem Fwd.sub {S S' : List Addr} {H H' : Hp} (f : Fwd S H S' H') {a : Addr} (h : a ∈ S) : a ∈ S' := by
  obtain ⟨ps, e, _⟩ := f.gr
  rw [e]
  exact List.mem_append_left _ h
theorem Fwd.mem {S S' : List Addr} {H H' : Hp} (f : Fwd S H S' H') {a : Addr} (h : a ∈ S') : a ∈ S ∨ H a = none := by
  obtain ⟨ps, e, q⟩ := f.gr
  rw [e] at h
  rcases List.mem_append.mp h with z | z
  · exact .inl z
  · exact .inr (q a z)
theorem Fwd.exS {S S' : List Addr} {H H' : Hp} (f : Fwd S H S' H') : ExS S' H H' := fun a o n h => f.ex a o (fun z => n (f.sub z)) h
theorem Fwd.get {S S' : List Addr} {H H' : Hp} (f : Fwd S H S' H') {k : Nat} {a : Addr} (h : S[k]? = some a) : S'[k]? = some a := by
  obtain ⟨ps, e, q⟩ := f.gr
  rw [e, List.getElem?_append_left (List.getElem?_eq_some_iff.mp h).1]
  exact h
theorem Fwd.den {K : PySem.W.Frag} {S S' : List Addr} {H H' : Hp} (f : Fwd S H S' H') {g : G} (h : DenG K S H g) : DenG K S' H' g := (h.more (fun a => f.mem)).mono f.exS
theorem Fwd.denR {K : PySem.W.Frag} {S S' : List Addr} {H H' : Hp} (f : Fwd S H S' H') {v : V} {r : R} (h : DenR K S H v r) : DenR K S' H' v r := by
  cases h with
  | d h => exact .d (f.den h)
  | own h => exact .own (f.get h)
theorem Fwd.slots {K : PySem.W.Frag} {S S' : List Addr} {H H' : Hp} {σ : L2.St} {st : Sta} (f : Fwd S H S' H') (h : Slots K S H σ st) : Slots K S' H' σ st :=
  ⟨h.len, fun i r q => let ⟨v, z, y⟩ := h.sl i r q; ⟨v, z, f.denR y⟩⟩
theorem Fwd.trans {K : PySem.W.Frag} {S S1 S2 : List Addr} {H H1 H2 : Hp} {ow : List OB} (f : Fwd S H S1 H1) (o : Owns K S1 H1 ow) (g : Fwd S1 H1 S2 H2) : Fwd S H S2 H2 := by
  refine ⟨?_, fun a u n h => ?_⟩
  · obtain ⟨ps, e, q⟩ := f.gr
    obtain ⟨qs, e2, q2⟩ := g.gr
    refine ⟨ps ++ qs, by rw [e2, e, List.append_assoc], fun p hp => ?_⟩
    rcases List.mem_append.mp hp with z | z
    · exact q p z
    · have n1 := o.nin (q2 p z)
      cases hh : H p with
      | none => rfl
      | some u =>
        have y := f.ex p u (fun w => n1 (f.sub w)) hh
        rw [q2 p z] at y
        cases y
  · have n1 : a ∉ S1 := fun z => by
      rcases f.mem z with y | y
      · exact n y
      · rw [y] at h
        cases h
    exact g.ex a u n1 (f.ex a u n h)
/-! ### the judgements over data -/
def tD (K : PySem.W.Frag) (st : Sta) (ow : List OB) (r : R) (ow' : List OB) : TE := fun σ H Q => ∃ S, Slots K S H σ st ∧ Owns K S H ow ∧ ∀ S' v H', Fwd S H S' H' → Owns K S' H' ow' → DenR K S' H' v r → Q v H'
def tDT (K : PySem.W.Frag) (st : Sta) (ow : List OB) (b : Bool) (ow' : List OB) : TT := fun σ H Q => ∃ S, Slots K S H σ st ∧ Owns K S H ow ∧ ∀ S' H', Fwd S H S' H' → Owns K S' H' ow' → Q b H'
inductive DenRs (K : PySem.W.Frag) (S : List Addr) (H : Hp) : List V → List R → Prop
  | nil : DenRs K S H [] []
  | cons {v : V} {r : R} {vs : List V} {rs : List R} (h : DenR K S H v r) (t : DenRs K S H vs rs) : DenRs K S H (v :: vs) (r :: rs)
theorem Fwd.denRs {K : PySem.W.Frag} {S S' : List Addr} {H H' : Hp} (f : Fwd S H S' H') {vs : List V} {rs : List R} (h : DenRs K S H vs rs) : DenRs K S' H' vs rs := by
  induction h with
  | nil => exact .nil
  | cons h _ ih => exact .cons (f.denR h) ih
theorem DenRs.length {K : PySem.W.Frag} {S : List Addr} {H : Hp} {vs : List V} {rs : List R} (h : DenRs K S H vs rs) : vs.length = rs.length := by
  induction h with
  | nil => rfl
  | cons _ _ ih => exact congrArg (· + 1) ih
def tDA (K : PySem.W.Frag) (st : Sta) (ow : List OB) (rs : List R) (ow' : List OB) : TA := fun σ H Q => ∃ S, Slots K S H σ st ∧ Owns K S H ow ∧ ∀ S' vs H', Fwd S H S' H' → Owns K S' H' ow' → DenRs K S' H' vs rs → Q vs H'
inductive Out where
  | nx (st : Sta) (ow : List OB) | ret (r : R) (ow : List OB) | brk (st : Sta) (ow : List OB) | ct (st : Sta) (ow : List OB)
def Goes (K : PySem.W.Frag) (S : List Addr) (H : Hp) (D : Ends) : Out → Prop
  | .nx st ow => ∀ S' σ' H', Fwd S H S' H' → Slots K S' H' σ' st → Owns K S' H' ow → D.nx σ' H'
  | .brk st ow => ∀ S' σ' H', Fwd S H S' H' → Slots K S' H' σ' st → Owns K S' H' ow → D.bk σ' H'
  | .ct st ow => ∀ S' σ' H', Fwd S H S' H' → Slots K S' H' σ' st → Owns K S' H' ow → D.ct σ' H'
  | .ret r ow => ∀ S' v H', Fwd S H S' H' → Owns K S' H' ow → DenR K S' H' v r → D.rt v H'
def tDS (K : PySem.W.Frag) (st : Sta) (ow : List OB) (o : Out) : TS := fun E σ H => ∃ S, Slots K S H σ st ∧ Owns K S H ow ∧ Goes K S H E o
abbrev PD (X : Cx) (st : Sta) (ow : List OB) (e : Expr) (r : R) (ow' : List OB) : Prop := PE X e (tD X.K st ow r ow')
abbrev PTD (X : Cx) (st : Sta) (ow : List OB) (e : Expr) (b : Bool) (ow' : List OB) : Prop := PT X e (tDT X.K st ow b ow')
abbrev PAD (X : Cx) (st : Sta) (ow : List OB) (es : List Expr) (rs : List R) (ow' : List OB) : Prop := PA X es (tDA X.K st ow rs ow')
abbrev PSD (X : Cx) (st : Sta) (ow : List OB) (s : Stmt) (o : Out) : Prop := PS X s (tDS X.K st ow o)
abbrev PBD (X : Cx) (st : Sta) (ow : List OB) (ss : List Stmt) (o : Out) : Prop := PSs X ss (tDS X.K st ow o)
section
variable {X : Cx} {e a b c : Expr} {st : Sta} {ow ow1 ow2 ow3 : List OB} {r : R} {pos : Pos}
theorem _root_.L2.PE.imp {t t' : TE} (h : PE X e t) (f : ∀ σ H Q, t' σ H Q → t σ H Q) : PE X e t' := ⟨fun pins s σ H Q I z => h.run pins s σ H Q I (f σ H Q z)⟩
theorem _root_.L2.PT.imp {t t' : TT} (h : PT X e t) (f : ∀ σ H Q, t' σ H Q → t σ H Q) : PT X e t' := ⟨fun pins s σ H Q I z => h.run pins s σ H Q I (f σ H Q z)⟩
theorem _root_.L2.PA.imp {es : List Expr} {t t' : TA} (h : PA X es t) (f : ∀ σ H Q, t' σ H Q → t σ H Q) : PA X es t' := ⟨fun cpos pins s σ H Q I z => h.run cpos pins s σ H Q I (f σ H Q z)⟩
theorem _root_.L2.PS.imp {s : Stmt} {t t' : TS} (h : PS X s t) (f : ∀ E σ H, t' E σ H → t E σ H) : PS X s t' := ⟨fun pins s σ H E I z => h.run pins s σ H E I (f E σ H z)⟩
theorem _root_.L2.PSs.imp {s : List Stmt} {t t' : TS} (h : PSs X s t) (f : ∀ E σ H, t' E σ H → t E σ H) : PSs X s t' := ⟨fun pins s σ H E I z => h.run pins s σ H E I (f E σ H z)⟩
/-! ### leaves -/
theorem pd_var (i : Nat) {x : Str} (h : st[i]? = some (some r) := by rfl) (hN : X.N[i]? = some x := by rfl) (hv : Vis X.env.scope x := by first | exact Or.inl rfl | exact Or.inr (Or.inl rfl) | exact Or.inr (Or.inr rfl)) (hd : (x == ("__debug__" : Str)) = false := by decide)
    (hcd : (x == ("__classdict__" : Str)) = false := by decide) : PD X st ow (.Name x pos) r ow :=
  (pv i hN hv hd hcd).imp fun σ H Q ⟨S, sl, o, q⟩ => let ⟨v, h1, h2⟩ := sl.sl i r h; ⟨v, h1, q S v H (.refl S H) o h2⟩
theorem pd_c {v : V} {d : D} (h : PE X e (tC v)) (hd : scV d = some v) : PD X st ow e (.d d) ow :=
  h.imp fun σ H Q ⟨S, sl, o, q⟩ => q S v H (.refl S H) o (.d (by
    cases d <;> first | (cases hd; constructor) | cases hd))
theorem pd_int {i : Int} {j : Nat} : PD X st ow (.Constant (.int i) j pos) (.d (.int i)) ow := pd_c pe_int rfl
theorem pd_bl {i : Bool} {j : Nat} : PD X st ow (.Constant (.bool i) j pos) (.d (.bl i)) ow := pd_c pe_bl rfl
theorem pd_non {j : Nat} : PD X st ow (.Constant .none j pos) (.d .non) ow := pd_c pe_non rfl
theorem pd_str {x : Str} {j : Nat} : PD X st ow (.Constant (.str x) j pos) (.d (.str x)) ow := pd_c pe_str rfl
/-- a module's constant -/
theorem pd_glob {x : Str} {v : V} {d : D} {u : Value} (hg : Gl X x) (hm : X.mg x = some u) (r : RelV v u) (hd : scV d = some v) (h1 : (x == ("__debug__" : Str)) = false := by decide) : PD X st ow (.Name x pos) (.d d) ow := pd_c (pe_glob hg hm r h1) hd
/-! ### operators -/
def RD (K : PySem.W.Frag) (r : R2) (x y z : D) : Prop := ∀ S H ow vx vy (Q : VK), Owns K S H ow → Den K S H vx x → Den K S H vy y → (∀ v H', Evl.Ex H H' → Den K S H' v z → Q v H') → r vx vy H Q
def RU (K : PySem.W.Frag) (r : V → Hp → VK → Prop) (x z : D) : Prop := ∀ S H ow vx (Q : VK), Owns K S H ow → Den K S H vx x → (∀ v H', Evl.Ex H H' → Den K S H' v z → Q v H') → r vx H Q
theorem td_op {rr : R2} {x y z : D} (hr : RD X.K rr x y z) (σ : L2.St) (H : Hp) (Q : VK) (h : tD X.K st ow (.d z) ow2 σ H Q) : tOp rr (tD X.K st ow (.d x) ow1) (tD X.K st ow1 (.d y) ow2) σ H Q := by
  obtain ⟨S, sl, o, q⟩ := h
  refine ⟨S, sl, o, fun S1 v1 H1 f1 o1 d1 => ⟨S1, f1.slots sl, o1, fun S2 v2 H2 f2 o2 d2 => ?_⟩⟩
  cases d1 with
  | d d1 =>
    cases d2 with
    | d d2 => exact hr S2 H2 ow2 v1 v2 Q o2 (f2.den d1) d2 fun v H' e d => q S2 v H' (f1.trans o1 (f2.trans o2 (.of e))) (o2.ex e) (.d d)
theorem td_un {rr : V → Hp → VK → Prop} {x z : D} (hr : RU X.K rr x z) (σ : L2.St) (H : Hp) (Q : VK) (h : tD X.K st ow (.d z) ow1 σ H Q) : tUn rr (tD X.K st ow (.d x) ow1) σ H Q := by
  obtain ⟨S, sl, o, q⟩ := h
  refine ⟨S, sl, o, fun S1 v1 H1 f1 o1 d1 => ?_⟩
  cases d1 with
  | d d1 => exact hr S1 H1 ow1 v1 Q o1 d1 fun v H' e d => q S1 v H' (f1.trans o1 (.of e)) (o1.ex e) (.d d)
theorem pd_op {rr : R2} {op : Operator} {x y z : D} (ho : OpR X (binaryOp op) rr) (hr : RD X.K rr x y z) (ha : PD X st ow a (.d x) ow1) (hb : PD X st ow1 b (.d y) ow2) : PD X st ow (.BinOp a op b pos) (.d z) ow2 := (pe_op ho ha hb).imp (td_op hr)
theorem pd_un {rr : V → Hp → VK → Prop} {op : UnaryOp} {x z : D} (ho : UnR X (unaryOp op) rr) (hr : RU X.K rr x z) (ha : PD X st ow a (.d x) ow1) : PD X st ow (.UnaryOp op a pos) (.d z) ow1 := (pe_un ho ha).imp (td_un hr)
theorem pd_cmp {rr : R2} {op : CmpOp} {x y z : D} (ho : OpR X (compareOp op) rr) (hm : behindInMarks op b = false) (hr : RD X.K rr x y z) (ha : PD X st ow a (.d x) ow1) (hb : PD X st ow1 b (.d y) ow2) : PD X st ow (.Compare a [op] [b] pos) (.d z) ow2 := (pe_cmpR ho ha hb hm).imp (td_op hr)
theorem pd_ix {rr : R2} {x y z : D} (ho : IxR X rr) (hs : PlainIx b) (hr : RD X.K rr x y z) (ha : PD X st ow a (.d x) ow1) (hb : PD X st ow1 b (.d y) ow2) : PD X st ow (.Subscript a b pos) (.d z) ow2 := (pe_ix ho ha hb hs).imp (td_op hr)
theorem den_sc {K : PySem.W.Frag} {S : List Addr} {H : Hp} {v : V} {d : D} (hd : scV d = some v) : Den K S H v d := by
  cases d <;> first | (cases hd; constructor) | cases hd
theorem rd_I0 {K : PySem.W.Frag} {g : Int → Int → V} {i j : Int} {z : D} (h : scV z = some (g i j)) : RD K (rI0 g) (.int i) (.int j) z := fun S H ow vx vy Q o hx hy q => ⟨i, j, hx.of_int, hy.of_int, q _ H (Evl.Ex.refl H) (den_sc h)⟩
theorem rd_I {K : PySem.W.Frag} {C : Int → Int → Prop} {g : Int → Int → V} {i j : Int} {z : D} (hc : C i j) (h : scV z = some (g i j)) : RD K (rI C g) (.int i) (.int j) z := fun S H ow vx vy Q o hx hy q => ⟨i, j, hx.of_int, hy.of_int, hc, q _ H (Evl.Ex.refl H) (den_sc h)⟩
variable {i j : Int}
theorem pd_add (ha : PD X st ow a (.d (.int i)) ow1) (hb : PD X st ow1 b (.d (.int j)) ow2) : PD X st ow (.BinOp a .Add b pos) (.d (.int (i + j))) ow2 := pd_op op_add (rd_I0 rfl) ha hb
theorem pd_sub (ha : PD X st ow a (.d (.int i)) ow1) (hb : PD X st ow1 b (.d (.int j)) ow2) : PD X st ow (.BinOp a .Sub b pos) (.d (.int (i - j))) ow2 := pd_op op_sub (rd_I0 rfl) ha hb
theorem pd_mul (ha : PD X st ow a (.d (.int i)) ow1) (hb : PD X st ow1 b (.d (.int j)) ow2) (hc : CMul i j) : PD X st ow (.BinOp a .Mult b pos) (.d (.int (i * j))) ow2 := pd_op op_mul (rd_I hc rfl) ha hb
theorem pd_mod (ha : PD X st ow a (.d (.int i)) ow1) (hb : PD X st ow1 b (.d (.int j)) ow2) (hc : 0 < j) : PD X st ow (.BinOp a .Mod b pos) (.d (.int (i % j))) ow2 := pd_op op_mod (rd_I hc rfl) ha hb
theorem pd_fdiv (ha : PD X st ow a (.d (.int i)) ow1) (hb : PD X st ow1 b (.d (.int j)) ow2) (hc : CDiv i j) : PD X st ow (.BinOp a .FloorDiv b pos) (.d (.int (i / j))) ow2 := pd_op op_fdiv (rd_I hc rfl) ha hb
theorem pd_pow (ha : PD X st ow a (.d (.int i)) ow1) (hb : PD X st ow1 b (.d (.int j)) ow2) (hc : CPow i j) : PD X st ow (.BinOp a .Pow b pos) (.d (.int (i ^ j.toNat))) ow2 := pd_op op_pow (rd_I hc rfl) ha hb
theorem pd_le (ha : PD X st ow a (.d (.int i)) ow1) (hb : PD X st ow1 b (.d (.int j)) ow2) : PD X st ow (.Compare a [.LtE] [b] pos) (.d (.bl (decide (i ≤ j)))) ow2 := pd_cmp op_le (nomark _) (rd_I0 rfl) ha hb
theorem pd_gt (ha : PD X st ow a (.d (.int i)) ow1) (hb : PD X st ow1 b (.d (.int j)) ow2) : PD X st ow (.Compare a [.Gt] [b] pos) (.d (.bl (decide (j < i)))) ow2 := pd_cmp op_gt (nomark _) (rd_I0 rfl) ha hb
theorem pd_ge (ha : PD X st ow a (.d (.int i)) ow1) (hb : PD X st ow1 b (.d (.int j)) ow2) : PD X st ow (.Compare a [.GtE] [b] pos) (.d (.bl (decide (j ≤ i)))) ow2 := pd_cmp op_ge (nomark _) (rd_I0 rfl) ha hb
theorem rd_eq {K : PySem.W.Frag} {x y : D} {v w : V} (hx : scV x = some v) (hy : scV y = some w) (h : scal v w = true) : RD K rEq x y (.bl (decide (v = w))) := fun S H ow vx vy Q o dx dy q => by
  rw [dx.sc hx, dy.sc hy]
  exact ⟨h, q _ H (Evl.Ex.refl H) (.bl _)⟩
theorem rd_ne {K : PySem.W.Frag} {x y : D} {v w : V} (hx : scV x = some v) (hy : scV y = some w) (h : scal v w = true) : RD K rNe x y (.bl (!decide (v = w))) := fun S H ow vx vy Q o dx dy q => by
  rw [dx.sc hx, dy.sc hy]
  exact ⟨h, q _ H (Evl.Ex.refl H) (.bl _)⟩
/-- == of scalars -/
theorem pd_eq {x y : D} {v w : V} (ha : PD X st ow a (.d x) ow1) (hb : PD X st ow1 b (.d y) ow2) (hx : scV x = some v := by rfl) (hy : scV y = some w := by rfl) (h : scal v w = true := by rfl) : PD X st ow (.Compare a [.Eq] [b] pos) (.d (.bl (decide (v = w)))) ow2 := pd_cmp op_eq (nomark _) (rd_eq hx hy h) ha hb
theorem pd_ne {x y : D} {v w : V} (ha : PD X st ow a (.d x) ow1) (hb : PD X st ow1 b (.d y) ow2) (hx : scV x = some v := by rfl) (hy : scV y = some w := by rfl) (h : scal v w = true := by rfl) : PD X st ow (.Compare a [.NotEq] [b] pos) (.d (.bl (!decide (v = w)))) ow2 := pd_cmp op_ne (nomark _) (rd_ne hx hy h) ha hb
/-- is None: asked of any data -/
def nonD : D → Bool
  | .non => true
  | _ => false
theorem nonD_v {K : PySem.W.Frag} {S : List Addr} {H : Hp} {v : V} {x : D} (h : Den K S H v x) : decide (v = .non) = nonD x := by
  cases h <;> first | rfl | exact decide_eq_false (fun z => nomatch z)
theorem pd_isN {x : D} (ha : PD X st ow a (.d x) ow1) (hb : PD X st ow1 b (.d .non) ow2) : PD X st ow (.Compare a [.Is] [b] pos) (.d (.bl (nonD x))) ow2 := pd_cmp op_isN (nomark _) (fun S H ow vx vy Q o dx dy q => by
  cases dy
  refine ⟨rfl, q _ H (Evl.Ex.refl H) ?_⟩
  rw [nonD_v dx]
  exact .bl _) ha hb
theorem pd_neg (ha : PD X st ow a (.d (.int i)) ow1) : PD X st ow (.UnaryOp .USub a pos) (.d (.int (-i))) ow1 := pd_un un_neg (fun S H ow vx Q o dx q => ⟨i, dx.of_int, q _ H (Evl.Ex.refl H) (.int _)⟩) ha
/-! ### tests, and / or / not -/
variable {p q : Bool}
theorem ptd_val (h : PD X st ow e (.d (.bl p)) ow1) (he : ∀ whole, isTrue e X.env whole = (do let v ← whole; standAt e.pos; holding [v] (truthy v)) := by intro _; rfl) : PTD X st ow e p ow1 := (pt_val h he).imp fun σ H Q ⟨S, sl, o, k⟩ => ⟨S, sl, o, fun S1 v H1 f o1 d => by
  cases d with
  | d d => exact ⟨p, d.of_bl, k S1 H1 f o1⟩⟩
theorem ptd_cmp {rr : R2} {op : CmpOp} {x y : D} (ho : OpR X (compareOp op) rr) (hm : behindInMarks op b = false) (hr : RD X.K rr x y (.bl p)) (ha : PD X st ow a (.d x) ow1) (hb : PD X st ow1 b (.d y) ow2) : PTD X st ow (.Compare a [op] [b] pos) p ow2 :=
  (pt_cmpR ho ha hb hm).imp fun σ H Q ⟨S, sl, o, k⟩ => td_op hr σ H (fun x H' => ∃ k, x = .bl k ∧ Q k H') ⟨S, sl, o, fun S1 v H1 f o1 d => by
    cases d with
    | d d => exact ⟨p, d.of_bl, k S1 H1 f o1⟩⟩
theorem ptd_lt (ha : PD X st ow a (.d (.int i)) ow1) (hb : PD X st ow1 b (.d (.int j)) ow2) : PTD X st ow (.Compare a [.Lt] [b] pos) (decide (i < j)) ow2 := ptd_cmp op_lt (nomark _) (rd_I0 rfl) ha hb
theorem ptd_le (ha : PD X st ow a (.d (.int i)) ow1) (hb : PD X st ow1 b (.d (.int j)) ow2) : PTD X st ow (.Compare a [.LtE] [b] pos) (decide (i ≤ j)) ow2 := ptd_cmp op_le (nomark _) (rd_I0 rfl) ha hb
theorem ptd_gt (ha : PD X st ow a (.d (.int i)) ow1) (hb : PD X st ow1 b (.d (.int j)) ow2) : PTD X st ow (.Compare a [.Gt] [b] pos) (decide (j < i)) ow2 := ptd_cmp op_gt (nomark _) (rd_I0 rfl) ha hb
theorem ptd_ge (ha : PD X st ow a (.d (.int i)) ow1) (hb : PD X st ow1 b (.d (.int j)) ow2) : PTD X st ow (.Compare a [.GtE] [b] pos) (decide (j ≤ i)) ow2 := ptd_cmp op_ge (nomark _) (rd_I0 rfl) ha hb
theorem ptd_eq {x y : D} {v w : V} (ha : PD X st ow a (.d x) ow1) (hb : PD X st ow1 b (.d y) ow2) (hx : scV x = some v := by rfl) (hy : scV y = some w := by rfl) (h : scal v w = true := by rfl) : PTD X st ow (.Compare a [.Eq] [b] pos) (decide (v = w)) ow2 := ptd_cmp op_eq (nomark _) (rd_eq hx hy h) ha hb
theorem ptd_ne {x y : D} {v w : V} (ha : PD X st ow a (.d x) ow1) (hb : PD X st ow1 b (.d y) ow2) (hx : scV x = some v := by rfl) (hy : scV y = some w := by rfl) (h : scal v w = true := by rfl) : PTD X st ow (.Compare a [.NotEq] [b] pos) (!decide (v = w)) ow2 := ptd_cmp op_ne (nomark _) (rd_ne hx hy h) ha hb
theorem ptd_isN {x : D} (ha : PD X st ow a (.d x) ow1) (hb : PD X st ow1 b (.d .non) ow2) : PTD X st ow (.Compare a [.Is] [b] pos) (nonD x) ow2 := ptd_cmp op_isN (nomark _) (fun S H ow vx vy Q o dx dy q => by
  cases dy
  refine ⟨rfl, q _ H (Evl.Ex.refl H) ?_⟩
  rw [nonD_v dx]
  exact .bl _) ha hb
theorem ptd_notN {x : D} (ha : PD X st ow a (.d x) ow1) (hb : PD X st ow1 b (.d .non) ow2) : PTD X st ow (.Compare a [.IsNot] [b] pos) (!nonD x) ow2 := ptd_cmp op_notN (nomark _) (fun S H ow vx vy Q o dx dy q => by
  cases dy
  refine ⟨rfl, q _ H (Evl.Ex.refl H) ?_⟩
  rw [nonD_v dx]
  exact .bl _) ha hb
/-- a < b < c: c is asked where the first holds -/
theorem pd_chain {rr rr' : R2} {op op' : CmpOp} {x y z : D} (ho : OpR X (compareOp op) rr) (ho' : OpR X (compareOp op') rr') (hr : RD X.K rr x y (.bl p)) (hr' : RD X.K rr' y z (.bl q)) (ha : PD X st ow a (.d x) ow) (hb : PD X st ow b (.d y) ow) (hc : PD X st ow c (.d z) ow) (hm : lastMarks [op, op'] [b, c] = false := by rfl) :
    PD X st ow (.Compare a [op, op'] [b, c] pos) (.d (.bl (p && q))) ow := by
  refine (pe_chain ho ho' ha hb hc hm).imp fun σ H Q ⟨S, sl, o, k⟩ => ⟨S, sl, o, fun S1 v1 H1 f1 o1 d1 => ⟨S1, f1.slots sl, o1, fun S2 v2 H2 f2 o2 d2 => ?_⟩⟩
  cases d1 with
  | d d1 =>
    cases d2 with
    | d d2 =>
      refine hr S2 H2 ow v1 v2 _ o2 (f2.den d1) d2 fun v H3 e d => ⟨p, d.of_bl, ?_⟩
      have f3 : Fwd S H S2 H3 := f1.trans o1 (f2.trans o2 (.of e))
      cases p with
      | true =>
        refine iteT ⟨S2, f3.slots sl, o2.ex e, fun S4 v4 H4 f4 o4 d4 => ?_⟩
        cases d4 with
        | d d4 => exact hr' S4 H4 ow v2 v4 Q o4 (f4.den (d2.mono (.of e))) d4 fun v H5 e5 d5 => k S4 v H5 (f3.trans (o2.ex e) (f4.trans o4 (.of e5))) (o4.ex e5) (.d d5)
      | false => exact iteF (k S2 _ H3 f3 (o2.ex e) (.d (.bl _)))
theorem ptd_chain {rr rr' : R2} {op op' : CmpOp} {x y z : D} (ho : OpR X (compareOp op) rr) (ho' : OpR X (compareOp op') rr') (hr : RD X.K rr x y (.bl p)) (hr' : RD X.K rr' y z (.bl q)) (ha : PD X st ow a (.d x) ow) (hb : PD X st ow b (.d y) ow) (hc : PD X st ow c (.d z) ow) (hm : lastMarks [op, op'] [b, c] = false := by rfl) :
    PTD X st ow (.Compare a [op, op'] [b, c] pos) (p && q) ow := by
  refine (pt_chain ho ho' ha hb hc hm).imp fun σ H Q ⟨S, sl, o, k⟩ => ⟨S, sl, o, fun S1 v1 H1 f1 o1 d1 => ⟨S1, f1.slots sl, o1, fun S2 v2 H2 f2 o2 d2 => ?_⟩⟩
  cases d1 with
  | d d1 =>
    cases d2 with
    | d d2 =>
      refine hr S2 H2 ow v1 v2 _ o2 (f2.den d1) d2 fun v H3 e d => ⟨p, d.of_bl, ?_⟩
      have f3 : Fwd S H S2 H3 := f1.trans o1 (f2.trans o2 (.of e))
      cases p with
      | true =>
        refine iteT ⟨S2, f3.slots sl, o2.ex e, fun S4 v4 H4 f4 o4 d4 => ?_⟩
        cases d4 with
        | d d4 => exact hr' S4 H4 ow v2 v4 _ o4 (f4.den (d2.mono (.of e))) d4 fun v H5 e5 d5 => ⟨_, d5.of_bl, k S4 H5 (f3.trans (o2.ex e) (f4.trans o4 (.of e5))) (o4.ex e5)⟩
      | false => exact iteF ⟨_, rfl, k S2 H3 f3 (o2.ex e)⟩
abbrev PWD (X : Cx) (st : Sta) (ow : List OB) (e : Expr) (b : Bool) (ow' : List OB) : Prop := PW X e (tDT X.K st ow b ow')
theorem _root_.L2.PW.imp {t t' : TT} (h : PW X e t) (f : ∀ σ H Q, t' σ H Q → t σ H Q) : PW X e t' := ⟨fun wh pins s σ H Q I z => h.run wh pins s σ H Q I (f σ H Q z)⟩
variable {rest : List Expr}
theorem pwd_and1 (ha : PTD X st ow a p ow1) : PWD X st ow (.BoolOp .And [a] pos) p ow1 := pw_and1 ha
theorem pwd_or1 (ha : PTD X st ow a p ow1) : PWD X st ow (.BoolOp .Or [a] pos) p ow1 := pw_or1 ha
theorem never_w {e : Expr} {X : Cx} : PW X e (fun _ _ _ => False) := ⟨fun _ _ _ _ _ _ _ z => z.elim⟩
theorem never_e {e : Expr} {X : Cx} : PE X e (fun _ _ _ => False) := ⟨fun _ _ _ _ _ _ z => z.elim⟩
theorem pwd_and (ha : PTD X st ow a p ow) (hb : p = true → PWD X st ow (.BoolOp .And (b :: rest) pos) q ow) : PWD X st ow (.BoolOp .And (a :: b :: rest) pos) (p && q) ow := by
  cases p with
  | true => exact (pw_and ha (hb rfl)).imp fun σ H Q ⟨S, sl, o, k⟩ => ⟨S, sl, o, fun S1 H1 f o1 => iteT ⟨S1, f.slots sl, o1, fun S2 H2 f2 o2 => k S2 H2 (f.trans o1 f2) o2⟩⟩
  | false => exact (pw_and ha never_w).imp fun σ H Q ⟨S, sl, o, k⟩ => ⟨S, sl, o, fun S1 H1 f o1 => iteF (k S1 H1 f o1)⟩
theorem pwd_or (ha : PTD X st ow a p ow) (hb : p = false → PWD X st ow (.BoolOp .Or (b :: rest) pos) q ow) : PWD X st ow (.BoolOp .Or (a :: b :: rest) pos) (p || q) ow := by
  cases p with
  | false => exact (pw_or ha (hb rfl)).imp fun σ H Q ⟨S, sl, o, k⟩ => ⟨S, sl, o, fun S1 H1 f o1 => iteF ⟨S1, f.slots sl, o1, fun S2 H2 f2 o2 => k S2 H2 (f.trans o1 f2) o2⟩⟩
  | true => exact (pw_or ha never_w).imp fun σ H Q ⟨S, sl, o, k⟩ => ⟨S, sl, o, fun S1 H1 f o1 => iteT (k S1 H1 f o1)⟩
theorem ptd_bool {op : BoolOp} {es : List Expr} (h : PWD X st ow (.BoolOp op es pos) p ow1) : PTD X st ow (.BoolOp op es pos) p ow1 := PW.pt h
theorem pd_one {op : BoolOp} (h : PD X st ow a r ow1) : PD X st ow (.BoolOp op [a] pos) r ow1 := pe_one h
theorem pd_and (ha : PD X st ow a (.d (.bl p)) ow) (hb : p = true → PD X st ow (.BoolOp .And (b :: rest) pos) (.d (.bl q)) ow) : PD X st ow (.BoolOp .And (a :: b :: rest) pos) (.d (.bl (p && q))) ow := by
  cases p with
  | true => exact (pe_and ha (hb rfl)).imp fun σ H Q ⟨S, sl, o, k⟩ => ⟨S, sl, o, fun S1 v H1 f o1 d => by
      cases d with
      | d d => exact ⟨true, d.of_bl, iteT ⟨S1, f.slots sl, o1, fun S2 v2 H2 f2 o2 d2 => k S2 v2 H2 (f.trans o1 f2) o2 d2⟩⟩⟩
  | false => exact (pe_and ha never_e).imp fun σ H Q ⟨S, sl, o, k⟩ => ⟨S, sl, o, fun S1 v H1 f o1 d => by
      cases d with
      | d d => exact ⟨false, d.of_bl, iteF (k S1 _ H1 f o1 (.d (.bl _)))⟩⟩
theorem pd_or (ha : PD X st ow a (.d (.bl p)) ow) (hb : p = false → PD X st ow (.BoolOp .Or (b :: rest) pos) (.d (.bl q)) ow) : PD X st ow (.BoolOp .Or (a :: b :: rest) pos) (.d (.bl (p || q))) ow := by
  cases p with
  | false => exact (pe_or ha (hb rfl)).imp fun σ H Q ⟨S, sl, o, k⟩ => ⟨S, sl, o, fun S1 v H1 f o1 d => by
      cases d with
      | d d => exact ⟨false, d.of_bl, iteF ⟨S1, f.slots sl, o1, fun S2 v2 H2 f2 o2 d2 => k S2 v2 H2 (f.trans o1 f2) o2 d2⟩⟩⟩
  | true => exact (pe_or ha never_e).imp fun σ H Q ⟨S, sl, o, k⟩ => ⟨S, sl, o, fun S1 v H1 f o1 d => by
      cases d with
      | d d => exact ⟨true, d.of_bl, iteT (k S1 _ H1 f o1 (.d (.bl _)))⟩⟩
theorem ptd_not (h : PTD X st ow a p ow1) : PTD X st ow (.UnaryOp .Not a pos) (!p) ow1 := (pt_not h).imp fun σ H Q ⟨S, sl, o, k⟩ => ⟨S, sl, o, fun S1 H1 f o1 => k S1 H1 f o1⟩
theorem pd_not (h : PD X st ow a (.d (.bl p)) ow1) : PD X st ow (.UnaryOp .Not a pos) (.d (.bl (!p))) ow1 := (pe_not h).imp fun σ H Q ⟨S, sl, o, k⟩ => ⟨S, sl, o, fun S1 v H1 f o1 d => by
  cases d with
  | d d => exact ⟨p, d.of_bl, k S1 _ H1 f o1 (.d (.bl _))⟩⟩
end
end Bl
set_option Elab.async false
set_option linter.all false
set_option maxRecDepth 100000
set_option maxHeartbeats 4000000
namespace Bl
open PySem PySem.Spec PyProof.Rows L2
section
variable {X : Cx} {e a b c o : Expr} {es : List Expr} {st st1 st2 : Sta} {ow ow1 ow2 ow3 : List OB} {r : R} {rs : List R} {d x y z : D} {ds : List D} {pos p : Pos}
/-! ### arguments, displays -/
theorem pad_nil : PAD X st ow [] [] ow := (pa_nil).imp fun σ H Q ⟨S, sl, o, k⟩ => k S [] H (.refl S H) o .nil
theorem pad_cons (ha : PD X st ow e r ow1) (hr : PAD X st ow1 es rs ow2) (hs : starEach (e :: es) X.env = (false, eval e X.env) :: starEach es X.env := by rfl) : PAD X st ow (e :: es) (r :: rs) ow2 :=
  (pa_cons ha hr hs).imp fun σ H Q ⟨S, sl, o, k⟩ => ⟨S, sl, o, fun S1 v H1 f1 o1 d1 => ⟨S1, f1.slots sl, o1, fun S2 vs H2 f2 o2 d2 => k S2 _ H2 (f1.trans o1 f2) o2 (.cons (f2.denR d1) d2)⟩⟩
abbrev PADd (X : Cx) (st : Sta) (ow : List OB) (es : List Expr) (ds : List D) (ow' : List OB) : Prop := PAD X st ow es (ds.map R.d) ow'
theorem padd_nil : PADd X st ow [] [] ow := pad_nil
theorem padd_cons (ha : PD X st ow e (.d d) ow1) (hr : PADd X st ow1 es ds ow2) (hs : starEach (e :: es) X.env = (false, eval e X.env) :: starEach es X.env := by rfl) : PADd X st ow (e :: es) (d :: ds) ow2 := pad_cons ha hr hs
theorem densOf {K : PySem.W.Frag} {S : List Addr} {H : Hp} : ∀ {ds : List D} {vs : List V}, DenRs K S H vs (ds.map R.d) → Dens K S H vs ds
  | [], [], _ => .nil
  | [], _ :: _, h => nomatch h
  | _ :: _, [], h => nomatch h
  | d :: ds, v :: vs, h => by
    have h' : DenRs K S H (v :: vs) (R.d d :: ds.map R.d) := h
    cases h' with
    | cons h t =>
      cases h with
      | d h => exact .cons h (densOf t)
/-- *e at the end of a display -/
theorem padd_star {l : List D} {dd : D} {sp : Pos} (ha : PD X st ow e (.d dd) ow1) (hr : PADd X st ow1 es ds ow2) (hl : tupL dd = some l := by rfl) (hs : starEach (.Starred e sp :: es) X.env = (true, eval e X.env) :: starEach es X.env := by rfl) : PADd X st ow (.Starred e sp :: es) (l ++ ds) ow2 := by
  refine (StX.pa_star ha hr hs).imp fun σ H Q ⟨S, sl, o, k⟩ => ⟨S, sl, o, fun S1 v H1 f1 o1 d1 => ?_⟩
  cases d1 with
  | d d1 =>
    obtain ⟨a, xs, rfl, h1, h2⟩ := d1.of_tup hl
    refine ⟨a, xs, rfl, .inl h1, S1, f1.slots sl, o1, fun S2 vs H2 f2 o2 d2 => k S2 _ H2 (f1.trans o1 f2) o2 ?_⟩
    have d3 := densOf d2
    have d4 : Dens X.K S2 H2 (xs ++ vs) (l ++ ds) := Dens.append (f2.den h2) d3
    have back : ∀ {ds : List D} {vs : List V}, Dens X.K S2 H2 vs ds → DenRs X.K S2 H2 vs (ds.map R.d) := by
      intro ds
      induction ds with
      | nil =>
        intro vs h
        cases h
        exact .nil
      | cons d ds ih =>
        intro vs h
        cases vs with
        | nil => cases h
        | cons v vs => exact .cons (.d h.uncons.1) (ih h.uncons.2)
    exact back d4
theorem pd_tup {k : Nat} (ha : PADd X st ow es ds ow1) (hl : ds.length ≤ 100000 := by first | decide | (simp; done) | assumption) : PD X st ow (.Tuple es k pos) (.d (.tup ds)) ow1 :=
  (pe_tup ha).imp fun σ H Q ⟨S, sl, o, k⟩ => ⟨S, sl, o, fun S1 vs H1 f1 o1 d1 => by
    have d2 := densOf d1
    refine ⟨by rw [d2.length]; exact Evl.sz_of hl, fun p hp => k S1 _ _ (f1.trans o1 (.of (Evl.Ex.new hp))) (o1.ex (Evl.Ex.new hp)) (.d (new_tup o1 hp d2))⟩⟩
theorem pd_tupN {k : Nat} (ha : PADd X st ow es ds ow1) (hl : ds.length ≤ 100000 := by first | decide | (simp; done) | assumption) : PD X st ow (.Tuple es k pos) (.d (.tupN ds)) ow1 :=
  (pe_tupF ha).imp fun σ H Q ⟨S, sl, o, k⟩ => ⟨S, sl, o, fun S1 vs H1 f1 o1 d1 => by
    have d2 := densOf d1
    refine ⟨by rw [d2.length]; exact Evl.sz_of hl, fun p ob hd hp => k S1 _ _ (f1.trans o1 (.of (Evl.Ex.new hp))) (o1.ex (Evl.Ex.new hp)) (.d (new_tupN o1 hp hd d2))⟩⟩
theorem pd_lst (ha : PADd X st ow es ds ow1) (hl : ds.length ≤ 100000 := by first | decide | (simp; done) | assumption) : PD X st ow (.List es pos) (.d (.lst ds)) ow1 :=
  (pe_lst ha).imp fun σ H Q ⟨S, sl, o, k⟩ => ⟨S, sl, o, fun S1 vs H1 f1 o1 d1 => by
    have d2 := densOf d1
    refine ⟨by rw [d2.length]; exact Evl.sz_of hl, fun p hp => k S1 _ _ (f1.trans o1 (.of (Evl.Ex.new hp))) (o1.ex (Evl.Ex.new hp)) (.d (new_lst o1 hp d2))⟩⟩
/-- a new thing at p becomes one of the mutable ones -/
theorem own_newB {K : PySem.W.Frag} {S : List Addr} {H : Hp} {q : Addr} {u : HO} {b : OB} (o : Owns K S H ow) (hp : H q = none) (r : ObAt K (S ++ [q]) (upd H q u) q b) :
    Fwd S H (S ++ [q]) (upd H q u) ∧ Owns K (S ++ [q]) (upd H q u) (ow ++ [b]) ∧ DenR K (S ++ [q]) (upd H q u) (.ref q) (.own ow.length) := by
  have f : Fwd S H (S ++ [q]) (upd H q u) := ⟨⟨[q], rfl, fun p hm => by rw [List.mem_singleton.mp hm]; exact hp⟩, .of (Evl.Ex.new hp)⟩
  have hl := o.len
  refine ⟨f, ⟨by rw [List.length_append, List.length_append, hl] <;> rfl, ?_, fun k l e => ?_⟩, .own ?_⟩
  · rw [List.nodup_append]
    refine ⟨o.nd, by simp, fun a ha b hb => ?_⟩
    rw [List.mem_singleton.mp hb]
    rintro rfl
    exact o.nin hp ha
  · by_cases hk : k < ow.length
    · rw [List.getElem?_append_left hk] at e
      obtain ⟨a, z, y⟩ := o.ob k l e
      exact ⟨a, f.get z, (y.more (fun a => f.mem) (fun k a => f.get)).keep f.exS fun u hu => (Evl.Ex.new hp) _ _ hu⟩
    · by_cases hk2 : k = ow.length
      · subst hk2
        rw [List.getElem?_append_right (Nat.le_refl _), Nat.sub_self] at e
        cases e
        exact ⟨q, by rw [List.getElem?_append_right (by omega), hl, Nat.sub_self] <;> rfl, r⟩
      · rw [List.getElem?_eq_none (by rw [List.length_append]; simp; omega)] at e
        cases e
  · rw [List.getElem?_append_right (by omega), hl, Nat.sub_self] <;> rfl
theorem own_new {K : PySem.W.Frag} {S : List Addr} {H : Hp} {q : Addr} {xs : List V} (o : Owns K S H ow) (hp : H q = none) (r : Dens K S H xs ds) :
    Fwd S H (S ++ [q]) (upd H q (.lst xs)) ∧ Owns K (S ++ [q]) (upd H q (.lst xs)) (ow ++ [.l ds]) ∧ DenR K (S ++ [q]) (upd H q (.lst xs)) (.ref q) (.own ow.length) := by
  have f : Fwd S H (S ++ [q]) (upd H q (.lst xs)) := ⟨⟨[q], rfl, fun p hm => by rw [List.mem_singleton.mp hm]; exact hp⟩, .of (Evl.Ex.new hp)⟩
  exact own_newB o hp (.l upd_same (f.den r))
theorem pd_lstO (ha : PADd X st ow es ds ow1) (hl : ds.length ≤ 100000 := by first | decide | (simp; done) | assumption) : PD X st ow (.List es pos) (.own ow1.length) (ow1 ++ [.l ds]) :=
  (pe_lst ha).imp fun σ H Q ⟨S, sl, o, k⟩ => ⟨S, sl, o, fun S1 vs H1 f1 o1 d1 => by
    have d2 := densOf d1
    refine ⟨by rw [d2.length]; exact Evl.sz_of hl, fun p hp => ?_⟩
    obtain ⟨g1, g2, g3⟩ := own_new o1 hp d2
    exact k _ _ _ (f1.trans o1 g1) g2 g3⟩
/-- what a dict of mutable lists names stays below -/
def KeepG (ow ow1 : List OB) : Prop := (∀ gs, OB.g gs ∈ ow1 → OB.g gs ∈ ow) ∧ ∀ gs, OB.r gs ∈ ow1 → OB.r gs ∈ ow
theorem paired_mem {α β : Type} {F : α → β → Prop} {y : β} : ∀ {l : List α} {m : List β}, Paired F l m → y ∈ m → ∃ x, x ∈ l ∧ F x y
  | _, _, .nil, h => nomatch h
  | _, _, .cons r t, h => by
    rcases List.mem_cons.mp h with rfl | h
    · exact ⟨_, List.mem_cons_self, r⟩
    · obtain ⟨x, hx, q⟩ := paired_mem t h
      exact ⟨x, List.mem_cons_of_mem _ hx, q⟩
theorem paired_map {α β : Type} {F G : α → β → Prop} : ∀ {l : List α} {m : List β}, Paired F l m → (∀ x y, y ∈ m → F x y → G x y) → Paired G l m
  | _, _, .nil, _ => .nil
  | _, _, .cons r t, h => .cons (h _ _ List.mem_cons_self r) (paired_map t fun x y hy => h x y (List.mem_cons_of_mem _ hy))
/-- the last mutable thing is let go -/
theorem drop_lastB {K : PySem.W.Frag} {S S' : List Addr} {H H' : Hp} {b : OB} (f : Fwd S H S' H') (o : Owns K S H ow) (o' : Owns K S' H' (ow1 ++ [b])) (hl : ow.length = ow1.length) (hb : KeepG ow ow1) :
    ∃ q, S' = S ++ [q] ∧ q ∉ S ∧ Fwd S H S H' ∧ Owns K S H' ow1 ∧ (∀ a, a ∈ S → a ∈ S') ∧ ObAt K S' H' q b ∧ S'[ow1.length]? = some q := by
  have hl1 := o.len
  have hl2 := o'.len
  rw [List.length_append] at hl2
  have hl2 : S'.length = ow1.length + 1 := hl2
  obtain ⟨ps, e, hp⟩ := f.gr
  have hps : ps.length = 1 := by
    have z := congrArg List.length e
    rw [List.length_append] at z
    omega
  obtain ⟨q, rfl⟩ : ∃ q, ps = [q] := by
    match ps, hps with
    | [q], _ => exact ⟨q, rfl⟩
  subst e
  have hsub : ∀ a, a ∈ S → a ∈ S ++ [q] := fun a h => List.mem_append_left _ h
  have hnq : q ∉ S := o.nin (hp q (List.mem_singleton.mpr rfl))
  have hlast : (S ++ [q])[ow1.length]? = some q := by
    rw [List.getElem?_append_right (by omega)]
    have hh : ow1.length - S.length = 0 := by omega
    rw [hh]
    rfl
  refine ⟨q, rfl, hnq, ⟨⟨[], (List.append_nil S).symm, fun _ z => nomatch z⟩, f.ex⟩, ⟨by omega, o.nd, fun k l' ek => ?_⟩, hsub, ?_, hlast⟩
  · have hk : k < ow1.length := (List.getElem?_eq_some_iff.mp ek).1
    obtain ⟨a, z, y⟩ := o'.ob k l' (by rw [List.getElem?_append_left hk]; exact ek)
    rw [List.getElem?_append_left (by omega)] at z
    refine ⟨a, z, ?_⟩
    cases y with
    | l h r => exact .l h (r.less hsub)
    | t h r => exact .t h (DenG.less hsub r)
    | @g kvs gs h r =>
      refine .g h (paired_map r fun x y hy hx => ?_)
      obtain ⟨h1, b, h2, h3⟩ := hx
      refine ⟨h1, b, h2, ?_⟩
      obtain ⟨k0, hk0, e0⟩ := List.getElem_of_mem (hb.1 gs (List.mem_of_getElem? ek))
      obtain ⟨a0, z0, y0⟩ := o.ob k0 (.g gs) (by rw [List.getElem?_eq_getElem hk0, e0])
      cases y0 with
      | g h0 r0 =>
        obtain ⟨x0, _, _, b0, _, q3⟩ := paired_mem r0 hy
        have hlt : y.2 < S.length := (List.getElem?_eq_some_iff.mp q3).1
        rwa [List.getElem?_append_left hlt] at h3
    | @r kvs gs h r =>
      refine .r h (paired_map r fun x y hy hx => ?_)
      obtain ⟨h1, b, h2, h3⟩ := hx
      refine ⟨h1, b, h2, ?_⟩
      obtain ⟨k0, hk0, e0⟩ := List.getElem_of_mem (hb.2 gs (List.mem_of_getElem? ek))
      obtain ⟨a0, z0, y0⟩ := o.ob k0 (.r gs) (by rw [List.getElem?_eq_getElem hk0, e0])
      cases y0 with
      | r h0 r0 =>
        obtain ⟨x0, _, _, b0, _, q3⟩ := paired_mem r0 hy
        have hlt : y.2 < S.length := (List.getElem?_eq_some_iff.mp q3).1
        rwa [List.getElem?_append_left hlt] at h3
  · obtain ⟨a, z, y⟩ := o'.ob ow1.length b (by rw [List.getElem?_append_right (Nat.le_refl _), Nat.sub_self] <;> rfl)
    rw [hlast] at z
    cases z
    exact y
theorem owns_drop {K : PySem.W.Frag} {S S' : List Addr} {H H' : Hp} {v : V} {l : List D} (f : Fwd S H S' H') (o : Owns K S H ow) (o' : Owns K S' H' (ow1 ++ [.l l])) (hl : ow.length = ow1.length) (hb : KeepG ow ow1) (h : DenR K S' H' v (.own ow1.length)) :
    Fwd S H S H' ∧ Owns K S H' ow1 ∧ Den K S H' v (.lst l) := by
  obtain ⟨q, e, hnq, f1, o1, hsub, y, hq⟩ := drop_lastB f o o' hl hb
  refine ⟨f1, o1, ?_⟩
  cases h with
  | own h =>
    rw [hq] at h
    cases h
    cases y with
    | l y w => exact .lst (.inl ⟨hnq, .inl y⟩) (w.less hsub)
theorem owns_dropT {K : PySem.W.Frag} {S S' : List Addr} {H H' : Hp} {v : V} {gs : List (List Key × D)} (f : Fwd S H S' H') (o : Owns K S H ow) (o' : Owns K S' H' (ow1 ++ [.t gs])) (hl : ow.length = ow1.length) (hb : KeepG ow ow1) (h : DenR K S' H' v (.own ow1.length)) :
    Fwd S H S H' ∧ Owns K S H' ow1 ∧ Den K S H' v (.dT gs) := by
  obtain ⟨q, e, hnq, f1, o1, hsub, y, hq⟩ := drop_lastB f o o' hl hb
  refine ⟨f1, o1, ?_⟩
  cases h with
  | own h =>
    rw [hq] at h
    cases h
    cases y with
    | t y w => exact .dT hnq y (DenG.less hsub w)
theorem pd_freeze {l : List D} (h : PD X st ow e (.own ow1.length) (ow1 ++ [.l l])) (hl : ow.length = ow1.length := by rfl) (hb : KeepG ow ow1 := by first | exact ⟨fun _ h => h, fun _ h => h⟩ | (refine ⟨?_, ?_⟩ <;> (intro gs h; simp at h ⊢; assumption))) : PD X st ow e (.d (.lst l)) ow1 :=
  PE.imp h fun σ H Q ⟨S, sl, o, k⟩ => ⟨S, sl, o, fun S1 v H1 f1 o1 d1 =>
    let z := owns_drop f1 o o1 hl hb d1
    k S v H1 z.1 z.2.1 (.d z.2.2)⟩
/-! ### calls of built-ins -/
def RC (K : PySem.W.Frag) (rr : List V → Hp → VK → Prop) (ds : List D) (z : D) : Prop := ∀ S H ow vs (Q : VK), Owns K S H ow → Dens K S H vs ds → (∀ v H', Evl.Ex H H' → Den K S H' v z → Q v H') → rr vs H Q
theorem pd_callB {id : String} {xn : Str} {rr : List V → Hp → VK → Prop} (hc : CallR X (.builtin id) rr) (hr : RC X.K rr ds z) (hm : X.mg xn = none) (hv : bootBuiltins xn = some (.builtin id)) (ha : PADd X st ow (e :: es) ds ow1) (hg : Gl X xn := by rfl) (hn : xn ≠ "__name__" := by decide) (hdb : (xn == ("__debug__" : Str)) = false := by decide)
    (he : starEach (e :: es) X.env = (false, eval e X.env) :: starEach es X.env := by rfl) (hpl : (backTo pos (starEach es X.env)).any (·.1) = false := by rfl) : PD X st ow (.Call (.Name xn p) (e :: es) [] pos) (.d z) ow1 :=
  (pe_callB hc hg hm hv ha hn hdb he hpl).imp fun σ H Q ⟨S, sl, o, k⟩ => ⟨S, sl, o, fun S1 vs H1 f1 o1 d1 => hr S1 H1 ow1 vs Q o1 (densOf d1) fun v H' ex dd => k S1 v H' (f1.trans o1 (.of ex)) (o1.ex ex) (.d dd)⟩
theorem pd_callTy {T : String} {xn : Str} {rr : List V → Hp → VK → Prop} (hc : CallR X (.type T) rr) (hr : RC X.K rr ds z) (hm : X.mg xn = none) (hv : bootBuiltins xn = some (.type T)) (ha : PADd X st ow (e :: es) ds ow1) (hg : Gl X xn := by rfl) (hn : xn ≠ "__name__" := by decide) (hdb : (xn == ("__debug__" : Str)) = false := by decide)
    (he : starEach (e :: es) X.env = (false, eval e X.env) :: starEach es X.env := by rfl) (hpl : (backTo pos (starEach es X.env)).any (·.1) = false := by rfl) : PD X st ow (.Call (.Name xn p) (e :: es) [] pos) (.d z) ow1 :=
  (pe_callTy hc hg hm hv ha hn hdb he hpl).imp fun σ H Q ⟨S, sl, o, k⟩ => ⟨S, sl, o, fun S1 vs H1 f1 o1 d1 => hr S1 H1 ow1 vs Q o1 (densOf d1) fun v H' ex dd => k S1 v H' (f1.trans o1 (.of ex)) (o1.ex ex) (.d dd)⟩
theorem dens1 {K : PySem.W.Frag} {S : List Addr} {H : Hp} {vs : List V} (h : Dens K S H vs [d]) : ∃ v, vs = [v] ∧ Den K S H v d := by
  match vs, h with
  | [v], h => exact ⟨v, rfl, h.uncons.1⟩
theorem dens2 {K : PySem.W.Frag} {S : List Addr} {H : Hp} {vs : List V} (h : Dens K S H vs [x, y]) : ∃ v w, vs = [v, w] ∧ Den K S H v x ∧ Den K S H w y := by
  match vs, h with
  | [v, w], h => exact ⟨v, w, rfl, h.uncons.1, h.uncons.2.uncons.1⟩
theorem rc_lenT {K : PySem.W.Frag} {dd : D} (ht : tupL dd = some ds) : RC K (fun xs H Q => ∃ p ys, xs = [.ref p] ∧ (SqL K H p ys ∨ SqT K H p ys) ∧ Q (.int ys.length) H) [dd] (.int (ds.length : Int)) := fun S H ow vs Q o h q => by
  obtain ⟨v, rfl, g⟩ := dens1 h
  obtain ⟨a, xs, rfl, h1, h2⟩ := g.of_tup ht
  refine ⟨a, xs, rfl, .inr h1, q _ H (Evl.Ex.refl H) ?_⟩
  rw [Dens.length h2]
  exact .int _
theorem rc_lenL {K : PySem.W.Frag} : RC K (fun xs H Q => ∃ p ys, xs = [.ref p] ∧ (SqL K H p ys ∨ SqT K H p ys) ∧ Q (.int ys.length) H) [.lst ds] (.int (ds.length : Int)) := fun S H ow vs Q o h q => by
  obtain ⟨v, rfl, g⟩ := dens1 h
  obtain ⟨a, xs, rfl, h1, h2⟩ := g.of_lst
  refine ⟨a, xs, rfl, .inl h1.sq, q _ H (Evl.Ex.refl H) ?_⟩
  rw [h2.length]
  exact .int _
theorem pd_lenT {dd : D} (hm : X.mg "len" = none) (ha : PADd X st ow [e] [dd] ow1) (ht : tupL dd = some ds := by rfl) (hg : Gl X "len" := by rfl) (he : starEach [e] X.env = [(false, eval e X.env)] := by rfl) : PD X st ow (.Call (.Name "len" p) [e] [] pos) (.d (.int (ds.length : Int))) ow1 := pd_callB call_len_seq (rc_lenT ht) hm PySem.boot_len ha hg (by decide) (by decide) he rfl
theorem pd_lenL (hm : X.mg "len" = none) (ha : PADd X st ow [e] [.lst ds] ow1) (hg : Gl X "len" := by rfl) (he : starEach [e] X.env = [(false, eval e X.env)] := by rfl) : PD X st ow (.Call (.Name "len" p) [e] [] pos) (.d (.int (ds.length : Int))) ow1 := pd_callB call_len_seq rc_lenL hm PySem.boot_len ha hg (by decide) (by decide) he rfl
/-- tuple(list), tuple(tuple) -/
theorem pd_tupleL (hm : X.mg "tuple" = none) (ha : PADd X st ow [e] [.lst ds] ow1) (hg : Gl X "tuple" := by rfl) (he : starEach [e] X.env = [(false, eval e X.env)] := by rfl) : PD X st ow (.Call (.Name "tuple" p) [e] [] pos) (.d (.tup ds)) ow1 :=
  pd_callTy call_tuple_of (fun S H ow vs Q o h q => by
    obtain ⟨v, rfl, g⟩ := dens1 h
    obtain ⟨a, xs, rfl, h1, h2⟩ := g.of_lst
    exact ⟨a, xs, rfl, .inl ⟨h1.sq, fun l hl => q _ _ (Evl.Ex.new hl) (new_tup o hl h2)⟩⟩) hm (by decide +kernel) ha hg (by decide) (by decide) he rfl
theorem pd_tupleLN (hm : X.mg "tuple" = none) (ha : PADd X st ow [e] [.lst ds] ow1) (hg : Gl X "tuple" := by rfl) (he : starEach [e] X.env = [(false, eval e X.env)] := by rfl) : PD X st ow (.Call (.Name "tuple" p) [e] [] pos) (.d (.tupN ds)) ow1 :=
  pd_callTy call_tuple_F (fun S H ow vs Q o h q => by
    obtain ⟨v, rfl, g⟩ := dens1 h
    obtain ⟨a, xs, rfl, h1, h2⟩ := g.of_lst
    exact ⟨a, xs, rfl, .inl ⟨h1.sq, fun l ob hd hl => q _ _ (Evl.Ex.new hl) (new_tupN o hl hd h2)⟩⟩) hm (by decide +kernel) ha hg (by decide) (by decide) he rfl
theorem pd_tupleT {dd : D} (hm : X.mg "tuple" = none) (ha : PADd X st ow [e] [dd] ow1) (ht : tupL dd = some ds := by rfl) (hg : Gl X "tuple" := by rfl) (he : starEach [e] X.env = [(false, eval e X.env)] := by rfl) : PD X st ow (.Call (.Name "tuple" p) [e] [] pos) (.d dd) ow1 :=
  pd_callTy call_tuple_of (fun S H ow vs Q o h q => by
    obtain ⟨v, rfl, g⟩ := dens1 h
    obtain ⟨a, xs, rfl, h1, h2⟩ := g.of_tup ht
    exact ⟨a, xs, rfl, .inr ⟨h1, q _ _ (Evl.Ex.refl H) g⟩⟩) hm (by decide +kernel) ha hg (by decide) (by decide) he rfl
/-- the ints in rising order -/
def ins1 (n : Int) : List Int → List Int
  | [] => [n]
  | m :: l => if n ≤ m then n :: m :: l else m :: ins1 n l
def isort : List Int → List Int
  | [] => []
  | n :: l => ins1 n (isort l)
theorem ins1_perm (n : Int) : ∀ l : List Int, (ins1 n l).Perm (n :: l)
  | [] => .refl _
  | m :: l => by
    unfold ins1
    split
    · exact .refl _
    · exact (List.Perm.cons m (ins1_perm n l)).trans (.swap n m l)
theorem isort_perm : ∀ l : List Int, (isort l).Perm l
  | [] => .refl _
  | n :: l => (ins1_perm n (isort l)).trans ((isort_perm l).cons n)
theorem ins1_pw (n : Int) : ∀ l : List Int, l.Pairwise (· ≤ ·) → (ins1 n l).Pairwise (· ≤ ·)
  | [], _ => by simp [ins1]
  | m :: l, h => by
    unfold ins1
    rw [List.pairwise_cons] at h
    split
    · rename_i hm
      rw [List.pairwise_cons, List.pairwise_cons]
      refine ⟨fun k hk => ?_, h⟩
      rcases List.mem_cons.mp hk with z | z
      · rw [z]; exact hm
      · have := h.1 k z; omega
    · rename_i hm
      rw [List.pairwise_cons]
      refine ⟨fun k hk => ?_, ins1_pw n l h.2⟩
      have hk := (ins1_perm n l).mem_iff.mp hk
      rcases List.mem_cons.mp hk with z | z
      · rw [z]; omega
      · exact h.1 k z
theorem isort_pw : ∀ l : List Int, (isort l).Pairwise (· ≤ ·)
  | [] => .nil
  | n :: l => ins1_pw n _ (isort_pw l)
theorem isort_eq {l m : List Int} (hp : m.Perm l) (hs : m.Pairwise (· ≤ ·)) : m = isort l :=
  List.Perm.eq_of_pairwise (le := (· ≤ ·)) (fun a b _ _ h1 h2 => by omega) hs (isort_pw l) (hp.trans (isort_perm l).symm)
theorem pd_sorted {ns : List Int} (hm : X.mg "sorted" = none) (ha : PADd X st ow [e] [.lst (ns.map D.int)] ow1) (hl : ns.length < 64) (hg : Gl X "sorted" := by rfl) (he : starEach [e] X.env = [(false, eval e X.env)] := by rfl) : PD X st ow (.Call (.Name "sorted" p) [e] [] pos) (.d (.lst ((isort ns).map D.int))) ow1 :=
  pd_callB cr_sorted (fun S H ow vs Q o h q => by
    obtain ⟨v, rfl, g⟩ := dens1 h
    obtain ⟨a, xs, rfl, h1, h2⟩ := g.of_lst
    have e1 := h2.ints
    subst e1
    refine ⟨a, ns, rfl, h1.sq, hl, fun ns' l hp hs hn => ?_⟩
    rw [isort_eq hp hs]
    exact q _ _ (Evl.Ex.new hn) (new_lst o hn (Dens.of_ints _))) hm (by decide +kernel) ha hg (by decide) (by decide) he rfl
theorem pd_all {bs : List Bool} (hc : X.calm = true) (hm : X.mg "all" = none) (ha : PADd X st ow [e] [.lst (bs.map D.bl)] ow1) (hg : Gl X "all" := by rfl) (he : starEach [e] X.env = [(false, eval e X.env)] := by rfl) : PD X st ow (.Call (.Name "all" p) [e] [] pos) (.d (.bl (bs.all id))) ow1 :=
  pd_callB (cr_all hc) (fun S H ow vs Q o h q => by
    obtain ⟨v, rfl, g⟩ := dens1 h
    obtain ⟨a, xs, rfl, h1, h2⟩ := g.of_lst
    have e1 := h2.bls
    subst e1
    exact ⟨a, bs, rfl, h1.sq, q _ _ (Evl.Ex.refl H) (.bl _)⟩) hm (by decide +kernel) ha hg (by decide) (by decide) he rfl
theorem pd_min2 {i j : Int} (hc : X.calm = true) (hm : X.mg "min" = none) (ha : PADd X st ow [a, b] [.int i, .int j] ow1) (hg : Gl X "min" := by rfl) (he : starEach [a, b] X.env = (false, eval a X.env) :: starEach [b] X.env := by rfl) (hpl : (backTo pos (starEach [b] X.env)).any (·.1) = false := by rfl) : PD X st ow (.Call (.Name "min" p) [a, b] [] pos) (.d (.int (if j < i then j else i))) ow1 :=
  pd_callB (call_min2 hc) (fun S H ow vs Q o h q => by
    obtain ⟨v, w, rfl, g, g'⟩ := dens2 h
    exact ⟨i, j, by rw [g.of_int, g'.of_int], q _ _ (Evl.Ex.refl H) (.int _)⟩) hm (by decide +kernel) ha hg (by decide) (by decide) he hpl
theorem pd_int1 {i : Int} (hm : X.mg "int" = none) (ha : PADd X st ow [e] [.int i] ow1) (hg : Gl X "int" := by rfl) (he : starEach [e] X.env = [(false, eval e X.env)] := by rfl) : PD X st ow (.Call (.Name "int" p) [e] [] pos) (.d (.int i)) ow1 :=
  pd_callTy call_int1 (fun S H ow vs Q o h q => by
    obtain ⟨v, rfl, g⟩ := dens1 h
    exact .inl ⟨i, by rw [g.of_int], q _ _ (Evl.Ex.refl H) (.int _)⟩) hm (by decide +kernel) ha hg (by decide) (by decide) he rfl
/-! ### subscripts, slices -/
theorem den_at {K : PySem.W.Frag} {S : List Addr} {H : Hp} {xs : List V} {i : Int} (h : Dens K S H xs ds) (ha : atI ds i = some d) : ∃ v, atI xs i = some v ∧ Den K S H v d := by
  have hl := h.length
  unfold atI at ha ⊢
  rw [hl]
  cases hx : ixN ds.length i with
  | none => rw [hx] at ha; cases ha
  | some j =>
    rw [hx] at ha
    have ha : ds[j]? = some d := ha
    obtain ⟨v, h1, h2⟩ := h.get ha
    exact ⟨v, h1, h2⟩
theorem rd_ixT {K : PySem.W.Frag} {i : Int} {dd : D} (ht : tupL dd = some ds) (ha : atI ds i = some d) : RD K (rIxT K) dd (.int i) d := fun S H ow vx vy Q o hx hy q => by
  obtain ⟨a, xs, rfl, h1, h2⟩ := hx.of_tup ht
  obtain ⟨v, h3, h4⟩ := den_at h2 ha
  exact ⟨a, xs, i, v, rfl, hy.of_int, h1, h3, q v H (Evl.Ex.refl H) h4⟩
theorem rd_ixL {K : PySem.W.Frag} {i : Int} (ha : atI ds i = some d) : RD K (rIxL K) (.lst ds) (.int i) d := fun S H ow vx vy Q o hx hy q => by
  obtain ⟨a, xs, rfl, h1, h2⟩ := hx.of_lst
  obtain ⟨v, h3, h4⟩ := den_at h2 ha
  exact ⟨a, xs, i, v, rfl, hy.of_int, h1.sq, h3, q v H (Evl.Ex.refl H) h4⟩
theorem pd_ixT {i : Int} {dd : D} (ha : PD X st ow a (.d dd) ow1) (hb : PD X st ow1 b (.d (.int i)) ow2) (hi : atI ds i = some d) (ht : tupL dd = some ds := by rfl) (hs : PlainIx b := by exact fun _ _ => rfl) : PD X st ow (.Subscript a b pos) (.d d) ow2 := pd_ix ix_tup hs (rd_ixT ht hi) ha hb
theorem pd_ixL {i : Int} (ha : PD X st ow a (.d (.lst ds)) ow1) (hb : PD X st ow1 b (.d (.int i)) ow2) (hi : atI ds i = some d) (hs : PlainIx b := by exact fun _ _ => rfl) : PD X st ow (.Subscript a b pos) (.d d) ow2 := pd_ix ix_list hs (rd_ixL hi) ha hb
def tDO (K : PySem.W.Frag) (st : Sta) (ow : List OB) (w : Option Int) : TO := fun σ H Q => ∃ S, Slots K S H σ st ∧ Owns K S H ow ∧ ∀ S' H', Fwd S H S' H' → Owns K S' H' ow → Q w H'
abbrev POD (X : Cx) (st : Sta) (ow : List OB) (e : Option Expr) (w : Option Int) : Prop := PO X e (tDO X.K st ow w)
theorem _root_.L2.PO.imp {e : Option Expr} {t t' : TO} (h : PO X e t) (f : ∀ σ H Q, t' σ H Q → t σ H Q) : PO X e t' := ⟨fun pins s σ H Q I z => h.run pins s σ H Q I (f σ H Q z)⟩
theorem pod_none : POD X st ow none none := (po_none).imp fun σ H Q ⟨S, sl, o, k⟩ => k S H (.refl S H) o
theorem pod_some {i : Int} (h : PD X st ow e (.d (.int i)) ow) : POD X st ow (some e) (some i) := (po_some h).imp fun σ H Q ⟨S, sl, o, k⟩ => ⟨S, sl, o, fun S1 v H1 f1 o1 d1 => by
  cases d1 with
  | d d1 => exact ⟨i, d1.of_int, k S1 H1 f1 o1⟩⟩
def cutD (ds : List D) (lo hi : Option Int) : List D := (ds.drop (HT.sIx ds.length 0 lo)).take (HT.sIx ds.length ds.length hi - HT.sIx ds.length 0 lo)
theorem dens_cut {K : PySem.W.Frag} {S : List Addr} {H : Hp} {xs : List V} {lo hi : Option Int} (h : Dens K S H xs ds) : Dens K S H (cutV xs lo hi) (cutD ds lo hi) := by
  unfold cutV cutD
  rw [h.length]
  exact (h.drop _).take _
end
end Bl
set_option Elab.async false
set_option linter.all false
set_option maxRecDepth 100000
set_option maxHeartbeats 4000000
namespace Bl
open PySem PySem.Spec PyProof.Rows L2
section
variable {X : Cx} {e a b c o : Expr} {es : List Expr} {st st1 st2 : Sta} {ow ow1 ow2 ow3 : List OB} {r : R} {rs : List R} {d x y z : D} {ds : List D} {pos p p2 : Pos} {lo hi : Option Expr} {ilo ihi : Option Int}
theorem pd_slL (he : PD X st ow e (.d (.lst ds)) ow1) (h1 : POD X st ow1 lo ilo) (h2 : POD X st ow1 hi ihi) : PD X st ow (.Subscript e (.Slice lo hi none p2) pos) (.d (.lst (cutD ds ilo ihi))) ow1 :=
  (pe_slice sl_list he h1 h2).imp fun σ H Q ⟨S, sl, o, k⟩ => ⟨S, sl, o, fun S1 v H1 f1 o1 d1 => ⟨S1, f1.slots sl, o1, fun S2 H2 f2 o2 => ⟨S2, (f1.trans o1 f2).slots sl, o2, fun S3 H3 f3 o3 => by
    cases d1 with
    | d d1 =>
      obtain ⟨a, xs, rfl, h1, h2⟩ := d1.of_lst
      have f23 := f2.trans o2 f3
      have l3 : Den X.K S3 H3 (.ref a) (.lst ds) := f23.den d1
      obtain ⟨a', xs', e', h1', h2'⟩ := l3.of_lst
      cases e'
      exact ⟨a, xs', rfl, h1'.sq, fun p hp => k S3 _ _ (f1.trans o1 (f23.trans o3 (.of (Evl.Ex.new hp)))) (o3.ex (Evl.Ex.new hp)) (.d (new_lst o3 hp (dens_cut h2')))⟩⟩⟩⟩
/-- any slice of a tuple -/
theorem pd_slT (he : PD X st ow e (.d (.tup ds)) ow1) (h1 : POD X st ow1 lo ilo) (h2 : POD X st ow1 hi ihi) : PD X st ow (.Subscript e (.Slice lo hi none p2) pos) (.d (.tup (cutD ds ilo ihi))) ow1 :=
  (pe_slice sl_tupA he h1 h2).imp fun σ H Q ⟨S, sl, o, k⟩ => ⟨S, sl, o, fun S1 v H1 f1 o1 d1 => ⟨S1, f1.slots sl, o1, fun S2 H2 f2 o2 => ⟨S2, (f1.trans o1 f2).slots sl, o2, fun S3 H3 f3 o3 => by
    cases d1 with
    | d d1 =>
      obtain ⟨a, xs, rfl, h1, h2⟩ := d1.of_tup rfl
      have f23 := f2.trans o2 f3
      have l3 : Den X.K S3 H3 (.ref a) (.tup ds) := f23.den d1
      obtain ⟨a', xs', e', h1', h2'⟩ := l3.of_tup rfl
      cases e'
      have hl := Dens.length h2'
      refine ⟨a, xs', rfl, h1', fun hw => ?_, fun _ p hp => k S3 _ _ (f1.trans o1 (f23.trans o3 (.of (Evl.Ex.new hp)))) (o3.ex (Evl.Ex.new hp)) (.d (new_tup o3 hp (dens_cut h2')))⟩
      have hcut : cutD ds ilo ihi = ds := by
        unfold cutD
        rw [hl] at hw
        rw [hw.1, hw.2, List.drop_zero, Nat.sub_zero, List.take_length]
      rw [hcut] at k
      exact k S3 _ _ (f1.trans o1 f23) o3 (.d l3)⟩⟩⟩
theorem pd_slN (he : PD X st ow e (.d (.tupN ds)) ow1) (h1 : POD X st ow1 lo ilo) (h2 : POD X st ow1 hi ihi) : PD X st ow (.Subscript e (.Slice lo hi none p2) pos) (.d (.tupN (cutD ds ilo ihi))) ow1 :=
  (pe_slice sl_tupF he h1 h2).imp fun σ H Q ⟨S, sl, o, k⟩ => ⟨S, sl, o, fun S1 v H1 f1 o1 d1 => ⟨S1, f1.slots sl, o1, fun S2 H2 f2 o2 => ⟨S2, (f1.trans o1 f2).slots sl, o2, fun S3 H3 f3 o3 => by
    cases d1 with
    | d d1 =>
      obtain ⟨a, xs, rfl, h1, h2⟩ := d1.of_tup rfl
      have f23 := f2.trans o2 f3
      have l3 : Den X.K S3 H3 (.ref a) (.tupN ds) := f23.den d1
      obtain ⟨a', xs', e', h1', h2'⟩ := l3.of_tup rfl
      cases e'
      have hl := Dens.length h2'
      refine ⟨a, xs', rfl, h1', fun hw => ?_, fun _ p ob hd hp => k S3 _ _ (f1.trans o1 (f23.trans o3 (.of (Evl.Ex.new hp)))) (o3.ex (Evl.Ex.new hp)) (.d (new_tupN o3 hp hd (dens_cut h2')))⟩
      have hcut : cutD ds ilo ihi = ds := by
        unfold cutD
        rw [hl] at hw
        rw [hw.1, hw.2, List.drop_zero, Nat.sub_zero, List.take_length]
      rw [hcut] at k
      exact k S3 _ _ (f1.trans o1 f23) o3 (.d l3)⟩⟩⟩
/-! ### own defs: what they are worth -/
abbrev GG := List R → List OB → R → List OB → Prop
def spF (K : PySem.W.Frag) (g : GG) : Sp := fun vs H Q _ => ∃ S rs ow r ow', DenRs K S H vs rs ∧ Owns K S H ow ∧ g rs ow r ow' ∧ ∀ S' v H', Fwd S H S' H' → Owns K S' H' ow' → DenR K S' H' v r → Q v H'
def startD (N : List Str) (rs : List R) : Sta := rs.map some ++ List.replicate (N.length - rs.length) none
theorem start_slots {K : PySem.W.Frag} {S : List Addr} {H : Hp} {N : List Str} {vs : List V} (h : DenRs K S H vs rs) : Slots K S H (L2.start N vs) (startD N rs) := by
  have hl := h.length
  refine ⟨by unfold L2.start startD; rw [List.length_append, List.length_append, List.length_map, List.length_map, List.length_replicate, List.length_replicate, hl], fun i r e => ?_⟩
  unfold startD at e
  unfold L2.start
  by_cases hi : i < rs.length
  · rw [List.getElem?_append_left (by rw [List.length_map]; exact hi)] at e
    have key : ∀ {vs : List V} {rs : List R} {i : Nat}, DenRs K S H vs rs → (rs.map some)[i]? = some (some r) → ∃ v, (vs.map some)[i]? = some (some v) ∧ DenR K S H v r := by
      intro vs rs i h
      induction h generalizing i with
      | nil => intro e; simp at e
      | cons h t ih =>
        intro e
        cases i with
        | zero =>
          have e' := Option.some.inj (Option.some.inj e)
          subst e'
          exact ⟨_, rfl, h⟩
        | succ i => exact ih (i := i) e
    obtain ⟨v, h1, h2⟩ := key h e
    exact ⟨v, by rw [List.getElem?_append_left (by rw [List.length_map, hl]; exact hi)]; exact h1, h2⟩
  · rw [List.getElem?_append_right (by rw [List.length_map]; omega), List.getElem?_replicate] at e
    split at e <;> cases e
theorem okF {P : Program} {w : World} {K : PySem.W.Frag} {mg : Str → Option Value} {base : Heap} {xn qual : Str} {sst : Stmt} {f : Addr} {fd : FuncData} {N ps : List Str} {k : Nat} {g : GG} (F : Fun K xn qual sst f fd) (SC : FnScope N ps (defScope sst)) (len : ∀ rs ow r ow', g rs ow r ow' → rs.length = ps.length)
    (hbody : ∀ (cdv : Value) (A : Around) (outer : List Env) (s : Shared) (H : Hp) (E : XK), Room k (A.deeper (envOfC qual (defScope sst) s.heap.objs.size f cdv)) → ∀ rs ow r ow', g rs ow r ow' →
      PBD (cxOf CX0 P w K mg base N qual (defScope sst) f cdv A outer s H E).nox (startD N rs) ow (defBody sst) (.ret r ow')) : FnOk P w K mg base CX0 (k + 1) f fd ps (spF K g) := by
  refine F.ok SC (fun vs H Q E h => ?_) (fun cdv A outer s H vs Q E hr h => ?_)
  · obtain ⟨S, rs, ow, r, ow', h1, h2, h3, _⟩ := h
    rw [h1.length, len _ _ _ _ h3]
  · obtain ⟨S, rs, ow, r, ow', h1, h2, h3, q⟩ := h
    exact ⟨_, hbody cdv A outer s H E hr rs ow r ow' h3, S, start_slots h1, h2, fun S' v H' f o d => q S' v H' f o d⟩
theorem appnil {vs : List V} : vs ++ [] = vs := List.append_nil vs
variable {k : Nat} {f : Addr} {fd : FuncData} {ps : List Str} {g : GG} {xn : Str}
theorem pd_call (F : FnOk X.prog X.w X.K X.mg X.base CX0 k f fd ps (spF X.K g)) (hr : Room k X.A) (hm : X.mg xn = some (.ref f)) (hk : PySem.W.keepIn X.K (.ref f) = true) (hb : Binds X.K fd ps []) (ha : PAD X st ow (e :: es) rs ow1) (hgg : g rs ow1 r ow2) (hg : Gl X xn := by rfl) (hdb : (xn == ("__debug__" : Str)) = false := by decide)
    (he : starEach (e :: es) X.env = (false, eval e X.env) :: starEach es X.env := by rfl) (hpl : (backTo pos (starEach es X.env)).any (·.1) = false := by rfl) : PD X st ow (.Call (.Name xn p) (e :: es) [] pos) r ow2 :=
  (pe_call F hr hg hm hk hb .nil pass0 ha hdb he hpl).imp fun σ H Q ⟨S, sl, o, q⟩ => ⟨S, sl, o, fun S1 vs H1 f1 o1 d1 => by
    show spF X.K g (vs ++ []) H1 Q E0
    rw [appnil]
    exact ⟨S1, rs, ow1, r, ow2, d1, o1, hgg, fun S2 v H2 f2 o2 d2 => q S2 v H2 (f1.trans o1 f2) o2 d2⟩⟩
/-! ### objects -/
theorem flds_look {K : PySem.W.Frag} {S : List Addr} {H : Hp} : ∀ {fs : List (Str × V)} {gs : List (Str × D)} {f : Str}, Flds K S H fs gs → (∀ d, gs.lookup f = some d → ∃ v, fs.lookup f = some v ∧ Den K S H v d) ∧ (gs.lookup f = none → fs.lookup f = none)
  | [], [], f, _ => ⟨fun d e => by simp at e, fun _ => rfl⟩
  | [], _ :: _, _, h => nomatch h
  | _ :: _, [], _, h => nomatch h
  | (f1, v1) :: fs, (f2, d2) :: gs, f, h => by
    cases h with
    | fcons h1 r =>
      have ih := flds_look (f := f) r
      rw [List.lookup_cons, List.lookup_cons]
      cases hb : (f == f1) with
      | true => exact ⟨fun d e => ⟨v1, rfl, (Option.some.inj e) ▸ h1⟩, fun e => nomatch e⟩
      | false => exact ih
theorem den_ins {K : PySem.W.Frag} {S : List Addr} {H : Hp} {v : V} {C : Addr} {gs : List (Str × D)} (h : Den K S H v (.ins C gs)) : ∃ a dx fs, v = .ref a ∧ a ∉ S ∧ H a = some (.ins C dx fs) ∧ Flds K S H fs gs := by
  cases h with
  | ins n h r => exact ⟨_, _, _, rfl, n, h, r⟩
theorem pd_fld {C : Addr} {gs : List (Str × D)} {fn : Str} (he : PD X st ow e (.d (.ins C gs)) ow1) (c : Cls X.K C) (n : NoAttr X.K C fn) (hl : gs.lookup fn = some d) (hb : attributeBase e fn X.env (eval e X.env) = eval e X.env := by rfl) : PD X st ow (.Attribute e fn pos) (.d d) ow1 :=
  (pe_fld he hb).imp fun σ H Q ⟨S, sl, o, q⟩ => ⟨S, sl, o, fun S1 v H1 f1 o1 d1 => by
    cases d1 with
    | d d1 =>
      obtain ⟨a, dx, fs, rfl, _, h1, h2⟩ := den_ins d1
      obtain ⟨v, h3, h4⟩ := (flds_look h2).1 d hl
      exact ⟨a, C, dx, fs, v, rfl, h1, c, n, h3, q S1 v H1 f1 o1 (.d h4)⟩⟩
theorem pd_prop {C pa : Addr} {gs : List (Str × D)} {fn : Str} (he : PD X st ow e (.d (.ins C gs)) ow1) (c : Cls X.K C) (hp : PropOf X.K C fn pa f) (F : FnOk X.prog X.w X.K X.mg X.base CX0 k f fd ps (spF X.K g)) (hr : Room (k + 1) X.A) (hb : Binds X.K fd ps []) (hgg : g [.d (.ins C gs)] ow1 r ow2)
    (hab : attributeBase e fn X.env (eval e X.env) = eval e X.env := by rfl) : PD X st ow (.Attribute e fn pos) r ow2 :=
  (pe_prop he c hp F hr hb .nil pass0 hab).imp fun σ H Q ⟨S, sl, o, q⟩ => ⟨S, sl, o, fun S1 v H1 f1 o1 d1 => by
    cases d1 with
    | d d1 =>
      obtain ⟨a, dx, fs, rfl, _, h1, h2⟩ := den_ins d1
      exact ⟨a, dx, fs, rfl, h1, S1, [.d (.ins C gs)], ow1, r, ow2, .cons (.d d1) .nil, o1, hgg, fun S2 v H2 f2 o2 d2 => q S2 v H2 (f1.trans o1 f2) o2 d2⟩⟩
theorem pd_meth {pl : Sem Bool} {C : Addr} {gs : List (Str × D)} {mn : Str} {apos : Pos} (ho : PD X st ow o (.d (.ins C gs)) ow1) (c : Cls X.K C) (hm : Meth X.K C mn f) (F : FnOk X.prog X.w X.K X.mg X.base CX0 k f fd ps (spF X.K g)) (hr : Room k X.A) (hb : Binds X.K fd ps []) (ha : PAD X st ow1 (e :: es) rs ow2) (hl : gs.lookup mn = none) (hgg : g (.d (.ins C gs) :: rs) ow2 r ow3)
    (hst : starEach (e :: es) X.env = (false, eval e X.env) :: starEach es X.env := by rfl) (hpl : (backTo pos (starEach es X.env)).any (·.1) = false := by rfl)
    (ht : eval (.Call (.Attribute o mn apos) (e :: es) [] pos) X.env = (do
      let ov ← eval o X.env
      standAt apos.atName
      let (f, first) ← holding [ov] (getMethod ov mn pl)
      callWith pos f first (backTo pos (starEach (e :: es) X.env)) (backToKw pos (keywordEach [] X.env))) := by rfl) :
    PD X st ow (.Call (.Attribute o mn apos) (e :: es) [] pos) r ow3 :=
  (pe_meth ho c hm F hr hb .nil pass0 ha hst hpl ht).imp fun σ H Q ⟨S, sl, o, q⟩ => ⟨S, sl, o, fun S1 v H1 f1 o1 d1 => by
    cases d1 with
    | d d1 =>
      obtain ⟨a, dx, fs, rfl, _, h1, h2⟩ := den_ins d1
      refine ⟨a, dx, fs, rfl, h1, (flds_look h2).2 hl, S1, f1.slots sl, o1, fun S2 vs H2 f2 o2 d2 => ?_⟩
      show spF X.K g (V.ref a :: (vs ++ [])) H2 Q E0
      rw [appnil]
      exact ⟨S2, _, ow2, r, ow3, .cons (.d (f2.den d1)) d2, o2, hgg, fun S3 v H3 f3 o3 d3 => q S3 v H3 (f1.trans o1 (f2.trans o2 f3)) o3 d3⟩⟩
/-! ### statements -/
variable {ss tb eb rest : List Stmt} {s : Stmt} {out : Out} {bl : Bool}
theorem pbd_nil : PBD X st ow [] (.nx st ow) := (pss_nil).imp fun E σ H ⟨S, sl, o, k⟩ => k S σ H (.refl S H) sl o
theorem goes_seq {K : PySem.W.Frag} {S : List Addr} {H : Hp} {E : Ends} (k : Goes K S H E out) {S1 : List Addr} {H1 : Hp} (f : Fwd S H S1 H1) (o : Owns K S1 H1 ow) : Goes K S1 H1 E out := by
  cases out with
  | nx st ow => exact fun S' σ' H' f' => k S' σ' H' (f.trans o f')
  | brk st ow => exact fun S' σ' H' f' => k S' σ' H' (f.trans o f')
  | ct st ow => exact fun S' σ' H' f' => k S' σ' H' (f.trans o f')
  | ret r ow => exact fun S' v H' f' => k S' v H' (f.trans o f')
theorem pbd_cons (h1 : PSD X st ow s (.nx st1 ow1)) (h2 : PBD X st1 ow1 rest out) : PBD X st ow (s :: rest) out :=
  (pss_cons h1 h2).imp fun E σ H ⟨S, sl, o, k⟩ => ⟨S, sl, o, fun S1 σ1 H1 f1 sl1 o1 => ⟨S1, sl1, o1, goes_seq k f1 o1⟩⟩
/-- a statement that does not come to its end -/
def Leaves : Out → Prop
  | .nx _ _ => False
  | _ => True
theorem goes_leave {K : PySem.W.Frag} {S : List Addr} {H : Hp} {E E' : Ends} (h : Leaves out) (k : Goes K S H E out) (e1 : E'.rt = E.rt) (e2 : E'.bk = E.bk) (e3 : E'.ct = E.ct) : Goes K S H E' out := by
  cases out with
  | nx st ow => exact h.elim
  | brk st ow => intro S' σ' H' f' sl o; rw [e2]; exact k S' σ' H' f' sl o
  | ct st ow => intro S' σ' H' f' sl o; rw [e3]; exact k S' σ' H' f' sl o
  | ret r ow => intro S' v H' f' o d; rw [e1]; exact k S' v H' f' o d
theorem never_ss {X : Cx} {ss : List Stmt} : PSs X ss (fun _ _ _ => False) := ⟨fun _ _ _ _ _ _ z => z.elim⟩
theorem pbd_last (h1 : PSD X st ow s out) (hl : Leaves out := by trivial) : PBD X st ow (s :: rest) out :=
  (pss_cons h1 never_ss).imp fun E σ H ⟨S, sl, o, k⟩ => ⟨S, sl, o, goes_leave (E := E) hl k rfl rfl rfl⟩
theorem psd_ret (h : PD X st ow e r ow1) : PSD X st ow (.Return (some e) pos) (.ret r ow1) := (ps_ret h).imp fun E σ H ⟨S, sl, o, k⟩ => ⟨S, sl, o, fun S1 v H1 f1 o1 d1 => k S1 v H1 f1 o1 d1⟩
theorem psd_set {x : Str} {pos' : Pos} (i : Nat) (hN : X.N.Nodup) (he : PD X st ow e r ow1) (hi : X.N[i]? = some x := by rfl) (hx : Loc X.env.scope x := by first | exact Or.inl rfl | exact Or.inr rfl) (hs : swapsWith e (some (.Name x pos')) pos.line X.env = pure false := by rfl)
    (hf : X.fn x = true ∨ X.env.scope.names.lookup x = some .local := by first | exact .inl rfl | exact .inr rfl | assumption) : PSD X st ow (.Assign [.Name x pos'] e pos) (.nx (st.set i (some r)) ow1) :=
  (ps_set hN hi hx he hs hf).imp fun E σ H ⟨S, sl, o, k⟩ => ⟨S, sl, o, fun S1 v H1 f1 o1 d1 => k S1 _ H1 f1 ((f1.slots sl).set i d1) o1⟩
theorem psd_expr (he : PD X st ow e r ow1) (hs : swapsWith e none pos.line X.env = pure false := by rfl) : PSD X st ow (.Expr e pos) (.nx st ow1) := (ps_expr he hs).imp fun E σ H ⟨S, sl, o, k⟩ => ⟨S, sl, o, fun S1 v H1 f1 o1 d1 => k S1 _ H1 f1 (f1.slots sl) o1⟩
theorem psd_if (hc : PTD X st ow c bl ow1) (h1 : bl = true → PBD X st ow1 tb out) (h2 : bl = false → PBD X st ow1 eb out) : PSD X st ow (.If c tb eb pos) out := by
  cases bl with
  | true => exact (ps_if hc (h1 rfl) never_ss).imp fun E σ H ⟨S, sl, o, k⟩ => ⟨S, sl, o, fun S1 H1 f1 o1 => iteT ⟨S1, f1.slots sl, o1, goes_seq k f1 o1⟩⟩
  | false => exact (ps_if hc never_ss (h2 rfl)).imp fun E σ H ⟨S, sl, o, k⟩ => ⟨S, sl, o, fun S1 H1 f1 o1 => iteF ⟨S1, f1.slots sl, o1, goes_seq k f1 o1⟩⟩
/-- if c: (leaves); rest -/
theorem pbd_ifL (hc : PTD X st ow c bl ow1) (h1 : bl = true → PBD X st ow1 tb out) (hl : Leaves out) (h2 : bl = false → PBD X st ow1 rest out) : PBD X st ow (.If c tb [] pos :: rest) out := by
  cases bl with
  | true => exact pbd_last (psd_if hc h1 (fun z => nomatch z)) hl
  | false => exact pbd_cons (psd_if (out := .nx st ow1) hc (fun z => nomatch z) (fun _ => pbd_nil)) (h2 rfl)
/-- fewer things known behind -/
theorem pbd_weak {st' : Sta} (h : PBD X st ow ss (.nx st1 ow1)) (hl : st1.length = st'.length) (hk : ∀ (i : Nat) r, st'[i]? = some (some r) → st1[i]? = some (some r)) : PBD X st ow ss (.nx st' ow1) :=
  PSs.imp h fun E σ H ⟨S, sl, o, k⟩ => ⟨S, sl, o, fun S1 σ1 H1 f1 sl1 o1 => k S1 σ1 H1 f1 (sl1.weak hl hk) o1⟩
end
end Bl
set_option Elab.async false
set_option linter.all false
set_option maxRecDepth 100000
set_option maxHeartbeats 4000000
namespace Bl
open PySem PySem.Spec PyProof.Rows L2
/-! ### mutable lists: append, put -/
theorem own_putB {K : PySem.W.Frag} {S : List Addr} {H : Hp} {ow : List OB} {k : Nat} {a : Addr} {u : HO} {b' : OB} (o : Owns K S H ow) (hk : S[k]? = some a) (r : ExS S H (upd H a u) → ObAt K S (upd H a u) a b') :
    ExS S H (upd H a u) ∧ Owns K S (upd H a u) (ow.set k b') := by
  have ha : a ∈ S := List.mem_of_getElem? hk
  have ex : ExS S H (upd H a u) := fun b u n h => by
    rw [upd_ne (fun e => n (by rw [e]; exact ha))]
    exact h
  refine ⟨ex, ⟨by rw [List.length_set]; exact o.len, o.nd, fun j l e => ?_⟩⟩
  by_cases hj : k = j
  · subst hj
    have hl : k < ow.length := by
      rw [← o.len]
      exact (List.getElem?_eq_some_iff.mp hk).1
    rw [List.getElem?_set_self hl] at e
    have e' := Option.some.inj e
    subst e'
    exact ⟨a, hk, r ex⟩
  · rw [List.getElem?_set_ne hj] at e
    obtain ⟨b, z, y⟩ := o.ob j l e
    refine ⟨b, z, y.keep ex fun u hu => ?_⟩
    have hb : b ≠ a := fun e => by
      subst e
      have hk' := hk
      exact hj ((List.getElem?_inj (List.getElem?_eq_some_iff.mp hk).1 o.nd).mp (hk.trans z.symm))
    rw [upd_ne hb]
    exact hu
theorem own_put {K : PySem.W.Frag} {S : List Addr} {H : Hp} {ow : List OB} {k : Nat} {a : Addr} {ys : List V} {l' : List D} (o : Owns K S H ow) (hk : S[k]? = some a) (r : Dens K S H ys l') :
    ExS S H (upd H a (.lst ys)) ∧ Owns K S (upd H a (.lst ys)) (ow.set k (.l l')) := own_putB o hk fun ex => .l upd_same (r.mono ex)
theorem fwd_same {K : PySem.W.Frag} {S S' : List Addr} {H H' : Hp} {ow ow' : List OB} (f : Fwd S H S' H') (o : Owns K S H ow) (o' : Owns K S' H' ow') (hl : ow.length = ow'.length) : S' = S := by
  obtain ⟨ps, e, _⟩ := f.gr
  have h1 := o.len
  have h2 := o'.len
  have : ps.length = 0 := by
    have z := congrArg List.length e
    rw [List.length_append] at z
    omega
  have hp : ps = [] := List.length_eq_zero_iff.mp this
  rw [e, hp, List.append_nil]
/-! ### what is walked -/
def WD (K : PySem.W.Frag) (S : List Addr) (H : Hp) (J : It) (xs : List D) : Prop :=
  L2.Walk J xs.length (fun H2 => ∃ S2 ow2, Fwd S H S2 H2 ∧ Owns K S2 H2 ow2) (fun i H2 x H3 => Evl.Ex H2 H3 ∧ ∀ S2 ow2, Fwd S H S2 H2 → Owns K S2 H2 ow2 → ∃ d, xs[i]? = some d ∧ Den K S2 H3 x d)
def tDI (K : PySem.W.Frag) (st : Sta) (ow : List OB) (xs : List D) (ow' : List OB) : TI := fun σ H R => ∃ S, Slots K S H σ st ∧ Owns K S H ow ∧ ∀ S' H' J, Fwd S H S' H' → Owns K S' H' ow' → WD K S' H' J xs → R J H'
abbrev PID (X : Cx) (st : Sta) (ow : List OB) (tg iter : Expr) (xs : List D) (ow' : List OB) : Prop := PI X tg iter (tDI X.K st ow xs ow')
theorem _root_.L2.PI.imp {X : Cx} {tg iter : Expr} {t t' : TI} (h : PI X tg iter t) (f : ∀ σ H Q, t' σ H Q → t σ H Q) : PI X tg iter t' := ⟨fun pins s σ H Q I z => h.run pins s σ H Q I (f σ H Q z)⟩
theorem wd_list {K : PySem.W.Frag} {S : List Addr} {H : Hp} {a : Addr} {ds : List D} (h : Den K S H (.ref a) (.lst ds)) : WD K S H (Itl K a) ds where
  goes := fun i H2 hi ⟨S2, ow2, f, o⟩ => by
    obtain ⟨a', xs, e, h1, h2⟩ := (f.den h : Den K S2 H2 (.ref a) (.lst ds)).of_lst
    cases e
    obtain ⟨x, h3, _⟩ := h2.get (List.getElem?_eq_getElem hi)
    exact ⟨xs, x, h1.sq, h3⟩
  stops := fun H2 ⟨S2, ow2, f, o⟩ => by
    obtain ⟨a', xs, e, h1, h2⟩ := (f.den h : Den K S2 H2 (.ref a) (.lst ds)).of_lst
    cases e
    exact ⟨xs, h1.sq, Nat.le_of_eq h2.length⟩
  yields := fun i H2 x H3 hi _ y => by
    obtain ⟨e, y⟩ := y
    subst e
    refine ⟨Evl.Ex.refl _, fun S2 ow2 f o => ?_⟩
    obtain ⟨a', xs, e, h1, h2⟩ := (f.den h : Den K S2 _ (.ref a) (.lst ds)).of_lst
    cases e
    exact h2.get' (y xs h1.sq)
theorem wd_tup {K : PySem.W.Frag} {S : List Addr} {H : Hp} {a : Addr} {ds : List D} {dd : D} (h : Den K S H (.ref a) dd) (ht : tupL dd = some ds) : WD K S H (Itt K a) ds where
  goes := fun i H2 hi ⟨S2, ow2, f, o⟩ => by
    obtain ⟨a', xs, e, h1, h2⟩ := (f.den h).of_tup ht
    cases e
    obtain ⟨x, h3, _⟩ := Dens.get h2 (List.getElem?_eq_getElem hi)
    exact ⟨xs, x, h1, h3⟩
  stops := fun H2 ⟨S2, ow2, f, o⟩ => by
    obtain ⟨a', xs, e, h1, h2⟩ := (f.den h).of_tup ht
    cases e
    exact ⟨xs, h1, Nat.le_of_eq (Dens.length h2)⟩
  yields := fun i H2 x H3 hi _ y => by
    obtain ⟨e, y⟩ := y
    subst e
    refine ⟨Evl.Ex.refl _, fun S2 ow2 f o => ?_⟩
    obtain ⟨a', xs, e, h1, h2⟩ := (f.den h).of_tup ht
    cases e
    exact Dens.get' h2 (y xs h1)
def rngD (lo : Int) (n : Nat) : List D := (List.range n).map fun (i : Nat) => D.int (lo + (i : Int))
theorem wd_rng {K : PySem.W.Frag} {S : List Addr} {H : Hp} {lo : Int} {n : Nat} : WD K S H (Itr lo n) (rngD lo n) where
  goes := fun i H2 hi _ => by
    have : (rngD lo n).length = n := by simp [rngD]
    rw [this] at hi
    exact hi
  stops := fun H2 _ => by
    have : (rngD lo n).length = n := by simp [rngD]
    rw [this]
    exact Nat.le_refl n
  yields := fun i H2 x H3 hi _ y => by
    obtain ⟨e, rfl⟩ := y
    subst e
    have hn : (rngD lo n).length = n := by simp [rngD]
    rw [hn] at hi
    refine ⟨Evl.Ex.refl _, fun S2 ow2 f o => ⟨.int (lo + (i : Int)), ?_, .int _⟩⟩
    unfold rngD
    rw [List.getElem?_map, List.getElem?_range hi] <;> rfl
def enumD (ds : List D) : List D := ds.zipIdx.map fun p => D.par [.int (p.2 : Nat), p.1]
theorem enumD_len (ds : List D) : (enumD ds).length = ds.length := by simp [enumD]
theorem enumD_get {ds : List D} {i : Nat} {d : D} (h : ds[i]? = some d) : (enumD ds)[i]? = some (D.par [.int (i : Nat), d]) := by
  unfold enumD
  rw [List.getElem?_map, List.getElem?_zipIdx, h]
  simp
theorem wd_enum {K : PySem.W.Frag} {S : List Addr} {H : Hp} {a : Addr} {ds : List D} (h : Den K S H (.ref a) (.lst ds)) : WD K S H (Ite K a) (enumD ds) where
  goes := fun i H2 hi ⟨S2, ow2, f, o⟩ => by
    rw [enumD_len] at hi
    obtain ⟨a', xs, e, h1, h2⟩ := (f.den h : Den K S2 H2 (.ref a) (.lst ds)).of_lst
    cases e
    obtain ⟨x, h3, _⟩ := h2.get (List.getElem?_eq_getElem hi)
    exact ⟨xs, x, h1.sq, h3⟩
  stops := fun H2 ⟨S2, ow2, f, o⟩ => by
    rw [enumD_len]
    obtain ⟨a', xs, e, h1, h2⟩ := (f.den h : Den K S2 H2 (.ref a) (.lst ds)).of_lst
    cases e
    exact ⟨xs, h1.sq, Nat.le_of_eq h2.length⟩
  yields := fun i H2 x H3 hi _ y => by
    obtain ⟨T, x1, rfl, hT, rfl, y⟩ := y
    refine ⟨Evl.Ex.new hT, fun S2 ow2 f o => ?_⟩
    obtain ⟨a', xs, e, h1, h2⟩ := (f.den h : Den K S2 _ (.ref a) (.lst ds)).of_lst
    cases e
    obtain ⟨d, h3, h4⟩ := h2.get' (y xs h1.sq)
    exact ⟨_, enumD_get h3, new_par o hT (.cons (.int _) (.cons h4 .nil))⟩
section
variable {X : Cx} {e a b c o tg iter elt tg1 iter1 : Expr} {es : List Expr} {st st1 st2 : Sta} {ow ow1 ow2 ow3 : List OB} {r : R} {rs : List R} {d x y z : D} {ds xs : List D} {pos p p2 : Pos}
theorem pid_list (h : PD X st ow e (.d (.lst ds)) ow1) : PID X st ow tg e ds ow1 := (pi_list h).imp fun σ H Q ⟨S, sl, o, k⟩ => ⟨S, sl, o, fun S1 v H1 f1 o1 d1 => by
  cases d1 with
  | d d1 =>
    obtain ⟨a, xs, rfl, h1, h2⟩ := d1.of_lst
    exact ⟨a, rfl, ⟨xs, h1.sq⟩, k S1 H1 _ f1 o1 (wd_list d1)⟩⟩
theorem pid_tup {dd : D} (h : PD X st ow e (.d dd) ow1) (ht : tupL dd = some ds := by rfl) : PID X st ow tg e ds ow1 := (pi_tup h).imp fun σ H Q ⟨S, sl, o, k⟩ => ⟨S, sl, o, fun S1 v H1 f1 o1 d1 => by
  cases d1 with
  | d d1 =>
    obtain ⟨a, xs, rfl, h1, h2⟩ := d1.of_tup ht
    exact ⟨a, rfl, ⟨xs, h1⟩, k S1 H1 _ f1 o1 (wd_tup d1 ht)⟩⟩
theorem pid_range1 {n : Int} (hm : X.mg "range" = none) (ha : PADd X st ow [e] [.int n] ow1) (hn : -(2 ^ 62) ≤ n ∧ n < 2 ^ 62) (hg : Gl X "range" := by rfl) (he : starEach [e] X.env = [(false, eval e X.env)] := by rfl) : PID X st ow tg (.Call (.Name "range" p) [e] [] pos) (rngD 0 n.toNat) ow1 :=
  (pi_range1 hg hm ha he).imp fun σ H Q ⟨S, sl, o, k⟩ => ⟨S, sl, o, fun S1 vs H1 f1 o1 d1 => by
    obtain ⟨v, rfl, g⟩ := dens1 (densOf d1)
    exact ⟨n, by rw [g.of_int], hn.1, hn.2, k S1 H1 _ f1 o1 wd_rng⟩⟩
theorem pid_enumL {elts : List Expr} {kk : Nat} {tpos : Pos} (hm : X.mg "enumerate" = none) (ha : PADd X st ow [e] [.lst ds] ow1) (hg : Gl X "enumerate" := by rfl) (hs : starEach [e] X.env = [(false, eval e X.env)] := by rfl) :
    PID X st ow (.Tuple elts kk tpos) (.Call (.Name "enumerate" p) [e] [] pos) (enumD ds) ow1 :=
  (pi_enum hg hm ha hs).imp fun σ H Q ⟨S, sl, o, k⟩ => ⟨S, sl, o, fun S1 vs H1 f1 o1 d1 => by
    obtain ⟨v, rfl, g⟩ := dens1 (densOf d1)
    obtain ⟨a, xs, rfl, h1, h2⟩ := g.of_lst
    exact ⟨a, xs, rfl, h1.sq, k S1 H1 _ f1 o1 (wd_enum g)⟩⟩
/-! ### targets -/
def tDG (K : PySem.W.Frag) (vs : List Nat) (st : Sta) (d : D) (st' : Sta) : TG := fun v σ H Q => ∃ S, Slots K S H σ st ∧ Den K S H v d ∧ ∀ σ', Slots K S H σ' st' → wipe σ' vs = wipe σ vs → Q σ' H
def tDGs (K : PySem.W.Frag) (vs : List Nat) (st : Sta) (ds : List D) (st' : Sta) : TGs := fun us σ H Q => ∃ S, Slots K S H σ st ∧ Dens K S H us ds ∧ ∀ σ', Slots K S H σ' st' → wipe σ' vs = wipe σ vs → Q σ' H
abbrev PGD (X : Cx) (vs : List Nat) (st : Sta) (d : D) (tg : Expr) (st' : Sta) : Prop := PG X tg (tDG X.K vs st d st')
abbrev PGsD (X : Cx) (vs : List Nat) (st : Sta) (ds : List D) (ts : List Expr) (st' : Sta) : Prop := PGs X ts (tDGs X.K vs st ds st')
theorem _root_.L2.PG.imp {X : Cx} {tg : Expr} {t t' : TG} (h : PG X tg t) (f : ∀ v σ H Q, t' v σ H Q → t v σ H Q) : PG X tg t' := ⟨fun pins s σ H v u Q I r z => h.run pins s σ H v u Q I r (f v σ H Q z)⟩
theorem _root_.L2.PGs.imp {X : Cx} {ts : List Expr} {t t' : TGs} (h : PGs X ts t) (f : ∀ v σ H Q, t' v σ H Q → t v σ H Q) : PGs X ts t' := ⟨fun pins s σ H v u Q I r z => h.run pins s σ H v u Q I r (f v σ H Q z)⟩
theorem set_set_comm' {α : Type} : ∀ (l : List α) (i j : Nat) (a b : α), i ≠ j → (l.set i a).set j b = (l.set j b).set i a
  | [], _, _, _, _, _ => rfl
  | _ :: _, 0, 0, _, _, h => absurd rfl h
  | _ :: _, 0, _ + 1, _, _, _ => rfl
  | _ :: _, _ + 1, 0, _, _, _ => rfl
  | x :: l, i + 1, j + 1, a, b, h => by
    show x :: ((l.set i a).set j b) = x :: ((l.set j b).set i a)
    rw [set_set_comm' l i j a b (fun e => h (by rw [e]))]
theorem wipe_set_in {σ : L2.St} {i : Nat} {v : Option V} : ∀ {vs : List Nat}, i ∈ vs → wipe (σ.set i v) vs = wipe σ vs
  | [], h => nomatch h
  | w :: vs, h => by
    unfold wipe
    by_cases hi : i ∈ vs
    · rw [wipe_set_in hi]
    · have e : i = w := by
        rcases List.mem_cons.mp h with z | z
        · exact z
        · exact absurd z hi
      subst e
      have out : ∀ {vs : List Nat}, i ∉ vs → wipe (σ.set i v) vs = (wipe σ vs).set i v := by
        intro vs
        induction vs with
        | nil => intro _; rfl
        | cons u vs ih =>
          intro hn
          unfold wipe
          rw [ih (fun z => hn (List.mem_cons_of_mem _ z)), set_set_comm' _ _ _ _ _ (fun e => hn (by rw [e]; exact List.mem_cons_self))]
      rw [out hi, List.set_set]
theorem pgd_name {x : Str} {vs : List Nat} (i : Nat) (hN : X.N.Nodup) (hv : vs = [] ∨ i ∈ vs := by first | (exact Or.inr (by decide)) | exact Or.inl rfl) (hi : X.N[i]? = some x := by rfl) (hx : Loc X.env.scope x := by first | exact Or.inl rfl | exact Or.inr rfl)
    (hf : X.fn x = true ∨ X.env.scope.names.lookup x = some .local := by first | exact .inl rfl | exact .inr rfl | assumption) (hvs : i ∈ vs := by decide) : PGD X vs st d (.Name x pos) (st.set i (some (.d d))) :=
  (pg_name hN hi hx hf).imp fun v σ H Q ⟨S, sl, dd, k⟩ => k _ (sl.set i (.d dd)) (wipe_set_in hvs)
theorem pgsd_nil {vs : List Nat} : PGsD X vs st [] [] st := (pgs_nil).imp fun us σ H Q ⟨S, sl, dd, k⟩ => by
  cases us with
  | nil => exact ⟨rfl, k σ sl rfl⟩
  | cons u us => cases dd
theorem pgsd_cons {vs : List Nat} (h : PGD X vs st d a st1) (t : PGsD X vs st1 ds es st2) (hs : (assignEach (a :: es) X.env).map (·.2) = assign a X.env :: (assignEach es X.env).map (·.2) := by rfl) : PGsD X vs st (d :: ds) (a :: es) st2 := (pgs_cons h t hs).imp fun us σ H Q ⟨S, sl, dd, k⟩ => by
  cases us with
  | nil => cases dd
  | cons u us => exact ⟨u, us, rfl, S, sl, dd.uncons.1, fun σ1 sl1 w1 => ⟨S, sl1, dd.uncons.2, fun σ2 sl2 w2 => k σ2 sl2 (w2.trans w1)⟩⟩
theorem pgd_tup {vs : List Nat} {k : Nat} {dd : D} (hc : X.calm = true) (h : PGsD X vs st ds es st1) (ht : tupL dd = some ds := by rfl) (hn : (assignEach es X.env).length = ds.length := by rfl) (hst : (assignEach es X.env).findIdx? (·.1) = none := by rfl) : PGD X vs st dd (.Tuple es k pos) st1 :=
  (pg_tup hc h hn hst).imp fun v σ H Q ⟨S, sl, dd, k⟩ => by
    obtain ⟨a, xs, rfl, h1, h2⟩ := dd.of_tup ht
    exact ⟨a, xs, rfl, h1, Dens.length h2, S, sl, h2, k⟩
/-- a, b, .. = e, e a tuple -/
theorem psd_asgT {tgt : Expr} {vs : List Nat} (he : PD X st ow e (.d d) ow1) (hg : PGD X vs st d tgt st1) (hs : swapsWithSole [tgt] e pos.line X.env = pure false := by rfl) (hw : swappedStores [tgt] e X.env = pure none := by rfl)
    (h1 : (assignEach [tgt] X.env).map (·.2) = [assign tgt X.env] := by rfl) : PSD X st ow (.Assign [tgt] e pos) (.nx st1 ow1) :=
  (ps_asg he hg hs hw h1).imp fun E σ H ⟨S, sl, o, k⟩ => ⟨S, sl, o, fun S1 v H1 f1 o1 d1 => by
    cases d1 with
    | d d1 => exact ⟨S1, f1.slots sl, d1, fun σ' sl' _ => k S1 σ' H1 f1 sl' o1⟩⟩
/-! ### for -/
theorem pss_ex {ι : Sort _} {ss : List Stmt} {t : ι → TS} (h : ∀ i, PSs X ss (t i)) : PSs X ss (fun E σ H => ∃ i, t i E σ H) := ⟨fun pins s σ H E I ⟨i, z⟩ => (h i).run pins s σ H E I z⟩
theorem pg_ex {ι : Sort _} {tg : Expr} {t : ι → TG} (h : ∀ i, PG X tg (t i)) : PG X tg (fun v σ H Q => ∃ i, t i v σ H Q) := ⟨fun pins s σ H v u Q I r ⟨i, z⟩ => (h i).run pins s σ H v u Q I r z⟩
theorem pe_ex {ι : Sort _} {e : Expr} {t : ι → TE} (h : ∀ i, PE X e (t i)) : PE X e (fun σ H Q => ∃ i, t i σ H Q) := ⟨fun pins s σ H Q I ⟨i, z⟩ => (h i).run pins s σ H Q I z⟩
theorem pts_ex {ι : Sort _} {e : List Expr} {t : ι → TT} (h : ∀ i, PTs X e (t i)) : PTs X e (fun σ H Q => ∃ i, t i σ H Q) := ⟨fun pins s σ H Q I ⟨i, z⟩ => (h i).run pins s σ H Q I z⟩
theorem pi_ex {ι : Sort _} {tg e : Expr} {t : ι → TI} (h : ∀ i, PI X tg e (t i)) : PI X tg e (fun σ H Q => ∃ i, t i σ H Q) := ⟨fun pins s σ H Q I ⟨i, z⟩ => (h i).run pins s σ H Q I z⟩
/-- at turn i: to the next turn -/
def Onw (Iv : Nat → Sta) (Io : Nat → List OB) (i : Nat) (o : Out) : Prop := o = .nx (Iv (i + 1)) (Io (i + 1)) ∨ o = .ct (Iv (i + 1)) (Io (i + 1))
variable {body : List Stmt} {out : Out}
abbrev FIx (xs : List D) (m : Option Nat) := { p : Nat × D // xs[p.1]? = some p.2 ∧ ∀ k, m = some k → p.1 ≤ k }
def fTG (K : PySem.W.Frag) (vs : List Nat) (Iv stm : Nat → Sta) (xs : List D) (m : Option Nat) : TG := fun v σ H Q => ∃ i : FIx xs m, tDG K vs (Iv i.1.1) i.1.2 (stm i.1.1) v σ H Q
def fTS (K : PySem.W.Frag) (stm : Nat → Sta) (Io : Nat → List OB) (oo : Nat → Out) (xs : List D) (m : Option Nat) : TS := fun E σ H => ∃ i : FIx xs m, tDS K (stm i.1.1) (Io i.1.1) (oo i.1.1) E σ H
/-- a for whose turns up to m go on (m = none: all of them); at turn m it leaves by out -/
theorem psd_forG (vs : List Nat) (Iv : Nat → Sta) (Io : Nat → List OB) (m : Option Nat) (stm : Nat → Sta) (oo : Nat → Out) (hp : PassesOwn (model X.prog X.w) X.A X.env X.xe) (hc : X.calm = true) (hi : PID X st ow tg iter xs ow1)
    (h0 : st.length = (Iv 0).length ∧ ∀ (i : Nat) r, (Iv 0)[i]? = some (some r) → st[i]? = some (some r)) (h0o : Io 0 = ow1)
    (hg : ∀ i d, xs[i]? = some d → (∀ k, m = some k → i ≤ k) → PGD X vs (Iv i) d tg (stm i))
    (hb : ∀ i d, xs[i]? = some d → (∀ k, m = some k → i ≤ k) → PBD X (stm i) (Io i) body (oo i))
    (ho : ∀ i, i < xs.length → (∀ k, m = some k → i ≤ k) → if m = some i then (match oo i with
      | .ret r w => out = .ret r w
      | .brk s w => out = .nx s w
      | _ => False) else Onw Iv Io i (oo i))
    (hend : match m with
      | none => out = .nx (Iv xs.length) (Io xs.length)
      | some k => k < xs.length)
    (hs : ∀ x, foldedSetIterable iter X.env x = pure x := by intro _; rfl) : PSD X st ow (.For tg iter body [] pos) out := by
  refine (ps_for (g := fTG X.K vs Iv stm xs m) (tb := fTS X.K stm Io oo xs m) hp hc hi (pg_ex (ι := FIx xs m) fun i => hg i.1.1 i.1.2 i.2.1 i.2.2) (pss_ex (ι := FIx xs m) fun i => hb i.1.1 i.1.2 i.2.1 i.2.2) hs).imp fun E σ H ⟨S, sl, o, k⟩ => ?_
  refine ⟨S, sl, o, fun S1 H1 J f1 o1 w1 => ?_⟩
  refine for_it (D := E) (g := fTG X.K vs Iv stm xs m) (tb := fTS X.K stm Io oo xs m) w1 (fun i σ' H' => (∀ k, m = some k → i ≤ k) ∧ ∃ S', Fwd S1 H1 S' H' ∧ Slots X.K S' H' σ' (Iv i) ∧ Owns X.K S' H' (Io i)) ⟨fun k _ => Nat.zero_le k, S1, .refl S1 H1, (f1.slots sl).weak h0.1 h0.2, by rw [h0o]; exact o1⟩ (fun i σ' H' hi ⟨_, S', f', _, o'⟩ => ⟨S', _, f', o'⟩) (fun i x σ' H' H2 hi ⟨hm, S', f', sl', o'⟩ ⟨ex, y⟩ => ?_) (fun σ' H' ⟨hm, S', f', sl', o'⟩ => ?_)
  · obtain ⟨d, hd, dd⟩ := y S' _ f' o'
    refine ⟨⟨(i, d), hd, hm⟩, S', (Fwd.of ex).slots sl', dd, fun σ2 sl2 _ => ⟨⟨(i, d), hd, hm⟩, S', sl2, o'.ex ex, ?_⟩⟩
    have f2 : Fwd S1 H1 S' H2 := f'.trans o' (.of ex)
    have hoi := ho i hi hm
    have f0 : Fwd S H S' H2 := f1.trans o1 f2
    by_cases he : m = some i
    · rw [if_pos he] at hoi
      show Goes X.K S' H2 _ (oo i)
      cases hoo : oo i with
      | nx s w => rw [hoo] at hoi; exact hoi.elim
      | ct s w => rw [hoo] at hoi; exact hoi.elim
      | ret r w =>
        rw [hoo] at hoi
        subst hoi
        exact fun S3 v H3 f3 o3 d3 => k S3 v H3 (f0.trans (o'.ex ex) f3) o3 d3
      | brk s w =>
        rw [hoo] at hoi
        subst hoi
        exact fun S3 σ3 H3 f3 sl3 o3 => k S3 σ3 H3 (f0.trans (o'.ex ex) f3) sl3 o3
    · rw [if_neg he] at hoi
      have hm1 : ∀ k, m = some k → i + 1 ≤ k := fun k hk => by
        have h1 := hm k hk
        have h2 : i ≠ k := fun e => he (by rw [e]; exact hk)
        omega
      show Goes X.K S' H2 _ (oo i)
      rcases hoi with e | e
      · rw [e]
        exact fun S3 σ3 H3 f3 sl3 o3 => ⟨hm1, S3, f2.trans (o'.ex ex) f3, sl3, o3⟩
      · rw [e]
        exact fun S3 σ3 H3 f3 sl3 o3 => ⟨hm1, S3, f2.trans (o'.ex ex) f3, sl3, o3⟩
  · cases m with
    | none =>
      have hend : out = .nx (Iv xs.length) (Io xs.length) := hend
      subst hend
      exact k S' σ' H' (f1.trans o1 f') sl' o'
    | some k0 =>
      have h1 := hm k0 rfl
      have h2 : k0 < xs.length := hend
      omega
end
end Bl
set_option Elab.async false
set_option linter.all false
set_option maxRecDepth 100000
set_option maxHeartbeats 4000000
namespace Bl
open PySem PySem.Spec PyProof.Rows L2
section
variable {X : Cx} {e a b c o tg iter elt tg1 iter1 : Expr} {es ifs ifs1 : List Expr} {scope : Scope} {own : List (Str × Nat)} {st st1 st2 : Sta} {ow ow1 ow2 ow3 : List OB} {r : R} {rs : List R} {d x y z : D} {ds xs : List D} {pos p p2 : Pos}
abbrev AtBlk (X : Cx) (scope : Scope) (P : Cx → Prop) : Prop := ∀ (s : Shared) (H : Hp) (C : Addr) (cl : List (Str × Addr)) (fp : List Addr), P (X.blk s H scope (compEnvC scope cl C X.env) fp)
abbrev PTsD (X : Cx) (st : Sta) (ow : List OB) (es : List Expr) (b : Bool) : Prop := PTs X es (tDT X.K st ow b ow)
theorem ptsd_nil : PTsD X st ow [] true := ⟨fun pins s σ H Q I ⟨S, sl, o, k⟩ => pts_nil.run pins s σ H Q I (k S H (.refl S H) o)⟩
theorem ptsd_one {q : Bool} (h : PTD X st ow e q ow) : PTsD X st ow [e] q := ⟨fun pins s σ H Q I z => (pts_one h).run pins s σ H Q I z⟩
theorem take_succ_of {α : Type} {l : List α} {i : Nat} {x : α} (h : l[i]? = some x) : l.take (i + 1) = l.take i ++ [x] := by
  rw [List.take_add_one, h] <;> rfl
theorem take_all {α : Type} (l : List α) : l.take l.length = l := List.take_of_length_le (Nat.le_refl _)
theorem map_some_of {α β : Type} {f : α → β} {l : List α} {i : Nat} {d : β} (h : (l.map f)[i]? = some d) : ∃ x, l[i]? = some x ∧ f x = d := by
  rw [List.getElem?_map] at h
  cases e : l[i]? with
  | none => rw [e] at h; cases h
  | some x => rw [e] at h; exact ⟨x, rfl, Option.some.inj h⟩
theorem owns_last {K : PySem.W.Frag} {S : List Addr} {H : Hp} {D : Addr} {l : List Bl.D} (o : Owns K (S ++ [D]) H (ow ++ [.l l])) : ∃ xs, (S ++ [D])[ow.length]? = some D ∧ H D = some (.lst xs) ∧ Dens K (S ++ [D]) H xs l := by
  have hl := o.len
  rw [List.length_append, List.length_append] at hl
  have hl : S.length + 1 = ow.length + 1 := hl
  obtain ⟨a, xs, z, y, w⟩ := o.at_ ow.length l (by rw [List.getElem?_append_right (Nat.le_refl _), Nat.sub_self] <;> rfl)
  have e : (S ++ [D])[ow.length]? = some D := by rw [List.getElem?_append_right (by omega), show ow.length - S.length = 0 by omega] <;> rfl
  rw [e] at z
  cases z
  exact ⟨xs, e, y, w⟩
theorem set_last {b b' : OB} : (ow ++ [b]).set ow.length b' = ow ++ [b'] := by
  rw [List.set_append_right _ _ (Nat.le_refl _), Nat.sub_self] <;> rfl
/-- the state while a comprehension's list grows at D -/
structure LcP (K : PySem.W.Frag) (S1 : List Addr) (H1 : Hp) (D : Addr) (ow1 : List OB) (acc : List Bl.D) (H' : Hp) : Prop where
  f : Fwd S1 H1 (S1 ++ [D]) H'
  o : Owns K (S1 ++ [D]) H' (ow1 ++ [.l acc])
theorem LcP.app {K : PySem.W.Frag} {S1 : List Addr} {H1 H4 : Hp} {D : Addr} {acc : List Bl.D} {y : V} {d : Bl.D} (h : LcP K S1 H1 D ow1 acc H4) (hd : Den K (S1 ++ [D]) H4 y d) (hz : acc.length < 100000) :
    ∃ vs, H4 D = some (.lst vs) ∧ vs.length < sizeLine ∧ LcP K S1 H1 D ow1 (acc ++ [d]) (upd H4 D (.lst (vs ++ [y]))) := by
  obtain ⟨vs, e1, e2, e3⟩ := owns_last h.o
  have hl := e3.length
  obtain ⟨g1, g2⟩ := own_put (l' := acc ++ [d]) h.o e1 (Dens.append e3 (.cons hd .nil))
  rw [set_last] at g2
  refine ⟨vs, e2, by rw [hl]; exact Evl.sz_lt hz, ⟨?_, g2⟩⟩
  refine h.f.trans h.o ⟨⟨[], (List.append_nil _).symm, fun _ z => nomatch z⟩, g1⟩
theorem LcP.on {K : PySem.W.Frag} {S1 S2 : List Addr} {H1 H4 H5 : Hp} {D : Addr} {acc : List Bl.D} (h : LcP K S1 H1 D ow1 acc H4) (f : Fwd (S1 ++ [D]) H4 S2 H5) (o : Owns K S2 H5 (ow1 ++ [.l acc])) : S2 = S1 ++ [D] ∧ LcP K S1 H1 D ow1 acc H5 := by
  have e := fwd_same f h.o o rfl
  subst e
  exact ⟨rfl, h.f.trans h.o f, o⟩
theorem wipe_get {σ : L2.St} {i : Nat} : ∀ {vs : List Nat}, (wipe σ vs)[i]? = if i ∈ vs then (σ[i]?).map (fun _ => none) else σ[i]?
  | [] => by simp [wipe]
  | v :: vs => by
    have ih := wipe_get (σ := σ) (i := i) (vs := vs)
    unfold wipe
    by_cases hv : v = i
    · subst hv
      rw [if_pos (List.mem_cons_self)]
      by_cases hl : v < (wipe σ vs).length
      · rw [List.getElem?_set_self hl]
        rw [wipe_length] at hl
        rw [List.getElem?_eq_getElem hl] <;> rfl
      · have hl2 : σ.length ≤ v := by rw [wipe_length] at hl; omega
        rw [List.getElem?_eq_none (by rw [List.length_set]; omega), List.getElem?_eq_none hl2] <;> rfl
    · rw [List.getElem?_set_ne hv, ih]
      by_cases hm : i ∈ vs
      · rw [if_pos hm, if_pos (List.mem_cons_of_mem _ hm)]
      · rw [if_neg hm, if_neg (fun z => by
          rcases List.mem_cons.mp z with y | y
          · exact hv y.symm
          · exact hm y)]
theorem wipe_wipe (σ : L2.St) (vs : List Nat) : wipe (wipe σ vs) vs = wipe σ vs := by
  apply List.ext_getElem?
  intro i
  rw [wipe_get, wipe_get]
  split
  · cases σ[i]? <;> rfl
  · rfl
section
variable {α : Type} (as : List α) (enc : α → D) (stx : α → Sta) (pp : α → Bool) (ff : α → D)
def lG (K : PySem.W.Frag) (vs : List Nat) (st : Sta) : TG := fun v σ H Q => ∃ x : { x : α // x ∈ as }, tDG K vs (wipeD st vs) (enc x.1) (stx x.1) v σ H Q
def lT (K : PySem.W.Frag) (ow1 : List OB) : TT := fun σ H Q => ∃ x : { p : α × List D // p.1 ∈ as }, tDT K (stx x.1.1) (ow1 ++ [.l x.1.2]) (pp x.1.1) (ow1 ++ [.l x.1.2]) σ H Q
def lE (K : PySem.W.Frag) (ow1 : List OB) : TE := fun σ H Q => ∃ x : { p : α × List D // p.1 ∈ as ∧ pp p.1 = true }, tD K (stx x.1.1) (ow1 ++ [.l x.1.2]) (.d (ff x.1.1)) (ow1 ++ [.l x.1.2]) σ H Q
theorem lc_read {K : PySem.W.Frag} {vs : List Nat} {Q : VK} {σ : L2.St} {S1 : List Addr} {H1 : Hp} {J : It} (w1 : WD K S1 H1 J (as.map enc)) (sl : Slots K S1 H1 σ st) (o1 : Owns K S1 H1 ow1) (hlen : as.length ≤ 40000)
    (k : ∀ v H', Fwd S1 H1 S1 H' → Owns K S1 H' ow1 → Den K S1 H' v (.lst ((as.filter pp).map ff)) → Q v H') :
    ∀ D, H1 D = none → ∃ W : Nat → Nat → Hp → Prop, (∃ m, W 0 m (upd H1 D (.lst []))) ∧ ∀ i m H, W i m H →
      (J.stop i H ∧ Q (.ref D) H) ∨ (J.go i H ∧ ∃ Nx : Hp → Prop, (∀ H', Nx H' → ∃ m', m' < m ∧ W (i + 1) m' H') ∧ ∀ x H', J.yld i H x H' → lG as enc stx K vs st x (wipe σ vs) H' fun σ2 H2 => wipe σ2 vs = wipe σ vs ∧ lT as stx pp K ow1 σ2 H2 fun b H3 =>
        if b = true then lE as stx pp ff K ow1 σ2 H3 fun y H4 => ∃ acc, H4 D = some (.lst acc) ∧ acc.length < sizeLine ∧ Nx (upd H4 D (.lst (acc ++ [y]))) else Nx H3) := by
  intro D hD
  have hn := own_new (xs := []) (ds := []) o1 hD .nil
  have w1' : WD K S1 H1 J (as.map enc) := w1
  have hln : (as.map enc).length = as.length := List.length_map ..
  refine lc_it (Qd := Q (.ref D)) w1 (fun i H' => LcP K S1 H1 D ow1 (((as.take i).filter pp).map ff) H') ⟨hn.1, hn.2.1⟩ (fun i H' _ p => ⟨_, _, p.f, p.o⟩) (fun i x H' H2 hi p ⟨ex, y⟩ => ?_) (fun H' p => ?_)
  · obtain ⟨d, hd, dd⟩ := y _ _ p.f p.o
    obtain ⟨xa, hxa, rfl⟩ := map_some_of hd
    have hmem : xa ∈ as := List.mem_of_getElem? hxa
    have p2 : LcP K S1 H1 D ow1 (((as.take i).filter pp).map ff) H2 := ⟨p.f.trans p.o (.of ex), p.o.ex ex⟩
    have hts := take_succ_of hxa
    have hz : ((List.filter pp (as.take i)).map ff).length < 100000 := by
      rw [List.length_map]
      have h1 := List.length_filter_le pp (as.take i)
      rw [List.length_take] at h1
      omega
    refine ⟨⟨xa, hmem⟩, S1 ++ [D], (p2.f.slots sl).wipe vs, dd, fun σ2 sl2 hw => ⟨hw.trans (wipe_wipe σ vs), ⟨(xa, _), hmem⟩, S1 ++ [D], sl2, p2.o, fun S3 H3 f3 o3 => ?_⟩⟩
    obtain ⟨e3, p3⟩ := p2.on f3 o3
    subst e3
    have hb' : pp (xa, ((as.take i).filter pp).map ff).1 = pp xa := rfl
    show (if pp xa = true then _ else _)
    cases hb : pp xa with
    | true =>
      refine iteT ⟨⟨(xa, _), hmem, hb⟩, S1 ++ [D], f3.slots sl2, o3, fun S4 v H4 f4 o4 d4 => ?_⟩
      obtain ⟨e4, p4⟩ := p3.on f4 o4
      subst e4
      cases d4 with
      | d d4 =>
        obtain ⟨acc, h1, h2, h3⟩ := p4.app d4 hz
        refine ⟨acc, h1, h2, ?_⟩
        show LcP K S1 H1 D ow1 (((as.take (i + 1)).filter pp).map ff) _
        rw [hts, List.filter_append, List.map_append, List.filter_cons, if_pos hb]
        exact h3
    | false =>
      refine iteF ?_
      show LcP K S1 H1 D ow1 (((as.take (i + 1)).filter pp).map ff) _
      rw [hts, List.filter_append, List.map_append, List.filter_cons, if_neg (by rw [hb]; decide)]
      simpa using p3
  · have p' : LcP K S1 H1 D ow1 (((as.take (as.map enc).length).filter pp).map ff) H' := p
    rw [hln, take_all] at p'
    have hr : DenR K (S1 ++ [D]) H' (.ref D) (.own ow1.length) := .own (owns_last p'.o).choose_spec.1
    obtain ⟨g1, g2, g3⟩ := owns_drop p'.f o1 p'.o rfl ⟨fun _ h => h, fun _ h => h⟩ hr
    exact k _ _ g1 g2 g3
end
theorem pd_lc {α : Type} (as : List α) (enc : α → D) (stx : α → Sta) (pp : α → Bool) (ff : α → D) (hc : X.calm = true) (hN : X.N.Nodup) (hi : PID X st ow tg iter (as.map enc) ow1) (ok : BlkOk X.N X.env.scope scope own) (hlen : as.length ≤ 40000)
    (hg : ∀ x, x ∈ as → AtBlk X scope fun Y => PGD Y (own.map (·.2)) (wipeD st (own.map (·.2))) (enc x) tg (stx x)) (ht : ∀ x, x ∈ as → ∀ l, AtBlk X scope fun Y => PTsD Y (stx x) (ow1 ++ [.l l]) ifs (pp x))
    (he : ∀ x, x ∈ as → pp x = true → ∀ l, AtBlk X scope fun Y => PD Y (stx x) (ow1 ++ [.l l]) elt (.d (ff x)) (ow1 ++ [.l l])) (hs : ∀ x, foldedSetIterable iter X.env x = pure x := by intro _; rfl) :
    PD X st ow (.ListComp elt [⟨tg, iter, ifs, 0⟩] scope pos) (.d (.lst ((as.filter pp).map ff))) ow1 :=
  (pe_lc (g := lG as enc stx X.K (own.map (·.2)) st) (tt := lT as stx pp X.K ow1) (te := lE as stx pp ff X.K ow1) hc hN hi ok (fun s H C cl fp => pg_ex fun x => hg x.1 x.2 s H C cl fp) (fun s H C cl fp => pts_ex fun x => ht x.1.1 x.2 x.1.2 s H C cl fp)
    (fun s H C cl fp => pe_ex fun x => he x.1.1 x.2.1 x.2.2 x.1.2 s H C cl fp) hs).imp fun σ H Q ⟨S, sl, o, q⟩ => ⟨S, sl, o, fun S1 H1 J f1 o1 w1 => lc_read as enc stx pp ff w1 (f1.slots sl) o1 hlen fun v H' g1 g2 g3 => q S1 v H' (f1.trans o1 g1) g2 (.d g3)⟩
/-- y = [..] -/
theorem psd_setLc {α : Type} {yn : Str} {py spos : Pos} (i : Nat) (as : List α) (enc : α → D) (stx : α → Sta) (pp : α → Bool) (ff : α → D) (hc : X.calm = true) (hN : X.N.Nodup) (hi : PID X st ow tg iter (as.map enc) ow1) (ok : BlkOk X.N X.env.scope scope own) (hlen : as.length ≤ 40000)
    (hg : ∀ x, x ∈ as → AtBlk X scope fun Y => PGD Y (own.map (·.2)) (wipeD st (own.map (·.2))) (enc x) tg (stx x)) (ht : ∀ x, x ∈ as → ∀ l, AtBlk X scope fun Y => PTsD Y (stx x) (ow1 ++ [.l l]) ifs (pp x))
    (he : ∀ x, x ∈ as → pp x = true → ∀ l, AtBlk X scope fun Y => PD Y (stx x) (ow1 ++ [.l l]) elt (.d (ff x)) (ow1 ++ [.l l]))
    (hsw : swapsWith (.ListComp elt [⟨tg, iter, ifs, 0⟩] scope pos) (some (.Name yn py)) spos.line X.env = pure true := by exact sw_true rfl rfl rfl (by decide +kernel)) (hy : X.N[i]? = some yn := by rfl) (hyl : X.env.scope.names.lookup yn = some .local := by rfl) (hs : ∀ x, foldedSetIterable iter X.env x = pure x := by intro _; rfl) :
    PSD X st ow (.Assign [.Name yn py] (.ListComp elt [⟨tg, iter, ifs, 0⟩] scope pos) spos) (.nx (st.set i (some (.d (.lst ((as.filter pp).map ff))))) ow1) :=
  (ps_setLc (i := i) (g := lG as enc stx X.K (own.map (·.2)) st) (tt := lT as stx pp X.K ow1) (te := lE as stx pp ff X.K ow1) hc hN hy hyl hsw hi ok (fun s H C cl fp => pg_ex fun x => hg x.1 x.2 s H C cl fp) (fun s H C cl fp => pts_ex fun x => ht x.1.1 x.2 x.1.2 s H C cl fp)
    (fun s H C cl fp => pe_ex fun x => he x.1.1 x.2.1 x.2.2 x.1.2 s H C cl fp) hs).imp fun E σ H ⟨S, sl, o, q⟩ => ⟨S, sl, o, fun S1 H1 J f1 o1 w1 => lc_read (vs := own.map (·.2)) (Q := fun x H1 => gName i x σ H1 E.nx) as enc stx pp ff w1 (f1.slots sl) o1 hlen fun v H' g1 g2 g3 =>
      q S1 _ H' (f1.trans o1 g1) (((f1.trans o1 g1).slots sl).set i (.d g3)) g2⟩
end
end Bl
set_option Elab.async false
set_option linter.all false
set_option maxRecDepth 100000
set_option maxHeartbeats 4000000
namespace Bl
open PySem PySem.Spec PyProof.Rows L2
section
variable {X : Cx} {e a b c o tg iter elt tg1 iter1 : Expr} {es ifs ifs1 : List Expr} {scope : Scope} {own : List (Str × Nat)} {st st1 st2 : Sta} {ow ow1 ow2 ow3 : List OB} {r : R} {rs : List R} {d x y z : D} {ds xs : List D} {pos p p2 : Pos}
section
variable {α β : Type} (as : List α) (enc : α → D) (stx : α → Sta) (bs : α → List β) (enc2 : α → β → D) (sty : α → β → Sta) (qq : α → β → Bool) (ff : α → β → D) (vs1 : List Nat)
/-- what the second clause gives for x, its first j turns -/
def part2 (x : α) (j : Nat) : List D := (((bs x).take j).filter (qq x)).map (ff x)
def all2 (l : List α) : List D := l.flatMap fun x => ((bs x).filter (qq x)).map (ff x)
def l2I (K : PySem.W.Frag) (ow1 : List OB) : TI := fun σ H R => ∃ x : { p : α × List D // p.1 ∈ as }, tDI K (stx x.1.1) (ow1 ++ [.l x.1.2]) ((bs x.1.1).map (enc2 x.1.1)) (ow1 ++ [.l x.1.2]) σ H R
def l2G (K : PySem.W.Frag) (vs1 : List Nat) : TG := fun v σ H Q => ∃ x : { p : α × β // p.1 ∈ as ∧ p.2 ∈ bs p.1 }, tDG K vs1 (wipeD (stx x.1.1) vs1) (enc2 x.1.1 x.1.2) (sty x.1.1 x.1.2) v σ H Q
def l2T (K : PySem.W.Frag) (ow1 : List OB) : TT := fun σ H Q => ∃ x : { p : α × β × List D // p.1 ∈ as ∧ p.2.1 ∈ bs p.1 }, tDT K (sty x.1.1 x.1.2.1) (ow1 ++ [.l x.1.2.2]) (qq x.1.1 x.1.2.1) (ow1 ++ [.l x.1.2.2]) σ H Q
def l2E (K : PySem.W.Frag) (ow1 : List OB) : TE := fun σ H Q => ∃ x : { p : α × β × List D // p.1 ∈ as ∧ p.2.1 ∈ bs p.1 ∧ qq p.1 p.2.1 = true }, tD K (sty x.1.1 x.1.2.1) (ow1 ++ [.l x.1.2.2]) (.d (ff x.1.1 x.1.2.1)) (ow1 ++ [.l x.1.2.2]) σ H Q
theorem lc2_read {K : PySem.W.Frag} {vs : List Nat} {Q : VK} {σ : L2.St} {S1 : List Addr} {H1 : Hp} {J : It} (w1 : WD K S1 H1 J (as.map enc)) (sl : Slots K S1 H1 σ st) (o1 : Owns K S1 H1 ow1) (hlen : ∀ l : List α, l <+: as → (all2 bs qq ff l).length + 40000 ≤ 80000) (hb : ∀ x, x ∈ as → (bs x).length ≤ 40000)
    (k : ∀ v H', Fwd S1 H1 S1 H' → Owns K S1 H' ow1 → Den K S1 H' v (.lst (all2 bs qq ff as)) → Q v H') :
    ∀ D, H1 D = none → ∃ W : Nat → Nat → Hp → Prop, (∃ m, W 0 m (upd H1 D (.lst []))) ∧ ∀ i m H, W i m H →
      (J.stop i H ∧ Q (.ref D) H) ∨ (J.go i H ∧ ∃ Nx : Hp → Prop, (∀ H', Nx H' → ∃ m', m' < m ∧ W (i + 1) m' H') ∧ ∀ x H', J.yld i H x H' → lG as enc stx K vs st x (wipe σ vs) H' fun σ2 H2 => wipe σ2 vs = wipe σ vs ∧ tYes σ2 H2 fun b H3 =>
        if b = true then l2I as stx bs enc2 K ow1 σ2 H3 fun J1 H4 => ∃ W1 : Nat → Nat → Hp → Prop, (∃ m, W1 0 m H4) ∧ ∀ j k H, W1 j k H →
          (J1.stop j H ∧ Nx H) ∨ (J1.go j H ∧ ∃ Nx1 : Hp → Prop, (∀ H', Nx1 H' → ∃ k', k' < k ∧ W1 (j + 1) k' H') ∧ ∀ x H', J1.yld j H x H' → l2G as stx bs enc2 sty K vs1 x (wipe σ2 vs1) H' fun σ3 H5 => wipe σ3 vs1 = wipe σ2 vs1 ∧ l2T as bs sty qq K ow1 σ3 H5 fun b H6 =>
            if b = true then l2E as bs sty qq ff K ow1 σ3 H6 fun y H7 => ∃ acc, H7 D = some (.lst acc) ∧ acc.length < sizeLine ∧ Nx1 (upd H7 D (.lst (acc ++ [y]))) else Nx1 H6)
        else Nx H3) := by
  intro D hD
  have hn := own_new (xs := []) (ds := []) o1 hD .nil
  have hln : (as.map enc).length = as.length := List.length_map ..
  refine ⟨fun i m H' => m = as.length - i ∧ i ≤ as.length ∧ LcP K S1 H1 D ow1 (all2 bs qq ff (as.take i)) H', ⟨as.length, by simp, Nat.zero_le _, hn.1, hn.2.1⟩, ?_⟩
  rintro i m H' ⟨rfl, hi, p⟩
  by_cases hlt : i < as.length
  case neg =>
    have e : i = as.length := by omega
    subst e
    rw [take_all] at p
    have hst := w1.stops H' ⟨_, _, p.f, p.o⟩
    rw [hln] at hst
    have hr : DenR K (S1 ++ [D]) H' (.ref D) (.own ow1.length) := .own (owns_last p.o).choose_spec.1
    obtain ⟨g1, g2, g3⟩ := owns_drop p.f o1 p.o rfl ⟨fun _ h => h, fun _ h => h⟩ hr
    exact .inl ⟨hst, k _ _ g1 g2 g3⟩
  case pos =>
  refine .inr ⟨w1.goes i H' (by rw [hln]; exact hlt) ⟨_, _, p.f, p.o⟩, fun H'' => LcP K S1 H1 D ow1 (all2 bs qq ff (as.take (i + 1))) H'', fun H'' p'' => ⟨as.length - (i + 1), by omega, rfl, hlt, p''⟩, fun x H2 y => ?_⟩
  obtain ⟨ex, y⟩ := w1.yields i H' x H2 (by rw [hln]; exact hlt) ⟨_, _, p.f, p.o⟩ y
  obtain ⟨d, hd, dd⟩ := y _ _ p.f p.o
  obtain ⟨xa, hxa, rfl⟩ := map_some_of hd
  have hmem : xa ∈ as := List.mem_of_getElem? hxa
  have p2 : LcP K S1 H1 D ow1 (all2 bs qq ff (as.take i)) H2 := ⟨p.f.trans p.o (.of ex), p.o.ex ex⟩
  have hts := take_succ_of hxa
  refine ⟨⟨xa, hmem⟩, S1 ++ [D], (p2.f.slots sl).wipe vs, dd, fun σ2 sl2 hw => ⟨hw.trans (wipe_wipe σ vs), ?_⟩⟩
  show (if true = true then l2I as stx bs enc2 K ow1 σ2 H2 _ else LcP K S1 H1 D ow1 (all2 bs qq ff (as.take (i + 1))) H2)
  refine iteT ⟨⟨(xa, _), hmem⟩, S1 ++ [D], sl2, p2.o, fun S3 H3 J1 f3 o3 wd => ?_⟩
  obtain ⟨e3, p3⟩ := p2.on f3 o3
  subst e3
  have wd : WD K (S1 ++ [D]) H3 J1 ((bs xa).map (enc2 xa)) := wd
  have hl2 : ((bs xa).map (enc2 xa)).length = (bs xa).length := List.length_map ..
  have hbl := hb xa hmem
  have hal := hlen (as.take i) (List.take_prefix _ _)
  refine ⟨fun j k H' => k = (bs xa).length - j ∧ j ≤ (bs xa).length ∧ Fwd (S1 ++ [D]) H3 (S1 ++ [D]) H' ∧ LcP K S1 H1 D ow1 (all2 bs qq ff (as.take i) ++ part2 bs qq ff xa j) H', ⟨(bs xa).length, by simp, Nat.zero_le _, .refl _ _, by simpa [part2] using p3⟩, ?_⟩
  rintro j k' H4 ⟨rfl, hj, f4, p4⟩
  by_cases hjt : j < (bs xa).length
  case neg =>
    have e : j = (bs xa).length := by omega
    subst e
    have hst := wd.stops H4 ⟨_, _, f4, p4.o⟩
    rw [hl2] at hst
    refine .inl ⟨hst, ?_⟩
    show LcP K S1 H1 D ow1 (all2 bs qq ff (as.take (i + 1))) H4
    have e5 : all2 bs qq ff (as.take (i + 1)) = all2 bs qq ff (as.take i) ++ part2 bs qq ff xa (bs xa).length := by
      rw [hts]
      unfold all2 part2
      rw [List.flatMap_append, take_all]
      simp
    rw [e5]
    exact p4
  case pos =>
  refine .inr ⟨wd.goes j H4 (by rw [hl2]; exact hjt) ⟨_, _, f4, p4.o⟩, fun H'' => Fwd (S1 ++ [D]) H3 (S1 ++ [D]) H'' ∧ LcP K S1 H1 D ow1 (all2 bs qq ff (as.take i) ++ part2 bs qq ff xa (j + 1)) H'', fun H'' p'' => ⟨(bs xa).length - (j + 1), by omega, rfl, hjt, p''⟩, fun x1 H5 y1 => ?_⟩
  obtain ⟨ex1, y1⟩ := wd.yields j H4 x1 H5 (by rw [hl2]; exact hjt) ⟨_, _, f4, p4.o⟩ y1
  obtain ⟨d1, hd1, dd1⟩ := y1 _ _ f4 p4.o
  obtain ⟨xb, hxb, rfl⟩ := map_some_of hd1
  have hmb : xb ∈ bs xa := List.mem_of_getElem? hxb
  have f5 : Fwd (S1 ++ [D]) H3 (S1 ++ [D]) H5 := f4.trans p4.o (.of ex1)
  have p5 : LcP K S1 H1 D ow1 (all2 bs qq ff (as.take i) ++ part2 bs qq ff xa j) H5 := ⟨p4.f.trans p4.o (.of ex1), p4.o.ex ex1⟩
  refine ⟨⟨(xa, xb), hmem, hmb⟩, S1 ++ [D], (f5.slots (f3.slots sl2)).wipe vs1, dd1, fun σ3 sl3 hw3 => ⟨hw3.trans (wipe_wipe σ2 vs1), ⟨(xa, xb, _), hmem, hmb⟩, S1 ++ [D], sl3, p5.o, fun S6 H6 f6 o6 => ?_⟩⟩
  obtain ⟨e6, p6⟩ := p5.on f6 o6
  subst e6
  have f56 := f5.trans p5.o f6
  have hts2 := take_succ_of hxb
  have hz : (all2 bs qq ff (as.take i) ++ part2 bs qq ff xa j).length < 100000 := by
    rw [List.length_append]
    unfold part2
    rw [List.length_map]
    have h1 := List.length_filter_le (qq xa) ((bs xa).take j)
    rw [List.length_take] at h1
    omega
  show (if qq xa xb = true then _ else _)
  cases hq : qq xa xb with
  | true =>
    refine iteT ⟨⟨(xa, xb, _), hmem, hmb, hq⟩, S1 ++ [D], f6.slots sl3, o6, fun S7 v H7 f7 o7 d7 => ?_⟩
    obtain ⟨e7, p7⟩ := p6.on f7 o7
    subst e7
    cases d7 with
    | d d7 =>
      obtain ⟨acc, h1, h2, h3⟩ := p7.app d7 hz
      refine ⟨acc, h1, h2, ?_, ?_⟩
      · refine (f56.trans p6.o f7).trans p7.o ⟨⟨[], (List.append_nil _).symm, fun _ z => nomatch z⟩, ?_⟩
        intro b u n h
        have hbD : b ≠ D := fun e => n (by rw [e]; exact List.mem_append_right _ (List.mem_singleton.mpr rfl))
        rw [upd_ne hbD]
        exact h
      · have e8 : all2 bs qq ff (as.take i) ++ part2 bs qq ff xa (j + 1) = (all2 bs qq ff (as.take i) ++ part2 bs qq ff xa j) ++ [ff xa xb] := by
          unfold part2
          rw [hts2, List.filter_append, List.map_append, List.filter_cons, if_pos hq, List.append_assoc] <;> rfl
        rw [e8]
        exact h3
  | false =>
    refine iteF ⟨f56, ?_⟩
    have e8 : part2 bs qq ff xa (j + 1) = part2 bs qq ff xa j := by
      unfold part2
      rw [hts2, List.filter_append, List.map_append, List.filter_cons, if_neg (by rw [hq]; decide)]
      simp
    rw [e8]
    exact p6
end
theorem pd_lc2 {α β : Type} (vs1 : List Nat) (as : List α) (enc : α → D) (stx : α → Sta) (bs : α → List β) (enc2 : α → β → D) (sty : α → β → Sta) (qq : α → β → Bool) (ff : α → β → D) (hc : X.calm = true) (hN : X.N.Nodup) (hi : PID X st ow tg iter (as.map enc) ow1) (ok : BlkOk X.N X.env.scope scope own) (hv : ∀ i ∈ vs1, i ∈ own.map (·.2))
    (hlen : ∀ l : List α, l <+: as → (all2 bs qq ff l).length + 40000 ≤ 80000) (hb : ∀ x, x ∈ as → (bs x).length ≤ 40000)
    (hg : ∀ x, x ∈ as → AtBlk X scope fun Y => PGD Y (own.map (·.2)) (wipeD st (own.map (·.2))) (enc x) tg (stx x))
    (hi1 : ∀ x, x ∈ as → ∀ l, AtBlk X scope fun Y => PID Y (stx x) (ow1 ++ [.l l]) tg1 iter1 ((bs x).map (enc2 x)) (ow1 ++ [.l l]))
    (hg1 : ∀ x y, x ∈ as → y ∈ bs x → AtBlk X scope fun Y => PGD Y vs1 (wipeD (stx x) vs1) (enc2 x y) tg1 (sty x y))
    (ht1 : ∀ x y, x ∈ as → y ∈ bs x → ∀ l, AtBlk X scope fun Y => PTsD Y (sty x y) (ow1 ++ [.l l]) ifs1 (qq x y))
    (he : ∀ x y, x ∈ as → y ∈ bs x → qq x y = true → ∀ l, AtBlk X scope fun Y => PD Y (sty x y) (ow1 ++ [.l l]) elt (.d (ff x y)) (ow1 ++ [.l l])) (hs : ∀ x, foldedSetIterable iter X.env x = pure x := by intro _; rfl) (hs1 : ∀ env x, foldedSetIterable iter1 env x = pure x := by intro _ _; rfl) :
    PD X st ow (.ListComp elt [⟨tg, iter, [], 0⟩, ⟨tg1, iter1, ifs1, 0⟩] scope pos) (.d (.lst (all2 bs qq ff as))) ow1 :=
  (pe_lc2 (g := lG as enc stx X.K (own.map (·.2)) st) (tt := tYes) (wi1 := l2I as stx bs enc2 X.K ow1) (g1 := l2G as stx bs enc2 sty X.K vs1) (tt1 := l2T as bs sty qq X.K ow1) (te := l2E as bs sty qq ff X.K ow1) hc hN hi ok hv (fun s H C cl fp => pg_ex fun x => hg x.1 x.2 s H C cl fp) (fun s H C cl fp => pts_nil)
    (fun s H C cl fp => pi_ex fun x => hi1 x.1.1 x.2 x.1.2 s H C cl fp) (fun s H C cl fp => pg_ex fun x => hg1 x.1.1 x.1.2 x.2.1 x.2.2 s H C cl fp) (fun s H C cl fp => pts_ex fun x => ht1 x.1.1 x.1.2.1 x.2.1 x.2.2 x.1.2.2 s H C cl fp)
    (fun s H C cl fp => pe_ex fun x => he x.1.1 x.1.2.1 x.2.1 x.2.2.1 x.2.2.2 x.1.2.2 s H C cl fp) hs hs1).imp fun σ H Q ⟨S, sl, o, q⟩ => ⟨S, sl, o, fun S1 H1 J f1 o1 w1 => lc2_read (vs := own.map (·.2)) as enc stx bs enc2 sty qq ff vs1 w1 (f1.slots sl) o1 hlen hb fun v H' g1 g2 g3 => q S1 v H' (f1.trans o1 g1) g2 (.d g3)⟩
end
end Bl
set_option Elab.async false
set_option linter.all false
set_option maxRecDepth 100000
set_option maxHeartbeats 4000000
/-! Bl7: enumerate over a tuple; further operators and built-ins over data -/
namespace Bl
open PySem PySem.Spec PyProof.Rows L2
theorem enum_new1 {v : Value} {o : Obj} {HH : Heap → Prop} (B : Begins v o HH) :
    Meets (Builtin.«enumerate.__new__» ⟨[.type "enumerate", v], []⟩) (fun _ R s => HH s.heap ∧
      R (.ok (.ret (.ref (s.heap.push o).objs.size))) { s with heap := (s.heap.push o).push { cls := .type "enumerate", data := .fields #[.none, .bool false, .ref s.heap.objs.size, rawInt 0, .none, .none] } }) :=
  .of_wp fun prog w A R s h => by
    obtain ⟨hp, gg, dd, tk, os⟩ := s
    obtain ⟨h1, h⟩ := h
    have hsub := sub_enumerate
    have it1 : ∀ {A' : Around} {E : Value → Shared → Prop} {Q : Value → Shared → Prop}, Q (.ref hp.objs.size) ⟨hp.push o, gg, dd, tk, os⟩ → wpAny (model prog w) A' (pyIter v) Q E ⟨hp, gg, dd, tk, os⟩ := fun q => B.iter prog w _ _ _ _ h1 q
    wp_walk using it1
    refine wpAny_stack_any fun st => wpAny_pure ?_
    split
    · rename_i c _ _ _ _ _
      cases (c == Value.type "enumerate") <;> (wp_walk using it1; exact ⟨_, rfl, h⟩)
    · wp_walk using it1
      exact ⟨_, rfl, h⟩
theorem call_enum1 {prog : Program} {w : World} {A : Around} {E : Value → Shared → Prop} {s : Shared} {v : Value} {o : Obj} {HH : Heap → Prop} {Q : Value → Shared → Prop} (B : Begins v o HH) (h1 : HH s.heap)
    (h : ∀ h', IsEnum h' (s.heap.objs.size + 1) s.heap.objs.size 0 .none → h'.get? s.heap.objs.size = some o → (∀ b u, s.heap.get? b = some u → h'.get? b = some u) → Q (.ref (s.heap.objs.size + 1)) { s with heap := h' }) :
    wpAny (model prog w) A (call (.type "enumerate") [v]) Q E s := by
  refine callType_new F.called_enumerate (by decide) (F.typeCall_enumerate_1 _) (F.newCall_enumerate_1 _) (fun obj => F.args_object_init_2 obj _) F.entry_enumerate_new (enum_new1 B) ⟨h1, ?_⟩
  have hz : (s.heap.push o).objs.size = s.heap.objs.size + 1 := Heap.size_push ..
  show _ ∧ _
  rw [hz]
  have hh := Heap.get?_push_size (s.heap.push o) (o := { cls := .type "enumerate", data := .fields #[.none, .bool false, .ref s.heap.objs.size, rawInt 0, .none, .none] }) rfl
  rw [hz] at hh
  exact ⟨⟨_, hh, rfl⟩, h _ hh (Heap.get?_push_of_some _ (Heap.get?_push_size _ B.free)) fun b u x => Heap.get?_push_of_some _ (Heap.get?_push_of_some _ x)⟩
theorem tup_is {h : Heap} {a : Addr} {its : Array Value} (p : IsTup h a its) : h.IsTuple a its := by
  obtain ⟨o, h1, h2, n, h3⟩ := p
  exact ⟨o, h1, h2, n, h3⟩
/-- enumerate of the tuple at a -/
def Iet (K : PySem.W.Frag) (a : Addr) : It :=
  ⟨fun i H => ∃ (xs : List V) (x : V), SqT K H a xs ∧ xs[i]? = some x, fun i H v H' => ∃ T x, v = .ref T ∧ H T = none ∧ H' = upd H T (.tup [.int (i : Nat), x]) ∧ ∀ xs, SqT K H a xs → xs[i]? = some x, fun i H => ∃ xs : List V, SqT K H a xs ∧ xs.length = i⟩
theorem turn_enumT {P : Program} {w : World} {K : PySem.W.Frag} {elts : List Expr} {kk : Nat} {tpos : Pos} (a e it : Addr) :
    Turn P w K (.Tuple elts kk tpos) (Iet K a) [e, it] e (fun i h => (∃ old, IsEnum h e it ((i : Nat) : Int) old) ∧ h.IsTupleIter it a i ∧ e ≠ it ∧ e ≠ a ∧ it ≠ a) where
  mem := by simp
  obj := fun i h st b hb => by
    obtain ⟨⟨old, he⟩, ⟨o, ho, hc, hd⟩, _⟩ := st
    have e' : b = e ∨ b = it := by simpa using hb
    rcases e' with z | z
    · rw [z]; exact ⟨_, he, fun v q => nomatch q⟩
    · rw [z]; exact ⟨o, ho, fun v q => by rw [hd] at q; cases q⟩
  keep := fun i h h' st k => let ⟨⟨old, he⟩, hi, hne⟩ := st; ⟨⟨old, k e (by simp) _ he⟩, hi.at fun o q => k it (by simp) o q, hne⟩
  item := by
    intro X hP hw hK hc i pins s σ H E I hf st hg
    subst hP hw hK
    obtain ⟨⟨old, he⟩, hit, hne, hea, hia⟩ := st
    obtain ⟨xs, x, hq, hx⟩ := hg
    obtain ⟨its, rv, p, hz⟩ := I.tuple hq
    obtain ⟨u, hu, ru⟩ := rv.get hx
    have hel : e < s.heap.objs.size := Heap.lt_size he
    have hil : it < s.heap.objs.size := by obtain ⟨_, q, _⟩ := hit; exact Heap.lt_size q
    have hi : i < its.toArray.size := by
      have := (List.getElem?_eq_some_iff.mp hu).1
      simpa using this
    have D := Draws.tuple (prog := X.prog) (w := X.w) (A := X.A.in1) (I.ok.hd hc) it a (Ne.symm hia) its.toArray
    refine wpAny_pyNext_enum_itemD D he ⟨hit, tup_is p⟩ hi hne (by simp [hne, hea]) fun y h' tk hy ho hst hT hsz hk => ?_
    have hyu : y = u := by
      have h1 : its.toArray[i]? = some y := hy
      rw [show its.toArray[i]? = some u by simpa using hu] at h1
      exact (Option.some.inj h1).symm
    subst hyu
    refine ⟨_, rfl, wpAny_letOwnedTupleGo_enum (s := { s with heap := h', toks := tk + 1 }) ho fun h'' he' sb => ?_⟩
    have hT2 : h''.get? s.heap.objs.size = some { cls := .type "tuple", data := .seq #[.int i tk, y] } := (sb.2 _ (Nat.ne_of_gt hel)).trans hT
    have new : ObjOk X.prog X.w (upd H s.heap.objs.size (.tup [.int (i : Nat), x])) h'' s.heap.objs.size (.tup [.int (i : Nat), x]) :=
      ⟨by show 2 ≤ sizeLine; decide, [.int i tk, y], .cons ⟨_, rfl⟩ (.cons ru .nil), ⟨_, hT2, rfl, _, rfl⟩⟩
    have I1 : Inv X pins σ (upd H s.heap.objs.size (.tup [.int (i : Nat), x])) { s with heap := h'', toks := tk + 1 } :=
      I.turnedNew (ch := [e, it]) (fun b ob hb q => (sb.2 b (fun z => hb (by simp [z]))).trans (hk b ob (fun z => hb (by simp [z])) (fun z => hb (by simp [z])) q)) hf (Nat.le_refl _) new
    refine ⟨.ref s.heap.objs.size, _, I1, rfl, ⟨_, x, rfl, I.hok.fresh (Nat.le_refl _), rfl, fun ys hy => by rw [I.tuple_inj hy hq]; exact hx⟩, ⟨⟨y, ?_⟩, hst.1.at fun o q => (sb.2 it (Ne.symm hne)).trans q, hne, hea, hia⟩, fun b hb => ?_⟩
    · have e1 : ((i + 1 : Nat) : Int) = (i : Int) + 1 := by omega
      rw [e1]; exact he'
    · have hb' : b < s.heap.objs.size := by
        have e' : b = e ∨ b = it := by simpa using hb
        rcases e' with z | z
        · rw [z]; exact hel
        · rw [z]; exact hil
      rw [upd_ne (Nat.ne_of_lt hb')]
      exact (hf b hb).1
  done := by
    intro X hP hw hK hc i pins s σ H E I hf st hg
    subst hP hw hK
    obtain ⟨⟨old, he⟩, hit, hne, hea, hia⟩ := st
    obtain ⟨xs, hq, hx⟩ := hg
    obtain ⟨its, rv, p, hz⟩ := I.tuple hq
    obtain ⟨f0, f1, f2, f3, f4, f5⟩ := hf it (by simp)
    have hl := rv.length
    have D := Draws.tuple (prog := X.prog) (w := X.w) (A := X.A.in1) (I.ok.hd hc) it a (Ne.symm hia) its.toArray
    have hn : its.toArray.size = i := by rw [List.size_toArray]; omega
    subst hn
    exact wpAny_pyNext_enum_endD D he ⟨hit, tup_is p⟩ fun h' eb => ⟨rfl, I.turned (t' := s.toks) (fun b o hb e => eb b o hb e) f0 f1 f3 f4 f5⟩
  self := fun A i s Q E st h => let ⟨⟨_, he⟩, _⟩ := st; wpAny_pyIter_enum he h
def iEnT (K : PySem.W.Frag) (ta : TA) : TI := fun σ H R => ta σ H fun vs H1 => ∃ a xs, vs = [.ref a] ∧ SqT K H1 a xs ∧ R (Iet K a) H1
theorem pi_enumT {X : Cx} {e : Expr} {ta : TA} {p pos tpos : Pos} {elts : List Expr} {kk : Nat} (hg : Gl X "enumerate") (hm : X.mg "enumerate" = none) (ha : PA X [e] ta) (hs : starEach [e] X.env = [(false, eval e X.env)] := by rfl) :
    PI X (.Tuple elts kk tpos) (.Call (.Name "enumerate" p) [e] [] pos) (iEnT X.K ta) := by
  refine ⟨fun pins s σ H R I h => ?_⟩
  refine Call_ (ld_blt I hg hm boot_enumerate (PyProof.Rows.callWith_type1 (thn (ha.run pos pins s σ H _ I h) fun us s1 ⟨vs, H1, I1, r1, q1⟩ => ?_) hs rfl))
  obtain ⟨a, xs, ex, hq, q⟩ := q1
  subst ex
  cases r1 with
  | cons r rr =>
    cases rr
    cases r
    obtain ⟨its, rv, p', hz⟩ := I1.tuple hq
    have al : a < s1.heap.objs.size := p'.lt
    have n1 : s1.heap.objs.size + 1 ≠ a := Nat.ne_of_gt (Nat.lt_succ_of_lt al)
    have n2 : s1.heap.objs.size ≠ a := Nat.ne_of_gt al
    refine call_enum1 (begins_tuple a its.toArray) (tup_is p') fun h' he hit hk => wpAny_pyIter_enum he ?_
    have I2 : Inv X pins σ H1 { s1 with heap := h' } := I1.kept (t' := s1.toks) hk
    refine ⟨s1.heap.objs.size + 1, [s1.heap.objs.size + 1, s1.heap.objs.size], _, _, H1, rfl, I2, turn_enumT a (s1.heap.objs.size + 1) s1.heap.objs.size, ⟨⟨.none, he⟩, ⟨_, hit, rfl, rfl⟩, Nat.succ_ne_self _, n1, n2⟩, fun b hb => ?_, q⟩
    have e' : b = s1.heap.objs.size + 1 ∨ b = s1.heap.objs.size := by simpa using hb
    have hle : s1.heap.objs.size ≤ b := by
      rcases e' with z | z
      · rw [z]; exact Nat.le_add_right _ _
      · rw [z]; exact Nat.le_refl _
    exact I1.fpOk hle (I1.hok.fresh hle)
theorem wd_enumT {K : PySem.W.Frag} {S : List Addr} {H : Hp} {a : Addr} {ds : List D} {dd : D} (h : Den K S H (.ref a) dd) (ht : tupL dd = some ds) : WD K S H (Iet K a) (enumD ds) where
  goes := fun i H2 hi ⟨S2, ow2, f, o⟩ => by
    rw [enumD_len] at hi
    obtain ⟨a', xs, e, h1, h2⟩ := (f.den h).of_tup ht
    cases e
    obtain ⟨x, h3, _⟩ := Dens.get h2 (List.getElem?_eq_getElem hi)
    exact ⟨xs, x, h1, h3⟩
  stops := fun H2 ⟨S2, ow2, f, o⟩ => by
    rw [enumD_len]
    obtain ⟨a', xs, e, h1, h2⟩ := (f.den h).of_tup ht
    cases e
    exact ⟨xs, h1, Dens.length h2⟩
  yields := fun i H2 x H3 hi _ y => by
    obtain ⟨T, x1, rfl, hT, rfl, y⟩ := y
    refine ⟨Evl.Ex.new hT, fun S2 ow2 f o => ?_⟩
    obtain ⟨a', xs, e, h1, h2⟩ := (f.den h).of_tup ht
    cases e
    obtain ⟨d, h3, h4⟩ := Dens.get' h2 (y xs h1)
    exact ⟨_, enumD_get h3, new_par o hT (.cons (.int _) (.cons h4 .nil))⟩
/-! ### lists and tuples alike -/
def sqD : Bool → List D → D
  | true, l => .tup l
  | false, l => .lst l
section
variable {X : Cx} {e a b c o tg iter elt : Expr} {es : List Expr} {st st1 st2 : Sta} {ow ow1 ow2 ow3 : List OB} {r : R} {rs : List R} {d x y z : D} {ds xs : List D} {pos p p2 : Pos} {lo hi : Option Expr} {ilo ihi : Option Int} {t : Bool}
theorem pid_enumT {elts : List Expr} {kk : Nat} {tpos : Pos} {dd : D} (hm : X.mg "enumerate" = none) (ha : PADd X st ow [e] [dd] ow1) (ht : tupL dd = some ds := by rfl) (hg : Gl X "enumerate" := by rfl) (hs : starEach [e] X.env = [(false, eval e X.env)] := by rfl) :
    PID X st ow (.Tuple elts kk tpos) (.Call (.Name "enumerate" p) [e] [] pos) (enumD ds) ow1 :=
  (pi_enumT hg hm ha hs).imp fun σ H Q ⟨S, sl, o, k⟩ => ⟨S, sl, o, fun S1 vs H1 f1 o1 d1 => by
    obtain ⟨v, rfl, g⟩ := dens1 (densOf d1)
    obtain ⟨a, xs, rfl, h1, h2⟩ := g.of_tup ht
    exact ⟨a, xs, rfl, h1, k S1 H1 _ f1 o1 (wd_enumT g ht)⟩⟩
theorem pid_enumS {elts : List Expr} {kk : Nat} {tpos : Pos} (hm : X.mg "enumerate" = none) (ha : PADd X st ow [e] [sqD t ds] ow1) (hg : Gl X "enumerate" := by rfl) (hs : starEach [e] X.env = [(false, eval e X.env)] := by rfl) :
    PID X st ow (.Tuple elts kk tpos) (.Call (.Name "enumerate" p) [e] [] pos) (enumD ds) ow1 := by
  cases t with
  | true => exact pid_enumT hm ha rfl hg hs
  | false => exact pid_enumL hm ha hg hs
theorem pid_sq (h : PD X st ow e (.d (sqD t ds)) ow1) : PID X st ow tg e ds ow1 := by
  cases t with
  | true => exact pid_tup h rfl
  | false => exact pid_list h
theorem pid_eq {ys : List D} (h : PID X st ow tg e xs ow1) (hx : xs = ys) : PID X st ow tg e ys ow1 := hx ▸ h
theorem pd_eqD {d' : D} (h : PD X st ow e (.d d) ow1) (hx : d = d') : PD X st ow e (.d d') ow1 := hx ▸ h
theorem ptd_eqB {q q' : Bool} (h : PTD X st ow e q ow1) (hx : q = q') : PTD X st ow e q' ow1 := hx ▸ h
theorem pd_slS (he : PD X st ow e (.d (sqD t ds)) ow1) (h1 : POD X st ow1 lo ilo) (h2 : POD X st ow1 hi ihi) : PD X st ow (.Subscript e (.Slice lo hi none p2) pos) (.d (sqD t (cutD ds ilo ihi))) ow1 := by
  cases t with
  | true => exact pd_slT he h1 h2
  | false => exact pd_slL he h1 h2
theorem pd_lenS (hm : X.mg "len" = none) (ha : PADd X st ow [e] [sqD t ds] ow1) (hg : Gl X "len" := by rfl) (he : starEach [e] X.env = [(false, eval e X.env)] := by rfl) : PD X st ow (.Call (.Name "len" p) [e] [] pos) (.d (.int (ds.length : Int))) ow1 := by
  cases t with
  | true => exact pd_lenT hm ha rfl hg he
  | false => exact pd_lenL hm ha hg he
/-- t + u of tuples -/
theorem pd_catT {es' : List D} (ha : PD X st ow a (.d (.tup ds)) ow1) (hb : PD X st ow1 b (.d (.tup es')) ow2) (hl : ds.length + es'.length ≤ 100000) : PD X st ow (.BinOp a .Add b pos) (.d (.tup (ds ++ es'))) ow2 :=
  pd_op op_catA (fun S H ow vx vy Q o hx hy q => by
    obtain ⟨a, xs, rfl, h1, h2⟩ := hx.of_tup rfl
    obtain ⟨b, ys, rfl, h3, h4⟩ := hy.of_tup rfl
    have l1 := Dens.length h2
    have l2 := Dens.length h4
    refine ⟨a, b, xs, ys, rfl, rfl, h1, h3, by rw [l1, l2]; exact Evl.sz_of hl, fun e => ?_, fun _ e => ?_, fun _ _ p hp => q _ _ (Evl.Ex.new hp) (new_tup o hp (Dens.append h2 h4))⟩
    · subst e
      have e2 : ds = [] := List.length_eq_zero_iff.mp l1.symm
      subst e2
      exact q _ _ (Evl.Ex.refl H) hy
    · subst e
      have e2 : es' = [] := List.length_eq_zero_iff.mp l2.symm
      subst e2
      rw [List.append_nil] at q
      exact q _ _ (Evl.Ex.refl H) hx) ha hb
theorem pd_catN {es' : List D} (ha : PD X st ow a (.d (.tupN ds)) ow1) (hb : PD X st ow1 b (.d (.tupN es')) ow2) (hl : ds.length + es'.length ≤ 100000) : PD X st ow (.BinOp a .Add b pos) (.d (.tupN (ds ++ es'))) ow2 :=
  pd_op op_catF (fun S H ow vx vy Q o hx hy q => by
    obtain ⟨a, xs, rfl, h1, h2⟩ := hx.of_tup rfl
    obtain ⟨b, ys, rfl, h3, h4⟩ := hy.of_tup rfl
    have l1 := Dens.length h2
    have l2 := Dens.length h4
    refine ⟨a, b, xs, ys, rfl, rfl, h1, h3, by rw [l1, l2]; exact Evl.sz_of hl, fun e => ?_, fun _ e => ?_, fun _ _ p ob hd hp => q _ _ (Evl.Ex.new hp) (new_tupN o hp hd (Dens.append h2 h4))⟩
    · subst e
      have e2 : ds = [] := List.length_eq_zero_iff.mp l1.symm
      subst e2
      exact q _ _ (Evl.Ex.refl H) hy
    · subst e
      have e2 : es' = [] := List.length_eq_zero_iff.mp l2.symm
      subst e2
      rw [List.append_nil] at q
      exact q _ _ (Evl.Ex.refl H) hx) ha hb
end
/-! ### bools added up -/
theorem int_add_bb (a b : Bool) : Gives (Builtin.«int.__add__» ⟨[.bool a, .bool b], []⟩) (.int ((if a = true then (1 : Int) else 0) + (if b = true then (1 : Int) else 0))) :=
  .of_wp fun M A E s Q h => by
    obtain ⟨hp, gg, dd, tk, os⟩ := s
    wp_walk
    exact ⟨_, rfl, h⟩
theorem add_bb {prog : Program} {w : World} {A : Around} {E : Value → Shared → Prop} {s : Shared} {Q : Value → Shared → Prop} {a b : Bool} (h : Q (.int ((if a = true then (1 : Int) else 0) + (if b = true then (1 : Int) else 0)) s.toks) { s with toks := s.toks + 1 }) : wpAny (model prog w) A (binaryOp .Add (.bool a) (.bool b)) Q E s :=
  binaryOp_gives (op := .Add) (T := "bool") (show Shared.TypeIs s (.bool a) "bool" from rfl) (show Shared.TypeIs s (.bool b) "bool" from rfl) (by first | exact F.fills_bool_add | skip) F.slot_bool_add F.entry_int_add (F.args_int_add_2 _ _) (int_add_bb a b) trivial h
def b2 (a : Bool) : Int := if a = true then 1 else 0
section
variable {X : Cx} {e a b c o tg iter elt : Expr} {es : List Expr} {st st1 st2 : Sta} {ow ow1 ow2 ow3 : List OB} {r : R} {rs : List R} {d x y z : D} {ds xs : List D} {pos p p2 apos cpos : Pos} {i j : Int} {u v : Bool} {ns : List Int}
theorem op_bb : OpR X (binaryOp .Add) (fun x y H Q => ∃ i j, x = .bl i ∧ y = .bl j ∧ Q (.int (b2 i + b2 j)) H) := by
  intro pins s σ H x y v u Q I rx ry h
  obtain ⟨i, j, rfl, rfl, q⟩ := h
  cases rx
  cases ry
  exact add_bb ⟨.int (b2 i + b2 j), H, I.tok _, ⟨_, rfl⟩, q⟩
theorem pd_addBB (ha : PD X st ow a (.d (.bl u)) ow1) (hb : PD X st ow1 b (.d (.bl v)) ow2) : PD X st ow (.BinOp a .Add b pos) (.d (.int (b2 u + b2 v))) ow2 :=
  pd_op op_bb (fun S H ow vx vy Q o hx hy q => ⟨u, v, hx.of_bl, hy.of_bl, q _ H (Evl.Ex.refl H) (.int _)⟩) ha hb
theorem pd_addIB (ha : PD X st ow a (.d (.int i)) ow1) (hb : PD X st ow1 b (.d (.bl v)) ow2) : PD X st ow (.BinOp a .Add b pos) (.d (.int (i + b2i v))) ow2 :=
  pd_op op_add_ib (fun S H ow vx vy Q o hx hy q => ⟨i, v, hx.of_int, hy.of_bl, q _ H (Evl.Ex.refl H) (.int _)⟩) ha hb
/-! ### methods of built-in types -/
def RM (K : PySem.W.Frag) (rr : V → List V → Hp → VK → Prop) (x : D) (ds : List D) (z : D) : Prop := ∀ S H ow vx vs (Q : VK), Owns K S H ow → Den K S H vx x → Dens K S H vs ds → (∀ v H', Evl.Ex H H' → Den K S H' v z → Q v H') → rr vx vs H Q
theorem tyN_t {K : PySem.W.Frag} {S : List Addr} {H : Hp} {v : V} (h : Den K S H v (.tupN ds)) : tyN K v H := by
  cases h with
  | tupN h r =>
    rcases h with ⟨_, o, hd, h⟩ | h
    · exact ⟨_, _, rfl, .inl ⟨o, hd, h⟩⟩
    · exact ⟨_, _, rfl, .inr h⟩
theorem pd_bmT {id : String} {nm : Str} {l : List D} {rr : V → List V → Hp → VK → Prop} (slot : Slot "tuple" nm id) (hty : typeOf (.builtin id) = pure (.type "method_descriptor")) (hm : MtR X id rr) (hr : RM X.K rr (.tupN l) ds z) (ho : PD X st ow o (.d (.tupN l)) ow1) (ha : PADd X st ow1 (e :: es) ds ow2)
    (h1 : attributeBase o nm X.env (eval o X.env) = eval o X.env := by rfl)
    (h2 : ((backTo cpos (starEach (e :: es) X.env)).all (fun x => !x.1) && (backToKw cpos (keywordEach [] X.env)).all (fun x => x.1.isSome)
      && decide ((e :: es).length + ([] : List Keyword).length + (if ([] : List Keyword).isEmpty then 0 else 1) < 30)) = true := by rfl)
    (h3 : (apos.endLine == cpos.line) = true := by rfl) (h4 : starEach (e :: es) X.env = (false, eval e X.env) :: starEach es X.env := by rfl) (h5 : (backTo cpos (starEach es X.env)).any (·.1) = false := by rfl) :
    PD X st ow (.Call (.Attribute o nm apos) (e :: es) [] cpos) (.d z) ow2 :=
  (pe_bmN PySem.F.plainAttrs_tuple slot hty hm ho ha h1 h2 h3 h4 h5).imp fun σ H Q ⟨S, sl, o, k⟩ => ⟨S, sl, o, fun S1 v H1 f1 o1 d1 => by
    cases d1 with
    | d d1 => exact ⟨tyN_t d1, S1, f1.slots sl, o1, fun S2 vs H2 f2 o2 d2 => hr S2 H2 ow2 v vs Q o2 (f2.den d1) (densOf d2) fun v H' ex dd => k S2 v H' (f1.trans o1 (f2.trans o2 (.of ex))) (o2.ex ex) (.d dd)⟩⟩
theorem mt_tcount : MtR X "tuple.count" (fun x xs H Q => ∃ (p : Addr) (ns : List Int) (k : Int), x = .ref p ∧ xs = [.int k] ∧ SqT X.K H p (ns.map V.int) ∧ Q (.int (ns.count k : Nat)) H) := by
  intro pins s σ H x xs v us Q I rx rxs h
  obtain ⟨p, ns, k, rfl, rfl, hs, q⟩ := h
  cases rx
  obtain ⟨u, rfl, ru⟩ := rxs.one
  obtain ⟨t, rfl⟩ := ru
  obtain ⟨its, rv, pl, hz⟩ := I.tuple hs
  obtain ⟨⟨cls, dd, dt, sl⟩, ho, hc, n, hd⟩ := pl
  simp only at hc hd
  subst hc hd
  have hi := ints_of_vals rv
  refine call_meets PySem.F.slot_tuple_count ⟨_, ho, rfl⟩ PySem.F.entry_tuple_count (PySem.F.args_tuple_count_2 _ _)
    (SeqAt.tuple_countAt p its.toArray n dd sl (.int k t) (eqk k)) ⟨ho, fun y hy => (eqk_gives hi y (by simpa using hy)).at _ _, ?_⟩
  have ec : its.toArray.toList.countP (eqk k) = ns.count k := eqk_count hi
  refine ⟨.int (ns.count k : Nat), H, I.tok _, ⟨s.toks, ?_⟩, q⟩
  show Value.int ((its.toArray.toList.countP (eqk k) : Nat) : Int) s.toks = Value.int ((ns.count k : Nat) : Int) s.toks
  rw [ec]
theorem flat_ints (ys : List Int) : (ys.map V.int).all flatV = true := by
  rw [List.all_eq_true]
  intro v hv
  obtain ⟨y, _, rfl⟩ := List.mem_map.mp hv
  rfl
theorem mt_tindexI : MtR X "tuple.index" (fun x xs H Q => ∃ p, ∃ ys : List Int, ∃ z j, x = .ref p ∧ xs = [.int z] ∧ SqT X.K H p (ys.map V.int) ∧ ys[j]? = some z ∧ (∀ m, m < j → ys[m]? ≠ some z) ∧ Q (.int (j : Nat)) H) := by
  intro pins s σ H x xs v us Q I rx rs h
  obtain ⟨p, ys, z, j, rfl, rfl, hq, hy, hno, q⟩ := h
  cases rx
  obtain ⟨u, rfl, t, rfl⟩ := vals1 rs
  obtain ⟨its, rr, pl, hz⟩ := I.tuple hq
  obtain ⟨⟨cls, dd, dt, sl⟩, ho, hc, n, hd⟩ := pl
  simp only at hc hd
  subst hc
  subst hd
  have hl : its.toArray.size = ys.length := by rw [List.size_toArray, ← rr.length, List.length_map]
  have hj : j < its.toArray.size := by rw [hl]; exact (List.getElem?_eq_some_iff.mp hy).1
  have hat : ∀ (m : Nat) (hm : m < its.toArray.size), ∃ y t', ys[m]? = some y ∧ its.toArray[m] = Value.int y t' := fun m hm => by
    have hm' : m < ys.length := by rw [← hl]; exact hm
    obtain ⟨w, hw, t', hw'⟩ := rr.get (i := m) (x := .int ys[m]) (by simp [hm'])
    refine ⟨ys[m], t', List.getElem?_eq_getElem hm', ?_⟩
    have e1 := (List.getElem?_eq_some_iff.mp hw).2
    rw [← hw', ← e1]
    simp
  refine call_meets PySem.F.slot_tuple_index ⟨_, ho, rfl⟩ PySem.F.entry_tuple_index (PySem.F.args_tuple_index_2 _ _) (TI.tuple_indexAt p its.toArray n dd sl (.int z t) (eqU (.int z)) j hj ?_ ?_)
    ⟨ho, fun w hw => mem_eqAt (x := .int z) ⟨t, rfl⟩ rfl rr (flat_ints ys) w (by simpa using hw), ⟨.int (j : Nat), H, I.tok _, ⟨_, rfl⟩, q⟩⟩
  · obtain ⟨y, t', h1, h2⟩ := hat j hj
    rw [hy] at h1
    cases h1
    rw [h2]
    show (z == z) = true
    exact beq_self_eq_true z
  · intro m hm hmj
    obtain ⟨y, t', h1, h2⟩ := hat m hm
    rw [h2]
    show (y == z) = false
    refine beq_eq_false_iff_ne.mpr fun e1 => hno m hmj ?_
    rw [h1, e1]
end
end Bl
set_option Elab.async false
set_option linter.all false
set_option maxRecDepth 100000
set_option maxHeartbeats 4000000
namespace Bl
open PySem PySem.Spec PyProof.Rows L2
section
variable {X : Cx} {e a b c o tg iter elt : Expr} {es : List Expr} {st st1 st2 : Sta} {ow ow1 ow2 ow3 : List OB} {r : R} {rs : List R} {d x y z dd : D} {ds xs l : List D} {pos p p2 apos cpos : Pos} {i j : Int} {u v : Bool} {ns ms : List Int} {k : Nat}
/-! ### t.count(n), t.index(n) -/
theorem pd_tcount (ho : PD X st ow o (.d (.tupN (ns.map D.int))) ow1) (ha : PADd X st ow1 [e] [.int i] ow2) (h1 : attributeBase o "count" X.env (eval o X.env) = eval o X.env := by rfl) (h3 : (apos.endLine == cpos.line) = true := by rfl) (h4 : starEach [e] X.env = [(false, eval e X.env)] := by rfl) :
    PD X st ow (.Call (.Attribute o "count" apos) [e] [] cpos) (.d (.int (ns.count i : Nat))) ow2 :=
  pd_bmT PySem.F.slot_tuple_count PySem.F.type_tuple_count mt_tcount (fun S H ow vx vs Q o hx hv q => by
    obtain ⟨v, rfl, g⟩ := dens1 hv
    obtain ⟨a, xs, rfl, h1, h2⟩ := hx.of_tup rfl
    have e1 := Dens.ints h2
    subst e1
    exact ⟨a, ns, i, rfl, by rw [Den.of_int g], h1, q _ _ (Evl.Ex.refl H) (.int _)⟩) ho ha h1 (by rw [h4] <;> rfl) h3 h4 rfl
theorem pd_tindex (ho : PD X st ow o (.d (.tupN (ns.map D.int))) ow1) (ha : PADd X st ow1 [e] [.int i] ow2) (hk : ns[k]? = some i) (hn : ∀ m, m < k → ns[m]? ≠ some i) (h1 : attributeBase o "index" X.env (eval o X.env) = eval o X.env := by rfl) (h3 : (apos.endLine == cpos.line) = true := by rfl) (h4 : starEach [e] X.env = [(false, eval e X.env)] := by rfl) :
    PD X st ow (.Call (.Attribute o "index" apos) [e] [] cpos) (.d (.int (k : Nat))) ow2 :=
  pd_bmT PySem.F.slot_tuple_index PySem.F.type_tuple_index mt_tindexI (fun S H ow vx vs Q o hx hv q => by
    obtain ⟨v, rfl, g⟩ := dens1 hv
    obtain ⟨a, xs, rfl, h1, h2⟩ := hx.of_tup rfl
    have e1 := Dens.ints h2
    subst e1
    exact ⟨a, ns, i, k, rfl, by rw [Den.of_int g], h1, hk, hn, q _ _ (Evl.Ex.refl H) (.int _)⟩) ho ha h1 (by rw [h4] <;> rfl) h3 h4 rfl
/-! ### == of tuples, lists of ints -/
theorem dp_ints {K : PySem.W.Frag} {H : Hp} : ∀ ns : List Int, DpAll K H (ns.map V.int) (ns.map PyData.int)
  | [] => .nil
  | n :: ns => .cons (.int n) (dp_ints ns)
theorem eqv_ints : ∀ ns ms : List Int, PyData.eqvAll (ns.map PyData.int) (ms.map PyData.int) = decide (ns = ms)
  | [], [] => by rfl
  | [], m :: ms => by rfl
  | n :: ns, [] => by rfl
  | n :: ns, m :: ms => by
    show (PyData.eqv (.int n) (.int m) && PyData.eqvAll (ns.map PyData.int) (ms.map PyData.int)) = _
    rw [eqv_ints ns ms]
    show ((n == m) && decide (ns = ms)) = decide (n :: ns = m :: ms)
    by_cases h : n = m <;> simp [h]
theorem depth_ints : ∀ ns : List Int, PyData.depthAll (ns.map PyData.int) ≤ 1
  | [] => by simp [PyData.depthAll]
  | n :: ns => by
    have := depth_ints ns
    simp only [List.map_cons, PyData.depthAll, PyData.depth]
    omega
theorem lay_ints : ∀ ns : List Int, PyData.canLayAll0 (ns.map PyData.int) = true
  | [] => by simp [PyData.canLayAll0]
  | n :: ns => by
    have := lay_ints ns
    simp only [List.map_cons, PyData.canLayAll0, PyData.canLay0, this, Bool.and_true]
/-! ### in -/
theorem inV_ints (n : Int) : ∀ ns : List Int, inV (.int n) (ns.map V.int) = decide (n ∈ ns)
  | [] => by rfl
  | m :: ns => by
    have ih := inV_ints n ns
    unfold inV at ih ⊢
    rw [List.map_cons, List.any_cons, ih]
    show ((m == n) || decide (n ∈ ns)) = decide (n ∈ m :: ns)
    by_cases h : m = n
    · subst h; simp
    · have h2 : ¬ n = m := fun e => h e.symm
      simp [h, h2]
/-- n in a list or tuple of ints -/
def seqL : D → Option (List D)
  | .lst l => some l
  | .lstV l => some l
  | d => tupL d
theorem den_seq {K : PySem.W.Frag} {S : List Addr} {H : Hp} {v : V} (h : Den K S H v d) (e : seqL d = some ds) : ∃ a xs, v = .ref a ∧ (SqL K H a xs ∨ SqT K H a xs) ∧ Dens K S H xs ds := by
  cases h with
  | lst h r => cases e; exact ⟨_, _, rfl, .inl h.sq, r⟩
  | lstV n h r => cases e; exact ⟨_, _, rfl, .inl (.inl (.inl h)), r⟩
  | tup h r => cases e; exact ⟨_, _, rfl, .inr h.sq, r⟩
  | tupN h r => cases e; exact ⟨_, _, rfl, .inr h.sq, r⟩
  | par n h r => cases e; exact ⟨_, _, rfl, .inr (.inl h), r⟩
  | _ => cases e
theorem rd_in {K : PySem.W.Frag} {neg : Bool} (hy : seqL y = some (ns.map D.int)) : RD K (rIn K neg) (.int i) y (.bl (if neg then !decide (i ∈ ns) else decide (i ∈ ns))) := fun S H ow vx vy Q o dx dy q => by
  obtain ⟨a, xs, rfl, h1, h2⟩ := den_seq dy hy
  have e1 := Dens.ints h2
  subst e1
  refine ⟨a, _, rfl, h1, by rw [dx.of_int] <;> rfl, flat_ints ns, ?_⟩
  rw [dx.of_int, inV_ints]
  exact q _ _ (Evl.Ex.refl H) (.bl _)
theorem pd_in (ha : PD X st ow a (.d (.int i)) ow1) (hb : PD X st ow1 b (.d y) ow2) (hy : seqL y = some (ns.map D.int)) (hm : behindInMarks .In b = false := by rfl) : PD X st ow (.Compare a [.In] [b] pos) (.d (.bl (decide (i ∈ ns)))) ow2 := pd_cmp op_in_seq hm (rd_in (neg := false) hy) ha hb
theorem ptd_in (ha : PD X st ow a (.d (.int i)) ow1) (hb : PD X st ow1 b (.d y) ow2) (hy : seqL y = some (ns.map D.int)) (hm : behindInMarks .In b = false := by rfl) : PTD X st ow (.Compare a [.In] [b] pos) (decide (i ∈ ns)) ow2 := ptd_cmp op_in_seq hm (rd_in (neg := false) hy) ha hb
/-! ### list(range(n)), tuple(range(n)) -/
theorem dens_rg {K : PySem.W.Frag} {S : List Addr} {H : Hp} {n : Int} (h : 0 ≤ n) : Dens K S H (rgV 0 n) (rngD 0 n.toNat) := by
  have e : rgV 0 n = ((List.range n.toNat).map fun (i : Nat) => (0 + (i : Int))).map V.int := by
    unfold rgV
    rw [List.map_map, Int.sub_zero] <;> rfl
  have e2 : rngD 0 n.toNat = ((List.range n.toNat).map fun (i : Nat) => (0 + (i : Int))).map D.int := by
    unfold rngD
    rw [List.map_map] <;> rfl
  rw [e, e2]
  exact Dens.of_ints _
theorem pd_tupRg {q1 p1 : Pos} {n : Int} (hc : X.calm = true) (hm : X.mg "tuple" = none) (hr : X.mg "range" = none) (h : PD X st ow e (.d (.int n)) ow1) (hn : 0 ≤ n ∧ n ≤ 1000) (hg : Gl X "tuple" := by rfl) (hg2 : Gl X "range" := by rfl) (na : starEach [e] X.env = (false, eval e X.env) :: starEach [] X.env := by rfl)
    (nb : starEach [.Call (.Name "range" q1) [e] [] p1] X.env = (false, eval (.Call (.Name "range" q1) [e] [] p1) X.env) :: starEach [] X.env := by rfl) : PD X st ow (.Call (.Name "tuple" p) [.Call (.Name "range" q1) [e] [] p1] [] pos) (.d (.tup (rngD 0 n.toNat))) ow1 :=
  (pe_tupRg hc hg hm (prg_1 hg2 hr h na) nb).imp fun σ H Q ⟨S, sl, o, k⟩ => ⟨S, sl, o, fun S1 v H1 f1 o1 d1 => by
    cases d1 with
    | d d1 =>
      refine ⟨n, d1.of_int, .of_le (Int.le_refl 0) (by omega) (by omega) hn.1, fun q hq => ?_⟩
      exact k S1 _ _ (f1.trans o1 (.of (Evl.Ex.new hq))) (o1.ex (Evl.Ex.new hq)) (.d (new_tup o1 hq (dens_rg hn.1)))⟩
/-! ### d[t], t a tuple -/
theorem kds_val {K : PySem.W.Frag} {S : List Addr} {H : Hp} {kk : List Key} : ∀ {kvs : List (List Key × V)} {gs : List (List Key × D)}, KDs K S H kvs gs → ∀ d, (gs.find? fun kv => decide (kv.1 = kk)).map (·.2) = some d → ∃ v, valV kvs kk = some v ∧ Den K S H v d
  | [], [], _, d, e => by cases e
  | [], _ :: _, h, _, _ => nomatch h
  | _ :: _, [], h, _, _ => nomatch h
  | (k1, v1) :: kvs, (k2, d2) :: gs, h, d, e => by
    cases h with
    | kcons h1 r =>
      unfold valV
      rw [List.find?_cons] at e ⊢
      by_cases hk : k1 = kk
      · have hb : decide ((k1, v1).1 = kk) = true := decide_eq_true hk
        have hb2 : decide ((k1, d2).1 = kk) = true := decide_eq_true hk
        rw [hb2] at e
        rw [hb]
        cases e
        exact ⟨v1, rfl, h1⟩
      · have hb : decide ((k1, v1).1 = kk) = false := decide_eq_false hk
        have hb2 : decide ((k1, d2).1 = kk) = false := decide_eq_false hk
        rw [hb2] at e
        rw [hb]
        exact kds_val r d e
def lookT (gs : List (List Key × D)) (ns : List Int) : Option D := (gs.find? fun kv => decide (kv.1 = ns.map Sum.inl)).map (·.2)
theorem pd_getT {gs : List (List Key × D)} (hu : X.A.units + 1 < cLine) (ho : PD X st ow a (.d (.dT gs)) ow1) (hi : PD X st ow1 b (.d (.tup (ns.map D.int))) ow2) (hl : lookT gs ns = some d) (hs : NoSl b := by exact fun _ _ => rfl) : PD X st ow (.Subscript a b pos) (.d d) ow2 :=
  (pe_dget hu ho hi hs).imp fun σ H Q ⟨S, sl, o, k⟩ => ⟨S, sl, o, fun S1 v1 H1 f1 o1 d1 => ⟨S1, f1.slots sl, o1, fun S2 v2 H2 f2 o2 d2 => by
    cases d1 with
    | d d1 =>
      cases d2 with
      | d d2 =>
        have d3 : Den X.K S2 H2 v1 (.dT gs) := f2.den d1
        cases d3 with
        | dT n h r =>
          cases d2 with
          | tup h2 r2 =>
            have e1 := Dens.ints r2
            subst e1
            obtain ⟨v, hv, dv⟩ := kds_val r d hl
            refine ⟨_, v, rfl, .inr ⟨_, ns.map Sum.inl, _, .inl h, rfl, ?_, hv.symm⟩, k S2 v H2 (f1.trans o1 f2) o2 (.d dv)⟩
            rw [h2.2, List.map_map] <;> rfl⟩⟩
end
end Bl
set_option Elab.async false
set_option linter.all false
set_option maxRecDepth 100000
set_option maxHeartbeats 4000000
namespace Bl
open PySem PySem.Spec PyProof.Rows L2
section
variable {X : Cx} {e a b c o tg iter elt : Expr} {es : List Expr} {st st1 st2 : Sta} {ow ow1 ow2 ow3 : List OB} {r : R} {rs : List R} {d x y z dd : D} {ds xs l : List D} {pos p p2 apos cpos : Pos} {i j : Int} {u v : Bool} {ns ms : List Int} {k : Nat}
/-! ### the mutable lists: append, pop, reverse, len, items -/
theorem own_sq {K : PySem.W.Frag} {S : List Addr} {H : Hp} {v : V} (o : Owns K S H ow) (h : DenR K S H v (.own k)) (hk : ow[k]? = some (.l l)) : ∃ a xs, v = .ref a ∧ S[k]? = some a ∧ H a = some (.lst xs) ∧ Dens K S H xs l := by
  cases h with
  | own h =>
    obtain ⟨a, xs, z, y, w⟩ := o.at_ k l hk
    rw [h] at z
    cases z
    exact ⟨_, xs, rfl, h, y, w⟩
theorem own_tyL {K : PySem.W.Frag} {H : Hp} {a : Addr} {xs : List V} (h : H a = some (.lst xs)) : tyV K "list" (.ref a) H := .inl ⟨rfl, xs, .inl (.inl h)⟩
theorem own_upd {K : PySem.W.Frag} {S : List Addr} {H : Hp} {a : Addr} {ys : List V} {l' : List D} (o : Owns K S H ow) (hk : S[k]? = some a) (r : Dens K S H ys l') : Fwd S H S (upd H a (.lst ys)) ∧ Owns K S (upd H a (.lst ys)) (ow.set k (.l l')) := by
  obtain ⟨g1, g2⟩ := own_put o hk r
  exact ⟨⟨⟨[], (List.append_nil _).symm, fun _ z => nomatch z⟩, g1⟩, g2⟩
theorem pd_append (ho : PD X st ow o (.own k) ow1) (ha : PD X st ow1 e (.d d) ow2) (hk1 : ∃ l1, ow1[k]? = some (.l l1)) (hk : ow2[k]? = some (.l l)) (hz : l.length < 100000) (h1 : attributeBase o "append" X.env (eval o X.env) = eval o X.env := by rfl)
    (h2 : ((backTo cpos (starEach [e] X.env)).all (fun x => !x.1) && (backToKw cpos (keywordEach [] X.env)).all (fun x => x.1.isSome) && decide ([e].length + ([] : List Keyword).length + (if ([] : List Keyword).isEmpty then 0 else 1) < 30)) = true := by rfl)
    (h3 : (apos.endLine == cpos.line) = true := by rfl) (h4 : starEach [e] X.env = (false, eval e X.env) :: starEach [] X.env := by rfl) (h5 : (backTo cpos (starEach [] X.env)).any (·.1) = false := by rfl) : PD X st ow (.Call (.Attribute o "append" apos) [e] [] cpos) (.d .non) (ow2.set k (.l (l ++ [d]))) :=
  (pe_bm PySem.F.plainAttrs_list PySem.F.slot_list_append PySem.F.type_list_append mt_append ho (pa_cons ha pa_nil h4) h1 h2 h3 h4 h5).imp fun σ H Q ⟨S, sl, o, q⟩ => ⟨S, sl, o, fun S1 v H1 f1 o1 d1 => by
    obtain ⟨l1, hl1⟩ := hk1
    obtain ⟨a, xs, rfl, g1, g2, g3⟩ := own_sq o1 d1 hl1
    refine ⟨own_tyL g2, S1, f1.slots sl, o1, fun S2 w H2 f2 o2 d2 => ?_⟩
    obtain ⟨a', xs', e', g1', g2', g3'⟩ := own_sq o2 (f2.denR d1) hk
    cases e'
    cases d2 with
    | d d2 =>
      obtain ⟨u1, u2⟩ := own_upd (l' := l ++ [d]) o2 g1' (Dens.append g3' (.cons d2 .nil))
      exact ⟨a, xs', w, rfl, rfl, g2', by rw [Dens.length g3']; exact Evl.sz_lt hz, q S2 _ _ (f1.trans o1 (f2.trans o2 u1)) u2 (.d .non)⟩⟩
theorem dens_last {K : PySem.W.Frag} {S : List Addr} {H : Hp} {xs : List V} (h : Dens K S H xs (l ++ [d])) : ∃ ys v, xs = ys ++ [v] ∧ Dens K S H ys l ∧ Den K S H v d := by
  have hl := Dens.length h
  rw [List.length_append] at hl
  have hl : xs.length = l.length + 1 := hl
  obtain ⟨v, hv, hd⟩ := Dens.get h (i := l.length) (d := d) (by simp)
  have h1 := Dens.take l.length h
  rw [List.take_left] at h1
  refine ⟨xs.take l.length, v, ?_, h1, hd⟩
  have h2 : xs.take (l.length + 1) = xs.take l.length ++ [v] := take_succ_of hv
  rw [← h2, ← hl, List.take_length]
theorem pd_pop (ho : PD X st ow o (.own k) ow1) (hk : ow1[k]? = some (.l (l ++ [d]))) (h1 : attributeBase o "pop" X.env (eval o X.env) = eval o X.env := by rfl) (h3 : (apos.endLine == cpos.line) = true := by rfl) : PD X st ow (.Call (.Attribute o "pop" apos) [] [] cpos) (.d d) (ow1.set k (.l l)) :=
  (pe_bm0 PySem.F.plainAttrs_list PySem.F.slot_list_pop PySem.F.type_list_pop mt_pop ho h1 h3).imp fun σ H Q ⟨S, sl, o, q⟩ => ⟨S, sl, o, fun S1 v H1 f1 o1 d1 => by
    obtain ⟨a, xs, rfl, g1, g2, g3⟩ := own_sq o1 d1 hk
    obtain ⟨ys, v, rfl, r1, r2⟩ := dens_last g3
    obtain ⟨u1, u2⟩ := own_upd (l' := l) o1 g1 r1
    refine ⟨own_tyL g2, a, ys ++ [v], v, rfl, rfl, g2, by simp, ?_⟩
    rw [List.dropLast_concat]
    exact q S1 v _ (f1.trans o1 u1) u2 (.d (u1.den r2))⟩
theorem pd_reverse (ho : PD X st ow o (.own k) ow1) (hk : ow1[k]? = some (.l l)) (h1 : attributeBase o "reverse" X.env (eval o X.env) = eval o X.env := by rfl) (h3 : (apos.endLine == cpos.line) = true := by rfl) : PD X st ow (.Call (.Attribute o "reverse" apos) [] [] cpos) (.d .non) (ow1.set k (.l l.reverse)) :=
  (pe_bm0 PySem.F.plainAttrs_list PySem.F.slot_list_reverse PySem.F.type_list_reverse mt_reverse ho h1 h3).imp fun σ H Q ⟨S, sl, o, q⟩ => ⟨S, sl, o, fun S1 v H1 f1 o1 d1 => by
    obtain ⟨a, xs, rfl, g1, g2, g3⟩ := own_sq o1 d1 hk
    obtain ⟨u1, u2⟩ := own_upd (l' := l.reverse) o1 g1 (Dens.reverse g3)
    exact ⟨own_tyL g2, a, xs, rfl, rfl, g2, q S1 _ _ (f1.trans o1 u1) u2 (.d .non)⟩⟩
theorem pd_lenO (hm : X.mg "len" = none) (ha : PD X st ow e (.own k) ow1) (hk : ow1[k]? = some (.l l)) (hg : Gl X "len" := by rfl) (he : starEach [e] X.env = (false, eval e X.env) :: starEach [] X.env := by rfl) : PD X st ow (.Call (.Name "len" p) [e] [] pos) (.d (.int (l.length : Int))) ow1 :=
  (pe_callB call_len_seq hg hm PySem.boot_len (pa_cons ha pa_nil he) (by decide) (by decide) he rfl).imp fun σ H Q ⟨S, sl, o, q⟩ => ⟨S, sl, o, fun S1 v H1 f1 o1 d1 => by
    obtain ⟨a, xs, rfl, g1, g2, g3⟩ := own_sq o1 d1 hk
    refine ⟨a, xs, rfl, .inl (.inl (.inl g2)), ?_⟩
    rw [Dens.length g3]
    exact q S1 _ H1 f1 o1 (.d (.int _))⟩
/-- list(t) of a tuple, list(xs) as a new mutable list -/
theorem pd_listO (hm : X.mg "list" = none) (ha : PD X st ow e (.d dd) ow1) (hs : seqL dd = some ds) (hg : Gl X "list" := by rfl) (he : starEach [e] X.env = (false, eval e X.env) :: starEach [] X.env := by rfl) : PD X st ow (.Call (.Name "list" p) [e] [] pos) (.own ow1.length) (ow1 ++ [.l ds]) :=
  (pe_callTy call_list_of hg hm (by decide +kernel) (pa_cons ha pa_nil he) (by decide) (by decide) he rfl).imp fun σ H Q ⟨S, sl, o, k⟩ => ⟨S, sl, o, fun S1 vs H1 f1 o1 d1 => by
    cases d1 with
    | d d1 =>
      obtain ⟨a, xs, rfl, h1, h2⟩ := den_seq d1 hs
      refine ⟨a, xs, rfl, h1, fun l hl => ?_⟩
      obtain ⟨g1, g2, g3⟩ := own_new o1 hl h2
      exact k _ _ _ (f1.trans o1 g1) g2 g3⟩
/-! ### min, max of a list of ints -/
end
end Bl
set_option Elab.async false
set_option linter.all false
set_option maxRecDepth 100000
set_option maxHeartbeats 4000000
namespace Bl
open PySem PySem.Spec PyProof.Rows L2
section
variable {X : Cx} {e a b c o tg iter elt : Expr} {es : List Expr} {st st1 st2 : Sta} {ow ow1 ow2 ow3 : List OB} {r : R} {rs : List R} {d x y z dd : D} {ds xs l : List D} {pos p p2 apos cpos : Pos} {i j : Int} {u v q : Bool} {ns ms : List Int} {k : Nat}
/-! ### isinstance -/
def tyB : D → Option String
  | .non => some "NoneType"
  | .bl _ => some "bool"
  | .int _ => some "int"
  | .str _ => some "str"
  | .tup _ => some "tuple"
  | .tupN _ => some "tuple"
  | .par _ => some "tuple"
  | .lst _ => some "list"
  | .lstV _ => some "list"
  | _ => none
theorem tyx_of {K : PySem.W.Frag} {S : List Addr} {H : Hp} {v : V} {d : D} {t : String} (h : Den K S H v d) (e : tyB d = some t) : TyX K H v (.type t) := by
  cases h with
  | non => cases e; exact .base .non
  | bl b => cases e; exact .base (.bl b)
  | int i => cases e; exact .base (.int i)
  | str x => cases e; exact .base (.str x)
  | ty n => cases e
  | tup h r => cases e; exact .base (.tup h.2)
  | tupN h r =>
    cases e
    rcases h with ⟨_, o, _, h⟩ | ⟨o, its, n, _, h, c, _⟩
    · exact .fTuple h
    · exact .kTuple h c
  | par n h r =>
    cases e
    rcases h with h | ⟨o, h⟩
    · exact .base (.tup h)
    · exact .fTuple h
  | lst h r =>
    cases e
    rcases h with ⟨_, h | ⟨o, h⟩⟩ | ⟨o, its, n, h, c, _⟩
    · exact .base (.lst h)
    · exact .base (.frz h)
    · exact .kList h c
  | lstV n h r => cases e; exact .base (.lst h)
  | ins n h r => cases e
  | dT n h r => cases e
/-- the name of a built-in class -/
theorem pd_ty {x : Str} {n : String} (hm : X.mg x = none) (hg : Gl X x := by rfl) (hv : bootBuiltins x = some (.type n) := by decide +kernel) (hn : x ≠ "__name__" := by decide) (hd : (x == ("__debug__" : Str)) = false := by decide) : PD X st ow (.Name x pos) (.d (.ty n)) ow :=
  (pe_bltn hg hm hv (show RelV (.ty n) (.type n) from rfl) hn hd).imp fun σ H Q ⟨S, sl, o, k⟩ => k S _ H (.refl S H) o (.d (.ty n))
theorem rc_isB {K : PySem.W.Frag} {t n : String} (ht : tyB d = some t) (hq : kitB t n = some q) : RC K (rIsi K) [d, .ty n] (.bl q) := fun S H ow vs Q o h k => by
  obtain ⟨v, w, rfl, g1, g2⟩ := dens2 h
  cases g2
  exact ⟨v, _, _, _, q, rfl, .ty n, tyx_of g1 ht, kit_ty hq, k _ _ (Evl.Ex.refl H) (.bl q)⟩
theorem rc_isT2 {K : PySem.W.Frag} {t n m : String} {q1 q2 : Bool} (ht : tyB d = some t) (h1 : kitB t n = some q1) (h2 : kitB t m = some q2) : RC K (rIsiT K) [d, .tup [.ty n, .ty m]] (.bl (q1 || q2)) := fun S H ow vs Q o h k => by
  obtain ⟨v, w, rfl, g1, g2⟩ := dens2 h
  cases g2 with
  | tup hh r =>
    obtain ⟨w1, w2, rfl, r1, r2⟩ := dens2 r
    cases r1
    cases r2
    refine ⟨v, _, _, _, [.type n, .type m], (q1 || q2), rfl, hh.2, .cons (.ty n) (.cons (.ty m) .nil), tyx_of g1 ht, ?_, k _ _ (Evl.Ex.refl H) (.bl _)⟩
    refine kitAny_cons (kit_ty h1) (fun e => ?_) (fun e => by rw [e] <;> rfl)
    rw [e]
    refine kitAny_cons (kit_ty h2) (fun e => ?_) (fun e => by rw [e] <;> rfl)
    rw [e]
    exact kitAny_nil
theorem boot_isi : bootBuiltins "isinstance" = some (.builtin "isinstance") := by decide +kernel
/-- isinstance(e, T), T a built-in class -/
theorem pd_isB {t n : String} (hm : X.mg "isinstance" = none) (ha : PADd X st ow [e, c] [d, .ty n] ow1) (q : Bool) (ht : tyB d = some t := by rfl) (hq : kitB t n = some q := by decide +kernel) (hg : Gl X "isinstance" := by rfl) (he : starEach [e, c] X.env = (false, eval e X.env) :: starEach [c] X.env := by rfl) (hpl : (backTo pos (starEach [c] X.env)).any (·.1) = false := by rfl) :
    PD X st ow (.Call (.Name "isinstance" p) [e, c] [] pos) (.d (.bl q)) ow1 := pd_callB call_isi (rc_isB ht hq) hm boot_isi ha hg (by decide) (by decide) he hpl
/-- isinstance(e, (S, T)) -/
theorem pd_isT2 {t n m : String} (hm : X.mg "isinstance" = none) (ha : PADd X st ow [e, c] [d, .tup [.ty n, .ty m]] ow1) (q1 q2 : Bool) (ht : tyB d = some t := by rfl) (h1 : kitB t n = some q1 := by decide +kernel) (h2 : kitB t m = some q2 := by decide +kernel) (hg : Gl X "isinstance" := by rfl) (he : starEach [e, c] X.env = (false, eval e X.env) :: starEach [c] X.env := by rfl) (hpl : (backTo pos (starEach [c] X.env)).any (·.1) = false := by rfl) :
    PD X st ow (.Call (.Name "isinstance" p) [e, c] [] pos) (.d (.bl (q1 || q2))) ow1 := pd_callB call_isiT (rc_isT2 ht h1 h2) hm boot_isi ha hg (by decide) (by decide) he hpl
/-- what isinstance asks of an own class -/
structure OwnC (K : PySem.W.Frag) (C : Addr) : Prop where
  cl : Cls K C
  ha : PySem.W.findIn K (.ref C) "__class__" = some (some (.builtin "object.__class__"))
  hn : PySem.W.specialIn K (.builtin "object.__class__") "__get__" = some (some (.builtin "getset_descriptor.__get__"))
  htk : PySem.W.takesIn K (.builtin "object.__class__") = some true
  hm : PySem.W.mroIn K C (.type "object") = some true
  self : PySem.W.kitOne K (.ref C) (.ref C) = some true
/-- isinstance(e, C), C the object's own class -/
theorem pd_isC {C : Addr} {gs : List (Str × D)} {cn : Str} {pc : Pos} (hm : X.mg "isinstance" = none) (hC : X.mg cn = some (.ref C)) (oc : OwnC X.K C) (ha : PD X st ow e (.d (.ins C gs)) ow1) (hg : Gl X "isinstance" := by rfl) (hgc : Gl X cn := by rfl) (hd : (cn == ("__debug__" : Str)) = false := by decide)
    (he : starEach [e, .Name cn pc] X.env = (false, eval e X.env) :: starEach [.Name cn pc] X.env := by rfl) (he2 : starEach [.Name cn pc] X.env = (false, eval (.Name cn pc) X.env) :: starEach [] X.env := by rfl) (hpl : (backTo pos (starEach [.Name cn pc] X.env)).any (·.1) = false := by rfl) :
    PD X st ow (.Call (.Name "isinstance" p) [e, .Name cn pc] [] pos) (.d (.bl true)) ow1 :=
  (pe_callB call_isi hg hm boot_isi (pa_cons ha (pa_cons (pe_glob (v := .ref C) hgc hC rfl hd) pa_nil he2) he) (by decide) (by decide) he hpl).imp fun σ H Q ⟨S, sl, o, k⟩ => ⟨S, sl, o, fun S1 v H1 f1 o1 d1 => by
    cases d1 with
    | d d1 =>
      obtain ⟨a, dx, fs, rfl, _, h1, h2⟩ := den_ins d1
      exact ⟨_, _, _, _, true, rfl, .own C, .base (.ins h1 oc.cl oc.ha oc.hn oc.htk oc.hm), oc.self, k S1 _ H1 f1 o1 (.d (.bl true))⟩⟩
end
end Bl
set_option Elab.async false
set_option linter.all false
set_option maxRecDepth 100000
set_option maxHeartbeats 4000000
namespace Bl
open PySem PySem.Spec PyProof.Rows L2
section
variable {X : Cx} {e a b c o tg iter elt : Expr} {es : List Expr} {st st1 st2 : Sta} {ow ow1 ow2 ow3 : List OB} {r : R} {rs : List R} {d x y z dd : D} {ds xs l : List D} {pos p p2 apos cpos : Pos} {i j : Int} {u v q : Bool} {ns ms : List Int} {k : Nat}
/-! ### math.comb -/
def rComb : List V → Hp → VK → Prop := fun vs H Q => ∃ a b : Int, vs = [.int a, .int b] ∧ 0 ≤ a ∧ 0 ≤ b ∧ a ≤ 18000 ∧ Q (.int (PySem.W.mcComb a b)) H
theorem cr_comb : CallR X (.builtin "math.comb") rComb := by
  intro pins s σ H vs us Q I r h
  obtain ⟨a, b, rfl, h1, h2, h3, q⟩ := h
  obtain ⟨t, u, rfl⟩ := Vals.int2 r
  exact PySem.W.mc_comb h1 h2 (Int.lt_of_le_of_lt h3 (by decide)) (.inr h3) fun _ => ⟨.int _, H, I.tok _, ⟨_, rfl⟩, q⟩
theorem pd_comb {xn : Str} (hm : X.mg xn = some (.builtin "math.comb")) (ha : PADd X st ow [a, b] [.int i, .int j] ow1) (h : 0 ≤ i ∧ 0 ≤ j ∧ i ≤ 18000) (hg : Gl X xn := by rfl) (hdb : (xn == ("__debug__" : Str)) = false := by decide)
    (he : starEach [a, b] X.env = (false, eval a X.env) :: starEach [b] X.env := by rfl) (hpl : (backTo pos (starEach [b] X.env)).any (·.1) = false := by rfl) : PD X st ow (.Call (.Name xn p) [a, b] [] pos) (.d (.int (PySem.W.mcComb i j))) ow1 :=
  (pe_callBfun cr_comb hg hm ha hdb he hpl).imp fun σ H Q ⟨S, sl, o, k⟩ => ⟨S, sl, o, fun S1 vs H1 f1 o1 d1 => by
    obtain ⟨v, w, rfl, g1, g2⟩ := dens2 (densOf d1)
    exact ⟨i, j, by rw [Den.of_int g1, Den.of_int g2], h.1, h.2.1, h.2.2, k S1 _ H1 f1 o1 (.d (.int _))⟩⟩
/-! ### a mutable list handed to isinstance, tuple, for, enumerate -/
theorem pd_isO2 {n m : String} (hm : X.mg "isinstance" = none) (ho : PD X st ow e (.own k) ow1) (ht : PD X st ow1 c (.d (.tup [.ty n, .ty m])) ow2) (hk : ow2[k]? = some (.l l)) (hk1 : ow1[k]? = some (.l l)) (q1 q2 : Bool) (h1 : kitB "list" n = some q1 := by decide +kernel) (h2 : kitB "list" m = some q2 := by decide +kernel) (hg : Gl X "isinstance" := by rfl) (he : starEach [e, c] X.env = (false, eval e X.env) :: starEach [c] X.env := by rfl) (he2 : starEach [c] X.env = (false, eval c X.env) :: starEach [] X.env := by rfl) (hpl : (backTo pos (starEach [c] X.env)).any (·.1) = false := by rfl) :
    PD X st ow (.Call (.Name "isinstance" p) [e, c] [] pos) (.d (.bl (q1 || q2))) ow2 :=
  (pe_callB call_isiT hg hm boot_isi (pa_cons ho (pa_cons ht pa_nil he2) he) (by decide) (by decide) he hpl).imp fun σ H Q ⟨S, sl, o, q⟩ => ⟨S, sl, o, fun S1 v H1 f1 o1 d1 => ⟨S1, f1.slots sl, o1, fun S2 w H2 f2 o2 d2 => by
    obtain ⟨a, xs, rfl, g1, g2, g3⟩ := own_sq o2 (f2.denR d1) hk
    cases d2 with
    | d d2 =>
      cases d2 with
      | tup hh r =>
        obtain ⟨w1, w2, rfl, r1, r2⟩ := dens2 r
        cases r1
        cases r2
        refine ⟨_, _, _, .type "list", [.type n, .type m], (q1 || q2), rfl, hh.2, .cons (.ty n) (.cons (.ty m) .nil), .base (.lst g2), ?_, q S2 _ H2 (f1.trans o1 f2) o2 (.d (.bl _))⟩
        refine kitAny_cons (kit_ty h1) (fun e => ?_) (fun e => by rw [e] <;> rfl)
        rw [e]
        refine kitAny_cons (kit_ty h2) (fun e => ?_) (fun e => by rw [e] <;> rfl)
        rw [e]
        exact kitAny_nil⟩⟩
theorem pd_tupleO (hm : X.mg "tuple" = none) (ha : PD X st ow e (.own k) ow1) (hk : ow1[k]? = some (.l l)) (hg : Gl X "tuple" := by rfl) (he : starEach [e] X.env = (false, eval e X.env) :: starEach [] X.env := by rfl) : PD X st ow (.Call (.Name "tuple" p) [e] [] pos) (.d (.tup l)) ow1 :=
  (pe_callTy call_tuple_of hg hm (by decide +kernel) (pa_cons ha pa_nil he) (by decide) (by decide) he rfl).imp fun σ H Q ⟨S, sl, o, q⟩ => ⟨S, sl, o, fun S1 v H1 f1 o1 d1 => by
    obtain ⟨a, xs, rfl, g1, g2, g3⟩ := own_sq o1 d1 hk
    exact ⟨a, xs, rfl, .inl ⟨.inl (.inl g2), fun l hl => q S1 _ _ (f1.trans o1 (.of (Evl.Ex.new hl))) (o1.ex (Evl.Ex.new hl)) (.d (new_tup o1 hl g3))⟩⟩⟩
def WDI (K : PySem.W.Frag) (S : List Addr) (H : Hp) (J : It) (xs : List D) (I : List OB → Prop) : Prop :=
  L2.Walk J xs.length (fun H2 => ∃ S2 ow2, Fwd S H S2 H2 ∧ Owns K S2 H2 ow2 ∧ I ow2) (fun i H2 x H3 => Evl.Ex H2 H3 ∧ ∀ S2 ow2, Fwd S H S2 H2 → Owns K S2 H2 ow2 → I ow2 → ∃ d, xs[i]? = some d ∧ Den K S2 H3 x d)
def tDII (K : PySem.W.Frag) (st : Sta) (ow : List OB) (xs : List D) (ow' : List OB) (I : List OB → Prop) : TI := fun σ H R => ∃ S, Slots K S H σ st ∧ Owns K S H ow ∧ ∀ S' H' J, Fwd S H S' H' → Owns K S' H' ow' → WDI K S' H' J xs I → R J H'
abbrev PIDI (X : Cx) (st : Sta) (ow : List OB) (tg iter : Expr) (xs : List D) (ow' : List OB) (I : List OB → Prop) : Prop := PI X tg iter (tDII X.K st ow xs ow' I)
abbrev HoldsAt (k : Nat) (l : List D) : List OB → Prop := fun ow2 => ow2[k]? = some (.l l)
theorem ownA {K : PySem.W.Frag} {S S2 : List Addr} {H H2 : Hp} {a : Addr} {ow2 : List OB} (hS : S[k]? = some a) (f : Fwd S H S2 H2) (o : Owns K S2 H2 ow2) (hk : ow2[k]? = some (.l l)) : ∃ xs, H2 a = some (.lst xs) ∧ Dens K S2 H2 xs l := by
  obtain ⟨a', xs, e, g1, g2, g3⟩ := own_sq o (.own (f.get hS)) hk
  cases e
  exact ⟨xs, g2, g3⟩
theorem sq_lst {K : PySem.W.Frag} {H : Hp} {a : Addr} {xs : List V} (h : H a = some (.lst xs)) : SqL K H a xs := .inl (.inl h)
theorem wd_enumO {K : PySem.W.Frag} {S : List Addr} {H : Hp} {a : Addr} (hS : S[k]? = some a) : WDI K S H (Ite K a) (enumD l) (HoldsAt k l) where
  goes := fun i H2 hi ⟨S2, ow2, f, o, hk⟩ => by
    rw [enumD_len] at hi
    obtain ⟨xs, h1, h2⟩ := ownA hS f o hk
    obtain ⟨x, h3, _⟩ := h2.get (List.getElem?_eq_getElem hi)
    exact ⟨xs, x, sq_lst h1, h3⟩
  stops := fun H2 ⟨S2, ow2, f, o, hk⟩ => by
    rw [enumD_len]
    obtain ⟨xs, h1, h2⟩ := ownA hS f o hk
    exact ⟨xs, sq_lst h1, Nat.le_of_eq h2.length⟩
  yields := fun i H2 x H3 hi _ y => by
    obtain ⟨T, x1, rfl, hT, rfl, y⟩ := y
    refine ⟨Evl.Ex.new hT, fun S2 ow2 f o hk => ?_⟩
    obtain ⟨xs, h1, h2⟩ := ownA hS f o hk
    obtain ⟨d, h3, h4⟩ := h2.get' (y xs (sq_lst h1))
    exact ⟨_, enumD_get h3, new_par o hT (.cons (.int _) (.cons h4 .nil))⟩
theorem pidi_enumO {elts : List Expr} {kk : Nat} {tpos : Pos} (hm : X.mg "enumerate" = none) (ha : PD X st ow e (.own k) ow1) (hk : ow1[k]? = some (.l l)) (hg : Gl X "enumerate" := by rfl) (hs : starEach [e] X.env = [(false, eval e X.env)] := by rfl) :
    PIDI X st ow (.Tuple elts kk tpos) (.Call (.Name "enumerate" p) [e] [] pos) (enumD l) ow1 (HoldsAt k l) :=
  (pi_enum hg hm (pa_cons ha pa_nil hs) hs).imp fun σ H Q ⟨S, sl, o, q⟩ => ⟨S, sl, o, fun S1 v H1 f1 o1 d1 => by
    obtain ⟨a, xs, rfl, g1, g2, g3⟩ := own_sq o1 d1 hk
    exact ⟨a, xs, rfl, sq_lst g2, q S1 H1 _ f1 o1 (wd_enumO g1)⟩⟩
theorem _root_.Bl.wdi_of {K : PySem.W.Frag} {S : List Addr} {H : Hp} {J : It} {xs : List D} (h : WD K S H J xs) : WDI K S H J xs (fun _ => True) where
  goes := fun i H2 hi ⟨S2, ow2, f, o, _⟩ => h.goes i H2 hi ⟨S2, ow2, f, o⟩
  stops := fun H2 ⟨S2, ow2, f, o, _⟩ => h.stops H2 ⟨S2, ow2, f, o⟩
  yields := fun i H2 x H3 hi ⟨S2, ow2, f, o, _⟩ y => by
    obtain ⟨g1, g2⟩ := h.yields i H2 x H3 hi ⟨S2, ow2, f, o⟩ y
    exact ⟨g1, fun S2 ow2 f o _ => g2 S2 ow2 f o⟩
theorem pidi_of (h : PID X st ow tg e xs ow1) : PIDI X st ow tg e xs ow1 (fun _ => True) := h.imp fun σ H Q ⟨S, sl, o, q⟩ => ⟨S, sl, o, fun S1 H1 J f1 o1 w1 => q S1 H1 J f1 o1 (wdi_of w1)⟩
variable {body : List Stmt} {out : Out}
theorem psd_forK (vs : List Nat) (Iv : Nat → Sta) (Io : Nat → List OB) (m : Option Nat) (stm : Nat → Sta) (oo : Nat → Out) (hp : PassesOwn (model X.prog X.w) X.A X.env X.xe) (hc : X.calm = true) (I : List OB → Prop) (hi : PIDI X st ow tg iter xs ow1 I) (hI : ∀ i, I (Io i))
    (h0 : st.length = (Iv 0).length ∧ ∀ (i : Nat) r, (Iv 0)[i]? = some (some r) → st[i]? = some (some r)) (h0o : Io 0 = ow1)
    (hg : ∀ i d, xs[i]? = some d → (∀ k, m = some k → i ≤ k) → PGD X vs (Iv i) d tg (stm i))
    (hb : ∀ i d, xs[i]? = some d → (∀ k, m = some k → i ≤ k) → PBD X (stm i) (Io i) body (oo i))
    (ho : ∀ i, i < xs.length → (∀ k, m = some k → i ≤ k) → if m = some i then (match oo i with
      | .ret r w => out = .ret r w
      | .brk s w => out = .nx s w
      | _ => False) else Onw Iv Io i (oo i))
    (hend : match m with
      | none => out = .nx (Iv xs.length) (Io xs.length)
      | some k => k < xs.length)
    (hs : ∀ x, foldedSetIterable iter X.env x = pure x := by intro _; rfl) : PSD X st ow (.For tg iter body [] pos) out := by
  refine (ps_for (g := fTG X.K vs Iv stm xs m) (tb := fTS X.K stm Io oo xs m) hp hc hi (pg_ex (ι := FIx xs m) fun i => hg i.1.1 i.1.2 i.2.1 i.2.2) (pss_ex (ι := FIx xs m) fun i => hb i.1.1 i.1.2 i.2.1 i.2.2) hs).imp fun E σ H ⟨S, sl, o, k⟩ => ?_
  refine ⟨S, sl, o, fun S1 H1 J f1 o1 w1 => ?_⟩
  refine for_it (D := E) (g := fTG X.K vs Iv stm xs m) (tb := fTS X.K stm Io oo xs m) w1 (fun i σ' H' => (∀ k, m = some k → i ≤ k) ∧ ∃ S', Fwd S1 H1 S' H' ∧ Slots X.K S' H' σ' (Iv i) ∧ Owns X.K S' H' (Io i)) ⟨fun k _ => Nat.zero_le k, S1, .refl S1 H1, (f1.slots sl).weak h0.1 h0.2, by rw [h0o]; exact o1⟩ (fun i σ' H' hi ⟨_, S', f', _, o'⟩ => ⟨S', _, f', o', hI i⟩) (fun i x σ' H' H2 hi ⟨hm, S', f', sl', o'⟩ ⟨ex, y⟩ => ?_) (fun σ' H' ⟨hm, S', f', sl', o'⟩ => ?_)
  · obtain ⟨d, hd, dd⟩ := y S' _ f' o' (hI i)
    refine ⟨⟨(i, d), hd, hm⟩, S', (Fwd.of ex).slots sl', dd, fun σ2 sl2 _ => ⟨⟨(i, d), hd, hm⟩, S', sl2, o'.ex ex, ?_⟩⟩
    have f2 : Fwd S1 H1 S' H2 := f'.trans o' (.of ex)
    have hoi := ho i hi hm
    have f0 : Fwd S H S' H2 := f1.trans o1 f2
    by_cases he : m = some i
    · rw [if_pos he] at hoi
      show Goes X.K S' H2 _ (oo i)
      cases hoo : oo i with
      | nx s w => rw [hoo] at hoi; exact hoi.elim
      | ct s w => rw [hoo] at hoi; exact hoi.elim
      | ret r w =>
        rw [hoo] at hoi
        subst hoi
        exact fun S3 v H3 f3 o3 d3 => k S3 v H3 (f0.trans (o'.ex ex) f3) o3 d3
      | brk s w =>
        rw [hoo] at hoi
        subst hoi
        exact fun S3 σ3 H3 f3 sl3 o3 => k S3 σ3 H3 (f0.trans (o'.ex ex) f3) sl3 o3
    · rw [if_neg he] at hoi
      have hm1 : ∀ k, m = some k → i + 1 ≤ k := fun k hk => by
        have h1 := hm k hk
        have h2 : i ≠ k := fun e => he (by rw [e]; exact hk)
        omega
      show Goes X.K S' H2 _ (oo i)
      rcases hoi with e | e
      · rw [e]
        exact fun S3 σ3 H3 f3 sl3 o3 => ⟨hm1, S3, f2.trans (o'.ex ex) f3, sl3, o3⟩
      · rw [e]
        exact fun S3 σ3 H3 f3 sl3 o3 => ⟨hm1, S3, f2.trans (o'.ex ex) f3, sl3, o3⟩
  · cases m with
    | none =>
      have hend : out = .nx (Iv xs.length) (Io xs.length) := hend
      subst hend
      exact k S' σ' H' (f1.trans o1 f') sl' o'
    | some k0 =>
      have h1 := hm k0 rfl
      have h2 : k0 < xs.length := hend
      omega
end
end Bl
set_option Elab.async false
set_option linter.all false
set_option maxRecDepth 100000
set_option maxHeartbeats 4000000
namespace Bl
open PySem PySem.Spec PyProof.Rows L2
def topS (i : Nat) : Stmt := PySem.Challenge.pw_bentlines_k15_place_exactly_if_no_three.main.body.getD i (.Pass ⟨0, 0, 0, 0⟩)
section
variable {X : Cx} {c : Expr} {tb rest : List Stmt} {st : Sta} {ow ow1 : List OB} {bl : Bool} {out : Out} {pos : Pos}
/-- an if that is not taken -/
theorem pbd_skip (hc : PTD X st ow c bl ow1) (hb : bl = false) (h : PBD X st ow1 rest out) : PBD X st ow (.If c tb [] pos :: rest) out := by
  subst hb
  exact pbd_cons (psd_if (out := .nx st ow1) hc (fun z => nomatch z) (fun _ => pbd_nil)) h
/-- an if that is taken, and leaves -/
theorem pbd_take (hc : PTD X st ow c bl ow1) (hb : bl = true) (h : PBD X st ow1 tb out) (hl : Leaves out := by trivial) : PBD X st ow (.If c tb [] pos :: rest) out := by
  subst hb
  exact pbd_last (psd_if hc (fun _ => h) (fun z => nomatch z)) hl
theorem pd_eqB {X : Cx} {e : Expr} {st : Sta} {ow ow1 : List OB} {q q' : Bool} (h : PD X st ow e (.d (.bl q)) ow1) (hx : q = q') : PD X st ow e (.d (.bl q')) ow1 := hx ▸ h
end
/-- a def of the top and what it is worth -/
def Fg (P : Program) (w : World) (K : PySem.W.Frag) (mg : Str → Option Value) (base : Heap) (xn : Str) (k : Nat) (ps : List Str) (g : GG) : Prop :=
  ∃ f fd, FnOk P w K mg base CX0 k f fd ps (spF K g) ∧ mg xn = some (.ref f) ∧ PySem.W.keepIn K (.ref f) = true ∧ Binds K fd ps []
section
variable {X : Cx} {e : Expr} {es : List Expr} {st : Sta} {ow ow1 ow2 : List OB} {rs : List R} {r : R} {p pos : Pos} {k j : Nat} {ps : List Str} {g : GG} {xn : Str}
theorem pd_cg (F : Fg X.prog X.w X.K X.mg X.base xn k ps g) (hr : Room j X.A) (hj : k ≤ j) (ha : PAD X st ow (e :: es) rs ow1) (hgg : g rs ow1 r ow2) (hg : Gl X xn := by rfl) (hdb : (xn == ("__debug__" : Str)) = false := by decide)
    (he : starEach (e :: es) X.env = (false, eval e X.env) :: starEach es X.env := by rfl) (hpl : (backTo pos (starEach es X.env)).any (·.1) = false := by rfl) : PD X st ow (.Call (.Name xn p) (e :: es) [] pos) r ow2 := by
  obtain ⟨f, fd, h1, h2, h3, h4⟩ := F
  exact pd_call h1 (hr.mono hj) h2 h3 h4 ha hgg hg hdb he hpl
end
section
variable {P : Program} {w : World} {K : PySem.W.Frag} {mg : Str → Option Value} {base : Heap} {f : Addr} {fd : FuncData} {k : Nat}
/-! ### is_int -/
def isI : D → Bool
  | .int _ => true
  | _ => false
abbrev sIsInt : Stmt := topS 11
theorem scIsInt : FnScope ["value"] ["value"] (defScope sIsInt) := ⟨rfl, rfl, rfl, by decide +kernel, rfl, by decide +kernel, by decide +kernel⟩
def gIsInt : GG := fun rs ow r ow' => ∃ d t, rs = [.d d] ∧ tyB d = some t ∧ r = .d (.bl (isI d)) ∧ ow' = ow
theorem ok_isInt (F : Fun K "is_int" "is_int" sIsInt f fd) (mI : mg "isinstance" = none) (m1 : mg "int" = none) (m2 : mg "bool" = none) : FnOk P w K mg base CX0 (k + 1) f fd ["value"] (spF K gIsInt) := by
  refine okF F scIsInt (fun rs ow r ow' h => ?_) (fun cdv A outer s H E hr rs ow r ow' h => ?_)
  · obtain ⟨d, t, rfl, _⟩ := h
    rfl
  · obtain ⟨d, t, rfl, ht, rfl, rfl⟩ := h
    obtain ⟨q1, q2, h1, h2, h3⟩ : ∃ q1 q2 : Bool, kitB t "int" = some q1 ∧ kitB t "bool" = some q2 ∧ (q1 && !q2) = isI d := by
      cases d <;> cases ht <;> first | exact ⟨false, false, by decide +kernel, by decide +kernel, rfl⟩ | exact ⟨true, false, by decide +kernel, by decide +kernel, rfl⟩ | exact ⟨true, true, by decide +kernel, by decide +kernel, rfl⟩
    exact pbd_last (psd_ret (pd_eqB (pd_and (rest := []) (pd_isB mI (padd_cons (pd_var 0) (padd_cons (pd_ty m1) padd_nil)) q1 ht h1) (fun _ => pd_one (pd_not (pd_isB mI (padd_cons (pd_var 0) (padd_cons (pd_ty m2) padd_nil)) q2 ht h2)))) h3))
/-! ### check_int -/
abbrev sCheckInt : Stmt := topS 12
theorem scCheckInt : FnScope ["value", "word", "least", "most"] ["value", "word", "least", "most"] (defScope sCheckInt) := ⟨rfl, rfl, rfl, by decide +kernel, rfl, by decide +kernel, by decide +kernel⟩
/-- a bound that n keeps -/
def OverB (n : Int) (d : D) : Prop := d = .non ∨ ∃ a, d = .int a ∧ a ≤ n
def UnderB (n : Int) (d : D) : Prop := d = .non ∨ ∃ a, d = .int a ∧ n ≤ a
def gCheckInt : GG := fun rs ow r ow' => ∃ n w lo hi, rs = [.d (.int n), .d (.str w), .d lo, .d hi] ∧ OverB n lo ∧ UnderB n hi ∧ r = .d (.int n) ∧ ow' = ow
theorem ok_checkInt (F : Fun K "check_int" "check_int" sCheckInt f fd) (C1 : Fg P w K mg base "is_int" k ["value"] gIsInt) : FnOk P w K mg base CX0 (k + 1) f fd ["value", "word", "least", "most"] (spF K gCheckInt) := by
  refine okF F scCheckInt (fun rs ow r ow' h => ?_) (fun cdv A outer s H E hr rs ow r ow' h => ?_)
  · obtain ⟨n, w, lo, hi, rfl, _⟩ := h
    rfl
  · obtain ⟨n, w, lo, hi, rfl, h1, h2, rfl, rfl⟩ := h
    refine pbd_skip (ptd_not (ptd_val (pd_cg C1 hr (Nat.le_refl _) (padd_cons (pd_var 0) padd_nil) ⟨.int n, "int", rfl, rfl, rfl, rfl⟩))) rfl ?_
    refine pbd_skip (ow1 := ow') (bl := false) ?_ rfl ?_
    · rcases h1 with rfl | ⟨a, rfl, ha⟩
      · exact ptd_eqB (ptd_bool (pwd_and (p := !nonD D.non) (q := false) (ptd_notN (pd_var 2) pd_non) (fun z => nomatch (show false = true from z)))) rfl
      · exact ptd_eqB (ptd_bool (pwd_and (ptd_notN (pd_var 2) pd_non) (fun _ => pwd_and1 (ptd_lt (pd_var 0) (pd_var 2))))) (by simp [nonD]; omega)
    refine pbd_skip (ow1 := ow') (bl := false) ?_ rfl ?_
    · rcases h2 with rfl | ⟨a, rfl, ha⟩
      · exact ptd_eqB (ptd_bool (pwd_and (p := !nonD D.non) (q := false) (ptd_notN (pd_var 3) pd_non) (fun z => nomatch (show false = true from z)))) rfl
      · exact ptd_eqB (ptd_bool (pwd_and (ptd_notN (pd_var 3) pd_non) (fun _ => pwd_and1 (ptd_gt (pd_var 0) (pd_var 3))))) (by simp [nonD]; omega)
    exact pbd_last (psd_ret (pd_var 0))
/-! ### choose -/
abbrev sChoose : Stmt := topS 13
theorem scChoose : FnScope ["n", "k"] ["n", "k"] (defScope sChoose) := ⟨rfl, rfl, rfl, by decide +kernel, rfl, by decide +kernel, by decide +kernel⟩
def chooseZ (n k : Int) : Int := if 0 ≤ k ∧ k ≤ n then PySem.W.mcComb n k else 0
def gChoose : GG := fun rs ow r ow' => ∃ n k : Int, rs = [.d (.int n), .d (.int k)] ∧ n ≤ 18000 ∧ r = .d (.int (chooseZ n k)) ∧ ow' = ow
theorem ok_choose (F : Fun K "choose" "choose" sChoose f fd) (C1 : Fg P w K mg base "check_int" k ["value", "word", "least", "most"] gCheckInt) (mC : mg "comb" = some (.builtin "math.comb")) : FnOk P w K mg base CX0 (k + 1) f fd ["n", "k"] (spF K gChoose) := by
  refine okF F scChoose (fun rs ow r ow' h => ?_) (fun cdv A outer s H E hr rs ow r ow' h => ?_)
  · obtain ⟨n, w, rfl, _⟩ := h
    rfl
  · obtain ⟨n, m, rfl, hn, rfl, rfl⟩ := h
    refine pbd_cons (psd_expr (pd_cg C1 hr (Nat.le_refl _) (padd_cons (pd_var 0) (padd_cons pd_str (padd_cons pd_non (padd_cons pd_non padd_nil)))) ⟨n, _, .non, .non, rfl, .inl rfl, .inl rfl, rfl, rfl⟩)) ?_
    refine pbd_cons (psd_expr (pd_cg C1 hr (Nat.le_refl _) (padd_cons (pd_var 1) (padd_cons pd_str (padd_cons pd_non (padd_cons pd_non padd_nil)))) ⟨m, _, .non, .non, rfl, .inl rfl, .inl rfl, rfl, rfl⟩)) ?_
    refine pbd_ifL (ptd_chain op_le op_le (rd_I0 rfl) (rd_I0 rfl) pd_int (pd_var 1) (pd_var 0)) (fun hb => ?_) trivial (fun hb => ?_)
    · have hb' : 0 ≤ m ∧ m ≤ n := by simpa using hb
      refine pbd_last (psd_ret ?_)
      unfold chooseZ
      rw [if_pos hb']
      exact pd_comb mC (padd_cons (pd_var 0) (padd_cons (pd_var 1) padd_nil)) ⟨by omega, hb'.1, hn⟩
    · have hb' : ¬ (0 ≤ m ∧ m ≤ n) := by simpa using hb
      unfold chooseZ
      rw [if_neg hb']
      exact pbd_last (psd_ret pd_int)
/-! ### check_size, check_line -/
abbrev sCheckSize : Stmt := topS 16
theorem scCheckSize : FnScope ["size"] ["size"] (defScope sCheckSize) := ⟨rfl, rfl, rfl, by decide +kernel, rfl, by decide +kernel, by decide +kernel⟩
def gCheckSize : GG := fun rs ow r ow' => ∃ n : Int, rs = [.d (.int n)] ∧ 1 ≤ n ∧ n ≤ 16 ∧ r = .d (.int n) ∧ ow' = ow
theorem ok_checkSize {tk : Tok} (F : Fun K "check_size" "check_size" sCheckSize f fd) (C1 : Fg P w K mg base "check_int" k ["value", "word", "least", "most"] gCheckInt) (mM : mg "MOST_LINES" = some (.int 16 tk)) : FnOk P w K mg base CX0 (k + 1) f fd ["size"] (spF K gCheckSize) := by
  refine okF F scCheckSize (fun rs ow r ow' h => ?_) (fun cdv A outer s H E hr rs ow r ow' h => ?_)
  · obtain ⟨n, rfl, _⟩ := h
    rfl
  · obtain ⟨n, rfl, h1, h2, rfl, rfl⟩ := h
    exact pbd_last (psd_ret (pd_cg C1 hr (Nat.le_refl _) (padd_cons (pd_var 0) (padd_cons pd_str (padd_cons pd_int (padd_cons (pd_glob (v := .int 16) rfl mM ⟨tk, rfl⟩ rfl) padd_nil)))) ⟨n, _, .int 1, .int 16, rfl, .inr ⟨1, rfl, h1⟩, .inr ⟨16, rfl, h2⟩, rfl, rfl⟩))
abbrev sCheckLine : Stmt := topS 17
theorem scCheckLine : FnScope ["line", "size"] ["line", "size"] (defScope sCheckLine) := ⟨rfl, rfl, rfl, by decide +kernel, rfl, by decide +kernel, by decide +kernel⟩
def gCheckLine : GG := fun rs ow r ow' => ∃ n m : Int, rs = [.d (.int n), .d (.int m)] ∧ 0 ≤ n ∧ n < m ∧ r = .d (.int n) ∧ ow' = ow
theorem ok_checkLine (F : Fun K "check_line" "check_line" sCheckLine f fd) (C1 : Fg P w K mg base "is_int" k ["value"] gIsInt) : FnOk P w K mg base CX0 (k + 1) f fd ["line", "size"] (spF K gCheckLine) := by
  refine okF F scCheckLine (fun rs ow r ow' h => ?_) (fun cdv A outer s H E hr rs ow r ow' h => ?_)
  · obtain ⟨n, m, rfl, _⟩ := h
    rfl
  · obtain ⟨n, m, rfl, h1, h2, rfl, rfl⟩ := h
    refine pbd_skip (ptd_bool (pwd_or (ptd_not (ptd_val (pd_cg C1 hr (Nat.le_refl _) (padd_cons (pd_var 0) padd_nil) ⟨.int n, "int", rfl, rfl, rfl, rfl⟩))) (fun _ => pwd_or1 (ptd_not (ptd_chain op_le op_lt (rd_I0 rfl) (rd_I0 rfl) pd_int (pd_var 0) (pd_var 1)))))) (by simp [isI]; omega) ?_
    exact pbd_last (psd_ret (pd_var 0))
/-! ### is_sign, changes -/
abbrev sIsSign : Stmt := topS 27
theorem scIsSign : FnScope ["value"] ["value"] (defScope sIsSign) := ⟨rfl, rfl, rfl, by decide +kernel, rfl, by decide +kernel, by decide +kernel⟩
def isSg : D → Bool
  | .int n => decide (-1 ≤ n) && decide (n ≤ 1)
  | _ => false
def gIsSign : GG := fun rs ow r ow' => ∃ d t, rs = [.d d] ∧ tyB d = some t ∧ r = .d (.bl (isSg d)) ∧ ow' = ow
theorem ok_isSign (F : Fun K "is_sign" "is_sign" sIsSign f fd) (C1 : Fg P w K mg base "is_int" k ["value"] gIsInt) : FnOk P w K mg base CX0 (k + 1) f fd ["value"] (spF K gIsSign) := by
  refine okF F scIsSign (fun rs ow r ow' h => ?_) (fun cdv A outer s H E hr rs ow r ow' h => ?_)
  · obtain ⟨d, t, rfl, _⟩ := h
    rfl
  · obtain ⟨d, t, rfl, ht, rfl, rfl⟩ := h
    refine pbd_last (psd_ret ?_)
    cases hd : isI d with
    | true =>
      cases d <;> cases hd
      exact pd_and (rest := []) (p := true) (pd_cg C1 hr (Nat.le_refl _) (padd_cons (pd_var 0) padd_nil) ⟨_, t, rfl, ht, rfl, rfl⟩) (fun _ => pd_one (pd_chain op_le op_le (rd_I0 rfl) (rd_I0 rfl) (pd_neg pd_int) (pd_var 0) pd_int))
    | false =>
      have e : isSg d = (false && false) := by cases d <;> first | rfl | cases hd
      rw [e]
      exact pd_and (rest := []) (p := false) (pd_cg C1 hr (Nat.le_refl _) (padd_cons (pd_var 0) padd_nil) ⟨d, t, rfl, ht, by rw [hd], rfl⟩) (fun z => nomatch z)
abbrev sChanges : Stmt := topS 29
theorem scChanges : FnScope ["row", "a", "b", "c", "d"] ["row"] (defScope sChanges) := ⟨rfl, rfl, rfl, by decide +kernel, rfl, by decide +kernel, by decide +kernel⟩
def chg (a b c d : Int) : Int := b2 (!decide (V.int a = V.int b)) + b2 (!decide (V.int b = V.int c)) + b2i (!decide (V.int c = V.int d))
def gChanges : GG := fun rs ow r ow' => ∃ (x : D) (a b c d : Int), rs = [.d x] ∧ tupL x = some [.int a, .int b, .int c, .int d] ∧ r = .d (.int (chg a b c d)) ∧ ow' = ow
theorem ok_changes (F : Fun K "changes" "changes" sChanges f fd) : FnOk P w K mg base CX0 (k + 1) f fd ["row"] (spF K gChanges) := by
  refine okF F scChanges (fun rs ow r ow' h => ?_) (fun cdv A outer s H E hr rs ow r ow' h => ?_)
  · obtain ⟨x, a, b, c, d, rfl, _⟩ := h
    rfl
  · obtain ⟨x, a, b, c, d, rfl, hx, rfl, rfl⟩ := h
    refine pbd_cons (psd_asgT (vs := [1, 2, 3, 4]) (pd_var 0) (pgd_tup rfl (pgsd_cons (pgd_name 1 scChanges.nd) (pgsd_cons (pgd_name 2 scChanges.nd) (pgsd_cons (pgd_name 3 scChanges.nd) (pgsd_cons (pgd_name 4 scChanges.nd) pgsd_nil)))) hx)) ?_
    exact pbd_last (psd_ret (pd_addIB (pd_addBB (pd_ne (pd_var 1) (pd_var 2)) (pd_ne (pd_var 2) (pd_var 3))) (pd_ne (pd_var 3) (pd_var 4))))
end
end Bl
set_option Elab.async false
set_option linter.all false
set_option maxRecDepth 100000
set_option maxHeartbeats 4000000
namespace Bl
open PySem PySem.Spec PyProof.Rows L2
open Sem (wp)
/-! ### a zip over any two drawers, while the pair it gave out before is still there -/
section
variable {prog : Program} {w : World} {A : Around} {E : Value → Shared → Prop} {s : Shared} {z TI TO T i1 i2 : Addr} {f1 f2 : List Addr} {n1 n2 i : Nat} {P1 P2 : Nat → Value → Prop} {S1 S2 : Nat → Heap → Prop} {fl : Bool} {oT : Obj}
/-- the state of such a zip -/
structure ZH (S1 S2 : Nat → Heap → Prop) (z TI TO T i1 i2 : Addr) (fl : Bool) (i : Nat) (h : Heap) : Prop where
  zz : IsZipHeld h z TI TO T fl
  ti : IsTupOf2 h TI (.ref i1) (.ref i2)
  a : S1 i h
  b : S2 i h
theorem zh_item {Q : Value → Shared → Prop} (Z : ZipSep2 z TI TO i1 i2 f1 f2) (G1 : Draws prog w A i1 f1 n1 P1 S1) (G2 : Draws prog w A i2 f2 n2 P2 S2) (st : ZH S1 S2 z TI TO T i1 i2 fl i s.heap) (hT : s.heap.get? T = some oT) (l1 : i < n1) (l2 : i < n2)
    (hQ : ∀ x y h' tk, P1 i x → P2 i y → IsZipHeld h' z TI TO T true → S1 (i + 1) h' → S2 (i + 1) h' → IsTupOf2 h' s.heap.objs.size x y → h'.objs.size = s.heap.objs.size + 1 → (∀ c o, c ≠ z → c ≠ i1 → c ≠ i2 → s.heap.get? c = some o → h'.get? c = some o) → Q (.ref s.heap.objs.size) { s with heap := h', toks := tk }) :
    wpAny (model prog w) A (Builtin.«zip.__next__» ⟨[.ref z], []⟩) (fun fin s' => ∃ v, fin = .done (.ret v) ∧ Q v s') E s := by
  obtain ⟨hp, g, d, tk0, os⟩ := s
  obtain ⟨hz, hTI, s1, s2⟩ := st
  show wpAny _ _ (field (.ref z) 2 >>= _) _ _ ⟨hp, g, d, tk0, os⟩
  refine wpAny_bind (wpAny_field hz rfl (x := .bool false) rfl (show wpAny _ _ (field (.ref z) 3 >>= _) _ _ ⟨hp, g, d, tk0, os⟩ from wpAny_bind (wpAny_field hz rfl (x := .ref TI) rfl (wpAny_bind (wpAny_seqItems hTI rfl ?_)))))
  show wpAny _ _ (Builtin.SmallTypes.ownedTupleIsFree (.ref z) >>= _) _ _ ⟨hp, g, d, tk0, os⟩
  refine wpAny_bind (wpAny_tupleHeld_zip hz hT fun ha za ka => ?_)
  replace ka : Heap.SameBut z hp ha := ka
  simp only [Bool.false_eq_true, if_false]
  refine wpAny_bind ?_
  rw [← Array.forIn_toList]
  simp only [List.forIn_cons, List.forIn_nil]
  refine wpAny_bind (wpAny_bind (wpAny_holding ?_))
  show wpAny _ _ (Builtin.SmallTypes.nextOf (.ref i1) >>= _) _ _ ⟨ha, g, d, tk0, os⟩
  refine wpAny_bind (G1.item i _ _ _ l1 (G1.over s1 ka Z.zf1) fun x hb tk1 px sb kb => wpAny_pure (wpAny_pure (wpAny_bind (wpAny_bind (wpAny_holding ?_)))))
  replace kb : Heap.SameBut i1 ha hb := kb
  show wpAny _ _ (Builtin.SmallTypes.nextOf (.ref i2) >>= _) _ _ ⟨hb, g, d, tk1, os⟩
  refine wpAny_bind (G2.item i _ _ _ l2 (G2.over (G2.over s2 ka Z.zf2) kb Z.sep1_2) fun y hc tk2 py sc kc => wpAny_pure (wpAny_pure (wpAny_pure ?_)))
  replace kc : Heap.SameBut i2 hb hc := kc
  have hsz : hc.objs.size = hp.objs.size := by rw [kc.1, kb.1, ka.1]
  have old : ∀ c o, c ≠ z → c ≠ i1 → c ≠ i2 → hp.get? c = some o → hc.get? c = some o := fun c o c1 c2 c3 e => kc.extBut _ _ c3 (kb.extBut _ _ c2 (ka.extBut _ _ c1 e))
  have zc : IsZipHeld hc z TI TO T true := kc.extBut _ _ Z.zi2 (kb.extBut _ _ Z.zi1 za)
  have s1c : S1 (i + 1) hc := G1.over sb kc Z.sep2_1
  have up : ∀ c o, hc.get? c = some o → (hc.push { cls := .type "tuple", data := .seq #[x, y] }).get? c = some o := fun c o e => Heap.get?_push_of_some _ e
  refine (show wpAny _ _ (newTuple [x, y] >>= _) _ _ ⟨hc, g, d, tk2, os⟩ from wpAny_bind (wpAny_newTuple (wpAny_pure ⟨_, rfl, ?_⟩)))
  have key := hQ x y (hc.push { cls := .type "tuple", data := .seq #[x, y] }) tk2 px py (up _ _ zc) (G1.frame _ _ _ s1c fun b _ o e => up b o e) (G2.frame _ _ _ sc fun b _ o e => up b o e)
  rw [← hsz] at key
  exact key (Heap.get?_push_size _ rfl) (Heap.size_push ..) fun c o c1 c2 c3 e => up c o (old c o c1 c2 c3 e)
theorem zh_end {Q : Fin → Shared → Prop} (Z : ZipSep2 z TI TO i1 i2 f1 f2) (G1 : Draws prog w A i1 f1 n1 P1 S1) (G2 : Draws prog w A i2 f2 n2 P2 S2) (st : ZH S1 S2 z TI TO T i1 i2 fl i s.heap) (hT : s.heap.get? T = some oT) (l1 : i ≤ n1) (l2 : i ≤ n2) (he : i = n1 ∨ i = n2)
    (hE : ∀ h' tk e, (∀ c o, c ≠ z → c ≠ i1 → c ≠ i2 → s.heap.get? c = some o → h'.get? c = some o) → (∃ o, h'.get? e = some o ∧ o.cls = .type "StopIteration") → E (.ref e) { s with heap := h', toks := tk }) :
    wpAny (model prog w) A (Builtin.«zip.__next__» ⟨[.ref z], []⟩) Q E s := by
  obtain ⟨hp, g, d, tk0, os⟩ := s
  obtain ⟨hz, hTI, s1, s2⟩ := st
  show wpAny _ _ (field (.ref z) 2 >>= _) _ _ ⟨hp, g, d, tk0, os⟩
  refine wpAny_bind (wpAny_field hz rfl (x := .bool false) rfl (show wpAny _ _ (field (.ref z) 3 >>= _) _ _ ⟨hp, g, d, tk0, os⟩ from wpAny_bind (wpAny_field hz rfl (x := .ref TI) rfl (wpAny_bind (wpAny_seqItems hTI rfl ?_)))))
  show wpAny _ _ (Builtin.SmallTypes.ownedTupleIsFree (.ref z) >>= _) _ _ ⟨hp, g, d, tk0, os⟩
  refine wpAny_bind (wpAny_tupleHeld_zip hz hT fun ha za ka => ?_)
  replace ka : Heap.SameBut z hp ha := ka
  simp only [Bool.false_eq_true, if_false]
  refine wpAny_bind ?_
  rw [← Array.forIn_toList]
  simp only [List.forIn_cons, List.forIn_nil]
  refine wpAny_bind (wpAny_bind (wpAny_holding ?_))
  show wpAny _ _ (Builtin.SmallTypes.nextOf (.ref i1) >>= _) _ _ ⟨ha, g, d, tk0, os⟩
  by_cases hlt : i < n1
  · refine wpAny_bind (G1.item i _ _ _ hlt (G1.over s1 ka Z.zf1) fun x hb tk1 px sb kb => wpAny_pure (wpAny_pure (wpAny_bind (wpAny_bind (wpAny_holding ?_)))))
    replace kb : Heap.SameBut i1 ha hb := kb
    show wpAny _ _ (Builtin.SmallTypes.nextOf (.ref i2) >>= _) _ _ ⟨hb, g, d, tk1, os⟩
    have hi : i = n2 := by omega
    refine wpAny_bind (G2.done _ _ _ (by rw [← hi]; exact G2.over (G2.over s2 ka Z.zf2) kb Z.sep1_2) fun hc e kc te => ?_)
    exact hE hc tk1 e (fun c o c1 c2 c3 x => kc _ _ c3 (kb.extBut _ _ c2 (ka.extBut _ _ c1 x))) te
  · have hi : i = n1 := by omega
    refine wpAny_bind (G1.done _ _ _ (by rw [← hi]; exact G1.over s1 ka Z.zf1) fun hc e kc te => ?_)
    exact hE hc tk0 e (fun c o c1 c2 c3 x => kc _ _ c2 (ka.extBut _ _ c1 x)) te
theorem zh_next {Q : Option Value → Shared → Prop} (Z : ZipSep2 z TI TO i1 i2 f1 f2) (G1 : Draws prog w A.in1 i1 f1 n1 P1 S1) (G2 : Draws prog w A.in1 i2 f2 n2 P2 S2) (st : ZH S1 S2 z TI TO T i1 i2 fl i s.heap) (hT : s.heap.get? T = some oT) (l1 : i < n1) (l2 : i < n2)
    (hQ : ∀ x y h' tk, P1 i x → P2 i y → IsZipHeld h' z TI TO T true → S1 (i + 1) h' → S2 (i + 1) h' → IsTupOf2 h' s.heap.objs.size x y → h'.objs.size = s.heap.objs.size + 1 → (∀ c o, c ≠ z → c ≠ i1 → c ≠ i2 → s.heap.get? c = some o → h'.get? c = some o) → Q (some (.ref s.heap.objs.size)) { s with heap := h', toks := tk }) :
    wpAny (model prog w) A (pyNext (.ref z)) Q E s := by
  have ty : s.TypeIs (.ref z) "zip" := ⟨_, st.zz, rfl⟩
  unfold pyNext
  exact wpAny_bind (wpAny_attempt (wpAny_callSpecial?_slot (name := Str.ofString "__next__") ty F.slot_zip_next (wpAny_call_entry F.slot_zip_next ty F.entry_zip_next (zh_item Z G1 G2 st hT l1 l2 fun x y h' tk q1 q2 q3 q4 q5 q6 q7 q8 => wpAny_pure (hQ x y h' tk q1 q2 q3 q4 q5 q6 q7 q8)) (F.args_zip_next_1 _))))
theorem zh_stop {Q : Option Value → Shared → Prop} (Z : ZipSep2 z TI TO i1 i2 f1 f2) (G1 : Draws prog w A.in1 i1 f1 n1 P1 S1) (G2 : Draws prog w A.in1 i2 f2 n2 P2 S2) (st : ZH S1 S2 z TI TO T i1 i2 fl i s.heap) (hT : s.heap.get? T = some oT) (l1 : i ≤ n1) (l2 : i ≤ n2) (he : i = n1 ∨ i = n2)
    (hQ : ∀ h' tk, (∀ c o, c ≠ z → c ≠ i1 → c ≠ i2 → s.heap.get? c = some o → h'.get? c = some o) → Q none { s with heap := h', toks := tk }) :
    wpAny (model prog w) A (pyNext (.ref z)) Q E s := by
  have ty : s.TypeIs (.ref z) "zip" := ⟨_, st.zz, rfl⟩
  unfold pyNext
  refine wpAny_bind (wpAny_attempt (wpAny_callSpecial?_slot (name := Str.ofString "__next__") ty F.slot_zip_next (wpAny_call_entry F.slot_zip_next ty F.entry_zip_next (zh_end Z G1 G2 st hT l1 l2 he fun h' tk e k ⟨o, ho, hc⟩ => ?_) (F.args_zip_next_1 _))))
  exact wpAny_bind (wpAny_isInstance (T := "StopIteration") (b := true) ⟨o, ho, hc⟩ isSubtype_stop (wpAny_pure (hQ _ _ k)))
end
section
variable {prog : Program} {w : World} {z TI TO i1 i2 : Addr} {f1 f2 : List Addr} {n1 n2 : Nat} {P1 P2 : Nat → Value → Prop} {S1 S2 : Nat → Heap → Prop}
/-- where a zip stands that gave out nothing so far -/
structure ZNew (S1 S2 : Nat → Heap → Prop) (z TI TO i1 i2 : Addr) (fs : List Addr) (h : Heap) : Prop where
  zz : IsZip h z TI TO .none
  ti : IsTupOf2 h TI (.ref i1) (.ref i2)
  to : ∃ a b, IsTupOf2 h TO a b
  a : S1 0 h
  b : S2 0 h
  all : ∀ c ∈ fs, ∃ o, h.get? c = some o
/-- the turns of such a zip while the dict at d grows -/
def ZTurn (S1 S2 : Nat → Heap → Prop) (z TI TO i1 i2 d : Addr) (i : Nat) (h : Heap) : Prop :=
  (IsZip h z TI TO .none ∧ IsTupOf2 h TI (.ref i1) (.ref i2) ∧ (∃ a b, IsTupOf2 h TO a b) ∧ S1 i h ∧ S2 i h) ∨ ∃ T fl oT, ZH S1 S2 z TI TO T i1 i2 fl i h ∧ h.get? T = some oT ∧ T ≠ z ∧ T ≠ i1 ∧ T ≠ i2 ∧ T ≠ d
theorem zip_arg {A0 : Around} (hA0 : A0.handled = none) (Z : ZipSep2 z TI TO i1 i2 f1 f2) (G1 : ∀ A : Around, A.handled = none → Draws prog w A i1 f1 n1 P1 S1) (G2 : ∀ A : Around, A.handled = none → Draws prog w A i2 f2 n2 P2 S2) :
    PairArg prog w "zip" z (z :: TI :: TO :: (f1 ++ f2)) [z, TO, i1, i2] (min n1 n2) (fun i k v => P1 i k ∧ P2 i v) (ZNew S1 S2 z TI TO i1 i2 (f1 ++ f2)) where
  type := fun s ok => ⟨_, ok.zz, rfl⟩
  notDict := by decide
  keep := fun h h' ok hk => by
    obtain ⟨q1, q2, ⟨a, b, q3⟩, q4, q5, q6⟩ := ok
    refine ⟨hk _ _ q1, hk _ _ q2, ⟨a, b, hk _ _ q3⟩, ?_, ?_, fun c hc => (q6 c hc).elim fun o e => ⟨o, hk _ _ e⟩⟩
    · exact (G1 A0 hA0).frame _ _ _ q4 fun b _ o e => hk b o e
    · exact (G2 A0 hA0).frame _ _ _ q5 fun b _ o e => hk b o e
  there := fun h ok b hb => by
    obtain ⟨q1, q2, ⟨a, c, q3⟩, q4, q5, q6⟩ := ok
    rcases List.mem_cons.mp hb with rfl | hb
    · exact ⟨_, q1⟩
    rcases List.mem_cons.mp hb with rfl | hb
    · exact ⟨_, q2⟩
    rcases List.mem_cons.mp hb with rfl | hb
    · exact ⟨_, q3⟩
    · exact q6 b hb
  sub := fun b hb => by
    have h1 := Z.mem1
    have h2 := Z.mem2
    simp only [List.mem_cons, List.not_mem_nil, or_false] at hb
    rcases hb with rfl | rfl | rfl | rfl <;> simp [h1, h2]
  noKeys := fun A s Q E hA ok h => getAttrOr_miss_zip ok.zz rfl rfl rfl zip_no_keys (by decide +kernel) hA h
  iter := fun A s d Q E hA ok hd hdf k => by
    obtain ⟨q1, q2, q3, q4, q5, q6⟩ := ok
    have dz : d ≠ z := fun e => hdf (by rw [e]; exact List.mem_cons_self)
    have dI : d ≠ TI := fun e => hdf (by rw [e]; exact List.mem_cons_of_mem _ List.mem_cons_self)
    have dO : d ≠ TO := fun e => hdf (by rw [e]; exact List.mem_cons_of_mem _ (List.mem_cons_of_mem _ List.mem_cons_self))
    have d1 : ∀ c ∈ f1, d ≠ c := fun c hc e => hdf (by rw [e]; exact List.mem_cons_of_mem _ (List.mem_cons_of_mem _ (List.mem_cons_of_mem _ (List.mem_append_left _ hc))))
    have d2 : ∀ c ∈ f2, d ≠ c := fun c hc e => hdf (by rw [e]; exact List.mem_cons_of_mem _ (List.mem_cons_of_mem _ (List.mem_cons_of_mem _ (List.mem_append_right _ hc))))
    have H1 := G1 A.in1 hA
    have H2 := G2 A.in1 hA
    refine wpAny_pyIter_zip q1 (k z [z, TO, i1, i2] (ZTurn S1 S2 z TI TO i1 i2 d) s.heap s.toks ?_ (.inl ⟨q1, q2, q3, q4, q5⟩) (fun _ _ e => e) fun b hb => .inl hb)
    exact {
      off := fun hm => by
        simp only [List.mem_cons, List.not_mem_nil, or_false] at hm
        rcases hm with e | e | e | e
        · exact dz e
        · exact dO e
        · exact d1 _ Z.mem1 e
        · exact d2 _ Z.mem2 e
      frame := fun i ha hb st hk => by
        have fa : S1 i ha → S1 i hb := fun x => H1.frame _ _ _ x fun c hc o e => hk c o (d1 c hc).symm e
        have fb : S2 i ha → S2 i hb := fun x => H2.frame _ _ _ x fun c hc o e => hk c o (d2 c hc).symm e
        rcases st with ⟨r1, r2, ⟨a, b, r3⟩, r4, r5⟩ | ⟨T, fl, oT, ⟨r1, r2, r4, r5⟩, r6, t1, t2, t3, t4⟩
        · exact .inl ⟨hk _ _ dz.symm r1, hk _ _ dI.symm r2, ⟨a, b, hk _ _ dO.symm r3⟩, fa r4, fb r5⟩
        · exact .inr ⟨T, fl, oT, ⟨hk _ _ dz.symm r1, hk _ _ dI.symm r2, fa r4, fb r5⟩, hk _ _ t4 r6, t1, t2, t3, t4⟩
      item := fun i s1 Q1 E1 hi st hds kq => by
        have hi1 : i < n1 := by omega
        have hi2 : i < n2 := by omega
        have lt : ∀ {c o}, s1.heap.get? c = some o → s1.heap.objs.size ≠ c := fun e => Nat.ne_of_gt (Heap.lt_size e)
        rcases st with ⟨r1, r2, ⟨a, b, r3⟩, r4, r5⟩ | ⟨T, fl, oT, st, r6, t1, t2, t3, t4⟩
        · have m1 : s1.heap.objs.size ≠ i1 := (H1.live _ _ r4).elim fun _ e => lt e
          have m2 : s1.heap.objs.size ≠ i2 := (H2.live _ _ r5).elim fun _ e => lt e
          refine wpAny_pyNext_zipD2_item Z H1 H2 r1 r2 r3 r4 r5 hi1 hi2 fun x y h' tk px py z' _ sa sb hp _ old => ?_
          exact kq s1.heap.objs.size x y h' tk ⟨px, py⟩ (.inl ⟨_, hp, rfl, _, rfl⟩) (.inr ⟨s1.heap.objs.size, false, _, ⟨z', old _ _ Z.TIz Z.TITO Z.TIi1 Z.TIi2 r2, sa, sb⟩, hp, lt r1, m1, m2, Nat.ne_of_gt hds⟩)
            fun c o hc e => old c o (fun q => hc (by simp [q])) (fun q => hc (by simp [q])) (fun q => hc (by simp [q])) (fun q => hc (by simp [q])) e
        · refine zh_next Z H1 H2 st r6 hi1 hi2 fun x y h' tk px py z' sa sb hp _ old => ?_
          exact kq s1.heap.objs.size x y h' tk ⟨px, py⟩ (.inl ⟨_, hp, rfl, _, rfl⟩) (.inr ⟨T, true, oT, ⟨z', old _ _ Z.TIz Z.TIi1 Z.TIi2 st.ti, sa, sb⟩, old _ _ t1 t2 t3 r6, t1, t2, t3, t4⟩)
            fun c o hc e => old c o (fun q => hc (by simp [q])) (fun q => hc (by simp [q])) (fun q => hc (by simp [q])) e
      done := fun s1 Q1 E1 st kq => by
        rcases st with ⟨r1, r2, ⟨a, b, r3⟩, r4, r5⟩ | ⟨T, fl, oT, st, r6, t1, t2, t3, t4⟩
        · exact wpAny_pyNext_zipD2_end Z H1 H2 r1 r2 r3 r4 r5 (by omega) (by omega) (by omega) fun h' tk old => kq h' tk fun c o hc e => old c o (fun q => hc (by simp [q])) (fun q => hc (by simp [q])) (fun q => hc (by simp [q])) (fun q => hc (by simp [q])) e
        · exact zh_stop Z H1 H2 st r6 (by omega) (by omega) (by omega) fun h' tk old => kq h' tk fun c o hc e => old c o (fun q => hc (by simp [q])) (fun q => hc (by simp [q])) (fun q => hc (by simp [q])) e }
end
end Bl
set_option Elab.async false
set_option linter.all false
set_option maxRecDepth 100000
set_option maxHeartbeats 4000000
namespace Bl
open PySem PySem.Spec PyProof.Rows L2
/-! ### dict(zip(xs, t)), the keys tuples -/
theorem atKey_nil_of {K : Type} [DecidableEq K] {xs : List (K × Addr × Value)} {k : K} (h : k ∉ xs.map (·.1)) : atKey xs k = none := by
  unfold atKey
  rw [Option.map_eq_none_iff, List.find?_eq_none]
  intro x hx e
  exact h (List.mem_map.mpr ⟨x, hx, of_decide_eq_true e⟩)
theorem storedAll_new {K : Type} [DecidableEq K] : ∀ (ps acc : List (K × Addr × Value)), ((acc ++ ps).map (·.1)).Nodup → storedAllH acc ps = acc ++ ps
  | [], acc, _ => by rw [List.append_nil]; rfl
  | p :: ps, acc, h => by
    have e : storedAllH acc (p :: ps) = storedAllH (storedH acc p.1 p.2.1 p.2.2) ps := rfl
    have hn : p.1 ∉ acc.map (·.1) := by
      rw [List.map_append, List.map_cons] at h
      intro hm
      exact (List.nodup_append.mp h).2.2 _ hm _ List.mem_cons_self rfl
    rw [e, storedH_new (atKey_nil_of hn), storedAll_new ps (acc ++ [p]) (by rw [List.append_assoc]; exact h), List.append_assoc]
    rfl
def IsKT (H : Hp) (x : V) (k : List Key) : Prop := ∃ t, x = .ref t ∧ H t = some (.tup (k.map kV))
def tDZ (K : PySem.W.Frag) (ta : TA) : TE := fun σ H Q => ta σ H fun vs H1 => ∃ a b xs ys ks, vs = [.ref a, .ref b] ∧ SqL K H1 a xs ∧ SqT K H1 b ys ∧ xs.length = ys.length ∧ Paired (IsKT H1) xs ks ∧ ks.Nodup ∧ ∀ p, H1 p = none → Q (.ref p) (upd H1 p (.dT (ks.zip ys)))
theorem paired_len {α β : Type} {F : α → β → Prop} : ∀ {l : List α} {m : List β}, Paired F l m → l.length = m.length
  | _, _, .nil => rfl
  | _, _, .cons _ t => congrArg (· + 1) (paired_len t)
theorem paired_imp {α β : Type} {F G : α → β → Prop} (h : ∀ a b, F a b → G a b) : ∀ {l : List α} {m : List β}, Paired F l m → Paired G l m
  | _, _, .nil => .nil
  | _, _, .cons p t => .cons (h _ _ p) (paired_imp h t)
/-- the keys, their addresses and the values, told as the dict's entries -/
theorem entries_of {H : Hp} : ∀ {xs : List V} {ks : List (List Key)} {ys : List V} {its its2 : List Value}, Paired (IsKT H) xs ks → Vals xs its → Vals ys its2 → xs.length = ys.length →
    ∃ ps : List (List Key × Addr × Value), ps.map (·.1) = ks ∧ ps.length = its.length ∧ its2.length = its.length ∧ (∀ (i : Nat) (key v : Value), its[i]? = some key → its2[i]? = some v → ∃ k b, ps[i]? = some (k, b, v) ∧ key = .ref b) ∧ KT H (ks.zip ys) ps
  | _, _, [], _, _, .nil, .nil, .nil, _ => ⟨[], rfl, rfl, rfl, fun i key v e => by simp at e, .nil⟩
  | _, _, y :: ys, _, _, .cons hk t, .cons r1 t1, .cons r2 t2, hl => by
    obtain ⟨ps, e1, e2, e3, e4, e5⟩ := entries_of t t1 t2 (by simpa using hl)
    obtain ⟨b, rfl, hb⟩ := hk
    cases r1
    refine ⟨(_, b, _) :: ps, by rw [List.map_cons, e1], by rw [List.length_cons, List.length_cons, e2], by rw [List.length_cons, List.length_cons, e3], fun i key v g1 g2 => ?_, .cons ⟨rfl, hb, r2⟩ e5⟩
    cases i with
    | zero =>
      cases g1
      cases g2
      exact ⟨_, b, rfl, rfl⟩
    | succ i => exact e4 i key v g1 g2
  | _, _, [], _, _, .cons _ _, _, _, hl => by simp at hl
  | _, _, _ :: _, _, _, .nil, _, _, hl => by simp at hl
theorem kt_keys {H : Hp} {P : Program} {w : World} {h : Heap} (ok : HOk P w H h) : ∀ {kvs : List (List Key × V)} {ps : List (List Key × Addr × Value)}, KT H kvs ps → ∀ x ∈ ps, (tupleKind (mixKind P w)).is h x.1 x.2.1 ∧ H x.2.1 ≠ none
  | _, _, .nil, x, hx => nomatch hx
  | _, _, .cons hq t, x, hx => by
    rcases List.mem_cons.mp hx with rfl | hx
    · exact ⟨key_of ok (by rw [← hq.1]; exact hq.2.1), by rw [hq.2.1]; exact fun z => nomatch z⟩
    · exact kt_keys ok t x hx
theorem pe_dictZip {X : Cx} {e1 e2 : Expr} {ta : TA} {p p2 pos pos2 : Pos} (hc : X.calm = true) (hu : X.A.units + 64 < cLine) (hm : X.mg "dict" = none) (hmz : X.mg "zip" = none) (ha : PA X [e1, e2] ta) (hg : Gl X "dict" := by rfl) (hgz : Gl X "zip" := by rfl)
    (hs : starEach [e1, e2] X.env = (false, eval e1 X.env) :: starEach [e2] X.env := by rfl) (hpl : (backTo pos2 (starEach [e2] X.env)).any (·.1) = false := by rfl)
    (na : starEach [.Call (.Name "zip" p2) [e1, e2] [] pos2] X.env = (false, eval (.Call (.Name "zip" p2) [e1, e2] [] pos2) X.env) :: starEach [] X.env := by rfl) :
    PE X (.Call (.Name "dict" p) [.Call (.Name "zip" p2) [e1, e2] [] pos2] [] pos) (tDZ X.K ta) := by
  refine ⟨fun pins s σ H Q I h => ?_⟩
  refine Call_ (ld_blt I hg hm PyProof.Rows.boot_dict (PyProof.Rows.callWith_type1 (args_cons ?_ na) na))
  refine Call_ (ld_blt I hgz hmz PyProof.Rows.boot_zip (PyProof.Rows.callWith_type1 (thn (ha.run pos2 pins s σ H _ I h) fun us s1 ⟨vs, H1, I1, r1, q1⟩ => ?_) hs hpl))
  obtain ⟨a, b, xs, ys, ks, rfl, hqx, hqy, hlen, hk, hnd, q⟩ := q1
  obtain ⟨u1, u2, rfl, ra, rb⟩ := vals2 r1
  cases ra
  cases rb
  obtain ⟨its, rv, pl, hz⟩ := I1.list hqx
  obtain ⟨its2, rv2, pt, _⟩ := I1.tuple hqy
  obtain ⟨ps, e1, e2, e3, e4, e5⟩ := entries_of hk rv rv2 hlen
  have hla : a < s1.heap.objs.size := pl.lt
  obtain ⟨ot, hot, _⟩ := id pt
  have hlb : b < s1.heap.objs.size := Heap.lt_size hot
  have il : s1.heap.IsList a its.toArray := pl.isList
  have it : s1.heap.IsTuple b its2.toArray := tup_is pt
  refine zip_begins2 (begins_list a its.toArray) (begins_tuple b its2.toArray) il it fun h' z1 z2 z3 z4 z5 hsz k => args_nil ?_
  have I2 : Inv X pins σ H1 { s1 with heap := h' } := I1.kept (t' := s1.toks) k
  have hh : X.A.handled = none := I1.ok.hd hc
  have hN1 : ∀ c ∈ [a], c < s1.heap.objs.size := fun c hc => by rw [List.mem_singleton.mp hc]; exact hla
  have hN2 : ∀ c ∈ [b], c < s1.heap.objs.size := fun c hc => by rw [List.mem_singleton.mp hc]; exact hlb
  have Z := zip_sep2 hN1 hN2
  have Pz := zip_arg (prog := X.prog) (w := X.w) hh Z (fun A hA => Draws.list hA s1.heap.objs.size a (Nat.ne_of_lt hla) its.toArray) (fun A hA => Draws.tuple hA (s1.heap.objs.size + 1) b (Nat.ne_of_lt (Nat.lt_succ_of_lt hlb)) its2.toArray)
  have li : h'.IsListIter s1.heap.objs.size a 0 := ⟨_, z4, rfl, rfl⟩
  have ti : h'.IsTupleIter (s1.heap.objs.size + 1) b 0 := ⟨_, z5, rfl, rfl⟩
  have il' := il.at fun o e => k _ o e
  have it' := it.at fun o e => k _ o e
  have hn : min its.toArray.size its2.toArray.size = its.length := by
    rw [List.size_toArray, List.size_toArray, e3, Nat.min_self]
  refine call_dict_pairsH (s := { s1 with heap := h' }) (knd := tupleKind (mixKind X.prog X.w)) (ps := ps) Pz hh (by show X.A.units + 1 + 1 < cLine; omega) ⟨z1, z2, ⟨_, _, z3⟩, ⟨li, il'⟩, ⟨ti, it'⟩, fun c hc => ?_⟩ ⟨by rw [hn]; exact e2, fun i key v hr => ?_⟩ (fun hx keep x hxm => ?_) (by rw [hn, ← rv.length]; exact hz) fun hx tk hd keep => ?_
  · simp only [List.cons_append, List.nil_append, List.mem_cons, List.not_mem_nil, or_false] at hc
    rcases hc with rfl | rfl | rfl | rfl
    · exact ⟨_, z4⟩
    · obtain ⟨o, ho, _⟩ := il'
      exact ⟨o, ho⟩
    · exact ⟨_, z5⟩
    · obtain ⟨o, ho, _⟩ := it'
      exact ⟨o, ho⟩
  · exact e4 i key v (by simpa using hr.1) (by simpa using hr.2)
  · obtain ⟨⟨o, it3, n, g1, g2⟩, g3⟩ := kt_keys I2.hok e5 x hxm
    have old : ∀ c, s1.heap.objs.size ≤ c → x.2.1 ≠ c := fun c hle e => g3 (by rw [e]; exact I1.hok.fresh hle)
    refine ⟨o, it3, n, keep _ _ (old _ (by show s1.heap.objs.size ≤ h'.objs.size; omega)) (fun hm => ?_) g1, g2⟩
    simp only [List.mem_cons, List.not_mem_nil, or_false] at hm
    rcases hm with e | e | e | e
    · exact old _ (by omega) e
    · exact old _ (by omega) e
    · exact old _ (Nat.le_refl _) e
    · exact old _ (by omega) e
  · have keep1 : ∀ c o, s1.heap.get? c = some o → hx.get? c = some o := fun c o e => by
      have hlt := Heap.lt_size e
      refine keep c o (fun hm => ?_) (k _ _ e)
      simp only [List.mem_cons, List.not_mem_nil, or_false] at hm
      rcases hm with q | q | q | q <;> (rw [q] at hlt; first | exact Nat.lt_irrefl _ (Nat.lt_of_le_of_lt (Nat.le_add_right _ _) hlt) | exact Nat.lt_irrefl _ hlt)
    have hle : s1.heap.objs.size ≤ h'.objs.size := by omega
    have hfree : H1 h'.objs.size = none := I1.hok.fresh hle
    rw [storedAll_new ps [] (by rw [List.nil_append, e1]; exact hnd), List.nil_append] at hd
    obtain ⟨o, es, ep, g1, g2, g3, g4, g5, g6⟩ := hd
    have hkt : KT (upd H1 h'.objs.size (.dT (ks.zip ys))) (ks.zip ys) ps := by
      refine paired_imp (fun p q hpq => ⟨hpq.1, ?_, hpq.2.2⟩) e5
      rw [upd_ne (fun z => by rw [z, hfree] at hpq; cases hpq.2.1)]
      exact hpq.2.1
    have hzl : (ks.zip ys).length ≤ sizeLine := by
      have h2 := paired_len e5
      rw [h2, e2, ← rv.length]
      exact hz
    refine ⟨.ref h'.objs.size, upd H1 h'.objs.size (.dT (ks.zip ys)), I1.laid (t' := tk) keep1 hle (show ObjOk X.prog X.w _ _ _ (.dT (ks.zip ys)) from ⟨hzl, beq_eq_false_iff_ne.mpr (Nat.ne_of_gt I2.big), ps, hkt, o, es, ep, g1, g2, g3, g4, g6⟩), rfl, q _ hfree⟩
section
variable {X : Cx} {e1 e2 : Expr} {st : Sta} {ow ow1 : List OB} {p p2 pos pos2 : Pos} {dd : D} {ds : List D}
abbrev tupI (ns : List Int) : D := .tup (ns.map D.int)
abbrev keyI (ns : List Int) : List Key := ns.map Sum.inl
theorem dens_keys {K : PySem.W.Frag} {S : List Addr} {H : Hp} : ∀ {nss : List (List Int)} {xs : List V}, Dens K S H xs (nss.map tupI) → Paired (IsKT H) xs (nss.map keyI)
  | [], [], _ => .nil
  | [], _ :: _, h => nomatch h
  | _ :: _, [], h => nomatch h
  | ns :: nss, x :: xs, h => by
    obtain ⟨h1, h2⟩ := Dens.uncons h
    cases h1 with
    | tup q r =>
      have e := Dens.ints r
      subst e
      refine .cons ⟨_, rfl, ?_⟩ (dens_keys h2)
      rw [q.2, List.map_map] <;> rfl
theorem kds_zip {K : PySem.W.Frag} {S : List Addr} {H : Hp} : ∀ {ks : List (List Key)} {ys : List V} {ds : List D}, Dens K S H ys ds → KDs K S H (ks.zip ys) (ks.zip ds)
  | [], _, _, _ => by rw [List.zip_nil_left, List.zip_nil_left]; exact .knil
  | _ :: _, [], [], _ => .knil
  | _ :: _, [], _ :: _, h => nomatch h
  | _ :: _, _ :: _, [], h => nomatch h
  | k :: ks, y :: ys, d :: ds, h => by
    obtain ⟨h1, h2⟩ := Dens.uncons h
    exact .kcons h1 (kds_zip h2)
theorem keyI_inj {a b : List Int} (h : keyI a = keyI b) : a = b := by
  induction a generalizing b with
  | nil => cases b with
    | nil => rfl
    | cons _ _ => cases h
  | cons x a ih => cases b with
    | nil => cases h
    | cons y b =>
      injection h with h1 h2
      injection h1 with h1
      rw [h1, ih h2]
theorem nodup_keys {nss : List (List Int)} (h : nss.Nodup) : (nss.map keyI).Nodup := by
  unfold List.Nodup at *
  rw [List.pairwise_map]
  exact h.imp fun hab e => hab (keyI_inj e)
/-- dict(zip(keys, t)) -/
theorem pd_dictZip (nss : List (List Int)) (hc : X.calm = true) (hu : X.A.units + 64 < cLine) (hm : X.mg "dict" = none) (hmz : X.mg "zip" = none) (ha : PADd X st ow [e1, e2] [.lst (nss.map tupI), dd] ow1) (ht : tupL dd = some ds) (hl : nss.length = ds.length) (hn : nss.Nodup) (hg : Gl X "dict" := by rfl) (hgz : Gl X "zip" := by rfl)
    (hs : starEach [e1, e2] X.env = (false, eval e1 X.env) :: starEach [e2] X.env := by rfl) (hpl : (backTo pos2 (starEach [e2] X.env)).any (·.1) = false := by rfl)
    (na : starEach [.Call (.Name "zip" p2) [e1, e2] [] pos2] X.env = (false, eval (.Call (.Name "zip" p2) [e1, e2] [] pos2) X.env) :: starEach [] X.env := by rfl) :
    PD X st ow (.Call (.Name "dict" p) [.Call (.Name "zip" p2) [e1, e2] [] pos2] [] pos) (.d (.dT ((nss.map keyI).zip ds))) ow1 :=
  (pe_dictZip hc hu hm hmz ha hg hgz hs hpl na).imp fun σ H Q ⟨S, sl, o, k⟩ => ⟨S, sl, o, fun S1 vs H1 f1 o1 d1 => by
    obtain ⟨v, w, rfl, g1, g2⟩ := dens2 (densOf d1)
    obtain ⟨a, xs, rfl, h1, h2⟩ := g1.of_lst
    obtain ⟨b, ys, rfl, h3, h4⟩ := Den.of_tup g2 ht
    refine ⟨a, b, xs, ys, nss.map keyI, rfl, h1.sq, h3, ?_, dens_keys h2, nodup_keys hn, fun q hq => ?_⟩
    · have e5 := Dens.length h2
      have e6 := Dens.length h4
      rw [List.length_map] at e5
      omega
    · have ex : Evl.Ex H1 (upd H1 q (.dT ((nss.map keyI).zip ys))) := Evl.Ex.new hq
      refine k S1 _ _ (f1.trans o1 (.of ex)) (o1.ex ex) (.d (.dT (o1.nin hq) upd_same ?_))
      exact DenG.mono (ExS.of ex) (kds_zip h4)⟩
end
end Bl
set_option Elab.async false
set_option linter.all false
set_option maxRecDepth 100000
set_option maxHeartbeats 4000000
namespace Bl
open PySem PySem.Spec PyProof.Rows L2
/-! ### an object while its __init__ runs -/
/-- data with no object in it -/
inductive NoI : D → Prop where
  | non : NoI .non
  | bl (b : Bool) : NoI (.bl b)
  | int (i : Int) : NoI (.int i)
  | str (x : Str) : NoI (.str x)
  | ty (n : String) : NoI (.ty n)
  | tup {l : List D} (h : ∀ d ∈ l, NoI d) : NoI (.tup l)
  | tupN {l : List D} (h : ∀ d ∈ l, NoI d) : NoI (.tupN l)
  | par {l : List D} (h : ∀ d ∈ l, NoI d) : NoI (.par l)
  | lst {l : List D} (h : ∀ d ∈ l, NoI d) : NoI (.lst l)
  | lstV {l : List D} (h : ∀ d ∈ l, NoI d) : NoI (.lstV l)
  | dT {l : List (List Key × D)} (h : ∀ p ∈ l, NoI p.2) : NoI (.dT l)
def NoIs (ds : List D) : Prop := ∀ d ∈ ds, NoI d
theorem noIs_ints (ns : List Int) : NoIs (ns.map D.int) := fun d h => by
  obtain ⟨n, _, rfl⟩ := List.mem_map.mp h
  exact .int n
def NoIob : OB → Prop
  | .l ds => NoIs ds
  | .t gs => ∀ p ∈ gs, NoI p.2
  | .g _ => True
  | .r _ => True
def NoIow (ow : List OB) : Prop := ∀ l ∈ ow, NoIob l
def NoIG : G → Prop
  | .v _ d => NoI d
  | .vs _ ds => ∀ d ∈ ds, NoI d
  | .fl _ gs => ∀ p ∈ gs, NoI p.2
  | .kd _ gs => ∀ p ∈ gs, NoI p.2
def erase (x : Addr) (H : Hp) : Hp := fun a => if a = x then none else H a
theorem erase_ne {x a : Addr} {H : Hp} (h : a ≠ x) : erase x H a = H a := if_neg h
theorem erase_self {x : Addr} {H : Hp} : erase x H x = none := if_pos rfl
theorem erase_sub {x a : Addr} {H : Hp} {o : HO} (h : erase x H a = some o) : H a = some o ∧ a ≠ x := by
  by_cases e : a = x
  · rw [e, erase_self] at h; cases h
  · rw [erase_ne e] at h; exact ⟨h, e⟩
theorem erase_exS {x : Addr} {S : List Addr} {H : Hp} : ExS S (erase x H) H := fun a o _ h => (erase_sub h).1
section
variable {K : PySem.W.Frag} {S S' : List Addr} {H H' : Hp} {x C dx : Addr} {fs : List (Str × V)}
theorem ne_ins {a : Addr} {o : HO} (hx : H x = some (.ins C dx fs)) (h : H a = some o) (no : ∀ C dx fs, o ≠ .ins C dx fs) : erase x H a = some o := by
  rw [erase_ne (fun e => by rw [e, hx] at h; exact no _ _ _ (Option.some.inj h).symm)]
  exact h
theorem rd_erase {a : Addr} {u : HO} (hx : H x = some (.ins C dx fs)) (h : Rd H a u) (no : ∀ C dx fs, u ≠ .ins C dx fs) : Rd (erase x H) a u := by
  rcases h with h | ⟨o, h⟩
  · exact .inl (ne_ins hx h no)
  · exact .inr ⟨o, ne_ins hx h fun _ _ _ z => nomatch z⟩
theorem DenG.erased (hx : H x = some (.ins C dx fs)) {g : G} (h : DenG K S H g) : NoIG g → DenG K S (erase x H) g := by
  induction h with
  | non => exact fun _ => .non
  | bl b => exact fun _ => .bl b
  | int i => exact fun _ => .int i
  | str y => exact fun _ => .str y
  | ty n => exact fun _ => .ty n
  | tup q _ ih => exact fun n => by cases n with | tup n => exact .tup ⟨q.1, ne_ins hx q.2 fun _ _ _ z => nomatch z⟩ (ih n)
  | tupN q _ ih =>
    intro n
    cases n with
    | tupN n =>
      refine .tupN ?_ (ih n)
      rcases q with ⟨n1, o, d, q⟩ | q
      · exact .inl ⟨n1, o, d, ne_ins hx q fun _ _ _ z => nomatch z⟩
      · exact .inr q
  | par n1 q _ ih => exact fun n => by cases n with | par n => exact .par n1 (rd_erase hx q fun _ _ _ z => nomatch z) (ih n)
  | lst q _ ih =>
    intro n
    cases n with
    | lst n =>
      refine .lst ?_ (ih n)
      rcases q with ⟨n1, q⟩ | q
      · exact .inl ⟨n1, rd_erase hx q fun _ _ _ z => nomatch z⟩
      · exact .inr q
  | ins _ _ _ _ => exact fun n => by cases n
  | lstV n1 q _ ih => exact fun n => by cases n with | lstV n => exact .lstV n1 (ne_ins hx q fun _ _ _ z => nomatch z) (ih n)
  | dT n1 q _ ih => exact fun n => by cases n with | dT n => exact .dT n1 (ne_ins hx q fun _ _ _ z => nomatch z) (ih n)
  | nil => exact fun _ => .nil
  | cons _ _ ih1 ih2 => exact fun n => .cons (ih1 (n _ List.mem_cons_self)) (ih2 fun d hd => n d (List.mem_cons_of_mem _ hd))
  | fnil => exact fun _ => .fnil
  | fcons _ _ ih1 ih2 => exact fun n => .fcons (ih1 (n _ List.mem_cons_self)) (ih2 fun d hd => n d (List.mem_cons_of_mem _ hd))
  | knil => exact fun _ => .knil
  | kcons _ _ ih1 ih2 => exact fun n => .kcons (ih1 (n _ List.mem_cons_self)) (ih2 fun d hd => n d (List.mem_cons_of_mem _ hd))
theorem Owns.erased {ow : List OB} (hx : H x = some (.ins C dx fs)) (o : Owns K S H ow) (n : NoIow ow) : Owns K S (erase x H) ow :=
  ⟨o.len, o.nd, fun k l e => by
    obtain ⟨a, z, y⟩ := o.ob k l e
    have hn := n l (List.mem_of_getElem? e)
    refine ⟨a, z, ?_⟩
    cases y with
    | l y w => exact .l (ne_ins hx y (fun _ _ _ z => nomatch z)) (DenG.erased hx w hn)
    | t y w => exact .t (ne_ins hx y (fun _ _ _ z => nomatch z)) (DenG.erased hx w hn)
    | g y w => exact .g (ne_ins hx y (fun _ _ _ z => nomatch z)) w
    | r y w => exact .r (ne_ins hx y (fun _ _ _ z => nomatch z)) w⟩
theorem Owns.exS {ow : List OB} (o : Owns K S H ow) (e : ∀ a u, H a = some u → H' a = some u) : Owns K S H' ow := o.ex e
theorem Fwd.erased (hn : x ∉ S) (hx : H x = some (.ins C dx fs)) (f : Fwd S H S' H') : Fwd S (erase x H) S' (erase x H') ∧ x ∉ S' := by
  refine ⟨⟨?_, fun a o n h => ?_⟩, fun z => ?_⟩
  · obtain ⟨ps, e, q⟩ := f.gr
    refine ⟨ps, e, fun p hp => ?_⟩
    unfold erase
    split
    · rfl
    · exact q p hp
  · obtain ⟨h1, h2⟩ := erase_sub h
    rw [erase_ne h2]
    exact f.ex a o n h1
  · rcases f.mem z with y | y
    · exact hn y
    · rw [hx] at y; cases y
end
def putD (f : Str) (v : D) : List (Str × D) → List (Str × D)
  | [] => [(f, v)]
  | (g, x) :: r => if g = f then (g, v) :: r else (g, x) :: putD f v r
theorem flds_put {K : PySem.W.Frag} {S : List Addr} {H : Hp} {f : Str} {v : V} {d : D} (hd : Den K S H v d) : ∀ {fs : List (Str × V)} {gs : List (Str × D)}, Flds K S H fs gs → Flds K S H (putF f v fs) (putD f d gs)
  | [], [], _ => .fcons hd .fnil
  | [], _ :: _, h => nomatch h
  | _ :: _, [], h => nomatch h
  | (g, w) :: fs, (g2, d2) :: gs, h => by
    cases h with
    | fcons h1 r =>
      unfold putF putD
      by_cases e : g = f
      · rw [if_pos e, if_pos e]
        exact .fcons hd r
      · rw [if_neg e, if_neg e]
        exact .fcons h1 (flds_put hd r)
theorem flds_len {K : PySem.W.Frag} {S : List Addr} {H : Hp} : ∀ {fs : List (Str × V)} {gs : List (Str × D)}, Flds K S H fs gs → fs.length = gs.length
  | [], [], _ => rfl
  | [], _ :: _, h => nomatch h
  | _ :: _, [], h => nomatch h
  | _ :: fs, _ :: gs, h => by
    cases h with
    | fcons _ r => exact congrArg (· + 1) (flds_len r)
/-- the state of an __init__: the object at x has the fields gs so far, nothing else leans on x -/
structure InI (K : PySem.W.Frag) (C x : Addr) (S : List Addr) (H : Hp) (σ : L2.St) (st : Sta) (ow : List OB) (gs : List (Str × D)) : Prop where
  nin : x ∉ S
  at_ : ∃ dx fs, H x = some (.ins C dx fs) ∧ Flds K S (erase x H) fs gs
  me : σ[0]? = some (some (.ref x))
  sl : Slots K S (erase x H) σ st
  ow : Owns K S (erase x H) ow
def tIS (K : PySem.W.Frag) (C : Addr) (st : Sta) (ow : List OB) (gs : List (Str × D)) (st' : Sta) (ow' : List OB) (gs' : List (Str × D)) : TS := fun E σ H => ∃ S x, InI K C x S H σ st ow gs ∧ ∀ S' σ' H', Fwd S (erase x H) S' (erase x H') → InI K C x S' H' σ' st' ow' gs' → E.nx σ' H'
/-- the slots, self's object read as data -/
def selfS (C : Addr) (st : Sta) (gs : List (Str × D)) : Sta := st.set 0 (some (.d (.ins C gs)))
section
variable {K : PySem.W.Frag} {S S' : List Addr} {H H' : Hp} {x C : Addr} {σ : L2.St} {st : Sta} {ow ow' : List OB} {gs : List (Str × D)}
theorem InI.slots (I : InI K C x S H σ st ow gs) : Slots K S H σ (selfS C st gs) := by
  obtain ⟨dx, fs, h1, h2⟩ := I.at_
  refine ⟨by rw [I.sl.len]; unfold selfS; rw [List.length_set], fun i r e => ?_⟩
  unfold selfS at e
  rw [List.getElem?_set] at e
  split at e
  · rename_i h0
    subst h0
    split at e
    · cases e
      exact ⟨_, I.me, .d (.ins I.nin h1 (DenG.mono erase_exS h2))⟩
    · cases e
  · obtain ⟨v, e1, e2⟩ := I.sl.sl i r e
    exact ⟨v, e1, e2.mono erase_exS⟩
theorem InI.owns (I : InI K C x S H σ st ow gs) : Owns K S H ow := I.ow.exS fun _ _ h => (erase_sub h).1
/-- behind an expression -/
theorem InI.behind (I : InI K C x S H σ st ow gs) (f : Fwd S H S' H') (o : Owns K S' H' ow') (n : NoIow ow') : Fwd S (erase x H) S' (erase x H') ∧ InI K C x S' H' σ st ow' gs := by
  obtain ⟨dx, fs, h1, h2⟩ := I.at_
  obtain ⟨f1, n1⟩ := Fwd.erased I.nin h1 f
  have h3 := f.ex x _ I.nin h1
  exact ⟨f1, n1, ⟨dx, fs, h3, f1.den h2⟩, I.me, f1.slots I.sl, o.erased h3 n⟩
end
section
variable {X : Cx} {C : Addr} {st st1 st' : Sta} {ow ow1 ow' : List OB} {gs gs1 gs' : List (Str × D)} {e o : Expr} {s : Stmt} {ss : List Stmt} {r : R} {d : D} {f : Str} {pos pos' p1 : Pos} {sn : Str}
abbrev PSI (X : Cx) (C : Addr) (st : Sta) (ow : List OB) (gs : List (Str × D)) (s : Stmt) (st' : Sta) (ow' : List OB) (gs' : List (Str × D)) : Prop := PS X s (tIS X.K C st ow gs st' ow' gs')
abbrev PBI (X : Cx) (C : Addr) (st : Sta) (ow : List OB) (gs : List (Str × D)) (s : List Stmt) (st' : Sta) (ow' : List OB) (gs' : List (Str × D)) : Prop := PSs X s (tIS X.K C st ow gs st' ow' gs')
theorem pbi_nil : PBI X C st ow gs [] st ow gs := (pss_nil).imp fun E σ H ⟨S, x, I, k⟩ => k S σ H (.refl S _) I
theorem pbi_cons (h1 : PSI X C st ow gs s st1 ow1 gs1) (h2 : PBI X C st1 ow1 gs1 ss st' ow' gs') : PBI X C st ow gs (s :: ss) st' ow' gs' :=
  (pss_cons h1 h2).imp fun E σ H ⟨S, x, I, k⟩ => ⟨S, x, I, fun S1 σ1 H1 f1 I1 => ⟨S1, x, I1, fun S2 σ2 H2 f2 I2 => k S2 σ2 H2 (f1.trans I1.ow f2) I2⟩⟩
theorem psi_expr (he : PD X (selfS C st gs) ow e r ow') (n : NoIow ow') (hs : swapsWith e none pos.line X.env = pure false := by rfl) : PSI X C st ow gs (.Expr e pos) st ow' gs :=
  (ps_expr he hs).imp fun E σ H ⟨S, x, I, k⟩ => ⟨S, I.slots, I.owns, fun S1 v H1 f1 o1 d1 => by
    obtain ⟨g1, g2⟩ := I.behind f1 o1 n
    exact k S1 σ H1 g1 g2⟩
/-- self.f = e, e's value with no object in it -/
theorem psi_fld (he : PD X (selfS C st gs) ow e (.d d) ow') (n : NoIow ow') (nd : NoI d) (c : Cls X.K C) (na : NoAttr X.K C f) (hl : gs.length < 1000) (hN : X.N[0]? = some sn := by rfl) (hv : Vis X.env.scope sn := by first | exact Or.inl rfl | exact Or.inr (Or.inl rfl) | exact Or.inr (Or.inr rfl)) (hd : (sn == ("__debug__" : Str)) = false := by decide)
    (hcd : (sn == ("__classdict__" : Str)) = false := by decide) (hs : swapsWith e (some (.Attribute (.Name sn p1) f pos')) pos.line X.env = pure false := by rfl) : PSI X C st ow gs (.Assign [.Attribute (.Name sn p1) f pos'] e pos) st ow' (putD f d gs) :=
  (ps_fld (pv 0 hN hv hd hcd) he hs).imp fun E σ H ⟨S, x, I, k⟩ => ⟨S, I.slots, I.owns, fun S1 v H1 f1 o1 d1 => by
    obtain ⟨g1, g2⟩ := I.behind f1 o1 n
    obtain ⟨dx, fs, h1, h2⟩ := g2.at_
    refine ⟨.ref x, g2.me, x, C, dx, fs, rfl, h1, c, na, by rw [flds_len h2]; exact hl, ?_⟩
    have ee : erase x (upd H1 x (.ins C dx (putF f v fs))) = erase x H1 := by
      funext a
      unfold erase
      split
      · rfl
      · rename_i q; exact upd_ne q
    cases d1 with
    | d d1 =>
      have d2 : Den X.K S1 (erase x H1) v d := DenG.erased h1 d1 nd
      refine k S1 σ _ (by rw [ee]; exact g1) ⟨g2.nin, ⟨dx, _, upd_same, by rw [ee]; exact flds_put d2 h2⟩, g2.me, by rw [ee]; exact g2.sl, by rw [ee]; exact g2.ow⟩⟩
end
/-! ### the contract of an __init__, and C(..) -/
abbrev GI := List R → List OB → List (Str × D) → List OB → Prop
def spI (K : PySem.W.Frag) (C : Addr) (g : GI) : Sp := fun vs H Q _ => ∃ S x dx us rs ow gs ow', vs = .ref x :: us ∧ x ∉ S ∧ H x = some (.ins C dx []) ∧ DenRs K S (erase x H) us rs ∧ Owns K S (erase x H) ow ∧ g rs ow gs ow' ∧
  ∀ S' H' dx' fs', Fwd S (erase x H) S' (erase x H') → Owns K S' (erase x H') ow' → x ∉ S' → H' x = some (.ins C dx' fs') → Flds K S' (erase x H') fs' gs → Q .non H'
theorem okI {P : Program} {w : World} {K : PySem.W.Frag} {mg : Str → Option Value} {base : Heap} {xn qual : Str} {sst : Stmt} {f C : Addr} {fd : FuncData} {N ps : List Str} {k : Nat} {g : GI} (F : Fun K xn qual sst f fd) (SC : FnScope N ps (defScope sst)) (len : ∀ rs ow gs ow', g rs ow gs ow' → rs.length + 1 = ps.length)
    (hbody : ∀ (cdv : Value) (A : Around) (outer : List Env) (s : Shared) (H : Hp) (E : XK), Room k (A.deeper (envOfC qual (defScope sst) s.heap.objs.size f cdv)) → ∀ rs ow gs ow', g rs ow gs ow' →
      ∃ st', PBI (cxOf CX0 P w K mg base N qual (defScope sst) f cdv A outer s H E).nox C (none :: (startD N rs).dropLast) ow [] (defBody sst) st' ow' gs) (hN : ∀ rs ow gs ow', g rs ow gs ow' → rs.length < N.length) : FnOk P w K mg base CX0 (k + 1) f fd ps (spI K C g) := by
  refine F.ok SC (fun vs H Q E h => ?_) (fun cdv A outer s H vs Q E hr h => ?_)
  · obtain ⟨S, x, dx, us, rs, ow, gs, ow', rfl, _, _, h1, _, h3, _⟩ := h
    rw [List.length_cons, h1.length, len _ _ _ _ h3]
  · obtain ⟨S, x, dx, us, rs, ow, gs, ow', rfl, n, hx, h1, h2, h3, q⟩ := h
    obtain ⟨st', hb⟩ := hbody cdv A outer s H E hr rs ow gs ow' h3
    have hlt := hN _ _ _ _ h3
    have hul := h1.length
    refine ⟨_, hb, S, x, ⟨n, ⟨dx, [], hx, .fnil⟩, rfl, ?_, h2⟩, fun S' σ' H' f' I' => ?_⟩
    · have sl := start_slots (N := N) h1
      refine ⟨?_, fun i r e => ?_⟩
      · unfold L2.start startD
        simp only [List.length_append, List.length_map, List.length_replicate, List.length_cons, List.length_dropLast]
        omega
      · cases i with
        | zero => cases e
        | succ i =>
          have e1 : (startD N rs).dropLast[i]? = some (some r) := e
          have e2 : (startD N rs)[i]? = some (some r) := by
            rw [List.getElem?_dropLast] at e1
            split at e1
            · exact e1
            · cases e1
          obtain ⟨v, g1, g2⟩ := sl.sl i r e2
          refine ⟨v, ?_, g2⟩
          have hi : i < us.length := by
            by_cases hi : i < us.length
            · exact hi
            · exfalso
              unfold startD at e2
              rw [List.getElem?_append_right (by rw [List.length_map]; omega), List.getElem?_replicate] at e2
              split at e2 <;> cases e2
          unfold L2.start at g1 ⊢
          rw [List.getElem?_append_left (by rw [List.length_map]; exact hi)] at g1
          rw [List.getElem?_append_left (by rw [List.length_map, List.length_cons]; omega)]
          exact g1
    · obtain ⟨dx', fs', g1, g2⟩ := I'.at_
      exact q S' H' dx' fs' f' I'.ow I'.nin g1 g2
theorem pd_make {X : Cx} {C f : Addr} {fd : FuncData} {ps : List Str} {k : Nat} {g : GI} {xn : Str} {p pos : Pos} {e : Expr} {es : List Expr} {st : Sta} {ow ow1 ow2 : List OB} {rs : List R} {gs : List (Str × D)} (M : Mk X.K C f) (F : FnOk X.prog X.w X.K X.mg X.base CX0 k f fd ps (spI X.K C g)) (hr : Room (k + 1) X.A) (hm : X.mg xn = some (.ref C)) (hb : Binds X.K fd ps [])
    (ha : PAD X st ow (e :: es) rs ow1) (hgg : g rs ow1 gs ow2) (hg : Gl X xn := by rfl) (hdb : (xn == ("__debug__" : Str)) = false := by decide) (he : starEach (e :: es) X.env = (false, eval e X.env) :: starEach es X.env := by rfl) (hpl : (backTo pos (starEach es X.env)).any (·.1) = false := by rfl) :
    PD X st ow (.Call (.Name xn p) (e :: es) [] pos) (.d (.ins C gs)) ow2 :=
  (pe_make M F hr hg hm hb .nil pass0 ha hdb he hpl).imp fun σ H Q ⟨S, sl, o, q⟩ => ⟨S, sl, o, fun S1 vs H1 f1 o1 d1 x dx hx hdx hne => by
    have hb0 : ∀ a u, H1 a = some u → erase x (upd (upd H1 dx (.own x)) x (.ins C dx [])) a = some u := fun a u h => by
      have n1 : a ≠ x := fun z => by rw [z, hx] at h; cases h
      have n2 : a ≠ dx := fun z => by rw [z, hdx] at h; cases h
      rw [erase_ne n1, upd_ne n1, upd_ne n2]
      exact h
    have fb : Fwd S1 H1 S1 (erase x (upd (upd H1 dx (.own x)) x (.ins C dx []))) := ⟨⟨[], (List.append_nil S1).symm, fun _ z => nomatch z⟩, fun a u _ h => hb0 a u h⟩
    rw [appnil]
    refine ⟨S1, x, dx, vs, rs, ow1, gs, ow2, rfl, o1.nin hx, upd_same, fb.denRs d1, o1.exS hb0, hgg, fun S2 H2 dx' fs' f2 o2 n2 h2 h3 => ⟨rfl, ?_⟩⟩
    have f3 : Fwd S1 H1 S2 (erase x H2) := fb.trans (o1.exS hb0) f2
    have f4 : Fwd S1 H1 S2 H2 := ⟨f3.gr, fun a u n h => (erase_sub (f3.ex a u n h)).1⟩
    exact q S2 _ H2 (f1.trans o1 f4) (o2.exS fun _ _ h => (erase_sub h).1) (.d (.ins n2 h2 (DenG.mono erase_exS h3)))⟩
end Bl
set_option Elab.async false
set_option linter.all false
set_option maxRecDepth 100000
set_option maxHeartbeats 4000000
namespace Bl
open PySem PySem.Spec PyProof.Rows L2
/-! ### the pairs, threes, fours of a list -/
def combo {α : Type} (bs : List α → List (List α)) (as : List α) : List (List α) := as.zipIdx.flatMap fun p => (bs (as.drop (p.2 + 1))).map (p.1 :: ·)
def sub1 {α : Type} (as : List α) : List (List α) := as.map fun d => [d]
def sub2 {α : Type} (as : List α) : List (List α) := combo sub1 as
def sub3 {α : Type} (as : List α) : List (List α) := combo sub2 as
def sub4 {α : Type} (as : List α) : List (List α) := combo sub3 as
section
variable {α β : Type} (f : α → β)
theorem combo_map {bs : List α → List (List α)} {bt : List β → List (List β)} (h : ∀ l, bt (l.map f) = (bs l).map (List.map f)) (as : List α) : combo bt (as.map f) = (combo bs as).map (List.map f) := by
  unfold combo
  rw [List.zipIdx_map, List.map_flatMap, List.flatMap_map]
  congr 1
  funext p
  show List.map (f p.1 :: ·) (bt (List.drop (p.2 + 1) (as.map f))) = _
  rw [← List.map_drop, h, List.map_map, List.map_map]
  rfl
theorem sub1_map (as : List α) : sub1 (as.map f) = (sub1 as).map (List.map f) := by
  unfold sub1
  rw [List.map_map, List.map_map]
  rfl
theorem sub2_map (as : List α) : sub2 (as.map f) = (sub2 as).map (List.map f) := combo_map f (sub1_map f) as
theorem sub3_map (as : List α) : sub3 (as.map f) = (sub3 as).map (List.map f) := combo_map f (sub2_map f) as
theorem sub4_map (as : List α) : sub4 (as.map f) = (sub4 as).map (List.map f) := combo_map f (sub3_map f) as
end
theorem cut_drop (as : List D) (i : Nat) : cutD as (some ((i : Int) + 1)) none = as.drop (i + 1) := by
  unfold cutD
  rw [show ((i : Int) + 1) = ((i + 1 : Nat) : Int) by omega, HT.sIx_nat, HT.sIx_none, List.take_of_length_le (by rw [List.length_drop]; exact Nat.le_refl _)]
  by_cases h : i + 1 ≤ as.length
  · rw [Nat.min_eq_left h]
  · rw [Nat.min_eq_right (by omega), List.drop_of_length_le (Nat.le_refl _), List.drop_of_length_le (by omega)]
theorem flatMap_len {α β : Type} (f : α → List β) (M : Nat) : ∀ l : List α, (∀ x ∈ l, (f x).length ≤ M) → (l.flatMap f).length ≤ l.length * M
  | [], _ => by simp
  | x :: l, h => by
    have h1 := flatMap_len f M l fun y hy => h y (List.mem_cons_of_mem x hy)
    have h2 := h x List.mem_cons_self
    rw [List.flatMap_cons, List.length_append, List.length_cons, Nat.succ_mul]
    omega
theorem all2_len {α β : Type} (bs : α → List β) (qq : α → β → Bool) (ff : α → β → D) (M : Nat) (l : List α) (h : ∀ x ∈ l, (bs x).length ≤ M) : (all2 bs qq ff l).length ≤ l.length * M :=
  flatMap_len _ M l fun x hx => by
    rw [List.length_map]
    exact Nat.le_trans (List.length_filter_le _ _) (h x hx)
theorem combo_len (bs : List D → List (List D)) (M : Nat) (as : List D) (h : ∀ n, (bs (as.drop n)).length ≤ M) : (combo bs as).length ≤ as.length * M := by
  have := flatMap_len (fun p : D × Nat => (bs (as.drop (p.2 + 1))).map (p.1 :: ·)) M as.zipIdx fun x _ => by rw [List.length_map]; exact h _
  rwa [List.length_zipIdx] at this
theorem sub1_len (as : List D) (n : Nat) (h : as.length ≤ n) : (sub1 as).length ≤ n := by unfold sub1; rw [List.length_map]; exact h
theorem sub2_len (as : List D) (n : Nat) (h : as.length ≤ n) : (sub2 as).length ≤ n * n :=
  Nat.le_trans (combo_len sub1 n as fun m => sub1_len _ n (Nat.le_trans (by rw [List.length_drop]; omega) h)) (Nat.mul_le_mul_right n h)
theorem sub3_len (as : List D) (n : Nat) (h : as.length ≤ n) : (sub3 as).length ≤ n * (n * n) :=
  Nat.le_trans (combo_len sub2 (n * n) as fun m => sub2_len _ n (Nat.le_trans (by rw [List.length_drop]; omega) h)) (Nat.mul_le_mul_right _ h)
theorem all2_combo (bs : List D → List (List D)) (as : List D) : all2 (fun p : D × Nat => bs (as.drop (p.2 + 1))) (fun _ _ => true) (fun p l => D.tup (p.1 :: l)) as.zipIdx = (combo bs as).map D.tup := by
  unfold all2 combo
  rw [List.map_flatMap]
  congr 1
  funext p
  rw [List.map_map]
  simp [List.filter_eq_self.mpr, Function.comp_def]
section
variable {P : Program} {w : World} {K : PySem.W.Frag} {mg : Str → Option Value} {base : Heap} {f : Addr} {fd : FuncData} {k : Nat}
abbrev sPairs : Stmt := topS 18
abbrev sThrees : Stmt := topS 19
abbrev sFours : Stmt := topS 20
theorem scPairs : FnScope ["names", "at", "first", "second"] ["names"] (defScope sPairs) := ⟨rfl, rfl, rfl, by decide +kernel, rfl, by decide +kernel, by decide +kernel⟩
theorem scThrees : FnScope ["names", "at", "first", "pair"] ["names"] (defScope sThrees) := ⟨rfl, rfl, rfl, by decide +kernel, rfl, by decide +kernel, by decide +kernel⟩
theorem scFours : FnScope ["names", "at", "first", "three"] ["names"] (defScope sFours) := ⟨rfl, rfl, rfl, by decide +kernel, rfl, by decide +kernel, by decide +kernel⟩
def gSub (sb : List D → List (List D)) : GG := fun rs ow r ow' => ∃ (t : Bool) (as : List D), rs = [.d (sqD t as)] ∧ as.length ≤ 13 ∧ r = .d (.lst ((sb as).map D.tup)) ∧ ow' = ow
abbrev cSt (t : Bool) (as : List D) (p : D × Nat) (y : Option R) : Sta := [some (.d (sqD t as)), some (.d (.int (p.2 : Nat))), some (.d p.1), y]
theorem sub_bound (sb : List D → List (List D)) (M : Nat) (hM : 13 * M ≤ 40000) (hs : ∀ as : List D, as.length ≤ 13 → (sb as).length ≤ M) (as : List D) (ha : as.length ≤ 13) (ff : D × Nat → List D → D) :
    (∀ l : List (D × Nat), l <+: as.zipIdx → (all2 (fun p : D × Nat => sb (as.drop (p.2 + 1))) (fun _ _ => true) ff l).length + 40000 ≤ 80000) ∧ ∀ x, x ∈ as.zipIdx → (sb (as.drop (x.2 + 1))).length ≤ 40000 := by
  have hd : ∀ n, (sb (as.drop n)).length ≤ M := fun n => hs _ (by rw [List.length_drop]; omega)
  refine ⟨fun l hl => ?_, fun x _ => Nat.le_trans (hd _) (by omega)⟩
  have h1 := all2_len (fun p : D × Nat => sb (as.drop (p.2 + 1))) (fun _ _ => true) ff M l fun x _ => hd _
  have h2 : l.length ≤ 13 := Nat.le_trans hl.length_le (by rw [List.length_zipIdx]; exact ha)
  have h3 : l.length * M ≤ 13 * M := Nat.mul_le_mul_right M h2
  omega
theorem ok_pairs (F : Fun K "pairs_in" "pairs_in" sPairs f fd) (mE : mg "enumerate" = none) : FnOk P w K mg base CX0 (k + 1) f fd ["names"] (spF K (gSub sub2)) := by
  refine okF F scPairs (fun rs ow r ow' h => ?_) (fun cdv A outer s H E hr rs ow r ow' h => ?_)
  · obtain ⟨t, as, rfl, _⟩ := h
    rfl
  · obtain ⟨t, as, rfl, hl, rfl, rfl⟩ := h
    obtain ⟨b1, b2⟩ := sub_bound sub1 13 (by decide) (fun as h => sub1_len as 13 h) as hl (fun p l => D.tup (p.1 :: l))
    have e := all2_combo sub1 as
    refine pbd_last (psd_ret (pd_eqD (pd_lc2 (own := [("at", 1), ("first", 2), ("second", 3)]) [3] as.zipIdx (fun p => D.par [.int (p.2 : Nat), p.1]) (fun p => cSt t as p none)
      (fun p : D × Nat => sub1 (as.drop (p.2 + 1))) (fun _ y => y.headD .non) (fun p y => cSt t as p (some (.d (y.headD .non)))) (fun _ _ => true) (fun p y => D.tup (p.1 :: y))
      rfl scPairs.nd (pid_enumS mE (padd_cons (pd_var 0) padd_nil)) (blkOk_by (N := ["names", "at", "first", "second"]) (sc := defScope sPairs) (by decide +kernel)) (by decide) b1 b2
      (fun p hp s H C cl fp => pgd_tup rfl (pgsd_cons (pgd_name 1 scPairs.nd) (pgsd_cons (pgd_name 2 scPairs.nd) pgsd_nil)))
      (fun p hp l s H C cl fp => pid_eq (pid_sq (pd_slS (pd_var 0) (pod_some (pd_add (pd_var 1) pd_int)) pod_none)) (by rw [cut_drop]; simp [sub1, Function.comp_def]))
      (fun p y hp hy s H C cl fp => pgd_name 3 scPairs.nd)
      (fun p y hp hy l s H C cl fp => ptsd_nil)
      (fun p y hp hy _ l s H C cl fp => ?_)) (by rw [e]; rfl)))
    obtain ⟨d, _, rfl⟩ := List.mem_map.mp hy
    exact pd_tup (padd_cons (pd_var 2) (padd_cons (pd_var 3) padd_nil))
theorem sub2_mem {as l : List D} (h : l ∈ sub2 as) : l.length = 2 := by
  obtain ⟨p, _, h⟩ := List.mem_flatMap.mp h
  obtain ⟨y, h', rfl⟩ := List.mem_map.mp h
  obtain ⟨d, _, rfl⟩ := List.mem_map.mp h'
  rfl
theorem sub3_mem {as l : List D} (h : l ∈ sub3 as) : l.length = 3 := by
  obtain ⟨p, _, h⟩ := List.mem_flatMap.mp h
  obtain ⟨y, h', rfl⟩ := List.mem_map.mp h
  rw [List.length_cons, sub2_mem h']
theorem ok_threes (F : Fun K "threes_in" "threes_in" sThrees f fd) (mE : mg "enumerate" = none) (C1 : Fg P w K mg base "pairs_in" k ["names"] (gSub sub2)) : FnOk P w K mg base CX0 (k + 1) f fd ["names"] (spF K (gSub sub3)) := by
  refine okF F scThrees (fun rs ow r ow' h => ?_) (fun cdv A outer s H E hr rs ow r ow' h => ?_)
  · obtain ⟨t, as, rfl, _⟩ := h
    rfl
  · obtain ⟨t, as, rfl, hl, rfl, rfl⟩ := h
    obtain ⟨b1, b2⟩ := sub_bound sub2 (13 * 13) (by decide) (fun as h => sub2_len as 13 h) as hl (fun p l => D.tup (p.1 :: l))
    have e := all2_combo sub2 as
    refine pbd_last (psd_ret (pd_eqD (pd_lc2 (own := [("at", 1), ("first", 2), ("pair", 3)]) [3] as.zipIdx (fun p => D.par [.int (p.2 : Nat), p.1]) (fun p => cSt t as p none)
      (fun p : D × Nat => sub2 (as.drop (p.2 + 1))) (fun _ y => .tup y) (fun p y => cSt t as p (some (.d (.tup y)))) (fun _ _ => true) (fun p y => D.tup (p.1 :: y))
      rfl scThrees.nd (pid_enumS mE (padd_cons (pd_var 0) padd_nil)) (blkOk_by (N := ["names", "at", "first", "pair"]) (sc := defScope sThrees) (by decide +kernel)) (by decide) b1 b2
      (fun p hp s H C cl fp => pgd_tup rfl (pgsd_cons (pgd_name 1 scThrees.nd) (pgsd_cons (pgd_name 2 scThrees.nd) pgsd_nil)))
      (fun p hp l s H C cl fp => pid_list (pd_cg C1 hr (Nat.le_refl _) (padd_cons (pd_slS (pd_var 0) (pod_some (pd_add (pd_var 1) pd_int)) pod_none) padd_nil) ⟨t, _, rfl, by rw [cut_drop, List.length_drop]; omega, by rw [cut_drop], rfl⟩))
      (fun p y hp hy s H C cl fp => pgd_name 3 scThrees.nd)
      (fun p y hp hy l s H C cl fp => ptsd_nil)
      (fun p y hp hy _ l s H C cl fp => ?_)) (by rw [e]; rfl)))
    have h2 := sub2_mem hy
    exact pd_eqD (pd_tup (padd_cons (pd_var 2) (padd_star (pd_var 3) padd_nil)) (by simp [h2])) (by simp)
theorem ok_fours (F : Fun K "fours_in" "fours_in" sFours f fd) (mE : mg "enumerate" = none) (C1 : Fg P w K mg base "threes_in" k ["names"] (gSub sub3)) : FnOk P w K mg base CX0 (k + 1) f fd ["names"] (spF K (gSub sub4)) := by
  refine okF F scFours (fun rs ow r ow' h => ?_) (fun cdv A outer s H E hr rs ow r ow' h => ?_)
  · obtain ⟨t, as, rfl, _⟩ := h
    rfl
  · obtain ⟨t, as, rfl, hl, rfl, rfl⟩ := h
    obtain ⟨b1, b2⟩ := sub_bound sub3 (13 * (13 * 13)) (by decide) (fun as h => sub3_len as 13 h) as hl (fun p l => D.tup (p.1 :: l))
    have e := all2_combo sub3 as
    refine pbd_last (psd_ret (pd_eqD (pd_lc2 (own := [("at", 1), ("first", 2), ("three", 3)]) [3] as.zipIdx (fun p => D.par [.int (p.2 : Nat), p.1]) (fun p => cSt t as p none)
      (fun p : D × Nat => sub3 (as.drop (p.2 + 1))) (fun _ y => .tup y) (fun p y => cSt t as p (some (.d (.tup y)))) (fun _ _ => true) (fun p y => D.tup (p.1 :: y))
      rfl scFours.nd (pid_enumS mE (padd_cons (pd_var 0) padd_nil)) (blkOk_by (N := ["names", "at", "first", "three"]) (sc := defScope sFours) (by decide +kernel)) (by decide) b1 b2
      (fun p hp s H C cl fp => pgd_tup rfl (pgsd_cons (pgd_name 1 scFours.nd) (pgsd_cons (pgd_name 2 scFours.nd) pgsd_nil)))
      (fun p hp l s H C cl fp => pid_list (pd_cg C1 hr (Nat.le_refl _) (padd_cons (pd_slS (pd_var 0) (pod_some (pd_add (pd_var 1) pd_int)) pod_none) padd_nil) ⟨t, _, rfl, by rw [cut_drop, List.length_drop]; omega, by rw [cut_drop], rfl⟩))
      (fun p y hp hy s H C cl fp => pgd_name 3 scFours.nd)
      (fun p y hp hy l s H C cl fp => ptsd_nil)
      (fun p y hp hy _ l s H C cl fp => ?_)) (by rw [e]; rfl)))
    have h2 := sub3_mem hy
    exact pd_eqD (pd_tup (padd_cons (pd_var 2) (padd_star (pd_var 3) padd_nil)) (by simp [h2])) (by simp)
end
end Bl
set_option Elab.async false
set_option linter.all false
set_option maxRecDepth 100000
set_option maxHeartbeats 4000000
namespace Bl
open PySem PySem.Spec PyProof.Rows L2
/-- a def whose body ends without return -/
theorem okFN {P : Program} {w : World} {K : PySem.W.Frag} {mg : Str → Option Value} {base : Heap} {xn qual : Str} {sst : Stmt} {f : Addr} {fd : FuncData} {N ps : List Str} {k : Nat} {g : GG} (F : Fun K xn qual sst f fd) (SC : FnScope N ps (defScope sst)) (len : ∀ rs ow r ow', g rs ow r ow' → rs.length = ps.length)
    (hbody : ∀ (cdv : Value) (A : Around) (outer : List Env) (s : Shared) (H : Hp) (E : XK), Room k (A.deeper (envOfC qual (defScope sst) s.heap.objs.size f cdv)) → ∀ rs ow r ow', g rs ow r ow' → r = .d .non ∧
      ∃ st', PBD (cxOf CX0 P w K mg base N qual (defScope sst) f cdv A outer s H E).nox (startD N rs) ow (defBody sst) (.nx st' ow')) : FnOk P w K mg base CX0 (k + 1) f fd ps (spF K g) := by
  refine F.ok SC (fun vs H Q E h => ?_) (fun cdv A outer s H vs Q E hr h => ?_)
  · obtain ⟨S, rs, ow, r, ow', h1, h2, h3, _⟩ := h
    rw [h1.length, len _ _ _ _ h3]
  · obtain ⟨S, rs, ow, r, ow', h1, h2, h3, q⟩ := h
    obtain ⟨rfl, st', hb⟩ := hbody cdv A outer s H E hr rs ow r ow' h3
    exact ⟨_, hb, S, start_slots h1, h2, fun S' σ' H' f sl o => q S' .non H' f o (.d .non)⟩
def tyS (t : Bool) : String := if t then "tuple" else "list"
theorem tyB_sq (t : Bool) (l : List D) : tyB (sqD t l) = some (tyS t) := by cases t <;> rfl
/-- signs as handed in: a mutable list, a list or a tuple -/
def SgR (ns : List Int) (ow : List OB) (r : R) : Prop := (∃ k, r = .own k ∧ ow[k]? = some (.l (ns.map D.int))) ∨ ∃ t, r = .d (sqD t (ns.map D.int))
theorem getD_of {l : List D} {i : Nat} {x : D} (h : l[i]? = some x) : l.getD i .non = x := by rw [List.getD_eq_getElem?_getD, h]; rfl
theorem WDI.imp {K : PySem.W.Frag} {S : List Addr} {H : Hp} {J : It} {xs : List D} {I I' : List OB → Prop} (h : WDI K S H J xs I) (hi : ∀ ow, I' ow → I ow) : WDI K S H J xs I' where
  goes := fun i H2 hl ⟨S2, ow2, f, o, p⟩ => h.goes i H2 hl ⟨S2, ow2, f, o, hi _ p⟩
  stops := fun H2 ⟨S2, ow2, f, o, p⟩ => h.stops H2 ⟨S2, ow2, f, o, hi _ p⟩
  yields := fun i H2 x H3 hl ⟨S2, ow2, f, o, p⟩ y => by
    obtain ⟨g1, g2⟩ := h.yields i H2 x H3 hl ⟨S2, ow2, f, o, hi _ p⟩ y
    exact ⟨g1, fun S2 ow2 f o p => g2 S2 ow2 f o (hi _ p)⟩
theorem pidi_imp {X : Cx} {st : Sta} {ow ow1 : List OB} {tg e : Expr} {xs : List D} {I I' : List OB → Prop} (h : PIDI X st ow tg e xs ow1 I) (hi : ∀ ow, I' ow → I ow) : PIDI X st ow tg e xs ow1 I' := h.imp fun σ H Q ⟨S, sl, o, q⟩ => ⟨S, sl, o, fun S1 H1 J f1 o1 w1 => q S1 H1 J f1 o1 (w1.imp hi)⟩
theorem pidi_enumSg {X : Cx} {st : Sta} {ow ow1 : List OB} {e : Expr} {sg : R} {ns : List Int} {elts : List Expr} {kk : Nat} {p pos tpos : Pos} (hm : X.mg "enumerate" = none) (ha : PD X st ow e sg ow1) (hs : SgR ns ow1 sg) (hg : Gl X "enumerate" := by rfl) (hst : starEach [e] X.env = [(false, eval e X.env)] := by rfl) :
    PIDI X st ow (.Tuple elts kk tpos) (.Call (.Name "enumerate" p) [e] [] pos) (enumD (ns.map D.int)) ow1 (fun ow2 => SgR ns ow2 sg) := by
  rcases hs with ⟨k, rfl, hk⟩ | ⟨t, rfl⟩
  · exact pidi_imp (pidi_enumO hm ha hk hg hst) fun ow2 h => by
      rcases h with ⟨k', e, h⟩ | ⟨t, e⟩
      · cases e; exact h
      · cases e
  · exact pidi_imp (pidi_of (pid_enumS hm (padd_cons ha padd_nil hst) hg hst)) fun _ _ => trivial
section
variable {P : Program} {w : World} {K : PySem.W.Frag} {mg : Str → Option Value} {base : Heap} {f : Addr} {fd : FuncData} {k : Nat}
abbrev sCheckSigns : Stmt := topS 28
theorem scCheckSigns : FnScope ["signs", "many", "at", "sign"] ["signs", "many"] (defScope sCheckSigns) := ⟨rfl, rfl, rfl, by decide +kernel, rfl, by decide +kernel, by decide +kernel⟩
def gCheckSigns : GG := fun rs ow r ow' => ∃ (sg : R) (ns : List Int) (m : Int), rs = [sg, .d (.int m)] ∧ SgR ns ow sg ∧ (ns.length : Int) = m ∧ (∀ n ∈ ns, -1 ≤ n ∧ n ≤ 1) ∧ r = .d .non ∧ ow' = ow
theorem isSg_of {ns : List Int} (h : ∀ n ∈ ns, -1 ≤ n ∧ n ≤ 1) {i : Nat} {d : D} (hi : (ns.map D.int)[i]? = some d) : ∃ n, d = .int n ∧ isSg d = true := by
  obtain ⟨n, h1, rfl⟩ := map_some_of hi
  have := h n (List.mem_of_getElem? h1)
  exact ⟨n, rfl, by show (decide (-1 ≤ n) && decide (n ≤ 1)) = true; simp [this.1, this.2]⟩
theorem enumD_some {ds : List D} {i : Nat} {d : D} (h : (enumD ds)[i]? = some d) : ∃ x, ds[i]? = some x ∧ d = .par [.int (i : Nat), x] := by
  cases e : ds[i]? with
  | none =>
    have : (enumD ds).length ≤ i := by rw [enumD_len]; exact List.getElem?_eq_none_iff.mp e
    rw [List.getElem?_eq_none this] at h
    cases h
  | some x =>
    rw [enumD_get e] at h
    exact ⟨x, rfl, (Option.some.inj h).symm⟩
theorem ok_checkSigns (F : Fun K "check_signs" "check_signs" sCheckSigns f fd) (C1 : Fg P w K mg base "is_sign" k ["value"] gIsSign) (mI : mg "isinstance" = none) (mL : mg "list" = none) (mT : mg "tuple" = none) (mN : mg "len" = none) (mE : mg "enumerate" = none) : FnOk P w K mg base CX0 (k + 1) f fd ["signs", "many"] (spF K gCheckSigns) := by
  refine okFN F scCheckSigns (fun rs ow r ow' h => ?_) (fun cdv A outer s H E hr rs ow r ow' h => ?_)
  · obtain ⟨sg, ns, m, rfl, _⟩ := h
    rfl
  · obtain ⟨sg, ns, m, rfl, hs, hm, hns, rfl, rfl⟩ := h
    subst hm
    refine ⟨rfl, [some sg, some (.d (.int (ns.length : Nat))), none, none], ?_⟩
    refine pbd_skip (ow1 := ow') (bl := false) ?_ rfl ?_
    · rcases hs with ⟨k, rfl, hk⟩ | ⟨t, rfl⟩
      · exact ptd_eqB (ptd_bool (pwd_or (ptd_not (ptd_val (pd_isO2 (n := "list") (m := "tuple") mI (pd_var 0) (pd_tup (padd_cons (pd_ty mL) (padd_cons (pd_ty mT) padd_nil))) hk hk true false))) (fun _ => pwd_or1 (ptd_ne (pd_lenO mN (pd_var 0) hk) (pd_var 1))))) (by simp)
      · exact ptd_eqB (ptd_bool (pwd_or (ptd_not (ptd_val (pd_isT2 (n := "list") (m := "tuple") mI (padd_cons (pd_var 0) (padd_cons (pd_tup (padd_cons (pd_ty mL) (padd_cons (pd_ty mT) padd_nil))) padd_nil)) (!t) t (tyB_sq t _) (by cases t <;> decide +kernel) (by cases t <;> decide +kernel)))) (fun _ => pwd_or1 (ptd_ne (pd_lenS mN (padd_cons (pd_var 0) padd_nil)) (pd_var 1))))) (by cases t <;> simp)
    refine pbd_cons (?_ : PSD _ _ _ _ (.nx _ ow')) pbd_nil
    refine psd_forK [2, 3] (fun _ => [some sg, some (.d (.int (ns.length : Nat))), none, none]) (fun _ => ow') none (fun i => [some sg, some (.d (.int (ns.length : Nat))), some (.d (.int (i : Nat))), some (.d ((ns.map D.int).getD i .non))]) (fun i => .nx [some sg, some (.d (.int (ns.length : Nat))), none, none] ow') PassesOwn.never rfl _ (pidi_enumSg mE (pd_var 0) hs) (fun _ => hs) ⟨rfl, fun i r h => h⟩ rfl (fun i d hd _ => ?_) (fun i d hd _ => ?_) (fun i hi _ => .inl rfl) rfl
    · obtain ⟨x, h1, rfl⟩ := enumD_some hd
      rw [getD_of h1]
      exact pgd_tup rfl (pgsd_cons (pgd_name 2 scCheckSigns.nd) (pgsd_cons (pgd_name 3 scCheckSigns.nd) pgsd_nil))
    · obtain ⟨x, h1, rfl⟩ := enumD_some hd
      rw [getD_of h1]
      obtain ⟨n, rfl, h2⟩ := isSg_of hns h1
      exact pbd_weak (pbd_skip (ptd_not (ptd_val (pd_cg C1 hr (Nat.le_refl _) (padd_cons (pd_var 3) padd_nil) ⟨.int n, "int", rfl, rfl, rfl, rfl⟩))) (by rw [h2]; rfl) pbd_nil) rfl (by (intro i r h; rcases i with _ | _ | _ | _ | _ | _ | _ | _ | _ | i <;> first | exact h | cases h))
end
end Bl
set_option Elab.async false
set_option linter.all false
set_option maxRecDepth 100000
set_option maxHeartbeats 4000000
namespace Bl
open PySem PySem.Spec PyProof.Rows L2
theorem lookup_putD (f g : Str) (v : D) : ∀ fs : List (Str × D), (putD f v fs).lookup g = if g = f then some v else fs.lookup g
  | [] => by
    show List.lookup g [(f, v)] = _
    rw [List.lookup_cons]
    by_cases e : g = f
    · rw [if_pos e, show (g == f) = true from by simpa using e]
    · rw [if_neg e, show (g == f) = false from by simpa using e]
  | (h, x) :: r => by
    unfold putD
    by_cases e : h = f
    · rw [if_pos e, List.lookup_cons, List.lookup_cons]
      by_cases e2 : g = h
      · rw [show (g == h) = true from by simpa using e2, if_pos (e2.trans e)]
      · rw [show (g == h) = false from by simpa using e2, if_neg (fun z => e2 (z.trans e.symm))]
    · rw [if_neg e, List.lookup_cons, List.lookup_cons]
      by_cases e2 : g = h
      · rw [show (g == h) = true from by simpa using e2, if_neg (fun z => e (e2.symm.trans z))]
      · rw [show (g == h) = false from by simpa using e2]
        exact lookup_putD f g v r
def rngZ (n : Int) : List Int := (List.range n.toNat).map fun (i : Nat) => (0 + (i : Int))
theorem rngD_Z (n : Int) : rngD 0 n.toNat = (rngZ n).map D.int := by
  unfold rngD rngZ
  rw [List.map_map]
  rfl
theorem rngZ_len (n : Int) : (rngZ n).length = n.toNat := by unfold rngZ; rw [List.length_map, List.length_range]
def tabD (n : Int) (ns : List Int) : List (List Key × D) := ((sub3 (rngZ n)).map keyI).zip (ns.map D.int)
def chF (n : Int) (ns : List Int) : List (Str × D) := putD "_table" (.dT (tabD n ns)) (putD "lines" (.tup ((rngZ n).map D.int)) (putD "signs" (.tup (ns.map D.int)) (putD "size" (.int n) [])))
theorem ns1 : ¬ (("lines" : Str) = "_table") := by decide +kernel
theorem ns3 : ¬ (("signs" : Str) = "lines") := by decide +kernel
theorem ns4 : ¬ (("size" : Str) = "_table") := by decide +kernel
theorem ns5 : ¬ (("size" : Str) = "lines") := by decide +kernel
theorem ns6 : ¬ (("size" : Str) = "signs") := by decide +kernel
theorem chF_table (n : Int) (ns : List Int) : (chF n ns).lookup ("_table" : Str) = some (.dT (tabD n ns)) := by unfold chF; rw [lookup_putD, if_pos rfl]
theorem chF_lines (n : Int) (ns : List Int) : (chF n ns).lookup ("lines" : Str) = some (.tup ((rngZ n).map D.int)) := by unfold chF; rw [lookup_putD, if_neg ns1, lookup_putD, if_pos rfl]
theorem chF_size (n : Int) (ns : List Int) : (chF n ns).lookup ("size" : Str) = some (.int n) := by unfold chF; rw [lookup_putD, if_neg ns4, lookup_putD, if_neg ns5, lookup_putD, if_neg ns6, lookup_putD, if_pos rfl]
theorem chF_no (n : Int) (ns : List Int) {m : Str} (h1 : ¬ m = "_table") (h2 : ¬ m = "lines") (h3 : ¬ m = "signs") (h4 : ¬ m = "size") : (chF n ns).lookup m = none := by unfold chF; rw [lookup_putD, if_neg h1, lookup_putD, if_neg h2, lookup_putD, if_neg h3, lookup_putD, if_neg h4]; rfl
theorem put_le (f : Str) (v : D) : ∀ gs : List (Str × D), (putD f v gs).length ≤ gs.length + 1
  | [] => Nat.le_refl _
  | (g, x) :: r => by
    unfold putD
    split
    · exact Nat.le_succ _
    · exact Nat.succ_le_succ (put_le f v r)
theorem chart_facts : ∀ m : Nat, m < 14 → chooseZ (m : Int) 3 = ((sub3 (rngZ m)).length : Int) ∧ (sub3 (rngZ m)).Nodup := by decide +kernel
theorem chart_fact {n : Int} (h1 : 1 ≤ n) (h2 : n ≤ 13) : chooseZ n 3 = ((sub3 (rngZ n)).length : Int) ∧ (sub3 (rngZ n)).Nodup := by
  have := chart_facts n.toNat (by omega)
  rwa [show ((n.toNat : Nat) : Int) = n by omega] at this
/-- a chart -/
abbrev chartD (C : Addr) (n : Int) (ns : List Int) : D := .ins C (chF n ns)
/-- what the class object of Chart says -/
structure ChTxt (K : PySem.W.Frag) (C : Addr) : Prop where
  cl : Cls K C
  size : NoAttr K C "size"
  signs : NoAttr K C "signs"
  lines : NoAttr K C "lines"
  table : NoAttr K C "_table"
section
variable {P : Program} {w : World} {K : PySem.W.Frag} {mg : Str → Option Value} {base : Heap} {f : Addr} {fd : FuncData} {k : Nat} {C : Addr}
theorem pd_tupleSg {X : Cx} {st : Sta} {ow ow1 : List OB} {e : Expr} {sg : R} {ns : List Int} {p pos : Pos} (hm : X.mg "tuple" = none) (ha : PD X st ow e sg ow1) (hs : SgR ns ow1 sg) (hg : Gl X "tuple" := by rfl) (he : starEach [e] X.env = (false, eval e X.env) :: starEach [] X.env := by rfl) : PD X st ow (.Call (.Name "tuple" p) [e] [] pos) (.d (.tup (ns.map D.int))) ow1 := by
  rcases hs with ⟨k, rfl, hk⟩ | ⟨t, rfl⟩
  · exact pd_tupleO hm ha hk hg he
  · cases t with
    | true => exact pd_tupleT hm (padd_cons ha padd_nil he) rfl hg he
    | false => exact pd_tupleL hm (padd_cons ha padd_nil he) hg he
abbrev sInit : Stmt := inClass (topS 36) 1
theorem scInit : FnScope ["self", "size", "signs"] ["self", "size", "signs"] (defScope sInit) := ⟨rfl, rfl, rfl, by decide +kernel, rfl, by decide +kernel, by decide +kernel⟩
def gInit : GI := fun rs ow gs ow' => ∃ (n : Int) (sg : R) (ns : List Int), rs = [.d (.int n), sg] ∧ SgR ns ow sg ∧ 1 ≤ n ∧ n ≤ 13 ∧ ns.length = (sub3 (rngZ n)).length ∧ (∀ n ∈ ns, -1 ≤ n ∧ n ≤ 1) ∧ NoIow ow ∧ gs = chF n ns ∧ ow' = ow
theorem noI_ints (ns : List Int) : NoI (.tup (ns.map D.int)) := .tup (noIs_ints ns)
theorem noI_tab (n : Int) (ns : List Int) : NoI (.dT (tabD n ns)) := .dT fun p hp => noIs_ints ns _ (List.of_mem_zip hp).2
theorem ok_init (F : Fun K "__init__" "Chart.__init__" sInit f fd) (T : ChTxt K C) (C1 : Fg P w K mg base "check_size" k ["size"] gCheckSize) (C2 : Fg P w K mg base "check_signs" k ["signs", "many"] gCheckSigns) (C3 : Fg P w K mg base "choose" k ["n", "k"] gChoose) (C4 : Fg P w K mg base "threes_in" k ["names"] (gSub sub3))
    (mT : mg "tuple" = none) (mR : mg "range" = none) (mD : mg "dict" = none) (mZ : mg "zip" = none) : FnOk P w K mg base CX0 (k + 1) f fd ["self", "size", "signs"] (spI K C gInit) := by
  refine okI F scInit (fun rs ow gs ow' h => ?_) (fun cdv A outer s H E hr rs ow gs ow' h => ?_) (fun rs ow gs ow' h => ?_)
  · obtain ⟨n, sg, ns, rfl, _⟩ := h
    rfl
  · obtain ⟨n, sg, ns, rfl, hs, h1, h2, hl, hns, no, rfl, rfl⟩ := h
    obtain ⟨e1, e2⟩ := chart_fact h1 h2
    refine ⟨[none, some (.d (.int n)), some sg], ?_⟩
    refine pbi_cons (psi_expr (pd_cg C1 hr (Nat.le_refl _) (padd_cons (pd_var 1) padd_nil) ⟨n, rfl, h1, by omega, rfl, rfl⟩) no) ?_
    refine pbi_cons (psi_expr (pd_cg C2 hr (Nat.le_refl _) (pad_cons (pd_var 2) (pad_cons (pd_cg C3 hr (Nat.le_refl _) (padd_cons (pd_var 1) (padd_cons pd_int padd_nil)) ⟨n, 3, rfl, by omega, rfl, rfl⟩) pad_nil)) ⟨sg, ns, _, rfl, hs, by rw [e1, hl], hns, rfl, rfl⟩) no) ?_
    refine pbi_cons (psi_fld (pd_var 1) no (.int n) T.cl T.size (by decide)) ?_
    refine pbi_cons (psi_fld (pd_tupleSg mT (pd_var 2) hs) no (noI_ints ns) T.cl T.signs (by show 1 < 1000; decide)) ?_
    refine pbi_cons (psi_fld (pd_eqD (pd_tupRg rfl mT mR (pd_var 1) ⟨by omega, by omega⟩) (by rw [rngD_Z])) no (noI_ints (rngZ n)) T.cl T.lines (Nat.lt_of_le_of_lt (put_le _ _ _) (Nat.succ_lt_succ (Nat.lt_of_le_of_lt (put_le _ _ _) (by show 1 < _; decide))))) ?_
    refine pbi_cons (psi_fld (pd_dictZip (dd := .tup (ns.map D.int)) (ds := ns.map D.int) (sub3 (rngZ n)) rfl (hr.units) mD mZ (padd_cons (pd_cg C4 hr (Nat.le_refl _) (padd_cons (pd_fld (pd_var 0) T.cl T.lines ?_) padd_nil) ⟨true, (rngZ n).map D.int, rfl, ?_, ?_, rfl⟩) (padd_cons (pd_fld (pd_var 0) T.cl T.signs ?_) padd_nil)) rfl ?_ e2) no (noI_tab n ns) T.cl T.table (Nat.lt_of_le_of_lt (put_le _ _ _) (Nat.succ_lt_succ (Nat.lt_of_le_of_lt (put_le _ _ _) (Nat.succ_lt_succ (Nat.lt_of_le_of_lt (put_le _ _ _) (by show 1 < _; decide))))))) pbi_nil
    · rw [lookup_putD, if_pos rfl]; rfl
    · rw [List.length_map, rngZ_len]; omega
    · rw [sub3_map, List.map_map]; rfl
    · rw [lookup_putD, if_neg ns3, lookup_putD, if_pos rfl]
    · rw [List.length_map, hl]
  · obtain ⟨n, sg, ns, rfl, _⟩ := h
    show 2 < 3
    decide
end
end Bl
set_option Elab.async false
set_option linter.all false
set_option maxRecDepth 100000
set_option maxHeartbeats 4000000
namespace Bl
open PySem PySem.Spec PyProof.Rows L2
/-! ### a comprehension's list as a mutable one; mutable lists that become data -/
section
variable {X : Cx} {e a b c o tg iter elt tg1 iter1 : Expr} {es ifs ifs1 : List Expr} {scope : Scope} {own : List (Str × Nat)} {st st1 st2 : Sta} {ow ow1 ow2 ow3 : List OB} {r : R} {rs : List R} {d x y z : D} {ds xs : List D} {pos p p2 : Pos}
section
variable {α : Type} (as : List α) (enc : α → D) (stx : α → Sta) (pp : α → Bool) (ff : α → D)
theorem lc_readO {K : PySem.W.Frag} {vs : List Nat} {Q : VK} {σ : L2.St} {S1 : List Addr} {H1 : Hp} {J : It} (w1 : WD K S1 H1 J (as.map enc)) (sl : Slots K S1 H1 σ st) (o1 : Owns K S1 H1 ow1) (hlen : as.length ≤ 40000)
    (k : ∀ S2 v H', Fwd S1 H1 S2 H' → Owns K S2 H' (ow1 ++ [.l ((as.filter pp).map ff)]) → DenR K S2 H' v (.own ow1.length) → Q v H') :
    ∀ D, H1 D = none → ∃ W : Nat → Nat → Hp → Prop, (∃ m, W 0 m (upd H1 D (.lst []))) ∧ ∀ i m H, W i m H →
      (J.stop i H ∧ Q (.ref D) H) ∨ (J.go i H ∧ ∃ Nx : Hp → Prop, (∀ H', Nx H' → ∃ m', m' < m ∧ W (i + 1) m' H') ∧ ∀ x H', J.yld i H x H' → lG as enc stx K vs st x (wipe σ vs) H' fun σ2 H2 => wipe σ2 vs = wipe σ vs ∧ lT as stx pp K ow1 σ2 H2 fun b H3 =>
        if b = true then lE as stx pp ff K ow1 σ2 H3 fun y H4 => ∃ acc, H4 D = some (.lst acc) ∧ acc.length < sizeLine ∧ Nx (upd H4 D (.lst (acc ++ [y]))) else Nx H3) := by
  intro D hD
  have hn := own_new (xs := []) (ds := []) o1 hD .nil
  have w1' : WD K S1 H1 J (as.map enc) := w1
  have hln : (as.map enc).length = as.length := List.length_map ..
  refine lc_it (Qd := Q (.ref D)) w1 (fun i H' => LcP K S1 H1 D ow1 (((as.take i).filter pp).map ff) H') ⟨hn.1, hn.2.1⟩ (fun i H' _ p => ⟨_, _, p.f, p.o⟩) (fun i x H' H2 hi p ⟨ex, y⟩ => ?_) (fun H' p => ?_)
  · obtain ⟨d, hd, dd⟩ := y _ _ p.f p.o
    obtain ⟨xa, hxa, rfl⟩ := map_some_of hd
    have hmem : xa ∈ as := List.mem_of_getElem? hxa
    have p2 : LcP K S1 H1 D ow1 (((as.take i).filter pp).map ff) H2 := ⟨p.f.trans p.o (.of ex), p.o.ex ex⟩
    have hts := take_succ_of hxa
    have hz : ((List.filter pp (as.take i)).map ff).length < 100000 := by
      rw [List.length_map]
      have h1 := List.length_filter_le pp (as.take i)
      rw [List.length_take] at h1
      omega
    refine ⟨⟨xa, hmem⟩, S1 ++ [D], (p2.f.slots sl).wipe vs, dd, fun σ2 sl2 hw => ⟨hw.trans (wipe_wipe σ vs), ⟨(xa, _), hmem⟩, S1 ++ [D], sl2, p2.o, fun S3 H3 f3 o3 => ?_⟩⟩
    obtain ⟨e3, p3⟩ := p2.on f3 o3
    subst e3
    have hb' : pp (xa, ((as.take i).filter pp).map ff).1 = pp xa := rfl
    show (if pp xa = true then _ else _)
    cases hb : pp xa with
    | true =>
      refine iteT ⟨⟨(xa, _), hmem, hb⟩, S1 ++ [D], f3.slots sl2, o3, fun S4 v H4 f4 o4 d4 => ?_⟩
      obtain ⟨e4, p4⟩ := p3.on f4 o4
      subst e4
      cases d4 with
      | d d4 =>
        obtain ⟨acc, h1, h2, h3⟩ := p4.app d4 hz
        refine ⟨acc, h1, h2, ?_⟩
        show LcP K S1 H1 D ow1 (((as.take (i + 1)).filter pp).map ff) _
        rw [hts, List.filter_append, List.map_append, List.filter_cons, if_pos hb]
        exact h3
    | false =>
      refine iteF ?_
      show LcP K S1 H1 D ow1 (((as.take (i + 1)).filter pp).map ff) _
      rw [hts, List.filter_append, List.map_append, List.filter_cons, if_neg (by rw [hb]; decide)]
      simpa using p3
  · have p' : LcP K S1 H1 D ow1 (((as.take (as.map enc).length).filter pp).map ff) H' := p
    rw [hln, take_all] at p'
    have hr : DenR K (S1 ++ [D]) H' (.ref D) (.own ow1.length) := .own (owns_last p'.o).choose_spec.1
    exact k _ _ _ p'.f p'.o hr
end
theorem pd_lcO {α : Type} (as : List α) (enc : α → D) (stx : α → Sta) (pp : α → Bool) (ff : α → D) (hc : X.calm = true) (hN : X.N.Nodup) (hi : PID X st ow tg iter (as.map enc) ow1) (ok : BlkOk X.N X.env.scope scope own) (hlen : as.length ≤ 40000)
    (hg : ∀ x, x ∈ as → AtBlk X scope fun Y => PGD Y (own.map (·.2)) (wipeD st (own.map (·.2))) (enc x) tg (stx x)) (ht : ∀ x, x ∈ as → ∀ l, AtBlk X scope fun Y => PTsD Y (stx x) (ow1 ++ [.l l]) ifs (pp x))
    (he : ∀ x, x ∈ as → pp x = true → ∀ l, AtBlk X scope fun Y => PD Y (stx x) (ow1 ++ [.l l]) elt (.d (ff x)) (ow1 ++ [.l l])) (hs : ∀ x, foldedSetIterable iter X.env x = pure x := by intro _; rfl) :
    PD X st ow (.ListComp elt [⟨tg, iter, ifs, 0⟩] scope pos) (.own ow1.length) (ow1 ++ [.l ((as.filter pp).map ff)]) :=
  (pe_lc (g := lG as enc stx X.K (own.map (·.2)) st) (tt := lT as stx pp X.K ow1) (te := lE as stx pp ff X.K ow1) hc hN hi ok (fun s H C cl fp => pg_ex fun x => hg x.1 x.2 s H C cl fp) (fun s H C cl fp => pts_ex fun x => ht x.1.1 x.2 x.1.2 s H C cl fp)
    (fun s H C cl fp => pe_ex fun x => he x.1.1 x.2.1 x.2.2 x.1.2 s H C cl fp) hs).imp fun σ H Q ⟨S, sl, o, q⟩ => ⟨S, sl, o, fun S1 H1 J f1 o1 w1 => lc_readO as enc stx pp ff w1 (f1.slots sl) o1 hlen fun S2 v H' g1 g2 g3 => q S2 v H' (f1.trans o1 g1) g2 g3⟩
/-- y = [..] -/
theorem psd_setLcO {α : Type} {yn : Str} {py spos : Pos} (i : Nat) (as : List α) (enc : α → D) (stx : α → Sta) (pp : α → Bool) (ff : α → D) (hc : X.calm = true) (hN : X.N.Nodup) (hi : PID X st ow tg iter (as.map enc) ow1) (ok : BlkOk X.N X.env.scope scope own) (hlen : as.length ≤ 40000)
    (hg : ∀ x, x ∈ as → AtBlk X scope fun Y => PGD Y (own.map (·.2)) (wipeD st (own.map (·.2))) (enc x) tg (stx x)) (ht : ∀ x, x ∈ as → ∀ l, AtBlk X scope fun Y => PTsD Y (stx x) (ow1 ++ [.l l]) ifs (pp x))
    (he : ∀ x, x ∈ as → pp x = true → ∀ l, AtBlk X scope fun Y => PD Y (stx x) (ow1 ++ [.l l]) elt (.d (ff x)) (ow1 ++ [.l l]))
    (hsw : swapsWith (.ListComp elt [⟨tg, iter, ifs, 0⟩] scope pos) (some (.Name yn py)) spos.line X.env = pure true := by exact sw_true rfl rfl rfl (by decide +kernel)) (hy : X.N[i]? = some yn := by rfl) (hyl : X.env.scope.names.lookup yn = some .local := by rfl) (hs : ∀ x, foldedSetIterable iter X.env x = pure x := by intro _; rfl) :
    PSD X st ow (.Assign [.Name yn py] (.ListComp elt [⟨tg, iter, ifs, 0⟩] scope pos) spos) (.nx (st.set i (some (.own ow1.length))) (ow1 ++ [.l ((as.filter pp).map ff)])) :=
  (ps_setLc (i := i) (g := lG as enc stx X.K (own.map (·.2)) st) (tt := lT as stx pp X.K ow1) (te := lE as stx pp ff X.K ow1) hc hN hy hyl hsw hi ok (fun s H C cl fp => pg_ex fun x => hg x.1 x.2 s H C cl fp) (fun s H C cl fp => pts_ex fun x => ht x.1.1 x.2 x.1.2 s H C cl fp)
    (fun s H C cl fp => pe_ex fun x => he x.1.1 x.2.1 x.2.2 x.1.2 s H C cl fp) hs).imp fun E σ H ⟨S, sl, o, q⟩ => ⟨S, sl, o, fun S1 H1 J f1 o1 w1 => lc_readO (vs := own.map (·.2)) (Q := fun x H1 => gName i x σ H1 E.nx) as enc stx pp ff w1 (f1.slots sl) o1 hlen fun S2 v H' g1 g2 g3 =>
      q S2 _ H' (f1.trans o1 g1) (((f1.trans o1 g1).slots sl).set i g3) g2⟩
/-- the mutable thing at place k read as data -/
inductive ObD : OB → D → Prop where
  | l {xs : List D} : ObD (.l xs) (.lst xs)
  | v {xs : List D} : ObD (.l xs) (.lstV xs)
  | t {gs : List (List Key × D)} : ObD (.t gs) (.dT gs)
def unD (k : Nat) (d : D) (st : Sta) : Sta := st.map fun q => match q with
  | some (.own j) => if j = k then some (.d d) else some (.own j)
  | q => q
theorem drop_last {K : PySem.W.Frag} {S S' : List Addr} {H H' : Hp} {b : OB} (f : Fwd S H S' H') (o : Owns K S H ow) (o' : Owns K S' H' (ow1 ++ [b])) (hl : ow.length = ow1.length) (hb : KeepG ow ow1) :
    Fwd S H S H' ∧ Owns K S H' ow1 ∧ (∀ a, a ∈ S → a ∈ S') ∧ (∀ k, k < ow1.length → S'[k]? = S[k]?) ∧ ∃ q, S'[ow1.length]? = some q ∧ ∀ dd, ObD b dd → Den K S H' (.ref q) dd := by
  obtain ⟨q, e, hnq, f1, o1, hsub, y, hq⟩ := drop_lastB f o o' hl hb
  have hlen := o1.len
  refine ⟨f1, o1, hsub, fun k hk => by rw [e, List.getElem?_append_left (by omega)], q, hq, fun dd hd => ?_⟩
  cases y with
  | l y w =>
    cases hd with
    | l => exact .lst (.inl ⟨hnq, .inl y⟩) (w.less hsub)
    | v => exact .lstV hnq y (w.less hsub)
  | t y w => cases hd; exact .dT hnq y (DenG.less hsub w)
  | g y w => cases hd
  | r y w => cases hd
theorem unown_slots {K : PySem.W.Frag} {S S' : List Addr} {H H' : Hp} {σ : L2.St} {b : OB} {dd : D} (f : Fwd S H S' H') (o : Owns K S H ow) (o' : Owns K S' H' (ow1 ++ [b])) (hl : ow.length = ow1.length) (hb : KeepG ow ow1) (hd : ObD b dd) (sl : Slots K S' H' σ st) : Slots K S H' σ (unD ow1.length dd st) := by
  obtain ⟨g1, g2, g3, g4, q, g5, g6⟩ := drop_last f o o' hl hb
  refine ⟨by rw [sl.len]; unfold unD; rw [List.length_map], fun i r e => ?_⟩
  unfold unD at e
  rw [List.getElem?_map] at e
  cases hs : st[i]? with
  | none => rw [hs] at e; cases e
  | some t =>
    rw [hs] at e
    cases t with
    | none => cases e
    | some r0 =>
      obtain ⟨v, hv, hd'⟩ := sl.sl i r0 hs
      refine ⟨v, hv, ?_⟩
      cases hd' with
      | d hd' =>
        cases e
        exact .d (hd'.less g3)
      | @own a k hk =>
        have e' : (if k = ow1.length then some (R.d dd) else some (.own k)) = some r := Option.some.inj e
        by_cases hkk : k = ow1.length
        · rw [if_pos hkk] at e'
          cases e'
          rw [hkk, g5] at hk
          cases hk
          exact .d (g6 _ hd)
        · rw [if_neg hkk] at e'
          cases e'
          have hlt : k < S'.length := (List.getElem?_eq_some_iff.mp hk).1
          have := o'.len
          rw [List.length_append] at this
          have h1 : k < ow1.length := by
            simp only [List.length_cons, List.length_nil] at this
            omega
          exact .own (by rw [← g4 k h1]; exact hk)
variable {s s2 : Stmt} {rest ss : List Stmt} {out : Out} {stA stB : Sta} {owA : List OB} {l : List D} {b : OB} {dd : D}
/-- what statement s makes is data from then on -/
theorem pbd_frzB (h1 : PSD X st ow s (.nx stB (ow1 ++ [b]))) (hl : ow.length = ow1.length) (hd : ObD b dd) (h3 : PBD X (unD ow1.length dd stB) ow1 rest out) (hb : KeepG ow ow1 := by first | exact ⟨fun _ h => h, fun _ h => h⟩ | (refine ⟨?_, ?_⟩ <;> (intro gs h; simp at h ⊢; assumption))) : PBD X st ow (s :: rest) out :=
  (pss_cons h1 h3).imp fun E σ H ⟨S, sl, o, k⟩ => ⟨S, sl, o, fun S1 σ1 H1 f1 sl1 o1 => by
    obtain ⟨g1, g2, _⟩ := drop_last f1 o o1 hl hb
    exact ⟨S, unown_slots f1 o o1 hl hb hd sl1, g2, goes_seq k g1 g2⟩⟩
theorem pbd_frz2B (h1 : PSD X st ow s (.nx stA owA)) (h2 : PSD X stA owA s2 (.nx stB (ow1 ++ [b]))) (hl : ow.length = ow1.length) (hd : ObD b dd) (h3 : PBD X (unD ow1.length dd stB) ow1 rest out) (hb : KeepG ow ow1 := by first | exact ⟨fun _ h => h, fun _ h => h⟩ | (refine ⟨?_, ?_⟩ <;> (intro gs h; simp at h ⊢; assumption))) : PBD X st ow (s :: s2 :: rest) out :=
  (pss_cons h1 (pss_cons h2 h3)).imp fun E σ H ⟨S, sl, o, k⟩ => ⟨S, sl, o, fun S1 σ1 H1 f1 sl1 o1 => ⟨S1, sl1, o1, fun S2 σ2 H2 f2 sl2 o2 => by
    have f := f1.trans o1 f2
    obtain ⟨g1, g2, _⟩ := drop_last f o o2 hl hb
    exact ⟨S, unown_slots f o o2 hl hb hd sl2, g2, goes_seq k g1 g2⟩⟩⟩
/-- a mutable thing that nothing returned leans on is forgotten -/
theorem pbd_drop (h : PBD X st ow ss (.ret (.d d) (ow1 ++ [b]))) (hl : ow.length = ow1.length) (hb : KeepG ow ow1 := by first | exact ⟨fun _ h => h, fun _ h => h⟩ | (refine ⟨?_, ?_⟩ <;> (intro gs h; simp at h ⊢; assumption))) : PBD X st ow ss (.ret (.d d) ow1) :=
  h.imp fun E σ H ⟨S, sl, o, k⟩ => ⟨S, sl, o, fun S1 v H1 f1 o1 d1 => by
    obtain ⟨g1, g2, g3, _⟩ := drop_last f1 o o1 hl hb
    cases d1 with
    | d d1 => exact k S v H1 g1 g2 (.d (d1.less g3))⟩
end
end Bl
set_option Elab.async false
set_option linter.all false
set_option maxRecDepth 100000
set_option maxHeartbeats 4000000
namespace Bl
open PySem PySem.Spec PyProof.Rows L2
/-! ### good_row -/
def chgL : List Int → Int
  | [a, b, c, d] => chg a b c d
  | _ => 0
def put0 (ns : List Int) (s : Int) : List Int := ns.take (ns.idxOf 0) ++ [s] ++ ns.drop (ns.idxOf 0 + 1)
def goodL (ns : List Int) : Bool := if ns.count 0 = 0 then decide (chgL ns ≤ 1) else if 1 < ns.count 0 then decide (ns.count 0 = 4) else ([1, -1].map fun s => decide (chgL (put0 ns s) ≤ 1)).all id
theorem cut_take (as : List D) (i : Nat) : cutD as none (some (i : Int)) = as.take i := by
  unfold cutD
  rw [HT.sIx_none, HT.sIx_nat, List.drop_zero, Nat.sub_zero]
  by_cases h : i ≤ as.length
  · rw [Nat.min_eq_left h]
  · rw [Nat.min_eq_right (by omega), List.take_of_length_le (Nat.le_refl _), List.take_of_length_le (by omega)]
theorem len4 {ns : List Int} (h : ns.length = 4) : ∃ a b c d, ns = [a, b, c, d] := by
  match ns, h with
  | [a, b, c, d], _ => exact ⟨a, b, c, d, rfl⟩
theorem idx0 {ns : List Int} (h : 0 < ns.count 0) : ns[ns.idxOf 0]? = some 0 ∧ ∀ m, m < ns.idxOf 0 → ns[m]? ≠ some 0 := by
  have hm : (0 : Int) ∈ ns := List.count_pos_iff.mp h
  have hlt := List.idxOf_lt_length_iff.mpr hm
  refine ⟨by rw [List.getElem?_eq_getElem hlt, List.getElem_idxOf], fun m hlm e => ?_⟩
  have h2 := List.not_of_lt_findIdx (p := (· == 0)) (xs := ns) (i := m) hlm
  have hml : m < ns.length := by omega
  rw [List.getElem?_eq_getElem hml] at e
  rw [Option.some.inj e] at h2
  exact absurd h2 (by decide)
theorem put0_len {ns : List Int} (h : 0 < ns.count 0) (h4 : ns.length = 4) (s : Int) : (put0 ns s).length = 4 := by
  have hlt := List.idxOf_lt_length_iff.mpr (List.count_pos_iff.mp h)
  unfold put0
  rw [List.length_append, List.length_append, List.length_take, List.length_drop]
  simp only [List.length_cons, List.length_nil]
  omega
theorem iv_eq (a b : Int) : decide (V.int a = V.int b) = decide (a = b) := by
  by_cases h : a = b
  · subst h; simp
  · rw [decide_eq_false (fun z => h (V.int.inj z)), decide_eq_false h]
section
variable {P : Program} {w : World} {K : PySem.W.Frag} {mg : Str → Option Value} {base : Heap} {f : Addr} {fd : FuncData} {k : Nat} {C : Addr}
abbrev sGoodRow : Stmt := topS 30
theorem scGoodRow : FnScope ["row", "zeros", "at", "sign"] ["row"] (defScope sGoodRow) := ⟨rfl, rfl, rfl, by decide +kernel, rfl, by decide +kernel, by decide +kernel⟩
def gGoodRow : GG := fun rs ow r ow' => ∃ ns : List Int, rs = [.d (.tupN (ns.map D.int))] ∧ ns.length = 4 ∧ r = .d (.bl (goodL ns)) ∧ ow' = ow
theorem ok_goodRow (F : Fun K "good_row" "good_row" sGoodRow f fd) (C1 : Fg P w K mg base "changes" k ["row"] gChanges) (mA : mg "all" = none) : FnOk P w K mg base CX0 (k + 1) f fd ["row"] (spF K gGoodRow) := by
  refine okF F scGoodRow (fun rs ow r ow' h => ?_) (fun cdv A outer s H E hr rs ow r ow' h => ?_)
  · obtain ⟨ns, rfl, _⟩ := h
    rfl
  · obtain ⟨ns, rfl, h4, rfl, rfl⟩ := h
    refine pbd_cons (psd_set 1 scGoodRow.nd (pd_tcount (pd_var 0) (padd_cons pd_int padd_nil))) ?_
    by_cases hz : ns.count 0 = 0
    · refine pbd_take (ptd_eq (pd_var 1) pd_int) (by rw [iv_eq, hz]; rfl) ?_
      obtain ⟨a, b, c, d, rfl⟩ := len4 h4
      refine pbd_last (psd_ret (pd_eqB (pd_le (pd_cg C1 hr (Nat.le_refl _) (padd_cons (pd_var 0) padd_nil) ⟨_, a, b, c, d, rfl, rfl, rfl, rfl⟩) pd_int) ?_))
      unfold goodL
      rw [if_pos hz]
      rfl
    · refine pbd_skip (ptd_eq (pd_var 1) pd_int) (by rw [iv_eq]; exact decide_eq_false (by omega)) ?_
      by_cases h1 : 1 < ns.count 0
      · refine pbd_take (ptd_gt (pd_var 1) pd_int) (by exact decide_eq_true (by omega)) ?_
        refine pbd_last (psd_ret (pd_eqB (pd_eq (pd_var 1) pd_int) ?_))
        unfold goodL
        rw [if_neg hz, if_pos h1, iv_eq]
        by_cases h5 : ns.count 0 = 4
        · rw [decide_eq_true h5, decide_eq_true (by omega)]
        · rw [decide_eq_false h5, decide_eq_false (by omega)]
      · refine pbd_skip (ptd_gt (pd_var 1) pd_int) (by exact decide_eq_false (by omega)) ?_
        have hp : 0 < ns.count 0 := by omega
        obtain ⟨i1, i2⟩ := idx0 hp
        refine pbd_cons (psd_set 2 scGoodRow.nd (pd_tindex (pd_var 0) (padd_cons pd_int padd_nil) i1 i2)) ?_
        have lst : [some (R.d (.tupN (ns.map D.int))), some (R.d (.int (ns.count 0 : Nat))), some (R.d (.int (ns.idxOf 0 : Nat))), none] = (((startD ["row", "zeros", "at", "sign"] [R.d (D.tupN (List.map D.int ns))]).set 1 (some (R.d (D.int ↑(List.count 0 ns))))).set 2 (some (R.d (D.int ↑(List.idxOf 0 ns))))) := rfl
        refine pbd_last (psd_ret (pd_eqB (pd_all (bs := [1, -1].map fun s => decide (chgL (put0 ns s) ≤ 1)) rfl mA (padd_cons (pd_eqD (pd_lc (own := [("sign", 3)]) ([1, -1] : List Int) D.int (fun s => [some (.d (.tupN (ns.map D.int))), some (.d (.int (ns.count 0 : Nat))), some (.d (.int (ns.idxOf 0 : Nat))), some (.d (.int s))]) (fun _ => true) (fun s => .bl (decide (chgL (put0 ns s) ≤ 1)))
          rfl scGoodRow.nd (pid_eq (pid_tup (pd_tup (padd_cons pd_int (padd_cons (pd_neg pd_int) padd_nil)))) rfl) (blkOk_by (N := ["row", "zeros", "at", "sign"]) (sc := defScope sGoodRow) (by decide +kernel)) (by decide)
          (fun s hs _ H C cl fp => pgd_name 3 scGoodRow.nd) (fun s hs l _ H C cl fp => ptsd_nil) (fun s hs _ l _ H C cl fp => ?_)) ?_) padd_nil)) ?_))
        · have e1 : cutD (ns.map D.int) none (some ((ns.idxOf 0 : Nat) : Int)) ++ [D.int s] ++ cutD (ns.map D.int) (some (((ns.idxOf 0 : Nat) : Int) + 1)) none = (put0 ns s).map D.int := by
            rw [cut_take, cut_drop]
            unfold put0
            rw [List.map_append, List.map_append, List.map_take, List.map_drop]
            rfl
          have hlen := put0_len hp h4 s
          have hl2 : ((cutD (ns.map D.int) none (some ((ns.idxOf 0 : Nat) : Int)) ++ [D.int s]) ++ cutD (ns.map D.int) (some (((ns.idxOf 0 : Nat) : Int) + 1)) none).length = 4 := by rw [e1, List.length_map, hlen]
          rw [List.length_append] at hl2
          have hl3 := hl2
          rw [List.length_append] at hl3
          obtain ⟨a, b, c, d, e⟩ := len4 hlen
          refine pd_eqB (pd_le (pd_cg C1 hr (Nat.le_refl _) (padd_cons (pd_catN (pd_catN (pd_slN (pd_var 0) pod_none (pod_some (pd_var 2))) (pd_tupN (padd_cons (pd_var 3) padd_nil)) (by omega)) (pd_slN (pd_var 0) (pod_some (pd_add (pd_var 2) pd_int)) pod_none) (by omega)) padd_nil) ⟨_, a, b, c, d, rfl, by rw [e1, e]; rfl, rfl, rfl⟩) pd_int) (by rw [e]; rfl)
        · rfl
        · unfold goodL
          rw [if_neg hz, if_neg h1]
end
end Bl
set_option Elab.async false
set_option linter.all false
set_option maxRecDepth 100000
set_option maxHeartbeats 4000000
namespace Bl
open PySem PySem.Spec PyProof.Rows L2
section
variable {X : Cx} {tg iter : Expr} {body rest : List Stmt} {st base : Sta} {ow ow1 : List OB} {pos : Pos} {out : Out}
/-- for x in xs: leaves at the first x that pp tells, by rr x -/
theorem pbd_find {α : Type} (vs : List Nat) (base : Sta) (as : List α) (enc : α → D) (pp : α → Bool) (rr : α → R) (stx : α → Sta) (hp : PassesOwn (model X.prog X.w) X.A X.env X.xe) (hc : X.calm = true) (hi : PID X st ow tg iter (as.map enc) ow1) (h0 : st.length = base.length ∧ ∀ (i : Nat) r, base[i]? = some (some r) → st[i]? = some (some r))
    (hg : ∀ x, x ∈ as → PGD X vs base (enc x) tg (stx x)) (hb1 : ∀ x, x ∈ as → pp x = false → PBD X (stx x) ow1 body (.nx base ow1)) (hb2 : ∀ x, x ∈ as → pp x = true → PBD X (stx x) ow1 body (.ret (rr x) ow1))
    (hend : as.find? pp = none → PBD X base ow1 rest out) (hf : ∀ x, as.find? pp = some x → out = .ret (rr x) ow1) (hs : ∀ x, foldedSetIterable iter X.env x = pure x := by intro _; rfl) : PBD X st ow (.For tg iter body [] pos :: rest) out := by
  have hgx : ∀ i d, (as.map enc)[i]? = some d → PGD X vs base d tg ((as[i]?).elim base stx) := fun i d hd => by
    obtain ⟨x, h1, rfl⟩ := map_some_of hd
    rw [h1]
    exact hg x (List.mem_of_getElem? h1)
  have hbx : ∀ i d, (as.map enc)[i]? = some d → PBD X ((as[i]?).elim base stx) ow1 body ((as[i]?).elim (.nx base ow1) fun x => if pp x = true then .ret (rr x) ow1 else .nx base ow1) := fun i d hd => by
    obtain ⟨x, h1, rfl⟩ := map_some_of hd
    rw [h1]
    show PBD X (stx x) ow1 body (if pp x = true then .ret (rr x) ow1 else .nx base ow1)
    cases hpx : pp x with
    | true => rw [if_pos rfl]; exact hb2 x (List.mem_of_getElem? h1) hpx
    | false => rw [if_neg (by decide)]; exact hb1 x (List.mem_of_getElem? h1) hpx
  cases hfd : as.find? pp with
  | none =>
    refine pbd_cons (psd_forG vs (fun _ => base) (fun _ => ow1) none _ _ hp hc hi h0 rfl (fun i d hd _ => hgx i d hd) (fun i d hd _ => hbx i d hd) (fun i hil _ => ?_) rfl hs) (hend hfd)
    rw [List.length_map] at hil
    rw [if_neg (fun z => nomatch z), List.getElem?_eq_getElem hil]
    have hn : ¬ pp as[i] = true := List.find?_eq_none.mp hfd _ (List.getElem_mem hil)
    show Onw _ _ i (if pp as[i] = true then _ else _)
    rw [if_neg hn]
    exact .inl rfl
  | some x =>
    obtain ⟨hpx, i0, hi0, hx, hbefore⟩ := List.find?_eq_some_iff_getElem.mp hfd
    have ho := hf x hfd
    subst ho
    refine pbd_last (psd_forG vs (fun _ => base) (fun _ => ow1) (some i0) _ _ hp hc hi h0 rfl (fun i d hd _ => hgx i d hd) (fun i d hd _ => hbx i d hd) (fun i hil hmi => ?_) (show i0 < (as.map enc).length from Nat.lt_of_lt_of_eq hi0 (List.length_map ..).symm) hs)
    rw [List.length_map] at hil
    have hle : i ≤ i0 := hmi i0 rfl
    by_cases hii : some i0 = some i
    · rw [if_pos hii]
      cases hii
      have e1 : (as[i0]?).elim (Out.nx base ow1) (fun x => if pp x = true then .ret (rr x) ow1 else .nx base ow1) = .ret (rr x) ow1 := by
        rw [List.getElem?_eq_getElem hi0, hx]
        show (if pp x = true then _ else _) = _
        rw [if_pos hpx]
      rw [e1]
    · rw [if_neg hii, List.getElem?_eq_getElem hil]
      have hlt : i < i0 := by
        have : i ≠ i0 := fun z => hii (by rw [z])
        omega
      have hn : ¬ pp as[i] = true := by simpa using hbefore i hlt
      show Onw _ _ i (if pp as[i] = true then _ else _)
      rw [if_neg hn]
      exact .inl rfl
end
end Bl
set_option Elab.async false
set_option linter.all false
set_option maxRecDepth 100000
set_option maxHeartbeats 4000000
namespace Bl
open PySem PySem.Spec PyProof.Rows L2
/-- a method, a property of a class and what it is worth -/
def Mt (P : Program) (w : World) (K : PySem.W.Frag) (mg : Str → Option Value) (base : Heap) (C : Addr) (mn : Str) (k : Nat) (ps : List Str) (g : GG) : Prop :=
  ∃ f fd, FnOk P w K mg base CX0 k f fd ps (spF K g) ∧ Meth K C mn f ∧ Binds K fd ps []
def Pt (P : Program) (w : World) (K : PySem.W.Frag) (mg : Str → Option Value) (base : Heap) (C : Addr) (mn : Str) (k : Nat) (ps : List Str) (g : GG) : Prop :=
  ∃ pa f fd, FnOk P w K mg base CX0 k f fd ps (spF K g) ∧ PropOf K C mn pa f ∧ Binds K fd ps []
section
variable {X : Cx} {e o : Expr} {es : List Expr} {st : Sta} {ow ow1 ow2 ow3 : List OB} {rs : List R} {r : R} {p pos apos : Pos} {k j : Nat} {ps : List Str} {g : GG} {mn : Str} {C : Addr} {gs : List (Str × D)}
theorem pd_mt {pl : Sem Bool} (F : Mt X.prog X.w X.K X.mg X.base C mn k ps g) (ho : PD X st ow o (.d (.ins C gs)) ow1) (c : Cls X.K C) (hr : Room j X.A) (hj : k ≤ j) (ha : PAD X st ow1 (e :: es) rs ow2) (hl : gs.lookup mn = none) (hgg : g (.d (.ins C gs) :: rs) ow2 r ow3)
    (hst : starEach (e :: es) X.env = (false, eval e X.env) :: starEach es X.env := by rfl) (hpl : (backTo pos (starEach es X.env)).any (·.1) = false := by rfl)
    (ht : eval (.Call (.Attribute o mn apos) (e :: es) [] pos) X.env = (do
      let ov ← eval o X.env
      standAt apos.atName
      let (f, first) ← holding [ov] (getMethod ov mn pl)
      callWith pos f first (backTo pos (starEach (e :: es) X.env)) (backToKw pos (keywordEach [] X.env))) := by rfl) :
    PD X st ow (.Call (.Attribute o mn apos) (e :: es) [] pos) r ow3 := by
  obtain ⟨f, fd, h1, h2, h3⟩ := F
  exact pd_meth ho c h2 h1 (hr.mono hj) h3 ha hl hgg hst hpl ht
theorem pd_pt (F : Pt X.prog X.w X.K X.mg X.base C mn k ps g) (he : PD X st ow e (.d (.ins C gs)) ow1) (c : Cls X.K C) (hr : Room j X.A) (hj : k + 1 ≤ j) (hgg : g [.d (.ins C gs)] ow1 r ow2) (hab : attributeBase e mn X.env (eval e X.env) = eval e X.env := by rfl) : PD X st ow (.Attribute e mn pos) r ow2 := by
  obtain ⟨pa, f, fd, h1, h2, h3⟩ := F
  exact pd_prop he c h2 h1 (hr.mono hj) h3 hgg hab
end
/-! ### signs of lots -/
def sgA (n : Int) (ns : List Int) (t : List Int) : Int := match lookT (tabD n ns) t with
  | some (.int s) => s
  | _ => 0
def LotOk (n : Int) (ns : List Int) (t : List Int) : Prop := lookT (tabD n ns) t = some (.int (sgA n ns t))
def signs4 (n : Int) (ns : List Int) : List Int → List Int
  | [i, j, k, m] => [sgA n ns [i, j, k], sgA n ns [i, j, m], sgA n ns [i, k, m], sgA n ns [j, k, m]]
  | _ => []
def FourOk (n : Int) (ns : List Int) (q : List Int) : Prop := ∃ i j k m, q = [i, j, k, m] ∧ LotOk n ns [i, j, k] ∧ LotOk n ns [i, j, m] ∧ LotOk n ns [i, k, m] ∧ LotOk n ns [j, k, m]
def badQ (n : Int) (ns : List Int) (q : List Int) : Bool := !goodL (signs4 n ns q)
def badF (n : Int) (ns : List Int) : Option (List Int) := (sub4 (rngZ n)).find? (badQ n ns)
def optD : Option (List Int) → D
  | some q => tupI q
  | none => .non
theorem nm1 : ¬ (("lot_sign" : Str) = "_table") := by decide +kernel
theorem nm2 : ¬ (("lot_sign" : Str) = "lines") := by decide +kernel
theorem nm3 : ¬ (("lot_sign" : Str) = "signs") := by decide +kernel
theorem nm4 : ¬ (("lot_sign" : Str) = "size") := by decide +kernel
section
variable {P : Program} {w : World} {K : PySem.W.Frag} {mg : Str → Option Value} {base : Heap} {f : Addr} {fd : FuncData} {k : Nat} {C : Addr}
abbrev sLot : Stmt := inClass (topS 36) 8
theorem scLot : FnScope ["self", "three"] ["self", "three"] (defScope sLot) := ⟨rfl, rfl, rfl, by decide +kernel, rfl, by decide +kernel, by decide +kernel⟩
def gLot (C : Addr) : GG := fun rs ow r ow' => ∃ (n : Int) (ns t : List Int), rs = [.d (chartD C n ns), .d (tupI t)] ∧ LotOk n ns t ∧ r = .d (.int (sgA n ns t)) ∧ ow' = ow
theorem ok_lot (F : Fun K "lot_sign" "Chart.lot_sign" sLot f fd) (T : ChTxt K C) : FnOk P w K mg base CX0 (k + 1) f fd ["self", "three"] (spF K (gLot C)) := by
  refine okF F scLot (fun rs ow r ow' h => ?_) (fun cdv A outer s H E hr rs ow r ow' h => ?_)
  · obtain ⟨n, ns, t, rfl, _⟩ := h
    rfl
  · obtain ⟨n, ns, t, rfl, hl, rfl, rfl⟩ := h
    exact pbd_last (psd_ret (pd_getT (Nat.lt_of_le_of_lt (Nat.add_le_add_left (by decide) _) hr.units) (pd_fld (pd_var 0) T.cl T.table (chF_table n ns)) (pd_var 1) hl))
abbrev sSigns4 : Stmt := topS 31
theorem scSigns4 : FnScope ["chart", "four", "i", "j", "k", "m", "three"] ["chart", "four"] (defScope sSigns4) := ⟨rfl, rfl, rfl, by decide +kernel, rfl, by decide +kernel, by decide +kernel⟩
def gSigns4 (C : Addr) : GG := fun rs ow r ow' => ∃ (n : Int) (ns q : List Int) (x : D), rs = [.d (chartD C n ns), .d x] ∧ tupL x = some (q.map D.int) ∧ FourOk n ns q ∧ r = .d (.tupN ((signs4 n ns q).map D.int)) ∧ ow' = ow
theorem ok_signs4 (F : Fun K "signs_of_four" "signs_of_four" sSigns4 f fd) (T : ChTxt K C) (M1 : Mt P w K mg base C "lot_sign" k ["self", "three"] (gLot C)) (mT : mg "tuple" = none) : FnOk P w K mg base CX0 (k + 1) f fd ["chart", "four"] (spF K (gSigns4 C)) := by
  refine okF F scSigns4 (fun rs ow r ow' h => ?_) (fun cdv A outer s H E hr rs ow r ow' h => ?_)
  · obtain ⟨n, ns, q, x, rfl, _⟩ := h
    rfl
  · obtain ⟨n, ns, q, x, rfl, hx, ⟨a, b, c, d, rfl, l1, l2, l3, l4⟩, rfl, rfl⟩ := h
    refine pbd_cons (psd_asgT (vs := [2, 3, 4, 5]) (pd_var 1) (pgd_tup rfl (pgsd_cons (pgd_name 2 scSigns4.nd) (pgsd_cons (pgd_name 3 scSigns4.nd) (pgsd_cons (pgd_name 4 scSigns4.nd) (pgsd_cons (pgd_name 5 scSigns4.nd) pgsd_nil)))) hx)) ?_
    refine pbd_last (psd_ret (pd_tupleLN (ds := (signs4 n ns [a, b, c, d]).map D.int) mT (padd_cons (pd_eqD (pd_lc (own := [("three", 6)]) [[a, b, c], [a, b, d], [a, c, d], [b, c, d]] tupI (fun t => [some (.d (chartD C n ns)), some (.d x), some (.d (.int a)), some (.d (.int b)), some (.d (.int c)), some (.d (.int d)), some (.d (tupI t))]) (fun _ => true) (fun t => .int (sgA n ns t))
      rfl scSigns4.nd (pid_tup (pd_tup (padd_cons (pd_tup (padd_cons (pd_var 2) (padd_cons (pd_var 3) (padd_cons (pd_var 4) padd_nil)))) (padd_cons (pd_tup (padd_cons (pd_var 2) (padd_cons (pd_var 3) (padd_cons (pd_var 5) padd_nil)))) (padd_cons (pd_tup (padd_cons (pd_var 2) (padd_cons (pd_var 4) (padd_cons (pd_var 5) padd_nil)))) (padd_cons (pd_tup (padd_cons (pd_var 3) (padd_cons (pd_var 4) (padd_cons (pd_var 5) padd_nil)))) padd_nil)))))) (blkOk_by (N := ["chart", "four", "i", "j", "k", "m", "three"]) (sc := defScope sSigns4) (by decide +kernel)) (by show 4 ≤ 40000; decide)
      (fun t ht _ H C' cl fp => pgd_name 6 scSigns4.nd) (fun t ht l _ H C' cl fp => ptsd_nil) (fun t ht _ l _ H C' cl fp => ?_)) rfl) padd_nil)))
    refine pd_mt M1 (pd_var 0) T.cl hr (Nat.le_refl _) (padd_cons (pd_var 6) padd_nil) (chF_no n ns nm1 nm2 nm3 nm4) ⟨n, ns, t, rfl, ?_, rfl, rfl⟩
    simp only [List.mem_cons, List.not_mem_nil, or_false] at ht
    rcases ht with rfl | rfl | rfl | rfl
    · exact l1
    · exact l2
    · exact l3
    · exact l4
abbrev sCheckChart : Stmt := topS 32
theorem scCheckChart : FnScope ["chart"] ["chart"] (defScope sCheckChart) := ⟨rfl, rfl, rfl, by decide +kernel, rfl, by decide +kernel, by decide +kernel⟩
def gCheckChart (C : Addr) : GG := fun rs ow r ow' => ∃ gs, rs = [.d (.ins C gs)] ∧ r = .d (.ins C gs) ∧ ow' = ow
theorem ok_checkChart (F : Fun K "check_chart" "check_chart" sCheckChart f fd) (oc : OwnC K C) (mI : mg "isinstance" = none) (mC : mg "Chart" = some (.ref C)) : FnOk P w K mg base CX0 (k + 1) f fd ["chart"] (spF K (gCheckChart C)) := by
  refine okF F scCheckChart (fun rs ow r ow' h => ?_) (fun cdv A outer s H E hr rs ow r ow' h => ?_)
  · obtain ⟨gs, rfl, _⟩ := h
    rfl
  · obtain ⟨gs, rfl, rfl, rfl⟩ := h
    exact pbd_skip (ptd_not (ptd_val (pd_isC mI mC oc (pd_var 0)))) rfl (pbd_last (psd_ret (pd_var 0)))
/-! ### bad, sound -/
abbrev sBad : Stmt := inClass (topS 36) 4
theorem scBad : FnScope ["self", "four"] ["self"] (defScope sBad) := ⟨rfl, rfl, rfl, by decide +kernel, rfl, by decide +kernel, by decide +kernel⟩
def gBad (C : Addr) : GG := fun rs ow r ow' => ∃ (n : Int) (ns : List Int), rs = [.d (chartD C n ns)] ∧ n ≤ 13 ∧ (∀ q ∈ sub4 (rngZ n), FourOk n ns q) ∧ r = .d (optD (badF n ns)) ∧ ow' = ow
theorem s4len {n : Int} {ns q : List Int} (h : FourOk n ns q) : (signs4 n ns q).length = 4 := by
  obtain ⟨i, j, k, m, rfl, _⟩ := h
  rfl
theorem ok_bad (F : Fun K "bad" "Chart.bad" sBad f fd) (T : ChTxt K C) (C1 : Fg P w K mg base "fours_in" k ["names"] (gSub sub4)) (C2 : Fg P w K mg base "good_row" k ["row"] gGoodRow) (C3 : Fg P w K mg base "signs_of_four" k ["chart", "four"] (gSigns4 C)) : FnOk P w K mg base CX0 (k + 1) f fd ["self"] (spF K (gBad C)) := by
  refine okF F scBad (fun rs ow r ow' h => ?_) (fun cdv A outer s H E hr rs ow r ow' h => ?_)
  · obtain ⟨n, ns, rfl, _⟩ := h
    rfl
  · obtain ⟨n, ns, rfl, hn, hq, rfl, rfl⟩ := h
    refine pbd_find [1] [some (.d (chartD C n ns)), none] (sub4 (rngZ n)) tupI (badQ n ns) (fun q => .d (tupI q)) (fun q => [some (.d (chartD C n ns)), some (.d (tupI q))]) PassesOwn.never rfl
      (pid_eq (pid_list (pd_cg C1 hr (Nat.le_refl _) (padd_cons (pd_fld (pd_var 0) T.cl T.lines (chF_lines n ns)) padd_nil) ⟨true, (rngZ n).map D.int, rfl, by rw [List.length_map, rngZ_len]; omega, rfl, rfl⟩)) (by rw [sub4_map, List.map_map]; rfl)) ⟨rfl, fun i r h => h⟩ (fun q hm => pgd_name 1 scBad.nd)
      (fun q hm hb => pbd_weak (pbd_skip (ptd_not (ptd_val (pd_cg C2 hr (Nat.le_refl _) (padd_cons (pd_cg C3 hr (Nat.le_refl _) (padd_cons (pd_var 0) (padd_cons (pd_var 1) padd_nil)) ⟨n, ns, q, tupI q, rfl, rfl, hq q hm, rfl, rfl⟩) padd_nil) ⟨signs4 n ns q, rfl, s4len (hq q hm), rfl, rfl⟩))) hb pbd_nil) rfl (by (intro i r h; rcases i with _ | _ | _ | _ | _ | _ | _ | _ | _ | i <;> first | exact h | cases h)))
      (fun q hm hb => pbd_take (ptd_not (ptd_val (pd_cg C2 hr (Nat.le_refl _) (padd_cons (pd_cg C3 hr (Nat.le_refl _) (padd_cons (pd_var 0) (padd_cons (pd_var 1) padd_nil)) ⟨n, ns, q, tupI q, rfl, rfl, hq q hm, rfl, rfl⟩) padd_nil) ⟨signs4 n ns q, rfl, s4len (hq q hm), rfl, rfl⟩))) hb (pbd_last (psd_ret (pd_var 1))))
      (fun he => ?_) (fun q he => ?_)
    · have e : badF n ns = none := he
      rw [e]
      exact pbd_last (psd_ret pd_non)
    · have e : badF n ns = some q := he
      rw [e]
      rfl
/-! ### lots of lines -/
abbrev sLotFrom : Stmt := topS 25
theorem scLotFrom : FnScope ["value", "size", "at", "line"] ["value", "size"] (defScope sLotFrom) := ⟨rfl, rfl, rfl, by decide +kernel, rfl, by decide +kernel, by decide +kernel⟩
def LotIn (m : Int) (qs : List Int) : Prop := qs.Nodup ∧ (∀ q ∈ qs, 0 ≤ q ∧ q < m) ∧ qs.length < 64
theorem nodup_take {qs : List Int} (h : qs.Nodup) {i : Nat} {q : Int} (hi : qs[i]? = some q) : q ∉ qs.take i := fun hm => by
  obtain ⟨j, hj, e⟩ := List.mem_iff_getElem.mp hm
  rw [List.length_take] at hj
  rw [List.getElem_take] at e
  obtain ⟨hl, e2⟩ := List.getElem?_eq_some_iff.mp hi
  have := (List.getElem_inj h).mp (e.trans e2.symm)
  omega
end
end Bl
set_option Elab.async false
set_option linter.all false
set_option maxRecDepth 100000
set_option maxHeartbeats 4000000
namespace Bl
open PySem PySem.Spec PyProof.Rows L2
/-! ### rules -/
theorem nonD_opt (q : Option (List Int)) : nonD (optD q) = !q.isSome := by cases q <;> rfl
end Bl
set_option Elab.async false
set_option linter.all false
set_option maxRecDepth 100000
set_option maxHeartbeats 4000000
namespace Bl
open PySem PySem.Spec PyProof.Rows L2
section
variable {X : Cx} {e : Expr} {es : List Expr} {ss : List Stmt} {st st1 : Sta} {ow ow1 : List OB} {d : D} {ds l : List D} {pos : Pos}
/-- a function's mutable list, returned, is data for its caller -/
theorem pbd_frzR (h : PBD X st ow ss (.ret (.own ow1.length) (ow1 ++ [.l l]))) (hl : ow.length = ow1.length) (hb : KeepG ow ow1 := by first | exact ⟨fun _ h => h, fun _ h => h⟩ | (refine ⟨?_, ?_⟩ <;> (intro gs h; simp at h ⊢; assumption))) : PBD X st ow ss (.ret (.d (.lst l)) ow1) :=
  h.imp fun E σ H ⟨S, sl, o, k⟩ => ⟨S, sl, o, fun S1 v H1 f1 o1 d1 => by
    obtain ⟨g1, g2, g3⟩ := owns_drop f1 o o1 hl hb d1
    exact k S v H1 g1 g2 (.d g3)⟩
theorem pbd_frzRT {gs : List (List Key × D)} (h : PBD X st ow ss (.ret (.own ow1.length) (ow1 ++ [.t gs]))) (hl : ow.length = ow1.length) (hb : KeepG ow ow1 := by first | exact ⟨fun _ h => h, fun _ h => h⟩ | (refine ⟨?_, ?_⟩ <;> (intro gs h; simp at h ⊢; assumption))) : PBD X st ow ss (.ret (.d (.dT gs)) ow1) :=
  h.imp fun E σ H ⟨S, sl, o, k⟩ => ⟨S, sl, o, fun S1 v H1 f1 o1 d1 => by
    obtain ⟨g1, g2, g3⟩ := owns_dropT f1 o o1 hl hb d1
    exact k S v H1 g1 g2 (.d g3)⟩
theorem pgd_lst {vs : List Nat} {k : Nat} {es : List Expr} (hc : X.calm = true) (h : PGsD X vs st ds es st1) (hn : (assignEach es X.env).length = ds.length := by rfl) (hst : (assignEach es X.env).findIdx? (·.1) = none := by rfl) : PGD X vs st (.lst ds) (.Tuple es k pos) st1 :=
  (pg_unl hc h hn hst).imp fun v σ H Q ⟨S, sl, dd, k⟩ => by
    obtain ⟨a, xs, rfl, h1, h2⟩ := dd.of_lst
    exact ⟨a, xs, rfl, h1.sq, Dens.length h2, S, sl, h2, k⟩
theorem set_same {ow : List OB} {k : Nat} {b : OB} (h : ow[k]? = some b) : ow.set k b = ow := by
  apply List.ext_getElem?
  intro i
  rw [List.getElem?_set]
  split
  · rename_i e
    subst e
    split
    · exact h.symm
    · rename_i hn
      exact (List.getElem?_eq_none (by omega)).symm
  · rfl
end
end Bl
set_option Elab.async false
set_option linter.all false
set_option maxRecDepth 100000
set_option maxHeartbeats 4000000
namespace Bl
open PySem PySem.Spec PyProof.Rows L2
/-! ### the law's own defs -/
def nextV (ps : List Int) (m : Int) : Int := match ps.getLast? with
  | none => 0
  | some x => x % m
def gI (ns : List Int) (i : Int) : Int := (atI ns i).getD 0
def AtOk (ns : List Int) (i : Int) : Prop := (atI ns i).isSome = true
theorem at_map {ns : List Int} {i : Int} (h : AtOk ns i) : atI (ns.map D.int) i = some (.int (gI ns i)) := by
  unfold AtOk at h
  unfold gI
  have e : atI (ns.map D.int) i = (atI ns i).map D.int := by
    unfold atI
    rw [List.length_map]
    cases ixN ns.length i with
    | none => rfl
    | some j => show (ns.map D.int)[j]? = (ns[j]?).map D.int; rw [List.getElem?_map]
  rw [e]
  cases h2 : atI ns i with
  | none => rw [h2] at h; cases h
  | some v => rfl
section
variable {P : Program} {w : World} {K : PySem.W.Frag} {mg : Str → Option Value} {base : Heap} {f : Addr} {fd : FuncData} {k : Nat} {C : Addr}
abbrev sNext : Stmt := topS 46
theorem scNext : FnScope ["_law_pool_here", "_law_many"] ["_law_pool_here", "_law_many"] (defScope sNext) := ⟨rfl, rfl, rfl, by decide +kernel, rfl, by decide +kernel, by decide +kernel⟩
def gNext : GG := fun rs ow r ow' => ∃ (k : Nat) (m : Int) (ps : List Int), rs = [.own k, .d (.int m)] ∧ ow[k]? = some (.l (ps.map D.int)) ∧ 0 < m ∧ r = .d (.int (nextV ps m)) ∧ ow' = ow.set k (.l (ps.dropLast.map D.int))
theorem ok_next (F : Fun K "_law_next" "_law_next" sNext f fd) (mN : mg "len" = none) (mI : mg "int" = none) : FnOk P w K mg base CX0 (k + 1) f fd ["_law_pool_here", "_law_many"] (spF K gNext) := by
  refine okF F scNext (fun rs ow r ow' h => ?_) (fun cdv A outer s H E hr rs ow r ow' h => ?_)
  · obtain ⟨k, m, ps, rfl, _⟩ := h
    rfl
  · obtain ⟨k, m, ps, rfl, hk, hm, rfl, rfl⟩ := h
    cases hp : ps.getLast? with
    | none =>
      have e : ps = [] := List.getLast?_eq_none_iff.mp hp
      subst e
      refine pbd_take (ptd_eq (pd_lenO mN (pd_var 0) hk) pd_int) rfl ?_
      have e2 : ow.set k (.l ((([] : List Int).dropLast).map D.int)) = ow := set_same hk
      rw [e2]
      exact pbd_last (psd_ret pd_int)
    | some x =>
      obtain ⟨qs, rfl⟩ : ∃ qs, ps = qs ++ [x] := List.getLast?_eq_some_iff.mp hp
      refine pbd_skip (ptd_eq (pd_lenO mN (pd_var 0) hk) pd_int) (by rw [iv_eq, List.length_map, List.length_append]; exact decide_eq_false (by simp only [List.length_cons, List.length_nil]; omega)) ?_
      have ev : nextV (qs ++ [x]) m = x % m := by unfold nextV; rw [hp]
      rw [ev, List.dropLast_concat]
      exact pbd_last (psd_ret (pd_mod (pd_int1 mI (padd_cons (pd_pop (pd_var 0) (by rw [hk, List.map_append]; rfl)) padd_nil)) (pd_var 1) hm))
abbrev sLInt : Stmt := topS 58
theorem scLInt : FnScope ["_law_value"] ["_law_value"] (defScope sLInt) := ⟨rfl, rfl, rfl, by decide +kernel, rfl, by decide +kernel, by decide +kernel⟩
theorem ok_lint (F : Fun K "_law_int" "_law_int" sLInt f fd) (mI : mg "isinstance" = none) (m1 : mg "int" = none) (m2 : mg "bool" = none) : FnOk P w K mg base CX0 (k + 1) f fd ["_law_value"] (spF K gIsInt) := by
  refine okF F scLInt (fun rs ow r ow' h => ?_) (fun cdv A outer s H E hr rs ow r ow' h => ?_)
  · obtain ⟨d, t, rfl, _⟩ := h
    rfl
  · obtain ⟨d, t, rfl, ht, rfl, rfl⟩ := h
    obtain ⟨q1, q2, h1, h2, h3⟩ : ∃ q1 q2 : Bool, kitB t "int" = some q1 ∧ kitB t "bool" = some q2 ∧ (q1 && !q2) = isI d := by
      cases d <;> cases ht <;> first | exact ⟨false, false, by decide +kernel, by decide +kernel, rfl⟩ | exact ⟨true, false, by decide +kernel, by decide +kernel, rfl⟩ | exact ⟨true, true, by decide +kernel, by decide +kernel, rfl⟩
    exact pbd_last (psd_ret (pd_eqB (pd_and (rest := []) (pd_isB mI (padd_cons (pd_var 0) (padd_cons (pd_ty m1) padd_nil)) q1 ht h1) (fun _ => pd_one (pd_not (pd_isB mI (padd_cons (pd_var 0) (padd_cons (pd_ty m2) padd_nil)) q2 ht h2)))) h3))
theorem pd_ow {X : Cx} {st : Sta} {ow owA owB : List OB} {e : Expr} {r : R} (h : PD X st ow e r owA) (he : owA = owB) : PD X st ow e r owB := he ▸ h
theorem app_get {ow : List OB} {l : List D} : (ow ++ [.l l])[ow.length]? = some (.l l) := by rw [List.getElem?_append_right (Nat.le_refl _), Nat.sub_self]; rfl
end
end Bl
set_option Elab.async false
set_option linter.all false
set_option maxRecDepth 100000
set_option maxHeartbeats 4000000
set_option Elab.async false
set_option linter.all false
set_option maxRecDepth 100000
set_option maxHeartbeats 4000000
namespace Bl
open PySem PySem.Spec PyProof.Rows L2
/-! ### the pool of drawn numbers -/
def bigC (c : Int) : Nat → Int
  | 0 => c
  | i + 1 => if 0 < bigC c i then bigC c i / 30 else bigC c i
def bigA (c : Int) : Nat → List Int
  | 0 => []
  | i + 1 => if 0 < bigC c i then bigA c i ++ [bigC c i % 30] else bigA c i
def smN (c at_ : Int) : Nat → Int
  | 0 => (c * 30011 + at_ * 4513 + 77) % 1000003
  | i + 1 => (smN c at_ i * smN c at_ i + (0 + (i : Int)) * 911 + at_ + 3) % 999983
def smA (c at_ : Int) : Nat → List Int
  | 0 => []
  | i + 1 => smA c at_ i ++ [smN c at_ (i + 1) / 7]
def posC (c : Int) : Int := if c < 0 then 2 - c else c
def cellA (at_ c : Int) : List Int := if (10 : Int) ^ (18 : Int).toNat ≤ posC c then bigA (posC c) 48 else smA (posC c) at_ 5
def poolP (ss : List Int) : Nat → List Int
  | 0 => []
  | i + 1 => poolP ss i ++ cellA (0 + (i : Int)) (ss.getD i 0)
def poolZ (ss : List Int) : List Int := (poolP ss (min ss.length 63)).reverse
theorem bigA_len (c : Int) : ∀ i, (bigA c i).length ≤ i
  | 0 => Nat.le_refl _
  | i + 1 => by
    have := bigA_len c i
    unfold bigA
    split
    · rw [List.length_append]; simp only [List.length_cons, List.length_nil]; omega
    · omega
theorem smA_len (c a : Int) : ∀ i, (smA c a i).length = i
  | 0 => rfl
  | i + 1 => by unfold smA; rw [List.length_append, smA_len c a i]; rfl
theorem cellA_len (a c : Int) : (cellA a c).length ≤ 48 := by
  unfold cellA
  split
  · exact bigA_len _ 48
  · rw [smA_len]; decide
theorem poolP_len (ss : List Int) : ∀ i, (poolP ss i).length ≤ 48 * i
  | 0 => Nat.le_refl _
  | i + 1 => by
    have := poolP_len ss i
    have h2 := cellA_len (0 + (i : Int)) (ss.getD i 0)
    unfold poolP
    rw [List.length_append]
    omega
theorem smN_rng (c a : Int) : ∀ i, 0 ≤ smN c a i ∧ smN c a i < 1000003
  | 0 => ⟨Int.emod_nonneg _ (by decide), Int.emod_lt_of_pos _ (by decide)⟩
  | i + 1 => ⟨Int.emod_nonneg _ (by decide), Int.lt_trans (Int.emod_lt_of_pos _ (by decide)) (by decide)⟩
theorem rng_at {n i : Nat} {d : D} (h : (rngD 0 n)[i]? = some d) : d = .int (0 + (i : Int)) ∧ i < n := by
  obtain ⟨j, hj, rfl⟩ := map_some_of h
  have h1 := List.getElem?_eq_some_iff.mp hj
  have h2 := h1.1
  rw [List.length_range] at h2
  have h3 := h1.2
  rw [List.getElem_range] at h3
  exact ⟨by rw [h3], h2⟩
section
variable {P : Program} {w : World} {K : PySem.W.Frag} {mg : Str → Option Value} {base : Heap} {f : Addr} {fd : FuncData} {k : Nat} {C : Addr}
abbrev sPool : Stmt := topS 45
theorem scPool : FnScope ["_law_script", "_law_pool_here", "_law_at", "_law_cell", "_law_turn", "_law_number"] ["_law_script"] (defScope sPool) := ⟨rfl, rfl, rfl, by decide +kernel, rfl, by decide +kernel, by decide +kernel⟩
def gPool : GG := fun rs ow r ow' => ∃ ss : List Int, rs = [.d (.lst (ss.map D.int))] ∧ ss.length ≤ 63 ∧ r = .own ow.length ∧ ow' = ow ++ [.l ((poolZ ss).map D.int)]
abbrev pSt (ss : List Int) (k : Nat) (a b c d : Option R) : Sta := [some (.d (.lst (ss.map D.int))), some (.own k), a, b, c, d]
theorem ok_pool (F : Fun K "_law_pool" "_law_pool" sPool f fd) (mR : mg "range" = none) (mN : mg "len" = none) (mM : mg "min" = none) (mI : mg "int" = none) : FnOk P w K mg base CX0 (k + 1) f fd ["_law_script"] (spF K gPool) := by
  refine okF F scPool (fun rs ow r ow' h => ?_) (fun cdv A outer s H E hr rs ow r ow' h => ?_)
  · obtain ⟨n, rfl, _⟩ := h
    rfl
  · obtain ⟨ss, rfl, hl, rfl, rfl⟩ := h
    refine pbd_cons (psd_set 1 scPool.nd (pd_lstO padd_nil)) ?_
    refine pbd_cons (psd_forG [2] (fun _ => pSt ss ow.length none none none none) (fun i => ow ++ [.l ((poolP ss i).map D.int)]) none (fun i => pSt ss ow.length (some (.d (.int (0 + (i : Int))))) none none none) (fun i => .nx (pSt ss ow.length none none none none) (ow ++ [.l ((poolP ss (i + 1)).map D.int)])) (xs := rngD 0 (min ss.length 63)) PassesOwn.never rfl
      (pid_eq (pid_range1 mR (padd_cons (pd_min2 rfl mM (padd_cons (pd_lenL mN (padd_cons (pd_var 0) padd_nil)) (padd_cons pd_int padd_nil))) padd_nil) ?_) ?_) ⟨rfl, fun i r h => h⟩ rfl (fun i d hd _ => ?_) (fun i d hd _ => ?_) (fun i hi _ => .inl rfl) rfl) ?_
    · rw [List.length_map]
      split <;> omega
    · rw [List.length_map]
      congr 1
      split <;> omega
    · obtain ⟨rfl, hi⟩ := rng_at hd
      exact pgd_name 2 scPool.nd
    · obtain ⟨rfl, hi⟩ := rng_at hd
      have hil : i < ss.length := by omega
      have hpl := poolP_len ss i
      have hat : atI (ss.map D.int) (0 + (i : Int)) = some (.int (ss.getD i 0)) := by
        unfold atI ixN
        rw [List.length_map, if_pos (by omega), if_pos (by omega)]
        show (ss.map D.int)[(0 + (i : Int)).toNat]? = _
        rw [show (0 + (i : Int)).toNat = i by omega, List.getElem?_map, List.getElem?_eq_getElem hil, List.getD_eq_getElem?_getD, List.getElem?_eq_getElem hil]
        rfl
      refine pbd_cons (psd_set 3 scPool.nd (pd_int1 mI (padd_cons (pd_ixL (pd_var 0) (pd_var 2) hat) padd_nil))) ?_
      refine pbd_cons (psd_if (out := .nx (pSt ss ow.length (some (.d (.int (0 + (i : Int))))) (some (.d (.int (posC (ss.getD i 0))))) none none) (ow ++ [.l ((poolP ss i).map D.int)])) (ptd_lt (pd_var 3) pd_int) (fun hb => ?_) (fun hb => ?_)) ?_
      · unfold posC
        rw [if_pos (of_decide_eq_true hb)]
        exact pbd_cons (psd_set 3 scPool.nd (pd_sub pd_int (pd_var 3))) pbd_nil
      · unfold posC
        rw [if_neg (of_decide_eq_false hb)]
        exact pbd_nil
      have eP : poolP ss (i + 1) = poolP ss i ++ cellA (0 + (i : Int)) (ss.getD i 0) := rfl
      rw [eP]
      unfold cellA
      refine pbd_cons (psd_if (out := .nx _ _) (ptd_ge (pd_var 3) (pd_pow pd_int pd_int ⟨by decide, by decide, by decide⟩)) (fun hb => ?_) (fun hb => ?_)) pbd_nil
      · rw [if_pos (of_decide_eq_true hb)]
        generalize posC (ss.getD i 0) = c
        refine pbd_weak (st1 := pSt ss ow.length (some (.d (.int (0 + (i : Int))))) (some (.d (.int (bigC c 48)))) none none) (pbd_cons (psd_forG [4] (fun j => pSt ss ow.length (some (.d (.int (0 + (i : Int))))) (some (.d (.int (bigC c j)))) none none) (fun j => ow ++ [.l ((poolP ss i ++ bigA c j).map D.int)]) none (fun j => pSt ss ow.length (some (.d (.int (0 + (i : Int))))) (some (.d (.int (bigC c j)))) (some (.d (.int (0 + (j : Int))))) none) (fun j => .nx (pSt ss ow.length (some (.d (.int (0 + (i : Int))))) (some (.d (.int (bigC c (j + 1))))) none none) (ow ++ [.l ((poolP ss i ++ bigA c (j + 1)).map D.int)])) (xs := rngD 0 48) PassesOwn.never rfl
          (pid_range1 mR (padd_cons pd_int padd_nil) (by decide)) ⟨rfl, by (intro i r h; rcases i with _ | _ | _ | _ | _ | _ | _ | _ | _ | i <;> first | exact h | cases h)⟩ (by show ow ++ [.l ((poolP ss i ++ []).map D.int)] = _; rw [List.append_nil]) (fun j d hd _ => ?_) (fun j d hd _ => ?_) (fun j hj _ => .inl rfl) rfl) pbd_nil) rfl (by (intro i r h; rcases i with _ | _ | _ | _ | _ | _ | _ | _ | _ | i <;> first | exact h | cases h))
        · obtain ⟨rfl, hj⟩ := rng_at hd
          exact pgd_name 4 scPool.nd
        · obtain ⟨rfl, hj⟩ := rng_at hd
          have hbl := bigA_len c j
          refine pbd_weak (st1 := pSt ss ow.length (some (.d (.int (0 + (i : Int))))) (some (.d (.int (bigC c (j + 1))))) (some (.d (.int (0 + (j : Int))))) none) (pbd_cons (psd_if (ptd_gt (pd_var 3) pd_int) (fun hb2 => ?_) (fun hb2 => ?_)) pbd_nil) rfl (by (intro i r h; rcases i with _ | _ | _ | _ | _ | _ | _ | _ | _ | i <;> first | exact h | cases h))
          · have hp : 0 < bigC c j := of_decide_eq_true hb2
            rw [show bigC c (j + 1) = if 0 < bigC c j then bigC c j / 30 else bigC c j from rfl, show bigA c (j + 1) = if 0 < bigC c j then bigA c j ++ [bigC c j % 30] else bigA c j from rfl, if_pos hp, if_pos hp]
            refine pbd_cons (psd_expr (pd_ow (pd_append (pd_var 1) (pd_mod (pd_int1 mI (padd_cons (pd_var 3) padd_nil)) pd_int (by decide)) ⟨_, app_get⟩ app_get (by rw [List.length_map, List.length_append]; omega)) ?_)) (pbd_cons (psd_set 3 scPool.nd (pd_fdiv (pd_var 3) pd_int ⟨by decide, by decide⟩)) pbd_nil)
            rw [set_last, ← List.append_assoc, List.map_append (l₁ := poolP ss i ++ bigA c j)]
            rfl
          · have hp : ¬ 0 < bigC c j := of_decide_eq_false hb2
            rw [show bigC c (j + 1) = if 0 < bigC c j then bigC c j / 30 else bigC c j from rfl, show bigA c (j + 1) = if 0 < bigC c j then bigA c j ++ [bigC c j % 30] else bigA c j from rfl, if_neg hp, if_neg hp]
            exact pbd_nil
      · rw [if_neg (of_decide_eq_false hb)]
        generalize posC (ss.getD i 0) = c
        refine pbd_cons (psd_set 5 scPool.nd (pd_mod (pd_int1 mI (padd_cons (pd_add (pd_add (pd_mul (pd_var 3) pd_int (.inr ⟨by decide, by decide⟩)) (pd_mul (pd_var 2) pd_int (.inr ⟨by decide, by decide⟩))) pd_int) padd_nil)) pd_int (by decide))) ?_
        refine pbd_weak (st1 := pSt ss ow.length (some (.d (.int (0 + (i : Int))))) (some (.d (.int c))) none (some (.d (.int (smN c (0 + (i : Int)) 5))))) (pbd_cons (psd_forG [4] (fun j => pSt ss ow.length (some (.d (.int (0 + (i : Int))))) (some (.d (.int c))) none (some (.d (.int (smN c (0 + (i : Int)) j))))) (fun j => ow ++ [.l ((poolP ss i ++ smA c (0 + (i : Int)) j).map D.int)]) none (fun j => pSt ss ow.length (some (.d (.int (0 + (i : Int))))) (some (.d (.int c))) (some (.d (.int (0 + (j : Int))))) (some (.d (.int (smN c (0 + (i : Int)) j))))) (fun j => .nx (pSt ss ow.length (some (.d (.int (0 + (i : Int))))) (some (.d (.int c))) none (some (.d (.int (smN c (0 + (i : Int)) (j + 1)))))) (ow ++ [.l ((poolP ss i ++ smA c (0 + (i : Int)) (j + 1)).map D.int)])) (xs := rngD 0 5) PassesOwn.never rfl
          (pid_range1 mR (padd_cons pd_int padd_nil) (by decide)) ⟨rfl, by (intro i r h; rcases i with _ | _ | _ | _ | _ | _ | _ | _ | _ | i <;> first | exact h | cases h)⟩ (by show ow ++ [.l ((poolP ss i ++ []).map D.int)] = _; rw [List.append_nil]) (fun j d hd _ => ?_) (fun j d hd _ => ?_) (fun j hj _ => .inl rfl) rfl) pbd_nil) rfl (by (intro i r h; rcases i with _ | _ | _ | _ | _ | _ | _ | _ | _ | i <;> first | exact h | cases h))
        · obtain ⟨rfl, hj⟩ := rng_at hd
          exact pgd_name 4 scPool.nd
        · obtain ⟨rfl, hj⟩ := rng_at hd
          have hsl := smA_len c (0 + (i : Int)) j
          obtain ⟨n0, n1⟩ := smN_rng c (0 + (i : Int)) j
          refine pbd_weak (st1 := pSt ss ow.length (some (.d (.int (0 + (i : Int))))) (some (.d (.int c))) (some (.d (.int (0 + (j : Int))))) (some (.d (.int (smN c (0 + (i : Int)) (j + 1)))))) (pbd_cons (psd_set 5 scPool.nd (pd_mod (pd_int1 mI (padd_cons (pd_add (pd_add (pd_add (pd_mul (pd_var 5) (pd_var 5) (.inl ⟨by omega, by omega⟩)) (pd_mul (pd_var 4) pd_int (.inr ⟨by decide, by decide⟩))) (pd_var 2)) pd_int) padd_nil)) pd_int (by decide))) (pbd_cons (psd_expr (pd_ow (pd_append (pd_var 1) (pd_fdiv (pd_var 5) pd_int ⟨by decide, by decide⟩) ⟨_, app_get⟩ app_get (by rw [List.length_map, List.length_append]; omega)) ?_)) pbd_nil)) rfl (by (intro i r h; rcases i with _ | _ | _ | _ | _ | _ | _ | _ | _ | i <;> first | exact h | cases h))
          rw [set_last]
          rw [show smA c (0 + (i : Int)) (j + 1) = smA c (0 + (i : Int)) j ++ [smN c (0 + (i : Int)) (j + 1) / 7] from rfl, ← List.append_assoc, List.map_append (l₁ := poolP ss i ++ smA c (0 + (i : Int)) j)]
          rfl
    · refine pbd_cons (psd_expr (pd_ow (pd_reverse (pd_var 1) app_get) (owB := ow ++ [.l ((poolZ ss).map D.int)]) ?_)) (pbd_last (psd_ret (pd_var 1)))
      rw [set_last]
      have e : (rngD 0 (min ss.length 63)).length = min ss.length 63 := by unfold rngD; rw [List.length_map, List.length_range]
      rw [e]
      unfold poolZ
      rw [List.map_reverse]
end
end Bl
set_option Elab.async false
set_option linter.all false
set_option maxRecDepth 100000
set_option maxHeartbeats 4000000
namespace Bl
open PySem PySem.Spec PyProof.Rows L2
/-! ### the faulty row -/
theorem nextV_rng (ps : List Int) {m : Int} (h : 0 < m) : 0 ≤ nextV ps m ∧ nextV ps m < m := by
  unfold nextV
  cases ps.getLast? with
  | none => exact ⟨Int.le_refl _, h⟩
  | some x => exact ⟨Int.emod_nonneg _ (by omega), Int.emod_lt_of_pos _ h⟩
section
variable {P : Program} {w : World} {K : PySem.W.Frag} {mg : Str → Option Value} {base : Heap} {f : Addr} {fd : FuncData} {k : Nat} {C : Addr}
theorem psd_ow {X : Cx} {s : Stmt} {st st1 : Sta} {ow owA owB : List OB} (h : PSD X st ow s (.nx st1 owA)) (he : owA = owB) : PSD X st ow s (.nx st1 owB) := he ▸ h
end
end Bl
set_option Elab.async false
set_option linter.all false
set_option maxRecDepth 100000
set_option maxHeartbeats 4000000
namespace Bl
open PySem PySem.Spec PyProof.Rows L2
/-! ### dicts with tuples for keys, that change -/
def putT (gs : List (List Key × D)) (k : List Key) (d : D) : List (List Key × D) :=
  if (gs.any fun kv => decide (kv.1 = k)) = true then gs.map (fun kv => if kv.1 = k then (kv.1, d) else kv) else gs ++ [(k, d)]
section
variable {K : PySem.W.Frag} {S : List Addr} {H : Hp}
theorem kds_any {kk : List Key} : ∀ {kvs : List (List Key × V)} {gs : List (List Key × D)}, KDs K S H kvs gs → (kvs.any fun kv => decide (kv.1 = kk)) = (gs.any fun kv => decide (kv.1 = kk))
  | [], [], _ => rfl
  | [], _ :: _, h => nomatch h
  | _ :: _, [], h => nomatch h
  | (k1, v1) :: kvs, (k2, d2) :: gs, h => by
    cases h with
    | kcons h r =>
      rw [List.any_cons, List.any_cons, kds_any r]
theorem kds_map {kk : List Key} {v : V} {d : D} (hv : Den K S H v d) : ∀ {kvs : List (List Key × V)} {gs : List (List Key × D)}, KDs K S H kvs gs →
    KDs K S H (kvs.map fun kv => if kv.1 = kk then (kv.1, v) else kv) (gs.map fun kv => if kv.1 = kk then (kv.1, d) else kv)
  | [], [], _ => .knil
  | [], _ :: _, h => nomatch h
  | _ :: _, [], h => nomatch h
  | (k1, v1) :: kvs, (k2, d2) :: gs, h => by
    cases h with
    | kcons h r =>
      rw [List.map_cons, List.map_cons]
      by_cases hk : k1 = kk
      · rw [if_pos hk, if_pos hk]
        exact .kcons hv (kds_map hv r)
      · rw [if_neg hk, if_neg hk]
        exact .kcons h (kds_map hv r)
theorem kds_app : ∀ {kvs kvt : List (List Key × V)} {gs gt : List (List Key × D)}, KDs K S H kvs gs → KDs K S H kvt gt → KDs K S H (kvs ++ kvt) (gs ++ gt)
  | [], _, [], _, _, r => r
  | [], _, _ :: _, _, h, _ => nomatch h
  | _ :: _, _, [], _, h, _ => nomatch h
  | (k1, v1) :: kvs, _, (k2, d2) :: gs, _, h, r => by
    cases h with
    | kcons h r1 => exact .kcons h (kds_app r1 r)
theorem kds_put {kk : List Key} {v : V} {d : D} (hv : Den K S H v d) {kvs : List (List Key × V)} {gs : List (List Key × D)} (h : KDs K S H kvs gs) : KDs K S H (putK kvs kk v) (putT gs kk d) := by
  unfold putK putT
  rw [kds_any h]
  split
  · exact kds_map hv h
  · exact kds_app h (.kcons hv .knil)
theorem kds_length : ∀ {kvs : List (List Key × V)} {gs : List (List Key × D)}, KDs K S H kvs gs → kvs.length = gs.length
  | [], [], _ => rfl
  | [], _ :: _, h => nomatch h
  | _ :: _, [], h => nomatch h
  | (k1, v1) :: kvs, (k2, d2) :: gs, h => by
    cases h with
    | kcons h r => rw [List.length_cons, List.length_cons, kds_length r]
theorem own_t {ow : List OB} {v : V} {k : Nat} {gs : List (List Key × D)} (o : Owns K S H ow) (h : DenR K S H v (.own k)) (hk : ow[k]? = some (.t gs)) : ∃ a kvs, v = .ref a ∧ S[k]? = some a ∧ H a = some (.dT kvs) ∧ KDs K S H kvs gs := by
  cases h with
  | own h =>
    obtain ⟨a, z, y⟩ := o.ob k _ hk
    rw [h] at z
    cases z
    cases y with
    | t y r => exact ⟨_, _, rfl, h, y, r⟩
end
section
variable {X : Cx} {e a b c o : Expr} {es : List Expr} {st st1 st2 : Sta} {ow ow1 ow2 ow3 : List OB} {r : R} {rs : List R} {d x y z : D} {ds : List D} {pos p p2 tpos : Pos} {ns : List Int} {k : Nat} {gs : List (List Key × D)} {i j : Int} {lo hi : Option Expr} {ilo ihi : Option Int} {tg : Expr}
/-- {} as a dict with tuples for keys -/
theorem pd_newT : PD X st ow (.Dict [] [] pos) (.own ow.length) (ow ++ [.t []]) :=
  (pe_dnewT).imp fun σ H Q ⟨S, sl, o, q⟩ p hp => by
    obtain ⟨f, o2, d2⟩ := own_newB o hp (.t upd_same .knil)
    exact q _ _ _ f o2 d2
/-- d[t] = e -/
theorem psd_putT (hu : X.A.units + 1 < cLine) (he : PD X st ow e (.d d) ow1) (ho : PD X st ow1 o (.own k) ow2) (hi : PD X st ow2 b (.d (.tup (ns.map D.int))) ow3) (hk : ow3[k]? = some (.t gs)) (hz : gs.length < 100000)
    (hs : swapsWith e (some (.Subscript o b tpos)) pos.line X.env = pure false := by rfl) : PSD X st ow (.Assign [.Subscript o b tpos] e pos) (.nx st (ow3.set k (.t (putT gs (ns.map Sum.inl) d)))) :=
  (ps_dput hu ho hi he hs).imp fun E σ H ⟨S, sl, o, q⟩ => ⟨S, sl, o, fun S1 v H1 f1 o1 d1 => ⟨S1, f1.slots sl, o1, fun S2 w H2 f2 o2 d2 => ⟨S2, (f1.trans o1 f2).slots sl, o2, fun S3 z H3 f3 o3 d3 => by
    obtain ⟨a, kvs, rfl, g1, g2, g3⟩ := own_t o3 (f3.denR d2) hk
    cases d1 with
    | d d1 =>
      cases d3 with
      | d d3 =>
        cases d3 with
        | tup h3 r3 =>
          have e3 := Dens.ints r3
          subst e3
          have f23 := f2.trans o2 f3
          have dv := f23.den d1
          obtain ⟨u1, u2⟩ := own_putB (b' := .t (putT gs (ns.map Sum.inl) d)) (u := .dT (putK kvs (ns.map Sum.inl) v)) o3 g1 fun ex => .t upd_same (DenG.mono ex (kds_put dv g3))
          have fw : Fwd S3 H3 S3 (upd H3 a (.dT (putK kvs (ns.map Sum.inl) v))) := ⟨⟨[], (List.append_nil _).symm, fun _ z => nomatch z⟩, u1⟩
          have hb := h3.2
          refine ⟨a, _, rfl, DPut.t (k := ns.map Sum.inl) g2 (by rw [hb, List.map_map]; rfl) (by rw [kds_length g3]; exact Evl.sz_lt hz), ?_⟩
          exact q S3 σ _ (f1.trans o1 (f23.trans o3 fw)) ((f1.trans o1 (f23.trans o3 fw)).slots sl) u2⟩⟩⟩
/-- d[t], d one of the mutable ones -/
theorem pd_getO (hu : X.A.units + 1 < cLine) (ho : PD X st ow a (.own k) ow1) (hi : PD X st ow1 b (.d (.tup (ns.map D.int))) ow2) (hk : ow2[k]? = some (.t gs)) (hl : lookT gs ns = some d) (hs : NoSl b := by exact fun _ _ => rfl) : PD X st ow (.Subscript a b pos) (.d d) ow2 :=
  (pe_dget hu ho hi hs).imp fun σ H Q ⟨S, sl, o, q⟩ => ⟨S, sl, o, fun S1 v1 H1 f1 o1 d1 => ⟨S1, f1.slots sl, o1, fun S2 v2 H2 f2 o2 d2 => by
    obtain ⟨a, kvs, rfl, g1, g2, g3⟩ := own_t o2 (f2.denR d1) hk
    cases d2 with
    | d d2 =>
      cases d2 with
      | tup h2 r2 =>
        have e1 := Dens.ints r2
        subst e1
        obtain ⟨v, hv, dv⟩ := kds_val g3 d hl
        refine ⟨_, v, rfl, .inr ⟨_, ns.map Sum.inl, _, .inl g2, rfl, ?_, hv.symm⟩, q S2 v H2 (f1.trans o1 f2) o2 (.d dv)⟩
        rw [h2.2, List.map_map] <;> rfl⟩⟩
theorem owns_nin {K : PySem.W.Frag} {S : List Addr} {H : Hp} {ow : List OB} (o : Owns K S H ow) {p : Addr} {xs : List V} (hp : H p = some (.tup xs)) : p ∉ S := fun q => by
  obtain ⟨k, hk, e⟩ := List.getElem_of_mem q
  have hk2 : k < ow.length := by rw [← o.len]; exact hk
  obtain ⟨a, z, y⟩ := o.ob k _ (List.getElem?_eq_getElem hk2)
  have e2 : S[k]? = some p := by rw [List.getElem?_eq_getElem hk, e]
  rw [e2] at z
  cases z
  generalize ow[k] = b at y
  cases y with
  | l y _ => rw [hp] at y; cases y
  | t y _ => rw [hp] at y; cases y
  | g y _ => rw [hp] at y; cases y
  | r y _ => rw [hp] at y; cases y
def tabI (l : List (List Int × Int)) : List (List Key × D) := l.map fun p => (keyI p.1, D.int p.2)
theorem tabI_len (l : List (List Int × Int)) : (tabI l).length = l.length := by unfold tabI; rw [List.length_map]
theorem dens_isKeys {K : PySem.W.Frag} {S : List Addr} {H H2 : Hp} {ow : List OB} (o : Owns K S H ow) (ex : Evl.Ex H H2) : ∀ {l : List (List Int × Int)} {kvs : List (List Key × V)} {bs : List Addr}, KDs K S H kvs (tabI l) → IsKeys H kvs bs → Dens K S H2 (bs.map V.ref) (l.map fun p => tupI p.1)
  | [], [], [], _, _ => .nil
  | [], _ :: _, _, h, _ => nomatch h
  | _ :: _, [], _, h, _ => nomatch h
  | [], [], _ :: _, _, h => nomatch h
  | _ :: _, _ :: _, [], _, h => nomatch h
  | p :: l, (k1, v1) :: kvs, b :: bs, h, hb => by
    have h' : KDs K S H ((k1, v1) :: kvs) ((keyI p.1, D.int p.2) :: tabI l) := h
    cases h' with
    | kcons h1 r =>
      cases hb with
      | cons hb1 hbr =>
        have hb2 : H b = some (.tup (p.1.map V.int)) := by
          rw [hb1]
          show some (HO.tup ((p.1.map Sum.inl).map kV)) = _
          rw [List.map_map]; rfl
        exact .cons (.tup ⟨owns_nin o hb2, ex _ _ hb2⟩ (Dens.of_ints _)) (dens_isKeys o ex r hbr)
/-! ### lists that are live -/
theorem pd_lstW {l : List D} (h : PD X st ow e (.d (.lstV l)) ow1) : PD X st ow e (.d (.lst l)) ow1 :=
  PE.imp h fun σ H Q ⟨S, sl, o, q⟩ => ⟨S, sl, o, fun S1 v H1 f1 o1 d1 => q S1 v H1 f1 o1 (by
    cases d1 with
    | d d1 => exact .d d1.lstW)⟩
theorem pd_catV {es' : List D} (ha : PD X st ow a (.d (.lstV ds)) ow1) (hb : PD X st ow1 b (.d (.lstV es')) ow2) (hl : ds.length + es'.length ≤ 100000) : PD X st ow (.BinOp a .Add b pos) (.d (.lstV (ds ++ es'))) ow2 :=
  (pe_op op_cat ha hb).imp fun σ H Q ⟨S, sl, o, q⟩ => ⟨S, sl, o, fun S1 v1 H1 f1 o1 d1 => ⟨S1, f1.slots sl, o1, fun S2 v2 H2 f2 o2 d2 => by
    cases d1 with
    | d d1 =>
      cases d2 with
      | d d2 =>
        have d1' : Den X.K S2 H2 v1 (.lstV ds) := f2.den d1
        cases d1' with
        | lstV n1 h1 r1 =>
          cases d2 with
          | lstV n2 h2 r2 =>
            refine ⟨_, _, _, _, rfl, rfl, h1, h2, by rw [Dens.length r1, Dens.length r2, sizeLine_eq]; omega, fun l hl => ?_⟩
            exact q S2 _ _ (f1.trans o1 (f2.trans o2 (.of (Evl.Ex.new hl)))) (o2.ex (Evl.Ex.new hl)) (.d (new_lstV o2 hl (Dens.append r1 r2)))⟩⟩
theorem pd_slV (he : PD X st ow e (.d (.lst ds)) ow1) (h1 : POD X st ow1 lo ilo) (h2 : POD X st ow1 hi ihi) : PD X st ow (.Subscript e (.Slice lo hi none p2) pos) (.d (.lstV (cutD ds ilo ihi))) ow1 :=
  (pe_slice sl_list he h1 h2).imp fun σ H Q ⟨S, sl, o, k⟩ => ⟨S, sl, o, fun S1 v H1 f1 o1 d1 => ⟨S1, f1.slots sl, o1, fun S2 H2 f2 o2 => ⟨S2, (f1.trans o1 f2).slots sl, o2, fun S3 H3 f3 o3 => by
    cases d1 with
    | d d1 =>
      obtain ⟨a, xs, rfl, h1, h2⟩ := d1.of_lst
      have f23 := f2.trans o2 f3
      have l3 : Den X.K S3 H3 (.ref a) (.lst ds) := f23.den d1
      obtain ⟨a', xs', e', h1', h2'⟩ := l3.of_lst
      cases e'
      exact ⟨a, xs', rfl, h1'.sq, fun p hp => k S3 _ _ (f1.trans o1 (f23.trans o3 (.of (Evl.Ex.new hp)))) (o3.ex (Evl.Ex.new hp)) (.d (new_lstV o3 hp (dens_cut h2')))⟩⟩⟩⟩
/-- a slice as a new mutable list -/
theorem pd_slO (he : PD X st ow e (.d (.lst ds)) ow1) (h1 : POD X st ow1 lo ilo) (h2 : POD X st ow1 hi ihi) : PD X st ow (.Subscript e (.Slice lo hi none p2) pos) (.own ow1.length) (ow1 ++ [.l (cutD ds ilo ihi)]) :=
  (pe_slice sl_list he h1 h2).imp fun σ H Q ⟨S, sl, o, k⟩ => ⟨S, sl, o, fun S1 v H1 f1 o1 d1 => ⟨S1, f1.slots sl, o1, fun S2 H2 f2 o2 => ⟨S2, (f1.trans o1 f2).slots sl, o2, fun S3 H3 f3 o3 => by
    cases d1 with
    | d d1 =>
      obtain ⟨a, xs, rfl, h1, h2⟩ := d1.of_lst
      have f23 := f2.trans o2 f3
      have l3 : Den X.K S3 H3 (.ref a) (.lst ds) := f23.den d1
      obtain ⟨a', xs', e', h1', h2'⟩ := l3.of_lst
      cases e'
      refine ⟨a, xs', rfl, h1'.sq, fun p hp => ?_⟩
      obtain ⟨g1, g2, g3⟩ := own_new o3 hp (dens_cut (lo := ilo) (hi := ihi) h2')
      exact k _ _ _ (f1.trans o1 (f23.trans o3 g1)) g2 g3⟩⟩⟩
/-- list(range(n)) -/
theorem pd_lstRg {q1 p1 : Pos} {n : Int} (hc : X.calm = true) (hm : X.mg "list" = none) (hr : X.mg "range" = none) (h : PD X st ow e (.d (.int n)) ow1) (hn : 0 ≤ n ∧ n ≤ 1000) (hg : Gl X "list" := by rfl) (hg2 : Gl X "range" := by rfl) (na : starEach [e] X.env = (false, eval e X.env) :: starEach [] X.env := by rfl)
    (nb : starEach [.Call (.Name "range" q1) [e] [] p1] X.env = (false, eval (.Call (.Name "range" q1) [e] [] p1) X.env) :: starEach [] X.env := by rfl) : PD X st ow (.Call (.Name "list" p) [.Call (.Name "range" q1) [e] [] p1] [] pos) (.d (.lstV (rngD 0 n.toNat))) ow1 :=
  (pe_listRg hc hg hm (prg_1 hg2 hr h na) nb).imp fun σ H Q ⟨S, sl, o, k⟩ => ⟨S, sl, o, fun S1 v H1 f1 o1 d1 => by
    cases d1 with
    | d d1 =>
      refine ⟨n, d1.of_int, .of_le (Int.le_refl 0) (by omega) (by omega) hn.1, fun q hq => ?_⟩
      exact k S1 _ _ (f1.trans o1 (.of (Evl.Ex.new hq))) (o1.ex (Evl.Ex.new hq)) (.d (new_lstV o1 hq (dens_rg hn.1)))⟩
theorem pid_range2 {n m : Int} (hm : X.mg "range" = none) (ha : PADd X st ow [a, b] [.int n, .int m] ow1) (hn : -(2 ^ 62) ≤ n ∧ n < 2 ^ 62) (h2 : -(2 ^ 62) ≤ m ∧ m < 2 ^ 62) (hg : Gl X "range" := by rfl) (he : starEach [a, b] X.env = [(false, eval a X.env), (false, eval b X.env)] := by rfl) (he2 : starEach [b] X.env = [(false, eval b X.env)] := by rfl) : PID X st ow tg (.Call (.Name "range" p) [a, b] [] pos) (rngD n (m - n).toNat) ow1 :=
  (pi_range2 (tg := tg) (p := p) (pos := pos) hg hm ha he he2).imp fun σ H Q ⟨S, sl, o, k⟩ => ⟨S, sl, o, fun S1 vs H1 f1 o1 d1 => by
    obtain ⟨v, w, rfl, g1, g2⟩ := dens2 (densOf d1)
    exact ⟨n, m, by rw [g1.of_int, g2.of_int], ⟨hn.1, hn.2, h2.1, h2.2⟩, k S1 H1 _ f1 o1 wd_rng⟩⟩
/-- x += e, of ints -/
theorem psd_augI (q : Nat) {x : Str} {pos' : Pos} (hN : X.N.Nodup) (hs : st[q]? = some (some (.d (.int i)))) (he : PD X st ow e (.d (.int j)) ow1) (hi : X.N[q]? = some x := by rfl) (hx : Loc X.env.scope x := by first | exact Or.inl rfl | exact Or.inr rfl)
    (hf : X.fn x = true ∨ X.env.scope.names.lookup x = some .local := by first | exact .inl rfl | exact .inr rfl | assumption) : PSD X st ow (.AugAssign (.Name x pos') .Add e pos) (.nx (st.set q (some (.d (.int (i + j))))) ow1) :=
  (ps_aug hN hi hx he ip_add hf).imp fun E σ H ⟨S, sl, o, k⟩ => by
    obtain ⟨v, h1, h2⟩ := sl.sl q _ hs
    cases h2 with
    | d h2 =>
      refine ⟨v, h1, S, sl, o, fun S1 w H1 f1 o1 d1 => ?_⟩
      cases d1 with
      | d d1 =>
        rw [h2.of_int, d1.of_int]
        exact ⟨i, j, rfl, rfl, k S1 _ H1 f1 ((f1.slots sl).set q (.d (.int _))) o1⟩
end
end Bl
set_option Elab.async false
set_option linter.all false
set_option maxRecDepth 100000
set_option maxHeartbeats 4000000
namespace Bl
open PySem PySem.Spec PyProof.Rows L2
theorem findSome_eq {α β : Type} (rr : α → Option β) : ∀ as : List α, as.findSome? rr = (as.find? fun x => (rr x).isSome).bind rr
  | [] => rfl
  | a :: l => by
    rw [List.findSome?_cons, List.find?_cons]
    cases h : rr a with
    | some r => simp [h]
    | none => simp only [Option.isSome_none]; exact findSome_eq rr l
section
variable {X : Cx} {tg iter : Expr} {body rest : List Stmt} {st base : Sta} {ow ow1 : List OB} {pos : Pos} {out : Out}
/-- a for whose turns all go on: a fold -/
theorem psd_forF {α σ : Type} (vs : List Nat) (as : List α) (enc : α → D) (s0 : σ) (ff : σ → α → σ) (stF : σ → Sta) (stX : σ → α → Sta) (owF : σ → List OB) (hp : PassesOwn (model X.prog X.w) X.A X.env X.xe) (hc : X.calm = true) (hi : PID X st ow tg iter (as.map enc) ow1)
    (h0 : st.length = (stF s0).length ∧ ∀ (i : Nat) r, (stF s0)[i]? = some (some r) → st[i]? = some (some r)) (h0o : owF s0 = ow1)
    (hg : ∀ l x r, as = l ++ x :: r → PGD X vs (stF (l.foldl ff s0)) (enc x) tg (stX (l.foldl ff s0) x))
    (hb : ∀ l x r, as = l ++ x :: r → PBD X (stX (l.foldl ff s0) x) (owF (l.foldl ff s0)) body (.nx (stF (ff (l.foldl ff s0) x)) (owF (ff (l.foldl ff s0) x))))
    (hs : ∀ x, foldedSetIterable iter X.env x = pure x := by intro _; rfl) : PSD X st ow (.For tg iter body [] pos) (.nx (stF (as.foldl ff s0)) (owF (as.foldl ff s0))) := by
  have split : ∀ i x, as[i]? = some x → as = as.take i ++ x :: as.drop (i + 1) := fun i x h => by
    obtain ⟨h1, h2⟩ := List.getElem?_eq_some_iff.mp h
    rw [← h2, List.getElem_cons_drop, List.take_append_drop]
  have nxt : ∀ i x, as[i]? = some x → (as.take (i + 1)).foldl ff s0 = ff ((as.take i).foldl ff s0) x := fun i x h => by
    rw [take_succ_of h, List.foldl_append]
    rfl
  refine psd_forG vs (fun i => stF ((as.take i).foldl ff s0)) (fun i => owF ((as.take i).foldl ff s0)) none (fun i => (as[i]?).elim [] (stX ((as.take i).foldl ff s0))) (fun i => .nx (stF ((as.take (i + 1)).foldl ff s0)) (owF ((as.take (i + 1)).foldl ff s0))) hp hc hi h0 h0o (fun i d hd _ => ?_) (fun i d hd _ => ?_) (fun i hil _ => ?_) ?_ hs
  · obtain ⟨x, h1, rfl⟩ := map_some_of hd
    rw [h1]
    exact hg _ _ _ (split i x h1)
  · obtain ⟨x, h1, rfl⟩ := map_some_of hd
    rw [h1, nxt i x h1]
    exact hb _ _ _ (split i x h1)
  · rw [if_neg (fun z => nomatch z)]
    exact .inl rfl
  · show Out.nx _ _ = Out.nx _ _
    rw [List.length_map, List.take_length]
/-- a for that leaves at the first turn that tells a result -/
theorem pbd_forS {α : Type} (vs : List Nat) (base : Sta) (as : List α) (enc : α → D) (rr : α → Option R) (stx : α → Sta) (hp : PassesOwn (model X.prog X.w) X.A X.env X.xe) (hc : X.calm = true) (hi : PID X st ow tg iter (as.map enc) ow1) (h0 : st.length = base.length ∧ ∀ (i : Nat) r, base[i]? = some (some r) → st[i]? = some (some r))
    (hg : ∀ x, x ∈ as → PGD X vs base (enc x) tg (stx x)) (hb : ∀ x, x ∈ as → PBD X (stx x) ow1 body ((rr x).elim (.nx base ow1) fun r => .ret r ow1))
    (hend : as.findSome? rr = none → PBD X base ow1 rest out) (hf : ∀ r, as.findSome? rr = some r → out = .ret r ow1) (hs : ∀ x, foldedSetIterable iter X.env x = pure x := by intro _; rfl) : PBD X st ow (.For tg iter body [] pos :: rest) out := by
  have hfi := findSome_eq rr as
  refine pbd_find vs base as enc (fun x => (rr x).isSome) (fun x => (rr x).getD (.d .non)) stx hp hc hi h0 hg (fun x hx h => ?_) (fun x hx h => ?_) (fun h => ?_) (fun x h => ?_) hs
  · have := hb x hx
    cases hr : rr x with
    | some r => rw [hr] at h; cases h
    | none => rw [hr] at this; exact this
  · have := hb x hx
    cases hr : rr x with
    | some r => rw [hr] at this; exact this
    | none => rw [hr] at h; cases h
  · exact hend (by rw [hfi, h]; rfl)
  · refine hf _ ?_
    rw [hfi, h]
    have := List.find?_some h
    show rr x = some ((rr x).getD (.d .non))
    cases hr : rr x with
    | some r => rfl
    | none => rw [hr] at this; cases this
end
end Bl
set_option Elab.async false
set_option linter.all false
set_option maxRecDepth 100000
set_option maxHeartbeats 4000000
namespace Bl
open PySem PySem.Spec PyProof.Rows L2
/-! ### turns and rows -/
abbrev Trn := Nat × Nat
def turnD (t : Trn) : D := tupI [(t.1 : Int), (t.2 : Int)]
def turnR (row : List Int) (t : Trn) : List Int := row.take t.1 ++ ((row.drop t.1).take t.2).reverse ++ row.drop (t.1 + t.2)
theorem turnR_len (row : List Int) (t : Trn) : (turnR row t).length = row.length := by
  unfold turnR
  rw [List.length_append, List.length_append, List.length_reverse, List.length_take, List.length_take, List.length_drop, List.length_drop]
  omega
theorem turnsR_len (row : List Int) : ∀ ts : List Trn, (ts.foldl turnR row).length = row.length := by
  intro ts
  induction ts generalizing row with
  | nil => rfl
  | cons t ts ih => rw [List.foldl_cons, ih, turnR_len]
def rowsZ (r0 : List Int) (ts : List Trn) : List (List Int) := (List.range (ts.length + 1)).map fun i => (ts.take i).foldl turnR r0
theorem rowsZ_get (r0 : List Int) (ts : List Trn) (i : Nat) (h : i ≤ ts.length) : (rowsZ r0 ts)[i]? = some ((ts.take i).foldl turnR r0) := by
  unfold rowsZ
  rw [List.getElem?_map, List.getElem?_range (by omega)]
  rfl
theorem rowsZ_snoc (r0 : List Int) (l : List Trn) (t : Trn) : rowsZ r0 (l ++ [t]) = rowsZ r0 l ++ [turnR (l.foldl turnR r0) t] := by
  unfold rowsZ
  rw [List.length_append, List.length_singleton, List.range_succ, List.map_append]
  congr 1
  · refine List.map_congr_left fun i hi => ?_
    have := List.mem_range.mp hi
    rw [List.take_append_of_le_length (by omega)]
  · rw [List.map_singleton, List.take_of_length_le (by simp), List.foldl_append]
    rfl
def rowStep (s : List Int × List (List Int)) (t : Trn) : List Int × List (List Int) := (turnR s.1 t, s.2 ++ [turnR s.1 t])
theorem rows_fold (r0 : List Int) : ∀ (m : List Trn) (l : List Trn), m.foldl rowStep (l.foldl turnR r0, rowsZ r0 l) = ((l ++ m).foldl turnR r0, rowsZ r0 (l ++ m))
  | [], l => by rw [List.append_nil]; rfl
  | t :: m, l => by
    have h := rows_fold r0 m (l ++ [t])
    rw [List.append_assoc] at h
    rw [List.foldl_cons]
    have e : rowStep (l.foldl turnR r0, rowsZ r0 l) t = ((l ++ [t]).foldl turnR r0, rowsZ r0 (l ++ [t])) := by
      rw [rowsZ_snoc, List.foldl_append]
      rfl
    rw [e]
    exact h
theorem rows_fold0 (r0 : List Int) (m : List Trn) : m.foldl rowStep (r0, [r0]) = (m.foldl turnR r0, rowsZ r0 m) := rows_fold r0 m []
theorem cut_pre (l : List Int) (p : Nat) : cutD (l.map D.int) none (some (p : Int)) = (l.take p).map D.int := by
  unfold cutD
  rw [HT.sIx_nat, HT.sIx_none, List.length_map, List.drop_zero, Nat.sub_zero, List.map_take]
  by_cases h : p ≤ l.length
  · rw [Nat.min_eq_left h]
  · rw [Nat.min_eq_right (by omega), List.take_of_length_le (by simp), List.take_of_length_le (by simp; omega)]
theorem cut_suf (l : List Int) (p : Nat) : cutD (l.map D.int) (some (p : Int)) none = (l.drop p).map D.int := by
  unfold cutD
  rw [HT.sIx_nat, HT.sIx_none, List.length_map, List.map_drop, List.take_of_length_le (by simp)]
  by_cases h : p ≤ l.length
  · rw [Nat.min_eq_left h]
  · rw [Nat.min_eq_right (by omega), List.drop_of_length_le (by simp), List.drop_of_length_le (by simp; omega)]
theorem cut_mid (l : List Int) (p m : Nat) : cutD (l.map D.int) (some (p : Int)) (some ((p : Int) + (m : Int))) = ((l.drop p).take m).map D.int := by
  unfold cutD
  rw [show (p : Int) + (m : Int) = ((p + m : Nat) : Int) by omega, HT.sIx_nat, HT.sIx_nat, List.length_map, List.map_take, List.map_drop]
  by_cases h : p ≤ l.length
  · rw [Nat.min_eq_left h]
    by_cases h2 : p + m ≤ l.length
    · rw [Nat.min_eq_left h2, Nat.add_sub_cancel_left]
    · rw [Nat.min_eq_right (by omega), List.take_of_length_le (by simp), List.take_of_length_le (by simp; omega)]
  · rw [Nat.min_eq_right (by omega), Nat.min_eq_right (by omega), List.drop_of_length_le (by simp), List.drop_of_length_le (by simp; omega), List.take_nil, List.take_nil]
def lstVI (l : List Int) : D := .lstV (l.map D.int)
section
variable {X : Cx} {e a b c o : Expr} {st : Sta} {ow ow1 ow2 : List OB} {pos p : Pos} {i j : Int}
theorem pd_max2 (hc : X.calm = true) (hm : X.mg "max" = none) (ha : PADd X st ow [a, b] [.int i, .int j] ow1) (hg : Gl X "max" := by rfl) (he : starEach [a, b] X.env = (false, eval a X.env) :: starEach [b] X.env := by rfl) (hpl : (backTo pos (starEach [b] X.env)).any (·.1) = false := by rfl) : PD X st ow (.Call (.Name "max" p) [a, b] [] pos) (.d (.int (if j > i then j else i))) ow1 :=
  pd_callB (call_max2 hc) (fun S H ow vs Q o h q => by
    obtain ⟨v, w, rfl, g, g'⟩ := dens2 h
    exact ⟨i, j, by rw [g.of_int, g'.of_int], q _ _ (Evl.Ex.refl H) (.int _)⟩) hm (by decide +kernel) ha hg (by decide) (by decide) he hpl
end
section
variable {P : Program} {w : World} {K : PySem.W.Frag} {mg : Str → Option Value} {base : Heap} {f : Addr} {fd : FuncData} {k : Nat} {C : Addr}
abbrev sSize : Stmt := topS 47
theorem scSize : FnScope ["_law_pool_here", "_law_least", "_law_most", "_law_word"] ["_law_pool_here", "_law_least", "_law_most"] (defScope sSize) := ⟨rfl, rfl, rfl, by decide +kernel, rfl, by decide +kernel, by decide +kernel⟩
def sizeZ (ps : List Int) (a b : Int) : Int := if nextV ps 12 = 11 then b else a + nextV ps 12 % (if b - a > 1 then b - a else 1)
def gSize : GG := fun rs ow r ow' => ∃ (k : Nat) (a b : Int) (ps : List Int), rs = [.own k, .d (.int a), .d (.int b)] ∧ ow[k]? = some (.l (ps.map D.int)) ∧ r = .d (.int (sizeZ ps a b)) ∧ ow' = ow.set k (.l (ps.dropLast.map D.int))
theorem ok_size (F : Fun K "_law_size" "_law_size" sSize f fd) (C1 : Fg P w K mg base "_law_next" k ["_law_pool_here", "_law_many"] gNext) (mI : mg "int" = none) (mM : mg "max" = none) : FnOk P w K mg base CX0 (k + 1) f fd ["_law_pool_here", "_law_least", "_law_most"] (spF K gSize) := by
  refine okF F scSize (fun rs ow r ow' h => ?_) (fun cdv A outer s H E hr rs ow r ow' h => ?_)
  · obtain ⟨k, a, b, ps, rfl, _⟩ := h
    rfl
  · obtain ⟨k, a, b, ps, rfl, hk, rfl, rfl⟩ := h
    refine pbd_cons (psd_set 3 scSize.nd (pd_cg C1 hr (Nat.le_refl _) (pad_cons (pd_var 0) (padd_cons pd_int padd_nil)) ⟨k, 12, ps, rfl, hk, by decide, rfl, rfl⟩)) ?_
    unfold sizeZ
    refine pbd_ifL (ptd_eq (pd_var 3) pd_int) (fun hb => ?_) trivial (fun hb => ?_)
    · rw [iv_eq] at hb
      rw [if_pos (of_decide_eq_true hb)]
      exact pbd_last (psd_ret (pd_var 2))
    · rw [iv_eq] at hb
      rw [if_neg (of_decide_eq_false hb)]
      exact pbd_last (psd_ret (pd_add (pd_var 1) (pd_mod (pd_int1 mI (padd_cons (pd_var 3) padd_nil)) (pd_max2 rfl mM (padd_cons pd_int (padd_cons (pd_sub (pd_var 2) (pd_var 1)) padd_nil))) (by split <;> omega))))
abbrev sRows : Stmt := topS 49
theorem scRows : FnScope ["_law_size_here", "_law_turns_here", "_law_row", "_law_rows_here", "_law_p", "_law_m", "_law_part"] ["_law_size_here", "_law_turns_here"] (defScope sRows) := ⟨rfl, rfl, rfl, by decide +kernel, rfl, by decide +kernel, by decide +kernel⟩
def gRows : GG := fun rs ow r ow' => ∃ (n : Int) (ts : List Trn), rs = [.d (.int n), .d (.lst (ts.map turnD))] ∧ 0 ≤ n ∧ n ≤ 100 ∧ ts.length ≤ 1000 ∧ r = .d (.lst ((rowsZ (rngZ n) ts).map lstVI)) ∧ ow' = ow
abbrev rwSt (n : Int) (ts : List Trn) (row : List Int) (k : Nat) (a b c : Option R) : Sta := [some (.d (.int n)), some (.d (.lst (ts.map turnD))), some (.d (lstVI row)), some (.own k), a, b, c]
theorem ok_rows (F : Fun K "_law_rows" "_law_rows" sRows f fd) (mL : mg "list" = none) (mR : mg "range" = none) : FnOk P w K mg base CX0 (k + 1) f fd ["_law_size_here", "_law_turns_here"] (spF K gRows) := by
  refine okF F scRows (fun rs ow r ow' h => ?_) (fun cdv A outer s H E hr rs ow r ow' h => ?_)
  · obtain ⟨n, ts, rfl, _⟩ := h
    rfl
  · obtain ⟨n, ts, rfl, h0, h1, h2, rfl, rfl⟩ := h
    refine pbd_frzR ?_ rfl
    have hlen : (rngZ n).length ≤ 100 := by rw [rngZ_len]; omega
    refine pbd_cons (psd_set 2 scRows.nd (pd_eqD (pd_lstRg rfl mL mR (pd_var 0) ⟨h0, by omega⟩) (by rw [rngD_Z]))) ?_
    refine pbd_cons (psd_set 3 scRows.nd (pd_lstO (padd_cons (pd_var 2) padd_nil))) ?_
    refine pbd_cons (psd_forF [4, 5] ts turnD (rngZ n, [rngZ n]) rowStep (fun s => rwSt n ts s.1 ow'.length none none none) (fun s t => rwSt n ts s.1 ow'.length (some (.d (.int (t.1 : Int)))) (some (.d (.int (t.2 : Int)))) none) (fun s => ow' ++ [.l (s.2.map lstVI)]) PassesOwn.never rfl (pid_list (pd_var 1)) ⟨rfl, fun i r h => h⟩ rfl (fun l t r hl => ?_) (fun l t r hl => ?_)) ?_
    · exact pgd_tup rfl (pgsd_cons (pgd_name 4 scRows.nd) (pgsd_cons (pgd_name 5 scRows.nd) pgsd_nil))
    · rw [rows_fold0]
      have hL : (l.foldl turnR (rngZ n)).length ≤ 100 := by rw [turnsR_len]; exact hlen
      have hN : (rowsZ (rngZ n) l).length ≤ 1001 := by
        unfold rowsZ
        rw [List.length_map, List.length_range]
        have := congrArg List.length hl
        rw [List.length_append, List.length_cons] at this
        omega
      generalize l.foldl turnR (rngZ n) = row at hL
      generalize rowsZ (rngZ n) l = rows at hN
      have hp : cutD (row.map D.int) (some (t.1 : Int)) (some ((t.1 : Int) + (t.2 : Int))) = ((row.drop t.1).take t.2).map D.int := cut_mid _ _ _
      refine pbd_frz2B (ow1 := ow' ++ [.l (rows.map lstVI)]) (psd_set 6 scRows.nd (pd_slO (pd_lstW (pd_var 2)) (pod_some (pd_var 4)) (pod_some (pd_add (pd_var 4) (pd_var 5))))) (psd_expr (pd_ow (pd_reverse (pd_var 6) app_get) set_last)) rfl .v ?_
      rw [hp, ← List.map_reverse]
      have eU : unD (ow' ++ [OB.l (rows.map lstVI)]).length (D.lstV (((row.drop t.1).take t.2).reverse.map D.int)) ((rwSt n ts row ow'.length (some (.d (.int (t.1 : Int)))) (some (.d (.int (t.2 : Int)))) none).set 6 (some (.own (ow' ++ [OB.l (rows.map lstVI)]).length))) = rwSt n ts row ow'.length (some (.d (.int (t.1 : Int)))) (some (.d (.int (t.2 : Int)))) (some (.d (lstVI ((row.drop t.1).take t.2).reverse))) := by
        show [_, _, _, (if ow'.length = (ow' ++ [OB.l (rows.map lstVI)]).length then _ else _), _, _, (if _ = _ then _ else _)] = _
        rw [if_neg (by rw [List.length_append]; simp), if_pos rfl]
        rfl
      rw [eU]
      refine pbd_weak (st1 := rwSt n ts (turnR row t) ow'.length (some (.d (.int (t.1 : Int)))) (some (.d (.int (t.2 : Int)))) (some (.d (lstVI ((row.drop t.1).take t.2).reverse)))) (pbd_cons (psd_set 2 scRows.nd (pd_eqD (pd_catV (pd_catV (pd_slV (pd_lstW (pd_var 2)) pod_none (pod_some (pd_var 4))) (pd_var 6) ?_) (pd_slV (pd_lstW (pd_var 2)) (pod_some (pd_add (pd_var 4) (pd_var 5))) pod_none) ?_) ?_)) (pbd_cons (psd_expr (pd_ow (pd_append (pd_var 3) (pd_var 2) ⟨_, app_get⟩ app_get ?_) ?_)) pbd_nil)) rfl (by (intro i r h; rcases i with _ | _ | _ | _ | _ | _ | _ | i <;> first | exact h | cases h))
      · rw [cut_pre, List.length_map, List.length_map, List.length_take, List.length_reverse, List.length_take, List.length_drop]; omega
      · rw [cut_pre, show (t.1 : Int) + (t.2 : Int) = ((t.1 + t.2 : Nat) : Int) by omega, cut_suf, List.length_append, List.length_map, List.length_map, List.length_map, List.length_take, List.length_reverse, List.length_take, List.length_drop, List.length_drop]; omega
      · rw [cut_pre, show (t.1 : Int) + (t.2 : Int) = ((t.1 + t.2 : Nat) : Int) by omega, cut_suf]
        unfold turnR lstVI
        rw [List.map_append, List.map_append]
      · rw [List.length_map]; omega
      · rw [set_last]
        show _ = ow' ++ [OB.l ((rows ++ [turnR row t]).map lstVI)]
        rw [List.map_append]
        rfl
    · rw [rows_fold0]
      exact pbd_last (psd_ret (pd_var 3))
end
end Bl
set_option Elab.async false
set_option linter.all false
set_option maxRecDepth 100000
set_option maxHeartbeats 4000000
namespace Bl
open PySem PySem.Spec PyProof.Rows L2
/-! ### tables by lists of ints -/
abbrev Tab := List (List Int × Int)
def putI (l : Tab) (k : List Int) (v : Int) : Tab := if (l.any fun p => decide (p.1 = k)) = true then l.map (fun p => if p.1 = k then (p.1, v) else p) else l ++ [(k, v)]
def lookI (l : Tab) (k : List Int) : Option Int := (l.find? fun p => decide (p.1 = k)).map (·.2)
theorem key_eq (a b : List Int) : decide (keyI a = keyI b) = decide (a = b) := by
  by_cases h : a = b
  · subst h; simp
  · rw [decide_eq_false h, decide_eq_false fun z => h (keyI_inj z)]
theorem tabI_any (k : List Int) (l : Tab) : ((tabI l).any fun kv => decide (kv.1 = keyI k)) = l.any fun p => decide (p.1 = k) := by
  unfold tabI
  rw [List.any_map]
  congr 1
  funext p
  exact key_eq _ _
theorem tabI_put (l : Tab) (k : List Int) (v : Int) : putT (tabI l) (k.map Sum.inl) (.int v) = tabI (putI l k v) := by
  unfold putT putI
  have e : ((tabI l).any fun kv => decide (kv.1 = k.map Sum.inl)) = l.any fun p => decide (p.1 = k) := tabI_any k l
  rw [e]
  split
  · unfold tabI
    rw [List.map_map, List.map_map]
    refine List.map_congr_left fun p _ => ?_
    show (if keyI p.1 = keyI k then (keyI p.1, D.int v) else (keyI p.1, D.int p.2)) = _
    by_cases h : p.1 = k
    · rw [if_pos (congrArg keyI h)]
      show _ = (keyI (if p.1 = k then (p.1, v) else p).1, D.int (if p.1 = k then (p.1, v) else p).2)
      rw [if_pos h]
    · rw [if_neg fun z => h (keyI_inj z)]
      show _ = (keyI (if p.1 = k then (p.1, v) else p).1, D.int (if p.1 = k then (p.1, v) else p).2)
      rw [if_neg h]
  · unfold tabI
    rw [List.map_append]
    rfl
theorem lookT_tab (k : List Int) : ∀ l : Tab, lookT (tabI l) k = (lookI l k).map D.int
  | [] => rfl
  | p :: l => by
    have ih := lookT_tab k l
    unfold lookT lookI tabI at *
    rw [List.map_cons, List.find?_cons, List.find?_cons]
    have e : decide (keyI p.1 = k.map Sum.inl) = decide (p.1 = k) := key_eq _ _
    show Option.map Prod.snd (match decide (keyI p.1 = k.map Sum.inl) with | true => some (keyI p.1, D.int p.2) | false => _) = _
    rw [e]
    cases decide (p.1 = k) with
    | true => rfl
    | false => exact ih
theorem lookI_some {l : Tab} {k : List Int} {v : Int} (h : lookI l k = some v) : lookT (tabI l) k = some (.int v) := by rw [lookT_tab, h]; rfl
theorem lookI_nil (k : List Int) : lookI [] k = none := rfl
theorem lookI_cons (p : List Int × Int) (l : Tab) (k : List Int) : lookI (p :: l) k = if p.1 = k then some p.2 else lookI l k := by
  unfold lookI
  rw [List.find?_cons]
  by_cases h : p.1 = k
  · rw [decide_eq_true h, if_pos h]; rfl
  · rw [decide_eq_false h, if_neg h]
theorem lookI_any (k : List Int) : ∀ l : Tab, (l.any fun p => decide (p.1 = k)) = (lookI l k).isSome
  | [] => rfl
  | p :: l => by
    rw [List.any_cons, lookI_cons, lookI_any k l]
    by_cases h : p.1 = k
    · rw [decide_eq_true h, if_pos h]; rfl
    · rw [decide_eq_false h, if_neg h]; rfl
theorem lookI_map (k j : List Int) (v : Int) : ∀ l : Tab, lookI (l.map fun p => if p.1 = k then (p.1, v) else p) j = (lookI l j).map fun x => if j = k then v else x
  | [] => rfl
  | p :: l => by
    rw [List.map_cons, lookI_cons, lookI_cons, lookI_map k j v l]
    by_cases h : p.1 = k
    · rw [if_pos h]
      by_cases e : p.1 = j
      · rw [if_pos e, if_pos e]
        show some v = some (if j = k then v else p.2)
        rw [if_pos (e.symm.trans h)]
      · rw [if_neg e, if_neg e]
    · rw [if_neg h]
      by_cases e : p.1 = j
      · rw [if_pos e, if_pos e]
        show some p.2 = some (if j = k then v else p.2)
        rw [if_neg fun z => h (e.trans z)]
      · rw [if_neg e, if_neg e]
theorem lookI_app (k j : List Int) (v : Int) : ∀ l : Tab, lookI l k = none → lookI (l ++ [(k, v)]) j = if j = k then some v else lookI l j
  | [], _ => by
    rw [List.nil_append, lookI_cons]
    by_cases h : k = j
    · rw [if_pos h, if_pos h.symm]
    · rw [if_neg h, if_neg fun z => h z.symm]
  | p :: l, hn => by
    rw [lookI_cons] at hn
    have hk : ¬ p.1 = k := fun z => by rw [if_pos z] at hn; cases hn
    rw [if_neg hk] at hn
    rw [List.cons_append, lookI_cons, lookI_cons, lookI_app k j v l hn]
    by_cases e : p.1 = j
    · rw [if_pos e, if_pos e, if_neg fun z => hk (e.trans z)]
    · rw [if_neg e, if_neg e]
theorem lookI_put (l : Tab) (k j : List Int) (v : Int) : lookI (putI l k v) j = if j = k then some v else lookI l j := by
  unfold putI
  rw [lookI_any]
  cases h : lookI l k with
  | some x =>
    show lookI (if true = true then _ else _) j = _
    rw [if_pos rfl, lookI_map]
    by_cases e : j = k
    · rw [if_pos e, e, h]
      show some (if k = k then v else x) = some v
      rw [if_pos rfl]
    · rw [if_neg e]
      cases h2 : lookI l j with
      | none => rfl
      | some y =>
        show some (if j = k then v else y) = some y
        rw [if_neg e]
  | none =>
    show lookI (if false = true then _ else _) j = _
    rw [if_neg (by decide)]
    exact lookI_app k j v l h
theorem putI_len (l : Tab) (k : List Int) (v : Int) : (putI l k v).length ≤ l.length + 1 := by
  unfold putI
  split
  · rw [List.length_map]; omega
  · rw [List.length_append, List.length_singleton]; omega
theorem fold_len {α : Type} (ff : Tab → α → Tab) (c : Nat) (h : ∀ s x, (ff s x).length ≤ s.length + c) : ∀ (l : List α) (s : Tab), (l.foldl ff s).length ≤ s.length + l.length * c
  | [], s => by simp
  | x :: l, s => by
    have h1 := fold_len ff c h l (ff s x)
    have h2 := h s x
    rw [List.foldl_cons, List.length_cons, Nat.succ_mul]
    omega
/-! ### the times of the pairs -/
def blk (r0 : List Int) (ts : List Trn) (i : Nat) : List Int := ((((ts.take i).foldl turnR r0).drop (ts.getD i (0, 0)).1).take (ts.getD i (0, 0)).2)
theorem blk_len (r0 : List Int) (ts : List Trn) (i : Nat) : (blk r0 ts i).length ≤ r0.length := by
  unfold blk
  rw [List.length_take, List.length_drop, turnsR_len]
  omega
def tmB (v a : Int) (s : Tab) (b : Int) : Tab := if a = b then s else putI s [a, b] v
def tmA (v : Int) (l : List Int) (s : Tab) (a : Int) : Tab := l.foldl (tmB v a) s
def tmT (r0 : List Int) (ts : List Trn) (s : Tab) (i : Nat) : Tab := (blk r0 ts i).foldl (tmA (0 + (i : Int)) (blk r0 ts i)) s
def timesZ (r0 : List Int) (ts : List Trn) : Tab := (List.range ts.length).foldl (tmT r0 ts) []
theorem tmB_len (v a : Int) (s : Tab) (b : Int) : (tmB v a s b).length ≤ s.length + 1 := by
  unfold tmB
  split
  · omega
  · exact putI_len _ _ _
theorem tmA_len (v : Int) (l : List Int) (s : Tab) (a : Int) : (tmA v l s a).length ≤ s.length + l.length := by
  have := fold_len (tmB v a) 1 (tmB_len v a) l s
  unfold tmA
  omega
theorem tmT_len (r0 : List Int) (ts : List Trn) (h : r0.length ≤ 8) (s : Tab) (i : Nat) : (tmT r0 ts s i).length ≤ s.length + 64 := by
  have h1 := blk_len r0 ts i
  have := fold_len (tmA (0 + (i : Int)) (blk r0 ts i)) 8 (fun s x => Nat.le_trans (tmA_len _ _ s x) (by omega)) (blk r0 ts i) s
  unfold tmT
  have h2 : (blk r0 ts i).length * 8 ≤ 8 * 8 := Nat.mul_le_mul_right 8 (by omega)
  omega
section
variable {P : Program} {w : World} {K : PySem.W.Frag} {mg : Str → Option Value} {base : Heap} {f : Addr} {fd : FuncData} {k : Nat} {C : Addr}
abbrev sTimes : Stmt := topS 50
theorem scTimes : FnScope ["_law_size_here", "_law_turns_here", "_law_rows_here", "_law_times_here", "_law_at", "_law_p", "_law_lines", "_law_a", "_law_b"] ["_law_size_here", "_law_turns_here"] (defScope sTimes) := ⟨rfl, rfl, rfl, by decide +kernel, rfl, by decide +kernel, by decide +kernel⟩
def gTimes : GG := fun rs ow r ow' => ∃ (n : Int) (ts : List Trn), rs = [.d (.int n), .d (.lst (ts.map turnD))] ∧ 0 ≤ n ∧ n ≤ 8 ∧ ts.length ≤ 100 ∧ r = .d (.dT (tabI (timesZ (rngZ n) ts))) ∧ ow' = ow
abbrev tmSt (n : Int) (ts : List Trn) (k : Nat) (at_ p lines a b : Option R) : Sta := [some (.d (.int n)), some (.d (.lst (ts.map turnD))), some (.d (.lst ((rowsZ (rngZ n) ts).map lstVI))), some (.own k), at_, p, lines, a, b]
theorem at_nat {α : Type} {l : List α} {i : Nat} {x : α} (h : l[i]? = some x) : atI l (0 + (i : Int)) = some x := by
  obtain ⟨h1, h2⟩ := List.getElem?_eq_some_iff.mp h
  unfold atI ixN
  rw [if_pos (by omega), if_pos (by omega)]
  show l[(0 + (i : Int)).toNat]? = _
  rw [show (0 + (i : Int)).toNat = i by omega]
  exact h
theorem ok_times (F : Fun K "_law_times" "_law_times" sTimes f fd) (C1 : Fg P w K mg base "_law_rows" k ["_law_size_here", "_law_turns_here"] gRows) (mN : mg "len" = none) (mR : mg "range" = none) : FnOk P w K mg base CX0 (k + 1) f fd ["_law_size_here", "_law_turns_here"] (spF K gTimes) := by
  refine okF F scTimes (fun rs ow r ow' h => ?_) (fun cdv A outer s H E hr rs ow r ow' h => ?_)
  · obtain ⟨n, ts, rfl, _⟩ := h
    rfl
  · obtain ⟨n, ts, rfl, h0, h1, h2, rfl, rfl⟩ := h
    refine pbd_frzRT ?_ rfl
    have hlen : (rngZ n).length ≤ 8 := by rw [rngZ_len]; omega
    refine pbd_cons (psd_set 2 scTimes.nd (pd_cg C1 hr (Nat.le_refl _) (padd_cons (pd_var 0) (padd_cons (pd_var 1) padd_nil)) ⟨n, ts, rfl, h0, by omega, by omega, rfl, rfl⟩)) ?_
    refine pbd_cons (psd_set 3 scTimes.nd pd_newT) ?_
    refine pbd_cons (psd_forF [4] (List.range ts.length) (fun (i : Nat) => D.int (0 + (i : Int))) [] (tmT (rngZ n) ts) (fun _ => tmSt n ts ow'.length none none none none none) (fun _ i => tmSt n ts ow'.length (some (.d (.int (0 + (i : Int))))) none none none none) (fun s => ow' ++ [.t (tabI s)]) PassesOwn.never rfl
      (pid_eq (pid_range1 mR (padd_cons (pd_lenL mN (padd_cons (pd_var 1) padd_nil)) padd_nil) (by rw [List.length_map]; omega)) (by rw [List.length_map]; rfl)) ⟨rfl, fun i r h => h⟩ rfl (fun l t r hl => pgd_name 4 scTimes.nd) (fun l i r hl => ?_)) ?_
    · have hi : i < ts.length := by
        have : i ∈ List.range ts.length := by rw [hl]; simp
        exact List.mem_range.mp this
      have hli : l.length ≤ 100 := by
        have := congrArg List.length hl
        rw [List.length_range, List.length_append, List.length_cons] at this
        omega
      have hsl := fold_len (tmT (rngZ n) ts) 64 (tmT_len (rngZ n) ts hlen) l []
      rw [List.length_nil] at hsl
      have hsl2 : (l.foldl (tmT (rngZ n) ts) []).length ≤ 6400 := by
        have : l.length * 64 ≤ 100 * 64 := Nat.mul_le_mul_right 64 hli
        omega
      have ht : ts[i]? = some (ts.getD i (0, 0)) := by
        rw [List.getD_eq_getElem?_getD, List.getElem?_eq_getElem hi]; rfl
      have hat1 : atI (ts.map turnD) (0 + (i : Int)) = some (turnD (ts.getD i (0, 0))) := at_nat (by rw [List.getElem?_map, ht]; rfl)
      have hat2 : atI ((rowsZ (rngZ n) ts).map lstVI) (0 + (i : Int)) = some (lstVI ((ts.take i).foldl turnR (rngZ n))) := at_nat (by rw [List.getElem?_map, rowsZ_get _ _ _ (by omega)]; rfl)
      generalize l.foldl (tmT (rngZ n) ts) [] = s0 at hsl2
      have hbl := blk_len (rngZ n) ts i
      unfold tmT
      generalize hB : blk (rngZ n) ts i = B at hbl
      unfold blk at hB
      generalize ts.getD i (0, 0) = t at *
      refine pbd_cons (psd_set 5 scTimes.nd (pd_ixT (pd_ixL (pd_var 1) (pd_var 4) hat1) pd_int (d := .int (t.1 : Int)) rfl)) ?_
      refine pbd_cons (psd_set 6 scTimes.nd (pd_eqD (pd_slL (pd_lstW (pd_ixL (pd_var 2) (pd_var 4) hat2)) (pod_some (pd_var 5)) (pod_some (pd_add (pd_var 5) (pd_ixT (pd_ixL (pd_var 1) (pd_var 4) hat1) pd_int (d := .int (t.2 : Int)) rfl)))) (by rw [cut_mid, hB]))) ?_
      refine pbd_weak (st1 := tmSt n ts ow'.length (some (.d (.int (0 + (i : Int))))) (some (.d (.int (t.1 : Int)))) (some (.d (.lst (B.map D.int)))) none none) (pbd_cons (psd_forF [7] B D.int s0 (tmA (0 + (i : Int)) B) (fun _ => tmSt n ts ow'.length (some (.d (.int (0 + (i : Int))))) (some (.d (.int (t.1 : Int)))) (some (.d (.lst (B.map D.int)))) none none)
        (fun _ a => tmSt n ts ow'.length (some (.d (.int (0 + (i : Int))))) (some (.d (.int (t.1 : Int)))) (some (.d (.lst (B.map D.int)))) (some (.d (.int a))) none) (fun s => ow' ++ [.t (tabI s)]) PassesOwn.never rfl (pid_list (pd_var 6)) ⟨rfl, fun i r h => h⟩ rfl (fun l a r hl => pgd_name 7 scTimes.nd) (fun l1 a r1 hl1 => ?_)) pbd_nil) rfl (by (intro i r h; rcases i with _ | _ | _ | _ | _ | _ | _ | _ | _ | i <;> first | exact h | cases h))
      have hA1 := fold_len (tmA (0 + (i : Int)) B) 8 (fun s x => Nat.le_trans (tmA_len _ _ s x) (by omega)) l1 s0
      have hl1' : l1.length ≤ 8 := by
        have := congrArg List.length hl1
        rw [List.length_append, List.length_cons] at this
        omega
      generalize l1.foldl (tmA (0 + (i : Int)) B) s0 = s1 at hA1
      unfold tmA
      refine pbd_weak (st1 := tmSt n ts ow'.length (some (.d (.int (0 + (i : Int))))) (some (.d (.int (t.1 : Int)))) (some (.d (.lst (B.map D.int)))) (some (.d (.int a))) none) (pbd_cons (psd_forF [8] B D.int s1 (tmB (0 + (i : Int)) a) (fun _ => tmSt n ts ow'.length (some (.d (.int (0 + (i : Int))))) (some (.d (.int (t.1 : Int)))) (some (.d (.lst (B.map D.int)))) (some (.d (.int a))) none)
        (fun _ b => tmSt n ts ow'.length (some (.d (.int (0 + (i : Int))))) (some (.d (.int (t.1 : Int)))) (some (.d (.lst (B.map D.int)))) (some (.d (.int a))) (some (.d (.int b)))) (fun s => ow' ++ [.t (tabI s)]) PassesOwn.never rfl (pid_list (pd_var 6)) ⟨rfl, fun i r h => h⟩ rfl (fun l a r hl => pgd_name 8 scTimes.nd) (fun l2 b r2 hl2 => ?_)) pbd_nil) rfl (by (intro i r h; rcases i with _ | _ | _ | _ | _ | _ | _ | _ | _ | i <;> first | exact h | cases h))
      have hB1 := fold_len (tmB (0 + (i : Int)) a) 1 (tmB_len _ _) l2 s1
      have hl2' : l2.length ≤ 8 := by
        have := congrArg List.length hl2
        rw [List.length_append, List.length_cons] at this
        omega
      generalize l2.foldl (tmB (0 + (i : Int)) a) s1 = s2 at hB1
      unfold tmB
      refine pbd_weak (st1 := tmSt n ts ow'.length (some (.d (.int (0 + (i : Int))))) (some (.d (.int (t.1 : Int)))) (some (.d (.lst (B.map D.int)))) (some (.d (.int a))) (some (.d (.int b)))) (pbd_cons (psd_if (ptd_ne (pd_var 7) (pd_var 8)) (fun hb => ?_) (fun hb => ?_)) pbd_nil) rfl (by (intro i r h; rcases i with _ | _ | _ | _ | _ | _ | _ | _ | _ | i <;> first | exact h | cases h))
      · have hb' : ¬ a = b := by
          rw [iv_eq] at hb
          simpa using hb
        rw [if_neg hb']
        refine pbd_cons (psd_ow (psd_putT (ns := [a, b]) ?_ (pd_var 4) (pd_var 3) (pd_tup (padd_cons (pd_var 7) (padd_cons (pd_var 8) padd_nil))) (k := ow'.length) (gs := tabI s2) ?_ ?_) ?_) pbd_nil
        · exact Nat.lt_of_le_of_lt (Nat.add_le_add_left (by decide) _) hr.units
        · rw [List.getElem?_append_right (Nat.le_refl _), Nat.sub_self]; rfl
        · rw [tabI_len]; omega
        · rw [set_last, tabI_put]
      · have hb' : a = b := by
          rw [iv_eq] at hb
          simpa using hb
        rw [if_pos hb']
        exact pbd_nil
    · exact pbd_last (psd_ret (pd_var 3))
end
end Bl
set_option Elab.async false
set_option linter.all false
set_option maxRecDepth 100000
set_option maxHeartbeats 4000000
namespace Bl
open PySem PySem.Spec PyProof.Rows L2
/-! ### the table of the threes -/
def rgZ (a : Int) (m : Nat) : List Int := (List.range m).map fun (t : Nat) => a + (t : Int)
theorem rgZ_D (a : Int) (m : Nat) : rngD a m = (rgZ a m).map D.int := by unfold rngD rgZ; rw [List.map_map]; rfl
theorem mem_rgZ {a x : Int} {m : Nat} (h : x ∈ rgZ a m) : a ≤ x ∧ x < a + m := by
  obtain ⟨t, ht, rfl⟩ := List.mem_map.mp h
  have := List.mem_range.mp ht
  omega
theorem mem_rngZ {n x : Int} (h : x ∈ rngZ n) : 0 ≤ x ∧ x < n := by
  obtain ⟨t, ht, rfl⟩ := List.mem_map.mp h
  have := List.mem_range.mp ht
  omega
abbrev upr (n i : Int) : List Int := rgZ (i + 1) (n - (i + 1)).toNat
theorem mem_upr {n i x : Int} (h : x ∈ upr n i) : i < x ∧ x < n := by
  have := mem_rgZ h
  omega
def f3 {α : Type} (g : α → List Int → α) (i j : Int) (s : α) (k : Int) : α := g s [i, j, k]
def f2 {α : Type} (n : Int) (g : α → List Int → α) (i : Int) (s : α) (j : Int) : α := (upr n j).foldl (f3 g i j) s
def f1 {α : Type} (n : Int) (g : α → List Int → α) (s : α) (i : Int) : α := (upr n i).foldl (f2 n g i) s
def n3 {α : Type} (n : Int) (g : α → List Int → α) (s : α) : α := (rngZ n).foldl (f1 n g) s
/-- a table by a function of the threes -/
def tabF (n : Int) (f : List Int → Int) : Tab := (sub3 (rngZ n)).map fun q => (q, f q)
theorem n3_fold {α : Type} {n : Int} (h0 : 0 ≤ n) (h : n ≤ 7) (g : α → List Int → α) (s : α) : n3 n g s = (sub3 (rngZ n)).foldl g s := by
  have : n = 0 ∨ n = 1 ∨ n = 2 ∨ n = 3 ∨ n = 4 ∨ n = 5 ∨ n = 6 ∨ n = 7 := by omega
  rcases this with rfl | rfl | rfl | rfl | rfl | rfl | rfl | rfl <;> rfl
theorem lookI_none {l : Tab} {k : List Int} (h : k ∉ l.map (·.1)) : lookI l k = none := by
  have := lookI_any k l
  cases hl : lookI l k with
  | none => rfl
  | some v =>
    rw [hl] at this
    obtain ⟨p, hp, he⟩ := List.any_eq_true.mp this
    exact (h (List.mem_map.mpr ⟨p, hp, of_decide_eq_true he⟩)).elim
theorem putI_new {l : Tab} {k : List Int} {v : Int} (h : k ∉ l.map (·.1)) : putI l k v = l ++ [(k, v)] := by
  unfold putI
  rw [lookI_any, lookI_none h]
  rfl
theorem putI_all (f : List Int → Int) : ∀ (qs : List (List Int)) (l : Tab), (l.map (·.1) ++ qs).Nodup → qs.foldl (fun s q => putI s q (f q)) l = l ++ qs.map fun q => (q, f q)
  | [], l, _ => by simp
  | q :: qs, l, h => by
    have hq : q ∉ l.map (·.1) := fun z => by
      have := (List.nodup_append.mp h).2.2 q z q List.mem_cons_self
      exact this rfl
    rw [List.foldl_cons, putI_new hq, putI_all f qs _ (by rw [List.map_append, List.append_assoc]; exact h), List.append_assoc]
    rfl
theorem sub3_nodup {n : Int} (h0 : 0 ≤ n) (h : n ≤ 7) : (sub3 (rngZ n)).Nodup := by
  have : n = 0 ∨ n = 1 ∨ n = 2 ∨ n = 3 ∨ n = 4 ∨ n = 5 ∨ n = 6 ∨ n = 7 := by omega
  rcases this with rfl | rfl | rfl | rfl | rfl | rfl | rfl | rfl <;> decide +kernel
theorem n3_tab {n : Int} (h0 : 0 ≤ n) (h : n ≤ 7) (f : List Int → Int) : n3 n (fun s q => putI s q (f q)) [] = tabF n f := by
  rw [n3_fold h0 h, putI_all f _ [] (by simpa using sub3_nodup h0 h)]
  rfl
theorem n3_list {n : Int} (h0 : 0 ≤ n) (h : n ≤ 7) (f : List Int → Int) : n3 n (fun s q => s ++ [f q]) [] = (sub3 (rngZ n)).map f := by
  rw [n3_fold h0 h]
  have : ∀ (qs : List (List Int)) (s : List Int), qs.foldl (fun s q => s ++ [f q]) s = s ++ qs.map f := by
    intro qs
    induction qs with
    | nil => intro s; simp
    | cons q qs ih => intro s; rw [List.foldl_cons, ih, List.append_assoc]; rfl
  rw [this]
  rfl
theorem mem_sub3 {n i j k : Int} (h0 : 0 ≤ n) (h : n ≤ 7) (hi : 0 ≤ i) (hij : i < j) (hjk : j < k) (hk : k < n) : [i, j, k] ∈ sub3 (rngZ n) := by
  have : n = 0 ∨ n = 1 ∨ n = 2 ∨ n = 3 ∨ n = 4 ∨ n = 5 ∨ n = 6 ∨ n = 7 := by omega
  obtain ⟨a, rfl⟩ : ∃ a : Nat, i = a := ⟨i.toNat, by omega⟩
  obtain ⟨b, rfl⟩ : ∃ a : Nat, j = a := ⟨j.toNat, by omega⟩
  obtain ⟨c, rfl⟩ : ∃ a : Nat, k = a := ⟨k.toNat, by omega⟩
  have key : ∀ m : Nat, m < 8 → ∀ a : Fin m, ∀ b : Fin m, ∀ c : Fin m, a < b → b < c → [((a.1 : Nat) : Int), ((b.1 : Nat) : Int), ((c.1 : Nat) : Int)] ∈ sub3 (rngZ (m : Int)) := by decide +kernel
  obtain ⟨m, rfl⟩ : ∃ a : Nat, n = a := ⟨n.toNat, by omega⟩
  exact key m (by omega) ⟨a, by omega⟩ ⟨b, by omega⟩ ⟨c, by omega⟩ (by show a < b; omega) (by show b < c; omega)
theorem sub3_form {n : Int} (h0 : 0 ≤ n) (h : n ≤ 7) {q : List Int} (hq : q ∈ sub3 (rngZ n)) : ∃ i j k, q = [i, j, k] ∧ 0 ≤ i ∧ i < j ∧ j < k ∧ k < n := by
  have : n = 0 ∨ n = 1 ∨ n = 2 ∨ n = 3 ∨ n = 4 ∨ n = 5 ∨ n = 6 ∨ n = 7 := by omega
  have key : ∀ q ∈ sub3 (rngZ n), ∃ i j k, q = [i, j, k] ∧ 0 ≤ i ∧ i < j ∧ j < k ∧ k < n := by
    have test : ∀ q ∈ sub3 (rngZ n), (match q with | [i, j, k] => decide (0 ≤ i ∧ i < j ∧ j < k ∧ k < n) | _ => false) = true := by
      rcases this with rfl | rfl | rfl | rfl | rfl | rfl | rfl | rfl <;> decide +kernel
    intro q hq
    have := test q hq
    match q, this with
    | [i, j, k], h => exact ⟨i, j, k, rfl, of_decide_eq_true h⟩
  exact key q hq
theorem lookI_F {n : Int} {f : List Int → Int} {q : List Int} (hq : q ∈ sub3 (rngZ n)) : lookI (tabF n f) q = some (f q) := by
  unfold tabF
  generalize sub3 (rngZ n) = qs at hq
  induction qs with
  | nil => cases hq
  | cons a l ih =>
    rw [List.map_cons, lookI_cons]
    by_cases h : a = q
    · rw [if_pos h, h]
    · rw [if_neg h]
      exact ih ((List.mem_cons.mp hq).resolve_left fun z => h z.symm)
theorem putI_F {n : Int} {f : List Int → Int} {q : List Int} {v : Int} (hq : q ∈ sub3 (rngZ n)) : putI (tabF n f) q v = tabF n (fun p => if p = q then v else f p) := by
  unfold putI
  rw [lookI_any, lookI_F hq]
  show (if true = true then _ else _) = _
  rw [if_pos rfl]
  unfold tabF
  rw [List.map_map]
  refine List.map_congr_left fun p _ => ?_
  show (if p = q then (p, v) else (p, f p)) = (p, if p = q then v else f p)
  split <;> rfl
def sgT (tm : Tab) (q : List Int) : Int :=
  let x := (lookI tm (q.take 2)).getD 0
  let y := (lookI tm (q.drop 1)).getD 0
  if y < x then -1 else if x < y then 1 else 0
theorem sgT_rng (tm : Tab) (q : List Int) : -1 ≤ sgT tm q ∧ sgT tm q ≤ 1 := by
  unfold sgT
  dsimp only
  split
  · omega
  · split <;> omega
theorem room_u {k : Nat} {A : Around} (r : Room k A) : A.units + 1 < cLine := by have := r.un; omega
theorem room_u64 {k : Nat} {A : Around} (r : Room k A) : A.units + 64 < cLine := by have := r.un; omega
section
variable {P : Program} {w : World} {K : PySem.W.Frag} {mg : Str → Option Value} {base : Heap} {f : Addr} {fd : FuncData} {k : Nat} {C : Addr}
abbrev sTable : Stmt := topS 51
theorem scTable : FnScope ["_law_size_here", "_law_turns_here", "_law_times_here", "_law_table_here", "_law_i", "_law_j", "_law_k", "_law_sign"] ["_law_size_here", "_law_turns_here"] (defScope sTable) := ⟨rfl, rfl, rfl, by decide +kernel, rfl, by decide +kernel, by decide +kernel⟩
def Cov (n : Int) (ts : List Trn) : Prop := ∀ a b : Int, 0 ≤ a → a < b → b < n → ∃ v, lookI (timesZ (rngZ n) ts) [a, b] = some v
def gTable : GG := fun rs ow r ow' => ∃ (n : Int) (ts : List Trn), rs = [.d (.int n), .d (.lst (ts.map turnD))] ∧ 0 ≤ n ∧ n ≤ 7 ∧ ts.length ≤ 100 ∧ Cov n ts ∧ r = .own ow.length ∧ ow' = ow ++ [.t (tabI (tabF n (sgT (timesZ (rngZ n) ts))))]
abbrev tbSt (n : Int) (ts : List Trn) (tm : Tab) (kk : Nat) (i j k s : Option R) : Sta := [some (.d (.int n)), some (.d (.lst (ts.map turnD))), some (.d (.dT (tabI tm))), some (.own kk), i, j, k, s]
theorem upr_len (n i : Int) (h0 : 0 ≤ i) (h : n ≤ 7) : (upr n i).length ≤ 7 := by
  unfold upr rgZ
  rw [List.length_map, List.length_range]
  omega
theorem fold_lenM {α : Type} (ff : Tab → α → Tab) (c : Nat) : ∀ (l : List α) (s : Tab), (∀ s x, x ∈ l → (ff s x).length ≤ s.length + c) → (l.foldl ff s).length ≤ s.length + l.length * c
  | [], s, _ => by simp
  | x :: l, s, h => by
    have h1 := fold_lenM ff c l (ff s x) fun s y hy => h s y (List.mem_cons_of_mem _ hy)
    have h2 := h s x List.mem_cons_self
    rw [List.foldl_cons, List.length_cons, Nat.succ_mul]
    omega
theorem pre_mem {α : Type} {as l r : List α} {x : α} (h : as = l ++ x :: r) : x ∈ as ∧ (∀ y ∈ l, y ∈ as) ∧ l.length < as.length := by
  subst h
  refine ⟨by simp, fun y hy => List.mem_append_left _ hy, by rw [List.length_append, List.length_cons]; omega⟩
theorem ok_table (F : Fun K "_law_table" "_law_table" sTable f fd) (C1 : Fg P w K mg base "_law_times" k ["_law_size_here", "_law_turns_here"] gTimes) (mR : mg "range" = none) : FnOk P w K mg base CX0 (k + 1) f fd ["_law_size_here", "_law_turns_here"] (spF K gTable) := by
  refine okF F scTable (fun rs ow r ow' h => ?_) (fun cdv A outer s H E hr rs ow r ow' h => ?_)
  · obtain ⟨n, ts, rfl, _⟩ := h
    rfl
  · obtain ⟨n, ts, rfl, h0, h1, h2, hcov, rfl, rfl⟩ := h
    have hu := room_u hr
    rw [← n3_tab h0 h1]
    refine pbd_cons (psd_set 2 scTable.nd (pd_cg C1 hr (Nat.le_refl _) (padd_cons (pd_var 0) (padd_cons (pd_var 1) padd_nil)) ⟨n, ts, rfl, h0, by omega, by omega, rfl, rfl⟩)) ?_
    refine pbd_cons (psd_set 3 scTable.nd pd_newT) ?_
    unfold n3
    generalize hg : (fun (s : Tab) q => putI s q (sgT (timesZ (rngZ n) ts) q)) = g
    have hput : ∀ s q, g s q = putI s q (sgT (timesZ (rngZ n) ts) q) := fun s q => by rw [← hg]
    unfold Cov at hcov
    generalize htm : timesZ (rngZ n) ts = tm at hcov
    have hD : ∀ (i j : Int) (s : Tab) (x : Int), (f3 g i j s x).length ≤ s.length + 1 := fun i j s x => by
      unfold f3
      rw [hput]
      exact putI_len _ _ _
    have hC : ∀ (i j : Int) (s : Tab), 0 ≤ j → (f2 n g i s j).length ≤ s.length + 7 := fun i j s h => by
      have := fold_len (f3 g i j) 1 (hD i j) (upr n j) s
      have := upr_len n j h h1
      unfold f2
      omega
    have hB : ∀ (i : Int) (s : Tab), 0 ≤ i → (f1 n g s i).length ≤ s.length + 49 := fun i s h => by
      have := fold_lenM (f2 n g i) 7 (upr n i) s fun s j hj => hC i j s (by have := mem_upr hj; omega)
      have := upr_len n i h h1
      unfold f1
      omega
    refine pbd_cons (psd_forF [4] (rngZ n) D.int [] (f1 n g) (fun _ => tbSt n ts tm ow.length none none none none) (fun _ i => tbSt n ts tm ow.length (some (.d (.int i))) none none none) (fun s => ow ++ [.t (tabI s)]) PassesOwn.never rfl
      (pid_eq (pid_range1 mR (padd_cons (pd_var 0) padd_nil) (by omega)) (rngD_Z n)) ⟨rfl, fun i r h => h⟩ rfl (fun l i r hl => pgd_name 4 scTable.nd) (fun l i r hl => ?_)) ?_
    · obtain ⟨hi1, hi2, hi3⟩ := pre_mem hl
      have hi := mem_rngZ hi1
      rw [rngZ_len] at hi3
      have hL := fold_lenM (f1 n g) 49 l [] (fun s x hx => hB x s (mem_rngZ (hi2 x hx)).1)
      rw [List.length_nil] at hL
      generalize List.foldl (f1 n g) [] l = s0 at hL
      refine pbd_weak (st1 := tbSt n ts tm ow.length (some (.d (.int i))) none none none) (pbd_cons (psd_forF [5] (upr n i) D.int s0 (f2 n g i) (fun _ => tbSt n ts tm ow.length (some (.d (.int i))) none none none) (fun _ j => tbSt n ts tm ow.length (some (.d (.int i))) (some (.d (.int j))) none none) (fun s => ow ++ [.t (tabI s)]) PassesOwn.never rfl
        (pid_eq (pid_range2 mR (padd_cons (pd_add (pd_var 4) pd_int) (padd_cons (pd_var 0) padd_nil)) (by omega) (by omega)) (rgZ_D _ _)) ⟨rfl, fun i r h => h⟩ rfl (fun l j r hl => pgd_name 5 scTable.nd) (fun l j r hl => ?_)) pbd_nil) rfl (by (intro i r h; rcases i with _ | _ | _ | _ | _ | _ | _ | _ | i <;> first | exact h | cases h))
      obtain ⟨hj1, hj2, hj3⟩ := pre_mem hl
      have hj := mem_upr hj1
      have hji := upr_len n i hi.1 h1
      have hL2 := fold_lenM (f2 n g i) 7 l s0 (fun s x hx => hC i x s (by have := mem_upr (hj2 x hx); omega))
      generalize List.foldl (f2 n g i) s0 l = s1 at hL2
      refine pbd_weak (st1 := tbSt n ts tm ow.length (some (.d (.int i))) (some (.d (.int j))) none none) (pbd_cons (psd_forF [6] (upr n j) D.int s1 (f3 g i j) (fun _ => tbSt n ts tm ow.length (some (.d (.int i))) (some (.d (.int j))) none none) (fun _ k => tbSt n ts tm ow.length (some (.d (.int i))) (some (.d (.int j))) (some (.d (.int k))) none) (fun s => ow ++ [.t (tabI s)]) PassesOwn.never rfl
        (pid_eq (pid_range2 mR (padd_cons (pd_add (pd_var 5) pd_int) (padd_cons (pd_var 0) padd_nil)) (by omega) (by omega)) (rgZ_D _ _)) ⟨rfl, fun i r h => h⟩ rfl (fun l k r hl => pgd_name 6 scTable.nd) (fun l k r hl => ?_)) pbd_nil) rfl (by (intro i r h; rcases i with _ | _ | _ | _ | _ | _ | _ | _ | i <;> first | exact h | cases h))
      obtain ⟨hk1, hk2, hk3⟩ := pre_mem hl
      have hk := mem_upr hk1
      have hkj := upr_len n j (by omega) h1
      have hL3 := fold_len (f3 g i j) 1 (hD i j) l s1
      generalize List.foldl (f3 g i j) s1 l = s2 at hL3
      obtain ⟨x, hx⟩ := hcov i j hi.1 hj.1 hj.2
      obtain ⟨y, hy⟩ := hcov j k (by omega) hk.1 hk.2
      have esg : sgT tm [i, j, k] = if y < x then -1 else if x < y then 1 else 0 := by
        unfold sgT
        show (let x := (lookI tm [i, j]).getD 0; let y := (lookI tm [j, k]).getD 0; if y < x then (-1 : Int) else if x < y then 1 else 0) = _
        rw [hx, hy]
        rfl
      have e3 : f3 g i j s2 k = putI s2 [i, j, k] (if y < x then -1 else if x < y then 1 else 0) := by
        unfold f3
        rw [hput, htm, esg]
      rw [e3]
      refine pbd_cons (psd_set 7 scTable.nd pd_int) ?_
      refine pbd_cons (psd_if (out := .nx (tbSt n ts tm ow.length (some (.d (.int i))) (some (.d (.int j))) (some (.d (.int k))) (some (.d (.int (if x < y then 1 else 0))))) (ow ++ [.t (tabI s2)])) (ptd_lt (pd_getT (ns := [i, j]) hu (pd_var 2) (pd_tup (padd_cons (pd_var 4) (padd_cons (pd_var 5) padd_nil))) (lookI_some hx)) (pd_getT (ns := [j, k]) hu (pd_var 2) (pd_tup (padd_cons (pd_var 5) (padd_cons (pd_var 6) padd_nil))) (lookI_some hy))) (fun hb => ?_) (fun hb => ?_)) ?_
      · rw [if_pos (of_decide_eq_true hb)]
        exact pbd_cons (psd_set 7 scTable.nd pd_int) pbd_nil
      · rw [if_neg (of_decide_eq_false hb)]
        exact pbd_nil
      refine pbd_cons (psd_if (out := .nx (tbSt n ts tm ow.length (some (.d (.int i))) (some (.d (.int j))) (some (.d (.int k))) (some (.d (.int (if y < x then -1 else if x < y then 1 else 0))))) (ow ++ [.t (tabI s2)])) (ptd_gt (pd_getT (ns := [i, j]) hu (pd_var 2) (pd_tup (padd_cons (pd_var 4) (padd_cons (pd_var 5) padd_nil))) (lookI_some hx)) (pd_getT (ns := [j, k]) hu (pd_var 2) (pd_tup (padd_cons (pd_var 5) (padd_cons (pd_var 6) padd_nil))) (lookI_some hy))) (fun hb => ?_) (fun hb => ?_)) ?_
      · rw [if_pos (of_decide_eq_true hb)]
        exact pbd_cons (psd_set 7 scTable.nd (pd_neg pd_int)) pbd_nil
      · rw [if_neg (of_decide_eq_false hb)]
        exact pbd_nil
      refine pbd_weak (st1 := tbSt n ts tm ow.length (some (.d (.int i))) (some (.d (.int j))) (some (.d (.int k))) (some (.d (.int (if y < x then -1 else if x < y then 1 else 0))))) (pbd_cons (psd_ow (psd_putT (ns := [i, j, k]) hu (pd_var 7) (pd_var 3) (pd_tup (padd_cons (pd_var 4) (padd_cons (pd_var 5) (padd_cons (pd_var 6) padd_nil)))) (k := ow.length) (gs := tabI s2) ?_ ?_) ?_) pbd_nil) rfl (by (intro i r h; rcases i with _ | _ | _ | _ | _ | _ | _ | _ | i <;> first | exact h | cases h))
      · rw [List.getElem?_append_right (Nat.le_refl _), Nat.sub_self]; rfl
      · rw [tabI_len]; omega
      · rw [set_last, tabI_put]
    · exact pbd_last (psd_ret (pd_var 3))
end
end Bl
set_option Elab.async false
set_option linter.all false
set_option maxRecDepth 100000
set_option maxHeartbeats 4000000
namespace Bl
open PySem PySem.Spec PyProof.Rows L2
/-! ### the signs, a table spoilt -/
theorem tabF_len (n : Int) (f : List Int → Int) : (tabF n f).length = (sub3 (rngZ n)).length := by unfold tabF; rw [List.length_map]
theorem sub3_len7 {n : Int} (h0 : 0 ≤ n) (h : n ≤ 7) : (sub3 (rngZ n)).length ≤ 35 := by
  have : n = 0 ∨ n = 1 ∨ n = 2 ∨ n = 3 ∨ n = 4 ∨ n = 5 ∨ n = 6 ∨ n = 7 := by omega
  rcases this with rfl | rfl | rfl | rfl | rfl | rfl | rfl | rfl <;> decide +kernel
abbrev Spo := List Int × (List Int → Int)
def spQ (n : Int) (ps : List Int) : List Int := (sub3 (rngZ n)).getD (nextV ps ((sub3 (rngZ n)).length : Int)).toNat []
def spStep (n : Int) (s : Spo) (_ : Int) : Spo :=
  if (sub3 (rngZ n)).length = 0 then s else
    (s.1.dropLast.dropLast, fun p => if p = spQ n s.1 then (s.2 (spQ n s.1) + 2 + nextV s.1.dropLast 2) % 3 - 1 else s.2 p)
def SgnF (f : List Int → Int) : Prop := ∀ q, -1 ≤ f q ∧ f q ≤ 1
theorem spStep_sgn (n a : Int) (s : Spo) (h : SgnF s.2) : SgnF (spStep n s a).2 := by
  unfold spStep
  split
  · exact h
  · intro q
    dsimp only
    split
    · have h1 := Int.emod_nonneg (s.2 (spQ n s.1) + 2 + nextV s.1.dropLast 2) (show (3 : Int) ≠ 0 by decide)
      have h2 := Int.emod_lt_of_pos (s.2 (spQ n s.1) + 2 + nextV s.1.dropLast 2) (show (0 : Int) < 3 by decide)
      omega
    · exact h q
section
variable {P : Program} {w : World} {K : PySem.W.Frag} {mg : Str → Option Value} {base : Heap} {f : Addr} {fd : FuncData} {k : Nat} {C : Addr}
abbrev sSigns : Stmt := topS 52
theorem scSigns : FnScope ["_law_size_here", "_law_table_here", "_law_signs_here", "_law_i", "_law_j", "_law_k"] ["_law_size_here", "_law_table_here"] (defScope sSigns) := ⟨rfl, rfl, rfl, by decide +kernel, rfl, by decide +kernel, by decide +kernel⟩
def gSigns : GG := fun rs ow r ow' => ∃ (n : Int) (F : List Int → Int), rs = [.d (.int n), .d (.dT (tabI (tabF n F)))] ∧ 0 ≤ n ∧ n ≤ 7 ∧ r = .d (.lst (((sub3 (rngZ n)).map F).map D.int)) ∧ ow' = ow
abbrev sgSt (n : Int) (F : List Int → Int) (kk : Nat) (i j k : Option R) : Sta := [some (.d (.int n)), some (.d (.dT (tabI (tabF n F)))), some (.own kk), i, j, k]
theorem ok_signs (F : Fun K "_law_signs" "_law_signs" sSigns f fd) (mR : mg "range" = none) : FnOk P w K mg base CX0 (k + 1) f fd ["_law_size_here", "_law_table_here"] (spF K gSigns) := by
  refine okF F scSigns (fun rs ow r ow' h => ?_) (fun cdv A outer s H E hr rs ow r ow' h => ?_)
  · obtain ⟨n, F, rfl, _⟩ := h
    rfl
  · obtain ⟨n, F, rfl, h0, h1, rfl, rfl⟩ := h
    have hu := room_u hr
    refine pbd_frzR ?_ rfl
    rw [← n3_list h0 h1]
    refine pbd_cons (psd_set 2 scSigns.nd (pd_lstO padd_nil)) ?_
    unfold n3
    generalize hg : (fun (s : List Int) q => s ++ [F q]) = g
    have happ : ∀ s q, g s q = s ++ [F q] := fun s q => by rw [← hg]
    have hD : ∀ (i j : Int) (s : List Int) (x : Int), (f3 g i j s x).length = s.length + 1 := fun i j s x => by
      unfold f3
      rw [happ, List.length_append]
      rfl
    have lenG : ∀ {β : Type} (ff : List Int → β → List Int) (c : Nat) (l : List β) (s : List Int), (∀ s x, x ∈ l → (ff s x).length ≤ s.length + c) → (l.foldl ff s).length ≤ s.length + l.length * c := by
      intro β ff c l
      induction l with
      | nil => intro s _; simp
      | cons x l ih =>
        intro s h
        have h1 := ih (ff s x) fun s y hy => h s y (List.mem_cons_of_mem _ hy)
        have h2 := h s x List.mem_cons_self
        rw [List.foldl_cons, List.length_cons, Nat.succ_mul]
        omega
    have hC : ∀ (i j : Int) (s : List Int), 0 ≤ j → (f2 n g i s j).length ≤ s.length + 7 := fun i j s h => by
      have := lenG (f3 g i j) 1 (upr n j) s fun s x _ => Nat.le_of_eq (hD i j s x)
      have := upr_len n j h h1
      unfold f2
      omega
    have hB : ∀ (i : Int) (s : List Int), 0 ≤ i → (f1 n g s i).length ≤ s.length + 49 := fun i s h => by
      have := lenG (f2 n g i) 7 (upr n i) s fun s j hj => hC i j s (by have := mem_upr hj; omega)
      have := upr_len n i h h1
      unfold f1
      omega
    refine pbd_cons (psd_forF [3] (rngZ n) D.int [] (f1 n g) (fun _ => sgSt n F ow'.length none none none) (fun _ i => sgSt n F ow'.length (some (.d (.int i))) none none) (fun s => ow' ++ [.l (s.map D.int)]) PassesOwn.never rfl
      (pid_eq (pid_range1 mR (padd_cons (pd_var 0) padd_nil) (by omega)) (rngD_Z n)) ⟨rfl, fun i r h => h⟩ rfl (fun l i r hl => pgd_name 3 scSigns.nd) (fun l i r hl => ?_)) ?_
    · obtain ⟨hi1, hi2, hi3⟩ := pre_mem hl
      have hi := mem_rngZ hi1
      rw [rngZ_len] at hi3
      have hL := lenG (f1 n g) 49 l [] (fun s x hx => hB x s (mem_rngZ (hi2 x hx)).1)
      rw [List.length_nil] at hL
      generalize List.foldl (f1 n g) [] l = s0 at hL
      refine pbd_weak (st1 := sgSt n F ow'.length (some (.d (.int i))) none none) (pbd_cons (psd_forF [4] (upr n i) D.int s0 (f2 n g i) (fun _ => sgSt n F ow'.length (some (.d (.int i))) none none) (fun _ j => sgSt n F ow'.length (some (.d (.int i))) (some (.d (.int j))) none) (fun s => ow' ++ [.l (s.map D.int)]) PassesOwn.never rfl
        (pid_eq (pid_range2 mR (padd_cons (pd_add (pd_var 3) pd_int) (padd_cons (pd_var 0) padd_nil)) (by omega) (by omega)) (rgZ_D _ _)) ⟨rfl, fun i r h => h⟩ rfl (fun l j r hl => pgd_name 4 scSigns.nd) (fun l j r hl => ?_)) pbd_nil) rfl (by (intro i r h; rcases i with _ | _ | _ | _ | _ | _ | i <;> first | exact h | cases h))
      obtain ⟨hj1, hj2, hj3⟩ := pre_mem hl
      have hj := mem_upr hj1
      have hji := upr_len n i hi.1 h1
      have hL2 := lenG (f2 n g i) 7 l s0 (fun s x hx => hC i x s (by have := mem_upr (hj2 x hx); omega))
      generalize List.foldl (f2 n g i) s0 l = s1 at hL2
      refine pbd_weak (st1 := sgSt n F ow'.length (some (.d (.int i))) (some (.d (.int j))) none) (pbd_cons (psd_forF [5] (upr n j) D.int s1 (f3 g i j) (fun _ => sgSt n F ow'.length (some (.d (.int i))) (some (.d (.int j))) none) (fun _ k => sgSt n F ow'.length (some (.d (.int i))) (some (.d (.int j))) (some (.d (.int k)))) (fun s => ow' ++ [.l (s.map D.int)]) PassesOwn.never rfl
        (pid_eq (pid_range2 mR (padd_cons (pd_add (pd_var 4) pd_int) (padd_cons (pd_var 0) padd_nil)) (by omega) (by omega)) (rgZ_D _ _)) ⟨rfl, fun i r h => h⟩ rfl (fun l k r hl => pgd_name 5 scSigns.nd) (fun l k r hl => ?_)) pbd_nil) rfl (by (intro i r h; rcases i with _ | _ | _ | _ | _ | _ | i <;> first | exact h | cases h))
      obtain ⟨hk1, hk2, hk3⟩ := pre_mem hl
      have hk := mem_upr hk1
      have hkj := upr_len n j (by omega) h1
      have hL3 := lenG (f3 g i j) 1 l s1 fun s x _ => Nat.le_of_eq (hD i j s x)
      generalize List.foldl (f3 g i j) s1 l = s2 at hL3
      have e3 : f3 g i j s2 k = s2 ++ [F [i, j, k]] := by
        unfold f3
        rw [happ]
      rw [e3]
      have hmem := mem_sub3 h0 h1 hi.1 hj.1 hk.1 hk.2
      refine pbd_weak (st1 := sgSt n F ow'.length (some (.d (.int i))) (some (.d (.int j))) (some (.d (.int k)))) (pbd_cons (psd_expr (pd_ow (pd_append (pd_var 2) (pd_getT (ns := [i, j, k]) hu (pd_var 1) (pd_tup (padd_cons (pd_var 3) (padd_cons (pd_var 4) (padd_cons (pd_var 5) padd_nil)))) (lookI_some (lookI_F hmem))) ⟨_, app_get⟩ app_get ?_) ?_)) pbd_nil) rfl (by (intro i r h; rcases i with _ | _ | _ | _ | _ | _ | i <;> first | exact h | cases h))
      · rw [List.length_map]; omega
      · rw [set_last, List.map_append]
        rfl
    · exact pbd_last (psd_ret (pd_var 2))
end
end Bl
set_option Elab.async false
set_option linter.all false
set_option maxRecDepth 100000
set_option maxHeartbeats 4000000
namespace Bl
open PySem PySem.Spec PyProof.Rows L2
open scoped List
/-! ### pairs that stand in ascending order: they end when all is turned -/
def ascN : List Int → Nat
  | [] => 0
  | a :: l => l.countP (fun b => decide (a < b)) + ascN l
def crsN (x y : List Int) : Nat := (x.map fun a => y.countP fun b => decide (a < b)).sum
theorem ascN_append (x y : List Int) : ascN (x ++ y) = ascN x + ascN y + crsN x y := by
  induction x with
  | nil => simp [ascN, crsN]
  | cons a x ih =>
    rw [List.cons_append]
    show List.countP _ (x ++ y) + ascN (x ++ y) = List.countP _ x + ascN x + ascN y + (List.map _ (a :: x)).sum
    rw [ih, List.countP_append, List.map_cons, List.sum_cons]
    unfold crsN
    omega
theorem crsN_perm_r (x : List Int) {y z : List Int} (h : y.Perm z) : crsN x y = crsN x z := by
  unfold crsN
  congr 1
  refine List.map_congr_left fun a _ => h.countP_eq _
theorem crsN_perm_l {x z : List Int} (y : List Int) (h : x.Perm z) : crsN x y = crsN z y := by
  unfold crsN
  exact (h.map _).sum_nat
theorem ascN_swap (x p y : List Int) : ascN (x ++ p.reverse ++ y) + ascN p = ascN (x ++ p ++ y) + ascN p.reverse := by
  rw [List.append_assoc, List.append_assoc, ascN_append, ascN_append, ascN_append, ascN_append p y]
  have h1 : crsN p.reverse y = crsN p y := crsN_perm_l y (List.reverse_perm p)
  have h2 : crsN x (p.reverse ++ y) = crsN x (p ++ y) := crsN_perm_r x ((List.reverse_perm p).append_right y)
  omega
theorem ascN_desc : ∀ {l : List Int}, l.Pairwise (fun a b => b ≤ a) → ascN l = 0
  | [], _ => rfl
  | a :: l, h => by
    obtain ⟨h1, h2⟩ := List.pairwise_cons.mp h
    show List.countP _ l + ascN l = 0
    rw [ascN_desc h2, List.countP_eq_zero.mpr fun b hb => by have := h1 b hb; simp; omega]
theorem ascN_le : ∀ l : List Int, ascN l ≤ l.length * l.length
  | [] => Nat.le_refl _
  | a :: l => by
    have h1 := ascN_le l
    have h2 : l.countP (fun b => decide (a < b)) ≤ l.length := List.countP_le_length
    show List.countP _ l + ascN l ≤ (l.length + 1) * (l.length + 1)
    have : (l.length + 1) * (l.length + 1) = l.length * l.length + l.length + (l.length + 1) := by rw [Nat.add_mul, Nat.mul_add]; omega
    omega
theorem ascN_sub {a b : Int} (h : a < b) : ∀ {l : List Int}, [a, b] <+ l → 0 < ascN l
  | [], hs => by cases hs
  | c :: l, hs => by
    show 0 < List.countP _ l + ascN l
    cases hs with
    | cons _ hs => have := ascN_sub h hs; omega
    | cons_cons _ hs =>
      have : b ∈ l := List.singleton_sublist.mp hs
      have : 0 < l.countP (fun b => decide (a < b)) := List.countP_pos_iff.mpr ⟨b, this, decide_eq_true h⟩
      omega
/-- no neighbours rise: all fall -/
theorem desc_of : ∀ {l : List Int}, (∀ i (h : i + 1 < l.length), l[i + 1] ≤ l[i]) → l.Pairwise (fun a b => b ≤ a)
  | [], _ => .nil
  | [a], _ => by simp
  | a :: b :: l, h => by
    have ih : (b :: l).Pairwise (fun a b => b ≤ a) := desc_of fun i hi => h (i + 1) (by simp at hi ⊢; omega)
    refine List.pairwise_cons.mpr ⟨fun c hc => ?_, ih⟩
    have hab : b ≤ a := h 0 (by simp)
    rcases List.mem_cons.mp hc with rfl | hc
    · exact hab
    · have := (List.pairwise_cons.mp ih).1 c hc
      omega
theorem asc_of {l : List Int} (h : ∀ i (h : i + 1 < l.length), l[i] < l[i + 1]) : l.Pairwise (fun a b => a < b) := by
  match l, h with
  | [], _ => exact .nil
  | [a], _ => simp
  | a :: b :: l, h =>
    have ih : (b :: l).Pairwise (fun a b => a < b) := asc_of fun i hi => h (i + 1) (by simp at hi ⊢; omega)
    refine List.pairwise_cons.mpr ⟨fun c hc => ?_, ih⟩
    have hab : a < b := h 0 (by simp)
    rcases List.mem_cons.mp hc with rfl | hc
    · exact hab
    · have := (List.pairwise_cons.mp ih).1 c hc
      omega
termination_by l.length
theorem ascN_rev {p : List Int} (h : p.Pairwise (fun a b => a < b)) : ascN p.reverse = 0 := by
  refine ascN_desc ?_
  rw [List.pairwise_reverse]
  exact h.imp fun h => by omega
theorem ascN_pos {p : List Int} (h : p.Pairwise (fun a b => a < b)) (hl : 2 ≤ p.length) : 0 < ascN p := by
  match p, h, hl with
  | a :: b :: l, h, _ =>
    have hab : a < b := (List.pairwise_cons.mp h).1 b List.mem_cons_self
    exact ascN_sub hab (List.Sublist.cons_cons a (List.Sublist.cons_cons b (List.nil_sublist l)))
theorem turn_split (row : List Int) (t : Trn) : row = row.take t.1 ++ (row.drop t.1).take t.2 ++ row.drop (t.1 + t.2) := by
  conv => lhs; rw [← List.take_append_drop t.1 row, ← List.take_append_drop t.2 (row.drop t.1), List.drop_drop]
  rw [List.append_assoc]
/-- a turn of a rising part -/
theorem turn_less (row : List Int) (t : Trn) (h : ((row.drop t.1).take t.2).Pairwise (fun a b => a < b)) (hl : 2 ≤ ((row.drop t.1).take t.2).length) : ascN (turnR row t) < ascN row := by
  have h1 := ascN_swap (row.take t.1) ((row.drop t.1).take t.2) (row.drop (t.1 + t.2))
  rw [← turn_split, ascN_rev h] at h1
  have := ascN_pos h hl
  unfold turnR
  omega
/-- a pair keeps its order, unless it is turned -/
theorem sub_keep {a b : Int} (x p y : List Int) (h : [a, b] <+ x ++ p ++ y) : (a ∈ p ∧ b ∈ p) ∨ [a, b] <+ x ++ p.reverse ++ y := by
  rw [List.append_assoc] at h ⊢
  obtain ⟨l1, l2, e, h1, h2⟩ := List.sublist_append_iff.mp h
  match l1, e with
  | [], e =>
    have e : l2 = [a, b] := by simpa using e.symm
    subst e
    obtain ⟨m1, m2, e, g1, g2⟩ := List.sublist_append_iff.mp h2
    match m1, e with
    | [], e =>
      have e : m2 = [a, b] := by simpa using e.symm
      subst e
      exact .inr ((g2.trans (List.sublist_append_right _ _)).trans (List.sublist_append_right _ _))
    | [c], e =>
      obtain ⟨rfl, rfl⟩ : c = a ∧ m2 = [b] := by simpa [eq_comm] using e
      have hc : c ∈ p.reverse := List.mem_reverse.mpr (List.singleton_sublist.mp g1)
      have : [c] ++ [b] <+ p.reverse ++ y := (List.singleton_sublist.mpr hc).append g2
      exact .inr (this.trans (List.sublist_append_right _ _))
    | [c, d], e =>
      obtain ⟨rfl, rfl⟩ : c = a ∧ d = b := by
        simp at e
        exact ⟨e.1.symm, e.2.1.symm⟩
      exact .inl ⟨g1.subset (by simp), g1.subset (by simp)⟩
    | _ :: _ :: _ :: _, e => simp at e
  | [c], e =>
    obtain ⟨rfl, rfl⟩ : c = a ∧ l2 = [b] := by simpa [eq_comm] using e
    have hb : b ∈ p.reverse ++ y := by
      have := List.singleton_sublist.mp h2
      simpa using this
    have : [c] ++ [b] <+ x ++ (p.reverse ++ y) := h1.append (List.singleton_sublist.mpr hb)
    exact .inr this
  | [c, d], e =>
    obtain ⟨rfl, rfl⟩ : c = a ∧ d = b := by
      simp at e
      exact ⟨e.1.symm, e.2.1.symm⟩
    exact .inr (h1.trans (List.sublist_append_left _ _))
  | _ :: _ :: _ :: _, e => simp at e
/-- each pair is turned somewhere -/
def CovT (n : Int) (ts : List Trn) : Prop := ∀ a b : Int, 0 ≤ a → a < b → b < n → ∃ i, i < ts.length ∧ a ∈ blk (rngZ n) ts i ∧ b ∈ blk (rngZ n) ts i
theorem blk_app (r0 : List Int) (l m : List Trn) (i : Nat) (h : i < l.length) : blk r0 (l ++ m) i = blk r0 l i := by
  unfold blk
  rw [List.take_append_of_le_length (by omega), List.getD_eq_getElem?_getD, List.getD_eq_getElem?_getD, List.getElem?_append_left h]
theorem blk_last (r0 : List Int) (l : List Trn) (t : Trn) : blk r0 (l ++ [t]) l.length = ((l.foldl turnR r0).drop t.1).take t.2 := by
  unfold blk
  rw [List.take_append_of_le_length (Nat.le_refl _), List.take_length, List.getD_eq_getElem?_getD, List.getElem?_append_right (Nat.le_refl _), Nat.sub_self]
  rfl
theorem covered {r0 : List Int} {a b : Int} (h0 : [a, b] <+ r0) : ∀ (m l : List Trn), ([a, b] <+ l.foldl turnR r0 ∨ ∃ i, i < l.length ∧ a ∈ blk r0 l i ∧ b ∈ blk r0 l i) →
    ([a, b] <+ (l ++ m).foldl turnR r0 ∨ ∃ i, i < (l ++ m).length ∧ a ∈ blk r0 (l ++ m) i ∧ b ∈ blk r0 (l ++ m) i)
  | [], l, h => by rw [List.append_nil]; exact h
  | t :: m, l, h => by
    have h2 := covered h0 m (l ++ [t]) (by
      rcases h with h | ⟨i, h1, h2, h3⟩
      · rw [turn_split (l.foldl turnR r0) t] at h
        rcases sub_keep _ _ _ h with h | h
        · exact .inr ⟨l.length, by simp, by rw [blk_last]; exact h.1, by rw [blk_last]; exact h.2⟩
        · left
          rw [List.foldl_append]
          exact h
      · exact .inr ⟨i, by rw [List.length_append]; omega, by rw [blk_app _ _ _ _ h1]; exact h2, by rw [blk_app _ _ _ _ h1]; exact h3⟩)
    rw [List.append_assoc] at h2
    exact h2
theorem sub_range {a b : Nat} (h : a < b) : ∀ {n : Nat}, b < n → [a, b] <+ List.range n
  | 0, hb => by omega
  | n + 1, hb => by
    rw [List.range_succ]
    by_cases h2 : b < n
    · exact (sub_range h h2).trans (List.sublist_append_left _ _)
    · have e : b = n := by omega
      subst e
      have : [a] ++ [b] <+ List.range b ++ [b] := (List.singleton_sublist.mpr (List.mem_range.mpr h)).append (List.Sublist.refl _)
      exact this
theorem sub_rngZ {n a b : Int} (h0 : 0 ≤ a) (h1 : a < b) (h2 : b < n) : [a, b] <+ rngZ n := by
  have h := (sub_range (a := a.toNat) (b := b.toNat) (n := n.toNat) (by omega) (by omega)).map (fun (i : Nat) => (0 + (i : Int)))
  have e : List.map (fun (i : Nat) => (0 + (i : Int))) [a.toNat, b.toNat] = [a, b] := by
    show [0 + (a.toNat : Int), 0 + (b.toNat : Int)] = _
    rw [show 0 + (a.toNat : Int) = a by omega, show 0 + (b.toNat : Int) = b by omega]
  rw [e] at h
  exact h
theorem covT_of {n : Int} {ts : List Trn} (h : ascN (ts.foldl turnR (rngZ n)) = 0) : CovT n ts := fun a b h0 h1 h2 => by
  have hs := sub_rngZ h0 h1 h2
  have := covered hs ts [] (.inl hs)
  rw [List.nil_append] at this
  rcases this with q | q
  · have := ascN_sub h1 q
    omega
  · exact q
/-! ### the times of pairs that are turned -/
theorem fold_some {α : Type} (Pr : Tab → Prop) (ff : Tab → α → Tab) (hp : ∀ s x, Pr s → Pr (ff s x)) : ∀ (l : List α) (s : Tab), (Pr s ∨ ∃ x ∈ l, ∀ s, Pr (ff s x)) → Pr (l.foldl ff s)
  | [], s, h => by
    rcases h with h | ⟨x, hx, _⟩
    · exact h
    · cases hx
  | y :: l, s, h => by
    rw [List.foldl_cons]
    refine fold_some Pr ff hp l _ ?_
    rcases h with h | ⟨x, hx, h⟩
    · exact .inl (hp _ _ h)
    · rcases List.mem_cons.mp hx with rfl | hx
      · exact .inl (h s)
      · exact .inr ⟨x, hx, h⟩
theorem cov_of {n : Int} {ts : List Trn} (h : CovT n ts) : Cov n ts := fun a b h0 h1 h2 => by
  obtain ⟨i, hi, ha, hb⟩ := h a b h0 h1 h2
  have hB : ∀ (v c : Int) (s : Tab) (d : Int), (∃ x, lookI s [a, b] = some x) → ∃ x, lookI (tmB v c s d) [a, b] = some x := fun v c s d h => by
    unfold tmB
    split
    · exact h
    · rw [lookI_put]
      split
      · exact ⟨_, rfl⟩
      · exact h
  have hA : ∀ (v : Int) (l : List Int) (s : Tab) (c : Int), (∃ x, lookI s [a, b] = some x) → ∃ x, lookI (tmA v l s c) [a, b] = some x := fun v l s c h =>
    fold_some (fun s => ∃ x, lookI s [a, b] = some x) (tmB v c) (hB v c) l s (.inl h)
  have hT : ∀ (s : Tab) (j : Nat), (∃ x, lookI s [a, b] = some x) → ∃ x, lookI (tmT (rngZ n) ts s j) [a, b] = some x := fun s j h =>
    fold_some (fun s => ∃ x, lookI s [a, b] = some x) (tmA _ _) (hA _ _) _ s (.inl h)
  refine fold_some (fun s => ∃ x, lookI s [a, b] = some x) (tmT (rngZ n) ts) hT _ _ (.inr ⟨i, List.mem_range.mpr hi, fun s => ?_⟩)
  refine fold_some (fun s => ∃ x, lookI s [a, b] = some x) (tmA _ _) (hA _ _) _ s (.inr ⟨a, ha, fun s => ?_⟩)
  refine fold_some (fun s => ∃ x, lookI s [a, b] = some x) (tmB _ _) (hB _ _) _ s (.inr ⟨b, hb, fun s => ?_⟩)
  unfold tmB
  rw [if_neg (by omega), lookI_put, if_pos rfl]
  exact ⟨_, rfl⟩
end Bl
set_option Elab.async false
set_option linter.all false
set_option maxRecDepth 100000
set_option maxHeartbeats 4000000
namespace Bl
open PySem PySem.Spec PyProof.Rows L2
/-! ### turns by a draw -/
structure TS_ where
  ps : List Int
  row : List Int
  ts : List Trn
structure MS_ where
  ps : List Int
  m : Int
  room : Int
def upsZ (n : Int) (row : List Int) : List Int := (rngZ (n - 1)).filter fun p => decide (gI row p < gI row (p + 1))
def mStep (n p : Int) (row : List Int) (s : MS_) (_ : Int) : MS_ :=
  if s.m < s.room ∧ p + s.m < n ∧ gI row (p + s.m - 1) < gI row (p + s.m) then
    (if 3 ≤ nextV s.ps 5 then ⟨s.ps.dropLast, s.m + 1, s.room⟩ else ⟨s.ps.dropLast, s.m, s.m⟩)
  else s
def upP (n : Int) (s : TS_) : Int := (upsZ n s.row).getD (nextV s.ps ((upsZ n s.row).length : Int)).toNat 0
def upM (n w : Int) (s : TS_) : MS_ := (rngZ n).foldl (mStep n (upP n s) s.row) ⟨s.ps.dropLast, 2, w⟩
def upT (n w : Int) (s : TS_) : Trn := ((upP n s).toNat, (upM n w s).m.toNat)
def tStep (n w : Int) (s : TS_) (_ : Int) : TS_ :=
  if (upsZ n s.row).length = 0 then s else ⟨(upM n w s).ps, turnR s.row (upT n w s), s.ts ++ [upT n w s]⟩
def turnsZ (n w : Int) (ps : List Int) : TS_ := (rngZ (n * n)).foldl (tStep n w) ⟨ps, rngZ n, []⟩
theorem gI_get {row : List Int} {i : Int} (h0 : 0 ≤ i) (h : i.toNat < row.length) : gI row i = row[i.toNat] := by
  unfold gI atI ixN
  rw [if_pos h0, if_pos (by omega)]
  show (row[i.toNat]?).getD 0 = _
  rw [List.getElem?_eq_getElem h]
  rfl
theorem gI_ok {row : List Int} {i : Int} (h0 : 0 ≤ i) (h : i.toNat < row.length) : AtOk row i := by
  unfold AtOk atI ixN
  rw [if_pos h0, if_pos (by omega)]
  show (row[i.toNat]?).isSome = true
  rw [List.getElem?_eq_getElem h]
  rfl
/-- what a growing part keeps -/
structure MOk (n p : Int) (row : List Int) (s : MS_) : Prop where
  m2 : 2 ≤ s.m
  le : p + s.m ≤ n
  up : ∀ i : Int, p ≤ i → i + 1 < p + s.m → gI row i < gI row (i + 1)
theorem mStep_ok {n p : Int} {row : List Int} {s : MS_} (x : Int) (h : MOk n p row s) : MOk n p row (mStep n p row s x) := by
  unfold mStep
  split
  · rename_i hc
    split
    · refine ⟨by show 2 ≤ s.m + 1; have := h.m2; omega, by show p + (s.m + 1) ≤ n; omega, fun i h1 h2 => ?_⟩
      have h2 : i + 1 < p + (s.m + 1) := h2
      by_cases he : i + 1 = p + s.m
      · have e : i = p + s.m - 1 := by omega
        subst e
        have := hc.2.2
        rw [show p + s.m - 1 + 1 = p + s.m by omega]
        exact this
      · exact h.up i h1 (by omega)
    · exact ⟨h.m2, h.le, h.up⟩
  · exact h
theorem mFold_ok {n p : Int} {row : List Int} : ∀ (l : List Int) (s : MS_), MOk n p row s → MOk n p row (l.foldl (mStep n p row) s)
  | [], s, h => h
  | a :: l, s, h => mFold_ok l _ (mStep_ok a h)
theorem ups_mem {n p : Int} {row : List Int} (h : p ∈ upsZ n row) : 0 ≤ p ∧ p + 2 ≤ n ∧ gI row p < gI row (p + 1) := by
  obtain ⟨h1, h2⟩ := List.mem_filter.mp h
  have := mem_rngZ h1
  exact ⟨this.1, by omega, of_decide_eq_true h2⟩
theorem upP_mem {n : Int} {s : TS_} (h : (upsZ n s.row).length ≠ 0) : upP n s ∈ upsZ n s.row := by
  have hx := nextV_rng s.ps (show (0 : Int) < ((upsZ n s.row).length : Int) by omega)
  unfold upP
  rw [List.getD_eq_getElem?_getD, List.getElem?_eq_getElem (by omega)]
  exact List.getElem_mem _
theorem upM_ok {n w : Int} {s : TS_} (h : (upsZ n s.row).length ≠ 0) : MOk n (upP n s) s.row (upM n w s) := by
  obtain ⟨h1, h2, h3⟩ := ups_mem (upP_mem h)
  refine mFold_ok _ _ ⟨Int.le_refl 2, h2, fun i h4 h5 => ?_⟩
  have h5 : i + 1 < upP n s + 2 := h5
  have e : i = upP n s := by omega
  rw [e]
  exact h3
theorem tStep_less {n w : Int} {s : TS_} (hl : s.row.length = n.toNat) (h : (upsZ n s.row).length ≠ 0) : ascN (turnR s.row (upT n w s)) < ascN s.row := by
  obtain ⟨h1, h2, h3⟩ := ups_mem (upP_mem h)
  have hm := upM_ok (w := w) h
  have g1 := hm.m2
  have g2 := hm.le
  have e : (((s.row.drop (upT n w s).1).take (upT n w s).2)).length = (upM n w s).m.toNat := by
    unfold upT
    rw [List.length_take, List.length_drop, hl]
    dsimp only
    omega
  refine turn_less s.row (upT n w s) (asc_of fun i hi => ?_) (by rw [e]; omega)
  rw [e] at hi
  rw [List.getElem_take, List.getElem_take, List.getElem_drop, List.getElem_drop]
  have := hm.up (upP n s + i) (by omega) (by omega)
  rw [gI_get (by omega) (by omega), gI_get (by omega) (by omega)] at this
  have e1 : (upP n s + (i : Int)).toNat = (upT n w s).1 + i := by show _ = (upP n s).toNat + i; omega
  have e2 : (upP n s + (i : Int) + 1).toNat = (upT n w s).1 + (i + 1) := by show _ = (upP n s).toNat + (i + 1); omega
  simp only [e1, e2] at this
  exact this
theorem ups_none {n : Int} {row : List Int} (hl : row.length = n.toNat) (h : (upsZ n row).length = 0) : ascN row = 0 := by
  refine ascN_desc (desc_of fun i hi => ?_)
  have hn : upsZ n row = [] := List.length_eq_zero_iff.mp h
  have hm : (i : Int) ∈ rngZ (n - 1) := by
    unfold rngZ
    exact List.mem_map.mpr ⟨i, List.mem_range.mpr (by omega), by omega⟩
  have : ¬ gI row (i : Int) < gI row ((i : Int) + 1) := fun z => by
    have : (i : Int) ∈ upsZ n row := List.mem_filter.mpr ⟨hm, decide_eq_true z⟩
    rw [hn] at this
    cases this
  rw [gI_get (by omega) (by omega), gI_get (by omega) (by omega)] at this
  have e1 : ((i : Int)).toNat = i := by omega
  have e2 : ((i : Int) + 1).toNat = i + 1 := by omega
  simp only [e1, e2] at this
  omega
structure TOk (n : Int) (k : Nat) (s : TS_) : Prop where
  row : s.row = s.ts.foldl turnR (rngZ n)
  len : s.ts.length ≤ k
  less : ascN s.row + k ≤ n.toNat * n.toNat ∨ ascN s.row = 0
theorem TOk.rowLen {n : Int} {k : Nat} {s : TS_} (h : TOk n k s) : s.row.length = n.toNat := by rw [h.row, turnsR_len, rngZ_len]
theorem tStep_ok {n w : Int} {k : Nat} {s : TS_} (x : Int) (h : TOk n k s) : TOk n (k + 1) (tStep n w s x) := by
  unfold tStep
  split
  · rename_i hz
    exact ⟨h.row, by have := h.len; omega, .inr (ups_none h.rowLen hz)⟩
  · rename_i hz
    have hl := tStep_less (w := w) h.rowLen hz
    refine ⟨?_, ?_, ?_⟩
    · show turnR s.row (upT n w s) = (s.ts ++ [upT n w s]).foldl turnR (rngZ n)
      rw [List.foldl_append, ← h.row]
      rfl
    · show (s.ts ++ [upT n w s]).length ≤ k + 1
      rw [List.length_append, List.length_singleton]
      have := h.len
      omega
    · show ascN (turnR s.row (upT n w s)) + (k + 1) ≤ _ ∨ ascN (turnR s.row (upT n w s)) = 0
      rcases h.less with q | q
      · left; omega
      · right; omega
theorem tFold_ok {n w : Int} : ∀ (l : List Int) (k : Nat) (s : TS_), TOk n k s → TOk n (k + l.length) (l.foldl (tStep n w) s)
  | [], k, s, h => h
  | a :: l, k, s, h => by
    have := tFold_ok (w := w) l (k + 1) _ (tStep_ok (w := w) a h)
    rw [List.length_cons, show k + (l.length + 1) = k + 1 + l.length by omega]
    exact this
theorem tS0 (n : Int) (ps : List Int) : TOk n 0 ⟨ps, rngZ n, []⟩ := ⟨rfl, Nat.le_refl _, .inl (by
  have := ascN_le (rngZ n)
  rw [rngZ_len] at this
  exact this)⟩
theorem turns_ok {n : Int} (h0 : 0 ≤ n) (w : Int) (ps : List Int) : TOk n (n * n).toNat (turnsZ n w ps) := by
  have := tFold_ok (w := w) (rngZ (n * n)) 0 _ (tS0 n ps)
  rw [rngZ_len, Nat.zero_add] at this
  exact this
theorem turns_cov {n : Int} (h0 : 0 ≤ n) (w : Int) (ps : List Int) : CovT n (turnsZ n w ps).ts := by
  have h := turns_ok h0 w ps
  refine covT_of ?_
  rw [← h.row]
  rcases h.less with q | q
  · have : (n * n).toNat = n.toNat * n.toNat := Int.toNat_mul h0 h0
    omega
  · exact q
theorem keepg_set {ow : List OB} {k : Nat} {l : List D} : KeepG ow (ow.set k (.l l)) := by
  refine ⟨fun gs h => ?_, fun gs h => ?_⟩ <;>
  · rcases List.mem_or_eq_of_mem_set h with h | h
    · exact h
    · cases h
theorem set_app' {ow : List OB} {k : Nat} {b x y : OB} (h : ow[k]? = some x) : (ow ++ [y]).set k b = ow.set k b ++ [y] := by
  rw [List.set_append_left _ _ (List.getElem?_eq_some_iff.mp h).1]
theorem get_app' {ow : List OB} {k : Nat} {x y : OB} (h : ow[k]? = some x) : (ow ++ [y])[k]? = some x := by
  rw [List.getElem?_append_left (List.getElem?_eq_some_iff.mp h).1]; exact h
theorem app_get' {ow : List OB} {b : OB} {n : Nat} (h : n = ow.length) : (ow ++ [b])[n]? = some b := by
  subst h
  rw [List.getElem?_append_right (Nat.le_refl _), Nat.sub_self]; rfl
theorem set_last' {ow : List OB} {b b' : OB} {n : Nat} (h : n = ow.length) : (ow ++ [b]).set n b' = ow ++ [b'] := by
  subst h
  exact set_last
theorem get_set' {ow : List OB} {k : Nat} {a x : OB} (h : ow[k]? = some x) : (ow.set k a)[k]? = some a := List.getElem?_set_self (List.getElem?_eq_some_iff.mp h).1
section
variable {P : Program} {w : World} {K : PySem.W.Frag} {mg : Str → Option Value} {base : Heap} {f : Addr} {fd : FuncData} {k : Nat} {C : Addr}
abbrev sTurns : Stmt := topS 48
abbrev nTurns : List Str := ["_law_pool_here", "_law_size_here", "_law_widest", "_law_row", "_law_turns_here", "_law_count", "_law_p", "_law_ups", "_law_m", "_law_room", "_law_more", "_law_part"]
theorem scTurns : FnScope nTurns ["_law_pool_here", "_law_size_here", "_law_widest"] (defScope sTurns) := ⟨rfl, rfl, rfl, by decide +kernel, rfl, by decide +kernel, by decide +kernel⟩
def gTurns : GG := fun rs ow r ow' => ∃ (kp : Nat) (n wd : Int) (ps : List Int), rs = [.own kp, .d (.int n), .d (.int wd)] ∧ ow[kp]? = some (.l (ps.map D.int)) ∧ 0 ≤ n ∧ n ≤ 8 ∧ r = .d (.lst ((turnsZ n wd ps).ts.map turnD)) ∧ ow' = ow.set kp (.l ((turnsZ n wd ps).ps.map D.int))
abbrev tuSt (kp : Nat) (n wd : Int) (row : List Int) (kt : Nat) (c p ups m room more part : Option R) : Sta := [some (.own kp), some (.d (.int n)), some (.d (.int wd)), some (.d (lstVI row)), some (.own kt), c, p, ups, m, room, more, part]
abbrev tuO (ow : List OB) (kp : Nat) (ps : List Int) (ts : List Trn) : List OB := ow.set kp (.l (ps.map D.int)) ++ [.l (ts.map turnD)]
set_option maxHeartbeats 16000000 in
theorem ok_turns (F : Fun K "_law_turns" "_law_turns" sTurns f fd) (C1 : Fg P w K mg base "_law_next" k ["_law_pool_here", "_law_many"] gNext) (mR : mg "range" = none) (mL : mg "list" = none) (mN : mg "len" = none) : FnOk P w K mg base CX0 (k + 1) f fd ["_law_pool_here", "_law_size_here", "_law_widest"] (spF K gTurns) := by
  refine okF F scTurns (fun rs ow r ow' h => ?_) (fun cdv A outer s H E hr rs ow r ow' h => ?_)
  · obtain ⟨kp, n, wd, ps, rfl, _⟩ := h
    rfl
  · obtain ⟨kp, n, wd, ps, rfl, hp, h0, h8, rfl, rfl⟩ := h
    have hnn : 0 ≤ n * n ∧ n * n ≤ 64 := ⟨Int.mul_nonneg h0 h0, by
      have h1 : n * n ≤ 8 * n := Int.mul_le_mul_of_nonneg_right h8 h0
      omega⟩
    have hkl : kp < ow.length := (List.getElem?_eq_some_iff.mp hp).1
    refine pbd_frzR (ow1 := ow.set kp (.l ((turnsZ n wd ps).ps.map D.int))) ?_ (by rw [List.length_set]) keepg_set
    rw [List.length_set]
    refine pbd_cons (psd_set 3 scTurns.nd (pd_eqD (pd_lstRg rfl mL mR (pd_var 1) ⟨h0, by omega⟩) (by rw [rngD_Z]))) ?_
    refine pbd_cons (psd_set 4 scTurns.nd (pd_lstO padd_nil)) ?_
    refine pbd_cons (psd_forF [5] (rngZ (n * n)) D.int (TS_.mk ps (rngZ n) []) (tStep n wd) (fun s => tuSt kp n wd s.row ow.length none none none none none none none) (fun s i => tuSt kp n wd s.row ow.length (some (.d (.int i))) none none none none none none) (fun s => tuO ow kp s.ps s.ts) PassesOwn.never rfl
      (pid_eq (pid_range1 mR (padd_cons (pd_mul (pd_var 1) (pd_var 1) ?_) padd_nil) (by omega)) (rngD_Z _)) ⟨rfl, fun i r h => h⟩ ?_ (fun l i r hl => pgd_name 5 scTurns.nd) (fun l c r hl => ?_)) ?_
    · exact .inl ⟨by omega, by omega⟩
    · show ow.set kp (OB.l (ps.map D.int)) ++ [OB.l []] = ow ++ [OB.l []]
      rw [set_same hp]
    · have hok := tFold_ok (w := wd) l 0 _ (tS0 n ps)
      have hll := (pre_mem hl).2.2
      rw [rngZ_len] at hll
      rw [Nat.zero_add] at hok
      generalize l.foldl (tStep n wd) (TS_.mk ps (rngZ n) []) = s at hok
      have hrl := hok.rowLen
      have htl := hok.len
      have hP : (tuO ow kp s.ps s.ts)[kp]? = some (.l (s.ps.map D.int)) := get_app' (get_set' hp)
      have hrow : ∀ x : Int, 0 ≤ x → x < n → atI (s.row.map D.int) x = some (.int (gI s.row x)) := fun x h1 h2 => at_map (gI_ok h1 (by omega))
      refine pbd_cons (psd_setLc (own := [("_law_p", 6)]) 7 (rngZ (n - 1)) D.int (fun x => tuSt kp n wd s.row ow.length (some (.d (.int c))) (some (.d (.int x))) none none none none none) (fun p => decide (gI s.row p < gI s.row (p + 1))) D.int
        rfl scTurns.nd (pid_eq (pid_range1 mR (padd_cons (pd_sub (pd_var 1) pd_int) padd_nil) (by omega)) (rngD_Z (n - 1))) (blkOk_by (N := nTurns) (sc := defScope sTurns) (by decide +kernel)) (by rw [rngZ_len]; omega) (fun x hx _ H C' cl fp => pgd_name 6 scTurns.nd)
        (fun x hx l _ H C' cl fp => ptsd_one (ptd_lt (pd_ixL (pd_lstW (pd_var 3)) (pd_var 6) (hrow x (mem_rngZ hx).1 (by have := mem_rngZ hx; omega))) (pd_ixL (pd_lstW (pd_var 3)) (pd_add (pd_var 6) pd_int) (hrow (x + 1) (by have := mem_rngZ hx; omega) (by have := mem_rngZ hx; omega))))) (fun x hx _ l _ H C' cl fp => pd_var 6)) ?_
      have eups : ((rngZ (n - 1)).filter fun p => decide (gI s.row p < gI s.row (p + 1))) = upsZ n s.row := rfl
      rw [eups]
      unfold tStep
      by_cases hz : (upsZ n s.row).length = 0
      · rw [if_pos hz]
        exact pbd_weak (pbd_skip (ptd_gt (pd_lenL mN (padd_cons (pd_var 7) padd_nil)) pd_int) (by rw [List.length_map, hz]; rfl) pbd_nil) rfl (by (intro i r h; rcases i with _ | _ | _ | _ | _ | _ | _ | _ | _ | _ | _ | _ | i <;> first | exact h | cases h))
      · rw [if_neg hz]
        have hmem := upP_mem hz
        obtain ⟨q1, q2, q3⟩ := ups_mem hmem
        have hM := upM_ok (w := wd) hz
        have hx := nextV_rng s.ps (show (0 : Int) < ((upsZ n s.row).length : Int) by omega)
        have hlt : (nextV s.ps ((upsZ n s.row).length : Int)).toNat < (upsZ n s.row).length := by omega
        have hat : atI ((upsZ n s.row).map D.int) (nextV s.ps ((upsZ n s.row).length : Int)) = some (.int (upP n s)) := by
          unfold atI ixN upP
          rw [List.length_map, if_pos hx.1, if_pos hx.2]
          show ((upsZ n s.row).map D.int)[(nextV s.ps _).toNat]? = _
          rw [List.getElem?_map, List.getD_eq_getElem?_getD, List.getElem?_eq_getElem hlt]
          rfl
        obtain ⟨t, ht⟩ : ∃ t, t = upT n wd s := ⟨_, rfl⟩
        have hp1 : upP n s = (t.1 : Int) := by rw [ht]; show _ = (((upP n s).toNat : Nat) : Int); omega
        have hm1 : (upM n wd s).m = (t.2 : Int) := by rw [ht]; show _ = (((upM n wd s).m.toNat : Nat) : Int); have := hM.m2; omega
        rw [← ht]
        refine pbd_weak (st1 := tuSt kp n wd (turnR s.row t) ow.length (some (.d (.int c))) (some (.d (.int (t.1 : Int)))) (some (.d (.lst ((upsZ n s.row).map D.int)))) (some (.d (.int (t.2 : Int)))) (some (.d (.int (upM n wd s).room))) none (some (.d (lstVI ((s.row.drop t.1).take t.2).reverse)))) (pbd_cons (psd_if (bl := true) (ptd_eqB (ptd_gt (pd_lenL mN (padd_cons (pd_var 7) padd_nil)) pd_int) (by rw [List.length_map]; exact decide_eq_true (by omega))) (fun _ => ?_) (fun z => nomatch z)) pbd_nil) rfl (by (intro i r h; rcases i with _ | _ | _ | _ | _ | _ | _ | _ | _ | _ | _ | _ | i <;> first | exact h | cases h))
        have eset : ∀ (a b : List Int), (tuO ow kp a s.ts).set kp (.l (b.map D.int)) = tuO ow kp b s.ts := fun a b => by
          show (ow.set kp (OB.l (a.map D.int)) ++ [OB.l (s.ts.map turnD)]).set kp _ = _
          rw [set_app' (get_set' hp), List.set_set]
        have eget : ∀ (a : List Int), (tuO ow kp a s.ts)[kp]? = some (.l (a.map D.int)) := fun a => get_app' (get_set' hp)
        refine pbd_cons (psd_set 6 scTurns.nd (pd_ixL (pd_var 7) (pd_ow (pd_cg C1 hr (Nat.le_refl _) (pad_cons (pd_var 0) (padd_cons (pd_eqD (pd_lenL mN (padd_cons (pd_var 7) padd_nil)) (by rw [List.length_map])) padd_nil)) ⟨kp, ((upsZ n s.row).length : Int), s.ps, rfl, eget _, by omega, rfl, rfl⟩) (eset _ _)) hat)) ?_
        refine pbd_cons (psd_set 8 scTurns.nd pd_int) ?_
        refine pbd_cons (psd_set 9 scTurns.nd (pd_var 2)) ?_
        refine pbd_cons (psd_forF [10] (rngZ n) D.int (MS_.mk s.ps.dropLast 2 wd) (mStep n (upP n s) s.row) (fun u => tuSt kp n wd s.row ow.length (some (.d (.int c))) (some (.d (.int (upP n s)))) (some (.d (.lst ((upsZ n s.row).map D.int)))) (some (.d (.int u.m))) (some (.d (.int u.room))) none none)
          (fun u x => tuSt kp n wd s.row ow.length (some (.d (.int c))) (some (.d (.int (upP n s)))) (some (.d (.lst ((upsZ n s.row).map D.int)))) (some (.d (.int u.m))) (some (.d (.int u.room))) (some (.d (.int x))) none) (fun u => tuO ow kp u.ps s.ts) PassesOwn.never rfl
          (pid_eq (pid_range1 mR (padd_cons (pd_var 1) padd_nil) (by omega)) (rngD_Z _)) ⟨rfl, fun i r h => h⟩ rfl (fun l i r hl => pgd_name 10 scTurns.nd) (fun l x r hl => ?_)) ?_
        · have hu := mFold_ok l (MS_.mk s.ps.dropLast 2 wd) (n := n) (p := upP n s) (row := s.row) ⟨Int.le_refl 2, q2, fun i h4 h5 => by
            have h5 : i + 1 < upP n s + 2 := h5
            have e : i = upP n s := by omega
            rw [e]
            exact q3⟩
          generalize l.foldl (mStep n (upP n s) s.row) (MS_.mk s.ps.dropLast 2 wd) = u at hu
          have u1 := hu.m2
          have u2 := hu.le
          refine pbd_weak (st1 := tuSt kp n wd s.row ow.length (some (.d (.int c))) (some (.d (.int (upP n s)))) (some (.d (.lst ((upsZ n s.row).map D.int)))) (some (.d (.int (mStep n (upP n s) s.row u x).m))) (some (.d (.int (mStep n (upP n s) s.row u x).room))) (some (.d (.int x))) none) (pbd_cons (psd_if (bl := decide (u.m < u.room ∧ upP n s + u.m < n ∧ gI s.row (upP n s + u.m - 1) < gI s.row (upP n s + u.m))) (ptd_eqB (ptd_bool (pwd_and (ptd_lt (pd_var 8) (pd_var 9)) (fun _ => pwd_and (p := decide (upP n s + u.m < n)) (ptd_lt (pd_add (pd_var 6) (pd_var 8)) (pd_var 1)) (fun hb => pwd_and1 (ptd_lt (pd_ixL (pd_lstW (pd_var 3)) (pd_sub (pd_add (pd_var 6) (pd_var 8)) pd_int) (hrow (upP n s + u.m - 1) (by omega) (by have := of_decide_eq_true hb; omega))) (pd_ixL (pd_lstW (pd_var 3)) (pd_add (pd_var 6) (pd_var 8)) (hrow (upP n s + u.m) (by omega) (of_decide_eq_true hb)))))))) (by simp [Bool.and_assoc])) (fun hb => ?_) (fun hb => ?_)) pbd_nil) rfl (by (intro i r h; rcases i with _ | _ | _ | _ | _ | _ | _ | _ | _ | _ | _ | _ | i <;> first | exact h | cases h))
          · have hc := of_decide_eq_true hb
            unfold mStep
            rw [if_pos hc]
            refine pbd_cons (psd_if (ptd_ge (pd_ow (pd_cg C1 hr (Nat.le_refl _) (pad_cons (pd_var 0) (padd_cons pd_int padd_nil)) ⟨kp, 5, u.ps, rfl, eget _, by decide, rfl, rfl⟩) (eset _ _)) pd_int) (fun hb => ?_) (fun hb => ?_)) pbd_nil
            · rw [if_pos (of_decide_eq_true hb)]
              exact pbd_cons (psd_augI 8 scTurns.nd rfl pd_int) pbd_nil
            · rw [if_neg (of_decide_eq_false hb)]
              exact pbd_cons (psd_set 9 scTurns.nd (pd_var 8)) pbd_nil
          · have hc := of_decide_eq_false hb
            unfold mStep
            rw [if_neg hc]
            exact pbd_nil
        · show PBD _ (tuSt kp n wd s.row ow.length (some (.d (.int c))) (some (.d (.int (upP n s)))) (some (.d (.lst ((upsZ n s.row).map D.int)))) (some (.d (.int (upM n wd s).m))) (some (.d (.int (upM n wd s).room))) none none) (tuO ow kp (upM n wd s).ps s.ts) _ (.nx _ (tuO ow kp (upM n wd s).ps (s.ts ++ [t])))
          rw [hp1, hm1]
          have hL : s.row.length ≤ 8 := by omega
          generalize (upM n wd s).room = room
          generalize (upM n wd s).ps = ps2
          have hpc : cutD (s.row.map D.int) (some (t.1 : Int)) (some ((t.1 : Int) + (t.2 : Int))) = ((s.row.drop t.1).take t.2).map D.int := cut_mid _ _ _
          have hlen : (tuO ow kp ps2 s.ts).length = ow.length + 1 := by rw [List.length_append, List.length_set]; rfl
          refine pbd_frz2B (ow1 := tuO ow kp ps2 s.ts) (psd_set 11 scTurns.nd (pd_slO (pd_lstW (pd_var 3)) (pod_some (pd_var 6)) (pod_some (pd_add (pd_var 6) (pd_var 8))))) (psd_expr (pd_ow (pd_reverse (pd_var 11) app_get) set_last)) rfl .v ?_
          rw [hpc, ← List.map_reverse]
          have eU : unD (tuO ow kp ps2 s.ts).length (D.lstV (((s.row.drop t.1).take t.2).reverse.map D.int)) ((tuSt kp n wd s.row ow.length (some (.d (.int c))) (some (.d (.int (t.1 : Int)))) (some (.d (.lst ((upsZ n s.row).map D.int)))) (some (.d (.int (t.2 : Int)))) (some (.d (.int room))) none none).set 11 (some (.own (tuO ow kp ps2 s.ts).length))) = tuSt kp n wd s.row ow.length (some (.d (.int c))) (some (.d (.int (t.1 : Int)))) (some (.d (.lst ((upsZ n s.row).map D.int)))) (some (.d (.int (t.2 : Int)))) (some (.d (.int room))) none (some (.d (lstVI ((s.row.drop t.1).take t.2).reverse))) := by
            show [(if kp = (tuO ow kp ps2 s.ts).length then _ else _), _, _, _, (if ow.length = (tuO ow kp ps2 s.ts).length then _ else _), _, _, _, _, _, _, (if _ = _ then _ else _)] = _
            rw [if_neg (by omega), if_neg (by omega), if_pos rfl]
            rfl
          rw [eU]
          refine pbd_cons (psd_set 3 scTurns.nd (pd_eqD (pd_catV (pd_catV (pd_slV (pd_lstW (pd_var 3)) pod_none (pod_some (pd_var 6))) (pd_var 11) ?_) (pd_slV (pd_lstW (pd_var 3)) (pod_some (pd_add (pd_var 6) (pd_var 8))) pod_none) ?_) (d' := lstVI (turnR s.row t)) ?_)) (pbd_cons (psd_expr (pd_ow (pd_append (pd_var 4) (pd_tup (padd_cons (pd_var 6) (padd_cons (pd_var 8) padd_nil))) ⟨_, app_get' (by rw [List.length_set])⟩ (app_get' (by rw [List.length_set])) ?_) ?_)) pbd_nil)
          · rw [cut_pre, List.length_map, List.length_map, List.length_take, List.length_reverse, List.length_take, List.length_drop]; omega
          · rw [cut_pre, show (t.1 : Int) + (t.2 : Int) = ((t.1 + t.2 : Nat) : Int) by omega, cut_suf, List.length_append, List.length_map, List.length_map, List.length_map, List.length_take, List.length_reverse, List.length_take, List.length_drop, List.length_drop]; omega
          · rw [cut_pre, show (t.1 : Int) + (t.2 : Int) = ((t.1 + t.2 : Nat) : Int) by omega, cut_suf]
            unfold turnR lstVI
            rw [List.map_append, List.map_append]
          · rw [List.length_map]; omega
          · rw [set_last' (by rw [List.length_set])]
            show _ = ow.set kp (OB.l (ps2.map D.int)) ++ [OB.l ((s.ts ++ [t]).map turnD)]
            rw [List.map_append]
            rfl
    · exact pbd_last (psd_ret (pd_var 4))
end
end Bl
set_option Elab.async false
set_option linter.all false
set_option maxRecDepth 100000
set_option maxHeartbeats 4000000
namespace Bl
open PySem PySem.Spec PyProof.Rows L2
/-! ### drawings -/
def fA1 (l : List Trn) (p : Int) : List Trn := l ++ [(p.toNat, 2)]
def fA2 (n : Int) (l : List Trn) (a : Int) : List Trn := (rngZ (n - 1 - a)).foldl fA1 l
def fanA (n : Int) : List Trn := (rngZ (n - 1)).foldl (fA2 n) []
def fB1 (n : Int) (l : List Trn) (p : Int) : List Trn := l ++ [((n - 2 - p).toNat, 2)]
def fB2 (n : Int) (l : List Trn) (a : Int) : List Trn := (rngZ (n - 1 - a)).foldl (fB1 n) l
def fanB (n : Int) : List Trn := (rngZ (n - 1)).foldl (fB2 n) []
def fanC (n : Int) : List Trn := (rngZ (n - 1)).foldl (fB1 n) [(0, (n - 1).toNat)]
theorem fans_ok {n : Int} (h1 : 1 ≤ n) (h7 : n ≤ 7) : (ascN ((fanA n).foldl turnR (rngZ n)) = 0 ∧ (fanA n).length ≤ 60) ∧ (ascN ((fanB n).foldl turnR (rngZ n)) = 0 ∧ (fanB n).length ≤ 60) ∧
    ascN ([((0 : Nat), n.toNat)].foldl turnR (rngZ n)) = 0 ∧ (ascN ((fanC n).foldl turnR (rngZ n)) = 0 ∧ (fanC n).length ≤ 60) := by
  have : n = 1 ∨ n = 2 ∨ n = 3 ∨ n = 4 ∨ n = 5 ∨ n = 6 ∨ n = 7 := by omega
  rcases this with rfl | rfl | rfl | rfl | rfl | rfl | rfl <;> decide +kernel
end Bl
set_option Elab.async false
set_option linter.all false
set_option maxRecDepth 100000
set_option maxHeartbeats 4000000
namespace Bl
open PySem PySem.Spec PyProof.Rows L2
/-! ### good rows, the bad four -/
def cns (n : Int) (F : List Int → Int) : List Int := (sub3 (rngZ n)).map F
theorem tabD_F (n : Int) (F : List Int → Int) : tabD n (cns n F) = tabI (tabF n F) := by
  unfold tabD cns tabI tabF
  rw [List.map_map, List.zip_map', List.map_map]
  rfl
theorem sgA_F {n : Int} {F : List Int → Int} {q : List Int} (h : q ∈ sub3 (rngZ n)) : sgA n (cns n F) q = F q := by
  unfold sgA
  rw [tabD_F, lookI_some (lookI_F h)]
theorem lotOk_F {n : Int} {F : List Int → Int} {q : List Int} (h : q ∈ sub3 (rngZ n)) : LotOk n (cns n F) q := by
  unfold LotOk
  rw [sgA_F h, tabD_F]
  exact lookI_some (lookI_F h)
def chgI (ns : List Int) : List Int := (rngZ 3).filter fun i => !decide (gI ns i = gI ns (i + 1))
def steadyZ (ns : List Int) : Bool := !decide ((0 : Int) ∈ ns) && decide (((chgI ns).length : Int) ≤ 1)
def zerI (ns : List Int) : List Int := (rngZ 4).filter fun i => decide (gI ns i = 0)
def goodW (ns : List Int) : Bool :=
  if (zerI ns).length = 0 ∨ (zerI ns).length = 4 then decide ((zerI ns).length = 4) || steadyZ ns
  else if 1 < (zerI ns).length then false else steadyZ (ns.set ((zerI ns).headD 0).toNat (-1)) && steadyZ (ns.set ((zerI ns).headD 0).toNat 1)
theorem goodW_eq {a b c d : Int} (ha : -1 ≤ a ∧ a ≤ 1) (hb : -1 ≤ b ∧ b ≤ 1) (hc : -1 ≤ c ∧ c ≤ 1) (hd : -1 ≤ d ∧ d ≤ 1) : goodW [a, b, c, d] = goodL [a, b, c, d] := by
  have key : ∀ a ∈ [-1, 0, 1], ∀ b ∈ [-1, 0, 1], ∀ c ∈ [-1, 0, 1], ∀ d ∈ [-1, 0, 1], goodW [a, b, c, d] = goodL [a, b, c, d] := by decide +kernel
  have m : ∀ {x : Int}, -1 ≤ x ∧ x ≤ 1 → x ∈ [(-1 : Int), 0, 1] := fun h => by
    simp
    omega
  exact key a (m ha) b (m hb) c (m hc) d (m hd)
/-- all fours, as four loops walk them -/
def n4l (n : Int) : List (List Int) := (rngZ n).flatMap fun i => (upr n i).flatMap fun j => (upr n j).flatMap fun k => (upr n k).map fun m => [i, j, k, m]
theorem n4l_eq {n : Int} (h0 : 0 ≤ n) (h : n ≤ 7) : n4l n = sub4 (rngZ n) := by
  have : n = 0 ∨ n = 1 ∨ n = 2 ∨ n = 3 ∨ n = 4 ∨ n = 5 ∨ n = 6 ∨ n = 7 := by omega
  rcases this with rfl | rfl | rfl | rfl | rfl | rfl | rfl | rfl <;> decide +kernel
theorem findSome_flat {α β γ : Type} (g : α → List β) (p : β → Option γ) : ∀ l : List α, (l.flatMap g).findSome? p = l.findSome? fun x => (g x).findSome? p
  | [] => rfl
  | a :: l => by
    rw [List.flatMap_cons, List.findSome?_append, List.findSome?_cons, findSome_flat g p l]
    cases (g a).findSome? p with
    | none => rfl
    | some r => rfl
theorem findSome_if {α β : Type} (p : α → Bool) (r : α → β) : ∀ l : List α, (l.findSome? fun x => if p x = true then some (r x) else none) = (l.find? p).map r
  | [] => rfl
  | a :: l => by
    rw [List.findSome?_cons, List.find?_cons]
    cases h : p a with
    | true => rfl
    | false => simp only [if_neg (show ¬ (false = true) by decide)]; exact findSome_if p r l
def rowF (F : List Int → Int) : List Int → List Int
  | [i, j, k, m] => [F [i, j, k], F [i, j, m], F [i, k, m], F [j, k, m]]
  | _ => []
def badW (n : Int) (F : List Int → Int) : Option (List Int) := (sub4 (rngZ n)).find? fun q => !goodW (rowF F q)
theorem sub4_form {n : Int} (h0 : 0 ≤ n) (h : n ≤ 7) {q : List Int} (hq : q ∈ sub4 (rngZ n)) : ∃ i j k m, q = [i, j, k, m] ∧ 0 ≤ i ∧ i < j ∧ j < k ∧ k < m ∧ m < n := by
  rw [← n4l_eq h0 h] at hq
  unfold n4l at hq
  obtain ⟨i, hi, hq⟩ := List.mem_flatMap.mp hq
  obtain ⟨j, hj, hq⟩ := List.mem_flatMap.mp hq
  obtain ⟨k, hk, hq⟩ := List.mem_flatMap.mp hq
  obtain ⟨m, hm, rfl⟩ := List.mem_map.mp hq
  exact ⟨i, j, k, m, rfl, (mem_rngZ hi).1, (mem_upr hj).1, (mem_upr hk).1, (mem_upr hm).1, (mem_upr hm).2⟩
theorem signs4_F {n : Int} (h0 : 0 ≤ n) (h : n ≤ 7) {F : List Int → Int} {q : List Int} (hq : q ∈ sub4 (rngZ n)) : signs4 n (cns n F) q = rowF F q ∧ FourOk n (cns n F) q := by
  obtain ⟨i, j, k, m, rfl, h1, h2, h3, h4, h5⟩ := sub4_form h0 h hq
  have m1 := mem_sub3 h0 h h1 h2 h3 (by omega)
  have m2 := mem_sub3 h0 h h1 h2 (show j < m by omega) h5
  have m3 := mem_sub3 h0 h h1 (show i < k by omega) h4 h5
  have m4 := mem_sub3 h0 h (show 0 ≤ j by omega) h3 h4 h5
  refine ⟨?_, i, j, k, m, rfl, lotOk_F m1, lotOk_F m2, lotOk_F m3, lotOk_F m4⟩
  show [_, _, _, _] = [_, _, _, _]
  rw [sgA_F m1, sgA_F m2, sgA_F m3, sgA_F m4]
theorem badW_eq {n : Int} (h0 : 0 ≤ n) (h : n ≤ 7) {F : List Int → Int} (hF : SgnF F) : badW n F = badF n (cns n F) := by
  unfold badW badF
  have key : ∀ q ∈ sub4 (rngZ n), (!goodW (rowF F q)) = badQ n (cns n F) q := fun q hq => by
    unfold badQ
    rw [(signs4_F h0 h hq).1]
    obtain ⟨i, j, k, m, rfl, _⟩ := sub4_form h0 h hq
    show (!goodW [_, _, _, _]) = !goodL [_, _, _, _]
    rw [goodW_eq (hF _) (hF _) (hF _) (hF _)]
  generalize sub4 (rngZ n) = l at key
  induction l with
  | nil => rfl
  | cons a l ih =>
    rw [List.find?_cons, List.find?_cons, key a List.mem_cons_self, ih fun q hq => key q (List.mem_cons_of_mem _ hq)]
section
variable {P : Program} {w : World} {K : PySem.W.Frag} {mg : Str → Option Value} {base : Heap} {f : Addr} {fd : FuncData} {k : Nat} {C : Addr}
theorem at4 {ns : List Int} (h : ns.length = 4) {x : Int} (h0 : 0 ≤ x) (h1 : x ≤ 3) : atI (ns.map D.int) x = some (.int (gI ns x)) := at_map (gI_ok h0 (by omega))
end
end Bl
set_option Elab.async false
set_option linter.all false
set_option maxRecDepth 100000
set_option maxHeartbeats 4000000
namespace Bl
open PySem PySem.Spec PyProof.Rows L2
/-! ### bad_four, met, rings -/
def bad4 (F : List Int → Int) (q : List Int) : Option R := if (!goodW (rowF F q)) = true then some (.d (tupI q)) else none
def rr4 (F : List Int → Int) (i j k m : Int) : Option R := bad4 F [i, j, k, m]
def rr3 (n : Int) (F : List Int → Int) (i j k : Int) : Option R := (upr n k).findSome? (rr4 F i j k)
def rr2 (n : Int) (F : List Int → Int) (i j : Int) : Option R := (upr n j).findSome? (rr3 n F i j)
def rr1 (n : Int) (F : List Int → Int) (i : Int) : Option R := (upr n i).findSome? (rr2 n F i)
theorem rr_eq {n : Int} (h0 : 0 ≤ n) (h : n ≤ 7) (F : List Int → Int) : (rngZ n).findSome? (rr1 n F) = (badW n F).map fun q => R.d (tupI q) := by
  unfold badW
  rw [← findSome_if, ← n4l_eq h0 h]
  unfold n4l
  rw [findSome_flat]
  congr 1
  funext i
  rw [findSome_flat]
  unfold rr1
  congr 1
  funext j
  rw [findSome_flat]
  unfold rr2
  congr 1
  funext k
  rw [List.findSome?_map]
  rfl
theorem ins1_1 (x a : Int) : ins1 x [a] = if x ≤ a then [x, a] else [a, x] := rfl
theorem ins1_2 (x a b : Int) : ins1 x [a, b] = if x ≤ a then [x, a, b] else a :: (if x ≤ b then [x, b] else [b, x]) := rfl
section
variable {P : Program} {w : World} {K : PySem.W.Frag} {mg : Str → Option Value} {base : Heap} {f : Addr} {fd : FuncData} {k : Nat} {C : Addr}
abbrev nBad4 : List Str := ["_law_size_here", "_law_table_here", "_law_i", "_law_j", "_law_k", "_law_m", "_law_row"]
abbrev b4St (n : Int) (F : List Int → Int) (i j k m row : Option R) : Sta := [some (.d (.int n)), some (.d (.dT (tabI (tabF n F)))), i, j, k, m, row]
end
end Bl
set_option Elab.async false
set_option linter.all false
set_option maxRecDepth 100000
set_option maxHeartbeats 4000000
namespace Bl
open PySem PySem.Spec PyProof.Rows L2
open scoped List
/-! ### drawings: each pair is turned once, each three is turned in order -/
def rowAt (r0 : List Int) (ts : List Trn) (t : Nat) : List Int := (ts.take t).foldl turnR r0
theorem rowAt_succ {r0 : List Int} {ts : List Trn} {t : Nat} (h : t < ts.length) : rowAt r0 ts (t + 1) = turnR (rowAt r0 ts t) (ts.getD t (0, 0)) := by
  unfold rowAt
  rw [take_succ_of (x := ts.getD t (0, 0)) (by rw [List.getD_eq_getElem?_getD, List.getElem?_eq_getElem h]; rfl), List.foldl_append]
  rfl
theorem blk_split (r0 : List Int) (ts : List Trn) (t : Nat) : ∃ x y, rowAt r0 ts t = x ++ blk r0 ts t ++ y ∧ (t < ts.length → rowAt r0 ts (t + 1) = x ++ (blk r0 ts t).reverse ++ y) :=
  ⟨_, _, turn_split (rowAt r0 ts t) (ts.getD t (0, 0)), fun h => rowAt_succ h⟩
theorem turnR_perm (row : List Int) (t : Trn) : (turnR row t).Perm row := by
  conv => rhs; rw [turn_split row t]
  unfold turnR
  exact ((List.reverse_perm _).append_left _).append_right _
theorem rowAt_perm (r0 : List Int) : ∀ (ts : List Trn), (ts.foldl turnR r0).Perm r0 := by
  intro ts
  induction ts generalizing r0 with
  | nil => exact .refl _
  | cons t ts ih => exact (ih _).trans (turnR_perm _ _)
theorem rowAt_nd (n : Int) (ts : List Trn) (t : Nat) : (rowAt (rngZ n) ts t).Nodup := by
  have hn : (rngZ n).Nodup := by
    unfold rngZ
    refine List.Pairwise.map _ ?_ List.nodup_range
    intro a b h e
    exact h (by omega)
  exact (rowAt_perm (rngZ n) (ts.take t)).nodup_iff.mpr hn
theorem sub_anti {a b : Int} {l : List Int} (hn : l.Nodup) (h1 : [a, b] <+ l) (h2 : [b, a] <+ l) : False := by
  induction l with
  | nil => cases h1
  | cons c l ih =>
    obtain ⟨hc, hl⟩ := List.nodup_cons.mp hn
    cases h1 with
    | cons _ h1 =>
      cases h2 with
      | cons _ h2 => exact ih hl h1 h2
      | cons_cons _ h2 => exact hc (h1.subset (by simp))
    | cons_cons _ h1 =>
      cases h2 with
      | cons _ h2 => exact hc (h2.subset (by simp))
      | cons_cons _ h2 => exact hc (List.singleton_sublist.mp h1)
theorem sub_asc {a b : Int} {l : List Int} (hp : l.Pairwise (· < ·)) (ha : a ∈ l) (hb : b ∈ l) (h : a < b) : [a, b] <+ l := by
  induction l with
  | nil => cases ha
  | cons c l ih =>
    obtain ⟨h1, h2⟩ := List.pairwise_cons.mp hp
    rcases List.mem_cons.mp ha with e1 | ha'
    · rcases List.mem_cons.mp hb with e2 | hb'
      · omega
      · rw [e1]
        exact List.Sublist.cons_cons _ (List.singleton_sublist.mpr hb')
    · rcases List.mem_cons.mp hb with e2 | hb'
      · have := h1 a ha'
        omega
      · exact List.Sublist.cons _ (ih h2 ha' hb')
def AscT (n : Int) (ts : List Trn) : Prop := ∀ i, i < ts.length → (blk (rngZ n) ts i).Pairwise (· < ·)
def Trd (n : Int) (ts : List Trn) (a b : Int) (i : Nat) : Prop := i < ts.length ∧ a ∈ blk (rngZ n) ts i ∧ b ∈ blk (rngZ n) ts i
section
variable {n : Int} {ts : List Trn} {a b c : Int}
theorem mid_sub {x p y l : List Int} (h : l <+ p) : l <+ x ++ p ++ y := (h.trans (List.sublist_append_right x p)).trans (List.sublist_append_left _ _)
theorem trd_bef (A : AscT n ts) (hab : a < b) {i : Nat} (h : Trd n ts a b i) : [a, b] <+ rowAt (rngZ n) ts i := by
  obtain ⟨x, y, e, _⟩ := blk_split (rngZ n) ts i
  rw [e]
  exact mid_sub (sub_asc (A i h.1) h.2.1 h.2.2 hab)
theorem trd_aft (A : AscT n ts) (hab : a < b) {i : Nat} (h : Trd n ts a b i) : [b, a] <+ rowAt (rngZ n) ts (i + 1) := by
  obtain ⟨x, y, _, e⟩ := blk_split (rngZ n) ts i
  rw [e h.1]
  have := (sub_asc (A i h.1) h.2.1 h.2.2 hab).reverse
  exact mid_sub this
theorem keep_down (A : AscT n ts) (hab : a < b) {t : Nat} (ht : t < ts.length) (h : [b, a] <+ rowAt (rngZ n) ts t) : [b, a] <+ rowAt (rngZ n) ts (t + 1) := by
  obtain ⟨x, y, e, e2⟩ := blk_split (rngZ n) ts t
  rw [e] at h
  rw [e2 ht]
  rcases sub_keep _ _ _ h with q | q
  · exfalso
    have h2 := trd_bef A hab (i := t) ⟨ht, q.2, q.1⟩
    rw [← e] at h
    exact sub_anti (rowAt_nd n ts t) h2 h
  · exact q
theorem down_all (A : AscT n ts) (hab : a < b) {t : Nat} (h : [b, a] <+ rowAt (rngZ n) ts t) : ∀ u, t ≤ u → u ≤ ts.length → [b, a] <+ rowAt (rngZ n) ts u
  | 0, h1, _ => by
    have : t = 0 := by omega
    rw [this] at h
    exact h
  | u + 1, h1, h2 => by
    by_cases e : t = u + 1
    · rw [e] at h; exact h
    · exact keep_down A hab (by omega) (down_all A hab h u (by omega) (by omega))
theorem trd_uniq (A : AscT n ts) (hab : a < b) {i j : Nat} (h1 : Trd n ts a b i) (h2 : Trd n ts a b j) : i = j := by
  have key : ∀ {i j : Nat}, Trd n ts a b i → Trd n ts a b j → ¬ i < j := fun {i j} h1 h2 hij =>
    sub_anti (rowAt_nd n ts j) (trd_bef A hab h2) (down_all A hab (trd_aft A hab h1) j (by omega) (by have := h2.1; omega))
  have := key h1 h2
  have := key h2 h1
  omega
/-- until the pair is turned it stands rising -/
theorem up_all (A : AscT n ts) (hab : a < b) {i : Nat} (h : Trd n ts a b i) (h0 : 0 ≤ a) (hb : b < n) : ∀ u, u ≤ i → [a, b] <+ rowAt (rngZ n) ts u
  | 0, _ => sub_rngZ h0 hab hb
  | u + 1, hu => by
    have ih := up_all A hab h h0 hb u (by omega)
    obtain ⟨x, y, e, e2⟩ := blk_split (rngZ n) ts u
    rw [e] at ih
    rw [e2 (by have := h.1; omega)]
    rcases sub_keep _ _ _ ih with q | q
    · have := trd_uniq A hab h (j := u) ⟨by have := h.1; omega, q.1, q.2⟩
      omega
    · exact q
theorem btw {x p y : List Int} (hn : (x ++ p ++ y).Nodup) (ha : a ∈ p) (hc : c ∈ p) (h1 : [a, b] <+ x ++ p ++ y) (h2 : [b, c] <+ x ++ p ++ y) : b ∈ p := by
  have hb : b ∈ x ++ p ++ y := h1.subset (by simp)
  rcases List.mem_append.mp hb with q | q
  · rcases List.mem_append.mp q with q | q
    · exfalso
      have : [b] ++ [a] <+ x ++ p := (List.singleton_sublist.mpr q).append (List.singleton_sublist.mpr ha)
      exact sub_anti hn h1 (this.trans (List.sublist_append_left _ _))
    · exact q
  · exfalso
    have : [c] ++ [b] <+ (x ++ p) ++ y := (List.singleton_sublist.mpr (List.mem_append_right _ hc)).append (List.singleton_sublist.mpr q)
    exact sub_anti hn h2 this
/-- the turns of a three: all at once, or one way round, the outer pair between -/
theorem three_turns (A : AscT n ts) (h0 : 0 ≤ a) (hab : a < b) (hbc : b < c) (hc : c < n) {i j k : Nat} (hi : Trd n ts a b i) (hj : Trd n ts b c j) (hk : Trd n ts a c k) : (i = j ∧ k = i) ∨ (i < k ∧ k < j) ∨ (j < k ∧ k < i) := by
  have hac : a < c := by omega
  have L1 : i ≤ ts.length := Nat.le_of_lt hi.1
  have e1 : i = k → j = i := fun e => trd_uniq A hbc hj ⟨hi.1, hi.2.2, by rw [e]; exact hk.2.2⟩
  have e2 : j = k → i = j := fun e => trd_uniq A hab hi ⟨hj.1, by rw [e]; exact hk.2.1, hj.2.1⟩
  have e3 : i = j → k = i := fun e => trd_uniq A hac hk ⟨hi.1, hi.2.1, by rw [e]; exact hj.2.2⟩
  obtain ⟨x, y, ek, _⟩ := blk_split (rngZ n) ts k
  have hn := rowAt_nd n ts k
  -- k ahead of both, behind both: the line between would be turned too
  have q1 : ¬ (k < i ∧ k < j) := fun ⟨h1, h2⟩ => by
    have a1 := up_all A hab hi h0 (by omega) k (by omega)
    have a2 := up_all A hbc hj (by omega) hc k (by omega)
    rw [ek] at a1 a2 hn
    have hb := btw hn hk.2.1 hk.2.2 a1 a2
    have := trd_uniq A hab hi (j := k) ⟨hk.1, hk.2.1, hb⟩
    omega
  have q2 : ¬ (i < k ∧ j < k) := fun ⟨h1, h2⟩ => by
    have a1 := down_all A hab (trd_aft A hab hi) k (by omega) (Nat.le_of_lt hk.1)
    have a2 := down_all A hbc (trd_aft A hbc hj) k (by omega) (Nat.le_of_lt hk.1)
    rw [ek] at a1 a2 hn
    have hb := btw (a := c) (b := b) (c := a) hn hk.2.2 hk.2.1 a2 a1
    have := trd_uniq A hab hi (j := k) ⟨hk.1, hk.2.1, hb⟩
    omega
  by_cases h1 : i = k
  · have := e1 h1; omega
  · by_cases h2 : j = k
    · have := e2 h2; omega
    · omega
end
/-! ### the times tell the turns -/
theorem fold_inv {α : Type} (Pr : Tab → Prop) (ff : Tab → α → Tab) : ∀ (l : List α) (s : Tab), (∀ s x, x ∈ l → Pr s → Pr (ff s x)) → Pr s → Pr (l.foldl ff s)
  | [], s, _, h => h
  | x :: l, s, hp, h => fold_inv Pr ff l _ (fun s y hy => hp s y (List.mem_cons_of_mem _ hy)) (hp s x List.mem_cons_self h)
theorem times_val {n : Int} {ts : List Trn} {a b v : Int} (h : lookI (timesZ (rngZ n) ts) [a, b] = some v) : ∃ i : Nat, v = (i : Int) ∧ Trd n ts a b i := by
  have key : (fun s : Tab => ∀ v, lookI s [a, b] = some v → ∃ i : Nat, v = (i : Int) ∧ Trd n ts a b i) (timesZ (rngZ n) ts) := by
    refine fold_inv (fun s : Tab => ∀ v, lookI s [a, b] = some v → ∃ i : Nat, v = (i : Int) ∧ Trd n ts a b i) (tmT (rngZ n) ts) _ _ (fun s i hi hs => ?_) (fun v hv => by rw [lookI_nil] at hv; cases hv)
    have hi := List.mem_range.mp hi
    unfold tmT
    refine fold_inv (fun s : Tab => ∀ v, lookI s [a, b] = some v → ∃ i : Nat, v = (i : Int) ∧ Trd n ts a b i) _ _ _ (fun s c hc hs => ?_) hs
    unfold tmA
    refine fold_inv (fun s : Tab => ∀ v, lookI s [a, b] = some v → ∃ i : Nat, v = (i : Int) ∧ Trd n ts a b i) _ _ _ (fun s d hd hs => ?_) hs
    intro v hv
    unfold tmB at hv
    split at hv
    · exact hs v hv
    · rw [lookI_put] at hv
      split at hv
      · rename_i he
        cases hv
        simp only [List.cons.injEq, and_true] at he
        exact ⟨i, by omega, hi, by rw [he.1]; exact hc, by rw [he.2]; exact hd⟩
      · exact hs v hv
  exact key v h
theorem time_of {n : Int} {ts : List Trn} (cv : CovT n ts) {a b : Int} (h0 : 0 ≤ a) (hab : a < b) (hb : b < n) : ∃ i : Nat, lookI (timesZ (rngZ n) ts) [a, b] = some (i : Int) ∧ Trd n ts a b i := by
  obtain ⟨v, hv⟩ := cov_of cv a b h0 hab hb
  obtain ⟨i, rfl, ht⟩ := times_val hv
  exact ⟨i, hv, ht⟩
/-- the sign of a three of a drawing -/
theorem sgT_three {n : Int} {ts : List Trn} (A : AscT n ts) (cv : CovT n ts) {a b c : Int} (h0 : 0 ≤ a) (hab : a < b) (hbc : b < c) (hc : c < n) {i j k : Nat} (hi : Trd n ts a b i) (hj : Trd n ts b c j) (hk : Trd n ts a c k) :
    (i = j ∧ k = i ∧ sgT (timesZ (rngZ n) ts) [a, b, c] = 0) ∨ (i < k ∧ k < j ∧ sgT (timesZ (rngZ n) ts) [a, b, c] = 1) ∨ (j < k ∧ k < i ∧ sgT (timesZ (rngZ n) ts) [a, b, c] = -1) := by
  obtain ⟨i', e1, t1⟩ := time_of cv h0 hab (by omega)
  obtain ⟨j', e2, t2⟩ := time_of cv (by omega) hbc hc
  have u1 := trd_uniq A hab hi t1
  have u2 := trd_uniq A hbc hj t2
  subst u1 u2
  have es : sgT (timesZ (rngZ n) ts) [a, b, c] = if (j : Int) < (i : Int) then -1 else if (i : Int) < (j : Int) then 1 else 0 := by
    unfold sgT
    show (let x := (lookI (timesZ (rngZ n) ts) [a, b]).getD 0; let y := (lookI (timesZ (rngZ n) ts) [b, c]).getD 0; if y < x then (-1 : Int) else if x < y then 1 else 0) = _
    rw [e1, e2]
    rfl
  rw [es]
  rcases three_turns A h0 hab hbc hc hi hj hk with ⟨g1, g2⟩ | ⟨g1, g2⟩ | ⟨g1, g2⟩
  · left
    refine ⟨g1, g2, ?_⟩
    rw [if_neg (by omega), if_neg (by omega)]
  · right; left
    refine ⟨g1, g2, ?_⟩
    rw [if_neg (by omega), if_pos (by omega)]
  · right; right
    refine ⟨g1, g2, ?_⟩
    rw [if_pos (by omega)]
theorem good_rows {t1 t2 t3 t4 t5 t6 : Nat} {s1 s2 s3 s4 : Int}
    (h1 : (t1 = t4 ∧ t2 = t1 ∧ s1 = 0) ∨ (t1 < t2 ∧ t2 < t4 ∧ s1 = 1) ∨ (t4 < t2 ∧ t2 < t1 ∧ s1 = -1))
    (h2 : (t1 = t5 ∧ t3 = t1 ∧ s2 = 0) ∨ (t1 < t3 ∧ t3 < t5 ∧ s2 = 1) ∨ (t5 < t3 ∧ t3 < t1 ∧ s2 = -1))
    (h3 : (t2 = t6 ∧ t3 = t2 ∧ s3 = 0) ∨ (t2 < t3 ∧ t3 < t6 ∧ s3 = 1) ∨ (t6 < t3 ∧ t3 < t2 ∧ s3 = -1))
    (h4 : (t4 = t6 ∧ t5 = t4 ∧ s4 = 0) ∨ (t4 < t5 ∧ t5 < t6 ∧ s4 = 1) ∨ (t6 < t5 ∧ t5 < t4 ∧ s4 = -1)) : goodL [s1, s2, s3, s4] = true := by
  rcases h1 with ⟨a1, a2, rfl⟩ | ⟨a1, a2, rfl⟩ | ⟨a1, a2, rfl⟩ <;> rcases h2 with ⟨b1, b2, rfl⟩ | ⟨b1, b2, rfl⟩ | ⟨b1, b2, rfl⟩ <;> rcases h3 with ⟨c1, c2, rfl⟩ | ⟨c1, c2, rfl⟩ | ⟨c1, c2, rfl⟩ <;> rcases h4 with ⟨d1, d2, rfl⟩ | ⟨d1, d2, rfl⟩ | ⟨d1, d2, rfl⟩ <;> first | (exfalso; omega) | decide +kernel
/-- a drawing's chart is sound -/
theorem drawn_sound {n : Int} (h0 : 0 ≤ n) (h7 : n ≤ 7) {ts : List Trn} (A : AscT n ts) (cv : CovT n ts) : badF n (cns n (sgT (timesZ (rngZ n) ts))) = none := by
  unfold badF
  rw [List.find?_eq_none]
  intro q hq
  obtain ⟨a, b, c, d, rfl, g0, g1, g2, g3, g4⟩ := sub4_form h0 h7 hq
  unfold badQ
  rw [(signs4_F h0 h7 hq).1]
  obtain ⟨t1, _, x1⟩ := time_of cv g0 g1 (show b < n by omega)
  obtain ⟨t2, _, x2⟩ := time_of cv g0 (show a < c by omega) (show c < n by omega)
  obtain ⟨t3, _, x3⟩ := time_of cv g0 (show a < d by omega) g4
  obtain ⟨t4, _, x4⟩ := time_of cv (show 0 ≤ b by omega) g2 (show c < n by omega)
  obtain ⟨t5, _, x5⟩ := time_of cv (show 0 ≤ b by omega) (show b < d by omega) g4
  obtain ⟨t6, _, x6⟩ := time_of cv (show 0 ≤ c by omega) g3 g4
  have := good_rows (sgT_three A cv g0 g1 g2 (by omega) x1 x4 x2) (sgT_three A cv g0 g1 (show b < d by omega) g4 x1 x5 x3) (sgT_three A cv g0 (show a < c by omega) g3 g4 x2 x6 x3) (sgT_three A cv (show 0 ≤ b by omega) g2 g3 g4 x4 x6 x5)
  show ¬ (!goodL [_, _, _, _]) = true
  rw [this]
  decide
/-! ### the turns by a draw rise -/
theorem tStep_asc {n w : Int} {s : TS_} (hl : s.row.length = n.toNat) (h : (upsZ n s.row).length ≠ 0) : ((s.row.drop (upT n w s).1).take (upT n w s).2).Pairwise (· < ·) := by
  obtain ⟨h1, h2, h3⟩ := ups_mem (upP_mem h)
  have hm := upM_ok (w := w) h
  have g1 := hm.m2
  have g2 := hm.le
  have e : (((s.row.drop (upT n w s).1).take (upT n w s).2)).length = (upM n w s).m.toNat := by
    unfold upT
    rw [List.length_take, List.length_drop, hl]
    dsimp only
    omega
  refine asc_of fun i hi => ?_
  rw [e] at hi
  rw [List.getElem_take, List.getElem_take, List.getElem_drop, List.getElem_drop]
  have := hm.up (upP n s + i) (by omega) (by omega)
  rw [gI_get (by omega) (by omega), gI_get (by omega) (by omega)] at this
  have e1 : (upP n s + (i : Int)).toNat = (upT n w s).1 + i := by show _ = (upP n s).toNat + i; omega
  have e2 : (upP n s + (i : Int) + 1).toNat = (upT n w s).1 + (i + 1) := by show _ = (upP n s).toNat + (i + 1); omega
  simp only [e1, e2] at this
  exact this
theorem ascT_snoc {n : Int} {ts : List Trn} {t : Trn} (h : AscT n ts) (ht : (((ts.foldl turnR (rngZ n)).drop t.1).take t.2).Pairwise (· < ·)) : AscT n (ts ++ [t]) := fun i hi => by
  rw [List.length_append, List.length_singleton] at hi
  by_cases he : i < ts.length
  · rw [blk_app _ _ _ _ he]
    exact h i he
  · have e : i = ts.length := by omega
    subst e
    rw [blk_last]
    exact ht
theorem tFold_asc {n w : Int} : ∀ (l : List Int) (k : Nat) (s : TS_), TOk n k s → AscT n s.ts → AscT n (l.foldl (tStep n w) s).ts
  | [], k, s, _, h => h
  | a :: l, k, s, ok, h => by
    refine tFold_asc l (k + 1) _ (tStep_ok (w := w) a ok) ?_
    unfold tStep
    split
    · exact h
    · rename_i hz
      refine ascT_snoc h ?_
      rw [← ok.row]
      exact tStep_asc ok.rowLen hz
theorem turns_asc (n w : Int) (ps : List Int) : AscT n (turnsZ n w ps).ts := tFold_asc _ 0 _ (tS0 n ps) fun i hi => by cases hi
def ascB (n : Int) (ts : List Trn) : Bool := (List.range ts.length).all fun i => decide ((blk (rngZ n) ts i).Pairwise (· < ·))
theorem ascT_of {n : Int} {ts : List Trn} (h : ascB n ts = true) : AscT n ts := fun i hi => of_decide_eq_true (List.all_eq_true.mp h i (List.mem_range.mpr hi))
theorem fans_asc {n : Int} (h1 : 1 ≤ n) (h7 : n ≤ 7) : ascB n (fanA n) = true ∧ ascB n (fanB n) = true ∧ ascB n [((0 : Nat), n.toNat)] = true ∧ ascB n (fanC n) = true := by
  have : n = 1 ∨ n = 2 ∨ n = 3 ∨ n = 4 ∨ n = 5 ∨ n = 6 ∨ n = 7 := by omega
  rcases this with rfl | rfl | rfl | rfl | rfl | rfl | rfl <;> decide +kernel
end Bl
set_option Elab.async false
set_option linter.all false
set_option maxRecDepth 100000
set_option maxHeartbeats 4000000
namespace Bl
open PySem PySem.Spec PyProof.Rows L2
/-! ### == of tuples of tuples of ints -/
def tup2 (l : List (List Int)) : List D := l.map tupI
/-! ### levels -/
end Bl
set_option Elab.async false
set_option linter.all false
set_option maxRecDepth 100000
set_option maxHeartbeats 4000000
namespace Bl
open PySem PySem.Spec PyProof.Rows L2
/-! ### dicts from ints to mutable lists -/
section
variable {K : PySem.W.Frag} {S : List Addr} {H : Hp}
/-- many mutable things are let go -/
theorem drop_many {S S' : List Addr} {H' : Hp} {ow ow1 bs : List OB} (f : Fwd S H S' H') (o : Owns K S H ow) (o' : Owns K S' H' (ow1 ++ bs)) (hl : ow.length = ow1.length) (hb : KeepG ow ow1) :
    Fwd S H S H' ∧ Owns K S H' ow1 ∧ ∀ a, a ∈ S → a ∈ S' := by
  have hl1 := o.len
  obtain ⟨ps, e, hp⟩ := f.gr
  subst e
  have hsub : ∀ a, a ∈ S → a ∈ S ++ ps := fun a h => List.mem_append_left _ h
  refine ⟨⟨⟨[], (List.append_nil S).symm, fun _ z => nomatch z⟩, f.ex⟩, ⟨by omega, o.nd, fun k l' ek => ?_⟩, hsub⟩
  have hk : k < ow1.length := (List.getElem?_eq_some_iff.mp ek).1
  obtain ⟨a, z, y⟩ := o'.ob k l' (by rw [List.getElem?_append_left hk]; exact ek)
  rw [List.getElem?_append_left (by omega)] at z
  refine ⟨a, z, ?_⟩
  cases y with
  | l h r => exact .l h (r.less hsub)
  | t h r => exact .t h (DenG.less hsub r)
  | @g kvs gs h r =>
    refine .g h (paired_map r fun x y hy hx => ?_)
    obtain ⟨h1, b, h2, h3⟩ := hx
    refine ⟨h1, b, h2, ?_⟩
    obtain ⟨k0, hk0, e0⟩ := List.getElem_of_mem (hb.1 gs (List.mem_of_getElem? ek))
    obtain ⟨a0, z0, y0⟩ := o.ob k0 (.g gs) (by rw [List.getElem?_eq_getElem hk0, e0])
    cases y0 with
    | g h0 r0 =>
      obtain ⟨x0, _, _, b0, _, q3⟩ := paired_mem r0 hy
      have hlt : y.2 < S.length := (List.getElem?_eq_some_iff.mp q3).1
      rwa [List.getElem?_append_left hlt] at h3
  | @r kvs gs h r =>
    refine .r h (paired_map r fun x y hy hx => ?_)
    obtain ⟨h1, b, h2, h3⟩ := hx
    refine ⟨h1, b, h2, ?_⟩
    obtain ⟨k0, hk0, e0⟩ := List.getElem_of_mem (hb.2 gs (List.mem_of_getElem? ek))
    obtain ⟨a0, z0, y0⟩ := o.ob k0 (.r gs) (by rw [List.getElem?_eq_getElem hk0, e0])
    cases y0 with
    | r h0 r0 =>
      obtain ⟨x0, _, _, b0, _, q3⟩ := paired_mem r0 hy
      have hlt : y.2 < S.length := (List.getElem?_eq_some_iff.mp q3).1
      rwa [List.getElem?_append_left hlt] at h3
end
section
variable {X : Cx} {e a b c o : Expr} {es : List Expr} {st st1 st2 : Sta} {ow ow1 ow2 ow3 bs : List OB} {r : R} {d : D} {pos p apos cpos lpos : Pos} {k k' : Nat} {gs : List (Int × Nat)} {i : Int} {ss : List Stmt}
theorem pbd_dropN (h : PBD X st ow ss (.ret (.d d) (ow1 ++ bs))) (hl : ow.length = ow1.length) (hb : KeepG ow ow1 := by first | exact ⟨fun _ h => h, fun _ h => h⟩ | (refine ⟨?_, ?_⟩ <;> (intro gs h; simp at h ⊢; assumption))) : PBD X st ow ss (.ret (.d d) ow1) :=
  h.imp fun E σ H ⟨S, sl, o, q⟩ => ⟨S, sl, o, fun S1 v H1 f1 o1 d1 => by
    obtain ⟨g1, g2, g3⟩ := drop_many f1 o o1 hl hb
    cases d1 with
    | d d1 => exact q S v H1 g1 g2 (.d (d1.less g3))⟩
end
end Bl
set_option Elab.async false
set_option linter.all false
set_option maxRecDepth 100000
set_option maxHeartbeats 4000000
namespace Bl
open PySem PySem.Spec PyProof.Rows L2
/-! ### sorted of a tuple of ints -/
theorem cr_sortedTup {X : Cx} : CallR X (.builtin "sorted") (fun xs H Q => ∃ (a : Addr) (ns : List Int), xs = [.ref a] ∧ SqT X.K H a (ns.map V.int) ∧ ns.length < 64 ∧
    ∀ (ys : List Int) (p : Addr), ys.Perm ns → ys.Pairwise (· ≤ ·) → H p = none → Q (.ref p) (upd H p (.lst (ys.map V.int)))) := by
  intro pins s σ H xs us Q I r q
  obtain ⟨a, ns, ex, hd, h64, q⟩ := q
  subst ex
  obtain ⟨u, eu, rx⟩ := vals1 r
  subst eu
  cases rx
  obtain ⟨its, r', pl, hz⟩ := I.tuple hd
  have hlen := r'.length
  have hi := r'.ints
  obtain ⟨o, ho, hc, n, hdt⟩ := pl
  rw [List.length_map] at hlen hz
  refine Calls.call_function_entry PyProof.Rows.kind_sorted PyProof.Rows.plain_sorted PyProof.Rows.entry_sorted (PyProof.Rows.args_sorted1 _) ?_
  unfold Builtin.«sorted»
  refine wpAny_bind (m := checkCount "sorted" 1 1 _) (wpAny_pure ?_)
  refine wpAny_bind (wpAny_collect_seq a (.inr rfl) ho hc hdt (fun h' hk => ?_) (by rw [List.size_toArray]; omega))
  have I1 : Inv X pins σ H { s with heap := h' } := I.kept (t' := s.toks) hk
  refine wpAny_bind (wpAny_newList ?_ (by show its.toArray.toList.length ≤ sizeLine; rw [sizeLine_eq]; simp only [List.toList_toArray]; omega))
  have hoL : (h'.push (seqObj "list" its.toArray.toList.toArray 0)).get? h'.objs.size = some (seqObj "list" its.toArray.toList.toArray 0) := Heap.get?_push_size _ rfl
  show wpAny _ _ _ _ _ { s with heap := h'.push (seqObj "list" its.toArray.toList.toArray 0) }
  refine wpAny_bind (wpAny_holding (wpAny_call_entry PyProof.Rows.slot_list_sort ⟨_, hoL, rfl⟩ PyProof.Rows.entry_list_sort
    (PyProof.Rows.list_sort_tree (s := { s with heap := h'.push (seqObj "list" its.toArray.toList.toArray 0) }) hoL (ns := ns) (by simpa using hi) (by simp only [List.toList_toArray]; omega) fun out ys g1 g2 g3 => ⟨_, rfl, ?_⟩) (PyProof.Rows.args_list_sort _)))
  obtain ⟨e', he'⟩ := PyProof.Rows.sortedHeap_at (vs := its.toArray.toList) (out := out) hoL
  have hlen2 : (ys.map V.int).length ≤ sizeLine := by
    rw [List.length_map, g2.length_eq, sizeLine_eq]
    omega
  refine wpAny_pure ⟨_, rfl, .ref h'.objs.size, upd H h'.objs.size (.lst (ys.map V.int)), I1.laid (t' := s.toks) (fun b u e => ?_) (Nat.le_refl _)
    (show ObjOk X.prog X.w _ _ _ (.lst (ys.map V.int)) from ⟨hlen2, out.toList, e', vals_of_ints g1, by rw [Array.toArray_toList]; exact he'⟩), rfl, q ys _ g2 g3 (I1.hok.fresh (Nat.le_refl _))⟩
  have hb : b < h'.objs.size := Heap.lt_size e
  rw [PyProof.Rows.sortedHeap_old (Nat.ne_of_lt hb) (by rw [size_push']; exact Nat.lt_succ_of_lt hb)]
  exact Heap.get?_push_of_some _ e
section
variable {X : Cx} {e : Expr} {st : Sta} {ow ow1 : List OB} {p pos : Pos} {ns : List Int} {dd : D}
theorem pd_sortedT (hm : X.mg "sorted" = none) (ha : PADd X st ow [e] [dd] ow1) (ht : tupL dd = some (ns.map D.int)) (hl : ns.length < 64) (hg : Gl X "sorted" := by rfl) (he : starEach [e] X.env = [(false, eval e X.env)] := by rfl) : PD X st ow (.Call (.Name "sorted" p) [e] [] pos) (.d (.lst ((isort ns).map D.int))) ow1 :=
  pd_callB cr_sortedTup (fun S H ow vs Q o h q => by
    obtain ⟨v, rfl, g⟩ := dens1 h
    obtain ⟨a, xs, rfl, h1, h2⟩ := g.of_tup ht
    have e1 := h2.ints
    subst e1
    refine ⟨a, ns, rfl, h1, hl, fun ns' l hp hs hn => ?_⟩
    rw [isort_eq hp hs]
    exact q _ _ (Evl.Ex.new hn) (new_lst o hn (Dens.of_ints _))) hm (by decide +kernel) ha hg (by decide) (by decide) he rfl
theorem pd_sortedS {t : Bool} (hm : X.mg "sorted" = none) (ha : PADd X st ow [e] [sqD t (ns.map D.int)] ow1) (hl : ns.length < 64) (hg : Gl X "sorted" := by rfl) (he : starEach [e] X.env = [(false, eval e X.env)] := by rfl) : PD X st ow (.Call (.Name "sorted" p) [e] [] pos) (.d (.lst ((isort ns).map D.int))) ow1 := by
  cases t with
  | false => exact pd_sorted hm ha hl hg he
  | true => exact pd_sortedT hm ha rfl hl hg he
end
end Bl
set_option Elab.async false
set_option linter.all false
set_option maxRecDepth 100000
set_option maxHeartbeats 4000000
namespace Bl
open PySem PySem.Spec PyProof.Rows L2
section
variable {P : Program} {w : World} {K : PySem.W.Frag} {mg : Str → Option Value} {base : Heap} {f : Addr} {fd : FuncData} {k : Nat} {C : Addr}
/-! ### lots of lines, of lists and of tuples -/
def gLotFromS : GG := fun rs ow r ow' => ∃ (t : Bool) (m : Int) (qs : List Int), rs = [.d (sqD t (qs.map D.int)), .d (.int m)] ∧ LotIn m qs ∧ r = .d (tupI (isort qs)) ∧ ow' = ow
theorem seqL_cut (t : Bool) (qs : List Int) (i : Nat) : seqL (sqD t (cutD (qs.map D.int) none (some (i : Int)))) = some ((qs.take i).map D.int) := by
  rw [cut_take, ← List.map_take]
  cases t <;> rfl
theorem ok_lotFromS (F : Fun K "lot_from_lines" "lot_from_lines" sLotFrom f fd) (C1 : Fg P w K mg base "check_line" k ["line", "size"] gCheckLine) (mE : mg "enumerate" = none) (mT : mg "tuple" = none) (mS : mg "sorted" = none) : FnOk P w K mg base CX0 (k + 1) f fd ["value", "size"] (spF K gLotFromS) := by
  refine okF F scLotFrom (fun rs ow r ow' h => ?_) (fun cdv A outer s H E hr rs ow r ow' h => ?_)
  · obtain ⟨t, n, ns, rfl, _⟩ := h
    rfl
  · obtain ⟨t, m, qs, rfl, ⟨h1, h2, h3⟩, rfl, rfl⟩ := h
    refine pbd_cons (psd_forG [2, 3] (fun _ => [some (.d (sqD t (qs.map D.int))), some (.d (.int m)), none, none]) (fun _ => ow') none (fun i => [some (.d (sqD t (qs.map D.int))), some (.d (.int m)), some (.d (.int (i : Nat))), some (.d ((qs.map D.int).getD i .non))]) (fun i => .nx [some (.d (sqD t (qs.map D.int))), some (.d (.int m)), none, none] ow') PassesOwn.never rfl (pid_enumS mE (padd_cons (pd_var 0) padd_nil)) ⟨rfl, fun i r h => h⟩ rfl (fun i d hd _ => ?_) (fun i d hd _ => ?_) (fun i hi _ => .inl rfl) rfl) ?_
    · obtain ⟨x, hx, rfl⟩ := enumD_some hd
      rw [getD_of hx]
      exact pgd_tup rfl (pgsd_cons (pgd_name 2 scLotFrom.nd) (pgsd_cons (pgd_name 3 scLotFrom.nd) pgsd_nil))
    · obtain ⟨x, hx, rfl⟩ := enumD_some hd
      rw [getD_of hx]
      obtain ⟨q, hq, rfl⟩ := map_some_of hx
      obtain ⟨g1, g2⟩ := h2 q (List.mem_of_getElem? hq)
      exact pbd_weak (pbd_cons (psd_expr (pd_cg C1 hr (Nat.le_refl _) (padd_cons (pd_var 3) (padd_cons (pd_var 1) padd_nil)) ⟨q, m, rfl, g1, g2, rfl, rfl⟩)) (pbd_skip (ptd_in (ns := qs.take i) (pd_var 3) (pd_slS (t := t) (ds := qs.map D.int) (pd_var 0) pod_none (pod_some (pd_var 2))) (seqL_cut t qs i)) (decide_eq_false (nodup_take h1 hq)) pbd_nil)) rfl (by (intro i r h; rcases i with _ | _ | _ | _ | _ | _ | _ | _ | _ | i <;> first | exact h | cases h))
    · exact pbd_last (psd_ret (pd_tupleL mT (padd_cons (pd_sortedS (t := t) mS (padd_cons (pd_var 0) padd_nil) h3) padd_nil)))
abbrev sLotOf : Stmt := topS 22
theorem scLotOf : FnScope ["value", "size"] ["value", "size"] (defScope sLotOf) := ⟨rfl, rfl, rfl, by decide +kernel, rfl, by decide +kernel, by decide +kernel⟩
def gLotOf : GG := fun rs ow r ow' => ∃ (t : Bool) (m : Int) (qs : List Int), rs = [.d (sqD t (qs.map D.int)), .d (.int m)] ∧ LotIn m qs ∧ 1 ≤ m ∧ m ≤ 16 ∧ r = .d (tupI (isort qs)) ∧ ow' = ow
theorem ok_lotOf (F : Fun K "lot_of" "lot_of" sLotOf f fd) (C1 : Fg P w K mg base "check_size" k ["size"] gCheckSize) (C2 : Fg P w K mg base "lot_from_lines" k ["value", "size"] gLotFromS) (mI : mg "isinstance" = none) (mL : mg "list" = none) (mT : mg "tuple" = none) : FnOk P w K mg base CX0 (k + 1) f fd ["value", "size"] (spF K gLotOf) := by
  refine okF F scLotOf (fun rs ow r ow' h => ?_) (fun cdv A outer s H E hr rs ow r ow' h => ?_)
  · obtain ⟨t, n, ns, rfl, _⟩ := h
    rfl
  · obtain ⟨t, m, qs, rfl, hl, h1, h2, rfl, rfl⟩ := h
    refine pbd_cons (psd_expr (pd_cg C1 hr (Nat.le_refl _) (padd_cons (pd_var 1) padd_nil) ⟨m, rfl, h1, h2, rfl, rfl⟩)) ?_
    refine pbd_skip (ptd_not (ptd_val (pd_isT2 (n := "list") (m := "tuple") (t := tyS t) mI (padd_cons (pd_var 0) (padd_cons (pd_tup (padd_cons (pd_ty mL) (padd_cons (pd_ty mT) padd_nil))) padd_nil)) (!t) t (tyB_sq t _) (by cases t <;> decide +kernel) (by cases t <;> decide +kernel)))) (by cases t <;> rfl) ?_
    exact pbd_last (psd_ret (pd_cg C2 hr (Nat.le_refl _) (padd_cons (pd_var 0) (padd_cons (pd_var 1) padd_nil)) ⟨t, m, qs, rfl, hl, rfl, rfl⟩))
/-! ### ahead, ringed -/
/-! ### simple -/
end
end Bl
set_option Elab.async false
set_option linter.all false
set_option maxRecDepth 100000
set_option maxHeartbeats 4000000
namespace Bl
open PySem PySem.Spec PyProof.Rows L2
/-! ### levels: lists by their ranks -/
theorem rngZ_pw (n : Int) : (rngZ n).Pairwise (· < ·) := by
  unfold rngZ
  refine List.Pairwise.map _ ?_ List.pairwise_lt_range
  intro a b h
  omega
theorem rngZ_nd (n : Int) : (rngZ n).Nodup := (rngZ_pw n).imp fun h => by omega
theorem mem_rngZ' {n x : Int} (h0 : 0 ≤ x) (h1 : x < n) : x ∈ rngZ n := by
  unfold rngZ
  exact List.mem_map.mpr ⟨x.toNat, List.mem_range.mpr (by omega), by omega⟩
end Bl
set_option Elab.async false
set_option linter.all false
set_option maxRecDepth 100000
set_option maxHeartbeats 4000000
set_option Elab.async false
set_option linter.all false
set_option maxRecDepth 100000
set_option maxHeartbeats 4000000
namespace Bl
open PySem PySem.Spec PyProof.Rows L2
open scoped List
/-! ### knots: the lines of a turn -/
theorem asc_ext {l m : List Int} (hl : l.Pairwise (· < ·)) (hm : m.Pairwise (· < ·)) (h : ∀ x, x ∈ l ↔ x ∈ m) : l = m := by
  have hp : l.Perm m := (List.perm_ext_iff_of_nodup (hl.imp fun h => by omega) (hm.imp fun h => by omega)).mpr h
  rw [isort_eq hp (hl.imp fun h => by omega), ← isort_eq (List.Perm.refl m) (hm.imp fun h => by omega)]
theorem blk_rng {n : Int} {ts : List Trn} {i : Nat} {x : Int} (h : x ∈ blk (rngZ n) ts i) : 0 ≤ x ∧ x < n := by
  have h1 : x ∈ rowAt (rngZ n) ts i := List.mem_of_mem_drop (List.mem_of_mem_take h)
  exact mem_rngZ ((rowAt_perm (rngZ n) (ts.take i)).mem_iff.mp h1)
/-- the knot through two lines, as the signs tell it -/
def knotZ (n : Int) (F : List Int → Int) (a b : Int) : List Int := (rngZ n).filter fun l => decide (l ∈ [a, b]) || decide (F (isort [a, b, l]) = 0)
theorem isort3 {a b c : Int} (hab : a < b) : isort [a, b, c] = if b < c then [a, b, c] else if a < c then (if c = b then [a, b, b] else [a, c, b]) else [c, a, b] := by
  show ins1 a (ins1 b [c]) = _
  rw [ins1_1]
  by_cases h1 : b ≤ c
  · rw [if_pos h1, ins1_2, if_pos (by omega)]
    by_cases h2 : b < c
    · rw [if_pos h2]
    · have e : c = b := by omega
      rw [if_neg h2, if_pos (by omega), if_pos e, e]
  · rw [if_neg h1, ins1_2]
    by_cases h2 : a ≤ c
    · rw [if_pos h2, if_neg (by omega)]
      by_cases h3 : a < c
      · rw [if_pos h3, if_neg (by omega)]
      · have e : c = a := by omega
        rw [if_neg h3, e]
    · rw [if_neg h2, if_pos (by omega), if_neg (by omega), if_neg (by omega)]
section
variable {n : Int} {ts : List Trn} {a b : Int}
theorem sgn0_iff (A : AscT n ts) (cv : CovT n ts) {x y z : Int} (h0 : 0 ≤ x) (hxy : x < y) (hyz : y < z) (hz : z < n) {i : Nat} :
    (Trd n ts x y i → (sgT (timesZ (rngZ n) ts) [x, y, z] = 0 ↔ z ∈ blk (rngZ n) ts i)) ∧ (Trd n ts y z i → (sgT (timesZ (rngZ n) ts) [x, y, z] = 0 ↔ x ∈ blk (rngZ n) ts i)) ∧ (Trd n ts x z i → (sgT (timesZ (rngZ n) ts) [x, y, z] = 0 ↔ y ∈ blk (rngZ n) ts i)) := by
  obtain ⟨t1, _, x1⟩ := time_of cv h0 hxy (show y < n by omega)
  obtain ⟨t2, _, x2⟩ := time_of cv (show 0 ≤ y by omega) hyz hz
  obtain ⟨t3, _, x3⟩ := time_of cv h0 (show x < z by omega) hz
  have h3 := sgT_three A cv h0 hxy hyz hz x1 x2 x3
  generalize sgT (timesZ (rngZ n) ts) [x, y, z] = s at h3
  have all0 : t1 = t2 → t3 = t1 → s = 0 := fun e1 e2 => by
    rcases h3 with ⟨_, _, e⟩ | ⟨q1, q2, e⟩ | ⟨q1, q2, e⟩
    · exact e
    · omega
    · omega
  have eq0 : s = 0 → t1 = t2 ∧ t3 = t1 := fun e => by
    rcases h3 with ⟨q1, q2, _⟩ | ⟨_, _, q⟩ | ⟨_, _, q⟩
    · exact ⟨q1, q2⟩
    · omega
    · omega
  refine ⟨fun hi => ?_, fun hi => ?_, fun hi => ?_⟩
  · have e := trd_uniq A hxy hi x1
    subst e
    constructor
    · intro hs
      obtain ⟨q1, q2⟩ := eq0 hs
      rw [q1]; exact x2.2.2
    · intro hz'
      have u2 := trd_uniq A hyz x2 ⟨hi.1, hi.2.2, hz'⟩
      have u3 := trd_uniq A (show x < z by omega) x3 ⟨hi.1, hi.2.1, hz'⟩
      exact all0 u2.symm u3
  · have e := trd_uniq A hyz hi x2
    subst e
    constructor
    · intro hs
      obtain ⟨q1, q2⟩ := eq0 hs
      rw [← q1]; exact x1.2.1
    · intro hx'
      have u1 := trd_uniq A hxy x1 ⟨hi.1, hx', hi.2.1⟩
      have u3 := trd_uniq A (show x < z by omega) x3 ⟨hi.1, hx', hi.2.2⟩
      exact all0 u1 (by omega)
  · have e := trd_uniq A (show x < z by omega) hi x3
    subst e
    constructor
    · intro hs
      obtain ⟨q1, q2⟩ := eq0 hs
      rw [q2]; exact x1.2.2
    · intro hy'
      have u1 := trd_uniq A hxy x1 ⟨hi.1, hi.2.1, hy'⟩
      have u2 := trd_uniq A hyz x2 ⟨hi.1, hy', hi.2.2⟩
      exact all0 (by omega) (by omega)
/-- the knot of two lines is the lot of their turn -/
theorem knot_turn (A : AscT n ts) (cv : CovT n ts) (h0 : 0 ≤ a) (hab : a < b) (hb : b < n) {i : Nat} (hi : Trd n ts a b i) : knotZ n (sgT (timesZ (rngZ n) ts)) a b = blk (rngZ n) ts i := by
  refine asc_ext ((rngZ_pw n).filter _) (A i hi.1) fun x => ?_
  unfold knotZ
  rw [List.mem_filter]
  constructor
  · rintro ⟨hx, h⟩
    have hx := mem_rngZ hx
    rw [Bool.or_eq_true, decide_eq_true_eq, decide_eq_true_eq] at h
    by_cases hxa : x = a
    · rw [hxa]; exact hi.2.1
    · by_cases hxb : x = b
      · rw [hxb]; exact hi.2.2
      · have h : sgT (timesZ (rngZ n) ts) (isort [a, b, x]) = 0 := h.resolve_left (by simp [hxa, hxb])
        rw [isort3 hab] at h
        by_cases h1 : b < x
        · rw [if_pos h1] at h
          exact ((sgn0_iff A cv h0 hab h1 hx.2).1 hi).mp h
        · rw [if_neg h1] at h
          by_cases h2 : a < x
          · rw [if_pos h2, if_neg hxb] at h
            exact ((sgn0_iff A cv h0 h2 (show x < b by omega) hb).2.2 hi).mp h
          · rw [if_neg h2] at h
            exact ((sgn0_iff A cv hx.1 (show x < a by omega) hab hb).2.1 hi).mp h
  · intro hxm
    have hx := blk_rng hxm
    refine ⟨mem_rngZ' hx.1 hx.2, ?_⟩
    rw [Bool.or_eq_true, decide_eq_true_eq, decide_eq_true_eq]
    by_cases hxa : x = a
    · left; simp [hxa]
    · by_cases hxb : x = b
      · left; simp [hxb]
      · right
        rw [isort3 hab]
        by_cases h1 : b < x
        · rw [if_pos h1]
          exact ((sgn0_iff A cv h0 hab h1 hx.2).1 hi).mpr hxm
        · rw [if_neg h1]
          by_cases h2 : a < x
          · rw [if_pos h2, if_neg hxb]
            exact ((sgn0_iff A cv h0 h2 (show x < b by omega) hb).2.2 hi).mpr hxm
          · rw [if_neg h2]
            exact ((sgn0_iff A cv hx.1 (show x < a by omega) hab hb).2.1 hi).mpr hxm
end
/-! ### each turn turns two lines or more -/
def TwoT (n : Int) (ts : List Trn) : Prop := ∀ i, i < ts.length → 2 ≤ (blk (rngZ n) ts i).length
theorem twoT_snoc {n : Int} {ts : List Trn} {t : Trn} (h : TwoT n ts) (ht : 2 ≤ (((ts.foldl turnR (rngZ n)).drop t.1).take t.2).length) : TwoT n (ts ++ [t]) := fun i hi => by
  rw [List.length_append, List.length_singleton] at hi
  by_cases he : i < ts.length
  · rw [blk_app _ _ _ _ he]
    exact h i he
  · have e : i = ts.length := by omega
    subst e
    rw [blk_last]
    exact ht
theorem tStep_two {n w : Int} {s : TS_} (hl : s.row.length = n.toNat) (h : (upsZ n s.row).length ≠ 0) : 2 ≤ ((s.row.drop (upT n w s).1).take (upT n w s).2).length := by
  obtain ⟨h1, h2, h3⟩ := ups_mem (upP_mem h)
  have hm := upM_ok (w := w) h
  have g1 := hm.m2
  have g2 := hm.le
  unfold upT
  rw [List.length_take, List.length_drop, hl]
  dsimp only
  omega
theorem tFold_two {n w : Int} : ∀ (l : List Int) (k : Nat) (s : TS_), TOk n k s → TwoT n s.ts → TwoT n (l.foldl (tStep n w) s).ts
  | [], k, s, _, h => h
  | a :: l, k, s, ok, h => by
    refine tFold_two l (k + 1) _ (tStep_ok (w := w) a ok) ?_
    unfold tStep
    split
    · exact h
    · rename_i hz
      refine twoT_snoc h ?_
      rw [← ok.row]
      exact tStep_two ok.rowLen hz
def twoB (n : Int) (ts : List Trn) : Bool := (List.range ts.length).all fun i => decide (2 ≤ (blk (rngZ n) ts i).length)
theorem twoT_of {n : Int} {ts : List Trn} (h : twoB n ts = true) : TwoT n ts := fun i hi => of_decide_eq_true (List.all_eq_true.mp h i (List.mem_range.mpr hi))
theorem fans_two {n : Int} (h1 : 1 ≤ n) (h7 : n ≤ 7) : twoB n (fanA n) = true ∧ twoB n (fanB n) = true ∧ (1 < n → twoB n [((0 : Nat), n.toNat)] = true) ∧ (2 < n → twoB n (fanC n) = true) := by
  have : n = 1 ∨ n = 2 ∨ n = 3 ∨ n = 4 ∨ n = 5 ∨ n = 6 ∨ n = 7 := by omega
  rcases this with rfl | rfl | rfl | rfl | rfl | rfl | rfl <;> decide +kernel
/-! ### the pairs and the threes are parted among the knots -/
end Bl
set_option Elab.async false
set_option linter.all false
set_option maxRecDepth 100000
set_option maxHeartbeats 4000000
set_option Elab.async false
set_option linter.all false
set_option maxRecDepth 100000
set_option maxHeartbeats 8000000
set_option Elab.async false
set_option linter.all false
set_option maxRecDepth 100000
set_option maxHeartbeats 4000000
namespace Bl
open PySem PySem.Spec PyProof.Rows L2
section
variable {P : Program} {w : World} {K : PySem.W.Frag} {mg : Str → Option Value} {base : Heap} {f fG : Addr} {fd fdG : FuncData} {k : Nat} {C CU fI : Addr}
abbrev sChkSound : Stmt := topS 33
theorem scChkSound : FnScope ["chart", "four"] ["chart"] (defScope sChkSound) := ⟨rfl, rfl, rfl, by decide +kernel, rfl, by decide +kernel, by decide +kernel⟩
def gChkSound (C : Addr) : GG := fun rs ow r ow' => ∃ (n : Int) (ns : List Int), rs = [.d (chartD C n ns)] ∧ n ≤ 13 ∧ (∀ q ∈ sub4 (rngZ n), FourOk n ns q) ∧ badF n ns = none ∧ r = .d .non ∧ ow' = ow
theorem ok_chkSound (F : Fun K "check_sound" "check_sound" sChkSound f fd) (T : ChTxt K C) (P1 : Pt P w K mg base C "bad" k ["self"] (gBad C)) : FnOk P w K mg base CX0 (k + 2) f fd ["chart"] (spF K (gChkSound C)) := by
  refine okFN F scChkSound (fun rs ow r ow' h => ?_) (fun cdv A outer s H E hr rs ow r ow' h => ?_)
  · obtain ⟨n, ns, rfl, _⟩ := h
    rfl
  · obtain ⟨n, ns, rfl, h13, hq, hb, rfl, rfl⟩ := h
    refine ⟨rfl, [some (.d (chartD C n ns)), some (.d (optD (badF n ns)))], ?_⟩
    refine pbd_cons (psd_set 1 scChkSound.nd (pd_pt P1 (pd_var 0) T.cl hr (Nat.le_refl _) ⟨n, ns, rfl, h13, hq, rfl, rfl⟩)) ?_
    exact pbd_skip (ptd_notN (pd_var 1) pd_non) (by rw [hb]; rfl) pbd_nil
theorem fours_F {n : Int} (h0 : 0 ≤ n) (h : n ≤ 7) (F : List Int → Int) : ∀ q ∈ sub4 (rngZ n), FourOk n (cns n F) q := fun q hq => (signs4_F h0 h hq).2
end
end Bl
set_option Elab.async false
set_option linter.all false
set_option maxRecDepth 100000
set_option maxHeartbeats 4000000
namespace Bl
open PySem PySem.Spec PyProof.Rows L2
/-! ### knots, by the program -/
section
variable {P : Program} {w : World} {K : PySem.W.Frag} {mg : Str → Option Value} {base : Heap} {f fG : Addr} {fd fdG : FuncData} {k : Nat} {C : Addr}
/-- all knots, as the program finds them -/
def akB (n : Int) (F : List Int → Int) (i : Int) (s : List (List Int)) (j : Int) : List (List Int) := if (knotZ n F i j).take 2 = [i, j] then s ++ [knotZ n F i j] else s
def akA (n : Int) (F : List Int → Int) (s : List (List Int)) (i : Int) : List (List Int) := (upr n i).foldl (akB n F i) s
def allK (n : Int) (F : List Int → Int) : List (List Int) := (rngZ n).foldl (akA n F) []
theorem drop_rng {n i : Int} (h0 : 0 ≤ i) : (rngZ n).drop (i.toNat + 1) = upr n i := by
  unfold upr rgZ rngZ
  rw [← List.map_drop]
  apply List.ext_getElem
  · simp only [List.length_map, List.length_drop, List.length_range]; omega
  · intro j h1 h2
    simp only [List.getElem_map, List.getElem_drop, List.getElem_range]
    omega
theorem lenL {α β : Type} (ff : List β → α → List β) (c : Nat) : ∀ (l : List α) (s : List β), (∀ s x, x ∈ l → (ff s x).length ≤ s.length + c) → (l.foldl ff s).length ≤ s.length + l.length * c
  | [], s, _ => by simp
  | x :: l, s, h => by
    have h1 := lenL ff c l (ff s x) fun s y hy => h s y (List.mem_cons_of_mem _ hy)
    have h2 := h s x List.mem_cons_self
    rw [List.foldl_cons, List.length_cons, Nat.succ_mul]
    omega
/-! ### pair_of, knot_of, knots_of -/
end
end Bl
set_option Elab.async false
set_option linter.all false
set_option maxRecDepth 100000
set_option maxHeartbeats 4000000
namespace Bl
open PySem PySem.Spec PyProof.Rows L2
open scoped List
def leT (p q : List Int) : Bool := decide (p ≤ q)
/-! ### one of a list -/
/-! ### sorted lists of lists -/
theorem sorted_eq {l m : List (List Int)} (hp : l.Perm m) (hl : l.Pairwise (· ≤ ·)) (hm : m.Pairwise (· ≤ ·)) : l = m := by
  induction l generalizing m with
  | nil => exact (List.Perm.nil_eq hp)
  | cons a l ih =>
    cases m with
    | nil => exact absurd hp.length_eq (by simp)
    | cons b m =>
      obtain ⟨l1, l2⟩ := List.pairwise_cons.mp hl
      obtain ⟨m1, m2⟩ := List.pairwise_cons.mp hm
      have hab : a = b := by
        have ha : a ∈ b :: m := hp.subset List.mem_cons_self
        have hb : b ∈ a :: l := hp.symm.subset List.mem_cons_self
        rcases List.mem_cons.mp ha with z | z
        · exact z
        · rcases List.mem_cons.mp hb with y | y
          · exact y.symm
          · exact List.le_antisymm (l1 b y) (m1 a z)
      subst hab
      rw [ih (List.Perm.cons_inv hp) l2 m2]
theorem msort_pw (l : List (List Int)) : (l.mergeSort leT).Pairwise (· ≤ ·) := by
  have := List.pairwise_mergeSort (le := leT) (fun a b c h1 h2 => decide_eq_true (List.le_trans (of_decide_eq_true h1) (of_decide_eq_true h2))) (fun a b => by
    rcases List.le_total a b with h | h
    · show (decide (a ≤ b) || decide (b ≤ a)) = true
      rw [decide_eq_true h]; rfl
    · show (decide (a ≤ b) || decide (b ≤ a)) = true
      rw [decide_eq_true h, Bool.or_true]) l
  exact this.imp fun h => of_decide_eq_true h
/-! ### combinations of a part of a list -/
end Bl
set_option Elab.async false
set_option linter.all false
set_option maxRecDepth 100000
set_option maxHeartbeats 4000000
namespace Bl
open PySem PySem.Spec PyProof.Rows L2
open scoped List
theorem fold_flat {α β : Type} (g : α → List β) (ff : List β → α → List β) : ∀ (l : List α) (s : List β), (∀ s x, x ∈ l → ff s x = s ++ g x) → l.foldl ff s = s ++ l.flatMap g
  | [], s, _ => by simp
  | x :: l, s, h => by
    rw [List.foldl_cons, fold_flat g ff l _ (fun s y hy => h s y (List.mem_cons_of_mem _ hy)), h s x List.mem_cons_self, List.flatMap_cons, List.append_assoc]
/-! ### all knots, by the program and by the turns -/
def kOne (n : Int) (F : List Int → Int) (i j : Int) : List (List Int) := if (knotZ n F i j).take 2 = [i, j] then [knotZ n F i j] else []
theorem allK_flat (n : Int) (F : List Int → Int) : allK n F = (rngZ n).flatMap fun i => (upr n i).flatMap fun j => kOne n F i j := by
  have hB : ∀ i s j, akB n F i s j = s ++ kOne n F i j := fun i s j => by
    unfold akB kOne
    split
    · rfl
    · simp
  have hA : ∀ s i, akA n F s i = s ++ (upr n i).flatMap fun j => kOne n F i j := fun s i => fold_flat _ _ _ _ fun s j _ => hB i s j
  exact fold_flat _ _ _ _ fun s i _ => hA s i
theorem mem_kOne {n : Int} {F : List Int → Int} {i j : Int} {q : List Int} (h : q ∈ kOne n F i j) : q = knotZ n F i j ∧ q.take 2 = [i, j] := by
  unfold kOne at h
  split at h
  · rename_i e
    rw [List.mem_singleton.mp h]
    exact ⟨rfl, e⟩
  · cases h
theorem mem_allK {n : Int} {F : List Int → Int} {q : List Int} : q ∈ allK n F ↔ ∃ i j, 0 ≤ i ∧ i < j ∧ j < n ∧ q = knotZ n F i j ∧ q.take 2 = [i, j] := by
  rw [allK_flat]
  constructor
  · intro h
    obtain ⟨i, hi, h⟩ := List.mem_flatMap.mp h
    obtain ⟨j, hj, h⟩ := List.mem_flatMap.mp h
    have h1 := mem_rngZ hi
    have h2 := mem_upr hj
    exact ⟨i, j, h1.1, h2.1, h2.2, mem_kOne h⟩
  · rintro ⟨i, j, h0, h1, h2, rfl, e⟩
    refine List.mem_flatMap.mpr ⟨i, mem_rngZ' h0 (by omega), List.mem_flatMap.mpr ⟨j, ?_, ?_⟩⟩
    · refine List.mem_map.mpr ⟨(j - (i + 1)).toNat, List.mem_range.mpr (by omega), by omega⟩
    · unfold kOne
      rw [if_pos e]
      exact List.mem_singleton.mpr rfl
theorem lt_take {q r : List Int} {a b c d : Int} (hq : q.take 2 = [a, b]) (hr : r.take 2 = [c, d]) (h : a < c ∨ a = c ∧ b < d) : q < r := by
  have form : ∀ {q : List Int} {a b : Int}, q.take 2 = [a, b] → ∃ t, q = a :: b :: t := fun {q a b} e => by
    match q, e with
    | x :: y :: t, e =>
      have e : [x, y] = [a, b] := e
      cases e
      exact ⟨t, rfl⟩
  obtain ⟨t, rfl⟩ := form hq
  obtain ⟨u, rfl⟩ := form hr
  rw [List.cons_lt_cons_iff]
  rcases h with h | ⟨h, h2⟩
  · exact .inl h
  · exact .inr ⟨h, by rw [List.cons_lt_cons_iff]; exact .inl h2⟩
theorem upr_pw {n i : Int} (h0 : 0 ≤ i) : (upr n i).Pairwise (· < ·) := by
  rw [← drop_rng h0]
  exact (rngZ_pw n).sublist (List.drop_sublist _ _)
theorem allK_pw (n : Int) (F : List Int → Int) : (allK n F).Pairwise (· < ·) := by
  rw [allK_flat, List.pairwise_flatMap]
  refine ⟨fun i hi => ?_, (rngZ_pw n).imp fun h x hx y hy => ?_⟩
  · rw [List.pairwise_flatMap]
    refine ⟨fun j hj => ?_, (upr_pw (mem_rngZ hi).1).imp fun h x hx y hy => lt_take (mem_kOne hx).2 (mem_kOne hy).2 (.inr ⟨rfl, h⟩)⟩
    unfold kOne
    split
    · exact List.pairwise_singleton _ _
    · exact .nil
  · obtain ⟨j, _, hx⟩ := List.mem_flatMap.mp hx
    obtain ⟨k, _, hy⟩ := List.mem_flatMap.mp hy
    exact lt_take (mem_kOne hx).2 (mem_kOne hy).2 (.inl h)
theorem nd_of_lt {l : List (List Int)} (h : l.Pairwise (· < ·)) : l.Nodup := h.imp fun h e => by
  rw [e] at h
  exact List.lt_irrefl _ h
def ksT (n : Int) (ts : List Trn) : List (List Int) := (List.range ts.length).map (blk (rngZ n) ts)
section
variable {n : Int} {ts : List Trn}
/-- a turn's first two lines -/
theorem blk_two (A : AscT n ts) (tw : TwoT n ts) {t : Nat} (ht : t < ts.length) : ∃ i j, 0 ≤ i ∧ i < j ∧ j < n ∧ Trd n ts i j t ∧ (blk (rngZ n) ts t).take 2 = [i, j] := by
  have h2 := tw t ht
  have hp := A t ht
  match hB : blk (rngZ n) ts t with
  | [] => rw [hB] at h2; exact absurd h2 (by decide)
  | [a] => rw [hB] at h2; exact absurd h2 (by show ¬ 2 ≤ 1; decide)
  | i :: j :: r =>
    rw [hB] at hp
    have hij : i < j := (List.pairwise_cons.mp hp).1 j List.mem_cons_self
    have hi : i ∈ blk (rngZ n) ts t := by rw [hB]; simp
    have hj : j ∈ blk (rngZ n) ts t := by rw [hB]; simp
    exact ⟨i, j, (blk_rng hi).1, hij, (blk_rng hj).2, ⟨ht, hi, hj⟩, rfl⟩
theorem nodup_map {α β : Type} {f : α → β} : ∀ {l : List α}, l.Nodup → (∀ a ∈ l, ∀ b ∈ l, f a = f b → a = b) → (l.map f).Nodup
  | [], _, _ => List.nodup_nil
  | a :: l, h, hi => by
    obtain ⟨h1, h2⟩ := List.nodup_cons.mp h
    rw [List.map_cons, List.nodup_cons]
    refine ⟨fun hm => ?_, nodup_map h2 fun x hx y hy => hi x (List.mem_cons_of_mem _ hx) y (List.mem_cons_of_mem _ hy)⟩
    obtain ⟨b, hb, e⟩ := List.mem_map.mp hm
    have := hi b (List.mem_cons_of_mem _ hb) a List.mem_cons_self e
    rw [this] at hb
    exact h1 hb
theorem ks_nd (A : AscT n ts) (tw : TwoT n ts) : (ksT n ts).Nodup := by
  unfold ksT
  refine nodup_map List.nodup_range fun s hs t ht e => ?_
  have hs := List.mem_range.mp hs
  have ht := List.mem_range.mp ht
  obtain ⟨i, j, h0, hij, hj, hT, _⟩ := blk_two A tw hs
  exact trd_uniq A hij hT ⟨ht, by rw [← e]; exact hT.2.1, by rw [← e]; exact hT.2.2⟩
theorem mem_ks (A : AscT n ts) (cv : CovT n ts) (tw : TwoT n ts) {q : List Int} : q ∈ ksT n ts ↔ q ∈ allK n (sgT (timesZ (rngZ n) ts)) := by
  rw [mem_allK]
  constructor
  · intro h
    obtain ⟨t, ht, rfl⟩ := List.mem_map.mp h
    obtain ⟨i, j, h0, hij, hj, hT, e⟩ := blk_two A tw (List.mem_range.mp ht)
    exact ⟨i, j, h0, hij, hj, (knot_turn A cv h0 hij hj hT).symm, e⟩
  · rintro ⟨i, j, h0, hij, hj, rfl, _⟩
    obtain ⟨t, _, hT⟩ := time_of cv h0 hij hj
    exact List.mem_map.mpr ⟨t, List.mem_range.mpr hT.1, (knot_turn A cv h0 hij hj hT).symm⟩
theorem told_due (A : AscT n ts) (cv : CovT n ts) (tw : TwoT n ts) : allK n (sgT (timesZ (rngZ n) ts)) = (ksT n ts).mergeSort leT := by
  have p1 : (allK n (sgT (timesZ (rngZ n) ts))).Perm (ksT n ts) := (List.perm_ext_iff_of_nodup (nd_of_lt (allK_pw _ _)) (ks_nd A tw)).mpr fun q => (mem_ks A cv tw).symm
  exact sorted_eq (p1.trans (List.mergeSort_perm _ _).symm) ((allK_pw _ _).imp fun h => List.le_of_lt h) (msort_pw _)
/-! ### the pairs, the signs 0, counted by the knots -/
end
theorem sum_perm (f : List Int → Int) {l m : List (List Int)} (h : l.Perm m) : (l.map f).sum = (m.map f).sum := by
  induction h with
  | nil => rfl
  | cons x _ ih => rw [List.map_cons, List.sum_cons, List.map_cons, List.sum_cons, ih]
  | swap x y l => rw [List.map_cons, List.sum_cons, List.map_cons, List.sum_cons, List.map_cons, List.sum_cons, List.map_cons, List.sum_cons]; omega
  | trans _ _ h1 h2 => exact h1.trans h2
end Bl
set_option Elab.async false
set_option linter.all false
set_option maxRecDepth 100000
set_option maxHeartbeats 4000000
namespace Bl
open PySem PySem.Spec PyProof.Rows L2
open scoped List
/-! ### doors: what stands above what, the tops of a row -/
theorem sub_top {x y : Int} {l : List Int} {j : Nat} (hn : l.Nodup) (h : [x, y] <+ l) (hy : y ∈ l.take j) : x ∈ l.take j := by
  induction l generalizing j with
  | nil => cases h
  | cons c l ih =>
    obtain ⟨hc, hl⟩ := List.nodup_cons.mp hn
    cases j with
    | zero => cases hy
    | succ j =>
      rw [List.take_succ_cons] at hy ⊢
      cases h with
      | cons _ h =>
        rcases List.mem_cons.mp hy with e | hy
        · exact absurd (show c ∈ l by rw [← e]; exact h.subset (by simp)) hc
        · exact List.mem_cons_of_mem _ (ih hl h hy)
      | cons_cons _ h => exact List.mem_cons_self
section
variable {n : Int} {ts : List Trn} {a b x : Int}
/-- at the time u, two lines that are turned at t -/
theorem bef_iff (A : AscT n ts) (h0 : 0 ≤ a) (hab : a < b) (hb : b < n) {t u : Nat} (hT : Trd n ts a b t) (hu : u ≤ ts.length) : (u ≤ t → [a, b] <+ rowAt (rngZ n) ts u) ∧ (t < u → [b, a] <+ rowAt (rngZ n) ts u) :=
  ⟨fun h => up_all A hab hT h0 hb u h, fun h => down_all A hab (trd_aft A hab hT) u h hu⟩
/-- the part of a row ahead of the block -/
def hdR (n : Int) (ts : List Trn) (u : Nat) : List Int := (rowAt (rngZ n) ts u).take (ts.getD u (0, 0)).1
def tlR (n : Int) (ts : List Trn) (u : Nat) : List Int := (rowAt (rngZ n) ts u).drop ((ts.getD u (0, 0)).1 + (ts.getD u (0, 0)).2)
theorem row_split (n : Int) (ts : List Trn) (u : Nat) : rowAt (rngZ n) ts u = hdR n ts u ++ blk (rngZ n) ts u ++ tlR n ts u := turn_split (rowAt (rngZ n) ts u) (ts.getD u (0, 0))
theorem row_next {u : Nat} (h : u < ts.length) : rowAt (rngZ n) ts (u + 1) = hdR n ts u ++ (blk (rngZ n) ts u).reverse ++ tlR n ts u := rowAt_succ h
theorem mem_row {u : Nat} : x ∈ rowAt (rngZ n) ts u ↔ 0 ≤ x ∧ x < n := by
  exact ((rowAt_perm (rngZ n) (ts.take u)).mem_iff).trans ⟨mem_rngZ, fun h => mem_rngZ' h.1 h.2⟩
theorem hd_blk {u : Nat} (h : x ∈ blk (rngZ n) ts u) : x ∉ hdR n ts u := fun q => by
  have hn := rowAt_nd n ts u
  rw [row_split, List.append_assoc] at hn
  exact (List.nodup_append.mp hn).2.2 x q x (List.mem_append_left _ h) rfl
/-- a line above, below one of the block's lines, not in the block -/
theorem in_hd {u : Nat} (ha : a ∈ blk (rngZ n) ts u) (hx : x ∉ blk (rngZ n) ts u) (h : [x, a] <+ rowAt (rngZ n) ts u) : x ∈ hdR n ts u ∧ x ∉ tlR n ts u := by
  have hn := rowAt_nd n ts u
  rw [row_split] at h hn
  have hm : x ∈ hdR n ts u ++ blk (rngZ n) ts u ++ tlR n ts u := h.subset (by simp)
  have ht : x ∉ tlR n ts u := fun q => sub_anti hn h (((List.singleton_sublist.mpr ha).append (List.singleton_sublist.mpr q)).trans (by rw [List.append_assoc]; exact List.sublist_append_right _ _))
  simp only [List.mem_append] at hm
  exact ⟨(hm.resolve_right ht).resolve_right hx, ht⟩
theorem in_tl {u : Nat} (ha : a ∈ blk (rngZ n) ts u) (hx : x ∉ blk (rngZ n) ts u) (h : [a, x] <+ rowAt (rngZ n) ts u) : x ∉ hdR n ts u := by
  have hn := rowAt_nd n ts u
  rw [row_split] at h hn
  exact fun q => sub_anti hn h (((List.singleton_sublist.mpr q).append (List.singleton_sublist.mpr ha)).trans (List.sublist_append_left _ _))
/-! ### the depth of a pair -/
def sideZ (F : List Int → Int) (a b x : Int) : Int := if a < x ∧ x < b then F (isort [a, b, x]) else -F (isort [a, b, x])
def abvZ (n : Int) (F : List Int → Int) (a b : Int) : List Int := (rngZ n).filter fun x => !decide (x ∈ [a, b]) && decide (0 < sideZ F a b x)
theorem side_abv (A : AscT n ts) (cv : CovT n ts) (h0 : 0 ≤ a) (hab : a < b) (hb : b < n) {u : Nat} (hT : Trd n ts a b u) (hx0 : 0 ≤ x) (hxn : x < n) (hxa : x ≠ a) (hxb : x ≠ b) : 0 < sideZ (sgT (timesZ (rngZ n) ts)) a b x ↔ x ∈ hdR n ts u := by
  have hul : u ≤ ts.length := Nat.le_of_lt hT.1
  have none_in : x ∈ blk (rngZ n) ts u → x ∉ hdR n ts u := hd_blk
  unfold sideZ
  rw [isort3 hab]
  by_cases h1 : b < x
  · rw [if_neg (by omega), if_pos h1]
    obtain ⟨j, _, hj⟩ := time_of cv (show 0 ≤ b by omega) h1 hxn
    obtain ⟨k, _, hk⟩ := time_of cv h0 (show a < x by omega) hxn
    rcases sgT_three A cv h0 hab h1 hxn hT hj hk with ⟨e1, e2, e⟩ | ⟨e1, e2, e⟩ | ⟨e1, e2, e⟩ <;> rw [e]
    · exact ⟨fun h => absurd h (by decide), fun h => absurd h (none_in (by rw [e1]; exact hj.2.2))⟩
    · have hnb : x ∉ blk (rngZ n) ts u := fun q => by have := trd_uniq A h1 hj (j := u) ⟨hT.1, hT.2.2, q⟩; omega
      exact ⟨fun h => absurd h (by decide), fun h => absurd h (in_tl hT.2.2 hnb ((bef_iff A (by omega) h1 hxn hj hul).1 (by omega)))⟩
    · have hnb : x ∉ blk (rngZ n) ts u := fun q => by have := trd_uniq A h1 hj (j := u) ⟨hT.1, hT.2.2, q⟩; omega
      exact ⟨fun _ => (in_hd hT.2.2 hnb ((bef_iff A (by omega) h1 hxn hj hul).2 (by omega))).1, fun _ => by decide⟩
  · rw [if_neg h1]
    by_cases h2 : a < x
    · rw [if_pos (by omega), if_pos h2, if_neg hxb]
      obtain ⟨i, _, hi⟩ := time_of cv h0 h2 hxn
      obtain ⟨j, _, hj⟩ := time_of cv hx0 (show x < b by omega) hb
      rcases sgT_three A cv h0 h2 (show x < b by omega) hb hi hj hT with ⟨e1, e2, e⟩ | ⟨e1, e2, e⟩ | ⟨e1, e2, e⟩ <;> rw [e]
      · exact ⟨fun h => absurd h (by decide), fun h => absurd h (none_in (by rw [e2]; exact hi.2.2))⟩
      · have hnb : x ∉ blk (rngZ n) ts u := fun q => by have := trd_uniq A h2 hi (j := u) ⟨hT.1, hT.2.1, q⟩; omega
        exact ⟨fun _ => (in_hd hT.2.1 hnb ((bef_iff A h0 h2 hxn hi hul).2 (by omega))).1, fun _ => by decide⟩
      · have hnb : x ∉ blk (rngZ n) ts u := fun q => by have := trd_uniq A h2 hi (j := u) ⟨hT.1, hT.2.1, q⟩; omega
        exact ⟨fun h => absurd h (by decide), fun h => absurd h (in_tl hT.2.1 hnb ((bef_iff A h0 h2 hxn hi hul).1 (by omega)))⟩
    · rw [if_neg (by omega), if_neg h2]
      obtain ⟨i, _, hi⟩ := time_of cv hx0 (show x < a by omega) (show a < n by omega)
      obtain ⟨k, _, hk⟩ := time_of cv hx0 (show x < b by omega) hb
      rcases sgT_three A cv hx0 (show x < a by omega) hab hb hi hT hk with ⟨e1, e2, e⟩ | ⟨e1, e2, e⟩ | ⟨e1, e2, e⟩ <;> rw [e]
      · exact ⟨fun h => absurd h (by decide), fun h => absurd h (none_in (by rw [← e1]; exact hi.2.1))⟩
      · have hnb : x ∉ blk (rngZ n) ts u := fun q => by have := trd_uniq A (show x < a by omega) hi (j := u) ⟨hT.1, q, hT.2.1⟩; omega
        exact ⟨fun h => absurd h (by decide), fun h => absurd h (in_tl hT.2.1 hnb ((bef_iff A hx0 (show x < a by omega) (by omega) hi hul).2 (by omega)))⟩
      · have hnb : x ∉ blk (rngZ n) ts u := fun q => by have := trd_uniq A (show x < a by omega) hi (j := u) ⟨hT.1, q, hT.2.1⟩; omega
        exact ⟨fun _ => (in_hd hT.2.1 hnb ((bef_iff A hx0 (show x < a by omega) (by omega) hi hul).1 (by omega))).1, fun _ => by decide⟩
theorem hd_len (n : Int) (ts : List Trn) (u : Nat) : (hdR n ts u).Nodup := (rowAt_nd n ts u).sublist (List.take_sublist _ _)
theorem abv_len (A : AscT n ts) (cv : CovT n ts) (h0 : 0 ≤ a) (hab : a < b) (hb : b < n) {u : Nat} (hT : Trd n ts a b u) : (abvZ n (sgT (timesZ (rngZ n) ts)) a b).length = (hdR n ts u).length := by
  refine List.Perm.length_eq ((List.perm_ext_iff_of_nodup ((rngZ_nd n).filter _) (hd_len n ts u)).mpr fun x => ?_)
  rw [List.mem_filter]
  have hab' : ∀ {z}, z ∈ blk (rngZ n) ts u → z ∉ hdR n ts u := fun h => hd_blk h
  simp only [Bool.and_eq_true, Bool.not_eq_true', decide_eq_false_iff_not, decide_eq_true_eq, List.mem_cons, List.not_mem_nil, or_false, not_or]
  constructor
  · rintro ⟨hx, ⟨hxa, hxb⟩, h⟩
    have hx := mem_rngZ hx
    exact (side_abv A cv h0 hab hb hT hx.1 hx.2 hxa hxb).mp h
  · intro h
    have hx : 0 ≤ x ∧ x < n := mem_row.mp (List.mem_of_mem_take h)
    have hxa : x ≠ a := fun e => hab' hT.2.1 (by rw [← e]; exact h)
    have hxb : x ≠ b := fun e => hab' hT.2.2 (by rw [← e]; exact h)
    exact ⟨mem_rngZ' hx.1 hx.2, ⟨hxa, hxb⟩, (side_abv A cv h0 hab hb hT hx.1 hx.2 hxa hxb).mpr h⟩
/-! ### a top of a row has no wrong three -/
def topL (n : Int) (ts : List Trn) (t j : Nat) : List Int := (rowAt (rngZ n) ts t).take j
theorem top_up (A : AscT n ts) (h0 : 0 ≤ a) (hab : a < b) (hb : b < n) {t u j : Nat} (hT : Trd n ts a b u) (ht : t ≤ ts.length) : (t ≤ u → b ∈ topL n ts t j → a ∈ topL n ts t j) ∧ (u < t → a ∈ topL n ts t j → b ∈ topL n ts t j) :=
  ⟨fun h hm => sub_top (rowAt_nd n ts t) ((bef_iff A h0 hab hb hT ht).1 h) hm, fun h hm => sub_top (rowAt_nd n ts t) ((bef_iff A h0 hab hb hT ht).2 h) hm⟩
theorem no_wrong (A : AscT n ts) (cv : CovT n ts) {c : Int} (h0 : 0 ≤ a) (hab : a < b) (hbc : b < c) (hc : c < n) {t j : Nat} (ht : t ≤ ts.length) :
    ¬ (0 ≤ sgT (timesZ (rngZ n) ts) [a, b, c] ∧ a ∈ topL n ts t j ∧ c ∈ topL n ts t j ∧ b ∉ topL n ts t j) ∧ ¬ (sgT (timesZ (rngZ n) ts) [a, b, c] ≤ 0 ∧ b ∈ topL n ts t j ∧ a ∉ topL n ts t j ∧ c ∉ topL n ts t j) := by
  obtain ⟨i, _, hi⟩ := time_of cv h0 hab (show b < n by omega)
  obtain ⟨k, _, hk⟩ := time_of cv (show 0 ≤ b by omega) hbc hc
  obtain ⟨m, _, hm⟩ := time_of cv h0 (show a < c by omega) hc
  have h3 := sgT_three A cv h0 hab hbc hc hi hk hm
  have u1 := top_up A h0 hab (show b < n by omega) (j := j) hi ht
  have u2 := top_up A (show 0 ≤ b by omega) hbc hc (j := j) hk ht
  constructor
  · rintro ⟨hs, ha, hc', hb'⟩
    have g1 : t ≤ i := by
      rcases Nat.lt_or_ge i t with h | h
      · exact absurd (u1.2 h ha) hb'
      · exact h
    have g2 : k < t := by
      rcases Nat.lt_or_ge k t with h | h
      · exact h
      · exact absurd (u2.1 h hc') hb'
    rcases h3 with ⟨q1, q2, e⟩ | ⟨q1, q2, e⟩ | ⟨q1, q2, e⟩ <;> omega
  · rintro ⟨hs, hb', ha, hc'⟩
    have g1 : i < t := by
      rcases Nat.lt_or_ge i t with h | h
      · exact h
      · exact absurd (u1.1 h hb') ha
    have g2 : t ≤ k := by
      rcases Nat.lt_or_ge k t with h | h
      · exact absurd (u2.2 h hb') hc'
      · exact h
    rcases h3 with ⟨q1, q2, e⟩ | ⟨q1, q2, e⟩ | ⟨q1, q2, e⟩ <;> omega
end
end Bl
set_option Elab.async false
set_option linter.all false
set_option maxRecDepth 100000
set_option maxHeartbeats 4000000
namespace Bl
open PySem PySem.Spec PyProof.Rows L2
open scoped List
/-! ### how many of a lot stand above an edge -/
def tal (D l : List Int) : Nat := l.countP fun x => decide (x ∈ D)
theorem tal_app (D l m : List Int) : tal D (l ++ m) = tal D l + tal D m := List.countP_append
theorem tal_rev (D l : List Int) : tal D l.reverse = tal D l := List.countP_reverse
theorem tal_all {D l : List Int} (h : ∀ x ∈ l, x ∈ D) : tal D l = l.length := List.countP_eq_length.mpr fun x hx => decide_eq_true (h x hx)
theorem tal_none {D l : List Int} (h : ∀ x ∈ l, x ∉ D) : tal D l = 0 := List.countP_eq_zero.mpr fun x hx => by rw [decide_eq_true_eq]; exact h x hx
def min4 (h c m : Int) : Int := min (min h c) (min (m - h) (m - c))
/-- the growth of the tally when a block is turned whose members of D are its last ones -/
theorem low_high {D : List Int} : ∀ {B : List Int}, (B.Pairwise fun x y => x ∈ D → y ∈ D) → ∃ L H, B = L ++ H ∧ (∀ x ∈ L, x ∉ D) ∧ ∀ x ∈ H, x ∈ D
  | [], _ => ⟨[], [], rfl, (fun _ h => by cases h), (fun _ h => by cases h)⟩
  | b :: B, h => by
    obtain ⟨h1, h2⟩ := List.pairwise_cons.mp h
    by_cases hb : b ∈ D
    · refine ⟨[], b :: B, rfl, (fun _ h => by cases h), fun x hx => ?_⟩
      rcases List.mem_cons.mp hx with e | hx
      · rw [e]; exact hb
      · exact h1 x hx hb
    · obtain ⟨L, H, e, g1, g2⟩ := low_high h2
      refine ⟨b :: L, H, by rw [e]; rfl, fun x hx => ?_, g2⟩
      rcases List.mem_cons.mp hx with e | hx
      · rw [e]; exact hb
      · exact g1 x hx
theorem high_low {D : List Int} {B : List Int} (h : B.Pairwise fun x y => y ∈ D → x ∈ D) : ∃ H L, B = H ++ L ∧ (∀ x ∈ L, x ∉ D) ∧ ∀ x ∈ H, x ∈ D := by
  have h' : B.reverse.Pairwise fun x y => x ∈ D → y ∈ D := List.pairwise_reverse.mpr h
  obtain ⟨L, H, e, h1, h2⟩ := low_high h'
  refine ⟨H.reverse, L.reverse, ?_, fun x hx => h1 x (List.mem_reverse.mp hx), fun x hx => h2 x (List.mem_reverse.mp hx)⟩
  rw [← List.reverse_append, ← e, List.reverse_reverse]
theorem tal_take_h {D L H : List Int} (hL : ∀ x ∈ L, x ∉ D) (hH : ∀ x ∈ H, x ∈ D) (h : Nat) : tal D ((L ++ H).take h) = min (h - L.length) H.length ∧ tal D ((H ++ L).take h) = min h H.length := by
  constructor
  · rw [List.take_append, tal_app, tal_none fun x hx => hL x (List.mem_of_mem_take hx), tal_all fun x hx => hH x (List.mem_of_mem_take hx), List.length_take]
    omega
  · rw [List.take_append, tal_app, tal_all fun x hx => hH x (List.mem_of_mem_take hx), tal_none fun x hx => hL x (List.mem_of_mem_take hx), List.length_take]
    omega
theorem grow_low {D L H : List Int} (hL : ∀ x ∈ L, x ∉ D) (hH : ∀ x ∈ H, x ∈ D) {h : Nat} (hh : h ≤ L.length + H.length) : (tal D (((L ++ H).reverse).take h) : Int) - tal D ((L ++ H).take h) = min4 h H.length (L.length + H.length) := by
  have e1 := (tal_take_h hL hH h).1
  have e2 := (tal_take_h (D := D) (L := L.reverse) (H := H.reverse) (fun x hx => hL x (List.mem_reverse.mp hx)) (fun x hx => hH x (List.mem_reverse.mp hx)) h).2
  rw [← List.reverse_append, List.length_reverse] at e2
  rw [e1, e2]
  unfold min4
  omega
/-! ### one knot's doors -/
/-- where a knot lies to a lot: true for left, false for right; none for abreast -/
def lieZ (q D : List Int) : Option Bool := if tal D q = 0 ∨ tal D q = q.length then none else some (decide (q.getLastD 0 ∈ D))
def wgtZ (s c m : Int) : Int := if 0 < s ∧ s < m then min4 s c m else 0
/-- the doors at the edge g that the knot q adds, where q begins behind p lines -/
def dorZ (D : List Int) (w : Bool) (p : Int) (q : List Int) (g : Int) : Int := if lieZ q D = some w then wgtZ (g - p) (tal D q) q.length else 0
theorem dor_none {D q : List Int} (h : lieZ q D = none) (w : Bool) (p g : Int) : dorZ D w p q g = 0 := by
  unfold dorZ
  rw [h]
  exact if_neg (fun h => by cases h)
theorem dor_some {D q : List Int} {w : Bool} (h : lieZ q D = some w) (p g : Int) : dorZ D w p q g = wgtZ (g - p) (tal D q) q.length := by
  unfold dorZ
  rw [h]
  exact if_pos rfl
theorem dor_other {D q : List Int} {v w : Bool} (h : lieZ q D = some v) (hv : v ≠ w) (p g : Int) : dorZ D w p q g = 0 := by
  unfold dorZ
  rw [h]
  exact if_neg (fun h => hv (by cases h; rfl))
theorem min4_0 {h m : Int} (h0 : 0 ≤ h) (hm : h ≤ m) : min4 h 0 m = 0 ∧ min4 h m m = 0 := by
  unfold min4
  omega
section
variable {n : Int} {ts : List Trn}
theorem row_len (n : Int) (ts : List Trn) (u : Nat) : (rowAt (rngZ n) ts u).length = n.toNat := by
  exact ((rowAt_perm (rngZ n) (ts.take u)).length_eq).trans (rngZ_len n)
/-- the tally ahead of and behind a turn -/
theorem tal_turn (D : List Int) {u : Nat} (hu : u < ts.length) (g : Nat) :
    (tal D ((rowAt (rngZ n) ts (u + 1)).take g) : Int) - tal D ((rowAt (rngZ n) ts u).take g) =
      if (hdR n ts u).length < g ∧ g < (hdR n ts u).length + (blk (rngZ n) ts u).length then (tal D ((blk (rngZ n) ts u).reverse.take (g - (hdR n ts u).length)) : Int) - tal D ((blk (rngZ n) ts u).take (g - (hdR n ts u).length)) else 0 := by
  rw [row_next hu]
  conv => lhs; rw [row_split n ts u]
  generalize hdR n ts u = X
  generalize tlR n ts u = Y
  generalize blk (rngZ n) ts u = B
  rw [List.take_append, List.take_append, List.take_append, List.take_append]
  simp only [tal_app, List.length_append, List.length_reverse]
  by_cases h1 : g ≤ X.length
  · rw [if_neg (by omega), show g - X.length = 0 by omega, List.take_zero, List.take_zero]
    omega
  · by_cases h2 : g < X.length + B.length
    · rw [if_pos (by omega)]
      omega
    · rw [if_neg (by omega), List.take_of_length_le (l := B.reverse) (by rw [List.length_reverse]; omega), List.take_of_length_le (l := B) (by omega), tal_rev]
      omega
/-- a turn ahead of the time t -/
theorem turn_left (A : AscT n ts) {t j u : Nat} (ht : t ≤ ts.length) (hu : u < t) {g : Nat} :
    (tal (topL n ts t j) ((rowAt (rngZ n) ts (u + 1)).take g) : Int) - tal (topL n ts t j) ((rowAt (rngZ n) ts u).take g) = dorZ (topL n ts t j) true (hdR n ts u).length (blk (rngZ n) ts u) g ∧ dorZ (topL n ts t j) false (hdR n ts u).length (blk (rngZ n) ts u) g = 0 := by
  have hul : u < ts.length := by omega
  have hp : (blk (rngZ n) ts u).Pairwise fun x y => x ∈ topL n ts t j → y ∈ topL n ts t j := by
    refine List.Pairwise.imp_of_mem ?_ (A u hul)
    intro x y hx hy hxy
    exact (top_up A (blk_rng hx).1 hxy (blk_rng hy).2 (u := u) ⟨hul, hx, hy⟩ ht).2 hu
  obtain ⟨L, H, e, hL, hH⟩ := low_high hp
  rw [tal_turn _ hul g]
  generalize topL n ts t j = D at hL hH
  generalize hdR n ts u = X
  rw [e]
  have hc : tal D (L ++ H) = H.length := by rw [tal_app, tal_none hL, tal_all hH]; omega
  have hl0 : (H.length = 0 ∨ H.length = L.length + H.length) → lieZ (L ++ H) D = none := fun h => by
    unfold lieZ
    rw [hc, List.length_append, if_pos h]
  have hlast : H ≠ [] → (L ++ H).getLastD 0 ∈ D := fun hne => by
    have e2 : (L ++ H).getLastD 0 = H.getLast hne := by
      rw [List.getLastD_eq_getLast?, List.getLast?_append, List.getLast?_eq_some_getLast hne]
      rfl
    rw [e2]
    exact hH _ (List.getLast_mem hne)
  by_cases hH0 : H.length = 0 ∨ H.length = L.length + H.length
  · rw [dor_none (hl0 hH0), dor_none (hl0 hH0), List.length_append]
    refine ⟨?_, rfl⟩
    split
    · rename_i hg
      rw [grow_low hL hH (by omega)]
      rcases hH0 with h | h
      · rw [h]
        exact (min4_0 (by omega) (by omega)).1
      · have h : L.length = 0 := by omega
        rw [h]
        have := (min4_0 (h := ((g - X.length : Nat) : Int)) (m := (H.length : Int)) (by omega) (by omega)).2
        rw [← this]
        congr 1
        omega
    · rfl
  · have hne : H ≠ [] := fun h => hH0 (.inl (by rw [h]; rfl))
    have hl1 : lieZ (L ++ H) D = some true := by
      unfold lieZ
      rw [hc, List.length_append, if_neg hH0, decide_eq_true (hlast hne)]
    rw [dor_some hl1, dor_other hl1 (by decide), hc, List.length_append]
    refine ⟨?_, rfl⟩
    unfold wgtZ
    by_cases hg : X.length < g ∧ g < X.length + (L.length + H.length)
    · rw [if_pos hg, grow_low hL hH (by omega), if_pos (by omega)]
      congr 1
      omega
    · rw [if_neg hg, if_neg (by omega)]
/-- a turn at the time t or behind it -/
theorem turn_right (A : AscT n ts) {t j u : Nat} (ht : t ≤ ts.length) (hu : t ≤ u) (hul : u < ts.length) {g : Nat} :
    (tal (topL n ts t j) ((rowAt (rngZ n) ts u).take g) : Int) - tal (topL n ts t j) ((rowAt (rngZ n) ts (u + 1)).take g) = dorZ (topL n ts t j) false (hdR n ts u).length (blk (rngZ n) ts u) g ∧ dorZ (topL n ts t j) true (hdR n ts u).length (blk (rngZ n) ts u) g = 0 := by
  have hp : (blk (rngZ n) ts u).Pairwise fun x y => y ∈ topL n ts t j → x ∈ topL n ts t j := by
    refine List.Pairwise.imp_of_mem ?_ (A u hul)
    intro x y hx hy hxy
    exact (top_up A (blk_rng hx).1 hxy (blk_rng hy).2 (u := u) ⟨hul, hx, hy⟩ ht).1 hu
  obtain ⟨H, L, e, hL, hH⟩ := high_low hp
  have key := tal_turn (n := n) (topL n ts t j) hul g
  have key : (tal (topL n ts t j) ((rowAt (rngZ n) ts u).take g) : Int) - tal (topL n ts t j) ((rowAt (rngZ n) ts (u + 1)).take g) = -(if (hdR n ts u).length < g ∧ g < (hdR n ts u).length + (blk (rngZ n) ts u).length then (tal (topL n ts t j) ((blk (rngZ n) ts u).reverse.take (g - (hdR n ts u).length)) : Int) - tal (topL n ts t j) ((blk (rngZ n) ts u).take (g - (hdR n ts u).length)) else 0) := by
    rw [← key]; omega
  rw [key]
  clear key hp
  generalize topL n ts t j = D at hL hH
  generalize hdR n ts u = X
  rw [e]
  have hc : tal D (H ++ L) = H.length := by rw [tal_app, tal_none hL, tal_all hH]; omega
  have gl : ∀ h : Nat, h ≤ L.length + H.length → (tal D (((H ++ L).reverse).take h) : Int) - tal D ((H ++ L).take h) = -(min4 h H.length (L.length + H.length)) := fun h hh => by
    have := grow_low (D := D) (L := L.reverse) (H := H.reverse) (fun x hx => hL x (List.mem_reverse.mp hx)) (fun x hx => hH x (List.mem_reverse.mp hx)) (h := h) (by rw [List.length_reverse, List.length_reverse]; exact hh)
    rw [← List.reverse_append, List.reverse_reverse, List.length_reverse, List.length_reverse] at this
    omega
  have hl0 : (H.length = 0 ∨ H.length = H.length + L.length) → lieZ (H ++ L) D = none := fun h => by
    unfold lieZ
    rw [hc, List.length_append, if_pos h]
  have hlast : L ≠ [] → (H ++ L).getLastD 0 ∉ D := fun hne => by
    have e2 : (H ++ L).getLastD 0 = L.getLast hne := by
      rw [List.getLastD_eq_getLast?, List.getLast?_append, List.getLast?_eq_some_getLast hne]
      rfl
    rw [e2]
    exact hL _ (List.getLast_mem hne)
  by_cases hH0 : H.length = 0 ∨ H.length = H.length + L.length
  · rw [dor_none (hl0 hH0), dor_none (hl0 hH0), List.length_append]
    refine ⟨?_, rfl⟩
    split
    · rename_i hg
      rw [gl _ (by omega)]
      rcases hH0 with h | h
      · rw [h]
        have := (min4_0 (h := ((g - X.length : Nat) : Int)) (m := (L.length : Int)) (by omega) (by omega)).1
        show - -(min4 _ ((0 : Nat) : Int) ((L.length : Int) + ((0 : Nat) : Int))) = 0
        rw [show (L.length : Int) + ((0 : Nat) : Int) = L.length by omega, show ((0 : Nat) : Int) = 0 from rfl, this]
        rfl
      · have h : L.length = 0 := by omega
        rw [h]
        have := (min4_0 (h := ((g - X.length : Nat) : Int)) (m := (H.length : Int)) (by omega) (by omega)).2
        rw [show ((0 : Nat) : Int) + (H.length : Int) = H.length by omega, this]
        rfl
    · rfl
  · have hne : L ≠ [] := fun h => hH0 (.inr (by rw [h]; rfl))
    have hl1 : lieZ (H ++ L) D = some false := by
      unfold lieZ
      rw [hc, List.length_append, if_neg hH0, decide_eq_false (hlast hne)]
    rw [dor_some hl1, dor_other hl1 (by decide), hc, List.length_append]
    refine ⟨?_, rfl⟩
    unfold wgtZ
    by_cases hg : X.length < g ∧ g < X.length + (H.length + L.length)
    · rw [if_pos hg, gl _ (by omega), if_pos (by omega), Int.neg_neg]
      unfold min4
      omega
    · rw [if_neg hg, if_neg (by omega)]
      rfl
/-! ### all doors -/
def sumF (f : Nat → Int) (m : Nat) : Int := ((List.range m).map f).sum
theorem sumF_succ (f : Nat → Int) (m : Nat) : sumF f (m + 1) = sumF f m + f m := by
  unfold sumF
  rw [List.range_succ, List.map_append, List.sum_append]
  simp
/-- the doors at the edge g, over all turns -/
def dorsT (n : Int) (ts : List Trn) (D : List Int) (w : Bool) (g : Nat) : Int := sumF (fun u => dorZ D w (hdR n ts u).length (blk (rngZ n) ts u) g) ts.length
theorem dors_left (A : AscT n ts) {t j : Nat} (ht : t ≤ ts.length) (g : Nat) : dorsT n ts (topL n ts t j) true g = tal (topL n ts t j) ((rowAt (rngZ n) ts t).take g) - tal (topL n ts t j) ((rowAt (rngZ n) ts 0).take g) := by
  have key : ∀ m, m ≤ ts.length → sumF (fun u => dorZ (topL n ts t j) true (hdR n ts u).length (blk (rngZ n) ts u) g) m = tal (topL n ts t j) ((rowAt (rngZ n) ts (min m t)).take g) - tal (topL n ts t j) ((rowAt (rngZ n) ts 0).take g) := by
    intro m
    induction m with
    | zero =>
      intro _
      rw [Nat.zero_min]
      show (0 : Int) = _
      omega
    | succ m ih =>
      intro hm
      rw [sumF_succ, ih (by omega)]
      by_cases h : m < t
      · rw [← (turn_left A ht h (j := j) (g := g)).1, show min m t = m by omega, show min (m + 1) t = m + 1 by omega]
        omega
      · rw [(turn_right A ht (by omega) (by omega) (j := j) (g := g)).2, show min m t = t by omega, show min (m + 1) t = t by omega]
        omega
  have := key ts.length (Nat.le_refl _)
  rw [show min ts.length t = t by omega] at this
  exact this
theorem dors_right (A : AscT n ts) {t j : Nat} (ht : t ≤ ts.length) (g : Nat) : dorsT n ts (topL n ts t j) false g = tal (topL n ts t j) ((rowAt (rngZ n) ts t).take g) - tal (topL n ts t j) ((rowAt (rngZ n) ts ts.length).take g) := by
  have key : ∀ m, m ≤ ts.length → sumF (fun u => dorZ (topL n ts t j) false (hdR n ts u).length (blk (rngZ n) ts u) g) m = tal (topL n ts t j) ((rowAt (rngZ n) ts t).take g) - tal (topL n ts t j) ((rowAt (rngZ n) ts (max m t)).take g) := by
    intro m
    induction m with
    | zero =>
      intro _
      rw [Nat.zero_max]
      show (0 : Int) = _
      omega
    | succ m ih =>
      intro hm
      rw [sumF_succ, ih (by omega)]
      by_cases h : m < t
      · rw [(turn_left A ht h (j := j) (g := g)).2, show max m t = t by omega, show max (m + 1) t = t by omega]
        omega
      · rw [← (turn_right A ht (by omega) (by omega) (j := j) (g := g)).1, show max m t = m by omega, show max (m + 1) t = m + 1 by omega]
        omega
  have := key ts.length (Nat.le_refl _)
  rw [show max ts.length t = ts.length by omega] at this
  exact this
end
end Bl
set_option Elab.async false
set_option linter.all false
set_option maxRecDepth 100000
set_option maxHeartbeats 4000000
namespace Bl
open PySem PySem.Spec PyProof.Rows L2
open scoped List
/-! ### the doors as the program counts them, and what they are -/
theorem tal_congr {D D' : List Int} (h : ∀ x, x ∈ D ↔ x ∈ D') (l : List Int) : tal D l = tal D' l := by
  unfold tal
  congr 1
  funext x
  rw [decide_eq_decide]
  exact h x
theorem tal_top {l : List Int} (hn : l.Nodup) {j : Nat} (hj : j ≤ l.length) {g : Nat} (hg : g ≤ l.length) : tal (l.take j) (l.take g) = min j g := by
  rcases Nat.le_total g j with h | h
  · rw [tal_all fun x hx => (List.take_sublist_take_left h).subset hx, List.length_take]
    omega
  · have e : l.take g = l.take j ++ (l.drop j).take (g - j) := by
      conv => lhs; rw [← List.take_append_drop j l, List.take_append, List.length_take, Nat.min_eq_left hj, List.take_take, Nat.min_eq_right h]
    rw [e, tal_app, tal_all fun x hx => hx, tal_none, List.length_take]
    · omega
    · intro x hx hx2
      have hx := List.mem_of_mem_take hx
      rw [← List.take_append_drop j l] at hn
      exact (List.nodup_append.mp hn).2.2 x hx2 x hx rfl
section
variable {n : Int} {ts : List Trn}
theorem row_first (n : Int) (ts : List Trn) : rowAt (rngZ n) ts 0 = rngZ n := rfl
theorem row_last (A : AscT n ts) (cv : CovT n ts) : rowAt (rngZ n) ts ts.length = (rngZ n).reverse := by
  have hp : (rowAt (rngZ n) ts ts.length).reverse.Pairwise (· < ·) := by
    rw [List.pairwise_reverse, List.pairwise_iff_forall_sublist]
    intro a b h
    have hn := rowAt_nd n ts ts.length
    have ha := mem_row.mp (h.subset (show a ∈ [a, b] by simp))
    have hb := mem_row.mp (h.subset (show b ∈ [a, b] by simp))
    rcases Int.lt_trichotomy a b with q | q | q
    · obtain ⟨t, _, hT⟩ := time_of cv ha.1 q hb.2
      exact (sub_anti hn h ((bef_iff A ha.1 q hb.2 hT (Nat.le_refl _)).2 hT.1)).elim
    · rw [q] at h
      have := h.nodup hn
      simp at this
    · exact q
  have e : (rowAt (rngZ n) ts ts.length).reverse = rngZ n := asc_ext hp (rngZ_pw n) fun x => by
    rw [List.mem_reverse, mem_row]
    exact ⟨fun h => mem_rngZ' h.1 h.2, mem_rngZ⟩
  exact (List.reverse_eq_iff.mp e)
def depZ (n : Int) (F : List Int → Int) (q : List Int) : Int := (abvZ n F (q.getD 0 0) (q.getD 1 0)).length
/-- the doors at the edge g, as the program counts them -/
def dorP (n : Int) (F : List Int → Int) (D : List Int) (w : Bool) (g : Int) : Int := ((allK n F).map fun q => dorZ D w (depZ n F q) q g).sum
theorem dor_sum (A : AscT n ts) (cv : CovT n ts) (tw : TwoT n ts) (D : List Int) (w : Bool) (g : Nat) : dorP n (sgT (timesZ (rngZ n) ts)) D w g = dorsT n ts D w g := by
  unfold dorP
  rw [told_due A cv tw, sum_perm _ (List.mergeSort_perm (ksT n ts) leT)]
  unfold ksT dorsT sumF
  rw [List.map_map]
  congr 1
  refine List.map_congr_left fun u hu => ?_
  have hu := List.mem_range.mp hu
  obtain ⟨a, b, h0, hab, hb, hT, e⟩ := blk_two A tw hu
  show dorZ D w (depZ n _ (blk (rngZ n) ts u)) _ g = _
  have ed : depZ n (sgT (timesZ (rngZ n) ts)) (blk (rngZ n) ts u) = ((hdR n ts u).length : Int) := by
    unfold depZ
    have e0 : (blk (rngZ n) ts u).getD 0 0 = a ∧ (blk (rngZ n) ts u).getD 1 0 = b := by
      match hB : blk (rngZ n) ts u with
      | [] => rw [hB] at e; cases e
      | [x] => rw [hB] at e; cases e
      | x :: y :: r =>
        rw [hB] at e
        have e : [x, y] = [a, b] := e
        cases e
        exact ⟨rfl, rfl⟩
    rw [e0.1, e0.2, abv_len A cv h0 hab hb hT]
  rw [ed]
/-- the lines of a place that lie below the number g; at n - g or behind it -/
def cntL (D : List Int) (g : Nat) : Nat := tal D (rngZ g)
def cntR (n : Int) (D : List Int) (g : Nat) : Nat := tal D ((rngZ n).reverse.take g)
theorem rng_take {n : Int} {g : Nat} (h : (g : Int) ≤ n) : (rngZ n).take g = rngZ g := by
  unfold rngZ
  rw [← List.map_take, List.take_range]
  congr 2
  omega
/-- the main fact of the doors -/
theorem doors_are (A : AscT n ts) (cv : CovT n ts) (tw : TwoT n ts) {D : List Int} {t j : Nat} (hD : ∀ x, x ∈ D ↔ x ∈ topL n ts t j) (ht : t ≤ ts.length) (hj : (j : Int) ≤ n) {g : Nat} (hg : (g : Int) ≤ n) :
    dorP n (sgT (timesZ (rngZ n) ts)) D true g = min (j : Int) g - cntL D g ∧ dorP n (sgT (timesZ (rngZ n) ts)) D false g = min (j : Int) g - cntR n D g := by
  have hl := row_len n ts t
  have e1 : tal (topL n ts t j) ((rowAt (rngZ n) ts t).take g) = min j g := tal_top (rowAt_nd n ts t) (by omega) (by omega)
  have eD : ∀ w, dorsT n ts D w g = dorsT n ts (topL n ts t j) w g := fun w => by
    unfold dorsT
    congr 1
    funext u
    have e2 : tal D (blk (rngZ n) ts u) = tal (topL n ts t j) (blk (rngZ n) ts u) := tal_congr hD _
    unfold dorZ lieZ
    rw [e2, decide_eq_decide.mpr (hD _)]
  rw [dor_sum A cv tw, dor_sum A cv tw, eD, eD, dors_left A ht, dors_right A ht, e1, row_first, row_last A cv, rng_take hg]
  unfold cntL cntR
  rw [tal_congr hD, tal_congr hD]
  omega
end
theorem cntL_succ (D : List Int) (g : Nat) : cntL D (g + 1) = cntL D g + if (g : Int) ∈ D then 1 else 0 := by
  unfold cntL
  have e : rngZ ((g + 1 : Nat) : Int) = rngZ (g : Int) ++ [(g : Int)] := by
    unfold rngZ
    rw [show ((g + 1 : Nat) : Int).toNat = g + 1 by omega, show ((g : Nat) : Int).toNat = g by omega, List.range_succ, List.map_append]
    congr 1
    show [0 + (g : Int)] = _
    rw [Int.zero_add]
  rw [e, tal_app]
  congr 1
  unfold tal
  rw [List.countP_singleton]
  by_cases h : (g : Int) ∈ D
  · rw [if_pos h, if_pos (decide_eq_true h)]
  · rw [if_neg h, if_neg (by rw [decide_eq_false h]; decide)]
theorem tal_more {D D' : List Int} {x : Int} (h : ∀ y, y ∈ D' ↔ y ∈ D ∨ y = x) (hx : x ∉ D) {l : List Int} (hn : l.Nodup) : tal D' l = tal D l + if x ∈ l then 1 else 0 := by
  induction l with
  | nil => rfl
  | cons a l ih =>
    obtain ⟨h1, h2⟩ := List.nodup_cons.mp hn
    have ih := ih h2
    unfold tal at ih ⊢
    rw [List.countP_cons, List.countP_cons, ih]
    by_cases hax : a = x
    · subst hax
      rw [if_neg h1, if_pos (decide_eq_true ((h a).mpr (.inr rfl))), if_neg (by rw [decide_eq_false hx]; decide), if_pos List.mem_cons_self]
    · have e : (decide (a ∈ D')) = decide (a ∈ D) := by
        rw [decide_eq_decide, h a]
        exact ⟨fun z => z.resolve_right hax, .inl⟩
      rw [e]
      by_cases hxl : x ∈ l
      · rw [if_pos hxl, if_pos (List.mem_cons_of_mem _ hxl)]
        omega
      · rw [if_neg hxl, if_neg (fun z => (List.mem_cons.mp z).elim (fun e => hax e.symm) hxl)]
        omega
theorem cntL_more {D D' : List Int} {x : Int} (h : ∀ y, y ∈ D' ↔ y ∈ D ∨ y = x) (hx : x ∉ D) (h0 : 0 ≤ x) (g : Nat) : cntL D' g = cntL D g + if x < g then 1 else 0 := by
  unfold cntL
  rw [tal_more h hx (rngZ_nd _)]
  congr 1
  by_cases hg : x < g
  · rw [if_pos hg, if_pos (mem_rngZ' h0 hg)]
  · rw [if_neg hg, if_neg fun z => hg (mem_rngZ z).2]
theorem cntR_more {n : Int} {D D' : List Int} {x : Int} (h : ∀ y, y ∈ D' ↔ y ∈ D ∨ y = x) (hx : x ∉ D) (h0 : 0 ≤ x) (hxn : x < n) {g : Nat} (hg : (g : Int) ≤ n) : cntR n D' g = cntR n D g + if n - g ≤ x then 1 else 0 := by
  unfold cntR
  rw [tal_more h hx (((List.reverse_perm (rngZ n)).nodup_iff.mpr (rngZ_nd n)).sublist (List.take_sublist _ _))]
  congr 1
  have hm : x ∈ (rngZ n).reverse.take g ↔ n - g ≤ x := by
    rw [List.take_reverse, List.mem_reverse, rngZ_len]
    have e := List.take_append_drop (n.toNat - g) (rngZ n)
    rw [rng_take (by omega)] at e
    have hn := rngZ_nd n
    have hm : x ∈ rngZ n := mem_rngZ' h0 hxn
    rw [← e] at hm hn
    constructor
    · intro hd
      have : x ∉ rngZ ((n.toNat - g : Nat) : Int) := fun q => (List.nodup_append.mp hn).2.2 x q x hd rfl
      have : ¬ x < ((n.toNat - g : Nat) : Int) := fun q => this (mem_rngZ' h0 q)
      omega
    · intro hg2
      rcases List.mem_append.mp hm with q | q
      · have := (mem_rngZ q).2
        omega
      · exact q
  by_cases hg : n - g ≤ x
  · rw [if_pos hg, if_pos (hm.mpr hg)]
  · rw [if_neg hg, if_neg fun z => hg (hm.mp z)]
end Bl
set_option Elab.async false
set_option linter.all false
set_option maxRecDepth 100000
set_option maxHeartbeats 4000000
set_option Elab.async false
set_option linter.all false
set_option maxRecDepth 100000
set_option maxHeartbeats 8000000
set_option Elab.async false
set_option linter.all false
set_option maxRecDepth 100000
set_option maxHeartbeats 8000000
namespace Bl
open PySem PySem.Spec PyProof.Rows L2
section
variable {P : Program} {w : World} {K : PySem.W.Frag} {mg : Str → Option Value} {base : Heap} {f fG : Addr} {fd fdG : FuncData} {k : Nat} {C : Addr}
/-! ### is_wrong, wrong_in, first_wrong, check_place -/
abbrev sIsWrong : Stmt := topS 43
abbrev nIsWrong : List Str := ["chart", "lot", "three", "line", "a", "b", "c", "sign"]
theorem scIsWrong : FnScope nIsWrong ["chart", "lot", "three"] (defScope sIsWrong) := ⟨rfl, rfl, rfl, by decide +kernel, rfl, by decide +kernel, by decide +kernel⟩
def wrongB (F : List Int → Int) (pl : List Int) (t : List Int) : Bool :=
  (decide (0 ≤ F t) && (decide (t.getD 0 0 ∈ pl) && (decide (t.getD 2 0 ∈ pl) && !decide (t.getD 1 0 ∈ pl)))) || (decide (F t ≤ 0) && (decide (t.getD 1 0 ∈ pl) && (!decide (t.getD 0 0 ∈ pl) && !decide (t.getD 2 0 ∈ pl))))
def gIsWrong (C : Addr) : GG := fun rs ow r ow' => ∃ (n : Int) (F : List Int → Int) (pl t : List Int), rs = [.d (chartD C n (cns n F)), .d (tupI pl), .d (tupI t)] ∧ t ∈ sub3 (rngZ n) ∧ 0 ≤ n ∧ n ≤ 7 ∧ r = .d (.bl (wrongB F pl t)) ∧ ow' = ow
theorem ok_isWrong (F0 : Fun K "is_wrong" "is_wrong" sIsWrong f fd) (T : ChTxt K C) (M1 : Mt P w K mg base C "lot_sign" k ["self", "three"] (gLot C)) : FnOk P w K mg base CX0 (k + 1) f fd ["chart", "lot", "three"] (spF K (gIsWrong C)) := by
  refine okF F0 scIsWrong (fun rs ow r ow' h => ?_) (fun cdv A outer s H E hr rs ow r ow' h => ?_)
  · obtain ⟨n, F, pl, t, rfl, _⟩ := h
    rfl
  · obtain ⟨n, F, pl, t, rfl, hm, h0, h7, rfl, rfl⟩ := h
    obtain ⟨x, y, z, rfl, _⟩ := sub3_form h0 h7 hm
    refine pbd_cons (psd_asgT (vs := [4, 5, 6]) (pd_eqD (pd_lc (own := [("line", 3)]) [x, y, z] D.int (fun i => [some (.d (chartD C n (cns n F))), some (.d (tupI pl)), some (.d (tupI [x, y, z])), some (.d (.int i)), none, none, none, none]) (fun _ => true) (fun i => .bl (decide (i ∈ pl)))
      rfl scIsWrong.nd (pid_tup (pd_var 2) rfl) (blkOk_by (N := nIsWrong) (sc := defScope sIsWrong) (by decide +kernel)) (by show 3 ≤ 40000; decide) (fun x hx _ H C' cl fp => pgd_name 3 scIsWrong.nd)
      (fun x hx l _ H C' cl fp => ptsd_nil) (fun x hx _ l _ H C' cl fp => pd_in (ns := pl) (pd_var 3) (pd_var 1) rfl)) (d' := .lst [.bl (decide (x ∈ pl)), .bl (decide (y ∈ pl)), .bl (decide (z ∈ pl))]) rfl)
      (pgd_lst rfl (pgsd_cons (pgd_name 4 scIsWrong.nd) (pgsd_cons (pgd_name 5 scIsWrong.nd) (pgsd_cons (pgd_name 6 scIsWrong.nd) pgsd_nil))))) ?_
    refine pbd_cons (psd_set 7 scIsWrong.nd (pd_eqD (pd_mt M1 (pd_var 0) T.cl hr (Nat.le_refl _) (padd_cons (pd_var 2) padd_nil) (chF_no n _ nm1 nm2 nm3 nm4) ⟨n, cns n F, [x, y, z], rfl, lotOk_F hm, rfl, rfl⟩) (show D.int (sgA n (cns n F) [x, y, z]) = .int (F [x, y, z]) by rw [sgA_F hm]))) ?_
    exact pbd_last (psd_ret (pd_or (pd_and (pd_ge (pd_var 7) pd_int) fun _ => pd_and (pd_var 4) fun _ => pd_and (pd_var 6) fun _ => pd_one (pd_not (pd_var 5))) fun _ => pd_one (pd_and (pd_le (pd_var 7) pd_int) fun _ => pd_and (pd_var 5) fun _ => pd_and (pd_not (pd_var 4)) fun _ => pd_one (pd_not (pd_var 6)))))
abbrev sWrongIn : Stmt := topS 42
theorem scWrongIn : FnScope ["chart", "lot", "lines", "three"] ["chart", "lot", "lines"] (defScope sWrongIn) := ⟨rfl, rfl, rfl, by decide +kernel, rfl, by decide +kernel, by decide +kernel⟩
def wrongF (n : Int) (F : List Int → Int) (pl : List Int) : Option (List Int) := (sub3 (rngZ n)).find? (wrongB F pl)
def gWrongIn (C : Addr) : GG := fun rs ow r ow' => ∃ (n : Int) (F : List Int → Int) (pl : List Int), rs = [.d (chartD C n (cns n F)), .d (tupI pl), .d (tupI (rngZ n))] ∧ 0 ≤ n ∧ n ≤ 7 ∧ r = .d (optD (wrongF n F pl)) ∧ ow' = ow
theorem ok_wrongIn (F0 : Fun K "wrong_in" "wrong_in" sWrongIn f fd) (C1 : Fg P w K mg base "threes_in" k ["names"] (gSub sub3)) (C2 : Fg P w K mg base "is_wrong" k ["chart", "lot", "three"] (gIsWrong C)) : FnOk P w K mg base CX0 (k + 1) f fd ["chart", "lot", "lines"] (spF K (gWrongIn C)) := by
  refine okF F0 scWrongIn (fun rs ow r ow' h => ?_) (fun cdv A outer s H E hr rs ow r ow' h => ?_)
  · obtain ⟨n, F, pl, rfl, _⟩ := h
    rfl
  · obtain ⟨n, F, pl, rfl, h0, h7, rfl, rfl⟩ := h
    refine pbd_find [3] [some (.d (chartD C n (cns n F))), some (.d (tupI pl)), some (.d (tupI (rngZ n))), none] (sub3 (rngZ n)) tupI (wrongB F pl) (fun q => .d (tupI q)) (fun q => [some (.d (chartD C n (cns n F))), some (.d (tupI pl)), some (.d (tupI (rngZ n))), some (.d (tupI q))]) PassesOwn.never rfl
      (pid_eq (pid_list (pd_cg C1 hr (Nat.le_refl _) (padd_cons (pd_var 2) padd_nil) ⟨true, (rngZ n).map D.int, rfl, by rw [List.length_map, rngZ_len]; omega, rfl, rfl⟩)) (by rw [sub3_map, List.map_map]; rfl)) ⟨rfl, fun i r h => h⟩ (fun q hm => pgd_name 3 scWrongIn.nd)
      (fun q hm hb => pbd_weak (pbd_skip (ptd_val (pd_cg C2 hr (Nat.le_refl _) (padd_cons (pd_var 0) (padd_cons (pd_var 1) (padd_cons (pd_var 3) padd_nil))) ⟨n, F, pl, q, rfl, hm, h0, h7, rfl, rfl⟩)) hb pbd_nil) rfl (by (intro i r h; rcases i with _ | _ | _ | _ | _ | i <;> first | exact h | cases h)))
      (fun q hm hb => pbd_take (ptd_val (pd_cg C2 hr (Nat.le_refl _) (padd_cons (pd_var 0) (padd_cons (pd_var 1) (padd_cons (pd_var 3) padd_nil))) ⟨n, F, pl, q, rfl, hm, h0, h7, rfl, rfl⟩)) hb (pbd_last (psd_ret (pd_var 3))))
      (fun he => ?_) (fun q he => ?_)
    · have e : wrongF n F pl = none := he
      rw [e]
      exact pbd_last (psd_ret pd_non)
    · have e : wrongF n F pl = some q := he
      rw [e]
      rfl
abbrev sFirstWr : Stmt := topS 41
theorem scFirstWr : FnScope ["chart", "lot"] ["chart", "lot"] (defScope sFirstWr) := ⟨rfl, rfl, rfl, by decide +kernel, rfl, by decide +kernel, by decide +kernel⟩
def gFirstWr (C : Addr) : GG := fun rs ow r ow' => ∃ (n : Int) (F : List Int → Int) (pl : List Int), rs = [.d (chartD C n (cns n F)), .d (tupI pl)] ∧ 0 ≤ n ∧ n ≤ 7 ∧ r = .d (optD (wrongF n F pl)) ∧ ow' = ow
theorem ok_firstWr (F0 : Fun K "first_wrong" "first_wrong" sFirstWr f fd) (T : ChTxt K C) (C1 : Fg P w K mg base "wrong_in" k ["chart", "lot", "lines"] (gWrongIn C)) : FnOk P w K mg base CX0 (k + 1) f fd ["chart", "lot"] (spF K (gFirstWr C)) := by
  refine okF F0 scFirstWr (fun rs ow r ow' h => ?_) (fun cdv A outer s H E hr rs ow r ow' h => ?_)
  · obtain ⟨n, F, pl, rfl, _⟩ := h
    rfl
  · obtain ⟨n, F, pl, rfl, h0, h7, rfl, rfl⟩ := h
    exact pbd_last (psd_ret (pd_cg C1 hr (Nat.le_refl _) (padd_cons (pd_var 0) (padd_cons (pd_var 1) (padd_cons (pd_fld (pd_var 0) T.cl T.lines (chF_lines n _)) padd_nil))) ⟨n, F, pl, rfl, h0, h7, rfl, rfl⟩))
/-! ### lies, weight_of -/
end
end Bl
set_option Elab.async false
set_option linter.all false
set_option maxRecDepth 100000
set_option maxHeartbeats 8000000
set_option Elab.async false
set_option linter.all false
set_option maxRecDepth 100000
set_option maxHeartbeats 4000000
set_option Elab.async false
set_option linter.all false
set_option maxRecDepth 100000
set_option maxHeartbeats 4000000
namespace Bl
open PySem PySem.Spec PyProof.Rows L2
/-! ### a list of ints in a list of such lists -/
abbrev lstI (ns : List Int) : D := .lst (ns.map D.int)
def lst2 (l : List (List Int)) : List D := l.map lstVI
def dL2 (l : List (List Int)) : List PyData := l.map fun ns => PyData.list (ns.map PyData.int)
theorem dp_lstI {K : PySem.W.Frag} {S : List Addr} {H : Hp} {v : V} {ns : List Int} (h : Den K S H v (lstI ns)) : Dp K H v (.list (ns.map PyData.int)) := by
  obtain ⟨a, xs, rfl, g1, g2⟩ := h.of_lst
  have e := Dens.ints g2
  subst e
  exact .lst g1.sq (dp_ints ns)
theorem dens_lst2 {K : PySem.W.Frag} {S : List Addr} {H : Hp} : ∀ {xs : List V} {l : List (List Int)}, Dens K S H xs (lst2 l) → DpAll K H xs (dL2 l)
  | [], [], _ => .nil
  | [], _ :: _, h => nomatch h
  | _ :: _, [], h => nomatch h
  | x :: xs, ns :: l, h => by
    have h' : Dens K S H (x :: xs) (lstVI ns :: lst2 l) := h
    obtain ⟨h1, h2⟩ := h'.uncons
    exact .cons (dp_lstI (Den.lstW h1)) (dens_lst2 h2)
theorem eqv_lI (a b : List Int) : PyData.eqv (.list (a.map PyData.int)) (.list (b.map PyData.int)) = decide (a = b) := eqv_ints a b
theorem any_l2 (ns : List Int) : ∀ l : List (List Int), ((dL2 l).any fun y => y.eqv (.list (ns.map PyData.int))) = decide (ns ∈ l)
  | [] => by rfl
  | m :: l => by
    show (PyData.eqv (.list (m.map PyData.int)) (.list (ns.map PyData.int)) || (dL2 l).any fun y => y.eqv (.list (ns.map PyData.int))) = _
    rw [any_l2 ns l, eqv_lI]
    by_cases h : m = ns
    · subst h; simp
    · have : ¬ ns = m := fun z => h z.symm
      simp [h, this]
theorem depth_lI (n : List Int) : PyData.depth (.list (n.map PyData.int)) ≤ 2 := by
  have h1 := depth_ints n
  have h2 : PyData.depth (.list (n.map PyData.int)) = PyData.depthAll (n.map PyData.int) + 1 := rfl
  rw [h2]
  omega
theorem lay_lI (n : List Int) : PyData.canLay0 (.list (n.map PyData.int)) = true := lay_ints n
theorem lay_l2 : ∀ l : List (List Int), PyData.canLayAll0 (dL2 l) = true
  | [] => by simp [dL2, PyData.canLayAll0]
  | n :: ns => by
    have := lay_l2 ns
    have h1 := lay_lI n
    unfold dL2 at this ⊢
    simp only [List.map_cons, PyData.canLayAll0, this, h1, Bool.and_true]
def rInL (K : PySem.W.Frag) (neg : Bool) : R2 := fun x y H Q => ∃ (ns : List Int) (l : List (List Int)), Dp K H x (.list (ns.map PyData.int)) ∧ Dp K H y (.list (dL2 l)) ∧ Q (.bl (if neg then !decide (ns ∈ l) else decide (ns ∈ l))) H
theorem op_notInL {X : Cx} (hu : X.A.units + 64 < cLine) : OpR X (compareOp .NotIn) (rInL X.K true) := by
  intro pins s σ H x y v u Q I rx ry h
  obtain ⟨ns, l, hx, hy, q⟩ := h
  obtain ⟨as, r1⟩ := Dp.reads I _ _ _ hy ry
  obtain ⟨bs, r2⟩ := Dp.reads I _ _ _ hx rx
  have := depth_lI ns
  refine SeqAt.notIn_list_reads r1 r2 (lay_l2 l) (lay_lI ns) (by omega) ⟨.bl _, H, I, rfl, ?_⟩
  rw [any_l2]
  exact q
/-! ### its index -/
section
variable {X : Cx} {a b o e : Expr} {st : Sta} {ow ow1 ow2 : List OB} {pos apos cpos : Pos} {l : List (List Int)} {ns ms : List Int} {k j : Nat}
/-- not in a mutable list of such lists -/
theorem ptd_notInLO (hu : X.A.units + 64 < cLine) (ha : PD X st ow a (.d (lstI ns)) ow1) (hb : PD X st ow1 b (.own k) ow2) (hk : ow2[k]? = some (.l (lst2 l))) (hm : behindInMarks .NotIn b = false := by rfl) : PTD X st ow (.Compare a [.NotIn] [b] pos) (!decide (ns ∈ l)) ow2 :=
  (pt_cmpR (op_notInL hu) ha hb hm).imp fun σ H Q ⟨S, sl, o, q⟩ => ⟨S, sl, o, fun S1 v1 H1 f1 o1 d1 => ⟨S1, f1.slots sl, o1, fun S2 v2 H2 f2 o2 d2 => by
    obtain ⟨p, xs, rfl, g1, g2, g3⟩ := own_sq o2 d2 hk
    cases d1 with
    | d d1 => exact ⟨ns, l, dp_lstI (f2.den d1), .lst (.inl (.inl g2)) (dens_lst2 g3), ⟨_, rfl, q S2 H2 (f1.trans o1 f2) o2⟩⟩⟩⟩
end
end Bl
set_option Elab.async false
set_option linter.all false
set_option maxRecDepth 100000
set_option maxHeartbeats 8000000
namespace Bl
open PySem PySem.Spec PyProof.Rows L2
/-- the rows of the table of doors: left and right at the edges 1 to n - 1 -/
def tabZ (n : Int) (F : List Int → Int) (pl : List Int) : List (List Int) := (List.range (n.toNat - 1)).map fun i => [dorP n F pl true ((i + 1 : Nat) : Int), dorP n F pl false ((i + 1 : Nat) : Int)]
end Bl
set_option Elab.async false
set_option linter.all false
set_option maxRecDepth 100000
set_option maxHeartbeats 8000000
namespace Bl
open PySem PySem.Spec PyProof.Rows L2
section
variable {X : Cx} {e : Expr} {st : Sta} {ow ow1 : List OB} {pos p : Pos} {ns : List Int} {k : Nat}
theorem pd_freezeT {gs : List (List Key × D)} (h : PD X st ow e (.own ow1.length) (ow1 ++ [.t gs])) (hl : ow.length = ow1.length := by rfl) (hb : KeepG ow ow1 := by first | exact ⟨fun _ h => h, fun _ h => h⟩ | (refine ⟨?_, ?_⟩ <;> (intro gs h; simp at h ⊢; assumption))) : PD X st ow e (.d (.dT gs)) ow1 :=
  PE.imp h fun σ H Q ⟨S, sl, o, k⟩ => ⟨S, sl, o, fun S1 v H1 f1 o1 d1 =>
    let z := owns_dropT f1 o o1 hl hb d1
    k S v H1 z.1 z.2.1 (.d z.2.2)⟩
theorem pd_sortedV (hm : X.mg "sorted" = none) (ha : PADd X st ow [e] [.lst (ns.map D.int)] ow1) (hl : ns.length < 64) (hg : Gl X "sorted" := by rfl) (he : starEach [e] X.env = [(false, eval e X.env)] := by rfl) : PD X st ow (.Call (.Name "sorted" p) [e] [] pos) (.d (lstVI (isort ns))) ow1 :=
  pd_callB cr_sorted (fun S H ow vs Q o h q => by
    obtain ⟨v, rfl, g⟩ := dens1 h
    obtain ⟨a, xs, rfl, h1, h2⟩ := g.of_lst
    have e1 := h2.ints
    subst e1
    refine ⟨a, ns, rfl, h1.sq, hl, fun ns' l hp hs hn => ?_⟩
    rw [isort_eq hp hs]
    exact q _ _ (Evl.Ex.new hn) (new_lstV o hn (Dens.of_ints _))) hm (by decide +kernel) ha hg (by decide) (by decide) he rfl
theorem owns_dropV {K : PySem.W.Frag} {S S' : List Addr} {H H' : Hp} {ow ow1 : List OB} {v : V} {l : List D} (f : Fwd S H S' H') (o : Owns K S H ow) (o' : Owns K S' H' (ow1 ++ [.l l])) (hl : ow.length = ow1.length) (hb : KeepG ow ow1) (h : DenR K S' H' v (.own ow1.length)) :
    Fwd S H S H' ∧ Owns K S H' ow1 ∧ Den K S H' v (.lstV l) := by
  obtain ⟨q, e, hnq, f1, o1, hsub, y, hq⟩ := drop_lastB f o o' hl hb
  refine ⟨f1, o1, ?_⟩
  cases h with
  | own h =>
    rw [hq] at h
    cases h
    cases y with
    | l y w => exact .lstV hnq y (w.less hsub)
theorem pd_freezeV {l : List D} (h : PD X st ow e (.own ow1.length) (ow1 ++ [.l l])) (hl : ow.length = ow1.length := by rfl) (hb : KeepG ow ow1 := by first | exact ⟨fun _ h => h, fun _ h => h⟩ | (refine ⟨?_, ?_⟩ <;> (intro gs h; simp at h ⊢; assumption))) : PD X st ow e (.d (.lstV l)) ow1 :=
  PE.imp h fun σ H Q ⟨S, sl, o, k⟩ => ⟨S, sl, o, fun S1 v H1 f1 o1 d1 => by
    obtain ⟨g1, g2, g3⟩ := owns_dropV f1 o o1 hl hb d1
    exact k S v H1 g1 g2 (.d g3)⟩
/-- a mutable list told as a live one -/
theorem pbd_frzRV {l : List D} {ss : List Stmt} (h : PBD X st ow ss (.ret (.own ow1.length) (ow1 ++ [.l l]))) (hl : ow.length = ow1.length) (hb : KeepG ow ow1 := by first | exact ⟨fun _ h => h, fun _ h => h⟩ | (refine ⟨?_, ?_⟩ <;> (intro gs h; simp at h ⊢; assumption))) : PBD X st ow ss (.ret (.d (.lstV l)) ow1) :=
  h.imp fun E σ H ⟨S, sl, o, k⟩ => ⟨S, sl, o, fun S1 v H1 f1 o1 d1 => by
    obtain ⟨g1, g2, g3⟩ := owns_dropV f1 o o1 hl hb d1
    exact k S v H1 g1 g2 (.d g3)⟩
end
theorem cns_len (n : Int) (F : List Int → Int) : (cns n F).length = (sub3 (rngZ n)).length := by unfold cns; rw [List.length_map]
theorem cns_rng {n : Int} {F : List Int → Int} (h : SgnF F) : ∀ v ∈ cns n F, -1 ≤ v ∧ v ≤ 1 := fun v hv => by
  obtain ⟨q, _, rfl⟩ := List.mem_map.mp hv
  exact h q
theorem noIow1 (a : List Int) : NoIow [.l (a.map D.int)] := fun l hl => by
  simp only [List.mem_cons, List.not_mem_nil, or_false] at hl
  subst hl
  exact noIs_ints a
/-! ### the law's places -/
def addP (s : List (List Int)) (ns : List Int) : List (List Int) := if ns ∈ s then s else s ++ [ns]
def plR (n : Int) (row : List Int) (s : List (List Int)) (j : Nat) : List (List Int) := addP s (isort (row.take j))
def placesZ (n : Int) (rows : List (List Int)) : List (List Int) := rows.foldl (fun s row => (List.range (n.toNat + 1)).foldl (plR n row) s) []
theorem addP_len (s : List (List Int)) (ns : List Int) : (addP s ns).length ≤ s.length + 1 := by
  unfold addP
  split
  · omega
  · rw [List.length_append]; exact Nat.le_refl _
section
variable {P : Program} {w : World} {K : PySem.W.Frag} {mg : Str → Option Value} {base : Heap} {f fG : Addr} {fd fdG : FuncData} {k : Nat} {C : Addr} {psG : List Str}
abbrev sLChart : Stmt := topS 53
theorem scLChart : FnScope ["_law_size_here", "_law_table_here"] ["_law_size_here", "_law_table_here"] (defScope sLChart) := ⟨rfl, rfl, rfl, by decide +kernel, rfl, by decide +kernel, by decide +kernel⟩
def gLChart (C : Addr) : GG := fun rs ow r ow' => ∃ (n : Int) (F : List Int → Int), rs = [.d (.int n), .d (.dT (tabI (tabF n F)))] ∧ 1 ≤ n ∧ n ≤ 7 ∧ SgnF F ∧ NoIow ow ∧ r = .d (chartD C n (cns n F)) ∧ ow' = ow
theorem ok_lchart (F0 : Fun K "_law_chart" "_law_chart" sLChart f fd) (M : Mk K C fG) (GI : FnOk P w K mg base CX0 k fG fdG psG (spI K C gInit)) (mC : mg "Chart" = some (.ref C)) (bI : Binds K fdG psG []) (Cg : Fg P w K mg base "_law_signs" (k + 1) ["_law_size_here", "_law_table_here"] gSigns) : FnOk P w K mg base CX0 (k + 2) f fd ["_law_size_here", "_law_table_here"] (spF K (gLChart C)) := by
  refine okF F0 scLChart (fun rs ow r ow' h => ?_) (fun cdv A outer s H E hr rs ow r ow' h => ?_)
  · obtain ⟨n, F, rfl, _⟩ := h
    rfl
  · obtain ⟨n, F, rfl, h1, h7, sF, hni, rfl, rfl⟩ := h
    exact pbd_last (psd_ret (pd_make M GI (hr.mono (Nat.le_refl _)) mC bI (pad_cons (pd_var 0) (pad_cons (pd_cg Cg hr (Nat.le_refl _) (padd_cons (pd_var 0) (padd_cons (pd_var 1) padd_nil)) ⟨n, F, rfl, by omega, h7, rfl, rfl⟩) pad_nil)) ⟨n, .d (.lst ((cns n F).map D.int)), cns n F, rfl, .inr ⟨false, rfl⟩, h1, by omega, cns_len n F, cns_rng sF, hni, rfl, rfl⟩))
def gLPlaces : GG := fun rs ow r ow' => ∃ (n : Int) (ts : List Trn), rs = [.d (.int n), .d (.lst (ts.map turnD))] ∧ 0 ≤ n ∧ n ≤ 7 ∧ ts.length ≤ 100 ∧ r = .d (.lstV (lst2 (placesZ n (rowsZ (rngZ n) ts)))) ∧ ow' = ow
abbrev plSt (n : Int) (ts : List Trn) (kk : Nat) (a b c : Option R) : Sta := [some (.d (.int n)), some (.d (.lst (ts.map turnD))), some (.own kk), a, b, c]
/-! ### _law_is_table -/
end
end Bl
set_option Elab.async false
set_option linter.all false
set_option maxRecDepth 100000
set_option maxHeartbeats 8000000
namespace Bl
open PySem PySem.Spec PyProof.Rows L2
/-! ### _law_read_back, _law_neighbours -/
def lnV (n : Int) (sd : Int) (g : Nat) : Int := if sd = 0 then (g : Int) else n - 1 - g
def lnF (n : Int) (sd : Int) (inD : Nat → Bool) (s : List Int) (g : Nat) : List Int := if inD g = true then s ++ [lnV n sd g] else s
def linesZ (n : Int) (sd : Int) (inD : Nat → Bool) : List Int := (List.range n.toNat).foldl (lnF n sd inD) []
section
variable {P : Program} {w : World} {K : PySem.W.Frag} {mg : Str → Option Value} {base : Heap} {f fG : Addr} {fd fdG : FuncData} {k : Nat} {C : Addr}
structure RdOk (n : Int) (j sd : Int) (tab : List (List Int)) (cnt : Nat → Int) (inD : Nat → Bool) : Prop where
  c0 : cnt 0 = 0
  cn : cnt n.toNat = j
  row : ∀ i, i < n.toNat - 1 → ∃ q, tab[i]? = some q ∧ atI (q.map D.int) sd = some (.int (min j ((i : Int) + 1) - cnt (i + 1)))
  step : ∀ g, g < n.toNat → cnt (g + 1) = cnt g + if inD g = true then 1 else 0
def b01 (b : Bool) : Int := if b then 1 else 0
def NbOk (n : Int) (m x : Int) (one other : List (List Int)) : Prop := ∀ i : Nat, i < n.toNat - 1 → ∃ a b c d : Int, one[i]? = some [a, b] ∧ other[i]? = some [c, d] ∧ c - a = b01 (decide (m < 1 + (i : Int))) - b01 (decide (x < 1 + (i : Int))) ∧ d - b = b01 (decide (m < 1 + (i : Int))) - b01 (decide (n - (1 + (i : Int)) ≤ x))
end
end Bl
set_option Elab.async false
set_option linter.all false
set_option maxRecDepth 100000
set_option maxHeartbeats 4000000
namespace Bl
open PySem PySem.Spec PyProof.Rows L2
open scoped List
/-! ### the places of a drawing, what they are -/
section
variable {n : Int} {ts : List Trn}
def IsPl (n : Int) (ts : List Trn) (pl : List Int) : Prop := ∃ t j, t ≤ ts.length ∧ j ≤ n.toNat ∧ pl = isort (topL n ts t j)
theorem fold_all {α β : Type} (Q : β → Prop) (ff : List β → α → List β) : ∀ (l : List α) (s : List β), (∀ s x, x ∈ l → (∀ y ∈ s, Q y) → ∀ y ∈ ff s x, Q y) → (∀ y ∈ s, Q y) → ∀ y ∈ l.foldl ff s, Q y
  | [], s, _, h => h
  | x :: l, s, hf, h => fold_all Q ff l _ (fun s y hy => hf s y (List.mem_cons_of_mem _ hy)) (hf s x List.mem_cons_self h)
theorem places_are {pl : List Int} (h : pl ∈ placesZ n (rowsZ (rngZ n) ts)) : IsPl n ts pl := by
  unfold placesZ at h
  refine fold_all (IsPl n ts) _ _ _ (fun s row hrow hs => ?_) (fun y hy => by cases hy) pl h
  obtain ⟨t, ht, rfl⟩ := List.mem_map.mp hrow
  refine fold_all (IsPl n ts) _ _ _ (fun s j hj hs y hy => ?_) hs
  unfold plR addP at hy
  split at hy
  · exact hs y hy
  · rcases List.mem_append.mp hy with hy | hy
    · exact hs y hy
    · rw [List.mem_singleton.mp hy]
      exact ⟨t, j, by have := List.mem_range.mp ht; omega, by have := List.mem_range.mp hj; omega, rfl⟩
theorem places_len (n : Int) (rows : List (List Int)) : (placesZ n rows).length ≤ rows.length * (n.toNat + 1) := by
  have h := lenL (fun s row => (List.range (n.toNat + 1)).foldl (plR n row) s) (n.toNat + 1) rows ([] : List (List Int)) fun s row _ => by
    have h := lenL (plR n row) 1 (List.range (n.toNat + 1)) s fun s x _ => addP_len s _
    rw [List.length_range] at h
    omega
  rw [List.length_nil] at h
  unfold placesZ
  omega
/-- what a place is -/
structure PlOk (n : Int) (ts : List Trn) (pl : List Int) (t j : Nat) : Prop where
  ht : t ≤ ts.length
  hj : (j : Int) ≤ n
  mem : ∀ x, x ∈ pl ↔ x ∈ topL n ts t j
  srt : pl.Pairwise (· ≤ ·)
  nd : pl.Nodup
  len : pl.length = j
theorem pl_ok {pl : List Int} (h0 : 0 ≤ n) (h : IsPl n ts pl) : ∃ t j, PlOk n ts pl t j := by
  obtain ⟨t, j, ht, hj, rfl⟩ := h
  have hn : (topL n ts t j).Nodup := (rowAt_nd n ts t).sublist (List.take_sublist _ _)
  refine ⟨t, j, ht, by omega, fun x => (isort_perm _).mem_iff, isort_pw _, (isort_perm _).nodup_iff.mpr hn, ?_⟩
  rw [(isort_perm _).length_eq]
  unfold topL
  rw [List.length_take, row_len]
  omega
variable {pl : List Int} {t j : Nat}
theorem PlOk.rng (h : PlOk n ts pl t j) {x : Int} (hx : x ∈ pl) : 0 ≤ x ∧ x < n := mem_row.mp (List.mem_of_mem_take ((h.mem x).mp hx))
theorem PlOk.same (h : PlOk n ts pl t j) : isort pl = pl := (isort_eq (.refl _) h.srt).symm
theorem PlOk.good (h : PlOk n ts pl t j) (h0 : 0 ≤ n) (h7 : n ≤ 7) (A : AscT n ts) (cv : CovT n ts) : wrongF n (sgT (timesZ (rngZ n) ts)) pl = none := by
  unfold wrongF
  rw [List.find?_eq_none]
  intro q hq
  obtain ⟨a, b, c, rfl, ha, hab, hbc, hc⟩ := sub3_form h0 h7 hq
  obtain ⟨n1, n2⟩ := no_wrong A cv ha hab hbc hc h.ht (j := j)
  rw [← h.mem, ← h.mem, ← h.mem] at n1 n2
  unfold wrongB
  show ¬ ((decide _ && (decide (a ∈ pl) && (decide (c ∈ pl) && !decide (b ∈ pl)))) || (decide _ && (decide (b ∈ pl) && (!decide (a ∈ pl) && !decide (c ∈ pl))))) = true
  simp only [Bool.or_eq_true, Bool.and_eq_true, Bool.not_eq_true', decide_eq_true_eq, decide_eq_false_iff_not]
  rintro (z | z)
  · exact n1 z
  · exact n2 ⟨z.1, z.2.1, z.2.2.1, z.2.2.2⟩
theorem PlOk.doors (h : PlOk n ts pl t j) (A : AscT n ts) (cv : CovT n ts) (tw : TwoT n ts) {g : Nat} (hg : (g : Int) ≤ n) :
    dorP n (sgT (timesZ (rngZ n) ts)) pl true g = min (j : Int) g - cntL pl g ∧ dorP n (sgT (timesZ (rngZ n) ts)) pl false g = min (j : Int) g - cntR n pl g := doors_are A cv tw h.mem h.ht h.hj hg
theorem PlOk.all (h : PlOk n ts pl t j) : tal pl (rngZ n) = j := by
  unfold tal
  rw [List.countP_eq_length_filter, ← h.len]
  refine List.Perm.length_eq ((List.perm_ext_iff_of_nodup ((rngZ_nd n).filter _) h.nd).mpr fun x => ?_)
  rw [List.mem_filter, decide_eq_true_eq]
  exact ⟨fun z => z.2, fun z => ⟨mem_rngZ' (h.rng z).1 (h.rng z).2, z⟩⟩
theorem tab_get (F : List Int → Int) (pl : List Int) {i : Nat} (hi : i < n.toNat - 1) : (tabZ n F pl)[i]? = some [dorP n F pl true ((i + 1 : Nat) : Int), dorP n F pl false ((i + 1 : Nat) : Int)] := by
  unfold tabZ
  rw [List.getElem?_map, List.getElem?_range hi]
  rfl
theorem PlOk.left (h : PlOk n ts pl t j) (h1 : 1 ≤ n) (A : AscT n ts) (cv : CovT n ts) (tw : TwoT n ts) : RdOk n j 0 (tabZ n (sgT (timesZ (rngZ n) ts)) pl) (fun g => (cntL pl g : Int)) (fun g => decide ((g : Int) ∈ pl)) where
  c0 := rfl
  cn := by
    show ((tal pl (rngZ (n.toNat : Int)) : Nat) : Int) = j
    rw [show (n.toNat : Int) = n by omega, h.all]
  row := fun i hi => ⟨_, tab_get _ _ hi, by
    rw [(h.doors A cv tw (g := i + 1) (by omega)).1]
    show some (D.int _) = some (D.int _)
    rfl⟩
  step := fun g hg => by
    show ((cntL pl (g + 1) : Nat) : Int) = _
    rw [cntL_succ]
    by_cases hm : (g : Int) ∈ pl
    · rw [if_pos hm, if_pos (decide_eq_true hm)]
      omega
    · rw [if_neg hm, if_neg (by rw [decide_eq_false hm]; decide)]
      omega
theorem lines_eq (n sd : Int) (inD : Nat → Bool) : linesZ n sd inD = ((List.range n.toNat).filter inD).map (lnV n sd) := by
  unfold linesZ
  have key : ∀ (l : List Nat) (s : List Int), l.foldl (lnF n sd inD) s = s ++ (l.filter inD).map (lnV n sd) := by
    intro l
    induction l with
    | nil => intro s; simp
    | cons a l ih =>
      intro s
      rw [List.foldl_cons, ih, List.filter_cons]
      unfold lnF
      by_cases h : inD a = true
      · rw [if_pos h, if_pos h, List.map_cons, List.append_assoc]
        rfl
      · rw [if_neg h, if_neg h]
  rw [key]
  rfl
theorem PlOk.lines (h : PlOk n ts pl t j) {sd : Int} {inD : Nat → Bool} (hs : ∀ g : Nat, g < n.toNat → (inD g = true ↔ lnV n sd g ∈ pl)) (hsd : sd = 0 ∨ sd = 1) : isort (linesZ n sd inD) = pl := by
  rw [lines_eq]
  refine (isort_eq ?_ h.srt).symm
  have inj : ∀ a ∈ (List.range n.toNat).filter inD, ∀ b ∈ (List.range n.toNat).filter inD, lnV n sd a = lnV n sd b → a = b := fun a _ b _ e => by
    unfold lnV at e
    rcases hsd with rfl | rfl
    · rw [if_pos rfl, if_pos rfl] at e
      omega
    · rw [if_neg (by decide), if_neg (by decide)] at e
      omega
  refine (List.perm_ext_iff_of_nodup h.nd (nodup_map (List.nodup_range.filter _) inj)).mpr fun x => ?_
  rw [List.mem_map]
  constructor
  · intro hx
    obtain ⟨x0, xn⟩ := h.rng hx
    rcases hsd with rfl | rfl
    · have e : lnV n 0 x.toNat = x := by unfold lnV; rw [if_pos rfl]; omega
      exact ⟨x.toNat, List.mem_filter.mpr ⟨List.mem_range.mpr (by omega), (hs _ (by omega)).mpr (by rw [e]; exact hx)⟩, e⟩
    · have e : lnV n 1 (n - 1 - x).toNat = x := by unfold lnV; rw [if_neg (by decide)]; omega
      exact ⟨(n - 1 - x).toNat, List.mem_filter.mpr ⟨List.mem_range.mpr (by omega), (hs _ (by omega)).mpr (by rw [e]; exact hx)⟩, e⟩
  · rintro ⟨g, hg, rfl⟩
    obtain ⟨h1, h2⟩ := List.mem_filter.mp hg
    exact (hs g (List.mem_range.mp h1)).mp h2
theorem PlOk.next (h : PlOk n ts pl t j) (h1 : 1 ≤ n) (A : AscT n ts) (cv : CovT n ts) (tw : TwoT n ts) {x : Int} (hx0 : 0 ≤ x) (hxn : x < n) (hx : x ∉ pl) (h2 : IsPl n ts (isort (pl ++ [x]))) : NbOk n pl.length x (tabZ n (sgT (timesZ (rngZ n) ts)) pl) (tabZ n (sgT (timesZ (rngZ n) ts)) (isort (pl ++ [x]))) := by
  obtain ⟨t', j', h'⟩ := pl_ok (by omega) h2
  have hl : j' = j + 1 := by
    rw [← h'.len, ← h.len, (isort_perm _).length_eq, List.length_append]
    rfl
  have hm : ∀ y, y ∈ isort (pl ++ [x]) ↔ y ∈ pl ∨ y = x := fun y => by
    rw [(isort_perm _).mem_iff, List.mem_append, List.mem_singleton]
  intro i hi
  have d1 := h.doors A cv tw (g := i + 1) (by omega)
  have d2 := h'.doors A cv tw (g := i + 1) (by omega)
  refine ⟨_, _, _, _, tab_get _ _ hi, tab_get _ _ hi, ?_, ?_⟩
  · rw [d1.1, d2.1, cntL_more hm hx hx0, hl, h.len]
    unfold b01
    simp only [decide_eq_true_eq]
    split <;> split <;> split <;> omega
  · rw [d1.2, d2.2, cntR_more hm hx hx0 hxn (by omega), hl, h.len]
    unfold b01
    simp only [decide_eq_true_eq]
    split <;> split <;> split <;> omega
end
end Bl
set_option Elab.async false
set_option linter.all false
set_option maxRecDepth 100000
set_option maxHeartbeats 4000000
namespace Bl
open PySem PySem.Spec PyProof.Rows L2
open scoped List
/-! ### doors of both edges together -/
/-! ### the fan: all lines in one knot -/
def fanT (n : Int) : List Trn := [((0 : Nat), n.toNat)]
theorem fan_ok {n : Int} (h2 : 2 ≤ n) (h7 : n ≤ 7) : AscT n (fanT n) ∧ CovT n (fanT n) ∧ TwoT n (fanT n) := by
  obtain ⟨_, _, c, _⟩ := fans_asc (show 1 ≤ n by omega) h7
  obtain ⟨_, _, c2, _⟩ := fans_two (show 1 ≤ n by omega) h7
  obtain ⟨_, _, c3, _⟩ := fans_ok (show 1 ≤ n by omega) h7
  exact ⟨ascT_of c, covT_of c3, twoT_of (c2 (by omega))⟩
end Bl
set_option Elab.async false
set_option linter.all false
set_option maxRecDepth 100000
set_option maxHeartbeats 8000000
set_option Elab.async false
set_option linter.all false
set_option maxRecDepth 100000
set_option maxHeartbeats 8000000
set_option Elab.async false
set_option linter.all false
set_option maxRecDepth 100000
set_option maxHeartbeats 8000000
namespace Bl
open PySem PySem.Spec PyProof.Rows L2
section
variable {X : Cx} {e : Expr} {st : Sta} {ow ow1 : List OB} {pos p : Pos} {ns : List Int}
theorem pd_sum (hc : X.calm = true) (hm : X.mg "sum" = none) (ha : PADd X st ow [e] [.lst (ns.map D.int)] ow1) (hg : Gl X "sum" := by rfl) (he : starEach [e] X.env = [(false, eval e X.env)] := by rfl) : PD X st ow (.Call (.Name "sum" p) [e] [] pos) (.d (.int ns.sum)) ow1 :=
  pd_callB (cr_sum hc) (fun S H ow vs Q o h q => by
    obtain ⟨v, rfl, g⟩ := dens1 h
    obtain ⟨a, xs, rfl, h1, h2⟩ := g.of_lst
    have e1 := Dens.ints h2
    subst e1
    exact ⟨a, ns, rfl, h1.sq, q _ _ (Evl.Ex.refl H) (.int _)⟩) hm (by decide +kernel) ha hg (by decide) (by decide) he rfl
end
/-! ### right_doors -/
end Bl
set_option Elab.async false
set_option linter.all false
set_option maxRecDepth 100000
set_option maxHeartbeats 8000000
set_option Elab.async false
set_option linter.all false
set_option maxRecDepth 100000
set_option maxHeartbeats 8000000
set_option Elab.async false
set_option linter.all false
set_option maxRecDepth 100000
set_option maxHeartbeats 8000000
namespace Bl
open PySem PySem.Spec PyProof.Rows L2
open scoped List
/-! ### simple charts: the knots are the pairs -/
theorem sum_zero {α : Type} : ∀ (l : List α), (l.map fun _ => (0 : Int)).sum = 0
  | [] => rfl
  | x :: l => by rw [List.map_cons, List.sum_cons, sum_zero l]; rfl
/-! ### the doors of a pair -/
/-! ### turns of two lines -/
theorem mFold_2 {n p : Int} {row : List Int} : ∀ (l : List Int) (s : MS_), s.m = 2 → s.room = 2 → (l.foldl (mStep n p row) s).m = 2
  | [], s, h, _ => h
  | a :: l, s, h, h2 => by
    have e : mStep n p row s a = s := by
      unfold mStep
      exact if_neg (fun z => by omega)
    rw [List.foldl_cons, e]
    exact mFold_2 l s h h2
def TwE (ts : List Trn) : Prop := ∀ t ∈ ts, t.2 = 2
theorem tFold_2 {n : Int} : ∀ (l : List Int) (s : TS_), TwE s.ts → TwE (l.foldl (tStep n 2) s).ts
  | [], s, h => h
  | a :: l, s, h => by
    rw [List.foldl_cons]
    refine tFold_2 l _ ?_
    unfold tStep
    split
    · exact h
    · intro t ht
      rcases List.mem_append.mp ht with ht | ht
      · exact h t ht
      · rw [List.mem_singleton.mp ht]
        show (upM n 2 s).m.toNat = 2
        unfold upM
        rw [mFold_2 _ _ rfl rfl]
        rfl
theorem turns_w2 (n : Int) (ps : List Int) : TwE (turnsZ n 2 ps).ts := tFold_2 _ _ fun t ht => by cases ht
end Bl
set_option Elab.async false
set_option linter.all false
set_option maxRecDepth 100000
set_option maxHeartbeats 4000000
namespace Bl
open PySem PySem.Spec PyProof.Rows L2
/-! ### own exceptions: raised, let out, caught -/
abbrev GX := List R → List OB → D → List OB → Prop
abbrev xdF (fld : Str) (v : V) : HO := .xd [(fld, v)]
/-- an own exception class of one field -/
structure XN where
  cls : Addr
  fld : Str
def tRzG (K : PySem.W.Frag) (n : XN) (W : WX) (st : Sta) (ow : List OB) (d : D) (st' : Sta) (ow' : List OB) : TS := fun _ σ H => ∃ S, Slots K S H σ st ∧ Owns K S H ow ∧ ∀ S' σ' u H' dd, Fwd S H S' H' → Slots K S' H' σ' st' → Owns K S' H' ow' → Den K S' H' u d → H' dd = none → W (.ref n.cls) (some dd) σ' (upd H' dd (xdF n.fld u))
def tXG (K : PySem.W.Frag) (n : XN) (W : WX) (st : Sta) (ow : List OB) (d : D) (ow' : List OB) : TE := fun σ H _ => ∃ S, Slots K S H σ st ∧ Owns K S H ow ∧ ∀ S' u H' dd, Fwd S H S' H' → Owns K S' H' ow' → Den K S' H' u d → H' dd = none → W (.ref n.cls) (some dd) σ (upd H' dd (xdF n.fld u))
abbrev PXE (X : Cx) (n : XN) (W : WX) (st : Sta) (ow : List OB) (e : Expr) (d : D) (ow' : List OB) : Prop := PE X e (tXG X.K n W st ow d ow')
abbrev PXS (X : Cx) (n : XN) (W : WX) (st : Sta) (ow : List OB) (s : Stmt) (d : D) (st' : Sta) (ow' : List OB) : Prop := PS X s (tRzG X.K n W st ow d st' ow')
abbrev PXB (X : Cx) (n : XN) (W : WX) (st : Sta) (ow : List OB) (ss : List Stmt) (d : D) (st' : Sta) (ow' : List OB) : Prop := PSs X ss (tRzG X.K n W st ow d st' ow')
def spR (K : PySem.W.Frag) (n : XN) (g : GX) : Sp := fun vs H _ E => ∃ S rs ow d ow', DenRs K S H vs rs ∧ Owns K S H ow ∧ g rs ow d ow' ∧ ∀ S' u H' dd, Fwd S H S' H' → Owns K S' H' ow' → Den K S' H' u d → H' dd = none → E (.ref n.cls) (some dd) (upd H' dd (xdF n.fld u))
theorem okR {P : Program} {w : World} {K : PySem.W.Frag} {mg : Str → Option Value} {base : Heap} {xn qual : Str} {sst : Stmt} {f : Addr} {fd : FuncData} {N ps : List Str} {k : Nat} {n : XN} {g : GX} (F : Fun K xn qual sst f fd) (SC : FnScope N ps (defScope sst)) (len : ∀ rs ow d ow', g rs ow d ow' → rs.length = ps.length)
    (hbody : ∀ (cdv : Value) (A : Around) (outer : List Env) (s : Shared) (H : Hp) (E : XK), Room k (A.deeper (envOfC qual (defScope sst) s.heap.objs.size f cdv)) → ∀ rs ow d ow', g rs ow d ow' →
      ∃ st', PXB (cxOf (L2.CX P w) P w K mg base N qual (defScope sst) f cdv A outer s H E) n (fun cls d _ H => E cls d H) (startD N rs) ow (defBody sst) d st' ow') : FnOk P w K mg base (L2.CX P w) (k + 1) f fd ps (spR K n g) := by
  refine F.okX SC (fun vs H Q E h => ?_) (fun cdv A outer s H vs Q E hr h => ?_)
  · obtain ⟨S, rs, ow, d, ow', h1, _, h3, _⟩ := h
    rw [h1.length, len _ _ _ _ h3]
  · obtain ⟨S, rs, ow, d, ow', h1, h2, h3, q⟩ := h
    obtain ⟨st', hb⟩ := hbody cdv A outer s H E hr rs ow d ow' h3
    exact ⟨_, hb, S, start_slots h1, h2, fun S' σ' u H' dd f1 _ o dn hn => q S' u H' dd f1 o dn hn⟩
def FgX (P : Program) (w : World) (K : PySem.W.Frag) (mg : Str → Option Value) (base : Heap) (xn : Str) (k : Nat) (ps : List Str) (n : XN) (g : GX) : Prop :=
  ∃ f fd, FnOk P w K mg base (L2.CX P w) k f fd ps (spR K n g) ∧ mg xn = some (.ref f) ∧ PySem.W.keepIn K (.ref f) = true ∧ Binds K fd ps []
def MtX (P : Program) (w : World) (K : PySem.W.Frag) (mg : Str → Option Value) (base : Heap) (C : Addr) (mn : Str) (k : Nat) (ps : List Str) (n : XN) (g : GX) : Prop :=
  ∃ f fd, FnOk P w K mg base (L2.CX P w) k f fd ps (spR K n g) ∧ Meth K C mn f ∧ Binds K fd ps []
theorem FgX.up {P : Program} {w : World} {K : PySem.W.Frag} {mg : Str → Option Value} {base : Heap} {xn : Str} {j k : Nat} {ps : List Str} {n : XN} {g : GX} (F : FgX P w K mg base xn j ps n g) (h : j ≤ k) : FgX P w K mg base xn k ps n g := by
  obtain ⟨f, fd, a, b, c, d⟩ := F
  exact ⟨f, fd, a.mono h, b, c, d⟩
theorem MtX.up {P : Program} {w : World} {K : PySem.W.Frag} {mg : Str → Option Value} {base : Heap} {C : Addr} {xn : Str} {j k : Nat} {ps : List Str} {n : XN} {g : GX} (F : MtX P w K mg base C xn j ps n g) (h : j ≤ k) : MtX P w K mg base C xn k ps n g := by
  obtain ⟨f, fd, a, b, c⟩ := F
  exact ⟨f, fd, a.mono h, b, c⟩
section
variable {X : Cx} {n : XN} {W : WX} {e c o : Expr} {es : List Expr} {st st1 st2 st' : Sta} {ow ow1 ow2 ow3 : List OB} {rs : List R} {d : D} {k j : Nat} {ps : List Str} {g : GX} {xn mn : Str} {p pos apos : Pos} {tb eb rest : List Stmt} {s : Stmt} {bl : Bool}
theorem pxe_call (F : FgX X.prog X.w X.K X.mg X.base xn k ps n g) (hr : Room j X.A) (hj : k ≤ j) (tk : Takes X W) (ha : PAD X st ow (e :: es) rs ow1) (hgg : g rs ow1 d ow2) (hg : Gl X xn := by rfl) (hdb : (xn == ("__debug__" : Str)) = false := by decide)
    (he : starEach (e :: es) X.env = (false, eval e X.env) :: starEach es X.env := by rfl) (hpl : (backTo pos (starEach es X.env)).any (·.1) = false := by rfl) : PXE X n W st ow (.Call (.Name xn p) (e :: es) [] pos) d ow2 := by
  obtain ⟨f, fd, h1, hm, hk, hbd⟩ := F
  exact (pe_callS h1 (hr.mono hj) hg hm hk hbd (fun σ => passAt tk σ) ha hdb he hpl).imp fun σ H Q ⟨S, sl, o, q⟩ => ⟨S, sl, o, fun S1 vs H1 f1 o1 d1 => ⟨S1, rs, ow1, d, ow2, d1, o1, hgg, fun S' u H' dd f2 o2 dn hn => q S' u H' dd (f1.trans o1 f2) o2 dn hn⟩⟩
theorem pxs_expr (h : PXE X n W st ow e d ow1) (hs : swapsWith e none pos.line X.env = pure false := by rfl) : PXS X n W st ow (.Expr e pos) d st ow1 := (ps_expr h hs).imp fun D σ H ⟨S, sl, o, q⟩ => ⟨S, sl, o, fun S' u H' dd f o' dn hn => q S' σ u H' dd f (f.slots sl) o' dn hn⟩
theorem pxs_ret (h : PXE X n W st ow e d ow1) : PXS X n W st ow (.Return (some e) pos) d st ow1 := (ps_ret h).imp fun D σ H ⟨S, sl, o, q⟩ => ⟨S, sl, o, fun S' u H' dd f o' dn hn => q S' σ u H' dd f (f.slots sl) o' dn hn⟩
theorem pxs_set {x : Str} {pos' : Pos} (i : Nat) (hN : X.N.Nodup) (h : PXE X n W st ow e d ow1) (hi : X.N[i]? = some x := by rfl) (hx : Loc X.env.scope x := by first | exact Or.inl rfl | exact Or.inr rfl) (hs : swapsWith e (some (.Name x pos')) pos.line X.env = pure false := by rfl)
    (hf : X.fn x = true ∨ X.env.scope.names.lookup x = some .local := by first | exact .inl rfl | exact .inr rfl | assumption) : PXS X n W st ow (.Assign [.Name x pos'] e pos) d st ow1 := (ps_set hN hi hx h hs hf).imp fun D σ H ⟨S, sl, o, q⟩ => ⟨S, sl, o, fun S' u H' dd f o' dn hn => q S' σ u H' dd f (f.slots sl) o' dn hn⟩
def tMkG (n : XN) (ta : TA) : L2.St → Hp → XK → Prop := fun σ H Q => ta σ H fun vs H1 => ∃ v, vs = [v] ∧ ∀ d, H1 d = none → Q (.ref n.cls) (some d) (upd H1 d (xdF n.fld v))
theorem pxs_raise (hc : X.calm = true) (tk : Takes X W) (hmk : PMk X e (tMkG n (tDA X.K st ow [.d d] ow1))) : PXS X n W st ow (.Raise (some e) none pos) d st ow1 :=
  (ps_raise hc tk hmk).imp fun D σ H ⟨S, sl, o, q⟩ => ⟨S, sl, o, fun S1 vs H1 f1 o1 d1 => by
    cases d1 with
    | cons h t =>
      cases t
      cases h with
      | d h => exact ⟨_, rfl, fun dd hd => q S1 σ _ H1 dd f1 (f1.slots sl) o1 h hd⟩⟩
theorem psx_cons (h1 : PSD X st ow s (.nx st1 ow1)) (h : PXB X n W st1 ow1 rest d st' ow2) : PXB X n W st ow (s :: rest) d st' ow2 :=
  (pss_cons h1 h).imp fun _ σ H ⟨S, sl, o, q⟩ => ⟨S, sl, o, fun S1 σ1 H1 f1 sl1 o1 => ⟨S1, sl1, o1, fun S2 σ2 v H2 dd f2 sl2 o2 d2 hd => q S2 σ2 v H2 dd (f1.trans o1 f2) sl2 o2 d2 hd⟩⟩
theorem psx_last (h : PXS X n W st ow s d st' ow2) : PXB X n W st ow (s :: rest) d st' ow2 :=
  (pss_cons h never_ss).imp fun _ σ H ⟨S, sl, o, q⟩ => ⟨S, sl, o, q⟩
theorem pxs_ifT (hc : PTD X st ow c bl ow1) (hb : bl = true) (h : PXB X n W st ow1 tb d st' ow2) : PXS X n W st ow (.If c tb eb pos) d st' ow2 := by
  subst hb
  exact (ps_if hc h never_ss).imp fun _ σ H ⟨S, sl, o, q⟩ => ⟨S, sl, o, fun S1 H1 f1 o1 => iteT ⟨S1, f1.slots sl, o1, fun S2 σ2 v H2 dd f2 sl2 o2 d2 hd => q S2 σ2 v H2 dd (f1.trans o1 f2) sl2 o2 d2 hd⟩⟩
theorem psx_skip (hc : PTD X st ow c bl ow1) (hb : bl = false) (h : PXB X n W st ow1 rest d st' ow2) : PXB X n W st ow (.If c tb [] pos :: rest) d st' ow2 := by
  subst hb
  exact psx_cons (psd_if (out := .nx st ow1) hc (fun z => nomatch z) (fun _ => pbd_nil)) h
/-! a for that lets an exception out of its turn m -/
def fXS (K : PySem.W.Frag) (n : XN) (W : WX) (stm : Nat → Sta) (Io : Nat → List OB) (oo : Nat → Out) (xs : List D) (m : Nat) (d : D) (st' : Sta) (ow' : List OB) : TS := fun E σ H => ∃ i : FIx xs (some m), (if i.1.1 = m then tRzG K n W (stm m) (Io m) d st' ow' else tDS K (stm i.1.1) (Io i.1.1) (oo i.1.1)) E σ H
theorem pxs_for {tg iter : Expr} {body : List Stmt} {xs : List D} {dd : D} (vs : List Nat) (Iv : Nat → Sta) (Io : Nat → List OB) (m : Nat) (stm : Nat → Sta) (oo : Nat → Out) (hp : PassesOwn (model X.prog X.w) X.A X.env X.xe) (hc : X.calm = true) (hi : PID X st ow tg iter xs ow1)
    (h0 : st.length = (Iv 0).length ∧ ∀ (i : Nat) r, (Iv 0)[i]? = some (some r) → st[i]? = some (some r)) (h0o : Io 0 = ow1)
    (hg : ∀ i d, xs[i]? = some d → i ≤ m → PGD X vs (Iv i) d tg (stm i))
    (hb : ∀ i d, xs[i]? = some d → i < m → PBD X (stm i) (Io i) body (oo i)) (hbm : ∀ d, xs[m]? = some d → PXB X n W (stm m) (Io m) body dd st' ow2)
    (ho : ∀ i, i < m → Onw Iv Io i (oo i)) (hm : m < xs.length)
    (hs : ∀ x, foldedSetIterable iter X.env x = pure x := by intro _; rfl) : PXS X n W st ow (.For tg iter body [] pos) dd st' ow2 := by
  have hbody : ∀ i : FIx xs (some m), PSs X body (if i.1.1 = m then tRzG X.K n W (stm m) (Io m) dd st' ow2 else tDS X.K (stm i.1.1) (Io i.1.1) (oo i.1.1)) := fun i => by
    by_cases h : i.1.1 = m
    · rw [if_pos h]
      exact hbm i.1.2 (by have z := i.2.1; rwa [h] at z)
    · rw [if_neg h]
      exact hb i.1.1 i.1.2 i.2.1 (by have := i.2.2 m rfl; omega)
  refine (ps_for (g := fTG X.K vs Iv stm xs (some m)) (tb := fXS X.K n W stm Io oo xs m dd st' ow2) hp hc hi (pg_ex (ι := FIx xs (some m)) fun i => hg i.1.1 i.1.2 i.2.1 (i.2.2 m rfl)) (pss_ex (ι := FIx xs (some m)) hbody) hs).imp fun E σ H ⟨S, sl, o, q⟩ => ?_
  refine ⟨S, sl, o, fun S1 H1 J f1 o1 w1 => ?_⟩
  refine for_it (D := E) (g := fTG X.K vs Iv stm xs (some m)) (tb := fXS X.K n W stm Io oo xs m dd st' ow2) w1 (fun i σ' H' => i ≤ m ∧ ∃ S', Fwd S1 H1 S' H' ∧ Slots X.K S' H' σ' (Iv i) ∧ Owns X.K S' H' (Io i)) ⟨Nat.zero_le m, S1, .refl S1 H1, (f1.slots sl).weak h0.1 h0.2, by rw [h0o]; exact o1⟩ (fun i σ' H' hi ⟨_, S', f', _, o'⟩ => ⟨S', _, f', o'⟩) (fun i x σ' H' H2 hi ⟨hle, S', f', sl', o'⟩ ⟨ex, y⟩ => ?_) (fun σ' H' ⟨hle, _⟩ => ?_)
  · obtain ⟨d, hd, den⟩ := y S' _ f' o'
    have hle' : ∀ k, some m = some k → i ≤ k := fun k hk => by cases hk; exact hle
    have f2 : Fwd S1 H1 S' H2 := f'.trans o' (.of ex)
    refine ⟨⟨(i, d), hd, hle'⟩, S', (Fwd.of ex).slots sl', den, fun σ2 sl2 _ => ⟨⟨(i, d), hd, hle'⟩, ?_⟩⟩
    show (if i = m then tRzG X.K n W (stm m) (Io m) dd st' ow2 else tDS X.K (stm i) (Io i) (oo i)) _ σ2 H2
    by_cases he : i = m
    · rw [if_pos he]
      subst he
      exact ⟨S', sl2, o'.ex ex, fun S3 σ3 u H3 dd f3 sl3 o3 dn hn => q S3 σ3 u H3 dd (f1.trans o1 (f2.trans (o'.ex ex) f3)) sl3 o3 dn hn⟩
    · rw [if_neg he]
      have hlt : i < m := by omega
      refine ⟨S', sl2, o'.ex ex, ?_⟩
      rcases ho i hlt with z | z
      · show Goes X.K S' H2 _ (oo i)
        rw [z]
        exact fun S3 σ3 H3 f3 sl3 o3 => ⟨hlt, S3, f2.trans (o'.ex ex) f3, sl3, o3⟩
      · show Goes X.K S' H2 _ (oo i)
        rw [z]
        exact fun S3 σ3 H3 f3 sl3 o3 => ⟨hlt, S3, f2.trans (o'.ex ex) f3, sl3, o3⟩
  · omega
end
/-! ### try with clauses, of which one is met -/
def wHit (cls : Value) (i : Nat) (ts : Addr → Value → Option Addr → TS) (D : Ends) : WX := fun c d σ H =>
  c = cls ∧ ∀ a, H a = none → ts a c d { nx := fun σ' H' => D.nx (σ'.set i none) H', rt := D.rt, bk := fun σ' H' => D.bk (σ'.set i none) H', ct := fun σ' H' => D.ct (σ'.set i none) H' } (σ.set i (some (.ref a))) H
inductive Hdl (X : Cx) (cls : Value) (nm : Str) (ts : Addr → Value → Option Addr → TS) : List ExceptHandler → Prop
  | hit {x : Str} {c : Value} {b0 : Stmt} {suite : List Stmt} {np pos' : Pos} {more : List ExceptHandler} (hc : Names X x c) (hm : PySem.W.exmOne X.K cls c = some true)
      (hsu : ∀ (a : Addr) (oe : Obj) (d : Option Addr) (pn : List (Addr × Obj)), Zc cls d oe → (∃ vs, oe.data = .fields vs) → PSs (X.suite a ((a, oe) :: pn)) (b0 :: suite) (ts a cls d)) : Hdl X cls nm ts (.ExceptHandler (some (.Name x np)) (some nm) (b0 :: suite) pos' :: more)
  | miss {x : Str} {c : Value} {on : Option Str} {b0 : Stmt} {suite : List Stmt} {np pos' : Pos} {more : List ExceptHandler} (hc : Names X x c) (hm : PySem.W.exmOne X.K cls c = some false) (r : Hdl X cls nm ts more) : Hdl X cls nm ts (.ExceptHandler (some (.Name x np)) on (b0 :: suite) pos' :: more)
section
variable {X : Cx} {nm : Str} {cls : Value} {i : Nat} {body : List Stmt} {h0 : ExceptHandler} {hds : List ExceptHandler} {pos : Pos} {tb : WX → TS} {ts : Addr → Value → Option Addr → TS}
theorem ps_try_hit (hs : X.stack = X.env :: X.outer) (hf : X.env.frame = some X.env.locals) (hN : X.N.Nodup) (hi : X.N[i]? = some nm) (hln : X.env.kindOf nm = some .local)
    (hb : ∀ (W : WX) (pn : List (Addr × Obj)) (xe : Value → Shared → Prop), Takes (X.tr pn xe) W → PassesOwn (model X.prog X.w) X.A X.env xe → PSs (X.tr pn xe) body (tb W))
    (hh : Hdl X cls nm ts (h0 :: hds)) : PS X (.Try body (h0 :: hds) [] [] pos) (fun D σ H => tb (wHit cls i ts D) D σ H) := by
  refine ⟨fun pins s σ H D I hgo => ?_⟩
  have ok := I.ok
  have frames : X.A.frames = some (X.env :: X.outer) := by rw [ok.frames, hs]
  refine wpAny_Try_except ?_
  refine wpAny_mono ((hb (wHit cls i ts D) (X.pn ++ pins) (fun e s1 => wpAny (model X.prog X.w) X.A (noteFrame e X.env) (fun _ s2 => wpAny (model X.prog X.w) X.A (setFlight e none) (fun _ s3 =>
    wpAny (model X.prog X.w) X.A (handleBy e X.env (h0 :: hds)) (SP X pins D) X.xe s3) X.xe s2) X.xe s1) (fun u s' out => ?_) PassesOwn.looking).run [] s σ H D (I.toTry _) hgo) (fun f s1 q => ?_) (fun _ _ z => z)
  · obtain ⟨a, B, sI, pins', σ', H', cls', d, rfl, J', nb, up, sky, na, os, ag, rfl, hyes⟩ := out
    have J : Inv X pins σ' H' sI := J'.ofTry ok
    have sky1 : Sky B (X.env :: X.outer) a (Zc cls' d) X.env.locals s'.heap := by rw [← hs]; exact sky
    show wpAny (model X.prog X.w) X.A (noteFrame (.ref a) X.env) _ _ _
    refine Sky.land Zc.steady frames hf sky1 fun h3 fl3 up3 => ?_
    have J3 : Inv X pins σ' H' { s' with heap := h3 } := J.landed nb fl3.1 (up.trans up3) os ag
    obtain ⟨oe3, vs3, he3, hz3, hd3⟩ := fl3.there
    have out : a ∉ frs (X.env :: X.outer) := fun hmem => by
      obtain ⟨_, o', e', hnf⟩ := fl3.2.2.1.mem hmem
      rw [he3] at e'
      cases e'
      exact hnf _ hd3
    have nL : a ≠ X.env.locals := fun z => out (List.mem_filterMap.mpr ⟨X.env, List.mem_cons_self, by rw [hf, z]⟩)
    have nF : a ∉ X.fs := fun hmem => by
      obtain ⟨e, he, q⟩ := List.mem_filterMap.mp hmem
      exact out (List.mem_filterMap.mpr ⟨e, List.mem_cons_of_mem _ he, q⟩)
    have S3 := J3.suite he3 hd3 na nL nF
    have LT : PySem.W.Looks (model X.prog X.w) h3 (typeOf (.ref a)) cls' := fun A Q E s k q => wpAny_typeOf_ref (k _ _ he3) (by rw [hz3.1]; exact q)
    have named : ∀ {x : Str} {c : Value} {np : Pos} {Q : Value → Shared → Prop} {E : Value → Shared → Prop}, Names X x c → Q c { s' with heap := h3 } → wpAny (model X.prog X.w) (X.A.mark (some (.ref a))) (eval (.Name x np) X.env) Q E { s' with heap := h3 } := fun {x c np Q E} hc q => by
      obtain ⟨hg, hdbg, hm | ⟨hm, hv, hnn⟩⟩ := hc
      · exact ld_glob (X := X.suite a ((a, oe3) :: (X.pn ++ pins))) S3 hg hm q hdbg
      · exact ld_blt (X := X.suite a ((a, oe3) :: (X.pn ++ pins))) S3 hg hm hv q hnn hdbg
    have go : ∀ {l : List ExceptHandler}, Hdl X cls' nm ts l → wpAny (model X.prog X.w) X.A (handleBy (.ref a) X.env l) (SP X pins D) X.xe { s' with heap := h3 } := by
      intro l hl
      induction hl with
      | @hit x c b0 suite np pos' more hc hm hsu =>
        refine wpAny_handleBy_cons (codeAny_handlers_test ?_) (fun q => nomatch q)
        have LM := PySem.W.exm_one (M := model X.prog X.w) (J3.kIn) LT hm
        refine named hc (LM.here (codeAny_handlers_suite_as (HandSPX.lands_againZ fl3 fun h4 fl4 up4 => ?_)))
        have J4 : Inv X pins σ' H' { s' with heap := h4 } := J.landed nb fl4.1 ((up.trans up3).trans up4) os ag
        obtain ⟨oe4, vs4, he4, hz4, hd4⟩ := fl4.there
        have S4 := J4.suite he4 hd4 na nL nF
        refine store_ok (X := X.suite a ((a, oe4) :: (X.pn ++ pins))) (v := .ref a) S4 hN hi (.inl hln) rfl (fun s5 S5 => ?_) (.inr hln)
        refine wpAny_mono ((hsu a oe4 d (X.pn ++ pins) hz4 ⟨_, hd4⟩).run [] s5 _ H' _ S5 (hyes a na)) (fun f s6 q => ?_) (fun _ _ z => False.elim z)
        have close : ∀ {σ6 : L2.St} {H6 : Hp} {Q : Shared → Prop}, Inv (X.suite a ((a, oe4) :: (X.pn ++ pins))) [] σ6 H6 s6 → (∀ s7, Inv X pins (σ6.set i none) H6 s7 → Q s7) →
            wpAny (model X.prog X.w) X.A (do bindName X.env nm .none; unbindBehindTheSuite X.env nm pos') (fun _ s7 => Q s7) X.xe s6 := fun S6 hq => gone_ok (S6.unsuite ok) hN hi hln hq
        cases f with
        | next => obtain ⟨σ6, H6, S6, q6⟩ := q; exact close S6 fun s7 J7 => ⟨_, _, J7, q6⟩
        | brk => obtain ⟨σ6, H6, S6, q6⟩ := q; exact close S6 fun s7 J7 => ⟨_, _, J7, q6⟩
        | cont => obtain ⟨σ6, H6, S6, q6⟩ := q; exact close S6 fun s7 J7 => ⟨_, _, J7, q6⟩
        | ret u => obtain ⟨v6, σ6, H6, S6, r6, q6⟩ := q; exact close S6 fun s7 J7 => ⟨_, _, _, J7, r6, q6⟩
      | @miss x c on b0 suite np pos' more hc hm r ih =>
        refine wpAny_handleBy_cons (codeAny_handlers_test ?_) (fun q => nomatch q)
        have LM := PySem.W.exm_one (M := model X.prog X.w) (J3.kIn) LT hm
        refine named hc (LM.here ?_)
        show wpAny _ X.A (handleBy (.ref a) X.env more) _ _ _
        exact ih
    exact go hh
  · cases f with
    | next => obtain ⟨σ', H', J', q⟩ := q; exact wpAny_execs_nil ⟨σ', H', J'.ofTry ok, q⟩
    | brk => obtain ⟨σ', H', J', q⟩ := q; exact ⟨σ', H', J'.ofTry ok, q⟩
    | cont => obtain ⟨σ', H', J', q⟩ := q; exact ⟨σ', H', J'.ofTry ok, q⟩
    | ret u => obtain ⟨v, σ', H', J', r, q⟩ := q; exact ⟨v, σ', H', J'.ofTry ok, r, q⟩
end
end Bl
set_option Elab.async false
set_option linter.all false
set_option maxRecDepth 100000
set_option maxHeartbeats 4000000
namespace PySem
namespace Xq
open PySem.W PySem.Calls PyProof.Rows PySem.HandSPX Builtin Builtin.ObjectAttr
abbrev tailE : List Value := [.type "Exception", .type "BaseException", .type "object"]
section
variable {prog : Program} {w : World} {A : Around} {R : Result → Shared → Prop} {K : Frag}
/-- the first store into an exception just made: its own dict comes to be -/
theorem xq_store {s : Shared} {name : Str} {tk : Tok} {v : Value} {x C : Addr} {fv : Array Value} {cd : ClassData} (X : K.In s.heap) (hx : s.heap.get? x = some { cls := .ref C, data := .fields fv }) (hp : excOver K C tailE = true) (hcd : clsIn K C = some cd) (hh : cd.hasDict = true) (ht : takerIn K C name = some none)
    (hq : ∀ h' tk' dx, (∀ b o, b ≠ x → s.heap.get? b = some o → h'.get? b = some o) → s.heap.objs.size ≤ dx → dx ≠ x → h'.get? x = some { cls := .ref C, dict := some dx, data := .fields fv } → h'.Ns1 dx (fun y => if y = name then some v else none) → R (.ok (.ret .none)) { s with heap := h', toks := tk' }) :
    codeAny (model prog w) A (.call (.builtin "object.__setattr__") ⟨[.ref x, .str name tk, v], []⟩) R s := by
  refine osa_openX (od := none) F.store_Exception X ⟨hx, rfl, rfl, trivial⟩ hp ht fun b => ?_
  obtain ⟨hp0, g, d, t, os⟩ := s
  have hne : x ≠ hp0.objs.size := Nat.ne_of_lt (Heap.lt_size hx)
  have hcls : Looks (model prog w) hp0 (classData C) cd := looks_clsIn X hcd
  obtain ⟨nm, bs, mro, ns, qn, hd, sn, sb, ab, col, del⟩ := cd
  dsimp only at hh
  subst hh
  show wpAny _ _ (storeInOwnDict (.ref x) (.ref C) (.str name tk) name v b) _ _ _
  unfold storeInOwnDict ownDictForStores
  repeat (first | with_reducible refine store_in_new ?_ ?_ | with_reducible refine wpAny_loadPart_at hx ?_ | with_reducible refine hcls.at ?_ | wp_step)
  · exact ⟨_, #[], _, (Heap.get?_update_ne _ _ _ _ hne.symm).trans (Heap.get?_push_at rfl rfl), rfl, fun e he => absurd he (by simp), fun _ => rfl⟩
  · intro h' tk' hn' hs
    have h1 : (hp0.push { cls := .type "dict", data := .dict #[] }).get? x = some { cls := .ref C, data := .fields fv } := Heap.get?_push_of_some _ hx
    refine hq h' tk' hp0.objs.size (fun b o hb ho => (hs.2 b (Nat.ne_of_lt (Heap.lt_size ho))).trans ((Heap.get?_update_ne _ _ _ _ hb).trans (Heap.get?_push_of_some _ ho))) (Nat.le_refl _) hne.symm ((hs.2 x hne).trans (Heap.get?_update_self _ h1 rfl)) hn'
end
end Xq
end PySem
set_option Elab.async false
set_option linter.all false
set_option maxRecDepth 100000
set_option maxHeartbeats 4000000
namespace PySem
namespace Xq
open PySem.W PySem.Calls PyProof.Rows PySem.HandSPX Builtin Builtin.ObjectAttr
end Xq
end PySem
namespace PySem
namespace Xq
open PySem.W PySem.Calls PyProof.Rows PySem.HandSPX Builtin Builtin.ObjectAttr
abbrev sBKB : Stmt := L2.inClass (Bl.topS 6) 0
/-- BadKind: an own exception class over Exception (by way of BentError) whose __init__ stores its one argument: what is found of it in the written part -/
structure BTxt (K : Frag) (C fI : Addr) : Prop where
  ini : excInitIn K C tailE "Exception.__new__" = true
  ovr : excOver K C tailE = true
  hd : hasDictIn K C = true
  sa : findIn K (.ref C) "__setattr__" = some (some (.builtin "object.__setattr__"))
  ga : findIn K (.ref C) "__getattribute__" = some (some (.builtin "BaseException.__getattribute__"))
  gg : findIn K (.ref C) "__getattr__" = some none
  no : findIn K (.ref C) "word" = some none
  iC : findIn K (.ref C) "__init__" = some (some (.ref fI))
  tI : typeIn K (.ref fI) = some (.type "function")
  kC : keepIn K (.ref C) = true
  exC : subIn K (.ref C) (.type "BaseException") = some true
  tyC : typeIn K (.ref C) = some (.type "type")
  te : exmOne K (.ref C) (.ref C) = some true
  fn : ∃ (oc : Value) (od : Option Addr) (kV doc pm : Value) (an : Option Addr) (cdv ct : Value) (osl : Array (Option Value)),
    K.lookup fI = some ⟨oc, od, .func (fnOf "__init__" "BadKind.__init__" (L2.defArgs sBKB) (L2.defBody sBKB) (L2.defScope sBKB) .none kV doc pm an cdv ct), osl⟩ ∧ codeIn K cdv "BadKind.__init__" = true
theorem bk_bodyB : ∃ q1 q2 q3 q4 : Pos, L2.defBody sBKB = [.Assign [.Attribute (.Name "self" q1) "word" q2] (.Name "word" q3) q4] := ⟨_, _, _, _, rfl⟩
section
variable {prog : Program} {w : World} {A : Around} {E : Value → Shared → Prop} {R : Result → Shared → Prop} {s : Shared} {K : Frag} {C fI : Addr}
/-- what stands behind the making -/
structure XMadeB (h h' : Heap) (C e d : Addr) (v : Value) : Prop where
  keep : ∀ b o, h.get? b = some o → h'.get? b = some o
  le : h.objs.size ≤ e
  obj : ∃ t, h'.get? e = some { cls := .ref C, dict := some d, data := .fields #[.ref t, .none, .none, .none, .bool false, .none] }
  ld : h.objs.size ≤ d
  ne : d ≠ e
  ns : h'.Ns1 d (fun y => if y = "word" then some v else none)
theorem x_loadB {scope : Scope} {name : Str} {L a : Addr} {cd : Value} {m : Str → Option Value} {x : Str} {pos : Pos} {v : Value} {Q : Value → Shared → Prop} {M : Model} (hn : s.heap.Ns L m) (hv : m x = some v) (hk : scope.kind = .function) (hl : (envOfC name scope L a cd).kindOf x = some .local) (hd : (x == ("__debug__" : Str)) = false) (h : Q v s) :
    wpAny M A (eval (.Name x pos) (envOfC name scope L a cd)) Q E s := wpAny_Name (wpAny_loadName_local hk hl hn hv h) hd
theorem x_initB (T : BTxt K C fI) {x t0 : Addr} {v : Value} (X : K.In s.heap) (hl : s.heap.NoLimit) (hx : s.heap.get? x = some (PX.excO C t0)) (hr : A.depth < recursionLimit)
    (hq : ∀ h' tk dx, (∀ b o, b ≠ x → s.heap.get? b = some o → h'.get? b = some o) → s.heap.objs.size ≤ dx → dx ≠ x → h'.get? x = some { cls := .ref C, dict := some dx, data := .fields #[.ref t0, .none, .none, .none, .bool false, .none] } → h'.Ns1 dx (fun y => if y = "word" then some v else none) → R (.ok (.ret .none)) { s with heap := h', toks := tk }) :
    codeAny (model prog w) A (.call (.ref fI) ⟨[.ref x, v], []⟩) R s := by
  obtain ⟨oc, od, kV, doc, pm, an, cdv, ct, osl, ho, hcd⟩ := T.fn
  obtain ⟨cd, hcl, hdc⟩ := any_some T.hd
  obtain ⟨q1, q2, q3, q4, hb⟩ := bk_bodyB
  refine Att.call_fn (binds := [("self", .ref x), ("word", v)]) X hl ho hcd hr (BindsTo.of_eq rfl) rfl (fun s1 IC => ?_) rfl rfl rfl
  obtain ⟨h1, tk1, rfl⟩ := IC.toInCall.same
  have k := IC.toInCall.keep
  have hn := IC.toInCall.ns
  have X1 : K.In h1 := X.keeps k
  have hx1 : h1.get? x = some (PX.excO C t0) := k _ _ hx
  have hsz : s.heap.objs.size < h1.objs.size := hn.lt
  rw [hb]
  refine wpAny_execs_cons (plainObj_wpAny_Assign_Attribute ?_)
  refine x_loadB (v := v) hn (by first | rfl | kernel_rfl) rfl rfl (by decide) ?_
  refine x_loadB (v := .ref x) hn (by first | rfl | kernel_rfl) rfl rfl (by decide) ?_
  refine set_plain X1 (ox := PX.excO C t0) (od := none) ⟨hx1, rfl, rfl, trivial⟩ T.sa ?_
  refine xq_store X1 hx1 T.ovr hcl hdc (L2.NoAttr.taker T.no) fun h3 tk3 dx k3 dn dne hx3 hn3 => ?_
  exact wpAny_execs_nil (hq h3 tk3 dx (fun b o hb e => k3 b o hb (k b o e)) (Nat.le_of_lt (Nat.lt_of_lt_of_le hsz dn)) dne hx3 hn3)
theorem x_madeB (T : BTxt K C fI) {v : Value} (X : K.In s.heap) (hl : s.heap.NoLimit) (hr : A.depth + 1 < recursionLimit) (hq : ∀ h' tk e d, XMadeB s.heap h' C e d v → R (.ok (.ret (.ref e))) { s with heap := h', toks := tk }) :
    codeAny (model prog w) A (.call (.ref C) ⟨[v], []⟩) R s := by
  obtain ⟨nm, N, qn, bs, bm, hdct, sn, sub, ab, col, dd, k0, k1, k2, k3, k5, hC, hT⟩ := excInit_of X T.ini
  obtain ⟨oc, od, kV, doc, pm, an, cdv, ct, osl, ho, hcd⟩ := T.fn
  obtain ⟨hp, g, dr, tk, os⟩ := s
  have k : ∀ b o, hp.get? b = some o → ((hp.push (kdv_tup [v])).push (PX.excO C hp.objs.size)).get? b = some o := fun b o e => Heap.get?_push_of_some _ (Heap.get?_push_of_some _ e)
  have hz : (hp.push (kdv_tup [v])).objs.size = hp.objs.size + 1 := Heap.size_push ..
  have hget : ((hp.push (kdv_tup [v])).push (PX.excO C hp.objs.size)).get? (hp.objs.size + 1) = some (PX.excO C hp.objs.size) := by
    have := Heap.get?_push_size (hp.push (kdv_tup [v])) (o := PX.excO C hp.objs.size) rfl
    rwa [hz] at this
  refine PX.call_own F.excBase_Exception hT hC (looks_findIn X T.iC) (fun self => bind_fn X self T.tI) (by show 1 ≤ sizeLine; rw [sizeLine_eq]; decide) ?_
  refine x_initB (s := ⟨(hp.push (kdv_tup [v])).push (PX.excO C hp.objs.size), g, dr, tk, os⟩) T (X.keeps k) (hl.keeps k) hget (by show A.depth + 1 < recursionLimit; exact hr) fun h' tk' dx k' dn dne hx hns => ?_
  have z2 : ((hp.push (kdv_tup [v])).push (PX.excO C hp.objs.size)).objs.size = hp.objs.size + 2 := by rw [Heap.size_push, hz]
  have dn' : hp.objs.size + 2 ≤ dx := by
    have q : ((hp.push (kdv_tup [v])).push (PX.excO C hp.objs.size)).objs.size ≤ dx := dn
    rwa [z2] at q
  exact ⟨rfl, hq h' tk' (hp.objs.size + 1) dx ⟨fun b o e => k' b o (Nat.ne_of_lt (Nat.lt_succ_of_lt (Heap.lt_size e))) (k b o e), Nat.le_succ _, ⟨_, hx⟩, Nat.le_trans (Nat.le_add_right _ 2) dn', dne, hns⟩⟩
end
end Xq
end PySem
namespace Bl
open PySem PySem.Spec PyProof.Rows L2 PySem.Xq
section
variable {X : Cx} {C fI : Addr}
abbrev wDB (v : V) : HO := .xd [(("word" : Str), v)]
theorem rel_wordB {v : V} {u : Value} (r : RelV v u) (f : Str) : RelO (List.lookup f [(("word" : Str), v)]) (if f = "word" then some u else none) := by
  rw [List.lookup_cons]
  by_cases h : f = "word"
  · rw [if_pos h, show (f == ("word" : Str)) = true by simpa using h]
    exact r
  · rw [if_neg h, show (f == ("word" : Str)) = false by simpa using h]
    trivial
/-- BadKind(e) -/
def tMkXB (C : Addr) (ta : TA) : L2.St → Hp → XK → Prop := fun σ H Q => ta σ H fun vs H1 => ∃ v, vs = [v] ∧ ∀ d, H1 d = none → Q (.ref C) (some d) (upd H1 d (wDB v))
theorem pmk_xB {a : Expr} {ta : TA} {p pos : Pos} {k : Nat} (T : BTxt X.K C fI) (gC : X.mg "BadKind" = some (.ref C)) (hr : Room k X.A) (ha : PA X [a] ta) (hg : Gl X "BadKind" := by rfl) (he : starEach [a] X.env = (false, eval a X.env) :: starEach [] X.env := by rfl) (hpl : (backTo pos (starEach [] X.env)).any (·.1) = false := by rfl) :
    PMk X (.Call (.Name "BadKind" p) [a] [] pos) (tMkXB C ta) := by
  intro pins s σ H Q I h
  refine wpAny_Call_Name_kw (ld_glob I hg gC ?_)
  refine PySem.W.callWith_K (h₀ := X.base) I.ok.mod.kin T.kC (thn (ha.run pos pins s σ H _ I h) fun us s1 ⟨vs, H1, I1, r1, v, ev, q1⟩ => ⟨I1.kIn, ?_⟩) he hpl
  subst ev
  obtain ⟨u, rfl, rv⟩ := vals1 r1
  have hlim := I1.nolimit
  obtain ⟨hp, g, dr, tk, os⟩ := s1
  show wpAny _ _ (call (.ref C) [u]) _ _ _
  refine wpAny_call (x_madeB T I1.kIn hlim (by have := hr.dp; omega) fun h' tk' e d M => ?_)
  obtain ⟨kp, le, ⟨t, hoe⟩, ld, ne, ns⟩ := M
  obtain ⟨G', g1, g2⟩ := restrict h' fun b => decide (b ≠ e)
  have same : ∀ b, b ≠ e → G'.get? b = h'.get? b := fun b hb => g1 b (decide_eq_true hb)
  have gone : G'.get? e = none := g2 e (by simp)
  have old : ∀ b o, hp.get? b = some o → G'.get? b = some o := fun b o q => (same b (Nat.ne_of_lt (Nat.lt_of_lt_of_le (Heap.lt_size q) le))).trans (kp b o q)
  have ob : ObjOk X.prog X.w (upd H1 d (wDB v)) G' d (wDB v) := ⟨_, ns.at (fun o q => (same d ne).trans q), fun f => rel_wordB rv f⟩
  have J : Inv X pins σ (upd H1 d (wDB v)) ⟨G', g, dr, tk', os⟩ := I1.laid (t' := tk') old ld ob
  refine ⟨e, _, _, ⟨G', g, dr, tk', os⟩, _, .ref C, some d, rfl, J, fun b o q => ?_, gone, hoe, ⟨rfl, rfl⟩, rfl, rfl, ?_, rfl, I1.bare, raises_own T.exC T.tyC, q1 d (I1.hok.fresh ld)⟩
  · have hbe : b ≠ e := fun z => by
      have q' : G'.get? b = some o := q
      rw [z, gone] at q'
      cases q'
    exact (same b hbe).symm.trans q
  · rw [upd_ne (Ne.symm ne)]
    exact I1.hok.fresh le
/-- error.word, error the exception in hand -/
def tWordB (C : Addr) (a : Addr) (cls : Value) (d : Option Addr) (te : TE) : TE := fun σ H Q => te σ H fun x H1 => x = .ref a ∧ cls = .ref C ∧ ∃ (dd : Addr) (v : V), d = some dd ∧ H1 dd = some (wDB v) ∧ Q v H1
theorem pe_fldB {a : Addr} {oe : Obj} {cls : Value} {d : Option Addr} {pn : List (Addr × Obj)} {e : Expr} {te : TE} {pos : Pos} (T : BTxt X.K C fI) (hz : Zc cls d oe) (hf : ∃ vs, oe.data = .fields vs) (he : PE (X.suite a ((a, oe) :: pn)) e te) (hb : attributeBase e "word" X.env (eval e X.env) = eval e X.env := by rfl) :
    PE (X.suite a ((a, oe) :: pn)) (.Attribute e "word" pos) (tWordB C a cls d te) := by
  refine ⟨fun pins s σ H Q I h => attr_of hb (thn (he.run pins s σ H _ I h) fun u s1 ⟨x, H1, I1, rx, ex, ec, dd, v, ed, ea, q⟩ => ?_)⟩
  subst ex ec ed
  cases (show u = Value.ref a from rx)
  obtain ⟨ha, _⟩ := I1.pin (a, oe) (List.mem_append_left _ List.mem_cons_self)
  obtain ⟨vs, hd⟩ := hf
  obtain ⟨mA, hns, hr⟩ := (show ObjOk X.prog X.w H1 s1.heap dd (wDB v) from I1.hok dd _ ea)
  obtain ⟨od, ho, hl⟩ := lookIn_ns hns
  obtain ⟨u, hu, ru⟩ := RelO.some_of (v := v) (o := mA "word") (hr "word")
  have J : PySem.W.InstAt s1.heap a oe C (some od) := ⟨ha, hz.1, by unfold PySem.W.notCls; rw [hd], by rw [hz.2]; exact ho⟩
  exact HandSPX.exc_get I1.kIn J T.ga T.gg T.exC (PySem.W.findObj_own T.hd T.no rfl (by rw [hl, hu])) (handed_of ru) ⟨v, H1, I1.tok _, ru, q⟩
end
abbrev nB (CB : Addr) : XN := ⟨CB, "word"⟩
end Bl
namespace PySem
namespace Xq
open PySem.W PySem.Calls PyProof.Rows PySem.HandSPX Builtin Builtin.ObjectAttr
abbrev sBKL : Stmt := L2.inClass (Bl.topS 5) 0
/-- BadLine: an own exception class over Exception (by way of BentError) whose __init__ stores its one argument: what is found of it in the written part -/
structure LTxt (K : Frag) (C fI : Addr) : Prop where
  ini : excInitIn K C tailE "Exception.__new__" = true
  ovr : excOver K C tailE = true
  hd : hasDictIn K C = true
  sa : findIn K (.ref C) "__setattr__" = some (some (.builtin "object.__setattr__"))
  ga : findIn K (.ref C) "__getattribute__" = some (some (.builtin "BaseException.__getattribute__"))
  gg : findIn K (.ref C) "__getattr__" = some none
  no : findIn K (.ref C) "line" = some none
  iC : findIn K (.ref C) "__init__" = some (some (.ref fI))
  tI : typeIn K (.ref fI) = some (.type "function")
  kC : keepIn K (.ref C) = true
  exC : subIn K (.ref C) (.type "BaseException") = some true
  tyC : typeIn K (.ref C) = some (.type "type")
  te : exmOne K (.ref C) (.ref C) = some true
  fn : ∃ (oc : Value) (od : Option Addr) (kV doc pm : Value) (an : Option Addr) (cdv ct : Value) (osl : Array (Option Value)),
    K.lookup fI = some ⟨oc, od, .func (fnOf "__init__" "BadLine.__init__" (L2.defArgs sBKL) (L2.defBody sBKL) (L2.defScope sBKL) .none kV doc pm an cdv ct), osl⟩ ∧ codeIn K cdv "BadLine.__init__" = true
theorem bk_bodyL : ∃ q1 q2 q3 q4 : Pos, L2.defBody sBKL = [.Assign [.Attribute (.Name "self" q1) "line" q2] (.Name "line" q3) q4] := ⟨_, _, _, _, rfl⟩
section
variable {prog : Program} {w : World} {A : Around} {E : Value → Shared → Prop} {R : Result → Shared → Prop} {s : Shared} {K : Frag} {C fI : Addr}
/-- what stands behind the making -/
structure XMadeL (h h' : Heap) (C e d : Addr) (v : Value) : Prop where
  keep : ∀ b o, h.get? b = some o → h'.get? b = some o
  le : h.objs.size ≤ e
  obj : ∃ t, h'.get? e = some { cls := .ref C, dict := some d, data := .fields #[.ref t, .none, .none, .none, .bool false, .none] }
  ld : h.objs.size ≤ d
  ne : d ≠ e
  ns : h'.Ns1 d (fun y => if y = "line" then some v else none)
theorem x_loadL {scope : Scope} {name : Str} {L a : Addr} {cd : Value} {m : Str → Option Value} {x : Str} {pos : Pos} {v : Value} {Q : Value → Shared → Prop} {M : Model} (hn : s.heap.Ns L m) (hv : m x = some v) (hk : scope.kind = .function) (hl : (envOfC name scope L a cd).kindOf x = some .local) (hd : (x == ("__debug__" : Str)) = false) (h : Q v s) :
    wpAny M A (eval (.Name x pos) (envOfC name scope L a cd)) Q E s := wpAny_Name (wpAny_loadName_local hk hl hn hv h) hd
theorem x_initL (T : LTxt K C fI) {x t0 : Addr} {v : Value} (X : K.In s.heap) (hl : s.heap.NoLimit) (hx : s.heap.get? x = some (PX.excO C t0)) (hr : A.depth < recursionLimit)
    (hq : ∀ h' tk dx, (∀ b o, b ≠ x → s.heap.get? b = some o → h'.get? b = some o) → s.heap.objs.size ≤ dx → dx ≠ x → h'.get? x = some { cls := .ref C, dict := some dx, data := .fields #[.ref t0, .none, .none, .none, .bool false, .none] } → h'.Ns1 dx (fun y => if y = "line" then some v else none) → R (.ok (.ret .none)) { s with heap := h', toks := tk }) :
    codeAny (model prog w) A (.call (.ref fI) ⟨[.ref x, v], []⟩) R s := by
  obtain ⟨oc, od, kV, doc, pm, an, cdv, ct, osl, ho, hcd⟩ := T.fn
  obtain ⟨cd, hcl, hdc⟩ := any_some T.hd
  obtain ⟨q1, q2, q3, q4, hb⟩ := bk_bodyL
  refine Att.call_fn (binds := [("self", .ref x), ("line", v)]) X hl ho hcd hr (BindsTo.of_eq rfl) rfl (fun s1 IC => ?_) rfl rfl rfl
  obtain ⟨h1, tk1, rfl⟩ := IC.toInCall.same
  have k := IC.toInCall.keep
  have hn := IC.toInCall.ns
  have X1 : K.In h1 := X.keeps k
  have hx1 : h1.get? x = some (PX.excO C t0) := k _ _ hx
  have hsz : s.heap.objs.size < h1.objs.size := hn.lt
  rw [hb]
  refine wpAny_execs_cons (plainObj_wpAny_Assign_Attribute ?_)
  refine x_loadL (v := v) hn (by first | rfl | kernel_rfl) rfl rfl (by decide) ?_
  refine x_loadL (v := .ref x) hn (by first | rfl | kernel_rfl) rfl rfl (by decide) ?_
  refine set_plain X1 (ox := PX.excO C t0) (od := none) ⟨hx1, rfl, rfl, trivial⟩ T.sa ?_
  refine xq_store X1 hx1 T.ovr hcl hdc (L2.NoAttr.taker T.no) fun h3 tk3 dx k3 dn dne hx3 hn3 => ?_
  exact wpAny_execs_nil (hq h3 tk3 dx (fun b o hb e => k3 b o hb (k b o e)) (Nat.le_of_lt (Nat.lt_of_lt_of_le hsz dn)) dne hx3 hn3)
theorem x_madeL (T : LTxt K C fI) {v : Value} (X : K.In s.heap) (hl : s.heap.NoLimit) (hr : A.depth + 1 < recursionLimit) (hq : ∀ h' tk e d, XMadeL s.heap h' C e d v → R (.ok (.ret (.ref e))) { s with heap := h', toks := tk }) :
    codeAny (model prog w) A (.call (.ref C) ⟨[v], []⟩) R s := by
  obtain ⟨nm, N, qn, bs, bm, hdct, sn, sub, ab, col, dd, k0, k1, k2, k3, k5, hC, hT⟩ := excInit_of X T.ini
  obtain ⟨oc, od, kV, doc, pm, an, cdv, ct, osl, ho, hcd⟩ := T.fn
  obtain ⟨hp, g, dr, tk, os⟩ := s
  have k : ∀ b o, hp.get? b = some o → ((hp.push (kdv_tup [v])).push (PX.excO C hp.objs.size)).get? b = some o := fun b o e => Heap.get?_push_of_some _ (Heap.get?_push_of_some _ e)
  have hz : (hp.push (kdv_tup [v])).objs.size = hp.objs.size + 1 := Heap.size_push ..
  have hget : ((hp.push (kdv_tup [v])).push (PX.excO C hp.objs.size)).get? (hp.objs.size + 1) = some (PX.excO C hp.objs.size) := by
    have := Heap.get?_push_size (hp.push (kdv_tup [v])) (o := PX.excO C hp.objs.size) rfl
    rwa [hz] at this
  refine PX.call_own F.excBase_Exception hT hC (looks_findIn X T.iC) (fun self => bind_fn X self T.tI) (by show 1 ≤ sizeLine; rw [sizeLine_eq]; decide) ?_
  refine x_initL (s := ⟨(hp.push (kdv_tup [v])).push (PX.excO C hp.objs.size), g, dr, tk, os⟩) T (X.keeps k) (hl.keeps k) hget (by show A.depth + 1 < recursionLimit; exact hr) fun h' tk' dx k' dn dne hx hns => ?_
  have z2 : ((hp.push (kdv_tup [v])).push (PX.excO C hp.objs.size)).objs.size = hp.objs.size + 2 := by rw [Heap.size_push, hz]
  have dn' : hp.objs.size + 2 ≤ dx := by
    have q : ((hp.push (kdv_tup [v])).push (PX.excO C hp.objs.size)).objs.size ≤ dx := dn
    rwa [z2] at q
  exact ⟨rfl, hq h' tk' (hp.objs.size + 1) dx ⟨fun b o e => k' b o (Nat.ne_of_lt (Nat.lt_succ_of_lt (Heap.lt_size e))) (k b o e), Nat.le_succ _, ⟨_, hx⟩, Nat.le_trans (Nat.le_add_right _ 2) dn', dne, hns⟩⟩
end
end Xq
end PySem
namespace Bl
open PySem PySem.Spec PyProof.Rows L2 PySem.Xq
section
variable {X : Cx} {C fI : Addr}
abbrev wDL (v : V) : HO := .xd [(("line" : Str), v)]
theorem rel_wordL {v : V} {u : Value} (r : RelV v u) (f : Str) : RelO (List.lookup f [(("line" : Str), v)]) (if f = "line" then some u else none) := by
  rw [List.lookup_cons]
  by_cases h : f = "line"
  · rw [if_pos h, show (f == ("line" : Str)) = true by simpa using h]
    exact r
  · rw [if_neg h, show (f == ("line" : Str)) = false by simpa using h]
    trivial
/-- BadLine(e) -/
def tMkXL (C : Addr) (ta : TA) : L2.St → Hp → XK → Prop := fun σ H Q => ta σ H fun vs H1 => ∃ v, vs = [v] ∧ ∀ d, H1 d = none → Q (.ref C) (some d) (upd H1 d (wDL v))
theorem pmk_xL {a : Expr} {ta : TA} {p pos : Pos} {k : Nat} (T : LTxt X.K C fI) (gC : X.mg "BadLine" = some (.ref C)) (hr : Room k X.A) (ha : PA X [a] ta) (hg : Gl X "BadLine" := by rfl) (he : starEach [a] X.env = (false, eval a X.env) :: starEach [] X.env := by rfl) (hpl : (backTo pos (starEach [] X.env)).any (·.1) = false := by rfl) :
    PMk X (.Call (.Name "BadLine" p) [a] [] pos) (tMkXL C ta) := by
  intro pins s σ H Q I h
  refine wpAny_Call_Name_kw (ld_glob I hg gC ?_)
  refine PySem.W.callWith_K (h₀ := X.base) I.ok.mod.kin T.kC (thn (ha.run pos pins s σ H _ I h) fun us s1 ⟨vs, H1, I1, r1, v, ev, q1⟩ => ⟨I1.kIn, ?_⟩) he hpl
  subst ev
  obtain ⟨u, rfl, rv⟩ := vals1 r1
  have hlim := I1.nolimit
  obtain ⟨hp, g, dr, tk, os⟩ := s1
  show wpAny _ _ (call (.ref C) [u]) _ _ _
  refine wpAny_call (x_madeL T I1.kIn hlim (by have := hr.dp; omega) fun h' tk' e d M => ?_)
  obtain ⟨kp, le, ⟨t, hoe⟩, ld, ne, ns⟩ := M
  obtain ⟨G', g1, g2⟩ := restrict h' fun b => decide (b ≠ e)
  have same : ∀ b, b ≠ e → G'.get? b = h'.get? b := fun b hb => g1 b (decide_eq_true hb)
  have gone : G'.get? e = none := g2 e (by simp)
  have old : ∀ b o, hp.get? b = some o → G'.get? b = some o := fun b o q => (same b (Nat.ne_of_lt (Nat.lt_of_lt_of_le (Heap.lt_size q) le))).trans (kp b o q)
  have ob : ObjOk X.prog X.w (upd H1 d (wDL v)) G' d (wDL v) := ⟨_, ns.at (fun o q => (same d ne).trans q), fun f => rel_wordL rv f⟩
  have J : Inv X pins σ (upd H1 d (wDL v)) ⟨G', g, dr, tk', os⟩ := I1.laid (t' := tk') old ld ob
  refine ⟨e, _, _, ⟨G', g, dr, tk', os⟩, _, .ref C, some d, rfl, J, fun b o q => ?_, gone, hoe, ⟨rfl, rfl⟩, rfl, rfl, ?_, rfl, I1.bare, raises_own T.exC T.tyC, q1 d (I1.hok.fresh ld)⟩
  · have hbe : b ≠ e := fun z => by
      have q' : G'.get? b = some o := q
      rw [z, gone] at q'
      cases q'
    exact (same b hbe).symm.trans q
  · rw [upd_ne (Ne.symm ne)]
    exact I1.hok.fresh le
/-- error.word, error the exception in hand -/
def tWordL (C : Addr) (a : Addr) (cls : Value) (d : Option Addr) (te : TE) : TE := fun σ H Q => te σ H fun x H1 => x = .ref a ∧ cls = .ref C ∧ ∃ (dd : Addr) (v : V), d = some dd ∧ H1 dd = some (wDL v) ∧ Q v H1
theorem pe_fldL {a : Addr} {oe : Obj} {cls : Value} {d : Option Addr} {pn : List (Addr × Obj)} {e : Expr} {te : TE} {pos : Pos} (T : LTxt X.K C fI) (hz : Zc cls d oe) (hf : ∃ vs, oe.data = .fields vs) (he : PE (X.suite a ((a, oe) :: pn)) e te) (hb : attributeBase e "line" X.env (eval e X.env) = eval e X.env := by rfl) :
    PE (X.suite a ((a, oe) :: pn)) (.Attribute e "line" pos) (tWordL C a cls d te) := by
  refine ⟨fun pins s σ H Q I h => attr_of hb (thn (he.run pins s σ H _ I h) fun u s1 ⟨x, H1, I1, rx, ex, ec, dd, v, ed, ea, q⟩ => ?_)⟩
  subst ex ec ed
  cases (show u = Value.ref a from rx)
  obtain ⟨ha, _⟩ := I1.pin (a, oe) (List.mem_append_left _ List.mem_cons_self)
  obtain ⟨vs, hd⟩ := hf
  obtain ⟨mA, hns, hr⟩ := (show ObjOk X.prog X.w H1 s1.heap dd (wDL v) from I1.hok dd _ ea)
  obtain ⟨od, ho, hl⟩ := lookIn_ns hns
  obtain ⟨u, hu, ru⟩ := RelO.some_of (v := v) (o := mA "line") (hr "line")
  have J : PySem.W.InstAt s1.heap a oe C (some od) := ⟨ha, hz.1, by unfold PySem.W.notCls; rw [hd], by rw [hz.2]; exact ho⟩
  exact HandSPX.exc_get I1.kIn J T.ga T.gg T.exC (PySem.W.findObj_own T.hd T.no rfl (by rw [hl, hu])) (handed_of ru) ⟨v, H1, I1.tok _, ru, q⟩
end
abbrev nL (CB : Addr) : XN := ⟨CB, "line"⟩
end Bl
set_option Elab.async false
set_option linter.all false
set_option maxRecDepth 100000
set_option maxHeartbeats 8000000
namespace Bl
open PySem PySem.Spec PyProof.Rows L2 PySem.Xq
/-! ### == of any plain data -/
mutual
def pyD : D → Option PyData
  | .non => some .none
  | .bl b => some (.bool b)
  | .int i => some (.int i)
  | .str s => some (.str s)
  | .tup l => (pyDs l).map .tuple
  | .tupN l => (pyDs l).map .tuple
  | .par l => (pyDs l).map .tuple
  | .lst l => (pyDs l).map .list
  | .lstV l => (pyDs l).map .list
  | .ty _ => none
  | .ins _ _ => none
  | .dT _ => none
def pyDs : List D → Option (List PyData)
  | [] => some []
  | d :: l => match pyD d, pyDs l with
    | some a, some b => some (a :: b)
    | _, _ => none
end
theorem den_py {K : PySem.W.Frag} {S : List Addr} {H : Hp} {g : G} (h : DenG K S H g) : match g with
    | .v x d => ∀ p, pyD d = some p → Dp K H x p
    | .vs xs ds => ∀ p, pyDs ds = some p → DpAll K H xs p
    | _ => True := by
  have tm : ∀ {f : List PyData → PyData} {o : Option (List PyData)} {p : PyData}, o.map f = some p → ∃ ps, o = some ps ∧ f ps = p := fun {f o p} e => by
    cases o with
    | none => cases e
    | some ps => exact ⟨ps, rfl, Option.some.inj e⟩
  induction h with
  | non => intro p e; cases e; exact .non
  | bl b => intro p e; cases e; exact .bl b
  | int i => intro p e; cases e; exact .int i
  | str s => intro p e; cases e; exact .str s
  | ty n => intro p e; unfold pyD at e; cases e
  | tup h _ r => intro p e; unfold pyD at e; obtain ⟨ps, e1, rfl⟩ := tm e; exact .tup h.sq (r ps e1)
  | tupN h _ r => intro p e; unfold pyD at e; obtain ⟨ps, e1, rfl⟩ := tm e; exact .tup h.sq (r ps e1)
  | par n h _ r => intro p e; unfold pyD at e; obtain ⟨ps, e1, rfl⟩ := tm e; exact .tup (.inl h) (r ps e1)
  | lst h _ r => intro p e; unfold pyD at e; obtain ⟨ps, e1, rfl⟩ := tm e; exact .lst h.sq (r ps e1)
  | lstV n h _ r => intro p e; unfold pyD at e; obtain ⟨ps, e1, rfl⟩ := tm e; exact .lst (.inl (.inl h)) (r ps e1)
  | ins n h _ r => intro p e; unfold pyD at e; cases e
  | dT n h _ r => intro p e; unfold pyD at e; cases e
  | nil => intro p e; unfold pyDs at e; cases e; exact .nil
  | @cons x d xs ds h t ih1 ih2 =>
    intro p e
    unfold pyDs at e
    cases h1 : pyD d with
    | none => rw [h1] at e; cases e
    | some a =>
      cases h2 : pyDs ds with
      | none => rw [h1, h2] at e; cases e
      | some b =>
        rw [h1, h2] at e
        cases e
        exact .cons (ih1 a h1) (ih2 b h2)
  | fnil => trivial
  | fcons _ _ _ _ => trivial
  | knil => trivial
  | kcons _ _ _ _ => trivial
theorem rd_eqP {K : PySem.W.Frag} {x y : D} {p q : PyData} (hx : pyD x = some p) (hy : pyD y = some q) (sp : SeqAt.shaped p = true) (sq : SeqAt.shaped q = true) : RD K (rEqD K) x y (.bl (PyData.eqv p q)) := fun S H ow vx vy Q o dx dy k =>
  ⟨p, q, den_py dx p hx, den_py dy q hy, sp, sq, k _ H (Evl.Ex.refl H) (.bl _)⟩
theorem rd_neP {K : PySem.W.Frag} {x y : D} {p q : PyData} (hx : pyD x = some p) (hy : pyD y = some q) (sp : SeqAt.shaped p = true) (sq : SeqAt.shaped q = true) : RD K (rNeD K) x y (.bl (!PyData.eqv p q)) := fun S H ow vx vy Q o dx dy k =>
  ⟨p, q, den_py dx p hx, den_py dy q hy, sp, sq, k _ H (Evl.Ex.refl H) (.bl _)⟩
def tFld (n : XN) (a : Addr) (cls : Value) (d : Option Addr) (te : TE) : TE := fun σ H Q => te σ H fun x H1 => x = .ref a ∧ cls = .ref n.cls ∧ ∃ (dd : Addr) (v : V), d = some dd ∧ H1 dd = some (xdF n.fld v) ∧ Q v H1
def tsWord (n : XN) (w : Str) (ie it : Nat) : Addr → Value → Option Addr → TS := fun a cls d => tAsg (tTup (tCons (tC (.str w)) (tCons (tFld n a cls d (tVar ie)) tNil))) (gName it)
section
variable {X : Cx} {nm : Str} {n : XN} {w : Str} {body : List Stmt} {h0 : ExceptHandler} {hds : List ExceptHandler} {pos : Pos} {st st1 : Sta} {ow ow1 : List OB} {d : D}
theorem psd_tryW (ie it : Nat) (hs : X.stack = X.env :: X.outer) (hf : X.env.frame = some X.env.locals) (hN : X.N.Nodup) (hi : X.N[ie]? = some nm) (hln : X.env.kindOf nm = some .local) (hie : ie < st1.length) (hne : ie ≠ it)
    (hb : ∀ (W : WX) (pn : List (Addr × Obj)) (xe : Value → Shared → Prop), Takes (X.tr pn xe) W → PassesOwn (model X.prog X.w) X.A X.env xe → PXB (X.tr pn xe) n W st ow body d st1 ow1)
    (hh : Hdl X (.ref n.cls) nm (tsWord n w ie it) (h0 :: hds)) : PSD X st ow (.Try body (h0 :: hds) [] [] pos) (.nx ((st1.set it (some (.d (.tup [.str w, d])))).set ie none) ow1) :=
  (ps_try_hit (cls := .ref n.cls) (i := ie) (tb := fun W => tRzG X.K n W st ow d st1 ow1) (ts := tsWord n w ie it) hs hf hN hi hln hb hh).imp fun D σ H ⟨S, sl, o, k⟩ => ⟨S, sl, o, fun S' σ' u H' dd f1 sl1 o1 du hdd => ⟨rfl, fun a ha => by
    have ex : Evl.Ex H' (upd H' dd (xdF n.fld u)) := Evl.Ex.new hdd
    have hlen := sl1.len
    have o2 := o1.ex ex
    have du2 := Den.mono (.of ex) du
    show ∃ v, (σ'.set ie (some (V.ref a)))[ie]? = some (some v) ∧ (v = .ref a ∧ Value.ref n.cls = .ref n.cls ∧ ∃ (dd' : Addr) (v' : V), some dd = some dd' ∧ (upd H' dd (xdF n.fld u)) dd' = some (xdF n.fld v') ∧ ([V.str w, v'].length ≤ sizeLine ∧ ∀ p, (upd H' dd (xdF n.fld u)) p = none → D.nx (((σ'.set ie (some (V.ref a))).set it (some (.ref p))).set ie none) (upd (upd H' dd (xdF n.fld u)) p (.tup [.str w, v']))))
    refine ⟨.ref a, List.getElem?_set_self (by rw [hlen]; exact hie), rfl, rfl, dd, u, rfl, upd_same, Evl.sz_of (by show 2 ≤ 100000; decide), fun p hp => ?_⟩
    have ex2 : Evl.Ex (upd H' dd (xdF n.fld u)) (upd (upd H' dd (xdF n.fld u)) p (.tup [.str w, u])) := Evl.Ex.new hp
    have dt : Den X.K S' (upd (upd H' dd (xdF n.fld u)) p (.tup [.str w, u])) (.ref p) (.tup [.str w, d]) := new_tup o2 hp (.cons (.str w) (.cons du2 .nil))
    have e : ((σ'.set ie (some (V.ref a))).set it (some (.ref p))).set ie none = (σ'.set it (some (.ref p))).set ie none := by rw [List.set_comm _ _ hne, List.set_set]
    rw [e]
    have sl2 : Slots X.K S' (upd (upd H' dd (xdF n.fld u)) p (.tup [.str w, u])) (σ'.set it (some (.ref p))) (st1.set it (some (.d (.tup [.str w, d])))) := ((sl1.mono (.of ex)).mono (.of ex2)).set it (.d dt)
    exact k S' _ _ (f1.trans o1 ((Fwd.of ex).trans o2 (.of ex2))) (sl2.wipe [ie]) (o2.ex ex2)⟩⟩
end
section
variable {P : Program} {w : World} {K : PySem.W.Frag} {mg : Str → Option Value} {base : Heap} {f : Addr} {fd : FuncData} {k : Nat} {CN fN CB fB CL fL : Addr}
/-! ### numbers that are refused -/
/-- what is no list and no tuple -/
def gLotOfB : GX := fun rs ow d ow' => ∃ (m : Int) (x : Str), rs = [.d (.str x), .d (.int m)] ∧ 1 ≤ m ∧ m ≤ 16 ∧ d = .str "lot" ∧ ow' = ow
theorem ok_lotOfB (F : Fun K "lot_of" "lot_of" sLotOf f fd) (TB : BTxt K CB fB) (gB : mg "BadKind" = some (.ref CB)) (C1 : Fg P w K mg base "check_size" k ["size"] gCheckSize) (mI : mg "isinstance" = none) (mL : mg "list" = none) (mT : mg "tuple" = none) : FnOk P w K mg base (L2.CX P w) (k + 1) f fd ["value", "size"] (spR K (nB CB) gLotOfB) := by
  refine okR F scLotOf (fun rs ow d ow' h => ?_) (fun cdv A outer s H E hr rs ow d ow' h => ?_)
  · obtain ⟨m, x, rfl, _⟩ := h
    rfl
  · obtain ⟨m, x, rfl, h1, h2, rfl, rfl⟩ := h
    exact ⟨_, psx_cons (psd_expr (pd_cg C1 hr (Nat.le_refl _) (padd_cons (pd_var 1) padd_nil) ⟨m, rfl, h1, h2, rfl, rfl⟩)) (psx_last (pxs_ifT (ptd_not (ptd_val (pd_isT2 (n := "list") (m := "tuple") (t := "str") mI (padd_cons (pd_var 0) (padd_cons (pd_tup (padd_cons (pd_ty mL) (padd_cons (pd_ty mT) padd_nil))) padd_nil)) false false))) rfl (psx_last (pxs_raise rfl (takes_of rfl rfl rfl rfl) (pmk_xB TB gB hr (padd_cons pd_str padd_nil))))))⟩
def gCheckLineX : GX := fun rs ow d ow' => ∃ n m : Int, rs = [.d (.int n), .d (.int m)] ∧ ¬ (0 ≤ n ∧ n < m) ∧ d = .int n ∧ ow' = ow
theorem ok_checkLineX (F : Fun K "check_line" "check_line" sCheckLine f fd) (TL : LTxt K CL fL) (gL : mg "BadLine" = some (.ref CL)) (C1 : Fg P w K mg base "is_int" k ["value"] gIsInt) : FnOk P w K mg base (L2.CX P w) (k + 1) f fd ["line", "size"] (spR K (nL CL) gCheckLineX) := by
  refine okR F scCheckLine (fun rs ow d ow' h => ?_) (fun cdv A outer s H E hr rs ow d ow' h => ?_)
  · obtain ⟨n, m, rfl, _⟩ := h
    rfl
  · obtain ⟨n, m, rfl, hb, rfl, rfl⟩ := h
    exact ⟨_, psx_last (pxs_ifT (ptd_bool (pwd_or (ptd_not (ptd_val (pd_cg C1 hr (Nat.le_refl _) (padd_cons (pd_var 0) padd_nil) ⟨.int n, "int", rfl, rfl, rfl, rfl⟩))) (fun _ => pwd_or1 (ptd_not (ptd_chain op_le op_lt (rd_I0 rfl) (rd_I0 rfl) pd_int (pd_var 0) (pd_var 1)))))) (by simp [isI]; omega) (psx_last (pxs_raise rfl (takes_of rfl rfl rfl rfl) (pmk_xL TL gL hr (padd_cons (pd_var 0) padd_nil)))))⟩
def LotBad (m : Int) (qs : List Int) (j : Nat) : Prop := j < qs.length ∧ (∀ i q, i < j → qs[i]? = some q → (0 ≤ q ∧ q < m) ∧ q ∉ qs.take i) ∧ ∀ q, qs[j]? = some q → ¬ (0 ≤ q ∧ q < m) ∨ q ∈ qs.take j
def gLotFromX : GX := fun rs ow d ow' => ∃ (t : Bool) (m : Int) (qs : List Int) (j : Nat), rs = [.d (sqD t (qs.map D.int)), .d (.int m)] ∧ LotBad m qs j ∧ d = .int (qs.getD j 0) ∧ ow' = ow
theorem ok_lotFromX (F : Fun K "lot_from_lines" "lot_from_lines" sLotFrom f fd) (TL : LTxt K CL fL) (gL : mg "BadLine" = some (.ref CL)) (C1 : Fg P w K mg base "check_line" k ["line", "size"] gCheckLine) (CX1 : FgX P w K mg base "check_line" k ["line", "size"] (nL CL) gCheckLineX) (mE : mg "enumerate" = none) : FnOk P w K mg base (L2.CX P w) (k + 1) f fd ["value", "size"] (spR K (nL CL) gLotFromX) := by
  refine okR F scLotFrom (fun rs ow d ow' h => ?_) (fun cdv A outer s H E hr rs ow d ow' h => ?_)
  · obtain ⟨t, m, qs, j, rfl, _⟩ := h
    rfl
  · obtain ⟨t, m, qs, j, rfl, ⟨hj, hgood, hbad⟩, rfl, rfl⟩ := h
    have eD : ∀ {i : Nat} {q : Int}, qs[i]? = some q → (qs.map D.int).getD i .non = .int q := fun {i q} h => by rw [List.getD_eq_getElem?_getD, List.getElem?_map, h]; rfl
    refine ⟨[some (.d (sqD t (qs.map D.int))), some (.d (.int m)), some (.d (.int (j : Nat))), some (.d ((qs.map D.int).getD j .non))], psx_last (pxs_for [2, 3] (fun _ => [some (.d (sqD t (qs.map D.int))), some (.d (.int m)), none, none]) (fun _ => ow') j (fun i => [some (.d (sqD t (qs.map D.int))), some (.d (.int m)), some (.d (.int (i : Nat))), some (.d ((qs.map D.int).getD i .non))]) (fun i => .nx [some (.d (sqD t (qs.map D.int))), some (.d (.int m)), none, none] ow') (passes_of rfl) rfl (pid_enumS mE (padd_cons (pd_var 0) padd_nil)) ⟨rfl, fun i r h => h⟩ rfl (fun i d hd _ => ?_) (fun i d hd hlt => ?_) (fun d hd => ?_) (fun i hi => .inl rfl) (by rw [enumD_len, List.length_map]; exact hj))⟩
    · obtain ⟨x, hx, rfl⟩ := enumD_some hd
      rw [getD_of hx]
      exact pgd_tup rfl (pgsd_cons (pgd_name 2 scLotFrom.nd) (pgsd_cons (pgd_name 3 scLotFrom.nd) pgsd_nil))
    · obtain ⟨x, hx, rfl⟩ := enumD_some hd
      rw [getD_of hx]
      obtain ⟨q, hq, rfl⟩ := map_some_of hx
      obtain ⟨⟨g1, g2⟩, g3⟩ := hgood i q hlt hq
      exact pbd_weak (pbd_cons (psd_expr (pd_cg C1 hr (Nat.le_refl _) (padd_cons (pd_var 3) (padd_cons (pd_var 1) padd_nil)) ⟨q, m, rfl, g1, g2, rfl, rfl⟩)) (pbd_skip (ptd_in (ns := qs.take i) (pd_var 3) (pd_slS (t := t) (ds := qs.map D.int) (pd_var 0) pod_none (pod_some (pd_var 2))) (seqL_cut t qs i)) (decide_eq_false g3) pbd_nil)) rfl (by (intro i r h; rcases i with _ | _ | _ | _ | _ | _ | _ | _ | _ | i <;> first | exact h | cases h))
    · obtain ⟨x, hx, rfl⟩ := enumD_some hd
      rw [getD_of hx]
      obtain ⟨q, hq, rfl⟩ := map_some_of hx
      rw [show qs.getD j 0 = q by rw [List.getD_eq_getElem?_getD, hq]; rfl]
      by_cases hr0 : 0 ≤ q ∧ q < m
      · have hm := (hbad q hq).resolve_left fun z => z hr0
        exact psx_cons (psd_expr (pd_cg C1 hr (Nat.le_refl _) (padd_cons (pd_var 3) (padd_cons (pd_var 1) padd_nil)) ⟨q, m, rfl, hr0.1, hr0.2, rfl, rfl⟩)) (psx_last (pxs_ifT (ptd_in (ns := qs.take j) (pd_var 3) (pd_slS (t := t) (ds := qs.map D.int) (pd_var 0) pod_none (pod_some (pd_var 2))) (seqL_cut t qs j)) (decide_eq_true hm) (psx_last (pxs_raise rfl (takes_of rfl rfl rfl rfl) (pmk_xL TL gL hr (padd_cons (pd_var 3) padd_nil))))))
      · exact psx_last (pxs_expr (pxe_call CX1 hr (Nat.le_refl _) (takes_of rfl rfl rfl rfl) (padd_cons (pd_var 3) (padd_cons (pd_var 1) padd_nil)) ⟨q, m, rfl, hr0, rfl, rfl⟩))
def gLotOfX : GX := fun rs ow d ow' => ∃ (t : Bool) (m : Int) (qs : List Int) (j : Nat), rs = [.d (sqD t (qs.map D.int)), .d (.int m)] ∧ LotBad m qs j ∧ 1 ≤ m ∧ m ≤ 16 ∧ d = .int (qs.getD j 0) ∧ ow' = ow
theorem ok_lotOfX (F : Fun K "lot_of" "lot_of" sLotOf f fd) (C1 : Fg P w K mg base "check_size" k ["size"] gCheckSize) (CX1 : FgX P w K mg base "lot_from_lines" k ["value", "size"] (nL CL) gLotFromX) (mI : mg "isinstance" = none) (mL : mg "list" = none) (mT : mg "tuple" = none) : FnOk P w K mg base (L2.CX P w) (k + 1) f fd ["value", "size"] (spR K (nL CL) gLotOfX) := by
  refine okR F scLotOf (fun rs ow d ow' h => ?_) (fun cdv A outer s H E hr rs ow d ow' h => ?_)
  · obtain ⟨t, m, qs, j, rfl, _⟩ := h
    rfl
  · obtain ⟨t, m, qs, j, rfl, hb, h1, h2, rfl, rfl⟩ := h
    refine ⟨_, psx_cons (psd_expr (pd_cg C1 hr (Nat.le_refl _) (padd_cons (pd_var 1) padd_nil) ⟨m, rfl, h1, h2, rfl, rfl⟩)) (psx_skip (ptd_not (ptd_val (pd_isT2 (n := "list") (m := "tuple") (t := tyS t) mI (padd_cons (pd_var 0) (padd_cons (pd_tup (padd_cons (pd_ty mL) (padd_cons (pd_ty mT) padd_nil))) padd_nil)) (!t) t (tyB_sq t _) (by cases t <;> decide +kernel) (by cases t <;> decide +kernel)))) (by cases t <;> rfl) (psx_last (pxs_ret (pxe_call CX1 hr (Nat.le_refl _) (takes_of rfl rfl rfl rfl) (padd_cons (pd_var 0) (padd_cons (pd_var 1) padd_nil)) ⟨t, m, qs, j, rfl, hb, rfl, rfl⟩))))⟩
/-! ### told_right, refused -/
/-! ### _law_told_error, _law_errors_kept -/
end
section
variable {X : Cx} {a b : Expr} {st : Sta} {ow ow1 ow2 : List OB} {pos : Pos} {x y : D} {p q : PyData}
theorem ptd_neP (hu : X.A.units + 64 < cLine) (ha : PD X st ow a (.d x) ow1) (hb : PD X st ow1 b (.d y) ow2) (hx : pyD x = some p := by rfl) (hy : pyD y = some q := by rfl) (sp : SeqAt.shaped p = true := by decide +kernel) (sq : SeqAt.shaped q = true := by decide +kernel) : PTD X st ow (.Compare a [.NotEq] [b] pos) (!PyData.eqv p q) ow2 := ptd_cmp (op_neD hu) (nomark _) (rd_neP hx hy sp sq) ha hb
end
end Bl
set_option Elab.async false
set_option linter.all false
set_option maxRecDepth 100000
set_option maxHeartbeats 4000000
namespace PySem
namespace Xq
open PySem.W PySem.Calls PyProof.Rows PySem.HandSPX Builtin Builtin.ObjectAttr
abbrev sBKU : Stmt := L2.inClass (Bl.topS 9) 0
/-- Unsound: an own exception class over Exception (by way of BentError) whose __init__ stores its one argument: what is found of it in the written part -/
structure UTxt (K : Frag) (C fI : Addr) : Prop where
  ini : excInitIn K C tailE "Exception.__new__" = true
  ovr : excOver K C tailE = true
  hd : hasDictIn K C = true
  sa : findIn K (.ref C) "__setattr__" = some (some (.builtin "object.__setattr__"))
  ga : findIn K (.ref C) "__getattribute__" = some (some (.builtin "BaseException.__getattribute__"))
  gg : findIn K (.ref C) "__getattr__" = some none
  no : findIn K (.ref C) "four" = some none
  iC : findIn K (.ref C) "__init__" = some (some (.ref fI))
  tI : typeIn K (.ref fI) = some (.type "function")
  kC : keepIn K (.ref C) = true
  exC : subIn K (.ref C) (.type "BaseException") = some true
  tyC : typeIn K (.ref C) = some (.type "type")
  te : exmOne K (.ref C) (.ref C) = some true
  fn : ∃ (oc : Value) (od : Option Addr) (kV doc pm : Value) (an : Option Addr) (cdv ct : Value) (osl : Array (Option Value)),
    K.lookup fI = some ⟨oc, od, .func (fnOf "__init__" "Unsound.__init__" (L2.defArgs sBKU) (L2.defBody sBKU) (L2.defScope sBKU) .none kV doc pm an cdv ct), osl⟩ ∧ codeIn K cdv "Unsound.__init__" = true
theorem bk_bodyU : ∃ q1 q2 q3 q4 : Pos, L2.defBody sBKU = [.Assign [.Attribute (.Name "self" q1) "four" q2] (.Name "four" q3) q4] := ⟨_, _, _, _, rfl⟩
section
variable {prog : Program} {w : World} {A : Around} {E : Value → Shared → Prop} {R : Result → Shared → Prop} {s : Shared} {K : Frag} {C fI : Addr}
/-- what stands behind the making -/
structure XMadeU (h h' : Heap) (C e d : Addr) (v : Value) : Prop where
  keep : ∀ b o, h.get? b = some o → h'.get? b = some o
  le : h.objs.size ≤ e
  obj : ∃ t, h'.get? e = some { cls := .ref C, dict := some d, data := .fields #[.ref t, .none, .none, .none, .bool false, .none] }
  ld : h.objs.size ≤ d
  ne : d ≠ e
  ns : h'.Ns1 d (fun y => if y = "four" then some v else none)
theorem x_loadU {scope : Scope} {name : Str} {L a : Addr} {cd : Value} {m : Str → Option Value} {x : Str} {pos : Pos} {v : Value} {Q : Value → Shared → Prop} {M : Model} (hn : s.heap.Ns L m) (hv : m x = some v) (hk : scope.kind = .function) (hl : (envOfC name scope L a cd).kindOf x = some .local) (hd : (x == ("__debug__" : Str)) = false) (h : Q v s) :
    wpAny M A (eval (.Name x pos) (envOfC name scope L a cd)) Q E s := wpAny_Name (wpAny_loadName_local hk hl hn hv h) hd
theorem x_initU (T : UTxt K C fI) {x t0 : Addr} {v : Value} (X : K.In s.heap) (hl : s.heap.NoLimit) (hx : s.heap.get? x = some (PX.excO C t0)) (hr : A.depth < recursionLimit)
    (hq : ∀ h' tk dx, (∀ b o, b ≠ x → s.heap.get? b = some o → h'.get? b = some o) → s.heap.objs.size ≤ dx → dx ≠ x → h'.get? x = some { cls := .ref C, dict := some dx, data := .fields #[.ref t0, .none, .none, .none, .bool false, .none] } → h'.Ns1 dx (fun y => if y = "four" then some v else none) → R (.ok (.ret .none)) { s with heap := h', toks := tk }) :
    codeAny (model prog w) A (.call (.ref fI) ⟨[.ref x, v], []⟩) R s := by
  obtain ⟨oc, od, kV, doc, pm, an, cdv, ct, osl, ho, hcd⟩ := T.fn
  obtain ⟨cd, hcl, hdc⟩ := any_some T.hd
  obtain ⟨q1, q2, q3, q4, hb⟩ := bk_bodyU
  refine Att.call_fn (binds := [("self", .ref x), ("four", v)]) X hl ho hcd hr (BindsTo.of_eq rfl) rfl (fun s1 IC => ?_) rfl rfl rfl
  obtain ⟨h1, tk1, rfl⟩ := IC.toInCall.same
  have k := IC.toInCall.keep
  have hn := IC.toInCall.ns
  have X1 : K.In h1 := X.keeps k
  have hx1 : h1.get? x = some (PX.excO C t0) := k _ _ hx
  have hsz : s.heap.objs.size < h1.objs.size := hn.lt
  rw [hb]
  refine wpAny_execs_cons (plainObj_wpAny_Assign_Attribute ?_)
  refine x_loadU (v := v) hn (by first | rfl | kernel_rfl) rfl rfl (by decide) ?_
  refine x_loadU (v := .ref x) hn (by first | rfl | kernel_rfl) rfl rfl (by decide) ?_
  refine set_plain X1 (ox := PX.excO C t0) (od := none) ⟨hx1, rfl, rfl, trivial⟩ T.sa ?_
  refine xq_store X1 hx1 T.ovr hcl hdc (L2.NoAttr.taker T.no) fun h3 tk3 dx k3 dn dne hx3 hn3 => ?_
  exact wpAny_execs_nil (hq h3 tk3 dx (fun b o hb e => k3 b o hb (k b o e)) (Nat.le_of_lt (Nat.lt_of_lt_of_le hsz dn)) dne hx3 hn3)
theorem x_madeU (T : UTxt K C fI) {v : Value} (X : K.In s.heap) (hl : s.heap.NoLimit) (hr : A.depth + 1 < recursionLimit) (hq : ∀ h' tk e d, XMadeU s.heap h' C e d v → R (.ok (.ret (.ref e))) { s with heap := h', toks := tk }) :
    codeAny (model prog w) A (.call (.ref C) ⟨[v], []⟩) R s := by
  obtain ⟨nm, N, qn, bs, bm, hdct, sn, sub, ab, col, dd, k0, k1, k2, k3, k5, hC, hT⟩ := excInit_of X T.ini
  obtain ⟨oc, od, kV, doc, pm, an, cdv, ct, osl, ho, hcd⟩ := T.fn
  obtain ⟨hp, g, dr, tk, os⟩ := s
  have k : ∀ b o, hp.get? b = some o → ((hp.push (kdv_tup [v])).push (PX.excO C hp.objs.size)).get? b = some o := fun b o e => Heap.get?_push_of_some _ (Heap.get?_push_of_some _ e)
  have hz : (hp.push (kdv_tup [v])).objs.size = hp.objs.size + 1 := Heap.size_push ..
  have hget : ((hp.push (kdv_tup [v])).push (PX.excO C hp.objs.size)).get? (hp.objs.size + 1) = some (PX.excO C hp.objs.size) := by
    have := Heap.get?_push_size (hp.push (kdv_tup [v])) (o := PX.excO C hp.objs.size) rfl
    rwa [hz] at this
  refine PX.call_own F.excBase_Exception hT hC (looks_findIn X T.iC) (fun self => bind_fn X self T.tI) (by show 1 ≤ sizeLine; rw [sizeLine_eq]; decide) ?_
  refine x_initU (s := ⟨(hp.push (kdv_tup [v])).push (PX.excO C hp.objs.size), g, dr, tk, os⟩) T (X.keeps k) (hl.keeps k) hget (by show A.depth + 1 < recursionLimit; exact hr) fun h' tk' dx k' dn dne hx hns => ?_
  have z2 : ((hp.push (kdv_tup [v])).push (PX.excO C hp.objs.size)).objs.size = hp.objs.size + 2 := by rw [Heap.size_push, hz]
  have dn' : hp.objs.size + 2 ≤ dx := by
    have q : ((hp.push (kdv_tup [v])).push (PX.excO C hp.objs.size)).objs.size ≤ dx := dn
    rwa [z2] at q
  exact ⟨rfl, hq h' tk' (hp.objs.size + 1) dx ⟨fun b o e => k' b o (Nat.ne_of_lt (Nat.lt_succ_of_lt (Heap.lt_size e))) (k b o e), Nat.le_succ _, ⟨_, hx⟩, Nat.le_trans (Nat.le_add_right _ 2) dn', dne, hns⟩⟩
end
end Xq
end PySem
namespace Bl
open PySem PySem.Spec PyProof.Rows L2 PySem.Xq
section
variable {X : Cx} {C fI : Addr}
abbrev wDU (v : V) : HO := .xd [(("four" : Str), v)]
theorem rel_wordU {v : V} {u : Value} (r : RelV v u) (f : Str) : RelO (List.lookup f [(("four" : Str), v)]) (if f = "four" then some u else none) := by
  rw [List.lookup_cons]
  by_cases h : f = "four"
  · rw [if_pos h, show (f == ("four" : Str)) = true by simpa using h]
    exact r
  · rw [if_neg h, show (f == ("four" : Str)) = false by simpa using h]
    trivial
/-- Unsound(e) -/
def tMkXU (C : Addr) (ta : TA) : L2.St → Hp → XK → Prop := fun σ H Q => ta σ H fun vs H1 => ∃ v, vs = [v] ∧ ∀ d, H1 d = none → Q (.ref C) (some d) (upd H1 d (wDU v))
theorem pmk_xU {a : Expr} {ta : TA} {p pos : Pos} {k : Nat} (T : UTxt X.K C fI) (gC : X.mg "Unsound" = some (.ref C)) (hr : Room k X.A) (ha : PA X [a] ta) (hg : Gl X "Unsound" := by rfl) (he : starEach [a] X.env = (false, eval a X.env) :: starEach [] X.env := by rfl) (hpl : (backTo pos (starEach [] X.env)).any (·.1) = false := by rfl) :
    PMk X (.Call (.Name "Unsound" p) [a] [] pos) (tMkXU C ta) := by
  intro pins s σ H Q I h
  refine wpAny_Call_Name_kw (ld_glob I hg gC ?_)
  refine PySem.W.callWith_K (h₀ := X.base) I.ok.mod.kin T.kC (thn (ha.run pos pins s σ H _ I h) fun us s1 ⟨vs, H1, I1, r1, v, ev, q1⟩ => ⟨I1.kIn, ?_⟩) he hpl
  subst ev
  obtain ⟨u, rfl, rv⟩ := vals1 r1
  have hlim := I1.nolimit
  obtain ⟨hp, g, dr, tk, os⟩ := s1
  show wpAny _ _ (call (.ref C) [u]) _ _ _
  refine wpAny_call (x_madeU T I1.kIn hlim (by have := hr.dp; omega) fun h' tk' e d M => ?_)
  obtain ⟨kp, le, ⟨t, hoe⟩, ld, ne, ns⟩ := M
  obtain ⟨G', g1, g2⟩ := restrict h' fun b => decide (b ≠ e)
  have same : ∀ b, b ≠ e → G'.get? b = h'.get? b := fun b hb => g1 b (decide_eq_true hb)
  have gone : G'.get? e = none := g2 e (by simp)
  have old : ∀ b o, hp.get? b = some o → G'.get? b = some o := fun b o q => (same b (Nat.ne_of_lt (Nat.lt_of_lt_of_le (Heap.lt_size q) le))).trans (kp b o q)
  have ob : ObjOk X.prog X.w (upd H1 d (wDU v)) G' d (wDU v) := ⟨_, ns.at (fun o q => (same d ne).trans q), fun f => rel_wordU rv f⟩
  have J : Inv X pins σ (upd H1 d (wDU v)) ⟨G', g, dr, tk', os⟩ := I1.laid (t' := tk') old ld ob
  refine ⟨e, _, _, ⟨G', g, dr, tk', os⟩, _, .ref C, some d, rfl, J, fun b o q => ?_, gone, hoe, ⟨rfl, rfl⟩, rfl, rfl, ?_, rfl, I1.bare, raises_own T.exC T.tyC, q1 d (I1.hok.fresh ld)⟩
  · have hbe : b ≠ e := fun z => by
      have q' : G'.get? b = some o := q
      rw [z, gone] at q'
      cases q'
    exact (same b hbe).symm.trans q
  · rw [upd_ne (Ne.symm ne)]
    exact I1.hok.fresh le
/-- error.word, error the exception in hand -/
def tWordU (C : Addr) (a : Addr) (cls : Value) (d : Option Addr) (te : TE) : TE := fun σ H Q => te σ H fun x H1 => x = .ref a ∧ cls = .ref C ∧ ∃ (dd : Addr) (v : V), d = some dd ∧ H1 dd = some (wDU v) ∧ Q v H1
theorem pe_fldU {a : Addr} {oe : Obj} {cls : Value} {d : Option Addr} {pn : List (Addr × Obj)} {e : Expr} {te : TE} {pos : Pos} (T : UTxt X.K C fI) (hz : Zc cls d oe) (hf : ∃ vs, oe.data = .fields vs) (he : PE (X.suite a ((a, oe) :: pn)) e te) (hb : attributeBase e "four" X.env (eval e X.env) = eval e X.env := by rfl) :
    PE (X.suite a ((a, oe) :: pn)) (.Attribute e "four" pos) (tWordU C a cls d te) := by
  refine ⟨fun pins s σ H Q I h => attr_of hb (thn (he.run pins s σ H _ I h) fun u s1 ⟨x, H1, I1, rx, ex, ec, dd, v, ed, ea, q⟩ => ?_)⟩
  subst ex ec ed
  cases (show u = Value.ref a from rx)
  obtain ⟨ha, _⟩ := I1.pin (a, oe) (List.mem_append_left _ List.mem_cons_self)
  obtain ⟨vs, hd⟩ := hf
  obtain ⟨mA, hns, hr⟩ := (show ObjOk X.prog X.w H1 s1.heap dd (wDU v) from I1.hok dd _ ea)
  obtain ⟨od, ho, hl⟩ := lookIn_ns hns
  obtain ⟨u, hu, ru⟩ := RelO.some_of (v := v) (o := mA "four") (hr "four")
  have J : PySem.W.InstAt s1.heap a oe C (some od) := ⟨ha, hz.1, by unfold PySem.W.notCls; rw [hd], by rw [hz.2]; exact ho⟩
  exact HandSPX.exc_get I1.kIn J T.ga T.gg T.exC (PySem.W.findObj_own T.hd T.no rfl (by rw [hl, hu])) (handed_of ru) ⟨v, H1, I1.tok _, ru, q⟩
end
abbrev nU (CB : Addr) : XN := ⟨CB, "four"⟩
end Bl
set_option Elab.async false
set_option linter.all false
set_option maxRecDepth 100000
set_option maxHeartbeats 4000000
namespace Bl
open PySem PySem.Spec PyProof.Rows L2
/-! ### sums over the pairs and the threes of a list -/
def sm1 (f : Int → Int) (l : List Int) : Int := (l.map f).sum
def sm2 (f : Int → Int → Int) : List Int → Int
  | [] => 0
  | x :: l => sm1 (f x) l + sm2 f l
def sm3 (f : Int → Int → Int → Int) : List Int → Int
  | [] => 0
  | x :: l => sm2 (f x) l + sm3 f l
theorem combo_consV {α : Type} (bs : List α → List (List α)) (x : α) (l : List α) : combo bs (x :: l) = (bs l).map (x :: ·) ++ combo bs l := by
  unfold combo
  rw [List.zipIdx_cons, List.flatMap_cons]
  congr 1
  rw [show (0 + 1) = 1 from rfl, List.zipIdx_succ, List.flatMap_map]
  rfl
theorem sm2_sub (f : List Int → Int) : ∀ l : List Int, ((sub2 l).map f).sum = sm2 (fun a b => f [a, b]) l
  | [] => rfl
  | x :: l => by
    have ih := sm2_sub f l
    unfold sub2 at ih ⊢
    rw [combo_consV, List.map_append, List.sum_append, ih]
    show _ = sm1 (fun b => f [x, b]) l + _
    congr 1
    unfold sub1 sm1
    rw [List.map_map, List.map_map]
    rfl
theorem sm3_sub (f : List Int → Int) : ∀ l : List Int, ((sub3 l).map f).sum = sm3 (fun a b c => f [a, b, c]) l
  | [] => rfl
  | x :: l => by
    have ih := sm3_sub f l
    unfold sub3 at ih ⊢
    rw [combo_consV, List.map_append, List.sum_append, ih]
    show _ = sm2 (fun b c => f [x, b, c]) l + _
    congr 1
    rw [List.map_map]
    exact sm2_sub (fun q => f (x :: q)) l
/-! ### the sums that the names tell -/
def lotsZ (n : Int) : List (List Int) := (rngZ n).foldl (fun L x => L ++ L.map fun D => D ++ [x]) [[]]
end Bl
set_option Elab.async false
set_option linter.all false
set_option maxRecDepth 100000
set_option maxHeartbeats 4000000
namespace Bl
open PySem PySem.Spec PyProof.Rows L2 PySem.W
def encT (ns : List Int) : PyData := .tuple (ns.map .int)
/-! ### sorted of a list of tuples, whose order is told by a plain one -/
theorem dens_pairD {K : PySem.W.Frag} {S : List Addr} {H : Hp} {α : Type} {enc : α → D} : ∀ {ys : List V} {bs : List α}, Dens K S H ys (bs.map enc) → Paired (fun y b => Den K S H y (enc b)) ys bs
  | [], [], _ => .nil
  | [], _ :: _, h => nomatch h
  | _ :: _, [], h => nomatch h
  | y :: ys, b :: bs, h => by
    have h' : Dens K S H (y :: ys) (enc b :: bs.map enc) := h
    obtain ⟨h1, h2⟩ := h'.uncons
    exact .cons h1 (dens_pairD h2)
theorem pair_densD {K : PySem.W.Frag} {S : List Addr} {H : Hp} {α : Type} {enc : α → D} : ∀ {zs : List V} {bs : List α}, Paired (fun y b => Den K S H y (enc b)) zs bs → Dens K S H zs (bs.map enc)
  | _, _, .nil => .nil
  | _, _, .cons h t => .cons h (pair_densD t)
/-! ### knots with what they weigh, sorted by their lines -/
theorem pyDs_ints : ∀ q : List Int, pyDs (q.map D.int) = some (q.map PyData.int)
  | [] => rfl
  | a :: q => by
    show (match pyD (D.int a), pyDs (q.map D.int) with | some a, some b => some (a :: b) | _, _ => none) = _
    rw [pyDs_ints q]
    rfl
end Bl
set_option Elab.async false
set_option linter.all false
set_option maxRecDepth 100000
set_option maxHeartbeats 8000000
namespace Bl
open PySem PySem.Spec PyProof.Rows L2
/-! ### a tuple not in a tuple of tuples -/
theorem any_tt (q : List Int) : ∀ K : List (List Int), ((K.map encT).any fun y => y.eqv (encT q)) = decide (q ∈ K)
  | [] => by rfl
  | m :: l => by
    show (PyData.eqv (encT m) (encT q) || (l.map encT).any fun y => y.eqv (encT q)) = _
    have e : PyData.eqv (encT m) (encT q) = decide (m = q) := eqv_ints m q
    rw [any_tt q l, e]
    by_cases h : m = q
    · subst h; simp
    · have : ¬ q = m := fun z => h z.symm
      simp [h, this]
theorem lay_tt : ∀ l : List (List Int), PyData.canLayAll0 (l.map encT) = true
  | [] => by simp [PyData.canLayAll0]
  | n :: ns => by
    have := lay_tt ns
    have h1 : PyData.canLay0 (encT n) = true := lay_ints n
    simp only [List.map_cons, PyData.canLayAll0, this, h1, Bool.and_true]
theorem depth_tt (n : List Int) : PyData.depth (encT n) ≤ 2 := by
  have h1 := depth_ints n
  have h2 : PyData.depth (encT n) = PyData.depthAll (n.map PyData.int) + 1 := rfl
  rw [h2]
  omega
theorem pyD_t (q : List Int) : pyD (tupI q) = some (encT q) := by
  show (pyDs (q.map D.int)).map PyData.tuple = _
  rw [pyDs_ints]
  rfl
end Bl
set_option Elab.async false
set_option linter.all false
set_option maxRecDepth 100000
set_option maxHeartbeats 8000000
namespace Bl
open PySem PySem.Spec PyProof.Rows L2
/-! ### xs[i] += e, xs one of the mutable lists -/
def rGetL : V → V → Hp → VK → Prop := fun o i H Q => ∃ p xs k v, o = .ref p ∧ i = .int k ∧ H p = some (.lst xs) ∧ 0 ≤ k ∧ atI xs k = some v ∧ Q v H
theorem get_list {X : Cx} : PGet X rGetL := by
  intro pins s σ H o i ov iv Q I ro ri h
  obtain ⟨p, xs, k, v, rfl, rfl, hp, h0, he, q⟩ := h
  cases ro
  obtain ⟨t, rfl⟩ := ri
  obtain ⟨its, r, pl, hz⟩ := I.list (.inl (.inl hp))
  obtain ⟨j, h1, h2, h3, h4, h5⟩ := atI_get he
  obtain ⟨w, ew, rw'⟩ := r.get h2
  have hl := r.length
  have hn := line63
  have hj : k.toNat = j := by
    rw [seqIndex_of h0 h5] at h1
    exact Option.some.inj h1
  exact PySem.wpAny_getItem_list pl.isList h0 (by omega) (by rw [hj]; simpa using ew) ⟨v, H, I, rw', q⟩
section
variable {X : Cx} {o b e : Expr} {st : Sta} {ow ow1 ow2 ow3 : List OB} {pos tpos : Pos} {k : Nat} {l : List D} {i j v : Int}
theorem psd_augO {n : Nat} (ho : PD X st ow o (.own k) ow1) (hi : PD X st ow1 b (.d (.int i)) ow2) (he : PD X st ow2 e (.d (.int j)) ow3) (h0 : 0 ≤ i) (hk : ow2[k]? = some (.l l)) (hx : atI l i = some (.int v)) (hk3 : ow3[k]? = some (.l l)) (hn : ixN l.length i = some n)
    (ha : ∀ ov iv new, augStore b ov iv new = (do holding [new, ov, iv] (setItem ov iv new); release [new, ov, iv] []; pure .next) := by intros; rfl) : PSD X st ow (.AugAssign (.Subscript o b tpos) .Add e pos) (.nx st (ow3.set k (.l (l.set n (.int (v + j)))))) :=
  (ps_augS ho hi get_list he ip_add set_list ha).imp fun E σ H ⟨S, sl, o, q⟩ => ⟨S, sl, o, fun S1 v1 H1 f1 o1 d1 => ⟨S1, f1.slots sl, o1, fun S2 w H2 f2 o2 d2 => by
    obtain ⟨a, xs, rfl, g1, g2, g3⟩ := own_sq o2 (f2.denR d1) hk
    obtain ⟨x, h3, h4⟩ := den_at g3 hx
    cases d2 with
    | d d2 =>
      refine ⟨a, xs, i, x, rfl, d2.of_int, g2, h0, h3, S2, (f1.trans o1 f2).slots sl, o2, fun S3 y H3 f3 o3 d3 => ?_⟩
      obtain ⟨a', xs', ea, g1', g2', g3'⟩ := own_sq o3 (f3.denR (f2.denR d1)) hk3
      cases ea
      cases d3 with
      | d d3 =>
        refine ⟨v, j, h4.of_int, d3.of_int, a, xs', i, n, rfl, d2.of_int, g2', by rw [Dens.length g3']; exact hn, ?_⟩
        obtain ⟨u1, u2⟩ := own_upd (l' := l.set n (.int (v + j))) o3 g1' (Dens.set (.int _) n g3')
        exact q S3 σ _ (f1.trans o1 (f2.trans o2 (f3.trans o3 u1))) ((f1.trans o1 (f2.trans o2 (f3.trans o3 u1))).slots sl) u2⟩⟩
end
end Bl
set_option Elab.async false
set_option linter.all false
set_option maxRecDepth 100000
set_option maxHeartbeats 8000000
namespace Bl
open PySem PySem.Spec PyProof.Rows L2
section
variable {X : Cx} {a b : Expr} {st : Sta} {ow ow1 ow2 : List OB} {pos : Pos} {i : Int} {y : D} {ns : List Int}
theorem pd_notInV (ha : PD X st ow a (.d (.int i)) ow1) (hb : PD X st ow1 b (.d y) ow2) (hy : seqL y = some (ns.map D.int)) (hm : behindInMarks .NotIn b = false := by rfl) : PD X st ow (.Compare a [.NotIn] [b] pos) (.d (.bl (!decide (i ∈ ns)))) ow2 := pd_cmp op_notIn_seq hm (rd_in (neg := true) hy) ha hb
end
def wr0 (n : Int) (F : List Int → Int) (D : List Int) : Int := sm3 (fun i j k => if (decide (F [i, j, k] = 1) && (decide (i ∈ D) && (!decide (j ∈ D) && decide (k ∈ D)))) = true then 1 else 0) (rngZ n)
def wr1 (n : Int) (F : List Int → Int) (D : List Int) : Int := sm3 (fun i j k => if (decide (F [i, j, k] = -1) && (!decide (i ∈ D) && (decide (j ∈ D) && !decide (k ∈ D)))) = true then 1 else 0) (rngZ n)
/-! ### _law_wrong: the wrong threes, by signs -/
def w0Q (F : List Int → Int) (D q : List Int) : Int := if (decide (F q = 1) && (decide (q.getD 0 0 ∈ D) && (!decide (q.getD 1 0 ∈ D) && decide (q.getD 2 0 ∈ D)))) = true then 1 else 0
def w1Q (F : List Int → Int) (D q : List Int) : Int := if (decide (F q = -1) && (!decide (q.getD 0 0 ∈ D) && (decide (q.getD 1 0 ∈ D) && !decide (q.getD 2 0 ∈ D)))) = true then 1 else 0
def w2Q (F : List Int → Int) (D q : List Int) : Int := if (decide (F q = 0) && ((decide (q.getD 0 0 ∈ D) && (!decide (q.getD 1 0 ∈ D) && decide (q.getD 2 0 ∈ D))) || (!decide (q.getD 0 0 ∈ D) && (decide (q.getD 1 0 ∈ D) && !decide (q.getD 2 0 ∈ D))))) = true then 1 else 0
def gW (F : List Int → Int) (D : List Int) (s : Int × Int × Int) (q : List Int) : Int × Int × Int := (s.1 + w0Q F D q, s.2.1 + w1Q F D q, s.2.2 + w2Q F D q)
theorem gW_all (F : List Int → Int) (D : List Int) : ∀ (l : List (List Int)) (s : Int × Int × Int), l.foldl (gW F D) s = (s.1 + (l.map (w0Q F D)).sum, s.2.1 + (l.map (w1Q F D)).sum, s.2.2 + (l.map (w2Q F D)).sum)
  | [], s => by simp
  | q :: l, s => by
    rw [List.foldl_cons, gW_all F D l, List.map_cons, List.map_cons, List.map_cons, List.sum_cons, List.sum_cons, List.sum_cons]
    unfold gW
    simp only [Int.add_assoc]
def wr2 (n : Int) (F : List Int → Int) (D : List Int) : Int := ((sub3 (rngZ n)).map (w2Q F D)).sum
theorem wr0_sum (n : Int) (F : List Int → Int) (D : List Int) : ((sub3 (rngZ n)).map (w0Q F D)).sum = wr0 n F D := sm3_sub _ _
theorem wr1_sum (n : Int) (F : List Int → Int) (D : List Int) : ((sub3 (rngZ n)).map (w1Q F D)).sum = wr1 n F D := sm3_sub _ _
section
variable {P : Program} {w : World} {K : PySem.W.Frag} {mg : Str → Option Value} {base : Heap} {f fG : Addr} {fd fdG : FuncData} {k : Nat} {C : Addr}
abbrev sWrong : Stmt := topS 54
abbrev nWrong : List Str := ["_law_size_here", "_law_table_here", "_law_lot_here", "_law_wrong_here", "_law_i", "_law_j", "_law_k", "_law_sign", "_law_outer", "_law_middle"]
theorem scWrong : FnScope nWrong ["_law_size_here", "_law_table_here", "_law_lot_here"] (defScope sWrong) := ⟨rfl, rfl, rfl, by decide +kernel, rfl, by decide +kernel, by decide +kernel⟩
def gWrong : GG := fun rs ow r ow' => ∃ (n : Int) (F : List Int → Int) (t : Bool) (L : List Int), rs = [.d (.int n), .d (.dT (tabI (tabF n F))), .d (sqD t (L.map D.int))] ∧ 0 ≤ n ∧ n ≤ 7 ∧ r = .d (.lst [.int (wr0 n F L), .int (wr1 n F L), .int (wr2 n F L)]) ∧ ow' = ow
abbrev wrSt (n : Int) (F : List Int → Int) (t : Bool) (L : List Int) (kk : Nat) (i j k s u m : Option R) : Sta := [some (.d (.int n)), some (.d (.dT (tabI (tabF n F)))), some (.d (sqD t (L.map D.int))), some (.own kk), i, j, k, s, u, m]
def wrL (s : Int × Int × Int) : OB := .l [.int s.1, .int s.2.1, .int s.2.2]
theorem seq_sq (t : Bool) (ds : List D) : seqL (sqD t ds) = some ds := by cases t <;> rfl
theorem ok_wrong (F0 : Fun K "_law_wrong" "_law_wrong" sWrong f fd) (mR : mg "range" = none) : FnOk P w K mg base CX0 (k + 1) f fd ["_law_size_here", "_law_table_here", "_law_lot_here"] (spF K gWrong) := by
  refine okF F0 scWrong (fun rs ow r ow' h => ?_) (fun cdv A outer s H E hr rs ow r ow' h => ?_)
  · obtain ⟨n, F, t, L, rfl, _⟩ := h
    rfl
  · obtain ⟨n, F, t, L, rfl, h0, h1, rfl, rfl⟩ := h
    have hu := room_u hr
    refine pbd_frzR ?_ rfl
    have efin : n3 n (gW F L) (0, 0, 0) = (wr0 n F L, wr1 n F L, wr2 n F L) := by
      rw [n3_fold h0 h1, gW_all, wr0_sum, wr1_sum]
      simp only [Int.zero_add]
      rfl
    show PBD _ _ _ _ (.ret (.own ow'.length) (ow' ++ [wrL (wr0 n F L, wr1 n F L, wr2 n F L)]))
    rw [← efin]
    refine pbd_cons (psd_set 3 scWrong.nd (pd_lstO (padd_cons pd_int (padd_cons pd_int (padd_cons pd_int padd_nil))))) ?_
    unfold n3
    refine pbd_cons (psd_forF [4] (rngZ n) D.int (0, 0, 0) (f1 n (gW F L)) (fun _ => wrSt n F t L ow'.length none none none none none none) (fun _ i => wrSt n F t L ow'.length (some (.d (.int i))) none none none none none) (fun s => ow' ++ [wrL s]) PassesOwn.never rfl
      (pid_eq (pid_range1 mR (padd_cons (pd_var 0) padd_nil) (by omega)) (rngD_Z n)) ⟨rfl, fun i r h => h⟩ rfl (fun l i r hl => pgd_name 4 scWrong.nd) (fun l i r hl => ?_)) (pbd_last (psd_ret (pd_var 3)))
    have hi := mem_rngZ (pre_mem hl).1
    generalize List.foldl (f1 n (gW F L)) (0, 0, 0) l = s0
    refine pbd_weak (st1 := wrSt n F t L ow'.length (some (.d (.int i))) none none none none none) (pbd_cons (psd_forF [5] (upr n i) D.int s0 (f2 n (gW F L) i) (fun _ => wrSt n F t L ow'.length (some (.d (.int i))) none none none none none) (fun _ j => wrSt n F t L ow'.length (some (.d (.int i))) (some (.d (.int j))) none none none none) (fun s => ow' ++ [wrL s]) PassesOwn.never rfl
      (pid_eq (pid_range2 mR (padd_cons (pd_add (pd_var 4) pd_int) (padd_cons (pd_var 0) padd_nil)) (by omega) (by omega)) (rgZ_D _ _)) ⟨rfl, fun i r h => h⟩ rfl (fun l j r hl => pgd_name 5 scWrong.nd) (fun l j r hl => ?_)) pbd_nil) rfl (by (intro i r h; rcases i with _ | _ | _ | _ | _ | _ | _ | _ | _ | _ | i <;> first | exact h | cases h))
    have hj := mem_upr (pre_mem hl).1
    generalize List.foldl (f2 n (gW F L) i) s0 l = s1
    refine pbd_weak (st1 := wrSt n F t L ow'.length (some (.d (.int i))) (some (.d (.int j))) none none none none) (pbd_cons (psd_forF [6] (upr n j) D.int s1 (f3 (gW F L) i j) (fun _ => wrSt n F t L ow'.length (some (.d (.int i))) (some (.d (.int j))) none none none none) (fun _ k => wrSt n F t L ow'.length (some (.d (.int i))) (some (.d (.int j))) (some (.d (.int k))) none none none) (fun s => ow' ++ [wrL s]) PassesOwn.never rfl
      (pid_eq (pid_range2 mR (padd_cons (pd_add (pd_var 5) pd_int) (padd_cons (pd_var 0) padd_nil)) (by omega) (by omega)) (rgZ_D _ _)) ⟨rfl, fun i r h => h⟩ rfl (fun l k r hl => pgd_name 6 scWrong.nd) (fun l k r hl => ?_)) pbd_nil) rfl (by (intro i r h; rcases i with _ | _ | _ | _ | _ | _ | _ | _ | _ | _ | i <;> first | exact h | cases h))
    have hk := mem_upr (pre_mem hl).1
    generalize List.foldl (f3 (gW F L) i j) s1 l = s2
    obtain ⟨x, y, z⟩ := s2
    have hmem := mem_sub3 h0 h1 hi.1 hj.1 hk.1 hk.2
    have e3 : f3 (gW F L) i j (x, y, z) k = (x + w0Q F L [i, j, k], y + w1Q F L [i, j, k], z + w2Q F L [i, j, k]) := rfl
    rw [e3]
    obtain ⟨sg, hsg⟩ : ∃ sg, sg = F [i, j, k] := ⟨_, rfl⟩
    obtain ⟨uu, huu⟩ : ∃ uu, uu = (decide (i ∈ L) && (!decide (j ∈ L) && decide (k ∈ L))) := ⟨_, rfl⟩
    obtain ⟨mm, hmm⟩ : ∃ mm, mm = (!decide (i ∈ L) && (decide (j ∈ L) && !decide (k ∈ L))) := ⟨_, rfl⟩
    have q0 : w0Q F L [i, j, k] = if (decide (sg = 1) && uu) = true then 1 else 0 := by rw [hsg, huu]; rfl
    have q1 : w1Q F L [i, j, k] = if (decide (sg = -1) && mm) = true then 1 else 0 := by rw [hsg, hmm]; rfl
    have q2 : w2Q F L [i, j, k] = if (decide (sg = 0) && (uu || mm)) = true then 1 else 0 := by rw [hsg, huu, hmm]; rfl
    obtain ⟨STT, hST⟩ : ∃ STT, STT = wrSt n F t L ow'.length (some (.d (.int i))) (some (.d (.int j))) (some (.d (.int k))) (some (.d (.int sg))) (some (.d (.bl uu))) (some (.d (.bl mm))) := ⟨_, rfl⟩
    refine pbd_weak (st1 := STT) ?_ (by rw [hST]; rfl) (by rw [hST]; (intro i r h; rcases i with _ | _ | _ | _ | _ | _ | _ | _ | _ | _ | i <;> first | exact h | cases h))
    refine pbd_cons (psd_set 7 scWrong.nd (pd_eqD (d' := .int sg) (pd_getT (ns := [i, j, k]) hu (pd_var 1) (pd_tup (padd_cons (pd_var 4) (padd_cons (pd_var 5) (padd_cons (pd_var 6) padd_nil)))) (lookI_some (lookI_F hmem))) (congrArg D.int hsg.symm))) ?_
    refine pbd_cons (psd_set 8 scWrong.nd (pd_eqD (d' := .bl uu) (pd_and (pd_in (ns := L) (pd_var 4) (pd_var 2) (seq_sq _ _)) fun _ => pd_and (pd_notInV (ns := L) (pd_var 5) (pd_var 2) (seq_sq _ _)) fun _ => pd_one (pd_in (ns := L) (pd_var 6) (pd_var 2) (seq_sq _ _))) (congrArg D.bl huu.symm))) ?_
    refine pbd_cons (psd_set 9 scWrong.nd (pd_eqD (d' := .bl mm) (pd_and (pd_notInV (ns := L) (pd_var 4) (pd_var 2) (seq_sq _ _)) fun _ => pd_and (pd_in (ns := L) (pd_var 5) (pd_var 2) (seq_sq _ _)) fun _ => pd_one (pd_notInV (ns := L) (pd_var 6) (pd_var 2) (seq_sq _ _))) (congrArg D.bl hmm.symm))) ?_
    rw [q0, q1, q2, hST]
    show PBD _ (wrSt n F t L ow'.length (some (.d (.int i))) (some (.d (.int j))) (some (.d (.int k))) (some (.d (.int sg))) (some (.d (.bl uu))) (some (.d (.bl mm)))) (ow' ++ [wrL (x, y, z)]) _ _
    clear q0 q1 q2 huu hmm hsg hST STT e3 efin
    refine pbd_cons (psd_if (out := .nx (wrSt n F t L ow'.length (some (.d (.int i))) (some (.d (.int j))) (some (.d (.int k))) (some (.d (.int sg))) (some (.d (.bl uu))) (some (.d (.bl mm)))) (ow' ++ [wrL (x + (if (decide (sg = 1) && uu) = true then 1 else 0), y, z)])) (ptd_eqB (q' := decide (sg = 1) && uu) (ptd_bool (pwd_and (ptd_eq (pd_var 7) pd_int) fun _ => pwd_and1 (ptd_val (pd_var 8)))) (by rw [iv_eq])) (fun hb => ?_) (fun hb => ?_)) ?_
    · rw [if_pos hb]
      exact pbd_cons (psd_ow (psd_augO (n := 0) (pd_var 3) pd_int pd_int (by decide) app_get rfl app_get rfl) set_last) pbd_nil
    · rw [if_neg (by rw [hb]; decide), Int.add_zero]
      exact pbd_nil
    refine pbd_cons (psd_if (out := .nx (wrSt n F t L ow'.length (some (.d (.int i))) (some (.d (.int j))) (some (.d (.int k))) (some (.d (.int sg))) (some (.d (.bl uu))) (some (.d (.bl mm)))) (ow' ++ [wrL (x + (if (decide (sg = 1) && uu) = true then 1 else 0), y + (if (decide (sg = -1) && mm) = true then 1 else 0), z)])) (ptd_eqB (q' := decide (sg = -1) && mm) (ptd_bool (pwd_and (ptd_eq (pd_var 7) (pd_neg pd_int)) fun _ => pwd_and1 (ptd_val (pd_var 9)))) (by rw [iv_eq])) (fun hb => ?_) (fun hb => ?_)) ?_
    · rw [if_pos hb]
      exact pbd_cons (psd_ow (psd_augO (n := 1) (pd_var 3) pd_int pd_int (by decide) app_get rfl app_get rfl) set_last) pbd_nil
    · rw [if_neg (show ¬ (decide (sg = -1) && mm) = true by rw [hb]; decide), Int.add_zero]
      exact pbd_nil
    refine pbd_cons (psd_if (out := .nx (wrSt n F t L ow'.length (some (.d (.int i))) (some (.d (.int j))) (some (.d (.int k))) (some (.d (.int sg))) (some (.d (.bl uu))) (some (.d (.bl mm)))) (ow' ++ [wrL (x + (if (decide (sg = 1) && uu) = true then 1 else 0), y + (if (decide (sg = -1) && mm) = true then 1 else 0), z + (if (decide (sg = 0) && (uu || mm)) = true then 1 else 0))])) (ptd_eqB (q' := decide (sg = 0) && (uu || mm)) (ptd_bool (pwd_and (ptd_eq (pd_var 7) pd_int) fun _ => pwd_and1 (ptd_bool (pwd_or (ptd_val (pd_var 8)) fun _ => pwd_or1 (ptd_val (pd_var 9)))))) (by rw [iv_eq])) (fun hb => ?_) (fun hb => ?_)) pbd_nil
    · rw [if_pos hb]
      exact pbd_cons (psd_ow (psd_augO (n := 2) (pd_var 3) pd_int pd_int (by decide) app_get rfl app_get rfl) set_last) pbd_nil
    · rw [if_neg (show ¬ (decide (sg = 0) && (uu || mm)) = true by rw [hb]; decide), Int.add_zero]
      exact pbd_nil
end
end Bl
set_option Elab.async false
set_option linter.all false
set_option maxRecDepth 100000
set_option maxHeartbeats 8000000
namespace Bl
open PySem PySem.Spec PyProof.Rows L2
/-! ### all lots of the lines -/
def ltS (L : List (List Int)) (x : Int) : List (List Int) := L ++ L.map fun q => q ++ [x]
theorem lts_len : ∀ (l : List Int) (s : List (List Int)), (l.foldl ltS s).length = s.length * 2 ^ l.length
  | [], s => by simp
  | x :: l, s => by
    rw [List.foldl_cons, lts_len l, List.length_cons, Nat.pow_succ]
    unfold ltS
    rw [List.length_append, List.length_map, ← Nat.two_mul, Nat.mul_comm 2, Nat.mul_assoc, Nat.mul_comm 2]
theorem lts_sub : ∀ (l : List Int) (s : List (List Int)) (pre : List Int), (∀ q ∈ s, q.Sublist pre) → ∀ q ∈ l.foldl ltS s, q.Sublist (pre ++ l)
  | [], s, pre, h => fun q hq => by rw [List.append_nil]; exact h q hq
  | x :: l, s, pre, h => fun q hq => by
    rw [show pre ++ x :: l = (pre ++ [x]) ++ l by simp]
    refine lts_sub l (ltS s x) (pre ++ [x]) (fun r hr => ?_) q hq
    unfold ltS at hr
    rcases List.mem_append.mp hr with hr | hr
    · exact (h r hr).trans (List.sublist_append_left _ _)
    · obtain ⟨u, hu, rfl⟩ := List.mem_map.mp hr
      exact (h u hu).append (List.Sublist.refl _)
theorem lots_sub {n : Int} {q : List Int} (h : q ∈ lotsZ n) : q.Sublist (rngZ n) := by
  have := lts_sub (rngZ n) [[]] [] (fun q hq => by rw [List.mem_singleton.mp hq]; exact List.Sublist.refl _) q h
  exact this
section
variable {P : Program} {w : World} {K : PySem.W.Frag} {mg : Str → Option Value} {base : Heap} {f fG : Addr} {fd fdG : FuncData} {k : Nat} {C : Addr}
abbrev sSubs : Stmt := topS 61
theorem scSubs : FnScope ["_law_size_here", "_law_lots", "_law_line", "_law_lot_here"] ["_law_size_here"] (defScope sSubs) := ⟨rfl, rfl, rfl, by decide +kernel, rfl, by decide +kernel, by decide +kernel⟩
def gSubs : GG := fun rs ow r ow' => ∃ n : Int, rs = [.d (.int n)] ∧ 0 ≤ n ∧ n ≤ 7 ∧ r = .d (.lst (tup2 (lotsZ n))) ∧ ow' = ow
theorem ok_subs (F0 : Fun K "_law_subsets" "_law_subsets" sSubs f fd) (mR : mg "range" = none) : FnOk P w K mg base CX0 (k + 1) f fd ["_law_size_here"] (spF K gSubs) := by
  refine okF F0 scSubs (fun rs ow r ow' h => ?_) (fun cdv A outer s H E hr rs ow r ow' h => ?_)
  · obtain ⟨n, rfl, _⟩ := h
    rfl
  · obtain ⟨n, rfl, h0, h7, rfl, rfl⟩ := h
    refine pbd_cons (psd_set 1 scSubs.nd (pd_freezeV (ow1 := ow') (l := tup2 [[]]) (pd_lstO (padd_cons (pd_tup padd_nil) padd_nil)))) ?_
    refine pbd_cons (psd_forF [2] (rngZ n) D.int [[]] ltS (fun s => [some (.d (.int n)), some (.d (.lstV (tup2 s))), none, none]) (fun s x => [some (.d (.int n)), some (.d (.lstV (tup2 s))), some (.d (.int x)), none]) (fun _ => ow') PassesOwn.never rfl
      (pid_eq (pid_range1 mR (padd_cons (pd_var 0) padd_nil) (by omega)) (rngD_Z n)) ⟨rfl, fun i r h => h⟩ rfl (fun l i r hl => pgd_name 2 scSubs.nd) (fun l x r hl => ?_)) (pbd_last (psd_ret (pd_lstW (pd_var 1))))
    have hl7 : l.length ≤ 7 := by
      have := (pre_mem hl).2.2
      rw [rngZ_len] at this
      omega
    have hsub := lts_sub l [[]] [] (fun q hq => by rw [List.mem_singleton.mp hq]; exact List.Sublist.refl _)
    have hlen := lts_len l [[]]
    have hpow : 2 ^ l.length ≤ 2 ^ 7 := Nat.pow_le_pow_right (by decide) hl7
    generalize List.foldl ltS [[]] l = s0 at hsub hlen
    have hs : s0.length ≤ 128 := by
      rw [hlen]
      simp only [List.length_singleton, Nat.one_mul]
      exact hpow
    refine pbd_weak (st1 := [some (.d (.int n)), some (.d (.lstV (tup2 (ltS s0 x)))), some (.d (.int x)), none]) (pbd_cons (psd_set 1 scSubs.nd (pd_eqD (pd_catV (pd_var 1) (pd_freezeV (ow1 := ow') (pd_lcO (own := [("_law_lot_here", 3)]) s0 tupI (fun q => [some (.d (.int n)), some (.d (.lstV (tup2 s0))), some (.d (.int x)), some (.d (tupI q))]) (fun _ => true) (fun q => tupI (q ++ [x]))
      rfl scSubs.nd (pid_list (pd_lstW (pd_var 1))) (blkOk_by (N := ["_law_size_here", "_law_lots", "_law_line", "_law_lot_here"]) (sc := defScope sSubs) (by decide +kernel)) (by omega) (fun q hq _ H C' cl fp => pgd_name 3 scSubs.nd) (fun q hq l _ H C' cl fp => ptsd_nil)
      (fun q hq _ l _ H C' cl fp => ?_))) ?_) ?_)) pbd_nil) rfl (by (intro i r h; rcases i with _ | _ | _ | _ | i <;> first | exact h | cases h))
    · have := (hsub q hq).length_le
      simp only [List.nil_append] at this
      refine pd_eqD (pd_catT (pd_var 3) (pd_tup (padd_cons (pd_var 2) padd_nil)) (by rw [List.length_map]; simp only [List.length_singleton]; omega)) ?_
      unfold tupI
      rw [List.map_append]
      rfl
    · unfold tup2
      rw [List.length_map, List.length_map]
      have := List.length_filter_le (fun _ : List Int => true) s0
      omega
    · rw [List.filter_eq_self.mpr (fun _ _ => rfl)]
      unfold tup2 ltS
      rw [List.map_append, List.map_map]
      rfl
/-! ### _law_lot_is -/
abbrev sLotIs : Stmt := topS 68
abbrev nLotIs : List Str := ["_law_answer", "_law_due", "_law_at"]
theorem scLotIs : FnScope nLotIs ["_law_answer", "_law_due"] (defScope sLotIs) := ⟨rfl, rfl, rfl, by decide +kernel, rfl, by decide +kernel, by decide +kernel⟩
def gLotIs : GG := fun rs ow r ow' => ∃ (t : Bool) (q : List Int), rs = [.d (tupI q), .d (sqD t (q.map D.int))] ∧ q.length ≤ 1000 ∧ r = .d (.bl true) ∧ ow' = ow
theorem ok_lotIs (F0 : Fun K "_law_lot_is" "_law_lot_is" sLotIs f fd) (Ci : Fg P w K mg base "_law_int" k ["_law_value"] gIsInt) (mI : mg "isinstance" = none) (mT : mg "tuple" = none) (mN : mg "len" = none) (mR : mg "range" = none) : FnOk P w K mg base CX0 (k + 1) f fd ["_law_answer", "_law_due"] (spF K gLotIs) := by
  refine okF F0 scLotIs (fun rs ow r ow' h => ?_) (fun cdv A outer s H E hr rs ow r ow' h => ?_)
  · obtain ⟨t, q, rfl, _⟩ := h
    rfl
  · obtain ⟨t, q, rfl, hl, rfl, rfl⟩ := h
    have hlen : ∀ {X : Cx} {e : Expr} {st : Sta} {ow : List OB} {p pos : Pos} (_ : X.mg "len" = none) (_ : PD X st ow e (.d (sqD t (q.map D.int))) ow) (_ : Gl X "len") (_ : starEach [e] X.env = [(false, eval e X.env)]), PD X st ow (.Call (.Name "len" p) [e] [] pos) (.d (.int (q.length : Int))) ow := fun h1 h2 h3 h4 => by
      cases t with
      | false => exact pd_eqD (pd_lenL h1 (pad_cons h2 pad_nil h4) h3 h4) (by rw [List.length_map])
      | true => exact pd_eqD (pd_lenT h1 (pad_cons h2 pad_nil h4) rfl h3 h4) (by rw [List.length_map])
    refine pbd_skip (bl := false) (ptd_eqB (ptd_bool (pwd_or (ptd_not (ptd_val (pd_isB (n := "tuple") (t := "tuple") mI (padd_cons (pd_var 0) (padd_cons (pd_ty mT) padd_nil)) true rfl (by decide +kernel)))) (fun _ => pwd_or1 (ptd_ne (pd_eqD (d' := .int (q.length : Int)) (pd_lenT mN (padd_cons (pd_var 0) padd_nil) rfl) (by rw [List.length_map])) (hlen mN (pd_var 1) rfl rfl))))) (by simp)) rfl ?_
    refine pbd_cons (psd_forF [2] (List.range q.length) (fun (i : Nat) => D.int (i : Int)) () (fun _ _ => ()) (fun _ => [some (.d (tupI q)), some (.d (sqD t (q.map D.int))), none]) (fun _ i => [some (.d (tupI q)), some (.d (sqD t (q.map D.int))), some (.d (.int (i : Nat)))]) (fun _ => ow') PassesOwn.never rfl
      (pid_eq (pid_range1 mR (padd_cons (hlen mN (pd_var 1) rfl rfl) padd_nil) (by omega)) (by
        unfold rngD
        rw [show ((q.length : Nat) : Int).toNat = q.length by omega]
        refine List.map_congr_left fun i _ => ?_
        rw [Int.zero_add])) ⟨rfl, fun i r h => h⟩ rfl (fun l i r hl => pgd_name 2 scLotIs.nd) (fun l i r hl => ?_)) (pbd_last (psd_ret pd_bl))
    have hi := List.mem_range.mp (pre_mem hl).1
    obtain ⟨x, hx⟩ : ∃ x, q[i]? = some x := ⟨_, List.getElem?_eq_getElem hi⟩
    have hat : atI (q.map D.int) (i : Int) = some (.int x) := by
      rw [← Int.zero_add (i : Int)]
      exact at_nat (by rw [List.getElem?_map, hx]; rfl)
    have hix : ∀ {X : Cx} {st : Sta} {ow : List OB} {a b : Expr} {pos : Pos}, PD X st ow a (.d (sqD t (q.map D.int))) ow → PD X st ow b (.d (.int (i : Int))) ow → PlainIx b → PD X st ow (.Subscript a b pos) (.d (.int x)) ow := fun h1 h2 h3 => by
      cases t with
      | false => exact pd_ixL h1 h2 hat h3
      | true => exact pd_ixT h1 h2 hat rfl h3
    exact pbd_weak (pbd_skip (bl := false) (ptd_eqB (ptd_bool (pwd_or (ptd_not (ptd_val (pd_cg Ci hr (Nat.le_refl _) (padd_cons (pd_ixT (d := .int x) (pd_var 0) (pd_var 2) hat) padd_nil) ⟨.int x, "int", rfl, rfl, rfl, rfl⟩))) (fun _ => pwd_or1 (ptd_ne (pd_ixT (d := .int x) (pd_var 0) (pd_var 2) hat) (hix (pd_var 1) (pd_var 2) (fun _ _ => rfl)))))) (by simp [isI])) rfl pbd_nil) rfl (by (intro i r h; rcases i with _ | _ | _ | i <;> first | exact h | cases h))
end
end Bl
set_option Elab.async false
set_option linter.all false
set_option maxRecDepth 100000
set_option maxHeartbeats 4000000
namespace Bl
open PySem PySem.Calls PySem.Spec PyProof.Rows L2 PySem.W
/-! ### sorted of a list of tuples that begins with the empty one -/
section
variable {prog : Program} {w : World} {A : Around} {E : Value → Shared → Prop} {s : Shared}
theorem call_tuple_lt {Q : Value → Shared → Prop} {l b : Addr} {items items2 : Array Value} {e r : Nat → Bool} (hl : s.heap.IsTuple l items) (hb : s.heap.IsTuple b items2)
    (he : ∀ j (h1 : j < items.size) (h2 : j < items2.size), SeqAt.EqAt A.in1 s items[j] items2[j] (e j)) (hr : ∀ j (h1 : j < items.size) (h2 : j < items2.size), e j = false → SeqAt.RcLt A.in1 s items[j] items2[j] (r j))
    (h : Q (.bool (SeqAt.firstLt e r (decide (items.size < items2.size)) (List.range (min items.size items2.size)))) s) : wpAny (model prog w) A (call (.builtin "tuple.__lt__") [.ref l, .ref b]) Q E s := by
  obtain ⟨⟨cls, dd, data, sl⟩, ho, hc, n, hd⟩ := id hl
  obtain ⟨⟨cls2, dd2, data2, sl2⟩, ho2, hc2, n2, hd2⟩ := id hb
  simp only at hc hd hc2 hd2
  subst hc hd hc2 hd2
  exact call_meets F.slot_tuple_lt ⟨_, ho, rfl⟩ F.entry_tuple_lt (F.args_tuple_lt_2 _ _) (SeqAt.tuple_ltAt l b items items2 n n2 dd dd2 sl sl2 e r) ⟨ho, ho2, he, hr, h⟩
theorem oneLt_tup {xs ys : List PyData} {a b : Value} {as bs : List Addr} {Q : Bool → Shared → Prop} (ra : Reads s.heap a (.tuple xs) as) (rb : Reads s.heap b (.tuple ys) bs) (hal : alikeAll xs ys = true)
    (hu : A.units + min (PyData.tuple xs).depth (PyData.tuple ys).depth < cLine) (hq : Q (dataLt (.tuple xs) (.tuple ys)) s) : wpAny (model prog w) A (oneLt' true a b) Q E s := by
  cases ra with
  | @tuple l o vs n _ as₁ h1 h2 h3 h4 =>
    cases rb with
    | @tuple l' o' vs' n' _ bs₁ k1 k2 k3 k4 =>
      have n1 : vs.size = xs.length := by simpa using SeqAt.ReadsAll.length _ _ _ h4
      have n2 : vs'.size = ys.length := by simpa using SeqAt.ReadsAll.length _ _ _ k4
      rw [dataLt_tuple, ← firstLt_toks xs ys hal, ← n1, ← n2] at hq
      rw [oneLt'_eq]
      simp only [if_true]
      refine wpAny_bind (wpAny_cRoomFor (SeqAt.room_here hu) ?_)
      refine wpAny_bind (wpAny_callSpecialIfBound?_slot (T := "tuple") ⟨_, h1, h2⟩ F.slot_tuple_lt (call_tuple_lt (e := SeqAt.pairEq xs ys) (r := fun j => dataLt (xs.getD j .none) (ys.getD j .none)) ⟨_, h1, h2, _, h3⟩ ⟨_, k1, k2, _, k3⟩ (fun j j1 j2 => ?_) (fun j j1 j2 hj => ?_) ?_))
      · have := eqAt_alikeAll xs ys A.in1 s vs.toList vs'.toList _ _ h4 k4 hal (SeqAt.room_in hu) j (by simpa using j1) (by simpa using j2)
        simpa using this
      · have := rcLt_alikeAll xs ys A.in1 s vs.toList vs'.toList _ _ h4 k4 hal (SeqAt.room_in hu) j (by simpa using j1) (by simpa using j2) hj
        simpa using this
      · exact wpAny_truthy_bool hq
end
section
variable {M : Model} {A : Around} {E : Value → Shared → Prop} {s : Shared}
theorem mapM_any {α β : Type} {f : α → Sem β} (R : α → β → Prop) : ∀ (l : List α) {Q : List β → Shared → Prop}, (∀ v ∈ l, ∀ (Q' : β → Shared → Prop), (∀ r, R v r → Q' r s) → wpAny M A (f v) Q' E s) → (∀ rs, EachIs R l rs → Q rs s) → wpAny M A (l.mapM f) Q E s
  | [], _, _, h => by rw [List.mapM_nil]; exact wpAny_pure (h [] .nil)
  | x :: l, Q, hf, h => by
    rw [List.mapM_cons]
    exact wpAny_bind (hf x (.head _) _ fun r hr => wpAny_bind (mapM_any R l (Q := fun bs s' => wpAny M A (pure (r :: bs)) Q E s') (fun v hv => hf v (.tail _ hv)) fun rs hrs => wpAny_pure (h _ (.cons hr hrs))))
theorem each_tups {h : Heap} : ∀ {vs : List Value} {ds : List PyData}, EachIs (fun v d => ∃ as, Reads h v d as) vs ds → (∀ d, d ∈ ds → ∃ xs, d = .tuple xs) → ∀ v ∈ vs, ∃ xs as, Reads h v (.tuple xs) as
  | _, _, .nil, _, v, hv => by cases hv
  | _, _, .cons (b := d) ⟨as, r⟩ t, ht, v, hv => by
    rcases List.mem_cons.mp hv with rfl | hv
    · obtain ⟨xs, rfl⟩ := ht d (List.mem_cons_self ..)
      exact ⟨xs, as, r⟩
    · exact each_tups t (fun d hd => ht d (List.mem_cons_of_mem _ hd)) v hv
theorem kind_e {vs : List Value} {ds : List PyData} {Q : SortKind → Shared → Prop} (h2 : 2 ≤ vs.length) (e : EachIs (fun v d => ∃ as, Reads s.heap v d as) vs (.tuple [] :: ds)) (ht : ∀ d, d ∈ ds → ∃ xs, d = .tuple xs) (h : Q oneType' s) : wpAny M A (keyKind' vs.toArray) Q E s := by
  have hT := each_tups e fun d hd => by
    rcases List.mem_cons.mp hd with rfl | hd
    · exact ⟨[], rfl⟩
    · exact ht d hd
  cases e with
  | @cons v₀ _ vr _ he et =>
    obtain ⟨as₀, r₀⟩ := he
    rw [keyKind'_eq, List.mapM_toArray, map_eq_pure_bind]
    refine wpAny_bind (wpAny_bind (mapM_any (fun v r => v = v₀ → r = none) _ (fun v hv Q' hq => ?_) fun rs hrs => wpAny_pure ?_))
    · obtain ⟨xs, as, r⟩ := hT v hv
      rw [kas_first_eq]
      refine wpAny_bind ((looks_reads r).here ?_)
      rw [if_neg (by simp [dataType])]
      cases r with
      | @tuple l o ws n _ as₁ h1 h2' h3 h4 =>
        refine wpAny_bind (listItems_at h1 h3 (wpAny_pure (hq _ fun ev => ?_)))
        subst ev
        cases r₀ with
        | @tuple l' o' ws' n' _ as₂ k1 k2 k3 k4 =>
          have eo : o = o' := Option.some.inj (h1.symm.trans k1)
          subst eo
          have ew : ws = ws' := by
            rw [h3] at k3
            injection k3
          subst ew
          have n1 : ws.size = 0 := by simpa using SeqAt.ReadsAll.length _ _ _ k4
          exact Array.getElem?_eq_none (by omega)
    · cases hrs with
      | @cons _ r1 _ rr hr hrs =>
        rw [hr rfl]
        rw [if_neg (by simp), if_neg (by simp)]
        rw [oneTypeOnly'_eq, List.mapM_toArray, map_eq_pure_bind]
        refine wpAny_bind (wpAny_bind (wpAny_bind (kas_mapM (r := Value.type "tuple") _ (fun v hv Q' hq => ?_) (wpAny_pure ?_))))
        · obtain ⟨xs, as, r⟩ := hT v hv
          exact (looks_reads r).here hq
        · have hall : ((List.map (fun _ => Value.type "tuple") (v₀ :: vr)).toArray.all fun x => x == Value.type "tuple") = true := by
            simp only [List.all_toArray, List.all_map, List.all_eq_true]
            intro _ _
            exact beq_self_eq_true _
          have h0 : (List.map (fun _ => Value.type "tuple") (v₀ :: vr)).toArray[0]? = some (Value.type "tuple") := by simp
          rw [h0]
          simp only [hall, if_true]
          exact wpAny_pure (wpAny_pure h)
end
section
variable {prog : Program} {w : World} {A : Around} {E : Value → Shared → Prop} {s : Shared}
theorem sortsAt_e {vs : List Value} {ds : List PyData} (e : EachIs (fun v d => ∃ as, Reads s.heap v d as) vs (.tuple [] :: ds)) (hal : AllAlike (.tuple [] :: ds)) (ht : ∀ d, d ∈ ds → ∃ xs, d = .tuple xs) (hu : ∀ d, d ∈ (PyData.tuple [] :: ds) → A.units + d.depth < cLine) : SortsAt prog w A s (dataKind s.heap (.tuple [] :: ds)) vs := by
  have ht' : ∀ d, d ∈ (PyData.tuple [] :: ds) → ∃ xs, d = .tuple xs := fun d hd => by
    rcases List.mem_cons.mp hd with rfl | hd
    · exact ⟨[], rfl⟩
    · exact ht d hd
  refine ⟨fun v hv => ?_, oneType', ?_, fun h2 E Q hq => kind_e h2 e ht hq⟩
  · obtain ⟨d, hd, as, r⟩ := e.left v hv
    exact ⟨_, dataKind_some hal hd r⟩
  · intro E x y a b Q ha hb hq
    obtain ⟨d, as, hd, ra, rfl⟩ := dataKind_inv ha
    obtain ⟨d', as', hd', rb, rfl⟩ := dataKind_inv hb
    have hdd := hal d hd d' hd'
    obtain ⟨xs, rfl⟩ := ht' d hd
    obtain ⟨ys, rfl⟩ := ht' d' hd'
    rw [keyLt'_oneType]
    exact oneLt_tup ra rb (by simpa [alike] using hdd) (Nat.lt_of_le_of_lt (Nat.add_le_add_left (Nat.min_le_left _ _) _) (hu _ hd)) hq
theorem sorted_dataE {β : Type} {vs : List Value} {b0 : β} {bs : List β} {enc : β → PyData} {R : Value → β → Prop} {l : Addr} {Q : Value → Shared → Prop} (hl : s.heap.IsList l vs.toArray) (e : EachIs R vs (b0 :: bs)) (er : EachIs (fun v b => ∃ as, Reads s.heap v (enc b) as) vs (b0 :: bs)) (hal : AllAlike ((b0 :: bs).map enc)) (h0 : enc b0 = .tuple []) (ht : ∀ b, ∃ xs, enc b = .tuple xs) (hL : (b0 :: bs).length ≤ sizeLine)
    (hu : ∀ b, b ∈ b0 :: bs → A.units + 2 + (enc b).depth < cLine) (h : ∀ out, out.length = (b0 :: bs).length → EachIs R out ((b0 :: bs).mergeSort (dataLe false enc)) → Q (.ref (s.heap.objs.size + 1)) { s with heap := sortedAll s.heap vs (List.toArray out) }) :
    wpAny (model prog w) A (call (.builtin "sorted") [.ref l]) Q E s := by
  have er' : EachIs (fun v b => ∃ as, Reads (sortingHeap (copyHeap s.heap vs) (s.heap.objs.size + 1) vs) v (enc b) as) vs (b0 :: bs) := er.mono fun _ _ ⟨as, r⟩ => ⟨as, PyProof.Rows.Reads.keeps (fun _ _ => sorting_copy_old) r⟩
  have em : (b0 :: bs).map enc = .tuple [] :: bs.map enc := by rw [List.map_cons, h0]
  have S := sortsAt_e (prog := prog) (w := w) (A := A.in1.in1) (s := { s with heap := sortingHeap (copyHeap s.heap vs) (s.heap.objs.size + 1) vs }) (em ▸ each_map (R := fun v d => ∃ as, Reads (sortingHeap (copyHeap s.heap vs) (s.heap.objs.size + 1) vs) v d as) enc er') (em ▸ hal) (fun d hd => by
    obtain ⟨b, _, rfl⟩ := List.mem_map.mp hd
    exact ht b) (em ▸ bound_map (A := A.in1.in1) hu)
  rw [← em] at S
  exact sorted_vals hl S (by rw [e.length]; exact hL) (h _ (by rw [sortVals_length false rfl]; exact e.length) (sortVals_data false e er' hal))
end
end Bl
set_option Elab.async false
set_option linter.all false
set_option maxRecDepth 100000
set_option maxHeartbeats 8000000
namespace Bl
open PySem PySem.Spec PyProof.Rows L2
open PySem.W in
theorem cr_sortedE {X : Cx} : CallR X (.builtin "sorted") (fun xs H Q => ∃ (a : Addr) (ys : List V) (bs : List (List Int)) (Ry : V → List Int → Prop), xs = [.ref a] ∧ SqL X.K H a ys ∧ Paired Ry ys ([] :: bs) ∧ (∀ y b, Ry y b → Dp X.K H y (encT b)) ∧ bs.length ≤ 1000 ∧ X.A.units + 64 < cLine ∧ ∀ (zs : List V) (p : Addr), Paired Ry zs (([] :: bs).mergeSort leT) → H p = none → Q (.ref p) (upd H p (.lst zs))) := by
  intro pins s σ H xs us Q I r q
  obtain ⟨a, ys, bs, Ry, ex, hd, hp, hRy, hl, hu, q⟩ := q
  subst ex
  obtain ⟨u, eu, rx⟩ := vals1 r
  subst eu
  cases rx
  obtain ⟨its, rv, pl, hz⟩ := I.list hd
  have e1 : ∀ {ys : List V} {bs : List (List Int)} {its : List Value}, Paired Ry ys bs → Vals ys its → EachIs (fun v b => ∃ y, RelV y v ∧ Ry y b) its bs := by
    intro ys bs its h
    induction h generalizing its with
    | nil => intro r; cases r; exact .nil
    | cons h t ih =>
      intro r
      cases r with
      | cons r1 r2 => exact .cons ⟨_, r1, h⟩ (ih r2)
  have e2 : ∀ {out : List Value} {ms : List (List Int)}, EachIs (fun v b => ∃ y, RelV y v ∧ Ry y b) out ms → ∃ zs : List V, Vals zs out ∧ Paired Ry zs ms := by
    intro out ms h
    induction h with
    | nil => exact ⟨[], .nil, .nil⟩
    | cons h t ih =>
      obtain ⟨y, h1, h2⟩ := h
      obtain ⟨zs, g1, g2⟩ := ih
      exact ⟨y :: zs, .cons h1 g1, .cons h2 g2⟩
  have e := e1 hp rv
  have er : EachIs (fun v b => ∃ as, Reads s.heap v (encT b) as) its ([] :: bs) := e.mono fun v b h => by
    obtain ⟨y, h1, h2⟩ := h
    exact Dp.reads I (encT b) y v (hRy y b h2) h1
  have hle : dataLe false encT = leT := by
    funext p q
    show (!dataLt (.tuple (q.map .int)) (.tuple (p.map .int))) = _
    rw [dataLt_tuple]
    rw [show PyProof.Rows.lexLt itemOrd (keyToksAll (q.map .int)) (keyToksAll (p.map .int)) = rowLt (q.map .int) (p.map .int) from rfl, dataLt_ints]
    unfold leT
    by_cases h : q < p
    · have h' : ¬ p ≤ q := fun r => List.not_lt.mpr r h
      simp [h, h']
    · have h' : p ≤ q := List.not_lt.mp h
      simp [h, h']
  refine sorted_dataE (R := fun v b => ∃ y, RelV y v ∧ Ry y b) (enc := encT) pl.isList e er (AllAlike.of fun x y => by unfold encT; simp only [alike]; exact alike_ints x y) rfl (fun b => ⟨_, rfl⟩) (by rw [sizeLine_eq, List.length_cons]; omega) (fun b _ => ?_) fun out hlen eo => ?_
  · have := depth_tt b
    omega
  · rw [hle] at eo
    obtain ⟨zs, evs, pas⟩ := e2 eo
    have kp : ∀ b o, s.heap.get? b = some o → (sortedAll s.heap its (List.toArray out)).get? b = some o := fun b o h => sortedAll_old h
    obtain ⟨c, hc⟩ := sortedAll_at s.heap its (List.toArray out)
    have fr : H (s.heap.objs.size + 1) = none := I.hok.fresh (Nat.le_succ _)
    have hlen2 : zs.length = ([] :: bs).length := by rw [evs.length, hlen]
    exact ⟨.ref (s.heap.objs.size + 1), _, I.laid (t' := s.toks) kp (Nat.le_succ _) (show ObjOk X.prog X.w _ _ _ (.lst zs) from ⟨by rw [hlen2, sizeLine_eq, List.length_cons]; omega, out, c, evs, hc⟩), rfl, q zs _ pas fr⟩
section
variable {X : Cx} {e : Expr} {st : Sta} {ow ow1 : List OB} {p pos : Pos} {k : Nat}
/-- sorted(xs), xs a new list of tuples of ints that begins with the empty one -/
theorem pd_sortedE {bs : List (List Int)} (hu : X.A.units + 64 < cLine) (hm : X.mg "sorted" = none) (ha : PADd X st ow [e] [.lst (tup2 ([] :: bs))] ow1) (hl : bs.length ≤ 1000) (hg : Gl X "sorted" := by rfl) (he : starEach [e] X.env = [(false, eval e X.env)] := by rfl) : PD X st ow (.Call (.Name "sorted" p) [e] [] pos) (.d (.lst (tup2 (([] :: bs).mergeSort leT)))) ow1 :=
  (pe_callB cr_sortedE hg hm (by decide +kernel) ha (by decide) (by decide) he rfl).imp fun σ H Q ⟨S, sl, o, q⟩ => ⟨S, sl, o, fun S1 vs H1 f1 o1 d1 => by
    obtain ⟨v, rfl, g⟩ := dens1 (densOf d1)
    obtain ⟨a, xs, rfl, h1, h2⟩ := g.of_lst
    exact ⟨a, xs, bs, fun y b => Den X.K S1 H1 y (tupI b), rfl, h1.sq, dens_pairD h2, fun y b h => den_py h _ (pyD_t b), hl, hu, fun zs p pz hn => q S1 _ _ (f1.trans o1 (.of (Evl.Ex.new hn))) (o1.ex (Evl.Ex.new hn)) (.d (new_lst o1 hn (pair_densD pz)))⟩⟩
end
section
variable {P : Program} {w : World} {K : PySem.W.Frag} {mg : Str → Option Value} {base : Heap} {f fG : Addr} {fd fdG : FuncData} {k : Nat} {C : Addr}
abbrev sLPl : Stmt := topS 56
abbrev nLPl : List Str := ["_law_size_here", "_law_turns_here", "_law_places_here", "_law_row", "_law_j", "_law_lot_here"]
theorem scLPl : FnScope nLPl ["_law_size_here", "_law_turns_here"] (defScope sLPl) := ⟨rfl, rfl, rfl, by decide +kernel, rfl, by decide +kernel, by decide +kernel⟩
theorem ok_lpl (F0 : Fun K "_law_places" "_law_places" sLPl f fd) (Cr : Fg P w K mg base "_law_rows" k ["_law_size_here", "_law_turns_here"] gRows) (mR : mg "range" = none) (mS : mg "sorted" = none) : FnOk P w K mg base CX0 (k + 1) f fd ["_law_size_here", "_law_turns_here"] (spF K gLPlaces) := by
  refine okF F0 scLPl (fun rs ow r ow' h => ?_) (fun cdv A outer s H E hr rs ow r ow' h => ?_)
  · obtain ⟨n, ts, rfl, _⟩ := h
    rfl
  · obtain ⟨n, ts, rfl, h0, h7, hts, rfl, rfl⟩ := h
    have hu64 := room_u64 hr
    refine pbd_frzRV (ow1 := ow') ?_ rfl
    refine pbd_cons (psd_set 2 scLPl.nd (pd_lstO padd_nil)) ?_
    have hrl : (rowsZ (rngZ n) ts).length ≤ 101 := by unfold rowsZ; rw [List.length_map, List.length_range]; omega
    have hA : ∀ (row : List Int) (s : List (List Int)), ((List.range (n.toNat + 1)).foldl (plR n row) s).length ≤ s.length + 8 := fun row s => by
      have h := lenL (plR n row) 1 (List.range (n.toNat + 1)) s fun s x _ => addP_len s _
      rw [List.length_range] at h
      omega
    refine pbd_cons (psd_forF [3] (rowsZ (rngZ n) ts) lstVI ([] : List (List Int)) (fun s row => (List.range (n.toNat + 1)).foldl (plR n row) s) (fun _ => plSt n ts ow'.length none none none) (fun _ row => plSt n ts ow'.length (some (.d (lstVI row))) none none) (fun s => ow' ++ [.l (lst2 s)]) PassesOwn.never rfl
      (pid_list (pd_cg Cr hr (Nat.le_refl _) (padd_cons (pd_var 0) (padd_cons (pd_var 1) padd_nil)) ⟨n, ts, rfl, h0, by omega, by omega, rfl, rfl⟩)) ⟨rfl, fun i r h => h⟩ rfl (fun l i r hl => pgd_name 3 scLPl.nd) (fun l row r hl => ?_)) ?_
    · obtain ⟨hm1, hm2, hm3⟩ := pre_mem hl
      have hL := lenL (fun s row => (List.range (n.toNat + 1)).foldl (plR n row) s) 8 l ([] : List (List Int)) (fun s x _ => hA x s)
      rw [List.length_nil] at hL
      have hrow : row.length ≤ 7 := by
        obtain ⟨i, _, rfl⟩ := List.mem_map.mp hm1
        rw [(rowAt_perm (rngZ n) (ts.take i)).length_eq, rngZ_len]
        omega
      generalize List.foldl (fun s row => (List.range (n.toNat + 1)).foldl (plR n row) s) [] l = s0 at hL
      have hs0 : s0.length ≤ 808 := by omega
      refine pbd_weak (st1 := plSt n ts ow'.length (some (.d (lstVI row))) none none) (pbd_cons (psd_forF [4] (List.range (n.toNat + 1)) (fun (j : Nat) => D.int (j : Int)) s0 (plR n row) (fun _ => plSt n ts ow'.length (some (.d (lstVI row))) none none) (fun _ j => plSt n ts ow'.length (some (.d (lstVI row))) (some (.d (.int (j : Nat)))) none) (fun s => ow' ++ [.l (lst2 s)]) PassesOwn.never rfl
        (pid_eq (pid_range1 mR (padd_cons (pd_add (pd_var 0) pd_int) padd_nil) (by omega)) (by
          unfold rngD
          rw [show (n + 1).toNat = n.toNat + 1 by omega]
          refine List.map_congr_left fun i _ => ?_
          rw [Int.zero_add])) ⟨rfl, fun i r h => h⟩ rfl (fun l i r hl => pgd_name 4 scLPl.nd) (fun l j r hl => ?_)) pbd_nil) rfl (by (intro i r h; rcases i with _ | _ | _ | _ | _ | _ | i <;> first | exact h | cases h))
      obtain ⟨hj1, hj2, hj3⟩ := pre_mem hl
      rw [List.length_range] at hj3
      have hL2 := lenL (plR n row) 1 l s0 (fun s x _ => addP_len s _)
      generalize List.foldl (plR n row) s0 l = s1 at hL2
      refine pbd_cons (psd_set 5 scLPl.nd (pd_sortedV (ns := row.take j) mS (padd_cons (pd_eqD (pd_slL (pd_lstW (pd_var 3)) pod_none (pod_some (pd_var 4))) (by rw [cut_take, List.map_take])) padd_nil) (by rw [List.length_take]; omega))) ?_
      refine pbd_weak (st1 := plSt n ts ow'.length (some (.d (lstVI row))) (some (.d (.int (j : Nat)))) (some (.d (lstVI (isort (row.take j)))))) (pbd_cons (psd_if (ptd_notInLO (l := s1) (ns := isort (row.take j)) hu64 (pd_lstW (pd_var 5)) (pd_var 2) app_get) (fun hb => ?_) (fun hb => ?_)) pbd_nil) rfl (by (intro i r h; rcases i with _ | _ | _ | _ | _ | _ | i <;> first | exact h | cases h))
      · rw [Bool.not_eq_true', decide_eq_false_iff_not] at hb
        unfold plR addP
        rw [if_neg hb]
        refine pbd_cons (psd_expr (pd_ow (pd_append (pd_var 2) (pd_var 5) ⟨_, app_get⟩ app_get ?_) ?_)) pbd_nil
        · unfold lst2; rw [List.length_map]; omega
        · rw [set_last]
          unfold lst2
          rw [List.map_append]
          rfl
      · rw [Bool.not_eq_false', decide_eq_true_eq] at hb
        unfold plR addP
        rw [if_pos hb]
        exact pbd_nil
    · exact pbd_last (psd_ret (pd_var 2))
/-! ### _law_spots, _law_hand -/
abbrev sSpots : Stmt := topS 60
theorem scSpots : FnScope ["_law_size_here", "_law_turns_here", "_law_lot_here"] ["_law_size_here", "_law_turns_here"] (defScope sSpots) := ⟨rfl, rfl, rfl, by decide +kernel, rfl, by decide +kernel, by decide +kernel⟩
def spotsZ (n : Int) (ts : List Trn) : List (List Int) := (placesZ n (rowsZ (rngZ n) ts)).mergeSort leT
def gSpots : GG := fun rs ow r ow' => ∃ (n : Int) (ts : List Trn), rs = [.d (.int n), .d (.lst (ts.map turnD))] ∧ 0 ≤ n ∧ n ≤ 7 ∧ ts.length ≤ 100 ∧ r = .d (.lst (tup2 (spotsZ n ts))) ∧ ow' = ow
theorem fold_head {α β : Type} (ff : List β → α → List β) (h : ∀ s x, ∃ m, ff s x = s ++ m) : ∀ (l : List α) (s : List β), ∃ m, l.foldl ff s = s ++ m
  | [], s => ⟨[], by simp⟩
  | x :: l, s => by
    obtain ⟨m1, e1⟩ := h s x
    obtain ⟨m2, e2⟩ := fold_head ff h l (ff s x)
    exact ⟨m1 ++ m2, by rw [List.foldl_cons, e2, e1, List.append_assoc]⟩
theorem addP_app (s : List (List Int)) (x : List Int) : ∃ m, addP s x = s ++ m := by
  unfold addP
  split
  · exact ⟨[], by simp⟩
  · exact ⟨[x], rfl⟩
theorem places_head {n : Int} {row : List Int} {rows : List (List Int)} : ∃ m, placesZ n (row :: rows) = [] :: m := by
  unfold placesZ
  rw [List.foldl_cons]
  obtain ⟨m1, e1⟩ := fold_head (fun s row => (List.range (n.toNat + 1)).foldl (plR n row) s) (fun s row => fold_head (plR n row) (fun s j => addP_app _ _) _ _) rows ((List.range (n.toNat + 1)).foldl (plR n row) [])
  rw [e1, List.range_succ_eq_map, List.foldl_cons]
  obtain ⟨m2, e2⟩ := fold_head (plR n row) (fun s j => addP_app _ _) ((List.range n.toNat).map Nat.succ) (plR n row [] 0)
  rw [e2]
  exact ⟨m2 ++ m1, rfl⟩
theorem ok_spots (F0 : Fun K "_law_spots" "_law_spots" sSpots f fd) (C1 : Fg P w K mg base "_law_places" k ["_law_size_here", "_law_turns_here"] gLPlaces) (mS : mg "sorted" = none) (mT : mg "tuple" = none) : FnOk P w K mg base CX0 (k + 1) f fd ["_law_size_here", "_law_turns_here"] (spF K gSpots) := by
  refine okF F0 scSpots (fun rs ow r ow' h => ?_) (fun cdv A outer s H E hr rs ow r ow' h => ?_)
  · obtain ⟨n, ts, rfl, _⟩ := h
    rfl
  · obtain ⟨n, ts, rfl, h0, h7, hl, rfl, rfl⟩ := h
    have hu := room_u64 hr
    have hrl : (rowsZ (rngZ n) ts).length = ts.length + 1 := by unfold rowsZ; rw [List.length_map, List.length_range]
    have hpl := places_len n (rowsZ (rngZ n) ts)
    rw [hrl] at hpl
    have hpl2 : (ts.length + 1) * (n.toNat + 1) ≤ 101 * 8 := Nat.mul_le_mul (by omega) (by omega)
    obtain ⟨m, hm⟩ : ∃ m, placesZ n (rowsZ (rngZ n) ts) = [] :: m := by
      cases hr2 : rowsZ (rngZ n) ts with
      | nil => rw [hr2] at hrl; cases hrl
      | cons row rows => exact places_head
    rw [hm, List.length_cons] at hpl
    unfold spotsZ
    rw [hm]
    refine pbd_last (psd_ret (pd_sortedE (bs := m) hu mS (padd_cons (pd_eqD (pd_lc (own := [("_law_lot_here", 2)]) ([] :: m) lstVI (fun q => [some (.d (.int n)), some (.d (.lst (ts.map turnD))), some (.d (lstVI q))]) (fun _ => true) tupI
      rfl scSpots.nd (pid_list (pd_lstW (pd_eqD (pd_cg C1 hr (Nat.le_refl _) (padd_cons (pd_var 0) (padd_cons (pd_var 1) padd_nil)) ⟨n, ts, rfl, h0, h7, hl, rfl, rfl⟩) (by rw [hm]; rfl)))) (blkOk_by (N := ["_law_size_here", "_law_turns_here", "_law_lot_here"]) (sc := defScope sSpots) (by decide +kernel)) (by rw [List.length_cons]; omega) (fun q hq _ H C' cl fp => pgd_name 2 scSpots.nd) (fun q hq l _ H C' cl fp => ptsd_nil)
      (fun q hq _ l _ H C' cl fp => pd_tupleL mT (padd_cons (pd_lstW (pd_var 2)) padd_nil))) (by rw [List.filter_eq_self.mpr (fun _ _ => rfl)]; rfl)) padd_nil) (by omega)))
abbrev sHand : Stmt := topS 62
theorem scHand : FnScope ["_law_word", "_law_lot_here", "_law_row"] ["_law_word", "_law_lot_here"] (defScope sHand) := ⟨rfl, rfl, rfl, by decide +kernel, rfl, by decide +kernel, by decide +kernel⟩
def handT (w : Int) : Bool := decide (w % 3 = 2)
def handL (w : Int) (q : List Int) : List Int := if w % 3 = 0 then q else q.reverse
def gHand : GG := fun rs ow r ow' => ∃ (v : Int) (q : List Int), rs = [.d (.int v), .d (tupI q)] ∧ r = .d (sqD (handT v) ((handL v q).map D.int)) ∧ ow' = ow
theorem ok_hand (F0 : Fun K "_law_hand" "_law_hand" sHand f fd) (mL : mg "list" = none) (mI : mg "int" = none) (mT : mg "tuple" = none) : FnOk P w K mg base CX0 (k + 1) f fd ["_law_word", "_law_lot_here"] (spF K gHand) := by
  refine okF F0 scHand (fun rs ow r ow' h => ?_) (fun cdv A outer s H E hr rs ow r ow' h => ?_)
  · obtain ⟨v, q, rfl, _⟩ := h
    rfl
  · obtain ⟨v, q, rfl, rfl, rfl⟩ := h
    have h3 : v % 3 = 0 ∨ v % 3 = 1 ∨ v % 3 = 2 := by omega
    rcases h3 with h3 | h3 | h3
    · have e1 : handT v = false := decide_eq_false (by omega)
      have e2 : handL v q = q := if_pos h3
      rw [e1, e2]
      refine pbd_frzR (l := q.map D.int) ?_ rfl
      refine pbd_cons (psd_set 2 scHand.nd (pd_listO mL (pd_var 1) rfl)) ?_
      exact pbd_take (bl := true) (ptd_eqB (ptd_eq (pd_mod (pd_int1 mI (padd_cons (pd_var 0) padd_nil)) pd_int (by decide)) pd_int) (by rw [iv_eq]; exact decide_eq_true h3)) rfl (pbd_last (psd_ret (pd_var 2)))
    · have e1 : handT v = false := decide_eq_false (by omega)
      have e2 : handL v q = q.reverse := if_neg (by omega)
      rw [e1, e2]
      refine pbd_frzR (l := q.reverse.map D.int) ?_ rfl
      refine pbd_cons (psd_set 2 scHand.nd (pd_listO mL (pd_var 1) rfl)) ?_
      refine pbd_skip (bl := false) (ptd_eqB (ptd_eq (pd_mod (pd_int1 mI (padd_cons (pd_var 0) padd_nil)) pd_int (by decide)) pd_int) (by rw [iv_eq]; exact decide_eq_false (by omega))) rfl ?_
      refine pbd_cons (psd_expr (pd_ow (pd_reverse (pd_var 2) app_get) (set_last.trans (by rw [← List.map_reverse]) : _ = ow' ++ [.l (q.reverse.map D.int)]))) ?_
      exact pbd_take (bl := true) (ptd_eqB (ptd_eq (pd_mod (pd_int1 mI (padd_cons (pd_var 0) padd_nil)) pd_int (by decide)) pd_int) (by rw [iv_eq]; exact decide_eq_true h3)) rfl (pbd_last (psd_ret (pd_var 2)))
    · have e1 : handT v = true := decide_eq_true h3
      have e2 : handL v q = q.reverse := if_neg (by omega)
      rw [e1, e2]
      refine pbd_drop (b := .l (q.reverse.map D.int)) ?_ rfl
      refine pbd_cons (psd_set 2 scHand.nd (pd_listO mL (pd_var 1) rfl)) ?_
      refine pbd_skip (bl := false) (ptd_eqB (ptd_eq (pd_mod (pd_int1 mI (padd_cons (pd_var 0) padd_nil)) pd_int (by decide)) pd_int) (by rw [iv_eq]; exact decide_eq_false (by omega))) rfl ?_
      refine pbd_cons (psd_expr (pd_ow (pd_reverse (pd_var 2) app_get) (set_last.trans (by rw [← List.map_reverse]) : _ = ow' ++ [.l (q.reverse.map D.int)]))) ?_
      refine pbd_skip (bl := false) (ptd_eqB (ptd_eq (pd_mod (pd_int1 mI (padd_cons (pd_var 0) padd_nil)) pd_int (by decide)) pd_int) (by rw [iv_eq]; exact decide_eq_false (by omega))) rfl ?_
      exact pbd_last (psd_ret (pd_tupleO mT (pd_var 2) app_get))
end
end Bl
set_option Elab.async false
set_option linter.all false
set_option maxRecDepth 100000
set_option maxHeartbeats 8000000
namespace Bl
open PySem PySem.Spec PyProof.Rows L2
section
variable {P : Program} {w : World} {K : PySem.W.Frag} {mg : Str → Option Value} {base : Heap} {f fG : Addr} {fd fdG : FuncData} {k : Nat} {C : Addr}
/-! ### is_place, weight -/
abbrev sIsPlace : Stmt := topS 40
theorem scIsPlace : FnScope ["chart", "lot", "names"] ["chart", "lot"] (defScope sIsPlace) := ⟨rfl, rfl, rfl, by decide +kernel, rfl, by decide +kernel, by decide +kernel⟩
def gIsPlace (C : Addr) : GG := fun rs ow r ow' => ∃ (n : Int) (F : List Int → Int) (t : Bool) (pl : List Int), rs = [.d (chartD C n (cns n F)), .d (sqD t (pl.map D.int))] ∧ LotIn n pl ∧ 1 ≤ n ∧ n ≤ 7 ∧ badF n (cns n F) = none ∧ r = .d (.bl (!(wrongF n F (isort pl)).isSome)) ∧ ow' = ow
theorem ok_isPlace (F0 : Fun K "is_place" "is_place" sIsPlace f fd) (T : ChTxt K C) (C1 : Fg P w K mg base "check_chart" k ["chart"] (gCheckChart C)) (C2 : Fg P w K mg base "lot_of" k ["value", "size"] gLotOf) (C3 : Fg P w K mg base "check_sound" k ["chart"] (gChkSound C)) (C4 : Fg P w K mg base "first_wrong" k ["chart", "lot"] (gFirstWr C)) : FnOk P w K mg base CX0 (k + 1) f fd ["chart", "lot"] (spF K (gIsPlace C)) := by
  refine okF F0 scIsPlace (fun rs ow r ow' h => ?_) (fun cdv A outer s H E hr rs ow r ow' h => ?_)
  · obtain ⟨n, F, t, pl, rfl, _⟩ := h
    rfl
  · obtain ⟨n, F, t, pl, rfl, hl, h1, h7, hb, rfl, rfl⟩ := h
    refine pbd_cons (psd_expr (pd_cg C1 hr (Nat.le_refl _) (padd_cons (pd_var 0) padd_nil) ⟨_, rfl, rfl, rfl⟩)) ?_
    refine pbd_cons (psd_set 2 scIsPlace.nd (pd_cg C2 hr (Nat.le_refl _) (padd_cons (pd_var 1) (padd_cons (pd_fld (pd_var 0) T.cl T.size (chF_size n _)) padd_nil)) ⟨t, n, pl, rfl, hl, h1, by omega, rfl, rfl⟩)) ?_
    refine pbd_cons (psd_expr (pd_cg C3 hr (Nat.le_refl _) (padd_cons (pd_var 0) padd_nil) ⟨n, cns n F, rfl, by omega, fours_F (by omega) h7 F, hb, rfl, rfl⟩)) ?_
    exact pbd_last (psd_ret (pd_eqD (pd_isN (pd_cg C4 hr (Nat.le_refl _) (padd_cons (pd_var 0) (padd_cons (pd_var 2) padd_nil)) ⟨n, F, isort pl, rfl, by omega, h7, rfl, rfl⟩) pd_non) (by rw [nonD_opt])))
/-! ### _law_is_table, with no number below 0 -/
/-! ### _law_both_edges -/
end
end Bl
set_option Elab.async false
set_option linter.all false
set_option maxRecDepth 100000
set_option maxHeartbeats 8000000
namespace Bl
open PySem PySem.Spec PyProof.Rows L2
section
variable {X : Cx} {e o : Expr} {st : Sta} {ow ow1 ow2 : List OB} {apos cpos : Pos} {i : Int} {ns : List Int}
theorem mt_lcount : MtR X "list.count" (fun x xs H Q => ∃ (p : Addr) (ns : List Int) (k : Int), x = .ref p ∧ xs = [.int k] ∧ H p = some (.lst (ns.map V.int)) ∧ Q (.int (ns.count k : Nat)) H) := by
  intro pins s σ H x xs v us Q I rx rxs h
  obtain ⟨p, ns, k, rfl, rfl, hs, q⟩ := h
  cases rx
  obtain ⟨u, rfl, ru⟩ := rxs.one
  obtain ⟨t, rfl⟩ := ru
  obtain ⟨hz, its, n, rv, ho⟩ := I.hok p _ hs
  have hi := ints_of_vals rv
  refine call_meets PySem.F.slot_list_count ⟨_, ho, rfl⟩ PySem.F.entry_list_count (PySem.F.args_list_count_2 _ _)
    (SeqAt.list_countAt p its.toArray n none #[] (.int k t) (eqk k)) ⟨ho, fun y hy => (eqk_gives hi y (by simpa using hy)).at _ _, ?_⟩
  have ec : its.toArray.toList.countP (eqk k) = ns.count k := eqk_count hi
  refine ⟨.int (ns.count k : Nat), H, I.tok _, ⟨s.toks, ?_⟩, q⟩
  show Value.int ((its.toArray.toList.countP (eqk k) : Nat) : Int) s.toks = Value.int ((ns.count k : Nat) : Int) s.toks
  rw [ec]
/-- xs.count(i), xs a live list of ints -/
theorem pd_lcount (ho : PD X st ow o (.d (.lstV (ns.map D.int))) ow1) (ha : PD X st ow1 e (.d (.int i)) ow2) (h1 : attributeBase o "count" X.env (eval o X.env) = eval o X.env := by rfl)
    (h2 : ((backTo cpos (starEach [e] X.env)).all (fun x => !x.1) && (backToKw cpos (keywordEach [] X.env)).all (fun x => x.1.isSome) && decide ([e].length + ([] : List Keyword).length + (if ([] : List Keyword).isEmpty then 0 else 1) < 30)) = true := by rfl)
    (h3 : (apos.endLine == cpos.line) = true := by rfl) (h4 : starEach [e] X.env = (false, eval e X.env) :: starEach [] X.env := by rfl) (h5 : (backTo cpos (starEach [] X.env)).any (·.1) = false := by rfl) : PD X st ow (.Call (.Attribute o "count" apos) [e] [] cpos) (.d (.int (ns.count i : Nat))) ow2 :=
  (pe_bm PySem.F.plainAttrs_list PySem.F.slot_list_count PySem.F.type_list_count mt_lcount ho (pa_cons ha pa_nil h4) h1 h2 h3 h4 h5).imp fun σ H Q ⟨S, sl, o, q⟩ => ⟨S, sl, o, fun S1 v H1 f1 o1 d1 => by
    cases d1 with
    | d d1 =>
      have d1' := d1
      cases d1' with
      | lstV n h r =>
        refine ⟨own_tyL h, S1, f1.slots sl, o1, fun S2 w H2 f2 o2 d2 => ?_⟩
        cases d2 with
        | d d2 =>
          have d3 : Den X.K S2 H2 _ (.lstV (ns.map D.int)) := f2.den d1
          cases d3 with
          | lstV n3 h3 r3 =>
            have e3 := Dens.ints r3
            subst e3
            exact ⟨_, ns, i, rfl, by rw [d2.of_int], h3, q S2 _ _ (f1.trans o1 f2) o2 (.d (.int _))⟩⟩
end
/-! ### the least wrong three, as the law finds it -/
def lw3 (F : List Int → Int) (lot : List Int) (i j k : Int) : Option R := if wrongB F lot [i, j, k] = true then some (.d (tupI [i, j, k])) else none
def lw2 (n : Int) (F : List Int → Int) (lot : List Int) (i j : Int) : Option R := (upr n j).findSome? (lw3 F lot i j)
def lw1 (n : Int) (F : List Int → Int) (lot : List Int) (i : Int) : Option R := (upr n i).findSome? (lw2 n F lot i)
def n3l (n : Int) : List (List Int) := (rngZ n).flatMap fun i => (upr n i).flatMap fun j => (upr n j).map fun k => [i, j, k]
theorem n3l_eq {n : Int} (h0 : 0 ≤ n) (h : n ≤ 7) : n3l n = sub3 (rngZ n) := by
  have : n = 0 ∨ n = 1 ∨ n = 2 ∨ n = 3 ∨ n = 4 ∨ n = 5 ∨ n = 6 ∨ n = 7 := by omega
  rcases this with rfl | rfl | rfl | rfl | rfl | rfl | rfl | rfl <;> decide +kernel
theorem lw_eq {n : Int} (h0 : 0 ≤ n) (h : n ≤ 7) (F : List Int → Int) (lot : List Int) : (rngZ n).findSome? (lw1 n F lot) = (wrongF n F lot).map fun q => R.d (tupI q) := by
  unfold wrongF
  rw [← findSome_if, ← n3l_eq h0 h]
  unfold n3l
  rw [findSome_flat]
  congr 1
  funext i
  rw [findSome_flat]
  unfold lw1
  congr 1
  funext j
  rw [List.findSome?_map]
  rfl
section
variable {P : Program} {w : World} {K : PySem.W.Frag} {mg : Str → Option Value} {base : Heap} {f fG : Addr} {fd fdG : FuncData} {k : Nat} {C : Addr}
/-! ### _law_wrong_three -/
abbrev sLWr : Stmt := topS 63
abbrev nLWr : List Str := ["_law_size_here", "_law_table_here", "_law_lot_here", "_law_i", "_law_j", "_law_k", "_law_sign", "_law_outer", "_law_middle"]
theorem scLWr : FnScope nLWr ["_law_size_here", "_law_table_here", "_law_lot_here"] (defScope sLWr) := ⟨rfl, rfl, rfl, by decide +kernel, rfl, by decide +kernel, by decide +kernel⟩
def gLWr : GG := fun rs ow r ow' => ∃ (n : Int) (F : List Int → Int) (tt : Bool) (lot : List Int), rs = [.d (.int n), .d (.dT (tabI (tabF n F))), .d (sqD tt (lot.map D.int))] ∧ 0 ≤ n ∧ n ≤ 7 ∧ r = .d (optD (wrongF n F lot)) ∧ ow' = ow
abbrev lwSt (n : Int) (F : List Int → Int) (tt : Bool) (lot : List Int) (i j k s u m : Option R) : Sta := [some (.d (.int n)), some (.d (.dT (tabI (tabF n F)))), some (.d (sqD tt (lot.map D.int))), i, j, k, s, u, m]
theorem ok_lwr (F0 : Fun K "_law_wrong_three" "_law_wrong_three" sLWr f fd) (mR : mg "range" = none) : FnOk P w K mg base CX0 (k + 1) f fd ["_law_size_here", "_law_table_here", "_law_lot_here"] (spF K gLWr) := by
  refine okF F0 scLWr (fun rs ow r ow' h => ?_) (fun cdv A outer s H E hr rs ow r ow' h => ?_)
  · obtain ⟨n, F, tt, lot, rfl, _⟩ := h
    rfl
  · obtain ⟨n, F, tt, lot, rfl, h0, h1, rfl, rfl⟩ := h
    have hu := room_u hr
    have he := lw_eq h0 h1 F lot
    refine pbd_forS [3] (lwSt n F tt lot none none none none none none) (rngZ n) D.int (lw1 n F lot) (fun i => lwSt n F tt lot (some (.d (.int i))) none none none none none) PassesOwn.never rfl (pid_eq (pid_range1 mR (padd_cons (pd_var 0) padd_nil) (by omega)) (rngD_Z n)) ⟨rfl, fun i r h => h⟩ (fun i hi => pgd_name 3 scLWr.nd) (fun i hi => ?_) (fun hn => ?_) (fun r hs => ?_)
    · have hi := mem_rngZ hi
      refine pbd_forS [4] (lwSt n F tt lot (some (.d (.int i))) none none none none none) (upr n i) D.int (lw2 n F lot i) (fun j => lwSt n F tt lot (some (.d (.int i))) (some (.d (.int j))) none none none none) PassesOwn.never rfl (pid_eq (pid_range2 mR (padd_cons (pd_add (pd_var 3) pd_int) (padd_cons (pd_var 0) padd_nil)) (by omega) (by omega)) (rgZ_D _ _)) ⟨rfl, fun i r h => h⟩ (fun i hi => pgd_name 4 scLWr.nd) (fun j hj => ?_)
        (fun hn => by rw [show lw1 n F lot i = none from hn]; exact pbd_weak pbd_nil rfl (by (intro i r h; rcases i with _ | _ | _ | _ | _ | _ | _ | _ | _ | i <;> first | exact h | cases h))) (fun r hs => by rw [show lw1 n F lot i = some r from hs]; rfl)
      have hj := mem_upr hj
      refine pbd_forS [5] (lwSt n F tt lot (some (.d (.int i))) (some (.d (.int j))) none none none none) (upr n j) D.int (lw3 F lot i j) (fun k => lwSt n F tt lot (some (.d (.int i))) (some (.d (.int j))) (some (.d (.int k))) none none none) PassesOwn.never rfl (pid_eq (pid_range2 mR (padd_cons (pd_add (pd_var 4) pd_int) (padd_cons (pd_var 0) padd_nil)) (by omega) (by omega)) (rgZ_D _ _)) ⟨rfl, fun i r h => h⟩ (fun i hi => pgd_name 5 scLWr.nd) (fun k hk => ?_)
        (fun hn => by rw [show lw2 n F lot i j = none from hn]; exact pbd_weak pbd_nil rfl (by (intro i r h; rcases i with _ | _ | _ | _ | _ | _ | _ | _ | _ | i <;> first | exact h | cases h))) (fun r hs => by rw [show lw2 n F lot i j = some r from hs]; rfl)
      have hk := mem_upr hk
      have m1 := mem_sub3 h0 h1 hi.1 hj.1 hk.1 hk.2
      have hw : ((decide (i ∈ lot) && (!decide (j ∈ lot) && decide (k ∈ lot))) && decide (0 ≤ F [i, j, k]) || (!decide (i ∈ lot) && (decide (j ∈ lot) && !decide (k ∈ lot))) && decide (F [i, j, k] ≤ 0)) = wrongB F lot [i, j, k] := by
        unfold wrongB
        show _ = ((decide (0 ≤ F [i, j, k]) && (decide (i ∈ lot) && (decide (k ∈ lot) && !decide (j ∈ lot)))) || (decide (F [i, j, k] ≤ 0) && (decide (j ∈ lot) && (!decide (i ∈ lot) && !decide (k ∈ lot)))))
        cases decide (i ∈ lot) <;> cases decide (j ∈ lot) <;> cases decide (k ∈ lot) <;> cases decide (0 ≤ F [i, j, k]) <;> cases decide (F [i, j, k] ≤ 0) <;> rfl
      refine pbd_cons (psd_set 6 scLWr.nd (pd_getT (ns := [i, j, k]) hu (pd_var 1) (pd_tup (padd_cons (pd_var 3) (padd_cons (pd_var 4) (padd_cons (pd_var 5) padd_nil)))) (lookI_some (lookI_F m1)))) ?_
      refine pbd_cons (psd_set 7 scLWr.nd (pd_and (pd_in (ns := lot) (pd_var 3) (pd_var 2) (seq_sq _ _)) fun _ => pd_and (pd_notInV (ns := lot) (pd_var 4) (pd_var 2) (seq_sq _ _)) fun _ => pd_one (pd_in (ns := lot) (pd_var 5) (pd_var 2) (seq_sq _ _)))) ?_
      refine pbd_cons (psd_set 8 scLWr.nd (pd_and (pd_notInV (ns := lot) (pd_var 3) (pd_var 2) (seq_sq _ _)) fun _ => pd_and (pd_in (ns := lot) (pd_var 4) (pd_var 2) (seq_sq _ _)) fun _ => pd_one (pd_notInV (ns := lot) (pd_var 5) (pd_var 2) (seq_sq _ _)))) ?_
      have ht : ∀ {X : Cx}, True := trivial
      unfold lw3
      cases hg : wrongB F lot [i, j, k] with
      | false =>
        exact pbd_weak (st1 := lwSt n F tt lot (some (.d (.int i))) (some (.d (.int j))) (some (.d (.int k))) (some (.d (.int (F [i, j, k])))) (some (.d (.bl (decide (i ∈ lot) && (!decide (j ∈ lot) && decide (k ∈ lot)))))) (some (.d (.bl (!decide (i ∈ lot) && (decide (j ∈ lot) && !decide (k ∈ lot))))))) (pbd_skip (bl := false) (ptd_eqB (ptd_bool (pwd_or (ptd_bool (pwd_and (ptd_val (pd_var 7)) fun _ => pwd_and1 (ptd_ge (pd_var 6) pd_int))) fun _ => pwd_or1 (ptd_bool (pwd_and (ptd_val (pd_var 8)) fun _ => pwd_and1 (ptd_le (pd_var 6) pd_int))))) (by rw [hw, hg])) rfl pbd_nil) rfl (by (intro i r h; rcases i with _ | _ | _ | _ | _ | _ | _ | _ | _ | i <;> first | exact h | cases h))
      | true =>
        exact pbd_take (bl := true) (ptd_eqB (ptd_bool (pwd_or (ptd_bool (pwd_and (ptd_val (pd_var 7)) fun _ => pwd_and1 (ptd_ge (pd_var 6) pd_int))) fun _ => pwd_or1 (ptd_bool (pwd_and (ptd_val (pd_var 8)) fun _ => pwd_and1 (ptd_le (pd_var 6) pd_int))))) (by rw [hw, hg])) rfl (pbd_last (psd_ret (pd_tup (padd_cons (pd_var 3) (padd_cons (pd_var 4) (padd_cons (pd_var 5) padd_nil))))))
    · rw [he] at hn
      cases hb : wrongF n F lot with
      | none => exact pbd_last (psd_ret pd_non)
      | some q => rw [hb] at hn; cases hn
    · rw [he] at hs
      cases hb : wrongF n F lot with
      | none => rw [hb] at hs; cases hs
      | some q => rw [hb] at hs; cases hs; rfl
end
end Bl
set_option Elab.async false
set_option linter.all false
set_option maxRecDepth 100000
set_option maxHeartbeats 8000000
namespace Bl
open PySem PySem.Spec PyProof.Rows L2
open scoped List
/-! ### how many threes are wrong, by signs -/
theorem cnt_sum (p : List Int → Bool) (F : List Int → Int) (c : Int) : ∀ l : List (List Int), ((((l.filter p).map F).count c : Nat) : Int) = (l.map fun t => if (p t && decide (F t = c)) = true then 1 else 0).sum
  | [] => rfl
  | x :: l => by
    have ih := cnt_sum p F c l
    rw [List.map_cons, List.sum_cons, ← ih, List.filter_cons]
    cases hp : p x
    · rw [if_neg (by decide), if_neg (by simp)]
      omega
    · rw [if_pos rfl, List.map_cons, List.count_cons]
      by_cases h : F x = c
      · rw [if_pos (by rw [h]; simp), if_pos (by rw [decide_eq_true h]; rfl)]
        omega
      · rw [if_neg (by simp [h]), if_neg (by rw [decide_eq_false h]; decide)]
        omega
section
variable {n : Int} {F : List Int → Int} {D : List Int}
theorem wr_sums (l : List (List Int)) : ((((l.filter (wrongB F D)).map F).count 1 : Nat) : Int) = (l.map (w0Q F D)).sum ∧ ((((l.filter (wrongB F D)).map F).count (-1) : Nat) : Int) = (l.map (w1Q F D)).sum ∧ ((((l.filter (wrongB F D)).map F).count 0 : Nat) : Int) = (l.map (w2Q F D)).sum := by
  refine ⟨?_, ?_, ?_⟩ <;> rw [cnt_sum] <;> congr 1 <;> refine List.map_congr_left fun t _ => ?_
  · unfold wrongB w0Q
    congr 2
    by_cases h : F t = 1
    · rw [h]
      cases decide (t.getD 0 0 ∈ D) <;> cases decide (t.getD 1 0 ∈ D) <;> cases decide (t.getD 2 0 ∈ D) <;> rfl
    · rw [decide_eq_false h, Bool.and_false]
      rfl
  · unfold wrongB w1Q
    congr 2
    by_cases h : F t = -1
    · rw [h]
      cases decide (t.getD 0 0 ∈ D) <;> cases decide (t.getD 1 0 ∈ D) <;> cases decide (t.getD 2 0 ∈ D) <;> rfl
    · rw [decide_eq_false h, Bool.and_false]
      rfl
  · unfold wrongB w2Q
    congr 2
    by_cases h : F t = 0
    · rw [h]
      cases decide (t.getD 0 0 ∈ D) <;> cases decide (t.getD 1 0 ∈ D) <;> cases decide (t.getD 2 0 ∈ D) <;> rfl
    · rw [decide_eq_false h, Bool.and_false]
      rfl
theorem wr_nonneg (l : List (List Int)) : 0 ≤ (l.map (w0Q F D)).sum ∧ 0 ≤ (l.map (w1Q F D)).sum ∧ 0 ≤ (l.map (w2Q F D)).sum := by
  obtain ⟨a, b, c⟩ := wr_sums (F := F) (D := D) l
  omega
theorem wr_total (sF : SgnF F) (l : List (List Int)) : (l.map (w0Q F D)).sum + (l.map (w1Q F D)).sum + (l.map (w2Q F D)).sum = ((l.filter (wrongB F D)).length : Int) := by
  obtain ⟨a, b, c⟩ := wr_sums (F := F) (D := D) l
  rw [← a, ← b, ← c]
  have : ∀ m : List Int, (∀ x ∈ m, -1 ≤ x ∧ x ≤ 1) → m.count 1 + m.count (-1) + m.count 0 = m.length := fun m => by
    induction m with
    | nil => intro _; rfl
    | cons x m ih =>
      intro h
      have ih := ih fun y hy => h y (List.mem_cons_of_mem _ hy)
      have hx := h x List.mem_cons_self
      rw [List.count_cons, List.count_cons, List.count_cons, List.length_cons]
      have : x = 1 ∨ x = -1 ∨ x = 0 := by omega
      rcases this with rfl | rfl | rfl <;> simp <;> omega
  have h := this ((l.filter (wrongB F D)).map F) fun x hx => by
    obtain ⟨t, _, rfl⟩ := List.mem_map.mp hx
    exact sF t
  rw [List.length_map] at h
  omega
theorem wrong_none (sF : SgnF F) : wrongF n F D = none ↔ wr0 n F D + wr1 n F D + wr2 n F D = 0 := by
  unfold wr2
  rw [← wr0_sum, ← wr1_sum, wr_total sF]
  unfold wrongF
  rw [List.find?_eq_none]
  constructor
  · intro h
    rw [List.filter_eq_nil_iff.mpr fun x hx => h x hx]
    rfl
  · intro h x hx hb
    have h1 : (sub3 (rngZ n)).filter (wrongB F D) = [] := List.length_eq_zero_iff.mp (by omega)
    exact (List.filter_eq_nil_iff.mp h1) x hx hb
theorem wrong_pos (sF : SgnF F) {q : List Int} (h : wrongF n F D = some q) : 0 < wr0 n F D + wr1 n F D + wr2 n F D := by
  have h1 := wr_nonneg (F := F) (D := D) (sub3 (rngZ n))
  rw [wr0_sum, wr1_sum] at h1
  have h2 : ¬ wr0 n F D + wr1 n F D + wr2 n F D = 0 := fun z => by
    rw [(wrong_none sF).mpr z] at h
    cases h
  have h3 : 0 ≤ wr2 n F D := h1.2.2
  omega
end
theorem mem_same {D : List Int} : ∀ x, decide (x ∈ isort D) = decide (x ∈ D) := fun x => decide_eq_decide.mpr (isort_perm D).mem_iff
theorem wrongB_same (F : List Int → Int) (D : List Int) : wrongB F (isort D) = wrongB F D := by
  funext t
  unfold wrongB
  simp only [mem_same]
section
variable {X : Cx} {a b : Expr} {st : Sta} {ow ow1 ow2 : List OB} {pos : Pos} {p q : Bool}
theorem op_isT {X : Cx} : OpR X (compareOp .Is) (fun x y H Q => ∃ b : Bool, x = .bl b ∧ y = .bl true ∧ Q (.bl b) H) := by
  intro pins s σ H x y v u Q I rx ry h
  obtain ⟨b, rfl, rfl, q⟩ := h
  obtain rfl : v = Value.bool b := rx
  obtain rfl : u = Value.bool true := ry
  cases b
  · exact wpAny_pure ⟨.bl _, H, I, rfl, q⟩
  · exact wpAny_pure ⟨.bl _, H, I, rfl, q⟩
theorem op_isF {X : Cx} : OpR X (compareOp .Is) (fun x y H Q => ∃ b : Bool, x = .bl b ∧ y = .bl false ∧ Q (.bl (!b)) H) := by
  intro pins s σ H x y v u Q I rx ry h
  obtain ⟨b, rfl, rfl, q⟩ := h
  obtain rfl : v = Value.bool b := rx
  obtain rfl : u = Value.bool false := ry
  cases b
  · exact wpAny_pure ⟨.bl _, H, I, rfl, q⟩
  · exact wpAny_pure ⟨.bl _, H, I, rfl, q⟩
theorem pd_isT (ha : PD X st ow a (.d (.bl q)) ow1) (hb : PD X st ow1 b (.d (.bl true)) ow2) : PD X st ow (.Compare a [.Is] [b] pos) (.d (.bl q)) ow2 := pd_cmp op_isT (nomark _) (fun S H ow vx vy Q o dx dy k => ⟨q, dx.of_bl, dy.of_bl, k _ H (Evl.Ex.refl H) (.bl _)⟩) ha hb
theorem pd_isF (ha : PD X st ow a (.d (.bl q)) ow1) (hb : PD X st ow1 b (.d (.bl false)) ow2) : PD X st ow (.Compare a [.Is] [b] pos) (.d (.bl (!q))) ow2 := pd_cmp op_isF (nomark _) (fun S H ow vx vy Q o dx dy k => ⟨q, dx.of_bl, dy.of_bl, k _ H (Evl.Ex.refl H) (.bl _)⟩) ha hb
end
section
variable {P : Program} {w : World} {K : PySem.W.Frag} {mg : Str → Option Value} {base : Heap} {f fG : Addr} {fd fdG : FuncData} {k : Nat} {C : Addr}
abbrev sBoolIs : Stmt := topS 69
theorem scBoolIs : FnScope ["_law_answer", "_law_due"] ["_law_answer", "_law_due"] (defScope sBoolIs) := ⟨rfl, rfl, rfl, by decide +kernel, rfl, by decide +kernel, by decide +kernel⟩
def gBoolIs : GG := fun rs ow r ow' => ∃ b : Bool, rs = [.d (.bl b), .d (.bl b)] ∧ r = .d (.bl true) ∧ ow' = ow
theorem ok_boolIs (F0 : Fun K "_law_bool_is" "_law_bool_is" sBoolIs f fd) : FnOk P w K mg base CX0 (k + 1) f fd ["_law_answer", "_law_due"] (spF K gBoolIs) := by
  refine okF F0 scBoolIs (fun rs ow r ow' h => ?_) (fun cdv A outer s H E hr rs ow r ow' h => ?_)
  · obtain ⟨b, rfl, _⟩ := h
    rfl
  · obtain ⟨b, rfl, rfl, rfl⟩ := h
    cases b
    · exact pbd_skip (ptd_val (pd_var 1)) rfl (pbd_last (psd_ret (pd_isF (q := false) (pd_var 0) pd_bl)))
    · exact pbd_take (ptd_val (pd_var 1)) rfl (pbd_last (psd_ret (pd_isT (q := true) (pd_var 0) pd_bl)))
/-! ### wrong_three, wrong_count -/
abbrev sWrThree : Stmt := topS 38
theorem scWrThree : FnScope ["chart", "lot"] ["chart", "lot"] (defScope sWrThree) := ⟨rfl, rfl, rfl, by decide +kernel, rfl, by decide +kernel, by decide +kernel⟩
def gWrThree (C : Addr) : GG := fun rs ow r ow' => ∃ (n : Int) (F : List Int → Int) (t : Bool) (pl : List Int), rs = [.d (chartD C n (cns n F)), .d (sqD t (pl.map D.int))] ∧ LotIn n pl ∧ 1 ≤ n ∧ n ≤ 7 ∧ r = .d (optD (wrongF n F pl)) ∧ ow' = ow
theorem ok_wrThree (F0 : Fun K "wrong_three" "wrong_three" sWrThree f fd) (T : ChTxt K C) (C1 : Fg P w K mg base "check_chart" k ["chart"] (gCheckChart C)) (C2 : Fg P w K mg base "lot_of" k ["value", "size"] gLotOf) (C3 : Fg P w K mg base "first_wrong" k ["chart", "lot"] (gFirstWr C)) : FnOk P w K mg base CX0 (k + 1) f fd ["chart", "lot"] (spF K (gWrThree C)) := by
  refine okF F0 scWrThree (fun rs ow r ow' h => ?_) (fun cdv A outer s H E hr rs ow r ow' h => ?_)
  · obtain ⟨n, F, t, pl, rfl, _⟩ := h
    rfl
  · obtain ⟨n, F, t, pl, rfl, hl, h1, h7, rfl, rfl⟩ := h
    refine pbd_cons (psd_expr (pd_cg C1 hr (Nat.le_refl _) (padd_cons (pd_var 0) padd_nil) ⟨_, rfl, rfl, rfl⟩)) ?_
    exact pbd_last (psd_ret (pd_eqD (pd_cg C3 hr (Nat.le_refl _) (padd_cons (pd_var 0) (padd_cons (pd_cg C2 hr (Nat.le_refl _) (padd_cons (pd_var 1) (padd_cons (pd_fld (pd_var 0) T.cl T.size (chF_size n _)) padd_nil)) ⟨t, n, pl, rfl, hl, h1, by omega, rfl, rfl⟩) padd_nil)) ⟨n, F, isort pl, rfl, by omega, h7, rfl, rfl⟩) (by unfold wrongF; rw [wrongB_same])))
abbrev sWrCount : Stmt := topS 39
abbrev nWrCount : List Str := ["chart", "lot", "names", "three", "signs"]
theorem scWrCount : FnScope nWrCount ["chart", "lot"] (defScope sWrCount) := ⟨rfl, rfl, rfl, by decide +kernel, rfl, by decide +kernel, by decide +kernel⟩
def gWrCount (C : Addr) : GG := fun rs ow r ow' => ∃ (n : Int) (F : List Int → Int) (t : Bool) (pl : List Int), rs = [.d (chartD C n (cns n F)), .d (sqD t (pl.map D.int))] ∧ LotIn n pl ∧ 1 ≤ n ∧ n ≤ 7 ∧ r = .d (tupI [wr0 n F pl, wr1 n F pl, wr2 n F pl]) ∧ ow' = ow
theorem ok_wrCount (F0 : Fun K "wrong_count" "wrong_count" sWrCount f fd) (T : ChTxt K C) (C1 : Fg P w K mg base "check_chart" k ["chart"] (gCheckChart C)) (C2 : Fg P w K mg base "lot_of" k ["value", "size"] gLotOf) (C3 : Fg P w K mg base "threes_in" k ["names"] (gSub sub3)) (C4 : Fg P w K mg base "is_wrong" k ["chart", "lot", "three"] (gIsWrong C)) (M1 : Mt P w K mg base C "lot_sign" k ["self", "three"] (gLot C)) : FnOk P w K mg base CX0 (k + 1) f fd ["chart", "lot"] (spF K (gWrCount C)) := by
  refine okF F0 scWrCount (fun rs ow r ow' h => ?_) (fun cdv A outer s H E hr rs ow r ow' h => ?_)
  · obtain ⟨n, F, t, pl, rfl, _⟩ := h
    rfl
  · obtain ⟨n, F, t, pl, rfl, hl, h1, h7, rfl, rfl⟩ := h
    have hs := sub3_len7 (show 0 ≤ n by omega) h7
    refine pbd_cons (psd_expr (pd_cg C1 hr (Nat.le_refl _) (padd_cons (pd_var 0) padd_nil) ⟨_, rfl, rfl, rfl⟩)) ?_
    refine pbd_cons (psd_set 2 scWrCount.nd (pd_cg C2 hr (Nat.le_refl _) (padd_cons (pd_var 1) (padd_cons (pd_fld (pd_var 0) T.cl T.size (chF_size n _)) padd_nil)) ⟨t, n, pl, rfl, hl, h1, by omega, rfl, rfl⟩)) ?_
    refine pbd_frzB (stB := [some (.d (chartD C n (cns n F))), some (.d (sqD t (pl.map D.int))), some (.d (tupI (isort pl))), none, some (.own ow'.length)]) (ow1 := ow') (b := .l (((sub3 (rngZ n)).filter (wrongB F (isort pl))).map fun q => D.int (F q))) (dd := .lstV (((sub3 (rngZ n)).filter (wrongB F (isort pl))).map fun q => D.int (F q))) (psd_setLcO (own := [("three", 3)]) 4 (sub3 (rngZ n)) tupI (fun q => [some (.d (chartD C n (cns n F))), some (.d (sqD t (pl.map D.int))), some (.d (tupI (isort pl))), some (.d (tupI q)), none]) (wrongB F (isort pl)) (fun q => D.int (F q))
      rfl scWrCount.nd (pid_eq (pid_list (pd_cg C3 hr (Nat.le_refl _) (padd_cons (pd_fld (pd_var 0) T.cl T.lines (chF_lines n _)) padd_nil) ⟨true, (rngZ n).map D.int, rfl, by rw [List.length_map, rngZ_len]; omega, rfl, rfl⟩)) (by rw [sub3_map, List.map_map]; rfl)) (blkOk_by (N := nWrCount) (sc := defScope sWrCount) (by decide +kernel)) (by omega) (fun q hq _ H C' cl fp => pgd_name 3 scWrCount.nd)
      (fun q hq l _ H C' cl fp => ptsd_one (ptd_val (pd_cg C4 hr (Nat.le_refl _) (padd_cons (pd_var 0) (padd_cons (pd_var 2) (padd_cons (pd_var 3) padd_nil))) ⟨n, F, isort pl, q, rfl, hq, by omega, h7, rfl, rfl⟩))) (fun q hq _ l _ H C' cl fp => ?_)) rfl .v ?_
    · obtain ⟨x, y, z, rfl, _⟩ := sub3_form (show 0 ≤ n by omega) h7 hq
      exact pd_eqD (pd_mt M1 (pd_var 0) T.cl hr (Nat.le_refl _) (padd_cons (pd_var 3) padd_nil) (chF_no n _ nm1 nm2 nm3 nm4) ⟨n, cns n F, [x, y, z], rfl, lotOk_F hq, rfl, rfl⟩) (show D.int (sgA n (cns n F) [x, y, z]) = .int (F [x, y, z]) by rw [sgA_F hq])
    · have eU : unD ow'.length (.lstV (((sub3 (rngZ n)).filter (wrongB F (isort pl))).map fun q => D.int (F q))) [some (.d (chartD C n (cns n F))), some (.d (sqD t (pl.map D.int))), some (.d (tupI (isort pl))), none, some (.own ow'.length)] = [some (.d (chartD C n (cns n F))), some (.d (sqD t (pl.map D.int))), some (.d (tupI (isort pl))), none, some (.d (.lstV ((((sub3 (rngZ n)).filter (wrongB F pl)).map F).map D.int)))] := by
        show [_, _, _, _, (if ow'.length = ow'.length then _ else _)] = _
        rw [if_pos rfl, List.map_map, wrongB_same]
        rfl
      rw [eU]
      have c := wr_sums (F := F) (D := pl) (sub3 (rngZ n))
      refine pbd_last (psd_ret (pd_eqD (pd_tup (padd_cons (pd_lcount (pd_var 4) pd_int) (padd_cons (pd_lcount (pd_var 4) (pd_neg pd_int)) (padd_cons (pd_lcount (pd_var 4) pd_int) padd_nil)))) ?_))
      · rw [c.1, c.2.1, c.2.2, wr0_sum, wr1_sum]
        rfl
end
end Bl
set_option Elab.async false
set_option linter.all false
set_option maxRecDepth 100000
set_option maxHeartbeats 8000000
namespace Bl
open PySem PySem.Spec PyProof.Rows L2 PySem.Xq
/-! ### exceptions let out of a tuple and of an own call's argument; isinstance that says no -/
section
variable {X : Cx} {n : XN} {W : WX} {a e : Expr} {st : Sta} {ow ow1 ow2 : List OB} {d : D} {r : R} {p pos : Pos} {xn : Str} {k j : Nat} {ps : List Str} {g : GG}
theorem pxe_arg2 (F : Fg X.prog X.w X.K X.mg X.base xn k ps g) (hr : Room j X.A) (hj : k ≤ j) (ha : PD X st ow a r ow1) (h : PXE X n W st ow1 e d ow2) (hg : Gl X xn := by rfl) (hdb : (xn == ("__debug__" : Str)) = false := by decide) (he : starEach [a, e] X.env = (false, eval a X.env) :: starEach [e] X.env := by rfl) (he2 : starEach [e] X.env = (false, eval e X.env) :: starEach [] X.env := by rfl) (hpl : (backTo pos (starEach [e] X.env)).any (·.1) = false := by rfl) : PXE X n W st ow (.Call (.Name xn p) [a, e] [] pos) d ow2 := by
  obtain ⟨f, fd, h1, h2, h3, h4⟩ := F
  exact (pe_call h1 (hr.mono hj) hg h2 h3 h4 .nil pass0 (pa_cons ha (pa_cons h pa_nil he2) he) hdb he hpl).imp fun σ H Q ⟨S, sl, o, q⟩ => ⟨S, sl, o, fun S1 v H1 f1 o1 d1 => ⟨S1, f1.slots sl, o1, fun S' u H' dd f o' dn hn => q S' u H' dd (f1.trans o1 f) o' dn hn⟩⟩
theorem pxe_tup2 {w : Str} {i : Nat} {p2 : Pos} {kk : Nat} (h : PXE X n W st ow e d ow1) (he : starEach [.Constant (.str w) i p2, e] X.env = (false, eval (.Constant (.str w) i p2) X.env) :: starEach [e] X.env := by rfl) (he2 : starEach [e] X.env = (false, eval e X.env) :: starEach [] X.env := by rfl) : PXE X n W st ow (.Tuple [.Constant (.str w) i p2, e] kk pos) d ow1 :=
  (pe_tup (pa_cons pe_str (pa_cons h pa_nil he2) he)).imp fun σ H Q z => z
theorem pd_isCN {C : Addr} {cn : Str} {pc : Pos} (hm : X.mg "isinstance" = none) (hC : X.mg cn = some (.ref C)) (hno : PySem.W.kitOne X.K (.type "NoneType") (.ref C) = some false) (ha : PD X st ow e (.d .non) ow1) (hg : Gl X "isinstance" := by rfl) (hgc : Gl X cn := by rfl) (hd : (cn == ("__debug__" : Str)) = false := by decide)
    (he : starEach [e, .Name cn pc] X.env = (false, eval e X.env) :: starEach [.Name cn pc] X.env := by rfl) (he2 : starEach [.Name cn pc] X.env = (false, eval (.Name cn pc) X.env) :: starEach [] X.env := by rfl) (hpl : (backTo pos (starEach [.Name cn pc] X.env)).any (·.1) = false := by rfl) :
    PD X st ow (.Call (.Name "isinstance" p) [e, .Name cn pc] [] pos) (.d (.bl false)) ow1 :=
  (pe_callB call_isi hg hm boot_isi (pa_cons ha (pa_cons (pe_glob (v := .ref C) hgc hC rfl hd) pa_nil he2) he) (by decide) (by decide) he hpl).imp fun σ H Q ⟨S, sl, o, k⟩ => ⟨S, sl, o, fun S1 v H1 f1 o1 d1 => by
    cases d1 with
    | d d1 =>
      cases d1
      exact ⟨_, _, _, _, false, rfl, .own C, .base .non, hno, k S1 _ H1 f1 o1 (.d (.bl false))⟩⟩
end
theorem kit_no {K : PySem.W.Frag} {C : Addr} (h2 : PySem.W.isClsIn K C = true) (h3 : PySem.W.typeIn K (.ref C) = some (.type "type")) (h4 : PySem.W.subIn K (.type "NoneType") (.ref C) = some false) : PySem.W.kitOne K (.type "NoneType") (.ref C) = some false := by
  unfold PySem.W.kitOne
  rw [if_neg (by simp)]
  unfold PySem.W.kitCls
  have h5 : (PySem.W.clsIn K C).isSome = true := h2
  simp only [h3, h5]
  exact h4
section
variable {P : Program} {w : World} {K : PySem.W.Frag} {mg : Str → Option Value} {base : Heap} {f : Addr} {fd : FuncData} {k : Nat} {C CB fB CL fL CU fU : Addr}
/-! ### what is_place, wrong_three, wrong_count refuse -/
def gCheckChartB : GX := fun rs ow d ow' => rs = [.d .non] ∧ d = .str "chart" ∧ ow' = ow
theorem ok_checkChartB (F : Fun K "check_chart" "check_chart" sCheckChart f fd) (TB : BTxt K CB fB) (gB : mg "BadKind" = some (.ref CB)) (hno : PySem.W.kitOne K (.type "NoneType") (.ref C) = some false) (mI : mg "isinstance" = none) (mC : mg "Chart" = some (.ref C)) : FnOk P w K mg base (L2.CX P w) (k + 1) f fd ["chart"] (spR K (nB CB) gCheckChartB) := by
  refine okR F scCheckChart (fun rs ow d ow' h => ?_) (fun cdv A outer s H E hr rs ow d ow' h => ?_)
  · obtain ⟨rfl, _⟩ := h
    rfl
  · obtain ⟨rfl, rfl, rfl⟩ := h
    exact ⟨_, psx_last (pxs_ifT (ptd_not (ptd_val (pd_isCN mI mC hno (pd_var 0)))) rfl (psx_last (pxs_raise rfl (takes_of rfl rfl rfl rfl) (pmk_xB TB gB hr (padd_cons pd_str padd_nil)))))⟩
def gChkSoundX (C : Addr) : GX := fun rs ow d ow' => ∃ (n : Int) (ns q : List Int), rs = [.d (chartD C n ns)] ∧ n ≤ 13 ∧ (∀ q ∈ sub4 (rngZ n), FourOk n ns q) ∧ badF n ns = some q ∧ d = tupI q ∧ ow' = ow
theorem ok_chkSoundX (F : Fun K "check_sound" "check_sound" sChkSound f fd) (T : ChTxt K C) (TU : UTxt K CU fU) (gU : mg "Unsound" = some (.ref CU)) (P1 : Pt P w K mg base C "bad" k ["self"] (gBad C)) : FnOk P w K mg base (L2.CX P w) (k + 2) f fd ["chart"] (spR K (nU CU) (gChkSoundX C)) := by
  refine okR F scChkSound (fun rs ow d ow' h => ?_) (fun cdv A outer s H E hr rs ow d ow' h => ?_)
  · obtain ⟨n, ns, q, rfl, _⟩ := h
    rfl
  · obtain ⟨n, ns, q, rfl, h13, hq, hb, rfl, rfl⟩ := h
    exact ⟨_, psx_cons (psd_set 1 scChkSound.nd (pd_eqD (d' := tupI q) (pd_pt P1 (pd_var 0) T.cl hr (Nat.le_refl _) ⟨n, ns, rfl, h13, hq, rfl, rfl⟩) (by rw [hb]; rfl))) (psx_last (pxs_ifT (ptd_notN (pd_var 1) pd_non) rfl (psx_last (pxs_raise rfl (takes_of rfl rfl rfl rfl) (pmk_xU TU gU hr (padd_cons (pd_var 1) padd_nil))))))⟩
def gLkC : GX := fun rs ow d ow' => ∃ x : D, rs = [.d .non, .d x] ∧ d = .str "chart" ∧ ow' = ow
def gLkB (C : Addr) : GX := fun rs ow d ow' => ∃ (n : Int) (ns : List Int) (x : Str), rs = [.d (chartD C n ns), .d (.str x)] ∧ 1 ≤ n ∧ n ≤ 7 ∧ d = .str "lot" ∧ ow' = ow
def gLkL (C : Addr) : GX := fun rs ow d ow' => ∃ (n : Int) (ns : List Int) (t : Bool) (qs : List Int) (j : Nat), rs = [.d (chartD C n ns), .d (sqD t (qs.map D.int))] ∧ LotBad n qs j ∧ 1 ≤ n ∧ n ≤ 7 ∧ d = .int (qs.getD j 0) ∧ ow' = ow
def gLkU (C : Addr) : GX := fun rs ow d ow' => ∃ (n : Int) (F : List Int → Int) (t : Bool) (pl q : List Int), rs = [.d (chartD C n (cns n F)), .d (sqD t (pl.map D.int))] ∧ LotIn n pl ∧ 1 ≤ n ∧ n ≤ 7 ∧ badF n (cns n F) = some q ∧ d = tupI q ∧ ow' = ow
theorem ok_isPlaceC (F0 : Fun K "is_place" "is_place" sIsPlace f fd) (C1 : FgX P w K mg base "check_chart" k ["chart"] (nB CB) gCheckChartB) : FnOk P w K mg base (L2.CX P w) (k + 1) f fd ["chart", "lot"] (spR K (nB CB) gLkC) := by
  refine okR F0 scIsPlace (fun rs ow d ow' h => ?_) (fun cdv A outer s H E hr rs ow d ow' h => ?_)
  · obtain ⟨x, rfl, _⟩ := h
    rfl
  · obtain ⟨x, rfl, rfl, rfl⟩ := h
    exact ⟨_, psx_last (pxs_expr (pxe_call C1 hr (Nat.le_refl _) (takes_of rfl rfl rfl rfl) (padd_cons (pd_var 0) padd_nil) ⟨rfl, rfl, rfl⟩))⟩
theorem ok_isPlaceB (F0 : Fun K "is_place" "is_place" sIsPlace f fd) (T : ChTxt K C) (C1 : Fg P w K mg base "check_chart" k ["chart"] (gCheckChart C)) (C2 : FgX P w K mg base "lot_of" k ["value", "size"] (nB CB) gLotOfB) : FnOk P w K mg base (L2.CX P w) (k + 1) f fd ["chart", "lot"] (spR K (nB CB) (gLkB C)) := by
  refine okR F0 scIsPlace (fun rs ow d ow' h => ?_) (fun cdv A outer s H E hr rs ow d ow' h => ?_)
  · obtain ⟨n, ns, x, rfl, _⟩ := h
    rfl
  · obtain ⟨n, ns, x, rfl, h1, h7, rfl, rfl⟩ := h
    exact ⟨_, psx_cons (psd_expr (pd_cg C1 hr (Nat.le_refl _) (padd_cons (pd_var 0) padd_nil) ⟨_, rfl, rfl, rfl⟩)) (psx_last (pxs_set 2 scIsPlace.nd (pxe_call C2 hr (Nat.le_refl _) (takes_of rfl rfl rfl rfl) (padd_cons (pd_var 1) (padd_cons (pd_fld (pd_var 0) T.cl T.size (chF_size n _)) padd_nil)) ⟨n, x, rfl, h1, by omega, rfl, rfl⟩)))⟩
theorem ok_isPlaceL (F0 : Fun K "is_place" "is_place" sIsPlace f fd) (T : ChTxt K C) (C1 : Fg P w K mg base "check_chart" k ["chart"] (gCheckChart C)) (C2 : FgX P w K mg base "lot_of" k ["value", "size"] (nL CL) gLotOfX) : FnOk P w K mg base (L2.CX P w) (k + 1) f fd ["chart", "lot"] (spR K (nL CL) (gLkL C)) := by
  refine okR F0 scIsPlace (fun rs ow d ow' h => ?_) (fun cdv A outer s H E hr rs ow d ow' h => ?_)
  · obtain ⟨n, ns, t, qs, j, rfl, _⟩ := h
    rfl
  · obtain ⟨n, ns, t, qs, j, rfl, hb, h1, h7, rfl, rfl⟩ := h
    exact ⟨_, psx_cons (psd_expr (pd_cg C1 hr (Nat.le_refl _) (padd_cons (pd_var 0) padd_nil) ⟨_, rfl, rfl, rfl⟩)) (psx_last (pxs_set 2 scIsPlace.nd (pxe_call C2 hr (Nat.le_refl _) (takes_of rfl rfl rfl rfl) (padd_cons (pd_var 1) (padd_cons (pd_fld (pd_var 0) T.cl T.size (chF_size n _)) padd_nil)) ⟨t, n, qs, j, rfl, hb, h1, by omega, rfl, rfl⟩)))⟩
theorem ok_wrCountC (F0 : Fun K "wrong_count" "wrong_count" sWrCount f fd) (C1 : FgX P w K mg base "check_chart" k ["chart"] (nB CB) gCheckChartB) : FnOk P w K mg base (L2.CX P w) (k + 1) f fd ["chart", "lot"] (spR K (nB CB) gLkC) := by
  refine okR F0 scWrCount (fun rs ow d ow' h => ?_) (fun cdv A outer s H E hr rs ow d ow' h => ?_)
  · obtain ⟨x, rfl, _⟩ := h
    rfl
  · obtain ⟨x, rfl, rfl, rfl⟩ := h
    exact ⟨_, psx_last (pxs_expr (pxe_call C1 hr (Nat.le_refl _) (takes_of rfl rfl rfl rfl) (padd_cons (pd_var 0) padd_nil) ⟨rfl, rfl, rfl⟩))⟩
theorem ok_wrCountB (F0 : Fun K "wrong_count" "wrong_count" sWrCount f fd) (T : ChTxt K C) (C1 : Fg P w K mg base "check_chart" k ["chart"] (gCheckChart C)) (C2 : FgX P w K mg base "lot_of" k ["value", "size"] (nB CB) gLotOfB) : FnOk P w K mg base (L2.CX P w) (k + 1) f fd ["chart", "lot"] (spR K (nB CB) (gLkB C)) := by
  refine okR F0 scWrCount (fun rs ow d ow' h => ?_) (fun cdv A outer s H E hr rs ow d ow' h => ?_)
  · obtain ⟨n, ns, x, rfl, _⟩ := h
    rfl
  · obtain ⟨n, ns, x, rfl, h1, h7, rfl, rfl⟩ := h
    exact ⟨_, psx_cons (psd_expr (pd_cg C1 hr (Nat.le_refl _) (padd_cons (pd_var 0) padd_nil) ⟨_, rfl, rfl, rfl⟩)) (psx_last (pxs_set 2 scWrCount.nd (pxe_call C2 hr (Nat.le_refl _) (takes_of rfl rfl rfl rfl) (padd_cons (pd_var 1) (padd_cons (pd_fld (pd_var 0) T.cl T.size (chF_size n _)) padd_nil)) ⟨n, x, rfl, h1, by omega, rfl, rfl⟩)))⟩
theorem ok_wrCountL (F0 : Fun K "wrong_count" "wrong_count" sWrCount f fd) (T : ChTxt K C) (C1 : Fg P w K mg base "check_chart" k ["chart"] (gCheckChart C)) (C2 : FgX P w K mg base "lot_of" k ["value", "size"] (nL CL) gLotOfX) : FnOk P w K mg base (L2.CX P w) (k + 1) f fd ["chart", "lot"] (spR K (nL CL) (gLkL C)) := by
  refine okR F0 scWrCount (fun rs ow d ow' h => ?_) (fun cdv A outer s H E hr rs ow d ow' h => ?_)
  · obtain ⟨n, ns, t, qs, j, rfl, _⟩ := h
    rfl
  · obtain ⟨n, ns, t, qs, j, rfl, hb, h1, h7, rfl, rfl⟩ := h
    exact ⟨_, psx_cons (psd_expr (pd_cg C1 hr (Nat.le_refl _) (padd_cons (pd_var 0) padd_nil) ⟨_, rfl, rfl, rfl⟩)) (psx_last (pxs_set 2 scWrCount.nd (pxe_call C2 hr (Nat.le_refl _) (takes_of rfl rfl rfl rfl) (padd_cons (pd_var 1) (padd_cons (pd_fld (pd_var 0) T.cl T.size (chF_size n _)) padd_nil)) ⟨t, n, qs, j, rfl, hb, h1, by omega, rfl, rfl⟩)))⟩
theorem ok_wrThreeC (F0 : Fun K "wrong_three" "wrong_three" sWrThree f fd) (C1 : FgX P w K mg base "check_chart" k ["chart"] (nB CB) gCheckChartB) : FnOk P w K mg base (L2.CX P w) (k + 1) f fd ["chart", "lot"] (spR K (nB CB) gLkC) := by
  refine okR F0 scWrThree (fun rs ow d ow' h => ?_) (fun cdv A outer s H E hr rs ow d ow' h => ?_)
  · obtain ⟨x, rfl, _⟩ := h
    rfl
  · obtain ⟨x, rfl, rfl, rfl⟩ := h
    exact ⟨_, psx_last (pxs_expr (pxe_call C1 hr (Nat.le_refl _) (takes_of rfl rfl rfl rfl) (padd_cons (pd_var 0) padd_nil) ⟨rfl, rfl, rfl⟩))⟩
theorem ok_wrThreeB (F0 : Fun K "wrong_three" "wrong_three" sWrThree f fd) (T : ChTxt K C) (C1 : Fg P w K mg base "check_chart" k ["chart"] (gCheckChart C)) (C2 : FgX P w K mg base "lot_of" k ["value", "size"] (nB CB) gLotOfB) (C9 : Fg P w K mg base "first_wrong" k ["chart", "lot"] (gFirstWr C)) : FnOk P w K mg base (L2.CX P w) (k + 1) f fd ["chart", "lot"] (spR K (nB CB) (gLkB C)) := by
  refine okR F0 scWrThree (fun rs ow d ow' h => ?_) (fun cdv A outer s H E hr rs ow d ow' h => ?_)
  · obtain ⟨n, ns, x, rfl, _⟩ := h
    rfl
  · obtain ⟨n, ns, x, rfl, h1, h7, rfl, rfl⟩ := h
    exact ⟨_, psx_cons (psd_expr (pd_cg C1 hr (Nat.le_refl _) (padd_cons (pd_var 0) padd_nil) ⟨_, rfl, rfl, rfl⟩)) (psx_last (pxs_ret (pxe_arg2 C9 hr (Nat.le_refl _) (pd_var 0) (pxe_call C2 hr (Nat.le_refl _) (takes_of rfl rfl rfl rfl) (padd_cons (pd_var 1) (padd_cons (pd_fld (pd_var 0) T.cl T.size (chF_size n _)) padd_nil)) ⟨n, x, rfl, h1, by omega, rfl, rfl⟩))))⟩
theorem ok_wrThreeL (F0 : Fun K "wrong_three" "wrong_three" sWrThree f fd) (T : ChTxt K C) (C1 : Fg P w K mg base "check_chart" k ["chart"] (gCheckChart C)) (C2 : FgX P w K mg base "lot_of" k ["value", "size"] (nL CL) gLotOfX) (C9 : Fg P w K mg base "first_wrong" k ["chart", "lot"] (gFirstWr C)) : FnOk P w K mg base (L2.CX P w) (k + 1) f fd ["chart", "lot"] (spR K (nL CL) (gLkL C)) := by
  refine okR F0 scWrThree (fun rs ow d ow' h => ?_) (fun cdv A outer s H E hr rs ow d ow' h => ?_)
  · obtain ⟨n, ns, t, qs, j, rfl, _⟩ := h
    rfl
  · obtain ⟨n, ns, t, qs, j, rfl, hb, h1, h7, rfl, rfl⟩ := h
    exact ⟨_, psx_cons (psd_expr (pd_cg C1 hr (Nat.le_refl _) (padd_cons (pd_var 0) padd_nil) ⟨_, rfl, rfl, rfl⟩)) (psx_last (pxs_ret (pxe_arg2 C9 hr (Nat.le_refl _) (pd_var 0) (pxe_call C2 hr (Nat.le_refl _) (takes_of rfl rfl rfl rfl) (padd_cons (pd_var 1) (padd_cons (pd_fld (pd_var 0) T.cl T.size (chF_size n _)) padd_nil)) ⟨t, n, qs, j, rfl, hb, h1, by omega, rfl, rfl⟩))))⟩
theorem ok_isPlaceU (F0 : Fun K "is_place" "is_place" sIsPlace f fd) (T : ChTxt K C) (C1 : Fg P w K mg base "check_chart" k ["chart"] (gCheckChart C)) (C2 : Fg P w K mg base "lot_of" k ["value", "size"] gLotOf) (C3 : FgX P w K mg base "check_sound" k ["chart"] (nU CU) (gChkSoundX C)) : FnOk P w K mg base (L2.CX P w) (k + 1) f fd ["chart", "lot"] (spR K (nU CU) (gLkU C)) := by
  refine okR F0 scIsPlace (fun rs ow d ow' h => ?_) (fun cdv A outer s H E hr rs ow d ow' h => ?_)
  · obtain ⟨n, F, t, pl, q, rfl, _⟩ := h
    rfl
  · obtain ⟨n, F, t, pl, q, rfl, hl, h1, h7, hb, rfl, rfl⟩ := h
    exact ⟨_, psx_cons (psd_expr (pd_cg C1 hr (Nat.le_refl _) (padd_cons (pd_var 0) padd_nil) ⟨_, rfl, rfl, rfl⟩)) (psx_cons (psd_set 2 scIsPlace.nd (pd_cg C2 hr (Nat.le_refl _) (padd_cons (pd_var 1) (padd_cons (pd_fld (pd_var 0) T.cl T.size (chF_size n _)) padd_nil)) ⟨t, n, pl, rfl, hl, h1, by omega, rfl, rfl⟩))
      (psx_last (pxs_expr (pxe_call C3 hr (Nat.le_refl _) (takes_of rfl rfl rfl rfl) (padd_cons (pd_var 0) padd_nil) ⟨n, cns n F, q, rfl, by omega, fours_F (by omega) h7 F, hb, rfl, rfl⟩))))⟩
end
end Bl
set_option Elab.async false
set_option linter.all false
set_option maxRecDepth 100000
set_option maxHeartbeats 8000000
namespace Bl
open PySem PySem.Spec PyProof.Rows L2
open scoped List
theorem rd_eqLI {K : PySem.W.Frag} {ns ms : List Int} : RD K (rEqD K) (lstI ns) (lstI ms) (.bl (decide (ns = ms))) := fun S H ow vx vy Q o dx dy q => by
  have sh : ∀ n : List Int, SeqAt.shaped (.list (n.map PyData.int)) = true := fun n => by
    have := depth_lI n
    unfold SeqAt.shaped
    rw [lay_lI n]
    simp only [Bool.true_and, decide_eq_true_eq]
    omega
  refine ⟨_, _, dp_lstI dx, dp_lstI dy, sh ns, sh ms, ?_⟩
  rw [eqv_lI]
  exact q _ _ (Evl.Ex.refl H) (.bl _)
theorem pd_eqLI {X : Cx} {a b : Expr} {st : Sta} {ow ow1 ow2 : List OB} {pos : Pos} {ns ms : List Int} (hu : X.A.units + 64 < cLine) (ha : PD X st ow a (.d (lstI ns)) ow1) (hb : PD X st ow1 b (.d (lstI ms)) ow2) : PD X st ow (.Compare a [.Eq] [b] pos) (.d (.bl (decide (ns = ms)))) ow2 := pd_cmp (op_eqD hu) (nomark _) rd_eqLI ha hb
theorem wrongB_mem (F : List Int → Int) {D E : List Int} (h : ∀ x, x ∈ D ↔ x ∈ E) : wrongB F D = wrongB F E := by
  funext t
  unfold wrongB
  simp only [h]
theorem w0Q_mem (F : List Int → Int) {D E : List Int} (h : ∀ x, x ∈ D ↔ x ∈ E) : w0Q F D = w0Q F E := by
  funext t
  unfold w0Q
  simp only [h]
theorem w1Q_mem (F : List Int → Int) {D E : List Int} (h : ∀ x, x ∈ D ↔ x ∈ E) : w1Q F D = w1Q F E := by
  funext t
  unfold w1Q
  simp only [h]
theorem w2Q_mem (F : List Int → Int) {D E : List Int} (h : ∀ x, x ∈ D ↔ x ∈ E) : w2Q F D = w2Q F E := by
  funext t
  unfold w2Q
  simp only [h]
section
variable {P : Program} {w : World} {K : PySem.W.Frag} {mg : Str → Option Value} {base : Heap} {f fG : Addr} {fd fdG : FuncData} {k : Nat} {C : Addr}
/-! ### _law_told_right, _law_lot_right -/
abbrev sToldRt : Stmt := topS 70
abbrev nToldRt : List Str := ["_law_chart_here", "_law_size_here", "_law_table_here", "_law_lot_here", "_law_given", "_law_wrong_here", "_law_least", "_law_told"]
abbrev pToldRt : List Str := ["_law_chart_here", "_law_size_here", "_law_table_here", "_law_lot_here", "_law_given"]
theorem scToldRt : FnScope nToldRt pToldRt (defScope sToldRt) := ⟨rfl, rfl, rfl, by decide +kernel, rfl, by decide +kernel, by decide +kernel⟩
def gToldRt (C : Addr) : GG := fun rs ow r ow' => ∃ (n : Int) (F : List Int → Int) (t t2 : Bool) (pl pl2 : List Int), rs = [.d (chartD C n (cns n F)), .d (.int n), .d (.dT (tabI (tabF n F))), .d (sqD t (pl.map D.int)), .d (sqD t2 (pl2.map D.int))] ∧ LotIn n pl2 ∧ (∀ x, x ∈ pl2 ↔ x ∈ pl) ∧ SgnF F ∧ 1 ≤ n ∧ n ≤ 7 ∧ r = .d (.bl true) ∧ ow' = ow
theorem ok_toldRt (F0 : Fun K "_law_told_right" "_law_told_right" sToldRt f fd) (Cw : Fg P w K mg base "_law_wrong" k ["_law_size_here", "_law_table_here", "_law_lot_here"] gWrong) (Cl : Fg P w K mg base "_law_lot_is" k ["_law_answer", "_law_due"] gLotIs) (Cc : Fg P w K mg base "wrong_count" k ["chart", "lot"] (gWrCount C)) (C3 : Fg P w K mg base "_law_wrong_three" k ["_law_size_here", "_law_table_here", "_law_lot_here"] gLWr) (Ct : Fg P w K mg base "wrong_three" k ["chart", "lot"] (gWrThree C)) (mU : mg "sum" = none) : FnOk P w K mg base CX0 (k + 1) f fd pToldRt (spF K (gToldRt C)) := by
  refine okF F0 scToldRt (fun rs ow r ow' h => ?_) (fun cdv A outer s H E hr rs ow r ow' h => ?_)
  · obtain ⟨n, F, t, t2, pl, pl2, rfl, _⟩ := h
    rfl
  · obtain ⟨n, F, t, t2, pl, pl2, rfl, hl, hm, sF, h1, h7, rfl, rfl⟩ := h
    have e0 : wr0 n F pl2 = wr0 n F pl := by rw [← wr0_sum, ← wr0_sum, w0Q_mem F hm]
    have e1 : wr1 n F pl2 = wr1 n F pl := by rw [← wr1_sum, ← wr1_sum, w1Q_mem F hm]
    have e2 : wr2 n F pl2 = wr2 n F pl := by unfold wr2; rw [w2Q_mem F hm]
    have e3 : wrongF n F pl2 = wrongF n F pl := by unfold wrongF; rw [wrongB_mem F hm]
    obtain ⟨W, hW⟩ : ∃ W : List Int, W = [wr0 n F pl, wr1 n F pl, wr2 n F pl] := ⟨_, rfl⟩
    have hWs : W.sum = wr0 n F pl + wr1 n F pl + wr2 n F pl := by
      rw [hW]
      simp only [List.sum_cons, List.sum_nil]
      omega
    have hWl : W.length = 3 := by rw [hW]; rfl
    refine pbd_cons (psd_set 5 scToldRt.nd (pd_eqD (d' := lstI W) (pd_cg Cw hr (Nat.le_refl _) (padd_cons (pd_var 1) (padd_cons (pd_var 2) (padd_cons (pd_var 3) padd_nil))) ⟨n, F, t, pl, rfl, by omega, h7, rfl, rfl⟩) (by rw [hW]; rfl))) ?_
    refine pbd_skip (bl := false) (ptd_eqB (ptd_not (ptd_val (pd_cg Cl hr (Nat.le_refl _) (padd_cons (pd_eqD (d' := tupI W) (pd_cg Cc hr (Nat.le_refl _) (padd_cons (pd_var 0) (padd_cons (pd_var 4) padd_nil)) ⟨n, F, t2, pl2, rfl, hl, h1, h7, rfl, rfl⟩) (by rw [hW, e0, e1, e2])) (padd_cons (pd_var 5) padd_nil)) ⟨false, W, rfl, by omega, rfl, rfl⟩))) rfl) rfl ?_
    refine pbd_cons (psd_set 6 scToldRt.nd (pd_cg C3 hr (Nat.le_refl _) (padd_cons (pd_var 1) (padd_cons (pd_var 2) (padd_cons (pd_var 3) padd_nil))) ⟨n, F, t, pl, rfl, by omega, h7, rfl, rfl⟩)) ?_
    refine pbd_cons (psd_set 7 scToldRt.nd (pd_eqD (d' := optD (wrongF n F pl)) (pd_cg Ct hr (Nat.le_refl _) (padd_cons (pd_var 0) (padd_cons (pd_var 4) padd_nil)) ⟨n, F, t2, pl2, rfl, hl, h1, h7, rfl, rfl⟩) (by rw [e3]))) ?_
    cases hq : wrongF n F pl with
    | none =>
      have hz := (wrong_none (n := n) sF).mp hq
      exact pbd_take (ptd_isN (pd_var 6) pd_non) rfl (pbd_last (psd_ret (pd_eqB (pd_and (pd_isN (pd_var 7) pd_non) fun _ => pd_one (pd_eq (pd_sum (ns := W) rfl mU (padd_cons (pd_var 5) padd_nil)) pd_int)) (by rw [iv_eq, hWs, hz]; rfl))))
    | some q =>
      have hz := wrong_pos (n := n) sF hq
      have hq3 : q.length = 3 := by
        obtain ⟨a, b, c, rfl, _⟩ := sub3_form (show 0 ≤ n by omega) h7 (List.mem_of_find?_eq_some hq)
        rfl
      refine pbd_skip (ptd_isN (pd_var 6) pd_non) rfl ?_
      exact pbd_last (psd_ret (pd_eqB (pd_and (pd_cg Cl hr (Nat.le_refl _) (padd_cons (pd_var 7) (padd_cons (pd_var 6) padd_nil)) ⟨true, q, rfl, by omega, rfl, rfl⟩) fun _ => pd_one (pd_gt (pd_sum (ns := W) rfl mU (padd_cons (pd_var 5) padd_nil)) pd_int)) (by rw [hWs, decide_eq_true hz]; rfl)))
theorem hand_perm (v : Int) (q : List Int) : (handL v q).Perm q := by
  unfold handL
  split
  · exact .refl _
  · exact List.reverse_perm q
abbrev sLotRt : Stmt := topS 71
abbrev pLotRt : List Str := ["_law_chart_here", "_law_size_here", "_law_table_here", "_law_due", "_law_lot_here", "_law_word"]
abbrev nLotRt : List Str := ["_law_chart_here", "_law_size_here", "_law_table_here", "_law_due", "_law_lot_here", "_law_word", "_law_given", "_law_kept"]
theorem scLotRt : FnScope nLotRt pLotRt (defScope sLotRt) := ⟨rfl, rfl, rfl, by decide +kernel, rfl, by decide +kernel, by decide +kernel⟩
def gLotRt (C : Addr) : GG := fun rs ow r ow' => ∃ (n : Int) (F : List Int → Int) (pl : List Int) (v : Int), rs = [.d (chartD C n (cns n F)), .d (.int n), .d (.dT (tabI (tabF n F))), .d (.bl (!(wrongF n F pl).isSome)), .d (tupI pl), .d (.int v)] ∧ LotIn n pl ∧ SgnF F ∧ 1 ≤ n ∧ n ≤ 7 ∧ badF n (cns n F) = none ∧ r = .d (.bl true) ∧ ow' = ow
theorem ok_lotRt (F0 : Fun K "_law_lot_right" "_law_lot_right" sLotRt f fd) (Ch : Fg P w K mg base "_law_hand" k ["_law_word", "_law_lot_here"] gHand) (Cb : Fg P w K mg base "_law_bool_is" k ["_law_answer", "_law_due"] gBoolIs) (Cp : Fg P w K mg base "is_place" k ["chart", "lot"] (gIsPlace C)) (C3 : Fg P w K mg base "_law_wrong_three" k ["_law_size_here", "_law_table_here", "_law_lot_here"] gLWr) (Ct : Fg P w K mg base "_law_told_right" k pToldRt (gToldRt C)) (mL : mg "list" = none) : FnOk P w K mg base CX0 (k + 1) f fd pLotRt (spF K (gLotRt C)) := by
  refine okF F0 scLotRt (fun rs ow r ow' h => ?_) (fun cdv A outer s H E hr rs ow r ow' h => ?_)
  · obtain ⟨n, F, pl, v, rfl, _⟩ := h
    rfl
  · obtain ⟨n, F, pl, v, rfl, hl, sF, h1, h7, hb, rfl, rfl⟩ := h
    have hu := room_u64 hr
    have hp := hand_perm v pl
    have hl2 : LotIn n (handL v pl) := ⟨hp.nodup_iff.mpr hl.1, fun q hq => hl.2.1 q (hp.mem_iff.mp hq), by rw [hp.length_eq]; exact hl.2.2⟩
    have e3 : wrongF n F (isort (handL v pl)) = wrongF n F pl := by
      unfold wrongF
      rw [wrongB_same, wrongB_mem F fun x => hp.mem_iff]
    refine pbd_cons (psd_set 6 scLotRt.nd (pd_cg Ch hr (Nat.le_refl _) (padd_cons (pd_var 5) (padd_cons (pd_var 4) padd_nil)) ⟨v, pl, rfl, rfl, rfl⟩)) ?_
    generalize handL v pl = hd at *
    generalize handT v = ht at *
    refine pbd_cons (psd_set 7 scLotRt.nd (pd_freeze (pd_listO mL (pd_var 6) (seq_sq _ _)))) ?_
    refine pbd_skip (bl := false) (ptd_eqB (ptd_not (ptd_val (pd_cg Cb hr (Nat.le_refl _) (padd_cons (pd_eqD (d' := .bl (!(wrongF n F pl).isSome)) (pd_cg Cp hr (Nat.le_refl _) (padd_cons (pd_var 0) (padd_cons (pd_var 6) padd_nil)) ⟨n, F, ht, hd, rfl, hl2, h1, h7, hb, rfl, rfl⟩) (by rw [e3])) (padd_cons (pd_var 3) padd_nil)) ⟨_, rfl, rfl, rfl⟩))) rfl) rfl ?_
    refine pbd_skip (bl := false) (ptd_eqB (ptd_ne (pd_var 3) (pd_eqD (d' := .bl (!(wrongF n F pl).isSome)) (pd_isN (pd_cg C3 hr (Nat.le_refl _) (padd_cons (pd_var 1) (padd_cons (pd_var 2) (padd_cons (pd_var 4) padd_nil))) ⟨n, F, true, pl, rfl, by omega, h7, rfl, rfl⟩) pd_non) (by rw [nonD_opt]))) (by simp)) rfl ?_
    exact pbd_last (psd_ret (pd_eqB (pd_and (pd_cg Ct hr (Nat.le_refl _) (padd_cons (pd_var 0) (padd_cons (pd_var 1) (padd_cons (pd_var 2) (padd_cons (pd_var 4) (padd_cons (pd_var 6) padd_nil))))) ⟨n, F, true, ht, pl, hd, rfl, hl2, fun x => hp.mem_iff, sF, h1, h7, rfl, rfl⟩) fun _ => pd_one (pd_eqLI (ns := hd) (ms := hd) hu (pd_freeze (pd_listO mL (pd_var 6) (seq_sq _ _))) (pd_var 7))) (by simp)))
end
end Bl
set_option Elab.async false
set_option linter.all false
set_option maxRecDepth 100000
set_option maxHeartbeats 8000000
namespace Bl
open PySem PySem.Spec PyProof.Rows L2
open scoped List
theorem turns_two (n w : Int) (ps : List Int) : TwoT n (turnsZ n w ps).ts := tFold_two _ 0 _ (tS0 n _) fun i hi => by cases hi
theorem sizeZ_rng17 (ps : List Int) : 1 ≤ sizeZ ps 1 7 ∧ sizeZ ps 1 7 ≤ 7 := by
  unfold sizeZ
  split
  · omega
  · have h1 := Int.emod_nonneg (nextV ps 12) (show (6 : Int) ≠ 0 by decide)
    have h2 := Int.emod_lt_of_pos (nextV ps 12) (show (0 : Int) < 6 by decide)
    rw [if_pos (show (7 : Int) - 1 > 1 by decide), show (7 : Int) - 1 = 6 by decide]
    omega
/-! ### the law's drawings -/
def prT (n : Int) : List Trn := (List.range (n.toNat - 1)).map fun (i : Nat) => ((n - 2 - (i : Int)).toNat, 2)
def fan1 (n : Int) : List Trn := ((0 : Nat), (n - 1).toNat) :: prT n
def fan2 (n : Int) : List Trn := prT n ++ [((1 : Nat), (n - 1).toNat)]
def spW (kd n : Int) : Int := if kd = 5 ∨ kd = 6 then n else if kd = 3 ∨ kd = 4 then 3 else 2
def spSp (wd n : Int) : List Trn := if wd = 2 then fan2 n else if wd = 1 then fan1 n else fanT n
def spN (ps : List Int) : Int := sizeZ ps 1 7
def spK (ps : List Int) : Int := nextV ps.dropLast 8
def spT (ps : List Int) : TS_ := turnsZ (spN ps) (spW (spK ps) (spN ps)) ps.dropLast.dropLast
def spotT (ps : List Int) : List Trn := if spK ps = 7 ∧ 3 ≤ spN ps then spSp (nextV (spT ps).ps 3) (spN ps) else (spT ps).ts
def spotP (ps : List Int) : List Int := if spK ps = 7 ∧ 3 ≤ spN ps then (spT ps).ps.dropLast else (spT ps).ps
theorem spSp_ok {n : Int} (h3 : 3 ≤ n) (h7 : n ≤ 7) (wd : Int) : AscT n (spSp wd n) ∧ CovT n (spSp wd n) ∧ TwoT n (spSp wd n) ∧ (spSp wd n).length ≤ 100 := by
  have key : ∀ ts : List Trn, (ascB n ts = true ∧ ascN (ts.foldl turnR (rngZ n)) = 0 ∧ twoB n ts = true ∧ ts.length ≤ 100) → AscT n ts ∧ CovT n ts ∧ TwoT n ts ∧ ts.length ≤ 100 := fun ts h => ⟨ascT_of h.1, covT_of h.2.1, twoT_of h.2.2.1, h.2.2.2⟩
  have h1 : (ascB n (fan1 n) = true ∧ ascN ((fan1 n).foldl turnR (rngZ n)) = 0 ∧ twoB n (fan1 n) = true ∧ (fan1 n).length ≤ 100) ∧ (ascB n (fan2 n) = true ∧ ascN ((fan2 n).foldl turnR (rngZ n)) = 0 ∧ twoB n (fan2 n) = true ∧ (fan2 n).length ≤ 100) := by
    have : n = 3 ∨ n = 4 ∨ n = 5 ∨ n = 6 ∨ n = 7 := by omega
    rcases this with rfl | rfl | rfl | rfl | rfl <;> decide +kernel
  unfold spSp
  split
  · exact key _ h1.2
  · split
    · exact key _ h1.1
    · obtain ⟨a, b, c⟩ := fan_ok (show 2 ≤ n by omega) h7
      exact ⟨a, b, c, by show 1 ≤ 100; decide⟩
theorem spot_ok (ps : List Int) : 1 ≤ spN ps ∧ spN ps ≤ 7 ∧ AscT (spN ps) (spotT ps) ∧ CovT (spN ps) (spotT ps) ∧ TwoT (spN ps) (spotT ps) ∧ (spotT ps).length ≤ 100 := by
  obtain ⟨n1, n7⟩ := sizeZ_rng17 ps
  refine ⟨n1, n7, ?_⟩
  unfold spotT
  split
  · rename_i h
    exact spSp_ok h.2 n7 _
  · have n1' : 1 ≤ spN ps := n1
    have n7' : spN ps ≤ 7 := n7
    refine ⟨turns_asc _ _ _, turns_cov (by omega) _ _, turns_two _ _ _, ?_⟩
    have h1 := (turns_ok (show 0 ≤ spN ps by omega) (spW (spK ps) (spN ps)) ps.dropLast.dropLast).len
    have hn2 : spN ps * spN ps ≤ 49 := by
      have h1 : spN ps * spN ps ≤ 7 * spN ps := Int.mul_le_mul_of_nonneg_right n7' (by omega)
      omega
    show (spT ps).ts.length ≤ 100
    have h2 : (spT ps).ts.length ≤ (spN ps * spN ps).toNat := h1
    omega
section
variable {P : Program} {w : World} {K : PySem.W.Frag} {mg : Str → Option Value} {base : Heap} {f fG : Addr} {fd fdG : FuncData} {k : Nat} {C : Addr}
abbrev sSpotC : Stmt := topS 59
abbrev pSpotC : List Str := ["_law_pool_here", "_law_least", "_law_most"]
abbrev nSpotC : List Str := ["_law_pool_here", "_law_least", "_law_most", "_law_size_here", "_law_kind", "_law_widest", "_law_turns_here", "_law_word", "_law_k"]
theorem scSpotC : FnScope nSpotC pSpotC (defScope sSpotC) := ⟨rfl, rfl, rfl, by decide +kernel, rfl, by decide +kernel, by decide +kernel⟩
def gSpotC : GG := fun rs ow r ow' => ∃ (kp : Nat) (ps : List Int), rs = [.own kp, .d (.int 1), .d (.int 7)] ∧ ow[kp]? = some (.l (ps.map D.int)) ∧ r = .d (.tup [.int (spN ps), .lst ((spotT ps).map turnD)]) ∧ ow' = ow.set kp (.l ((spotP ps).map D.int))
abbrev scS (kp : Nat) (n kd wd ts wo kk : Option R) : Sta := [some (.own kp), some (.d (.int 1)), some (.d (.int 7)), n, kd, wd, ts, wo, kk]
theorem prT_D (n : Int) (h : 1 ≤ n) (h7 : n ≤ 7) : (prT n).map turnD = (List.range (n.toNat - 1)).map fun (i : Nat) => D.tup [.int (n - 2 - (i : Int)), .int 2] := by
  unfold prT
  rw [List.map_map]
  refine List.map_congr_left fun i hi => ?_
  have := List.mem_range.mp hi
  show D.tup [.int (((n - 2 - (i : Int)).toNat : Nat) : Int), .int 2] = _
  rw [show (((n - 2 - (i : Int)).toNat : Nat) : Int) = n - 2 - (i : Int) by omega]
theorem ok_spotC (F0 : Fun K "_law_spot_case" "_law_spot_case" sSpotC f fd) (Cs : Fg P w K mg base "_law_size" k ["_law_pool_here", "_law_least", "_law_most"] gSize) (Cn : Fg P w K mg base "_law_next" k ["_law_pool_here", "_law_many"] gNext) (Cu : Fg P w K mg base "_law_turns" k ["_law_pool_here", "_law_size_here", "_law_widest"] gTurns) (mR : mg "range" = none) : FnOk P w K mg base CX0 (k + 1) f fd pSpotC (spF K gSpotC) := by
  refine okF F0 scSpotC (fun rs ow r ow' h => ?_) (fun cdv A outer s H E hr rs ow r ow' h => ?_)
  · obtain ⟨kp, ps, rfl, _⟩ := h
    rfl
  · obtain ⟨kp, ps, rfl, hk, rfl, rfl⟩ := h
    have hkl : kp < ow.length := (List.getElem?_eq_some_iff.mp hk).1
    obtain ⟨OW, hOW⟩ : ∃ OW : List Int → List OB, OW = fun p => ow.set kp (.l (p.map D.int)) := ⟨_, rfl⟩
    have hget : ∀ p, (OW p)[kp]? = some (.l (p.map D.int)) := fun p => by rw [hOW]; exact List.getElem?_set_self hkl
    have hset : ∀ p q : List Int, (OW p).set kp (.l (q.map D.int)) = OW q := fun p q => by rw [hOW]; exact List.set_set ..
    have hfin : ow.set kp (.l ((spotP ps).map D.int)) = OW (spotP ps) := by rw [hOW]
    rw [hfin]
    obtain ⟨n1, n7⟩ := sizeZ_rng17 ps
    obtain ⟨n, hn⟩ : ∃ n, n = spN ps := ⟨_, rfl⟩
    have hn' : n = sizeZ ps 1 7 := hn
    obtain ⟨kd, hkd⟩ : ∃ kd, kd = spK ps := ⟨_, rfl⟩
    rw [← hn'] at n1 n7
    obtain ⟨wd, hwd⟩ : ∃ wd, wd = spW kd n := ⟨_, rfl⟩
    obtain ⟨T, hT⟩ : ∃ T, T = turnsZ n wd ps.dropLast.dropLast := ⟨_, rfl⟩
    have hT2 : T = spT ps := by rw [hT, hwd, hkd, hn]; rfl
    have hts : spotT ps = if kd = 7 ∧ 3 ≤ n then spSp (nextV T.ps 3) n else T.ts := by rw [hT2, hkd, hn]; rfl
    have htp : spotP ps = if kd = 7 ∧ 3 ≤ n then T.ps.dropLast else T.ps := by rw [hT2, hkd, hn]; rfl
    rw [hts, htp, ← hn]
    refine pbd_cons (psd_set 3 scSpotC.nd (pd_ow (pd_eqD (d' := .int n) (pd_cg Cs hr (Nat.le_refl _) (pad_cons (pd_var 0) (padd_cons (pd_var 1) (padd_cons (pd_var 2) padd_nil))) ⟨kp, 1, 7, ps, rfl, hk, rfl, rfl⟩) (by rw [hn'])) (show _ = OW ps.dropLast by rw [hOW]))) ?_
    refine pbd_cons (psd_set 4 scSpotC.nd (pd_ow (pd_eqD (d' := .int kd) (pd_cg Cn hr (Nat.le_refl _) (pad_cons (pd_var 0) (padd_cons pd_int padd_nil)) ⟨kp, 8, ps.dropLast, rfl, hget _, by decide, rfl, rfl⟩) (by rw [hkd]; rfl)) (hset _ ps.dropLast.dropLast))) ?_
    refine pbd_cons (psd_set 5 scSpotC.nd pd_int) ?_
    obtain ⟨w1, hw1⟩ : ∃ w1 : Int, w1 = if kd = 3 ∨ kd = 4 then 3 else 2 := ⟨_, rfl⟩
    have hw2 : wd = if kd = 5 ∨ kd = 6 then n else w1 := by rw [hwd, hw1]; rfl
    refine pbd_cons (psd_if (out := .nx (scS kp (some (.d (.int n))) (some (.d (.int kd))) (some (.d (.int w1))) none none none) (OW ps.dropLast.dropLast)) (ptd_eqB (q' := decide (kd = 3 ∨ kd = 4)) (ptd_bool (pwd_or (ptd_eq (pd_var 4) pd_int) fun _ => pwd_or1 (ptd_eq (pd_var 4) pd_int))) (by rw [iv_eq, iv_eq, Bool.decide_or])) (fun hb => ?_) (fun hb => ?_)) ?_
    · rw [hw1, if_pos (of_decide_eq_true hb)]
      exact pbd_cons (psd_set 5 scSpotC.nd pd_int) pbd_nil
    · rw [hw1, if_neg (of_decide_eq_false hb)]
      exact pbd_nil
    refine pbd_cons (psd_if (out := .nx (scS kp (some (.d (.int n))) (some (.d (.int kd))) (some (.d (.int wd))) none none none) (OW ps.dropLast.dropLast)) (ptd_eqB (q' := decide (kd = 5 ∨ kd = 6)) (ptd_bool (pwd_or (ptd_eq (pd_var 4) pd_int) fun _ => pwd_or1 (ptd_eq (pd_var 4) pd_int))) (by rw [iv_eq, iv_eq, Bool.decide_or])) (fun hb => ?_) (fun hb => ?_)) ?_
    · rw [hw2, if_pos (of_decide_eq_true hb)]
      exact pbd_cons (psd_set 5 scSpotC.nd (pd_var 3)) pbd_nil
    · rw [hw2, if_neg (of_decide_eq_false hb)]
      exact pbd_nil
    refine pbd_cons (psd_set 6 scSpotC.nd (pd_ow (pd_eqD (d' := .lst (T.ts.map turnD)) (pd_cg Cu hr (Nat.le_refl _) (pad_cons (pd_var 0) (padd_cons (pd_var 3) (padd_cons (pd_var 5) padd_nil))) ⟨kp, n, wd, ps.dropLast.dropLast, rfl, hget _, by omega, by omega, rfl, rfl⟩) (by rw [hT])) (show _ = OW T.ps by rw [hT]; exact hset _ _))) ?_
    show PBD _ (scS kp (some (.d (.int n))) (some (.d (.int kd))) (some (.d (.int wd))) (some (.d (.lst (T.ts.map turnD)))) none none) _ _ _
    clear hT hT2 hts htp hw1 hw2 hwd
    refine pbd_cons (psd_if (out := .nx (scS kp (some (.d (.int n))) (some (.d (.int kd))) (some (.d (.int wd))) (some (.d (.lst ((if kd = 7 ∧ 3 ≤ n then spSp (nextV T.ps 3) n else T.ts).map turnD)))) none none) (OW (if kd = 7 ∧ 3 ≤ n then T.ps.dropLast else T.ps))) (ptd_eqB (q' := decide (kd = 7 ∧ 3 ≤ n)) (ptd_bool (pwd_and (ptd_eq (pd_var 4) pd_int) fun _ => pwd_and1 (ptd_ge (pd_var 3) pd_int))) (by rw [iv_eq, Bool.decide_and])) (fun hb => ?_) (fun hb => ?_)) (pbd_last (psd_ret (pd_tup (padd_cons (pd_var 3) (padd_cons (pd_var 6) padd_nil)))))
    · have hb := of_decide_eq_true hb
      rw [if_pos hb, if_pos hb]
      obtain ⟨wo, hwo⟩ : ∃ wo, wo = nextV T.ps 3 := ⟨_, rfl⟩
      rw [← hwo]
      have e0 : (fanT n).map turnD = [D.tup [.int 0, .int n]] := by
        show [D.tup [.int ((0 : Nat) : Int), .int ((n.toNat : Nat) : Int)]] = _
        rw [show ((n.toNat : Nat) : Int) = n by omega]
        rfl
      have e1 : (fan1 n).map turnD = [D.tup [.int 0, .int (n - 1)]] ++ (List.range (n.toNat - 1)).map fun (i : Nat) => D.tup [.int (n - 2 - (i : Int)), .int 2] := by
        rw [← prT_D n (by omega) n7]
        show D.tup [.int ((0 : Nat) : Int), .int (((n - 1).toNat : Nat) : Int)] :: _ = _
        rw [show (((n - 1).toNat : Nat) : Int) = n - 1 by omega]
        rfl
      have e2 : (fan2 n).map turnD = ((List.range (n.toNat - 1)).map fun (i : Nat) => D.tup [.int (n - 2 - (i : Int)), .int 2]) ++ [D.tup [.int 1, .int (n - 1)]] := by
        rw [← prT_D n (by omega) n7]
        unfold fan2
        rw [List.map_append]
        show _ ++ [D.tup [.int ((1 : Nat) : Int), .int (((n - 1).toNat : Nat) : Int)]] = _
        rw [show (((n - 1).toNat : Nat) : Int) = n - 1 by omega]
        rfl
      refine pbd_weak (st1 := scS kp (some (.d (.int n))) (some (.d (.int kd))) (some (.d (.int wd))) (some (.d (.lst ((spSp wo n).map turnD)))) (some (.d (.int wo))) none) ?_ rfl (by (intro i r h; rcases i with _ | _ | _ | _ | _ | _ | _ | _ | _ | i <;> first | exact h | cases h))
      refine pbd_cons (psd_set 7 scSpotC.nd (pd_ow (pd_eqD (d' := .int wo) (pd_cg Cn hr (Nat.le_refl _) (pad_cons (pd_var 0) (padd_cons pd_int padd_nil)) ⟨kp, 3, T.ps, rfl, hget _, by decide, rfl, rfl⟩) (by rw [hwo])) (hset _ T.ps.dropLast))) ?_
      generalize OW T.ps.dropLast = ow9
      refine pbd_cons (psd_set 6 scSpotC.nd (pd_freeze (ow1 := ow9) (l := [D.tup [.int 0, .int n]]) (pd_lstO (padd_cons (pd_tup (padd_cons pd_int (padd_cons (pd_var 3) padd_nil))) padd_nil)))) ?_
      have hcmp : ∀ {X : Cx} {stq : Sta}, True := trivial
      refine pbd_cons (psd_if (out := .nx (scS kp (some (.d (.int n))) (some (.d (.int kd))) (some (.d (.int wd))) (some (.d (.lst ((if wo = 1 then fan1 n else fanT n).map turnD)))) (some (.d (.int wo))) none) ow9) (ptd_eqB (ptd_eq (pd_var 7) pd_int) (iv_eq (a := wo) (b := 1))) (fun hb => ?_) (fun hb => ?_)) ?_
      · rw [if_pos (of_decide_eq_true hb)]
        refine pbd_weak (pbd_cons (psd_set 6 scSpotC.nd (pd_eqD (pd_lstW (pd_catV (pd_freezeV (ow1 := ow9) (pd_lstO (padd_cons (pd_tup (padd_cons pd_int (padd_cons (pd_sub (pd_var 3) pd_int) padd_nil))) padd_nil))) (pd_freezeV (ow1 := ow9) (pd_lcO (own := [("_law_k", 8)]) (List.range (n.toNat - 1)) (fun (i : Nat) => D.int (i : Int)) (fun i => scS kp (some (.d (.int n))) (some (.d (.int kd))) (some (.d (.int wd))) (some (.d (.lst [D.tup [.int 0, .int n]]))) (some (.d (.int wo))) (some (.d (.int (i : Nat))))) (fun _ => true) (fun i => D.tup [.int (n - 2 - (i : Int)), .int 2])
          rfl scSpotC.nd (pid_eq (pid_range1 mR (padd_cons (pd_sub (pd_var 3) pd_int) padd_nil) (by omega)) (by
            unfold rngD
            rw [show (n - 1).toNat = n.toNat - 1 by omega]
            refine List.map_congr_left fun i _ => ?_
            rw [Int.zero_add])) (blkOk_by (N := nSpotC) (sc := defScope sSpotC) (by decide +kernel)) (by rw [List.length_range]; omega) (fun i hi _ H C' cl fp => pgd_name 8 scSpotC.nd) (fun i hi l _ H C' cl fp => ptsd_nil) (fun i hi _ l _ H C' cl fp => pd_tup (padd_cons (pd_sub (pd_sub (pd_var 3) pd_int) (pd_var 8)) (padd_cons pd_int padd_nil))))) (by rw [List.length_map, List.filter_eq_self.mpr (fun _ _ => rfl), List.length_range]; simp only [List.length_singleton]; omega))) (by rw [e1, List.filter_eq_self.mpr (fun _ _ => rfl)]))) pbd_nil) rfl (by (intro i r h; rcases i with _ | _ | _ | _ | _ | _ | _ | _ | _ | i <;> first | exact h | cases h))
      · rw [if_neg (of_decide_eq_false hb), e0]
        exact pbd_nil
      refine pbd_cons (psd_if (out := .nx (scS kp (some (.d (.int n))) (some (.d (.int kd))) (some (.d (.int wd))) (some (.d (.lst ((spSp wo n).map turnD)))) (some (.d (.int wo))) none) ow9) (ptd_eqB (ptd_eq (pd_var 7) pd_int) (iv_eq (a := wo) (b := 2))) (fun hb => ?_) (fun hb => ?_)) pbd_nil
      · have e : spSp wo n = fan2 n := if_pos (of_decide_eq_true hb)
        rw [e]
        refine pbd_weak (pbd_cons (psd_set 6 scSpotC.nd (pd_eqD (pd_lstW (pd_catV (pd_freezeV (ow1 := ow9) (pd_lcO (own := [("_law_k", 8)]) (List.range (n.toNat - 1)) (fun (i : Nat) => D.int (i : Int)) (fun i => scS kp (some (.d (.int n))) (some (.d (.int kd))) (some (.d (.int wd))) (some (.d (.lst ((if wo = 1 then fan1 n else fanT n).map turnD)))) (some (.d (.int wo))) (some (.d (.int (i : Nat))))) (fun _ => true) (fun i => D.tup [.int (n - 2 - (i : Int)), .int 2])
          rfl scSpotC.nd (pid_eq (pid_range1 mR (padd_cons (pd_sub (pd_var 3) pd_int) padd_nil) (by omega)) (by
            unfold rngD
            rw [show (n - 1).toNat = n.toNat - 1 by omega]
            refine List.map_congr_left fun i _ => ?_
            rw [Int.zero_add])) (blkOk_by (N := nSpotC) (sc := defScope sSpotC) (by decide +kernel)) (by rw [List.length_range]; omega) (fun i hi _ H C' cl fp => pgd_name 8 scSpotC.nd) (fun i hi l _ H C' cl fp => ptsd_nil) (fun i hi _ l _ H C' cl fp => pd_tup (padd_cons (pd_sub (pd_sub (pd_var 3) pd_int) (pd_var 8)) (padd_cons pd_int padd_nil))))) (pd_freezeV (ow1 := ow9) (pd_lstO (padd_cons (pd_tup (padd_cons pd_int (padd_cons (pd_sub (pd_var 3) pd_int) padd_nil))) padd_nil))) (by rw [List.length_map, List.filter_eq_self.mpr (fun _ _ => rfl), List.length_range]; simp only [List.length_singleton]; omega))) (by rw [e2, List.filter_eq_self.mpr (fun _ _ => rfl)]))) pbd_nil) rfl (by (intro i r h; rcases i with _ | _ | _ | _ | _ | _ | _ | _ | _ | i <;> first | exact h | cases h))
      · have e : spSp wo n = if wo = 1 then fan1 n else fanT n := if_neg (of_decide_eq_false hb)
        rw [e]
        exact pbd_nil
    · have hb := of_decide_eq_false hb
      rw [if_neg hb, if_neg hb]
      exact pbd_nil
end
end Bl
set_option Elab.async false
set_option linter.all false
set_option maxRecDepth 100000
set_option maxHeartbeats 4000000
namespace Bl
open PySem PySem.Spec PyProof.Rows L2
open scoped List
/-! ### a lot without a wrong three is a top of a row -/
def tmZ (n : Int) (ts : List Trn) (a b : Int) : Nat := ((lookI (timesZ (rngZ n) ts) [a, b]).getD 0).toNat
section
variable {n : Int} {ts : List Trn}
theorem tm_trd (cv : CovT n ts) {a b : Int} (h0 : 0 ≤ a) (hab : a < b) (hb : b < n) : Trd n ts a b (tmZ n ts a b) := by
  obtain ⟨i, e, h⟩ := time_of cv h0 hab hb
  unfold tmZ
  rw [e]
  exact h
theorem tm_three (A : AscT n ts) (cv : CovT n ts) {a b c : Int} (h0 : 0 ≤ a) (hab : a < b) (hbc : b < c) (hc : c < n) :
    (tmZ n ts a b = tmZ n ts b c ∧ tmZ n ts a c = tmZ n ts a b ∧ sgT (timesZ (rngZ n) ts) [a, b, c] = 0) ∨ (tmZ n ts a b < tmZ n ts a c ∧ tmZ n ts a c < tmZ n ts b c ∧ sgT (timesZ (rngZ n) ts) [a, b, c] = 1) ∨ (tmZ n ts b c < tmZ n ts a c ∧ tmZ n ts a c < tmZ n ts a b ∧ sgT (timesZ (rngZ n) ts) [a, b, c] = -1) :=
  sgT_three A cv h0 hab hbc hc (tm_trd cv h0 hab (by omega)) (tm_trd cv (by omega) hbc hc) (tm_trd cv h0 (by omega) hc)
/-- no three is wrong for D -/
def NoWr (n : Int) (F : List Int → Int) (D : List Int) : Prop := ∀ a b c : Int, 0 ≤ a → a < b → b < c → c < n → ¬ (0 ≤ F [a, b, c] ∧ a ∈ D ∧ c ∈ D ∧ b ∉ D) ∧ ¬ (F [a, b, c] ≤ 0 ∧ b ∈ D ∧ a ∉ D ∧ c ∉ D)
theorem left_right (A : AscT n ts) (cv : CovT n ts) {D : List Int} (hw : NoWr n (sgT (timesZ (rngZ n) ts)) D) {a b c d : Int} (ha : 0 ≤ a) (hab : a < b) (hb : b < n) (hc : 0 ≤ c) (hcd : c < d) (hd : d < n)
    (aD : a ∉ D) (bD : b ∈ D) (cD : c ∈ D) (dD : d ∉ D) : tmZ n ts a b < tmZ n ts c d := by
  have out : ∀ {x y z : Int}, 0 ≤ x → x < y → y < z → z < n → x ∈ D → y ∉ D → z ∈ D → tmZ n ts y z < tmZ n ts x z ∧ tmZ n ts x z < tmZ n ts x y := fun h1 h2 h3 h4 hx hy hz => by
    have m := tm_three A cv h1 h2 h3 h4
    have w := (hw _ _ _ h1 h2 h3 h4).1
    have : ¬ 0 ≤ sgT (timesZ (rngZ n) ts) [_, _, _] := fun z => w ⟨z, hx, hz, hy⟩
    omega
  have mid : ∀ {x y z : Int}, 0 ≤ x → x < y → y < z → z < n → x ∉ D → y ∈ D → z ∉ D → tmZ n ts x y < tmZ n ts x z ∧ tmZ n ts x z < tmZ n ts y z := fun h1 h2 h3 h4 hx hy hz => by
    have m := tm_three A cv h1 h2 h3 h4
    have w := (hw _ _ _ h1 h2 h3 h4).2
    have : ¬ sgT (timesZ (rngZ n) ts) [_, _, _] ≤ 0 := fun z => w ⟨z, hy, hx, hz⟩
    omega
  have hac : a ≠ c := fun e => aD (e ▸ cD)
  have hbd : b ≠ d := fun e => dD (e ▸ bD)
  by_cases e1 : a = d
  · subst e1
    have := out hc hcd hab hb cD aD bD
    omega
  by_cases e2 : b = c
  · subst e2
    have := mid ha hab hcd hd aD bD dD
    omega
  rcases Int.lt_or_gt_of_ne hac with h1 | h1 <;> rcases Int.lt_or_gt_of_ne hbd with h2 | h2
  · have m1 := mid ha h1 hcd hd aD cD dD
    have m2 := mid ha hab h2 hd aD bD dD
    omega
  · have m1 := mid ha h1 hcd hd aD cD dD
    have m2 := out hc hcd h2 hb cD dD bD
    have m3 := tm_three A cv ha (show a < d by omega) h2 hb
    omega
  · have m1 := out hc h1 hab hb cD aD bD
    have m2 := mid ha hab h2 hd aD bD dD
    have m3 := tm_three A cv hc (show c < b by omega) h2 hd
    omega
  · have m1 := out hc h1 hab hb cD aD bD
    have m2 := out hc hcd h2 hb cD dD bD
    omega
theorem least_of (Q : Nat → Prop) : ∀ m, Q m → ∃ t, t ≤ m ∧ Q t ∧ ∀ s, s < t → ¬ Q s
  | 0, h => ⟨0, Nat.le_refl _, h, fun s hs => absurd hs (Nat.not_lt_zero _)⟩
  | m + 1, h => by
    by_cases g : Q m
    · obtain ⟨t, h1, h2, h3⟩ := least_of Q m g
      exact ⟨t, by omega, h2, h3⟩
    · by_cases g2 : ∃ s, s < m ∧ Q s
      · obtain ⟨s, hs, hq⟩ := g2
        have key : ∀ k s, s ≤ k → Q s → ∃ t, t ≤ s ∧ Q t ∧ ∀ r, r < t → ¬ Q r := fun k => by
          induction k with
          | zero => exact fun s hs hq => ⟨s, Nat.le_refl _, hq, fun r hr => by omega⟩
          | succ k ih =>
            intro s hs hq
            by_cases g3 : ∃ r, r < s ∧ Q r
            · obtain ⟨r, hr, hq2⟩ := g3
              obtain ⟨t, h1, h2, h3⟩ := ih r (by omega) hq2
              exact ⟨t, by omega, h2, h3⟩
            · exact ⟨s, Nat.le_refl _, hq, fun r hr z => g3 ⟨r, hr, z⟩⟩
        obtain ⟨t, h1, h2, h3⟩ := key s s (Nat.le_refl _) hq
        exact ⟨t, by omega, h2, h3⟩
      · refine ⟨m + 1, Nat.le_refl _, h, fun s hs z => ?_⟩
        rcases Nat.lt_or_ge s m with h1 | h1
        · exact g2 ⟨s, h1, z⟩
        · have : s = m := by omega
          exact g (this ▸ z)
theorem take_filter (p : Int → Bool) : ∀ {l : List Int}, l.Nodup → (∀ d c, d ∈ l → c ∈ l → p d = true → p c = false → [d, c] <+ l) → l.take (l.filter p).length = l.filter p
  | [], _, _ => rfl
  | x :: l, hn, h => by
    obtain ⟨hx, hl⟩ := List.nodup_cons.mp hn
    cases hp : p x
    · have hall : l.filter p = [] := by
        rw [List.filter_eq_nil_iff]
        intro d hd hpd
        have hs := h d x (List.mem_cons_of_mem _ hd) List.mem_cons_self hpd hp
        cases hs with
        | cons _ hs => exact hx (hs.subset (by simp))
        | cons_cons _ hs => exact hx hd
      rw [List.filter_cons, if_neg (by rw [hp]; decide), hall]
      rfl
    · rw [List.filter_cons, if_pos hp, List.length_cons, List.take_succ_cons, take_filter p hl fun d c hd hc hpd hpc => ?_]
      have hs := h d c (List.mem_cons_of_mem _ hd) (List.mem_cons_of_mem _ hc) hpd hpc
      cases hs with
      | cons _ hs => exact hs
      | cons_cons _ hs => exact absurd hd hx
theorem place_of (A : AscT n ts) (cv : CovT n ts) {D : List Int} (hn : D.Nodup) (hr : ∀ x ∈ D, 0 ≤ x ∧ x < n) (hw : NoWr n (sgT (timesZ (rngZ n) ts)) D) : IsPl n ts (isort D) := by
  obtain ⟨t, ht, hQ, hL⟩ := least_of (fun t => ∀ a b : Int, 0 ≤ a → a < b → b < n → a ∉ D → b ∈ D → tmZ n ts a b < t) ts.length fun a b h0 hab hb _ _ => (tm_trd cv h0 hab hb).1
  have hR : ∀ c d : Int, 0 ≤ c → c < d → d < n → c ∈ D → d ∉ D → t ≤ tmZ n ts c d := fun c d hc hcd hd cD dD => by
    rcases Nat.lt_or_ge (tmZ n ts c d) t with h | h
    · refine absurd (fun a b ha hab hb aD bD => ?_) (hL _ h)
      exact left_right A cv hw ha hab hb hc hcd hd aD bD cD dD
    · exact h
  have hnd := rowAt_nd n ts t
  have key : (rowAt (rngZ n) ts t).take ((rowAt (rngZ n) ts t).filter fun x => decide (x ∈ D)).length = (rowAt (rngZ n) ts t).filter fun x => decide (x ∈ D) := by
    refine take_filter _ hnd fun d c hd hc hpd hpc => ?_
    have hd2 := mem_row.mp hd
    have hc2 := mem_row.mp hc
    have dD := of_decide_eq_true hpd
    have cD := of_decide_eq_false hpc
    have hdc : d ≠ c := fun e => cD (e ▸ dD)
    rcases Int.lt_or_gt_of_ne hdc with h | h
    · exact (bef_iff A hd2.1 h hc2.2 (tm_trd cv hd2.1 h hc2.2) ht).1 (hR d c hd2.1 h hc2.2 dD cD)
    · exact (bef_iff A hc2.1 h hd2.2 (tm_trd cv hc2.1 h hd2.2) ht).2 (hQ c d hc2.1 h hd2.2 cD dD)
  have hp : ((rowAt (rngZ n) ts t).filter fun x => decide (x ∈ D)).Perm D := (List.perm_ext_iff_of_nodup (hnd.filter _) hn).mpr fun x => by
    rw [List.mem_filter, decide_eq_true_eq]
    exact ⟨fun z => z.2, fun z => ⟨mem_row.mpr (hr x z), z⟩⟩
  refine ⟨t, D.length, ht, ?_, ?_⟩
  · have h1 := List.length_filter_le (fun x => decide (x ∈ D)) (rowAt (rngZ n) ts t)
    rw [hp.length_eq, row_len] at h1
    exact h1
  · unfold topL
    rw [← hp.length_eq, key]
    exact isort_eq ((isort_perm D).trans hp.symm) (isort_pw D)
end
end Bl
set_option Elab.async false
set_option linter.all false
set_option maxRecDepth 100000
set_option maxHeartbeats 8000000
namespace Bl
open PySem PySem.Spec PyProof.Rows L2
open scoped List
/-! ### turns that stand within the row -/
def ExT (n : Int) (ts : List Trn) : Prop := ∀ t ∈ ts, t.1 + t.2 ≤ n.toNat
theorem tFold_ex {n w : Int} : ∀ (l : List Int) (k : Nat) (s : TS_), TOk n k s → ExT n s.ts → ExT n (l.foldl (tStep n w) s).ts
  | [], k, s, _, h => h
  | a :: l, k, s, ok, h => by
    refine tFold_ex l (k + 1) _ (tStep_ok (w := w) a ok) ?_
    unfold tStep
    split
    · exact h
    · rename_i hz
      intro t ht
      rcases List.mem_append.mp ht with ht | ht
      · exact h t ht
      · rw [List.mem_singleton.mp ht]
        obtain ⟨h1, h2, h3⟩ := ups_mem (upP_mem hz)
        have hm := upM_ok (w := w) hz
        have g1 := hm.m2
        have g2 := hm.le
        unfold upT
        dsimp only
        omega
theorem turns_ex (n w : Int) (ps : List Int) : ExT n (turnsZ n w ps).ts := tFold_ex _ 0 _ (tS0 n ps) fun t ht => by cases ht
/-! ### a turn pulled apart -/
def shT (top : Nat) (t : Trn) : Trn := (top + t.1, t.2)
def finT (ts : List Trn) (a : Nat) (inr : List Trn) : List Trn := ts.take a ++ inr.map (shT (ts.getD a (0, 0)).1) ++ ts.drop (a + 1)
theorem turnR_map {f : Int → Int} (r : List Int) (t : Trn) : turnR (r.map f) t = (turnR r t).map f := by
  unfold turnR
  rw [List.map_append, List.map_append, List.map_take, List.map_reverse, List.map_take, List.map_drop, List.map_drop]
theorem turnsR_map {f : Int → Int} : ∀ (ts : List Trn) (r : List Int), ts.foldl turnR (r.map f) = (ts.foldl turnR r).map f
  | [], _ => rfl
  | t :: ts, r => by rw [List.foldl_cons, turnR_map, turnsR_map ts, List.foldl_cons]
theorem turnR_mid {pre mid post : List Int} {t : Trn} (h : t.1 + t.2 ≤ mid.length) : turnR (pre ++ mid ++ post) (shT pre.length t) = pre ++ turnR mid t ++ post := by
  unfold turnR shT
  dsimp only
  have e1 : (pre ++ mid ++ post).take (pre.length + t.1) = pre ++ mid.take t.1 := by
    rw [List.append_assoc, List.take_append, List.take_of_length_le (by omega), Nat.add_sub_cancel_left, List.take_append_of_le_length (by omega)]
  have e2 : (pre ++ mid ++ post).drop (pre.length + t.1) = mid.drop t.1 ++ post := by
    rw [List.append_assoc, List.drop_append, List.drop_of_length_le (by omega), Nat.add_sub_cancel_left, List.drop_append_of_le_length (by omega), List.nil_append]
  have e3 : (pre ++ mid ++ post).drop (pre.length + t.1 + t.2) = mid.drop (t.1 + t.2) ++ post := by
    rw [List.append_assoc, List.drop_append, List.drop_of_length_le (by omega), Nat.add_assoc, Nat.add_sub_cancel_left, List.drop_append_of_le_length h, List.nil_append]
  rw [e1, e2, e3, List.take_append_of_le_length (by rw [List.length_drop]; omega)]
  simp only [List.append_assoc]
theorem turnsR_mid {pre post : List Int} : ∀ (ts : List Trn) (mid : List Int), (∀ t ∈ ts, t.1 + t.2 ≤ mid.length) → (ts.map (shT pre.length)).foldl turnR (pre ++ mid ++ post) = pre ++ ts.foldl turnR mid ++ post
  | [], _, _ => rfl
  | t :: ts, mid, h => by
    rw [List.map_cons, List.foldl_cons, turnR_mid (h t List.mem_cons_self), turnsR_mid ts (turnR mid t) (fun u hu => by
      have := turnsR_len mid [t]
      rw [show [t].foldl turnR mid = turnR mid t from rfl] at this
      rw [this]
      exact h u (List.mem_cons_of_mem _ hu)), List.foldl_cons]
section
variable {n : Int} {ts inr : List Trn} {a : Nat}
/-- the place i of the block -/
def gB (n : Int) (ts : List Trn) (a : Nat) (i : Int) : Int := (blk (rngZ n) ts a).getD i.toNat 0
theorem blk_exact (hx : ExT n ts) (ha : a < ts.length) : (blk (rngZ n) ts a).length = (ts.getD a (0, 0)).2 := by
  have hm : ts.getD a (0, 0) ∈ ts := by
    rw [List.getD_eq_getElem?_getD, List.getElem?_eq_getElem ha]
    exact List.getElem_mem ha
  have h := hx _ hm
  unfold blk
  rw [List.length_take, List.length_drop, turnsR_len, rngZ_len]
  omega
theorem blk_map_rng (hx : ExT n ts) (ha : a < ts.length) : (rngZ ((ts.getD a (0, 0)).2 : Int)).map (gB n ts a) = blk (rngZ n) ts a := by
  have hl := blk_exact hx ha
  apply List.ext_getElem
  · rw [List.length_map, rngZ_len, hl]
    omega
  · intro i h1 h2
    rw [List.getElem_map]
    have e : (rngZ ((ts.getD a (0, 0)).2 : Int))[i]'(by rw [List.length_map] at h1; exact h1) = (i : Int) := by
      unfold rngZ
      rw [List.getElem_map, List.getElem_range]
      omega
    rw [e]
    unfold gB
    rw [show (i : Int).toNat = i by omega, List.getD_eq_getElem?_getD, List.getElem?_eq_getElem h2]
    rfl
theorem fin_len (ha : a < ts.length) : (finT ts a inr).length + 1 = ts.length + inr.length := by
  unfold finT
  rw [List.length_append, List.length_append, List.length_take, List.length_map, List.length_drop]
  omega
theorem fin_take1 (ha : a < ts.length) {u : Nat} (hu : u ≤ a) : (finT ts a inr).take u = ts.take u := by
  unfold finT
  rw [List.append_assoc, List.take_append_of_le_length (by rw [List.length_take]; omega), List.take_take, Nat.min_eq_left hu]
theorem fin_take2 (ha : a < ts.length) {j : Nat} (hj : j ≤ inr.length) : (finT ts a inr).take (a + j) = ts.take a ++ (inr.take j).map (shT (ts.getD a (0, 0)).1) := by
  have hl : (ts.take a).length = a := by rw [List.length_take]; omega
  unfold finT
  rw [List.append_assoc, List.take_append, hl, List.take_of_length_le (by rw [hl]; omega), Nat.add_sub_cancel_left, List.take_append_of_le_length (by rw [List.length_map]; omega), List.map_take]
theorem fin_take3 (ha : a < ts.length) (j : Nat) : (finT ts a inr).take (a + inr.length + j) = ts.take a ++ inr.map (shT (ts.getD a (0, 0)).1) ++ (ts.drop (a + 1)).take j := by
  have hl : (ts.take a ++ inr.map (shT (ts.getD a (0, 0)).1)).length = a + inr.length := by rw [List.length_append, List.length_take, List.length_map]; omega
  unfold finT
  rw [List.take_append, hl, List.take_of_length_le (by rw [hl]; omega), Nat.add_sub_cancel_left]
theorem hd_len2 (hx : ExT n ts) (ha : a < ts.length) : (hdR n ts a).length = (ts.getD a (0, 0)).1 := by
  have hm : ts.getD a (0, 0) ∈ ts := by
    rw [List.getD_eq_getElem?_getD, List.getElem?_eq_getElem ha]
    exact List.getElem_mem ha
  have h := hx _ hm
  unfold hdR
  rw [List.length_take, row_len]
  omega
theorem fin_row1 (ha : a < ts.length) {u : Nat} (hu : u ≤ a) : rowAt (rngZ n) (finT ts a inr) u = rowAt (rngZ n) ts u := by
  unfold rowAt
  rw [fin_take1 ha hu]
theorem fin_row2 (hx : ExT n ts) (ha : a < ts.length) (hi : ExT ((ts.getD a (0, 0)).2 : Int) inr) {j : Nat} (hj : j ≤ inr.length) : rowAt (rngZ n) (finT ts a inr) (a + j) = hdR n ts a ++ (rowAt (rngZ ((ts.getD a (0, 0)).2 : Int)) inr j).map (gB n ts a) ++ tlR n ts a := by
  have hl := blk_exact hx ha
  unfold rowAt
  rw [fin_take2 ha hj, List.foldl_append]
  show ((inr.take j).map (shT (ts.getD a (0, 0)).1)).foldl turnR (rowAt (rngZ n) ts a) = _
  rw [row_split, ← hd_len2 hx ha, turnsR_mid _ _ fun t ht => ?_, ← turnsR_map, blk_map_rng hx ha]
  have h := hi t (List.mem_of_mem_take ht)
  rw [hl]
  simpa using h
theorem fin_row3 (hx : ExT n ts) (ha : a < ts.length) (hi : ExT ((ts.getD a (0, 0)).2 : Int) inr) (hr : inr.foldl turnR (rngZ ((ts.getD a (0, 0)).2 : Int)) = (rngZ ((ts.getD a (0, 0)).2 : Int)).reverse) (j : Nat) : rowAt (rngZ n) (finT ts a inr) (a + inr.length + j) = rowAt (rngZ n) ts (a + 1 + j) := by
  have h1 := fin_row2 (n := n) hx ha hi (Nat.le_refl inr.length)
  have h2 : rowAt (rngZ ((ts.getD a (0, 0)).2 : Int)) inr inr.length = (rngZ ((ts.getD a (0, 0)).2 : Int)).reverse := by
    unfold rowAt
    rw [List.take_length, hr]
  rw [h2, List.map_reverse, blk_map_rng hx ha, ← row_next ha] at h1
  have e1 : rowAt (rngZ n) (finT ts a inr) (a + inr.length + j) = ((ts.drop (a + 1)).take j).foldl turnR (rowAt (rngZ n) (finT ts a inr) (a + inr.length)) := by
    unfold rowAt
    rw [fin_take3 ha j, List.foldl_append, fin_take2 ha (Nat.le_refl _), List.take_length]
  rw [e1, h1]
  unfold rowAt
  rw [← List.foldl_append, List.take_add (l := ts) (i := a + 1) (j := j)]
end
end Bl
set_option Elab.async false
set_option linter.all false
set_option maxRecDepth 100000
set_option maxHeartbeats 8000000
namespace Bl
open PySem PySem.Spec PyProof.Rows L2
open scoped List
section
variable {n : Int} {ts inr : List Trn} {a : Nat}
theorem getD_get (l : List Trn) (u : Nat) : l.getD u (0, 0) = (l[u]?).getD (0, 0) := List.getD_eq_getElem?_getD ..
theorem fin_get1 (ha : a < ts.length) {u : Nat} (hu : u < a) : (finT ts a inr).getD u (0, 0) = ts.getD u (0, 0) := by
  unfold finT
  generalize (ts.getD a (0, 0)).1 = top
  rw [getD_get, getD_get ts, List.append_assoc, List.getElem?_append_left (by rw [List.length_take]; omega), List.getElem?_take, if_pos hu]
theorem fin_get2 (ha : a < ts.length) {j : Nat} (hj : j < inr.length) : (finT ts a inr).getD (a + j) (0, 0) = shT (ts.getD a (0, 0)).1 (inr.getD j (0, 0)) := by
  have hl : (ts.take a).length = a := by rw [List.length_take]; omega
  unfold finT
  generalize (ts.getD a (0, 0)).1 = top
  rw [getD_get, getD_get inr, List.append_assoc, List.getElem?_append_right (by rw [hl]; omega), hl, Nat.add_sub_cancel_left, List.getElem?_append_left (by rw [List.length_map]; exact hj), List.getElem?_map, List.getElem?_eq_getElem hj]
  rfl
theorem fin_get3 (ha : a < ts.length) (j : Nat) : (finT ts a inr).getD (a + inr.length + j) (0, 0) = ts.getD (a + 1 + j) (0, 0) := by
  unfold finT
  generalize (ts.getD a (0, 0)).1 = top
  have hl : (ts.take a ++ inr.map (shT top)).length = a + inr.length := by rw [List.length_append, List.length_take, List.length_map]; omega
  rw [getD_get, getD_get ts, List.getElem?_append_right (by rw [hl]; omega), hl, Nat.add_sub_cancel_left, List.getElem?_drop]
theorem mem_blk {n : Int} {ts : List Trn} {u : Nat} {x : Int} (h : x ∈ blk (rngZ n) ts u) : x ∈ rowAt (rngZ n) ts u := List.mem_of_mem_drop (List.mem_of_mem_take h)
theorem blk_row (n : Int) (ts : List Trn) (u : Nat) : blk (rngZ n) ts u = ((rowAt (rngZ n) ts u).drop (ts.getD u (0, 0)).1).take (ts.getD u (0, 0)).2 := rfl
theorem fin_blk1 (ha : a < ts.length) {u : Nat} (hu : u < a) : blk (rngZ n) (finT ts a inr) u = blk (rngZ n) ts u := by
  rw [blk_row, blk_row, fin_row1 ha (Nat.le_of_lt hu), fin_get1 ha hu]
theorem fin_blk2 (hx : ExT n ts) (ha : a < ts.length) (hi : ExT ((ts.getD a (0, 0)).2 : Int) inr) {j : Nat} (hj : j < inr.length) : blk (rngZ n) (finT ts a inr) (a + j) = (blk (rngZ ((ts.getD a (0, 0)).2 : Int)) inr j).map (gB n ts a) := by
  rw [blk_row, fin_row2 hx ha hi (Nat.le_of_lt hj), fin_get2 ha hj, blk_row]
  have hm : inr.getD j (0, 0) ∈ inr := by
    rw [List.getD_eq_getElem?_getD, List.getElem?_eq_getElem hj]
    exact List.getElem_mem hj
  have h := hi _ hm
  have hr : (rowAt (rngZ ((ts.getD a (0, 0)).2 : Int)) inr j).length = (ts.getD a (0, 0)).2 := by
    rw [row_len]
    omega
  generalize rowAt (rngZ ((ts.getD a (0, 0)).2 : Int)) inr j = R at hr
  generalize inr.getD j (0, 0) = q at h
  unfold shT
  dsimp only
  rw [← hd_len2 hx ha, List.append_assoc, List.drop_append, List.drop_of_length_le (by omega), Nat.add_sub_cancel_left, List.nil_append, List.drop_append_of_le_length (by rw [List.length_map]; omega), List.take_append_of_le_length (by rw [List.length_drop, List.length_map]; omega), ← List.map_drop, ← List.map_take]
theorem fin_blk3 (hx : ExT n ts) (ha : a < ts.length) (hi : ExT ((ts.getD a (0, 0)).2 : Int) inr) (hr : inr.foldl turnR (rngZ ((ts.getD a (0, 0)).2 : Int)) = (rngZ ((ts.getD a (0, 0)).2 : Int)).reverse) (j : Nat) : blk (rngZ n) (finT ts a inr) (a + inr.length + j) = blk (rngZ n) ts (a + 1 + j) := by
  rw [blk_row, blk_row, fin_row3 hx ha hi hr, fin_get3 ha]
theorem gB_mono (A : AscT n ts) (hx : ExT n ts) (ha : a < ts.length) {x y : Int} (h0 : 0 ≤ x) (hxy : x < y) (hy : y < ((ts.getD a (0, 0)).2 : Int)) : gB n ts a x < gB n ts a y := by
  have hl := blk_exact hx ha
  have hp := A a ha
  unfold gB
  rw [List.getD_eq_getElem?_getD, List.getD_eq_getElem?_getD, List.getElem?_eq_getElem (by omega), List.getElem?_eq_getElem (by omega)]
  exact List.pairwise_iff_getElem.mp hp x.toNat y.toNat (by omega) (by omega) (by omega)
theorem gB_of (hx : ExT n ts) (ha : a < ts.length) {x : Int} (h : x ∈ blk (rngZ n) ts a) : ∃ i, 0 ≤ i ∧ i < ((ts.getD a (0, 0)).2 : Int) ∧ gB n ts a i = x := by
  rw [← blk_map_rng hx ha] at h
  obtain ⟨i, hi, e⟩ := List.mem_map.mp h
  exact ⟨i, (mem_rngZ hi).1, (mem_rngZ hi).2, e⟩
/-- what the inner turns are -/
structure InT (m : Int) (inr : List Trn) : Prop where
  ex : ExT m inr
  asc : AscT m inr
  cov : CovT m inr
  two : TwoT m inr
variable (A : AscT n ts) (cv : CovT n ts) (tw : TwoT n ts) (hx : ExT n ts) (ha : a < ts.length) (I : InT ((ts.getD a (0, 0)).2 : Int) inr)
include A cv tw hx ha I
theorem in_last : inr.foldl turnR (rngZ ((ts.getD a (0, 0)).2 : Int)) = (rngZ ((ts.getD a (0, 0)).2 : Int)).reverse := by
  have h := row_last I.asc I.cov
  unfold rowAt at h
  rw [List.take_length] at h
  exact h
theorem fin_asc : AscT n (finT ts a inr) := fun u hu => by
  have hl := fin_len (inr := inr) ha
  rcases Nat.lt_or_ge u a with h | h
  · rw [fin_blk1 ha h]
    exact A u (by omega)
  · rcases Nat.lt_or_ge u (a + inr.length) with h2 | h2
    · obtain ⟨j, rfl⟩ : ∃ j, u = a + j := ⟨u - a, by omega⟩
      rw [fin_blk2 hx ha I.ex (by omega), List.pairwise_map]
      refine (I.asc j (by omega)).imp_of_mem fun {x y} hx1 hy1 hxy => ?_
      have hx2 := mem_row.mp (mem_blk hx1)
      have hy2 := mem_row.mp (mem_blk hy1)
      exact gB_mono A hx ha hx2.1 hxy hy2.2
    · obtain ⟨j, rfl⟩ : ∃ j, u = a + inr.length + j := ⟨u - (a + inr.length), by omega⟩
      rw [fin_blk3 hx ha I.ex (in_last A cv tw hx ha I)]
      exact A _ (by omega)
theorem fin_two : TwoT n (finT ts a inr) := fun u hu => by
  have hl := fin_len (inr := inr) ha
  rcases Nat.lt_or_ge u a with h | h
  · rw [fin_blk1 ha h]
    exact tw u (by omega)
  · rcases Nat.lt_or_ge u (a + inr.length) with h2 | h2
    · obtain ⟨j, rfl⟩ : ∃ j, u = a + j := ⟨u - a, by omega⟩
      rw [fin_blk2 hx ha I.ex (by omega), List.length_map]
      exact I.two j (by omega)
    · obtain ⟨j, rfl⟩ : ∃ j, u = a + inr.length + j := ⟨u - (a + inr.length), by omega⟩
      rw [fin_blk3 hx ha I.ex (in_last A cv tw hx ha I)]
      exact tw _ (by omega)
/-- the time of a pair, in the finer drawing -/
theorem fin_trd {x y : Int} (hxy : x < y) {u : Nat} (h : Trd n ts x y u) : ∃ v, Trd n (finT ts a inr) x y v ∧ ((u < a ∧ v = u) ∨ (u = a ∧ a ≤ v ∧ v < a + inr.length) ∨ (a < u ∧ v + 1 = u + inr.length)) := by
  have hl := fin_len (inr := inr) ha
  obtain ⟨h1, h2, h3⟩ := h
  rcases Nat.lt_trichotomy u a with g | g | g
  · refine ⟨u, ⟨by omega, ?_, ?_⟩, .inl ⟨g, rfl⟩⟩ <;> rw [fin_blk1 ha g] <;> assumption
  · subst g
    obtain ⟨i, i0, i1, ei⟩ := gB_of hx ha h2
    obtain ⟨k, k0, k1, ek⟩ := gB_of hx ha h3
    have hik : i < k := by
      rcases Int.lt_trichotomy i k with q | q | q
      · exact q
      · subst q
        omega
      · have := gB_mono A hx ha k0 q i1
        omega
    obtain ⟨j, j1, j2, j3⟩ := I.cov i k i0 hik k1
    refine ⟨u + j, ⟨by omega, ?_, ?_⟩, .inr (.inl ⟨rfl, by omega, by omega⟩)⟩ <;> rw [fin_blk2 hx ha I.ex j1]
    · exact List.mem_map.mpr ⟨i, j2, ei⟩
    · exact List.mem_map.mpr ⟨k, j3, ek⟩
  · obtain ⟨j, rfl⟩ : ∃ j, u = a + 1 + j := ⟨u - (a + 1), by omega⟩
    refine ⟨a + inr.length + j, ⟨by omega, ?_, ?_⟩, .inr (.inr ⟨by omega, by omega⟩)⟩ <;> rw [fin_blk3 hx ha I.ex (in_last A cv tw hx ha I)] <;> assumption
theorem fin_cov : CovT n (finT ts a inr) := fun x y h0 hxy hy => by
  obtain ⟨u, h1, h2, h3⟩ := cv x y h0 hxy hy
  obtain ⟨v, ⟨g1, g2, g3⟩, _⟩ := fin_trd A cv tw hx ha I hxy ⟨h1, h2, h3⟩
  exact ⟨v, g1, g2, g3⟩
/-- the signs stay, but for the threes of the knot -/
theorem fin_sign {i j k : Int} (h0 : 0 ≤ i) (hij : i < j) (hjk : j < k) (hk : k < n) : sgT (timesZ (rngZ n) (finT ts a inr)) [i, j, k] = sgT (timesZ (rngZ n) ts) [i, j, k] ∨ (sgT (timesZ (rngZ n) ts) [i, j, k] = 0 ∧ i ∈ blk (rngZ n) ts a ∧ j ∈ blk (rngZ n) ts a ∧ k ∈ blk (rngZ n) ts a) := by
  obtain ⟨u1, p1⟩ : ∃ u, Trd n ts i j u := cv i j h0 hij (by omega)
  obtain ⟨u2, p2⟩ : ∃ u, Trd n ts j k u := cv j k (by omega) hjk hk
  obtain ⟨u3, p3⟩ : ∃ u, Trd n ts i k u := cv i k h0 (by omega) hk
  have o := sgT_three A cv h0 hij hjk hk p1 p2 p3
  obtain ⟨v1, q1, c1⟩ := fin_trd A cv tw hx ha I hij p1
  obtain ⟨v2, q2, c2⟩ := fin_trd A cv tw hx ha I hjk p2
  obtain ⟨v3, q3, c3⟩ := fin_trd A cv tw hx ha I (show i < k by omega) p3
  have w := sgT_three (fin_asc A cv tw hx ha I) (fin_cov A cv tw hx ha I) h0 hij hjk hk q1 q2 q3
  by_cases e : u1 = a ∧ u2 = a
  · obtain ⟨rfl, e2⟩ := e
    subst e2
    right
    refine ⟨by omega, p1.2.1, p1.2.2, p2.2.2⟩
  · left
    omega
/-- a place stays a place -/
theorem fin_pl {pl : List Int} (h : IsPl n ts pl) : IsPl n (finT ts a inr) pl := by
  have hl := fin_len (inr := inr) ha
  obtain ⟨t, j, ht, hj, rfl⟩ := h
  rcases Nat.lt_or_ge a t with g | g
  · obtain ⟨i, rfl⟩ : ∃ i, t = a + 1 + i := ⟨t - (a + 1), by omega⟩
    refine ⟨a + inr.length + i, j, by omega, hj, ?_⟩
    unfold topL
    rw [fin_row3 hx ha I.ex (in_last A cv tw hx ha I)]
  · refine ⟨t, j, by omega, hj, ?_⟩
    unfold topL
    rw [fin_row1 ha g]
end
end Bl
set_option Elab.async false
set_option linter.all false
set_option maxRecDepth 100000
set_option maxHeartbeats 8000000
namespace Bl
open PySem PySem.Spec PyProof.Rows L2
open scoped List
/-! ### a lot is a place exactly if no three is wrong -/
theorem wrong_iff {n : Int} {F : List Int → Int} {D : List Int} (h0 : 0 ≤ n) (h7 : n ≤ 7) : wrongF n F D = none ↔ NoWr n F D := by
  have key : ∀ a b c : Int, wrongB F D [a, b, c] = true ↔ (0 ≤ F [a, b, c] ∧ a ∈ D ∧ c ∈ D ∧ b ∉ D) ∨ (F [a, b, c] ≤ 0 ∧ b ∈ D ∧ a ∉ D ∧ c ∉ D) := fun a b c => by
    unfold wrongB
    show ((decide (0 ≤ F [a, b, c]) && (decide (a ∈ D) && (decide (c ∈ D) && !decide (b ∈ D)))) || (decide (F [a, b, c] ≤ 0) && (decide (b ∈ D) && (!decide (a ∈ D) && !decide (c ∈ D))))) = true ↔ _
    simp only [Bool.or_eq_true, Bool.and_eq_true, Bool.not_eq_true', decide_eq_true_eq, decide_eq_false_iff_not]
  unfold wrongF
  rw [List.find?_eq_none]
  constructor
  · intro h a b c ha hab hbc hc
    have h1 := h _ (mem_sub3 h0 h7 ha hab hbc hc)
    rw [key] at h1
    exact ⟨fun z => h1 (.inl z), fun z => h1 (.inr z)⟩
  · intro h q hq
    obtain ⟨a, b, c, rfl, ha, hab, hbc, hc⟩ := sub3_form h0 h7 hq
    rw [key]
    obtain ⟨g1, g2⟩ := h a b c ha hab hbc hc
    rintro (z | z)
    · exact g1 z
    · exact g2 z
section
variable {n : Int} {ts : List Trn}
theorem pl_iff (h0 : 0 ≤ n) (h7 : n ≤ 7) (A : AscT n ts) (cv : CovT n ts) {D : List Int} (hs : isort D = D) (hn : D.Nodup) (hr : ∀ x ∈ D, 0 ≤ x ∧ x < n) : wrongF n (sgT (timesZ (rngZ n) ts)) D = none ↔ IsPl n ts D := by
  constructor
  · intro h
    have := place_of A cv hn hr ((wrong_iff h0 h7).mp h)
    rw [hs] at this
    exact this
  · intro h
    obtain ⟨t, j, hk⟩ := pl_ok h0 h
    exact hk.good h0 h7 A cv
theorem addP_mem (s : List (List Int)) (x : List Int) : x ∈ addP s x := by
  unfold addP
  split
  · assumption
  · simp
theorem fold_keep {α β : Type} (ff : List β → α → List β) (h : ∀ s x, ∃ m, ff s x = s ++ m) {y : β} (Q : α → Prop) (hq : ∀ s x, Q x → y ∈ ff s x) : ∀ (l : List α) (s : List β) {x : α}, x ∈ l → Q x → y ∈ l.foldl ff s
  | z :: l, s, x, hx, hQ => by
    rw [List.foldl_cons]
    rcases List.mem_cons.mp hx with rfl | hx
    · obtain ⟨m, e⟩ := fold_head ff h l (ff s x)
      rw [e]
      exact List.mem_append_left _ (hq s x hQ)
    · exact fold_keep ff h Q hq l _ hx hQ
theorem places_iff {D : List Int} : D ∈ placesZ n (rowsZ (rngZ n) ts) ↔ IsPl n ts D := by
  refine ⟨places_are, fun ⟨t, j, ht, hj, e⟩ => ?_⟩
  unfold placesZ
  have hrow : rowAt (rngZ n) ts t ∈ rowsZ (rngZ n) ts := List.mem_map.mpr ⟨t, List.mem_range.mpr (by omega), rfl⟩
  refine fold_keep (fun s row => (List.range (n.toNat + 1)).foldl (plR n row) s) (fun s row => fold_head (plR n row) (fun s j => addP_app _ _) _ _) (fun row => row = rowAt (rngZ n) ts t) (fun s row hrow => ?_) _ _ hrow rfl
  subst hrow
  refine fold_keep (plR n (rowAt (rngZ n) ts t)) (fun s j => addP_app _ _) (fun i => i = j) (fun s i hi => ?_) _ _ (List.mem_range.mpr (show j < n.toNat + 1 by omega)) rfl
  subst hi
  unfold plR
  rw [e]
  exact addP_mem _ _
theorem spots_iff {D : List Int} : D ∈ spotsZ n ts ↔ IsPl n ts D := by
  unfold spotsZ
  rw [(List.mergeSort_perm _ _).mem_iff]
  exact places_iff
/-- a lot of the law: some of the lines, ascending -/
theorem lot_of_lots {D : List Int} (h : D ∈ lotsZ n) : isort D = D ∧ D.Nodup ∧ (∀ x ∈ D, 0 ≤ x ∧ x < n) ∧ D.length ≤ n.toNat := by
  have hs := lots_sub h
  have hp := (rngZ_pw n).sublist hs
  refine ⟨(isort_eq (.refl _) (hp.imp fun h => Int.le_of_lt h)).symm, (rngZ_nd n).sublist hs, fun x hx => mem_rngZ (hs.subset hx), ?_⟩
  have := hs.length_le
  rw [rngZ_len] at this
  exact this
variable {inr : List Trn} {a : Nat}
/-- a lot that is a place of the finer drawing alone has wrong threes of sign 0 within the knot alone -/
theorem fin_new (h0 : 0 ≤ n) (h7 : n ≤ 7) (A : AscT n ts) (cv : CovT n ts) (tw : TwoT n ts) (hx : ExT n ts) (ha : a < ts.length) (I : InT ((ts.getD a (0, 0)).2 : Int) inr) {D : List Int} (hD : D ∈ lotsZ n) (h1 : IsPl n (finT ts a inr) D) (h2 : ¬ IsPl n ts D) :
    wr0 n (sgT (timesZ (rngZ n) ts)) D = 0 ∧ wr1 n (sgT (timesZ (rngZ n) ts)) D = 0 ∧ ∃ x y z, wrongF n (sgT (timesZ (rngZ n) ts)) D = some [x, y, z] ∧ [x, y, z] ∈ sub3 (rngZ n) ∧ sgT (timesZ (rngZ n) ts) [x, y, z] = 0 ∧ x ∈ blk (rngZ n) ts a ∧ y ∈ blk (rngZ n) ts a ∧ z ∈ blk (rngZ n) ts a := by
  obtain ⟨hs, hn, hr, _⟩ := lot_of_lots hD
  have hf := (wrong_iff h0 h7).mp ((pl_iff h0 h7 (fin_asc A cv tw hx ha I) (fin_cov A cv tw hx ha I) hs hn hr).mpr h1)
  have hno : wrongF n (sgT (timesZ (rngZ n) ts)) D ≠ none := fun z => h2 ((pl_iff h0 h7 A cv hs hn hr).mp z)
  have hz : ∀ t ∈ sub3 (rngZ n), w0Q (sgT (timesZ (rngZ n) ts)) D t = 0 ∧ w1Q (sgT (timesZ (rngZ n) ts)) D t = 0 := fun t ht => by
    obtain ⟨i, j, k, rfl, hi, hij, hjk, hk⟩ := sub3_form h0 h7 ht
    obtain ⟨g1, g2⟩ := hf i j k hi hij hjk hk
    constructor
    · unfold w0Q
      refine if_neg fun z => ?_
      simp only [Bool.and_eq_true, Bool.not_eq_true', decide_eq_true_eq, decide_eq_false_iff_not] at z
      obtain ⟨z1, z2, z3, z4⟩ := z
      rcases fin_sign A cv tw hx ha I hi hij hjk hk with e | e
      · exact g1 ⟨by rw [e, z1]; decide, z2, z4, z3⟩
      · rw [e.1] at z1
        cases z1
    · unfold w1Q
      refine if_neg fun z => ?_
      simp only [Bool.and_eq_true, Bool.not_eq_true', decide_eq_true_eq, decide_eq_false_iff_not] at z
      obtain ⟨z1, z2, z3, z4⟩ := z
      rcases fin_sign A cv tw hx ha I hi hij hjk hk with e | e
      · exact g2 ⟨by rw [e, z1]; decide, z3, z2, z4⟩
      · rw [e.1] at z1
        cases z1
  refine ⟨?_, ?_, ?_⟩
  · rw [← wr0_sum, List.map_congr_left (g := fun _ => (0 : Int)) fun t ht => (hz t ht).1]
    exact sum_zero _
  · rw [← wr1_sum, List.map_congr_left (g := fun _ => (0 : Int)) fun t ht => (hz t ht).2]
    exact sum_zero _
  · cases hq : wrongF n (sgT (timesZ (rngZ n) ts)) D with
    | none => exact absurd hq hno
    | some q =>
      have hm := List.mem_of_find?_eq_some hq
      have hb := List.find?_some hq
      obtain ⟨i, j, k, rfl, hi, hij, hjk, hk⟩ := sub3_form h0 h7 hm
      obtain ⟨g1, g2⟩ := hf i j k hi hij hjk hk
      refine ⟨i, j, k, rfl, hm, ?_⟩
      rcases fin_sign A cv tw hx ha I hi hij hjk hk with e | e
      · exfalso
        unfold wrongB at hb
        simp only [Bool.or_eq_true, Bool.and_eq_true, Bool.not_eq_true', decide_eq_true_eq, decide_eq_false_iff_not] at hb
        rw [e] at g1 g2
        rcases hb with z | z
        · exact g1 ⟨z.1, z.2.1, z.2.2.1, z.2.2.2⟩
        · exact g2 ⟨z.1, z.2.1, z.2.2.1, z.2.2.2⟩
      · exact e
end
end Bl
set_option Elab.async false
set_option linter.all false
set_option maxRecDepth 100000
set_option maxHeartbeats 4000000
namespace Bl
open PySem PySem.Spec PyProof.Rows L2
section
variable {P : Program} {w : World} {K : PySem.W.Frag} {mg : Str → Option Value} {base : Heap} {f : Addr} {fd : FuncData} {k : Nat} {C : Addr}
abbrev sKnotsL : Stmt := topS 57
abbrev nKnotsL : List Str := ["_law_size_here", "_law_turns_here", "_law_rows_here", "_law_knots_here", "_law_at", "_law_p"]
theorem scKnotsL : FnScope nKnotsL ["_law_size_here", "_law_turns_here"] (defScope sKnotsL) := ⟨rfl, rfl, rfl, by decide +kernel, rfl, by decide +kernel, by decide +kernel⟩
def knD (n : Int) (ts : List Trn) (i : Nat) : D := .tup [.int ((ts.getD i (0, 0)).1 : Int), .lst ((isort (blk (rngZ n) ts i)).map D.int)]
def gKnotsL : GG := fun rs ow r ow' => ∃ (n : Int) (ts : List Trn), rs = [.d (.int n), .d (.lst (ts.map turnD))] ∧ 0 ≤ n ∧ n ≤ 8 ∧ ts.length ≤ 100 ∧ r = .d (.lst ((List.range ts.length).map (knD n ts))) ∧ ow' = ow
abbrev knSt (n : Int) (ts : List Trn) (k : Nat) (at_ p : Option R) : Sta := [some (.d (.int n)), some (.d (.lst (ts.map turnD))), some (.d (.lst ((rowsZ (rngZ n) ts).map lstVI))), some (.own k), at_, p]
theorem fold_map {α β : Type} (g : α → β) : ∀ (l : List α) (s : List β), l.foldl (fun s x => s ++ [g x]) s = s ++ l.map g
  | [], s => by simp
  | x :: l, s => by rw [List.foldl_cons, fold_map g l, List.append_assoc]; rfl
theorem ok_knotsL (F : Fun K "_law_knots" "_law_knots" sKnotsL f fd) (C1 : Fg P w K mg base "_law_rows" k ["_law_size_here", "_law_turns_here"] gRows) (mN : mg "len" = none) (mR : mg "range" = none) (mS : mg "sorted" = none) : FnOk P w K mg base CX0 (k + 1) f fd ["_law_size_here", "_law_turns_here"] (spF K gKnotsL) := by
  refine okF F scKnotsL (fun rs ow r ow' h => ?_) (fun cdv A outer s H E hr rs ow r ow' h => ?_)
  · obtain ⟨n, ts, rfl, _⟩ := h
    rfl
  · obtain ⟨n, ts, rfl, h0, h1, h2, rfl, rfl⟩ := h
    refine pbd_frzR ?_ rfl
    have hlen : (rngZ n).length ≤ 8 := by rw [rngZ_len]; omega
    have efin : (List.range ts.length).foldl (fun s i => s ++ [knD n ts i]) ([] : List D) = (List.range ts.length).map (knD n ts) := fold_map _ _ _
    rw [← efin]
    refine pbd_cons (psd_set 2 scKnotsL.nd (pd_cg C1 hr (Nat.le_refl _) (padd_cons (pd_var 0) (padd_cons (pd_var 1) padd_nil)) ⟨n, ts, rfl, h0, by omega, by omega, rfl, rfl⟩)) ?_
    refine pbd_cons (psd_set 3 scKnotsL.nd (pd_lstO padd_nil)) ?_
    refine pbd_cons (psd_forF [4] (List.range ts.length) (fun (i : Nat) => D.int (0 + (i : Int))) ([] : List D) (fun s i => s ++ [knD n ts i]) (fun _ => knSt n ts ow'.length none none) (fun _ i => knSt n ts ow'.length (some (.d (.int (0 + (i : Int))))) none) (fun s => ow' ++ [.l s]) PassesOwn.never rfl
      (pid_eq (pid_range1 mR (padd_cons (pd_lenL mN (padd_cons (pd_var 1) padd_nil)) padd_nil) (by rw [List.length_map]; omega)) (by rw [List.length_map]; rfl)) ⟨rfl, fun i r h => h⟩ rfl (fun l t r hl => pgd_name 4 scKnotsL.nd) (fun l i r hl => ?_)) ?_
    · have hi : i < ts.length := by
        have : i ∈ List.range ts.length := by rw [hl]; simp
        exact List.mem_range.mp this
      have hli : l.length ≤ 100 := by
        have := congrArg List.length hl
        rw [List.length_range, List.length_append, List.length_cons] at this
        omega
      have hsl : (l.foldl (fun s i => s ++ [knD n ts i]) ([] : List D)).length ≤ 100 := by rw [fold_map]; simpa using hli
      have ht : ts[i]? = some (ts.getD i (0, 0)) := by
        rw [List.getD_eq_getElem?_getD, List.getElem?_eq_getElem hi]; rfl
      have hat1 : atI (ts.map turnD) (0 + (i : Int)) = some (turnD (ts.getD i (0, 0))) := at_nat (by rw [List.getElem?_map, ht]; rfl)
      have hat2 : atI ((rowsZ (rngZ n) ts).map lstVI) (0 + (i : Int)) = some (lstVI ((ts.take i).foldl turnR (rngZ n))) := at_nat (by rw [List.getElem?_map, rowsZ_get _ _ _ (by omega)]; rfl)
      generalize l.foldl (fun s i => s ++ [knD n ts i]) ([] : List D) = s0 at hsl
      have hbl := blk_len (rngZ n) ts i
      have eB : blk (rngZ n) ts i = ((((ts.take i).foldl turnR (rngZ n)).drop (ts.getD i (0, 0)).1).take (ts.getD i (0, 0)).2) := rfl
      have ek : knD n ts i = .tup [.int ((ts.getD i (0, 0)).1 : Int), .lst ((isort (blk (rngZ n) ts i)).map D.int)] := rfl
      generalize blk (rngZ n) ts i = B at hbl eB ek
      rw [ek]
      generalize ts.getD i (0, 0) = t at *
      refine pbd_cons (psd_set 5 scKnotsL.nd (pd_ixT (pd_ixL (pd_var 1) (pd_var 4) hat1) pd_int (d := .int (t.1 : Int)) rfl)) ?_
      refine pbd_weak (st1 := knSt n ts ow'.length (some (.d (.int (0 + (i : Int))))) (some (.d (.int (t.1 : Int))))) (pbd_cons (psd_expr (pd_ow (pd_append (pd_var 3) (pd_tup (padd_cons (pd_var 5) (padd_cons (pd_sorted (ns := B) mS (padd_cons (pd_eqD (pd_slL (pd_lstW (pd_ixL (pd_var 2) (pd_var 4) hat2)) (pod_some (pd_var 5)) (pod_some (pd_add (pd_var 5) (pd_ixT (pd_ixL (pd_var 1) (pd_var 4) hat1) pd_int (d := .int (t.2 : Int)) rfl)))) (by rw [cut_mid, eB])) padd_nil) (by omega)) padd_nil))) ⟨_, app_get⟩ app_get (by omega)) set_last)) pbd_nil) rfl (by (intro i r h; rcases i with _ | _ | _ | _ | _ | _ | i <;> first | exact h | cases h))
    · exact pbd_last (psd_ret (pd_var 3))
/-! ### the pairs kept -/
end
end Bl
set_option Elab.async false
set_option linter.all false
set_option maxRecDepth 100000
set_option maxHeartbeats 8000000
namespace Bl
open PySem PySem.Spec PyProof.Rows L2
open scoped List
/-! ### a tuple in a list of tuples -/
def rInLT (K : PySem.W.Frag) (neg : Bool) : R2 := fun x y H Q => ∃ (q : List Int) (l : List (List Int)), Dp K H x (encT q) ∧ Dp K H y (.list (l.map encT)) ∧ Q (.bl (if neg then !decide (q ∈ l) else decide (q ∈ l))) H
theorem op_inLT {X : Cx} (hu : X.A.units + 64 < cLine) : OpR X (compareOp .In) (rInLT X.K false) := by
  intro pins s σ H x y v u Q I rx ry h
  obtain ⟨ns, l, hx, hy, q⟩ := h
  obtain ⟨as, r1⟩ := Dp.reads I _ _ _ hy ry
  obtain ⟨bs, r2⟩ := Dp.reads I _ _ _ hx rx
  have := depth_tt ns
  refine SeqAt.in_list_reads r1 r2 (lay_tt l) (lay_ints ns) (by omega) ⟨.bl _, H, I, rfl, ?_⟩
  rw [any_tt]
  exact q
theorem op_notInLT {X : Cx} (hu : X.A.units + 64 < cLine) : OpR X (compareOp .NotIn) (rInLT X.K true) := by
  intro pins s σ H x y v u Q I rx ry h
  obtain ⟨ns, l, hx, hy, q⟩ := h
  obtain ⟨as, r1⟩ := Dp.reads I _ _ _ hy ry
  obtain ⟨bs, r2⟩ := Dp.reads I _ _ _ hx rx
  have := depth_tt ns
  refine SeqAt.notIn_list_reads r1 r2 (lay_tt l) (lay_ints ns) (by omega) ⟨.bl _, H, I, rfl, ?_⟩
  rw [any_tt]
  exact q
theorem pyD_l2 (l : List (List Int)) : pyD (.lst (tup2 l)) = some (.list (l.map encT)) := by
  have e : ∀ l : List (List Int), pyDs (tup2 l) = some (l.map encT) := fun l => by
    induction l with
    | nil => rfl
    | cons q l ih =>
      show (match pyD (tupI q), pyDs (tup2 l) with | some a, some b => some (a :: b) | _, _ => none) = _
      rw [pyD_t, ih]
      rfl
  show (pyDs (tup2 l)).map PyData.list = _
  rw [e]
  rfl
section
variable {X : Cx} {a b : Expr} {st : Sta} {ow ow1 ow2 : List OB} {pos : Pos} {q : List Int} {l : List (List Int)}
theorem pd_inLT (hu : X.A.units + 64 < cLine) (ha : PD X st ow a (.d (tupI q)) ow1) (hb : PD X st ow1 b (.d (.lst (tup2 l))) ow2) (hm : behindInMarks .In b = false := by rfl) : PD X st ow (.Compare a [.In] [b] pos) (.d (.bl (decide (q ∈ l)))) ow2 :=
  pd_cmp (op_inLT hu) hm (fun S H ow vx vy Q o dx dy k => ⟨q, l, den_py dx _ (pyD_t q), den_py dy _ (pyD_l2 l), k _ H (Evl.Ex.refl H) (.bl _)⟩) ha hb
theorem ptd_inLT (hu : X.A.units + 64 < cLine) (ha : PD X st ow a (.d (tupI q)) ow1) (hb : PD X st ow1 b (.d (.lst (tup2 l))) ow2) (hm : behindInMarks .In b = false := by rfl) : PTD X st ow (.Compare a [.In] [b] pos) (decide (q ∈ l)) ow2 :=
  ptd_cmp (op_inLT hu) hm (fun S H ow vx vy Q o dx dy k => ⟨q, l, den_py dx _ (pyD_t q), den_py dy _ (pyD_l2 l), k _ H (Evl.Ex.refl H) (.bl _)⟩) ha hb
theorem ptd_notInLT (hu : X.A.units + 64 < cLine) (ha : PD X st ow a (.d (tupI q)) ow1) (hb : PD X st ow1 b (.d (.lst (tup2 l))) ow2) (hm : behindInMarks .NotIn b = false := by rfl) : PTD X st ow (.Compare a [.NotIn] [b] pos) (!decide (q ∈ l)) ow2 :=
  ptd_cmp (op_notInLT hu) hm (fun S H ow vx vy Q o dx dy k => ⟨q, l, den_py dx _ (pyD_t q), den_py dy _ (pyD_l2 l), k _ H (Evl.Ex.refl H) (.bl _)⟩) ha hb
end
end Bl
set_option Elab.async false
set_option linter.all false
set_option maxRecDepth 100000
set_option maxHeartbeats 16000000
namespace Bl
open PySem PySem.Spec PyProof.Rows L2
open scoped List
/-! ### _law_apart_right -/
def wideT (ts : List Trn) : List Nat := (List.range ts.length).filter fun i => decide ((2 : Int) < ((ts.getD i (0, 0)).2 : Int))
def apA (ts : List Trn) (ps : List Int) : Nat := (wideT ts).getD (nextV ps ((wideT ts).length : Int)).toNat 0
def apI (ts : List Trn) (ps : List Int) : TS_ := turnsZ ((ts.getD (apA ts ps) (0, 0)).2 : Int) 2 ps.dropLast
def apP (ts : List Trn) (ps : List Int) : List Int := if (wideT ts).length = 0 then ps else (apI ts ps).ps
theorem isort_blk2 {n : Int} {ts : List Trn} {u : Nat} (A : AscT n ts) (hu : u < ts.length) : isort (blk (rngZ n) ts u) = blk (rngZ n) ts u := (isort_eq (.refl _) ((A u hu).imp fun h => by omega)).symm
theorem turn_get {ts : List Trn} {i : Nat} (h : i < ts.length) : atI (ts.map turnD) (i : Int) = some (turnD (ts.getD i (0, 0))) := by
  rw [← Int.zero_add (i : Int)]
  refine at_nat ?_
  rw [List.getElem?_map, List.getElem?_eq_getElem h, List.getD_eq_getElem?_getD, List.getElem?_eq_getElem h]
  rfl
section
variable {P : Program} {w : World} {K : PySem.W.Frag} {mg : Str → Option Value} {base : Heap} {f fG : Addr} {fd fdG : FuncData} {k : Nat} {C : Addr}
abbrev sApart : Stmt := topS 73
abbrev pApart : List Str := ["_law_pool_here", "_law_size_here", "_law_turns_here", "_law_chart_here", "_law_table_here", "_law_spots_here"]
abbrev nApart : List Str := ["_law_pool_here", "_law_size_here", "_law_turns_here", "_law_chart_here", "_law_table_here", "_law_spots_here", "_law_at", "_law_wide", "_law_top", "_law_knot", "_law_turn", "_law_inner", "_law_finer", "_law_pulled", "_law_found", "_law_lot_here", "_law_wrong_here", "_law_three", "_law_line"]
theorem scApart : FnScope nApart pApart (defScope sApart) := ⟨rfl, rfl, rfl, by decide +kernel, rfl, by decide +kernel, by decide +kernel⟩
def gApart (C : Addr) : GG := fun rs ow r ow' => ∃ (n : Int) (ts : List Trn) (ps : List Int), rs = [.own 0, .d (.int n), .d (.lst (ts.map turnD)), .d (chartD C n (cns n (sgT (timesZ (rngZ n) ts)))), .d (.dT (tabI (tabF n (sgT (timesZ (rngZ n) ts))))), .d (.lst (tup2 (spotsZ n ts)))] ∧ ow = [.l (ps.map D.int)] ∧ AscT n ts ∧ CovT n ts ∧ TwoT n ts ∧ ExT n ts ∧ 1 ≤ n ∧ n ≤ 7 ∧ ts.length ≤ 49 ∧ r = .d (.bl true) ∧ ow' = [.l ((apP ts ps).map D.int)]
abbrev apS (C : Addr) (n : Int) (F : List Int → Int) (ts : List Trn) (x6 x7 x8 x9 x10 x11 x12 x13 x14 x15 x16 x17 x18 : Option R) : Sta := [some (.own 0), some (.d (.int n)), some (.d (.lst (ts.map turnD))), some (.d (chartD C n (cns n F))), some (.d (.dT (tabI (tabF n F)))), some (.d (.lst (tup2 (spotsZ n ts)))), x6, x7, x8, x9, x10, x11, x12, x13, x14, x15, x16, x17, x18]
theorem ok_apart (F0 : Fun K "_law_apart_right" "_law_apart_right" sApart f fd) (Cn : Fg P w K mg base "_law_next" k ["_law_pool_here", "_law_many"] gNext) (Ck : Fg P w K mg base "_law_knots" k ["_law_size_here", "_law_turns_here"] gKnotsL) (Cu : Fg P w K mg base "_law_turns" k ["_law_pool_here", "_law_size_here", "_law_widest"] gTurns) (Ct : Fg P w K mg base "_law_table" k ["_law_size_here", "_law_turns_here"] gTable) (Cc : Fg P w K mg base "_law_chart" k ["_law_size_here", "_law_table_here"] (gLChart C)) (Cs : Fg P w K mg base "_law_spots" k ["_law_size_here", "_law_turns_here"] gSpots) (Cz : Fg P w K mg base "_law_subsets" k ["_law_size_here"] gSubs)
    (Cp : Fg P w K mg base "is_place" k ["chart", "lot"] (gIsPlace C)) (Cb : Fg P w K mg base "_law_bool_is" k ["_law_answer", "_law_due"] gBoolIs) (Cw : Fg P w K mg base "_law_wrong" k ["_law_size_here", "_law_table_here", "_law_lot_here"] gWrong) (C3 : Fg P w K mg base "_law_wrong_three" k ["_law_size_here", "_law_table_here", "_law_lot_here"] gLWr) (Cr : Fg P w K mg base "_law_told_right" k pToldRt (gToldRt C)) (mN : mg "len" = none) (mR : mg "range" = none) (mL : mg "list" = none) : FnOk P w K mg base CX0 (k + 1) f fd pApart (spF K (gApart C)) := by
  refine okF F0 scApart (fun rs ow r ow' h => ?_) (fun cdv A outer s H E hr rs ow r ow' h => ?_)
  · obtain ⟨n, ts, ps, rfl, _⟩ := h
    rfl
  · obtain ⟨n, ts, ps, rfl, rfl, hA, hCv, hTw, hx, h1, h7, hts, rfl, rfl⟩ := h
    have hu := room_u hr
    have hu64 := room_u64 hr
    have h0 : 0 ≤ n := by omega
    obtain ⟨F, hF⟩ : ∃ F, F = sgT (timesZ (rngZ n) ts) := ⟨_, rfl⟩
    rw [← hF]
    have sF : SgnF F := by rw [hF]; exact sgT_rng _
    obtain ⟨W, hW⟩ : ∃ W, W = wideT ts := ⟨_, rfl⟩
    have hWl : W.length ≤ 49 := by
      rw [hW]
      have := List.length_filter_le (fun i => decide ((2 : Int) < ((ts.getD i (0, 0)).2 : Int))) (List.range ts.length)
      rw [List.length_range] at this
      unfold wideT
      omega
    refine pbd_cons (st1 := apS C n F ts none (some (.d (.lst ((wideT ts).map fun (i : Nat) => D.int (i : Int))))) none none none none none none none none none none none) (ow1 := [.l (ps.map D.int)]) ?_ ?_
    · refine psd_setLc (own := [("_law_at", 6)]) 7 (List.range ts.length) (fun (i : Nat) => D.int (i : Int)) (fun i => apS C n F ts (some (.d (.int (i : Nat)))) none none none none none none none none none none none none) (fun i => decide ((2 : Int) < ((ts.getD i (0, 0)).2 : Int))) (fun (i : Nat) => D.int (i : Int)) rfl scApart.nd ?_ (blkOk_by (N := nApart) (sc := defScope sApart) (by decide +kernel)) (by rw [List.length_range]; omega) (fun i hi _ H C' cl fp => pgd_name 6 scApart.nd) (fun i hi l _ H C' cl fp => ?_) (fun i hi _ l _ H C' cl fp => pd_var 6)
      · refine pid_eq (pid_range1 mR (padd_cons (pd_lenL mN (padd_cons (pd_var 2) padd_nil)) padd_nil) (by rw [List.length_map]; omega)) (by
          unfold rngD
          rw [List.length_map, show ((ts.length : Nat) : Int).toNat = ts.length by omega]
          refine List.map_congr_left fun i _ => ?_
          rw [Int.zero_add])
      · exact ptsd_one (ptd_gt (pd_ixT (d := .int ((ts.getD i (0, 0)).2 : Int)) (pd_ixL (pd_var 2) (pd_var 6) (turn_get (List.mem_range.mp hi))) pd_int rfl) pd_int)
    rw [← hW]
    by_cases hW0 : W.length = 0
    · have e : apP ts ps = ps := by unfold apP; rw [← hW, if_pos hW0]
      rw [e]
      exact pbd_take (bl := true) (ptd_eqB (ptd_eq (pd_lenL mN (padd_cons (pd_var 7) padd_nil)) pd_int) (by rw [iv_eq, List.length_map, hW0]; rfl)) rfl (pbd_last (psd_ret pd_bl))
    refine pbd_skip (bl := false) (ptd_eqB (ptd_eq (pd_lenL mN (padd_cons (pd_var 7) padd_nil)) pd_int) (by rw [iv_eq, List.length_map]; exact decide_eq_false (by omega))) rfl ?_
    have hm0 : 0 ≤ nextV ps (W.length : Int) ∧ nextV ps (W.length : Int) < W.length := by
      unfold nextV
      split
      · omega
      · exact ⟨Int.emod_nonneg _ (by omega), Int.emod_lt_of_pos _ (by omega)⟩
    obtain ⟨m, hm⟩ : ∃ m : Int, m = nextV ps (W.length : Int) := ⟨_, rfl⟩
    rw [← hm] at hm0
    obtain ⟨a, haW⟩ : ∃ a, W[m.toNat]? = some a := ⟨_, List.getElem?_eq_getElem (by omega)⟩
    have haA : a = apA ts ps := by
      unfold apA
      rw [← hW, ← hm, List.getD_eq_getElem?_getD, haW]
      rfl
    have haw := List.mem_of_getElem? haW
    rw [hW] at haw
    obtain ⟨ha1, ha2⟩ := List.mem_filter.mp haw
    have ha := List.mem_range.mp ha1
    have ha2 := of_decide_eq_true ha2
    have hatW : atI (W.map fun (i : Nat) => D.int (i : Int)) m = some (.int (a : Int)) := by
      rw [show m = 0 + (m.toNat : Int) by omega]
      exact at_nat (by rw [List.getElem?_map, haW]; rfl)
    obtain ⟨I0, hI0⟩ : ∃ I0, I0 = turnsZ ((ts.getD a (0, 0)).2 : Int) 2 ps.dropLast := ⟨_, rfl⟩
    have hP : apP ts ps = I0.ps := by
      unfold apP apI
      rw [← hW, if_neg hW0, ← haA, hI0]
    rw [hP]
    have hmn : (ts.getD a (0, 0)).1 + (ts.getD a (0, 0)).2 ≤ n.toNat := hx _ (by
      rw [List.getD_eq_getElem?_getD, List.getElem?_eq_getElem ha]
      exact List.getElem_mem ha)
    have I : InT ((ts.getD a (0, 0)).2 : Int) I0.ts := by
      rw [hI0]
      exact ⟨turns_ex _ _ _, turns_asc _ _ _, turns_cov (by omega) _ _, turns_two _ _ _⟩
    have h2I : ∀ t ∈ I0.ts, t.2 = 2 := by rw [hI0]; exact turns_w2 _ _
    have hIl : I0.ts.length ≤ 49 := by
      have h := (turns_ok (show (0 : Int) ≤ ((ts.getD a (0, 0)).2 : Int) by omega) 2 ps.dropLast).len
      rw [← hI0] at h
      have hm7 : ((ts.getD a (0, 0)).2 : Int) ≤ 7 := by omega
      have h49 : ((ts.getD a (0, 0)).2 : Int) * ((ts.getD a (0, 0)).2 : Int) ≤ 49 := by
        have h1 : ((ts.getD a (0, 0)).2 : Int) * ((ts.getD a (0, 0)).2 : Int) ≤ 7 * ((ts.getD a (0, 0)).2 : Int) := Int.mul_le_mul_of_nonneg_right hm7 (by omega)
        omega
      omega
    have hB7 := blk_len (rngZ n) ts a
    rw [rngZ_len] at hB7
    have hiB := isort_blk2 hA ha
    have hfA := fin_asc hA hCv hTw hx ha I
    have hfC := fin_cov hA hCv hTw hx ha I
    have hfT := fin_two hA hCv hTw hx ha I
    have hfl := fin_len (inr := I0.ts) ha
    have hfp := fun pl (h : IsPl n ts pl) => fin_pl hA hCv hTw hx ha I h
    have hfn := fun L (hL : L ∈ lotsZ n) => fin_new h0 h7 hA hCv hTw hx ha I hL
    rw [← hF] at hfn
    have hak : atI ((List.range ts.length).map (knD n ts)) (a : Int) = some (.tup [.int ((ts.getD a (0, 0)).1 : Int), .lst ((blk (rngZ n) ts a).map D.int)]) := by
      rw [← Int.zero_add (a : Int)]
      refine at_nat ?_
      rw [List.getElem?_map, List.getElem?_range ha]
      show some (knD n ts a) = _
      unfold knD
      rw [hiB]
    have hfin : (finT ts a I0.ts).length ≤ 100 := by omega
    have efin : (finT ts a I0.ts).map turnD = ((ts.map turnD).take a ++ I0.ts.map fun t => turnD (shT (ts.getD a (0, 0)).1 t)) ++ (ts.map turnD).drop (a + 1) := by
      unfold finT
      rw [List.map_append, List.map_append, List.map_take, List.map_drop, List.map_map]
      rfl
    have hatt := turn_get ha
    obtain ⟨fn, hfn2⟩ : ∃ fn, fn = finT ts a I0.ts := ⟨_, rfl⟩
    rw [← hfn2] at hfA hfC hfT hfl hfp hfn hfin efin
    refine pbd_cons (psd_set 6 scApart.nd (pd_ixL (pd_var 7) (pd_eqD (d' := .int m) (pd_cg Cn hr (Nat.le_refl _) (pad_cons (pd_var 0) (padd_cons (pd_lenL mN (padd_cons (pd_var 7) padd_nil)) padd_nil)) ⟨0, _, ps, rfl, rfl, by rw [List.length_map]; omega, rfl, rfl⟩) (by rw [hm, List.length_map])) hatW)) ?_
    show PBD _ (apS C n F ts (some (.d (.int (a : Int)))) (some (.d (.lst (W.map fun (i : Nat) => D.int (i : Int))))) none none none none none none none none none none none) [.l (ps.dropLast.map D.int)] _ _
    refine pbd_cons (psd_set 8 scApart.nd (pd_ixT (d := .int ((ts.getD a (0, 0)).1 : Int)) (pd_ixL (pd_var 2) (pd_var 6) hatt) pd_int rfl)) ?_
    refine pbd_cons (psd_set 9 scApart.nd (pd_ixT (d := .lst ((blk (rngZ n) ts a).map D.int)) (pd_ixL (pd_cg Ck hr (Nat.le_refl _) (padd_cons (pd_var 1) (padd_cons (pd_var 2) padd_nil)) ⟨n, ts, rfl, h0, by omega, by omega, rfl, rfl⟩) (pd_var 6) hak) pd_int rfl)) ?_
    obtain ⟨IL, hIL⟩ : ∃ IL, IL = (I0.ts.filter fun _ => true).map fun t => turnD (shT (ts.getD a (0, 0)).1 t) := ⟨_, rfl⟩
    have hIL2 : IL = I0.ts.map fun t => turnD (shT (ts.getD a (0, 0)).1 t) := by rw [hIL, List.filter_eq_self.mpr (fun _ _ => rfl)]
    obtain ⟨kn, hkn⟩ : ∃ kn, kn = D.lst ((blk (rngZ n) ts a).map D.int) := ⟨_, rfl⟩
    rw [← hkn]
    show PBD _ (apS C n F ts (some (.d (.int (a : Int)))) (some (.d (.lst (W.map fun (i : Nat) => D.int (i : Int))))) (some (.d (.int ((ts.getD a (0, 0)).1 : Int)))) (some (.d kn)) none none none none none none none none none) [.l (ps.dropLast.map D.int)] _ _
    refine pbd_frzB (stB := apS C n F ts (some (.d (.int (a : Int)))) (some (.d (.lst (W.map fun (i : Nat) => D.int (i : Int))))) (some (.d (.int ((ts.getD a (0, 0)).1 : Int)))) (some (.d kn)) none (some (.own 1)) none none none none none none none) (ow1 := [.l (I0.ps.map D.int)]) (b := .l IL) (dd := .lstV IL) ?_ rfl .v ?_ (hb := by refine ⟨fun gs h => ?_, fun gs h => ?_⟩ <;> simp at h)
    · rw [hIL]
      refine psd_setLcO (ow1 := [.l (I0.ps.map D.int)]) (own := [("_law_turn", 10)]) 11 I0.ts turnD (fun t => apS C n F ts (some (.d (.int (a : Int)))) (some (.d (.lst (W.map fun (i : Nat) => D.int (i : Int))))) (some (.d (.int ((ts.getD a (0, 0)).1 : Int)))) (some (.d kn)) (some (.d (turnD t))) none none none none none none none none) (fun _ => true) (fun t => turnD (shT (ts.getD a (0, 0)).1 t)) rfl scApart.nd ?_ (blkOk_by (N := nApart) (sc := defScope sApart) (by decide +kernel)) (by omega) (fun t ht _ H C' cl fp => pgd_name 10 scApart.nd) (fun t ht l _ H C' cl fp => ptsd_nil) (fun t ht _ l _ H C' cl fp => ?_)
      · rw [hI0]
        exact pid_list (pd_cg Cu hr (Nat.le_refl _) (pad_cons (pd_var 0) (padd_cons (pd_ixT (d := .int ((ts.getD a (0, 0)).2 : Int)) (pd_ixL (pd_var 2) (pd_var 6) hatt) pd_int rfl) (padd_cons pd_int padd_nil))) ⟨0, ((ts.getD a (0, 0)).2 : Int), 2, ps.dropLast, rfl, rfl, by omega, by omega, rfl, rfl⟩)
      · exact pd_eqD (pd_tup (padd_cons (pd_add (pd_var 8) (pd_ixT (d := .int (t.1 : Int)) (pd_var 10) pd_int rfl)) (padd_cons pd_int padd_nil))) (by
          show _ = D.tup [.int (((ts.getD a (0, 0)).1 + t.1 : Nat) : Int), .int ((t.2 : Nat) : Int)]
          rw [h2I t ht, Int.natCast_add]
          rfl)
    show PBD _ (apS C n F ts (some (.d (.int (a : Int)))) (some (.d (.lst (W.map fun (i : Nat) => D.int (i : Int))))) (some (.d (.int ((ts.getD a (0, 0)).1 : Int)))) (some (.d kn)) none (some (.d (.lstV IL))) none none none none none none none) [.l (I0.ps.map D.int)] _ _
    rw [hIL2]
    refine pbd_cons (psd_set 12 scApart.nd (pd_eqD (d' := .lst (fn.map turnD)) (pd_lstW (pd_catV (pd_catV (pd_slV (pd_var 2) pod_none (pod_some (pd_var 6))) (pd_var 11) ?_) (pd_slV (pd_var 2) (pod_some (pd_add (pd_var 6) pd_int)) pod_none) ?_)) ?_)) ?_
    · rw [cut_take, List.length_take, List.length_map, List.length_map]
      omega
    · rw [cut_take, cut_drop, List.length_append, List.length_take, List.length_map, List.length_map, List.length_drop, List.length_map]
      omega
    · rw [cut_take, cut_drop, efin]
    obtain ⟨G, hG⟩ : ∃ G, G = sgT (timesZ (rngZ n) fn) := ⟨_, rfl⟩
    have sG : SgnF G := by rw [hG]; exact sgT_rng _
    have hsG : badF n (cns n G) = none := by rw [hG]; exact drawn_sound h0 h7 hfA hfC
    have hpi : ∀ q ∈ lotsZ n, (!(wrongF n G (isort q)).isSome) = decide (q ∈ spotsZ n fn) := fun q hq => by
      obtain ⟨e1, e2, e3, _⟩ := lot_of_lots hq
      have h := pl_iff h0 h7 hfA hfC e1 e2 e3
      rw [← hG] at h
      rw [e1]
      by_cases hm : q ∈ spotsZ n fn
      · rw [decide_eq_true hm, h.mpr (spots_iff.mp hm)]
        rfl
      · rw [decide_eq_false hm]
        cases hw : wrongF n G q with
        | none => exact absurd (spots_iff.mpr (h.mp hw)) hm
        | some z => rfl
    refine pbd_cons (psd_set 13 scApart.nd (pd_cg Cc hr (Nat.le_refl _) (padd_cons (pd_var 1) (padd_cons (pd_freezeT (ow1 := [.l (I0.ps.map D.int)]) (gs := tabI (tabF n G)) (pd_ow (pd_cg Ct hr (Nat.le_refl _) (padd_cons (pd_var 1) (padd_cons (pd_var 12) padd_nil)) ⟨n, fn, rfl, h0, h7, hfin, cov_of hfC, rfl, rfl⟩) (by rw [hG]))) padd_nil)) ⟨n, G, rfl, h1, h7, sG, noIow1 _, rfl, rfl⟩)) ?_
    refine pbd_cons (psd_set 14 scApart.nd (pd_cg Cs hr (Nat.le_refl _) (padd_cons (pd_var 1) (padd_cons (pd_var 12) padd_nil)) ⟨n, fn, rfl, h0, h7, hfin, rfl, rfl⟩)) ?_
    refine pbd_cons (psd_forF [15] (spotsZ n ts) tupI () (fun _ _ => ()) (fun _ => (apS C n F ts (some (.d (.int (a : Int)))) (some (.d (.lst (W.map fun (i : Nat) => D.int (i : Int))))) (some (.d (.int ((ts.getD a (0, 0)).1 : Int)))) (some (.d kn)) none none (some (.d (.lst (fn.map turnD)))) (some (.d (chartD C n (cns n G)))) (some (.d (.lst (tup2 (spotsZ n fn))))) none none none none)) (fun _ q => (apS C n F ts (some (.d (.int (a : Int)))) (some (.d (.lst (W.map fun (i : Nat) => D.int (i : Int))))) (some (.d (.int ((ts.getD a (0, 0)).1 : Int)))) (some (.d kn)) none none (some (.d (.lst (fn.map turnD)))) (some (.d (chartD C n (cns n G)))) (some (.d (.lst (tup2 (spotsZ n fn))))) (some (.d (tupI q))) none none none)) (fun _ => [.l (I0.ps.map D.int)]) PassesOwn.never rfl (pid_list (pd_var 5)) ⟨rfl, by (intro i r h; rcases i with _ | _ | _ | _ | _ | _ | _ | _ | _ | _ | _ | _ | _ | _ | _ | _ | _ | _ | _ | i <;> first | exact h | cases h)⟩ rfl (fun l q r hl => pgd_name 15 scApart.nd) (fun l q r hl => ?_)) ?_
    · have hq := spots_iff.mpr (hfp q (spots_iff.mp (pre_mem hl).1))
      exact pbd_weak (pbd_skip (bl := false) (ptd_eqB (ptd_notInLT hu64 (pd_var 15) (pd_var 14)) (by rw [decide_eq_true hq]; rfl)) rfl pbd_nil) rfl (by (intro i r h; rcases i with _ | _ | _ | _ | _ | _ | _ | _ | _ | _ | _ | _ | _ | _ | _ | _ | _ | _ | _ | i <;> first | exact h | cases h))
    refine pbd_cons (psd_forF [15] (lotsZ n) tupI () (fun _ _ => ()) (fun _ => (apS C n F ts (some (.d (.int (a : Int)))) (some (.d (.lst (W.map fun (i : Nat) => D.int (i : Int))))) (some (.d (.int ((ts.getD a (0, 0)).1 : Int)))) (some (.d kn)) none none (some (.d (.lst (fn.map turnD)))) (some (.d (chartD C n (cns n G)))) (some (.d (.lst (tup2 (spotsZ n fn))))) none none none none)) (fun _ q => (apS C n F ts (some (.d (.int (a : Int)))) (some (.d (.lst (W.map fun (i : Nat) => D.int (i : Int))))) (some (.d (.int ((ts.getD a (0, 0)).1 : Int)))) (some (.d kn)) none none (some (.d (.lst (fn.map turnD)))) (some (.d (chartD C n (cns n G)))) (some (.d (.lst (tup2 (spotsZ n fn))))) (some (.d (tupI q))) none none none)) (fun _ => [.l (I0.ps.map D.int)]) PassesOwn.never rfl (pid_list (pd_cg Cz hr (Nat.le_refl _) (padd_cons (pd_var 1) padd_nil) ⟨n, rfl, h0, h7, rfl, rfl⟩)) ⟨rfl, fun i r h => h⟩ rfl (fun l q r hl => pgd_name 15 scApart.nd) (fun l q r hl => ?_)) (pbd_last (psd_ret pd_bl))
    have hq := (pre_mem hl).1
    obtain ⟨e1, e2, e3, e4⟩ := lot_of_lots hq
    have hl : LotIn n q := ⟨e2, e3, by omega⟩
    refine pbd_weak (st1 := (apS C n F ts (some (.d (.int (a : Int)))) (some (.d (.lst (W.map fun (i : Nat) => D.int (i : Int))))) (some (.d (.int ((ts.getD a (0, 0)).1 : Int)))) (some (.d kn)) none none (some (.d (.lst (fn.map turnD)))) (some (.d (chartD C n (cns n G)))) (some (.d (.lst (tup2 (spotsZ n fn))))) (some (.d (tupI q))) none none none)) ?_ rfl (by (intro i r h; rcases i with _ | _ | _ | _ | _ | _ | _ | _ | _ | _ | _ | _ | _ | _ | _ | _ | _ | _ | _ | i <;> first | exact h | cases h))
    refine pbd_skip (bl := false) (ptd_eqB (ptd_not (ptd_val (pd_cg Cb hr (Nat.le_refl _) (padd_cons (pd_eqD (d' := .bl (decide (q ∈ spotsZ n fn))) (pd_cg Cp hr (Nat.le_refl _) (padd_cons (pd_var 13) (padd_cons (pd_var 15) padd_nil)) ⟨n, G, true, q, rfl, hl, h1, h7, hsG, rfl, rfl⟩) (by rw [hpi q hq])) (padd_cons (pd_inLT hu64 (pd_var 15) (pd_var 14)) padd_nil)) ⟨_, rfl, rfl, rfl⟩))) rfl) rfl ?_
    refine pbd_cons (psd_if (out := .nx (apS C n F ts (some (.d (.int (a : Int)))) (some (.d (.lst (W.map fun (i : Nat) => D.int (i : Int))))) (some (.d (.int ((ts.getD a (0, 0)).1 : Int)))) (some (.d kn)) none none (some (.d (.lst (fn.map turnD)))) (some (.d (chartD C n (cns n G)))) (some (.d (.lst (tup2 (spotsZ n fn))))) (some (.d (tupI q))) none none none) [.l (I0.ps.map D.int)]) (ptd_eqB (q' := decide (q ∈ spotsZ n fn ∧ q ∉ spotsZ n ts)) (ptd_bool (pwd_and (ptd_inLT hu64 (pd_var 15) (pd_var 14)) fun _ => pwd_and1 (ptd_notInLT hu64 (pd_var 15) (pd_var 5)))) (by rw [Bool.decide_and, decide_not])) (fun hb => ?_) (fun hb => pbd_nil)) pbd_nil
    obtain ⟨b1, b2⟩ := of_decide_eq_true hb
    obtain ⟨z0, z1, x, y, z, hw, hm3, hz, hx1, hy1, hz1⟩ := hfn q hq (spots_iff.mp b1) (fun h => b2 (spots_iff.mpr h))
    refine pbd_weak (st1 := (apS C n F ts (some (.d (.int (a : Int)))) (some (.d (.lst (W.map fun (i : Nat) => D.int (i : Int))))) (some (.d (.int ((ts.getD a (0, 0)).1 : Int)))) (some (.d kn)) none none (some (.d (.lst (fn.map turnD)))) (some (.d (chartD C n (cns n G)))) (some (.d (.lst (tup2 (spotsZ n fn))))) (some (.d (tupI q))) (some (.d (.lst [.int (wr0 n F q), .int (wr1 n F q), .int (wr2 n F q)]))) (some (.d (tupI [x, y, z]))) none)) ?_ rfl (by (intro i r h; rcases i with _ | _ | _ | _ | _ | _ | _ | _ | _ | _ | _ | _ | _ | _ | _ | _ | _ | _ | _ | i <;> first | exact h | cases h))
    refine pbd_cons (psd_set 16 scApart.nd (pd_cg Cw hr (Nat.le_refl _) (padd_cons (pd_var 1) (padd_cons (pd_var 4) (padd_cons (pd_var 15) padd_nil))) ⟨n, F, true, q, rfl, h0, h7, rfl, rfl⟩)) ?_
    refine pbd_cons (psd_set 17 scApart.nd (pd_eqD (d' := tupI [x, y, z]) (pd_cg C3 hr (Nat.le_refl _) (padd_cons (pd_var 1) (padd_cons (pd_var 4) (padd_cons (pd_var 15) padd_nil))) ⟨n, F, true, q, rfl, h0, h7, rfl, rfl⟩) (by rw [hw]; rfl))) ?_
    refine pbd_skip (bl := false) (ptd_eqB (ptd_bool (pwd_or (ptd_ne (pd_ixL (d := .int (wr0 n F q)) (pd_var 16) pd_int rfl) pd_int) fun _ => pwd_or (ptd_ne (pd_ixL (d := .int (wr1 n F q)) (pd_var 16) pd_int rfl) pd_int) fun _ => pwd_or1 (ptd_isN (pd_var 17) pd_non))) (by rw [iv_eq, iv_eq, z0, z1]; rfl)) rfl ?_
    refine pbd_skip (bl := false) (ptd_eqB (ptd_bool (pwd_or (ptd_ne (pd_eqD (d' := .int 3) (pd_lenL mN (padd_cons (pd_lc (own := [("_law_line", 18)]) [x, y, z] D.int (fun v => (apS C n F ts (some (.d (.int (a : Int)))) (some (.d (.lst (W.map fun (i : Nat) => D.int (i : Int))))) (some (.d (.int ((ts.getD a (0, 0)).1 : Int)))) (some (.d kn)) none none (some (.d (.lst (fn.map turnD)))) (some (.d (chartD C n (cns n G)))) (some (.d (.lst (tup2 (spotsZ n fn))))) (some (.d (tupI q))) (some (.d (.lst [.int (wr0 n F q), .int (wr1 n F q), .int (wr2 n F q)]))) (some (.d (tupI [x, y, z]))) (some (.d (.int v))))) (fun v => decide (v ∈ blk (rngZ n) ts a)) D.int
      rfl scApart.nd (pid_tup (pd_var 17) rfl) (blkOk_by (N := nApart) (sc := defScope sApart) (by decide +kernel)) (by show 3 ≤ 40000; decide) (fun v hv _ H C' cl fp => pgd_name 18 scApart.nd) (fun v hv l _ H C' cl fp => ptsd_one (ptd_in (ns := blk (rngZ n) ts a) (pd_var 18) (pd_var 9) (by rw [hkn]; rfl))) (fun v hv _ l _ H C' cl fp => pd_var 18)) padd_nil)) (by
        rw [List.filter_eq_self.mpr fun v hv => ?_]
        · rfl
        · refine decide_eq_true ?_
          simp only [List.mem_cons, List.not_mem_nil, or_false] at hv
          rcases hv with rfl | rfl | rfl <;> assumption)) pd_int) fun _ => pwd_or1 (ptd_ne (pd_getT (ns := [x, y, z]) (d := .int (F [x, y, z])) hu (pd_var 4) (pd_var 17) (lookI_some (lookI_F hm3))) pd_int))) (by rw [iv_eq, iv_eq, hz]; rfl)) rfl ?_
    exact pbd_skip (bl := false) (ptd_eqB (ptd_not (ptd_val (pd_cg Cr hr (Nat.le_refl _) (padd_cons (pd_var 3) (padd_cons (pd_var 1) (padd_cons (pd_var 4) (padd_cons (pd_var 15) (padd_cons (pd_freeze (pd_listO mL (pd_var 15) rfl)) padd_nil))))) ⟨n, F, true, false, q, q, rfl, hl, fun x => Iff.rfl, sF, h1, h7, rfl, rfl⟩))) rfl) rfl pbd_nil
end
end Bl
set_option Elab.async false
set_option linter.all false
set_option maxRecDepth 100000
set_option maxHeartbeats 8000000
namespace Bl
open PySem PySem.Spec PyProof.Rows L2
open scoped List
def exB (n : Int) (ts : List Trn) : Bool := ts.all fun t => decide (t.1 + t.2 ≤ n.toNat)
theorem exT_of {n : Int} {ts : List Trn} (h : exB n ts = true) : ExT n ts := fun t ht => of_decide_eq_true (List.all_eq_true.mp h t ht)
theorem spSp_ex {n : Int} (h3 : 3 ≤ n) (h7 : n ≤ 7) (wd : Int) : ExT n (spSp wd n) ∧ (spSp wd n).length ≤ 49 := by
  have h1 : (exB n (fan1 n) = true ∧ (fan1 n).length ≤ 49) ∧ (exB n (fan2 n) = true ∧ (fan2 n).length ≤ 49) ∧ (exB n (fanT n) = true ∧ (fanT n).length ≤ 49) := by
    have : n = 3 ∨ n = 4 ∨ n = 5 ∨ n = 6 ∨ n = 7 := by omega
    rcases this with rfl | rfl | rfl | rfl | rfl <;> decide +kernel
  unfold spSp
  split
  · exact ⟨exT_of h1.2.1.1, h1.2.1.2⟩
  · split
    · exact ⟨exT_of h1.1.1, h1.1.2⟩
    · exact ⟨exT_of h1.2.2.1, h1.2.2.2⟩
theorem spot_more (ps : List Int) : ExT (spN ps) (spotT ps) ∧ (spotT ps).length ≤ 49 := by
  obtain ⟨n1, n7⟩ := sizeZ_rng17 ps
  unfold spotT
  split
  · rename_i h
    exact spSp_ex h.2 n7 _
  · have n1' : 1 ≤ spN ps := n1
    have n7' : spN ps ≤ 7 := n7
    refine ⟨turns_ex _ _ _, ?_⟩
    have h2 : (spT ps).ts.length ≤ (spN ps * spN ps).toNat := (turns_ok (show 0 ≤ spN ps by omega) (spW (spK ps) (spN ps)) ps.dropLast.dropLast).len
    have hn2 : spN ps * spN ps ≤ 49 := by
      have h1 : spN ps * spN ps ≤ 7 * spN ps := Int.mul_le_mul_of_nonneg_right n7' (by omega)
      omega
    omega
end Bl
set_option Elab.async false
set_option linter.all false
set_option maxRecDepth 100000
set_option maxHeartbeats 8000000
namespace Bl
open PySem PySem.Spec PyProof.Rows L2
open scoped List
/-! ### _law_steady, _law_good, for rows of signs -/
def SgR4 (ns : List Int) : Prop := ns.length = 4 ∧ ∀ x ∈ ns, -1 ≤ x ∧ x ≤ 1
theorem four_of {ns : List Int} (h : ns.length = 4) : ∃ a b c d, ns = [a, b, c, d] := by
  match ns, h with
  | [a, b, c, d], _ => exact ⟨a, b, c, d, rfl⟩
section
variable {P : Program} {w : World} {K : PySem.W.Frag} {mg : Str → Option Value} {base : Heap} {f fG : Addr} {fd fdG : FuncData} {k : Nat} {C : Addr}
abbrev sStd : Stmt := topS 64
theorem scStd : FnScope ["_law_row", "_law_at"] ["_law_row"] (defScope sStd) := ⟨rfl, rfl, rfl, by decide +kernel, rfl, by decide +kernel, by decide +kernel⟩
def gStd : GG := fun rs ow r ow' => ∃ ns : List Int, rs = [.d (lstI ns)] ∧ SgR4 ns ∧ r = .d (.bl (steadyZ ns)) ∧ ow' = ow
theorem ok_std (F0 : Fun K "_law_steady" "_law_steady" sStd f fd) (mN : mg "len" = none) (mR : mg "range" = none) : FnOk P w K mg base CX0 (k + 1) f fd ["_law_row"] (spF K gStd) := by
  refine okF F0 scStd (fun rs ow r ow' h => ?_) (fun cdv A outer s H E hr rs ow r ow' h => ?_)
  · obtain ⟨ns, rfl, _⟩ := h
    rfl
  · obtain ⟨ns, rfl, ⟨h4, hb⟩, rfl, rfl⟩ := h
    obtain ⟨a, b, c, d, e⟩ := four_of h4
    have hbb : ∀ x ∈ [a, b, c, d], -1 ≤ x ∧ x ≤ 1 := by rw [← e]; exact hb
    have ba := hbb a (by simp)
    have bb := hbb b (by simp)
    have bc := hbb c (by simp)
    have bd := hbb d (by simp)
    have i0 : atI (ns.map D.int) 0 = some (.int a) := by rw [e]; rfl
    have i1 : atI (ns.map D.int) 1 = some (.int b) := by rw [e]; rfl
    have i2 : atI (ns.map D.int) 2 = some (.int c) := by rw [e]; rfl
    have i3 : atI (ns.map D.int) 3 = some (.int d) := by rw [e]; rfl
    have hz : a * b * c * d = 0 ↔ (0 : Int) ∈ ns := by
      rw [e]
      simp only [Int.mul_eq_zero, List.mem_cons, List.not_mem_nil, or_false, eq_comm (a := (0 : Int)), or_assoc]
    have hprod : ∀ {X : Cx} {st : Sta} {ow : List OB} {e0 e1 e2 e3 : Expr} {p1 p2 p3 : Pos}, PD X st ow e0 (.d (.int a)) ow → PD X st ow e1 (.d (.int b)) ow → PD X st ow e2 (.d (.int c)) ow → PD X st ow e3 (.d (.int d)) ow → PD X st ow (.BinOp (.BinOp (.BinOp e0 .Mult e1 p1) .Mult e2 p2) .Mult e3 p3) (.d (.int (a * b * c * d))) ow := fun q0 q1 q2 q3 =>
      pd_mul (pd_mul (pd_mul q0 q1 (.inr ⟨by omega, by omega⟩)) q2 (.inr ⟨by omega, by omega⟩)) q3 (.inr ⟨by omega, by omega⟩)
    by_cases hm : (0 : Int) ∈ ns
    · have es : steadyZ ns = false := by unfold steadyZ; rw [decide_eq_true hm]; rfl
      rw [es]
      exact pbd_take (bl := true) (ptd_eqB (ptd_eq (hprod (pd_ixL (pd_var 0) pd_int i0) (pd_ixL (pd_var 0) pd_int i1) (pd_ixL (pd_var 0) pd_int i2) (pd_ixL (pd_var 0) pd_int i3)) pd_int) (by rw [iv_eq]; exact decide_eq_true (hz.mpr hm))) rfl (pbd_last (psd_ret pd_bl))
    · have es : steadyZ ns = decide (((chgI ns).length : Int) ≤ 1) := by unfold steadyZ; rw [decide_eq_false hm]; rfl
      rw [es]
      refine pbd_skip (bl := false) (ptd_eqB (ptd_eq (hprod (pd_ixL (pd_var 0) pd_int i0) (pd_ixL (pd_var 0) pd_int i1) (pd_ixL (pd_var 0) pd_int i2) (pd_ixL (pd_var 0) pd_int i3)) pd_int) (by rw [iv_eq]; exact decide_eq_false fun z => hm (hz.mp z))) rfl ?_
      refine pbd_last (psd_ret (pd_le (pd_eqD (d' := .int ((chgI ns).length : Int)) (pd_lenL mN (padd_cons (pd_lc (own := [("_law_at", 1)]) (rngZ 3) D.int (fun i => [some (.d (lstI ns)), some (.d (.int i))]) (fun i => !decide (gI ns i = gI ns (i + 1))) D.int
        rfl scStd.nd (pid_eq (pid_range1 mR (padd_cons pd_int padd_nil) (by decide)) (rngD_Z 3)) (blkOk_by (N := ["_law_row", "_law_at"]) (sc := defScope sStd) (by decide +kernel)) (by decide) (fun i hi _ H C' cl fp => pgd_name 1 scStd.nd) (fun i hi l _ H C' cl fp => ?_) (fun i hi _ l _ H C' cl fp => pd_var 1)) padd_nil)) (by rw [List.length_map]; rfl)) pd_int))
      have hi := mem_rngZ hi
      exact ptsd_one (ptd_eqB (ptd_ne (pd_ixL (d := .int (gI ns i)) (pd_var 0) (pd_var 1) (at4 h4 hi.1 (by omega))) (pd_ixL (d := .int (gI ns (i + 1))) (pd_var 0) (pd_add (pd_var 1) pd_int) (at4 h4 (by omega) (by omega)))) (by rw [iv_eq]))
abbrev sGd : Stmt := topS 65
theorem scGd : FnScope ["_law_row", "_law_at", "_law_zeros"] ["_law_row"] (defScope sGd) := ⟨rfl, rfl, rfl, by decide +kernel, rfl, by decide +kernel, by decide +kernel⟩
def gGd : GG := fun rs ow r ow' => ∃ ns : List Int, rs = [.d (lstI ns)] ∧ SgR4 ns ∧ r = .d (.bl (goodW ns)) ∧ ow' = ow
theorem set_cut (ns : List Int) (i : Nat) (x : Int) (h : i < ns.length) : ns.take i ++ [x] ++ ns.drop (i + 1) = ns.set i x := by
  rw [List.set_eq_take_append_cons_drop, if_pos h, List.append_assoc]
  rfl
theorem sg_set {ns : List Int} (h : SgR4 ns) (i : Nat) {x : Int} (hx : -1 ≤ x ∧ x ≤ 1) : SgR4 (ns.set i x) := ⟨by rw [List.length_set]; exact h.1, fun y hy => by
  rcases List.mem_or_eq_of_mem_set hy with hy | rfl
  · exact h.2 y hy
  · exact hx⟩
theorem ok_gd (F0 : Fun K "_law_good" "_law_good" sGd f fd) (C1 : Fg P w K mg base "_law_steady" k ["_law_row"] gStd) (mN : mg "len" = none) (mR : mg "range" = none) : FnOk P w K mg base CX0 (k + 1) f fd ["_law_row"] (spF K gGd) := by
  refine okF F0 scGd (fun rs ow r ow' h => ?_) (fun cdv A outer s H E hr rs ow r ow' h => ?_)
  · obtain ⟨ns, rfl, _⟩ := h
    rfl
  · obtain ⟨ns, rfl, h4, rfl, rfl⟩ := h
    refine pbd_cons (st1 := [some (.d (lstI ns)), none, some (.d (lstI (zerI ns)))]) (ow1 := ow') ?_ ?_
    · refine psd_setLc (own := [("_law_at", 1)]) 2 (rngZ 4) D.int (fun i => [some (.d (lstI ns)), some (.d (.int i)), none]) (fun i => decide (gI ns i = 0)) D.int rfl scGd.nd ?_ (blkOk_by (N := ["_law_row", "_law_at", "_law_zeros"]) (sc := defScope sGd) (by decide +kernel)) (by decide) (fun i hi _ H C' cl fp => pgd_name 1 scGd.nd) (fun i hi l _ H C' cl fp => ?_) (fun i hi _ l _ H C' cl fp => pd_var 1)
      · exact pid_eq (pid_range1 mR (padd_cons pd_int padd_nil) (by decide)) (rngD_Z 4)
      · have hi := mem_rngZ hi
        exact ptsd_one (ptd_eqB (ptd_eq (pd_ixL (d := .int (gI ns i)) (pd_var 0) (pd_var 1) (at4 h4.1 hi.1 (by omega))) pd_int) (iv_eq (a := gI ns i) (b := 0)))
    have hzr : ∀ i ∈ zerI ns, 0 ≤ i ∧ i < 4 := fun i hi => mem_rngZ (List.mem_filter.mp hi).1
    have hzl : (zerI ns).length ≤ 4 := by
      have := List.length_filter_le (fun i => decide (gI ns i = 0)) (rngZ 4)
      rw [rngZ_len] at this
      exact this
    unfold goodW
    generalize zerI ns = z at hzr hzl
    by_cases h0 : z.length = 0
    · rw [if_pos (.inl h0), decide_eq_false (show ¬ z.length = 4 by omega)]
      exact pbd_take (bl := true) (ptd_eqB (ptd_eq (pd_lenL mN (padd_cons (pd_var 2) padd_nil)) pd_int) (by rw [iv_eq, List.length_map, h0]; rfl)) rfl (pbd_last (psd_ret (pd_eqD (pd_cg C1 hr (Nat.le_refl _) (padd_cons (pd_var 0) padd_nil) ⟨ns, rfl, h4, rfl, rfl⟩) rfl)))
    refine pbd_skip (bl := false) (ptd_eqB (ptd_eq (pd_lenL mN (padd_cons (pd_var 2) padd_nil)) pd_int) (by rw [iv_eq, List.length_map]; exact decide_eq_false (by omega))) rfl ?_
    by_cases h1 : z.length = 1
    · rw [if_neg (by omega), if_neg (by omega)]
      refine pbd_skip (bl := false) (ptd_eqB (ptd_ne (pd_lenL mN (padd_cons (pd_var 2) padd_nil)) pd_int) (by rw [iv_eq, List.length_map, h1]; rfl)) rfl ?_
      obtain ⟨x, rfl⟩ : ∃ x, z = [x] := by
        match z, h1 with
        | [x], _ => exact ⟨x, rfl⟩
      obtain ⟨x0, x4⟩ := hzr x (by simp)
      obtain ⟨i, rfl⟩ : ∃ i : Nat, x = (i : Int) := ⟨x.toNat, by omega⟩
      refine pbd_cons (psd_set 1 scGd.nd (pd_ixL (d := .int (i : Int)) (pd_var 2) pd_int rfl)) ?_
      have hcut : ∀ {X : Cx} {st : Sta} {ow : List OB} {e0 e1 ei ej : Expr} {v : Int} {p1 p2 p3 p4 p5 p6 : Pos} {ee : Expr} {y : Int}, True := trivial
      have il : i < ns.length := by rw [h4.1]; omega
      have ecut : ∀ v : Int, (cutD (ns.map D.int) none (some (i : Int)) ++ [D.int v]) ++ cutD (ns.map D.int) (some ((i : Int) + 1)) none = (ns.set i v).map D.int := fun v => by
        rw [cut_take, cut_drop, ← set_cut ns i v il, List.map_append, List.map_append, List.map_take, List.map_drop]
        rfl
      have hlen : ∀ v : Int, (cutD (ns.map D.int) none (some (i : Int))).length + [D.int v].length ≤ 100000 := fun v => by
        rw [cut_take, List.length_take, List.length_map, h4.1]
        simp only [List.length_singleton]
        omega
      have hlen2 : ∀ v : Int, (cutD (ns.map D.int) none (some (i : Int)) ++ [D.int v]).length + (cutD (ns.map D.int) (some ((i : Int) + 1)) none).length ≤ 100000 := fun v => by
        rw [cut_take, cut_drop, List.length_append, List.length_take, List.length_drop, List.length_map, h4.1]
        simp only [List.length_singleton]
        omega
      refine pbd_last (psd_ret (pd_eqB (pd_and (pd_cg C1 hr (Nat.le_refl _) (padd_cons (pd_eqD (pd_lstW (pd_catV (pd_catV (pd_slV (pd_var 0) pod_none (pod_some (pd_var 1))) (pd_freezeV (ow1 := ow') (l := [D.int 1]) (pd_lstO (padd_cons pd_int padd_nil))) (hlen 1)) (pd_slV (pd_var 0) (pod_some (pd_add (pd_var 1) pd_int)) pod_none) (hlen2 1))) (congrArg D.lst (ecut 1))) padd_nil) ⟨ns.set i 1, rfl, sg_set h4 i (by decide), rfl, rfl⟩) fun _ => pd_one (pd_cg C1 hr (Nat.le_refl _) (padd_cons (pd_eqD (pd_lstW (pd_catV (pd_catV (pd_slV (pd_var 0) pod_none (pod_some (pd_var 1))) (pd_freezeV (ow1 := ow') (l := [D.int (-1)]) (pd_lstO (padd_cons (pd_neg pd_int) padd_nil))) (hlen (-1))) (pd_slV (pd_var 0) (pod_some (pd_add (pd_var 1) pd_int)) pod_none) (hlen2 (-1)))) (congrArg D.lst (ecut (-1)))) padd_nil) ⟨ns.set i (-1), rfl, sg_set h4 i (by decide), rfl, rfl⟩)) ?_))
      show _ = (steadyZ (ns.set ((i : Int)).toNat (-1)) && steadyZ (ns.set ((i : Int)).toNat 1))
      rw [show ((i : Int)).toNat = i by omega, Bool.and_comm]
    · refine pbd_take (bl := true) (ptd_eqB (ptd_ne (pd_lenL mN (padd_cons (pd_var 2) padd_nil)) pd_int) (by rw [iv_eq, List.length_map, decide_eq_false (by omega)]; rfl)) rfl (pbd_last (psd_ret (pd_eqB (pd_eq (pd_lenL mN (padd_cons (pd_var 2) padd_nil)) pd_int) ?_)))
      rw [iv_eq, List.length_map]
      by_cases h44 : z.length = 4
      · rw [if_pos (.inr h44), decide_eq_true h44, h44]
        rfl
      · rw [if_neg (by omega), if_pos (by omega)]
        exact decide_eq_false (by omega)
end
end Bl
set_option Elab.async false
set_option linter.all false
set_option maxRecDepth 100000
set_option maxHeartbeats 8000000
namespace Bl
open PySem PySem.Spec PyProof.Rows L2
section
variable {P : Program} {w : World} {K : PySem.W.Frag} {mg : Str → Option Value} {base : Heap} {f : Addr} {fd : FuncData} {k : Nat} {C : Addr}
/-! ### _law_bad_four -/
abbrev sBad4S : Stmt := topS 66
theorem scBad4S : FnScope nBad4 ["_law_size_here", "_law_table_here"] (defScope sBad4S) := ⟨rfl, rfl, rfl, by decide +kernel, rfl, by decide +kernel, by decide +kernel⟩
def gBad4S : GG := fun rs ow r ow' => ∃ (n : Int) (F : List Int → Int), rs = [.d (.int n), .d (.dT (tabI (tabF n F)))] ∧ 0 ≤ n ∧ n ≤ 7 ∧ SgnF F ∧ r = .d (optD (badW n F)) ∧ ow' = ow
theorem ok_bad4S (F0 : Fun K "_law_bad_four" "_law_bad_four" sBad4S f fd) (C1 : Fg P w K mg base "_law_good" k ["_law_row"] gGd) (mR : mg "range" = none) : FnOk P w K mg base CX0 (k + 1) f fd ["_law_size_here", "_law_table_here"] (spF K gBad4S) := by
  refine okF F0 scBad4S (fun rs ow r ow' h => ?_) (fun cdv A outer s H E hr rs ow r ow' h => ?_)
  · obtain ⟨n, F, rfl, _⟩ := h
    rfl
  · obtain ⟨n, F, rfl, h0, h1, sF, rfl, rfl⟩ := h
    have hu := room_u hr
    have he := rr_eq h0 h1 F
    refine pbd_forS [2] (b4St n F none none none none none) (rngZ n) D.int (rr1 n F) (fun i => b4St n F (some (.d (.int i))) none none none none) PassesOwn.never rfl (pid_eq (pid_range1 mR (padd_cons (pd_var 0) padd_nil) (by omega)) (rngD_Z n)) ⟨rfl, fun i r h => h⟩ (fun i hi => pgd_name 2 scBad4S.nd) (fun i hi => ?_) (fun hn => ?_) (fun r hs => ?_)
    · have hi := mem_rngZ hi
      refine pbd_forS [3] (b4St n F (some (.d (.int i))) none none none none) (upr n i) D.int (rr2 n F i) (fun j => b4St n F (some (.d (.int i))) (some (.d (.int j))) none none none) PassesOwn.never rfl (pid_eq (pid_range2 mR (padd_cons (pd_add (pd_var 2) pd_int) (padd_cons (pd_var 0) padd_nil)) (by omega) (by omega)) (rgZ_D _ _)) ⟨rfl, fun i r h => h⟩ (fun i hi => pgd_name 3 scBad4S.nd) (fun j hj => ?_)
        (fun hn => by rw [show rr1 n F i = none from hn]; exact pbd_weak pbd_nil rfl (by (intro i r h; rcases i with _ | _ | _ | _ | _ | _ | _ | i <;> first | exact h | cases h))) (fun r hs => by rw [show rr1 n F i = some r from hs]; rfl)
      have hj := mem_upr hj
      refine pbd_forS [4] (b4St n F (some (.d (.int i))) (some (.d (.int j))) none none none) (upr n j) D.int (rr3 n F i j) (fun k => b4St n F (some (.d (.int i))) (some (.d (.int j))) (some (.d (.int k))) none none) PassesOwn.never rfl (pid_eq (pid_range2 mR (padd_cons (pd_add (pd_var 3) pd_int) (padd_cons (pd_var 0) padd_nil)) (by omega) (by omega)) (rgZ_D _ _)) ⟨rfl, fun i r h => h⟩ (fun i hi => pgd_name 4 scBad4S.nd) (fun k hk => ?_)
        (fun hn => by rw [show rr2 n F i j = none from hn]; exact pbd_weak pbd_nil rfl (by (intro i r h; rcases i with _ | _ | _ | _ | _ | _ | _ | i <;> first | exact h | cases h))) (fun r hs => by rw [show rr2 n F i j = some r from hs]; rfl)
      have hk := mem_upr hk
      refine pbd_forS [5] (b4St n F (some (.d (.int i))) (some (.d (.int j))) (some (.d (.int k))) none none) (upr n k) D.int (rr4 F i j k) (fun m => b4St n F (some (.d (.int i))) (some (.d (.int j))) (some (.d (.int k))) (some (.d (.int m))) none) PassesOwn.never rfl (pid_eq (pid_range2 mR (padd_cons (pd_add (pd_var 4) pd_int) (padd_cons (pd_var 0) padd_nil)) (by omega) (by omega)) (rgZ_D _ _)) ⟨rfl, fun i r h => h⟩ (fun i hi => pgd_name 5 scBad4S.nd) (fun m hm => ?_)
        (fun hn => by rw [show rr3 n F i j k = none from hn]; exact pbd_weak pbd_nil rfl (by (intro i r h; rcases i with _ | _ | _ | _ | _ | _ | _ | i <;> first | exact h | cases h))) (fun r hs => by rw [show rr3 n F i j k = some r from hs]; rfl)
      have hm := mem_upr hm
      have m1 := mem_sub3 h0 h1 hi.1 hj.1 hk.1 hk.2
      have m2 := mem_sub3 h0 h1 hi.1 hj.1 (show j < m by omega) hm.2
      have m3 := mem_sub3 h0 h1 hi.1 (show i < k by omega) hm.1 hm.2
      have m4 := mem_sub3 h0 h1 (show 0 ≤ j by omega) hk.1 hm.1 hm.2
      refine pbd_cons (psd_set 6 scBad4S.nd (pd_eqD (pd_lst (padd_cons (pd_getT (ns := [i, j, k]) hu (pd_var 1) (pd_tup (padd_cons (pd_var 2) (padd_cons (pd_var 3) (padd_cons (pd_var 4) padd_nil)))) (lookI_some (lookI_F m1))) (padd_cons (pd_getT (ns := [i, j, m]) hu (pd_var 1) (pd_tup (padd_cons (pd_var 2) (padd_cons (pd_var 3) (padd_cons (pd_var 5) padd_nil)))) (lookI_some (lookI_F m2)))
        (padd_cons (pd_getT (ns := [i, k, m]) hu (pd_var 1) (pd_tup (padd_cons (pd_var 2) (padd_cons (pd_var 4) (padd_cons (pd_var 5) padd_nil)))) (lookI_some (lookI_F m3))) (padd_cons (pd_getT (ns := [j, k, m]) hu (pd_var 1) (pd_tup (padd_cons (pd_var 3) (padd_cons (pd_var 4) (padd_cons (pd_var 5) padd_nil)))) (lookI_some (lookI_F m4))) padd_nil))))) (d' := .lst ((rowF F [i, j, k, m]).map D.int)) rfl)) ?_
      have hsg : SgR4 (rowF F [i, j, k, m]) := ⟨rfl, fun x hx => by
        have hx : x ∈ [F [i, j, k], F [i, j, m], F [i, k, m], F [j, k, m]] := hx
        simp only [List.mem_cons, List.not_mem_nil, or_false] at hx
        rcases hx with rfl | rfl | rfl | rfl <;> exact sF _⟩
      unfold rr4 bad4
      cases hg : goodW (rowF F [i, j, k, m]) with
      | true =>
        exact pbd_weak (st1 := b4St n F (some (.d (.int i))) (some (.d (.int j))) (some (.d (.int k))) (some (.d (.int m))) (some (.d (.lst ((rowF F [i, j, k, m]).map D.int))))) (pbd_skip (ptd_not (ptd_val (pd_cg C1 hr (Nat.le_refl _) (padd_cons (pd_var 6) padd_nil) ⟨rowF F [i, j, k, m], rfl, hsg, rfl, rfl⟩))) (by rw [hg]; rfl) pbd_nil) rfl (by (intro i r h; rcases i with _ | _ | _ | _ | _ | _ | _ | i <;> first | exact h | cases h))
      | false =>
        exact pbd_take (ptd_not (ptd_val (pd_cg C1 hr (Nat.le_refl _) (padd_cons (pd_var 6) padd_nil) ⟨rowF F [i, j, k, m], rfl, hsg, rfl, rfl⟩))) (by rw [hg]; rfl) (pbd_last (psd_ret (pd_tup (padd_cons (pd_var 2) (padd_cons (pd_var 3) (padd_cons (pd_var 4) (padd_cons (pd_var 5) padd_nil)))))))
    · rw [he] at hn
      cases hb : badW n F with
      | none => exact pbd_last (psd_ret pd_non)
      | some q => rw [hb] at hn; cases hn
    · rw [he] at hs
      cases hb : badW n F with
      | none => rw [hb] at hs; cases hs
      | some q => rw [hb] at hs; cases hs; rfl
end
end Bl
set_option Elab.async false
set_option linter.all false
set_option maxRecDepth 100000
set_option maxHeartbeats 8000000
namespace Bl
open PySem PySem.Spec PyProof.Rows L2 PySem.Xq
def tsFld (n : XN) (ie it : Nat) : Addr → Value → Option Addr → TS := fun a cls d => tAsg (tFld n a cls d (tVar ie)) (gName it)
section
variable {X : Cx} {nm : Str} {n : XN} {cls : Value} {ts : Addr → Value → Option Addr → TS} {body : List Stmt} {h0 : ExceptHandler} {hds : List ExceptHandler} {pos : Pos} {st st1 : Sta} {ow ow1 : List OB} {d : D}
/-- a try whose body raises nothing -/
theorem psd_tryN (ie : Nat) (hs : X.stack = X.env :: X.outer) (hf : X.env.frame = some X.env.locals) (hN : X.N.Nodup) (hi : X.N[ie]? = some nm) (hln : X.env.kindOf nm = some .local)
    (hb : ∀ (W : WX) (pn : List (Addr × Obj)) (xe : Value → Shared → Prop), Takes (X.tr pn xe) W → PassesOwn (model X.prog X.w) X.A X.env xe → PBD (X.tr pn xe) st ow body (.nx st1 ow1))
    (hh : Hdl X cls nm ts (h0 :: hds)) : PSD X st ow (.Try body (h0 :: hds) [] [] pos) (.nx st1 ow1) :=
  ps_try_hit (cls := cls) (i := ie) (tb := fun _ => tDS X.K st ow (.nx st1 ow1)) (ts := ts) hs hf hN hi hln hb hh
/-- a try whose body raises, the handler keeping what the exception tells -/
theorem psd_tryV (ie it : Nat) (hs : X.stack = X.env :: X.outer) (hf : X.env.frame = some X.env.locals) (hN : X.N.Nodup) (hi : X.N[ie]? = some nm) (hln : X.env.kindOf nm = some .local) (hie : ie < st1.length) (hne : ie ≠ it)
    (hb : ∀ (W : WX) (pn : List (Addr × Obj)) (xe : Value → Shared → Prop), Takes (X.tr pn xe) W → PassesOwn (model X.prog X.w) X.A X.env xe → PXB (X.tr pn xe) n W st ow body d st1 ow1)
    (hh : Hdl X (.ref n.cls) nm (tsFld n ie it) (h0 :: hds)) : PSD X st ow (.Try body (h0 :: hds) [] [] pos) (.nx ((st1.set it (some (.d d))).set ie none) ow1) :=
  (ps_try_hit (cls := .ref n.cls) (i := ie) (tb := fun W => tRzG X.K n W st ow d st1 ow1) (ts := tsFld n ie it) hs hf hN hi hln hb hh).imp fun D σ H ⟨S, sl, o, k⟩ => ⟨S, sl, o, fun S' σ' u H' dd f1 sl1 o1 du hdd => ⟨rfl, fun a ha => by
    have ex : Evl.Ex H' (upd H' dd (xdF n.fld u)) := Evl.Ex.new hdd
    have hlen := sl1.len
    have o2 := o1.ex ex
    have du2 := Den.mono (.of ex) du
    show ∃ v, (σ'.set ie (some (V.ref a)))[ie]? = some (some v) ∧ (v = .ref a ∧ Value.ref n.cls = .ref n.cls ∧ ∃ (dd' : Addr) (v' : V), some dd = some dd' ∧ (upd H' dd (xdF n.fld u)) dd' = some (xdF n.fld v') ∧ D.nx (((σ'.set ie (some (V.ref a))).set it (some v')).set ie none) (upd H' dd (xdF n.fld u)))
    refine ⟨.ref a, List.getElem?_set_self (by rw [hlen]; exact hie), rfl, rfl, dd, u, rfl, upd_same, ?_⟩
    have e : ((σ'.set ie (some (V.ref a))).set it (some u)).set ie none = (σ'.set it (some u)).set ie none := by rw [List.set_comm _ _ hne, List.set_set]
    rw [e]
    have sl2 : Slots X.K S' (upd H' dd (xdF n.fld u)) (σ'.set it (some u)) (st1.set it (some (.d d))) := (sl1.mono (.of ex)).set it (.d du2)
    exact k S' _ _ (f1.trans o1 (.of ex)) (sl2.wipe [ie]) o2⟩⟩
end
section
variable {X : Cx} {a b : Expr} {st : Sta} {ow ow1 ow2 : List OB} {pos : Pos} {x y : D} {p q : PyData}
theorem pd_eqP (hu : X.A.units + 64 < cLine) (ha : PD X st ow a (.d x) ow1) (hb : PD X st ow1 b (.d y) ow2) (hx : pyD x = some p := by rfl) (hy : pyD y = some q := by rfl) (sp : SeqAt.shaped p = true := by decide +kernel) (sq : SeqAt.shaped q = true := by decide +kernel) : PD X st ow (.Compare a [.Eq] [b] pos) (.d (.bl (PyData.eqv p q))) ow2 := pd_cmp (op_eqD hu) (nomark _) (rd_eqP hx hy sp sq) ha hb
end
section
variable {P : Program} {w : World} {K : PySem.W.Frag} {mg : Str → Option Value} {base : Heap} {f fG : Addr} {fd fdG : FuncData} {k : Nat} {C CB fB CL fL CU fU : Addr} {psG : List Str}
/-! ### _law_look_told -/
abbrev sLook : Stmt := topS 74
abbrev nLook : List Str := ["_law_door", "_law_chart_here", "_law_lot_here", "_law_told", "raised"]
theorem scLook : FnScope nLook ["_law_door", "_law_chart_here", "_law_lot_here"] (defScope sLook) := ⟨rfl, rfl, rfl, by decide +kernel, rfl, by decide +kernel, by decide +kernel⟩
inductive TLk (C : Addr) : Int → D → D → D → Prop
  | chart {dr : Int} {x : D} (hd : dr = 0 ∨ dr = 1 ∨ dr = 2) : TLk C dr .non x (.tup [.str "kind", .str "chart"])
  | kind {dr n : Int} {ns : List Int} {x : Str} (hd : dr = 0 ∨ dr = 1 ∨ dr = 2) (h1 : 1 ≤ n) (h7 : n ≤ 7) : TLk C dr (chartD C n ns) (.str x) (.tup [.str "kind", .str "lot"])
  | line {dr n v : Int} {ns qs : List Int} {t : Bool} {j : Nat} (hd : dr = 0 ∨ dr = 1 ∨ dr = 2) (h1 : 1 ≤ n) (h7 : n ≤ 7) (hb : LotBad n qs j) (hv : qs.getD j 0 = v) : TLk C dr (chartD C n ns) (sqD t (qs.map D.int)) (.tup [.str "line", .int v])
  | four {n : Int} {F : List Int → Int} {t : Bool} {pl q : List Int} (h1 : 1 ≤ n) (h7 : n ≤ 7) (hl : LotIn n pl) (hb : badF n (cns n F) = some q) : TLk C 0 (chartD C n (cns n F)) (sqD t (pl.map D.int)) (.tup [.str "four", tupI q])
  | ans1 {n : Int} {F : List Int → Int} {t : Bool} {pl q : List Int} (h1 : 1 ≤ n) (h7 : n ≤ 7) (hl : LotIn n pl) (hw : wrongF n F pl = some q) : TLk C 1 (chartD C n (cns n F)) (sqD t (pl.map D.int)) (.tup [.str "answer", tupI q])
  | ans2 {n : Int} {F : List Int → Int} {t : Bool} {pl : List Int} (h1 : 1 ≤ n) (h7 : n ≤ 7) (hl : LotIn n pl) : TLk C 2 (chartD C n (cns n F)) (sqD t (pl.map D.int)) (.tup [.str "answer", tupI [wr0 n F pl, wr1 n F pl, wr2 n F pl]])
def gLook (C : Addr) : GG := fun rs ow r ow' => ∃ (dr : Int) (c l d : D), rs = [.d (.int dr), .d c, .d l] ∧ TLk C dr c l d ∧ r = .d d ∧ ow' = ow
abbrev lkS (dr : Int) (c l d : D) : Sta := [some (.d (.int dr)), some (.d c), some (.d l), some (.d d), none]
abbrev lk0 : D := .tup [.str "none", .int 0]
theorem ok_look (F0 : Fun K "_law_look_told" "_law_look_told" sLook f fd) (TB : BTxt K CB fB) (TL : LTxt K CL fL) (TU : UTxt K CU fU) (gB : mg "BadKind" = some (.ref CB)) (gL : mg "BadLine" = some (.ref CL)) (gU : mg "Unsound" = some (.ref CU)) (hLB : PySem.W.exmOne K (.ref CL) (.ref CB) = some false) (hUB : PySem.W.exmOne K (.ref CU) (.ref CB) = some false) (hUL : PySem.W.exmOne K (.ref CU) (.ref CL) = some false)
    (CPC : FgX P w K mg base "is_place" k ["chart", "lot"] (nB CB) gLkC) (CPB : FgX P w K mg base "is_place" k ["chart", "lot"] (nB CB) (gLkB C)) (CPL : FgX P w K mg base "is_place" k ["chart", "lot"] (nL CL) (gLkL C)) (CTC : FgX P w K mg base "wrong_three" k ["chart", "lot"] (nB CB) gLkC) (CTB : FgX P w K mg base "wrong_three" k ["chart", "lot"] (nB CB) (gLkB C)) (CTL : FgX P w K mg base "wrong_three" k ["chart", "lot"] (nL CL) (gLkL C)) (COC : FgX P w K mg base "wrong_count" k ["chart", "lot"] (nB CB) gLkC) (COB : FgX P w K mg base "wrong_count" k ["chart", "lot"] (nB CB) (gLkB C)) (COL : FgX P w K mg base "wrong_count" k ["chart", "lot"] (nL CL) (gLkL C)) (CPU : FgX P w K mg base "is_place" k ["chart", "lot"] (nU CU) (gLkU C)) (CT : Fg P w K mg base "wrong_three" k ["chart", "lot"] (gWrThree C)) (CO : Fg P w K mg base "wrong_count" k ["chart", "lot"] (gWrCount C)) : FnOk P w K mg base CX0 (k + 1) f fd ["_law_door", "_law_chart_here", "_law_lot_here"] (spF K (gLook C)) := by
  refine okF F0 scLook (fun rs ow r ow' h => ?_) (fun cdv A outer s H E hr rs ow r ow' h => ?_)
  · obtain ⟨dr, c, l, d, rfl, _⟩ := h
    rfl
  · obtain ⟨dr, c, l, d, rfl, ht, rfl, rfl⟩ := h
    refine pbd_cons (psd_set 3 scLook.nd (pd_tup (padd_cons pd_str (padd_cons pd_int padd_nil)))) ?_
    refine pbd_cons (st1 := lkS dr c l d) (ow1 := ow') ?_ (pbd_last (psd_ret (pd_var 3)))
    cases ht with
    | chart hd =>
      rcases hd with rfl | rfl | rfl
      · exact psd_tryW (n := nB CB) (w := "kind") (d := .str "chart") (st1 := lkS 0 .non _ lk0) (ow1 := ow') 4 3 rfl rfl scLook.nd rfl rfl (by show 4 < 5; decide) (by decide) (fun W pn xe tk _ => (psx_last (pxs_ifT (ptd_eq (pd_var 0) pd_int) (by rw [iv_eq]; rfl) (psx_last (pxs_set 3 scLook.nd (pxe_tup2 (pxe_call CPC hr (Nat.le_refl _) tk (padd_cons (pd_var 1) (padd_cons (pd_var 2) padd_nil)) ⟨_, rfl, rfl, rfl⟩))))))) (.hit ⟨rfl, by decide, .inl gB⟩ TB.te (fun a oe d pn hz hf => pss_one (ps_set (i := 3) scLook.nd rfl (Or.inl rfl) (pe_tup (pa_cons pe_str (pa_cons (pe_fldB TB hz hf (pv 4)) pa_nil))))))
      · exact psd_tryW (n := nB CB) (w := "kind") (d := .str "chart") (st1 := lkS 1 .non _ lk0) (ow1 := ow') 4 3 rfl rfl scLook.nd rfl rfl (by show 4 < 5; decide) (by decide) (fun W pn xe tk _ => (psx_skip (ptd_eq (pd_var 0) pd_int) (by rw [iv_eq]; rfl) (psx_last (pxs_ifT (ptd_eq (pd_var 0) pd_int) (by rw [iv_eq]; rfl) (psx_last (pxs_set 3 scLook.nd (pxe_tup2 (pxe_call CTC hr (Nat.le_refl _) tk (padd_cons (pd_var 1) (padd_cons (pd_var 2) padd_nil)) ⟨_, rfl, rfl, rfl⟩)))))))) (.hit ⟨rfl, by decide, .inl gB⟩ TB.te (fun a oe d pn hz hf => pss_one (ps_set (i := 3) scLook.nd rfl (Or.inl rfl) (pe_tup (pa_cons pe_str (pa_cons (pe_fldB TB hz hf (pv 4)) pa_nil))))))
      · exact psd_tryW (n := nB CB) (w := "kind") (d := .str "chart") (st1 := lkS 2 .non _ lk0) (ow1 := ow') 4 3 rfl rfl scLook.nd rfl rfl (by show 4 < 5; decide) (by decide) (fun W pn xe tk _ => (psx_skip (ptd_eq (pd_var 0) pd_int) (by rw [iv_eq]; rfl) (psx_skip (ptd_eq (pd_var 0) pd_int) (by rw [iv_eq]; rfl) (psx_last (pxs_ifT (ptd_eq (pd_var 0) pd_int) (by rw [iv_eq]; rfl) (psx_last (pxs_set 3 scLook.nd (pxe_tup2 (pxe_call COC hr (Nat.le_refl _) tk (padd_cons (pd_var 1) (padd_cons (pd_var 2) padd_nil)) ⟨_, rfl, rfl, rfl⟩))))))))) (.hit ⟨rfl, by decide, .inl gB⟩ TB.te (fun a oe d pn hz hf => pss_one (ps_set (i := 3) scLook.nd rfl (Or.inl rfl) (pe_tup (pa_cons pe_str (pa_cons (pe_fldB TB hz hf (pv 4)) pa_nil))))))
    | @kind _ n ns x hd h1 h7 =>
      rcases hd with rfl | rfl | rfl
      · exact psd_tryW (n := nB CB) (w := "kind") (d := .str "lot") (st1 := lkS 0 (chartD C n ns) (.str x) lk0) (ow1 := ow') 4 3 rfl rfl scLook.nd rfl rfl (by show 4 < 5; decide) (by decide) (fun W pn xe tk _ => (psx_last (pxs_ifT (ptd_eq (pd_var 0) pd_int) (by rw [iv_eq]; rfl) (psx_last (pxs_set 3 scLook.nd (pxe_tup2 (pxe_call CPB hr (Nat.le_refl _) tk (padd_cons (pd_var 1) (padd_cons (pd_var 2) padd_nil)) ⟨n, ns, x, rfl, h1, h7, rfl, rfl⟩))))))) (.hit ⟨rfl, by decide, .inl gB⟩ TB.te (fun a oe d pn hz hf => pss_one (ps_set (i := 3) scLook.nd rfl (Or.inl rfl) (pe_tup (pa_cons pe_str (pa_cons (pe_fldB TB hz hf (pv 4)) pa_nil))))))
      · exact psd_tryW (n := nB CB) (w := "kind") (d := .str "lot") (st1 := lkS 1 (chartD C n ns) (.str x) lk0) (ow1 := ow') 4 3 rfl rfl scLook.nd rfl rfl (by show 4 < 5; decide) (by decide) (fun W pn xe tk _ => (psx_skip (ptd_eq (pd_var 0) pd_int) (by rw [iv_eq]; rfl) (psx_last (pxs_ifT (ptd_eq (pd_var 0) pd_int) (by rw [iv_eq]; rfl) (psx_last (pxs_set 3 scLook.nd (pxe_tup2 (pxe_call CTB hr (Nat.le_refl _) tk (padd_cons (pd_var 1) (padd_cons (pd_var 2) padd_nil)) ⟨n, ns, x, rfl, h1, h7, rfl, rfl⟩)))))))) (.hit ⟨rfl, by decide, .inl gB⟩ TB.te (fun a oe d pn hz hf => pss_one (ps_set (i := 3) scLook.nd rfl (Or.inl rfl) (pe_tup (pa_cons pe_str (pa_cons (pe_fldB TB hz hf (pv 4)) pa_nil))))))
      · exact psd_tryW (n := nB CB) (w := "kind") (d := .str "lot") (st1 := lkS 2 (chartD C n ns) (.str x) lk0) (ow1 := ow') 4 3 rfl rfl scLook.nd rfl rfl (by show 4 < 5; decide) (by decide) (fun W pn xe tk _ => (psx_skip (ptd_eq (pd_var 0) pd_int) (by rw [iv_eq]; rfl) (psx_skip (ptd_eq (pd_var 0) pd_int) (by rw [iv_eq]; rfl) (psx_last (pxs_ifT (ptd_eq (pd_var 0) pd_int) (by rw [iv_eq]; rfl) (psx_last (pxs_set 3 scLook.nd (pxe_tup2 (pxe_call COB hr (Nat.le_refl _) tk (padd_cons (pd_var 1) (padd_cons (pd_var 2) padd_nil)) ⟨n, ns, x, rfl, h1, h7, rfl, rfl⟩))))))))) (.hit ⟨rfl, by decide, .inl gB⟩ TB.te (fun a oe d pn hz hf => pss_one (ps_set (i := 3) scLook.nd rfl (Or.inl rfl) (pe_tup (pa_cons pe_str (pa_cons (pe_fldB TB hz hf (pv 4)) pa_nil))))))
    | @line _ n v ns qs t j hd h1 h7 hb hv =>
      rcases hd with rfl | rfl | rfl
      · exact psd_tryW (n := nL CL) (w := "line") (d := .int v) (st1 := lkS 0 (chartD C n ns) (sqD t (qs.map D.int)) lk0) (ow1 := ow') 4 3 rfl rfl scLook.nd rfl rfl (by show 4 < 5; decide) (by decide) (fun W pn xe tk _ => (psx_last (pxs_ifT (ptd_eq (pd_var 0) pd_int) (by rw [iv_eq]; rfl) (psx_last (pxs_set 3 scLook.nd (pxe_tup2 (pxe_call CPL hr (Nat.le_refl _) tk (padd_cons (pd_var 1) (padd_cons (pd_var 2) padd_nil)) ⟨n, ns, t, qs, j, rfl, hb, h1, h7, by rw [hv], rfl⟩))))))) (.miss ⟨rfl, by decide, .inl gB⟩ hLB (.hit ⟨rfl, by decide, .inl gL⟩ TL.te (fun a oe d pn hz hf => pss_one (ps_set (i := 3) scLook.nd rfl (Or.inl rfl) (pe_tup (pa_cons pe_str (pa_cons (pe_fldL TL hz hf (pv 4)) pa_nil)))))))
      · exact psd_tryW (n := nL CL) (w := "line") (d := .int v) (st1 := lkS 1 (chartD C n ns) (sqD t (qs.map D.int)) lk0) (ow1 := ow') 4 3 rfl rfl scLook.nd rfl rfl (by show 4 < 5; decide) (by decide) (fun W pn xe tk _ => (psx_skip (ptd_eq (pd_var 0) pd_int) (by rw [iv_eq]; rfl) (psx_last (pxs_ifT (ptd_eq (pd_var 0) pd_int) (by rw [iv_eq]; rfl) (psx_last (pxs_set 3 scLook.nd (pxe_tup2 (pxe_call CTL hr (Nat.le_refl _) tk (padd_cons (pd_var 1) (padd_cons (pd_var 2) padd_nil)) ⟨n, ns, t, qs, j, rfl, hb, h1, h7, by rw [hv], rfl⟩)))))))) (.miss ⟨rfl, by decide, .inl gB⟩ hLB (.hit ⟨rfl, by decide, .inl gL⟩ TL.te (fun a oe d pn hz hf => pss_one (ps_set (i := 3) scLook.nd rfl (Or.inl rfl) (pe_tup (pa_cons pe_str (pa_cons (pe_fldL TL hz hf (pv 4)) pa_nil)))))))
      · exact psd_tryW (n := nL CL) (w := "line") (d := .int v) (st1 := lkS 2 (chartD C n ns) (sqD t (qs.map D.int)) lk0) (ow1 := ow') 4 3 rfl rfl scLook.nd rfl rfl (by show 4 < 5; decide) (by decide) (fun W pn xe tk _ => (psx_skip (ptd_eq (pd_var 0) pd_int) (by rw [iv_eq]; rfl) (psx_skip (ptd_eq (pd_var 0) pd_int) (by rw [iv_eq]; rfl) (psx_last (pxs_ifT (ptd_eq (pd_var 0) pd_int) (by rw [iv_eq]; rfl) (psx_last (pxs_set 3 scLook.nd (pxe_tup2 (pxe_call COL hr (Nat.le_refl _) tk (padd_cons (pd_var 1) (padd_cons (pd_var 2) padd_nil)) ⟨n, ns, t, qs, j, rfl, hb, h1, h7, by rw [hv], rfl⟩))))))))) (.miss ⟨rfl, by decide, .inl gB⟩ hLB (.hit ⟨rfl, by decide, .inl gL⟩ TL.te (fun a oe d pn hz hf => pss_one (ps_set (i := 3) scLook.nd rfl (Or.inl rfl) (pe_tup (pa_cons pe_str (pa_cons (pe_fldL TL hz hf (pv 4)) pa_nil)))))))
    | @four n F t pl q h1 h7 hl hb =>
      exact psd_tryW (n := nU CU) (w := "four") (d := tupI q) (st1 := lkS 0 (chartD C n (cns n F)) (sqD t (pl.map D.int)) lk0) (ow1 := ow') 4 3 rfl rfl scLook.nd rfl rfl (by show 4 < 5; decide) (by decide) (fun W pn xe tk _ => (psx_last (pxs_ifT (ptd_eq (pd_var 0) pd_int) (by rw [iv_eq]; rfl) (psx_last (pxs_set 3 scLook.nd (pxe_tup2 (pxe_call CPU hr (Nat.le_refl _) tk (padd_cons (pd_var 1) (padd_cons (pd_var 2) padd_nil)) ⟨n, F, t, pl, q, rfl, hl, h1, h7, hb, rfl, rfl⟩))))))) (.miss ⟨rfl, by decide, .inl gB⟩ hUB (.miss ⟨rfl, by decide, .inl gL⟩ hUL (.hit ⟨rfl, by decide, .inl gU⟩ TU.te (fun a oe d pn hz hf => pss_one (ps_set (i := 3) scLook.nd rfl (Or.inl rfl) (pe_tup (pa_cons pe_str (pa_cons (pe_fldU TU hz hf (pv 4)) pa_nil))))))))
    | @ans1 n F t pl q h1 h7 hl hw =>
      exact psd_tryN (cls := .ref CB) (ts := tsWord (nB CB) "kind" 4 3) (st1 := lkS 1 (chartD C n (cns n F)) (sqD t (pl.map D.int)) (.tup [.str "answer", tupI q])) (ow1 := ow') 4 rfl rfl scLook.nd rfl rfl (fun W pn xe tk _ => (pbd_skip (bl := false) (ptd_eqB (ptd_eq (pd_var 0) pd_int) (by rw [iv_eq]; rfl)) rfl (pbd_cons (psd_if (bl := true) (out := .nx (lkS 1 (chartD C n (cns n F)) (sqD t (pl.map D.int)) (.tup [.str "answer", tupI q])) ow') (ptd_eqB (ptd_eq (pd_var 0) pd_int) (by rw [iv_eq]; rfl)) (fun _ => pbd_cons (psd_set 3 scLook.nd (pd_tup (padd_cons pd_str (padd_cons (pd_eqD (d' := tupI q) (pd_cg CT hr (Nat.le_refl _) (padd_cons (pd_var 1) (padd_cons (pd_var 2) padd_nil)) ⟨n, F, t, pl, rfl, hl, h1, h7, rfl, rfl⟩) (by rw [hw]; rfl)) padd_nil)))) pbd_nil) (fun z => nomatch z)) (pbd_skip (bl := false) (ptd_eqB (ptd_eq (pd_var 0) pd_int) (by rw [iv_eq]; rfl)) rfl pbd_nil)))) (.hit ⟨rfl, by decide, .inl gB⟩ TB.te (fun a oe d pn hz hf => pss_one (ps_set (i := 3) scLook.nd rfl (Or.inl rfl) (pe_tup (pa_cons pe_str (pa_cons (pe_fldB TB hz hf (pv 4)) pa_nil))))))
    | @ans2 n F t pl h1 h7 hl =>
      exact psd_tryN (cls := .ref CB) (ts := tsWord (nB CB) "kind" 4 3) (st1 := lkS 2 (chartD C n (cns n F)) (sqD t (pl.map D.int)) (.tup [.str "answer", tupI [wr0 n F pl, wr1 n F pl, wr2 n F pl]])) (ow1 := ow') 4 rfl rfl scLook.nd rfl rfl (fun W pn xe tk _ => (pbd_skip (bl := false) (ptd_eqB (ptd_eq (pd_var 0) pd_int) (by rw [iv_eq]; rfl)) rfl (pbd_skip (bl := false) (ptd_eqB (ptd_eq (pd_var 0) pd_int) (by rw [iv_eq]; rfl)) rfl (pbd_cons (psd_if (bl := true) (out := .nx (lkS 2 (chartD C n (cns n F)) (sqD t (pl.map D.int)) (.tup [.str "answer", tupI [wr0 n F pl, wr1 n F pl, wr2 n F pl]])) ow') (ptd_eqB (ptd_eq (pd_var 0) pd_int) (by rw [iv_eq]; rfl)) (fun _ => pbd_cons (psd_set 3 scLook.nd (pd_tup (padd_cons pd_str (padd_cons (pd_eqD (d' := tupI [wr0 n F pl, wr1 n F pl, wr2 n F pl]) (pd_cg CO hr (Nat.le_refl _) (padd_cons (pd_var 1) (padd_cons (pd_var 2) padd_nil)) ⟨n, F, t, pl, rfl, hl, h1, h7, rfl, rfl⟩) rfl) padd_nil)))) pbd_nil) (fun z => nomatch z)) pbd_nil)))) (.hit ⟨rfl, by decide, .inl gB⟩ TB.te (fun a oe d pn hz hf => pss_one (ps_set (i := 3) scLook.nd rfl (Or.inl rfl) (pe_tup (pa_cons pe_str (pa_cons (pe_fldB TB hz hf (pv 4)) pa_nil))))))
end
end Bl
set_option Elab.async false
set_option linter.all false
set_option maxRecDepth 100000
set_option maxHeartbeats 8000000
namespace Bl
open PySem PySem.Spec PyProof.Rows L2
open scoped List
/-! ### a dict that is data: its keys walked and listed -/
theorem putK_take {kvs : List (List Key × V)} (nd : (kvs.map (·.1)).Nodup) {i : Nat} {kk : List Key} {v : V} (h : kvs[i]? = some (kk, v)) : putK (kvs.take i) kk v = kvs.take (i + 1) := by
  have hi := (List.getElem?_eq_some_iff.mp h).1
  have ha : ((kvs.take i).any fun kv => decide (kv.1 = kk)) = false := by
    rw [List.any_eq_false]
    intro kv hm hd
    have hd := of_decide_eq_true hd
    obtain ⟨j, hj, e⟩ := List.getElem_of_mem hm
    rw [List.length_take] at hj
    have e2 : kvs[j]? = some kv := by
      rw [← e, List.getElem_take]
      exact List.getElem?_eq_getElem (by omega)
    have h1 : (kvs.map (·.1))[j]? = some kk := by rw [List.getElem?_map, e2]; exact congrArg some hd
    have h2 : (kvs.map (·.1))[i]? = some kk := by rw [List.getElem?_map, h]; rfl
    have hj2 : j < (kvs.map (·.1)).length := by rw [List.length_map]; omega
    have := (List.getElem?_inj hj2 nd).mp (h1.trans h2.symm)
    omega
  unfold putK
  rw [ha, if_neg (by decide)]
  rw [List.take_succ, h]
  rfl
theorem valV_at : ∀ {kvs : List (List Key × V)} {i : Nat} {kk : List Key} {v : V}, (kvs.map (·.1)).Nodup → kvs[i]? = some (kk, v) → valV kvs kk = some v
  | [], i, _, _, _, h => by cases h
  | (k1, v1) :: kvs, 0, kk, v, _, h => by
    cases h
    exact valV_pos rfl
  | (k1, v1) :: kvs, i + 1, kk, v, nd, h => by
    rw [List.map_cons, List.nodup_cons] at nd
    have h' : kvs[i]? = some (kk, v) := h
    have hm : kk ∈ kvs.map (·.1) := List.mem_map.mpr ⟨_, List.mem_of_getElem? h', rfl⟩
    rw [valV_neg (fun e => nd.1 (by
      have e : k1 = kk := e
      rw [e]; exact hm))]
    exact valV_at nd.2 h'
theorem kds_keys {K : PySem.W.Frag} {S : List Addr} {H : Hp} : ∀ {kvs : List (List Key × V)} {gs : List (List Key × D)}, KDs K S H kvs gs → kvs.map (·.1) = gs.map (·.1)
  | [], [], _ => rfl
  | [], _ :: _, h => nomatch h
  | _ :: _, [], h => nomatch h
  | (k1, v1) :: kvs, (k2, d2) :: gs, h => by
    cases h with
    | kcons h r => rw [List.map_cons, List.map_cons, kds_keys r]
theorem tabI_nd {l : List (List Int × Int)} (h : (l.map (·.1)).Nodup) : ((tabI l).map (·.1)).Nodup := by
  unfold tabI
  rw [List.map_map]
  have e : ((fun x : List Key × D => x.1) ∘ fun p : List Int × Int => (keyI p.1, D.int p.2)) = keyI ∘ fun p : List Int × Int => p.1 := rfl
  rw [e, ← List.map_map]
  exact List.Pairwise.map keyI (fun a b hab z => hab (keyI_inj z)) h
section
variable {X : Cx} {e : Expr} {st : Sta} {ow ow1 : List OB} {p pos : Pos} {k : Nat}
/-- list(d), d data -/
theorem pd_listTD {l : List (List Int × Int)} (hc : X.calm = true) (hm : X.mg "list" = none) (ha : PD X st ow e (.d (.dT (tabI l))) ow1) (hg : Gl X "list" := by rfl) (he : starEach [e] X.env = (false, eval e X.env) :: starEach [] X.env := by rfl) : PD X st ow (.Call (.Name "list" p) [e] [] pos) (.d (.lst (l.map fun p => tupI p.1))) ow1 :=
  (pe_callTy (call_list_dT hc) hg hm (by decide +kernel) (pa_cons ha pa_nil he) (by decide) (by decide) he rfl).imp fun σ H Q ⟨S, sl, o, q⟩ => ⟨S, sl, o, fun S1 vs H1 f1 o1 d1 => by
    cases d1 with
    | d d1 =>
      cases d1 with
      | dT n h r =>
        refine ⟨_, _, rfl, .inl h, fun p bs hp hb => ?_⟩
        have ex := Evl.Ex.new (o := HO.lst (bs.map V.ref)) hp
        refine q S1 _ _ (f1.trans o1 (.of ex)) (o1.ex ex) (.d (.lst (.inl ⟨o1.nin hp, .inl upd_same⟩) (dens_isKeys o1 ex r hb)))⟩
/-- for x in d: o[x] = d[x], d data, o a new dict -/
theorem psd_copyD {x1 x2 x3 : Str} {p1 p2 p3 p4 p5 p6 p7 p8 p9 : Pos} {l : List (List Int × Int)} (it io ik : Nat) (hu : X.A.units + 1 < cLine) (hp : PassesOwn (model X.prog X.w) X.A X.env X.xe) (hc : X.calm = true) (hN : X.N.Nodup)
    (ht : st[it]? = some (some (.d (.dT (tabI l))))) (ho : st[io]? = some (some (.own k))) (hk : ow[k]? = some (.t [])) (hik : st[ik]? = some none) (nd : (l.map (·.1)).Nodup) (hz : l.length ≤ 100000)
    (i1 : X.N[ik]? = some x1 := by rfl) (i2 : X.N[it]? = some x2 := by rfl) (i3 : X.N[io]? = some x3 := by rfl)
    (v1 : Vis X.env.scope x1 := by first | exact Or.inl rfl | exact Or.inr rfl) (v2 : Vis X.env.scope x2 := by first | exact Or.inl rfl | exact Or.inr rfl) (v3 : Vis X.env.scope x3 := by first | exact Or.inl rfl | exact Or.inr rfl)
    (l1 : Loc X.env.scope x1 := by first | exact Or.inl rfl | exact Or.inr rfl) (hf : X.fn x1 = true ∨ X.env.scope.names.lookup x1 = some .local := by first | exact .inl rfl | exact .inr rfl)
    (d1 : (x1 == ("__debug__" : Str)) = false := by decide) (d2 : (x2 == ("__debug__" : Str)) = false := by decide) (d3 : (x3 == ("__debug__" : Str)) = false := by decide) (c1 : (x1 == ("__classdict__" : Str)) = false := by decide) (c2 : (x2 == ("__classdict__" : Str)) = false := by decide) (c3 : (x3 == ("__classdict__" : Str)) = false := by decide)
    (hs : swapsWith (.Subscript (.Name x2 p6) (.Name x1 p7) p8) (some (.Subscript (.Name x3 p3) (.Name x1 p4) p5)) p9.line X.env = pure false := by rfl) (hns : NoSl (.Name x1 p7) := by exact fun _ _ => rfl)
    (hs2 : ∀ x, foldedSetIterable (.Name x2 p2) X.env x = pure x := by intro _; rfl) :
    PSD X st ow (.For (.Name x1 p1) (.Name x2 p2) [.Assign [.Subscript (.Name x3 p3) (.Name x1 p4) p5] (.Subscript (.Name x2 p6) (.Name x1 p7) p8) p9] [] pos) (.nx st (ow.set k (.t (tabI l)))) :=
  (ps_lock (ps_for hp hc (pi_keys (pe_var i2 v2 d2 c2)) (pg_name (i := ik) hN i1 l1 hf) (pss_one (ps_dput hu (pe_var i3 v3 d3 c3) (pe_var i1 v1 d1 c1) (pe_dget hu (pe_var i2 v2 d2 c2) (pe_var i1 v1 d1 c1) hns) hs)) hs2)).imp fun E σ H ⟨S, sl, o, q⟩ => by
    obtain ⟨v, hσt, dv⟩ := sl.sl it _ ht
    obtain ⟨w, hσo, dw⟩ := sl.sl io _ ho
    cases dv with
    | d dv =>
      cases dv with
      | @dT d kvs _ nS hd r =>
        obtain ⟨b, kv0, rfl, hSb, hb, r0⟩ := own_t o dw hk
        have hdb : d ≠ b := fun z => nS (by rw [z]; exact List.mem_of_getElem? hSb)
        have e0 : kv0 = [] := by
          cases kv0 with
          | nil => rfl
          | cons _ _ => exact nomatch r0
        subst e0
        have ndk : (kvs.map (·.1)).Nodup := by rw [kds_keys r]; exact tabI_nd nd
        have hlen : kvs.length ≤ 100000 := by rw [kds_length r, tabI_len]; exact hz
        have hikl : ik < σ.length := by rw [sl.len]; exact (List.getElem?_eq_some_iff.mp hik).1
        have hti : ik ≠ it := fun z => by rw [z, ht] at hik; cases hik
        have hoi : ik ≠ io := fun z => by rw [z, ho] at hik; cases hik
        refine ⟨d, .dT kvs, hd, trivial, fun od => ?_⟩
        refine ⟨_, hσt, d, od, rfl, .inr ⟨kvs, upd_same, ?_⟩⟩
        refine for_it (walk_keysT (d := d) (o := od) (kvs := kvs)) (fun i σ' H' => (σ' = σ ∨ ∃ x, σ' = σ.set ik (some x)) ∧ H' b = some (.dT (kvs.take i)) ∧ ∀ c, c ≠ b → H' c = upd H d (.frz od (.dT kvs)) c) ⟨.inl rfl, ?_, fun c _ => rfl⟩ (fun i σ' H' hi ⟨_, _, z⟩ => ?_) (fun i x σ' H' H2 hi ⟨hσ', hb', hc'⟩ y => ?_) (fun σ' H' ⟨hσ', hb', hc'⟩ => ?_)
        · rw [upd_ne (Ne.symm hdb)]
          exact hb
        · rw [z d hdb]
          exact upd_same
        · obtain ⟨rfl, kk, v, qq, hkv, rfl, hq⟩ := y
          have hqb : qq ≠ b := fun z => by rw [z, hb'] at hq; cases hq
          have hset : ∀ j, ik ≠ j → (σ'.set ik (some (V.ref qq)))[j]? = σ[j]? := fun j hj => by
            rw [List.getElem?_set_ne hj]
            rcases hσ' with rfl | ⟨x, rfl⟩
            · rfl
            · rw [List.getElem?_set_ne hj]
          have hlen' : σ'.length = σ.length := by
            rcases hσ' with rfl | ⟨x, rfl⟩
            · rfl
            · rw [List.length_set]
          have hself : (σ'.set ik (some (V.ref qq)))[ik]? = some (some (V.ref qq)) := List.getElem?_set_self (by omega)
          have hsf : ∃ x, σ'.set ik (some (V.ref qq)) = σ.set ik (some x) := by
            rcases hσ' with rfl | ⟨x, rfl⟩
            · exact ⟨_, rfl⟩
            · exact ⟨V.ref qq, by rw [List.set_set]⟩
          have hd2 : H2 d = some (.frz od (.dT kvs)) := by rw [hc' d hdb]; exact upd_same
          refine ⟨_, (hset it hti).trans hσt, _, hself, d, v, rfl, .inr ⟨kvs, kk, qq, .inr ⟨od, hd2⟩, rfl, hq, (valV_at ndk hkv).symm⟩, _, (hset io hoi).trans hσo, _, hself, b, _, rfl, DPut.t hb' hq (by rw [List.length_take]; exact Evl.sz_lt (by omega)), .inr hsf, ?_, fun c hcb => ?_⟩
          · rw [upd_same, putK_take ndk hkv]
          · rw [upd_ne hcb]
            exact hc' c hcb
        · refine ⟨by rw [hc' d hdb]; exact upd_same, ?_⟩
          have eH : upd H' d (.dT kvs) = upd H b (.dT kvs) := by
            funext c
            by_cases h1 : c = d
            · rw [h1, upd_same, upd_ne hdb, hd]
            · rw [upd_ne h1]
              by_cases h2 : c = b
              · rw [h2, upd_same, hb', List.take_length]
              · rw [upd_ne h2, hc' c h2, upd_ne h1]
          rw [eH]
          obtain ⟨u1, u2⟩ := own_putB (b' := .t (tabI l)) (u := .dT kvs) o hSb fun ex => .t upd_same (DenG.mono ex r)
          refine q S σ' _ ⟨⟨[], (List.append_nil _).symm, fun _ z => nomatch z⟩, u1⟩ ?_ u2
          have sl2 := sl.mono u1
          rcases hσ' with rfl | ⟨x, rfl⟩
          · exact sl2
          · refine ⟨by rw [List.length_set]; exact sl2.len, fun j r' hj => ?_⟩
            have hne : ik ≠ j := fun z => by rw [← z, hik] at hj; cases hj
            rw [List.getElem?_set_ne hne]
            exact sl2.sl j r' hj
end
end Bl
set_option Elab.async false
set_option linter.all false
set_option maxRecDepth 100000
set_option maxHeartbeats 8000000
namespace Bl
open PySem PySem.Spec PyProof.Rows L2
open PySem.W in
theorem cr_sortedN {X : Cx} : CallR X (.builtin "sorted") (fun xs H Q => ∃ (a : Addr) (ys : List V) (bs : List (List Int)) (Ry : V → List Int → Prop), xs = [.ref a] ∧ SqL X.K H a ys ∧ Paired Ry ys bs ∧ (∀ y b, Ry y b → Dp X.K H y (encT b)) ∧ (∀ b ∈ bs, b ≠ []) ∧ bs.length ≤ 1000 ∧ X.A.units + 64 < cLine ∧ ∀ (zs : List V) (p : Addr), Paired Ry zs (bs.mergeSort leT) → H p = none → Q (.ref p) (upd H p (.lst zs))) := by
  intro pins s σ H xs us Q I r q
  obtain ⟨a, ys, bs, Ry, ex, hd, hp, hRy, hne, hl, hu, q⟩ := q
  subst ex
  obtain ⟨u, eu, rx⟩ := vals1 r
  subst eu
  cases rx
  obtain ⟨its, rv, pl, hz⟩ := I.list hd
  have e1 : ∀ {ys : List V} {bs : List (List Int)} {its : List Value}, Paired Ry ys bs → Vals ys its → EachIs (fun v b => ∃ y, RelV y v ∧ Ry y b) its bs := by
    intro ys bs its h
    induction h generalizing its with
    | nil => intro r; cases r; exact .nil
    | cons h t ih =>
      intro r
      cases r with
      | cons r1 r2 => exact .cons ⟨_, r1, h⟩ (ih r2)
  have e2 : ∀ {out : List Value} {ms : List (List Int)}, EachIs (fun v b => ∃ y, RelV y v ∧ Ry y b) out ms → ∃ zs : List V, Vals zs out ∧ Paired Ry zs ms := by
    intro out ms h
    induction h with
    | nil => exact ⟨[], .nil, .nil⟩
    | cons h t ih =>
      obtain ⟨y, h1, h2⟩ := h
      obtain ⟨zs, g1, g2⟩ := ih
      exact ⟨y :: zs, .cons h1 g1, .cons h2 g2⟩
  have e := e1 hp rv
  have er : EachIs (fun v b => ∃ as, Reads s.heap v (encT b) as) its bs := e.mono fun v b h => by
    obtain ⟨y, h1, h2⟩ := h
    exact Dp.reads I (encT b) y v (hRy y b h2) h1
  have hle : dataLe false encT = leT := by
    funext p q
    show (!dataLt (.tuple (q.map .int)) (.tuple (p.map .int))) = _
    rw [dataLt_tuple]
    rw [show PyProof.Rows.lexLt itemOrd (keyToksAll (q.map .int)) (keyToksAll (p.map .int)) = rowLt (q.map .int) (p.map .int) from rfl, dataLt_ints]
    unfold leT
    by_cases h : q < p
    · have h' : ¬ p ≤ q := fun r => List.not_lt.mpr r h
      simp [h, h']
    · have h' : p ≤ q := List.not_lt.mp h
      simp [h, h']
  refine sorted_data (R := fun v b => ∃ y, RelV y v ∧ Ry y b) (enc := encT) pl.isList e er (AllAlike.of fun x y => by unfold encT; simp only [alike]; exact alike_ints x y) (.inl fun d hd => ?_) (by rw [sizeLine_eq]; omega) (fun b _ => ?_) fun out hlen eo => ?_
  · obtain ⟨b, hb, rfl⟩ := List.mem_map.mp hd
    cases b with
    | nil => exact (hne _ hb rfl).elim
    | cons n b => exact ⟨.int n, b.map .int, rfl⟩
  · have := depth_tt b
    omega
  · rw [hle] at eo
    obtain ⟨zs, evs, pas⟩ := e2 eo
    have kp : ∀ b o, s.heap.get? b = some o → (sortedAll s.heap its (List.toArray out)).get? b = some o := fun b o h => sortedAll_old h
    obtain ⟨c, hc⟩ := sortedAll_at s.heap its (List.toArray out)
    have fr : H (s.heap.objs.size + 1) = none := I.hok.fresh (Nat.le_succ _)
    have hlen2 : zs.length = bs.length := by rw [evs.length, hlen]
    exact ⟨.ref (s.heap.objs.size + 1), _, I.laid (t' := s.toks) kp (Nat.le_succ _) (show ObjOk X.prog X.w _ _ _ (.lst zs) from ⟨by rw [hlen2, sizeLine_eq]; omega, out, c, evs, hc⟩), rfl, q zs _ pas fr⟩
section
variable {X : Cx} {e : Expr} {st : Sta} {ow ow1 : List OB} {p pos : Pos} {k : Nat}
/-- sorted(xs), xs a new list of tuples of ints, none of them empty -/
theorem pd_sortedN {bs : List (List Int)} (hu : X.A.units + 64 < cLine) (hm : X.mg "sorted" = none) (ha : PADd X st ow [e] [.lst (tup2 bs)] ow1) (hne : ∀ b ∈ bs, b ≠ []) (hl : bs.length ≤ 1000) (hg : Gl X "sorted" := by rfl) (he : starEach [e] X.env = [(false, eval e X.env)] := by rfl) : PD X st ow (.Call (.Name "sorted" p) [e] [] pos) (.d (.lst (tup2 (bs.mergeSort leT)))) ow1 :=
  (pe_callB cr_sortedN hg hm (by decide +kernel) ha (by decide) (by decide) he rfl).imp fun σ H Q ⟨S, sl, o, q⟩ => ⟨S, sl, o, fun S1 vs H1 f1 o1 d1 => by
    obtain ⟨v, rfl, g⟩ := dens1 (densOf d1)
    obtain ⟨a, xs, rfl, h1, h2⟩ := g.of_lst
    exact ⟨a, xs, bs, fun y b => Den X.K S1 H1 y (tupI b), rfl, h1.sq, dens_pairD h2, fun y b h => den_py h _ (pyD_t b), hne, hl, hu, fun zs p pz hn => q S1 _ _ (f1.trans o1 (.of (Evl.Ex.new hn))) (o1.ex (Evl.Ex.new hn)) (.d (new_lst o1 hn (pair_densD pz)))⟩⟩
end
theorem sub3_sorted {n : Int} (h0 : 0 ≤ n) (h : n ≤ 7) : (sub3 (rngZ n)).mergeSort leT = sub3 (rngZ n) ∧ ∀ b ∈ sub3 (rngZ n), b ≠ [] := by
  have h1 : (sub3 (rngZ n)).Pairwise (fun a b => leT a b = true) ∧ ∀ b ∈ sub3 (rngZ n), b ≠ [] := by
    have : n = 0 ∨ n = 1 ∨ n = 2 ∨ n = 3 ∨ n = 4 ∨ n = 5 ∨ n = 6 ∨ n = 7 := by omega
    rcases this with rfl | rfl | rfl | rfl | rfl | rfl | rfl | rfl <;> decide +kernel
  exact ⟨List.mergeSort_of_pairwise h1.1, h1.2⟩
section
variable {P : Program} {w : World} {K : PySem.W.Frag} {mg : Str → Option Value} {base : Heap} {f fG : Addr} {fd fdG : FuncData} {k : Nat} {C : Addr}
/-! ### _law_spoiled -/
abbrev sSpoiled : Stmt := topS 67
abbrev nSpoiled : List Str := ["_law_pool_here", "_law_size_here", "_law_table_here", "_law_other", "_law_key", "_law_keys"]
theorem scSpoiled : FnScope nSpoiled ["_law_pool_here", "_law_size_here", "_law_table_here"] (defScope sSpoiled) := ⟨rfl, rfl, rfl, by decide +kernel, rfl, by decide +kernel, by decide +kernel⟩
abbrev spoZ (n : Int) (ps : List Int) (F : List Int → Int) : Spo := spStep n (ps, F) 0
def gSpoiled : GG := fun rs ow r ow' => ∃ (kp : Nat) (n : Int) (ps : List Int) (F : List Int → Int), rs = [.own kp, .d (.int n), .d (.dT (tabI (tabF n F)))] ∧ ow[kp]? = some (.l (ps.map D.int)) ∧ 0 ≤ n ∧ n ≤ 7 ∧ r = .own ow.length ∧ ow' = ow.set kp (.l ((spoZ n ps F).1.map D.int)) ++ [.t (tabI (tabF n (spoZ n ps F).2))]
abbrev spdSt (kp kt : Nat) (n : Int) (F : List Int → Int) (q ks : Option R) : Sta := [some (.own kp), some (.d (.int n)), some (.d (.dT (tabI (tabF n F)))), some (.own kt), q, ks]
theorem ok_spoiled (F0 : Fun K "_law_spoiled" "_law_spoiled" sSpoiled f fd) (C1 : Fg P w K mg base "_law_next" k ["_law_pool_here", "_law_many"] gNext) (mL : mg "list" = none) (mN : mg "len" = none) (mI : mg "int" = none) (mS : mg "sorted" = none) : FnOk P w K mg base CX0 (k + 1) f fd ["_law_pool_here", "_law_size_here", "_law_table_here"] (spF K gSpoiled) := by
  refine okF F0 scSpoiled (fun rs ow r ow' h => ?_) (fun cdv A outer s H E hr rs ow r ow' h => ?_)
  · obtain ⟨kp, n, ps, F, rfl, _⟩ := h
    rfl
  · obtain ⟨kp, n, ps, F, rfl, hp, h0, h7, rfl, rfl⟩ := h
    have hu := room_u hr
    have hu64 := room_u64 hr
    have h35 := sub3_len7 h0 h7
    have hlt0 : kp < ow.length := (List.getElem?_eq_some_iff.mp hp).1
    have hne : kp ≠ ow.length := by omega
    have etab : (tabF n F).map (·.1) = sub3 (rngZ n) := by
      unfold tabF
      rw [List.map_map]
      exact List.map_id _
    refine pbd_cons (psd_set 3 scSpoiled.nd pd_newT) ?_
    refine pbd_cons (st1 := spdSt kp ow.length n F none none) (ow1 := ow ++ [.t (tabI (tabF n F))]) (psd_ow (psd_copyD (l := tabF n F) (k := ow.length) 2 3 4 hu PassesOwn.never rfl scSpoiled.nd rfl rfl (app_get' rfl) rfl (by rw [etab]; exact sub3_nodup h0 h7) (by rw [tabF_len]; omega)) (by rw [set_last])) ?_
    refine pbd_cons (psd_set 5 scSpoiled.nd (pd_eqD (d' := .lst (tup2 (sub3 (rngZ n)))) (pd_sortedN hu64 mS (padd_cons (pd_eqD (d' := .lst (tup2 (sub3 (rngZ n)))) (pd_listTD rfl mL (pd_var 2)) (by unfold tabF; rw [List.map_map]; rfl)) padd_nil) (sub3_sorted h0 h7).2 (by omega)) (by rw [(sub3_sorted h0 h7).1]))) ?_
    show PBD _ (spdSt kp ow.length n F none (some (.d (.lst (tup2 (sub3 (rngZ n))))))) (ow ++ [.t (tabI (tabF n F))]) _ _
    have etl : ((tup2 (sub3 (rngZ n))).length : Int) = ((sub3 (rngZ n)).length : Int) := by
      show (((sub3 (rngZ n)).map tupI).length : Int) = _
      rw [List.length_map]
    by_cases hz : (sub3 (rngZ n)).length = 0
    · have e : spoZ n ps F = (ps, F) := by
        show spStep n (ps, F) 0 = _
        unfold spStep
        rw [if_pos hz]
      rw [e]
      dsimp only
      rw [set_same hp]
      exact pbd_skip (bl := false) (ptd_eqB (ptd_gt (pd_lenL mN (padd_cons (pd_var 5) padd_nil)) pd_int) (by rw [etl]; exact decide_eq_false (by omega))) rfl (pbd_last (psd_ret (pd_var 3)))
    · have e : spoZ n ps F = (ps.dropLast.dropLast, fun p => if p = spQ n ps then (F (spQ n ps) + 2 + nextV ps.dropLast 2) % 3 - 1 else F p) := by
        show spStep n (ps, F) 0 = _
        unfold spStep
        rw [if_neg hz]
      rw [e]
      dsimp only
      have hx := nextV_rng ps (show (0 : Int) < ((sub3 (rngZ n)).length : Int) by omega)
      have hlt : (nextV ps ((sub3 (rngZ n)).length : Int)).toNat < (sub3 (rngZ n)).length := by omega
      have hq : spQ n ps ∈ sub3 (rngZ n) := by
        unfold spQ
        rw [List.getD_eq_getElem?_getD, List.getElem?_eq_getElem hlt]
        exact List.getElem_mem hlt
      have hat : atI (tup2 (sub3 (rngZ n))) (nextV ps ((sub3 (rngZ n)).length : Int)) = some (tupI (spQ n ps)) := by
        show atI ((sub3 (rngZ n)).map tupI) _ = _
        unfold atI ixN spQ
        rw [List.length_map, if_pos hx.1, if_pos hx.2]
        show ((sub3 (rngZ n)).map tupI)[(nextV ps _).toNat]? = _
        rw [List.getElem?_map, List.getD_eq_getElem?_getD, List.getElem?_eq_getElem hlt]
        rfl
      have hkp : ∀ {T : OB}, (ow ++ [T])[kp]? = some (.l (ps.map D.int)) := fun {T} => by
        rw [List.getElem?_append_left hlt0]
        exact hp
      have hks : ∀ {T B : OB}, (ow ++ [T]).set kp B = ow.set kp B ++ [T] := fun {T B} => List.set_append_left _ _ hlt0
      have hkg : ∀ {T B : OB}, (ow.set kp B ++ [T])[kp]? = some B := fun {T B} => by
        rw [List.getElem?_append_left (by rw [List.length_set]; exact hlt0), List.getElem?_set_self hlt0]
      have hkt : ∀ {T B : OB}, (ow.set kp B ++ [T])[ow.length]? = some T := fun {T B} => app_get' (by rw [List.length_set])
      refine pbd_cons (psd_if (bl := true) (out := .nx (spdSt kp ow.length n F (some (.d (tupI (spQ n ps)))) (some (.d (.lst (tup2 (sub3 (rngZ n))))))) (ow.set kp (.l (ps.dropLast.dropLast.map D.int)) ++ [.t (tabI (tabF n (fun p => if p = spQ n ps then (F (spQ n ps) + 2 + nextV ps.dropLast 2) % 3 - 1 else F p)))])) (ptd_eqB (ptd_gt (pd_lenL mN (padd_cons (pd_var 5) padd_nil)) pd_int) (by rw [etl]; exact decide_eq_true (by omega))) (fun _ => ?_) (fun z => nomatch z)) (pbd_last (psd_ret (pd_var 3)))
      refine pbd_cons (psd_set 4 scSpoiled.nd (pd_ixL (pd_var 5) (pd_cg C1 hr (Nat.le_refl _) (pad_cons (pd_var 0) (padd_cons (pd_eqD (pd_lenL mN (padd_cons (pd_var 5) padd_nil)) (congrArg D.int etl)) padd_nil)) ⟨kp, ((sub3 (rngZ n)).length : Int), ps, rfl, hkp, by omega, rfl, rfl⟩) hat)) ?_
      rw [hks]
      show PBD _ (spdSt kp ow.length n F (some (.d (tupI (spQ n ps)))) (some (.d (.lst (tup2 (sub3 (rngZ n))))))) _ _ _
      refine pbd_cons (psd_ow (psd_putT (ns := spQ n ps) (k := ow.length) (gs := tabI (tabF n F)) hu (pd_sub (pd_mod (pd_int1 mI (padd_cons (pd_add (pd_add (pd_getO hu (pd_var 3) (pd_var 4) hkt (lookI_some (lookI_F hq))) pd_int) (pd_cg C1 hr (Nat.le_refl _) (pad_cons (pd_var 0) (padd_cons pd_int padd_nil)) ⟨kp, 2, ps.dropLast, rfl, hkg, by decide, rfl, rfl⟩)) padd_nil)) pd_int (by decide)) pd_int) (pd_var 3) (pd_var 4) ?_ ?_) ?_) pbd_nil
      · rw [List.set_append_left _ _ (by rw [List.length_set]; exact hlt0), List.set_set]
        exact hkt
      · rw [tabI_len, tabF_len]; omega
      · rw [List.set_append_left _ _ (by rw [List.length_set]; exact hlt0), List.set_set, set_last' (by rw [List.length_set]), tabI_put, putI_F hq]
end
end Bl
set_option Elab.async false
set_option linter.all false
set_option maxRecDepth 100000
set_option maxHeartbeats 8000000
namespace Bl
open PySem PySem.Spec PyProof.Rows L2 PySem.Xq
section
variable {P : Program} {w : World} {K : PySem.W.Frag} {mg : Str → Option Value} {base : Heap} {f fG : Addr} {fd fdG : FuncData} {k : Nat} {C CB fB CL fL CU fU : Addr} {psG : List Str}
/-! ### _law_looks_refuse -/
abbrev sLooks : Stmt := topS 75
theorem scLooks : FnScope ["_law_lot_here", "_law_bent", "_law_door"] ["_law_lot_here"] (defScope sLooks) := ⟨rfl, rfl, rfl, by decide +kernel, rfl, by decide +kernel, by decide +kernel⟩
def bentF : List Int → Int := fun q => if q = [0, 1, 3] then -1 else 1
theorem bent_cns : cns 4 bentF = [1, -1, 1, 1] := by decide +kernel
theorem bent_bad : badF 4 (cns 4 bentF) = some [0, 1, 2, 3] := by decide +kernel
theorem bent_wr : wrongF 4 bentF [2, 0] = some [0, 1, 2] := by decide +kernel
def gLooks : GG := fun rs ow r ow' => ∃ (t : Bool) (qs : List Int) (j : Nat), rs = [.d (sqD t (qs.map D.int))] ∧ LotBad 4 qs j ∧ qs.getD j 0 = 4 ∧ NoIow ow ∧ r = .d (.bl true) ∧ ow' = ow
theorem ok_looks (F0 : Fun K "_law_looks_refuse" "_law_looks_refuse" sLooks f fd) (M : Mk K C fG) (GI : FnOk P w K mg base CX0 k fG fdG psG (spI K C gInit)) (mC : mg "Chart" = some (.ref C)) (bI : Binds K fdG psG []) (Cl : Fg P w K mg base "_law_look_told" (k + 1) ["_law_door", "_law_chart_here", "_law_lot_here"] (gLook C)) (mR : mg "range" = none) : FnOk P w K mg base CX0 (k + 2) f fd ["_law_lot_here"] (spF K gLooks) := by
  refine okF F0 scLooks (fun rs ow r ow' h => ?_) (fun cdv A outer s H E hr rs ow r ow' h => ?_)
  · obtain ⟨t, qs, j, rfl, _⟩ := h
    rfl
  · obtain ⟨t, qs, j, rfl, hb, h4, hni, rfl, rfl⟩ := h
    have hu := room_u64 hr
    refine pbd_cons (psd_set 1 scLooks.nd (pd_eqD (d' := chartD C 4 (cns 4 bentF)) (pd_make M GI (hr.mono (Nat.le_refl _)) mC bI (pad_cons pd_int (pad_cons (pd_lst (padd_cons pd_int (padd_cons (pd_neg pd_int) (padd_cons pd_int (padd_cons pd_int padd_nil))))) pad_nil)) ⟨4, .d (.lst ([1, -1, 1, 1].map D.int)), [1, -1, 1, 1], rfl, .inr ⟨false, rfl⟩, by decide, by decide, by decide +kernel, by decide, hni, rfl, rfl⟩) (by rw [bent_cns]))) ?_
    refine pbd_cons (psd_forF [2] (rngZ 3) D.int () (fun _ _ => ()) (fun _ => [some (.d (sqD t (qs.map D.int))), some (.d (chartD C 4 (cns 4 bentF))), none]) (fun _ i => [some (.d (sqD t (qs.map D.int))), some (.d (chartD C 4 (cns 4 bentF))), some (.d (.int i))]) (fun _ => ow') PassesOwn.never rfl (pid_eq (pid_range1 mR (padd_cons pd_int padd_nil) (by decide)) (rngD_Z 3)) ⟨rfl, fun i r h => h⟩ rfl (fun l i r hl => pgd_name 2 scLooks.nd) (fun l i r hl => ?_)) ?_
    · have hi := mem_rngZ (pre_mem hl).1
      have hd : i = 0 ∨ i = 1 ∨ i = 2 := by omega
      refine pbd_weak (st1 := [some (.d (sqD t (qs.map D.int))), some (.d (chartD C 4 (cns 4 bentF))), some (.d (.int i))]) (pbd_skip (bl := false) (ptd_eqB (ptd_bool (pwd_or (ptd_neP hu (pd_cg Cl hr (Nat.le_refl _) (padd_cons (pd_var 2) (padd_cons pd_non (padd_cons pd_str padd_nil))) ⟨_, _, _, _, rfl, .chart hd, rfl, rfl⟩) (pd_tup (padd_cons pd_str (padd_cons pd_str padd_nil)))) fun _ => pwd_or1 (ptd_neP hu (pd_cg Cl hr (Nat.le_refl _) (padd_cons (pd_var 2) (padd_cons (pd_var 1) (padd_cons pd_str padd_nil))) ⟨_, _, _, _, rfl, .kind hd (by decide) (by decide), rfl, rfl⟩) (pd_tup (padd_cons pd_str (padd_cons pd_str padd_nil)))))) (by decide +kernel)) rfl ?_) rfl (by (intro i r h; rcases i with _ | _ | _ | i <;> first | exact h | cases h))
      refine pbd_skip (bl := false) (ptd_eqB (ptd_bool (pwd_or (ptd_neP hu (pd_cg Cl hr (Nat.le_refl _) (padd_cons (pd_var 2) (padd_cons (pd_var 1) (padd_cons (pd_lst (padd_cons pd_int (padd_cons pd_int padd_nil))) padd_nil))) ⟨_, _, _, _, rfl, .line (t := false) (qs := [1, 1]) (j := 1) (v := 1) hd (by decide) (by decide) ⟨by decide, fun i q hi hq => ?_, fun q hq => ?_⟩ rfl, rfl, rfl⟩) (pd_tup (padd_cons pd_str (padd_cons pd_int padd_nil)))) fun _ => pwd_or1 (ptd_neP hu (pd_cg Cl hr (Nat.le_refl _) (padd_cons (pd_var 2) (padd_cons (pd_var 1) (padd_cons (pd_var 0) padd_nil))) ⟨_, _, _, _, rfl, .line hd (by decide) (by decide) hb h4, rfl, rfl⟩) (pd_tup (padd_cons pd_str (padd_cons pd_int padd_nil)))))) (by decide +kernel)) rfl pbd_nil
      · obtain rfl : i = 0 := by omega
        cases hq
        exact ⟨⟨by decide, by decide⟩, by simp⟩
      · cases hq
        exact .inr (by decide)
    have l1 : LotIn 4 [0, 2] := ⟨by decide, (by intro q hq; simp at hq; omega), by decide⟩
    have l2 : LotIn 4 [2, 0] := ⟨by decide, (by intro q hq; simp at hq; omega), by decide⟩
    refine pbd_skip (bl := false) (ptd_eqB (ptd_bool (pwd_or (ptd_neP hu (pd_cg Cl hr (Nat.le_refl _) (padd_cons pd_int (padd_cons (pd_var 1) (padd_cons (pd_lst (padd_cons pd_int (padd_cons pd_int padd_nil))) padd_nil))) ⟨_, _, _, _, rfl, .four (t := false) (by decide) (by decide) l1 bent_bad, rfl, rfl⟩) (pd_tup (padd_cons pd_str (padd_cons (pd_tup (padd_cons pd_int (padd_cons pd_int (padd_cons pd_int (padd_cons pd_int padd_nil))))) padd_nil)))) fun _ => pwd_or1 (ptd_neP hu (pd_ixT (d := .str "answer") (pd_cg Cl hr (Nat.le_refl _) (padd_cons pd_int (padd_cons (pd_var 1) (padd_cons (pd_lst (padd_cons pd_int (padd_cons pd_int padd_nil))) padd_nil))) ⟨_, _, _, _, rfl, .ans2 (t := false) (by decide) (by decide) l2, rfl, rfl⟩) pd_int rfl) pd_str))) (by decide +kernel)) rfl ?_
    exact pbd_last (psd_ret (pd_eqB (pd_eqP hu (pd_cg Cl hr (Nat.le_refl _) (padd_cons pd_int (padd_cons (pd_var 1) (padd_cons (pd_tup (padd_cons pd_int (padd_cons pd_int padd_nil))) padd_nil))) ⟨_, _, _, _, rfl, .ans1 (t := true) (by decide) (by decide) l2 bent_wr, rfl, rfl⟩) (pd_tup (padd_cons pd_str (padd_cons (pd_tup (padd_cons pd_int (padd_cons pd_int (padd_cons pd_int padd_nil)))) padd_nil)))) (by decide +kernel)))
/-! ### _law_spoiled_right -/
abbrev sSpRt : Stmt := topS 72
abbrev nSpRt : List Str := ["_law_size_here", "_law_other", "_law_lot_here", "_law_chart_here", "_law_bad", "_law_answer", "_law_four", "raised"]
theorem scSpRt : FnScope nSpRt ["_law_size_here", "_law_other", "_law_lot_here"] (defScope sSpRt) := ⟨rfl, rfl, rfl, by decide +kernel, rfl, by decide +kernel, by decide +kernel⟩
def gSpRt (C : Addr) : GG := fun rs ow r ow' => ∃ (n : Int) (F : List Int → Int) (pl : List Int), rs = [.d (.int n), .d (.dT (tabI (tabF n F))), .d (.lst (pl.map D.int))] ∧ LotIn n pl ∧ isort pl = pl ∧ SgnF F ∧ 1 ≤ n ∧ n ≤ 7 ∧ NoIow ow ∧ r = .d (.bl true) ∧ ow' = ow
abbrev srS (C : Addr) (n : Int) (F : List Int → Int) (pl : List Int) (a b c : D) : Sta := [some (.d (.int n)), some (.d (.dT (tabI (tabF n F)))), some (.d (.lst (pl.map D.int))), some (.d (chartD C n (cns n F))), some (.d a), some (.d b), some (.d c), none]
theorem ok_spRt (F0 : Fun K "_law_spoiled_right" "_law_spoiled_right" sSpRt f fd) (TU : UTxt K CU fU) (gU : mg "Unsound" = some (.ref CU)) (Cc : Fg P w K mg base "_law_chart" k ["_law_size_here", "_law_table_here"] (gLChart C)) (Ct : Fg P w K mg base "_law_told_right" k pToldRt (gToldRt C)) (Cb : Fg P w K mg base "_law_bad_four" k ["_law_size_here", "_law_table_here"] gBad4S)
    (Cp : Fg P w K mg base "is_place" k ["chart", "lot"] (gIsPlace C)) (CX : FgX P w K mg base "is_place" k ["chart", "lot"] (nU CU) (gLkU C)) (Ci : Fg P w K mg base "_law_bool_is" k ["_law_answer", "_law_due"] gBoolIs) (C3 : Fg P w K mg base "_law_wrong_three" k ["_law_size_here", "_law_table_here", "_law_lot_here"] gLWr) (Cl : Fg P w K mg base "_law_lot_is" k ["_law_answer", "_law_due"] gLotIs) (mT : mg "tuple" = none) : FnOk P w K mg base CX0 (k + 1) f fd ["_law_size_here", "_law_other", "_law_lot_here"] (spF K (gSpRt C)) := by
  refine okF F0 scSpRt (fun rs ow r ow' h => ?_) (fun cdv A outer s H E hr rs ow r ow' h => ?_)
  · obtain ⟨n, F, pl, rfl, _⟩ := h
    rfl
  · obtain ⟨n, F, pl, rfl, hl, hs, sF, h1, h7, hni, rfl, rfl⟩ := h
    refine pbd_cons (psd_set 3 scSpRt.nd (pd_cg Cc hr (Nat.le_refl _) (padd_cons (pd_var 0) (padd_cons (pd_var 1) padd_nil)) ⟨n, F, rfl, h1, h7, sF, hni, rfl, rfl⟩)) ?_
    refine pbd_skip (bl := false) (ptd_eqB (ptd_not (ptd_val (pd_cg Ct hr (Nat.le_refl _) (padd_cons (pd_var 3) (padd_cons (pd_var 0) (padd_cons (pd_var 1) (padd_cons (pd_tupleL mT (padd_cons (pd_var 2) padd_nil)) (padd_cons (pd_var 2) padd_nil))))) ⟨n, F, true, false, pl, pl, rfl, hl, fun x => Iff.rfl, sF, h1, h7, rfl, rfl⟩))) rfl) rfl ?_
    refine pbd_cons (psd_set 4 scSpRt.nd (pd_eqD (d' := optD (badF n (cns n F))) (pd_cg Cb hr (Nat.le_refl _) (padd_cons (pd_var 0) (padd_cons (pd_var 1) padd_nil)) ⟨n, F, rfl, by omega, h7, sF, rfl, rfl⟩) (by rw [badW_eq (by omega) h7 sF]))) ?_
    refine pbd_cons (psd_set 5 scSpRt.nd pd_non) (pbd_cons (psd_set 6 scSpRt.nd pd_non) ?_)
    show PBD _ (srS C n F pl (optD (badF n (cns n F))) .non .non) ow' _ _
    cases hb : badF n (cns n F) with
    | none =>
      refine pbd_cons (psd_tryN (cls := .ref CU) (ts := tsFld (nU CU) 7 6) (st1 := srS C n F pl .non (.bl (!(wrongF n F pl).isSome)) .non) (ow1 := ow') 7 rfl rfl scSpRt.nd rfl rfl (fun W pn xe tk _ => pbd_cons (psd_set 5 scSpRt.nd (pd_eqD (d' := .bl (!(wrongF n F pl).isSome)) (pd_cg Cp hr (Nat.le_refl _) (padd_cons (pd_var 3) (padd_cons (pd_var 2) padd_nil)) ⟨n, F, false, pl, rfl, hl, h1, h7, hb, rfl, rfl⟩) (by rw [hs]))) pbd_nil)
        (.hit ⟨rfl, by decide, .inl gU⟩ TU.te (fun a oe d pn hz hf => pss_one (ps_set (i := 6) scSpRt.nd rfl (Or.inl rfl) (pe_fldU TU hz hf (pv 7)))))) ?_
      exact pbd_take (ptd_isN (pd_var 4) pd_non) rfl (pbd_last (psd_ret (pd_eqB (pd_and (pd_isN (pd_var 6) pd_non) fun _ => pd_one (pd_cg Ci hr (Nat.le_refl _) (padd_cons (pd_var 5) (padd_cons (pd_eqD (d' := .bl (!(wrongF n F pl).isSome)) (pd_isN (pd_cg C3 hr (Nat.le_refl _) (padd_cons (pd_var 0) (padd_cons (pd_var 1) (padd_cons (pd_var 2) padd_nil))) ⟨n, F, false, pl, rfl, by omega, h7, rfl, rfl⟩) pd_non) (by rw [nonD_opt])) padd_nil)) ⟨_, rfl, rfl, rfl⟩)) rfl)))
    | some q =>
      have hq4 : q.length ≤ 1000 := by
        obtain ⟨a, b, c, d, rfl, _⟩ := sub4_form (show 0 ≤ n by omega) h7 (List.mem_of_find?_eq_some hb)
        show 4 ≤ 1000
        decide
      refine pbd_cons (psd_tryV (n := nU CU) (d := tupI q) (st1 := srS C n F pl (tupI q) .non .non) (ow1 := ow') 7 6 rfl rfl scSpRt.nd rfl rfl (by show 7 < 8; decide) (by decide) (fun W pn xe tk _ => psx_last (pxs_set 5 scSpRt.nd (pxe_call CX hr (Nat.le_refl _) tk (padd_cons (pd_var 3) (padd_cons (pd_var 2) padd_nil)) ⟨n, F, false, pl, q, rfl, hl, h1, h7, hb, rfl, rfl⟩)))
        (.hit ⟨rfl, by decide, .inl gU⟩ TU.te (fun a oe d pn hz hf => pss_one (ps_set (i := 6) scSpRt.nd rfl (Or.inl rfl) (pe_fldU TU hz hf (pv 7)))))) ?_
      show PBD _ (srS C n F pl (tupI q) .non (tupI q)) ow' _ _
      exact pbd_skip (ptd_isN (pd_var 4) pd_non) rfl (pbd_last (psd_ret (pd_eqB (pd_and (pd_isN (pd_var 5) pd_non) fun _ => pd_one (pd_cg Cl hr (Nat.le_refl _) (padd_cons (pd_var 6) (padd_cons (pd_var 4) padd_nil)) ⟨true, q, rfl, hq4, rfl, rfl⟩)) rfl)))
end
end Bl
set_option Elab.async false
set_option linter.all false
set_option maxRecDepth 100000
set_option maxHeartbeats 4000000
namespace Bl
open PySem PySem.Spec PyProof.Rows L2
/-! ### a comprehension whose test changes the mutable things -/
section
variable {α τ : Type} (as : List α) (enc : α → D) (stx : α → Sta) (pp : τ → α → Bool) (sf : τ → α → τ) (ff : α → D) (owF : τ → List OB) (s0 : τ)
def lcStep (p : τ × List α) (x : α) : τ × List α := (sf p.1 x, if pp p.1 x = true then p.2 ++ [x] else p.2)
def lcRun (l : List α) : τ × List α := l.foldl (lcStep pp sf) (s0, [])
theorem lcRun_len : ∀ (l : List α) (p : τ × List α), (l.foldl (lcStep pp sf) p).2.length ≤ p.2.length + l.length
  | [], p => Nat.le_refl _
  | x :: l, p => by
    have h := lcRun_len l (lcStep pp sf p x)
    have h2 : (lcStep pp sf p x).2.length ≤ p.2.length + 1 := by
      unfold lcStep
      split
      · rw [List.length_append]; exact Nat.le_refl _
      · exact Nat.le_succ _
    rw [List.foldl_cons, List.length_cons]
    omega
def lTF (K : PySem.W.Frag) : TT := fun σ H Q => ∃ x : { p : α × τ × List D // p.1 ∈ as }, tDT K (stx x.1.1) (owF x.1.2.1 ++ [.l x.1.2.2]) (pp x.1.2.1 x.1.1) (owF (sf x.1.2.1 x.1.1) ++ [.l x.1.2.2]) σ H Q
def lEF (K : PySem.W.Frag) : TE := fun σ H Q => ∃ x : { p : α × τ × List D // p.1 ∈ as }, tD K (stx x.1.1) (owF x.1.2.1 ++ [.l x.1.2.2]) (.d (ff x.1.1)) (owF x.1.2.1 ++ [.l x.1.2.2]) σ H Q
theorem lc_readF {K : PySem.W.Frag} {vs : List Nat} {Q : VK} {σ : L2.St} {st : Sta} {S1 : List Addr} {H1 : Hp} {J : It} (hlo : ∀ s, (owF s).length = (owF s0).length) (hkp : ∀ s, KeepG (owF s0) (owF s)) (w1 : WD K S1 H1 J (as.map enc)) (sl : Slots K S1 H1 σ st) (o1 : Owns K S1 H1 (owF s0)) (hlen : as.length ≤ 40000)
    (k : ∀ v H', Fwd S1 H1 S1 H' → Owns K S1 H' (owF (lcRun pp sf s0 as).1) → Den K S1 H' v (.lst ((lcRun pp sf s0 as).2.map ff)) → Q v H') :
    ∀ D, H1 D = none → ∃ W : Nat → Nat → Hp → Prop, (∃ m, W 0 m (upd H1 D (.lst []))) ∧ ∀ i m H, W i m H →
      (J.stop i H ∧ Q (.ref D) H) ∨ (J.go i H ∧ ∃ Nx : Hp → Prop, (∀ H', Nx H' → ∃ m', m' < m ∧ W (i + 1) m' H') ∧ ∀ x H', J.yld i H x H' → lG as enc stx K vs st x (wipe σ vs) H' fun σ2 H2 => wipe σ2 vs = wipe σ vs ∧ lTF as stx pp sf owF K σ2 H2 fun b H3 =>
        if b = true then lEF as stx ff owF K σ2 H3 fun y H4 => ∃ acc, H4 D = some (.lst acc) ∧ acc.length < sizeLine ∧ Nx (upd H4 D (.lst (acc ++ [y]))) else Nx H3) := by
  intro D hD
  have hn := own_new (xs := []) (ds := []) o1 hD .nil
  have hln : (as.map enc).length = as.length := List.length_map ..
  refine lc_it (Qd := Q (.ref D)) w1 (fun i H' => LcP K S1 H1 D (owF (lcRun pp sf s0 (as.take i)).1) ((lcRun pp sf s0 (as.take i)).2.map ff) H') ⟨hn.1, hn.2.1⟩ (fun i H' _ p => ⟨_, _, p.f, p.o⟩) (fun i x H' H2 hi p ⟨ex, y⟩ => ?_) (fun H' p => ?_)
  · obtain ⟨d, hd, dd⟩ := y _ _ p.f p.o
    obtain ⟨xa, hxa, rfl⟩ := map_some_of hd
    have hmem : xa ∈ as := List.mem_of_getElem? hxa
    have p2 : LcP K S1 H1 D (owF (lcRun pp sf s0 (as.take i)).1) ((lcRun pp sf s0 (as.take i)).2.map ff) H2 := ⟨p.f.trans p.o (.of ex), p.o.ex ex⟩
    have hts : lcRun pp sf s0 (as.take (i + 1)) = lcStep pp sf (lcRun pp sf s0 (as.take i)) xa := by
      unfold lcRun
      rw [take_succ_of hxa, List.foldl_append]
      rfl
    have hz : ((lcRun pp sf s0 (as.take i)).2.map ff).length < 100000 := by
      rw [List.length_map]
      have h1 := lcRun_len pp sf (as.take i) (s0, [])
      rw [List.length_take] at h1
      have h1 : (lcRun pp sf s0 (as.take i)).2.length ≤ 0 + min i as.length := h1
      omega
    show lG as enc stx K vs st x (wipe σ vs) H2 fun σ2 H2 => wipe σ2 vs = wipe σ vs ∧ lTF as stx pp sf owF K σ2 H2 fun b H3 =>
        if b = true then lEF as stx ff owF K σ2 H3 fun y H4 => ∃ acc, H4 D = some (.lst acc) ∧ acc.length < sizeLine ∧ LcP K S1 H1 D (owF (lcRun pp sf s0 (as.take (i + 1))).1) ((lcRun pp sf s0 (as.take (i + 1))).2.map ff) (upd H4 D (.lst (acc ++ [y]))) else LcP K S1 H1 D (owF (lcRun pp sf s0 (as.take (i + 1))).1) ((lcRun pp sf s0 (as.take (i + 1))).2.map ff) H3
    rw [hts]
    generalize lcRun pp sf s0 (as.take i) = p0 at p2 hz
    obtain ⟨s, acc0⟩ := p0
    refine ⟨⟨xa, hmem⟩, S1 ++ [D], (p2.f.slots sl).wipe vs, dd, fun σ2 sl2 hw => ⟨hw.trans (wipe_wipe σ vs), ⟨(xa, s, _), hmem⟩, S1 ++ [D], sl2, p2.o, fun S3 H3 f3 o3 => ?_⟩⟩
    have e3 : S3 = S1 ++ [D] := fwd_same f3 p2.o o3 (by rw [List.length_append, List.length_append, hlo, hlo (sf s xa)])
    subst e3
    have p3 : LcP K S1 H1 D (owF (sf s xa)) (acc0.map ff) H3 := ⟨p2.f.trans p2.o f3, o3⟩
    show (if pp s xa = true then _ else _)
    unfold lcStep
    cases hb : pp s xa with
    | true =>
      refine iteT ⟨⟨(xa, sf s xa, _), hmem⟩, S1 ++ [D], f3.slots sl2, o3, fun S4 v H4 f4 o4 d4 => ?_⟩
      obtain ⟨e4, p4⟩ := p3.on f4 o4
      subst e4
      cases d4 with
      | d d4 =>
        obtain ⟨acc, h1, h2, h3⟩ := p4.app d4 hz
        refine ⟨acc, h1, h2, ?_⟩
        show LcP K S1 H1 D (owF (sf s xa)) ((if true = true then acc0 ++ [xa] else acc0).map ff) _
        rw [if_pos rfl, List.map_append]
        exact h3
    | false =>
      refine iteF ?_
      show LcP K S1 H1 D (owF (sf s xa)) ((if false = true then acc0 ++ [xa] else acc0).map ff) _
      rw [if_neg (by decide)]
      exact p3
  · have p' : LcP K S1 H1 D (owF (lcRun pp sf s0 (as.take (as.map enc).length)).1) ((lcRun pp sf s0 (as.take (as.map enc).length)).2.map ff) H' := p
    rw [hln, take_all] at p'
    have hr : DenR K (S1 ++ [D]) H' (.ref D) (.own (owF (lcRun pp sf s0 as).1).length) := .own (owns_last p'.o).choose_spec.1
    obtain ⟨g1, g2, g3⟩ := owns_drop p'.f o1 p'.o (hlo _).symm (hkp _) hr
    exact k _ _ g1 g2 g3
end
section
variable {X : Cx} {tg iter elt : Expr} {ifs : List Expr} {scope : Scope} {own : List (Str × Nat)} {st : Sta} {ow : List OB} {pos : Pos}
theorem pd_lcF {α τ : Type} (as : List α) (enc : α → D) (stx : α → Sta) (pp : τ → α → Bool) (sf : τ → α → τ) (ff : α → D) (owF : τ → List OB) (s0 : τ) (hlo : ∀ s, (owF s).length = (owF s0).length) (hkp : ∀ s, KeepG (owF s0) (owF s)) (hc : X.calm = true) (hN : X.N.Nodup) (hi : PID X st ow tg iter (as.map enc) (owF s0)) (ok : BlkOk X.N X.env.scope scope own) (hlen : as.length ≤ 40000)
    (hg : ∀ x, x ∈ as → AtBlk X scope fun Y => PGD Y (own.map (·.2)) (wipeD st (own.map (·.2))) (enc x) tg (stx x)) (ht : ∀ x s, x ∈ as → ∀ l, AtBlk X scope fun Y => PTs Y ifs (tDT Y.K (stx x) (owF s ++ [.l l]) (pp s x) (owF (sf s x) ++ [.l l])))
    (he : ∀ x s, x ∈ as → ∀ l, AtBlk X scope fun Y => PD Y (stx x) (owF s ++ [.l l]) elt (.d (ff x)) (owF s ++ [.l l])) (hs : ∀ x, foldedSetIterable iter X.env x = pure x := by intro _; rfl) :
    PD X st ow (.ListComp elt [⟨tg, iter, ifs, 0⟩] scope pos) (.d (.lst ((lcRun pp sf s0 as).2.map ff))) (owF (lcRun pp sf s0 as).1) :=
  (pe_lc (g := lG as enc stx X.K (own.map (·.2)) st) (tt := lTF as stx pp sf owF X.K) (te := lEF as stx ff owF X.K) hc hN hi ok (fun s H C cl fp => pg_ex fun x => hg x.1 x.2 s H C cl fp) (fun s H C cl fp => pts_ex fun x => ht x.1.1 x.1.2.1 x.2 x.1.2.2 s H C cl fp)
    (fun s H C cl fp => pe_ex fun x => he x.1.1 x.1.2.1 x.2 x.1.2.2 s H C cl fp) hs).imp fun σ H Q ⟨S, sl, o, q⟩ => ⟨S, sl, o, fun S1 H1 J f1 o1 w1 => lc_readF as enc stx pp sf ff owF s0 hlo hkp w1 (f1.slots sl) o1 hlen fun v H' g1 g2 g3 => q S1 v H' (f1.trans o1 g1) g2 (.d g3)⟩
end
end Bl
set_option Elab.async false
set_option linter.all false
set_option maxRecDepth 100000
set_option maxHeartbeats 4000000
namespace Bl
open PySem PySem.Spec PyProof.Rows L2
theorem pid_ow {X : Cx} {st : Sta} {ow owA owB : List OB} {tg e : Expr} {xs : List D} (h : PID X st ow tg e xs owA) (he : owA = owB) : PID X st ow tg e xs owB := he ▸ h
/-! ### a lot by a draw -/
def lotZ (n : Int) (ps : List Int) : List Int × List Int := lcRun (fun ps (_ : Int) => decide (nextV ps 2 = 1)) (fun ps _ => ps.dropLast) ps (rngZ n)
section
variable {P : Program} {w : World} {K : PySem.W.Frag} {mg : Str → Option Value} {base : Heap} {f fG : Addr} {fd fdG : FuncData} {k : Nat} {C : Addr}
abbrev sLotL : Stmt := topS 55
abbrev nLotL : List Str := ["_law_pool_here", "_law_size_here", "_law_line"]
theorem scLotL : FnScope nLotL ["_law_pool_here", "_law_size_here"] (defScope sLotL) := ⟨rfl, rfl, rfl, by decide +kernel, rfl, by decide +kernel, by decide +kernel⟩
def gLotL : GG := fun rs ow r ow' => ∃ (kp : Nat) (n : Int) (ps : List Int), rs = [.own kp, .d (.int n)] ∧ ow[kp]? = some (.l (ps.map D.int)) ∧ 0 ≤ n ∧ n ≤ 100 ∧ r = .d (.lst ((lotZ n ps).2.map D.int)) ∧ ow' = ow.set kp (.l ((lotZ n ps).1.map D.int))
theorem ok_lotL (F : Fun K "_law_lot" "_law_lot" sLotL f fd) (C1 : Fg P w K mg base "_law_next" k ["_law_pool_here", "_law_many"] gNext) (mR : mg "range" = none) : FnOk P w K mg base CX0 (k + 1) f fd ["_law_pool_here", "_law_size_here"] (spF K gLotL) := by
  refine okF F scLotL (fun rs ow r ow' h => ?_) (fun cdv A outer s H E hr rs ow r ow' h => ?_)
  · obtain ⟨kp, n, ps, rfl, _⟩ := h
    rfl
  · obtain ⟨kp, n, ps, rfl, hk, h0, h1, rfl, rfl⟩ := h
    have hkl : kp < ow.length := (List.getElem?_eq_some_iff.mp hk).1
    refine pbd_last (psd_ret (pd_lcF (own := [("_law_line", 2)]) (rngZ n) D.int (fun x => [some (.own kp), some (.d (.int n)), some (.d (.int x))]) (fun ps (_ : Int) => decide (nextV ps 2 = 1)) (fun ps _ => ps.dropLast) D.int (fun ps => ow.set kp (.l (ps.map D.int))) ps (fun s => by rw [List.length_set, List.length_set]) (fun s => by rw [set_same hk]; exact keepg_set) rfl scLotL.nd
      (pid_ow (pid_eq (pid_range1 mR (padd_cons (pd_var 1) padd_nil) (by omega)) (rngD_Z n)) (set_same hk).symm) (blkOk_by (N := nLotL) (sc := defScope sLotL) (by decide +kernel)) (by rw [rngZ_len]; omega) (fun x hx _ H C' cl fp => pgd_name 2 scLotL.nd) (fun x s hx l _ H C' cl fp => ?_) (fun x s hx l _ H C' cl fp => pd_var 2)))
    have hg : (ow.set kp (OB.l (s.map D.int)) ++ [OB.l l])[kp]? = some (.l (s.map D.int)) := by
      rw [List.getElem?_append_left (by rw [List.length_set]; exact hkl), List.getElem?_set_self hkl]
    exact ⟨fun pins s σ H Q I z => (pts_one (ptd_eqB (ptd_eq (pd_ow (pd_cg C1 hr (Nat.le_refl _) (pad_cons (pd_var 0) (padd_cons pd_int padd_nil)) ⟨kp, 2, _, rfl, hg, by decide, rfl, rfl⟩) (by rw [List.set_append_left _ _ (by rw [List.length_set]; exact hkl), List.set_set])) pd_int) (by rw [iv_eq]))).run pins s σ H Q I z⟩
end
end Bl
set_option Elab.async false
set_option linter.all false
set_option maxRecDepth 100000
set_option maxHeartbeats 16000000
namespace Bl
open PySem PySem.Spec PyProof.Rows L2 PySem.Xq
/-! ### the lot that was drawn -/
theorem lcRun_sub {α τ : Type} (pp : τ → α → Bool) (sf : τ → α → τ) : ∀ (l : List α) (p : τ × List α), List.Sublist (l.foldl (lcStep pp sf) p).2 (p.2 ++ l)
  | [], p => by rw [List.append_nil]; exact List.Sublist.refl _
  | x :: l, p => by
    have h := lcRun_sub pp sf l (lcStep pp sf p x)
    rw [List.foldl_cons]
    refine h.trans ?_
    unfold lcStep
    dsimp only
    split
    · rw [List.append_assoc]
      exact List.Sublist.refl _
    · exact (List.Sublist.refl p.2).append (List.sublist_cons_self x l)
theorem lot_sub (n : Int) (ps : List Int) : List.Sublist (lotZ n ps).2 (rngZ n) := by
  have h := lcRun_sub (fun ps (_ : Int) => decide (nextV ps 2 = 1)) (fun ps _ => ps.dropLast) (rngZ n) (ps, [])
  rwa [List.nil_append] at h
theorem lot_in {n : Int} (h7 : n ≤ 7) (ps : List Int) : LotIn n (lotZ n ps).2 ∧ isort (lotZ n ps).2 = (lotZ n ps).2 := by
  have h := lot_sub n ps
  refine ⟨⟨h.nodup (rngZ_nd n), fun q hq => mem_rngZ (h.subset hq), ?_⟩, (isort_eq (.refl _) (((rngZ_pw n).sublist h).imp fun h => by omega)).symm⟩
  have := h.length_le
  rw [rngZ_len] at this
  omega
def lk3 : List D := [.lst [.int 4], .lst [.int 1, .int 4], .tup [.int 0, .int 4, .int 5]]
theorem lk3_at {v : Int} (h0 : 0 ≤ v) (h3 : v < 3) : ∃ (t : Bool) (qs : List Int) (j : Nat), atI lk3 v = some (sqD t (qs.map D.int)) ∧ LotBad 4 qs j ∧ qs.getD j 0 = 4 := by
  have : v = 0 ∨ v = 1 ∨ v = 2 := by omega
  rcases this with rfl | rfl | rfl
  · refine ⟨false, [4], 0, rfl, ⟨by decide, fun i q hi hq => by omega, fun q hq => ?_⟩, rfl⟩
    cases hq
    exact .inl (by decide)
  · refine ⟨false, [1, 4], 1, rfl, ⟨by decide, fun i q hi hq => ?_, fun q hq => ?_⟩, rfl⟩
    · obtain rfl : i = 0 := by omega
      cases hq
      exact ⟨by decide, by decide⟩
    · cases hq
      exact .inl (by decide)
  · refine ⟨true, [0, 4, 5], 1, rfl, ⟨by decide, fun i q hi hq => ?_, fun q hq => ?_⟩, rfl⟩
    · obtain rfl : i = 0 := by omega
      cases hq
      exact ⟨by decide, by decide⟩
    · cases hq
      exact .inl (by decide)
section
variable {P : Program} {w : World} {K : PySem.W.Frag} {mg : Str → Option Value} {base : Heap} {f fG : Addr} {fd fdG : FuncData} {k : Nat} {C : Addr} {psG : List Str}
abbrev sLaw : Stmt := topS 76
abbrev nLaw : List Str := ["_law_script", "_law_pool_here", "_law_size_here", "_law_turns_here", "_law_table_here", "_law_chart_here", "_law_spots_here", "_law_other", "_law_word", "_law_lot_here"]
theorem scLaw : FnScope nLaw ["_law_script"] (defScope sLaw) := ⟨rfl, rfl, rfl, by decide +kernel, rfl, by decide +kernel, by decide +kernel⟩
def gLaw : GG := fun rs ow r ow' => ∃ ss : List Int, rs = [.d (.lst (ss.map D.int))] ∧ ss.length ≤ 63 ∧ ow = [] ∧ r = .d (.bl true) ∧ ow' = []
abbrev LS (ss : List Int) (x1 x2 x3 x4 x5 x6 x7 x8 x9 : Option R) : Sta := [some (.d (.lst (ss.map D.int))), x1, x2, x3, x4, x5, x6, x7, x8, x9]
abbrev LT (C : Addr) (ss : List Int) (n : Int) (ts : List Trn) (F G : List Int → Int) (x8 x9 : Option R) : Sta :=
  LS ss (some (.own 0)) (some (.d (.int n))) (some (.d (.lst (ts.map turnD)))) (some (.d (.dT (tabI (tabF n F))))) (some (.d (chartD C n (cns n F)))) (some (.d (.lst (tup2 (spotsZ n ts))))) (some (.d (.dT (tabI (tabF n G))))) x8 x9
theorem ok_law (F0 : Fun K "law" "law" sLaw f fd)
    (Cp : Fg P w K mg base "_law_pool" k ["_law_script"] gPool) (Cs : Fg P w K mg base "_law_spot_case" k pSpotC gSpotC) (Ct : Fg P w K mg base "_law_table" k ["_law_size_here", "_law_turns_here"] gTable) (Cc : Fg P w K mg base "_law_chart" k ["_law_size_here", "_law_table_here"] (gLChart C))
    (Co : Fg P w K mg base "_law_spots" k ["_law_size_here", "_law_turns_here"] gSpots) (Cd : Fg P w K mg base "_law_spoiled" k ["_law_pool_here", "_law_size_here", "_law_table_here"] gSpoiled) (Cl : Fg P w K mg base "_law_lot" k ["_law_pool_here", "_law_size_here"] gLotL) (Cr : Fg P w K mg base "_law_spoiled_right" k ["_law_size_here", "_law_other", "_law_lot_here"] (gSpRt C))
    (Ca : Fg P w K mg base "_law_apart_right" k pApart (gApart C)) (Cn : Fg P w K mg base "_law_next" k ["_law_pool_here", "_law_many"] gNext) (Ck : Fg P w K mg base "_law_looks_refuse" k ["_law_lot_here"] gLooks) (Cz : Fg P w K mg base "_law_subsets" k ["_law_size_here"] gSubs) (Ci : Fg P w K mg base "_law_lot_right" k pLotRt (gLotRt C)) : FnOk P w K mg base CX0 (k + 1) f fd ["_law_script"] (spF K gLaw) := by
  refine okF F0 scLaw (fun rs ow r ow' h => ?_) (fun cdv A outer s H E hr rs ow r ow' h => ?_)
  · obtain ⟨ss, rfl, _⟩ := h
    rfl
  · obtain ⟨ss, rfl, hl, rfl, rfl, rfl⟩ := h
    have hu64 := room_u64 hr
    obtain ⟨p0, hp0⟩ : ∃ p0, p0 = poolZ ss := ⟨_, rfl⟩
    obtain ⟨n1, n7, hA, hCv, hTw, hdl⟩ := spot_ok p0
    obtain ⟨hEx, hts⟩ := spot_more p0
    obtain ⟨n, hn⟩ : ∃ n, n = spN p0 := ⟨_, rfl⟩
    obtain ⟨ts, htsE⟩ : ∃ ts, ts = spotT p0 := ⟨_, rfl⟩
    obtain ⟨p1, hp1⟩ : ∃ p1, p1 = spotP p0 := ⟨_, rfl⟩
    rw [← hn, ← htsE] at hA hCv hTw hEx
    rw [← hn] at n1 n7
    rw [← htsE] at hdl hts
    have h0 : 0 ≤ n := by omega
    obtain ⟨F, hF⟩ : ∃ F, F = sgT (timesZ (rngZ n) ts) := ⟨_, rfl⟩
    have sF : SgnF F := by rw [hF]; exact sgT_rng _
    have hsound : badF n (cns n F) = none := by rw [hF]; exact drawn_sound h0 n7 hA hCv
    have sG : SgnF (spoZ n p1 F).2 := spStep_sgn n 0 (p1, F) sF
    obtain ⟨G, hG⟩ : ∃ G, G = (spoZ n p1 F).2 := ⟨_, rfl⟩
    obtain ⟨p2, hp2⟩ : ∃ p2, p2 = (spoZ n p1 F).1 := ⟨_, rfl⟩
    rw [← hG] at sG
    obtain ⟨hli, hls⟩ := lot_in n7 p2
    obtain ⟨p3, hp3⟩ : ∃ p3, p3 = (lotZ n p2).1 := ⟨_, rfl⟩
    obtain ⟨lot, hlot⟩ : ∃ lot, lot = (lotZ n p2).2 := ⟨_, rfl⟩
    rw [← hlot] at hli hls
    obtain ⟨p4, hp4⟩ : ∃ p4, p4 = apP ts p3 := ⟨_, rfl⟩
    obtain ⟨v, hv⟩ : ∃ v, v = nextV p4 3 := ⟨_, rfl⟩
    have hvr := nextV_rng p4 (show (0 : Int) < 3 by decide)
    rw [← hv] at hvr
    obtain ⟨tl, qs, j, hat, hbad, h4⟩ := lk3_at hvr.1 hvr.2
    have hpi : ∀ q ∈ lotsZ n, decide (q ∈ spotsZ n ts) = !(wrongF n F q).isSome := fun q hq => by
      obtain ⟨e1, e2, e3, _⟩ := lot_of_lots hq
      have h := pl_iff h0 n7 hA hCv e1 e2 e3
      rw [← hF] at h
      by_cases hm : q ∈ spotsZ n ts
      · rw [decide_eq_true hm, h.mpr (spots_iff.mp hm)]
        rfl
      · rw [decide_eq_false hm]
        cases hw : wrongF n F q with
        | none => exact absurd (spots_iff.mpr (h.mp hw)) hm
        | some z => rfl
    refine pbd_dropN (ow1 := []) (bs := [.l (p4.dropLast.map D.int)]) ?_ rfl
    refine pbd_cons (psd_set 1 scLaw.nd (pd_cg Cp hr (Nat.le_refl _) (padd_cons (pd_var 0) padd_nil) ⟨ss, rfl, hl, rfl, rfl⟩)) ?_
    rw [← hp0]
    show PBD _ (LS ss (some (.own 0)) none none none none none none none none) [.l (p0.map D.int)] _ _
    refine pbd_cons (psd_asgT (vs := [2, 3]) (pd_cg Cs hr (Nat.le_refl _) (pad_cons (pd_var 1) (padd_cons pd_int (padd_cons pd_int padd_nil))) ⟨0, p0, rfl, rfl, rfl, rfl⟩) (pgd_tup rfl (pgsd_cons (pgd_name 2 scLaw.nd) (pgsd_cons (pgd_name 3 scLaw.nd) pgsd_nil)))) ?_
    rw [← hn, ← htsE, ← hp1]
    show PBD _ (LS ss (some (.own 0)) (some (.d (.int n))) (some (.d (.lst (ts.map turnD)))) none none none none none none) [.l (p1.map D.int)] _ _
    refine pbd_cons (psd_set 4 scLaw.nd (pd_freezeT (ow1 := [.l (p1.map D.int)]) (gs := tabI (tabF n F)) (pd_ow (pd_cg Ct hr (Nat.le_refl _) (padd_cons (pd_var 2) (padd_cons (pd_var 3) padd_nil)) ⟨n, ts, rfl, h0, n7, hdl, cov_of hCv, rfl, rfl⟩) (by rw [hF])))) ?_
    refine pbd_cons (psd_set 5 scLaw.nd (pd_cg Cc hr (Nat.le_refl _) (padd_cons (pd_var 2) (padd_cons (pd_var 4) padd_nil)) ⟨n, F, rfl, n1, n7, sF, noIow1 p1, rfl, rfl⟩)) ?_
    refine pbd_cons (psd_set 6 scLaw.nd (pd_cg Co hr (Nat.le_refl _) (padd_cons (pd_var 2) (padd_cons (pd_var 3) padd_nil)) ⟨n, ts, rfl, h0, n7, hdl, rfl, rfl⟩)) ?_
    refine pbd_cons (psd_set 7 scLaw.nd (pd_freezeT (ow1 := [.l (p2.map D.int)]) (gs := tabI (tabF n G)) (pd_ow (pd_cg Cd hr (Nat.le_refl _) (pad_cons (pd_var 1) (padd_cons (pd_var 2) (padd_cons (pd_var 4) padd_nil))) ⟨0, n, p1, F, rfl, rfl, h0, n7, rfl, rfl⟩) (by rw [hG, hp2]; rfl)) (hb := by refine ⟨fun gs h => ?_, fun gs h => ?_⟩ <;> simp at h))) ?_
    show PBD _ (LT C ss n ts F G none none) [.l (p2.map D.int)] _ _
    refine pbd_skip (bl := false) (ow1 := [.l (p3.map D.int)]) (ptd_eqB (ptd_not (ptd_val (pd_cg Cr hr (Nat.le_refl _) (padd_cons (pd_var 2) (padd_cons (pd_var 7) (padd_cons (pd_eqD (d' := .lst (lot.map D.int)) (pd_ow (pd_cg Cl hr (Nat.le_refl _) (pad_cons (pd_var 1) (padd_cons (pd_var 2) padd_nil)) ⟨0, n, p2, rfl, rfl, h0, by omega, rfl, rfl⟩) (by rw [hp3]; rfl)) (by rw [hlot])) padd_nil))) ⟨n, G, lot, rfl, hli, hls, sG, n1, n7, noIow1 p3, rfl, rfl⟩))) rfl) rfl ?_
    refine pbd_skip (bl := false) (ow1 := [.l (p4.map D.int)]) (ptd_eqB (ptd_not (ptd_val (pd_ow (pd_cg Ca hr (Nat.le_refl _) (pad_cons (pd_var 1) (padd_cons (pd_var 2) (padd_cons (pd_var 3) (padd_cons (pd_var 5) (padd_cons (pd_var 4) (padd_cons (pd_var 6) padd_nil)))))) ⟨n, ts, p3, by rw [← hF]; rfl, rfl, hA, hCv, hTw, hEx, n1, n7, hts, rfl, rfl⟩) (by rw [hp4])))) rfl) rfl ?_
    refine pbd_cons (psd_set 8 scLaw.nd (pd_eqD (d' := .int v) (pd_cg Cn hr (Nat.le_refl _) (pad_cons (pd_var 1) (padd_cons pd_int padd_nil)) ⟨0, 3, p4, rfl, rfl, by decide, rfl, rfl⟩) (by rw [hv]))) ?_
    show PBD _ (LT C ss n ts F G (some (.d (.int v))) none) [.l (p4.dropLast.map D.int)] _ _
    refine pbd_skip (bl := false) (ptd_eqB (ptd_not (ptd_val (pd_cg Ck hr (Nat.le_refl _) (padd_cons (pd_ixL (pd_eqD (d' := .lst lk3) (pd_lst (padd_cons (pd_lst (padd_cons pd_int padd_nil)) (padd_cons (pd_lst (padd_cons pd_int (padd_cons pd_int padd_nil))) (padd_cons (pd_tup (padd_cons pd_int (padd_cons pd_int (padd_cons pd_int padd_nil)))) padd_nil)))) rfl) (pd_var 8) hat) padd_nil) ⟨tl, qs, j, rfl, hbad, h4, noIow1 _, rfl, rfl⟩))) rfl) rfl ?_
    refine pbd_cons (psd_forF [9] (lotsZ n) tupI v (fun x _ => x + 1) (fun x => LT C ss n ts F G (some (.d (.int x))) none) (fun x q => LT C ss n ts F G (some (.d (.int x))) (some (.d (tupI q)))) (fun _ => [.l (p4.dropLast.map D.int)]) PassesOwn.never rfl (pid_list (pd_cg Cz hr (Nat.le_refl _) (padd_cons (pd_var 2) padd_nil) ⟨n, rfl, h0, n7, rfl, rfl⟩)) ⟨rfl, fun i r h => h⟩ rfl (fun l q r hl => pgd_name 9 scLaw.nd) (fun l q r hl => ?_)) (pbd_last (psd_ret pd_bl))
    generalize List.foldl (fun x (_ : List Int) => x + 1) v l = x
    have hq := (pre_mem hl).1
    obtain ⟨e1, e2, e3, e4⟩ := lot_of_lots hq
    have hlq : LotIn n q := ⟨e2, e3, by omega⟩
    refine pbd_weak (st1 := LT C ss n ts F G (some (.d (.int (x + 1)))) (some (.d (tupI q)))) (pbd_cons (psd_augI 8 scLaw.nd rfl pd_int) ?_) rfl (by (intro i r h; rcases i with _ | _ | _ | _ | _ | _ | _ | _ | _ | _ | i <;> first | exact h | cases h))
    exact pbd_skip (bl := false) (ptd_eqB (ptd_not (ptd_val (pd_cg Ci hr (Nat.le_refl _) (padd_cons (pd_var 5) (padd_cons (pd_var 2) (padd_cons (pd_var 4) (padd_cons (pd_eqD (d' := .bl (!(wrongF n F q).isSome)) (pd_inLT hu64 (pd_var 9) (pd_var 6)) (by rw [hpi q hq])) (padd_cons (pd_var 9) (padd_cons (pd_var 8) padd_nil)))))) ⟨n, F, q, x + 1, rfl, hlq, sF, n1, n7, hsound, rfl, rfl⟩))) rfl) rfl pbd_nil
end
end Bl
set_option Elab.async false
set_option linter.all false
set_option maxRecDepth 100000
set_option maxHeartbeats 8000000
namespace Bl
open PySem PySem.Spec PyProof.Rows L2 PySem.Xq
/-- a def's record in the written part -/
structure Fx (K : PySem.W.Frag) (xn qual : Str) (st : Stmt) (f : Addr) : Prop where
  l : ∃ (oc : Value) (od : Option Addr) (kV doc pm : Value) (an : Option Addr) (cdv ct : Value) (osl : Array (Option Value)), K.lookup f = some ⟨oc, od, .func (PySem.W.fnOf xn qual (defArgs st) (defBody st) (defScope st) .none kV doc pm an cdv ct), osl⟩ ∧ PySem.W.codeIn K cdv qual = true
  k : PySem.W.keepIn K (.ref f) = true
theorem Fx.of {K : PySem.W.Frag} {xn qual : Str} {st : Stmt} {f : Addr} {oc : Value} {od : Option Addr} {kV doc pm : Value} {an : Option Addr} {cdv ct : Value} {osl : Array (Option Value)} (l : K.lookup f = some ⟨oc, od, .func (PySem.W.fnOf xn qual (defArgs st) (defBody st) (defScope st) .none kV doc pm an cdv ct), osl⟩) (c : PySem.W.codeIn K cdv qual = true) (k : PySem.W.keepIn K (.ref f) = true) : Fx K xn qual st f := ⟨⟨oc, od, kV, doc, pm, an, cdv, ct, osl, l, c⟩, k⟩
theorem Fg.up {P : Program} {w : World} {K : PySem.W.Frag} {mg : Str → Option Value} {base : Heap} {xn : Str} {j k : Nat} {ps : List Str} {g : GG} (F : Fg P w K mg base xn j ps g) (h : j ≤ k) : Fg P w K mg base xn k ps g := by
  obtain ⟨f, fd, a, b, c, d⟩ := F
  exact ⟨f, fd, a.mono h, b, c, d⟩
theorem Mt.up {P : Program} {w : World} {K : PySem.W.Frag} {mg : Str → Option Value} {base : Heap} {C : Addr} {xn : Str} {j k : Nat} {ps : List Str} {g : GG} (F : Mt P w K mg base C xn j ps g) (h : j ≤ k) : Mt P w K mg base C xn k ps g := by
  obtain ⟨f, fd, a, b, c⟩ := F
  exact ⟨f, fd, a.mono h, b, c⟩
theorem Pt.up {P : Program} {w : World} {K : PySem.W.Frag} {mg : Str → Option Value} {base : Heap} {C : Addr} {xn : Str} {j k : Nat} {ps : List Str} {g : GG} (F : Pt P w K mg base C xn j ps g) (h : j ≤ k) : Pt P w K mg base C xn k ps g := by
  obtain ⟨p, f, fd, a, b, c⟩ := F
  exact ⟨p, f, fd, a.mono h, b, c⟩
theorem kit_self {K : PySem.W.Frag} {C : Addr} : PySem.W.kitOne K (.ref C) (.ref C) = some true := by
  unfold PySem.W.kitOne
  rw [if_pos (by simp)]
section
variable {K : PySem.W.Frag} {B bE nB : Addr} {nmB qB : Str} {bsB : List Value} {snB : List Str} {subB : List Value} {abB : Bool} {colB : Option Bool} {ddB : Option Addr} {k0 k1 k2 k3 k5 : Option Value}
theorem exc_ini (h : K.lookup B = some (PySem.excClassObj nmB qB B nB bsB [.ref bE, .type "Exception", .type "BaseException", .type "object"] true snB subB abB colB ddB k0 k1 k2 k3 k5 "Exception.__new__")) : PySem.W.excInitIn K B tailE "Exception.__new__" = true := by
  unfold PySem.W.excInitIn
  rw [h]
  show ((B == B) && ("Exception.__new__" == "Exception.__new__") && !false && PySem.W.excTail tailE [.ref bE, .type "Exception", .type "BaseException", .type "object"]) = true
  rw [show (B == B) = true by simp]
  show (true && ("Exception.__new__" == "Exception.__new__") && !false && PySem.W.excTail tailE [.type "Exception", .type "BaseException", .type "object"]) = true
  decide +kernel
theorem exc_ovr (h : K.lookup B = some (PySem.excClassObj nmB qB B nB bsB [.ref bE, .type "Exception", .type "BaseException", .type "object"] true snB subB abB colB ddB k0 k1 k2 k3 k5 "Exception.__new__")) : PySem.W.excOver K B tailE = true := by
  unfold PySem.W.excOver PySem.W.clsIn
  rw [h]
  show ((B == B) && PySem.W.excTail tailE [.ref bE, .type "Exception", .type "BaseException", .type "object"]) = true
  rw [show (B == B) = true by simp]
  show (true && PySem.W.excTail tailE [.type "Exception", .type "BaseException", .type "object"]) = true
  decide +kernel
theorem exm_own (h1 : PySem.W.subIn K (.ref B) (.type "BaseException") = some true) (h2 : PySem.W.isClsIn K B = true) (h3 : PySem.W.typeIn K (.ref B) = some (.type "type")) (h4 : PySem.W.subIn K (.ref B) (.ref B) = some true) : PySem.W.exmOne K (.ref B) (.ref B) = some true := by
  unfold PySem.W.exmOne
  rw [h1, if_pos (by decide)]
  unfold PySem.W.kitCls
  have h5 : (PySem.W.clsIn K B).isSome = true := h2
  simp only [h3, h5]
  exact h4
end
theorem exm_not {K : PySem.W.Frag} {A B : Addr} (h1 : PySem.W.subIn K (.ref B) (.type "BaseException") = some true) (h2 : PySem.W.isClsIn K B = true) (h3 : PySem.W.typeIn K (.ref B) = some (.type "type")) (h4 : PySem.W.subIn K (.ref A) (.ref B) = some false) : PySem.W.exmOne K (.ref A) (.ref B) = some false := by
  unfold PySem.W.exmOne
  rw [h1, if_pos (by decide)]
  unfold PySem.W.kitCls
  have h5 : (PySem.W.clsIn K B).isSome = true := h2
  simp only [h3, h5]
  exact h4
theorem Fx.at_ {K : PySem.W.Frag} {xn qual : Str} {st : Stmt} {f : Addr} (x : Fx K xn qual st f) : ∃ fd, Fun K xn qual st f fd := by
  obtain ⟨oc, od, kV, doc, pm, an, cdv, ct, osl, l, c⟩ := x.l
  exact ⟨_, fun_mk l c x.k⟩
theorem all_mk {l : PySem.W.OpenLaw} {w : World} {K : PySem.W.Frag} {h : Heap} {mg : Str → Option Value} {fa : Addr} (X : K.In h) (G : h.Ns mainGlobals mg) (hfa : mg "law" = some (.ref fa))
    {f_is_int : Addr}
    (a_is_int : PySem.W.nsIn K mainGlobals "is_int" = some (some (.ref f_is_int)))
    (d_is_int : Fx K "is_int" "is_int" (topS 11) f_is_int)
    {f_check_int : Addr}
    (a_check_int : PySem.W.nsIn K mainGlobals "check_int" = some (some (.ref f_check_int)))
    (d_check_int : Fx K "check_int" "check_int" (topS 12) f_check_int)
    {f_choose : Addr}
    (a_choose : PySem.W.nsIn K mainGlobals "choose" = some (some (.ref f_choose)))
    (d_choose : Fx K "choose" "choose" (topS 13) f_choose)
    {f_check_size : Addr}
    (a_check_size : PySem.W.nsIn K mainGlobals "check_size" = some (some (.ref f_check_size)))
    (d_check_size : Fx K "check_size" "check_size" (topS 16) f_check_size)
    {f_check_line : Addr}
    (a_check_line : PySem.W.nsIn K mainGlobals "check_line" = some (some (.ref f_check_line)))
    (d_check_line : Fx K "check_line" "check_line" (topS 17) f_check_line)
    {f_pairs_in : Addr}
    (a_pairs_in : PySem.W.nsIn K mainGlobals "pairs_in" = some (some (.ref f_pairs_in)))
    (d_pairs_in : Fx K "pairs_in" "pairs_in" (topS 18) f_pairs_in)
    {f_threes_in : Addr}
    (a_threes_in : PySem.W.nsIn K mainGlobals "threes_in" = some (some (.ref f_threes_in)))
    (d_threes_in : Fx K "threes_in" "threes_in" (topS 19) f_threes_in)
    {f_fours_in : Addr}
    (a_fours_in : PySem.W.nsIn K mainGlobals "fours_in" = some (some (.ref f_fours_in)))
    (d_fours_in : Fx K "fours_in" "fours_in" (topS 20) f_fours_in)
    {f_is_sign : Addr}
    (a_is_sign : PySem.W.nsIn K mainGlobals "is_sign" = some (some (.ref f_is_sign)))
    (d_is_sign : Fx K "is_sign" "is_sign" (topS 27) f_is_sign)
    {f_check_signs : Addr}
    (a_check_signs : PySem.W.nsIn K mainGlobals "check_signs" = some (some (.ref f_check_signs)))
    (d_check_signs : Fx K "check_signs" "check_signs" (topS 28) f_check_signs)
    {f_changes : Addr}
    (a_changes : PySem.W.nsIn K mainGlobals "changes" = some (some (.ref f_changes)))
    (d_changes : Fx K "changes" "changes" (topS 29) f_changes)
    {f_good_row : Addr}
    (a_good_row : PySem.W.nsIn K mainGlobals "good_row" = some (some (.ref f_good_row)))
    (d_good_row : Fx K "good_row" "good_row" (topS 30) f_good_row)
    {f_signs_of_four : Addr}
    (a_signs_of_four : PySem.W.nsIn K mainGlobals "signs_of_four" = some (some (.ref f_signs_of_four)))
    (d_signs_of_four : Fx K "signs_of_four" "signs_of_four" (topS 31) f_signs_of_four)
    {f_lot_from_lines : Addr}
    (a_lot_from_lines : PySem.W.nsIn K mainGlobals "lot_from_lines" = some (some (.ref f_lot_from_lines)))
    (d_lot_from_lines : Fx K "lot_from_lines" "lot_from_lines" (topS 25) f_lot_from_lines)
    {f_lot_of : Addr}
    (a_lot_of : PySem.W.nsIn K mainGlobals "lot_of" = some (some (.ref f_lot_of)))
    (d_lot_of : Fx K "lot_of" "lot_of" (topS 22) f_lot_of)
    {f_check_chart : Addr}
    (a_check_chart : PySem.W.nsIn K mainGlobals "check_chart" = some (some (.ref f_check_chart)))
    (d_check_chart : Fx K "check_chart" "check_chart" (topS 32) f_check_chart)
    {f_check_sound : Addr}
    (a_check_sound : PySem.W.nsIn K mainGlobals "check_sound" = some (some (.ref f_check_sound)))
    (d_check_sound : Fx K "check_sound" "check_sound" (topS 33) f_check_sound)
    {f_is_wrong : Addr}
    (a_is_wrong : PySem.W.nsIn K mainGlobals "is_wrong" = some (some (.ref f_is_wrong)))
    (d_is_wrong : Fx K "is_wrong" "is_wrong" (topS 43) f_is_wrong)
    {f_wrong_in : Addr}
    (a_wrong_in : PySem.W.nsIn K mainGlobals "wrong_in" = some (some (.ref f_wrong_in)))
    (d_wrong_in : Fx K "wrong_in" "wrong_in" (topS 42) f_wrong_in)
    {f_first_wrong : Addr}
    (a_first_wrong : PySem.W.nsIn K mainGlobals "first_wrong" = some (some (.ref f_first_wrong)))
    (d_first_wrong : Fx K "first_wrong" "first_wrong" (topS 41) f_first_wrong)
    {f_is_place : Addr}
    (a_is_place : PySem.W.nsIn K mainGlobals "is_place" = some (some (.ref f_is_place)))
    (d_is_place : Fx K "is_place" "is_place" (topS 40) f_is_place)
    {f_wrong_three : Addr}
    (a_wrong_three : PySem.W.nsIn K mainGlobals "wrong_three" = some (some (.ref f_wrong_three)))
    (d_wrong_three : Fx K "wrong_three" "wrong_three" (topS 38) f_wrong_three)
    {f_wrong_count : Addr}
    (a_wrong_count : PySem.W.nsIn K mainGlobals "wrong_count" = some (some (.ref f_wrong_count)))
    (d_wrong_count : Fx K "wrong_count" "wrong_count" (topS 39) f_wrong_count)
    {f__law_pool : Addr}
    (a__law_pool : PySem.W.nsIn K mainGlobals "_law_pool" = some (some (.ref f__law_pool)))
    (d__law_pool : Fx K "_law_pool" "_law_pool" (topS 45) f__law_pool)
    {f__law_next : Addr}
    (a__law_next : PySem.W.nsIn K mainGlobals "_law_next" = some (some (.ref f__law_next)))
    (d__law_next : Fx K "_law_next" "_law_next" (topS 46) f__law_next)
    {f__law_size : Addr}
    (a__law_size : PySem.W.nsIn K mainGlobals "_law_size" = some (some (.ref f__law_size)))
    (d__law_size : Fx K "_law_size" "_law_size" (topS 47) f__law_size)
    {f__law_turns : Addr}
    (a__law_turns : PySem.W.nsIn K mainGlobals "_law_turns" = some (some (.ref f__law_turns)))
    (d__law_turns : Fx K "_law_turns" "_law_turns" (topS 48) f__law_turns)
    {f__law_rows : Addr}
    (a__law_rows : PySem.W.nsIn K mainGlobals "_law_rows" = some (some (.ref f__law_rows)))
    (d__law_rows : Fx K "_law_rows" "_law_rows" (topS 49) f__law_rows)
    {f__law_times : Addr}
    (a__law_times : PySem.W.nsIn K mainGlobals "_law_times" = some (some (.ref f__law_times)))
    (d__law_times : Fx K "_law_times" "_law_times" (topS 50) f__law_times)
    {f__law_table : Addr}
    (a__law_table : PySem.W.nsIn K mainGlobals "_law_table" = some (some (.ref f__law_table)))
    (d__law_table : Fx K "_law_table" "_law_table" (topS 51) f__law_table)
    {f__law_signs : Addr}
    (a__law_signs : PySem.W.nsIn K mainGlobals "_law_signs" = some (some (.ref f__law_signs)))
    (d__law_signs : Fx K "_law_signs" "_law_signs" (topS 52) f__law_signs)
    {f__law_chart : Addr}
    (a__law_chart : PySem.W.nsIn K mainGlobals "_law_chart" = some (some (.ref f__law_chart)))
    (d__law_chart : Fx K "_law_chart" "_law_chart" (topS 53) f__law_chart)
    {f__law_wrong : Addr}
    (a__law_wrong : PySem.W.nsIn K mainGlobals "_law_wrong" = some (some (.ref f__law_wrong)))
    (d__law_wrong : Fx K "_law_wrong" "_law_wrong" (topS 54) f__law_wrong)
    {f__law_lot : Addr}
    (a__law_lot : PySem.W.nsIn K mainGlobals "_law_lot" = some (some (.ref f__law_lot)))
    (d__law_lot : Fx K "_law_lot" "_law_lot" (topS 55) f__law_lot)
    {f__law_places : Addr}
    (a__law_places : PySem.W.nsIn K mainGlobals "_law_places" = some (some (.ref f__law_places)))
    (d__law_places : Fx K "_law_places" "_law_places" (topS 56) f__law_places)
    {f__law_knots : Addr}
    (a__law_knots : PySem.W.nsIn K mainGlobals "_law_knots" = some (some (.ref f__law_knots)))
    (d__law_knots : Fx K "_law_knots" "_law_knots" (topS 57) f__law_knots)
    {f__law_int : Addr}
    (a__law_int : PySem.W.nsIn K mainGlobals "_law_int" = some (some (.ref f__law_int)))
    (d__law_int : Fx K "_law_int" "_law_int" (topS 58) f__law_int)
    {f__law_spot_case : Addr}
    (a__law_spot_case : PySem.W.nsIn K mainGlobals "_law_spot_case" = some (some (.ref f__law_spot_case)))
    (d__law_spot_case : Fx K "_law_spot_case" "_law_spot_case" (topS 59) f__law_spot_case)
    {f__law_spots : Addr}
    (a__law_spots : PySem.W.nsIn K mainGlobals "_law_spots" = some (some (.ref f__law_spots)))
    (d__law_spots : Fx K "_law_spots" "_law_spots" (topS 60) f__law_spots)
    {f__law_subsets : Addr}
    (a__law_subsets : PySem.W.nsIn K mainGlobals "_law_subsets" = some (some (.ref f__law_subsets)))
    (d__law_subsets : Fx K "_law_subsets" "_law_subsets" (topS 61) f__law_subsets)
    {f__law_hand : Addr}
    (a__law_hand : PySem.W.nsIn K mainGlobals "_law_hand" = some (some (.ref f__law_hand)))
    (d__law_hand : Fx K "_law_hand" "_law_hand" (topS 62) f__law_hand)
    {f__law_wrong_three : Addr}
    (a__law_wrong_three : PySem.W.nsIn K mainGlobals "_law_wrong_three" = some (some (.ref f__law_wrong_three)))
    (d__law_wrong_three : Fx K "_law_wrong_three" "_law_wrong_three" (topS 63) f__law_wrong_three)
    {f__law_steady : Addr}
    (a__law_steady : PySem.W.nsIn K mainGlobals "_law_steady" = some (some (.ref f__law_steady)))
    (d__law_steady : Fx K "_law_steady" "_law_steady" (topS 64) f__law_steady)
    {f__law_good : Addr}
    (a__law_good : PySem.W.nsIn K mainGlobals "_law_good" = some (some (.ref f__law_good)))
    (d__law_good : Fx K "_law_good" "_law_good" (topS 65) f__law_good)
    {f__law_bad_four : Addr}
    (a__law_bad_four : PySem.W.nsIn K mainGlobals "_law_bad_four" = some (some (.ref f__law_bad_four)))
    (d__law_bad_four : Fx K "_law_bad_four" "_law_bad_four" (topS 66) f__law_bad_four)
    {f__law_spoiled : Addr}
    (a__law_spoiled : PySem.W.nsIn K mainGlobals "_law_spoiled" = some (some (.ref f__law_spoiled)))
    (d__law_spoiled : Fx K "_law_spoiled" "_law_spoiled" (topS 67) f__law_spoiled)
    {f__law_lot_is : Addr}
    (a__law_lot_is : PySem.W.nsIn K mainGlobals "_law_lot_is" = some (some (.ref f__law_lot_is)))
    (d__law_lot_is : Fx K "_law_lot_is" "_law_lot_is" (topS 68) f__law_lot_is)
    {f__law_bool_is : Addr}
    (a__law_bool_is : PySem.W.nsIn K mainGlobals "_law_bool_is" = some (some (.ref f__law_bool_is)))
    (d__law_bool_is : Fx K "_law_bool_is" "_law_bool_is" (topS 69) f__law_bool_is)
    {f__law_told_right : Addr}
    (a__law_told_right : PySem.W.nsIn K mainGlobals "_law_told_right" = some (some (.ref f__law_told_right)))
    (d__law_told_right : Fx K "_law_told_right" "_law_told_right" (topS 70) f__law_told_right)
    {f__law_lot_right : Addr}
    (a__law_lot_right : PySem.W.nsIn K mainGlobals "_law_lot_right" = some (some (.ref f__law_lot_right)))
    (d__law_lot_right : Fx K "_law_lot_right" "_law_lot_right" (topS 71) f__law_lot_right)
    {f__law_look_told : Addr}
    (a__law_look_told : PySem.W.nsIn K mainGlobals "_law_look_told" = some (some (.ref f__law_look_told)))
    (d__law_look_told : Fx K "_law_look_told" "_law_look_told" (topS 74) f__law_look_told)
    {f__law_looks_refuse : Addr}
    (a__law_looks_refuse : PySem.W.nsIn K mainGlobals "_law_looks_refuse" = some (some (.ref f__law_looks_refuse)))
    (d__law_looks_refuse : Fx K "_law_looks_refuse" "_law_looks_refuse" (topS 75) f__law_looks_refuse)
    {f__law_spoiled_right : Addr}
    (a__law_spoiled_right : PySem.W.nsIn K mainGlobals "_law_spoiled_right" = some (some (.ref f__law_spoiled_right)))
    (d__law_spoiled_right : Fx K "_law_spoiled_right" "_law_spoiled_right" (topS 72) f__law_spoiled_right)
    {f__law_apart_right : Addr}
    (a__law_apart_right : PySem.W.nsIn K mainGlobals "_law_apart_right" = some (some (.ref f__law_apart_right)))
    (d__law_apart_right : Fx K "_law_apart_right" "_law_apart_right" (topS 73) f__law_apart_right)
    {fL : Addr}
    (aL : PySem.W.nsIn K mainGlobals "law" = some (some (.ref fL)))
    (dL : Fx K "law" "law" (topS 76) fL)
    (zIsi0 : PySem.W.nsIn K mainGlobals "isinstance" = some none)
    (zInt0 : PySem.W.nsIn K mainGlobals "int" = some none)
    (zBool0 : PySem.W.nsIn K mainGlobals "bool" = some none)
    (zList0 : PySem.W.nsIn K mainGlobals "list" = some none)
    (zTuple0 : PySem.W.nsIn K mainGlobals "tuple" = some none)
    (zLen0 : PySem.W.nsIn K mainGlobals "len" = some none)
    (zEnum0 : PySem.W.nsIn K mainGlobals "enumerate" = some none)
    (zSorted0 : PySem.W.nsIn K mainGlobals "sorted" = some none)
    (zAll0 : PySem.W.nsIn K mainGlobals "all" = some none)
    (zRange0 : PySem.W.nsIn K mainGlobals "range" = some none)
    (zDict0 : PySem.W.nsIn K mainGlobals "dict" = some none)
    (zZip0 : PySem.W.nsIn K mainGlobals "zip" = some none)
    (zMin0 : PySem.W.nsIn K mainGlobals "min" = some none)
    (zMax0 : PySem.W.nsIn K mainGlobals "max" = some none)
    (zSum0 : PySem.W.nsIn K mainGlobals "sum" = some none)
    (vComb0 : PySem.W.nsIn K mainGlobals "comb" = some (some (.builtin "math.comb")))
    {tk : Tok}
    (vMost0 : PySem.W.nsIn K mainGlobals "MOST_LINES" = some (some (.int 16 tk)))
    {C : Addr}
    (vC0 : PySem.W.nsIn K mainGlobals "Chart" = some (some (.ref C)))
    (pg : PySem.W.plainGet K C Str.empty = true)
    (hd : PySem.W.hasDictIn K C = true)
    (po : PySem.W.plainOver K C = true)
    (sa : PySem.W.findIn K (.ref C) "__setattr__" = some (some (.builtin "object.__setattr__")))
    (n1 : PySem.W.findIn K (.ref C) "size" = some none)
    (n2 : PySem.W.findIn K (.ref C) "signs" = some none)
    (n3 : PySem.W.findIn K (.ref C) "lines" = some none)
    (n4 : PySem.W.findIn K (.ref C) "_table" = some none)
    (o1 : PySem.W.findIn K (.ref C) "__class__" = some (some (.builtin "object.__class__")))
    (o2 : PySem.W.specialIn K (.builtin "object.__class__") "__get__" = some (some (.builtin "getset_descriptor.__get__")))
    (o3 : PySem.W.takesIn K (.builtin "object.__class__") = some true)
    (o4 : PySem.W.mroIn K C (.type "object") = some true)
    (mk : PySem.W.makesIn K C = true)
    (kC : PySem.W.keepIn K (.ref C) = true)
    (cl1 : PySem.W.isClsIn K C = true)
    (cl2 : PySem.W.typeIn K (.ref C) = some (.type "type"))
    (w_None : PySem.W.subIn K (.type "NoneType") (.ref C) = some false)
    {f_lot_sign : Addr}
    (m1lot_sign : PySem.W.findIn K (.ref C) "lot_sign" = some (some (.ref f_lot_sign)))
    (m2lot_sign : PySem.W.isFn K (.ref f_lot_sign) = true)
    (d_lot_sign : Fx K "lot_sign" "Chart.lot_sign" (inClass (topS 36) 8) f_lot_sign)
    {p_bad f_bad : Addr} {r_bad : List Value}
    (b1bad : PySem.W.findIn K (.ref C) "bad" = some (some (.ref p_bad)))
    (b2bad : PySem.W.specialIn K (.ref p_bad) "__get__" = some (some (.builtin "property.__get__")))
    (b3bad : PySem.W.takesIn K (.ref p_bad) = some true)
    (b4bad : PySem.W.recIn K p_bad "property" = some (.ref f_bad :: r_bad))
    (d_bad : Fx K "bad" "Chart.bad" (inClass (topS 36) 4) f_bad)
    {f___init__ : Addr}
    (m1__init__ : PySem.W.findIn K (.ref C) "__init__" = some (some (.ref f___init__)))
    (m2__init__ : PySem.W.isFn K (.ref f___init__) = true)
    (d___init__ : Fx K "__init__" "Chart.__init__" (inClass (topS 36) 1) f___init__)
    {CBadKind FBadKind EBadKind NBadKind : Addr} {nmBadKind qBadKind : Str} {bsBadKind : List Value} {snBadKind : List Str} {subBadKind : List Value} {abBadKind : Bool} {colBadKind : Option Bool} {ddBadKind : Option Addr} {uBadKind vBadKind wBadKind xBadKind yBadKind : Option Value}
    (x0BadKind : PySem.W.nsIn K mainGlobals "BadKind" = some (some (.ref CBadKind)))
    (x1BadKind : K.lookup CBadKind = some (PySem.excClassObj nmBadKind qBadKind CBadKind NBadKind bsBadKind [.ref EBadKind, .type "Exception", .type "BaseException", .type "object"] true snBadKind subBadKind abBadKind colBadKind ddBadKind uBadKind vBadKind wBadKind xBadKind yBadKind "Exception.__new__"))
    (x2BadKind : PySem.W.isClsIn K CBadKind = true)
    (x3BadKind : PySem.W.hasDictIn K CBadKind = true)
    (x4BadKind : PySem.W.findIn K (.ref CBadKind) "__setattr__" = some (some (.builtin "object.__setattr__")))
    (x5BadKind : PySem.W.findIn K (.ref CBadKind) "__getattribute__" = some (some (.builtin "BaseException.__getattribute__")))
    (x6BadKind : PySem.W.findIn K (.ref CBadKind) "__getattr__" = some none)
    (x7BadKind : PySem.W.findIn K (.ref CBadKind) "word" = some none)
    (x8BadKind : PySem.W.findIn K (.ref CBadKind) "__init__" = some (some (.ref FBadKind)))
    (x9BadKind : PySem.W.typeIn K (.ref FBadKind) = some (.type "function"))
    (x10BadKind : PySem.W.keepIn K (.ref CBadKind) = true)
    (x11BadKind : PySem.W.subIn K (.ref CBadKind) (.type "BaseException") = some true)
    (x12BadKind : PySem.W.typeIn K (.ref CBadKind) = some (.type "type"))
    (x13BadKind : PySem.W.subIn K (.ref CBadKind) (.ref CBadKind) = some true)
    (xdBadKind : Fx K "__init__" "BadKind.__init__" sBKB FBadKind)
    {CBadLine FBadLine EBadLine NBadLine : Addr} {nmBadLine qBadLine : Str} {bsBadLine : List Value} {snBadLine : List Str} {subBadLine : List Value} {abBadLine : Bool} {colBadLine : Option Bool} {ddBadLine : Option Addr} {uBadLine vBadLine wBadLine xBadLine yBadLine : Option Value}
    (x0BadLine : PySem.W.nsIn K mainGlobals "BadLine" = some (some (.ref CBadLine)))
    (x1BadLine : K.lookup CBadLine = some (PySem.excClassObj nmBadLine qBadLine CBadLine NBadLine bsBadLine [.ref EBadLine, .type "Exception", .type "BaseException", .type "object"] true snBadLine subBadLine abBadLine colBadLine ddBadLine uBadLine vBadLine wBadLine xBadLine yBadLine "Exception.__new__"))
    (x2BadLine : PySem.W.isClsIn K CBadLine = true)
    (x3BadLine : PySem.W.hasDictIn K CBadLine = true)
    (x4BadLine : PySem.W.findIn K (.ref CBadLine) "__setattr__" = some (some (.builtin "object.__setattr__")))
    (x5BadLine : PySem.W.findIn K (.ref CBadLine) "__getattribute__" = some (some (.builtin "BaseException.__getattribute__")))
    (x6BadLine : PySem.W.findIn K (.ref CBadLine) "__getattr__" = some none)
    (x7BadLine : PySem.W.findIn K (.ref CBadLine) "line" = some none)
    (x8BadLine : PySem.W.findIn K (.ref CBadLine) "__init__" = some (some (.ref FBadLine)))
    (x9BadLine : PySem.W.typeIn K (.ref FBadLine) = some (.type "function"))
    (x10BadLine : PySem.W.keepIn K (.ref CBadLine) = true)
    (x11BadLine : PySem.W.subIn K (.ref CBadLine) (.type "BaseException") = some true)
    (x12BadLine : PySem.W.typeIn K (.ref CBadLine) = some (.type "type"))
    (x13BadLine : PySem.W.subIn K (.ref CBadLine) (.ref CBadLine) = some true)
    (xdBadLine : Fx K "__init__" "BadLine.__init__" sBKL FBadLine)
    {CUnsound FUnsound EUnsound NUnsound : Addr} {nmUnsound qUnsound : Str} {bsUnsound : List Value} {snUnsound : List Str} {subUnsound : List Value} {abUnsound : Bool} {colUnsound : Option Bool} {ddUnsound : Option Addr} {uUnsound vUnsound wUnsound xUnsound yUnsound : Option Value}
    (x0Unsound : PySem.W.nsIn K mainGlobals "Unsound" = some (some (.ref CUnsound)))
    (x1Unsound : K.lookup CUnsound = some (PySem.excClassObj nmUnsound qUnsound CUnsound NUnsound bsUnsound [.ref EUnsound, .type "Exception", .type "BaseException", .type "object"] true snUnsound subUnsound abUnsound colUnsound ddUnsound uUnsound vUnsound wUnsound xUnsound yUnsound "Exception.__new__"))
    (x2Unsound : PySem.W.isClsIn K CUnsound = true)
    (x3Unsound : PySem.W.hasDictIn K CUnsound = true)
    (x4Unsound : PySem.W.findIn K (.ref CUnsound) "__setattr__" = some (some (.builtin "object.__setattr__")))
    (x5Unsound : PySem.W.findIn K (.ref CUnsound) "__getattribute__" = some (some (.builtin "BaseException.__getattribute__")))
    (x6Unsound : PySem.W.findIn K (.ref CUnsound) "__getattr__" = some none)
    (x7Unsound : PySem.W.findIn K (.ref CUnsound) "four" = some none)
    (x8Unsound : PySem.W.findIn K (.ref CUnsound) "__init__" = some (some (.ref FUnsound)))
    (x9Unsound : PySem.W.typeIn K (.ref FUnsound) = some (.type "function"))
    (x10Unsound : PySem.W.keepIn K (.ref CUnsound) = true)
    (x11Unsound : PySem.W.subIn K (.ref CUnsound) (.type "BaseException") = some true)
    (x12Unsound : PySem.W.typeIn K (.ref CUnsound) = some (.type "type"))
    (x13Unsound : PySem.W.subIn K (.ref CUnsound) (.ref CUnsound) = some true)
    (xdUnsound : Fx K "__init__" "Unsound.__init__" sBKU FUnsound)
    (w_BadLine_BadKind : PySem.W.subIn K (.ref CBadLine) (.ref CBadKind) = some false)
    (w_Unsound_BadKind : PySem.W.subIn K (.ref CUnsound) (.ref CBadKind) = some false)
    (w_Unsound_BadLine : PySem.W.subIn K (.ref CUnsound) (.ref CBadLine) = some false) :
    ∃ fd : FuncData, (∀ (s : Shared) (v : Value), BindsTo s fd ⟨[v], []⟩ [("_law_script", v)]) ∧ ∀ base : Heap, K.In base → base.Ns mainGlobals mg → FnOk l.prog w K mg base CX0 10 fa fd ["_law_script"] (spF K gLaw) := by
  have e := hfa.symm.trans (PySem.W.mg_of X G aL)
  cases e
  have zIsi : mg "isinstance" = none := PySem.W.mg_none_of X G zIsi0
  have zInt : mg "int" = none := PySem.W.mg_none_of X G zInt0
  have zBool : mg "bool" = none := PySem.W.mg_none_of X G zBool0
  have zList : mg "list" = none := PySem.W.mg_none_of X G zList0
  have zTuple : mg "tuple" = none := PySem.W.mg_none_of X G zTuple0
  have zLen : mg "len" = none := PySem.W.mg_none_of X G zLen0
  have zEnum : mg "enumerate" = none := PySem.W.mg_none_of X G zEnum0
  have zSorted : mg "sorted" = none := PySem.W.mg_none_of X G zSorted0
  have zAll : mg "all" = none := PySem.W.mg_none_of X G zAll0
  have zRange : mg "range" = none := PySem.W.mg_none_of X G zRange0
  have zDict : mg "dict" = none := PySem.W.mg_none_of X G zDict0
  have zZip : mg "zip" = none := PySem.W.mg_none_of X G zZip0
  have zMin : mg "min" = none := PySem.W.mg_none_of X G zMin0
  have zMax : mg "max" = none := PySem.W.mg_none_of X G zMax0
  have zSum : mg "sum" = none := PySem.W.mg_none_of X G zSum0
  have vComb := PySem.W.mg_of X G vComb0
  have vMost := PySem.W.mg_of X G vMost0
  have vC := PySem.W.mg_of X G vC0
  have T : ChTxt K C := ⟨⟨pg, hd, po, sa⟩, n1, n2, n3, n4⟩
  have oC : OwnC K C := ⟨T.cl, o1, o2, o3, o4, kit_self⟩
  have M : Mk K C f___init__ := ⟨mk, m1__init__, m2__init__, kC⟩
  have vBadKind := PySem.W.mg_of X G x0BadKind
  have TBadKind : BTxt K CBadKind FBadKind := ⟨exc_ini x1BadKind, exc_ovr x1BadKind, x3BadKind, x4BadKind, x5BadKind, x6BadKind, x7BadKind, x8BadKind, x9BadKind, x10BadKind, x11BadKind, x12BadKind, exm_own x11BadKind x2BadKind x12BadKind x13BadKind, xdBadKind.l⟩
  have vBadLine := PySem.W.mg_of X G x0BadLine
  have TBadLine : LTxt K CBadLine FBadLine := ⟨exc_ini x1BadLine, exc_ovr x1BadLine, x3BadLine, x4BadLine, x5BadLine, x6BadLine, x7BadLine, x8BadLine, x9BadLine, x10BadLine, x11BadLine, x12BadLine, exm_own x11BadLine x2BadLine x12BadLine x13BadLine, xdBadLine.l⟩
  have vUnsound := PySem.W.mg_of X G x0Unsound
  have TUnsound : UTxt K CUnsound FUnsound := ⟨exc_ini x1Unsound, exc_ovr x1Unsound, x3Unsound, x4Unsound, x5Unsound, x6Unsound, x7Unsound, x8Unsound, x9Unsound, x10Unsound, x11Unsound, x12Unsound, exm_own x11Unsound x2Unsound x12Unsound x13Unsound, xdUnsound.l⟩
  have q_BadLine_BadKind : PySem.W.exmOne K (.ref CBadLine) (.ref CBadKind) = some false := exm_not x11BadKind x2BadKind x12BadKind w_BadLine_BadKind
  have q_Unsound_BadKind : PySem.W.exmOne K (.ref CUnsound) (.ref CBadKind) = some false := exm_not x11BadKind x2BadKind x12BadKind w_Unsound_BadKind
  have q_Unsound_BadLine : PySem.W.exmOne K (.ref CUnsound) (.ref CBadLine) = some false := exm_not x11BadLine x2BadLine x12BadLine w_Unsound_BadLine
  have kNo : PySem.W.kitOne K (.type "NoneType") (.ref C) = some false := kit_no cl1 cl2 w_None
  obtain ⟨oc1, od1, kV1, doc1, pm1, an1, cdv1, ct1, osl1, l1, c1⟩ := dL.l
  refine ⟨PySem.W.fnOf "law" "law" (defArgs (topS 76)) (defBody (topS 76)) (defScope (topS 76)) .none kV1 doc1 pm1 an1 cdv1 ct1, fun s v => .of_eq rfl, fun base KB GB => ?_⟩
  have FL := fun_mk (st := topS 76) l1 c1 dL.k
  have g_is_int : Fg l.prog w K mg base "is_int" 1 ["value"] gIsInt := by
    obtain ⟨oc, od, kV, doc, pm, an, cdv, ct, osl, l2, c2⟩ := d_is_int.l
    have F := fun_mk (st := topS 11) l2 c2 d_is_int.k
    exact ⟨f_is_int, _, ok_isInt (k := 0) F zIsi zInt zBool, PySem.W.mg_of X G a_is_int, d_is_int.k, F.binds (ps := ["value"]) fun _ _ _ _ _ _ us hl => match us, hl with | [_], _ => rfl⟩
  have g_check_int : Fg l.prog w K mg base "check_int" 2 ["value", "word", "least", "most"] gCheckInt := by
    obtain ⟨oc, od, kV, doc, pm, an, cdv, ct, osl, l2, c2⟩ := d_check_int.l
    have F := fun_mk (st := topS 12) l2 c2 d_check_int.k
    exact ⟨f_check_int, _, ok_checkInt (k := 1) F (g_is_int.up (by decide : 1 ≤ 1)), PySem.W.mg_of X G a_check_int, d_check_int.k, F.binds (ps := ["value", "word", "least", "most"]) fun _ _ _ _ _ _ us hl => match us, hl with | [_, _, _, _], _ => rfl⟩
  have g_choose : Fg l.prog w K mg base "choose" 3 ["n", "k"] gChoose := by
    obtain ⟨oc, od, kV, doc, pm, an, cdv, ct, osl, l2, c2⟩ := d_choose.l
    have F := fun_mk (st := topS 13) l2 c2 d_choose.k
    exact ⟨f_choose, _, ok_choose (k := 2) F (g_check_int.up (by decide : 2 ≤ 2)) vComb, PySem.W.mg_of X G a_choose, d_choose.k, F.binds (ps := ["n", "k"]) fun _ _ _ _ _ _ us hl => match us, hl with | [_, _], _ => rfl⟩
  have g_check_size : Fg l.prog w K mg base "check_size" 3 ["size"] gCheckSize := by
    obtain ⟨oc, od, kV, doc, pm, an, cdv, ct, osl, l2, c2⟩ := d_check_size.l
    have F := fun_mk (st := topS 16) l2 c2 d_check_size.k
    exact ⟨f_check_size, _, ok_checkSize (k := 2) F (g_check_int.up (by decide : 2 ≤ 2)) vMost, PySem.W.mg_of X G a_check_size, d_check_size.k, F.binds (ps := ["size"]) fun _ _ _ _ _ _ us hl => match us, hl with | [_], _ => rfl⟩
  have g_check_line : Fg l.prog w K mg base "check_line" 2 ["line", "size"] gCheckLine := by
    obtain ⟨oc, od, kV, doc, pm, an, cdv, ct, osl, l2, c2⟩ := d_check_line.l
    have F := fun_mk (st := topS 17) l2 c2 d_check_line.k
    exact ⟨f_check_line, _, ok_checkLine (k := 1) F (g_is_int.up (by decide : 1 ≤ 1)), PySem.W.mg_of X G a_check_line, d_check_line.k, F.binds (ps := ["line", "size"]) fun _ _ _ _ _ _ us hl => match us, hl with | [_, _], _ => rfl⟩
  have g_pairs : Fg l.prog w K mg base "pairs_in" 1 ["names"] (gSub sub2) := by
    obtain ⟨oc, od, kV, doc, pm, an, cdv, ct, osl, l2, c2⟩ := d_pairs_in.l
    have F := fun_mk (st := topS 18) l2 c2 d_pairs_in.k
    exact ⟨f_pairs_in, _, ok_pairs (k := 0) F zEnum, PySem.W.mg_of X G a_pairs_in, d_pairs_in.k, F.binds (ps := ["names"]) fun _ _ _ _ _ _ us hl => match us, hl with | [_], _ => rfl⟩
  have g_threes : Fg l.prog w K mg base "threes_in" 2 ["names"] (gSub sub3) := by
    obtain ⟨oc, od, kV, doc, pm, an, cdv, ct, osl, l2, c2⟩ := d_threes_in.l
    have F := fun_mk (st := topS 19) l2 c2 d_threes_in.k
    exact ⟨f_threes_in, _, ok_threes (k := 1) F zEnum (g_pairs.up (by decide : 1 ≤ 1)), PySem.W.mg_of X G a_threes_in, d_threes_in.k, F.binds (ps := ["names"]) fun _ _ _ _ _ _ us hl => match us, hl with | [_], _ => rfl⟩
  have g_fours : Fg l.prog w K mg base "fours_in" 3 ["names"] (gSub sub4) := by
    obtain ⟨oc, od, kV, doc, pm, an, cdv, ct, osl, l2, c2⟩ := d_fours_in.l
    have F := fun_mk (st := topS 20) l2 c2 d_fours_in.k
    exact ⟨f_fours_in, _, ok_fours (k := 2) F zEnum (g_threes.up (by decide : 2 ≤ 2)), PySem.W.mg_of X G a_fours_in, d_fours_in.k, F.binds (ps := ["names"]) fun _ _ _ _ _ _ us hl => match us, hl with | [_], _ => rfl⟩
  have g_is_sign : Fg l.prog w K mg base "is_sign" 2 ["value"] gIsSign := by
    obtain ⟨oc, od, kV, doc, pm, an, cdv, ct, osl, l2, c2⟩ := d_is_sign.l
    have F := fun_mk (st := topS 27) l2 c2 d_is_sign.k
    exact ⟨f_is_sign, _, ok_isSign (k := 1) F (g_is_int.up (by decide : 1 ≤ 1)), PySem.W.mg_of X G a_is_sign, d_is_sign.k, F.binds (ps := ["value"]) fun _ _ _ _ _ _ us hl => match us, hl with | [_], _ => rfl⟩
  have g_check_signs : Fg l.prog w K mg base "check_signs" 3 ["signs", "many"] gCheckSigns := by
    obtain ⟨oc, od, kV, doc, pm, an, cdv, ct, osl, l2, c2⟩ := d_check_signs.l
    have F := fun_mk (st := topS 28) l2 c2 d_check_signs.k
    exact ⟨f_check_signs, _, ok_checkSigns (k := 2) F (g_is_sign.up (by decide : 2 ≤ 2)) zIsi zList zTuple zLen zEnum, PySem.W.mg_of X G a_check_signs, d_check_signs.k, F.binds (ps := ["signs", "many"]) fun _ _ _ _ _ _ us hl => match us, hl with | [_, _], _ => rfl⟩
  have g_changes : Fg l.prog w K mg base "changes" 1 ["row"] gChanges := by
    obtain ⟨oc, od, kV, doc, pm, an, cdv, ct, osl, l2, c2⟩ := d_changes.l
    have F := fun_mk (st := topS 29) l2 c2 d_changes.k
    exact ⟨f_changes, _, ok_changes (k := 0) F, PySem.W.mg_of X G a_changes, d_changes.k, F.binds (ps := ["row"]) fun _ _ _ _ _ _ us hl => match us, hl with | [_], _ => rfl⟩
  have g_good_row : Fg l.prog w K mg base "good_row" 2 ["row"] gGoodRow := by
    obtain ⟨oc, od, kV, doc, pm, an, cdv, ct, osl, l2, c2⟩ := d_good_row.l
    have F := fun_mk (st := topS 30) l2 c2 d_good_row.k
    exact ⟨f_good_row, _, ok_goodRow (k := 1) F (g_changes.up (by decide : 1 ≤ 1)) zAll, PySem.W.mg_of X G a_good_row, d_good_row.k, F.binds (ps := ["row"]) fun _ _ _ _ _ _ us hl => match us, hl with | [_], _ => rfl⟩
  have g_lot_sign : Mt l.prog w K mg base C "lot_sign" 1 ["self", "three"] (gLot C) := by
    obtain ⟨oc, od, kV, doc, pm, an, cdv, ct, osl, l2, c2⟩ := d_lot_sign.l
    have F := fun_mk (st := inClass (topS 36) 8) l2 c2 d_lot_sign.k
    exact ⟨f_lot_sign, _, ok_lot (k := 0) F T, ⟨m1lot_sign, m2lot_sign, d_lot_sign.k⟩, F.binds (ps := ["self", "three"]) fun _ _ _ _ _ _ us hl => match us, hl with | [_, _], _ => rfl⟩
  have g_signs4 : Fg l.prog w K mg base "signs_of_four" 2 ["chart", "four"] (gSigns4 C) := by
    obtain ⟨oc, od, kV, doc, pm, an, cdv, ct, osl, l2, c2⟩ := d_signs_of_four.l
    have F := fun_mk (st := topS 31) l2 c2 d_signs_of_four.k
    exact ⟨f_signs_of_four, _, ok_signs4 (k := 1) F T (g_lot_sign.up (by decide : 1 ≤ 1)) zTuple, PySem.W.mg_of X G a_signs_of_four, d_signs_of_four.k, F.binds (ps := ["chart", "four"]) fun _ _ _ _ _ _ us hl => match us, hl with | [_, _], _ => rfl⟩
  have g_lot_from : Fg l.prog w K mg base "lot_from_lines" 3 ["value", "size"] gLotFromS := by
    obtain ⟨oc, od, kV, doc, pm, an, cdv, ct, osl, l2, c2⟩ := d_lot_from_lines.l
    have F := fun_mk (st := topS 25) l2 c2 d_lot_from_lines.k
    exact ⟨f_lot_from_lines, _, ok_lotFromS (k := 2) F (g_check_line.up (by decide : 2 ≤ 2)) zEnum zTuple zSorted, PySem.W.mg_of X G a_lot_from_lines, d_lot_from_lines.k, F.binds (ps := ["value", "size"]) fun _ _ _ _ _ _ us hl => match us, hl with | [_, _], _ => rfl⟩
  have g_lot_of : Fg l.prog w K mg base "lot_of" 4 ["value", "size"] gLotOf := by
    obtain ⟨oc, od, kV, doc, pm, an, cdv, ct, osl, l2, c2⟩ := d_lot_of.l
    have F := fun_mk (st := topS 22) l2 c2 d_lot_of.k
    exact ⟨f_lot_of, _, ok_lotOf (k := 3) F (g_check_size.up (by decide : 3 ≤ 3)) (g_lot_from.up (by decide : 3 ≤ 3)) zIsi zList zTuple, PySem.W.mg_of X G a_lot_of, d_lot_of.k, F.binds (ps := ["value", "size"]) fun _ _ _ _ _ _ us hl => match us, hl with | [_, _], _ => rfl⟩
  have g_bad : Pt l.prog w K mg base C "bad" 4 ["self"] (gBad C) := by
    obtain ⟨oc, od, kV, doc, pm, an, cdv, ct, osl, l2, c2⟩ := d_bad.l
    have F := fun_mk (st := inClass (topS 36) 4) l2 c2 d_bad.k
    exact ⟨p_bad, f_bad, _, ok_bad (k := 3) F T (g_fours.up (by decide : 3 ≤ 3)) (g_good_row.up (by decide : 2 ≤ 3)) (g_signs4.up (by decide : 2 ≤ 3)), ⟨b1bad, b2bad, b3bad, ⟨r_bad, b4bad⟩⟩, F.binds (ps := ["self"]) fun _ _ _ _ _ _ us hl => match us, hl with | [_], _ => rfl⟩
  obtain ⟨ocinit, odinit, kVinit, docinit, pminit, aninit, cdvinit, ctinit, oslinit, linit, cinit⟩ := d___init__.l
  have Finit := fun_mk (st := inClass (topS 36) 1) linit cinit d___init__.k
  have g_init := ok_init (P := l.prog) (w := w) (mg := mg) (base := base) (k := 3) Finit T (g_check_size.up (by decide : 3 ≤ 3)) (g_check_signs.up (by decide : 3 ≤ 3)) (g_choose.up (by decide : 3 ≤ 3)) (g_threes.up (by decide : 2 ≤ 3)) zTuple zRange zDict zZip
  have b_init := Finit.binds (ps := ["self", "size", "signs"]) fun _ _ _ _ _ _ us hl => match us, hl with | [_, _, _], _ => rfl
  have g_check_chart : Fg l.prog w K mg base "check_chart" 1 ["chart"] (gCheckChart C) := by
    obtain ⟨oc, od, kV, doc, pm, an, cdv, ct, osl, l2, c2⟩ := d_check_chart.l
    have F := fun_mk (st := topS 32) l2 c2 d_check_chart.k
    exact ⟨f_check_chart, _, ok_checkChart (k := 0) F oC zIsi vC, PySem.W.mg_of X G a_check_chart, d_check_chart.k, F.binds (ps := ["chart"]) fun _ _ _ _ _ _ us hl => match us, hl with | [_], _ => rfl⟩
  have g_check_sound : Fg l.prog w K mg base "check_sound" 6 ["chart"] (gChkSound C) := by
    obtain ⟨oc, od, kV, doc, pm, an, cdv, ct, osl, l2, c2⟩ := d_check_sound.l
    have F := fun_mk (st := topS 33) l2 c2 d_check_sound.k
    exact ⟨f_check_sound, _, ok_chkSound (k := 4) F T (g_bad.up (by decide : 4 ≤ 4)), PySem.W.mg_of X G a_check_sound, d_check_sound.k, F.binds (ps := ["chart"]) fun _ _ _ _ _ _ us hl => match us, hl with | [_], _ => rfl⟩
  have g_is_wrong : Fg l.prog w K mg base "is_wrong" 2 ["chart", "lot", "three"] (gIsWrong C) := by
    obtain ⟨oc, od, kV, doc, pm, an, cdv, ct, osl, l2, c2⟩ := d_is_wrong.l
    have F := fun_mk (st := topS 43) l2 c2 d_is_wrong.k
    exact ⟨f_is_wrong, _, ok_isWrong (k := 1) F T (g_lot_sign.up (by decide : 1 ≤ 1)), PySem.W.mg_of X G a_is_wrong, d_is_wrong.k, F.binds (ps := ["chart", "lot", "three"]) fun _ _ _ _ _ _ us hl => match us, hl with | [_, _, _], _ => rfl⟩
  have g_wrong_in : Fg l.prog w K mg base "wrong_in" 3 ["chart", "lot", "lines"] (gWrongIn C) := by
    obtain ⟨oc, od, kV, doc, pm, an, cdv, ct, osl, l2, c2⟩ := d_wrong_in.l
    have F := fun_mk (st := topS 42) l2 c2 d_wrong_in.k
    exact ⟨f_wrong_in, _, ok_wrongIn (k := 2) F (g_threes.up (by decide : 2 ≤ 2)) (g_is_wrong.up (by decide : 2 ≤ 2)), PySem.W.mg_of X G a_wrong_in, d_wrong_in.k, F.binds (ps := ["chart", "lot", "lines"]) fun _ _ _ _ _ _ us hl => match us, hl with | [_, _, _], _ => rfl⟩
  have g_first_wrong : Fg l.prog w K mg base "first_wrong" 4 ["chart", "lot"] (gFirstWr C) := by
    obtain ⟨oc, od, kV, doc, pm, an, cdv, ct, osl, l2, c2⟩ := d_first_wrong.l
    have F := fun_mk (st := topS 41) l2 c2 d_first_wrong.k
    exact ⟨f_first_wrong, _, ok_firstWr (k := 3) F T (g_wrong_in.up (by decide : 3 ≤ 3)), PySem.W.mg_of X G a_first_wrong, d_first_wrong.k, F.binds (ps := ["chart", "lot"]) fun _ _ _ _ _ _ us hl => match us, hl with | [_, _], _ => rfl⟩
  have g_isPlace : Fg l.prog w K mg base "is_place" 7 ["chart", "lot"] (gIsPlace C) := by
    obtain ⟨oc, od, kV, doc, pm, an, cdv, ct, osl, l2, c2⟩ := d_is_place.l
    have F := fun_mk (st := topS 40) l2 c2 d_is_place.k
    exact ⟨f_is_place, _, ok_isPlace (k := 6) F T (g_check_chart.up (by decide : 1 ≤ 6)) (g_lot_of.up (by decide : 4 ≤ 6)) (g_check_sound.up (by decide : 6 ≤ 6)) (g_first_wrong.up (by decide : 4 ≤ 6)), PySem.W.mg_of X G a_is_place, d_is_place.k, F.binds (ps := ["chart", "lot"]) fun _ _ _ _ _ _ us hl => match us, hl with | [_, _], _ => rfl⟩
  have g_wrThree : Fg l.prog w K mg base "wrong_three" 5 ["chart", "lot"] (gWrThree C) := by
    obtain ⟨oc, od, kV, doc, pm, an, cdv, ct, osl, l2, c2⟩ := d_wrong_three.l
    have F := fun_mk (st := topS 38) l2 c2 d_wrong_three.k
    exact ⟨f_wrong_three, _, ok_wrThree (k := 4) F T (g_check_chart.up (by decide : 1 ≤ 4)) (g_lot_of.up (by decide : 4 ≤ 4)) (g_first_wrong.up (by decide : 4 ≤ 4)), PySem.W.mg_of X G a_wrong_three, d_wrong_three.k, F.binds (ps := ["chart", "lot"]) fun _ _ _ _ _ _ us hl => match us, hl with | [_, _], _ => rfl⟩
  have g_wrCount : Fg l.prog w K mg base "wrong_count" 5 ["chart", "lot"] (gWrCount C) := by
    obtain ⟨oc, od, kV, doc, pm, an, cdv, ct, osl, l2, c2⟩ := d_wrong_count.l
    have F := fun_mk (st := topS 39) l2 c2 d_wrong_count.k
    exact ⟨f_wrong_count, _, ok_wrCount (k := 4) F T (g_check_chart.up (by decide : 1 ≤ 4)) (g_lot_of.up (by decide : 4 ≤ 4)) (g_threes.up (by decide : 2 ≤ 4)) (g_is_wrong.up (by decide : 2 ≤ 4)) (g_lot_sign.up (by decide : 1 ≤ 4)), PySem.W.mg_of X G a_wrong_count, d_wrong_count.k, F.binds (ps := ["chart", "lot"]) fun _ _ _ _ _ _ us hl => match us, hl with | [_, _], _ => rfl⟩
  have g_pool : Fg l.prog w K mg base "_law_pool" 1 ["_law_script"] gPool := by
    obtain ⟨oc, od, kV, doc, pm, an, cdv, ct, osl, l2, c2⟩ := d__law_pool.l
    have F := fun_mk (st := topS 45) l2 c2 d__law_pool.k
    exact ⟨f__law_pool, _, ok_pool (k := 0) F zRange zLen zMin zInt, PySem.W.mg_of X G a__law_pool, d__law_pool.k, F.binds (ps := ["_law_script"]) fun _ _ _ _ _ _ us hl => match us, hl with | [_], _ => rfl⟩
  have g_next : Fg l.prog w K mg base "_law_next" 1 ["_law_pool_here", "_law_many"] gNext := by
    obtain ⟨oc, od, kV, doc, pm, an, cdv, ct, osl, l2, c2⟩ := d__law_next.l
    have F := fun_mk (st := topS 46) l2 c2 d__law_next.k
    exact ⟨f__law_next, _, ok_next (k := 0) F zLen zInt, PySem.W.mg_of X G a__law_next, d__law_next.k, F.binds (ps := ["_law_pool_here", "_law_many"]) fun _ _ _ _ _ _ us hl => match us, hl with | [_, _], _ => rfl⟩
  have g_size : Fg l.prog w K mg base "_law_size" 2 ["_law_pool_here", "_law_least", "_law_most"] gSize := by
    obtain ⟨oc, od, kV, doc, pm, an, cdv, ct, osl, l2, c2⟩ := d__law_size.l
    have F := fun_mk (st := topS 47) l2 c2 d__law_size.k
    exact ⟨f__law_size, _, ok_size (k := 1) F (g_next.up (by decide : 1 ≤ 1)) zInt zMax, PySem.W.mg_of X G a__law_size, d__law_size.k, F.binds (ps := ["_law_pool_here", "_law_least", "_law_most"]) fun _ _ _ _ _ _ us hl => match us, hl with | [_, _, _], _ => rfl⟩
  have g_turns : Fg l.prog w K mg base "_law_turns" 2 ["_law_pool_here", "_law_size_here", "_law_widest"] gTurns := by
    obtain ⟨oc, od, kV, doc, pm, an, cdv, ct, osl, l2, c2⟩ := d__law_turns.l
    have F := fun_mk (st := topS 48) l2 c2 d__law_turns.k
    exact ⟨f__law_turns, _, ok_turns (k := 1) F (g_next.up (by decide : 1 ≤ 1)) zRange zList zLen, PySem.W.mg_of X G a__law_turns, d__law_turns.k, F.binds (ps := ["_law_pool_here", "_law_size_here", "_law_widest"]) fun _ _ _ _ _ _ us hl => match us, hl with | [_, _, _], _ => rfl⟩
  have g_rows : Fg l.prog w K mg base "_law_rows" 1 ["_law_size_here", "_law_turns_here"] gRows := by
    obtain ⟨oc, od, kV, doc, pm, an, cdv, ct, osl, l2, c2⟩ := d__law_rows.l
    have F := fun_mk (st := topS 49) l2 c2 d__law_rows.k
    exact ⟨f__law_rows, _, ok_rows (k := 0) F zList zRange, PySem.W.mg_of X G a__law_rows, d__law_rows.k, F.binds (ps := ["_law_size_here", "_law_turns_here"]) fun _ _ _ _ _ _ us hl => match us, hl with | [_, _], _ => rfl⟩
  have g_times : Fg l.prog w K mg base "_law_times" 2 ["_law_size_here", "_law_turns_here"] gTimes := by
    obtain ⟨oc, od, kV, doc, pm, an, cdv, ct, osl, l2, c2⟩ := d__law_times.l
    have F := fun_mk (st := topS 50) l2 c2 d__law_times.k
    exact ⟨f__law_times, _, ok_times (k := 1) F (g_rows.up (by decide : 1 ≤ 1)) zLen zRange, PySem.W.mg_of X G a__law_times, d__law_times.k, F.binds (ps := ["_law_size_here", "_law_turns_here"]) fun _ _ _ _ _ _ us hl => match us, hl with | [_, _], _ => rfl⟩
  have g_table : Fg l.prog w K mg base "_law_table" 3 ["_law_size_here", "_law_turns_here"] gTable := by
    obtain ⟨oc, od, kV, doc, pm, an, cdv, ct, osl, l2, c2⟩ := d__law_table.l
    have F := fun_mk (st := topS 51) l2 c2 d__law_table.k
    exact ⟨f__law_table, _, ok_table (k := 2) F (g_times.up (by decide : 2 ≤ 2)) zRange, PySem.W.mg_of X G a__law_table, d__law_table.k, F.binds (ps := ["_law_size_here", "_law_turns_here"]) fun _ _ _ _ _ _ us hl => match us, hl with | [_, _], _ => rfl⟩
  have g_signs : Fg l.prog w K mg base "_law_signs" 1 ["_law_size_here", "_law_table_here"] gSigns := by
    obtain ⟨oc, od, kV, doc, pm, an, cdv, ct, osl, l2, c2⟩ := d__law_signs.l
    have F := fun_mk (st := topS 52) l2 c2 d__law_signs.k
    exact ⟨f__law_signs, _, ok_signs (k := 0) F zRange, PySem.W.mg_of X G a__law_signs, d__law_signs.k, F.binds (ps := ["_law_size_here", "_law_table_here"]) fun _ _ _ _ _ _ us hl => match us, hl with | [_, _], _ => rfl⟩
  have g_lchart : Fg l.prog w K mg base "_law_chart" 6 ["_law_size_here", "_law_table_here"] (gLChart C) := by
    obtain ⟨oc, od, kV, doc, pm, an, cdv, ct, osl, l2, c2⟩ := d__law_chart.l
    have F := fun_mk (st := topS 53) l2 c2 d__law_chart.k
    exact ⟨f__law_chart, _, ok_lchart (k := 4) F M (g_init.mono (by decide : 4 ≤ 4)) vC b_init (g_signs.up (by decide : 1 ≤ 5)), PySem.W.mg_of X G a__law_chart, d__law_chart.k, F.binds (ps := ["_law_size_here", "_law_table_here"]) fun _ _ _ _ _ _ us hl => match us, hl with | [_, _], _ => rfl⟩
  have g_lwrong : Fg l.prog w K mg base "_law_wrong" 1 ["_law_size_here", "_law_table_here", "_law_lot_here"] gWrong := by
    obtain ⟨oc, od, kV, doc, pm, an, cdv, ct, osl, l2, c2⟩ := d__law_wrong.l
    have F := fun_mk (st := topS 54) l2 c2 d__law_wrong.k
    exact ⟨f__law_wrong, _, ok_wrong (k := 0) F zRange, PySem.W.mg_of X G a__law_wrong, d__law_wrong.k, F.binds (ps := ["_law_size_here", "_law_table_here", "_law_lot_here"]) fun _ _ _ _ _ _ us hl => match us, hl with | [_, _, _], _ => rfl⟩
  have g_lotL : Fg l.prog w K mg base "_law_lot" 2 ["_law_pool_here", "_law_size_here"] gLotL := by
    obtain ⟨oc, od, kV, doc, pm, an, cdv, ct, osl, l2, c2⟩ := d__law_lot.l
    have F := fun_mk (st := topS 55) l2 c2 d__law_lot.k
    exact ⟨f__law_lot, _, ok_lotL (k := 1) F (g_next.up (by decide : 1 ≤ 1)) zRange, PySem.W.mg_of X G a__law_lot, d__law_lot.k, F.binds (ps := ["_law_pool_here", "_law_size_here"]) fun _ _ _ _ _ _ us hl => match us, hl with | [_, _], _ => rfl⟩
  have g_lpl : Fg l.prog w K mg base "_law_places" 2 ["_law_size_here", "_law_turns_here"] gLPlaces := by
    obtain ⟨oc, od, kV, doc, pm, an, cdv, ct, osl, l2, c2⟩ := d__law_places.l
    have F := fun_mk (st := topS 56) l2 c2 d__law_places.k
    exact ⟨f__law_places, _, ok_lpl (k := 1) F (g_rows.up (by decide : 1 ≤ 1)) zRange zSorted, PySem.W.mg_of X G a__law_places, d__law_places.k, F.binds (ps := ["_law_size_here", "_law_turns_here"]) fun _ _ _ _ _ _ us hl => match us, hl with | [_, _], _ => rfl⟩
  have g_knotsL : Fg l.prog w K mg base "_law_knots" 2 ["_law_size_here", "_law_turns_here"] gKnotsL := by
    obtain ⟨oc, od, kV, doc, pm, an, cdv, ct, osl, l2, c2⟩ := d__law_knots.l
    have F := fun_mk (st := topS 57) l2 c2 d__law_knots.k
    exact ⟨f__law_knots, _, ok_knotsL (k := 1) F (g_rows.up (by decide : 1 ≤ 1)) zLen zRange zSorted, PySem.W.mg_of X G a__law_knots, d__law_knots.k, F.binds (ps := ["_law_size_here", "_law_turns_here"]) fun _ _ _ _ _ _ us hl => match us, hl with | [_, _], _ => rfl⟩
  have g_lint : Fg l.prog w K mg base "_law_int" 1 ["_law_value"] gIsInt := by
    obtain ⟨oc, od, kV, doc, pm, an, cdv, ct, osl, l2, c2⟩ := d__law_int.l
    have F := fun_mk (st := topS 58) l2 c2 d__law_int.k
    exact ⟨f__law_int, _, ok_lint (k := 0) F zIsi zInt zBool, PySem.W.mg_of X G a__law_int, d__law_int.k, F.binds (ps := ["_law_value"]) fun _ _ _ _ _ _ us hl => match us, hl with | [_], _ => rfl⟩
  have g_spotC : Fg l.prog w K mg base "_law_spot_case" 3 ["_law_pool_here", "_law_least", "_law_most"] gSpotC := by
    obtain ⟨oc, od, kV, doc, pm, an, cdv, ct, osl, l2, c2⟩ := d__law_spot_case.l
    have F := fun_mk (st := topS 59) l2 c2 d__law_spot_case.k
    exact ⟨f__law_spot_case, _, ok_spotC (k := 2) F (g_size.up (by decide : 2 ≤ 2)) (g_next.up (by decide : 1 ≤ 2)) (g_turns.up (by decide : 2 ≤ 2)) zRange, PySem.W.mg_of X G a__law_spot_case, d__law_spot_case.k, F.binds (ps := ["_law_pool_here", "_law_least", "_law_most"]) fun _ _ _ _ _ _ us hl => match us, hl with | [_, _, _], _ => rfl⟩
  have g_spots : Fg l.prog w K mg base "_law_spots" 3 ["_law_size_here", "_law_turns_here"] gSpots := by
    obtain ⟨oc, od, kV, doc, pm, an, cdv, ct, osl, l2, c2⟩ := d__law_spots.l
    have F := fun_mk (st := topS 60) l2 c2 d__law_spots.k
    exact ⟨f__law_spots, _, ok_spots (k := 2) F (g_lpl.up (by decide : 2 ≤ 2)) zSorted zTuple, PySem.W.mg_of X G a__law_spots, d__law_spots.k, F.binds (ps := ["_law_size_here", "_law_turns_here"]) fun _ _ _ _ _ _ us hl => match us, hl with | [_, _], _ => rfl⟩
  have g_subs : Fg l.prog w K mg base "_law_subsets" 1 ["_law_size_here"] gSubs := by
    obtain ⟨oc, od, kV, doc, pm, an, cdv, ct, osl, l2, c2⟩ := d__law_subsets.l
    have F := fun_mk (st := topS 61) l2 c2 d__law_subsets.k
    exact ⟨f__law_subsets, _, ok_subs (k := 0) F zRange, PySem.W.mg_of X G a__law_subsets, d__law_subsets.k, F.binds (ps := ["_law_size_here"]) fun _ _ _ _ _ _ us hl => match us, hl with | [_], _ => rfl⟩
  have g_hand : Fg l.prog w K mg base "_law_hand" 1 ["_law_word", "_law_lot_here"] gHand := by
    obtain ⟨oc, od, kV, doc, pm, an, cdv, ct, osl, l2, c2⟩ := d__law_hand.l
    have F := fun_mk (st := topS 62) l2 c2 d__law_hand.k
    exact ⟨f__law_hand, _, ok_hand (k := 0) F zList zInt zTuple, PySem.W.mg_of X G a__law_hand, d__law_hand.k, F.binds (ps := ["_law_word", "_law_lot_here"]) fun _ _ _ _ _ _ us hl => match us, hl with | [_, _], _ => rfl⟩
  have g_lwr : Fg l.prog w K mg base "_law_wrong_three" 1 ["_law_size_here", "_law_table_here", "_law_lot_here"] gLWr := by
    obtain ⟨oc, od, kV, doc, pm, an, cdv, ct, osl, l2, c2⟩ := d__law_wrong_three.l
    have F := fun_mk (st := topS 63) l2 c2 d__law_wrong_three.k
    exact ⟨f__law_wrong_three, _, ok_lwr (k := 0) F zRange, PySem.W.mg_of X G a__law_wrong_three, d__law_wrong_three.k, F.binds (ps := ["_law_size_here", "_law_table_here", "_law_lot_here"]) fun _ _ _ _ _ _ us hl => match us, hl with | [_, _, _], _ => rfl⟩
  have g_std : Fg l.prog w K mg base "_law_steady" 1 ["_law_row"] gStd := by
    obtain ⟨oc, od, kV, doc, pm, an, cdv, ct, osl, l2, c2⟩ := d__law_steady.l
    have F := fun_mk (st := topS 64) l2 c2 d__law_steady.k
    exact ⟨f__law_steady, _, ok_std (k := 0) F zLen zRange, PySem.W.mg_of X G a__law_steady, d__law_steady.k, F.binds (ps := ["_law_row"]) fun _ _ _ _ _ _ us hl => match us, hl with | [_], _ => rfl⟩
  have g_gd : Fg l.prog w K mg base "_law_good" 2 ["_law_row"] gGd := by
    obtain ⟨oc, od, kV, doc, pm, an, cdv, ct, osl, l2, c2⟩ := d__law_good.l
    have F := fun_mk (st := topS 65) l2 c2 d__law_good.k
    exact ⟨f__law_good, _, ok_gd (k := 1) F (g_std.up (by decide : 1 ≤ 1)) zLen zRange, PySem.W.mg_of X G a__law_good, d__law_good.k, F.binds (ps := ["_law_row"]) fun _ _ _ _ _ _ us hl => match us, hl with | [_], _ => rfl⟩
  have g_bad4 : Fg l.prog w K mg base "_law_bad_four" 3 ["_law_size_here", "_law_table_here"] gBad4S := by
    obtain ⟨oc, od, kV, doc, pm, an, cdv, ct, osl, l2, c2⟩ := d__law_bad_four.l
    have F := fun_mk (st := topS 66) l2 c2 d__law_bad_four.k
    exact ⟨f__law_bad_four, _, ok_bad4S (k := 2) F (g_gd.up (by decide : 2 ≤ 2)) zRange, PySem.W.mg_of X G a__law_bad_four, d__law_bad_four.k, F.binds (ps := ["_law_size_here", "_law_table_here"]) fun _ _ _ _ _ _ us hl => match us, hl with | [_, _], _ => rfl⟩
  have g_spoiled : Fg l.prog w K mg base "_law_spoiled" 2 ["_law_pool_here", "_law_size_here", "_law_table_here"] gSpoiled := by
    obtain ⟨oc, od, kV, doc, pm, an, cdv, ct, osl, l2, c2⟩ := d__law_spoiled.l
    have F := fun_mk (st := topS 67) l2 c2 d__law_spoiled.k
    exact ⟨f__law_spoiled, _, ok_spoiled (k := 1) F (g_next.up (by decide : 1 ≤ 1)) zList zLen zInt zSorted, PySem.W.mg_of X G a__law_spoiled, d__law_spoiled.k, F.binds (ps := ["_law_pool_here", "_law_size_here", "_law_table_here"]) fun _ _ _ _ _ _ us hl => match us, hl with | [_, _, _], _ => rfl⟩
  have g_lotIs : Fg l.prog w K mg base "_law_lot_is" 2 ["_law_answer", "_law_due"] gLotIs := by
    obtain ⟨oc, od, kV, doc, pm, an, cdv, ct, osl, l2, c2⟩ := d__law_lot_is.l
    have F := fun_mk (st := topS 68) l2 c2 d__law_lot_is.k
    exact ⟨f__law_lot_is, _, ok_lotIs (k := 1) F (g_lint.up (by decide : 1 ≤ 1)) zIsi zTuple zLen zRange, PySem.W.mg_of X G a__law_lot_is, d__law_lot_is.k, F.binds (ps := ["_law_answer", "_law_due"]) fun _ _ _ _ _ _ us hl => match us, hl with | [_, _], _ => rfl⟩
  have g_boolIs : Fg l.prog w K mg base "_law_bool_is" 1 ["_law_answer", "_law_due"] gBoolIs := by
    obtain ⟨oc, od, kV, doc, pm, an, cdv, ct, osl, l2, c2⟩ := d__law_bool_is.l
    have F := fun_mk (st := topS 69) l2 c2 d__law_bool_is.k
    exact ⟨f__law_bool_is, _, ok_boolIs (k := 0) F, PySem.W.mg_of X G a__law_bool_is, d__law_bool_is.k, F.binds (ps := ["_law_answer", "_law_due"]) fun _ _ _ _ _ _ us hl => match us, hl with | [_, _], _ => rfl⟩
  have g_toldRt : Fg l.prog w K mg base "_law_told_right" 6 ["_law_chart_here", "_law_size_here", "_law_table_here", "_law_lot_here", "_law_given"] (gToldRt C) := by
    obtain ⟨oc, od, kV, doc, pm, an, cdv, ct, osl, l2, c2⟩ := d__law_told_right.l
    have F := fun_mk (st := topS 70) l2 c2 d__law_told_right.k
    exact ⟨f__law_told_right, _, ok_toldRt (k := 5) F (g_lwrong.up (by decide : 1 ≤ 5)) (g_lotIs.up (by decide : 2 ≤ 5)) (g_wrCount.up (by decide : 5 ≤ 5)) (g_lwr.up (by decide : 1 ≤ 5)) (g_wrThree.up (by decide : 5 ≤ 5)) zSum, PySem.W.mg_of X G a__law_told_right, d__law_told_right.k, F.binds (ps := ["_law_chart_here", "_law_size_here", "_law_table_here", "_law_lot_here", "_law_given"]) fun _ _ _ _ _ _ us hl => match us, hl with | [_, _, _, _, _], _ => rfl⟩
  have g_lotRt : Fg l.prog w K mg base "_law_lot_right" 8 ["_law_chart_here", "_law_size_here", "_law_table_here", "_law_due", "_law_lot_here", "_law_word"] (gLotRt C) := by
    obtain ⟨oc, od, kV, doc, pm, an, cdv, ct, osl, l2, c2⟩ := d__law_lot_right.l
    have F := fun_mk (st := topS 71) l2 c2 d__law_lot_right.k
    exact ⟨f__law_lot_right, _, ok_lotRt (k := 7) F (g_hand.up (by decide : 1 ≤ 7)) (g_boolIs.up (by decide : 1 ≤ 7)) (g_isPlace.up (by decide : 7 ≤ 7)) (g_lwr.up (by decide : 1 ≤ 7)) (g_toldRt.up (by decide : 6 ≤ 7)) zList, PySem.W.mg_of X G a__law_lot_right, d__law_lot_right.k, F.binds (ps := ["_law_chart_here", "_law_size_here", "_law_table_here", "_law_due", "_law_lot_here", "_law_word"]) fun _ _ _ _ _ _ us hl => match us, hl with | [_, _, _, _, _, _], _ => rfl⟩
  have g_checkChartB : FgX l.prog w K mg base "check_chart" 1 ["chart"] (nB CBadKind) gCheckChartB := by
    obtain ⟨oc, od, kV, doc, pm, an, cdv, ct, osl, l2, c2⟩ := d_check_chart.l
    have F := fun_mk (st := topS 32) l2 c2 d_check_chart.k
    exact ⟨f_check_chart, _, ok_checkChartB (k := 0) F TBadKind vBadKind kNo zIsi vC, PySem.W.mg_of X G a_check_chart, d_check_chart.k, F.binds (ps := ["chart"]) fun _ _ _ _ _ _ us hl => match us, hl with | [_], _ => rfl⟩
  have g_lotOfB : FgX l.prog w K mg base "lot_of" 4 ["value", "size"] (nB CBadKind) gLotOfB := by
    obtain ⟨oc, od, kV, doc, pm, an, cdv, ct, osl, l2, c2⟩ := d_lot_of.l
    have F := fun_mk (st := topS 22) l2 c2 d_lot_of.k
    exact ⟨f_lot_of, _, ok_lotOfB (k := 3) F TBadKind vBadKind (g_check_size.up (by decide : 3 ≤ 3)) zIsi zList zTuple, PySem.W.mg_of X G a_lot_of, d_lot_of.k, F.binds (ps := ["value", "size"]) fun _ _ _ _ _ _ us hl => match us, hl with | [_, _], _ => rfl⟩
  have g_checkLineX : FgX l.prog w K mg base "check_line" 2 ["line", "size"] (nL CBadLine) gCheckLineX := by
    obtain ⟨oc, od, kV, doc, pm, an, cdv, ct, osl, l2, c2⟩ := d_check_line.l
    have F := fun_mk (st := topS 17) l2 c2 d_check_line.k
    exact ⟨f_check_line, _, ok_checkLineX (k := 1) F TBadLine vBadLine (g_is_int.up (by decide : 1 ≤ 1)), PySem.W.mg_of X G a_check_line, d_check_line.k, F.binds (ps := ["line", "size"]) fun _ _ _ _ _ _ us hl => match us, hl with | [_, _], _ => rfl⟩
  have g_lotFromX : FgX l.prog w K mg base "lot_from_lines" 3 ["value", "size"] (nL CBadLine) gLotFromX := by
    obtain ⟨oc, od, kV, doc, pm, an, cdv, ct, osl, l2, c2⟩ := d_lot_from_lines.l
    have F := fun_mk (st := topS 25) l2 c2 d_lot_from_lines.k
    exact ⟨f_lot_from_lines, _, ok_lotFromX (k := 2) F TBadLine vBadLine (g_check_line.up (by decide : 2 ≤ 2)) (g_checkLineX.up (by decide : 2 ≤ 2)) zEnum, PySem.W.mg_of X G a_lot_from_lines, d_lot_from_lines.k, F.binds (ps := ["value", "size"]) fun _ _ _ _ _ _ us hl => match us, hl with | [_, _], _ => rfl⟩
  have g_lotOfX : FgX l.prog w K mg base "lot_of" 4 ["value", "size"] (nL CBadLine) gLotOfX := by
    obtain ⟨oc, od, kV, doc, pm, an, cdv, ct, osl, l2, c2⟩ := d_lot_of.l
    have F := fun_mk (st := topS 22) l2 c2 d_lot_of.k
    exact ⟨f_lot_of, _, ok_lotOfX (k := 3) F (g_check_size.up (by decide : 3 ≤ 3)) (g_lotFromX.up (by decide : 3 ≤ 3)) zIsi zList zTuple, PySem.W.mg_of X G a_lot_of, d_lot_of.k, F.binds (ps := ["value", "size"]) fun _ _ _ _ _ _ us hl => match us, hl with | [_, _], _ => rfl⟩
  have g_soundX : FgX l.prog w K mg base "check_sound" 6 ["chart"] (nU CUnsound) (gChkSoundX C) := by
    obtain ⟨oc, od, kV, doc, pm, an, cdv, ct, osl, l2, c2⟩ := d_check_sound.l
    have F := fun_mk (st := topS 33) l2 c2 d_check_sound.k
    exact ⟨f_check_sound, _, ok_chkSoundX (k := 4) F T TUnsound vUnsound (g_bad.up (by decide : 4 ≤ 4)), PySem.W.mg_of X G a_check_sound, d_check_sound.k, F.binds (ps := ["chart"]) fun _ _ _ _ _ _ us hl => match us, hl with | [_], _ => rfl⟩
  have g_cPC : FgX l.prog w K mg base "is_place" 2 ["chart", "lot"] (nB CBadKind) gLkC := by
    obtain ⟨oc, od, kV, doc, pm, an, cdv, ct, osl, l2, c2⟩ := d_is_place.l
    have F := fun_mk (st := topS 40) l2 c2 d_is_place.k
    exact ⟨f_is_place, _, ok_isPlaceC (k := 1) F (g_checkChartB.up (by decide : 1 ≤ 1)), PySem.W.mg_of X G a_is_place, d_is_place.k, F.binds (ps := ["chart", "lot"]) fun _ _ _ _ _ _ us hl => match us, hl with | [_, _], _ => rfl⟩
  have g_cPB : FgX l.prog w K mg base "is_place" 5 ["chart", "lot"] (nB CBadKind) (gLkB C) := by
    obtain ⟨oc, od, kV, doc, pm, an, cdv, ct, osl, l2, c2⟩ := d_is_place.l
    have F := fun_mk (st := topS 40) l2 c2 d_is_place.k
    exact ⟨f_is_place, _, ok_isPlaceB (k := 4) F T (g_check_chart.up (by decide : 1 ≤ 4)) (g_lotOfB.up (by decide : 4 ≤ 4)), PySem.W.mg_of X G a_is_place, d_is_place.k, F.binds (ps := ["chart", "lot"]) fun _ _ _ _ _ _ us hl => match us, hl with | [_, _], _ => rfl⟩
  have g_cPL : FgX l.prog w K mg base "is_place" 5 ["chart", "lot"] (nL CBadLine) (gLkL C) := by
    obtain ⟨oc, od, kV, doc, pm, an, cdv, ct, osl, l2, c2⟩ := d_is_place.l
    have F := fun_mk (st := topS 40) l2 c2 d_is_place.k
    exact ⟨f_is_place, _, ok_isPlaceL (k := 4) F T (g_check_chart.up (by decide : 1 ≤ 4)) (g_lotOfX.up (by decide : 4 ≤ 4)), PySem.W.mg_of X G a_is_place, d_is_place.k, F.binds (ps := ["chart", "lot"]) fun _ _ _ _ _ _ us hl => match us, hl with | [_, _], _ => rfl⟩
  have g_cTC : FgX l.prog w K mg base "wrong_three" 2 ["chart", "lot"] (nB CBadKind) gLkC := by
    obtain ⟨oc, od, kV, doc, pm, an, cdv, ct, osl, l2, c2⟩ := d_wrong_three.l
    have F := fun_mk (st := topS 38) l2 c2 d_wrong_three.k
    exact ⟨f_wrong_three, _, ok_wrThreeC (k := 1) F (g_checkChartB.up (by decide : 1 ≤ 1)), PySem.W.mg_of X G a_wrong_three, d_wrong_three.k, F.binds (ps := ["chart", "lot"]) fun _ _ _ _ _ _ us hl => match us, hl with | [_, _], _ => rfl⟩
  have g_cTB : FgX l.prog w K mg base "wrong_three" 5 ["chart", "lot"] (nB CBadKind) (gLkB C) := by
    obtain ⟨oc, od, kV, doc, pm, an, cdv, ct, osl, l2, c2⟩ := d_wrong_three.l
    have F := fun_mk (st := topS 38) l2 c2 d_wrong_three.k
    exact ⟨f_wrong_three, _, ok_wrThreeB (k := 4) F T (g_check_chart.up (by decide : 1 ≤ 4)) (g_lotOfB.up (by decide : 4 ≤ 4)) (g_first_wrong.up (by decide : 4 ≤ 4)), PySem.W.mg_of X G a_wrong_three, d_wrong_three.k, F.binds (ps := ["chart", "lot"]) fun _ _ _ _ _ _ us hl => match us, hl with | [_, _], _ => rfl⟩
  have g_cTL : FgX l.prog w K mg base "wrong_three" 5 ["chart", "lot"] (nL CBadLine) (gLkL C) := by
    obtain ⟨oc, od, kV, doc, pm, an, cdv, ct, osl, l2, c2⟩ := d_wrong_three.l
    have F := fun_mk (st := topS 38) l2 c2 d_wrong_three.k
    exact ⟨f_wrong_three, _, ok_wrThreeL (k := 4) F T (g_check_chart.up (by decide : 1 ≤ 4)) (g_lotOfX.up (by decide : 4 ≤ 4)) (g_first_wrong.up (by decide : 4 ≤ 4)), PySem.W.mg_of X G a_wrong_three, d_wrong_three.k, F.binds (ps := ["chart", "lot"]) fun _ _ _ _ _ _ us hl => match us, hl with | [_, _], _ => rfl⟩
  have g_cOC : FgX l.prog w K mg base "wrong_count" 2 ["chart", "lot"] (nB CBadKind) gLkC := by
    obtain ⟨oc, od, kV, doc, pm, an, cdv, ct, osl, l2, c2⟩ := d_wrong_count.l
    have F := fun_mk (st := topS 39) l2 c2 d_wrong_count.k
    exact ⟨f_wrong_count, _, ok_wrCountC (k := 1) F (g_checkChartB.up (by decide : 1 ≤ 1)), PySem.W.mg_of X G a_wrong_count, d_wrong_count.k, F.binds (ps := ["chart", "lot"]) fun _ _ _ _ _ _ us hl => match us, hl with | [_, _], _ => rfl⟩
  have g_cOB : FgX l.prog w K mg base "wrong_count" 5 ["chart", "lot"] (nB CBadKind) (gLkB C) := by
    obtain ⟨oc, od, kV, doc, pm, an, cdv, ct, osl, l2, c2⟩ := d_wrong_count.l
    have F := fun_mk (st := topS 39) l2 c2 d_wrong_count.k
    exact ⟨f_wrong_count, _, ok_wrCountB (k := 4) F T (g_check_chart.up (by decide : 1 ≤ 4)) (g_lotOfB.up (by decide : 4 ≤ 4)), PySem.W.mg_of X G a_wrong_count, d_wrong_count.k, F.binds (ps := ["chart", "lot"]) fun _ _ _ _ _ _ us hl => match us, hl with | [_, _], _ => rfl⟩
  have g_cOL : FgX l.prog w K mg base "wrong_count" 5 ["chart", "lot"] (nL CBadLine) (gLkL C) := by
    obtain ⟨oc, od, kV, doc, pm, an, cdv, ct, osl, l2, c2⟩ := d_wrong_count.l
    have F := fun_mk (st := topS 39) l2 c2 d_wrong_count.k
    exact ⟨f_wrong_count, _, ok_wrCountL (k := 4) F T (g_check_chart.up (by decide : 1 ≤ 4)) (g_lotOfX.up (by decide : 4 ≤ 4)), PySem.W.mg_of X G a_wrong_count, d_wrong_count.k, F.binds (ps := ["chart", "lot"]) fun _ _ _ _ _ _ us hl => match us, hl with | [_, _], _ => rfl⟩
  have g_cPU : FgX l.prog w K mg base "is_place" 7 ["chart", "lot"] (nU CUnsound) (gLkU C) := by
    obtain ⟨oc, od, kV, doc, pm, an, cdv, ct, osl, l2, c2⟩ := d_is_place.l
    have F := fun_mk (st := topS 40) l2 c2 d_is_place.k
    exact ⟨f_is_place, _, ok_isPlaceU (k := 6) F T (g_check_chart.up (by decide : 1 ≤ 6)) (g_lot_of.up (by decide : 4 ≤ 6)) (g_soundX.up (by decide : 6 ≤ 6)), PySem.W.mg_of X G a_is_place, d_is_place.k, F.binds (ps := ["chart", "lot"]) fun _ _ _ _ _ _ us hl => match us, hl with | [_, _], _ => rfl⟩
  have g_look : Fg l.prog w K mg base "_law_look_told" 8 ["_law_door", "_law_chart_here", "_law_lot_here"] (gLook C) := by
    obtain ⟨oc, od, kV, doc, pm, an, cdv, ct, osl, l2, c2⟩ := d__law_look_told.l
    have F := fun_mk (st := topS 74) l2 c2 d__law_look_told.k
    exact ⟨f__law_look_told, _, ok_look (k := 7) F TBadKind TBadLine TUnsound vBadKind vBadLine vUnsound q_BadLine_BadKind q_Unsound_BadKind q_Unsound_BadLine (g_cPC.up (by decide : 2 ≤ 7)) (g_cPB.up (by decide : 5 ≤ 7)) (g_cPL.up (by decide : 5 ≤ 7)) (g_cTC.up (by decide : 2 ≤ 7)) (g_cTB.up (by decide : 5 ≤ 7)) (g_cTL.up (by decide : 5 ≤ 7)) (g_cOC.up (by decide : 2 ≤ 7)) (g_cOB.up (by decide : 5 ≤ 7)) (g_cOL.up (by decide : 5 ≤ 7)) (g_cPU.up (by decide : 7 ≤ 7)) (g_wrThree.up (by decide : 5 ≤ 7)) (g_wrCount.up (by decide : 5 ≤ 7)), PySem.W.mg_of X G a__law_look_told, d__law_look_told.k, F.binds (ps := ["_law_door", "_law_chart_here", "_law_lot_here"]) fun _ _ _ _ _ _ us hl => match us, hl with | [_, _, _], _ => rfl⟩
  have g_looks : Fg l.prog w K mg base "_law_looks_refuse" 9 ["_law_lot_here"] gLooks := by
    obtain ⟨oc, od, kV, doc, pm, an, cdv, ct, osl, l2, c2⟩ := d__law_looks_refuse.l
    have F := fun_mk (st := topS 75) l2 c2 d__law_looks_refuse.k
    exact ⟨f__law_looks_refuse, _, ok_looks (k := 7) F M (g_init.mono (by decide : 4 ≤ 7)) vC b_init (g_look.up (by decide : 8 ≤ 8)) zRange, PySem.W.mg_of X G a__law_looks_refuse, d__law_looks_refuse.k, F.binds (ps := ["_law_lot_here"]) fun _ _ _ _ _ _ us hl => match us, hl with | [_], _ => rfl⟩
  have g_spRt : Fg l.prog w K mg base "_law_spoiled_right" 8 ["_law_size_here", "_law_other", "_law_lot_here"] (gSpRt C) := by
    obtain ⟨oc, od, kV, doc, pm, an, cdv, ct, osl, l2, c2⟩ := d__law_spoiled_right.l
    have F := fun_mk (st := topS 72) l2 c2 d__law_spoiled_right.k
    exact ⟨f__law_spoiled_right, _, ok_spRt (k := 7) F TUnsound vUnsound (g_lchart.up (by decide : 6 ≤ 7)) (g_toldRt.up (by decide : 6 ≤ 7)) (g_bad4.up (by decide : 3 ≤ 7)) (g_isPlace.up (by decide : 7 ≤ 7)) (g_cPU.up (by decide : 7 ≤ 7)) (g_boolIs.up (by decide : 1 ≤ 7)) (g_lwr.up (by decide : 1 ≤ 7)) (g_lotIs.up (by decide : 2 ≤ 7)) zTuple, PySem.W.mg_of X G a__law_spoiled_right, d__law_spoiled_right.k, F.binds (ps := ["_law_size_here", "_law_other", "_law_lot_here"]) fun _ _ _ _ _ _ us hl => match us, hl with | [_, _, _], _ => rfl⟩
  have g_apart : Fg l.prog w K mg base "_law_apart_right" 8 ["_law_pool_here", "_law_size_here", "_law_turns_here", "_law_chart_here", "_law_table_here", "_law_spots_here"] (gApart C) := by
    obtain ⟨oc, od, kV, doc, pm, an, cdv, ct, osl, l2, c2⟩ := d__law_apart_right.l
    have F := fun_mk (st := topS 73) l2 c2 d__law_apart_right.k
    exact ⟨f__law_apart_right, _, ok_apart (k := 7) F (g_next.up (by decide : 1 ≤ 7)) (g_knotsL.up (by decide : 2 ≤ 7)) (g_turns.up (by decide : 2 ≤ 7)) (g_table.up (by decide : 3 ≤ 7)) (g_lchart.up (by decide : 6 ≤ 7)) (g_spots.up (by decide : 3 ≤ 7)) (g_subs.up (by decide : 1 ≤ 7)) (g_isPlace.up (by decide : 7 ≤ 7)) (g_boolIs.up (by decide : 1 ≤ 7)) (g_lwrong.up (by decide : 1 ≤ 7)) (g_lwr.up (by decide : 1 ≤ 7)) (g_toldRt.up (by decide : 6 ≤ 7)) zLen zRange zList, PySem.W.mg_of X G a__law_apart_right, d__law_apart_right.k, F.binds (ps := ["_law_pool_here", "_law_size_here", "_law_turns_here", "_law_chart_here", "_law_table_here", "_law_spots_here"]) fun _ _ _ _ _ _ us hl => match us, hl with | [_, _, _, _, _, _], _ => rfl⟩
  exact ok_law (k := 9) FL (g_pool.up (by decide : 1 ≤ 9)) (g_spotC.up (by decide : 3 ≤ 9)) (g_table.up (by decide : 3 ≤ 9)) (g_lchart.up (by decide : 6 ≤ 9)) (g_spots.up (by decide : 3 ≤ 9)) (g_spoiled.up (by decide : 2 ≤ 9)) (g_lotL.up (by decide : 2 ≤ 9)) (g_spRt.up (by decide : 8 ≤ 9)) (g_apart.up (by decide : 8 ≤ 9)) (g_next.up (by decide : 1 ≤ 9)) (g_looks.up (by decide : 9 ≤ 9)) (g_subs.up (by decide : 1 ≤ 9)) (g_lotRt.up (by decide : 8 ≤ 9))
theorem walk {l : PySem.W.OpenLaw} {q : Program} {loose : List Str} {XP : (Str → Option Value) → Heap → Prop} {YP : World → Heap → Prop} {d : DefRec} {K : Params → PySem.W.Frag} (hn : l.most = some 63) (hdf : d.params.defaults = [])
    (hY : ∀ (w : World) (h : Heap), YP w h → (K w.params).In h)
    (F : ∀ (w : World) (mg : Str → Option Value) (fa : Addr) (h : Heap), (K w.params).In h → h.Ns mainGlobals mg → mg d.name = some (.ref fa) →
      ∃ fd : FuncData, (∀ (s : Shared) (u : Value), BindsTo s fd ⟨[u], []⟩ [("_law_script", u)]) ∧ ∀ base : Heap, (K w.params).In base → base.Ns mainGlobals mg → FnOk l.prog w (K w.params) mg base CX0 10 fa fd ["_law_script"] (spF (K w.params) gLaw)) :
    PySem.W.WalkO q loose XP YP l.row.toRowW d [] (fun f vs => PySem.call f vs) :=
  L2.walk_of (n := 63) (k := 10) (x := "_law_script") (CX := fun _ => CX0) (sp := fun w => spF (K w.params) gLaw) hn (by decide) hdf ⟨rfl, by decide, by decide⟩ hY F
    (fun w H a ns hl _ hS => ⟨[], [.d (.lst (ns.map D.int))], [], .d (.bl true), [], .cons (.d (.lst (by
      rcases hS with hS | hS
      · exact .inl ⟨(fun z => nomatch z), hS⟩
      · exact .inr hS) (Dens.of_ints ns))) .nil, ⟨rfl, List.nodup_nil, fun k l e => by simp at e⟩, ⟨ns, rfl, hl, rfl, rfl, rfl⟩, fun S' v H' f o d => by
        cases d with
        | d d => exact d.of_bl⟩) fun _ _ _ _ _ z => z
end Bl
open PySem PySem.W PyProof.Rows in
set_option maxRecDepth 100000 in
set_option maxHeartbeats 0 in
theorem PySem.Challenge.cw_bentlines_k15_place_exactly_if_no_three_holds : PySem.Challenge.rw_bentlines_k15_place_exactly_if_no_three.Holds := by
  w_on; o_law; k_head; (case hw => w_witness2)
  k_fill
  refine Bl.walk (l := PySem.Challenge.rw_bentlines_k15_place_exactly_if_no_three) rfl rfl (fun w h Y => PySem.W.kIn_of Y) ?F
  case F =>
    intro w mg fa h KX G hmg
    refine' Bl.all_mk KX G hmg ?a_is_int ?d_is_int ?a_check_int ?d_check_int ?a_choose ?d_choose ?a_check_size ?d_check_size ?a_check_line ?d_check_line ?a_pairs_in ?d_pairs_in ?a_threes_in ?d_threes_in ?a_fours_in ?d_fours_in ?a_is_sign ?d_is_sign ?a_check_signs ?d_check_signs ?a_changes ?d_changes ?a_good_row ?d_good_row ?a_signs_of_four ?d_signs_of_four ?a_lot_from_lines ?d_lot_from_lines ?a_lot_of ?d_lot_of ?a_check_chart ?d_check_chart ?a_check_sound ?d_check_sound ?a_is_wrong ?d_is_wrong ?a_wrong_in ?d_wrong_in ?a_first_wrong ?d_first_wrong ?a_is_place ?d_is_place ?a_wrong_three ?d_wrong_three ?a_wrong_count ?d_wrong_count ?a__law_pool ?d__law_pool ?a__law_next ?d__law_next ?a__law_size ?d__law_size ?a__law_turns ?d__law_turns ?a__law_rows ?d__law_rows ?a__law_times ?d__law_times ?a__law_table ?d__law_table ?a__law_signs ?d__law_signs ?a__law_chart ?d__law_chart ?a__law_wrong ?d__law_wrong ?a__law_lot ?d__law_lot ?a__law_places ?d__law_places ?a__law_knots ?d__law_knots ?a__law_int ?d__law_int ?a__law_spot_case ?d__law_spot_case ?a__law_spots ?d__law_spots ?a__law_subsets ?d__law_subsets ?a__law_hand ?d__law_hand ?a__law_wrong_three ?d__law_wrong_three ?a__law_steady ?d__law_steady ?a__law_good ?d__law_good ?a__law_bad_four ?d__law_bad_four ?a__law_spoiled ?d__law_spoiled ?a__law_lot_is ?d__law_lot_is ?a__law_bool_is ?d__law_bool_is ?a__law_told_right ?d__law_told_right ?a__law_lot_right ?d__law_lot_right ?a__law_look_told ?d__law_look_told ?a__law_looks_refuse ?d__law_looks_refuse ?a__law_spoiled_right ?d__law_spoiled_right ?a__law_apart_right ?d__law_apart_right ?aL ?dL ?zIsi0 ?zInt0 ?zBool0 ?zList0 ?zTuple0 ?zLen0 ?zEnum0 ?zSorted0 ?zAll0 ?zRange0 ?zDict0 ?zZip0 ?zMin0 ?zMax0 ?zSum0 ?vComb0 ?vMost0 ?vC0 ?pg ?hd ?po ?sa ?n1 ?n2 ?n3 ?n4 ?o1 ?o2 ?o3 ?o4 ?mk ?kC ?cl1 ?cl2 ?w_None ?m1lot_sign ?m2lot_sign ?d_lot_sign ?b1bad ?b2bad ?b3bad ?b4bad ?d_bad ?m1__init__ ?m2__init__ ?d___init__ ?x0BadKind ?x1BadKind ?x2BadKind ?x3BadKind ?x4BadKind ?x5BadKind ?x6BadKind ?x7BadKind ?x8BadKind ?x9BadKind ?x10BadKind ?x11BadKind ?x12BadKind ?x13BadKind ?xdBadKind ?x0BadLine ?x1BadLine ?x2BadLine ?x3BadLine ?x4BadLine ?x5BadLine ?x6BadLine ?x7BadLine ?x8BadLine ?x9BadLine ?x10BadLine ?x11BadLine ?x12BadLine ?x13BadLine ?xdBadLine ?x0Unsound ?x1Unsound ?x2Unsound ?x3Unsound ?x4Unsound ?x5Unsound ?x6Unsound ?x7Unsound ?x8Unsound ?x9Unsound ?x10Unsound ?x11Unsound ?x12Unsound ?x13Unsound ?xdUnsound ?w_BadLine_BadKind ?w_Unsound_BadKind ?w_Unsound_BadLine
    (case a_is_int => k_is)
    (case d_is_int => refine' Bl.Fx.of ?l ?c ?k; (case l => k_is); (case c => k_is); (case k => k_is))
    (case a_check_int => k_is)
    (case d_check_int => refine' Bl.Fx.of ?l ?c ?k; (case l => k_is); (case c => k_is); (case k => k_is))
    (case a_choose => k_is)
    (case d_choose => refine' Bl.Fx.of ?l ?c ?k; (case l => k_is); (case c => k_is); (case k => k_is))
    (case a_check_size => k_is)
    (case d_check_size => refine' Bl.Fx.of ?l ?c ?k; (case l => k_is); (case c => k_is); (case k => k_is))
    (case a_check_line => k_is)
    (case d_check_line => refine' Bl.Fx.of ?l ?c ?k; (case l => k_is); (case c => k_is); (case k => k_is))
    (case a_pairs_in => k_is)
    (case d_pairs_in => refine' Bl.Fx.of ?l ?c ?k; (case l => k_is); (case c => k_is); (case k => k_is))
    (case a_threes_in => k_is)
    (case d_threes_in => refine' Bl.Fx.of ?l ?c ?k; (case l => k_is); (case c => k_is); (case k => k_is))
    (case a_fours_in => k_is)
    (case d_fours_in => refine' Bl.Fx.of ?l ?c ?k; (case l => k_is); (case c => k_is); (case k => k_is))
    (case a_is_sign => k_is)
    (case d_is_sign => refine' Bl.Fx.of ?l ?c ?k; (case l => k_is); (case c => k_is); (case k => k_is))
    (case a_check_signs => k_is)
    (case d_check_signs => refine' Bl.Fx.of ?l ?c ?k; (case l => k_is); (case c => k_is); (case k => k_is))
    (case a_changes => k_is)
    (case d_changes => refine' Bl.Fx.of ?l ?c ?k; (case l => k_is); (case c => k_is); (case k => k_is))
    (case a_good_row => k_is)
    (case d_good_row => refine' Bl.Fx.of ?l ?c ?k; (case l => k_is); (case c => k_is); (case k => k_is))
    (case a_signs_of_four => k_is)
    (case d_signs_of_four => refine' Bl.Fx.of ?l ?c ?k; (case l => k_is); (case c => k_is); (case k => k_is))
    (case a_lot_from_lines => k_is)
    (case d_lot_from_lines => refine' Bl.Fx.of ?l ?c ?k; (case l => k_is); (case c => k_is); (case k => k_is))
    (case a_lot_of => k_is)
    (case d_lot_of => refine' Bl.Fx.of ?l ?c ?k; (case l => k_is); (case c => k_is); (case k => k_is))
    (case a_check_chart => k_is)
    (case d_check_chart => refine' Bl.Fx.of ?l ?c ?k; (case l => k_is); (case c => k_is); (case k => k_is))
    (case a_check_sound => k_is)
    (case d_check_sound => refine' Bl.Fx.of ?l ?c ?k; (case l => k_is); (case c => k_is); (case k => k_is))
    (case a_is_wrong => k_is)
    (case d_is_wrong => refine' Bl.Fx.of ?l ?c ?k; (case l => k_is); (case c => k_is); (case k => k_is))
    (case a_wrong_in => k_is)
    (case d_wrong_in => refine' Bl.Fx.of ?l ?c ?k; (case l => k_is); (case c => k_is); (case k => k_is))
    (case a_first_wrong => k_is)
    (case d_first_wrong => refine' Bl.Fx.of ?l ?c ?k; (case l => k_is); (case c => k_is); (case k => k_is))
    (case a_is_place => k_is)
    (case d_is_place => refine' Bl.Fx.of ?l ?c ?k; (case l => k_is); (case c => k_is); (case k => k_is))
    (case a_wrong_three => k_is)
    (case d_wrong_three => refine' Bl.Fx.of ?l ?c ?k; (case l => k_is); (case c => k_is); (case k => k_is))
    (case a_wrong_count => k_is)
    (case d_wrong_count => refine' Bl.Fx.of ?l ?c ?k; (case l => k_is); (case c => k_is); (case k => k_is))
    (case a__law_pool => k_is)
    (case d__law_pool => refine' Bl.Fx.of ?l ?c ?k; (case l => k_is); (case c => k_is); (case k => k_is))
    (case a__law_next => k_is)
    (case d__law_next => refine' Bl.Fx.of ?l ?c ?k; (case l => k_is); (case c => k_is); (case k => k_is))
    (case a__law_size => k_is)
    (case d__law_size => refine' Bl.Fx.of ?l ?c ?k; (case l => k_is); (case c => k_is); (case k => k_is))
    (case a__law_turns => k_is)
    (case d__law_turns => refine' Bl.Fx.of ?l ?c ?k; (case l => k_is); (case c => k_is); (case k => k_is))
    (case a__law_rows => k_is)
    (case d__law_rows => refine' Bl.Fx.of ?l ?c ?k; (case l => k_is); (case c => k_is); (case k => k_is))
    (case a__law_times => k_is)
    (case d__law_times => refine' Bl.Fx.of ?l ?c ?k; (case l => k_is); (case c => k_is); (case k => k_is))
    (case a__law_table => k_is)
    (case d__law_table => refine' Bl.Fx.of ?l ?c ?k; (case l => k_is); (case c => k_is); (case k => k_is))
    (case a__law_signs => k_is)
    (case d__law_signs => refine' Bl.Fx.of ?l ?c ?k; (case l => k_is); (case c => k_is); (case k => k_is))
    (case a__law_chart => k_is)
    (case d__law_chart => refine' Bl.Fx.of ?l ?c ?k; (case l => k_is); (case c => k_is); (case k => k_is))
    (case a__law_wrong => k_is)
    (case d__law_wrong => refine' Bl.Fx.of ?l ?c ?k; (case l => k_is); (case c => k_is); (case k => k_is))
    (case a__law_lot => k_is)
    (case d__law_lot => refine' Bl.Fx.of ?l ?c ?k; (case l => k_is); (case c => k_is); (case k => k_is))
    (case a__law_places => k_is)
    (case d__law_places => refine' Bl.Fx.of ?l ?c ?k; (case l => k_is); (case c => k_is); (case k => k_is))
    (case a__law_knots => k_is)
    (case d__law_knots => refine' Bl.Fx.of ?l ?c ?k; (case l => k_is); (case c => k_is); (case k => k_is))
    (case a__law_int => k_is)
    (case d__law_int => refine' Bl.Fx.of ?l ?c ?k; (case l => k_is); (case c => k_is); (case k => k_is))
    (case a__law_spot_case => k_is)
    (case d__law_spot_case => refine' Bl.Fx.of ?l ?c ?k; (case l => k_is); (case c => k_is); (case k => k_is))
    (case a__law_spots => k_is)
    (case d__law_spots => refine' Bl.Fx.of ?l ?c ?k; (case l => k_is); (case c => k_is); (case k => k_is))
    (case a__law_subsets => k_is)
    (case d__law_subsets => refine' Bl.Fx.of ?l ?c ?k; (case l => k_is); (case c => k_is); (case k => k_is))
    (case a__law_hand => k_is)
    (case d__law_hand => refine' Bl.Fx.of ?l ?c ?k; (case l => k_is); (case c => k_is); (case k => k_is))
    (case a__law_wrong_three => k_is)
    (case d__law_wrong_three => refine' Bl.Fx.of ?l ?c ?k; (case l => k_is); (case c => k_is); (case k => k_is))
    (case a__law_steady => k_is)
    (case d__law_steady => refine' Bl.Fx.of ?l ?c ?k; (case l => k_is); (case c => k_is); (case k => k_is))
    (case a__law_good => k_is)
    (case d__law_good => refine' Bl.Fx.of ?l ?c ?k; (case l => k_is); (case c => k_is); (case k => k_is))
    (case a__law_bad_four => k_is)
    (case d__law_bad_four => refine' Bl.Fx.of ?l ?c ?k; (case l => k_is); (case c => k_is); (case k => k_is))
    (case a__law_spoiled => k_is)
    (case d__law_spoiled => refine' Bl.Fx.of ?l ?c ?k; (case l => k_is); (case c => k_is); (case k => k_is))
    (case a__law_lot_is => k_is)
    (case d__law_lot_is => refine' Bl.Fx.of ?l ?c ?k; (case l => k_is); (case c => k_is); (case k => k_is))
    (case a__law_bool_is => k_is)
    (case d__law_bool_is => refine' Bl.Fx.of ?l ?c ?k; (case l => k_is); (case c => k_is); (case k => k_is))
    (case a__law_told_right => k_is)
    (case d__law_told_right => refine' Bl.Fx.of ?l ?c ?k; (case l => k_is); (case c => k_is); (case k => k_is))
    (case a__law_lot_right => k_is)
    (case d__law_lot_right => refine' Bl.Fx.of ?l ?c ?k; (case l => k_is); (case c => k_is); (case k => k_is))
    (case a__law_look_told => k_is)
    (case d__law_look_told => refine' Bl.Fx.of ?l ?c ?k; (case l => k_is); (case c => k_is); (case k => k_is))
    (case a__law_looks_refuse => k_is)
    (case d__law_looks_refuse => refine' Bl.Fx.of ?l ?c ?k; (case l => k_is); (case c => k_is); (case k => k_is))
    (case a__law_spoiled_right => k_is)
    (case d__law_spoiled_right => refine' Bl.Fx.of ?l ?c ?k; (case l => k_is); (case c => k_is); (case k => k_is))
    (case a__law_apart_right => k_is)
    (case d__law_apart_right => refine' Bl.Fx.of ?l ?c ?k; (case l => k_is); (case c => k_is); (case k => k_is))
    (case aL => k_is)
    (case dL => refine' Bl.Fx.of ?l ?c ?k; (case l => k_is); (case c => k_is); (case k => k_is))
    (case zIsi0 => k_is)
    (case zInt0 => k_is)
    (case zBool0 => k_is)
    (case zList0 => k_is)
    (case zTuple0 => k_is)
    (case zLen0 => k_is)
    (case zEnum0 => k_is)
    (case zSorted0 => k_is)
    (case zAll0 => k_is)
    (case zRange0 => k_is)
    (case zDict0 => k_is)
    (case zZip0 => k_is)
    (case zMin0 => k_is)
    (case zMax0 => k_is)
    (case zSum0 => k_is)
    (case vComb0 => k_is)
    (case vMost0 => k_is)
    (case vC0 => k_is)
    (case pg => k_is)
    (case hd => k_is)
    (case po => k_is)
    (case sa => k_is)
    (case n1 => k_is)
    (case n2 => k_is)
    (case n3 => k_is)
    (case n4 => k_is)
    (case o1 => k_is)
    (case o2 => k_is)
    (case o3 => k_is)
    (case o4 => k_is)
    (case mk => k_is)
    (case kC => k_is)
    (case cl1 => k_is)
    (case cl2 => k_is)
    (case w_None => first | rfl | k_is)
    (case m1lot_sign => k_is)
    (case m2lot_sign => k_is)
    (case d_lot_sign => refine' Bl.Fx.of ?l ?c ?k; (case l => k_is); (case c => k_is); (case k => k_is))
    (case b1bad => k_is)
    (case b2bad => k_is)
    (case b3bad => k_is)
    (case b4bad => k_is)
    (case d_bad => refine' Bl.Fx.of ?l ?c ?k; (case l => k_is); (case c => k_is); (case k => k_is))
    (case m1__init__ => k_is)
    (case m2__init__ => k_is)
    (case d___init__ => refine' Bl.Fx.of ?l ?c ?k; (case l => k_is); (case c => k_is); (case k => k_is))
    (case x0BadKind => k_is)
    (case x1BadKind => k_is)
    (case x2BadKind => k_is)
    (case x3BadKind => k_is)
    (case x4BadKind => k_is)
    (case x5BadKind => k_is)
    (case x6BadKind => k_is)
    (case x7BadKind => k_is)
    (case x8BadKind => k_is)
    (case x9BadKind => k_is)
    (case x10BadKind => k_is)
    (case x11BadKind => k_is)
    (case x12BadKind => k_is)
    (case x13BadKind => first | rfl | k_is)
    (case xdBadKind => refine' Bl.Fx.of ?l ?c ?k; (case l => k_is); (case c => k_is); (case k => k_is))
    (case x0BadLine => k_is)
    (case x1BadLine => k_is)
    (case x2BadLine => k_is)
    (case x3BadLine => k_is)
    (case x4BadLine => k_is)
    (case x5BadLine => k_is)
    (case x6BadLine => k_is)
    (case x7BadLine => k_is)
    (case x8BadLine => k_is)
    (case x9BadLine => k_is)
    (case x10BadLine => k_is)
    (case x11BadLine => k_is)
    (case x12BadLine => k_is)
    (case x13BadLine => first | rfl | k_is)
    (case xdBadLine => refine' Bl.Fx.of ?l ?c ?k; (case l => k_is); (case c => k_is); (case k => k_is))
    (case x0Unsound => k_is)
    (case x1Unsound => k_is)
    (case x2Unsound => k_is)
    (case x3Unsound => k_is)
    (case x4Unsound => k_is)
    (case x5Unsound => k_is)
    (case x6Unsound => k_is)
    (case x7Unsound => k_is)
    (case x8Unsound => k_is)
    (case x9Unsound => k_is)
    (case x10Unsound => k_is)
    (case x11Unsound => k_is)
    (case x12Unsound => k_is)
    (case x13Unsound => first | rfl | k_is)
    (case xdUnsound => refine' Bl.Fx.of ?l ?c ?k; (case l => k_is); (case c => k_is); (case k => k_is))
    (case w_BadLine_BadKind => first | rfl | k_is)
    (case w_Unsound_BadKind => first | rfl | k_is)
    (case w_Unsound_BadLine => first | rfl | k_is)
#print axioms PySem.Challenge.cw_bentlines_k15_place_exactly_if_no_three_holds

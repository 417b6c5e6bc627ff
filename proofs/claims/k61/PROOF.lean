import PyProof.Rows.All
import Wide.All
import OpenK.AllK
import Wide.FinOn
import Lean
import PyProof.EqAt
import PyProof.EqKinds
import PyProof.TupleCall
import PyProof.P3Eq
import PyProof.NeData
import PyProof.FitsBits
import PyProof.ZipIter
import PyProof.TupleIter
import KE.KRevIter
import PyProof.TupleOfGen
import PyProof.ListRange
import KE.KIsAll
import PyProof.ExcArgsOwn
import OpenK.KDescr
import PyProof.StationsW
import PyProof.ExcBaseAll.ValueError
import OpenK.KOwn
import PyProof.RulesAs
import PyProof.RulesDel
import PyProof.Rows.SortWalk
import PyProof.CompUse
import KE.KDictSum
import PyProof.WalkInts
import KE.KSortTup
import PyProof.Rows.TupDisplay
import KE.KIntText
import PyProof.JoinWalk
import PyProof.ExcInit
import PyProof.ExcClass2
import PySem.Challenge.RW_pebbletoll_k61_desk_deeds
set_option Elab.async false
set_option linter.all false
set_option maxRecDepth 100000
namespace Hd
open PySem
def top (i:Nat):Stmt:=PySem.Challenge.pw_pebbletoll_k61_desk_deeds.main.body.getD i (.Pass ⟨0,0,0,0⟩)
def inC (s:Stmt) (j:Nat):Stmt:=match s with
 | .ClassDef _ _ _ b _ _ _ _ _ _ _=>b.getD j (.Pass ⟨0,0,0,0⟩)
 | _=>.Pass ⟨0,0,0,0⟩
def kA (s:Stmt):Arguments:=match s with
 | .FunctionDef _ a _ _ _ _ _ _ _ _=>a
 | _=>{ posonlyargs:=[],args:=[],vararg:=none,kwonlyargs:=[],kw_defaults:=[],kwarg:=none,defaults:=[] }
def kB (s:Stmt):List Stmt:=match s with
 | .FunctionDef _ _ b _ _ _ _ _ _ _=>b
 | _=>[]
def kS (s:Stmt):Scope:=match s with
 | .FunctionDef _ _ _ _ _ _ sc _ _ _=>sc
 | _=>{ kind:=.function,names:=[],isGenerator:=false,isCoroutine:=false }
open PySem.W PySem.Calls PyProof.Rows
def en (P:Params) (s:Str) (t:Tok) (v:Value):DictEntry:=.mk (PyData.keyHash P s) (.str s t) v
def cO (a b:Str) (t1 t2 t3:Tok) (i1 i2 i3 i4 i5:Int) (r1:Value) (b1:Bool) (i6:Int) (r2 v1 v2 v3 r3:Value) (i7 i8:Int) (t4:Tok):Obj:=.mk (.type "code") none (.fields #[.str a t1,.str b t2,.str "/claim/cut.py" t3,.int i1 0,.int i2 0,.int i3 0,.int i4 0,.int i5 0,r1,.bool b1,.int i6 0,r2,v1,v2,v3,r3,.int i7 0,.int i8 0,.str "/claim/cut.py" t4]) #[]
def fR (a b:Str) (s:Stmt):Obj:=.mk .none none (.func (.mk a b (kA s) (.stmts (kB s)) (kS s) 0 [] .none .none .none .none none .none .none 0)) #[]
def fO (a b:Str) (s:Stmt) (pm cd:Value):Obj:=.mk (.type "function") none (.func (PySem.W.fnOf a b (kA s) (kB s) (kS s) .none .none .none pm none cd .none)) #[]
def tO (xs:Array Value):Obj:=.mk (.type "tuple") none (.seq xs 0) #[]
def x0:Obj:=(tO #[])
def x1:Obj:=(.mk .none none (.fields #[]) #[])
def x2:Obj:=(cO "<module>" "<module>" 182 183 184 1 0 0 0 0 (.ref 11) false 181 (.ref 12) .none .none .none .none 185 1 186)
def x3:Obj:=(.mk (.type "frame") none .plain #[(some (.ref 13)),(some (.ref 3)),(some (.ref 3)),none,(some (.str "__main__" 164)),none,(some (.ref 0))])
noncomputable def ha (P:Params):Heap:=.mk (.mk (boot_o_0 P::boot_o_1 P::boot_o_2 P::boot_o_3 P::boot_o_4 P::boot_o_5 P::boot_o_6 P::boot_o_7 P::boot_o_8 P::boot_o_9 P::boot_o_10 P::x0::x1::x2::x3::[])) (.mk [] [] [] 0 [] [] false #[] [] 0 false false false 0 [2000,10,10] false 0 true [] [] 0 false)
noncomputable def hb (P:Params):Heap:=.mk (.mk (boot_o_0 P::boot_o_1 P::boot_o_2 P::boot_o_3 P::boot_o_4 P::boot_o_5 P::boot_o_6 P::boot_o_7 P::boot_o_8 P::boot_o_9 P::boot_o_10 P::x0::x1::x2::x3::[])) (.mk [] [] [] 0 [] [] false #[] [] 0 false false false 0 [2000,10,10] false 0 true [] [] 0 false)
abbrev st0:List Stmt:=[top 0,top 1,top 2,top 3,top 4,top 5,top 6,top 7,top 8,top 9,top 10,top 11,top 12,top 13]
abbrev st1:List Stmt:=[top 14,top 15,top 16,top 17,top 18,top 19,top 20,top 21,top 22,top 23,top 24,top 25,top 26,top 27,top 28,top 29,top 30,top 31,top 32,top 33,top 34,top 35,top 36,top 37,top 38,top 39,top 40,top 41,top 42,top 43,top 44,top 45,top 46,top 47,top 48,top 49,top 50,top 51,top 52]
abbrev bb:List Stmt:=st0++(st1++([]))
def env:Env:={ scope:=PySem.Challenge.pw_pebbletoll_k61_desk_deeds.main.scope,locals:=mainNs,globals:=mainNs,cells:=[],code:=(.ref 13),frame:=some 14 }
abbrev cE:Code:=.body bb env
theorem Nm (w:World) (os:OsState):topGo treeTable PySem.Challenge.pw_pebbletoll_k61_desk_deeds w 11 (some (.ref 6)) 12 (Shared.mk (boot_heap w.params) (.mk []) boot_drawn boot_toks os) (topStub PySem.Challenge.pw_pebbletoll_k61_desk_deeds)=some ((Shared.mk (ha w.params) (.mk []) (.mk 0 0 0 0) 187 os),Thread.mk (denote treeTable cE) cE (.mk 0 0 0 0) [topFrame (.mk 0 0 0 0)]):=by kernel_rfl
theorem M8 (w:World) (os:OsState):segRun treeTable PySem.Challenge.pw_pebbletoll_k61_desk_deeds w 11 (some (.ref 6)) 1 1 (Shared.mk (ha w.params) (.mk []) (.mk 0 0 0 0) 187 os) (blockOf bb env cE (.mk 0 0 0 0) [topFrame (.mk 0 0 0 0)])=some (.next,(Shared.mk (hb w.params) (.mk []) (.mk 0 0 0 0) 187 os),cE,(.mk 0 0 0 0)):=by kernel_rfl
def x4 (P:Params):Obj:=(.mk (.type "dict") none (.dict #[(en P "__name__" 165 (.str "pebbletoll.webs" 335)),(en P "__doc__" 166 .none),(en P "__package__" 167 .none),(en P "__loader__" 168 (.builtin "__main__.__loader__#opaque")),(en P "__spec__" 169 .none),(en P "__annotations__" 170 (.ref 6)),(en P "__builtins__" 171 (.ref 4)),(en P "__file__" 173 (.str "/claim/cut.py" 172)),(en P "__cached__" 174 .none),(en P "_wall" 193 (.ref 21)),(en P "TollError" 213 (.ref 31)),(en P "BadWeb" 229 (.ref 44)),(en P "NoPlace" 245 (.ref 56)),(en P "NoRoad" 261 (.ref 68)),(en P "BadLaying" 277 (.ref 80)),(en P "BadWish" 293 (.ref 92)),(en P "NoDeed" 309 (.ref 104)),(en P "BadStep" 334 (.ref 123)),(en P "MOST_PLACES" 338 (.int 24 337)),(en P "LEAST_TOLL" 340 (.int 2 339)),(en P "MOST_TOLL" 342 (.int 1000000 341))] 21) #[])
def x5:Obj:=(.mk .none none (.fields #[(.int 1 0),(.int 0 0),(.ref 20),(.int 5 0),(.int 0 0),(.ref 27),(.int 7 0),(.int 0 0),(.ref 40),(.int 9 0),(.int 0 0),(.ref 52),(.int 11 0),(.int 0 0),(.ref 64),(.int 13 0),(.int 0 0),(.ref 76),(.int 15 0),(.int 0 0),(.ref 88),(.int 17 0),(.int 0 0),(.ref 100),(.int 19 0),(.int 0 0),(.ref 112)]) #[])
def x6:Obj:=(tO #[(.str "k" 190)])
def x7:Obj:=(fR "_wall" "_wall" (top 0))
def x8:Obj:=(cO "_wall" "_wall" 187 188 189 1 1 0 0 3 (.ref 15) true 181 (.ref 16) .none (.ref 17) (.ref 18) (.ref 19) 191 1 192)
def x9:Obj:=(fO "_wall" "_wall" (top 0) (.str "__main__" 164) (.ref 20))
def x10:Obj:=(tO #[(.type "ValueError")])
def x11:Obj:=(.mk (.type "builtin_function_or_method") none (.fields #[(.builtin "type.__prepare__"),(.type "type")]) #[])
def x12 (P:Params):Obj:=(.mk (.type "dict") none (.dict #[(en P "__module__" 203 (.str "pebbletoll.errors" 194)),(en P "__qualname__" 205 (.str "TollError" 204)),(en P "__firstlineno__" 207 (.int 5 206)),(en P "__static_attributes__" 208 (.ref 29))] 4) #[])
def x13:Obj:=(cO "TollError" "TollError" 198 199 200 5 0 0 0 0 (.ref 25) false 181 (.ref 26) .none .none .none .none 201 5 202)
def x14:Obj:=(.mk (.type "frame") none .plain #[(some (.ref 27)),(some (.ref 3)),(some (.ref 24)),none,(some (.str "pebbletoll.errors" 194)),none,(some (.ref 0))])
def x15 (P:Params):Obj:=(.mk (.type "dict") none (.dict #[(en P "__module__" 203 (.str "pebbletoll.errors" 194)),(en P "__firstlineno__" 207 (.int 5 206)),(en P "__static_attributes__" 208 (.ref 29)),(en P "__weakref__" 210 (.ref 32)),(en P "__doc__" 211 .none)] 3) #[])
def x16:Obj:=(.mk (.type "type") none (.cls (.mk "TollError" [(.type "ValueError")] [(.ref 31),(.type "ValueError"),(.type "Exception"),(.type "BaseException"),(.type "object")] 30 "TollError" true [] [(.ref 44),(.ref 56),(.ref 68),(.ref 80),(.ref 92),(.ref 104),(.ref 123)] false none false)) #[(some (.ref 22)),none,(some (.str "TollError" 196)),(some (.str "TollError" 204)),(some (.builtin "ValueError.__new__")),(some (.bool true))])
def x17:Obj:=(.mk (.type "getset_descriptor") none (.fields #[(.str "__weakref__" 209),(.ref 31),(.builtin "ExceptionGroup.__weakref__"),.none]) #[])
def x18:Obj:=(.mk (.type "super") none (.fields #[(.ref 31),(.ref 31),(.ref 31)]) #[])
def x19:Obj:=(.mk (.type "builtin_function_or_method") none (.fields #[(.builtin "object.__init_subclass__"),(.ref 31)]) #[])
def x20:Obj:=(tO #[(.ref 31)])
def x21 (P:Params):Obj:=(.mk (.type "dict") none (.dict #[(en P "__module__" 221 (.str "pebbletoll.errors" 194)),(en P "__qualname__" 223 (.str "BadWeb" 222)),(en P "__firstlineno__" 225 (.int 7 224)),(en P "__static_attributes__" 226 (.ref 42))] 4) #[])
def x22:Obj:=(cO "BadWeb" "BadWeb" 216 217 218 7 0 0 0 0 (.ref 38) false 181 (.ref 39) .none .none .none .none 219 7 220)
def x23:Obj:=(.mk (.type "frame") none .plain #[(some (.ref 40)),(some (.ref 3)),(some (.ref 37)),none,(some (.str "pebbletoll.errors" 194)),none,(some (.ref 0))])
def x24 (P:Params):Obj:=(.mk (.type "dict") none (.dict #[(en P "__module__" 221 (.str "pebbletoll.errors" 194)),(en P "__firstlineno__" 225 (.int 7 224)),(en P "__static_attributes__" 226 (.ref 42)),(en P "__doc__" 227 .none)] 2) #[])
def x25:Obj:=(.mk (.type "type") none (.cls (.mk "BadWeb" [(.ref 31)] [(.ref 44),(.ref 31),(.type "ValueError"),(.type "Exception"),(.type "BaseException"),(.type "object")] 43 "BadWeb" true [] [] false none false)) #[(some (.ref 35)),none,(some (.str "BadWeb" 214)),(some (.str "BadWeb" 222)),(some (.builtin "ValueError.__new__")),(some (.bool true))])
def x26:Obj:=(.mk (.type "super") none (.fields #[(.ref 44),(.ref 44),(.ref 44)]) #[])
def x27:Obj:=(.mk (.type "builtin_function_or_method") none (.fields #[(.builtin "object.__init_subclass__"),(.ref 44)]) #[])
def x28 (P:Params):Obj:=(.mk (.type "dict") none (.dict #[(en P "__module__" 237 (.str "pebbletoll.errors" 194)),(en P "__qualname__" 239 (.str "NoPlace" 238)),(en P "__firstlineno__" 241 (.int 9 240)),(en P "__static_attributes__" 242 (.ref 54))] 4) #[])
def x29:Obj:=(cO "NoPlace" "NoPlace" 232 233 234 9 0 0 0 0 (.ref 50) false 181 (.ref 51) .none .none .none .none 235 9 236)
def x30:Obj:=(.mk (.type "frame") none .plain #[(some (.ref 52)),(some (.ref 3)),(some (.ref 49)),none,(some (.str "pebbletoll.errors" 194)),none,(some (.ref 0))])
def x31 (P:Params):Obj:=(.mk (.type "dict") none (.dict #[(en P "__module__" 237 (.str "pebbletoll.errors" 194)),(en P "__firstlineno__" 241 (.int 9 240)),(en P "__static_attributes__" 242 (.ref 54)),(en P "__doc__" 243 .none)] 2) #[])
def x32:Obj:=(.mk (.type "type") none (.cls (.mk "NoPlace" [(.ref 31)] [(.ref 56),(.ref 31),(.type "ValueError"),(.type "Exception"),(.type "BaseException"),(.type "object")] 55 "NoPlace" true [] [] false none false)) #[(some (.ref 47)),none,(some (.str "NoPlace" 230)),(some (.str "NoPlace" 238)),(some (.builtin "ValueError.__new__")),(some (.bool true))])
def x33:Obj:=(.mk (.type "super") none (.fields #[(.ref 56),(.ref 56),(.ref 56)]) #[])
def x34:Obj:=(.mk (.type "builtin_function_or_method") none (.fields #[(.builtin "object.__init_subclass__"),(.ref 56)]) #[])
def x35 (P:Params):Obj:=(.mk (.type "dict") none (.dict #[(en P "__module__" 253 (.str "pebbletoll.errors" 194)),(en P "__qualname__" 255 (.str "NoRoad" 254)),(en P "__firstlineno__" 257 (.int 11 256)),(en P "__static_attributes__" 258 (.ref 66))] 4) #[])
def x36:Obj:=(cO "NoRoad" "NoRoad" 248 249 250 11 0 0 0 0 (.ref 62) false 181 (.ref 63) .none .none .none .none 251 11 252)
def x37:Obj:=(.mk (.type "frame") none .plain #[(some (.ref 64)),(some (.ref 3)),(some (.ref 61)),none,(some (.str "pebbletoll.errors" 194)),none,(some (.ref 0))])
def x38 (P:Params):Obj:=(.mk (.type "dict") none (.dict #[(en P "__module__" 253 (.str "pebbletoll.errors" 194)),(en P "__firstlineno__" 257 (.int 11 256)),(en P "__static_attributes__" 258 (.ref 66)),(en P "__doc__" 259 .none)] 2) #[])
def x39:Obj:=(.mk (.type "type") none (.cls (.mk "NoRoad" [(.ref 31)] [(.ref 68),(.ref 31),(.type "ValueError"),(.type "Exception"),(.type "BaseException"),(.type "object")] 67 "NoRoad" true [] [] false none false)) #[(some (.ref 59)),none,(some (.str "NoRoad" 246)),(some (.str "NoRoad" 254)),(some (.builtin "ValueError.__new__")),(some (.bool true))])
def x40:Obj:=(.mk (.type "super") none (.fields #[(.ref 68),(.ref 68),(.ref 68)]) #[])
def x41:Obj:=(.mk (.type "builtin_function_or_method") none (.fields #[(.builtin "object.__init_subclass__"),(.ref 68)]) #[])
def x42 (P:Params):Obj:=(.mk (.type "dict") none (.dict #[(en P "__module__" 269 (.str "pebbletoll.errors" 194)),(en P "__qualname__" 271 (.str "BadLaying" 270)),(en P "__firstlineno__" 273 (.int 13 272)),(en P "__static_attributes__" 274 (.ref 78))] 4) #[])
def x43:Obj:=(cO "BadLaying" "BadLaying" 264 265 266 13 0 0 0 0 (.ref 74) false 181 (.ref 75) .none .none .none .none 267 13 268)
def x44:Obj:=(.mk (.type "frame") none .plain #[(some (.ref 76)),(some (.ref 3)),(some (.ref 73)),none,(some (.str "pebbletoll.errors" 194)),none,(some (.ref 0))])
def x45 (P:Params):Obj:=(.mk (.type "dict") none (.dict #[(en P "__module__" 269 (.str "pebbletoll.errors" 194)),(en P "__firstlineno__" 273 (.int 13 272)),(en P "__static_attributes__" 274 (.ref 78)),(en P "__doc__" 275 .none)] 2) #[])
def x46:Obj:=(.mk (.type "type") none (.cls (.mk "BadLaying" [(.ref 31)] [(.ref 80),(.ref 31),(.type "ValueError"),(.type "Exception"),(.type "BaseException"),(.type "object")] 79 "BadLaying" true [] [] false none false)) #[(some (.ref 71)),none,(some (.str "BadLaying" 262)),(some (.str "BadLaying" 270)),(some (.builtin "ValueError.__new__")),(some (.bool true))])
def x47:Obj:=(.mk (.type "super") none (.fields #[(.ref 80),(.ref 80),(.ref 80)]) #[])
def x48:Obj:=(.mk (.type "builtin_function_or_method") none (.fields #[(.builtin "object.__init_subclass__"),(.ref 80)]) #[])
def x49 (P:Params):Obj:=(.mk (.type "dict") none (.dict #[(en P "__module__" 285 (.str "pebbletoll.errors" 194)),(en P "__qualname__" 287 (.str "BadWish" 286)),(en P "__firstlineno__" 289 (.int 15 288)),(en P "__static_attributes__" 290 (.ref 90))] 4) #[])
def x50:Obj:=(cO "BadWish" "BadWish" 280 281 282 15 0 0 0 0 (.ref 86) false 181 (.ref 87) .none .none .none .none 283 15 284)
def x51:Obj:=(.mk (.type "frame") none .plain #[(some (.ref 88)),(some (.ref 3)),(some (.ref 85)),none,(some (.str "pebbletoll.errors" 194)),none,(some (.ref 0))])
def x52 (P:Params):Obj:=(.mk (.type "dict") none (.dict #[(en P "__module__" 285 (.str "pebbletoll.errors" 194)),(en P "__firstlineno__" 289 (.int 15 288)),(en P "__static_attributes__" 290 (.ref 90)),(en P "__doc__" 291 .none)] 2) #[])
def x53:Obj:=(.mk (.type "type") none (.cls (.mk "BadWish" [(.ref 31)] [(.ref 92),(.ref 31),(.type "ValueError"),(.type "Exception"),(.type "BaseException"),(.type "object")] 91 "BadWish" true [] [] false none false)) #[(some (.ref 83)),none,(some (.str "BadWish" 278)),(some (.str "BadWish" 286)),(some (.builtin "ValueError.__new__")),(some (.bool true))])
def x54:Obj:=(.mk (.type "super") none (.fields #[(.ref 92),(.ref 92),(.ref 92)]) #[])
def x55:Obj:=(.mk (.type "builtin_function_or_method") none (.fields #[(.builtin "object.__init_subclass__"),(.ref 92)]) #[])
def x56 (P:Params):Obj:=(.mk (.type "dict") none (.dict #[(en P "__module__" 301 (.str "pebbletoll.errors" 194)),(en P "__qualname__" 303 (.str "NoDeed" 302)),(en P "__firstlineno__" 305 (.int 17 304)),(en P "__static_attributes__" 306 (.ref 102))] 4) #[])
def x57:Obj:=(cO "NoDeed" "NoDeed" 296 297 298 17 0 0 0 0 (.ref 98) false 181 (.ref 99) .none .none .none .none 299 17 300)
def x58:Obj:=(.mk (.type "frame") none .plain #[(some (.ref 100)),(some (.ref 3)),(some (.ref 97)),none,(some (.str "pebbletoll.errors" 194)),none,(some (.ref 0))])
def x59 (P:Params):Obj:=(.mk (.type "dict") none (.dict #[(en P "__module__" 301 (.str "pebbletoll.errors" 194)),(en P "__firstlineno__" 305 (.int 17 304)),(en P "__static_attributes__" 306 (.ref 102)),(en P "__doc__" 307 .none)] 2) #[])
def x60:Obj:=(.mk (.type "type") none (.cls (.mk "NoDeed" [(.ref 31)] [(.ref 104),(.ref 31),(.type "ValueError"),(.type "Exception"),(.type "BaseException"),(.type "object")] 103 "NoDeed" true [] [] false none false)) #[(some (.ref 95)),none,(some (.str "NoDeed" 294)),(some (.str "NoDeed" 302)),(some (.builtin "ValueError.__new__")),(some (.bool true))])
def x61:Obj:=(.mk (.type "super") none (.fields #[(.ref 104),(.ref 104),(.ref 104)]) #[])
def x62:Obj:=(.mk (.type "builtin_function_or_method") none (.fields #[(.builtin "object.__init_subclass__"),(.ref 104)]) #[])
def x63 (P:Params):Obj:=(.mk (.type "dict") none (.dict #[(en P "__module__" 317 (.str "pebbletoll.errors" 194)),(en P "__qualname__" 319 (.str "BadStep" 318)),(en P "__firstlineno__" 321 (.int 19 320)),(en P "__init__" 329 (.ref 120)),(en P "__static_attributes__" 331 (.ref 121))] 5) #[])
def x64:Obj:=(.mk .none none (.fields #[(.int 21 0),(.int 4 0),(.ref 119)]) #[])
def x65:Obj:=(cO "BadStep" "BadStep" 312 313 314 19 0 0 0 0 (.ref 110) false 181 (.ref 111) .none .none .none .none 315 19 316)
def x66:Obj:=(.mk (.type "frame") none .plain #[(some (.ref 112)),(some (.ref 3)),(some (.ref 109)),none,(some (.str "pebbletoll.errors" 194)),none,(some (.ref 0))])
def x67:Obj:=(tO #[(.str "self" 325),(.str "at" 326)])
def x68:Obj:=(fR "__init__" "BadStep.__init__" (inC (top 9) 0))
def x69:Obj:=(cO "__init__" "BadStep.__init__" 322 323 324 21 2 0 0 3 (.ref 114) true 181 (.ref 115) .none (.ref 116) (.ref 117) (.ref 118) 327 21 328)
def x70:Obj:=(fO "__init__" "BadStep.__init__" (inC (top 9) 0) (.str "pebbletoll.errors" 194) (.ref 119))
def x71:Obj:=(tO #[(.str "at" 330)])
def x72 (P:Params):Obj:=(.mk (.type "dict") none (.dict #[(en P "__module__" 317 (.str "pebbletoll.errors" 194)),(en P "__firstlineno__" 321 (.int 19 320)),(en P "__init__" 329 (.ref 120)),(en P "__static_attributes__" 331 (.ref 121)),(en P "__doc__" 332 .none)] 2) #[])
def x73:Obj:=(.mk (.type "type") none (.cls (.mk "BadStep" [(.ref 31)] [(.ref 123),(.ref 31),(.type "ValueError"),(.type "Exception"),(.type "BaseException"),(.type "object")] 122 "BadStep" true [] [] false none false)) #[(some (.ref 107)),none,(some (.str "BadStep" 310)),(some (.str "BadStep" 318)),(some (.builtin "ValueError.__new__")),(some (.bool true))])
def x74:Obj:=(.mk (.type "super") none (.fields #[(.ref 123),(.ref 123),(.ref 123)]) #[])
def x75:Obj:=(.mk (.type "builtin_function_or_method") none (.fields #[(.builtin "object.__init_subclass__"),(.ref 123)]) #[])
noncomputable def h0 (P:Params):Heap:=.mk (.mk (boot_o_0 P::boot_o_1 P::boot_o_2 P::x4 P::boot_o_4 P::boot_o_5 P::boot_o_6 P::boot_o_7 P::boot_o_8 P::boot_o_9 P::boot_o_10 P::x0::x5::x2::x3::x0::x1::x6::x0::x7::x8::x9::x10::x11::x12 P::x0::x1::x13::x14::x0::x15 P::x16::x17::x18::x19::x20::x11::x21 P::x0::x1::x22::x23::x0::x24 P::x25::x26::x27::x20::x11::x28 P::x0::x1::x29::x30::x0::x31 P::x32::x33::x34::x20::x11::x35 P::x0::x1::x36::x37::x0::x38 P::x39::x40::x41::x20::x11::x42 P::x0::x1::x43::x44::x0::x45 P::x46::x47::x48::x20::x11::x49 P::x0::x1::x50::x51::x0::x52 P::x53::x54::x55::x20::x11::x56 P::x0::x1::x57::x58::x0::x59 P::x60::x61::x62::x20::x11::x63 P::x0::x64::x65::x66::x0::x1::x67::x0::x68::x69::x70::x71::x72 P::x73::x74::x75::[])) (.mk [] [] [] 0 [] [] false #[] [] 0 false false false 0 [2000,10,10] false 0 true [] [] 0 false)
theorem Ng (w:World) (os:OsState):segRun treeTable PySem.Challenge.pw_pebbletoll_k61_desk_deeds w 11 (some (.ref 6)) 1 1784 (Shared.mk (hb w.params) (.mk []) (.mk 0 0 0 0) 187 os) (piecesOf st0 env cE (.mk 0 0 0 0) [topFrame (.mk 0 0 0 0)])=some (.next,(Shared.mk (h0 w.params) (.mk []) (.mk 0 0 0 0) 343 os),cE,(.mk 27 0 27 9)):=by kernel_rfl
def x76 (P:Params):Obj:=(.mk (.type "dict") none (.dict #[(en P "__name__" 165 (.str "law_pebbletoll_k61_desk_deeds" 662)),(en P "__doc__" 166 .none),(en P "__package__" 167 .none),(en P "__loader__" 168 (.builtin "__main__.__loader__#opaque")),(en P "__spec__" 169 .none),(en P "__annotations__" 170 (.ref 6)),(en P "__builtins__" 171 (.ref 4)),(en P "__file__" 173 (.str "/claim/cut.py" 172)),(en P "__cached__" 174 .none),(en P "_wall" 193 (.ref 21)),(en P "TollError" 213 (.ref 31)),(en P "BadWeb" 229 (.ref 44)),(en P "NoPlace" 245 (.ref 56)),(en P "NoRoad" 261 (.ref 68)),(en P "BadLaying" 277 (.ref 80)),(en P "BadWish" 293 (.ref 92)),(en P "NoDeed" 309 (.ref 104)),(en P "BadStep" 334 (.ref 123)),(en P "MOST_PLACES" 338 (.int 24 337)),(en P "LEAST_TOLL" 340 (.int 2 339)),(en P "MOST_TOLL" 342 (.int 1000000 341)),(en P "Web" 370 (.ref 140)),(en P "toll" 383 (.ref 151)),(en P "neighbours" 391 (.ref 158)),(en P "check_place" 399 (.ref 165)),(en P "is_place" 407 (.ref 172)),(en P "check_counts" 415 (.ref 179)),(en P "check_ends" 423 (.ref 186)),(en P "check_tolls" 431 (.ref 193)),(en P "check_joined" 443 (.ref 200)),(en P "other_ends" 453 (.ref 207)),(en P "laying_of" 463 (.ref 214)),(en P "is_filled" 469 (.ref 219)),(en P "pile" 478 (.ref 226)),(en P "put" 489 (.ref 233)),(en P "walked" 500 (.ref 240)),(en P "layings" 512 (.ref 247)),(en P "can_be_done" 521 (.ref 254)),(en P "is_step" 529 (.ref 261)),(en P "taken" 537 (.ref 268)),(en P "behind" 547 (.ref 275)),(en P "wish_of" 557 (.ref 282)),(en P "Desk" 661 (.ref 360)),(en P "_law_cell" 671 (.ref 371)),(en P "_law_row" 685 (.ref 378)),(en P "_law_tolls" 694 (.ref 385)),(en P "_law_roads" 713 (.ref 392)),(en P "_law_price" 726 (.ref 399)),(en P "_law_whole" 733 (.ref 406)),(en P "_law_same" 742 (.ref 413)),(en P "_law_deed" 757 (.ref 420)),(en P "_law_behind" 771 (.ref 427)),(en P "_law_do" 780 (.ref 434)),(en P "_law_stands" 789 (.ref 441)),(en P "law" 806 (.ref 448))] 55) #[])
def x77:Obj:=(.mk .none none (.fields #[(.int 1 0),(.int 0 0),(.ref 20),(.int 5 0),(.int 0 0),(.ref 27),(.int 7 0),(.int 0 0),(.ref 40),(.int 9 0),(.int 0 0),(.ref 52),(.int 11 0),(.int 0 0),(.ref 64),(.int 13 0),(.int 0 0),(.ref 76),(.int 15 0),(.int 0 0),(.ref 88),(.int 17 0),(.int 0 0),(.ref 100),(.int 19 0),(.int 0 0),(.ref 112),(.int 28 0),(.int 0 0),(.ref 131),(.int 39 0),(.int 0 0),(.ref 150),(.int 48 0),(.int 0 0),(.ref 157),(.int 51 0),(.int 0 0),(.ref 164),(.int 54 0),(.int 0 0),(.ref 171),(.int 56 0),(.int 0 0),(.ref 178),(.int 61 0),(.int 0 0),(.ref 185),(.int 66 0),(.int 0 0),(.ref 192),(.int 70 0),(.int 0 0),(.ref 199),(.int 81 0),(.int 0 0),(.ref 206),(.int 90 0),(.int 0 0),(.ref 213),(.int 94 0),(.int 0 0),(.ref 218),(.int 96 0),(.int 0 0),(.ref 225),(.int 98 0),(.int 0 0),(.ref 232),(.int 104 0),(.int 0 0),(.ref 239),(.int 106 0),(.int 0 0),(.ref 246),(.int 113 0),(.int 0 0),(.ref 253),(.int 115 0),(.int 0 0),(.ref 260),(.int 117 0),(.int 0 0),(.ref 267),(.int 119 0),(.int 0 0),(.ref 274),(.int 125 0),(.int 0 0),(.ref 281),(.int 130 0),(.int 0 0),(.ref 288),(.int 170 0),(.int 0 0),(.ref 370),(.int 174 0),(.int 0 0),(.ref 377),(.int 186 0),(.int 0 0),(.ref 384),(.int 195 0),(.int 0 0),(.ref 391),(.int 213 0),(.int 0 0),(.ref 398),(.int 220 0),(.int 0 0),(.ref 405),(.int 222 0),(.int 0 0),(.ref 412),(.int 229 0),(.int 0 0),(.ref 419),(.int 242 0),(.int 0 0),(.ref 426),(.int 256 0),(.int 0 0),(.ref 433),(.int 264 0),(.int 0 0),(.ref 440),(.int 268 0),(.int 0 0),(.ref 447)]) #[])
def x78 (P:Params):Obj:=(.mk (.type "dict") none (.dict #[(en P "__module__" 350 (.str "pebbletoll.webs" 335)),(en P "__qualname__" 352 (.str "Web" 351)),(en P "__firstlineno__" 354 (.int 28 353)),(en P "__init__" 360 (.ref 137)),(en P "__static_attributes__" 363 (.ref 138))] 5) #[])
def x79:Obj:=(.mk .none none (.fields #[(.int 30 0),(.int 4 0),(.ref 136)]) #[])
def x80:Obj:=(cO "Web" "Web" 345 346 347 28 0 0 0 0 (.ref 129) false 181 (.ref 130) .none .none .none .none 348 28 349)
def x81:Obj:=(.mk (.type "frame") none .plain #[(some (.ref 131)),(some (.ref 3)),(some (.ref 128)),none,(some (.str "pebbletoll.webs" 335)),none,(some (.ref 0))])
def x82:Obj:=(fR "__init__" "Web.__init__" (inC (top 14) 0))
def x83:Obj:=(cO "__init__" "Web.__init__" 355 356 357 30 3 0 0 3 (.ref 133) true 181 (.ref 134) .none .none .none (.ref 135) 358 30 359)
def x84:Obj:=(fO "__init__" "Web.__init__" (inC (top 14) 0) (.str "pebbletoll.webs" 335) (.ref 136))
def x85:Obj:=(tO #[(.str "many" 361),(.str "roads" 362)])
def x86 (P:Params):Obj:=(.mk (.type "dict") none (.dict #[(en P "__module__" 350 (.str "pebbletoll.webs" 335)),(en P "__firstlineno__" 354 (.int 28 353)),(en P "__init__" 360 (.ref 137)),(en P "__static_attributes__" 363 (.ref 138)),(en P "__dict__" 365 (.ref 141)),(en P "__weakref__" 367 (.ref 142)),(en P "__doc__" 368 .none)] 4) #[])
def x87:Obj:=(.mk (.type "type") none (.cls (.mk "Web" [(.type "object")] [(.ref 140),(.type "object")] 139 "Web" true [] [] false none false)) #[none,none,(some (.str "Web" 343)),(some (.str "Web" 351)),(some (.builtin "object.__new__")),(some (.bool true))])
def x88:Obj:=(.mk (.type "getset_descriptor") none (.fields #[(.str "__dict__" 364),(.ref 140),(.builtin "function.__dict__"),(.builtin "function.__dict__#set")]) #[])
def x89:Obj:=(.mk (.type "getset_descriptor") none (.fields #[(.str "__weakref__" 366),(.ref 140),(.builtin "ExceptionGroup.__weakref__"),.none]) #[])
def x90:Obj:=(.mk (.type "super") none (.fields #[(.ref 140),(.ref 140),(.ref 140)]) #[])
def x91:Obj:=(.mk (.type "builtin_function_or_method") none (.fields #[(.builtin "object.__init_subclass__"),(.ref 140)]) #[])
def x92:Obj:=(tO #[(.str "web" 374),(.str "a" 375),(.str "b" 376),(.str "one" 377),(.str "other" 378),(.str "there" 379),(.str "back" 380)])
def x93:Obj:=(fR "toll" "toll" (top 15))
def x94:Obj:=(cO "toll" "toll" 371 372 373 39 3 0 0 3 (.ref 145) true 181 (.ref 146) .none (.ref 147) (.ref 148) (.ref 149) 381 39 382)
def x95:Obj:=(fO "toll" "toll" (top 15) (.str "pebbletoll.webs" 335) (.ref 150))
def x96:Obj:=(tO #[(.str "web" 387),(.str "a" 388)])
def x97:Obj:=(fR "neighbours" "neighbours" (top 16))
def x98:Obj:=(cO "neighbours" "neighbours" 384 385 386 48 2 0 0 3 (.ref 152) true 181 (.ref 153) .none (.ref 154) (.ref 155) (.ref 156) 389 48 390)
def x99:Obj:=(fO "neighbours" "neighbours" (top 16) (.str "pebbletoll.webs" 335) (.ref 157))
def HB:Obj:=(tO #[(.str "web" 395),(.str "number" 396)])
def Ml:Obj:=(fR "check_place" "check_place" (top 17))
def HX:Obj:=(cO "check_place" "check_place" 392 393 394 51 2 0 0 3 (.ref 159) true 181 (.ref 160) .none (.ref 161) (.ref 162) (.ref 163) 397 51 398)
def GU:Obj:=(fO "check_place" "check_place" (top 17) (.str "pebbletoll.webs" 335) (.ref 164))
def IB:Obj:=(tO #[(.str "many" 403),(.str "number" 404)])
def Mi:Obj:=(fR "is_place" "is_place" (top 18))
def JK:Obj:=(cO "is_place" "is_place" 400 401 402 54 2 0 0 3 (.ref 166) true 181 (.ref 167) .none (.ref 168) (.ref 169) (.ref 170) 405 54 406)
def GK:Obj:=(fO "is_place" "is_place" (top 18) (.str "pebbletoll.webs" 335) (.ref 171))
def Ij:Obj:=(tO #[(.str "many" 411),(.str "roads" 412)])
def MA:Obj:=(fR "check_counts" "check_counts" (top 19))
def HK:Obj:=(cO "check_counts" "check_counts" 408 409 410 56 2 0 0 3 (.ref 173) true 181 (.ref 174) .none (.ref 175) (.ref 176) (.ref 177) 413 56 414)
def G2:Obj:=(fO "check_counts" "check_counts" (top 19) (.str "pebbletoll.webs" 335) (.ref 178))
def IU:Obj:=(tO #[(.str "many" 419),(.str "road" 420)])
def Lj:Obj:=(fR "check_ends" "check_ends" (top 20))
def I0:Obj:=(cO "check_ends" "check_ends" 416 417 418 61 2 0 0 3 (.ref 180) true 181 (.ref 181) .none (.ref 182) (.ref 183) (.ref 184) 421 61 422)
def JQ:Obj:=(fO "check_ends" "check_ends" (top 20) (.str "pebbletoll.webs" 335) (.ref 185))
def Hq:Obj:=(tO #[(.str "road" 427),(.str "number" 428)])
def Lr:Obj:=(fR "check_tolls" "check_tolls" (top 21))
def GW:Obj:=(cO "check_tolls" "check_tolls" 424 425 426 66 1 0 0 3 (.ref 187) true 181 (.ref 188) .none (.ref 189) (.ref 190) (.ref 191) 429 66 430)
def GV:Obj:=(fO "check_tolls" "check_tolls" (top 21) (.str "pebbletoll.webs" 335) (.ref 192))
def Ir:Obj:=(tO #[(.str "many" 435),(.str "roads" 436),(.str "reached" 437),(.str "waiting" 438),(.str "place" 439),(.str "end" 440)])
def Lk:Obj:=(fR "check_joined" "check_joined" (top 22))
def IR:Obj:=(cO "check_joined" "check_joined" 432 433 434 70 2 0 0 3 (.ref 194) true 181 (.ref 195) .none (.ref 196) (.ref 197) (.ref 198) 441 70 442)
def GX:Obj:=(fO "check_joined" "check_joined" (top 22) (.str "pebbletoll.webs" 335) (.ref 199))
def He:Obj:=(tO #[(.str "roads" 447),(.str "place" 448),(.str "ends" 449),(.str "road" 450)])
def Lv:Obj:=(fR "other_ends" "other_ends" (top 23))
def GG:Obj:=(cO "other_ends" "other_ends" 444 445 446 81 2 0 0 3 (.ref 201) true 181 (.ref 202) .none (.ref 203) (.ref 204) (.ref 205) 451 81 452)
def Hm:Obj:=(fO "other_ends" "other_ends" (top 23) (.str "pebbletoll.webs" 335) (.ref 206))
def Hf:Obj:=(tO #[(.str "web" 459),(.str "numbers" 460)])
def Ls:Obj:=(fR "laying_of" "laying_of" (top 25))
def Hv:Obj:=(cO "laying_of" "laying_of" 456 457 458 90 2 0 0 3 (.ref 208) true 181 (.ref 209) .none (.ref 210) (.ref 211) (.ref 212) 461 90 462)
def Jr:Obj:=(fO "laying_of" "laying_of" (top 25) (.str "pebbletoll.layings" 454) (.ref 213))
def LQ:Obj:=(fR "is_filled" "is_filled" (top 26))
def GC:Obj:=(cO "is_filled" "is_filled" 464 465 466 94 2 0 0 3 (.ref 215) true 181 (.ref 216) .none .none .none (.ref 217) 467 94 468)
def Hu:Obj:=(fO "is_filled" "is_filled" (top 26) (.str "pebbletoll.layings" 454) (.ref 218))
def Jz:Obj:=(tO #[(.str "web" 473),(.str "place" 474),(.str "many" 475)])
def LS:Obj:=(fR "pile" "pile" (top 27))
def Gw:Obj:=(cO "pile" "pile" 470 471 472 96 3 0 0 3 (.ref 220) true 181 (.ref 221) .none (.ref 222) (.ref 223) (.ref 224) 476 96 477)
def Hs:Obj:=(fO "pile" "pile" (top 27) (.str "pebbletoll.layings" 454) (.ref 225))
def J8:Obj:=(tO #[(.str "web" 482),(.str "laying" 483),(.str "place" 484),(.str "many" 485),(.str "counts" 486)])
def Ms:Obj:=(fR "put" "put" (top 28))
def Iy:Obj:=(cO "put" "put" 479 480 481 98 4 0 0 3 (.ref 227) true 181 (.ref 228) .none (.ref 229) (.ref 230) (.ref 231) 487 98 488)
def HA:Obj:=(fO "put" "put" (top 28) (.str "pebbletoll.layings" 454) (.ref 232))
def Jd:Obj:=(tO #[(.str "web" 495),(.str "laying" 496),(.str "steps" 497)])
def LK:Obj:=(fR "walked" "walked" (top 30))
def Je:Obj:=(cO "walked" "walked" 492 493 494 104 3 0 0 3 (.ref 234) true 181 (.ref 235) .none (.ref 236) (.ref 237) (.ref 238) 498 104 499)
def Ia:Obj:=(fO "walked" "walked" (top 30) (.str "pebbletoll.steps" 490) (.ref 239))
def GF:Obj:=(tO #[(.str "web" 504),(.str "laying" 505),(.str "steps" 506),(.str "passed" 507),(.str "at" 508),(.str "step" 509)])
def Me:Obj:=(fR "layings" "layings" (top 31))
def Hw:Obj:=(cO "layings" "layings" 501 502 503 106 3 0 0 3 (.ref 241) true 181 (.ref 242) .none (.ref 243) (.ref 244) (.ref 245) 510 106 511)
def Iq:Obj:=(fO "layings" "layings" (top 31) (.str "pebbletoll.steps" 490) (.ref 246))
def Hl:Obj:=(tO #[(.str "web" 516),(.str "laying" 517),(.str "step" 518)])
def Lu:Obj:=(fR "can_be_done" "can_be_done" (top 32))
def Ik:Obj:=(cO "can_be_done" "can_be_done" 513 514 515 113 3 0 0 3 (.ref 248) true 181 (.ref 249) .none (.ref 250) (.ref 251) (.ref 252) 519 113 520)
def Jc:Obj:=(fO "can_be_done" "can_be_done" (top 32) (.str "pebbletoll.steps" 490) (.ref 253))
def Gy:Obj:=(tO #[(.str "web" 525),(.str "step" 526)])
def LX:Obj:=(fR "is_step" "is_step" (top 33))
def Gx:Obj:=(cO "is_step" "is_step" 522 523 524 115 2 0 0 3 (.ref 255) true 181 (.ref 256) .none (.ref 257) (.ref 258) (.ref 259) 527 115 528)
def Ha:Obj:=(fO "is_step" "is_step" (top 33) (.str "pebbletoll.steps" 490) (.ref 260))
def GA:Obj:=(tO #[(.str "web" 533),(.str "step" 534)])
def L0:Obj:=(fR "taken" "taken" (top 34))
def GB:Obj:=(cO "taken" "taken" 530 531 532 117 2 0 0 3 (.ref 262) true 181 (.ref 263) .none (.ref 264) (.ref 265) (.ref 266) 535 117 536)
def Jh:Obj:=(fO "taken" "taken" (top 34) (.str "pebbletoll.steps" 490) (.ref 267))
def HJ:Obj:=(tO #[(.str "web" 541),(.str "laying" 542),(.str "step" 543),(.str "counts" 544)])
def Mq:Obj:=(fR "behind" "behind" (top 35))
def GL:Obj:=(cO "behind" "behind" 538 539 540 119 3 0 0 3 (.ref 269) true 181 (.ref 270) .none (.ref 271) (.ref 272) (.ref 273) 545 119 546)
def GQ:Obj:=(fO "behind" "behind" (top 35) (.str "pebbletoll.steps" 490) (.ref 274))
def IG:Obj:=(tO #[(.str "web" 553),(.str "numbers" 554)])
def Lp:Obj:=(fR "wish_of" "wish_of" (top 37))
def IK:Obj:=(cO "wish_of" "wish_of" 550 551 552 125 2 0 0 3 (.ref 276) true 181 (.ref 277) .none (.ref 278) (.ref 279) (.ref 280) 555 125 556)
def JG:Obj:=(fO "wish_of" "wish_of" (top 37) (.str "pebbletoll.wishes" 548) (.ref 281))
def LO (P:Params):Obj:=(.mk (.type "dict") none (.dict #[(en P "__module__" 567 (.str "pebbletoll.desk" 558)),(en P "__qualname__" 569 (.str "Desk" 568)),(en P "__firstlineno__" 571 (.int 130 570)),(en P "__init__" 580 (.ref 296)),(en P "put" 586 (.ref 301)),(en P "want" 596 (.ref 308)),(en P "step" 606 (.ref 315)),(en P "keep" 615 (.ref 322)),(en P "back" 622 (.ref 329)),(en P "laying" 629 (.ref 336)),(en P "wish" 636 (.ref 343)),(en P "deeds" 643 (.ref 350)),(en P "answer" 651 (.ref 357)),(en P "__static_attributes__" 654 (.ref 358))] 14) #[])
def Mx:Obj:=(.mk .none none (.fields #[(.int 132 0),(.int 4 0),(.ref 295),(.int 137 0),(.int 4 0),(.ref 300),(.int 141 0),(.int 4 0),(.ref 307),(.int 147 0),(.int 4 0),(.ref 314),(.int 150 0),(.int 4 0),(.ref 321),(.int 153 0),(.int 4 0),(.ref 328),(.int 158 0),(.int 4 0),(.ref 335),(.int 161 0),(.int 4 0),(.ref 342),(.int 164 0),(.int 4 0),(.ref 349),(.int 167 0),(.int 4 0),(.ref 356)]) #[])
def LH:Obj:=(cO "Desk" "Desk" 562 563 564 130 0 0 0 0 (.ref 286) false 181 (.ref 287) .none .none .none .none 565 130 566)
def LP:Obj:=(.mk (.type "frame") none .plain #[(some (.ref 288)),(some (.ref 3)),(some (.ref 285)),none,(some (.str "pebbletoll.desk" 558)),none,(some (.ref 0))])
def JA:Obj:=(tO #[(.str "self" 575),(.str "web" 576),(.str "noughts" 577)])
def MD:Obj:=(fR "__init__" "Desk.__init__" (inC (top 39) 0))
def Jf:Obj:=(cO "__init__" "Desk.__init__" 572 573 574 132 2 0 0 3 (.ref 290) true 181 (.ref 291) .none (.ref 292) (.ref 293) (.ref 294) 578 132 579)
def Ie:Obj:=(fO "__init__" "Desk.__init__" (inC (top 39) 0) (.str "pebbletoll.desk" 558) (.ref 295))
def Mm:Obj:=(fR "put" "Desk.put" (inC (top 39) 1))
def G1:Obj:=(cO "put" "Desk.put" 581 582 583 137 3 0 0 3 (.ref 297) true 181 (.ref 298) .none .none .none (.ref 299) 584 137 585)
def J9:Obj:=(fO "put" "Desk.put" (inC (top 39) 1) (.str "pebbletoll.desk" 558) (.ref 300))
def Jb:Obj:=(tO #[(.str "self" 590),(.str "place" 591),(.str "many" 592),(.str "wanted" 593)])
def LN:Obj:=(fR "want" "Desk.want" (inC (top 39) 2))
def JC:Obj:=(cO "want" "Desk.want" 587 588 589 141 3 0 0 3 (.ref 302) true 181 (.ref 303) .none (.ref 304) (.ref 305) (.ref 306) 594 141 595)
def JS:Obj:=(fO "want" "Desk.want" (inC (top 39) 2) (.str "pebbletoll.desk" 558) (.ref 307))
def HS:Obj:=(tO #[(.str "self" 600),(.str "a" 601),(.str "b" 602),(.str "times" 603)])
def L9:Obj:=(fR "step" "Desk.step" (inC (top 39) 3))
def Im:Obj:=(cO "step" "Desk.step" 597 598 599 147 4 0 0 3 (.ref 309) true 181 (.ref 310) .none (.ref 311) (.ref 312) (.ref 313) 604 147 605)
def IT:Obj:=(fO "step" "Desk.step" (inC (top 39) 3) (.str "pebbletoll.desk" 558) (.ref 314))
def Jl:Obj:=(tO #[(.str "self" 610),(.str "laying" 611),(.str "wish" 612)])
def LA:Obj:=(fR "keep" "Desk.keep" (inC (top 39) 4))
def Jy:Obj:=(cO "keep" "Desk.keep" 607 608 609 150 3 0 0 3 (.ref 316) true 181 (.ref 317) .none (.ref 318) (.ref 319) (.ref 320) 613 150 614)
def IY:Obj:=(fO "keep" "Desk.keep" (inC (top 39) 4) (.str "pebbletoll.desk" 558) (.ref 321))
def J5:Obj:=(tO #[(.str "self" 619)])
def MB:Obj:=(fR "back" "Desk.back" (inC (top 39) 5))
def G3:Obj:=(cO "back" "Desk.back" 616 617 618 153 1 0 0 3 (.ref 323) true 181 (.ref 324) .none (.ref 325) (.ref 326) (.ref 327) 620 153 621)
def JB:Obj:=(fO "back" "Desk.back" (inC (top 39) 5) (.str "pebbletoll.desk" 558) (.ref 328))
def GP:Obj:=(tO #[(.str "self" 626)])
def LG:Obj:=(fR "laying" "Desk.laying" (inC (top 39) 6))
def Iu:Obj:=(cO "laying" "Desk.laying" 623 624 625 158 1 0 0 3 (.ref 330) true 181 (.ref 331) .none (.ref 332) (.ref 333) (.ref 334) 627 158 628)
def JP:Obj:=(fO "laying" "Desk.laying" (inC (top 39) 6) (.str "pebbletoll.desk" 558) (.ref 335))
def JZ:Obj:=(tO #[(.str "self" 633)])
def Mb:Obj:=(fR "wish" "Desk.wish" (inC (top 39) 7))
def Ho:Obj:=(cO "wish" "Desk.wish" 630 631 632 161 1 0 0 3 (.ref 337) true 181 (.ref 338) .none (.ref 339) (.ref 340) (.ref 341) 634 161 635)
def HR:Obj:=(fO "wish" "Desk.wish" (inC (top 39) 7) (.str "pebbletoll.desk" 558) (.ref 342))
def J7:Obj:=(tO #[(.str "self" 640)])
def Md:Obj:=(fR "deeds" "Desk.deeds" (inC (top 39) 8))
def Hx:Obj:=(cO "deeds" "Desk.deeds" 637 638 639 164 1 0 0 3 (.ref 344) true 181 (.ref 345) .none (.ref 346) (.ref 347) (.ref 348) 641 164 642)
def HC:Obj:=(fO "deeds" "Desk.deeds" (inC (top 39) 8) (.str "pebbletoll.desk" 558) (.ref 349))
def II:Obj:=(tO #[(.str "self" 647),(.str "row" 648)])
def MJ:Obj:=(fR "answer" "Desk.answer" (inC (top 39) 9))
def Jg:Obj:=(cO "answer" "Desk.answer" 644 645 646 167 2 0 0 3 (.ref 351) true 181 (.ref 352) .none (.ref 353) (.ref 354) (.ref 355) 649 167 650)
def G6:Obj:=(fO "answer" "Desk.answer" (inC (top 39) 9) (.str "pebbletoll.desk" 558) (.ref 356))
def Hk:Obj:=(tO #[(.str "past" 652),(.str "web" 653)])
def HP (P:Params):Obj:=(.mk (.type "dict") none (.dict #[(en P "__module__" 567 (.str "pebbletoll.desk" 558)),(en P "__firstlineno__" 571 (.int 130 570)),(en P "__init__" 580 (.ref 296)),(en P "put" 586 (.ref 301)),(en P "want" 596 (.ref 308)),(en P "step" 606 (.ref 315)),(en P "keep" 615 (.ref 322)),(en P "back" 622 (.ref 329)),(en P "laying" 629 (.ref 336)),(en P "wish" 636 (.ref 343)),(en P "deeds" 643 (.ref 350)),(en P "answer" 651 (.ref 357)),(en P "__static_attributes__" 654 (.ref 358)),(en P "__dict__" 656 (.ref 361)),(en P "__weakref__" 658 (.ref 362)),(en P "__doc__" 659 .none)] 4) #[])
def J4:Obj:=(.mk (.type "type") none (.cls (.mk "Desk" [(.type "object")] [(.ref 360),(.type "object")] 359 "Desk" true [] [] false none false)) #[none,none,(some (.str "Desk" 560)),(some (.str "Desk" 568)),(some (.builtin "object.__new__")),(some (.bool true))])
def Js:Obj:=(.mk (.type "getset_descriptor") none (.fields #[(.str "__dict__" 655),(.ref 360),(.builtin "function.__dict__"),(.builtin "function.__dict__#set")]) #[])
def JT:Obj:=(.mk (.type "getset_descriptor") none (.fields #[(.str "__weakref__" 657),(.ref 360),(.builtin "ExceptionGroup.__weakref__"),.none]) #[])
def LB:Obj:=(.mk (.type "super") none (.fields #[(.ref 360),(.ref 360),(.ref 360)]) #[])
def L6:Obj:=(.mk (.type "builtin_function_or_method") none (.fields #[(.builtin "object.__init_subclass__"),(.ref 360)]) #[])
def IZ:Obj:=(tO #[(.str "script" 667),(.str "k" 668)])
def Ly:Obj:=(fR "_law_cell" "_law_cell" (top 41))
def IX:Obj:=(cO "_law_cell" "_law_cell" 664 665 666 170 2 0 0 3 (.ref 365) true 181 (.ref 366) .none (.ref 367) (.ref 368) (.ref 369) 669 170 670)
def Jq:Obj:=(fO "_law_cell" "_law_cell" (top 41) (.str "law_pebbletoll_k61_desk_deeds" 662) (.ref 370))
def IV:Obj:=(tO #[(.str "cell" 675),(.str "mode" 676),(.str "many" 677),(.str "base" 678),(.str "found" 679),(.str "rest" 680),(.str "k" 681),(.str "m" 682)])
def Lh:Obj:=(fR "_law_row" "_law_row" (top 42))
def IL:Obj:=(cO "_law_row" "_law_row" 672 673 674 174 4 0 0 3 (.ref 372) true 181 (.ref 373) .none (.ref 374) (.ref 375) (.ref 376) 683 174 684)
def GD:Obj:=(fO "_law_row" "_law_row" (top 42) (.str "law_pebbletoll_k61_desk_deeds" 662) (.ref 377))
def GJ:Obj:=(tO #[(.str "t" 689),(.str "there" 690),(.str "back" 691)])
def MG:Obj:=(fR "_law_tolls" "_law_tolls" (top 43))
def Ix:Obj:=(cO "_law_tolls" "_law_tolls" 686 687 688 186 1 0 0 3 (.ref 379) true 181 (.ref 380) .none (.ref 381) (.ref 382) (.ref 383) 692 186 693)
def G4:Obj:=(fO "_law_tolls" "_law_tolls" (top 43) (.str "law_pebbletoll_k61_desk_deeds" 662) (.ref 384))
def IJ:Obj:=(tO #[(.str "script" 698),(.str "mode" 699),(.str "shape" 700),(.str "tolls" 701),(.str "many" 702),(.str "roads" 703),(.str "k" 704),(.str "hang" 705),(.str "one" 706),(.str "other" 707),(.str "there" 708),(.str "back" 709),(.str "road" 710)])
def MI:Obj:=(fR "_law_roads" "_law_roads" (top 44))
def Iz:Obj:=(cO "_law_roads" "_law_roads" 695 696 697 195 1 0 0 3 (.ref 386) true 181 (.ref 387) .none (.ref 388) (.ref 389) (.ref 390) 711 195 712)
def HG:Obj:=(fO "_law_roads" "_law_roads" (top 44) (.str "law_pebbletoll_k61_desk_deeds" 662) (.ref 391))
def JU:Obj:=(tO #[(.str "roads" 717),(.str "a" 718),(.str "b" 719),(.str "one" 720),(.str "other" 721),(.str "there" 722),(.str "back" 723)])
def Mw:Obj:=(fR "_law_price" "_law_price" (top 45))
def Ii:Obj:=(cO "_law_price" "_law_price" 714 715 716 213 3 0 0 3 (.ref 393) true 181 (.ref 394) .none (.ref 395) (.ref 396) (.ref 397) 724 213 725)
def Jv:Obj:=(fO "_law_price" "_law_price" (top 45) (.str "law_pebbletoll_k61_desk_deeds" 662) (.ref 398))
def GH:Obj:=(tO #[(.str "found" 730)])
def LL:Obj:=(fR "_law_whole" "_law_whole" (top 46))
def JO:Obj:=(cO "_law_whole" "_law_whole" 727 728 729 220 1 0 0 3 (.ref 400) true 181 (.ref 401) .none (.ref 402) (.ref 403) (.ref 404) 731 220 732)
def HF:Obj:=(fO "_law_whole" "_law_whole" (top 46) (.str "law_pebbletoll_k61_desk_deeds" 662) (.ref 405))
def Gv:Obj:=(tO #[(.str "found" 737),(.str "due" 738),(.str "k" 739)])
def LC:Obj:=(fR "_law_same" "_law_same" (top 47))
def JI:Obj:=(cO "_law_same" "_law_same" 734 735 736 222 2 0 0 3 (.ref 407) true 181 (.ref 408) .none (.ref 409) (.ref 410) (.ref 411) 740 222 741)
def Jm:Obj:=(fO "_law_same" "_law_same" (top 47) (.str "law_pebbletoll_k61_desk_deeds" 662) (.ref 412))
def HM:Obj:=(tO #[(.str "cell" 746),(.str "many" 747),(.str "roads" 748),(.str "place" 749),(.str "amount" 750),(.str "one" 751),(.str "other" 752),(.str "there" 753),(.str "back" 754)])
def Mr:Obj:=(fR "_law_deed" "_law_deed" (top 48))
def HN:Obj:=(cO "_law_deed" "_law_deed" 743 744 745 229 3 0 0 3 (.ref 414) true 181 (.ref 415) .none (.ref 416) (.ref 417) (.ref 418) 755 229 756)
def Ig:Obj:=(fO "_law_deed" "_law_deed" (top 48) (.str "law_pebbletoll_k61_desk_deeds" 662) (.ref 419))
def G8:Obj:=(tO #[(.str "roads" 761),(.str "held" 762),(.str "wish" 763),(.str "deed" 764),(.str "numbers" 765),(.str "now" 766),(.str "wants" 767),(.str "each" 768)])
def Mc:Obj:=(fR "_law_behind" "_law_behind" (top 49))
def Jx:Obj:=(cO "_law_behind" "_law_behind" 758 759 760 242 5 0 0 3 (.ref 421) true 181 (.ref 422) .none (.ref 423) (.ref 424) (.ref 425) 769 242 770)
def G9:Obj:=(fO "_law_behind" "_law_behind" (top 49) (.str "law_pebbletoll_k61_desk_deeds" 662) (.ref 426))
def HW:Obj:=(tO #[(.str "desk" 775),(.str "deed" 776),(.str "numbers" 777)])
def LJ:Obj:=(fR "_law_do" "_law_do" (top 50))
def JJ:Obj:=(cO "_law_do" "_law_do" 772 773 774 256 3 0 0 3 (.ref 428) true 181 (.ref 429) .none (.ref 430) (.ref 431) (.ref 432) 778 256 779)
def Hj:Obj:=(fO "_law_do" "_law_do" (top 50) (.str "law_pebbletoll_k61_desk_deeds" 662) (.ref 433))
def Hb:Obj:=(tO #[(.str "desk" 784),(.str "state" 785),(.str "many" 786)])
def Ln:Obj:=(fR "_law_stands" "_law_stands" (top 51))
def Ib:Obj:=(cO "_law_stands" "_law_stands" 781 782 783 264 3 0 0 3 (.ref 435) true 181 (.ref 436) .none (.ref 437) (.ref 438) (.ref 439) 787 264 788)
def GO:Obj:=(fO "_law_stands" "_law_stands" (top 51) (.str "law_pebbletoll_k61_desk_deeds" 662) (.ref 440))
def IC:Obj:=(tO #[(.str "script" 793),(.str "many" 794),(.str "roads" 795),(.str "web" 796),(.str "desk" 797),(.str "beside" 798),(.str "states" 799),(.str "cell" 800),(.str "deed" 801),(.str "numbers" 802),(.str "behind_v" 803)])
def LU:Obj:=(fR "law" "law" (top 52))
def Jt:Obj:=(cO "law" "law" 790 791 792 268 1 0 0 3 (.ref 442) true 181 (.ref 443) .none (.ref 444) (.ref 445) (.ref 446) 804 268 805)
def IE:Obj:=(fO "law" "law" (top 52) (.str "law_pebbletoll_k61_desk_deeds" 662) (.ref 447))
noncomputable def h1 (P:Params):Heap:=.mk (.mk (boot_o_0 P::boot_o_1 P::boot_o_2 P::x76 P::boot_o_4 P::boot_o_5 P::boot_o_6 P::boot_o_7 P::boot_o_8 P::boot_o_9 P::boot_o_10 P::x0::x77::x2::x3::x0::x1::x6::x0::x7::x8::x9::x10::x11::x12 P::x0::x1::x13::x14::x0::x15 P::x16::x17::x18::x19::x20::x11::x21 P::x0::x1::x22::x23::x0::x24 P::x25::x26::x27::x20::x11::x28 P::x0::x1::x29::x30::x0::x31 P::x32::x33::x34::x20::x11::x35 P::x0::x1::x36::x37::x0::x38 P::x39::x40::x41::x20::x11::x42 P::x0::x1::x43::x44::x0::x45 P::x46::x47::x48::x20::x11::x49 P::x0::x1::x50::x51::x0::x52 P::x53::x54::x55::x20::x11::x56 P::x0::x1::x57::x58::x0::x59 P::x60::x61::x62::x20::x11::x63 P::x0::x64::x65::x66::x0::x1::x67::x0::x68::x69::x70::x71::x72 P::x73::x74::x75::x0::x11::x78 P::x0::x79::x80::x81::x0::x1::x82::x83::x84::x85::x86 P::x87::x88::x89::x90::x91::x0::x1::x92::x0::x93::x94::x95::x0::x1::x96::x0::x97::x98::x99::x0::x1::HB::x0::Ml::HX::GU::x0::x1::IB::x0::Mi::JK::GK::x0::x1::Ij::x0::MA::HK::G2::x0::x1::IU::x0::Lj::I0::JQ::x0::x1::Hq::x0::Lr::GW::GV::x0::x1::Ir::x0::Lk::IR::GX::x0::x1::He::x0::Lv::GG::Hm::x0::x1::Hf::x0::Ls::Hv::Jr::x0::x1::LQ::GC::Hu::x0::x1::Jz::x0::LS::Gw::Hs::x0::x1::J8::x0::Ms::Iy::HA::x0::x1::Jd::x0::LK::Je::Ia::x0::x1::GF::x0::Me::Hw::Iq::x0::x1::Hl::x0::Lu::Ik::Jc::x0::x1::Gy::x0::LX::Gx::Ha::x0::x1::GA::x0::L0::GB::Jh::x0::x1::HJ::x0::Mq::GL::GQ::x0::x1::IG::x0::Lp::IK::JG::x0::x11::LO P::x0::Mx::LH::LP::x0::x1::JA::x0::MD::Jf::Ie::x0::x1::Mm::G1::J9::x0::x1::Jb::x0::LN::JC::JS::x0::x1::HS::x0::L9::Im::IT::x0::x1::Jl::x0::LA::Jy::IY::x0::x1::J5::x0::MB::G3::JB::x0::x1::GP::x0::LG::Iu::JP::x0::x1::JZ::x0::Mb::Ho::HR::x0::x1::J7::x0::Md::Hx::HC::x0::x1::II::x0::MJ::Jg::G6::Hk::HP P::J4::Js::JT::LB::L6::x0::x1::IZ::x0::Ly::IX::Jq::x0::x1::IV::x0::Lh::IL::GD::x0::x1::GJ::x0::MG::Ix::G4::x0::x1::IJ::x0::MI::Iz::HG::x0::x1::JU::x0::Mw::Ii::Jv::x0::x1::GH::x0::LL::JO::HF::x0::x1::Gv::x0::LC::JI::Jm::x0::x1::HM::x0::Mr::HN::Ig::x0::x1::G8::x0::Mc::Jx::G9::x0::x1::HW::x0::LJ::JJ::Hj::x0::x1::Hb::x0::Ln::Ib::GO::x0::x1::IC::x0::LU::Jt::IE::[])) (.mk [] [] [] 0 [] [] false #[] [] 0 false false false 0 [2000,10,10] false 0 true [] [] 0 false)
theorem Nk (w:World) (os:OsState):segRun treeTable PySem.Challenge.pw_pebbletoll_k61_desk_deeds w 11 (some (.ref 6)) 1 1800 (Shared.mk (h0 w.params) (.mk []) (.mk 0 0 0 0) 343 os) (piecesOf st1 env cE (.mk 27 0 27 9) [topFrame (.mk 0 0 0 0)])=some (.next,(Shared.mk (h1 w.params) (.mk []) (.mk 0 0 0 0) 807 os),cE,(.mk 268 0 294 59)):=by kernel_rfl
noncomputable def hf (P:Params):Heap:=.mk (.mk (boot_o_0 P::boot_o_1 P::boot_o_2 P::x76 P::boot_o_4 P::boot_o_5 P::boot_o_6 P::boot_o_7 P::boot_o_8 P::boot_o_9 P::boot_o_10 P::x0::x77::x2::x3::x0::x1::x6::x0::x7::x8::x9::x10::x11::x12 P::x0::x1::x13::x14::x0::x15 P::x16::x17::x18::x19::x20::x11::x21 P::x0::x1::x22::x23::x0::x24 P::x25::x26::x27::x20::x11::x28 P::x0::x1::x29::x30::x0::x31 P::x32::x33::x34::x20::x11::x35 P::x0::x1::x36::x37::x0::x38 P::x39::x40::x41::x20::x11::x42 P::x0::x1::x43::x44::x0::x45 P::x46::x47::x48::x20::x11::x49 P::x0::x1::x50::x51::x0::x52 P::x53::x54::x55::x20::x11::x56 P::x0::x1::x57::x58::x0::x59 P::x60::x61::x62::x20::x11::x63 P::x0::x64::x65::x66::x0::x1::x67::x0::x68::x69::x70::x71::x72 P::x73::x74::x75::x0::x11::x78 P::x0::x79::x80::x81::x0::x1::x82::x83::x84::x85::x86 P::x87::x88::x89::x90::x91::x0::x1::x92::x0::x93::x94::x95::x0::x1::x96::x0::x97::x98::x99::x0::x1::HB::x0::Ml::HX::GU::x0::x1::IB::x0::Mi::JK::GK::x0::x1::Ij::x0::MA::HK::G2::x0::x1::IU::x0::Lj::I0::JQ::x0::x1::Hq::x0::Lr::GW::GV::x0::x1::Ir::x0::Lk::IR::GX::x0::x1::He::x0::Lv::GG::Hm::x0::x1::Hf::x0::Ls::Hv::Jr::x0::x1::LQ::GC::Hu::x0::x1::Jz::x0::LS::Gw::Hs::x0::x1::J8::x0::Ms::Iy::HA::x0::x1::Jd::x0::LK::Je::Ia::x0::x1::GF::x0::Me::Hw::Iq::x0::x1::Hl::x0::Lu::Ik::Jc::x0::x1::Gy::x0::LX::Gx::Ha::x0::x1::GA::x0::L0::GB::Jh::x0::x1::HJ::x0::Mq::GL::GQ::x0::x1::IG::x0::Lp::IK::JG::x0::x11::LO P::x0::Mx::LH::LP::x0::x1::JA::x0::MD::Jf::Ie::x0::x1::Mm::G1::J9::x0::x1::Jb::x0::LN::JC::JS::x0::x1::HS::x0::L9::Im::IT::x0::x1::Jl::x0::LA::Jy::IY::x0::x1::J5::x0::MB::G3::JB::x0::x1::GP::x0::LG::Iu::JP::x0::x1::JZ::x0::Mb::Ho::HR::x0::x1::J7::x0::Md::Hx::HC::x0::x1::II::x0::MJ::Jg::G6::Hk::HP P::J4::Js::JT::LB::L6::x0::x1::IZ::x0::Ly::IX::Jq::x0::x1::IV::x0::Lh::IL::GD::x0::x1::GJ::x0::MG::Ix::G4::x0::x1::IJ::x0::MI::Iz::HG::x0::x1::JU::x0::Mw::Ii::Jv::x0::x1::GH::x0::LL::JO::HF::x0::x1::Gv::x0::LC::JI::Jm::x0::x1::HM::x0::Mr::HN::Ig::x0::x1::G8::x0::Mc::Jx::G9::x0::x1::HW::x0::LJ::JJ::Hj::x0::x1::Hb::x0::Ln::Ib::GO::x0::x1::IC::x0::LU::Jt::IE::[])) (.mk [] [] [] 0 [] [] false #[] [] 0 false false false 0 [2000,10,10] false 0 true [] [] 0 false)
theorem Na (w:World) (os:OsState):topRun treeTable PySem.Challenge.pw_pebbletoll_k61_desk_deeds w 11 (some (.ref 6)) 2 (Shared.mk (h1 w.params) (.mk []) (.mk 0 0 0 0) 807 os) (restOf [] env cE (.mk 268 0 294 59) [topFrame (.mk 0 0 0 0)])=some (Shared.mk (hf w.params) (.mk []) (.mk 0 0 0 0) 807 os):=by kernel_rfl
theorem run (w:World) (os:OsState):topRun treeTable PySem.Challenge.pw_pebbletoll_k61_desk_deeds w 11 (some (.ref 6)) (12+(1+(1784+(1800+(2))))) (Shared.mk (boot_heap w.params) (.mk []) boot_drawn boot_toks os) (topStub PySem.Challenge.pw_pebbletoll_k61_desk_deeds)=some (Shared.mk (hf w.params) (.mk []) (.mk 0 0 0 0) 807 os):=go_top (Nm w os) (piece_block (M8 w os) (piece_app (Ng w os) (piece_app (Nk w os) (Na w os))))
theorem opn:∀ w:World,(fencedOpening treeTable PySem.Challenge.pw_pebbletoll_k61_desk_deeds w 7290).map (fun s=>(s.heap,s.gens,s.drawn,s.toks))=some (boot_heap w.params,Array.mk [],boot_drawn,boot_toks):=boot_open (by kernel_rfl) (by decide) fun s=>by kernel_rfl
theorem siz (w:World):((boot_heap w.params).isNs mainGlobals && (Array.mk ([]:List GenState)).size == 0,(boot_heap w.params).objs.size,(boot_heap w.params).nsMap mainGlobals "__annotations__")=(true,11,(some (.ref 6))):=by kernel_rfl
noncomputable def KK:Params->Frag:=fun P =>
 (nat_lit 2,boot_o_2 P) ::
 (nat_lit 3,x76 P) ::
 (nat_lit 15,x0) ::
 (nat_lit 17,x6) ::
 (nat_lit 18,x0) ::
 (nat_lit 20,x8) ::
 (nat_lit 21,x9) ::
 (nat_lit 22,x10) ::
 (nat_lit 29,x0) ::
 (nat_lit 30,x15 P) ::
 (nat_lit 31,x16) ::
 (nat_lit 32,x17) ::
 (nat_lit 35,x20) ::
 (nat_lit 42,x0) ::
 (nat_lit 43,x24 P) ::
 (nat_lit 44,x25) ::
 (nat_lit 47,x20) ::
 (nat_lit 54,x0) ::
 (nat_lit 55,x31 P) ::
 (nat_lit 56,x32) ::
 (nat_lit 59,x20) ::
 (nat_lit 66,x0) ::
 (nat_lit 67,x38 P) ::
 (nat_lit 68,x39) ::
 (nat_lit 71,x20) ::
 (nat_lit 78,x0) ::
 (nat_lit 79,x45 P) ::
 (nat_lit 80,x46) ::
 (nat_lit 83,x20) ::
 (nat_lit 90,x0) ::
 (nat_lit 91,x52 P) ::
 (nat_lit 92,x53) ::
 (nat_lit 95,x20) ::
 (nat_lit 102,x0) ::
 (nat_lit 103,x59 P) ::
 (nat_lit 104,x60) ::
 (nat_lit 107,x20) ::
 (nat_lit 114,x0) ::
 (nat_lit 116,x67) ::
 (nat_lit 117,x0) ::
 (nat_lit 119,x69) ::
 (nat_lit 120,x70) ::
 (nat_lit 121,x71) ::
 (nat_lit 122,x72 P) ::
 (nat_lit 123,x73) ::
 (nat_lit 133,x0) ::
 (nat_lit 136,x83) ::
 (nat_lit 137,x84) ::
 (nat_lit 138,x85) ::
 (nat_lit 139,x86 P) ::
 (nat_lit 140,x87) ::
 (nat_lit 141,x88) ::
 (nat_lit 142,x89) ::
 (nat_lit 145,x0) ::
 (nat_lit 147,x92) ::
 (nat_lit 148,x0) ::
 (nat_lit 150,x94) ::
 (nat_lit 151,x95) ::
 (nat_lit 152,x0) ::
 (nat_lit 154,x96) ::
 (nat_lit 155,x0) ::
 (nat_lit 157,x98) ::
 (nat_lit 158,x99) ::
 (nat_lit 159,x0) ::
 (nat_lit 161,HB) ::
 (nat_lit 162,x0) ::
 (nat_lit 164,HX) ::
 (nat_lit 165,GU) ::
 (nat_lit 166,x0) ::
 (nat_lit 168,IB) ::
 (nat_lit 169,x0) ::
 (nat_lit 171,JK) ::
 (nat_lit 172,GK) ::
 (nat_lit 173,x0) ::
 (nat_lit 175,Ij) ::
 (nat_lit 176,x0) ::
 (nat_lit 178,HK) ::
 (nat_lit 179,G2) ::
 (nat_lit 180,x0) ::
 (nat_lit 182,IU) ::
 (nat_lit 183,x0) ::
 (nat_lit 185,I0) ::
 (nat_lit 186,JQ) ::
 (nat_lit 187,x0) ::
 (nat_lit 189,Hq) ::
 (nat_lit 190,x0) ::
 (nat_lit 192,GW) ::
 (nat_lit 193,GV) ::
 (nat_lit 194,x0) ::
 (nat_lit 196,Ir) ::
 (nat_lit 197,x0) ::
 (nat_lit 199,IR) ::
 (nat_lit 200,GX) ::
 (nat_lit 201,x0) ::
 (nat_lit 203,He) ::
 (nat_lit 204,x0) ::
 (nat_lit 206,GG) ::
 (nat_lit 207,Hm) ::
 (nat_lit 208,x0) ::
 (nat_lit 210,Hf) ::
 (nat_lit 211,x0) ::
 (nat_lit 213,Hv) ::
 (nat_lit 214,Jr) ::
 (nat_lit 215,x0) ::
 (nat_lit 218,GC) ::
 (nat_lit 219,Hu) ::
 (nat_lit 220,x0) ::
 (nat_lit 222,Jz) ::
 (nat_lit 223,x0) ::
 (nat_lit 225,Gw) ::
 (nat_lit 226,Hs) ::
 (nat_lit 227,x0) ::
 (nat_lit 229,J8) ::
 (nat_lit 230,x0) ::
 (nat_lit 232,Iy) ::
 (nat_lit 233,HA) ::
 (nat_lit 234,x0) ::
 (nat_lit 236,Jd) ::
 (nat_lit 237,x0) ::
 (nat_lit 239,Je) ::
 (nat_lit 240,Ia) ::
 (nat_lit 241,x0) ::
 (nat_lit 243,GF) ::
 (nat_lit 244,x0) ::
 (nat_lit 246,Hw) ::
 (nat_lit 247,Iq) ::
 (nat_lit 248,x0) ::
 (nat_lit 250,Hl) ::
 (nat_lit 251,x0) ::
 (nat_lit 253,Ik) ::
 (nat_lit 254,Jc) ::
 (nat_lit 255,x0) ::
 (nat_lit 257,Gy) ::
 (nat_lit 258,x0) ::
 (nat_lit 260,Gx) ::
 (nat_lit 261,Ha) ::
 (nat_lit 262,x0) ::
 (nat_lit 264,GA) ::
 (nat_lit 265,x0) ::
 (nat_lit 267,GB) ::
 (nat_lit 268,Jh) ::
 (nat_lit 269,x0) ::
 (nat_lit 271,HJ) ::
 (nat_lit 272,x0) ::
 (nat_lit 274,GL) ::
 (nat_lit 275,GQ) ::
 (nat_lit 276,x0) ::
 (nat_lit 278,IG) ::
 (nat_lit 279,x0) ::
 (nat_lit 281,IK) ::
 (nat_lit 282,JG) ::
 (nat_lit 290,x0) ::
 (nat_lit 292,JA) ::
 (nat_lit 293,x0) ::
 (nat_lit 295,Jf) ::
 (nat_lit 296,Ie) ::
 (nat_lit 297,x0) ::
 (nat_lit 300,G1) ::
 (nat_lit 301,J9) ::
 (nat_lit 302,x0) ::
 (nat_lit 304,Jb) ::
 (nat_lit 305,x0) ::
 (nat_lit 307,JC) ::
 (nat_lit 308,JS) ::
 (nat_lit 309,x0) ::
 (nat_lit 311,HS) ::
 (nat_lit 312,x0) ::
 (nat_lit 314,Im) ::
 (nat_lit 315,IT) ::
 (nat_lit 316,x0) ::
 (nat_lit 318,Jl) ::
 (nat_lit 319,x0) ::
 (nat_lit 321,Jy) ::
 (nat_lit 322,IY) ::
 (nat_lit 323,x0) ::
 (nat_lit 325,J5) ::
 (nat_lit 326,x0) ::
 (nat_lit 328,G3) ::
 (nat_lit 329,JB) ::
 (nat_lit 330,x0) ::
 (nat_lit 332,GP) ::
 (nat_lit 333,x0) ::
 (nat_lit 335,Iu) ::
 (nat_lit 336,JP) ::
 (nat_lit 337,x0) ::
 (nat_lit 339,JZ) ::
 (nat_lit 340,x0) ::
 (nat_lit 342,Ho) ::
 (nat_lit 343,HR) ::
 (nat_lit 344,x0) ::
 (nat_lit 346,J7) ::
 (nat_lit 347,x0) ::
 (nat_lit 349,Hx) ::
 (nat_lit 350,HC) ::
 (nat_lit 351,x0) ::
 (nat_lit 353,II) ::
 (nat_lit 354,x0) ::
 (nat_lit 356,Jg) ::
 (nat_lit 357,G6) ::
 (nat_lit 358,Hk) ::
 (nat_lit 359,HP P) ::
 (nat_lit 360,J4) ::
 (nat_lit 361,Js) ::
 (nat_lit 362,JT) ::
 (nat_lit 365,x0) ::
 (nat_lit 367,IZ) ::
 (nat_lit 368,x0) ::
 (nat_lit 370,IX) ::
 (nat_lit 371,Jq) ::
 (nat_lit 372,x0) ::
 (nat_lit 374,IV) ::
 (nat_lit 375,x0) ::
 (nat_lit 377,IL) ::
 (nat_lit 378,GD) ::
 (nat_lit 379,x0) ::
 (nat_lit 381,GJ) ::
 (nat_lit 382,x0) ::
 (nat_lit 384,Ix) ::
 (nat_lit 385,G4) ::
 (nat_lit 386,x0) ::
 (nat_lit 388,IJ) ::
 (nat_lit 389,x0) ::
 (nat_lit 391,Iz) ::
 (nat_lit 392,HG) ::
 (nat_lit 393,x0) ::
 (nat_lit 395,JU) ::
 (nat_lit 396,x0) ::
 (nat_lit 398,Ii) ::
 (nat_lit 399,Jv) ::
 (nat_lit 400,x0) ::
 (nat_lit 402,GH) ::
 (nat_lit 403,x0) ::
 (nat_lit 405,JO) ::
 (nat_lit 406,HF) ::
 (nat_lit 407,x0) ::
 (nat_lit 409,Gv) ::
 (nat_lit 410,x0) ::
 (nat_lit 412,JI) ::
 (nat_lit 413,Jm) ::
 (nat_lit 414,x0) ::
 (nat_lit 416,HM) ::
 (nat_lit 417,x0) ::
 (nat_lit 419,HN) ::
 (nat_lit 420,Ig) ::
 (nat_lit 421,x0) ::
 (nat_lit 423,G8) ::
 (nat_lit 424,x0) ::
 (nat_lit 426,Jx) ::
 (nat_lit 427,G9) ::
 (nat_lit 428,x0) ::
 (nat_lit 430,HW) ::
 (nat_lit 431,x0) ::
 (nat_lit 433,JJ) ::
 (nat_lit 434,Hj) ::
 (nat_lit 435,x0) ::
 (nat_lit 437,Hb) ::
 (nat_lit 438,x0) ::
 (nat_lit 440,Ib) ::
 (nat_lit 441,GO) ::
 (nat_lit 442,x0) ::
 (nat_lit 444,IC) ::
 (nat_lit 445,x0) ::
 (nat_lit 447,Jt) ::
 (nat_lit 448,IE)::[]
abbrev qq:Program:=PySem.W.view PySem.Challenge.pw_pebbletoll_k61_desk_deeds [0,2,3,4,5,6,7,8,9,11,12,13,14,15,16,17,18,19,20,21,22,23,25,26,27,28,30,31,32,33,34,35,37,39,41,42,43,44,45,46,47,48,49,50,51,52]
abbrev asK:List Addr:=[2,3,15,17,18,20,21,22,29,30,31,32,35,42,43,44,47,54,55,56,59,66,67,68,71,78,79,80,83,90,91,92,95,102,103,104,107,114,116,117,119,120,121,122,123,133,136,137,138,139,140,141,142,145,147,148,150,151,152,154,155,157,158,159,161,162,164,165,166,168,169,171,172,173,175,176,178,179,180,182,183,185,186,187,189,190,192,193,194,196,197,199,200,201,203,204,206,207,208,210,211,213,214,215,218,219,220,222,223,225,226,227,229,230,232,233,234,236,237,239,240,241,243,244,246,247,248,250,251,253,254,255,257,258,260,261,262,264,265,267,268,269,271,272,274,275,276,278,279,281,282,290,292,293,295,296,297,300,301,302,304,305,307,308,309,311,312,314,315,316,318,319,321,322,323,325,326,328,329,330,332,333,335,336,337,339,340,342,343,344,346,347,349,350,351,353,354,356,357,358,359,360,361,362,365,367,368,370,371,372,374,375,377,378,379,381,382,384,385,386,388,389,391,392,393,395,396,398,399,400,402,403,405,406,407,409,410,412,413,414,416,417,419,420,421,423,424,426,427,428,430,431,433,434,435,437,438,440,441,442,444,445,447,448]
theorem asK_eq:∀ P,asK=(KK P).map (·.1):=fun _=>by kernel_rfl
theorem MS (w:World):(fun os=>((staticsOk (importedModules PySem.Challenge.pw_pebbletoll_k61_desk_deeds.main.body) (boot_heap w.params) (hf w.params) && namesBound PySem.Challenge.pw_pebbletoll_k61_desk_deeds (hf w.params) && gensDone (Shared.mk (Hd.hf w.params) (.mk []) (.mk 0 0 0 0) 807 os) && laidKept (boot_heap w.params) (hf w.params)),openSeen qq [] (importedModules PySem.Challenge.pw_pebbletoll_k61_desk_deeds.main.body) (fun s=>PySem.W.xlAt Hd.qq [] s && PySem.W.recOk (PySem.W.RowW.records (PySem.W.OpenRow.toRowW (PySem.Challenge.rw_pebbletoll_k61_desk_deeds).row)) s) true (Shared.mk (Hd.hf w.params) (.mk []) (.mk 0 0 0 0) 807 os),Hook.obs (PySem.W.kHook Hd.KK Hd.asK Hd.asK_eq) (Shared.mk (Hd.hf w.params) (.mk []) (.mk 0 0 0 0) 807 os)))=fun _=>(true,openGood qq [],Hook.val (PySem.W.kHook Hd.KK Hd.asK Hd.asK_eq) w):=by kernel_rfl
theorem left:PySem.W.LeftO (PySem.Challenge.rw_pebbletoll_k61_desk_deeds).row.prog qq [] (fun s=>PySem.W.xlAt Hd.qq [] s && PySem.W.recOk (PySem.W.RowW.records (PySem.W.OpenRow.toRowW (PySem.Challenge.rw_pebbletoll_k61_desk_deeds).row)) s) (PySem.W.Hook.obs (PySem.W.kHook Hd.KK Hd.asK Hd.asK_eq)) (PySem.W.Hook.val (PySem.W.kHook Hd.KK Hd.asK Hd.asK_eq)) 7290:=LeftO.of_pieces opn siz run (by decide) MS
end Hd
set_option Elab.async false
set_option linter.all false
set_option maxRecDepth 100000
namespace L2
open PySem PySem.Spec PyProof.Rows
abbrev Key:=Sum Int Str
def tM:Key->Value->Bool
 | .inl k,v=>Value.isInt k v
 | .inr x,v=>Value.isStrOf x v
def MV (w:World):Key->Int
 | .inl k=>hashInt k
 | .inr x=>hashStr w x
theorem dg:∀ {k:Key} {v:Value},tM k v=true->(∃ i t,k=Sum.inl i/\v=Value.int i t)\/(∃ x t,k=Sum.inr x/\v=Value.str x t)
 | .inl i,v,h=>by
   obtain ⟨t,e⟩:=Value.isInt_shape (k:=i) (v:=v) h;exact .inl ⟨i,t,rfl,e⟩
 | .inr x,v,h=>by
   obtain ⟨t,e⟩:=Value.isStrOf_shape (x:=x) (v:=v) h;exact .inr ⟨x,t,rfl,e⟩
theorem FQ (i:Int) (t:Tok):tM (.inl i) (.int i t)=true:=by simp [tM,Value.isInt]
theorem FD (x:Str) (t:Tok):tM (.inr x) (.str x t)=true:=by simp [tM,Value.isStrOf]
theorem LV (a b:Int):decide ((Sum.inl a:Key)=Sum.inl b)=(a == b):=by
 by_cases e:a=b
 . subst e;simp
 . have h:¬ (Sum.inl a:Key)=Sum.inl b:=fun q=>e (Sum.inl.inj q);rw [decide_eq_false h];exact (beq_eq_false_iff_ne.mpr e).symm
theorem LF (a b:Str):decide ((Sum.inr a:Key)=Sum.inr b)=decide (a=b):=by
 by_cases e:a=b
 . subst e;simp
 . have h:¬ (Sum.inr a:Key)=Sum.inr b:=fun q=>e (Sum.inr.inj q);rw [decide_eq_false h,decide_eq_false e]
theorem Li (a:Int) (b:Str):decide ((Sum.inl a:Key)=Sum.inr b)=false:=decide_eq_false (fun q=>nomatch q)
theorem L1 (a:Str) (b:Int):decide ((Sum.inr a:Key)=Sum.inl b)=false:=decide_eq_false (fun q=>nomatch q)
def cT (prog:Program) (w:World):PySem.KeyKind prog w Key where
 is:=tM
 hash:=MV w
 inj:=fun v a b ha hb=>by
   rcases dg ha with ⟨i,t,rfl,rfl⟩|⟨x,t,rfl,rfl⟩
   . rcases dg hb with ⟨j,u,rfl,e⟩|⟨y,u,rfl,e⟩
     . injection e with e1 _;rw [e1]
     . exact nomatch e
   . rcases dg hb with ⟨j,u,rfl,e⟩|⟨y,u,rfl,e⟩
     . exact nomatch e
     . injection e with e1 _;rw [e1]
 byValue:=fun k v h=>by
   rcases dg h with ⟨i,t,rfl,rfl⟩|⟨x,t,rfl,rfl⟩ <;> rfl
 pyHash:=fun hv h=>by
   rcases dg hv with ⟨i,t,rfl,rfl⟩|⟨x,t,rfl,rfl⟩
   . exact wpAny_pyHash_int h
   . exact wpAny_pyHash_str h
 eqBool:=fun hu hv h=>by
   rcases dg hu with ⟨i,t,rfl,rfl⟩|⟨x,t,rfl,rfl⟩
   . rcases dg hv with ⟨j,u,rfl,rfl⟩|⟨y,u,rfl,rfl⟩
     . rw [LV] at h;exact wpAny_eqBool_int h
     . rw [Li] at h;exact SeqAt.EqAt.int_str i t y u _ _ _ _ h
   . rcases dg hv with ⟨j,u,rfl,rfl⟩|⟨y,u,rfl,rfl⟩
     . rw [L1] at h;exact SeqAt.EqAt.str_int x t j u _ _ _ _ h
     . rw [LF] at h;exact wpAny_eqBool_str h
 «strs»:=fun k x t v h=>by
   rcases dg h with ⟨i,u,rfl,e⟩|⟨y,u,rfl,e⟩
   . exact nomatch e
   . injection e with e1 _
     subst e1;cases v <;> rfl
theorem C6 (prog:Program) (w:World) (i:Int) (t:Tok):(cT prog w).is (.inl i) (.int i t)=true:=FQ i t
theorem CG (prog:Program) (w:World) (x:Str) (t:Tok):(cT prog w).is (.inr x) (.str x t)=true:=FD x t
end L2
namespace L2
open PySem PySem.Spec PyProof.Rows
inductive V where
 | non|bl (b:Bool)|int (i:Int)|str (x:Str)|byt (b:Array UInt8)|flt (b:UInt64)|ref (a:Addr)|ty (n:String)
 deriving DecidableEq
def RelV:V->Value->Prop
 | .non,u=>u=Value.none
 | .bl b,u=>u=Value.bool b
 | .int i,u=>∃ t,u=Value.int i t
 | .str x,u=>∃ t,u=Value.str x t
 | .byt b,u=>∃ t,u=Value.bytes b t
 | .flt b,u=>∃ t,u=Value.float b t
 | .ref a,u=>u=Value.ref a
 | .ty n,u=>u=Value.type n
abbrev Vals:List V->List Value->Prop:=Paired RelV
theorem Vals.length {xs:List V} {us:List Value} (r:Vals xs us):xs.length=us.length:=Paired.length r
theorem Vals.get:∀ {xs:List V} {us:List Value} {i:Nat} {x:V},Vals xs us->xs[i]?=some x->∃ u,us[i]?=some u/\RelV x u
 | _,_,_,_,.nil,e=>by simp at e
 | _,_,0,_,.cons r _,e=>by simp at e;subst e;exact ⟨_,rfl,r⟩
 | _,_,i+1,x,.cons _ t,e=>by
   obtain ⟨u,h1,h2⟩:=Vals.get (i:=i) (x:=x) t (by simpa using e);exact ⟨u,by simpa using h1,h2⟩
theorem Vals.set {x:V} {u:Value} (r:RelV x u):∀ {xs:List V} {us:List Value} (i:Nat),Vals xs us->Vals (xs.set i x) (us.set i u)
 | _,_,_,.nil=>.nil
 | _,_,0,.cons _ t=>.cons r t
 | _,_,i+1,.cons q t=>.cons q (Vals.set r i t)
theorem Vals.append:∀ {xs ys:List V} {us ws:List Value},Vals xs us->Vals ys ws->Vals (xs++ys) (us++ws)
 | _,_,_,_,.nil,s=>s
 | _,_,_,_,.cons r t,s=>.cons r (Vals.append t s)
theorem Vals.take:∀ {xs:List V} {us:List Value} (n:Nat),Vals xs us->Vals (xs.take n) (us.take n)
 | _,_,0,_=>.nil
 | _,_,_+1,.nil=>.nil
 | _,_,n+1,.cons r t=>.cons r (Vals.take n t)
theorem Vals.drop:∀ {xs:List V} {us:List Value} (n:Nat),Vals xs us->Vals (xs.drop n) (us.drop n)
 | _,_,0,r=>r
 | _,_,_+1,.nil=>.nil
 | _,_,n+1,.cons _ t=>Vals.drop n t
def RelO:Option V->Option Value->Prop
 | some v,some u=>RelV v u
 | none,none=>True
 | _,_=>False
def KV {κ:Type}:List (κ × V)->List (κ × Value)->Prop:=Paired fun (p:κ × V) (q:κ × Value)=>p.1=q.1/\RelV p.2 q.2
def kV:Key->V
 | .inl i=>.int i
 | .inr x=>.str x
inductive HO where
 /-- a list -/
 | lst (xs:List V)
 /-- a tuple (never changes) -/
 | tup (xs:List V)
 /-- a dict whose keys are ints and texts;one whose keys are tuples of ints and texts (the empty one is both) -/
 | dK (kvs:List (Key × V))|dT (kvs:List (List Key × V))
 /-- a set of ints: its members,its size -/
 | set (S:Int->Bool) (n:Nat)
 /-- an instance of the class at C,its dict at dx,its attributes -/
 | ins (C dx:Addr) (fs:List (Str × V))
 /-- the dict of the instance at x -/
 | own (x:Addr)
 /-- the dict of an exception -/
 | xd (fs:List (Str × V))
 /-- a bound method,f of x -/
 | met (f x:Addr)
 /-- a range object lo,lo+1,.. below hi -/
 | rng (lo hi:Int)
 /-- a thing that is known to the object (the script;a dict while a loop walks it): read,never written while it is so -/
 | frz (o:Obj) (u:HO)
 /-- a code object's table -/
 | tbl (ps:Array Value)
 /-- any other thing,by what is true of its one object (a def of one's own: SetO a S n:=HO.ext fun h=>..) -/
 | ext (φ:Heap->Prop)
abbrev Hp:=Addr->Option HO
def upd (H:Hp) (a:Addr) (o:HO):Hp:=fun b=>if b=a then some o else H b
theorem ak {H:Hp} {a:Addr} {o:HO}:upd H a o a=some o:=by unfold upd;rw [if_pos rfl]
theorem ao {H:Hp} {a b:Addr} {o:HO} (h:b≠a):upd H a o b=H b:=by unfold upd;rw [if_neg h]
theorem iQ {H:Hp} {a:Addr} {o u:HO}:upd (upd H a o) a u=upd H a u:=by
 funext b;unfold upd;split <;> rfl
theorem cy {H:Hp} {a b:Addr} {o u:HO} (h:H a=some o) (h':H b=some u) (d:o≠u):a≠b:=by
 intro e;subst e;rw [h] at h';exact d (Option.some.inj h')
theorem bw {H:Hp} {a b:Addr} {o:HO} (h:H a=some o) (h':H b=none):a≠b:=by
 intro e;subst e;rw [h] at h';cases h'
section
variable (P:Program) (w:World)
def ObjOk (H:Hp) (h:Heap) (a:Addr):HO->Prop
 | .lst xs=>xs.length<=sizeLine/\∃ (its:List Value) (n:Nat),Vals xs its/\h.get? a=some { cls:=.type "list",data:=.seq its.toArray n }
 | .tup xs=>xs.length<=sizeLine/\∃ its:List Value,Vals xs its/\IsTup h a its.toArray
 | .dK kvs=>kvs.length<=sizeLine/\(a == sysModules)=false/\∃ vs,KV kvs vs/\h.DictOf (cT P w) a vs
 | .dT kvs=>kvs.length<=sizeLine/\(a == sysModules)=false/\∃ xs:List (List Key × Addr × Value),
     Paired (fun (p:List Key × V) (q:List Key × Addr × Value)=>p.1=q.1/\H q.2.1=some (.tup (p.1.map kV))/\RelV p.2 q.2.2) kvs xs /\
     ∃ o es ep,h.get? a=some o/\o.ExactDict/\o.data=.dict es ep/\es.toList=xs.map (entryOfKey (tupleKind (cT P w)))/\(xs.map (·.1)).Nodup
 | .set S n=>h.SetOf (intKind P w) a S n
 | .ins C dx fs=>H dx=some (.own a)/\fs.length<=1000/\dx≠a/\h.get? a=some (PySem.W.instObj C dx) /\
     ∃ mA,h.Ns1 dx mA/\(∀ f,RelO (fs.lookup f) (mA f))/\PySem.Within mA (fs.map (·.1))
 | .own _=>∃ o,h.get? a=some o
 | .xd fs=>∃ mA,h.Ns1 a mA/\∀ f,RelO (fs.lookup f) (mA f)
 | .rng lo hi=>∃ t u v,h.get? a=some { cls:=.type "range",data:=.fields #[.int lo t,.int hi u,.int 1 v] }
 | .frz o u=>h.get? a=some o/\ObjOk H h a u
 | .tbl ps=>h.get? a=some { cls:=.none,data:=.fields ps }
 | .met f x=>h.get? a=some (PySem.W.methodObj (.ref f) (.ref x))
 | .ext φ=>φ h/\(∃ o,h.get? a=some o)/\∀ h1 h2:Heap,φ h1->(∀ o,h1.get? a=some o->h2.get? a=some o)->φ h2
def HOk (H:Hp) (h:Heap):Prop:=∀ a o,H a=some o->ObjOk P w H h a o
end
section
variable {P:Program} {w:World} {H H':Hp} {h h':Heap} {a:Addr} {o:HO}
theorem ObjOk.lt (x:ObjOk P w H h a o):a<h.objs.size:=by
 cases o with
 | lst xs=>obtain ⟨_,_,_,_,e⟩:=x;exact Heap.lt_size e
 | tup xs=>obtain ⟨_,_,_,p⟩:=x;exact p.lt
 | dK kvs=>obtain ⟨_,_,_,_,o,_,_,e,_⟩:=x;exact Heap.lt_size e
 | dT kvs=>obtain ⟨_,_,_,_,o,_,_,e,_⟩:=x;exact Heap.lt_size e
 | set S n=>obtain ⟨o,_,_,_,e,_⟩:=x;exact Heap.lt_size e
 | ins C dx fs=>obtain ⟨_,_,_,e,_⟩:=x;exact Heap.lt_size e
 | own y=>obtain ⟨_,e⟩:=x;exact Heap.lt_size e
 | xd fs=>obtain ⟨_,⟨_,_,_,e,_⟩,_⟩:=x;exact Heap.lt_size e
 | rng lo hi=>obtain ⟨_,_,_,e⟩:=x;exact Heap.lt_size e
 | frz ob u=>obtain ⟨e,_⟩:=x;exact Heap.lt_size e
 | tbl ps=>exact Heap.lt_size (show h.get? a=some _ from x)
 | met f y=>exact Heap.lt_size (show h.get? a=some _ from x)
 | ext φ=>obtain ⟨_,⟨_,e⟩,_⟩:=x;exact Heap.lt_size e
theorem Paired.mapP {α β:Type} {F G:α->β->Prop}:∀ {l₁:List α} {l₂:List β},Paired F l₁ l₂->(∀ a b,F a b->G a b)->Paired G l₁ l₂
 | _,_,.nil,_=>.nil
 | _,_,.cons r t,f=>.cons (f _ _ r) (Paired.mapP t f)
theorem Paired.imp' {α β:Type} {F G:α->β->Prop} (f:∀ a b,F a b->G a b) {l₁:List α} {l₂:List β} (r:Paired F l₁ l₂):Paired G l₁ l₂:=Paired.mapP r f
theorem ObjOk.stay (x:ObjOk P w H h a o) (k:∀ b u,(b=a\/H b=some (.own a))->h.get? b=some u->h'.get? b=some u)
   (ho:∀ b,H b=some (.own a)->H' b=some (.own a)) (ht:∀ b xs,H b=some (.tup xs)->H' b=some (.tup xs)):ObjOk P w H' h' a o:=by
 induction o with
 | lst xs=>obtain ⟨z,its,n,r,e⟩:=x;exact ⟨z,its,n,r,k _ _ (.inl rfl) e⟩
 | tup xs=>obtain ⟨z,its,r,ob,e,c⟩:=x;exact ⟨z,its,r,ob,k _ _ (.inl rfl) e,c⟩
 | dK kvs=>obtain ⟨z,y,vs,r,ob,es,ep,e,c⟩:=x;exact ⟨z,y,vs,r,ob,es,ep,k _ _ (.inl rfl) e,c⟩
 | dT kvs =>
   obtain ⟨z,y,xs,r,ob,es,ep,e,c⟩:=x;exact ⟨z,y,xs,Paired.mapP r fun p q z=>⟨z.1,ht _ _ z.2.1,z.2.2⟩,ob,es,ep,k _ _ (.inl rfl) e,c⟩
 | set S n=>obtain ⟨ob,es,ep,t,e,c⟩:=x;exact ⟨ob,es,ep,t,k _ _ (.inl rfl) e,c⟩
 | ins C dx fs =>
   obtain ⟨d,z,ne,e,mA,⟨od,es,ep,e2,c⟩,r⟩:=x;exact ⟨ho _ d,z,ne,k _ _ (.inl rfl) e,mA,⟨od,es,ep,k _ _ (.inr d) e2,c⟩,r⟩
 | own y=>obtain ⟨ob,e⟩:=x;exact ⟨ob,k _ _ (.inl rfl) e⟩
 | xd fs=>obtain ⟨mA,⟨od,es,ep,e,c⟩,r⟩:=x;exact ⟨mA,⟨od,es,ep,k _ _ (.inl rfl) e,c⟩,r⟩
 | rng lo hi=>obtain ⟨t,u,v,e⟩:=x;exact ⟨t,u,v,k _ _ (.inl rfl) e⟩
 | frz ob u ih=>obtain ⟨e,q⟩:=x;exact ⟨k _ _ (.inl rfl) e,ih q⟩
 | tbl ps =>
   have e:h.get? a=some { cls:=.none,data:=.fields ps }:=x;show h'.get? a=some { cls:=.none,data:=.fields ps };exact k a _ (.inl rfl) e
 | met f y =>
   have e:h.get? a=some (PySem.W.methodObj (.ref f) (.ref y)):=x;show h'.get? a=some (PySem.W.methodObj (.ref f) (.ref y));exact k a _ (.inl rfl) e
 | ext φ=>obtain ⟨p,⟨o,e⟩,st⟩:=x;exact ⟨st _ _ p fun o q=>k _ _ (.inl rfl) q,⟨o,k _ _ (.inl rfl) e⟩,st⟩
theorem HOk.lt (x:HOk P w H h) (e:H a=some o):a<h.objs.size:=(x a o e).lt
theorem HOk.fresh (x:HOk P w H h) (e:h.objs.size<=a):H a=none:=by
 cases q:H a with
 | none=>rfl
 | some u=>exact absurd (Nat.lt_of_lt_of_le (x.lt q) e) (Nat.lt_irrefl _)
theorem HOk.kept (x:HOk P w H h) (k:∀ b u,h.get? b=some u->h'.get? b=some u):HOk P w H h':=fun a o e =>
 (x a o e).stay (fun b u _ q=>k b u q) (fun _ q=>q) fun _ _ q=>q
theorem HOk.laid (x:HOk P w H h) (k:∀ b u,h.get? b=some u->h'.get? b=some u) (hp:h.objs.size<=a) (new:ObjOk P w (upd H a o) h' a o):HOk P w (upd H a o) h':=fun b u e=>by
 have hn:=x.fresh hp;by_cases hb:b=a
 . subst hb;rw [ak] at e;cases e;exact new
 . rw [ao hb] at e;exact (x b u e).stay (fun c v _ q=>k c v q) (fun c q=>by rw [ao (bw q hn)];exact q) fun c xs q=>by rw [ao (bw q hn)];exact q
end
def Rd (H:Hp) (a:Addr) (u:HO):Prop:=H a=some u\/∃ o,H a=some (.frz o u)
theorem Rd.ok {P:Program} {w:World} {H:Hp} {h:Heap} {a:Addr} {u:HO} (r:Rd H a u) (x:HOk P w H h):ObjOk P w H h a u:=by
 rcases r with r|⟨o,r⟩
 . exact x a u r
 . obtain ⟨_,q⟩:=x a _ r;exact q
def Mut:Option HO->Prop
 | some (.lst _)=>True
 | some (.dK _)=>True
 | some (.dT _)=>True
 | some (.set _ _)=>True
 | some (.ins _ _ _)=>True
 | some (.ext _)=>True
 | _=>False
section
variable {P:Program} {w:World} {H:Hp} {h h':Heap} {x e:Addr} {o':HO}
theorem HOk.write (ok:HOk P w H h) (mu:Mut (H x)) (he:e=x\/H e=some (.own x)) (k:∀ b u,b≠e->h.get? b=some u->h'.get? b=some u) (heo:∃ u,h'.get? e=some u)
   (new:ObjOk P w (upd H x o') h' x o'):HOk P w (upd H x o') h':=fun b u q=>by
 have nown:∀ c y,H c=some (.own y)->c≠x:=fun c y r z=>by subst z;rw [r] at mu;exact mu
 have ntup:∀ c xs,H c=some (.tup xs)->c≠x:=fun c xs r z=>by subst z;rw [r] at mu;exact mu
 by_cases hb:b=x
 . subst hb;rw [ak] at q;cases q;exact new
 . rw [ao hb] at q;by_cases hbe:b=e
   . have q':H b=some (.own x):=by
       rcases he with z|z
       . exact absurd (hbe.trans z) hb
       . rw [hbe];exact z
     rw [q] at q';cases q';obtain ⟨v,hv⟩:=heo;exact ⟨v,by rw [hbe];exact hv⟩
   . refine (ok b u q).stay (fun c v hc r=>k c v ?_ r) (fun c r=>by rw [ao (nown c b r)];exact r) fun c xs r=>by rw [ao (ntup c xs r)];exact r
     rcases hc with rfl|hc
     . exact hbe
     . rintro rfl;rcases he with z|z
       . exact nown c b hc z
       . rw [hc] at z;cases z;exact hb rfl
end
structure Un (fs ex:List Addr) (H H':Hp) (h h':Heap):Prop where
 keep:∀ b o,h.get? b=some o->H b=none->b ∉ fs->b ∉ ex->h'.get? b=some o
 slot:∀ b o,h.get? b=some o->H b=none->b∈fs->b ∉ ex->∃ sl,h'.get? b=some { o with slots:=sl }
 free:∀ b o,h.get? b=some o->H b=none->b ∉ ex->H' b=none
 there:∀ b o,h.get? b=some o->b ∉ ex->∃ o',h'.get? b=some o'
 tups:∀ b xs,H b=some (.tup xs)->H' b=some (.tup xs)
 frzs:∀ b o u,H b=some (.frz o u)->H' b=some (.frz o u)
 tbls:∀ b ps,H b=some (.tbl ps)->∃ more,H' b=some (.tbl (ps++more))
section
variable {fs fs' ex ex':List Addr} {H H1 H2:Hp} {h h1 h2 h':Heap} {a x e:Addr} {o:HO}
theorem Un.any (u:Un fs ex H H1 h h1) {b:Addr} {ob:Obj} (q:h.get? b=some ob) (n:H b=none) (hx:b ∉ ex):∃ sl,h1.get? b=some { ob with slots:=sl }:=by
 by_cases hb:b∈fs
 . exact u.slot b ob q n hb hx
 . exact ⟨ob.slots,u.keep b ob q n hb hx⟩
theorem Un.kept (k:∀ b u,h.get? b=some u->h'.get? b=some u):Un fs ex H H h h' :=
 ⟨fun b ob q _ _ _=>k b ob q,fun b ob q _ _ _=>⟨ob.slots,k b ob q⟩,fun _ _ _ n _=>n,fun b ob q _=>⟨ob,k b ob q⟩,fun _ _ q=>q,fun _ _ _ q=>q,fun _ ps q=>⟨#[],by rw [q];simp⟩⟩
theorem Un.refl:Un fs ex H H h h:=Un.kept fun _ _ q=>q
theorem Un.laid (k:∀ b u,h.get? b=some u->h'.get? b=some u) (hp:h.objs.size<=a) (hn:H a=none):Un fs ex H (upd H a o) h h' where
 keep:=fun b u q _ _ _=>k b u q
 slot:=fun b u q _ _ _=>⟨u.slots,k b u q⟩
 free:=fun b u q n _=>by rw [ao (Nat.ne_of_lt (Nat.lt_of_lt_of_le (Heap.lt_size q) hp))];exact n
 there:=fun b u q _=>⟨u,k b u q⟩
 tups:=fun b xs q=>by rw [ao (bw q hn)];exact q
 frzs:=fun b u xs q=>by rw [ao (bw q hn)];exact q
 tbls:=fun b ps q=>⟨#[],by rw [ao (bw q hn),q];simp⟩
theorem Un.write (mu:Mut (H x)) (he:e=x\/H e=some (.own x)) (k:∀ b u,b≠e->h.get? b=some u->h'.get? b=some u) (heo:∃ u,h'.get? e=some u):Un fs ex H (upd H x o) h h':=by
 have hx:∀ b,H b=none->b≠x:=fun b n z=>by subst z;rw [n] at mu;exact mu
 have hb:∀ b,H b=none->b≠e:=fun b n z=>by
   subst z;rcases he with r|r
   . exact hx b n r
   . rw [n] at r;cases r
 have hm:∀ b u,H b=some u->¬ Mut (some u)->b≠x:=fun b u q nm z=>by subst z;rw [q] at mu;exact nm mu
 refine ⟨fun b u q n _ _=>k b u (hb b n) q,fun b u q n _ _=>⟨u.slots,k b u (hb b n) q⟩,fun b u q n _=>by rw [ao (hx b n)];exact n,fun b u q _=>?_,
   fun b xs q=>by rw [ao (hm b _ q fun z=>z)];exact q,fun b u xs q=>by rw [ao (hm b _ q fun z=>z)];exact q,fun b ps q=>⟨#[],by rw [ao (hm b _ q fun z=>z),q];simp⟩⟩
 by_cases hbe:b=e
 . subst hbe;exact heo
 . exact ⟨u,k b u hbe q⟩
end
def trk (h:Heap) (H:Hp):List Addr:=(List.range h.objs.size).filter fun a=>(H a).isSome
def qI (h:Heap) (H:Hp):Heap:=PySem.W.hideAll h (trk h H)
theorem Fq (h:Heap) (H:Hp):(qI h H).objs.size=h.objs.size:=PySem.W.hideAll_size _ _
theorem HV {h:Heap} {H:Hp} {b:Addr} {o:Obj} (e:h.get? b=some o) (n:H b=none):(qI h H).get? b=some o :=
 PySem.W.hideAll_get _ e fun hm=>by
   have q:(H b).isSome=true:=(List.mem_filter.mp hm).2;rw [n] at q;simp at q
theorem KF {h:Heap} {H:Hp} {b:Addr} {o:Obj} (e:(qI h H).get? b=some o):h.get? b=some o/\H b=none:=by
 have e':h.get? b=some o:=PySem.W.of_hideAll (trk h H) e;refine ⟨e',?_⟩;cases q:H b with
 | none=>rfl
 | some x =>
   have hm:b∈trk h H:=List.mem_filter.mpr ⟨List.mem_range.mpr (Heap.lt_size e'),by simp [q]⟩;have z:(qI h H).get? b=none:=PySem.W.hideAll_none (trk h H) hm;rw [z] at e;cases e
def Ku (g h:Heap) (L:Addr):List (Addr × Obj):=(List.range h.objs.size).filterMap fun a=>if a=L\/(g.get? a).isSome=true then none else (h.get? a).map fun o=>(a,o)
def jO (g h:Heap) (L d:Addr):List (Addr × Obj):=(Ku g h L).filter fun p=>decide (p.1≠d)
end L2
namespace L2
open PySem PySem.Spec PyProof.Rows
structure Mod (K:PySem.W.Frag) (mg:Str->Option Value) (base:Heap):Prop where
 kin:K.In base
 glob:base.Ns mainGlobals mg
 blt:∃ mb,base.Ns builtinsNs mb/\∀ x:Str,x≠"__name__"->mb x=bootBuiltins x
 nolimit:base.NoLimit
structure Cx where
 prog:Program
 w:World
 K:PySem.W.Frag
 mg:Str->Option Value
 base:Heap
 A:Around
 N:List Str
 s₀:Shared
 H₀:Hp
 env:Env
 outer:List Env
 stack:List Env
 ex:List Addr
 fn:Str->Bool
 calm:Bool
 pn:List (Addr × Obj)
 xe:Value->Shared->Prop
def frs (l:List Env):List Addr:=l.filterMap (·.frame)
abbrev Cx.fs (X:Cx):List Addr:=frs X.outer
def Vis (sc:Scope) (x:Str):Prop:=sc.names.lookup x=some .local\/sc.names.lookup x=some .cell\/sc.names.lookup x=some .free
def Loc (sc:Scope) (x:Str):Prop:=sc.names.lookup x=some .local\/sc.names.lookup x=some .cell
def M0 (env:Env) (h:Heap) (m:Str->Option Value) (x:Str) (u:Value):Prop :=
 (env.kindOf x=some .local/\m x=some u)\/((env.kindOf x=some .cell\/env.kindOf x=some .free)/\∃ c,env.cells.lookup x=some c/\h.IsCell c (some u))
structure Cx.Ok (X:Cx):Prop where
 mod:Mod X.K X.mg X.base
 kind:X.env.scope.kind=.function
 glob:X.env.globals=mainGlobals
 blt:X.env.builtins=builtinsNs
 above:X.s₀.heap.objs.size<=X.env.locals
 inj:∀ x y c,X.env.cells.lookup x=some c->X.env.cells.lookup y=some c->x=y
 has:∀ x,(X.env.kindOf x=some .cell\/X.env.kindOf x=some .free)->∃ c,X.env.cells.lookup x=some c
 cab:∀ x c,X.fn x=true->X.env.cells.lookup x=some c->X.s₀.heap.objs.size<=c
 hd:X.calm=true->X.A.handled=none
 frames:X.A.frames=some X.stack
 stk:X.stack=X.outer\/(X.stack=X.env::X.outer/\X.env.frame=some X.env.locals)
 exf:∀ b∈X.ex,b≠X.env.locals/\∀ x c,X.env.cells.lookup x=some c->c≠b
 bs:∀ b o,X.base.get? b=some o->X.s₀.heap.get? b=some o/\X.H₀ b=none
 bsz:X.base.objs.size<=X.s₀.heap.objs.size
 noex:∀ b o,X.base.get? b=some o->b ∉ X.ex
 exfs:∀ b∈X.ex,b ∉ X.fs
 funs:X.s₀.heap.FunFrames X.base X.outer
 frf:∀ b∈X.fs,X.H₀ b=none
structure Inv (X:Cx) (pins:List (Addr × Obj)) (σ:List (Option V)) (H:Hp) (s:Shared):Prop where
 ok:X.Ok
 os:s.os=X.s₀.os
 bare:AllBare s.gens
 base:Un X.fs X.ex X.H₀ H X.s₀.heap s.heap
 loc:∃ m,s.heap.Ns X.env.locals m/\∀ (i:Nat) (x:Str) (v:V),X.N[i]?=some x->σ[i]?=some (some v)->Vis X.env.scope x->∃ u,RelV v u/\M0 X.env s.heap m x u
 cell:∀ x c,X.env.cells.lookup x=some c->∃ v,s.heap.IsCell c v
 free:H X.env.locals=none
 freeC:∀ x c,X.env.cells.lookup x=some c->H c=none
 pin:∀ p∈X.pn++pins,s.heap.get? p.1=some p.2/\H p.1=none/\p.1≠X.env.locals/\p.1 ∉ X.fs/\∀ v,p.2.data≠.cell v
 hok:HOk X.prog X.w H s.heap
 len:σ.length=X.N.length
section
variable {X:Cx} {pins:List (Addr × Obj)} {σ:List (Option V)} {H H':Hp} {s:Shared} {h':Heap}
theorem Cx.Ok.nofr (ok:X.Ok) {b:Addr} {o:Obj} (e:X.base.get? b=some o):b ∉ X.fs:=fun hb=>by
 have:=(ok.funs.mem hb).1;rw [e] at this;cases this
theorem Inv.bs (I:Inv X pins σ H s):∀ b o,X.base.get? b=some o->s.heap.get? b=some o/\H b=none:=fun b o e =>
 ⟨I.base.keep b o (I.ok.bs b o e).1 (I.ok.bs b o e).2 (I.ok.nofr e) (I.ok.noex b o e),I.base.free b o (I.ok.bs b o e).1 (I.ok.bs b o e).2 (I.ok.noex b o e)⟩
theorem Inv.bk (I:Inv X pins σ H s):∀ b o,X.base.get? b=some o->s.heap.get? b=some o:=fun b o e=>(I.bs b o e).1
theorem Inv.mod (I:Inv X pins σ H s):Mod X.K X.mg X.base:=I.ok.mod
theorem Inv.kIn (I:Inv X pins σ H s):X.K.In s.heap:=I.ok.mod.kin.keeps I.bk
theorem Inv.lt (I:Inv X pins σ H s):X.env.locals<s.heap.objs.size:=let ⟨_,hn,_⟩:=I.loc;hn.lt
theorem Inv.sz (I:Inv X pins σ H s):X.s₀.heap.objs.size<=s.heap.objs.size:=Nat.le_trans I.ok.above (Nat.le_of_lt I.lt)
theorem Inv.nofs (I:Inv X pins σ H s) {a:Addr} (h:s.heap.objs.size<=a):a ∉ X.fs:=fun hb=>by
 obtain ⟨_,o,ho,_⟩:=I.ok.funs.mem hb;exact absurd (Nat.lt_of_lt_of_le (Heap.lt_size ho) (Nat.le_trans I.sz h)) (Nat.lt_irrefl _)
theorem Inv.cne (I:Inv X pins σ H s):∀ x c,X.env.cells.lookup x=some c->c≠X.env.locals:=fun x c e z=>by
 obtain ⟨v,o,ho,hd⟩:=I.cell x c e;obtain ⟨m,⟨o',es,ep,ho',hd',_⟩,_⟩:=I.loc;rw [z,ho'] at ho;cases ho;rw [hd'] at hd;cases hd
theorem Inv.funs (I:Inv X pins σ H s):s.heap.FunFrames X.base X.outer:=by
 have all:∀ (l:List Env),(∀ b∈frs l,b∈X.fs)->X.s₀.heap.FunFrames X.base l->s.heap.FunFrames X.base l:=by
   intro l
   induction l with
   | nil=>intro _ _;trivial
   | cons env r ih =>
     intro hs hl;obtain ⟨hk,⟨L,o,hf,hn,ho,hd⟩,hr⟩:=hl;have hL:L∈X.fs:=hs L (by unfold frs;rw [List.filterMap_cons,hf];exact List.mem_cons_self);obtain ⟨sl,e⟩:=I.base.slot L o ho (I.ok.frf L hL) hL fun z=>I.ok.exfs L z hL;exact ⟨hk,⟨L,_,hf,hn,e,hd⟩,ih (fun b hb=>hs b (by unfold frs;rw [List.filterMap_cons,hf];exact List.mem_cons_of_mem _ hb)) hr⟩
 exact all X.outer (fun _ hb=>hb) I.ok.funs
theorem Inv.stack (I:Inv X pins σ H s):s.heap.FunFrames X.base X.stack:=by
 rcases I.ok.stk with e|⟨e,hf⟩
 . rw [e];exact I.funs
 . rw [e];obtain ⟨m,hn,_⟩:=I.loc;refine .cons (by rw [I.ok.kind];decide) hf hn ?_ I.funs;exact Heap.get?_none_of_le (Nat.le_trans I.ok.bsz I.ok.above)
theorem Inv.stkSub (I:Inv X pins σ H s):∀ b∈frs X.stack,b∈X.env.locals::X.fs:=fun b hb=>by
 rcases I.ok.stk with e|⟨e,hf⟩
 . rw [e] at hb;exact List.mem_cons_of_mem _ hb
 . rw [e] at hb;unfold frs at hb;rw [List.filterMap_cons,hf] at hb;exact hb
theorem Inv.stkFree (I:Inv X pins σ H s):∀ b∈frs X.stack,H b=none:=fun b hb=>by
 rcases List.mem_cons.mp (I.stkSub b hb) with e|hb
 . rw [e];exact I.free
 . obtain ⟨_,o,ho,_⟩:=I.ok.funs.mem hb;exact I.base.free b o ho (I.ok.frf b hb) fun z=>I.ok.exfs b z hb
theorem Inv.step {g':Array GenState} {t':Nat} {d':Drawn} {ch:List Addr} (I:Inv X pins σ H s)
   (hch:∀ b∈ch,(b∈X.ex\/X.s₀.heap.objs.size<=b)/\b≠X.env.locals/\(∀ x c,X.env.cells.lookup x=some c->c≠b)/\∀ p∈X.pn++pins,p.1≠b)
   (keep:∀ b o,b≠X.env.locals->b ∉ X.fs->b ∉ ch->s.heap.get? b=some o->H b=none->h'.get? b=some o)
   (slot:∀ b o,b≠X.env.locals->b∈X.fs->b ∉ ch->s.heap.get? b=some o->H b=none->∃ sl,h'.get? b=some { o with slots:=sl }) (free:∀ b o,b ∉ ch->s.heap.get? b=some o->H b=none->H' b=none)
   (there:∀ b o,b ∉ ch->s.heap.get? b=some o->∃ o',h'.get? b=some o')
   (tups:∀ b xs,H b=some (.tup xs)->H' b=some (.tup xs)) (frzs:∀ b o u,H b=some (.frz o u)->H' b=some (.frz o u)) (tbls:∀ b ps,H b=some (.tbl ps)->∃ more,H' b=some (.tbl (ps++more)))
   (ns:∀ m,s.heap.Ns X.env.locals m->h'.Ns X.env.locals m) (hok:HOk X.prog X.w H' h') (hg:AllBare g') :
   Inv X pins σ H' { s with heap:=h',gens:=g',drawn:=d',toks:=t' }:=by
 have neL:∀ b o,X.s₀.heap.get? b=some o->b≠X.env.locals:=fun b o e=>Nat.ne_of_lt (Nat.lt_of_lt_of_le (Heap.lt_size e) I.ok.above);have neC:∀ b o,X.s₀.heap.get? b=some o->b ∉ X.ex->b ∉ ch:=fun b o e hx hb=>by
   rcases (hch b hb).1 with z|z
   . exact hx z
   . exact absurd (Nat.lt_of_lt_of_le (Heap.lt_size e) z) (Nat.lt_irrefl _)
 have cellK:∀ x c,X.env.cells.lookup x=some c->∀ v,s.heap.IsCell c v->h'.IsCell c v:=fun x c e v ⟨o,ho,hd⟩=>by
   have nch:c ∉ ch:=fun z=>(hch c z).2.2.1 x c e rfl;by_cases hc:c∈X.fs
   . obtain ⟨sl,q⟩:=slot c o (I.cne x c e) hc nch ho (I.freeC x c e);exact ⟨_,q,hd⟩
   . exact ⟨o,keep c o (I.cne x c e) hc nch ho (I.freeC x c e),hd⟩
 refine ⟨I.ok,I.os,hg,⟨fun b o e n hb hx=>?_,fun b o e n hb hx=>?_,fun b o e n hx=>?_,fun b o e hx=>?_,fun b xs e=>tups b xs (I.base.tups b xs e),fun b o xs e=>frzs b o xs (I.base.frzs b o xs e),fun b ps e=>?_⟩,?_,fun x c e=>?_,?_,fun x c e=>?_,fun p hp=>?_,hok,I.len⟩
 . exact keep b o (neL b o e) hb (neC b o e hx) (I.base.keep b o e n hb hx) (I.base.free b o e n hx)
 . obtain ⟨sl,e1⟩:=I.base.slot b o e n hb hx;obtain ⟨sl',e2⟩:=slot b _ (neL b o e) hb (neC b o e hx) e1 (I.base.free b o e n hx);exact ⟨sl',e2⟩
 . obtain ⟨o',e1⟩:=I.base.there b o e hx;exact free b o' (neC b o e hx) e1 (I.base.free b o e n hx)
 . obtain ⟨o',e1⟩:=I.base.there b o e hx;exact there b o' (neC b o e hx) e1
 . obtain ⟨m1,e1⟩:=I.base.tbls b ps e;obtain ⟨m2,e2⟩:=tbls b _ e1;exact ⟨m1++m2,by rw [e2,Array.append_assoc]⟩
 . obtain ⟨m,hn,hl⟩:=I.loc;refine ⟨m,ns m hn,fun i x v e1 e2 e3=>?_⟩;obtain ⟨u,r,l⟩:=hl i x v e1 e2 e3;refine ⟨u,r,?_⟩;rcases l with l|⟨k,c,e,z⟩
   . exact .inl l
   . exact .inr ⟨k,c,e,cellK x c e _ z⟩
 . obtain ⟨v,z⟩:=I.cell x c e;exact ⟨v,cellK x c e v z⟩
 . obtain ⟨m,⟨o,_,_,ho,_⟩,_⟩:=I.loc;exact free _ o (fun z=>(hch _ z).2.1 rfl) ho I.free
 . obtain ⟨v,o,ho,hd⟩:=I.cell x c e;exact free c o (fun z=>(hch c z).2.2.1 x c e rfl) ho (I.freeC x c e)
 . obtain ⟨e,n,ne,nf,d⟩:=I.pin p hp;have nch:p.1 ∉ ch:=fun z=>(hch p.1 z).2.2.2 p hp rfl;exact ⟨keep p.1 p.2 ne nf nch e n,free p.1 p.2 nch e n,ne,nf,d⟩
theorem Inv.un {t':Nat} (I:Inv X pins σ H s) (u:Un X.fs [] H H' s.heap h') (hok:HOk X.prog X.w H' h'):Inv X pins σ H' { s with heap:=h',toks:=t' }:=by
 obtain ⟨m,⟨o,es,ep,ho,r⟩,_⟩:=id I.loc;obtain ⟨sl,hL⟩:=u.any ho I.free (by simp);exact I.step (g':=s.gens) (d':=s.drawn) (ch:=[]) (fun _ z=>nomatch z) (fun b o _ hb _ e n=>u.keep b o e n hb (by simp)) (fun b o _ hb _ e n=>u.slot b o e n hb (by simp)) (fun b o _ e n=>u.free b o e n (by simp)) (fun b o _ e=>u.there b o e (by simp)) u.tups u.frzs u.tbls (fun m' hm=>by
   obtain ⟨o',es',ep',ho',r'⟩:=hm;rw [ho] at ho';cases ho';exact ⟨_,es',ep',hL,r'⟩) hok I.bare
theorem Inv.call {g':Array GenState} {t':Nat} {d':Drawn} {ch:List Addr} (I:Inv X pins σ H s) (u:Un (frs X.stack) ch H H' s.heap h') (hok:HOk X.prog X.w H' h') (hg:AllBare g')
   (hch:∀ b∈ch,(b∈X.ex\/X.s₀.heap.objs.size<=b)/\b≠X.env.locals/\(∀ x c,X.env.cells.lookup x=some c->c≠b)/\∀ p∈X.pn++pins,p.1≠b) :
   Inv X pins σ H' { s with heap:=h',gens:=g',drawn:=d',toks:=t' }:=by
 obtain ⟨m,⟨o,es,ep,ho,r⟩,_⟩:=id I.loc;obtain ⟨sl,hL⟩:=u.any ho I.free fun z=>(hch _ z).2.1 rfl;exact I.step (ch:=ch) hch (fun b o hL hb hc e n=>u.keep b o e n (fun z=>(List.mem_cons.mp (I.stkSub b z)).elim hL hb) hc) (fun b o _ _ hc e n=>u.any e n hc) (fun b o hc e n=>u.free b o e n hc) (fun b o hc e=>u.there b o e hc) u.tups u.frzs u.tbls (fun m' hm=>by
   obtain ⟨o',es',ep',ho',r'⟩:=hm;rw [ho] at ho';cases ho';exact ⟨_,es',ep',hL,r'⟩) hok hg
theorem Inv.turned {t':Nat} {it:Addr} (I:Inv X pins σ H s) (k:∀ b o,b≠it->s.heap.get? b=some o->h'.get? b=some o) (hn:H it=none) (hL:it≠X.env.locals)
   (h1:it∈X.ex\/X.s₀.heap.objs.size<=it) (h2:∀ x c,X.env.cells.lookup x=some c->c≠it) (h3:∀ p∈X.pn++pins,p.1≠it):Inv X pins σ H { s with heap:=h',toks:=t' }:=by
 have nit:∀ b u,H b=some u->b≠it:=fun b u e z=>by rw [z,hn] at e;cases e
 refine I.step (g':=s.gens) (d':=s.drawn) (ch:=[it]) (fun b hb=>?_) (fun b o _ _ hc e _=>k b o (fun z=>hc (by simp [z])) e) (fun b o _ _ hc e _=>⟨o.slots,k b o (fun z=>hc (by simp [z])) e⟩) (fun _ _ _ _ n=>n)
   (fun b o hc e=>⟨o,k b o (fun z=>hc (by simp [z])) e⟩) (fun _ _ e=>e) (fun _ _ _ e=>e) (fun b ps e=>⟨#[],by rw [e];simp⟩) (fun m hm=>?_) (fun b u e=>?_) I.bare
 . have e:b=it:=by simpa using hb
   subst e;exact ⟨h1,hL,h2,h3⟩
 . obtain ⟨o,es,ep,ho,r⟩:=hm;exact ⟨o,es,ep,k _ o (Ne.symm hL) ho,r⟩
 . refine (I.hok b u e).stay (fun c v hc q=>k c v ?_ q) (fun _ q=>q) fun _ _ q=>q;rcases hc with z|z
   . rw [z];exact nit b u e
   . exact nit c _ z
theorem Inv.tok (I:Inv X pins σ H s) (t:Nat):Inv X pins σ H { s with toks:=t }:=I.un (h':=s.heap) (t':=t) Un.refl I.hok
theorem Inv.kept {t':Nat} (I:Inv X pins σ H s) (k:∀ b u,s.heap.get? b=some u->h'.get? b=some u):Inv X pins σ H { s with heap:=h',toks:=t' }:=I.un (Un.kept k) (I.hok.kept k)
theorem Inv.laid {a:Addr} {o:HO} {t':Nat} (I:Inv X pins σ H s) (k:∀ b u,s.heap.get? b=some u->h'.get? b=some u) (hp:s.heap.objs.size<=a) (new:ObjOk X.prog X.w (upd H a o) h' a o) :
   Inv X pins σ (upd H a o) { s with heap:=h',toks:=t' }:=I.un (Un.laid k hp (I.hok.fresh hp)) (I.hok.laid k hp new)
theorem Inv.write {x e:Addr} {o:HO} {t':Nat} (I:Inv X pins σ H s) (mu:Mut (H x)) (he:e=x\/H e=some (.own x)) (k:∀ b u,b≠e->s.heap.get? b=some u->h'.get? b=some u) (heo:∃ u,h'.get? e=some u)
   (new:ObjOk X.prog X.w (upd H x o) h' x o):Inv X pins σ (upd H x o) { s with heap:=h',toks:=t' }:=I.un (Un.write mu he k heo) (I.hok.write mu he k heo new)
theorem Inv.pins_of {pins':List (Addr × Obj)} (I:Inv X pins σ H s) (h:∀ p∈pins',s.heap.get? p.1=some p.2/\H p.1=none/\p.1≠X.env.locals/\p.1 ∉ X.fs/\∀ v,p.2.data≠.cell v):Inv X pins' σ H s :=
 ⟨I.ok,I.os,I.bare,I.base,I.loc,I.cell,I.free,I.freeC,fun p hp=>(List.mem_append.mp hp).elim (fun z=>I.pin p (List.mem_append_left _ z)) (h p),I.hok,I.len⟩
theorem A1 {N:List Str} (hN:N.Nodup) {i j:Nat} {x:Str} (a:N[i]?=some x) (b:N[j]?=some x):i=j:=by
 obtain ⟨h1,e1⟩:=List.getElem?_eq_some_iff.mp a;obtain ⟨h2,e2⟩:=List.getElem?_eq_some_iff.mp b;exact (List.getElem_inj hN).mp (e1.trans e2.symm)
theorem E5 {M:Model} {A:Around} {E:Value->Shared->Prop} {i:Nat} {x:Str} {v:V} {u:Value} {Q:Unit->Shared->Prop} (I:Inv X pins σ H s) (hN:X.N.Nodup) (hi:X.N[i]?=some x) (hx:Loc X.env.scope x) (r:RelV v u)
   (h:∀ s',Inv X pins (σ.set i (some v)) H s'->(∃ a,Heap.SameBut a s.heap s'.heap/\(a=X.env.locals\/X.env.cells.lookup x=some a))->Q () s') (hf:X.fn x=true\/X.env.scope.names.lookup x=some .local:=by first|exact .inl rfl|exact .inr rfl|assumption):wpAny M A (storeName X.env x u) Q E s:=by
 obtain ⟨m,hn,hl⟩:=id I.loc;have hcls:(X.env.scope.kind == .class || (X.env.scope.kind == .module && X.env.locals != X.env.globals))=false:=by rw [I.ok.kind];rfl
 have hiσ:i<σ.length:=by rw [I.len];exact (List.getElem?_eq_some_iff.mp hi).1
 have cne:=I.cne;have tracked:∀ {a:Addr} {h':Heap},(∃ o,s.heap.get? a=some o/\H a=none)->Heap.SameBut a s.heap h'->HOk X.prog X.w H h':=fun {a h'} ha hs b ob e=>by
   obtain ⟨_,_,hfree⟩:=ha;refine (I.hok b ob e).stay (fun c w' hc q=>(hs.2 c ?_).trans q) (fun _ q=>q) fun _ _ q=>q;rintro rfl;rcases hc with rfl|hc
   . rw [hfree] at e;cases e
   . rw [hfree] at hc;cases hc
 rcases hx with hk|hk
 . refine wpAny_storeName_local hk hn (fun h' hn' hs=>?_) hcls;obtain ⟨oL,_,_,hoL,_⟩:=id hn;refine h _ ⟨I.ok,I.os,I.bare,⟨fun b o e n hb hx=>?_,fun b o e n hb hx=>?_,I.base.free,fun b o e hx=>?_,I.base.tups,I.base.frzs,I.base.tbls⟩,⟨_,hn',fun j y v' e1 e2 e3=>?_⟩,fun y c e=>?_,I.free,I.freeC,fun p hp=>?_,tracked ⟨oL,hoL,I.free⟩ hs,by simpa using I.len⟩ ⟨_,hs,.inl rfl⟩
   . exact (hs.2 b (Nat.ne_of_lt (Nat.lt_of_lt_of_le (Heap.lt_size e) I.ok.above))).trans (I.base.keep b o e n hb hx)
   . obtain ⟨sl,e1⟩:=I.base.slot b o e n hb hx;exact ⟨sl,(hs.2 b (Nat.ne_of_lt (Nat.lt_of_lt_of_le (Heap.lt_size e) I.ok.above))).trans e1⟩
   . obtain ⟨o',e1⟩:=I.base.there b o e hx;exact ⟨o',(hs.2 b (Nat.ne_of_lt (Nat.lt_of_lt_of_le (Heap.lt_size e) I.ok.above))).trans e1⟩
   . by_cases hj:j=i
     . subst hj;rw [hi] at e1;cases e1;rw [List.getElem?_set_self hiσ] at e2;cases e2;exact ⟨u,r,.inl ⟨hk,by simp⟩⟩
     . rw [List.getElem?_set_ne (Ne.symm hj)] at e2;obtain ⟨u',r',q⟩:=hl j y v' e1 e2 e3;refine ⟨u',r',?_⟩;rcases q with ⟨k,e⟩|⟨k,c,e,z⟩
       . refine .inl ⟨k,?_⟩;have:y≠x:=fun e=>hj (A1 hN e1 (e ▸ hi));simp [this,e]
       . exact .inr ⟨k,c,e,z.sameBut hs (cne y c e)⟩
   . obtain ⟨w',z⟩:=I.cell y c e;exact ⟨w',z.sameBut hs (cne y c e)⟩
   . obtain ⟨e,n,ne,nf,d⟩:=I.pin p hp;exact ⟨(hs.2 p.1 ne).trans e,n,ne,nf,d⟩
 . have hfn:X.fn x=true:=by
     rcases hf with z|z
     . exact z
     . rw [z] at hk;cases hk
   obtain ⟨c,hc⟩:=I.ok.has x (.inl hk);obtain ⟨w',z⟩:=I.cell x c hc;refine wpAny_storeName_cell I.ok.kind hk hc z (fun h' hc' hs=>?_);obtain ⟨oc,hoc,hocd⟩:=id z;refine h { s with heap:=h' } ⟨I.ok,I.os,I.bare,⟨fun b o e n hb hx=>?_,fun b o e n hb hx=>?_,I.base.free,fun b o e hx=>?_,I.base.tups,I.base.frzs,I.base.tbls⟩,⟨m,hn.sameBut hs (Ne.symm (cne x c hc)),fun j y v' e1 e2 e3=>?_⟩,fun y c' e=>?_,I.free,I.freeC,fun p hp=>?_,tracked ⟨oc,hoc,I.freeC x c hc⟩ hs,by simpa using I.len⟩ ⟨c,hs,.inr hc⟩
   . exact (hs.2 b (Nat.ne_of_lt (Nat.lt_of_lt_of_le (Heap.lt_size e) (I.ok.cab x c hfn hc)))).trans (I.base.keep b o e n hb hx)
   . obtain ⟨sl,e1⟩:=I.base.slot b o e n hb hx;exact ⟨sl,(hs.2 b (Nat.ne_of_lt (Nat.lt_of_lt_of_le (Heap.lt_size e) (I.ok.cab x c hfn hc)))).trans e1⟩
   . obtain ⟨o',e1⟩:=I.base.there b o e hx;exact ⟨o',(hs.2 b (Nat.ne_of_lt (Nat.lt_of_lt_of_le (Heap.lt_size e) (I.ok.cab x c hfn hc)))).trans e1⟩
   . by_cases hj:j=i
     . subst hj;rw [hi] at e1;cases e1;rw [List.getElem?_set_self hiσ] at e2;cases e2;exact ⟨u,r,.inr ⟨.inl hk,c,hc,hc'⟩⟩
     . rw [List.getElem?_set_ne (Ne.symm hj)] at e2;obtain ⟨u',r',q⟩:=hl j y v' e1 e2 e3;refine ⟨u',r',?_⟩;rcases q with q|⟨k,c',e,z'⟩
       . exact .inl q
       . refine .inr ⟨k,c',e,z'.sameBut hs ?_⟩;rintro rfl;exact hj (A1 hN e1 (I.ok.inj _ _ _ e hc ▸ hi))
   . by_cases hcc:c'=c
     . subst hcc;exact ⟨_,hc'⟩
     . obtain ⟨w2,z2⟩:=I.cell y c' e;exact ⟨w2,z2.sameBut hs hcc⟩
   . obtain ⟨e,n,ne,nf,d⟩:=I.pin p hp;refine ⟨(hs.2 p.1 ?_).trans e,n,ne,nf,d⟩;intro q;rw [q,hoc] at e;have q':oc=p.2:=Option.some.inj e;exact d w' (by rw [<- q'];exact hocd)
theorem pZ {M:Model} {A:Around} {E:Value->Shared->Prop} {i:Nat} {x:Str} {v:V} {u:Value} {Q:Unit->Shared->Prop} (I:Inv X pins σ H s) (hN:X.N.Nodup) (hi:X.N[i]?=some x) (hx:Loc X.env.scope x) (r:RelV v u)
   (h:∀ s',Inv X pins (σ.set i (some v)) H s'->Q () s') (hf:X.fn x=true\/X.env.scope.names.lookup x=some .local:=by first|exact .inl rfl|exact .inr rfl|assumption):wpAny M A (storeName X.env x u) Q E s :=
 E5 I hN hi hx r (fun s' I' _=>h s' I') hf
theorem Inv.call' {s':Shared} {ch:List Addr} (I:Inv X pins σ H s) (ho:s'.os=s.os) (u:Un (frs X.stack) ch H H' s.heap s'.heap) (hok:HOk X.prog X.w H' s'.heap) (hg:AllBare s'.gens)
   (hch:∀ b∈ch,(b∈X.ex\/X.s₀.heap.objs.size<=b)/\b≠X.env.locals/\(∀ x c,X.env.cells.lookup x=some c->c≠b)/\∀ p∈X.pn++pins,p.1≠b):Inv X pins σ H' s':=by
 obtain ⟨h',g',d',t',o'⟩:=s';have e:o'=s.os:=ho;subst e;exact I.call (g':=g') (t':=t') (d':=d') u hok hg hch
end
abbrev XK:=Value->Option Addr->Hp->Prop
abbrev St:=List (Option V)
abbrev VK:=V->Hp->Prop
abbrev TE:=St->Hp->VK->Prop
abbrev TT:=St->Hp->(Bool->Hp->Prop)->Prop
abbrev TA:=St->Hp->(List V->Hp->Prop)->Prop
structure Ends where
 nx:St->Hp->Prop
 rt:VK
 bk:St->Hp->Prop:=fun _ _=>False
 ct:St->Hp->Prop:=fun _ _=>False
abbrev TS:=Ends->St->Hp->Prop
def EP (X:Cx) (pins:List (Addr × Obj)) (σ:St) (Q:VK) (u:Value) (s':Shared):Prop:=∃ v H',Inv X pins σ H' s'/\RelV v u/\Q v H'
def TP (X:Cx) (pins:List (Addr × Obj)) (σ:St) (Q:Bool->Hp->Prop) (b:Bool) (s':Shared):Prop:=∃ H',Inv X pins σ H' s'/\Q b H'
def AP (X:Cx) (pins:List (Addr × Obj)) (σ:St) (Q:List V->Hp->Prop) (us:List Value) (s':Shared):Prop:=∃ vs H',Inv X pins σ H' s'/\Vals vs us/\Q vs H'
def SP (X:Cx) (pins:List (Addr × Obj)) (D:Ends) (f:Flow) (s':Shared):Prop :=
 match f with
 | .next=>∃ σ' H',Inv X pins σ' H' s'/\D.nx σ' H'
 | .brk=>∃ σ' H',Inv X pins σ' H' s'/\D.bk σ' H'
 | .cont=>∃ σ' H',Inv X pins σ' H' s'/\D.ct σ' H'
 | .ret u=>∃ v σ' H',Inv X pins σ' H' s'/\RelV v u/\D.rt v H'
def PE (X:Cx) (e:Expr) (t:TE):Prop :=
 ∀ (pins:List (Addr × Obj)) (s:Shared) (σ:St) (H:Hp) (Q:VK),Inv X pins σ H s->t σ H Q->wpAny (model X.prog X.w) X.A (eval e X.env) (EP X pins σ Q) X.xe s
def PT (X:Cx) (e:Expr) (t:TT):Prop :=
 ∀ (pins:List (Addr × Obj)) (s:Shared) (σ:St) (H:Hp) (Q:Bool->Hp->Prop),Inv X pins σ H s->t σ H Q->wpAny (model X.prog X.w) X.A (isTrue e X.env (eval e X.env)) (TP X pins σ Q) X.xe s
def PW (X:Cx) (e:Expr) (t:TT):Prop :=
 ∀ (whole:Sem Value) (pins:List (Addr × Obj)) (s:Shared) (σ:St) (H:Hp) (Q:Bool->Hp->Prop),Inv X pins σ H s->t σ H Q->wpAny (model X.prog X.w) X.A (isTrue e X.env whole) (TP X pins σ Q) X.xe s
theorem PW.pt {X:Cx} {e:Expr} {t:TT} (h:PW X e t):PT X e t:=h _
def PA (X:Cx) (es:List Expr) (t:TA):Prop :=
 ∀ (pos:Pos) (pins:List (Addr × Obj)) (s:Shared) (σ:St) (H:Hp) (Q:List V->Hp->Prop),Inv X pins σ H s->t σ H Q->wpAny (model X.prog X.w) X.A (spliced (backTo pos (starEach es X.env))) (AP X pins σ Q) X.xe s
def PS (X:Cx) (st:Stmt) (t:TS):Prop :=
 ∀ (pins:List (Addr × Obj)) (s:Shared) (σ:St) (H:Hp) (D:Ends),Inv X pins σ H s->t D σ H->wpAny (model X.prog X.w) X.A (exec st X.env) (SP X pins D) X.xe s
def PSs (X:Cx) (st:List Stmt) (t:TS):Prop :=
 ∀ (pins:List (Addr × Obj)) (s:Shared) (σ:St) (H:Hp) (D:Ends),Inv X pins σ H s->t D σ H->wpAny (model X.prog X.w) X.A (execs st X.env) (SP X pins D) X.xe s
theorem thn {α:Type} {t:Sem α} {Q Q':α->Shared->Prop} {M:Model} {A:Around} {E:Value->Shared->Prop} {s:Shared} (h:wpAny M A t Q E s) (hQ:∀ a s,Q a s->Q' a s):wpAny M A t Q' E s:=wpAny_mono h hQ fun _ _ x=>x
theorem bh {t:Sem Value} {X:Cx} {pins:List (Addr × Obj)} {σ:St} {Q:VK} {Q':Value->Shared->Prop} {M:Model} {A:Around} {E:Value->Shared->Prop} {s:Shared} (h:wpAny M A t (EP X pins σ Q) E s) (hQ:∀ u s v H,Inv X pins σ H s->RelV v u->Q v H->Q' u s):wpAny M A t Q' E s:=thn h fun u s ⟨v,H,I,r,q⟩=>hQ u s v H I r q
theorem lg {t:Sem (List Value)} {X:Cx} {pins:List (Addr × Obj)} {σ:St} {Q:List V->Hp->Prop} {Q':List Value->Shared->Prop} {M:Model} {A:Around} {E:Value->Shared->Prop} {s:Shared} (h:wpAny M A t (AP X pins σ Q) E s) (hQ:∀ u s v H,Inv X pins σ H s->Vals v u->Q v H->Q' u s):wpAny M A t Q' E s:=thn h fun u s ⟨v,H,I,r,q⟩=>hQ u s v H I r q
theorem Ab {t:Sem Bool} {X:Cx} {pins:List (Addr × Obj)} {σ:St} {Q:Bool->Hp->Prop} {Q':Bool->Shared->Prop} {M:Model} {A:Around} {E:Value->Shared->Prop} {s:Shared} (h:wpAny M A t (TP X pins σ Q) E s) (hQ:∀ u s H,Inv X pins σ H s->Q u H->Q' u s):wpAny M A t Q' E s:=thn h fun u s ⟨H,I,q⟩=>hQ u s H I q
end L2
namespace L2
open PySem PySem.Spec PyProof.Rows
section
variable {X:Cx}
def AO (i:Nat):TE:=fun σ H Q=>∃ v,σ[i]?=some (some v)/\Q v H
def tC (v:V):TE:=fun _ H Q=>Q v H
theorem FO {i:Nat} {x:Str} {pos:Pos} (hN:X.N[i]?=some x) (hv:Vis X.env.scope x) (hd:(x == ("__debug__":Str))=false:=by decide) (hcd:(x == ("__classdict__":Str))=false:=by decide):PE X (.Name x pos) (AO i):=by
 intro pins s σ H Q I h;obtain ⟨v,e,h⟩:=h;obtain ⟨m,hn,hl⟩:=I.loc;obtain ⟨u,r,l⟩:=hl i x v hN e hv;have fin:EP X pins σ Q u s:=⟨v,H,I,r,h⟩;rcases l with ⟨hk,hm⟩|⟨hk,c,hc,hcell⟩
 . exact wpAny_Name (wpAny_loadName_local I.ok.kind hk hn hm fin) hd
 . rcases hk with hk|hk
   . exact wpAny_Name (wpAny_loadName_cell I.ok.kind hk hc hcell fin) hd
   . exact wpAny_Name (wpAny_loadName_free I.ok.kind hk hc hcell fin hcd) hd
theorem ag {i j pos}:PE X (.Constant (.int i) j pos) (tC (.int i)):=fun _ _ _ H _ I h=>wpAny_Constant_int ⟨.int i,H,I.tok _,⟨_,rfl⟩,h⟩
theorem kh {b j pos}:PE X (.Constant (.bool b) j pos) (tC (.bl b)):=fun _ _ _ H _ I h=>Constant_bool ⟨.bl b,H,I,rfl,h⟩
theorem zD {j pos}:PE X (.Constant .none j pos) (tC .non):=fun _ _ _ H _ I h=>Constant_none ⟨.non,H,I,rfl,h⟩
theorem c7 {x j pos}:PE X (.Constant (.str x) j pos) (tC (.str x)):=fun _ _ _ H _ I h=>Calls.Constant_str ⟨.str x,H,I.tok _,⟨_,rfl⟩,h⟩
def Gl (X:Cx) (x:Str):Prop:=X.env.kindOf x=some .globalImplicit
theorem tF {E:Value->Shared->Prop} {pins:List (Addr × Obj)} {s:Shared} {σ:St} {H:Hp} {x:Str} {u:Value} {pos:Pos} {Q:Value->Shared->Prop} (I:Inv X pins σ H s) (hg:Gl X x) (hm:X.mg x=some u) (h:Q u s)
   (hd:(x == ("__debug__":Str))=false:=by decide):wpAny (model X.prog X.w) X.A (eval (.Name x pos) X.env) Q E s :=
 Calls.Name_function_global I.ok.kind hg (Calls.loadGlobal_global (by rw [I.ok.glob];exact I.mod.glob.keeps I.bk) hm h) hd
theorem ms {E:Value->Shared->Prop} {pins:List (Addr × Obj)} {s:Shared} {σ:St} {H:Hp} {x:Str} {u:Value} {pos:Pos} {Q:Value->Shared->Prop} (I:Inv X pins σ H s) (hg:Gl X x) (hm:X.mg x=none) (hv:bootBuiltins x=some u) (h:Q u s)
   (hn:x≠"__name__":=by decide) (hd:(x == ("__debug__":Str))=false:=by decide):wpAny (model X.prog X.w) X.A (eval (.Name x pos) X.env) Q E s:=by
 obtain ⟨mb,h1,h2⟩:=I.mod.blt;exact Calls.Name_function_global I.ok.kind hg (Calls.loadGlobal_builtin (by rw [I.ok.glob];exact I.mod.glob.keeps I.bk) hm (by rw [I.ok.blt];exact h1.keeps I.bk) ((h2 x hn).trans hv) h) hd
theorem K6 {x:Str} {v:V} {u:Value} {pos:Pos} (hg:Gl X x) (hm:X.mg x=some u) (r:RelV v u) (hd:(x == ("__debug__":Str))=false:=by decide):PE X (.Name x pos) (tC v) :=
 fun _ _ _ H _ I h=>tF I hg hm ⟨v,H,I,r,h⟩ hd
theorem wU {x:Str} {v:V} {u:Value} {pos:Pos} (hg:Gl X x) (hm:X.mg x=none) (hv:bootBuiltins x=some u) (r:RelV v u) (hn:x≠"__name__":=by decide) (hd:(x == ("__debug__":Str))=false:=by decide):PE X (.Name x pos) (tC v) :=
 fun _ _ _ H _ I h=>ms I hg hm hv ⟨v,H,I,r,h⟩ hn hd
variable {a b:Expr} {ta tb:TE} {pos:Pos}
def PC (X:Cx) (op:CmpOp) (a b:Expr) (t:TE):Prop :=
 ∀ (pins:List (Addr × Obj)) (s:Shared) (σ:St) (H:Hp) (Q:VK),Inv X pins σ H s->t σ H Q ->
   wpAny (model X.prog X.w) X.A (eval a X.env) (fun v s₁=>wpAny (model X.prog X.w) X.A (eval b X.env) (fun u s₂=>wpAny (model X.prog X.w) X.A (compareOp op v u) (EP X pins σ Q) X.xe s₂) X.xe s₁) X.xe s
theorem G7 (b:Expr) {op:CmpOp} (h:op≠.In) (h2:op≠.NotIn):behindInMarks op b=false:=by
 have e1:(op == CmpOp.In)=false:=by cases op <;> first|rfl|exact absurd rfl h
 have e2:(op == CmpOp.NotIn)=false:=by cases op <;> first|rfl|exact absurd rfl h2
 cases b <;> simp [behindInMarks,e1,e2]
def GR (ta:TE):TE:=fun σ H Q=>ta σ H fun x H1=>Q (.bl (decide (x=.non))) H1
def DG (ta:TE):TE:=fun σ H Q=>ta σ H fun x H1=>Q (.bl (!decide (x=.non))) H1
theorem RelV.none_iff {x:V} {v:Value} (r:RelV x v):(v == Value.none)=decide (x=.non):=by
 cases x with
 | non=>cases r;rfl
 | bl _=>cases r;rfl
 | int _=>obtain ⟨t,rfl⟩:=r;rfl
 | str _=>obtain ⟨t,rfl⟩:=r;rfl
 | byt _=>obtain ⟨t,rfl⟩:=r;rfl
 | flt _=>obtain ⟨t,rfl⟩:=r;rfl
 | ref _=>cases r;rfl
 | ty _=>cases r;rfl
theorem Mj {j pos'} (ha:PE X a ta):PC X .Is a (.Constant .none j pos') (GR ta):=by
 intro pins s σ H Q I h;refine bh (ha pins s σ H _ I h) fun v s1 x H1 I1 r1 q1=>?_;exact Constant_none (is_none_gen ⟨.bl _,H1,I1,by rw [r1.none_iff];rfl,q1⟩)
theorem xq {j pos'} (ha:PE X a ta):PC X .IsNot a (.Constant .none j pos') (DG ta):=by
 intro pins s σ H Q I h;refine bh (ha pins s σ H _ I h) fun v s1 x H1 I1 r1 q1=>?_;exact Constant_none (isnot_none_gen ⟨.bl _,H1,I1,by rw [r1.none_iff];rfl,q1⟩)
def tB (t:TE):TT:=fun σ H Q=>t σ H fun x H1=>∃ c,x=.bl c/\Q c H1
theorem rH {op:CmpOp} {t:TE} (h:PC X op a b t) (h1:behindInMarks op b=false:=by first|exact G7 _ (by decide) (by decide)|rfl):PT X (.Compare a [op] [b] pos) (tB t):=by
 intro pins s σ H Q I hw;refine wpAny_isTrue_Compare1 (thn (h pins s σ H _ I hw) fun v s1 h1=>thn h1 fun u s2 h2=>thn h2 fun c s3 ⟨x,H1,I1,r1,q1⟩=>?_) h1;obtain ⟨d,rfl,q⟩:=q1;cases r1;exact wpAny_truthy_bool ⟨H1,I1,q⟩
theorem fB {e:Expr} {t:TE} (h:PE X e t) (he:∀ whole,isTrue e X.env whole=(do let v <- whole;standAt e.pos;holding [v] (truthy v)):=by intro _;rfl):PT X e (tB t):=by
 intro pins s σ H Q I hw;refine isTrue_plain (bh (h pins s σ H _ I hw) fun v s1 x H1 I1 r1 q1=>?_) (he _);obtain ⟨d,rfl,q⟩:=q1;cases r1;exact wpAny_truthy_bool ⟨H1,I1,q⟩
variable {tA tB':TT} {jO:List Expr}
def GN (t u:TT):TT:=fun σ H Q=>t σ H fun c H1=>if c=true then u σ H1 Q else Q false H1
def tOr (t u:TT):TT:=fun σ H Q=>t σ H fun c H1=>if c=true then Q true H1 else u σ H1 Q
def IQ (t:TT):TT:=fun σ H Q=>t σ H fun c H1=>Q (!c) H1
theorem jS (ha:PT X a tA):PW X (.BoolOp .And [a] pos) tA:=by
 intro wh pins s σ H Q I h;refine isTrue_and (thn (ha pins s σ H Q I h) fun c s1 e=>?_);cases c with
 | true=>exact isTrue_and_nil e
 | false=>exact e
theorem sL (ha:PT X a tA):PW X (.BoolOp .Or [a] pos) tA:=by
 intro wh pins s σ H Q I h;refine isTrue_or (thn (ha pins s σ H Q I h) fun c s1 e=>?_);cases c with
 | false=>exact isTrue_or_nil e
 | true=>exact e
theorem mi (ha:PT X a tA) (hb:PW X (.BoolOp .And (b::jO) pos) tB'):PW X (.BoolOp .And (a::b::jO) pos) (GN tA tB'):=by
 intro wh pins s σ H Q I h;refine isTrue_and (Ab (ha pins s σ H _ I h) fun c s1 H1 I1 q1=>?_);cases c with
 | true=>exact hb wh pins s1 σ H1 Q I1 q1
 | false=>exact ⟨H1,I1,q1⟩
theorem tL (ha:PT X a tA) (hb:PW X (.BoolOp .Or (b::jO) pos) tB'):PW X (.BoolOp .Or (a::b::jO) pos) (tOr tA tB'):=by
 intro wh pins s σ H Q I h;refine isTrue_or (Ab (ha pins s σ H _ I h) fun c s1 H1 I1 q1=>?_);cases c with
 | true=>exact ⟨H1,I1,q1⟩
 | false=>exact hb wh pins s1 σ H1 Q I1 q1
theorem d8 (ha:PT X a tA):PT X (.UnaryOp .Not a pos) (IQ tA):=by
 intro pins s σ H Q I h;exact isTrue_not (ha pins s σ H (fun c H1=>Q (!c) H1) I h)
def EN (ta tb:TE):TE:=fun σ H Q=>ta σ H fun x H1=>∃ c,x=.bl c/\if c=true then tb σ H1 Q else Q (.bl false) H1
def LY (ta tb:TE):TE:=fun σ H Q=>ta σ H fun x H1=>∃ c,x=.bl c/\if c=true then Q (.bl true) H1 else tb σ H1 Q
def Em (ta:TE):TE:=fun σ H Q=>ta σ H fun x H1=>∃ c,x=.bl c/\Q (.bl (!c)) H1
theorem sF {op} {t:TE} (h:PE X a t):PE X (.BoolOp op [a] pos) t:=fun pins s σ H Q I hw=>BoolOp_one (h pins s σ H Q I hw)
theorem pB (ha:PE X a ta) (hb:PE X (.BoolOp .And (b::jO) pos) tb):PE X (.BoolOp .And (a::b::jO) pos) (EN ta tb):=by
 intro pins s σ H Q I h;refine BoolOp_and (bh (ha pins s σ H _ I h) fun v s1 x H1 I1 r1 q1=>?_);obtain ⟨c,rfl,q1⟩:=q1;cases r1;refine wpAny_truthy_bool ?_;cases c with
 | true=>exact hb pins s1 σ H1 Q I1 q1
 | false=>exact ⟨.bl false,H1,I1,rfl,q1⟩
theorem Lm (ha:PE X a ta):PE X (.UnaryOp .Not a pos) (Em ta):=by
 intro pins s σ H Q I h;refine UnaryOp_ (bh (ha pins s σ H _ I h) fun v s1 x H1 I1 r1 q1=>?_);obtain ⟨c,rfl,q1⟩:=q1;cases r1;exact not_of (wpAny_truthy_bool ⟨.bl (!c),H1,I1,rfl,q1⟩)
def tIf (t:TT) (ta tb:TE):TE:=fun σ H Q=>t σ H fun c H1=>if c=true then ta σ H1 Q else tb σ H1 Q
end
end L2
namespace L2
open PySem PySem.Spec PyProof.Rows
def SqL (K:PySem.W.Frag) (H:Hp) (a:Addr) (xs:List V):Prop :=
 Rd H a (.lst xs) \/
   ∃ (o:Obj) (its:Array Value) (n:Nat),K.lookup a=some o/\o.cls=.type "list"/\o.dict=none/\o.data=.seq its n/\its.size<=sizeLine/\Vals xs its.toList
def SqT (K:PySem.W.Frag) (H:Hp) (a:Addr) (xs:List V):Prop :=
 Rd H a (.tup xs) \/
   ∃ (o:Obj) (its:Array Value) (n:Nat),K.lookup a=some o/\o.cls=.type "tuple"/\o.data=.seq its n/\its.size<=sizeLine/\Vals xs its.toList
def Nl:Value->Option V
 | .none=>some .non
 | .bool b=>some (.bl b)
 | .int i _=>some (.int i)
 | .str x _=>some (.str x)
 | .bytes b _=>some (.byt b)
 | .float b _=>some (.flt b)
 | .ref a=>some (.ref a)
 | .type n=>some (.ty n)
 | _=>none
theorem RelV.abs {x:V} {u:Value} (r:RelV x u):Nl u=some x:=by
 cases x with
 | non=>cases r;rfl
 | bl _=>cases r;rfl
 | int _=>obtain ⟨t,rfl⟩:=r;rfl
 | str _=>obtain ⟨t,rfl⟩:=r;rfl
 | byt _=>obtain ⟨t,rfl⟩:=r;rfl
 | flt _=>obtain ⟨t,rfl⟩:=r;rfl
 | ref _=>cases r;rfl
 | ty _=>cases r;rfl
theorem RelV.inj {x y:V} {u:Value} (r:RelV x u) (q:RelV y u):x=y:=Option.some.inj (r.abs.symm.trans q.abs)
theorem Vals.inj {xs ys:List V} {us:List Value} (h:Vals xs us) (h2:Vals ys us):xs=ys:=by
 induction h generalizing ys with
 | nil=>cases h2;rfl
 | cons r _ ih=>cases h2 with|cons r2 t2=>rw [r.inj r2,ih t2]
section
variable {X:Cx} {pins:List (Addr × Obj)} {σ:St} {H:Hp} {s:Shared} {a:Addr} {xs ys:List V}
theorem SqL.of {K:PySem.W.Frag} (h:H a=some (.lst xs)):SqL K H a xs:=.inl (.inl h)
theorem SqT.of {K:PySem.W.Frag} (h:H a=some (.tup xs)):SqT K H a xs:=.inl (.inl h)
theorem Inv.list (I:Inv X pins σ H s) (h:SqL X.K H a xs):∃ its:List Value,Vals xs its/\PlainL s.heap a its.toArray/\xs.length<=sizeLine:=by
 rcases h with h|⟨o,its,n,hk,hc,hd,hs,hz,r⟩
 . obtain ⟨z,its,n,r,e⟩:=h.ok I.hok;exact ⟨its,r,⟨_,n,e,rfl,rfl,rfl⟩,z⟩
 . refine ⟨its.toList,r,⟨o,n,I.kIn a o hk,hc,hd,by simpa using hs⟩,?_⟩;have e:=r.length;simp only [Array.length_toList] at e;omega
theorem Inv.tuple (I:Inv X pins σ H s) (h:SqT X.K H a xs):∃ its:List Value,Vals xs its/\IsTup s.heap a its.toArray/\xs.length<=sizeLine:=by
 rcases h with h|⟨o,its,n,hk,hc,hs,hz,r⟩
 . obtain ⟨z,its,r,p⟩:=h.ok I.hok;exact ⟨its,r,p,z⟩
 . refine ⟨its.toList,r,⟨o,I.kIn a o hk,hc,n,by simpa using hs⟩,?_⟩;have e:=r.length;simp only [Array.length_toList] at e;omega
theorem Inv.list_inj (I:Inv X pins σ H s) (h:SqL X.K H a xs) (h':SqL X.K H a ys):xs=ys:=by
 obtain ⟨its,r,⟨o,n,e,_,_,d⟩,_⟩:=I.list h;obtain ⟨its',r',⟨o',n',e',_,_,d'⟩,_⟩:=I.list h';rw [e] at e';cases e';rw [d] at d';injection d' with d1 _
 have:its=its':=by simpa using congrArg Array.toList d1
 subst this;exact r.inj r'
theorem Inv.tuple_inj (I:Inv X pins σ H s) (h:SqT X.K H a xs) (h':SqT X.K H a ys):xs=ys:=by
 obtain ⟨its,r,⟨o,e,_,n,d⟩,_⟩:=I.tuple h;obtain ⟨its',r',⟨o',e',_,n',d'⟩,_⟩:=I.tuple h';rw [e] at e';cases e';rw [d] at d';injection d' with d1 _
 have:its=its':=by simpa using congrArg Array.toList d1
 subst this;exact r.inj r'
end
abbrev Cx.wish (X:Cx) (E:Value->Shared->Prop):Cx:={ X with xe:=E }
abbrev Cx.nox (X:Cx):Cx:=X.wish fun _ _=>False
theorem Cx.Ok.wish {X:Cx} (ok:X.Ok) (E:Value->Shared->Prop):(X.wish E).Ok :=
 ⟨ok.mod,ok.kind,ok.glob,ok.blt,ok.above,ok.inj,ok.has,ok.cab,ok.hd,ok.frames,ok.stk,ok.exf,ok.bs,ok.bsz,ok.noex,ok.exfs,ok.funs,ok.frf⟩
theorem Cx.Ok.unwish {X:Cx} {E:Value->Shared->Prop} (ok:(X.wish E).Ok):X.Ok :=
 ⟨ok.mod,ok.kind,ok.glob,ok.blt,ok.above,ok.inj,ok.has,ok.cab,ok.hd,ok.frames,ok.stk,ok.exf,ok.bs,ok.bsz,ok.noex,ok.exfs,ok.funs,ok.frf⟩
section
variable {X:Cx} {pins:List (Addr × Obj)} {σ:St} {H:Hp} {s:Shared} {E:Value->Shared->Prop}
theorem Inv.wish (I:Inv X pins σ H s) (E:Value->Shared->Prop):Inv (X.wish E) pins σ H s:=⟨I.ok.wish E,I.os,I.bare,I.base,I.loc,I.cell,I.free,I.freeC,I.pin,I.hok,I.len⟩
theorem Inv.unwish (I:Inv (X.wish E) pins σ H s):Inv X pins σ H s:=⟨I.ok.unwish,I.os,I.bare,I.base,I.loc,I.cell,I.free,I.freeC,I.pin,I.hok,I.len⟩
theorem SP.unwish {D:Ends} {f:Flow} {s':Shared} (h:SP (X.wish E) pins D f s'):SP X pins D f s':=by
 cases f with
 | next=>obtain ⟨σ',H',I,q⟩:=h;exact ⟨σ',H',I.unwish,q⟩
 | brk=>obtain ⟨σ',H',I,q⟩:=h;exact ⟨σ',H',I.unwish,q⟩
 | cont=>obtain ⟨σ',H',I,q⟩:=h;exact ⟨σ',H',I.unwish,q⟩
 | ret u=>obtain ⟨v,σ',H',I,r,q⟩:=h;exact ⟨v,σ',H',I.unwish,r,q⟩
theorem PSs.nox {st:List Stmt} {t:TS} (h:PSs X.nox st t):PSs X st t:=fun pins s σ H D I hw =>
 wpAny_mono (h pins s σ H D (I.wish _) hw) (fun _ _ q=>q.unwish) fun _ _ z=>False.elim z
end
section
variable {X:Cx} {st:Stmt} {jO:List Stmt} {t u:TS} {e:Expr} {te:TE} {pos:Pos}
def tNext:TS:=fun D σ H=>D.nx σ H
def D9 (t u:TS):TS:=fun D σ H=>t { D with nx:=u D } σ H
theorem aA:PSs X [] tNext:=fun _ _ σ H _ I h=>wpAny_execs_nil ⟨σ,H,I,h⟩
theorem aj (h1:PS X st t) (h2:PSs X jO u):PSs X (st::jO) (D9 t u):=by
 intro pins s σ H D I h;refine wpAny_execs_cons (thn (h1 pins s σ H { D with nx:=u D } I h) fun f s1 q=>?_);cases f with
 | next =>
   obtain ⟨σ',H',I',q⟩:=q;exact h2 pins s1 σ' H' D I' q
 | ret v=>exact q
 | brk=>exact q
 | cont=>exact q
theorem al (h1:PS X st t):PSs X [st] t:=by
 intro pins s σ H D I h;refine wpAny_execs_cons (thn (h1 pins s σ H D I h) fun f s1 q=>?_);cases f with
 | next=>exact wpAny_execs_nil q
 | ret v=>exact q
 | brk=>exact q
 | cont=>exact q
theorem Inv.quiet {pins:List (Addr × Obj)} {σ:St} {H:Hp} {s:Shared} (I:Inv X pins σ H s):interactive X.env=false:=by simp [interactive,I.ok.kind]
def DB (te:TE):TS:=fun D σ H=>te σ H fun _ H1=>D.nx σ H1
theorem bq (he:PE X e te) (hs:swapsWith e none pos.line X.env=pure false:=by rfl):PS X (.Expr e pos) (DB te):=by
 intro pins s σ H D I h;exact wpAny_Expr_any (bh (he pins s σ H _ I h) fun v s1 x H1 I1 r1 q1=>⟨σ,H1,I1,q1⟩) I.quiet hs
def Ip (te:TE):TS:=fun D σ H=>te σ H D.rt
theorem aF (he:PE X e te):PS X (.Return (some e) pos) (Ip te):=by
 intro pins s σ H D I h;exact wpAny_Return_some (bh (he pins s σ H _ I h) fun v s1 x H1 I1 r1 q1=>⟨x,σ,H1,I1,r1,q1⟩)
def Kj:TS:=fun D _ H=>D.rt .non H
def Ji (c:TT) (t u:TS):TS:=fun D σ H=>c σ H fun b H1=>if b=true then t D σ H1 else u D σ H1
theorem aO {c:Expr} {a b:List Stmt} {tc:TT} (hc:PT X c tc) (ha:PSs X a t) (hb:PSs X b u):PS X (.If c a b pos) (Ji tc t u):=by
 intro pins s σ H D I h;refine wpAny_If (Ab (hc pins s σ H _ I h) fun d s1 H1 I1 q1=>?_);cases d with
 | true=>exact ha pins s1 σ H1 D I1 q1
 | false=>exact hb pins s1 σ H1 D I1 q1
def tNever:TS:=fun _ _ _=>False
theorem gD:PS X st tNever:=fun _ _ _ _ _ _ h=>h.elim
end
abbrev TG:=V->St->Hp->(St->Hp->Prop)->Prop
abbrev TGs:=List V->St->Hp->(St->Hp->Prop)->Prop
def PG (X:Cx) (target:Expr) (t:TG):Prop :=
 ∀ (pins:List (Addr × Obj)) (s:Shared) (σ:St) (H:Hp) (v:V) (u:Value) (Q:St->Hp->Prop),Inv X pins σ H s->RelV v u->t v σ H Q ->
   wpAny (model X.prog X.w) X.A (assign target X.env u) (fun _ s'=>∃ σ' H',Inv X pins σ' H' s'/\Q σ' H') X.xe s
def PGs (X:Cx) (ts:List Expr) (t:TGs):Prop :=
 ∀ (pins:List (Addr × Obj)) (s:Shared) (σ:St) (H:Hp) (vs:List V) (us:List Value) (Q:St->Hp->Prop),Inv X pins σ H s->Vals vs us->t vs σ H Q ->
   wpAny (model X.prog X.w) X.A (assignInOrder ((assignEach ts X.env).map (·.2)) us) (fun _ s'=>∃ σ' H',Inv X pins σ' H' s'/\Q σ' H') X.xe s
abbrev BI:=V->V->V->Hp->(Hp->Prop)->Prop
def Hh (X:Cx) (t:BI):Prop :=
 ∀ (pins:List (Addr × Obj)) (s:Shared) (σ:St) (H:Hp) (o i v:V) (ov iv u:Value) (Q:Hp->Prop),Inv X pins σ H s->RelV o ov->RelV i iv->RelV v u->t o i v H Q ->
   wpAny (model X.prog X.w) X.A (setItem ov iv u) (fun _ s'=>∃ H',Inv X pins σ H' s'/\Q H') X.xe s
abbrev TIp:=V->V->Hp->VK->Prop
def PIp (X:Cx) (op:Operator) (t:TIp):Prop :=
 ∀ (pins:List (Addr × Obj)) (s:Shared) (σ:St) (H:Hp) (x y:V) (v u:Value) (Q:VK),Inv X pins σ H s->RelV x v->RelV y u->t x y H Q ->
   wpAny (model X.prog X.w) X.A (inplaceOp op v u) (EP X pins σ Q) X.xe s
section
variable {X:Cx} {pos:Pos}
def zz (i:Nat):TG:=fun v σ H Q=>Q (σ.set i (some v)) H
theorem aM {i:Nat} {x:Str} (hN:X.N.Nodup) (hi:X.N[i]?=some x) (hx:Loc X.env.scope x) (hf:X.fn x=true\/X.env.scope.names.lookup x=some .local:=by first|exact .inl rfl|exact .inr rfl|assumption):PG X (.Name x pos) (zz i):=by
 intro pins s σ H v u Q I r h;exact wpAny_assign_Name (pZ I hN hi hx r (fun s' I'=>⟨_,H,I',h⟩) hf)
def gNil:TGs:=fun vs σ H Q=>vs=[]/\Q σ H
def Eb (t:TG) (u:TGs):TGs:=fun vs σ H Q=>∃ v r,vs=v::r/\t v σ H fun σ' H'=>u r σ' H' Q
theorem iK:PGs X [] gNil:=by
 intro pins s σ H vs us Q I r h;obtain ⟨e,h⟩:=h;subst e;cases r;exact assignInOrder_nil ⟨σ,H,I,h⟩
theorem bj {e:Expr} {es:List Expr} {t:TG} {u:TGs} (h1:PG X e t) (h2:PGs X es u)
   (hs:(assignEach (e::es) X.env).map (·.2)=assign e X.env::(assignEach es X.env).map (·.2):=by rfl):PGs X (e::es) (Eb t u):=by
 intro pins s σ H vs us Q I r h;obtain ⟨v,vr,e1,h⟩:=h;subst e1;cases r with
 | cons r rr =>
   rw [hs];refine assignInOrder_cons (thn (h1 pins s σ H _ _ _ I r h) fun _ s1 ⟨σ1,H1,I1,q1⟩=>?_);exact h2 pins s1 σ1 H1 _ _ Q I1 rr q1
def DL (K:PySem.W.Frag) (n:Nat) (t:TGs):TG:=fun v σ H Q=>∃ a xs,v=.ref a/\SqT K H a xs/\xs.length=n/\t xs σ H Q
theorem kF {es:List Expr} {k:Nat} {t:TGs} {n:Nat} (hc:X.calm=true) (h:PGs X es t)
   (hn:(assignEach es X.env).length=n:=by rfl) (hst:(assignEach es X.env).findIdx? (·.1)=none:=by rfl):PG X (.Tuple es k pos) (DL X.K n t):=by
 intro pins s σ H v u Q I r hw;obtain ⟨a,xs,e1,hq,hl,hw⟩:=hw;subst e1;cases r;obtain ⟨its,rv,ht,hz⟩:=I.tuple hq;refine assign_Tuple_tuple (I.ok.hd hc) ht (by simp [hn,<- hl,rv.length]) hst fun h' hx=>?_;have I1:Inv X pins σ H { s with heap:=h' }:=I.kept (t':=s.toks) fun b o e=>hx b o (Nat.ne_of_lt (Heap.lt_size e)) e;exact h pins _ σ H xs _ Q I1 (by simpa using rv) hw
def IM (to ti:TE) (t:BI):TG:=fun v σ H Q=>to σ H fun o H1=>ti σ H1 fun i H2=>t o i v H2 fun H3=>Q σ H3
theorem rK {o i:Expr} {to ti:TE} {t:BI} (ho:PE X o to) (hi:PE X i ti) (hs:Hh X t)
   (ha:∀ v,assign (.Subscript o i pos) X.env v=(do
     let ov <- holding [v] (eval o X.env)
     let iv <- holding [v,ov] (eval i X.env)
     standAt pos
     holding [v,ov,iv] (setItem ov iv v)
     release [v,ov,iv] []):=by intro _;rfl):PG X (.Subscript o i pos) (IM to ti t):=by
 intro pins s σ H v u Q I r h;rw [ha];refine wpAny_bind (wpAny_holding (bh (ho pins s σ H _ I h) fun ov s1 x H1 I1 r1 q1=>?_));refine wpAny_bind (wpAny_holding (bh (hi pins s1 σ H1 _ I1 q1) fun iv s2 y H2 I2 r2 q2=>?_));refine wpAny_bind (wpAny_standAt (wpAny_bind (wpAny_holding (thn (hs pins s2 σ H2 x y v ov iv u _ I2 r1 r2 r q2) fun _ s3 ⟨H3,I3,q3⟩=>?_))));exact wpAny_release ⟨σ,H3,I3,q3⟩
def D4 (te:TE) (g:TG):TS:=fun D σ H=>te σ H fun x H1=>g x σ H1 D.nx
theorem jh {tg e:Expr} {te:TE} {g:TG} (he:PE X e te) (hg:PG X tg g) (hs:swapsWithSole [tg] e pos.line X.env=pure false:=by rfl) (hw:swappedStores [tg] e X.env=pure none:=by rfl)
   (h1:(assignEach [tg] X.env).map (·.2)=[assign tg X.env]:=by rfl):PS X (.Assign [tg] e pos) (D4 te g):=by
 intro pins s σ H D I h;refine wpAny_Assign_stores (bh (he pins s σ H _ I h) fun v s1 x H1 I1 r1 q1=>?_) hs hw;rw [h1];exact thn (hg pins s1 σ H1 x v _ I1 r1 q1) fun _ s2 q=>q
theorem aH {i:Nat} {x:Str} {e:Expr} {te:TE} {pos':Pos} (hN:X.N.Nodup) (hi:X.N[i]?=some x) (hx:Loc X.env.scope x) (he:PE X e te) (hs:swapsWith e (some (.Name x pos')) pos.line X.env=pure false:=by rfl) (hf:X.fn x=true\/X.env.scope.names.lookup x=some .local:=by first|exact .inl rfl|exact .inr rfl|assumption) :
   PS X (.Assign [.Name x pos'] e pos) (D4 te (zz i)):=by
 intro pins s σ H D I h;refine wpAny_Assign_Name (bh (he pins s σ H _ I h) fun v s1 y H1 I1 r1 q1=>?_) hs;exact pZ I1 hN hi hx r1 (fun s2 I2=>⟨_,H1,I2,q1⟩) hf
def Mo (i:Nat) (te:TE) (ti:TIp):TS:=fun D σ H=>∃ x,σ[i]?=some (some x)/\te σ H fun y H1=>ti x y H1 fun z H2=>D.nx (σ.set i (some z)) H2
def DC (to ti te:TE) (tget:V->V->Hp->VK->Prop) (tip:TIp) (tset:BI):TS:=fun D σ H=>to σ H fun o H1=>ti σ H1 fun i H2=>tget o i H2 fun x H3=>te σ H3 fun y H4=>tip x y H4 fun z H5=>tset o i z H5 fun H6=>D.nx σ H6
def Ma (X:Cx) (t:V->V->Hp->VK->Prop):Prop :=
 ∀ (pins:List (Addr × Obj)) (s:Shared) (σ:St) (H:Hp) (o i:V) (ov iv:Value) (Q:VK),Inv X pins σ H s->RelV o ov->RelV i iv->t o i H Q ->
   wpAny (model X.prog X.w) X.A (getItem ov iv) (EP X pins σ Q) X.xe s
theorem xr {o i e:Expr} {to ti te:TE} {tget:V->V->Hp->VK->Prop} {tip:TIp} {tset:BI} {op:Operator} {tpos:Pos} (ho:PE X o to) (hi:PE X i ti) (hg:Ma X tget) (he:PE X e te) (hp:PIp X op tip) (hs:Hh X tset)
   (ha:∀ ov iv new,augStore i ov iv new=(do holding [new,ov,iv] (setItem ov iv new);release [new,ov,iv] [];pure .next):=by intros;rfl):PS X (.AugAssign (.Subscript o i tpos) op e pos) (DC to ti te tget tip tset):=by
 intro pins s σ H D I h;refine wpAny_AugAssign_SubscriptAny (bh (ho pins s σ H _ I h) fun ov s1 x1 H1 I1 r1 q1=>?_) ha;refine bh (hi pins s1 σ H1 _ I1 q1) fun iv s2 x2 H2 I2 r2 q2=>?_;refine thn (hg pins s2 σ H2 x1 x2 ov iv _ I2 r1 r2 q2) fun old s3 ⟨x3,H3,I3,r3,q3⟩=>?_;refine bh (he pins s3 σ H3 _ I3 q3) fun v s4 x4 H4 I4 r4 q4=>?_;refine thn (hp pins s4 σ H4 x3 x4 old v _ I4 r3 r4 q4) fun new s5 ⟨x5,H5,I5,r5,q5⟩=>?_;exact thn (hs pins s5 σ H5 x1 x2 x5 ov iv new _ I5 r1 r2 r5 q5) fun _ s6 ⟨H6,I6,q6⟩=>⟨σ,H6,I6,q6⟩
def ipI (f:Int->Int->Int):TIp:=fun x y H Q=>∃ i j,x=.int i/\y=.int j/\Q (.int (f i j)) H
theorem Gn:PIp X .Add (ipI fun i j=>i+j):=by
 intro pins s σ H x y v u Q I r1 r2 h;obtain ⟨i,j,e1,e2,q⟩:=h;subst e1;subst e2;obtain ⟨t,rfl⟩:=r1;obtain ⟨t',rfl⟩:=r2;exact iadd_int ⟨.int _,H,I.tok _,⟨_,rfl⟩,q⟩
theorem MC:PIp X .Sub (ipI fun i j=>i - j):=by
 intro pins s σ H x y v u Q I r1 r2 h;obtain ⟨i,j,e1,e2,q⟩:=h;subst e1;subst e2;obtain ⟨t,rfl⟩:=r1;obtain ⟨t',rfl⟩:=r2;exact isub_int ⟨.int _,H,I.tok _,⟨_,rfl⟩,q⟩
end
section
variable {X:Cx} {pos:Pos}
def BM (c:TT) (tb:TS):TS:=fun D σ H=>∃ W:Nat->St->Hp->Prop,(∃ m,W m σ H)/\∀ m σ H,W m σ H ->
 c σ H fun b H1=>if b=true then ∃ N:St->Hp->Prop,(∀ σ' H',N σ' H'->∃ m',m'<m/\W m' σ' H')/\tb { D with nx:=N,ct:=N,bk:=D.nx } σ H1 else D.nx σ H1
theorem Bi {c:Expr} {body:List Stmt} {tc:TT} {tb:TS} (hp:PassesOwn (model X.prog X.w) X.A X.env X.xe) (hc:PT X c tc) (hb:PSs X body tb):PS X (.While c body [] pos) (BM tc tb):=by
 intro pins s σ H D I h;obtain ⟨W,⟨m0,w0⟩,turn⟩:=h;refine wpAny_While (codeAny_whileLoop (fun n s'=>∃ σ' H',Inv X pins σ' H' s'/\W n σ' H') ?_ m0 ⟨σ,H,I,w0⟩);rintro n s1 ⟨σ1,H1,I1,w1⟩;refine wpAny_passesOwn hp (Ab (hc pins s1 σ1 H1 _ I1 (turn n σ1 H1 w1)) fun b s2 H2 I2 q2=>?_);cases b with
 | true =>
   obtain ⟨N,hN,q2⟩:=q2;rw [if_pos rfl];refine wpAny_passesOwn hp (thn (hb pins s2 σ1 H2 _ I2 q2) fun f s3 q3=>?_);cases f with
   | next =>
     obtain ⟨σ3,H3,I3,n3⟩:=q3;obtain ⟨m',hm,w3⟩:=hN σ3 H3 n3;exact ⟨m',hm,σ3,H3,I3,w3⟩
   | cont =>
     obtain ⟨σ3,H3,I3,n3⟩:=q3;obtain ⟨m',hm,w3⟩:=hN σ3 H3 n3;exact ⟨m',hm,σ3,H3,I3,w3⟩
   | brk=>exact q3
   | ret v=>exact q3
 | false =>
   rw [if_neg Bool.false_ne_true];exact wpAny_execs_nil ⟨σ1,H2,I2,q2⟩
end
structure It where
 go:Nat->Hp->Prop
 yld:Nat->Hp->V->Hp->Prop
 stop:Nat->Hp->Prop
def iT (X:Cx) (pins:List (Addr × Obj)) (H:Hp) (b:Addr):Prop :=
 H b=none/\b≠X.env.locals/\b ∉ X.fs/\(b∈X.ex\/X.s₀.heap.objs.size<=b)/\(∀ x c,X.env.cells.lookup x=some c->c≠b)/\∀ p∈X.pn++pins,p.1≠b
theorem Inv.fpOk {X:Cx} {pins:List (Addr × Obj)} {σ:St} {H H':Hp} {s:Shared} {b:Addr} (I:Inv X pins σ H s) (hb:s.heap.objs.size<=b) (hn:H' b=none):iT X pins H' b:=by
 refine ⟨hn,Nat.ne_of_gt (Nat.lt_of_lt_of_le I.lt hb),I.nofs hb,.inr (Nat.le_trans I.sz hb),fun x c e z=>?_,fun p hp z=>?_⟩
 . obtain ⟨v,q⟩:=I.cell x c e;exact absurd (Nat.lt_of_lt_of_le q.lt (by rw [z];exact hb)) (Nat.lt_irrefl _)
 . exact absurd (Nat.lt_of_lt_of_le (Heap.lt_size (I.pin p hp).1) (by rw [z];exact hb)) (Nat.lt_irrefl _)
structure Turn (P:Program) (w:World) (K:PySem.W.Frag) (tg:Expr) (J:It) (fp:List Addr) (it:Addr) (tn:Nat->Heap->Prop):Prop where
 mem:it∈fp
 obj:∀ i h,tn i h->∀ b∈fp,∃ o,h.get? b=some o/\∀ v,o.data≠.cell v
 keep:∀ i h h',tn i h->(∀ b∈fp,∀ o,h.get? b=some o->h'.get? b=some o)->tn i h'
 item:∀ (X:Cx),X.prog=P->X.w=w->X.K=K->X.calm=true->∀ (i:Nat) (pins:List (Addr × Obj)) (s:Shared) (σ:St) (H:Hp) (E:Value->Shared->Prop),Inv X pins σ H s->(∀ b∈fp,iT X pins H b)->tn i s.heap->J.go i H ->
   wpAny (model P w) X.A (pyNext (.ref it)) (fun r s1=>∃ u,r=some u /\
     wpAny (model P w) X.A (letOwnedTupleGo tg (.ref it) u) (fun _ s2=>∃ x H',Inv X pins σ H' s2/\RelV x u/\J.yld i H x H'/\tn (i+1) s2.heap/\∀ b∈fp,H' b=none) E s1) E s
 done:∀ (X:Cx),X.prog=P->X.w=w->X.K=K->X.calm=true->∀ (i:Nat) (pins:List (Addr × Obj)) (s:Shared) (σ:St) (H:Hp) (E:Value->Shared->Prop),Inv X pins σ H s->(∀ b∈fp,iT X pins H b)->tn i s.heap->J.stop i H ->
   wpAny (model P w) X.A (pyNext (.ref it)) (fun r s1=>r=none/\Inv X pins σ H s1) E s
 self:∀ (A:Around) (i:Nat) (s:Shared) (Q:Value->Shared->Prop) (E:Value->Shared->Prop),tn i s.heap->Q (.ref it) s->wpAny (model P w) A (pyIter (.ref it)) Q E s
abbrev TI:=St->Hp->(It->Hp->Prop)->Prop
def PIE (X:Cx) (pins:List (Addr × Obj)) (σ:St) (tg:Expr) (R:It->Hp->Prop) (itv:Value) (s2:Shared):Prop :=
 ∃ (it:Addr) (fp:List Addr) (tn:Nat->Heap->Prop) (J:It) (H':Hp),itv=.ref it/\Inv X pins σ H' s2/\Turn X.prog X.w X.K tg J fp it tn/\tn 0 s2.heap/\(∀ b∈fp,iT X pins H' b)/\R J H'
def PI (X:Cx) (tg iter:Expr) (wi:TI):Prop :=
 ∀ (pins:List (Addr × Obj)) (s:Shared) (σ:St) (H:Hp) (R:It->Hp->Prop),Inv X pins σ H s->wi σ H R ->
   wpAny (model X.prog X.w) X.A (eval iter X.env) (fun v s1=>wpAny (model X.prog X.w) X.A (pyIter v) (PIE X pins σ tg R) X.xe s1) X.xe s
theorem Ea {M:Model} {A:Around} {E:Value->Shared->Prop} {s:Shared} {tg:Expr} {it:Addr} {u:Value} {o:Obj} {n:String} {vs:Array Value} {Q:Unit->Shared->Prop} (ho:s.heap.get? it=some o) (hc:o.cls=.type n) (hd:o.data=.fields vs)
   (hn:["enumerate","zip","dict_itemiterator","dict_reverseitemiterator","odict_iterator","itertools.zip_longest","itertools.pairwise"].contains n=false) (hQ:Q () s):wpAny M A (letOwnedTupleGo tg (.ref it) u) Q E s:=by
 unfold letOwnedTupleGo;cases tg <;> first
   | exact wpAny_pure hQ
   | (cases u <;> first
       | exact wpAny_pure hQ
       | (refine wpAny_bind (wpAny_load ho ?_)
          rw [hc,hd];show wpAny M A (if (["enumerate","zip","dict_itemiterator","dict_reverseitemiterator","odict_iterator","itertools.zip_longest","itertools.pairwise"].contains n && vs[0]? == some (rawInt _))=true then _ else _) Q E s;rw [if_neg (by intro h;rw [hn,Bool.false_and] at h;cases h)];exact wpAny_pure hQ))
def Itl (K:PySem.W.Frag) (a:Addr):It :=
 ⟨fun i H=>∃ xs x,SqL K H a xs/\xs[i]?=some x,fun i H x H'=>H'=H/\∀ xs,SqL K H a xs->xs[i]?=some x,fun i H=>∃ xs,SqL K H a xs/\xs.length<=i⟩
def Itt (K:PySem.W.Frag) (a:Addr):It :=
 ⟨fun i H=>∃ xs x,SqT K H a xs/\xs[i]?=some x,fun i H x H'=>H'=H/\∀ xs,SqT K H a xs->xs[i]?=some x,fun i H=>∃ xs,SqT K H a xs/\xs.length<=i⟩
def Itr (lo:Int) (n:Nat):It:=⟨fun i _=>i<n,fun i H x H'=>H'=H/\x=.int (lo+i),fun i _=>n<=i⟩
theorem Gm {P:Program} {w:World} {K:PySem.W.Frag} {tg:Expr} (a it:Addr):Turn P w K tg (Itl K a) [it] it (fun i h=>h.IsListIter it a i) where
 mem:=by simp
 obj:=fun i h st b hb=>by
   have e:b=it:=by simpa using hb
   subst e;obtain ⟨o,e,c,d⟩:=st;exact ⟨o,e,fun v z=>by rw [d] at z;cases z⟩
 keep:=fun i h h' st k=>st.at fun o e=>k it (by simp) o e
 item:=by
   intro X hP hw hK hc i pins s σ H E I hf st hg;subst hP hw hK;obtain ⟨xs,x,hq,hx⟩:=hg;obtain ⟨its,rv,p,hz⟩:=I.list hq;obtain ⟨u,hu,ru⟩:=rv.get hx;obtain ⟨f0,f1,f2,f3,f4,f5⟩:=hf it (by simp);refine wpAny_pyNext_list_item st p.isList (x:=u) (by simpa using hu) fun h' st' sb=>?_;have I1:Inv X pins σ H { s with heap:=h' }:=I.turned (t':=s.toks) (fun b o hb e=>(sb.2 b hb).trans e) f0 f1 f3 f4 f5;obtain ⟨o,e,c,d⟩:=id st';exact ⟨u,rfl,Ea (s:={ s with heap:=h' }) e c d (by decide) ⟨x,H,I1,ru,⟨rfl,fun ys hy=>by rw [I.list_inj hy hq];exact hx⟩,st',fun b hb=>(hf b hb).1⟩⟩
 done:=by
   intro X hP hw hK hc i pins s σ H E I hf st hg;subst hP hw hK;obtain ⟨xs,hq,hx⟩:=hg;obtain ⟨its,rv,p,hz⟩:=I.list hq;obtain ⟨f0,f1,f2,f3,f4,f5⟩:=hf it (by simp);have hl:=rv.length;exact wpAny_pyNext_list_end (I.ok.hd hc) st p.isList (by simp;omega) fun h' eb=>⟨rfl,I.turned (t':=s.toks) (fun b o hb e=>eb b o hb e) f0 f1 f3 f4 f5⟩
 self:=fun _ _ _ _ _ st h=>wpAny_pyIter_listiter st h
theorem Ex {P:Program} {w:World} {K:PySem.W.Frag} {tg:Expr} (a it:Addr):Turn P w K tg (Itt K a) [it] it (fun i h=>h.IsTupleIter it a i) where
 mem:=by simp
 obj:=fun i h st b hb=>by
   have e:b=it:=by simpa using hb
   subst e;obtain ⟨o,e,c,d⟩:=st;exact ⟨o,e,fun v z=>by rw [d] at z;cases z⟩
 keep:=fun i h h' st k=>st.at fun o e=>k it (by simp) o e
 item:=by
   intro X hP hw hK hc i pins s σ H E I hf st hg;subst hP hw hK;obtain ⟨xs,x,hq,hx⟩:=hg;obtain ⟨its,rv,p,hz⟩:=I.tuple hq;obtain ⟨u,hu,ru⟩:=rv.get hx;obtain ⟨f0,f1,f2,f3,f4,f5⟩:=hf it (by simp);refine wpAny_pyNext_tuple_item st (show s.heap.IsTuple a its.toArray from p) (x:=u) (by simpa using hu) fun h' st' sb=>?_;have I1:Inv X pins σ H { s with heap:=h' }:=I.turned (t':=s.toks) (fun b o hb e=>(sb.2 b hb).trans e) f0 f1 f3 f4 f5;obtain ⟨o,e,c,d⟩:=id st';exact ⟨u,rfl,Ea (s:={ s with heap:=h' }) e c d (by decide) ⟨x,H,I1,ru,⟨rfl,fun ys hy=>by rw [I.tuple_inj hy hq];exact hx⟩,st',fun b hb=>(hf b hb).1⟩⟩
 done:=by
   intro X hP hw hK hc i pins s σ H E I hf st hg;subst hP hw hK;obtain ⟨xs,hq,hx⟩:=hg;obtain ⟨its,rv,p,hz⟩:=I.tuple hq;obtain ⟨f0,f1,f2,f3,f4,f5⟩:=hf it (by simp);have hl:=rv.length;exact wpAny_pyNext_tuple_end (I.ok.hd hc) st (show s.heap.IsTuple a its.toArray from p) (by simp;omega) fun h' eb=>⟨rfl,I.turned (t':=s.toks) (fun b o hb e=>eb b o hb e) f0 f1 f3 f4 f5⟩
 self:=fun _ _ _ _ _ st h=>wpAny_pyIter_tupleiter st h
theorem EM {P:Program} {w:World} {K:PySem.W.Frag} {tg:Expr} (it:Addr) (lo:Int) (n:Nat):Turn P w K tg (Itr lo n) [it] it (fun i h=>IsRangeIter h it (lo+(i:Nat)*1) ((n:Int) - (i:Nat)) 1) where
 mem:=by simp
 obj:=fun i h st b hb=>by
   have e:b=it:=by simpa using hb
   subst e;exact ⟨_,st,fun v z=>by
     have z':Data.fields _=Data.cell v:=z;cases z'⟩
 keep:=fun i h h' st k=>k it (by simp) _ st
 item:=by
   intro X hP hw hK hc i pins s σ H E I hf st hg;subst hP hw hK;obtain ⟨f0,f1,f2,f3,f4,f5⟩:=hf it (by simp);have W:=Walks.range (prog:=X.prog) (w:=X.w) (I.ok.hd hc) it lo 1 n;refine W.item i s _ _ hg st fun v h' tk hv st' kk=>?_;obtain ⟨t,rfl⟩:=hv;have I1:Inv X pins σ H { s with heap:=h',toks:=tk }:=I.turned (fun b o hb e=>kk b o (by simpa using hb) e) f0 f1 f3 f4 f5;refine ⟨_,rfl,Ea (s:={ s with heap:=h',toks:=tk }) (n:="range_iterator") st' rfl rfl (by decide) ⟨.int (lo+i),H,I1,⟨t,?_⟩,⟨rfl,rfl⟩,st',fun b hb=>(hf b hb).1⟩⟩;rw [Int.mul_one]
 done:=by
   intro X hP hw hK hc i pins s σ H E I hf st hg;subst hP hw hK;obtain ⟨f0,f1,f2,f3,f4,f5⟩:=hf it (by simp);exact wpAny_pyNext_range_end (I.ok.hd hc) st (by have:n<=i:=hg;omega) fun h' eb=>⟨rfl,I.turned (t':=s.toks) (fun b o hb e=>eb b o hb e) f0 f1 f3 f4 f5⟩
 self:=fun _ _ _ _ _ st h=>wpAny_pyIter_rangeiter st h
end L2
namespace L2
open PySem PySem.Spec PyProof.Rows
section
variable {X:Cx} {tg:Expr}
def Eh (K:PySem.W.Frag) (tl:TE):TI:=fun σ H R=>tl σ H fun x H1=>∃ a,x=.ref a/\(∃ xs,SqL K H1 a xs)/\R (Itl K a) H1
def G0 (K:PySem.W.Frag) (tl:TE):TI:=fun σ H R=>tl σ H fun x H1=>∃ a,x=.ref a/\(∃ xs,SqT K H1 a xs)/\R (Itt K a) H1
theorem tQ {l:Expr} {tl:TE} (hl:PE X l tl):PI X tg l (Eh X.K tl):=by
 intro pins s σ H R I h;refine bh (hl pins s σ H _ I h) fun v s1 x H1 I1 r1 q1=>?_;obtain ⟨a,e,⟨xs,hq⟩,q⟩:=q1;subst e;cases r1;obtain ⟨its,rv,p,hz⟩:=I1.list hq;refine wpAny_pyIter_list p.isList ?_;refine ⟨s1.heap.objs.size,[s1.heap.objs.size],_,_,H1,rfl,I1.kept (t':=s1.toks) fun b o e=>Heap.get?_push_of_some _ e,Gm a _,⟨_,Heap.get?_push_size _ rfl,rfl,rfl⟩,fun b hb=>?_,q⟩;have e:b=s1.heap.objs.size:=by simpa using hb
 subst e;exact I1.fpOk (Nat.le_refl _) (I1.hok.fresh (Nat.le_refl _))
theorem sU {l:Expr} {tl:TE} (hl:PE X l tl):PI X tg l (G0 X.K tl):=by
 intro pins s σ H R I h;refine bh (hl pins s σ H _ I h) fun v s1 x H1 I1 r1 q1=>?_;obtain ⟨a,e,⟨xs,hq⟩,q⟩:=q1;subst e;cases r1;obtain ⟨its,rv,p,hz⟩:=I1.tuple hq;refine wpAny_pyIter_tuple (show s1.heap.IsTuple a its.toArray from p) ?_;refine ⟨s1.heap.objs.size,[s1.heap.objs.size],_,_,H1,rfl,I1.kept (t':=s1.toks) fun b o e=>Heap.get?_push_of_some _ e,Ex a _,⟨_,Heap.get?_push_size _ rfl,rfl,rfl⟩,fun b hb=>?_,q⟩;have e:b=s1.heap.objs.size:=by simpa using hb
 subst e;exact I1.fpOk (Nat.le_refl _) (I1.hok.fresh (Nat.le_refl _))
theorem Bd {pins:List (Addr × Obj)} {σ:St} {H:Hp} {s:Shared} {R:It->Hp->Prop} {E:Value->Shared->Prop} {lo hi:Int} {t u v:Tok} {tk:Nat} (I:Inv X pins σ H s) (h1:-(2^62)<=lo) (h2:lo<2^62) (h3:-(2^62)<=hi) (h4:hi<2^62)
   (q:R (Itr lo (hi - lo).toNat) H):wpAny (model X.prog X.w) X.A (pyIter (.ref s.heap.objs.size)) (PIE X pins σ tg R) E { s with heap:=s.heap.push { cls:=.type "range",data:=.fields #[.int lo t,.int hi u,.int 1 v] },toks:=tk }:=by
 refine wpAny_pyIter_range (IsRange.new ..) (small_one h1 h2 h3 h4) ?_;have I1:Inv X pins σ H { s with heap:=s.heap.push { cls:=.type "range",data:=.fields #[.int lo t,.int hi u,.int 1 v] },toks:=tk }:=I.kept fun b o e=>Heap.get?_push_of_some _ e;refine ⟨(s.heap.push { cls:=.type "range",data:=.fields #[.int lo t,.int hi u,.int 1 v] }).objs.size,[(s.heap.push { cls:=.type "range",data:=.fields #[.int lo t,.int hi u,.int 1 v] }).objs.size],_,_,H,rfl,
   I1.kept (t':=tk) fun b o e=>Heap.get?_push_of_some _ e,EM _ lo (hi - lo).toNat,?_,fun b hb=>?_,q⟩
 . have e1:lo+((0:Nat):Int)*1=lo:=by simp
   have e2:(((hi - lo).toNat:Nat):Int) - ((0:Nat):Int)=Builtin.Range.rangeSize lo hi 1:=by rw [rangeSize_one];split <;> omega
   show IsRangeIter _ _ (lo+((0:Nat):Int)*1) ((((hi - lo).toNat:Nat):Int) - ((0:Nat):Int)) 1;rw [e1,e2];exact Heap.get?_push_size _ rfl
 . have e:b=(s.heap.push { cls:=.type "range",data:=.fields #[.int lo t,.int hi u,.int 1 v] }).objs.size:=by simpa using hb
   subst e;exact I1.fpOk (Nat.le_refl _) (I1.hok.fresh (Nat.le_refl _))
def DR (ta:TA):TI:=fun σ H R=>ta σ H fun vs H1=>∃ j:Int,vs=[.int j]/\-(2^62)<=j/\j<2^62/\R (Itr 0 j.toNat) H1
def DA (ta:TA):TI:=fun σ H R=>ta σ H fun vs H1=>∃ i j:Int,vs=[.int i,.int j]/\(-(2^62)<=i/\i<2^62/\-(2^62)<=j/\j<2^62)/\R (Itr i (j - i).toNat) H1
theorem yb {a:Expr} {ta:TA} {p pos:Pos} (hg:Gl X "range") (hm:X.mg "range"=none) (ha:PA X [a] ta) (hs:starEach [a] X.env=[(false,eval a X.env)]:=by rfl):PI X tg (.Call (.Name "range" p) [a] [] pos) (DR ta):=by
 intro pins s σ H R I h;refine Call_ (ms I hg hm boot_range (PyProof.Rows.callWith_type1 (lg (ha pos pins s σ H _ I h) fun us s1 vs H1 I1 r1 q1=>?_) hs rfl));obtain ⟨j,e,q1,q2,q⟩:=q1;subst e;cases r1 with
 | cons r rr =>
   cases rr;obtain ⟨t,rfl⟩:=r;exact call_range_1 (Bd I1 (by omega) (by omega) q1 q2 (by simpa using q))
theorem Fl {a b:Expr} {ta:TA} {p pos:Pos} (hg:Gl X "range") (hm:X.mg "range"=none) (ha:PA X [a,b] ta) (hs:starEach [a,b] X.env=[(false,eval a X.env),(false,eval b X.env)]:=by rfl) (hs2:starEach [b] X.env=[(false,eval b X.env)]:=by rfl) :
   PI X tg (.Call (.Name "range" p) [a,b] [] pos) (DA ta):=by
 intro pins s σ H R I h;refine Call_ (ms I hg hm boot_range (PyProof.Rows.callWith_type1 (lg (ha pos pins s σ H _ I h) fun us s1 vs H1 I1 r1 q1=>?_) (by rw [hs,hs2]) (by rw [hs2];rfl)));obtain ⟨i,j,e,⟨q1,q2,q3,q4⟩,q⟩:=q1;subst e;cases r1 with
 | cons r rr =>
   cases rr with
   | cons r' rr =>
     cases rr;obtain ⟨t,rfl⟩:=r;obtain ⟨t',rfl⟩:=r';exact call_range_2 (Bd I1 q1 q2 q3 q4 q)
def ME (wi:TI) (g:TG) (tb:TS):TS:=fun D σ H=>wi σ H fun J H1=>∃ W:Nat->Nat->St->Hp->Prop,(∃ m,W 0 m σ H1)/\∀ i m σ H,W i m σ H ->
 (J.stop i H/\D.nx σ H)\/(J.go i H/\∃ N:St->Hp->Prop,(∀ σ' H',N σ' H'->∃ m',m'<m/\W (i+1) m' σ' H')/\∀ x H',J.yld i H x H'->g x σ H' fun σ2 H2=>tb { D with nx:=N,ct:=N,bk:=D.nx } σ2 H2)
def sH (fp:List Addr) (h:Heap):List (Addr × Obj):=fp.filterMap fun b=>(h.get? b).map fun o=>(b,o)
theorem lM {fp:List Addr} {h:Heap} {b:Addr} {o:Obj} (hb:b∈fp) (e:h.get? b=some o):(b,o)∈sH fp h:=List.mem_filterMap.mpr ⟨b,hb,by rw [e];rfl⟩
theorem EW {fp:List Addr} {h:Heap} {p:Addr × Obj} (hp:p∈sH fp h):p.1∈fp/\h.get? p.1=some p.2:=by
 obtain ⟨b,hb,e⟩:=List.mem_filterMap.mp hp;cases q:h.get? b with
 | none=>rw [q] at e;cases e
 | some o =>
   rw [q] at e;have e':(b,o)=p:=Option.some.inj e;subst e';exact ⟨hb,q⟩
theorem Inv.pinned {pins:List (Addr × Obj)} {σ:St} {H:Hp} {s:Shared} {fp:List Addr} (I:Inv X pins σ H s) (hf:∀ b∈fp,iT X pins H b) (ho:∀ b∈fp,∃ o,s.heap.get? b=some o/\∀ v,o.data≠.cell v):Inv X (pins++sH fp s.heap) σ H s :=
 I.pins_of fun p hp=>(List.mem_append.mp hp).elim (fun z=>I.pin p (List.mem_append_right _ z)) fun z=>by
   obtain ⟨hb,e⟩:=EW z;obtain ⟨f0,f1,f2,_⟩:=hf p.1 hb;obtain ⟨o,e',d⟩:=ho p.1 hb;rw [e] at e';cases e';exact ⟨e,f0,f1,f2,d⟩
theorem Inv.unpinned {pins pl:List (Addr × Obj)} {σ:St} {H:Hp} {s:Shared} (I:Inv X (pins++pl) σ H s):Inv X pins σ H s:=I.pins_of fun p hp=>I.pin p (List.mem_append_right _ (List.mem_append_left _ hp))
theorem gn {iter:Expr} {body:List Stmt} {wi:TI} {g:TG} {tb:TS} {pos:Pos} (hp:PassesOwn (model X.prog X.w) X.A X.env X.xe) (hc:X.calm=true) (hi:PI X tg iter wi) (hg:PG X tg g) (hb:PSs X body tb)
   (hs:∀ x,foldedSetIterable iter X.env x=pure x:=by intro _;rfl):PS X (.For tg iter body [] pos) (ME wi g tb):=by
 intro pins s σ H D I h;refine wpAny_For (thn (hi pins s σ H _ I h) fun v s1 h1=>thn h1 fun itv s2 h2=>?_) hs;obtain ⟨it,fp,tn,J,H2,e,I2,T,st2,f2,W,⟨m0,w0⟩,turn⟩:=h2;subst e;have stat:∀ {H':Hp},(∀ b∈fp,H' b=none)->∀ b∈fp,iT X pins H' b:=fun hn b hb=>⟨hn b hb,(f2 b hb).2⟩;refine codeAny_forLoop_any (fun n s'=>∃ i σ' H',Inv X pins σ' H' s'/\tn i s'.heap/\(∀ b∈fp,H' b=none)/\W i n σ' H') ?_ m0 ⟨0,σ,H2,I2,st2,fun b hb=>(f2 b hb).1,w0⟩;rintro n s3 ⟨i,σ3,H3,I3,st3,fr3,w3⟩;rcases turn i n σ3 H3 w3 with ⟨stop,qn⟩|⟨go,N,hN,step⟩
 . refine wpAny_passesOwn hp (thn (T.done X rfl rfl rfl hc i pins s3 σ3 H3 X.xe I3 (stat fr3) st3 stop) fun r s4 ⟨hr,I4⟩=>?_);subst hr;exact wpAny_execs_nil ⟨σ3,H3,I4,qn⟩
 . refine wpAny_passesOwn hp (thn (T.item X rfl rfl rfl hc i pins s3 σ3 H3 X.xe I3 (stat fr3) st3 go) fun r s4 ⟨u,hr,h4⟩=>?_);subst hr;refine wpAny_passesOwn hp (thn h4 fun _ s5 ⟨x,H5,I5,r5,y5,st5,fr5⟩=>?_);have I5':=I5.pinned (stat fr5) (T.obj _ _ st5);refine wpAny_passesOwn hp (thn (hg _ s5 σ3 H5 x u _ I5' r5 (step x H5 y5)) fun _ s6 ⟨σ6,H6,I6,q6⟩=>?_);refine wpAny_passesOwn hp (thn (hb _ s6 σ6 H6 _ I6 q6) fun f s7 q7=>?_);have again:∀ {σ7:St} {H7:Hp},Inv X (pins++sH fp s5.heap) σ7 H7 s7->N σ7 H7->∃ m,m<n/\∃ i σ' H',Inv X pins σ' H' s7/\tn i s7.heap/\(∀ b∈fp,H' b=none)/\W i m σ' H':=fun {σ7 H7} I7 n7=>by
     obtain ⟨m',hm,w7⟩:=hN σ7 H7 n7;refine ⟨m',hm,i+1,σ7,H7,I7.unpinned,T.keep _ _ _ st5 fun b hb o e=>(I7.pin (b,o) (List.mem_append_right _ (List.mem_append_right _ (lM hb e)))).1,fun b hb=>?_,w7⟩;obtain ⟨o,e,d⟩:=T.obj _ _ st5 b hb;exact (I7.pin (b,o) (List.mem_append_right _ (List.mem_append_right _ (lM hb e)))).2.1
   cases f with
   | next=>obtain ⟨σ7,H7,I7,n7⟩:=q7;exact again I7 n7
   | cont=>obtain ⟨σ7,H7,I7,n7⟩:=q7;exact again I7 n7
   | brk=>obtain ⟨σ7,H7,I7,q7⟩:=q7;exact ⟨σ7,H7,I7.unpinned,q7⟩
   | ret v=>obtain ⟨x7,σ7,H7,I7,r7,q7⟩:=q7;exact ⟨x7,σ7,H7,I7.unpinned,r7,q7⟩
end
theorem HZ {K:PySem.W.Frag} {a:Addr} {xs:List V} {g:TG} {tb:TS} {D:Ends} {σ:St} {H:Hp} (Pv:Nat->St->Hp->Prop) (h0:Pv 0 σ H) (hl:∀ i σ H,i<=xs.length->Pv i σ H->SqL K H a xs)
   (hs:∀ i x σ H,xs[i]?=some x->Pv i σ H->g x σ H fun σ2 H2=>tb { D with nx:=Pv (i+1),ct:=Pv (i+1),bk:=D.nx } σ2 H2) (hd:∀ σ H,Pv xs.length σ H->D.nx σ H) :
   ∃ W:Nat->Nat->St->Hp->Prop,(∃ m,W 0 m σ H)/\∀ i m σ H,W i m σ H ->
     ((Itl K a).stop i H/\D.nx σ H)\/((Itl K a).go i H/\∃ N:St->Hp->Prop,(∀ σ' H',N σ' H'->∃ m',m'<m/\W (i+1) m' σ' H')/\∀ x H',(Itl K a).yld i H x H'->g x σ H' fun σ2 H2=>tb { D with nx:=N,ct:=N,bk:=D.nx } σ2 H2):=by
 refine ⟨fun i m σ H=>m=xs.length - i/\i<=xs.length/\Pv i σ H,⟨xs.length,by simp,Nat.zero_le _,h0⟩,?_⟩;rintro i m σ H ⟨rfl,hi,p⟩;have q:=hl i σ H hi p;by_cases hlt:i<xs.length
 . refine .inr ⟨⟨xs,xs[i],q,by simp [hlt]⟩,Pv (i+1),fun σ' H' p'=>⟨xs.length - (i+1),by omega,rfl,hlt,p'⟩,fun x H' y=>?_⟩;obtain ⟨e,y⟩:=y;subst e;exact hs i x σ _ (y xs q) p
 . have e:i=xs.length:=by omega
   subst e;exact .inl ⟨⟨xs,q,Nat.le_refl _⟩,hd σ H p⟩
theorem wD {K:PySem.W.Frag} {a:Addr} {xs:List V} {g:TG} {tb:TS} {D:Ends} {σ:St} {H:Hp} (Pv:Nat->St->Hp->Prop) (h0:Pv 0 σ H) (hl:∀ i σ H,i<=xs.length->Pv i σ H->SqT K H a xs)
   (hs:∀ i x σ H,xs[i]?=some x->Pv i σ H->g x σ H fun σ2 H2=>tb { D with nx:=Pv (i+1),ct:=Pv (i+1),bk:=D.nx } σ2 H2) (hd:∀ σ H,Pv xs.length σ H->D.nx σ H) :
   ∃ W:Nat->Nat->St->Hp->Prop,(∃ m,W 0 m σ H)/\∀ i m σ H,W i m σ H ->
     ((Itt K a).stop i H/\D.nx σ H)\/((Itt K a).go i H/\∃ N:St->Hp->Prop,(∀ σ' H',N σ' H'->∃ m',m'<m/\W (i+1) m' σ' H')/\∀ x H',(Itt K a).yld i H x H'->g x σ H' fun σ2 H2=>tb { D with nx:=N,ct:=N,bk:=D.nx } σ2 H2):=by
 refine ⟨fun i m σ H=>m=xs.length - i/\i<=xs.length/\Pv i σ H,⟨xs.length,by simp,Nat.zero_le _,h0⟩,?_⟩;rintro i m σ H ⟨rfl,hi,p⟩;have q:=hl i σ H hi p;by_cases hlt:i<xs.length
 . refine .inr ⟨⟨xs,xs[i],q,by simp [hlt]⟩,Pv (i+1),fun σ' H' p'=>⟨xs.length - (i+1),by omega,rfl,hlt,p'⟩,fun x H' y=>?_⟩;obtain ⟨e,y⟩:=y;subst e;exact hs i x σ _ (y xs q) p
 . have e:i=xs.length:=by omega
   subst e;exact .inl ⟨⟨xs,q,Nat.le_refl _⟩,hd σ H p⟩
theorem Fm {lo:Int} {n:Nat} {g:TG} {tb:TS} {D:Ends} {σ:St} {H:Hp} (Pv:Nat->St->Hp->Prop) (h0:Pv 0 σ H)
   (hs:∀ i σ H,i<n->Pv i σ H->g (.int (lo+i)) σ H fun σ2 H2=>tb { D with nx:=Pv (i+1),ct:=Pv (i+1),bk:=D.nx } σ2 H2) (hd:∀ σ H,Pv n σ H->D.nx σ H) :
   ∃ W:Nat->Nat->St->Hp->Prop,(∃ m,W 0 m σ H)/\∀ i m σ H,W i m σ H ->
     ((Itr lo n).stop i H/\D.nx σ H)\/((Itr lo n).go i H/\∃ N:St->Hp->Prop,(∀ σ' H',N σ' H'->∃ m',m'<m/\W (i+1) m' σ' H')/\∀ x H',(Itr lo n).yld i H x H'->g x σ H' fun σ2 H2=>tb { D with nx:=N,ct:=N,bk:=D.nx } σ2 H2):=by
 refine ⟨fun i m σ H=>m=n - i/\i<=n/\Pv i σ H,⟨n,by simp,Nat.zero_le _,h0⟩,?_⟩;rintro i m σ H ⟨rfl,hi,p⟩;by_cases hlt:i<n
 . refine .inr ⟨hlt,Pv (i+1),fun σ' H' p'=>⟨n - (i+1),by omega,rfl,hlt,p'⟩,fun x H' y=>?_⟩;obtain ⟨e,y⟩:=y;subst e y;exact hs i σ _ hlt p
 . have e:i=n:=by omega
   subst e;exact .inl ⟨Nat.le_refl _,hd σ H p⟩
end L2
namespace L2
open PySem PySem.Spec PyProof.Rows
abbrev R2:=V->V->Hp->VK->Prop
def OpR (X:Cx) (f:Value->Value->Sem Value) (r:R2):Prop :=
 ∀ (pins:List (Addr × Obj)) (s:Shared) (σ:St) (H:Hp) (x y:V) (v u:Value) (Q:VK),Inv X pins σ H s->RelV x v->RelV y u->r x y H Q ->
   wpAny (model X.prog X.w) X.A (f v u) (EP X pins σ Q) X.xe s
def UnR (X:Cx) (f:Value->Sem Value) (r:V->Hp->VK->Prop):Prop :=
 ∀ (pins:List (Addr × Obj)) (s:Shared) (σ:St) (H:Hp) (x:V) (v:Value) (Q:VK),Inv X pins σ H s->RelV x v->r x H Q ->
   wpAny (model X.prog X.w) X.A (f v) (EP X pins σ Q) X.xe s
def kb (X:Cx) (f:Value) (r:List V->Hp->VK->Prop):Prop :=
 ∀ (pins:List (Addr × Obj)) (s:Shared) (σ:St) (H:Hp) (xs:List V) (us:List Value) (Q:VK),Inv X pins σ H s->Vals xs us->r xs H Q ->
   wpAny (model X.prog X.w) X.A (call f us) (EP X pins σ Q) X.xe s
def Nh (X:Cx) (r:V->Hp->(Bool->Hp->Prop)->Prop):Prop :=
 ∀ (pins:List (Addr × Obj)) (s:Shared) (σ:St) (H:Hp) (x:V) (v:Value) (Q:Bool->Hp->Prop),Inv X pins σ H s->RelV x v->r x H Q ->
   wpAny (model X.prog X.w) X.A (truthy v) (TP X pins σ Q) X.xe s
def tOp (r:R2) (ta tb:TE):TE:=fun σ H Q=>ta σ H fun x H1=>tb σ H1 fun y H2=>r x y H2 Q
def tUn (r:V->Hp->VK->Prop) (ta:TE):TE:=fun σ H Q=>ta σ H fun x H1=>r x H1 Q
def rI (C:Int->Int->Prop) (g:Int->Int->V):R2:=fun x y H Q=>∃ i j,x=.int i/\y=.int j/\C i j/\Q (g i j) H
def rI0 (g:Int->Int->V):R2:=fun x y H Q=>∃ i j,x=.int i/\y=.int j/\Q (g i j) H
def rU (g:Int->V):V->Hp->VK->Prop:=fun x H Q=>∃ i,x=.int i/\Q (g i) H
section
variable {X:Cx} {a b c:Expr} {ta tb tc:TE} {pos:Pos}
theorem Hi (ha:PE X a ta) (hb:PE X b tb) {pins:List (Addr × Obj)} {s:Shared} {σ:St} {H:Hp} {R:V->V->Hp->Prop} (I:Inv X pins σ H s)
   (h:ta σ H fun x H1=>tb σ H1 fun y H2=>R x y H2) {Q:Value->Shared->Prop} {f:Value->Value->Sem Value}
   (hf:∀ v u s2 x y H2,Inv X pins σ H2 s2->RelV x v->RelV y u->R x y H2->wpAny (model X.prog X.w) X.A (f v u) Q X.xe s2) :
   wpAny (model X.prog X.w) X.A (eval a X.env) (fun v s₁=>wpAny (model X.prog X.w) X.A (eval b X.env) (fun u s₂=>wpAny (model X.prog X.w) X.A (f v u) Q X.xe s₂) X.xe s₁) X.xe s:=by
 refine bh (ha pins s σ H _ I h) fun v s1 x H1 I1 r1 q1=>?_;refine bh (hb pins s1 σ H1 _ I1 q1) fun u s2 y H2 I2 r2 q2=>?_;exact hf v u s2 x y H2 I2 r1 r2 q2
theorem am {op:Operator} {r:R2} (ho:OpR X (binaryOp op) r) (ha:PE X a ta) (hb:PE X b tb):PE X (.BinOp a op b pos) (tOp r ta tb):=by
 intro pins s σ H Q I h;exact wpAny_BinOp (Hi ha hb I h fun v u s2 x y H2 I2 rx ry q=>ho pins s2 σ H2 x y v u Q I2 rx ry q)
theorem lN {op:UnaryOp} {r:V->Hp->VK->Prop} (ho:UnR X (unaryOp op) r) (ha:PE X a ta):PE X (.UnaryOp op a pos) (tUn r ta):=by
 intro pins s σ H Q I h;exact UnaryOp_ (bh (ha pins s σ H _ I h) fun v s1 x H1 I1 r1 q1=>ho pins s1 σ H1 x v Q I1 r1 q1)
theorem opI {f:Value->Value->Sem Value} {C:Int->Int->Prop} {g:Int->Int->Int}
   (rule:∀ (i j:Int) (t u:Tok) (s:Shared) (Q:Value->Shared->Prop) (E:Value->Shared->Prop),C i j->Q (.int (g i j) s.toks) { s with toks:=s.toks+1 }->wpAny (model X.prog X.w) X.A (f (.int i t) (.int j u)) Q E s) :
   OpR X f (rI C fun i j=>.int (g i j)):=by
 intro pins s σ H x y v u Q I rx ry h;obtain ⟨i,j,rfl,rfl,hc,q⟩:=h;obtain ⟨t,rfl⟩:=rx;obtain ⟨t',rfl⟩:=ry;exact rule i j t t' s _ _ hc ⟨.int (g i j),H,I.tok _,⟨_,rfl⟩,q⟩
theorem L3 {f:Value->Value->Sem Value} {g:Int->Int->Int}
   (rule:∀ (i j:Int) (t u:Tok) (s:Shared) (Q:Value->Shared->Prop) (E:Value->Shared->Prop),Q (.int (g i j) s.toks) { s with toks:=s.toks+1 }->wpAny (model X.prog X.w) X.A (f (.int i t) (.int j u)) Q E s) :
   OpR X f (rI0 fun i j=>.int (g i j)):=by
 intro pins s σ H x y v u Q I rx ry h;obtain ⟨i,j,rfl,rfl,q⟩:=h;obtain ⟨t,rfl⟩:=rx;obtain ⟨t',rfl⟩:=ry;exact rule i j t t' s _ _ ⟨.int (g i j),H,I.tok _,⟨_,rfl⟩,q⟩
theorem Ek {f:Value->Value->Sem Value} {g:Int->Int->Bool}
   (rule:∀ (i j:Int) (t u:Tok) (s:Shared) (Q:Value->Shared->Prop) (E:Value->Shared->Prop),Q (.bool (g i j)) s->wpAny (model X.prog X.w) X.A (f (.int i t) (.int j u)) Q E s) :
   OpR X f (rI0 fun i j=>.bl (g i j)):=by
 intro pins s σ H x y v u Q I rx ry h;obtain ⟨i,j,rfl,rfl,q⟩:=h;obtain ⟨t,rfl⟩:=rx;obtain ⟨t',rfl⟩:=ry;exact rule i j t t' s _ _ ⟨.bl (g i j),H,I,rfl,q⟩
def u6 (i j:Int):Prop:=0<j/\j<1073741824
def MW (i j:Int):Prop:=0<=j/\j<=1000000/\i.natAbs<2^64
def CMul (i j:Int):Prop:=(-(2^64)<i/\i<2^64)\/(-(2^64)<j/\j<2^64)
theorem CMul.ok {i j:Int} (h:CMul i j):IntMulOk i j:=by
 rcases h with ⟨h1,h2⟩|⟨h1,h2⟩
 . exact .of_left (intBits_le_64 h1 h2)
 . exact .of_right (intBits_le_64 h1 h2)
theorem cN:OpR X (binaryOp .Add) (rI0 fun i j=>.int (i+j)):=L3 fun _ _ _ _ _ _ _ q=>add_int q
theorem kK:OpR X (binaryOp .Sub) (rI0 fun i j=>.int (i - j)):=L3 fun _ _ _ _ _ _ _ q=>sub_int q
theorem kG:OpR X (binaryOp .Mult) (rI CMul fun i j=>.int (i*j)):=opI fun _ _ _ _ _ _ _ hc q=>mul_int q hc.ok
theorem bE:OpR X (binaryOp .FloorDiv) (rI u6 fun i j=>.int (i / j)):=opI fun i j _ _ _ _ _ hc q=>by
 have h1:(0:Int)<j:=hc.1;have h2:j<1073741824:=hc.2;exact floordiv_int (by omega) (by rw [Int.fdiv_eq_ediv_of_nonneg i (by omega)];exact q) (.inl (PyProof.noPylong_small (by omega)))
theorem aW:OpR X (binaryOp .Mod) (rI (fun _ j=>0<j) fun i j=>.int (i % j)):=opI fun i j _ _ _ _ _ hc q=>by
 have h1:(0:Int)<j:=hc;exact mod_int' (by omega) (by rw [Int.fmod_eq_emod_of_nonneg i (by omega)];exact q)
theorem A3:OpR X (binaryOp .Pow) (rI MW fun i j=>.int (i^j.toNat)):=opI fun _ _ _ _ _ _ _ hc q=>pow_int_small hc.1 hc.2.1 hc.2.2 q
theorem unI {f:Value->Sem Value} {g:Int->Int}
   (rule:∀ (i:Int) (t:Tok) (s:Shared) (Q:Value->Shared->Prop) (E:Value->Shared->Prop),Q (.int (g i) s.toks) { s with toks:=s.toks+1 }->wpAny (model X.prog X.w) X.A (f (.int i t)) Q E s) :
   UnR X f (rU fun i=>.int (g i)):=by
 intro pins s σ H x v Q I rx h;obtain ⟨i,rfl,q⟩:=h;obtain ⟨t,rfl⟩:=rx;exact rule i t s _ _ ⟨.int (g i),H,I.tok _,⟨_,rfl⟩,q⟩
theorem jq:UnR X (unaryOp .USub) (rU fun i=>.int (-i)):=unI fun _ _ _ _ _ q=>neg_int q
end
def rE:V->V->Bool
 | .non,.non=>true|.non,.int _=>true|.int _,.non=>true|.non,.bl _=>true|.bl _,.non=>true|.non,.str _=>true|.str _,.non=>true
 | .int _,.int _=>true|.bl _,.bl _=>true|.str _,.str _=>true|.byt _,.byt _=>true
 | .int _,.str _=>true|.str _,.int _=>true|.bl _,.str _=>true|.str _,.bl _=>true
 | _,_=>false
def rEq:R2:=fun x y H Q=>rE x y=true/\Q (.bl (decide (x=y))) H
def rNe:R2:=fun x y H Q=>rE x y=true/\Q (.bl (!decide (x=y))) H
theorem Dj {i j:Int}:decide (V.int i=V.int j)=(i == j):=by
 rw [Bool.eq_iff_iff];simp
theorem FT {i j:Bool}:decide (V.bl i=V.bl j)=(i == j):=by
 rw [Bool.eq_iff_iff];simp
theorem Di {i j:Str}:decide (V.str i=V.str j)=(i == j):=by
 rw [Bool.eq_iff_iff];simp
theorem Dg {i j:Array UInt8}:decide (V.byt i=V.byt j)=(i.toList == j.toList):=by
 rw [Bool.eq_iff_iff];cases i;cases j;simp
section
variable {X:Cx} {a b c:Expr} {ta tb tc:TE} {pos:Pos}
theorem bi {pins:List (Addr × Obj)} {σ:St} {H:Hp} {s:Shared} {Q:VK} {k k':Bool} (I:Inv X pins σ H s) (q:Q (.bl k) H) (e:k=k'):EP X pins σ Q (.bool k') s:=by
 subst e;exact ⟨.bl k,H,I,rfl,q⟩
theorem bR:OpR X (compareOp .Eq) rEq:=by
 intro pins s σ H x y v u Q I rx ry h;obtain ⟨hs,q⟩:=h;cases x with
 | non =>
   cases rx;cases y with
   | non=>cases ry;exact PySem.EqNone.eq_none_none (bi I q (by simp))
   | bl j=>cases ry;exact PySem.EqNone.eq_none_bool (bi I q (by simp))
   | int j=>obtain ⟨t',rfl⟩:=ry;exact PySem.EqNone.eq_none_int (bi I q (by simp))
   | str j=>obtain ⟨t',rfl⟩:=ry;exact PySem.EqNone.eq_none_str (bi I q (by simp))
   | _=>exact absurd (show false=true from hs) Bool.false_ne_true
 | bl i =>
   cases rx;cases y with
   | non=>cases ry;exact PySem.EqNone.eq_bool_none (bi I q (by simp))
   | bl j=>cases ry;exact eq_bool (bi I q FT)
   | str j=>obtain ⟨t',rfl⟩:=ry;exact PySem.EqMixed.eq_bool_str (bi I q (by simp))
   | _=>exact absurd (show false=true from hs) Bool.false_ne_true
 | int i =>
   obtain ⟨t,rfl⟩:=rx;cases y with
   | non=>cases ry;exact PySem.EqNone.eq_int_none (bi I q (by simp))
   | int j=>obtain ⟨t',rfl⟩:=ry;exact eq_int (bi I q Dj)
   | str j=>obtain ⟨t',rfl⟩:=ry;exact PySem.EqMixed.eq_int_str (bi I q (by simp))
   | _=>exact absurd (show false=true from hs) Bool.false_ne_true
 | str i =>
   obtain ⟨t,rfl⟩:=rx;cases y with
   | non=>cases ry;exact PySem.EqNone.eq_str_none (bi I q (by simp))
   | bl j=>cases ry;exact PySem.EqMixed.eq_str_bool (bi I q (by simp))
   | int j=>obtain ⟨t',rfl⟩:=ry;exact PySem.EqMixed.eq_str_int (bi I q (by simp))
   | str j=>obtain ⟨t',rfl⟩:=ry;exact eq_str (bi I q Di)
   | _=>exact absurd (show false=true from hs) Bool.false_ne_true
 | byt i =>
   obtain ⟨t,rfl⟩:=rx;cases y with
   | byt j=>obtain ⟨t',rfl⟩:=ry;exact PySem.W.eq_bytes (bi I q Dg)
   | _=>exact absurd (show false=true from hs) Bool.false_ne_true
 | _=>cases y <;> exact absurd (show false=true from hs) Bool.false_ne_true
theorem wu:OpR X (compareOp .NotEq) rNe:=by
 intro pins s σ H x y v u Q I rx ry h;obtain ⟨hs,q⟩:=h;cases x with
 | non =>
   cases rx;cases y with
   | non=>cases ry;exact PySem.EqNone.ne_none_none (bi I q (by simp))
   | bl j=>cases ry;exact PySem.EqNone.ne_none_bool (bi I q (by simp))
   | int j=>obtain ⟨t',rfl⟩:=ry;exact PySem.EqNone.ne_none_int (bi I q (by simp))
   | str j=>obtain ⟨t',rfl⟩:=ry;exact PySem.EqNone.ne_none_str (bi I q (by simp))
   | _=>exact absurd (show false=true from hs) Bool.false_ne_true
 | bl i =>
   cases rx;cases y with
   | non=>cases ry;exact PySem.EqNone.ne_bool_none (bi I q (by simp))
   | bl j=>cases ry;exact ne_bool (bi I q (congrArg not FT))
   | str j=>obtain ⟨t',rfl⟩:=ry;exact PySem.EqMixed.ne_bool_str (bi I q (by simp))
   | _=>exact absurd (show false=true from hs) Bool.false_ne_true
 | int i =>
   obtain ⟨t,rfl⟩:=rx;cases y with
   | non=>cases ry;exact PySem.EqNone.ne_int_none (bi I q (by simp))
   | int j=>obtain ⟨t',rfl⟩:=ry;exact ne_int (bi I q (congrArg not Dj))
   | str j=>obtain ⟨t',rfl⟩:=ry;exact PySem.EqMixed.ne_int_str (bi I q (by simp))
   | _=>exact absurd (show false=true from hs) Bool.false_ne_true
 | str i =>
   obtain ⟨t,rfl⟩:=rx;cases y with
   | non=>cases ry;exact PySem.EqNone.ne_str_none (bi I q (by simp))
   | bl j=>cases ry;exact PySem.EqMixed.ne_str_bool (bi I q (by simp))
   | int j=>obtain ⟨t',rfl⟩:=ry;exact PySem.EqMixed.ne_str_int (bi I q (by simp))
   | str j=>obtain ⟨t',rfl⟩:=ry;exact ne_str (bi I q (congrArg not Di))
   | _=>exact absurd (show false=true from hs) Bool.false_ne_true
 | byt i =>
   obtain ⟨t,rfl⟩:=rx;cases y with
   | byt j=>obtain ⟨t',rfl⟩:=ry;exact PySem.W.ne_bytes (bi I q (congrArg not Dg))
   | _=>exact absurd (show false=true from hs) Bool.false_ne_true
 | _=>cases y <;> exact absurd (show false=true from hs) Bool.false_ne_true
theorem zB:OpR X (compareOp .Lt) (rI0 fun i j=>.bl (decide (i<j))):=Ek fun _ _ _ _ _ _ _ q=>lt_int q
theorem ww:OpR X (compareOp .LtE) (rI0 fun i j=>.bl (decide (i<=j))):=Ek fun _ _ _ _ _ _ _ q=>le_int q
theorem EB:OpR X (compareOp .Gt) (rI0 fun i j=>.bl (decide (j<i))):=Ek fun _ _ _ _ _ _ _ q=>gt_int q
theorem ED:OpR X (compareOp .GtE) (rI0 fun i j=>.bl (decide (j<=i))):=Ek fun _ _ _ _ _ _ _ q=>ge_int q
theorem aG (b:Expr) {op:CmpOp} (h:op≠.In:=by decide) (h2:op≠.NotIn:=by decide):behindInMarks op b=false:=by
 have e1:(op == CmpOp.In)=false:=by cases op <;> first|rfl|exact absurd rfl h
 have e2:(op == CmpOp.NotIn)=false:=by cases op <;> first|rfl|exact absurd rfl h2
 cases b <;> simp [behindInMarks,e1,e2]
theorem lQ {op:CmpOp} {r:R2} (ho:OpR X (compareOp op) r) (ha:PE X a ta) (hb:PE X b tb) (hm:behindInMarks op b=false):PE X (.Compare a [op] [b] pos) (tOp r ta tb):=by
 intro pins s σ H Q I h;exact wpAny_Compare1 (Hi ha hb I h fun v u s2 x y H2 I2 rx ry q=>ho pins s2 σ H2 x y v u Q I2 rx ry q) hm
def zA (t:TE):TT:=fun σ H Q=>t σ H fun x H'=>∃ k,x=.bl k/\Q k H'
theorem aE {op:CmpOp} {r:R2} (ho:OpR X (compareOp op) r) (ha:PE X a ta) (hb:PE X b tb) (hm:behindInMarks op b=false):PT X (.Compare a [op] [b] pos) (zA (tOp r ta tb)):=by
 intro pins s σ H Q I h;refine wpAny_isTrue_Compare1 (bh (ha pins s σ H _ I h) fun v s1 x H1 I1 r1 q1=>bh (hb pins s1 σ H1 _ I1 q1) fun u s2 y H2 I2 r2 q2 =>
   bh (ho pins s2 σ H2 x y v u _ I2 r1 r2 q2) fun c s3 z H3 I3 r3 ⟨k,e,q3⟩=>?_) hm
 subst e;cases r3;exact wpAny_truthy_bool ⟨H3,I3,q3⟩
def vT (r r':R2) (ta tb tc:TE):TE:=fun σ H Q=>ta σ H fun x H1=>tb σ H1 fun y H2=>r x y H2 fun z H3=>∃ k,z=.bl k /\
 (if k=true then tc σ H3 fun w' H4=>r' y w' H4 Q else Q (.bl false) H3)
theorem HL {op op':CmpOp} {r r':R2} (ho:OpR X (compareOp op) r) (ho':OpR X (compareOp op') r') (ha:PE X a ta) (hb:PE X b tb) (hc:PE X c tc)
   (hm:lastMarks [op,op'] [b,c]=false:=by with_unfolding_all rfl):PE X (.Compare a [op,op'] [b,c] pos) (vT r r' ta tb tc):=by
 intro pins s σ H Q I h;refine Compare_chain (bh (ha pins s σ H _ I h) fun v s1 x H1 I1 r1 q1=>chain_link (bh (hb pins s1 σ H1 _ I1 q1) fun u s2 y H2 I2 r2 q2 =>
   bh (ho pins s2 σ H2 x y v u _ I2 r1 r2 q2) fun d s3 z H3 I3 r3 ⟨k,e,q3⟩=>?_)) hm
 subst e;cases r3;refine wpAny_truthy_bool ?_;cases k with
 | false=>exact ite_ff ⟨.bl false,H3,I3,rfl,q3⟩
 | true=>exact ite_tt (chain_last (thn (hc pins s3 σ H3 _ I3 q3) fun w' s4 ⟨z',H4,I4,r4,q4⟩=>ho' pins s4 σ H4 y z' u w' Q I4 r2 r4 q4))
theorem AR {op op':CmpOp} {r r':R2} (ho:OpR X (compareOp op) r) (ho':OpR X (compareOp op') r') (ha:PE X a ta) (hb:PE X b tb) (hc:PE X c tc)
   (hm:lastMarks [op,op'] [b,c]=false:=by with_unfolding_all rfl):PT X (.Compare a [op,op'] [b,c] pos) (zA (vT r r' ta tb tc)):=by
 intro pins s σ H Q I h;refine isTrue_chain (bh (ha pins s σ H _ I h) fun v s1 x H1 I1 r1 q1=>test_link (bh (hb pins s1 σ H1 _ I1 q1) fun u s2 y H2 I2 r2 q2 =>
   bh (ho pins s2 σ H2 x y v u _ I2 r1 r2 q2) fun d s3 z H3 I3 r3 ⟨k,e,q3⟩=>?_)) hm
 subst e;cases r3;refine wpAny_truthy_bool ?_;cases k with
 | false =>
   obtain ⟨k',e',q'⟩:=q3;cases e';exact ite_ff ⟨H3,I3,q'⟩
 | true =>
   refine ite_tt (test_last (thn (hc pins s3 σ H3 _ I3 q3) fun w' s4 ⟨z',H4,I4,r4,q4⟩=>thn (ho' pins s4 σ H4 y z' u w' _ I4 r2 r4 q4) fun d' s5 ⟨z2,H5,I5,r5,k2,e2,q5⟩=>?_));subst e2;cases r5;exact wpAny_truthy_bool ⟨H5,I5,q5⟩
def L7 (K:PySem.W.Frag) (x:V) (H:Hp) (k:Bool):Prop :=
 match x with
 | .non=>k=false
 | .bl b=>k=b
 | .int i=>k=(i != 0)
 | .str y=>y.length<=sizeLine/\k=((y.length:Int) != 0)
 | .byt y=>y.size<=sizeLine/\k=((y.size:Int) != 0)
 | .ref p=>(∃ xs,SqL K H p xs/\k=!xs.isEmpty)\/(∃ xs,SqT K H p xs/\k=!xs.isEmpty)\/∃ kvs,H p=some (.dK kvs)/\k=!kvs.isEmpty
 | _=>False
theorem D5 {κ:Type} {kvs:List (κ × V)} {vs:List (κ × Value)} (r:KV kvs vs):(!vs.isEmpty)=!kvs.isEmpty:=by
 cases r <;> rfl
theorem vX {xs:List V} {its:List Value} (r:Vals xs its):(!its.toArray.isEmpty)=!xs.isEmpty:=by
 cases r <;> simp
theorem lV:(sizeLine:Nat)<2^63:=by rw [sizeLine_eq];decide
theorem MH:Nh X (fun x H Q=>∃ k,L7 X.K x H k/\Q k H):=by
 intro pins s σ H x v Q I rx h;obtain ⟨k,e,q⟩:=h;have hl:=lV;have hs:sizeLine=16777216:=sizeLine_eq;cases x with
 | non =>
   cases rx;have e':k=false:=e;subst e';exact truthy_none ⟨H,I,q⟩
 | bl b =>
   cases rx;have e':k=b:=e;subst e';exact wpAny_truthy_bool ⟨H,I,q⟩
 | int i =>
   obtain ⟨t,rfl⟩:=rx;have e':k=(i != 0):=e;subst e';exact PySem.P.truthy_int ⟨H,I,q⟩
 | str y =>
   obtain ⟨t,rfl⟩:=rx;obtain ⟨hy,e'⟩:y.length<=sizeLine/\k=((y.length:Int) != 0):=e;subst e';exact PySem.P.truthy_str (by omega) ⟨H,I.tok _,q⟩
 | byt y =>
   obtain ⟨t,rfl⟩:=rx;obtain ⟨hy,e'⟩:y.size<=sizeLine/\k=((y.size:Int) != 0):=e;subst e';exact PySem.W.truthy_bytes (by omega) ⟨H,I.tok _,q⟩
 | ref p =>
   cases rx;have e':(∃ xs,SqL X.K H p xs/\k=!xs.isEmpty)\/(∃ xs,SqT X.K H p xs/\k=!xs.isEmpty)\/∃ kvs,H p=some (.dK kvs)/\k=!kvs.isEmpty:=e;rcases e' with ⟨xs,hx,e'⟩|⟨xs,hx,e'⟩|⟨kvs,hx,e'⟩
   . subst e';obtain ⟨its,r,pl,hz⟩:=I.list hx;have hlen:=r.length;exact wpAny_truthy_list pl.isList (by simp only [List.size_toArray];omega) ⟨H,I.tok _,by rw [vX r];exact q⟩
   . subst e';obtain ⟨its,r,pl,hz⟩:=I.tuple hx;have hlen:=r.length;exact truthy_tuple pl (by simp only [List.size_toArray];omega) ⟨H,I.tok _,by rw [vX r];exact q⟩
   . subst e';obtain ⟨hz,hS,vs,r,m⟩:kvs.length<=sizeLine/\(p == sysModules)=false/\∃ vs,KV kvs vs/\s.heap.DictOf (cT X.prog X.w) p vs:=I.hok p _ hx;have hlen:kvs.length=vs.length:=Paired.length r;exact wpAny_truthy_dict hS m (by omega) ⟨H,I.tok _,by rw [D5 r];exact q⟩
 | _=>exact (show False from e).elim
theorem HD (ha:PE X a ta) (he:∀ whole,isTrue a X.env whole=(do let v <- whole;standAt a.pos;holding [v] (truthy v))) :
   PT X a (fun σ H Q=>ta σ H fun x H'=>∃ k,L7 X.K x H' k/\Q k H'):=by
 intro pins s σ H Q I h;exact isTrue_plain (bh (ha pins s σ H _ I h) fun v s1 x H1 I1 r1 q1=>MH pins s1 σ H1 x v Q I1 r1 q1) (he _)
theorem tR {x:V} {us:List Value} (r:Vals [x] us):∃ u,us=[u]/\RelV x u:=by
 cases r with
 | cons r1 r2=>cases r2;exact ⟨_,rfl,r1⟩
theorem Km {x y:V} {us:List Value} (r:Vals [x,y] us):∃ u w',us=[u,w']/\RelV x u/\RelV y w':=by
 cases r with
 | cons r1 r2 =>
   cases r2 with
   | cons r3 r4=>cases r4;exact ⟨_,_,rfl,r1,r3⟩
end
end L2
namespace L2
open PySem PySem.Spec PyProof.Rows
structure ObjM (h:Heap) (x dx C:Addr) (mA:Str->Option Value):Prop where
 obj:h.get? x=some (PySem.W.instObj C dx)
 ns:h.Ns1 dx mA
 ne:dx≠x
theorem F4 {h:Heap} {dx:Addr} {mA:Str->Option Value} (n:h.Ns1 dx mA):∃ od,h.get? dx=some od/\∀ name,PySem.W.lookIn name od=some (mA name):=by
 obtain ⟨o,es,ep,ho,hd,hk,_,hm⟩:=n;refine ⟨o,ho,fun name=>?_⟩;have e:=hm name;unfold nsFind findBy at e;rw [<- Array.find?_toList] at e;unfold PySem.W.lookIn;rw [hd];dsimp only;split
 . rename_i y q
   rw [q] at e;exact congrArg some e
 . rename_i q
   rw [q] at e;have a:es.toList.any (·.refKey)=false:=by
     rw [List.any_eq_false];intro y hy;obtain ⟨z,t,hkey⟩:=hk y (Array.mem_toList_iff.mp hy);simp [DictEntry.refKey,hkey]
   have a':¬ es.toList.any (·.refKey)=true:=by rw [a];exact Bool.false_ne_true
   rw [if_neg a'];exact congrArg some e
theorem ObjM.look {h:Heap} {x dx C:Addr} {mA:Str->Option Value} (I:ObjM h x dx C mA):∃ od,PySem.W.InstAt h x (PySem.W.instObj C dx) C (some od)/\∀ name,PySem.W.lookIn name od=some (mA name) :=
 let ⟨od,ho,hl⟩:=F4 I.ns
 ⟨od,⟨I.obj,rfl,rfl,ho⟩,hl⟩
section
variable {prog:Program} {w:World} {A:Around} {E:Value->Shared->Prop} {s:Shared} {K:PySem.W.Frag} {x dx C f:Addr} {mA:Str->Option Value} {name:Str} {v:Value}
theorem Lg {expr:Bool} {Q:Value->Shared->Prop} (X:K.In s.heap) (I:ObjM s.heap x dx C mA) (hg:PySem.W.plainGet K C name=true) (hh:PySem.W.hasDictIn K C=true)
   (ha:PySem.W.findIn K (.ref C) name=some none) (hv:mA name=some v) (hv':PySem.W.handedIn v=true) (h:Q v { s with toks:=s.toks+1 }) :
   wpAny (model prog w) A (getAttr (.ref x) name expr) Q E s:=by
 obtain ⟨od,J,hl⟩:=I.look;exact PySem.W.get_value X J (PySem.W.plainGet_of hg).1 (PySem.W.findObj_own hh ha rfl (by rw [hl,hv])) hv' h
theorem JX {pl:Sem Bool} {Q:Value × List Value->Shared->Prop} (X:K.In s.heap) (I:ObjM s.heap x dx C mA) (hg:PySem.W.plainGet K C name=true)
   (hf:PySem.W.findIn K (.ref C) name=some (some (.ref f))) (ht:PySem.W.isFn K (.ref f)=true) (hv:mA name=none) (h:Q (.ref f,[.ref x]) s) :
   wpAny (model prog w) A (getMethod (.ref x) name pl) Q E s:=by
 obtain ⟨od,J,hl⟩:=I.look;exact PySem.W.method_fn X J (PySem.W.plainGet_of hg).1 (PySem.W.plainGet_of hg).2 hf (beq_iff_eq.mp ht) (by show (PySem.W.lookIn name od).map (·.isSome)=some false;rw [hl,hv];rfl) h
theorem K2 {ns:List Str} {Q:Unit->Shared->Prop} (X:K.In s.heap) (I:ObjM s.heap x dx C mA)
   (hs:PySem.W.findIn K (.ref C) "__setattr__"=some (some (.builtin "object.__setattr__"))) (hp:PySem.W.plainOver K C=true) (ht:PySem.W.takerIn K C name=some none) (hh:PySem.W.hasDictIn K C=true)
   (hw:PySem.Within mA ns) (hsz:ns.length<=sizeLine)
   (h:∀ h',ObjM h' x dx C (fun y=>if y=name then some v else mA y)->Heap.SameBut dx s.heap h'->Q () { s with heap:=h',toks:=s.toks+2 }) :
   wpAny (model prog w) A (setAttr (.ref x) name v) Q E s:=by
 obtain ⟨od,J,hl⟩:=I.look;refine PySem.W.set_plain X J hs (PySem.W.osa_open (s:={ s with toks:=s.toks+1 }) (r:=none) X J hp ht fun b=>?_);obtain ⟨cd,hc,hd'⟩:=PySem.W.any_some hh;have hx:s.heap.get? x=some ⟨.ref C,some dx,.plain,#[]⟩:=I.obj;refine wpAny_bind (wpAny_pure (wpAny_bind (wpAny_bind (wpAny_loadPart hx (wpAny_bind (PySem.W.Looks.here (s:={ s with toks:=s.toks+1 }) (PySem.W.looks_clsIn X hc) ?_))))));rw [hd'];refine wpAny_pure (a:=some dx) (wpAny_bind (wpAny_pure (wpAny_bind ?_)));refine wpAny_nsSet1 (s:={ s with toks:=s.toks+1 }) I.ns fun h' hn2 hs2=>?_;obtain ⟨oD,esD,epD,hoD,hdD,hcD⟩:=hn2.count (PySem.Within.cons name v hw);refine wpAny_bind (wpAny_lookBehind hoD (by rw [hdD];exact pastItsLine_dict (Nat.le_trans hcD (by rw [List.length_cons];omega))) ?_);exact wpAny_pure (h _ ⟨(hs2.2 _ (Ne.symm I.ne)).trans I.obj,hn2,I.ne⟩ hs2)
theorem Hy {R:Result->Shared->Prop} {vs:List Value} {kw:List (Str × Value)} (X:K.In s.heap) (hm:PySem.W.makesIn K C=true)
   (hi:PySem.W.findIn K (.ref C) "__init__"=some (some (.ref f))) (hf:PySem.W.typeIn K (.ref f)=some (.type "function"))
   (h:codeAny (model prog w) (A.under (.builtin "type.__call__" ⟨.ref C::vs,kw⟩)) (.call (.ref f) ⟨.ref (s.heap.objs.size+1)::vs,kw⟩) (PySem.W.InitBack (s.heap.objs.size+1) R)
     { s with heap:=(s.heap.push PySem.W.emptyDict).push (PySem.W.instObj C s.heap.objs.size) }) :
   codeAny (model prog w) A (.call (.ref C) ⟨vs,kw⟩) R s:=by
 obtain ⟨hh,g,d,t,os⟩:=s;exact PySem.W.make_core (PySem.W.makes_of X hm) (PySem.W.looks_findIn X hi) (fun self=>PySem.W.bind_fn X self hf) (.inl rfl) h
end
def cW (f:Str) (v:V):List (Str × V)->List (Str × V)
 | []=>[(f,v)]
 | (g,x)::r=>if g=f then (g,v)::r else (g,x)::cW f v r
theorem cH (f g:Str) (v:V):∀ fs:List (Str × V),(cW f v fs).lookup g=if g=f then some v else fs.lookup g
 | []=>by
   show List.lookup g [(f,v)]=_;by_cases h:g=f
   . have hb:(g == f)=true:=beq_iff_eq.mpr h;simp only [List.lookup,hb,if_pos h]
   . have hb:(g == f)=false:=beq_eq_false_iff_ne.mpr h;simp only [List.lookup,hb,if_neg h]
 | (k,x)::r=>by
   have ih:=cH f g v r;rw [show cW f v ((k,x)::r)=(if k=f then (k,v)::r else (k,x)::cW f v r) from rfl];by_cases hk:k=f
   . rw [if_pos hk];by_cases h:g=k
     . have hb:(g == k)=true:=beq_iff_eq.mpr h;simp only [List.lookup,hb,if_pos (h.trans hk)]
     . have hb:(g == k)=false:=beq_eq_false_iff_ne.mpr h;simp only [List.lookup,hb,if_neg (fun e:g=f=>h (e.trans hk.symm))]
   . rw [if_neg hk];by_cases h:g=k
     . have hb:(g == k)=true:=beq_iff_eq.mpr h;simp only [List.lookup,hb,if_neg (fun e:g=f=>hk (h.symm.trans e))]
     . have hb:(g == k)=false:=beq_eq_false_iff_ne.mpr h;simp only [List.lookup,hb];exact ih
theorem sy (f:Str) (v:V):∀ fs:List (Str × V),f∈(cW f v fs).map (·.1)/\∀ g,g∈fs.map (·.1)->g∈(cW f v fs).map (·.1)
 | []=>⟨by simp [cW],fun g h=>by simp at h⟩
 | (k,x)::r=>by
   obtain ⟨i1,i2⟩:=sy f v r;rw [show cW f v ((k,x)::r)=(if k=f then (k,v)::r else (k,x)::cW f v r) from rfl];by_cases hk:k=f
   . rw [if_pos hk];subst hk;exact ⟨by simp,fun g h=>by simpa using h⟩
   . rw [if_neg hk];refine ⟨?_,fun g h=>?_⟩
     . rw [List.map_cons];exact List.mem_cons_of_mem _ i1
     . rw [List.map_cons] at h ⊢;rcases List.mem_cons.mp h with e|e
       . exact List.mem_cons.mpr (.inl e)
       . exact List.mem_cons_of_mem _ (i2 g e)
theorem uh (f:Str) (v:V):∀ fs:List (Str × V),(cW f v fs).length<=fs.length+1
 | []=>by simp [cW]
 | (k,x)::r=>by
   have ih:=uh f v r;rw [show cW f v ((k,x)::r)=(if k=f then (k,v)::r else (k,x)::cW f v r) from rfl];by_cases hk:k=f
   . rw [if_pos hk,List.length_cons,List.length_cons];omega
   . rw [if_neg hk,List.length_cons,List.length_cons];omega
theorem RelO.some_of {v:V} {o:Option Value} (r:RelO (some v) o):∃ u,o=some u/\RelV v u:=by
 cases o with
 | none=>exact (show False from r).elim
 | some u=>exact ⟨u,rfl,r⟩
theorem RelO.none_of {o:Option Value} (r:RelO none o):o=none:=by
 cases o with
 | none=>rfl
 | some u=>exact (show False from r).elim
theorem E3 {v:V} {u:Value} (r:RelV v u):PySem.W.handedIn u=true:=by
 cases v with
 | non=>cases (show u=Value.none from r);rfl
 | bl b=>cases (show u=Value.bool b from r);rfl
 | int i=>obtain ⟨t,e⟩:=(show ∃ t,u=Value.int i t from r);cases e;rfl
 | str x=>obtain ⟨t,e⟩:=(show ∃ t,u=Value.str x t from r);cases e;rfl
 | byt b=>obtain ⟨t,e⟩:=(show ∃ t,u=Value.bytes b t from r);cases e;rfl
 | flt b=>obtain ⟨t,e⟩:=(show ∃ t,u=Value.float b t from r);cases e;rfl
 | ref a=>cases (show u=Value.ref a from r);rfl
 | ty n=>cases (show u=Value.type n from r);rfl
section
variable {P:Program} {w:World} {H H':Hp} {h h':Heap} {a C dx:Addr} {fs fs':List (Str × V)}
theorem tN (hok:HOk P w H h) (e:H a=some (.ins C dx fs)):∃ mA,ObjM h a dx C mA/\(∀ f,RelO (fs.lookup f) (mA f))/\PySem.Within mA (fs.map (·.1))/\fs.length<=1000/\H dx=some (.own a):=by
 obtain ⟨d,z,ne,ob,mA,n,r,q⟩:=(show ObjOk P w H h a (.ins C dx fs) from hok a _ e);exact ⟨mA,⟨ob,n,ne⟩,r,q,z,d⟩
end
structure Cls (K:PySem.W.Frag) (C:Addr):Prop where
 pg:PySem.W.plainGet K C Str.empty=true
 hd:PySem.W.hasDictIn K C=true
 po:PySem.W.plainOver K C=true
 sa:PySem.W.findIn K (.ref C) "__setattr__"=some (some (.builtin "object.__setattr__"))
theorem Cls.get {K:PySem.W.Frag} {C:Addr} (c:Cls K C) (f:Str):PySem.W.plainGet K C f=true:=c.pg
def NoAttr (K:PySem.W.Frag) (C:Addr) (f:Str):Prop:=PySem.W.findIn K (.ref C) f=some none
theorem NoAttr.taker {K:PySem.W.Frag} {C:Addr} {f:Str} (n:NoAttr K C f):PySem.W.takerIn K C f=some none:=by
 unfold PySem.W.takerIn;rw [show PySem.W.findIn K (.ref C) f=some none from n]
 rfl
structure Meth (K:PySem.W.Frag) (C:Addr) (m:Str) (f:Addr):Prop where
 at_:PySem.W.findIn K (.ref C) m=some (some (.ref f))
 fn:PySem.W.isFn K (.ref f)=true
 kp:PySem.W.keepIn K (.ref f)=true
section
variable {X:Cx} {pins:List (Addr × Obj)} {σ:St} {H:Hp} {s:Shared} {a C dx:Addr} {fs:List (Str × V)} {f:Str} {v:V} {A:Around} {E:Value->Shared->Prop}
theorem EO {b:Bool} {Q:Value->Shared->Prop} (I:Inv X pins σ H s) (e:H a=some (.ins C dx fs)) (c:Cls X.K C) (n:NoAttr X.K C f) (l:fs.lookup f=some v)
   (h:∀ u s',Inv X pins σ H s'->RelV v u->Q u s'):wpAny (model X.prog X.w) A (getAttr (.ref a) f b) Q E s:=by
 obtain ⟨mA,O,r,_,_,_⟩:=tN I.hok e;obtain ⟨u,hu,ru⟩:=RelO.some_of (v:=v) (o:=mA f) (by rw [<- l];exact r f);exact Lg I.kIn O (c.get f) c.hd n hu (E3 ru) (h u _ (I.tok _) ru)
theorem wo {m:Str} {g:Addr} {pl:Sem Bool} {Q:Value × List Value->Shared->Prop} (I:Inv X pins σ H s) (e:H a=some (.ins C dx fs)) (c:Cls X.K C) (k:Meth X.K C m g) (l:fs.lookup m=none)
   (h:Q (.ref g,[.ref a]) s):wpAny (model X.prog X.w) A (getMethod (.ref a) m pl) Q E s:=by
 obtain ⟨mA,O,r,_,_,_⟩:=tN I.hok e;have hn:mA m=none:=RelO.none_of (by rw [<- l];exact r m);exact JX I.kIn O (c.get m) k.at_ k.fn hn h
theorem DW {y:V} {u:Value} {Q:Unit->Shared->Prop} (I:Inv X pins σ H s) (e:H a=some (.ins C dx fs)) (c:Cls X.K C) (n:NoAttr X.K C f) (hl:fs.length<1000) (ry:RelV y u)
   (h:∀ s',Inv X pins σ (upd H a (.ins C dx (cW f y fs))) s'->Q () s'):wpAny (model X.prog X.w) A (setAttr (.ref a) f u) Q E s:=by
 obtain ⟨mA,O,r,wi,_,ho⟩:=tN I.hok e;have hz:(fs.map (·.1)).length<=sizeLine:=by rw [List.length_map,sizeLine_eq];omega
 refine K2 I.kIn O c.sa c.po n.taker c.hd wi hz fun h' O' sb=>h _ ?_;have hd:∃ o,h'.get? dx=some o:=let ⟨o,_,_,e',_⟩:=O'.ns;⟨o,e'⟩;refine I.write (x:=a) (e:=dx) (by rw [e];exact True.intro) (.inr ho) (fun b q hb z=>(sb.2 b hb).trans z) hd ?_;refine ⟨by rw [ao O.ne];exact ho,?_,O.ne,O'.obj,_,O'.ns,fun g=>?_,fun g hg=>?_⟩
 . have:=uh f y fs;omega
 . show RelO ((cW f y fs).lookup g) (if g=f then some u else mA g);rw [cH];by_cases q:g=f
   . rw [if_pos q,if_pos q];exact ry
   . rw [if_neg q,if_neg q];exact r g
 . by_cases q:g=f
   . rw [q];exact (sy f y fs).1
   . refine (sy f y fs).2 g (wi g fun z=>hg ?_);show (if g=f then some u else mA g)=none;rw [if_neg q];exact z
theorem Inv.made (I:Inv X pins σ H s):Inv X pins σ (upd (upd H s.heap.objs.size (.own (s.heap.objs.size+1))) (s.heap.objs.size+1) (.ins C s.heap.objs.size []))
   { s with heap:=(s.heap.push PySem.W.emptyDict).push (PySem.W.instObj C s.heap.objs.size) }:=by
 have e1:(s.heap.push PySem.W.emptyDict).get? s.heap.objs.size=some PySem.W.emptyDict:=Heap.get?_push_size s.heap rfl;have e2:((s.heap.push PySem.W.emptyDict).push (PySem.W.instObj C s.heap.objs.size)).get? (s.heap.objs.size+1)=some (PySem.W.instObj C s.heap.objs.size):=by
   have:=Heap.get?_push_size (s.heap.push PySem.W.emptyDict) (o:=PySem.W.instObj C s.heap.objs.size) rfl
   rwa [Heap.size_push] at this
 have e3:(s.heap.push PySem.W.emptyDict).Ns s.heap.objs.size (fun _=>none):=⟨PySem.W.emptyDict,#[],_,e1,rfl,(fun e he=>absurd he (by simp)),fun _=>rfl⟩;have I1:=I.laid (a:=s.heap.objs.size) (o:=.own (s.heap.objs.size+1)) (h':=s.heap.push PySem.W.emptyDict) (t':=s.toks) (fun b u q=>Heap.get?_push_of_some _ q) (Nat.le_refl _) ⟨_,e1⟩;refine I1.laid (a:=s.heap.objs.size+1) (o:=.ins C s.heap.objs.size []) (t':=s.toks) (fun b u q=>Heap.get?_push_of_some _ q) (Nat.le_of_eq (Heap.size_push _ _)) ?_;have ne:s.heap.objs.size≠s.heap.objs.size+1:=Nat.ne_of_lt (Nat.lt_succ_self _);refine ⟨by rw [ao ne,ak],Nat.zero_le _,ne,e2,fun _=>none,(Heap.Ns1.of_empty e3).at fun o q=>Heap.get?_push_of_some _ q,fun _=>True.intro,fun y hy=>absurd rfl hy⟩
theorem Kr {prog:Program} {w:World} {env:Env} {e:Expr} {f:Str} {pos:Pos} {s:Shared} {Q:Value->Shared->Prop} (hb:attributeBase e f env (eval e env)=eval e env)
   (h:wpAny (model prog w) A (eval e env) (fun o s₁=>wpAny (model prog w) A (getAttr o f true) Q E s₁) E s):wpAny (model prog w) A (eval (.Attribute e f pos) env) Q E s :=
 Attribute_any_ h (by rw [arm_eval_Attribute,hb])
end
def Jj (K:PySem.W.Frag) (ta:TE) (f:Str):TE:=fun σ H Q=>ta σ H fun x H1=>∃ a C dx fs v,x=.ref a/\H1 a=some (.ins C dx fs)/\Cls K C/\NoAttr K C f/\fs.lookup f=some v/\Q v H1
def JH (K:PySem.W.Frag) (ta tv:TE) (f:Str):TS:=fun D σ H=>tv σ H fun y H1=>ta σ H1 fun x H2=>∃ a C dx fs,x=.ref a/\H2 a=some (.ins C dx fs)/\Cls K C/\NoAttr K C f/\fs.length<1000 /\
 D.nx σ (upd H2 a (.ins C dx (cW f y fs)))
section
variable {X:Cx} {o e value:Expr} {f:Str} {pos pos' tpos:Pos} {ta tv:TE}
theorem cZ (he:PE X e ta) (hb:attributeBase e f X.env (eval e X.env)=eval e X.env):PE X (.Attribute e f pos) (Jj X.K ta f):=by
 intro pins s σ H Q I h;refine Kr hb (bh (he pins s σ H _ I h) fun u s1 x H1 I1 rx ⟨a,C,dx,fs,v,ex,ea,c,n,l,q⟩=>?_);subst ex;obtain rfl:u=Value.ref a:=rx;exact EO I1 ea c n l fun u' s2 I2 ru=>⟨v,H1,I2,ru,q⟩
theorem vC (ha:PE X o ta) (hv:PE X value tv) (hs:swapsWith value (some (.Attribute o f pos')) pos.line X.env=pure false):PS X (.Assign [.Attribute o f pos'] value pos) (JH X.K ta tv f):=by
 intro pins s σ H D I h;refine plainObj_wpAny_Assign_Attribute (bh (hv pins s σ H _ I h) fun u s1 y H1 I1 ry q=>bh (ha pins s1 σ H1 _ I1 q) fun ov s2 x H2 I2 rx ⟨a,C,dx,fs,ex,ea,c,n,l,q2⟩=>?_) hs;subst ex;obtain rfl:ov=Value.ref a:=rx;exact DW I2 ea c n l ry fun s3 I3=>⟨σ,_,I3,q2⟩
end
section
variable {X:Cx} {pins:List (Addr × Obj)} {σ:St} {H:Hp} {s:Shared} {A:Around} {E:Value->Shared->Prop} {Q:Value->Shared->Prop} {c:Value} {b:Bool}
inductive TyOf (K:PySem.W.Frag) (H:Hp):V->Value->Prop where
 | non:TyOf K H .non (.type "NoneType")
 | bl (x:Bool):TyOf K H (.bl x) (.type "bool")
 | int (i:Int):TyOf K H (.int i) (.type "int")
 | str (x:Str):TyOf K H (.str x) (.type "str")
 | flt (x:UInt64):TyOf K H (.flt x) (.type "float")
 | lst {a:Addr} {xs:List V} (e:H a=some (.lst xs)):TyOf K H (.ref a) (.type "list")
 | frz {a:Addr} {o:Obj} {xs:List V} (e:H a=some (.frz o (.lst xs))):TyOf K H (.ref a) (.type "list")
 | tup {a:Addr} {xs:List V} (e:H a=some (.tup xs)):TyOf K H (.ref a) (.type "tuple")
 | dK {a:Addr} {kvs:List (Key × V)} (e:H a=some (.dK kvs)):TyOf K H (.ref a) (.type "dict")
 | dT {a:Addr} {kvs:List (List Key × V)} (e:H a=some (.dT kvs)):TyOf K H (.ref a) (.type "dict")
 | ins {a C dx:Addr} {fs:List (Str × V)} (e:H a=some (.ins C dx fs)) (cl:Cls K C) (ha:PySem.W.findIn K (.ref C) "__class__"=some (some (.builtin "object.__class__")))
     (hn:PySem.W.specialIn K (.builtin "object.__class__") "__get__"=some (some (.builtin "getset_descriptor.__get__"))) (htk:PySem.W.takesIn K (.builtin "object.__class__")=some true)
     (hm:PySem.W.mroIn K C (.type "object")=some true):TyOf K H (.ref a) (.ref C)
theorem Fg {x:V} {u t:Value} (I:Inv X pins σ H s) (rx:RelV x u) (ty:TyOf X.K H x t) (e:PySem.W.kitOne X.K t c=some b) (h:∀ tk,Q (.bool b) { s with toks:=tk }) :
   wpAny (model X.prog X.w) A (call (.builtin "isinstance") [u,c]) Q E s:=by
 cases ty with
 | non=>cases (show u=Value.none from rx);exact PySem.W.kia_one PySem.W.kitx_none I.kIn True.intro e (fun z=>nomatch z) h
 | bl y=>cases (show u=Value.bool y from rx);exact PySem.W.kia_one PySem.W.kitx_bool I.kIn True.intro e (fun z=>nomatch z) h
 | int i=>obtain ⟨t,q⟩:=(show ∃ t,u=Value.int i t from rx);cases q;exact PySem.W.kia_one PySem.W.kitx_int I.kIn True.intro e (fun z=>nomatch z) h
 | str y=>obtain ⟨t,q⟩:=(show ∃ t,u=Value.str y t from rx);cases q;exact PySem.W.kia_one PySem.W.kitx_str I.kIn True.intro e (fun z=>nomatch z) h
 | flt y=>obtain ⟨t,q⟩:=(show ∃ t,u=Value.float y t from rx);cases q;exact PySem.W.kia_one PySem.W.kitx_float I.kIn True.intro e (fun z=>nomatch z) h
 | @lst a xs ea =>
   cases (show u=Value.ref a from rx);obtain ⟨_,_,n,_,h1⟩:=(show ObjOk X.prog X.w H s.heap a (.lst xs) from I.hok a _ ea);exact PySem.W.kia_one PySem.W.kitx_list I.kIn ⟨_,h1,rfl⟩ e (fun z=>nomatch z) h
 | @frz a ob xs ea =>
   cases (show u=Value.ref a from rx);obtain ⟨_,_,_,n,_,h1⟩:=(show ObjOk X.prog X.w H s.heap a (.frz ob (.lst xs)) from I.hok a _ ea);exact PySem.W.kia_one PySem.W.kitx_list I.kIn ⟨_,h1,rfl⟩ e (fun z=>nomatch z) h
 | @tup a xs ea =>
   cases (show u=Value.ref a from rx);obtain ⟨_,_,_,p⟩:=(show ObjOk X.prog X.w H s.heap a (.tup xs) from I.hok a _ ea);obtain ⟨o,h1,h2,_⟩:=p;exact PySem.W.kia_one PySem.W.kitx_tuple I.kIn ⟨o,h1,h2⟩ e (fun z=>nomatch z) h
 | @dK a kvs ea =>
   cases (show u=Value.ref a from rx);obtain ⟨_,_,vs,_,p⟩:=(show ObjOk X.prog X.w H s.heap a (.dK kvs) from I.hok a _ ea);obtain ⟨o,es,ep,h1,h2,_⟩:=p;exact PySem.W.kia_one PySem.W.kitx_dict I.kIn ⟨o,h1,h2.1⟩ e (fun z=>nomatch z) h
 | @dT a kvs ea =>
   cases (show u=Value.ref a from rx);obtain ⟨_,_,xs,_,o,es,ep,h1,h2,_⟩:=(show ObjOk X.prog X.w H s.heap a (.dT kvs) from I.hok a _ ea);exact PySem.W.kia_one PySem.W.kitx_dict I.kIn ⟨o,h1,h2.1⟩ e (fun z=>nomatch z) h
 | @ins a C dx fs ea cl ha hn htk hm =>
   cases (show u=Value.ref a from rx);obtain ⟨mA,O,_⟩:=tN I.hok ea;obtain ⟨od,J,_⟩:=O.look;exact PySem.W.kia_one (PySem.W.kitx_own (cl.get _) cl.hd ha hn htk hm) I.kIn J e (fun z=>nomatch z) h
end
end L2
namespace L2
open PySem PySem.Spec PyProof.Rows
structure Room (k:Nat) (A:Around):Prop where
 hd:A.handled=none
 dp:A.depth+3*k+5<recursionLimit
 un:A.units+16*k+200<cLine
theorem Room.mono {j k:Nat} {A:Around} (r:Room k A) (h:j<=k):Room j A:=⟨r.hd,by have:=r.dp;omega,by have:=r.un;omega⟩
theorem Room.deeper {k:Nat} {A:Around} (r:Room (k+1) A) (env:Env):Room k (A.deeper env) :=
 ⟨r.hd,by have:=r.dp;show A.depth+1+3*k+5<_;omega,by have:=r.un;show A.units+3+16*k+200<_;omega⟩
theorem EA {A:Around} {C:Addr} {us:List Value} {kw:List (Str × Value)}:(A.under (.builtin "type.__call__" ⟨.ref C::us,kw⟩)).depth=A.depth+1:=by
 first|rfl|simp [Around.under,Code.weight,Code.isCreation,Code.isGuard,Code.isCaller,Code.frames,Code.isFrame,guardIds]
theorem EE {A:Around} {C:Addr} {us:List Value} {kw:List (Str × Value)}:(A.under (.builtin "type.__call__" ⟨.ref C::us,kw⟩)).units=A.units+1:=by
 first|rfl|simp [Around.under,Code.cUnits,Code.frames,Code.isFrame]
theorem Room.make {k:Nat} {A:Around} (r:Room (k+1) A) (C:Addr) (us:List Value) (kw:List (Str × Value)):Room k (A.under (.builtin "type.__call__" ⟨.ref C::us,kw⟩)) :=
 ⟨r.hd,by have:=r.dp;rw [EA];omega,by have:=r.un;rw [EE];omega⟩
theorem Room.depth {k:Nat} {A:Around} (r:Room k A):A.depth<recursionLimit:=by have:=r.dp;omega
theorem Room.units {k:Nat} {A:Around} (r:Room k A):A.units+64<cLine:=by have:=r.un;omega
def tNil:TA:=fun _ H Q=>Q [] H
def Eo (ta:TE) (tr:TA):TA:=fun σ H Q=>ta σ H fun x H1=>tr σ H1 fun xs H2=>Q (x::xs) H2
section
variable {X:Cx} {e:Expr} {es:List Expr} {te:TE} {t:TA} {pos:Pos}
theorem ah:PA X [] tNil:=fun _ _ _ _ H Q I h=>Calls.spliced_nil ⟨[],H,I,.nil,h⟩
theorem af (ha:PE X e te) (hr:PA X es t) (hs:starEach (e::es) X.env=(false,eval e X.env)::starEach es X.env:=by rfl):PA X (e::es) (Eo te t):=by
 intro pos pins s σ H Q I h;rw [hs];show wpAny _ _ (spliced ((false,eval e X.env)::backTo pos (starEach es X.env))) _ _ s;refine Calls.spliced_cons (bh (ha pins s σ H _ I h) fun u s1 x H1 I1 r1 q1=>?_);exact lg (hr pos pins s1 σ H1 _ I1 q1) fun us s2 xs H2 I2 r2 q2=>⟨x::xs,H2,I2,.cons r1 r2,q2⟩
def JM (t:TA):TE:=fun σ H Q=>t σ H fun xs H1=>xs.length<=sizeLine/\∀ p,H1 p=none->Q (.ref p) (upd H1 p (.tup xs))
def Gu (t:TA):TE:=fun σ H Q=>t σ H fun xs H1=>xs.length<=sizeLine/\∀ p,H1 p=none->Q (.ref p) (upd H1 p (.lst xs))
theorem eO {x1} (h:PA X es t):PE X (.Tuple es x1 pos) (JM t):=by
 intro pins s σ H Q I hq;refine wpAny_Tuple_spliced (lg (h pos pins s σ H _ I hq) fun us s1 xs H1 I1 r ⟨z,q⟩=>⟨by rw [<- r.length];exact z,?_⟩);have hf:H1 s1.heap.objs.size=none:=I1.hok.fresh (Nat.le_refl _);refine ⟨.ref s1.heap.objs.size,upd H1 s1.heap.objs.size (.tup xs),I1.laid (t':=s1.toks) (fun b u e=>Heap.get?_push_of_some _ e) (Nat.le_refl _) ?_,rfl,q _ hf⟩;exact ⟨z,us,r,⟨_,Heap.get?_push_size _ rfl,rfl,_,rfl⟩⟩
theorem c6 (h:PA X es t):PE X (.List es pos) (Gu t):=by
 intro pins s σ H Q I hq;refine wpAny_List_spliced (lg (h pos pins s σ H _ I hq) fun us s1 xs H1 I1 r ⟨z,q⟩=>⟨by rw [<- r.length];exact z,?_⟩);have hf:H1 s1.heap.objs.size=none:=I1.hok.fresh (Nat.le_refl _);refine ⟨.ref s1.heap.objs.size,upd H1 s1.heap.objs.size (.lst xs),I1.laid (t':=s1.toks) (fun b u e=>Heap.get?_push_of_some _ e) (Nat.le_refl _) ?_,rfl,q _ hf⟩;exact ⟨z,us,0,r,Heap.get?_push_size _ rfl⟩
end
abbrev Sp:=List V->Hp->VK->XK->Prop
abbrev CXT:=List Env->Hp->Shared->XK->Value->Shared->Prop
structure Env0 (P:Program) (w:World) (K:PySem.W.Frag) (mg:Str->Option Value) (base:Heap) (A:Around) (outer:List Env) (s:Shared) (H:Hp):Prop where
 frames:A.frames=some outer
 mod:Mod K mg base
 bs:∀ b o,base.get? b=some o->s.heap.get? b=some o/\H b=none
 bsz:base.objs.size<=s.heap.objs.size
 funs:s.heap.FunFrames base outer
 frf:∀ b∈frs outer,H b=none
 hok:HOk P w H s.heap
 bare:AllBare s.gens
def CE (outer:List Env) (P:Program) (w:World) (H:Hp) (s:Shared) (Q:VK) (u:Value) (s':Shared):Prop :=
 ∃ v H',s'.os=s.os/\AllBare s'.gens/\Un (frs outer) [] H H' s.heap s'.heap/\HOk P w H' s'.heap/\RelV v u/\Q v H'
def CR (CX:CXT) (outer:List Env) (P:Program) (w:World) (H:Hp) (s:Shared) (Q:VK) (E:XK) (r:Result) (s':Shared):Prop :=
 match r with
 | .ok (.ret u)=>CE outer P w H s Q u s'
 | .ok _=>False
 | .error e=>CX outer H s E e s'
structure FnOk (P:Program) (w:World) (K:PySem.W.Frag) (mg:Str->Option Value) (base:Heap) (CX:CXT) (k:Nat) (f:Addr) (fd:FuncData) (ps:List Str) (sp:Sp):Prop where
 len:∀ vs H Q E,sp vs H Q E->vs.length=ps.length
 run:∀ (A:Around) (outer:List Env) (s:Shared) (H:Hp) (args:Args) (us:List Value) (vs:List V) (Q:VK) (E:XK),Room k A->Env0 P w K mg base A outer s H->BindsTo s fd args (ps.zip us)->Vals vs us->sp vs H Q E ->
   codeAny (model P w) A (.call (.ref f) args) (CR CX outer P w H s Q E) s
theorem Env0.make {P:Program} {w:World} {K:PySem.W.Frag} {mg:Str->Option Value} {base:Heap} {A:Around} {outer:List Env} {s:Shared} {H:Hp} (e:Env0 P w K mg base A outer s H) (C:Addr) (us:List Value) (kw:List (Str × Value)) :
   Env0 P w K mg base (A.under (.builtin "type.__call__" ⟨.ref C::us,kw⟩)) outer s H:=⟨by first|exact e.frames|(simpa [Around.under,Code.envs,Code.isFrame,pushEnvs] using e.frames),e.mod,e.bs,e.bsz,e.funs,e.frf,e.hok,e.bare⟩
section
variable {X:Cx} {pins:List (Addr × Obj)} {σ:St} {H:Hp} {s s':Shared}
theorem Inv.env0 (I:Inv X pins σ H s):Env0 X.prog X.w X.K X.mg X.base X.A X.stack s H :=
 ⟨I.ok.frames,I.ok.mod,I.bs,Nat.le_trans I.ok.bsz I.sz,I.stack,I.stkFree,I.hok,I.bare⟩
theorem Inv.after {Q:VK} {u:Value} (I:Inv X pins σ H s) (h:CE X.stack X.prog X.w H s Q u s'):EP X pins σ Q u s':=by
 obtain ⟨v,H',os,bare,un,hok,r,q⟩:=h;obtain ⟨hh,g,d,t,os'⟩:=s';obtain rfl:os'=s.os:=os;exact ⟨v,H',I.call (h':=hh) (g':=g) (d':=d) (t':=t) (ch:=[]) un hok bare (fun b z=>absurd z (by simp)),r,q⟩
end
def En (sp:Sp) (dvs:List V) (E:XK) (t:TA):TE:=fun σ H Q=>t σ H fun vs H1=>sp (vs++dvs) H1 Q E
def zw (C:Addr) (m:Str) (sp:Sp) (dvs:List V) (E:XK) (ta:TE) (t:TA):TE:=fun σ H Q=>ta σ H fun x H1=>∃ a dx fs,x=.ref a/\H1 a=some (.ins C dx fs)/\fs.lookup m=none /\
 t σ H1 fun vs H2=>sp (x::(vs++dvs)) H2 Q E
def Ed (C:Addr) (sp:Sp) (dvs:List V) (E:XK) (t:TA):TE:=fun σ H Q=>t σ H fun vs H1=>∀ x dx,H1 x=none->H1 dx=none->dx≠x ->
 sp (.ref x::(vs++dvs)) (upd (upd H1 dx (.own x)) x (.ins C dx [])) (fun v H2=>v=.non/\Q (.ref x) H2) E
def Binds (K:PySem.W.Frag) (fd:FuncData) (ps:List Str) (ds:List Value):Prop :=
 ∀ (s:Shared) (us:List Value),K.In s.heap->(us++ds).length=ps.length->BindsTo s fd ⟨us,[]⟩ (ps.zip (us++ds))
theorem Binds.all {K:PySem.W.Frag} {fd:FuncData} {ps:List Str} (h:∀ us:List Value,us.length=ps.length->bindArgs fd ⟨us,[]⟩=pure (ps.zip us)):Binds K fd ps []:=fun s us _ hl=>by
 rw [List.append_nil] at hl ⊢;exact .of_eq (h us hl)
def ku (CX:CXT) (X:Cx) (E:XK):Prop:=∀ (pins:List (Addr × Obj)) (σ:St) (H:Hp) (s:Shared) (e:Value) (s':Shared),Inv X pins σ H s->CX X.stack H s E e s'->X.xe e s'
section
variable {X:Cx} {CX:CXT} {k:Nat} {f C:Addr} {fd:FuncData} {ps:List Str} {sp:Sp} {dvs:List V} {ds:List Value} {E:XK} {x m:Str} {p pos apos:Pos} {e o:Expr} {es:List Expr} {ta:TE} {t:TA}
theorem AJ {pins:List (Addr × Obj)} {σ:St} {H:Hp} {s:Shared} {Q:VK} {us:List Value} {vs:List V} (F:FnOk X.prog X.w X.K X.mg X.base CX k f fd ps sp) (hr:Room k X.A) (hb:Binds X.K fd ps ds) (hd:Vals dvs ds) (hx:ku CX X E)
   (I:Inv X pins σ H s) (r:Vals vs us) (h:sp (vs++dvs) H Q E):wpAny (model X.prog X.w) X.A (call (.ref f) us) (EP X pins σ Q) X.xe s:=by
 have r2:Vals (vs++dvs) (us++ds):=r.append hd;have hl:(us++ds).length=ps.length:=by rw [<- r2.length];exact F.len _ _ _ _ h
 refine wpAny_call (codeAny_mono (F.run X.A X.stack s H ⟨us,[]⟩ (us++ds) (vs++dvs) Q E hr I.env0 (hb s us I.kIn hl) r2 h) fun r s' hq=>?_);cases r with
 | error e=>exact hx pins σ H s e s' I hq
 | ok fl =>
   cases fl with
   | ret u=>exact I.after hq
   | next=>exact False.elim hq
   | brk=>exact False.elim hq
   | cont=>exact False.elim hq
theorem au (F:FnOk X.prog X.w X.K X.mg X.base CX k f fd ps sp) (hr:Room k X.A) (hg:Gl X x) (hm:X.mg x=some (.ref f)) (hk:PySem.W.keepIn X.K (.ref f)=true) (hb:Binds X.K fd ps ds) (hd:Vals dvs ds) (hx:ku CX X E)
   (ha:PA X (e::es) t) (hdb:(x == ("__debug__":Str))=false:=by decide) (he:starEach (e::es) X.env=(false,eval e X.env)::starEach es X.env:=by rfl) (hpl:(backTo pos (starEach es X.env)).any (·.1)=false:=by rfl) :
   PE X (.Call (.Name x p) (e::es) [] pos) (En sp dvs E t):=by
 intro pins s σ H Q I h;refine wpAny_Call_Name_kw (tF I hg hm ?_ hdb);refine PySem.W.callWith_K (h₀:=X.base) I.ok.mod.kin hk (lg (ha pos pins s σ H _ I h) fun us s1 vs H1 I1 r q=>⟨I1.kIn,?_⟩) he hpl;exact AJ F hr hb hd hx I1 r q
theorem lR {pl:Sem Bool} (he:PE X o ta) (c:Cls X.K C) (hm:Meth X.K C m f) (F:FnOk X.prog X.w X.K X.mg X.base CX k f fd ps sp) (hr:Room k X.A) (hb:Binds X.K fd ps ds) (hd:Vals dvs ds) (hx:ku CX X E) (ha:PA X (e::es) t)
   (hst:starEach (e::es) X.env=(false,eval e X.env)::starEach es X.env:=by rfl) (hpl:(backTo pos (starEach es X.env)).any (·.1)=false:=by rfl)
   (ht:eval (.Call (.Attribute o m apos) (e::es) [] pos) X.env=(do
     let ov <- eval o X.env
     standAt apos.atName
     let (f,first) <- holding [ov] (getMethod ov m pl)
     callWith pos f first (backTo pos (starEach (e::es) X.env)) (backToKw pos (keywordEach [] X.env))):=by rfl) :
   PE X (.Call (.Attribute o m apos) (e::es) [] pos) (zw C m sp dvs E ta t):=by
 intro pins s σ H Q I h;refine PySem.W.methodCall_KW (pl:=pl) (bh (he pins s σ H _ I h) fun u s1 x H1 I1 rx ⟨a,dx,fs,ex,ea,l,q⟩=>?_) ht;subst ex;obtain rfl:u=Value.ref a:=rx;refine wo I1 ea c hm l ?_;refine PySem.W.callWith_K (first:=[.ref a]) (h₀:=X.base) I.ok.mod.kin hm.kp (lg (ha pos pins s1 σ H1 _ I1 q) fun us s2 vs H2 I2 r q2=>⟨I2.kIn,?_⟩) hst hpl;exact AJ (us:=.ref a::us) (vs:=.ref a::vs) F hr hb hd hx I2 (.cons rfl r) q2
theorem cL {pl:Sem Bool} (he:PE X o ta) (c:Cls X.K C) (hm:Meth X.K C m f) (F:FnOk X.prog X.w X.K X.mg X.base CX k f fd ps sp) (hr:Room k X.A) (hb:Binds X.K fd ps ds) (hd:Vals dvs ds) (hx:ku CX X E)
   (ht:eval (.Call (.Attribute o m apos) [] [] pos) X.env=(do
     let ov <- eval o X.env
     standAt apos.atName
     let (f,first) <- holding [ov] (getMethod ov m pl)
     callWith pos f first (backTo pos (starEach [] X.env)) (backToKw pos (keywordEach [] X.env))):=by rfl) :
   PE X (.Call (.Attribute o m apos) [] [] pos) (zw C m sp dvs E ta tNil):=by
 intro pins s σ H Q I h;refine PySem.W.methodCall_KW (pl:=pl) (bh (he pins s σ H _ I h) fun u s1 x H1 I1 rx ⟨a,dx,fs,ex,ea,l,q⟩=>?_) ht;subst ex;obtain rfl:u=Value.ref a:=rx;refine wo I1 ea c hm l ?_;exact PySem.W.callWith_K0 (first:=[.ref a]) I1.kIn hm.kp (AJ (us:=[.ref a]) (vs:=[.ref a]) F hr hb hd hx I1 (.cons rfl .nil) q)
structure Mk (K:PySem.W.Frag) (C f:Addr):Prop where
 makes:PySem.W.makesIn K C=true
 init:PySem.W.findIn K (.ref C) "__init__"=some (some (.ref f))
 fn:PySem.W.isFn K (.ref f)=true
 kp:PySem.W.keepIn K (.ref C)=true
theorem JD {pins:List (Addr × Obj)} {σ:St} {H:Hp} {s:Shared} {Q:VK} {us:List Value} {vs:List V} (M:Mk X.K C f) (F:FnOk X.prog X.w X.K X.mg X.base CX k f fd ps sp) (hr:Room (k+1) X.A) (hb:Binds X.K fd ps ds) (hd:Vals dvs ds)
   (hx:ku CX X E) (I:Inv X pins σ H s) (r:Vals vs us)
   (h:∀ x dx,H x=none->H dx=none->dx≠x->sp (.ref x::(vs++dvs)) (upd (upd H dx (.own x)) x (.ins C dx [])) (fun v H2=>v=.non/\Q (.ref x) H2) E) :
   wpAny (model X.prog X.w) X.A (call (.ref C) us) (EP X pins σ Q) X.xe s:=by
 have hq:=h (s.heap.objs.size+1) s.heap.objs.size (I.hok.fresh (Nat.le_succ _)) (I.hok.fresh (Nat.le_refl _)) (Nat.ne_of_lt (Nat.lt_succ_self _));have I2:=Inv.made (C:=C) I;have r2:Vals (V.ref (s.heap.objs.size+1)::(vs++dvs)) (Value.ref (s.heap.objs.size+1)::(us++ds)):=.cons rfl (r.append hd);have hl:(Value.ref (s.heap.objs.size+1)::us++ds).length=ps.length:=by
   have e:=r2.length;rw [F.len _ _ _ _ hq] at e;exact e.symm
 refine wpAny_call (Hy (f:=f) I.kIn M.makes M.init (beq_iff_eq.mp M.fn) (codeAny_mono (F.run _ X.stack _ _ ⟨Value.ref (s.heap.objs.size+1)::us,[]⟩ (Value.ref (s.heap.objs.size+1)::(us++ds)) _ _ E (hr.make C us [])
   (I2.env0.make C us []) (hb _ (Value.ref (s.heap.objs.size+1)::us) I2.kIn hl) r2 hq) fun r s' hq'=>?_))
 cases r with
 | error e=>exact hx pins σ _ _ e s' I2 hq'
 | ok fl =>
   cases fl with
   | ret u =>
     obtain ⟨v,H',I3,rv,ev,q3⟩:=I2.after hq';subst ev;exact ⟨rv,⟨V.ref (s.heap.objs.size+1),H',I3,rfl,q3⟩⟩
   | next=>exact False.elim hq'
   | brk=>exact False.elim hq'
   | cont=>exact False.elim hq'
theorem tS (M:Mk X.K C f) (F:FnOk X.prog X.w X.K X.mg X.base CX k f fd ps sp) (hr:Room (k+1) X.A) (hg:Gl X x) (hm:X.mg x=some (.ref C)) (hb:Binds X.K fd ps ds) (hd:Vals dvs ds) (hx:ku CX X E)
   (ha:PA X (e::es) t) (hdb:(x == ("__debug__":Str))=false:=by decide) (he:starEach (e::es) X.env=(false,eval e X.env)::starEach es X.env:=by rfl) (hpl:(backTo pos (starEach es X.env)).any (·.1)=false:=by rfl) :
   PE X (.Call (.Name x p) (e::es) [] pos) (Ed C sp dvs E t):=by
 intro pins s σ H Q I h;refine wpAny_Call_Name_kw (tF I hg hm ?_ hdb);refine PySem.W.callWith_K (h₀:=X.base) I.ok.mod.kin M.kp (lg (ha pos pins s σ H _ I h) fun us s1 vs H1 I1 r q=>⟨I1.kIn,?_⟩) he hpl;exact JD M F hr hb hd hx I1 r q
end
section
variable {X:Cx} {CX:CXT} {k:Nat} {f C:Addr} {fd:FuncData} {ps ks:List Str} {sp:Sp} {E:XK} {x m:Str} {p pos apos kpos:Pos} {e o:Expr} {es:List Expr} {kws:List Keyword} {te ta:TE} {t tk:TA} {nm:Option Str}
variable {g:List Value->List Value->List Value} {gV:List V->List V->List V}
end
structure FnScope (N P:List Str) (sc:Scope):Prop where
 kind:sc.kind=.function
 co:sc.isCoroutine=false
 gen:sc.isGenerator=false
 nd:N.Nodup
 pre:N.take P.length=P
 par:∀ x∈P,sc.names.lookup x=some .local\/sc.names.lookup x=some .cell
 nofree:∀ y∈sc.names,y.2≠.free
theorem yd {kindOf:Str->Option NameKind} {x:Str}:∀ {binds:List (Str × Value)} {m:Str->Option Value},(∀ v,(x,v) ∉ binds)->bindL kindOf binds m x=m x
 | [],_,_=>rfl
 | (n,v)::r,m,h=>by
   unfold bindL;rw [yd fun w hw=>h w (List.mem_cons_of_mem _ hw)];split
   . have:x≠n:=(by rintro rfl;exact h v List.mem_cons_self);simp [this]
   . rfl
theorem xW {kindOf:Str->Option NameKind} {x:Str}:∀ {binds:List (Str × Value)} {m:Str->Option Value},(∀ v,(x,v) ∉ binds)->bindC kindOf binds m x=m x
 | [],_,_=>rfl
 | (n,v)::r,m,h=>by
   unfold bindC;rw [xW fun w hw=>h w (List.mem_cons_of_mem _ hw)];split
   . rfl
   . have:x≠n:=(by rintro rfl;exact h v List.mem_cons_self);simp [this]
theorem yn {kindOf:Str->Option NameKind} {x:Str} {v:Value}:∀ {P:List Str} {vs:List Value} {i:Nat} {m:Str->Option Value},P.Nodup->P[i]?=some x->vs[i]?=some v->kindOf x=some .local ->
   bindL kindOf (P.zip vs) m x=some v
 | [],_,_,_,_,h,_,_=>by simp at h
 | _::_,[],_,_,_,_,h,_=>by simp at h
 | p::P,w::vs,0,m,nd,h1,h2,hk=>by
   simp at h1 h2;subst h1;subst h2;show bindL kindOf ((p,w)::P.zip vs) m p=_;unfold bindL;rw [yd fun v hv=>(List.nodup_cons.mp nd).1 (List.of_mem_zip hv).1,if_pos hk];simp
 | p::P,w::vs,i+1,m,nd,h1,h2,hk=>by
   show bindL kindOf ((p,w)::P.zip vs) m x=_;unfold bindL;exact yn (i:=i) (List.nodup_cons.mp nd).2 (by simpa using h1) (by simpa using h2) hk
theorem yw {kindOf:Str->Option NameKind} {x:Str} {v:Value}:∀ {P:List Str} {vs:List Value} {i:Nat} {m:Str->Option Value},P.Nodup->P[i]?=some x->vs[i]?=some v->kindOf x≠some .local ->
   bindC kindOf (P.zip vs) m x=some v
 | [],_,_,_,_,h,_,_=>by simp at h
 | _::_,[],_,_,_,_,h,_=>by simp at h
 | p::P,w::vs,0,m,nd,h1,h2,hk=>by
   simp at h1 h2;subst h1;subst h2;show bindC kindOf ((p,w)::P.zip vs) m p=_;unfold bindC;rw [xW fun v hv=>(List.nodup_cons.mp nd).1 (List.of_mem_zip hv).1,if_neg hk];simp
 | p::P,w::vs,i+1,m,nd,h1,h2,hk=>by
   show bindC kindOf ((p,w)::P.zip vs) m x=_;unfold bindC;exact yw (i:=i) (List.nodup_cons.mp nd).2 (by simpa using h1) (by simpa using h2) hk
def start (N:List Str) (vs:List V):St:=vs.map some++List.replicate (N.length - vs.length) none
def kQ (CX:CXT) (P:Program) (w:World) (K:PySem.W.Frag) (mg:Str->Option Value) (base:Heap) (N:List Str) (qual:Str) (scope:Scope) (f:Addr) (cd:Value) (A:Around) (outer:List Env) (s:Shared) (H:Hp) (E:XK):Cx where
 prog:=P
 w:=w
 K:=K
 mg:=mg
 base:=base
 A:=A.deeper (envOfC qual scope s.heap.objs.size f cd)
 N:=N
 s₀:=s
 H₀:=H
 env:=envOfC qual scope s.heap.objs.size f cd
 outer:=outer
 stack:=envOfC qual scope s.heap.objs.size f cd::outer
 ex:=[]
 calm:=true
 fn:=fun _=>true
 pn:=[]
 xe:=fun e s'=>wpAny (model P w) (A.deeper (envOfC qual scope s.heap.objs.size f cd)) (leaving (envOfC qual scope s.heap.objs.size f cd) e) (fun _ s''=>CX outer H s E e s'') (fun e' s''=>CX outer H s E e' s'') s'
theorem AZ {sc:Scope} {n:Nat} {x:Str} (h:sc.names.lookup x=some .cell):∃ c,(cellsFrom n sc.names []).lookup x=some c:=by
 have q:=PySem.W.cellsFrom_some sc.names n [] (.inl h);exact Option.isSome_iff_exists.mp q
theorem EY {CX:CXT} {P:Program} {w:World} {K:PySem.W.Frag} {mg:Str->Option Value} {base:Heap} {N ps:List Str} {qual:Str} {scope:Scope} {f:Addr} {cd:Value} {A:Around} {outer:List Env} {s s1:Shared} {H:Hp} {E:XK} {us:List Value} {vs:List V}
   (S:FnScope N ps scope) (hd:A.handled=none) (e0:Env0 P w K mg base A outer s H) (hl:vs.length=ps.length) (r:Vals vs us)
   (x:InCallC s s.heap.objs.size (bindL (envOfC qual scope s.heap.objs.size f cd).kindOf (ps.zip us) fun _=>none) (cellsFrom (s.heap.objs.size+1) scope.names []) (bindC (envOfC qual scope s.heap.objs.size f cd).kindOf (ps.zip us) fun _=>none) s1) :
   Inv (kQ CX P w K mg base N qual scope f cd A outer s H E) [] (start N vs) H s1:=by
 have hpl:ps.length<=N.length:=by have:=congrArg List.length S.pre;rw [List.length_take] at this;omega
 obtain ⟨h1,tk,rfl,hk⟩:=x.done;have noA:∀ b:Addr,b ∉ (kQ CX P w K mg base N qual scope f cd A outer s H E).ex:=fun b z=>absurd (show b∈([]:List Addr) from z) (by simp);refine ⟨⟨e0.mod,S.kind,rfl,rfl,Nat.le_refl _,fun y z c h1 h2=>?_,fun y hy=>?_,fun y c _ h=>?_,fun _=>hd,Around.frames_deeper e0.frames,.inr ⟨rfl,rfl⟩,fun b z=>absurd z (noA b),e0.bs,e0.bsz,fun b _ _=>noA b,fun b z=>absurd z (noA b),e0.funs,e0.frf⟩,
   rfl,e0.bare,Un.kept hk,⟨_,x.toInCall.ns,fun i y v h1 h2 h3=>?_⟩,fun y c h=>⟨_,x.cell y c h⟩,e0.hok.fresh (Nat.le_refl _),fun y c h=>?_,fun p hp=>absurd (show p∈([]:List (Addr × Obj)) from hp) (by simp),e0.hok.kept hk,?_⟩
 . exact name_of_addr x.apart (PySem.mem_of_lookup h1) (PySem.mem_of_lookup h2)
 . have hy:scope.names.lookup y=some .cell\/scope.names.lookup y=some .free:=hy;rcases hy with hy|hy
   . exact AZ hy
   . exact absurd rfl (S.nofree _ (PySem.mem_of_lookup hy))
 . exact Nat.le_of_lt (x.above y c (PySem.mem_of_lookup h))
 . have hi:i<vs.length:=by
     unfold start at h2;by_cases hi:i<vs.length
     . exact hi
     . rw [List.getElem?_append_right (by simpa using hi)] at h2;rw [List.getElem?_replicate] at h2;split at h2 <;> cases h2
   have ha:vs[i]?=some v:=by
     unfold start at h2;rw [List.getElem?_append_left (by simpa using hi),List.getElem?_map] at h2;cases e:vs[i]? with
     | none=>rw [e] at h2;cases h2
     | some a=>rw [e] at h2;cases h2;rfl
   obtain ⟨u,hu,rv⟩:=r.get ha;have hp:ps[i]?=some y:=by
     rw [<- S.pre,List.getElem?_take_of_lt (by omega)];exact h1
   have ndP:ps.Nodup:=by rw [<- S.pre];exact S.nd.sublist (List.take_sublist _ _)
   refine ⟨u,rv,?_⟩;rcases S.par y (List.mem_of_getElem? hp) with k|k
   . exact .inl ⟨k,yn ndP hp hu k⟩
   . obtain ⟨c,e⟩:=AZ (n:=s.heap.objs.size+1) k;refine .inr ⟨.inl k,c,e,?_⟩;have q:=x.cell y c e;rw [yw ndP hp hu (by show scope.names.lookup y≠_;rw [k];decide)] at q;exact q
 . exact e0.hok.fresh (Nat.le_of_lt (x.above y c (PySem.mem_of_lookup h)))
 . unfold start;show _=N.length;rw [List.length_append,List.length_map,List.length_replicate];omega
theorem Ki {CX:CXT} {P:Program} {w:World} {K:PySem.W.Frag} {mg:Str->Option Value} {base:Heap} {k:Nat} {f:Addr} {name qual:Str} {params:Arguments} {body:List Stmt} {scope:Scope} {dV kV doc pm cdv ct oc:Value} {an od:Option Addr}
   {osl:Array (Option Value)} {N ps:List Str} {sp:Sp} (lk:K.lookup f=some ⟨oc,od,.func (PySem.W.fnOf name qual params body scope dV kV doc pm an cdv ct),osl⟩) (hcd:PySem.W.codeIn K cdv qual=true) (S:FnScope N ps scope)
   (len:∀ vs H Q E,sp vs H Q E->vs.length=ps.length)
   (hbody:∀ (A:Around) (outer:List Env) (s:Shared) (H:Hp) (vs:List V) (Q:VK) (E:XK),Room k (A.deeper (envOfC qual scope s.heap.objs.size f cdv))->sp vs H Q E ->
     ∃ t,PSs (kQ CX P w K mg base N qual scope f cdv A outer s H E) body t/\t { nx:=fun _ H'=>Q .non H',rt:=Q } (start N vs) H) :
   FnOk P w K mg base CX (k+1) f (PySem.W.fnOf name qual params body scope dV kV doc pm an cdv ct) ps sp:=by
 refine ⟨len,fun A outer s H args us vs Q E hr e0 hb r hsp=>?_⟩;have hl:=len _ _ _ _ hsp;have KX:K.In s.heap:=e0.mod.kin.keeps fun b o e=>(e0.bs b o e).1;have lim:s.heap.NoLimit:=e0.mod.nolimit.keeps fun b o e=>(e0.bs b o e).1;have hkind:∀ y∈ps.zip us,scope.names.lookup y.1=some .local\/(scope.names.lookup y.1=some .cell/\((cellsFrom (s.heap.objs.size+1) scope.names []).lookup y.1).isSome=true):=fun ⟨n,v⟩ hy=>by
   rcases S.par n (List.of_mem_zip hy).1 with q|q
   . exact .inl q
   . exact .inr ⟨q,PySem.W.cellsFrom_some _ _ _ (.inl q)⟩
 refine codeAny_call_function hr.depth (KX _ _ lk) rfl S.co S.gen rfl (PySem.W.codeRec_of KX hcd) (hb _ _ _ _ ?_);refine wpAny_newFunctionEnv_cells S.kind hkind fun env he s1 x=>?_;subst he;refine ⟨lim.keeps x.toInCall.keep,codeAny_func ?_⟩;obtain ⟨t,ht,hq⟩:=hbody A outer s H vs Q E (hr.deeper _) hsp;have I:Inv (kQ CX P w K mg base N qual scope f cdv A outer s H E) [] (start N vs) H s1:=EY S hr.hd e0 hl r x;refine wpAny_mono (ht [] s1 (start N vs) H _ I hq) (fun fl s' hs=>?_) fun e s' hs=>hs;have fin:∀ {σ':St} {H':Hp} {v:V} {u:Value},Inv (kQ CX P w K mg base N qual scope f cdv A outer s H E) [] σ' H' s'->RelV v u->Q v H'->CE outer P w H s Q u s' :=
   fun {σ' H' v u} J rv q=>⟨v,H',J.os,J.bare,J.base,J.hok,rv,q⟩
 cases fl with
 | ret u =>
   obtain ⟨v,σ',H',J,rv,q⟩:=hs;exact fin J rv q
 | next =>
   obtain ⟨σ',H',J,q⟩:=hs;exact fin (v:=V.non) (u:=Value.none) J rfl q
 | brk =>
   obtain ⟨_,_,_,q⟩:=hs;exact False.elim q
 | cont =>
   obtain ⟨_,_,_,q⟩:=hs;exact False.elim q
end L2
namespace L2
open PySem PySem.Spec PyProof.Rows
section
variable {X:Cx} {x:Str} {p pos:Pos} {e:Expr} {es:List Expr} {t:TA} {id T:String} {r:List V->Hp->VK->Prop}
def tCB (r:List V->Hp->VK->Prop) (t:TA):TE:=fun σ H Q=>t σ H fun vs H1=>r vs H1 Q
theorem bK (hc:kb X (.builtin id) r) (hg:Gl X x) (hm:X.mg x=none) (hv:bootBuiltins x=some (.builtin id)) (ha:PA X (e::es) t) (hn:x≠"__name__":=by decide) (hdb:(x == ("__debug__":Str))=false:=by decide)
   (he:starEach (e::es) X.env=(false,eval e X.env)::starEach es X.env:=by rfl) (hpl:(backTo pos (starEach es X.env)).any (·.1)=false:=by rfl):PE X (.Call (.Name x p) (e::es) [] pos) (tCB r t):=by
 intro pins s σ H Q I h;refine wpAny_Call_Name_kw (ms I hg hm hv ?_ hn hdb);exact PyProof.Rows.callWith_builtin1 (lg (ha pos pins s σ H _ I h) fun us s1 vs H1 I1 r1 q1=>hc pins s1 σ H1 vs us Q I1 r1 q1) he hpl
theorem cU (hc:kb X (.type T) r) (hg:Gl X x) (hm:X.mg x=none) (hv:bootBuiltins x=some (.type T)) (ha:PA X (e::es) t) (hn:x≠"__name__":=by decide) (hdb:(x == ("__debug__":Str))=false:=by decide)
   (he:starEach (e::es) X.env=(false,eval e X.env)::starEach es X.env:=by rfl) (hpl:(backTo pos (starEach es X.env)).any (·.1)=false:=by rfl):PE X (.Call (.Name x p) (e::es) [] pos) (tCB r t):=by
 intro pins s σ H Q I h;refine wpAny_Call_Name_kw (ms I hg hm hv ?_ hn hdb);exact PyProof.Rows.callWith_type1 (lg (ha pos pins s σ H _ I h) fun us s1 vs H1 I1 r1 q1=>hc pins s1 σ H1 vs us Q I1 r1 q1) he hpl
end
end L2
namespace HT
open PySem PyProof.Rows
section
open PySem.SeqAt
open PySem.AutoSeq1 (wpAny_loadPart')
open PySem.MeetsSeq PySem.MeetsSeq2 PySem.MeetsSeq3
end
section
variable {prog:Program} {w:World} {A:Around} {E:Value->Shared->Prop} {s:Shared}
end
end HT
namespace L2
open PySem PySem.Spec PyProof.Rows
abbrev TO:=St->Hp->(Option Int->Hp->Prop)->Prop
def PO (X:Cx) (e:Option Expr) (t:TO):Prop :=
 ∀ (pins:List (Addr × Obj)) (s:Shared) (σ:St) (H:Hp) (Q:Option Int->Hp->Prop),Inv X pins σ H s->t σ H Q ->
   wpAny (model X.prog X.w) X.A (evalPart e X.env) (fun u s'=>∃ o H',Inv X pins σ H' s'/\IsPart u o/\Q o H') X.xe s
section
variable {X:Cx} {e:Expr} {te:TE} {lo hi:Option Expr} {tl th:TO} {pos p2:Pos}
end
end L2
namespace L2
open PySem PySem.Spec PyProof.Rows
def ixN (n:Nat) (i:Int):Option Nat:=if 0<=i then (if i<n then some i.toNat else none) else if -(n:Int)<=i then some (i+n).toNat else none
def atI {α:Type} (xs:List α) (i:Int):Option α:=(ixN xs.length i).bind fun j=>xs[j]?
theorem Dr {n:Nat} {i:Int} {j:Nat} (h:ixN n i=some j):seqIndex? i n=some j/\j<n/\-(n:Int)<=i/\i<n:=by
 unfold ixN at h;by_cases h0:0<=i
 . rw [if_pos h0] at h;by_cases h1:i<n
   . rw [if_pos h1] at h;have e:i.toNat=j:=Option.some.inj h;exact ⟨by rw [seqIndex_of h0 h1,e],by omega,by omega,h1⟩
   . rw [if_neg h1] at h;cases h
 . rw [if_neg h0] at h;by_cases h1:-(n:Int)<=i
   . rw [if_pos h1] at h;have e:(i+n).toNat=j:=Option.some.inj h;exact ⟨by rw [seqIndex_neg (by omega) h1,e],by omega,h1,by omega⟩
   . rw [if_neg h1] at h;cases h
theorem xn {α:Type} {xs:List α} {i:Int} {v:α} (h:atI xs i=some v):∃ j,seqIndex? i xs.length=some j/\xs[j]?=some v/\j<xs.length/\-(xs.length:Int)<=i/\i<xs.length:=by
 unfold atI at h;cases e:ixN xs.length i with
 | none=>rw [e] at h;cases h
 | some j =>
   rw [e] at h;obtain ⟨h1,h2,h3,h4⟩:=Dr e;exact ⟨j,h1,h,h2,h3,h4⟩
theorem KW {α:Type} {xs:List α} {j:Nat} {v:α} (h:xs[j]?=some v):atI xs (j:Int)=some v:=by
 have hj:j<xs.length:=(List.getElem?_eq_some_iff.mp h).1;have e:ixN xs.length (j:Int)=some j:=by
   unfold ixN;rw [if_pos (by omega),if_pos (by omega)];simp
 unfold atI;rw [e];exact h
theorem uO {α:Type} (xs:List α) (v:α):atI (xs++[v]) (-1)=some v:=by
 have hl:(xs++[v]).length=xs.length+1:=by simp
 have e:ixN (xs++[v]).length (-1)=some xs.length:=by
   unfold ixN;rw [hl,if_neg (by decide),if_pos (by omega)]
   congr 1
   omega
 unfold atI;rw [e];show (xs++[v])[xs.length]?=some v;simp
def KU (b:Expr):Prop:=∀ o i,subscripted b false o i=operate [o,i] (getItem o i)
def IxR (X:Cx) (r:R2):Prop :=
 ∀ (value slice:Expr) (pins:List (Addr × Obj)) (s:Shared) (σ:St) (H:Hp) (x y:V) (v u:Value) (Q:VK),Inv X pins σ H s->RelV x v->RelV y u->r x y H Q ->
   subscripted slice false v u=operate [v,u] (getItem v u)->wpAny (model X.prog X.w) X.A (subscriptTail value slice v u) (EP X pins σ Q) X.xe s
def MtR (X:Cx) (id:String) (r:V->List V->Hp->VK->Prop):Prop :=
 ∀ (pins:List (Addr × Obj)) (s:Shared) (σ:St) (H:Hp) (x:V) (xs:List V) (v:Value) (us:List Value) (Q:VK),Inv X pins σ H s->RelV x v->Vals xs us->r x xs H Q ->
   wpAny (model X.prog X.w) X.A (call (.builtin id) (v::us)) (EP X pins σ Q) X.xe s
section
variable {X:Cx} {a b:Expr} {ta tb:TE} {pos:Pos}
theorem ap {r:R2} (hr:IxR X r) (ha:PE X a ta) (hb:PE X b tb) (hs:KU b):PE X (.Subscript a b pos) (tOp r ta tb):=by
 intro pins s σ H Q I h;exact Subscript_ (Hi ha hb I h fun v u s2 x y H2 I2 rx ry q=>hr a b pins s2 σ H2 x y v u Q I2 rx ry q (hs _ _))
def xf (K:PySem.W.Frag):R2:=fun x y H Q=>∃ p xs i v,x=.ref p/\y=.int i/\SqL K H p xs/\atI xs i=some v/\Q v H
def HY (K:PySem.W.Frag):R2:=fun x y H Q=>∃ p xs i v,x=.ref p/\y=.int i/\SqT K H p xs/\atI xs i=some v/\Q v H
theorem aq:IxR X (xf X.K):=by
 intro value slice pins s σ H x y v u Q I rx ry h hs;obtain ⟨p,xs,i,z,rfl,rfl,hq,he,q⟩:=h;cases rx;obtain ⟨t,rfl⟩:=ry;obtain ⟨its,r,pl,hz⟩:=I.list hq;obtain ⟨j,h1,h2,h3,h4,h5⟩:=xn he;obtain ⟨w,ew,rw'⟩:=r.get h2;have hl:=r.length;have hn:=lV;have fin:EP X pins σ Q w s:=⟨z,H,I,rw',q⟩;by_cases h0:0<=i
 . have hj:i.toNat=j:=by
     rw [seqIndex_of h0 h5] at h1;exact Option.some.inj h1
   exact item_listR pl.isList h0 (by omega) (by rw [hj];simpa using ew) fin hs
 . have hj:(i+(its.toArray.size:Int)).toNat=j:=by
     rw [seqIndex_neg (by omega) h4] at h1;rw [List.size_toArray,<- hl];exact Option.some.inj h1
   exact subscriptTail_builtinR (x:=w) pl.isList.typeIs slot_list_getitem.lookup
     (wpAny_getItem_list_neg (Q:=fun r s'=>r=w/\EP X pins σ Q r s') pl.isList (by omega) (by rw [List.size_toArray] <;> omega) (by omega) (by rw [hj];simpa using ew) ⟨rfl,fin⟩) hs
theorem bc:IxR X (HY X.K):=by
 intro value slice pins s σ H x y v u Q I rx ry h hs;obtain ⟨p,xs,i,z,rfl,rfl,hq,he,q⟩:=h;cases rx;obtain ⟨t,rfl⟩:=ry;obtain ⟨its,r,pl,hz⟩:=I.tuple hq;obtain ⟨j,h1,h2,h3,h4,h5⟩:=xn he;obtain ⟨w,ew,rw'⟩:=r.get h2;have hl:=r.length;have hn:=lV;have fin:EP X pins σ Q w s:=⟨z,H,I,rw',q⟩;exact subscriptTail_builtinR (x:=w) pl.typeIs slot_tuple_getitem.lookup
   (getItem_tuple (j:=j) (Q:=fun r s'=>r=w/\EP X pins σ Q r s') pl (by omega) (by omega) (by rw [List.size_toArray,<- hl];exact h1) (by simpa using ew) ⟨rfl,fin⟩) hs
theorem D7 (its:List Value) (n j:Nat) (u:Value):Obj.mapSeq (·.setIfInBounds j u) { cls:=.type "list",data:=.seq its.toArray n }={ cls:=.type "list",data:=.seq (its.set j u).toArray n }:=by
 simp [Obj.mapSeq]
theorem Inv.lst {pins:List (Addr × Obj)} {σ:St} {H:Hp} {s:Shared} {p:Addr} {xs:List V} (I:Inv X pins σ H s) (h:H p=some (.lst xs)) :
   ∃ (its:List Value) (n:Nat),Vals xs its/\s.heap.get? p=some { cls:=.type "list",data:=.seq its.toArray n }/\xs.length<=sizeLine:=by
 obtain ⟨z,its,n,r,e⟩:=I.hok p _ h;exact ⟨its,n,r,e,z⟩
theorem Inv.lstUpd {pins:List (Addr × Obj)} {σ:St} {H:Hp} {s:Shared} {p:Addr} {xs ys:List V} {its its':List Value} {n n':Nat} {f:Obj->Obj} (I:Inv X pins σ H s) (h:H p=some (.lst xs))
   (ho:s.heap.get? p=some { cls:=.type "list",data:=.seq its.toArray n }) (hf:f { cls:=.type "list",data:=.seq its.toArray n }={ cls:=.type "list",data:=.seq its'.toArray n' }) (r:Vals ys its') (hz:ys.length<=sizeLine) (t:Nat) :
   Inv X pins σ (upd H p (.lst ys)) { s with heap:=s.heap.update p f,toks:=t }:=by
 have e:(s.heap.update p f).get? p=some { cls:=.type "list",data:=.seq its'.toArray n' }:=by
   rw [Heap.get?_update_self f ho (by rw [hf] <;> rfl),hf]
 refine I.write (x:=p) (e:=p) (by rw [h];trivial) (.inl rfl) (fun b u hb q=>(Heap.get?_update_other _ _ (Ne.symm hb)).trans q) ⟨_,e⟩ ?_;exact ⟨hz,its',n',r,e⟩
def rSetL:V->V->V->Hp->(Hp->Prop)->Prop:=fun o i v H Q=>∃ p xs k j,o=.ref p/\i=.int k/\H p=some (.lst xs)/\ixN xs.length k=some j/\Q (upd H p (.lst (xs.set j v)))
theorem gF:Hh X rSetL:=by
 intro pins s σ H o i v ov iv u Q I ro ri rv h;obtain ⟨p,xs,k,j,rfl,rfl,hp,hj,q⟩:=h;cases ro;obtain ⟨t,rfl⟩:=ri;obtain ⟨its,n,r,ho,hz⟩:=I.lst hp;obtain ⟨h1,h2,h3,h4⟩:=Dr hj;have hl:=r.length;have hn:=lV;have I':Inv X pins σ (upd H p (.lst (xs.set j v))) { s with heap:=s.heap.update p (Obj.mapSeq (·.setIfInBounds j u)) } :=
   I.lstUpd hp ho (D7 its n j u) (r.set rv j) (by rw [List.length_set];exact hz) s.toks
 by_cases h0:0<=k
 . have hk:k.toNat=j:=by
     rw [seqIndex_of h0 h4] at h1;exact Option.some.inj h1
   exact PySem.W.ki_setAt ho h0 (by omega) (by rw [List.size_toArray,<- hl];exact h4) (by rw [hk];exact ⟨_,I',q⟩)
 . have hk:(k+(its.toArray.size:Int)).toNat=j:=by
     rw [seqIndex_neg (by omega) h3] at h1;rw [List.size_toArray,<- hl];exact Option.some.inj h1
   exact PySem.W.ki_setBack ho (by omega) (by rw [List.size_toArray,<- hl];exact h3) (by omega) (by rw [hk];exact ⟨_,I',q⟩)
def lJ:V->Bool
 | .non=>true
 | .bl _=>true
 | .int _=>true
 | .str _=>true
 | _=>false
def eqV:V->V->Bool
 | .non,.non=>true
 | .bl a,.bl b=>a == b
 | .bl a,.int b=>(if a then 1 else 0) == b
 | .int a,.bl b=>a == (if b then 1 else 0)
 | .int a,.int b=>a == b
 | .str a,.str b=>a == b
 | _,_=>false
theorem Lx {A:Around} {s:Shared} {y x:V} {u v:Value} (ry:RelV y u) (rx:RelV x v) (fy:lJ y=true) (fx:lJ x=true):SeqAt.EqAt A s u v (eqV y x):=by
 cases y with
 | non =>
   cases ry;cases x with
   | non=>cases rx;exact SeqAt.EqAt.same _
   | bl b=>cases rx;exact SeqAt.EqAt.none_bool b
   | int b=>obtain ⟨t,rfl⟩:=rx;exact SeqAt.EqAt.none_int b t
   | str b=>obtain ⟨t,rfl⟩:=rx;exact SeqAt.EqAt.none_str b t
   | _=>exact absurd (show false=true from fx) Bool.false_ne_true
 | bl a =>
   cases ry;cases x with
   | non=>cases rx;exact SeqAt.EqAt.bool_none a
   | bl b=>cases rx;exact SeqAt.EqAt.bool_bool a b
   | int b=>obtain ⟨t,rfl⟩:=rx;exact SeqAt.EqAt.bool_int a b t
   | str b=>obtain ⟨t,rfl⟩:=rx;exact SeqAt.EqAt.bool_str a b t
   | _=>exact absurd (show false=true from fx) Bool.false_ne_true
 | int a =>
   obtain ⟨t',rfl⟩:=ry;cases x with
   | non=>cases rx;exact SeqAt.EqAt.int_none a t'
   | bl b=>cases rx;exact SeqAt.EqAt.int_bool a t' b
   | int b=>obtain ⟨t,rfl⟩:=rx;exact SeqAt.EqAt.int_int a t' b t
   | str b=>obtain ⟨t,rfl⟩:=rx;exact SeqAt.EqAt.int_str a t' b t
   | _=>exact absurd (show false=true from fx) Bool.false_ne_true
 | str a =>
   obtain ⟨t',rfl⟩:=ry;cases x with
   | non=>cases rx;exact SeqAt.EqAt.str_none a t'
   | bl b=>cases rx;exact SeqAt.EqAt.str_bool a t' b
   | int b=>obtain ⟨t,rfl⟩:=rx;exact SeqAt.EqAt.str_int a t' b t
   | str b=>obtain ⟨t,rfl⟩:=rx;exact SeqAt.EqAt.str_str a t' b t
   | _=>exact absurd (show false=true from fx) Bool.false_ne_true
 | _=>exact absurd (show false=true from fy) Bool.false_ne_true
def eqU (x:V) (u:Value):Bool:=match u with
 | .none=>eqV .non x
 | .bool b=>eqV (.bl b) x
 | .int i _=>eqV (.int i) x
 | .str z _=>eqV (.str z) x
 | _=>false
theorem F6 {x y:V} {u:Value} (r:RelV y u) (f:lJ y=true):eqU x u=eqV y x:=by
 cases y with
 | non=>cases r;rfl
 | bl b=>cases r;rfl
 | int i=>obtain ⟨t,rfl⟩:=r;rfl
 | str z=>obtain ⟨t,rfl⟩:=r;rfl
 | _=>exact absurd (show false=true from f) Bool.false_ne_true
theorem xw {x:V}:∀ {xs:List V} {us:List Value},Vals xs us->xs.all lJ=true->us.any (eqU x)=xs.any fun y=>eqV y x
 | _,_,.nil,_=>rfl
 | y::xs,u::us,.cons r t,f=>by
   rw [List.all_cons,Bool.and_eq_true] at f;rw [List.any_cons,List.any_cons,F6 r f.1,xw t f.2]
theorem uz {A:Around} {s:Shared} {x:V} {v:Value} (rx:RelV x v) (fx:lJ x=true):∀ {xs:List V} {us:List Value},Vals xs us->xs.all lJ=true->∀ u∈us,SeqAt.EqAt A s u v (eqU x u)
 | _,_,.nil,_=>fun u hu=>by cases hu
 | y::xs,u::us,.cons r t,f=>fun u' hu=>by
   rw [List.all_cons,Bool.and_eq_true] at f;rcases List.mem_cons.mp hu with rfl|hu
   . rw [F6 r f.1];exact Lx r rx f.1 fx
   . exact uz rx fx t f.2 u' hu
def inV (x:V) (xs:List V):Bool:=xs.any fun y=>eqV y x
def rIn (K:PySem.W.Frag) (neg:Bool):R2:=fun x y H Q=>∃ p xs,y=.ref p/\(SqL K H p xs\/SqT K H p xs)/\lJ x=true/\xs.all lJ=true/\Q (.bl (if neg then !inV x xs else inV x xs)) H
theorem Fj:OpR X (compareOp .In) (rIn X.K false):=by
 intro pins s σ H x y v u Q I rx ry h;obtain ⟨p,xs,rfl,hq,fx,fs,q⟩:=h;cases ry;rcases hq with hq|hq
 . obtain ⟨its,r,pl,hz⟩:=I.list hq;refine SeqAt.in_listAt (eqU x) pl.isList (fun w hw=>uz rx fx r fs w (by simpa using hw)) ⟨.bl _,H,I,rfl,?_⟩;rw [show its.toArray.any (eqU x)=its.any (eqU x) by simp,xw r fs];exact q
 . obtain ⟨its,r,pl,hz⟩:=I.tuple hq;refine SeqAt.in_tupleAt (eqU x) pl (fun w hw=>uz rx fx r fs w (by simpa using hw)) ⟨.bl _,H,I,rfl,?_⟩;rw [show its.toArray.any (eqU x)=its.any (eqU x) by simp,xw r fs];exact q
theorem bx:kb X (.builtin "len") (fun xs H Q=>∃ p ys,xs=[.ref p]/\(SqL X.K H p ys\/SqT X.K H p ys)/\Q (.int ys.length) H):=by
 intro pins s σ H xs us Q I r h;obtain ⟨p,ys,rfl,hq,q⟩:=h;obtain ⟨u,rfl,rx⟩:=tR r;cases rx;have hn:=lV;rcases hq with hq|hq
 . obtain ⟨its,r',pl,hz⟩:=I.list hq;have hlen:=r'.length;exact Calls.call_len_list pl.isList (by simp only [List.size_toArray] <;> omega) ⟨.int ys.length,H,I.tok _,⟨s.toks+1,by rw [List.size_toArray,hlen]⟩,q⟩
 . obtain ⟨its,r',pl,hz⟩:=I.tuple hq;have hlen:=r'.length;exact len_tuple pl (by simp only [List.size_toArray] <;> omega) ⟨.int ys.length,H,I.tok _,⟨s.toks+1,by rw [List.size_toArray,hlen]⟩,q⟩
theorem gu:kb X (.type "list") (fun xs H Q=>∃ p ys,xs=[.ref p]/\(SqL X.K H p ys\/SqT X.K H p ys)/\∀ l,H l=none->Q (.ref l) (upd H l (.lst ys))):=by
 intro pins s σ H xs us Q I r h;obtain ⟨p,ys,rfl,hq,q⟩:=h;obtain ⟨u,rfl,rx⟩:=tR r;cases rx;have fin:∀ (its:List Value),Vals ys its->ys.length<=sizeLine->∀ (h':Heap) (c':Nat),(∀ b o',s.heap.get? b=some o'->h'.get? b=some o') ->
     h'.get? s.heap.objs.size=some { cls:=.type "list",dict:=none,data:=.seq its.toArray c',slots:=#[] }->EP X pins σ Q (.ref s.heap.objs.size) { s with heap:=h' }:=fun its r' hz h' c' kp e =>
   ⟨.ref s.heap.objs.size,_,I.laid (t':=s.toks) kp (Nat.le_refl _) (show ObjOk X.prog X.w _ h' _ (.lst ys) from ⟨hz,its,c',r',e⟩),rfl,q _ (I.hok.fresh (Nat.le_refl _))⟩
 rcases hq with hq|hq
 . obtain ⟨its,r',pl,hz⟩:=I.list hq;have hlen:=r'.length;obtain ⟨o,ho,hc,n,hd⟩:=pl.isList;exact call_list_seq p (.inl rfl) ho hc hd (fun h' c' kp e=>fin its r' hz h' c' kp e) (by simp only [List.size_toArray] <;> omega)
 . obtain ⟨its,r',pl,hz⟩:=I.tuple hq;have hlen:=r'.length;obtain ⟨o,ho,hc,n,hd⟩:=pl;exact call_list_seq p (.inr rfl) ho hc hd (fun h' c' kp e=>fin its r' hz h' c' kp e) (by simp only [List.size_toArray] <;> omega)
theorem dn:kb X (.type "tuple") (fun xs H Q=>∃ p ys,xs=[.ref p]/\((SqL X.K H p ys/\∀ l,H l=none->Q (.ref l) (upd H l (.tup ys)))\/(SqT X.K H p ys/\Q (.ref p) H))):=by
 intro pins s σ H xs us Q I r h;obtain ⟨p,ys,rfl,h⟩:=h;obtain ⟨u,rfl,rx⟩:=tR r;cases rx;rcases h with ⟨hq,q⟩|⟨hq,q⟩
 . obtain ⟨its,r',pl,hz⟩:=I.list hq;have hlen:=r'.length;refine call_tuple_list pl.isList (fun h' kp=>?_) (by simp only [List.size_toArray] <;> omega);have I1:Inv X pins σ H { s with heap:=h' }:=I.kept (t':=s.toks) kp;have I2:Inv X pins σ (upd H h'.objs.size (.tup ys)) { s with heap:=h'.push { cls:=.type "tuple",data:=.seq its.toArray } } :=
     I1.laid (t':=s.toks) (fun b o e=>Heap.get?_push_of_some _ e) (Nat.le_refl _) (show ObjOk X.prog X.w _ _ _ (.tup ys) from ⟨hz,its,r',IsTup.new _ _⟩)
   exact ⟨.ref h'.objs.size,_,I2,rfl,q _ (I1.hok.fresh (Nat.le_refl _))⟩
 . obtain ⟨its,r',pl,hz⟩:=I.tuple hq;exact call_tuple_same pl ⟨.ref p,H,I,rfl,q⟩
def tyV (K:PySem.W.Frag) (T:String) (x:V) (H:Hp):Prop:=match x with
 | .str _=>T="str"
 | .int _=>T="int"
 | .ref p=>(T="list"/\∃ xs,SqL K H p xs)\/(T="tuple"/\∃ o,K.lookup p=some o/\o.cls=.type "tuple"/\o.dict=none) \/
     (T="dict"/\((∃ kvs,H p=some (.dK kvs))\/∃ kvs,H p=some (.dT kvs)))\/(T="set"/\∃ S n,H p=some (.set S n))
 | _=>False
theorem FM {pins:List (Addr × Obj)} {σ:St} {H:Hp} {s:Shared} {T:String} {x:V} {v:Value} (I:Inv X pins σ H s) (r:RelV x v) (ty:tyV X.K T x H) :
   s.TypeIs v T/\∀ a,v=.ref a->∃ ob,s.heap.get? a=some ob/\ob.dict=none:=by
 cases x with
 | str z =>
   obtain ⟨t,rfl⟩:=r;cases (show T="str" from ty);exact ⟨typeIs_str s z t,fun _ e=>nomatch e⟩
 | int i =>
   obtain ⟨t,rfl⟩:=r;cases (show T="int" from ty);exact ⟨typeIs_int s i t,fun _ e=>nomatch e⟩
 | ref p =>
   cases r;rcases ty with ⟨rfl,xs,hq⟩|⟨rfl,o,hk,hc,hd⟩|⟨rfl,hk⟩|⟨rfl,S,n,hk⟩
   . obtain ⟨its,_,pl,_⟩:=I.list hq;refine ⟨pl.isList.typeIs,fun a e=>?_⟩;cases e;obtain ⟨o,n,e,c,hd,_⟩:=pl;exact ⟨o,e,hd⟩
   . refine ⟨⟨o,I.kIn p o hk,hc⟩,fun a e=>?_⟩;cases e;exact ⟨o,I.kIn _ o hk,hd⟩
   . have z:∃ o,s.heap.get? p=some o/\o.ExactDict:=by
       rcases hk with ⟨kvs,hk⟩|⟨kvs,hk⟩
       . obtain ⟨_,_,_,_,o,_,_,e,ex,_⟩:=I.hok p _ hk;exact ⟨o,e,ex⟩
       . obtain ⟨_,_,_,_,o,_,_,e,ex,_⟩:=I.hok p _ hk;exact ⟨o,e,ex⟩
     obtain ⟨o,e,ex⟩:=z;refine ⟨⟨o,e,ex.1⟩,fun a e2=>?_⟩;cases e2;exact ⟨o,e,ex.2.1⟩
   . obtain ⟨o,_,_,_,e,ex,_⟩:=I.hok p _ hk;refine ⟨⟨o,e,ex.1⟩,fun a e2=>?_⟩;cases e2;exact ⟨o,e,ex.2.1⟩
 | _=>exact False.elim ty
def Iw (K:PySem.W.Frag) (T:String) (r:V->List V->Hp->VK->Prop) (to:TE):TE:=fun σ H Q=>to σ H fun x H1=>tyV K T x H1/\r x [] H1 Q
def tBM (K:PySem.W.Frag) (T:String) (r:V->List V->Hp->VK->Prop) (to:TE) (t:TA):TE:=fun σ H Q=>to σ H fun x H1=>tyV K T x H1/\t σ H1 fun xs H2=>r x xs H2 Q
variable {o e:Expr} {es:List Expr} {to:TE} {t:TA} {name:Str} {apos cpos:Pos} {T id:String} {r:V->List V->Hp->VK->Prop}
theorem vu (pa:PlainAttrs T) (slot:Slot T name id) (hty:typeOf (.builtin id)=pure (.type "method_descriptor")) (hm:MtR X id r) (ho:PE X o to)
   (hbase:attributeBase o name X.env (eval o X.env)=eval o X.env:=by rfl) (hline:(apos.endLine == cpos.line)=true:=by rfl):PE X (.Call (.Attribute o name apos) [] [] cpos) (Iw X.K T r to):=by
 intro pins s σ H Q I h;refine wpAny_Call_method0_late hbase hline (bh (ho pins s σ H _ I h) fun v s1 x H1 I1 r1 ⟨ty,q1⟩=>?_);obtain ⟨h1,h2⟩:=FM I1 r1 ty;exact ⟨T,id,pa,slot,hty,h1,h2,Calls.callWith_builtin rfl (PySem.evalArgs_none (hm pins s1 σ H1 x [] v [] Q I1 r1 .nil q1))⟩
theorem lO (pa:PlainAttrs T) (slot:Slot T name id) (hty:typeOf (.builtin id)=pure (.type "method_descriptor")) (hm:MtR X id r) (ho:PE X o to) (ha:PA X (e::es) t)
   (hbase:attributeBase o name X.env (eval o X.env)=eval o X.env:=by rfl)
   (hfew:((backTo cpos (starEach (e::es) X.env)).all (fun x=>!x.1) && (backToKw cpos (keywordEach [] X.env)).all (fun x=>x.1.isSome)
     && decide ((e::es).length+([]:List Keyword).length+(if ([]:List Keyword).isEmpty then 0 else 1)<30))=true:=by rfl)
   (hline:(apos.endLine == cpos.line)=true:=by rfl) (hs:starEach (e::es) X.env=(false,eval e X.env)::starEach es X.env:=by rfl) (hplain:(backTo cpos (starEach es X.env)).any (·.1)=false:=by rfl) :
   PE X (.Call (.Attribute o name apos) (e::es) [] cpos) (tBM X.K T r to t):=by
 intro pins s σ H Q I h;refine wpAny_Call_method_late hbase hfew hline rfl (bh (ho pins s σ H _ I h) fun v s1 x H1 I1 r1 ⟨ty,q1⟩=>?_);obtain ⟨h1,h2⟩:=FM I1 r1 ty;refine ⟨T,id,pa,slot,hty,h1,h2,?_⟩;have hA:=ha cpos pins s1 σ H1 _ I1 q1;rw [hs] at hA ⊢;refine Calls.callWith_builtin (by show (false || (backTo cpos (starEach es X.env)).any (·.1))=false;rw [hplain] <;> rfl) (Calls.evalArgs_plain ?_);exact thn hA fun us s2 ⟨vs,H2,I2,r2,q2⟩=>hm pins s2 σ H2 x vs v us Q I2 r1 r2 q2
end
end L2
namespace L2
open PySem PySem.Spec PyProof.Rows
def MtM (X:Cx) (id:String) (r:V->List V->Hp->VK->Prop):Prop :=
 ∀ (pins:List (Addr × Obj)) (s:Shared) (σ:St) (H:Hp) (x:V) (xs:List V) (v:Value) (us:List Value) (Q:VK),Inv X pins σ H s->RelV x v->Vals xs us->r x xs H Q ->
   wpAny (model X.prog X.w) X.A (call (.builtin id) (v::us)) (EP X pins σ Q) X.xe s
theorem Vals.one {x:V} {us:List Value} (h:Vals [x] us):∃ u,us=[u]/\RelV x u:=by
 cases h with
 | cons r t=>cases t;exact ⟨_,rfl,r⟩
theorem Vals.two {x y:V} {us:List Value} (h:Vals [x,y] us):∃ u v,us=[u,v]/\RelV x u/\RelV y v:=by
 cases h with
 | cons r t =>
   obtain ⟨v,e,q⟩:=Vals.one t;subst e;exact ⟨_,v,rfl,r,q⟩
theorem Vals.zero:∀ {us:List Value},Vals [] us->us=[]
 | _,.nil=>rfl
theorem Vals.dropLast {xs:List V} {us:List Value} (h:Vals xs us):Vals xs.dropLast us.dropLast:=by
 induction h with
 | nil=>exact .nil
 | cons r t ih =>
   cases t with
   | nil=>exact .nil
   | cons q t'=>exact .cons r ih
theorem Vals.rep {xs:List V} {us:List Value} (h:Vals xs us):∀ k:Nat,Vals (List.replicate k xs).flatten (List.replicate k us).flatten
 | 0=>.nil
 | k+1=>by
   rw [List.replicate_succ,List.replicate_succ,List.flatten_cons,List.flatten_cons];exact Vals.append h (Vals.rep h k)
theorem EI {α:Type} (l:List α):l.eraseIdx (l.length - 1)=l.dropLast:=by
 induction l with
 | nil=>rfl
 | cons a r ih =>
   cases r with
   | nil=>rfl
   | cons b r =>
     have e:(a::b::r).length - 1=((b::r).length - 1)+1:=by
       have h1:(a::b::r).length=r.length+2:=rfl;have h2:(b::r).length=r.length+1:=rfl;omega
     rw [e,List.eraseIdx_cons_succ,ih]
     all_goals rfl
theorem yf (its:List Value):∀ (k:Nat) (acc:List Value),
   List.foldl (fun x1 x2=>x1++x2) acc.toArray (List.replicate k its.toArray)=(acc++(List.replicate k its).flatten).toArray
 | 0,acc=>by simp
 | k+1,acc=>by
   have e:acc.toArray++its.toArray=(acc++its).toArray:=by simp
   have e2:(acc++its)++(List.replicate k its).flatten=acc++(List.replicate (k+1) its).flatten:=by
     rw [List.replicate_succ,List.flatten_cons,List.append_assoc]
   rw [<- e2,<- yf its k (acc++its),<- e,List.replicate_succ,List.foldl_cons]
section
variable {X:Cx} {pins:List (Addr × Obj)} {σ:St} {H:Hp} {s:Shared} {l b:Addr} {xs ys zs:List V}
theorem Inv.lset {its its':List Value} {n:Nat} {f:Array Value->Array Value} {t':Nat} (I:Inv X pins σ H s) (hH:H l=some (.lst xs))
   (e:s.heap.get? l=some { cls:=.type "list",data:=.seq its.toArray n }) (hf:f its.toArray=its'.toArray) (hv:Vals ys its') (hz:ys.length<=sizeLine) :
   Inv X pins σ (upd H l (.lst ys)) { s with heap:=s.heap.update l (Obj.mapSeq f),toks:=t' }:=by
 have q:=PySem.IsL.update e f;rw [hf] at q;refine I.write (x:=l) (e:=l) (by rw [hH];exact trivial) (.inl rfl) (fun b' u hb hu=>(Heap.get?_update_other s.heap (Obj.mapSeq f) (Ne.symm hb)).trans hu) ⟨_,q⟩ ?_;exact ⟨hz,its',_,hv,q⟩
theorem Inv.lnew {its:List Value} {t':Nat} (I:Inv X pins σ H s) (hv:Vals ys its) (hz:ys.length<=sizeLine) :
   Inv X pins σ (upd H s.heap.objs.size (.lst ys)) { s with heap:=s.heap.push { cls:=.type "list",data:=.seq its.toArray },toks:=t' } :=
 I.laid (fun _ _ q=>Heap.get?_push_of_some _ q) (Nat.le_refl _) ⟨hz,its,0,hv,Heap.get?_push_size _ rfl⟩
theorem Inv.fresh (I:Inv X pins σ H s):H s.heap.objs.size=none:=I.hok.fresh (Nat.le_refl _)
theorem Inv.lstM (I:Inv X pins σ H s) (hH:H l=some (.lst xs)):xs.length<=sizeLine/\∃ (its:List Value) (n:Nat),Vals xs its/\xs.length=its.length/\s.heap.get? l=some { cls:=.type "list",data:=.seq its.toArray n }:=by
 obtain ⟨z,its,n,r,e⟩:=I.hok l _ hH;exact ⟨z,its,n,r,r.length,e⟩
theorem GS {n:Nat} (h:n<=sizeLine):Builtin.List.listTooLong n=false:=by
 unfold Builtin.List.listTooLong;exact decide_eq_false (by omega)
end
section
variable {X:Cx}
def rAppend:V->List V->Hp->VK->Prop:=fun x vs H Q=>∃ l xs y,x=.ref l/\vs=[y]/\H l=some (.lst xs)/\xs.length<sizeLine/\Q .non (upd H l (.lst (xs++[y])))
theorem d6:MtM X "list.append" rAppend:=by
 intro pins s σ H x vs v us Q I rx rv h;obtain ⟨l,xs,y,rfl,rfl,hH,hz,q⟩:=h;cases rx;obtain ⟨u,rfl,ru⟩:=rv.one;obtain ⟨z,its,n,r,hl,e⟩:=I.lstM hH;refine call_meets F.slot_list_append ⟨_,e,rfl⟩ F.entry_list_append (F.args_list_append_2 _ _) (PySem.list_append l its.toArray n u (by rw [List.size_toArray];omega)) ⟨e,?_⟩;refine ⟨.non,_,I.lset (its':=its++[u]) hH e (by simp) (r.append (.cons ru .nil)) ?_,rfl,q⟩;rw [List.length_append,List.length_singleton];omega
def rPop:V->List V->Hp->VK->Prop:=fun x vs H Q=>∃ l xs y,x=.ref l/\vs=[]/\H l=some (.lst xs)/\xs[xs.length - 1]?=some y/\Q y (upd H l (.lst xs.dropLast))
theorem vA:MtM X "list.pop" rPop:=by
 intro pins s σ H x vs v us Q I rx rv h;obtain ⟨l,xs,y,rfl,rfl,hH,hy,q⟩:=h;cases rx;have hus:=rv.zero;subst hus;obtain ⟨z,its,n,r,hl,e⟩:=I.lstM hH;obtain ⟨u,hu,ru⟩:=r.get hy;have hy':its.toArray[its.toArray.size - 1]?=some u:=by
   show its.toArray[its.length - 1]?=some u;rw [<- Array.getElem?_toList,<- hl];exact hu
 refine call_meets F.slot_list_pop ⟨_,e,rfl⟩ F.entry_list_pop (F.args_list_pop_1 _) (MeetsSeq.list_pop_last l its.toArray n u hy' (by rw [List.size_toArray];omega)) ⟨e,?_⟩;refine ⟨y,_,I.lset (its':=its.dropLast) hH e ?_ r.dropLast ?_,ru,q⟩
 . show its.toArray.eraseIdxIfInBounds (its.toArray.size - 1)=its.dropLast.toArray;rw [List.size_toArray,List.eraseIdxIfInBounds_toArray,EI]
 . rw [List.length_dropLast];omega
def rRep:R2:=fun x y H Q=>∃ l k xs,x=.ref l/\y=.int k/\H l=some (.lst xs)/\-(2^63)<=k/\k<2^63/\xs.length*k.toNat<=sizeLine /\
 ∀ p,H p=none->Q (.ref p) (upd H p (.lst (List.replicate k.toNat xs).flatten))
theorem Kt {α:Type} (xs:List α) (k:Nat):(List.replicate k xs).flatten.length=k*xs.length:=by
 induction k with
 | zero=>simp
 | succ k ih=>rw [List.replicate_succ,List.flatten_cons,List.length_append,ih,Nat.succ_mul,Nat.add_comm]
theorem pr:OpR X (binaryOp .Mult) rRep:=by
 intro pins s σ H x y v u Q I rx ry h;obtain ⟨l,k,xs,rfl,rfl,hH,h1,h2,hz,q⟩:=h;cases rx;obtain ⟨t,rfl⟩:=ry;obtain ⟨z,its,n,r,hl,e⟩:=I.lstM hH;have hlen:its.toArray.size*k.toNat<=sizeLine:=by rw [List.size_toArray,<- hl];exact hz
 have hcap:¬ its.toArray.size*k.toNat > (2^63 - 1) / 8:=by
   have:(sizeLine:Nat)<=(2^63 - 1) / 8:=by decide
   omega
 have hfit:¬ (!Builtin.List.listFitsIndex k)=true:=by
   rw [fitsIndex_both h1 h2];exact Bool.false_ne_true
 have hlong:¬ Builtin.List.listTooLong (its.toArray.size*k.toNat)=true:=by
   rw [GS hlen];exact Bool.false_ne_true
 have hnew:List.foldl (fun x1 x2=>x1++x2) #[] (List.replicate (if its.toArray.isEmpty=true then 0 else k.toNat) its.toArray)=(List.replicate k.toNat its).flatten.toArray:=by
   have f0:∀ m:Nat,List.foldl (fun x1 x2=>x1++x2) #[] (List.replicate m its.toArray)=(List.replicate m its).flatten.toArray:=fun m=>by
     have:=yf its m [];rw [List.nil_append] at this;exact this
   rw [f0];cases its with
   | nil=>simp
   | cons a r'=>rw [if_neg (by simp)]
 refine wpAny_binaryOp_repeat_ref (T:="list") (U:="int") (by decide) ⟨_,e,rfl⟩ (fun s'=>typeIs_int s' k t) noFill_list_mul F.fills_int_mul F.slot_int_rmul repeat_list F.slot_int_index.lookup
   (call_meets F.slot_int_rmul (typeIs_int s k t) F.entry_int_rmul (F.args_int_rmul_2 _ _) (int___rmul___int_list k t l its.toArray n)
     ⟨e,rfl,⟨_,e,rfl⟩,call_meets F.slot_list_mul ⟨_,e,rfl⟩ F.entry_list_mul (F.args_list_mul_2 _ _) (AutoListH.list___mul___list_int_3 l its.toArray n k t hfit hcap hlong) ⟨e,?_⟩⟩)
 rw [hnew];exact ⟨.ref _,_,I.lnew (t':=s.toks) (r.rep k.toNat) (by rw [Kt,Nat.mul_comm];exact hz),rfl,q _ I.fresh⟩
end
section
variable {prog:Program} {w:World} {A:Around} {E:Value->Shared->Prop} {s:Shared}
set_option maxRecDepth 100000 in
end
section
variable {X:Cx}
end
end L2
namespace L2
open PySem PySem.Spec PyProof.Rows
section
variable {κ:Type} [DecidableEq κ]
def jZ (kvs:List (κ × V)) (k:κ):Option V:=(kvs.find? fun kv=>decide (kv.1=k)).map (·.2)
def fN (kvs:List (κ × V)) (k:κ) (v:V):List (κ × V) :=
 if (kvs.any fun kv=>decide (kv.1=k))=true then kvs.map (fun kv=>if kv.1=k then (kv.1,v) else kv) else kvs++[(k,v)]
theorem qk {p:κ × V} {r:List (κ × V)} {k:κ} (e:p.1=k):jZ (p::r) k=some p.2:=by simp [jZ,List.find?_cons,e]
theorem pJ {p:κ × V} {r:List (κ × V)} {k:κ} (e:¬ p.1=k):jZ (p::r) k=jZ r k:=by simp [jZ,List.find?_cons,e]
theorem vh (k:κ):∀ kvs:List (κ × V),(kvs.any fun kv=>decide (kv.1=k))=(jZ kvs k).isSome
 | []=>rfl
 | p::r=>by
   rw [List.any_cons];by_cases e:p.1=k
   . simp only [qk e,decide_eq_true e,Bool.true_or,Option.isSome_some]
   . rw [pJ e,decide_eq_false e,Bool.false_or];exact vh k r
theorem oJ (kvs:List (κ × V)) (k:κ) (v:V):(fN kvs k v).length<=kvs.length+1:=by
 unfold fN;split
 . rw [List.length_map];omega
 . rw [List.length_append,List.length_cons,List.length_nil];omega
theorem JF {kvs:List (κ × V)} {k:κ} (v:V) (h:jZ kvs k=none):fN kvs k v=kvs++[(k,v)]:=by
 unfold fN;rw [vh,h];exact if_neg (by decide)
theorem RelO.isSome_eq {o:Option V} {u:Option Value} (r:RelO o u):o.isSome=u.isSome:=by
 cases o with
 | none=>cases u with
   | none=>rfl
   | some _=>exact (show False from r).elim
 | some _=>cases u with
   | none=>exact (show False from r).elim
   | some _=>rfl
theorem KV.val {kvs:List (κ × V)} {vs:List (κ × Value)} (r:KV kvs vs) (k:κ):RelO (jZ kvs k) (valueAt vs k):=by
 unfold KV at r
 induction r with
 | nil=>exact True.intro
 | @cons p q ps qs h t ih =>
   obtain ⟨h1,h2⟩:=h;by_cases e:p.1=k
   . have e':q.1=k:=h1.symm.trans e;have b:valueAt (q::qs) k=some q.2:=(by simp [valueAt,List.find?_cons,e']);rw [qk e,b];exact h2
   . have e':¬ q.1=k:=fun z=>e (h1.trans z);have b:valueAt (q::qs) k=valueAt qs k:=(by simp [valueAt,List.find?_cons,e']);rw [pJ e,b];exact ih
theorem KV.any {kvs:List (κ × V)} {vs:List (κ × Value)} (r:KV kvs vs) (k:κ):(kvs.any fun kv=>decide (kv.1=k))=vs.any fun kv=>decide (kv.1=k):=by
 unfold KV at r
 induction r with
 | nil=>rfl
 | cons h t ih=>rw [List.any_cons,List.any_cons,ih,h.1]
theorem KV.repl {kvs:List (κ × V)} {vs:List (κ × Value)} (r:KV kvs vs) (k:κ) {y:V} {u:Value} (ry:RelV y u) :
   KV (kvs.map fun kv=>if kv.1=k then (kv.1,y) else kv) (vs.map fun kv=>if kv.1=k then (kv.1,u) else kv):=by
 unfold KV at r ⊢
 induction r with
 | nil=>exact .nil
 | @cons p q ps qs h t ih =>
   rw [List.map_cons,List.map_cons];refine .cons ?_ ih;obtain ⟨h1,h2⟩:=h;by_cases e:p.1=k
   . rw [if_pos e,if_pos (h1.symm.trans e)];exact ⟨h1,ry⟩
   . rw [if_neg e,if_neg (fun z=>e (h1.trans z))];exact ⟨h1,h2⟩
theorem KV.put {kvs:List (κ × V)} {vs:List (κ × Value)} (r:KV kvs vs) (k:κ) {y:V} {u:Value} (ry:RelV y u):KV (fN kvs k y) (stored vs k u):=by
 unfold fN stored;rw [r.any k];by_cases e:(vs.any fun kv=>decide (kv.1=k))=true
 . rw [if_pos e,if_pos e];exact r.repl k ry
 . rw [if_neg e,if_neg e];exact Paired.snoc r ⟨rfl,ry⟩
theorem KV.length {kvs:List (κ × V)} {vs:List (κ × Value)} (r:KV kvs vs):kvs.length=vs.length:=Paired.length r
end
theorem zC {P:Program} {w:World} {k:Key} {u:Value} (r:RelV (kV k) u):(cT P w).is k u=true:=by
 cases k with
 | inl i=>obtain ⟨t,e⟩:=(show ∃ t,u=Value.int i t from r);subst e;exact C6 P w i t
 | inr x=>obtain ⟨t,e⟩:=(show ∃ t,u=Value.str x t from r);subst e;exact CG P w x t
theorem yh {P:Program} {w:World}:∀ {ks:List Key} {us:List Value},Vals (ks.map kV) us->ItemsAre (cT P w) ks us
 | [],_,r=>by rw [List.map_nil] at r;cases r;exact .nil
 | k::ks,_,r=>by
   rw [List.map_cons] at r;cases r with
   | cons h t=>exact .cons (zC h) (yh t)
abbrev KT (H:Hp):List (List Key × V)->List (List Key × Addr × Value)->Prop:=Paired fun p q=>p.1=q.1/\H q.2.1=some (.tup (p.1.map kV))/\RelV p.2 q.2.2
theorem KT.val {H:Hp} {kvs:List (List Key × V)} {xs:List (List Key × Addr × Value)} (r:KT H kvs xs) (k:List Key):RelO (jZ kvs k) ((atKey xs k).map (·.2)):=by
 induction r with
 | nil=>exact True.intro
 | @cons p q ps qs h t ih =>
   obtain ⟨h1,_,h2⟩:=h;by_cases e:p.1=k
   . have e':q.1=k:=h1.symm.trans e;have b:atKey (q::qs) k=some q.2:=(by simp [atKey,List.find?_cons,e']);rw [qk e,b];exact h2
   . have e':¬ q.1=k:=fun z=>e (h1.trans z);have b:atKey (q::qs) k=atKey qs k:=(by simp [atKey,List.find?_cons,e']);rw [pJ e,b];exact ih
theorem KT.repl {H:Hp} {kvs:List (List Key × V)} {xs:List (List Key × Addr × Value)} (r:KT H kvs xs) (k:List Key) {y:V} {u:Value} (ry:RelV y u) :
   KT H (kvs.map fun kv=>if kv.1=k then (kv.1,y) else kv) (xs.map (putAt k u)):=by
 induction r with
 | nil=>exact .nil
 | @cons p q ps qs h t ih =>
   rw [List.map_cons,List.map_cons];refine .cons ?_ ih;obtain ⟨h1,h2,h3⟩:=h;unfold putAt;by_cases e:p.1=k
   . rw [if_pos e,if_pos (h1.symm.trans e)];exact ⟨h1,h2,ry⟩
   . rw [if_neg e,if_neg (fun z=>e (h1.trans z))];exact ⟨h1,h2,h3⟩
theorem KT.put {H:Hp} {kvs:List (List Key × V)} {xs:List (List Key × Addr × Value)} (r:KT H kvs xs) (k:List Key) {b:Addr} {y:V} {u:Value} (hb:H b=some (.tup (k.map kV))) (ry:RelV y u) :
   KT H (fN kvs k y) (storedH xs k b u):=by
 have e:(kvs.any fun kv=>decide (kv.1=k))=(atKey xs k).isSome:=by
   rw [vh,(r.val k).isSome_eq,Option.isSome_map]
 unfold fN storedH;rw [e];by_cases q:(atKey xs k).isSome=true
 . rw [if_pos q,if_pos q];exact r.repl k ry
 . rw [if_neg q,if_neg q];exact Paired.snoc r ⟨rfl,hb,ry⟩
theorem KT.keeps {H H':Hp} {kvs:List (List Key × V)} {xs:List (List Key × Addr × Value)} (r:KT H kvs xs) (ht:∀ b ys,H b=some (.tup ys)->H' b=some (.tup ys)):KT H' kvs xs :=
 Paired.mapP r fun _ _ z=>⟨z.1,ht _ _ z.2.1,z.2.2⟩
section
variable {P:Program} {w:World} {H:Hp} {h:Heap} {a:Addr}
theorem Kh {u:HO} (ok:HOk P w H h) (e:Rd H a u):ObjOk P w H h a u:=e.ok ok
theorem D8 {kvs:List (Key × V)} (ok:HOk P w H h) (e:Rd H a (.dK kvs)):kvs.length<=sizeLine/\(a == sysModules)=false/\∃ vs,KV kvs vs/\h.DictOf (cT P w) a vs :=
 show ObjOk P w H h a (.dK kvs) from Kh ok e
theorem Kf {kvs:List (Key × V)} (ok:HOk P w H h) (e:H a=some (.dK kvs)):kvs.length<=sizeLine/\(a == sysModules)=false/\∃ vs,KV kvs vs/\h.DictOf (cT P w) a vs:=D8 ok (.inl e)
theorem AF {ks:List Key} (ok:HOk P w H h) (e:H a=some (.tup (ks.map kV))):(tupleKind (cT P w)).is h ks a:=by
 obtain ⟨_,its,r,o,h1,h2,n,h3⟩:=(show ObjOk P w H h a (.tup (ks.map kV)) from ok a _ e);exact ⟨o,its.toArray,n,h1,h2,h3,by simpa using yh r⟩
theorem Kq {kvs:List (List Key × V)} (ok:HOk P w H h) (e:Rd H a (.dT kvs)):kvs.length<=sizeLine/\(a == sysModules)=false /\
   ∃ xs,KT H kvs xs/\h.DictOfH (tupleKind (cT P w)) a xs:=by
 obtain ⟨z,y,xs,r,o,es,ep,h1,h2,h3,h4,h5⟩:=(show ObjOk P w H h a (.dT kvs) from Kh ok e);refine ⟨z,y,xs,r,o,es,ep,h1,h2,h3,h4,fun x hx=>?_,h5⟩;have all:∀ {l:List (List Key × V)} {m:List (List Key × Addr × Value)},KT H l m->∀ x∈m,(tupleKind (cT P w)).is h x.1 x.2.1:=by
   intro l m q
   induction q with
   | nil=>intro x hx;exact nomatch hx
   | @cons p q ps qs hq t ih =>
     intro x hx;rcases List.mem_cons.mp hx with e|hx
     . subst e;exact AF ok (by rw [<- hq.1];exact hq.2.1)
     . exact ih x hx
 exact all r x hx
theorem ML {kvs:List (List Key × V)} (ok:HOk P w H h) (e:H a=some (.dT kvs)):kvs.length<=sizeLine/\(a == sysModules)=false /\
   ∃ xs,KT H kvs xs/\h.DictOfH (tupleKind (cT P w)) a xs:=Kq ok (.inl e)
end
def DGet (H:Hp) (a:Addr) (y:V) (r:Option V):Prop :=
 (∃ kvs k,Rd H a (.dK kvs)/\y=kV k/\r=jZ kvs k)\/∃ kvs k b,Rd H a (.dT kvs)/\y=.ref b/\H b=some (.tup (k.map kV))/\r=jZ kvs k
def DPut (H:Hp) (a:Addr) (y v:V) (H':Hp):Prop :=
 (∃ kvs k,H a=some (.dK kvs)/\y=kV k/\kvs.length<sizeLine/\H'=upd H a (.dK (fN kvs k v))) \/
 ∃ kvs k b,H a=some (.dT kvs)/\y=.ref b/\H b=some (.tup (k.map kV))/\kvs.length<sizeLine/\H'=upd H a (.dT (fN kvs k v))
theorem DGet.k {H:Hp} {a:Addr} {kvs:List (Key × V)} {k:Key} (e:H a=some (.dK kvs)):DGet H a (kV k) (jZ kvs k):=.inl ⟨kvs,k,.inl e,rfl,rfl⟩
theorem DPut.k {H:Hp} {a:Addr} {kvs:List (Key × V)} {k:Key} {v:V} (e:H a=some (.dK kvs)) (hl:kvs.length<sizeLine):DPut H a (kV k) v (upd H a (.dK (fN kvs k v))):=.inl ⟨kvs,k,e,rfl,hl,rfl⟩
section
variable {X:Cx} {pins:List (Addr × Obj)} {σ:St} {H:Hp} {s:Shared} {a:Addr} {y v:V} {u r:Value} {o:Option V} {A:Around} {E:Value->Shared->Prop}
theorem Inv.big (I:Inv X pins σ H s):sysModules<s.heap.objs.size:=by
 have h:mainGlobals<s.heap.objs.size:=(I.mod.glob.keeps I.bk).lt;exact Nat.lt_trans (by decide) h
theorem K8 {Q:Value->Shared->Prop} (hu:A.units+1<cLine) (I:Inv X pins σ H s) (g:DGet H a y o) (ry:RelV y u) (h:∀ s',Inv X pins σ H s'->Q (.bool (!o.isSome)) s') :
   wpAny (model X.prog X.w) A (compareOp .NotIn u (.ref a)) Q E s:=by
 rcases g with ⟨kvs,k,e,ey,l⟩|⟨kvs,k,b,e,ey,eb,l⟩
 . subst ey;obtain ⟨z,hd,vs,rel,dd⟩:=D8 I.hok e;refine wpAny_notIn_of (zC ry) hd dd.mapOf ?_;rw [<- (rel.val k).isSome_eq,<- l];exact h _ (I.tok _)
 . subst ey;cases (show u=Value.ref b from ry);obtain ⟨z,hd,xs,rel,dd⟩:=Kq I.hok e;refine wpAny_notIn_heap (tupleKind_room_in1 hu) (AF I.hok eb) hd dd ?_;have q:=(rel.val k).isSome_eq;rw [Option.isSome_map] at q;rw [<- q,<- l];exact h _ (I.tok _)
theorem xz {h':Heap} {t':Nat} {ob:HO} (I:Inv X pins σ H s) (mu:Mut (H a)) (hs:Heap.SameBut a s.heap h') (he:∃ q,h'.get? a=some q) (new:ObjOk X.prog X.w (upd H a ob) h' a ob) :
   Inv X pins σ (upd H a ob) { s with heap:=h',toks:=t' } :=
 I.write (x:=a) (e:=a) mu (.inl rfl) (fun b q hb z=>(hs.2 b hb).trans z) he new
theorem FC {P:Program} {w:World} {H':Hp} {h':Heap} {kvs:List (Key × V)} {vs:List (Key × Value)} (z:kvs.length<=sizeLine) (hd:(a == sysModules)=false) (rel:KV kvs vs) (dd:h'.DictOf (cT P w) a vs) :
   ObjOk P w H' h' a (.dK kvs):=⟨z,hd,vs,rel,dd⟩
theorem Fy {H':Hp} {Q:Unit->Shared->Prop} (hu:A.units+1<cLine) (I:Inv X pins σ H s) (g:DPut H a y v H') (ry:RelV y u) (rv:RelV v r) (h:∀ s',Inv X pins σ H' s'->Q () s') :
   wpAny (model X.prog X.w) A (setItem (.ref a) u r) Q E s:=by
 rcases g with ⟨kvs,k,e,ey,l,eH⟩|⟨kvs,k,b,e,ey,eb,l,eH⟩
 . subst ey eH;obtain ⟨z,hd,vs,rel,dd⟩:=Kf I.hok e;have hz:vs.length<=sizeLine:=by rw [<- rel.length];exact z
   have hl:(fN kvs k v).length<=sizeLine:=by have:=oJ kvs k v;omega
   refine wpAny_setItem_pairs (hsz:=hz) (zC ry) dd fun h' dd' hs=>h _ ?_;have he:∃ q,h'.get? a=some q:=let ⟨q,_,_,hq,_⟩:=dd';⟨q,hq⟩;exact xz I (by rw [e];exact True.intro) hs he (FC hl hd (rel.put k rv) dd')
 . subst ey eH;cases (show u=Value.ref b from ry);obtain ⟨z,hd,xs,rel,dd⟩:=ML I.hok e;have hz:xs.length<=sizeLine:=by rw [<- Paired.length rel];exact z
   have hl:(fN kvs k v).length<=sizeLine:=by have:=oJ kvs k v;omega
   refine wpAny_setItem_heap (hsz:=hz) (tupleKind_room_in1 hu) (AF I.hok eb) dd fun h' dd' hs=>h _ ?_;obtain ⟨q,es,ep,hq,h2,h3,h4,_,h5⟩:=dd';refine xz I (by rw [e];exact True.intro) hs ⟨q,hq⟩ ⟨hl,hd,_,(rel.put k eb rv).keeps fun c ys ec=>?_,q,es,ep,hq,h2,h3,h4,h5⟩;rw [ao (cy ec e (fun z=>nomatch z))];exact ec
end
section
variable {X:Cx} {pins:List (Addr × Obj)} {σ:St} {H:Hp} {s:Shared} {a:Addr} {kvs:List (Key × V)} {k:Key} {u:Value} {A:Around} {E:Value->Shared->Prop}
theorem MN {Q:Value->Shared->Prop} (I:Inv X pins σ H s) (e:Rd H a (.dK kvs)) (h:∀ t s',Inv X pins σ H s'->Q (.int kvs.length t) s'):wpAny (model X.prog X.w) A (call (.builtin "len") [.ref a]) Q E s:=by
 obtain ⟨z,hd,vs,rel,dd⟩:=D8 I.hok e;refine call_len_dict hd dd (by rw [<- rel.length];rw [sizeLine_eq] at z;omega) ?_;rw [<- rel.length];exact h _ _ (I.tok _)
end
def Kl (td ty:TE):TE:=fun σ H Q=>td σ H fun x H1=>ty σ H1 fun y H2=>∃ a v,x=.ref a/\DGet H2 a y (some v)/\Q v H2
def Ll (ty td:TE):TE:=fun σ H Q=>ty σ H fun y H1=>td σ H1 fun x H2=>∃ a o,x=.ref a/\DGet H2 a y o/\Q (.bl o.isSome) H2
def xc (ty td:TE):TE:=fun σ H Q=>ty σ H fun y H1=>td σ H1 fun x H2=>∃ a o,x=.ref a/\DGet H2 a y o/\Q (.bl (!o.isSome)) H2
def DQ (td ty tv:TE):TS:=fun D σ H=>tv σ H fun v H1=>td σ H1 fun x H2=>ty σ H2 fun y H3=>∃ a H4,x=.ref a/\DPut H3 a y v H4/\D.nx σ H4
section
variable {X:Cx} {o i e value:Expr} {pos pos' tpos:Pos} {td ty tv:TE}
theorem Ff (hu:X.A.units+1<cLine) (hi:PE X i ty) (ho:PE X o td):PC X .NotIn i o (xc ty td):=by
 intro pins s σ H Q I h;refine bh (hi pins s σ H _ I h) fun iv s1 y H1 I1 ry q1=>bh (ho pins s1 σ H1 _ I1 q1) fun u s2 x H2 I2 rx ⟨a,ov,ex,g,q2⟩=>?_;subst ex;obtain rfl:u=Value.ref a:=rx;exact K8 hu I2 g ry fun s3 I3=>⟨.bl (!ov.isSome),H2,I3,rfl,q2⟩
theorem K3 (hu:X.A.units+1<cLine) (ho:PE X o td) (hi:PE X i ty) (hv:PE X value tv) (hs:swapsWith value (some (.Subscript o i pos')) pos.line X.env=pure false) :
   PS X (.Assign [.Subscript o i pos'] value pos) (DQ td ty tv):=by
 intro pins s σ H D I h;refine wpAny_Assign_Subscript (bh (hv pins s σ H _ I h) fun r s1 v H1 I1 rv q1=>bh (ho pins s1 σ H1 _ I1 q1) fun u s2 x H2 I2 rx q2=>bh (hi pins s2 σ H2 _ I2 q2) fun iv s3 y H3 I3 ry ⟨a,H4,ex,g,q3⟩=>?_) hs;subst ex;obtain rfl:u=Value.ref a:=rx;exact Fy hu I3 g ry rv fun s4 I4=>⟨σ,H4,I4,q3⟩
end
theorem JE {P:Program} {w:World} {H:Hp} (h:Heap) (hb:sysModules<h.objs.size):ObjOk P w H (h.push { cls:=.type "dict",data:=.dict #[] }) h.objs.size (.dK []) :=
 ⟨Nat.zero_le _,beq_eq_false_iff_ne.mpr (Ne.symm (Nat.ne_of_lt hb)),[],.nil,Heap.DictOf.new h⟩
def FW:TE:=fun _ H Q=>∀ p,H p=none->Q (.ref p) (upd H p (.dK []))
def Gi:TE:=fun _ H Q=>∀ p,H p=none->Q (.ref p) (upd H p (.dT []))
section
variable {X:Cx} {pos:Pos}
end
def pe:List (TE × TE)->St->Hp->(List (V × V)->Hp->Prop)->Prop
 | [],_,H,Q=>Q [] H
 | (tk,tv)::r,σ,H,Q=>tk σ H fun x H1=>tv σ H1 fun y H2=>pe r σ H2 fun ps H3=>Q ((x,y)::ps) H3
abbrev VV:List (V × V)->List (Value × Value)->Prop:=Paired fun p q=>RelV p.1 q.1/\RelV p.2 q.2
def PPs (X:Cx) (pos:Pos) (keys:List (Option Expr)) (values:List Expr) (trs:List (TE × TE)):Prop :=
 ∀ (pins:List (Addr × Obj)) (s:Shared) (σ:St) (H:Hp) (Q:List (V × V)->Hp->Prop),Inv X pins σ H s->pe trs σ H Q ->
   wpAny (model X.prog X.w) X.A (evalPairs (pairTrees keys values X.env pos)) (fun vs s'=>∃ ps H',Inv X pins σ H' s'/\VV ps vs/\Q ps H') X.xe s
theorem Kw {X:Cx} {pos:Pos}:PPs X pos [] [] []:=fun pins s σ H Q I h=>pairTrees_nil_walk ⟨[],H,I,.nil,h⟩
theorem GZ {X:Cx} {pos:Pos} {k v:Expr} {ks:List (Option Expr)} {vs:List Expr} {tk tv:TE} {trs:List (TE × TE)} (hk:PE X k tk) (hv:PE X v tv) (hr:PPs X pos ks vs trs) :
   PPs X pos (some k::ks) (v::vs) ((tk,tv)::trs):=fun pins s σ H Q I h =>
 pairTrees_cons_walk (bh (hk pins s σ H _ I h) fun u s1 x H1 I1 rx q1=>bh (hv pins s1 σ H1 _ I1 q1) fun w2 s2 y H2 I2 ry q2 =>
   thn (hr pins s2 σ H2 _ I2 q2) fun ws s3 ⟨ps,H3,I3,rel,q3⟩=>⟨(x,y)::ps,H3,I3,.cons ⟨rx,ry⟩ rel,q3⟩)
def pC (kvs more:List (Key × V)):List (Key × V):=more.foldl (fun acc kv=>fN acc kv.1 kv.2) kvs
theorem KV.merge:∀ {more:List (Key × V)} {rs:List (Key × Value)} {kvs:List (Key × V)} {vs:List (Key × Value)},KV more rs->KV kvs vs->KV (pC kvs more) (merged vs rs):=by
 intro more rs kvs vs r;unfold KV at r
 induction r generalizing kvs vs with
 | nil=>intro q;exact q
 | @cons p q ps qs h t ih =>
   intro r0;have e:KV (fN kvs p.1 p.2) (stored vs q.1 q.2):=by
     have:=r0.put p.1 h.2;rw [<- h.1];exact this
   exact ih e
theorem ra:∀ (more kvs:List (Key × V)),(pC kvs more).length<=kvs.length+more.length
 | [],kvs=>by show kvs.length<=kvs.length+0;omega
 | p::r,kvs=>by
   have h1:=ra r (fN kvs p.1 p.2);have h2:=oJ kvs p.1 p.2;show (pC (fN kvs p.1 p.2) r).length<=_;rw [List.length_cons];omega
theorem vG {P:Program} {w:World}:∀ {kvs:List (Key × V)} {ws:List (Value × Value)},VV (kvs.map fun kv=>(kV kv.1,kv.2)) ws->∃ rs,Carries (cT P w) ws rs/\KV kvs rs
 | [],_,r=>by rw [List.map_nil] at r;cases r;exact ⟨[],True.intro,.nil⟩
 | p::kvs,_,r=>by
   rw [List.map_cons] at r;cases r with
   | @cons a b as bs h t =>
     obtain ⟨rs,c,q⟩:=vG (P:=P) (w:=w) t;obtain ⟨b1,b2⟩:=b;exact ⟨(p.1,b2)::rs,⟨zC h.1,rfl,c⟩,.cons ⟨rfl,h.2⟩ q⟩
def ET (trs:List (TE × TE)):TE:=fun σ H Q=>∀ p,H p=none->pe trs σ (upd H p (.dK [])) fun ps H2=>H2 p=some (.dK [])/\∃ kvs:List (Key × V),ps=kvs.map (fun kv=>(kV kv.1,kv.2))/\kvs.length<=15/\Q (.ref p) (upd H2 p (.dK (pC [] kvs)))
theorem KM {X:Cx} {pos:Pos} {keys:List (Option Expr)} {values:List Expr} {trs:List (TE × TE)} (h:PPs X pos keys values trs) (hall:keys.all (·.isSome)=true) (hl:keys.length=values.length) (h0:keys≠[])
   (h15:keys.length<=15):PE X (.Dict keys values pos) (ET trs):=by
 intro pins s σ H Q I q;have hn:=I.hok.fresh (Nat.le_refl s.heap.objs.size);have I1:=I.laid (a:=s.heap.objs.size) (o:=.dK []) (h':=s.heap.push { cls:=.type "dict",data:=.dict #[] }) (t':=s.toks) (fun _ _ q=>Heap.get?_push_of_some _ q) (Nat.le_refl _) (JE s.heap I.big);refine wpAny_Dict_walk (knd:=cT X.prog X.w) hall hl h0 h15 (thn (h pins _ σ _ _ I1 (q _ hn)) fun ws s2 ⟨ps,H2,I2,rel,e,kvs,ep,lk,q2⟩=>?_);subst ep;obtain ⟨rs,c,rk⟩:=vG (P:=X.prog) (w:=X.w) rel;obtain ⟨z,hd,vs0,r0,dd⟩:=Kf I2.hok e;cases r0;refine ⟨rs,c,dd,fun h' dd' hs=>⟨.ref s.heap.objs.size,_,?_,rfl,q2⟩⟩;have hz:(pC [] kvs).length<=sizeLine:=by
   have h1:=ra kvs [];rw [List.length_nil] at h1;rw [sizeLine_eq];omega
 have he:∃ q,h'.get? s.heap.objs.size=some q:=let ⟨q,_,_,hq,_⟩:=dd';⟨q,hq⟩;exact xz I2 (by rw [e];exact True.intro) hs he (FC hz hd (rk.merge .nil) dd')
section
variable {X:Cx} {pins:List (Addr × Obj)} {σ:St} {H:Hp} {s:Shared} {a:Addr} {y d:V} {u r:Value} {o:Option V} {A:Around} {E:Value->Shared->Prop}
end
section
variable {X:Cx} {o e f:Expr} {apos cpos:Pos} {td ty tx:TE}
end
section
variable {X:Cx} {pins:List (Addr × Obj)} {σ:St} {H:Hp} {s:Shared} {a:Addr} {kvs:List (Key × V)} {A:Around} {E:Value->Shared->Prop}
end
section
variable {X:Cx} {pins:List (Addr × Obj)} {σ:St} {H:Hp} {s:Shared} {a:Addr} {y:V} {u:Value} {A:Around} {E:Value->Shared->Prop}
end
end L2
namespace Att
open PySem PySem.W PySem.Calls PyProof.Rows
theorem vM {P:Params} {h:Heap}:∀ (ns:List Int) (vs:List Value),WellAll P h vs (ns.map WData.int)->IntsAre vs ns:=by
 intro ns
 induction ns with
 | nil =>
   intro vs w;rw [List.map_nil] at w;cases w;exact .nil
 | cons n ns ih =>
   intro vs w;rw [List.map_cons] at w;cases w with
   | cons a b =>
     cases a;exact .cons _ _ (ih _ b)
theorem FK {l:OpenLaw} {n:Nat} (hn:l.most=some n) {P:Params} {h:Heap} {args:List WData} {vals:List Value}
   (hpre:l.row.toRowW.claim.pre args=true) (hwl:WellAll P h vals args) :
   ∃ a vs ns,vals=[Value.ref a]/\args=[WData.list (ns.map WData.int)]/\h.get? a=some { cls:=.type "list",data:=.seq vs.toArray }/\IntsAre vs ns/\ns.length<=n:=by
 have hsh:WShape.hasAll [] args [.list .int]=true:=(pre_splitW hpre).1;have hc:l.pre.holds [] { args:=args }=true:=(pre_splitW hpre).2;obtain ⟨d,r,rfl,h1,h2⟩:=hasAllW_cons hsh;obtain rfl:=hasAllW_nil h2;obtain ⟨xs,rfl,h3⟩:=hasW_list h1;obtain ⟨ns,rfl⟩:=items_int h3;have hlen:ns.length<=n:=by
   unfold OpenLaw.pre at hc;have h4:(WTm.not (.lt (.lit (.int (n:Int))) (.len (.arg 0)))).holds [] { args:=[.list (ns.map .int)] }=true:=by
     have h4:=(holds_andW hc).1;rw [hn] at h4;exact h4
   have h5:=condW_of h4 (w_not (w_lt w_lit (w_len_list (w_arg rfl))));rw [List.length_map] at h5;refine Nat.le_of_not_lt fun q=>?_;have q':(n:Int)<((ns.length:Nat):Int):=by omega
   first
     | (rw [decide_eq_true q'] at h5;exact absurd h5 (by decide))
     | (simp at h5;omega)
 cases hwl with
 | cons w1 w2 =>
   cases w2;cases w1 with
   | list ho hall=>exact ⟨_,_,ns,rfl,rfl,ho,vM ns _ hall,hlen⟩
theorem Fh (l:OpenLaw) (args:List WData):l.row.toRowW.claim.post args (.bool true) args=true :=
 postW_of (r:=l.row.toRowW) (X:=(true == true))
   (show WShape.has [] (.bool true) .bool=true by first|rfl|decide|simp [WShape.has,WShape.arms,WShape.armsAll])
   (show (WTm.eq .res (.lit (.bool true))).value [] { args:=args,res:=some (.bool true),after:=args }=some (.bool (true == true)) from w_eq_bool (w_res rfl) w_lit) rfl
theorem attach_call {l:OpenLaw} {n:Nat} {q:Program} {loose:List Str} {XP:(Str->Option Value)->Heap->Prop} {YP:World->Heap->Prop} {d:DefRec}
   (hn:l.most=some n) (hdf:d.params.defaults=[])
   (call:∀ (w:World) (s₀ s₁:Shared) (mg mb:Str->Option Value) (fa:Addr) (o:Obj) (pm cd doc:Value) (a:Addr) (vs:List Value) (ns:List Int),
     Ground q loose [] XP w s₀ mg mb s₁.heap->YP w s₁.heap ->
     s₁.heap.get? fa=some o->o.data=.func (docDef d.name d.params d.body d.scope pm cd doc)->s₁.heap.CodeRec cd d.name->mg d.name=some (.ref fa) ->
     s₁.heap.get? a=some { cls:=.type "list",data:=.seq vs.toArray }->IntsAre vs ns->ns.length<=n->s₁.gens=#[] ->
     codeAny (model l.prog w) callerA (.call (.ref fa) ⟨[.ref a],[]⟩) (fun r s'=>r=.ok (.ret (.bool true))/\OldK s₁.heap s'.heap/\s'.os=s₁.os/\AllBare s'.gens) s₁) :
   WalkO q loose XP YP l.row.toRowW d [] (fun f vs=>PySem.call f vs):=by
 intro w s₀ s₁ mg mb G Y fa o pm cd doc dV kV ho hd hcd hD hmg hg args vals as hpre hlay hrd hwl hlo;obtain rfl:dV=.none:=Dflts.none hD hdf;obtain rfl:kV=.none:=Dflts.noKw hD;obtain ⟨a,vs,ns,rfl,rfl,hobj,hints,hlen⟩:=FK hn hpre hwl;refine enter_call (codeAny_mono (call w s₀ s₁ mg mb fa o pm cd doc a vs ns G Y ho (fd_plain hd) hcd hmg hobj hints hlen hg) fun r s' hq=>?_);obtain ⟨rfl,h2,h3,h4⟩:=hq;exact ⟨.inl ⟨.bool true,.bool true,[],rfl,fun _=>rfl,.bool true,Fh l _,fun _=>⟨List.Pairwise.nil,fun _ hm=>(nomatch hm)⟩⟩,h2,h3,h4⟩
section
variable {prog:Program} {w:World} {A:Around} {E:Value->Shared->Prop} {s:Shared} {K:Frag}
end
end Att
namespace L2
open PySem PySem.Spec PyProof.Rows
theorem xY:∀ {vs:List Value} {ns:List Int},IntsAre vs ns->Vals (ns.map V.int) vs
 | _,_,.nil=>.nil
 | _,_,.cons n t h=>.cons ⟨t,rfl⟩ (xY h)
def Jk (H:Hp):Prop:=∀ b,H b=none\/∃ o xs,H b=some (.frz o (.lst xs))
theorem Il {P:Program} {w:World} {K:PySem.W.Frag} {mg mb:Str->Option Value} {CX:CXT} {k:Nat} {fa a:Addr} {fd:FuncData} {x:Str} {sp:Sp} {s₁:Shared} {vs:List Value} {ns:List Int}
   (KX:K.In s₁.heap) (hns:s₁.heap.Ns mainGlobals mg) (hb:s₁.heap.Ns builtinsNs mb) (hbb:∀ x:Str,x≠"__name__"->mb x=bootBuiltins x) (hlim:s₁.heap.NoLimit) (hg:s₁.gens=#[])
   (ha:s₁.heap.get? a=some { cls:=.type "list",data:=.seq vs.toArray }) (hi:IntsAre vs ns) (hl:ns.length<=sizeLine) (hr:Room k callerA)
   (F:∀ base:Heap,K.In base->base.Ns mainGlobals mg->FnOk P w K mg base CX k fa fd [x] sp) (hbind:∀ (s:Shared) (u:Value),BindsTo s fd ⟨[u],[]⟩ [(x,u)])
   (hsp:∀ H:Hp,Jk H->SqL K H a (ns.map V.int)->sp [.ref a] H (fun v _=>v=.bl true) fun _ _ _=>False)
   (hCX:∀ H e s',CX [] H s₁ (fun _ _ _=>False) e s'->False) :
   codeAny (model P w) callerA (.call (.ref fa) ⟨[.ref a],[]⟩) (fun r s'=>r=.ok (.ret (.bool true))/\OldK s₁.heap s'.heap/\s'.os=s₁.os/\AllBare s'.gens) s₁:=by
 have rv:=xY hi;have lenV:=hi.length;have core:∀ H:Hp,Jk H->SqL K H a (ns.map V.int)->HOk P w H s₁.heap->(∀ b,H b≠none->b=a)->(H a≠none->K.lookup a=none) ->
     codeAny (model P w) callerA (.call (.ref fa) ⟨[.ref a],[]⟩) (fun r s'=>r=.ok (.ret (.bool true))/\OldK s₁.heap s'.heap/\s'.os=s₁.os/\AllBare s'.gens) s₁:=by
   intro H hO hS hok hA hK;have base_of:∀ {b:Addr} {o:Obj},s₁.heap.get? b=some o->H b=none->(qI s₁.heap H).get? b=some o:=fun e n=>HV e n;have noA:∀ {b:Addr} {o:Obj} {es:Array DictEntry} {ep:Nat},s₁.heap.get? b=some o->o.data=.dict es ep->H b=none:=fun {b o es ep} e d=>by
     cases q:H b with
     | none=>rfl
     | some u =>
       have e':b=a:=hA b (by rw [q];simp);subst e';rw [ha] at e;cases e;have d':Data.seq vs.toArray _=Data.dict es ep:=d;cases d'
   have nsK:∀ {b:Addr} {m:Str->Option Value},s₁.heap.Ns b m->(qI s₁.heap H).Ns b m:=fun {b m} ⟨o,es,ep,e,d,r⟩=>⟨o,es,ep,base_of e (noA e d),d,r⟩;have hKb:K.In (qI s₁.heap H):=fun b o e=>base_of (KX b o e) (by
     cases q:H b with
     | none=>rfl
     | some u =>
       have e':b=a:=hA b (by rw [q];simp);subst e';rw [hK (by rw [q];simp)] at e;cases e)
   have hM:Mod K mg (qI s₁.heap H):=⟨hKb,nsK hns,⟨mb,nsK hb,hbb⟩,let ⟨mc,h1,h2⟩:=hlim;⟨mc,nsK h1,h2⟩⟩;have e0:Env0 P w K mg (qI s₁.heap H) callerA [] s₁ H:=⟨rfl,hM,fun b o e=>KF e,Nat.le_of_eq (Fq _ _),trivial,fun b hb=>absurd (show b∈([]:List Addr) from hb) (by simp),hok,.of_eq hg⟩;refine codeAny_mono ((F _ hKb (nsK hns)).run callerA [] s₁ H ⟨[.ref a],[]⟩ [.ref a] [.ref a] _ _ hr e0 (hbind s₁ (.ref a)) (.cons rfl .nil) (hsp H hO hS)) fun r s' h=>?_;cases r with
   | error e=>exact (hCX H e s' h).elim
   | ok fl =>
     cases fl with
     | next=>exact False.elim h
     | brk=>exact False.elim h
     | cont=>exact False.elim h
     | ret u =>
       obtain ⟨v,H',os,bare,un,hok',r',q⟩:=h;have q':v=.bl true:=q;subst q';obtain rfl:u=Value.bool true:=r';refine ⟨rfl,OldK.of_keep fun b o e=>?_,os,bare⟩;cases q:H b with
       | none=>exact un.keep b o e q (by intro z;exact absurd (show b∈([]:List Addr) from z) (by simp)) (by simp)
       | some u =>
         rcases hO b with z|⟨ob,xs,z⟩
         . rw [q] at z;cases z
         . have z2:=un.frzs b ob _ z;obtain ⟨e1,_⟩:=hok b _ z;obtain ⟨e2,_⟩:=hok' b _ z2;rw [e] at e1;cases e1;exact e2
 cases hk:K.lookup a with
 | some o =>
   have e:=KX a o hk;rw [ha] at e;cases e;refine core (fun _=>none) (fun _=>.inl rfl) (.inr ⟨_,vs.toArray,_,hk,rfl,rfl,rfl,by rw [List.size_toArray,lenV];exact hl,by simpa using rv⟩) (fun b u z=>by have z':(none:Option HO)=some u:=z;cases z') (fun b z=>absurd rfl z) fun z=>absurd rfl z
 | none =>
   refine core (fun b=>if b=a then some (.frz { cls:=.type "list",data:=.seq vs.toArray } (.lst (ns.map V.int))) else none) (fun b=>?_) (.inl (.inr ⟨{ cls:=.type "list",data:=.seq vs.toArray },if_pos rfl⟩)) (fun b u z=>?_) (fun b z=>?_) fun _=>hk
   . by_cases hb:b=a
     . exact .inr ⟨_,_,if_pos hb⟩
     . exact .inl (if_neg hb)
   . by_cases hb:b=a
     . have z':=(if_pos hb).symm.trans z;cases z';subst hb;exact ⟨ha,by rw [List.length_map];exact hl,vs,_,rv,ha⟩
     . have z':=(if_neg hb).symm.trans z;cases z'
   . by_cases hb:b=a
     . exact hb
     . exact absurd (if_neg hb) z
end L2
namespace L2
open PySem PySem.Spec PyProof.Rows
theorem walk_of {l:PySem.W.OpenLaw} {n k:Nat} {q:Program} {loose:List Str} {XP:(Str->Option Value)->Heap->Prop} {YP:World->Heap->Prop} {d:DefRec} {K:Params->PySem.W.Frag} {CX:World->CXT} {sp:World->Sp} {x:Str}
   (hn:l.most=some n) (hn2:n<=sizeLine) (hdf:d.params.defaults=[]) (hr:Room k callerA)
   (hY:∀ (w:World) (h:Heap),YP w h->(K w.params).In h)
   (F:∀ (w:World) (mg:Str->Option Value) (fa:Addr) (h:Heap),(K w.params).In h->h.Ns mainGlobals mg->mg d.name=some (.ref fa) ->
     ∃ fd:FuncData,(∀ (s:Shared) (u:Value),BindsTo s fd ⟨[u],[]⟩ [(x,u)]) /\
       ∀ base:Heap,(K w.params).In base->base.Ns mainGlobals mg->FnOk l.prog w (K w.params) mg base (CX w) k fa fd [x] (sp w))
   (hsp:∀ (w:World) (H:Hp) (a:Addr) (ns:List Int),ns.length<=n->Jk H->SqL (K w.params) H a (ns.map V.int)->sp w [.ref a] H (fun v _=>v=.bl true) fun _ _ _=>False)
   (hCX:∀ (w:World) (H:Hp) (s:Shared) (e:Value) (s':Shared),CX w [] H s (fun _ _ _=>False) e s'->False) :
   PySem.W.WalkO q loose XP YP l.row.toRowW d [] (fun f vs=>PySem.call f vs):=by
 refine Att.attach_call hn hdf fun w s₀ s₁ mg mb fa o pm cd doc a vs ns G Y ho hd hcd hmg hobj hints hlen hg=>?_;have KX:=hY w _ Y;obtain ⟨fd,hb,hF⟩:=F w mg fa _ KX G.T.g hmg;exact Il KX G.T.g G.T.b G.T.builtins G.T.nolimit hg hobj hints (Nat.le_trans hlen hn2) hr hF hb (fun H hO hS=>hsp w H a ns hlen hO hS) fun H e s'=>hCX w H s₁ e s'
end L2
namespace L2
open PySem PySem.Spec PyProof.Rows
def fG (s:Stmt) (j:Nat):Stmt:=match s with
 | .ClassDef _ _ _ body _ _ _ _ _ _ _=>body.getD j (.Pass ⟨0,0,0,0⟩)
 | _=>.Pass ⟨0,0,0,0⟩
def ax (s:Stmt):Arguments:=match s with
 | .FunctionDef _ a _ _ _ _ _ _ _ _=>a
 | _=>{ posonlyargs:=[],args:=[],vararg:=none,kwonlyargs:=[],kw_defaults:=[],kwarg:=none,defaults:=[] }
def aw (s:Stmt):List Stmt:=match s with
 | .FunctionDef _ _ b _ _ _ _ _ _ _=>b
 | _=>[]
def aa (s:Stmt):Scope:=match s with
 | .FunctionDef _ _ _ _ _ _ sc _ _ _=>sc
 | _=>{ kind:=.function,names:=[],isGenerator:=false,isCoroutine:=false }
abbrev CX0:CXT:=fun _ _ _ _ _ _=>False
abbrev E0:XK:=fun _ _ _=>False
structure Fun (K:PySem.W.Frag) (x qual:Str) (st:Stmt) (f:Addr) (fd:FuncData):Prop where
 ex:∃ (oc:Value) (od:Option Addr) (kV doc pm:Value) (an:Option Addr) (cdv ct:Value) (osl:Array (Option Value)),
   fd=PySem.W.fnOf x qual (ax st) (aw st) (aa st) .none kV doc pm an cdv ct/\K.lookup f=some ⟨oc,od,.func fd,osl⟩/\PySem.W.codeIn K cdv qual=true
 kp:PySem.W.keepIn K (.ref f)=true
section
variable {P:Program} {w:World} {K:PySem.W.Frag} {mg:Str->Option Value} {base:Heap}
theorem Fun.binds {x qual:Str} {st:Stmt} {f:Addr} {fd:FuncData} {ps:List Str} (F:Fun K x qual st f fd)
   (h:∀ (kV doc pm:Value) (an:Option Addr) (cdv ct:Value) (us:List Value),us.length=ps.length->bindArgs (PySem.W.fnOf x qual (ax st) (aw st) (aa st) .none kV doc pm an cdv ct) ⟨us,[]⟩=pure (ps.zip us)):Binds K fd ps []:=by
 obtain ⟨oc,od,kV,doc,pm,an,cdv,ct,osl,rfl,lk,hcd⟩:=F.ex;exact .all (h kV doc pm an cdv ct)
theorem aK {x qual:Str} {st:Stmt} {f:Addr} {oc:Value} {od an:Option Addr} {osl:Array (Option Value)} {kV doc pm cdv ct:Value} (l:K.lookup f=some ⟨oc,od,.func (PySem.W.fnOf x qual (ax st) (aw st) (aa st) .none kV doc pm an cdv ct),osl⟩)
   (c:PySem.W.codeIn K cdv qual=true) (k:PySem.W.keepIn K (.ref f)=true):Fun K x qual st f (PySem.W.fnOf x qual (ax st) (aw st) (aa st) .none kV doc pm an cdv ct):=⟨⟨oc,od,kV,doc,pm,an,cdv,ct,osl,rfl,l,c⟩,k⟩
end
theorem MP {A:Around} {k:Nat} (hr:Room k A):A.units+1<cLine:=Nat.lt_of_le_of_lt (Nat.add_le_add_left (by decide:1<=64) _) hr.units
section
variable {X:Cx}
theorem pv (i:Nat) {x:Str} {pos:Pos} (hN:X.N[i]?=some x:=by rfl) (hv:Vis X.env.scope x:=by first|exact Or.inl rfl|exact Or.inr (Or.inl rfl)|exact Or.inr (Or.inr rfl)) (hd:(x == ("__debug__":Str))=false:=by decide)
   (hcd:(x == ("__classdict__":Str))=false:=by decide):PE X (.Name x pos) (AO i):=FO hN hv hd hcd
end
theorem M9 {A B:Prop} (h:B):if false=true then A else B:=by
 rw [if_neg Bool.false_ne_true];exact h
theorem Ni {A B:Prop} (h:A):if true=true then A else B:=by
 rw [if_pos rfl];exact h
def Same (H H':Hp):Prop:=∀ b o,H b=some o->H' b=some o
theorem Same.refl (H:Hp):Same H H:=fun _ _ h=>h
theorem Same.trans {H H1 H2:Hp} (a:Same H H1) (b:Same H1 H2):Same H H2:=fun c o h=>b c o (a c o h)
theorem Same.free {H H':Hp} (e:Same H H') {l:Addr} (h:H' l=Option.none):H l=Option.none:=by
 cases q:H l with
 | none=>rfl
 | some o =>
   rw [e l o q] at h;cases h
theorem Same.seq {K:PySem.W.Frag} {H H':Hp} {a:Addr} {xs:List V} (e:Same H H') (h:SqL K H a xs):SqL K H' a xs:=by
 rcases h with (h|⟨o,h⟩)|h
 . exact .inl (.inl (e _ _ h))
 . exact .inl (.inr ⟨o,e _ _ h⟩)
 . exact .inr h
end L2
namespace L2
open PySem PySem.Spec PyProof.Rows
section
variable {X:Cx}
theorem Gk:kb X (.builtin "len") (fun xs H Q=>∃ a kvs,xs=[V.ref a]/\H a=some (.dK kvs)/\Q (.int kvs.length) H):=by
 intro pins s σ H xs us Q I r h;obtain ⟨a,kvs,rfl,ha,q⟩:=h;obtain ⟨u,rfl,ru⟩:=tR r;cases ru;exact MN I (.inl ha) fun t s' I'=>⟨.int kvs.length,H,I',⟨t,rfl⟩,q⟩
end
section
variable {κ:Type} [DecidableEq κ]
end
end L2
set_option Elab.async false
set_option linter.all false
set_option maxRecDepth 100000
namespace L2
open PySem PySem.Spec PyProof.Rows
def Cx.comp (X:Cx) (Nc:List Str) (scope:Scope) (cl:List (Str × Addr)) (C:Addr) (s₂:Shared) (H₁:Hp) (fp:List Addr):Cx where
 prog:=X.prog
 w:=X.w
 K:=X.K
 mg:=X.mg
 base:=X.base
 A:=X.A
 N:=Nc
 s₀:=s₂
 H₀:=H₁
 env:=compEnvC scope cl C X.env
 outer:=X.stack
 stack:=X.stack
 ex:=fp
 fn:=fun _=>false
 calm:=X.calm
 pn:=[]
 xe:=fun _ _=>False
structure CompTxt (X:Cx) (Nc:List Str) (own:Nat) (js:List Nat) (scope:Scope) (cl:List (Str × Addr)):Prop where
 clos:closureFor scope X.env=pure cl
 kind:scope.kind=.function
 nocell:∀ y∈scope.names,y.2≠.cell
 names:∀ y∈scope.names,y.2=.local->scope.names.lookup y.1=some .local
 cells:∀ x c,cl.lookup x=some c->X.env.cells.lookup x=some c
 has:∀ x,((relabel scope X.env).names.lookup x=some .cell\/(relabel scope X.env).names.lookup x=some .free)->∃ c,cl.lookup x=some c
 len:Nc.length=own+js.length
 outer:∀ i x,Nc[own+i]?=some x->∃ j,js[i]?=some j/\X.N[j]?=some x/\X.env.scope.names.lookup x=some .cell/\(relabel scope X.env).names.lookup x=some .cell
def fh (own:Nat) (js:List Nat) (σ:St):St:=List.replicate own none++js.map fun j=>(σ[j]?).getD none
def Kd (own:Nat) (js:List Nat) (wi:TI) (g:TG) (tc:TT) (te:TE):TE:=fun σ H Q=>wi σ H fun J H1=>∀ p,H1 p=none ->
 ∃ W:Nat->Nat->List V->St->Hp->Prop,(∃ m,W 0 m [] (fh own js σ) (upd H1 p (.lst [])))/\∀ i m ys σc Hc,W i m ys σc Hc ->
   (J.stop i Hc/\Q (.ref p) Hc)\/(J.go i Hc/\∀ x H',J.yld i Hc x H'->g x σc H' fun σ2 H2=>tc σ2 H2 fun b H3 =>
     if b=true then te σ2 H3 fun y H4=>H4 p=some (.lst ys)/\ys.length<sizeLine/\∃ m',m'<m/\W (i+1) m' (ys++[y]) σ2 (upd H4 p (.lst (ys++[y])))
     else ∃ m',m'<m/\W (i+1) m' ys σ2 H3)
def PTs (X:Cx) (ifs:List Expr) (t:TT):Prop :=
 ∀ (pins:List (Addr × Obj)) (s:Shared) (σ:St) (H:Hp) (Q:Bool->Hp->Prop),Inv X pins σ H s->t σ H Q ->
   wpAny (model X.prog X.w) X.A (forIn ifs true fun c r=>if r=true then do let ok <- isTrue c X.env (eval c X.env);pure (ForInStep.yield ok) else pure (ForInStep.yield r)) (TP X pins σ Q) X.xe s
def tYes:TT:=fun _ H Q=>Q true H
theorem xg {X:Cx}:PTs X [] tYes:=fun pins s σ H Q I h=>wpAny_tests_nil ⟨H,I,h⟩
section
variable {prog:Program} {w:World} {A:Around} {E:Value->Shared->Prop} {R:Result->Shared->Prop} {s:Shared}
theorem CI {elt target iter:Expr} {ifs:List Expr} {scope:Scope} {pos:Pos} {it acc:Value} {env:Env} (I:Nat->Shared->Prop)
   (turn:∀ n s,I n s->wpAny (model prog w) A (pyNext it) (fun r s₁=>match r with
     | none=>R (.ok .next) s₁
     | some v=>wpAny (model prog w) A (letOwnedTupleGo target it v) (fun _ s₁'=>wpAny (model prog w) A (assign target env v) (fun _ s₂ =>
         wpAny (model prog w) A (forIn ifs true fun c r=>if r=true then do let ok <- isTrue c env (eval c env);pure (ForInStep.yield ok) else pure (ForInStep.yield r)) (fun ok s₃ =>
           if ok=true then wpAny (model prog w) A (eval elt env) (fun x s₄ =>
             wpAny (model prog w) A (call (.builtin "list.append") [acc,x]) (fun _ s₅=>∃ m,m<n/\I m s₅) (fun _ _=>False) s₄) (fun _ _=>False) s₃
           else ∃ m,m<n/\I m s₃) (fun _ _=>False) s₂) (fun _ _=>False) s₁') (fun _ _=>False) s₁) (fun _ _=>False) s)
   (n:Nat) (h:I n s) :
   codeAny (model prog w) A (.compLoop (.ListComp elt [⟨target,iter,ifs,0⟩] scope pos) 0 it acc env) R s:=by
 refine codeAny_loop rfl I (fun n s hI=>?_) n h;show wpAny _ A ((compTurn (.ListComp elt [⟨target,iter,ifs,0⟩] scope pos) 0 it acc env).onRaise (fun x=>do noteFrame x env;theTreesLotGoes x)) _ _ s;refine wpAny_noted ?_;rw [compTurn_list];refine wpAny_bind (wpAny_standAt (wpAny_bind (wpAny_mono (turn n s hI) (fun r s₁ h₁=>?_) fun _ _ h'=>h'.elim)));cases r with
 | none=>exact wpAny_pure h₁
 | some v =>
   refine wpAny_bind (wpAny_mono h₁ (fun _ s₁' h₁'=>?_) fun _ _ h'=>h'.elim);refine wpAny_bind (wpAny_mono h₁' (fun _ s₂ h₂=>wpAny_bind (wpAny_mono h₂ (fun ok s₃ h₃=>?_) fun _ _ h'=>h'.elim)) fun _ _ h'=>h'.elim);cases ok with
   | true =>
     rw [if_pos rfl] at h₃;simp only [if_true];exact wpAny_bind (wpAny_bind (wpAny_mono h₃ (fun x s₄ h₄=>wpAny_bind (wpAny_mono h₄ (fun _ s₅ h₅=>wpAny_pure (wpAny_pure ⟨rfl,h₅⟩)) fun _ _ h'=>h'.elim)) fun _ _ h'=>h'.elim))
   | false =>
     rw [if_neg Bool.false_ne_true] at h₃;simp only [Bool.false_eq_true,if_false]
     first
       | exact wpAny_pure ⟨rfl,h₃⟩
       | exact wpAny_bind (wpAny_pure (wpAny_pure ⟨rfl,h₃⟩))
end
end L2
set_option Elab.async false
set_option linter.all false
set_option maxRecDepth 100000
namespace L2
open PySem PySem.Spec PyProof.Rows
section
variable {X:Cx} {Nc:List Str} {own:Nat} {js:List Nat} {scope:Scope} {cl:List (Str × Addr)}
theorem Dh {pins:List (Addr × Obj)} {σ:St} {H₁:Hp} {s₂:Shared} {C:Addr} {fp:List Addr} (T:CompTxt X Nc own js scope cl) (I:Inv X pins σ H₁ s₂) (hC:s₂.heap.objs.size<=C)
   (f1:∀ b∈fp,iT X pins H₁ b) (hlt:∀ b∈fp,b<s₂.heap.objs.size):(X.comp Nc scope cl C s₂ H₁ fp).Ok where
 mod:=I.ok.mod
 kind:=by show (relabel scope X.env).kind=_;exact T.kind
 glob:=I.ok.glob
 blt:=I.ok.blt
 above:=hC
 inj:=fun x y c h1 h2=>I.ok.inj x y c (T.cells x c h1) (T.cells y c h2)
 has:=fun x h=>T.has x h
 cab:=fun x c h=>by cases h
 hd:=I.ok.hd
 frames:=I.ok.frames
 stk:=.inl rfl
 exf:=fun b hb=>⟨Nat.ne_of_lt (Nat.lt_of_lt_of_le (hlt b hb) hC),fun x c h=>(f1 b hb).2.2.2.2.1 x c (T.cells x c h)⟩
 bs:=I.bs
 bsz:=Nat.le_trans I.ok.bsz I.sz
 noex:=fun b o e hb=>by
   rcases (f1 b hb).2.2.2.1 with z|z
   . exact I.ok.noex b o e z
   . exact absurd (Nat.lt_of_lt_of_le (Heap.lt_size (I.ok.bs b o e).1) z) (Nat.lt_irrefl _)
 exfs:=fun b hb hs=>by
   rcases List.mem_cons.mp (I.stkSub b hs) with z|z
   . exact (f1 b hb).2.1 z
   . exact (f1 b hb).2.2.1 z
 funs:=I.stack
 frf:=I.stkFree
theorem JR {pins:List (Addr × Obj)} {σ:St} {H₁:Hp} {s₂:Shared} {C D:Addr} {fp:List Addr} {h₁:Heap} {t:Nat} {m:Str->Option Value} (T:CompTxt X Nc own js scope cl) (I:Inv X pins σ H₁ s₂) (hC:s₂.heap.objs.size<=C)
   (hD:s₂.heap.objs.size<=D) (hDC:D≠C) (f1:∀ b∈fp,iT X pins H₁ b) (hlt:∀ b∈fp,b<s₂.heap.objs.size) (old:∀ b o,s₂.heap.get? b=some o->h₁.get? b=some o) (hns:h₁.Ns C m)
   (hacc:∃ n,h₁.get? D=some { cls:=.type "list",data:=.seq ([]:List Value).toArray n }) :
   Inv (X.comp Nc scope cl C s₂ H₁ fp) [] (fh own js σ) (upd H₁ D (.lst [])) { s₂ with heap:=h₁,toks:=t }:=by
 obtain ⟨na,hacc⟩:=hacc;have cellK:∀ c v,s₂.heap.IsCell c v->h₁.IsCell c v:=fun c v ⟨o,ho,hd⟩=>⟨o,old c o ho,hd⟩;refine ⟨Dh T I hC f1 hlt,rfl,I.bare,Un.laid old hD (I.hok.fresh hD),⟨m,hns,fun i x v e1 e2 e3=>?_⟩,fun x c e=>?_,?_,fun x c e=>?_,fun p hp=>(by cases hp),I.hok.laid old hD ?_,?_⟩
 . have hN:Nc[i]?=some x:=e1;have hσ:(fh own js σ)[i]?=some (some v):=e2;unfold fh at hσ;by_cases hi:i<own
   . rw [List.getElem?_append_left (by simpa using hi),List.getElem?_replicate] at hσ;simp [hi] at hσ
   . obtain ⟨k,rfl⟩:∃ k,i=own+k:=⟨i - own,by omega⟩;rw [List.getElem?_append_right (by simp)] at hσ;simp only [List.length_replicate,Nat.add_sub_cancel_left,List.getElem?_map] at hσ;obtain ⟨j,hj,hx,hk,hr⟩:=T.outer k x hN;rw [hj] at hσ;replace hσ:some (σ[j]?.getD none)=some (some v):=hσ;have hσj:σ[j]?=some (some v):=by
       cases q:σ[j]? with
       | none=>rw [q] at hσ;simp at hσ
       | some y=>rw [q] at hσ;simpa using hσ
     obtain ⟨m0,hn0,hl0⟩:=I.loc;obtain ⟨u,ru,lk⟩:=hl0 j x v hx hσj (.inr (.inl hk));refine ⟨u,ru,.inr ⟨.inl hr,?_⟩⟩;rcases lk with ⟨z,_⟩|⟨_,c,hc,hcell⟩
     . have z':X.env.scope.names.lookup x=some .local:=z;rw [hk] at z';cases z'
     . obtain ⟨c',hc'⟩:=T.has x (.inl hr);have:=T.cells x c' hc';rw [hc] at this;cases this;exact ⟨c,hc',cellK c _ hcell⟩
 . obtain ⟨v,z⟩:=I.cell x c (T.cells x c e);exact ⟨v,cellK c v z⟩
 . show upd H₁ D (.lst []) C=none;rw [ao (Ne.symm hDC)];exact I.hok.fresh hC
 . have e':=T.cells x c e;obtain ⟨v,o,ho,_⟩:=I.cell x c e';rw [ao (Nat.ne_of_lt (Nat.lt_of_lt_of_le (Heap.lt_size ho) hD))];exact I.freeC x c e'
 . exact ⟨Nat.zero_le _,[],na,.nil,hacc⟩
 . show (fh own js σ).length=Nc.length;rw [T.len];simp [fh]
theorem FJ {pins:List (Addr × Obj)} {σ σc:St} {H₁ H':Hp} {s₂ s':Shared} {C:Addr} {fp:List Addr} {h':Heap} (I:Inv X pins σ H₁ s₂) (hC:s₂.heap.objs.size<=C)
   (f1:∀ b∈fp,iT X pins H₁ b) (I':Inv (X.comp Nc scope cl C s₂ H₁ fp) [] σc H' s') (hs:Heap.SameBut C s'.heap h'):Inv X pins σ H' { s' with heap:=h' }:=by
 have u:Un (frs X.stack) fp H₁ H' s₂.heap s'.heap:=I'.base;have ne:∀ b o,s₂.heap.get? b=some o->b≠C:=fun b o e=>Nat.ne_of_lt (Nat.lt_of_lt_of_le (Heap.lt_size e) hC);have k:∀ b o,b≠C->s'.heap.get? b=some o->h'.get? b=some o:=fun b o n e=>hs.extBut b o n e;have u':Un (frs X.stack) fp H₁ H' s₂.heap h':=⟨fun b o e n hb hx=>k b o (ne b o e) (u.keep b o e n hb hx),fun b o e n hb hx=>let ⟨sl,q⟩:=u.slot b o e n hb hx;⟨sl,k b _ (ne b o e) q⟩,
   u.free,fun b o e hx=>let ⟨o',q⟩:=u.there b o e hx;⟨o',k b o' (ne b o e) q⟩,u.tups,u.frzs,u.tbls⟩
 have hfree:H' C=none:=I'.free;have hok':HOk X.prog X.w H' h':=fun a o e=>(I'.hok a o e).stay (fun b v hb q=>k b v (fun z=>by
   rcases hb with y|y
   . rw [y] at z;rw [z,hfree] at e;cases e
   . rw [z,hfree] at y;cases y) q) (fun _ q=>q) fun _ _ q=>q
 exact I.call' (s':={ s' with heap:=h' }) (ch:=fp) I'.os u' hok' I'.bare fun b hb=>⟨(f1 b hb).2.2.2.1,(f1 b hb).2.1,(f1 b hb).2.2.2.2.1,(f1 b hb).2.2.2.2.2⟩
theorem wA {elt target iter:Expr} {ifs:List Expr} {pos:Pos} {wi:TI} {g:TG} {tc:TT} {te:TE} (hc:X.calm=true) (T:CompTxt X Nc own js scope cl)
   (hi:PI X target iter wi) (hg:∀ C s₂ H₁ fp,PG (X.comp Nc scope cl C s₂ H₁ fp) target g) (ht:∀ C s₂ H₁ fp,PTs (X.comp Nc scope cl C s₂ H₁ fp) ifs tc)
   (he:∀ C s₂ H₁ fp,PE (X.comp Nc scope cl C s₂ H₁ fp) elt te) (hs:∀ x,foldedSetIterable iter X.env x=pure x:=by intro _;rfl) :
   PE X (.ListComp elt [⟨target,iter,ifs,0⟩] scope pos) (Kd own js wi g tc te):=by
 intro pins s σ H Q I h;rw [eval_ListComp];refine wpAny_comprehension_free (use:=none) rfl hs T.clos T.kind T.names (thn (hi pins s σ H _ I h) fun v s1 h1=>thn h1 fun itv s2 h2=>?_);obtain ⟨it,fp,tn,J,H1,rfl,I1,Tn,st,f1,R⟩:=h2;have hfp:∀ b∈fp,b<s2.heap.objs.size:=fun b hb=>let ⟨o,e,_⟩:=Tn.obj _ _ st b hb;Heap.lt_size e;refine wpAny_newObj_type (wpAny_newFunctionEnv T.nocell (by intro y hy;simp at hy) (fun h₁ hns₁ hsb₁=>?_) T.kind);dsimp only at hns₁ hsb₁ ⊢;generalize hH2:s2.heap.push { cls:=.type "list",dict:=none,data:=.seq ([]:List Value).toArray }=H2 at hns₁ hsb₁ ⊢;have hC:H2.objs.size=s2.heap.objs.size+1:=by rw [<- hH2,Heap.size_push]
 have hDC:s2.heap.objs.size≠H2.objs.size:=by rw [hC];exact Nat.ne_of_lt (Nat.lt_succ_self _)
 have hCle:s2.heap.objs.size<=H2.objs.size:=by rw [hC];exact Nat.le_succ _
 have below:∀ b,b<s2.heap.objs.size->b≠H2.objs.size:=fun b hb=>by rw [hC];exact Nat.ne_of_lt (Nat.lt_succ_of_lt hb)
 have old:∀ b o,s2.heap.get? b=some o->h₁.get? b=some o:=fun b o e=>hsb₁.extBut b o (below b (Heap.lt_size e)) (Heap.get?_push_of_some _ (hH2 ▸ Heap.get?_push_of_some _ e));have hacc:∃ n,h₁.get? s2.heap.objs.size=some { cls:=.type "list",data:=.seq ([]:List Value).toArray n }:=⟨_,hsb₁.extBut _ _ hDC (Heap.get?_push_of_some _ (hH2 ▸ Heap.get?_push_size _ rfl))⟩;have st₁:tn 0 h₁:=Tn.keep _ _ _ st fun b _ o e=>old b o e;obtain ⟨W,⟨m0,w0⟩,turn⟩:=R s2.heap.objs.size I1.fresh;have Ic:=JR (t:=s2.toks+([]:List (Str × Value)).length) T I1 hCle (Nat.le_refl _) hDC f1 hfp old hns₁ hacc;generalize hXc:X.comp Nc scope cl H2.objs.size s2 H1 fp=Xc at Ic;have stat:∀ {H':Hp},(∀ b∈fp,H' b=none)->∀ b∈fp,iT Xc [] H' b:=fun {H'} hn b hb=>by
   subst hXc;exact ⟨hn b hb,below b (hfp b hb),(Dh T I1 hCle f1 hfp).exfs b hb,.inl hb,fun x c e=>(f1 b hb).2.2.2.2.1 x c (T.cells x c e),fun p hp=>by cases hp⟩
 have fr0:∀ b∈fp,upd H1 s2.heap.objs.size (.lst []) b=none:=fun b hb=>by
   rw [ao (Nat.ne_of_lt (hfp b hb))];exact (f1 b hb).1
 have calmc:Xc.calm=true:=by subst hXc;exact hc
 have loop:∀ s₃:Shared,s₃={ s2 with heap:=h₁,toks:=s2.toks+([]:List (Str × Value)).length } ->
     codeAny (model X.prog X.w) X.A (.compLoop (.ListComp elt [⟨target,iter,ifs,0⟩] scope pos) 0 (.ref it) (.ref s2.heap.objs.size) (compEnvC scope cl H2.objs.size X.env))
       (compPost (model X.prog X.w) X.A X.xe none (EP X pins σ Q) (.ref s2.heap.objs.size) H2.objs.size) s₃:=by
   rintro s₃ rfl;refine CI (fun n s'=>∃ i ys σ' H',Inv Xc [] σ' H' s'/\tn i s'.heap/\(∀ b∈fp,H' b=none)/\W i n ys σ' H') ?_ m0 ⟨0,[],_,_,Ic,st₁,fr0,w0⟩;rintro n s3 ⟨i,ys,σ3,H3,I3,st3,fr3,w3⟩;rcases turn i n ys σ3 H3 w3 with ⟨stop,q⟩|⟨go,step⟩
   . subst hXc;refine thn (Tn.done (X.comp Nc scope cl H2.objs.size s2 H1 fp) rfl rfl rfl hc i [] s3 σ3 H3 _ I3 (stat fr3) st3 stop) fun r s4 ⟨hr,I4⟩=>?_;subst hr;obtain ⟨m4,hn4,_⟩:=id I4.loc;exact ⟨m4,hn4,fun h' hs'=>⟨.ref s2.heap.objs.size,H3,FJ I1 hCle f1 I4 hs',rfl,q⟩⟩
   . subst hXc;refine thn (Tn.item (X.comp Nc scope cl H2.objs.size s2 H1 fp) rfl rfl rfl hc i [] s3 σ3 H3 _ I3 (stat fr3) st3 go) fun r s4 ⟨u,hr,h4⟩=>?_;subst hr;refine thn h4 fun _ s5 ⟨x,H5,I5,r5,y5,st5,fr5⟩=>?_;have I5':=I5.pinned (stat fr5) (Tn.obj _ _ st5);have back:∀ {σ7:St} {H7:Hp} {s7:Shared},Inv (X.comp Nc scope cl H2.objs.size s2 H1 fp) ([]++sH fp s5.heap) σ7 H7 s7->Inv (X.comp Nc scope cl H2.objs.size s2 H1 fp) [] σ7 H7 s7/\tn (i+1) s7.heap/\∀ b∈fp,H7 b=none:=fun {σ7 H7 s7} I7=>by
       refine ⟨I7.unpinned,Tn.keep _ _ _ st5 fun b hb o e=>(I7.pin (b,o) (List.mem_append_right _ (List.mem_append_right _ (lM hb e)))).1,fun b hb=>?_⟩;obtain ⟨o,e,d⟩:=Tn.obj _ _ st5 b hb;exact (I7.pin (b,o) (List.mem_append_right _ (List.mem_append_right _ (lM hb e)))).2.1
     refine thn (hg _ _ _ _ _ s5 σ3 H5 x u _ I5' r5 (step x H5 y5)) fun _ s6 ⟨σ6,H6,I6,q6⟩=>?_;refine Ab (ht _ _ _ _ _ s6 σ6 H6 _ I6 q6) fun ok s7 H7 I7 q7=>?_;cases ok with
     | false =>
       rw [if_neg Bool.false_ne_true] at q7 ⊢;obtain ⟨m',hm,w7⟩:=q7;obtain ⟨J1,J2,J3⟩:=back I7;exact ⟨m',hm,i+1,ys,σ6,H7,J1,J2,J3,w7⟩
     | true =>
       rw [if_pos rfl] at q7 ⊢;refine bh (he _ _ _ _ _ s7 σ6 H7 _ I7 q7) fun y s8 yv H8 I8 r8 ⟨hp8,hl8,m',hm,w8⟩=>?_;refine thn (d6 _ s8 σ6 H8 (.ref s2.heap.objs.size) [yv] _ [y] (fun v' H'=>W (i+1) m' (ys++[yv]) σ6 H') I8 rfl (.cons r8 .nil) ⟨_,ys,yv,rfl,rfl,hp8,hl8,w8⟩) fun v9 s9 ⟨_,H9,I9,_,w9⟩=>?_;obtain ⟨J1,J2,J3⟩:=back I9;exact ⟨m',hm,i+1,ys++[yv],σ6,H9,J1,J2,J3,w9⟩
 exact codeAny_compStart_list (loop _ rfl) (Tn.self _ 0 _ _ _ st₁ (loop _ rfl))
end
end L2
set_option Elab.async false
set_option linter.all false
set_option maxRecDepth 100000
namespace L2
open PySem PySem.Spec PyProof.Rows
section
variable {X:Cx}
def rInsert:V->List V->Hp->VK->Prop:=fun x vs H Q=>∃ (l:Addr) (xs:List V) (i:Int) (y:V),x=.ref l/\vs=[.int i,y]/\H l=some (.lst xs)/\0<=i/\i<=xs.length/\xs.length<sizeLine/\Q .non (upd H l (.lst (xs.take i.toNat++y::xs.drop i.toNat)))
theorem Gc:MtM X "list.insert" rInsert:=by
 intro pins s σ H x vs v us Q I rx rv h;obtain ⟨l,xs,i,y,rfl,rfl,hH,h0,hk,hz,q⟩:=h;cases rx;obtain ⟨u1,u2,rfl,⟨t,rfl⟩,ru⟩:=rv.two;obtain ⟨z,its,n,r,hl,e⟩:=I.lstM hH;have hn:=lV;have hf:Builtin.List.listFitsIndex i=true:=by
   unfold Builtin.List.listFitsIndex;rw [Bool.and_eq_true];exact ⟨decide_eq_true (by omega),decide_eq_true (by omega)⟩
 have hf':¬ (!Builtin.List.listFitsIndex i)=true:=by rw [hf];decide
 have hzz:its.toArray.size<=sizeLine:=by rw [List.size_toArray,<- hl];exact z
 refine call_meets PySem.F.slot_list_insert ⟨_,e,rfl⟩ PySem.F.entry_list_insert (PySem.F.args_list_insert_3 _ _ _) (PySem.AutoSeq1.list_insert_list_int_val_1 l its.toArray n i t u2 hf' hzz) ⟨e,?_⟩;refine ⟨.non,_,I.lset (its':=its.take i.toNat++u2::its.drop i.toNat) hH e ?_ ((r.take i.toNat).append (.cons ru (r.drop i.toNat))) ?_,rfl,q⟩
 . show (its.toArray.extract 0 (if i<0 then (i+(its.toArray.size:Int)).toNat else min i.toNat its.toArray.size)).push u2++its.toArray.extract (if i<0 then (i+(its.toArray.size:Int)).toNat else min i.toNat its.toArray.size)=_;have e0:(if i<0 then (i+(its.toArray.size:Int)).toNat else min i.toNat its.toArray.size)=i.toNat:=by
     rw [if_neg (by omega),List.size_toArray];omega
   rw [e0];exact PySem.W.kl_ins_eq its i.toNat u2
 . rw [List.length_append,List.length_cons,List.length_take,List.length_drop];omega
def KQ (K:PySem.W.Frag):List V->Hp->VK->Prop:=fun xs H Q=>∃ x c t b,xs=[x,c]/\TyOf K H x t/\(∀ cv,RelV c cv->PySem.W.kitOne K t cv=some b)/\Q (.bl b) H
theorem nO:kb X (.builtin "isinstance") (KQ X.K):=by
 intro pins s σ H xs us Q I r h;obtain ⟨x,c,t,b,rfl,ty,hk,q⟩:=h;obtain ⟨u,cv,rfl,ru,rc⟩:=Km r;exact Fg I ru ty (hk cv rc) fun tk=>⟨.bl b,H,I.tok tk,rfl,q⟩
theorem Ju (hc:X.calm=true):kb X (.builtin "all") (fun xs H Q=>∃ (p:Addr) (bs:List Bool),xs=[.ref p]/\SqL X.K H p (bs.map V.bl)/\Q (.bl (bs.all id)) H):=by
 intro pins s σ H xs us Q I r h;obtain ⟨p,bs,rfl,hp,q⟩:=h;obtain ⟨u,rfl,ru⟩:=tR r;cases ru;obtain ⟨its,rv,pl,hz⟩:=I.list hp;have hl:=pl.isList;have hlt:=pl.lt;have hh:X.A.in1.handled=none:=I.ok.hd hc;have hlen:its.length=bs.length:=by rw [<- rv.length,List.length_map]
 refine call_all_walk (wpAny_pyIter_list hl ?_);refine ⟨s.heap.objs.size,[s.heap.objs.size,p],[s.heap.objs.size],its.toArray.size,_,_,fun i=>(bs[i]?).getD true,rfl,Walks.list (A:=X.A.in1) hh _ p (Nat.ne_of_lt hlt) its.toArray,
   ⟨⟨_,Heap.get?_push_size _ rfl,rfl,rfl⟩,hl.push _⟩,fun i v s' Q' E' hP hQ=>?_,fun h' tk hk=>?_⟩
 . have hi:its[i]?=some v:=by simpa using hP
   have hib:i<bs.length:=by rw [<- hlen];exact (List.getElem?_eq_some_iff.mp hi).1
   obtain ⟨u,hu,ru⟩:=rv.get (i:=i) (x:=V.bl bs[i]) (by rw [List.getElem?_map,List.getElem?_eq_getElem hib];rfl);rw [hi] at hu;cases hu;cases ru;replace hQ:Q' (bs[i]?.getD true) s':=hQ;rw [List.getElem?_eq_getElem hib] at hQ;exact wpAny_truthy_bool hQ
 . have e:((List.range its.toArray.size).all fun i=>(bs[i]?).getD true)=bs.all id:=by
     rw [List.size_toArray,hlen];rw [Bool.eq_iff_iff,List.all_eq_true,List.all_eq_true]
     constructor
     . intro z b hb;obtain ⟨i,hi,rfl⟩:=List.getElem_of_mem hb;have:=z i (List.mem_range.mpr hi);rw [List.getElem?_eq_getElem hi] at this;exact this
     . intro z i hi;have hi':=List.mem_range.mp hi;rw [List.getElem?_eq_getElem hi'];exact z _ (List.getElem_mem hi')
   have kk:∀ b o,s.heap.get? b=some o->h'.get? b=some o:=fun b o eb=>hk b o (fun hm=>by rw [List.mem_singleton.mp hm] at eb;exact Nat.lt_irrefl _ (Heap.lt_size eb)) (Heap.get?_push_of_some _ eb);rw [e];exact ⟨.bl _,H,I.kept (t':=tk) kk,rfl,q⟩
end
section
variable {X:Cx}
end
end L2
set_option Elab.async false
set_option linter.all false
set_option maxRecDepth 100000
namespace L2
open PySem PySem.Spec PyProof.Rows
structure SubF (P:Program) (w:World) (l:Addr) (ob:Obj) (src:Heap->Array Value->Prop) (at':Addr->Nat->Heap->Prop):Prop where
 start:∀ (A:Around) (s:Shared) (vs:Array Value) (Q:Value->Shared->Prop) (E:Value->Shared->Prop),src s.heap vs->Q (.ref s.heap.objs.size) { s with heap:=s.heap.push ob }->wpAny (model P w) A (pyIter (.ref l)) Q E s
 first:∀ it h,h.get? it=some ob->at' it 0 h
 atK:∀ it i h h',at' it i h->(∀ o,h.get? it=some o->h'.get? it=some o)->at' it i h'
 srcK:∀ h h' vs,src h vs->(∀ o,h.get? l=some o->h'.get? l=some o)->src h' vs
 obj:∀ it i h,at' it i h->∃ o,h.get? it=some o/\∀ v,o.data≠.cell v
 item:∀ (A:Around) (s:Shared) (it:Addr) (i:Nat) (vs:Array Value) (x:Value) (Q:Value->Shared->Prop) (E:Value->Shared->Prop),at' it i s.heap->src s.heap vs->vs[i]?=some x ->
   (∀ h',at' it (i+1) h'->Heap.SameBut it s.heap h'->Q x { s with heap:=h' })->wpAny (model P w) A (Builtin.SmallTypes.nextOf (.ref it)) Q E s
 fin:∀ (A:Around) (s:Shared) (it:Addr) (i:Nat) (vs:Array Value) (Q:Value->Shared->Prop) (E:Value->Shared->Prop),A.handled=none->at' it i s.heap->src s.heap vs->vs[i]?=none ->
   (∀ h' e,Heap.ExtBut it s.heap h'->(∃ o,h'.get? e=some o/\o.cls=.type "StopIteration")->E (.ref e) { s with heap:=h' })->wpAny (model P w) A (Builtin.SmallTypes.nextOf (.ref it)) Q E s
theorem E9 {P:Program} {w:World} (l:Addr):SubF P w l { cls:=.type "list_iterator",data:=.fields #[.ref l,.int 0 0] } (fun h vs=>h.IsList l vs) (fun it i h=>h.IsListIter it l i) where
 start:=fun A s vs Q E hl hq=>wpAny_pyIter_list hl hq
 first:=fun it h e=>⟨_,e,rfl,rfl⟩
 atK:=fun it i h h' x k=>x.at k
 srcK:=fun h h' vs x k=>x.at k
 obj:=fun it i h x=>by
   obtain ⟨o,ho,_,hd⟩:=x;exact ⟨o,ho,fun v z=>by rw [hd] at z;cases z⟩
 item:=fun A s it i vs x Q E ha hs hx hq=>wpAny_nextOf_list_item ha hs hx hq
 fin:=fun A s it i vs Q E hh ha hs hx hq=>wpAny_nextOf_list_end hh ha hs hx hq
section
variable {P:Program} {w:World} {A:Around} {E:Value->Shared->Prop} {s:Shared}
theorem tY {it t:Addr} {i:Nat} {vs:Array Value} {x:Value} {Q:Value->Shared->Prop} (hi:s.heap.IsTupleIter it t i) (ht:s.heap.IsTuple t vs) (hx:vs[i]?=some x)
   (hq:∀ h',h'.IsTupleIter it t (i+1)->Heap.SameBut it s.heap h'->Q x { s with heap:=h' }):wpAny (model P w) A (Builtin.SmallTypes.nextOf (.ref it)) Q E s:=by
 obtain ⟨oi,hoi,hci,hdi⟩:=id hi;obtain ⟨ot,hot,_,nt,hdt⟩:=ht;unfold Builtin.SmallTypes.nextOf;refine wpAny_bind (wpAny_callSpecial?_slot (name:=Str.ofString "__next__") hi.typeIs F.slot_tuple_iterator_next (wpAny_call_entry F.slot_tuple_iterator_next hi.typeIs F.entry_tuple_iterator_next ?_ (F.args_tuple_iterator_next_1 _)));show wpAny (model P w) _ (field (.ref it) 0 >>= _) _ _ s;refine wpAny_bind (wpAny_field hoi hdi (x:=.ref t) rfl ?_);show wpAny (model P w) _ (if (Value.ref t == Value.none)=true then _ else _) _ _ s;rw [if_neg (by exact Bool.false_ne_true)];show wpAny (model P w) _ (field (.ref it) 1 >>= _) _ _ s;refine wpAny_bind (wpAny_field hoi hdi (x:=.int i 0) rfl ?_);show wpAny (model P w) _ (seqItems? (.ref t) >>= _) _ _ s;refine wpAny_bind (wpAny_seqItems hot hdt ?_);simp only [Int.toNat_natCast,hx];refine wpAny_bind (wpAny_setField hoi hdi (by simp) (wpAny_pure ⟨x,rfl,wpAny_pure (hq _ ?_ (Heap.SameBut.update ..))⟩));exact ⟨_,Heap.get?_update_self _ hoi (Obj.isFreed_of_fields (Obj.data_mapFields hdi _)),(Obj.cls_mapFields ..).trans hci,by rw [Obj.data_mapFields hdi];simp [rawInt]⟩
theorem uS {it t:Addr} {i:Nat} {vs:Array Value} {Q:Value->Shared->Prop} (hh:A.handled=none) (hi:s.heap.IsTupleIter it t i) (ht:s.heap.IsTuple t vs) (hx:vs[i]?=none)
   (hE:∀ h' e,Heap.ExtBut it s.heap h'->(∃ o,h'.get? e=some o/\o.cls=.type "StopIteration")->E (.ref e) { s with heap:=h' }):wpAny (model P w) A (Builtin.SmallTypes.nextOf (.ref it)) Q E s:=by
 obtain ⟨oi,hoi,hci,hdi⟩:=id hi;obtain ⟨ot,hot,_,nt,hdt⟩:=ht;unfold Builtin.SmallTypes.nextOf;refine wpAny_bind (wpAny_callSpecial?_slot (name:=Str.ofString "__next__") hi.typeIs F.slot_tuple_iterator_next (wpAny_call_entry F.slot_tuple_iterator_next hi.typeIs F.entry_tuple_iterator_next ?_ (F.args_tuple_iterator_next_1 _)));show wpAny (model P w) _ (field (.ref it) 0 >>= _) _ _ s;refine wpAny_bind (wpAny_field hoi hdi (x:=.ref t) rfl ?_);show wpAny (model P w) _ (if (Value.ref t == Value.none)=true then _ else _) _ _ s;rw [if_neg (by exact Bool.false_ne_true)];show wpAny (model P w) _ (field (.ref it) 1 >>= _) _ _ s;refine wpAny_bind (wpAny_field hoi hdi (x:=.int i 0) rfl ?_);show wpAny (model P w) _ (seqItems? (.ref t) >>= _) _ _ s;refine wpAny_bind (wpAny_seqItems hot hdt ?_);simp only [Int.toNat_natCast,hx];refine wpAny_bind (wpAny_rule (wpAny_bind (wpAny_setField hoi hdi (by simp) ?_)));show wpAny (model P w) _ (newExc (.type "StopIteration") [] >>= _) _ _ _;refine wpAny_bind ?_;simp only [newExc,newTuple];refine wpAny_bind (wpAny_newObj_type ?_ (by size_fits));refine wpAny_bind (m:=firstArgMember _ _) (wpAny_of_eq (a:=Value.none) (by first|rfl|(simp only [firstArgMember];rfl)) ?_);refine wpAny_newObj_type ?_ (by size_fits);simp only [raiseNew];refine wpAny_bind (wpAny_handled ?_)
 first|rw [show A.in1.handled=none from hh]|rw [hh]
 refine wpAny_bind (wpAny_pure (wpAny_throw ?_));exact hE _ _ (((Heap.SameBut.update ..).extBut.push _).push _) ⟨_,Heap.get?_push_size _ rfl,rfl⟩
end
theorem Ka {P:Program} {w:World} (l:Addr):SubF P w l { cls:=.type "tuple_iterator",data:=.fields #[.ref l,.int 0 0] } (fun h vs=>h.IsTuple l vs) (fun it i h=>h.IsTupleIter it l i) where
 start:=fun A s vs Q E hl hq=>wpAny_pyIter_tuple hl hq
 first:=fun it h e=>⟨_,e,rfl,rfl⟩
 atK:=fun it i h h' x k=>let ⟨o,ho,r⟩:=x;⟨o,k o ho,r⟩
 srcK:=fun h h' vs x k=>let ⟨o,ho,r⟩:=x;⟨o,k o ho,r⟩
 obj:=fun it i h x=>by
   obtain ⟨o,ho,_,hd⟩:=x;exact ⟨o,ho,fun v z=>by rw [hd] at z;cases z⟩
 item:=fun A s it i vs x Q E ha hs hx hq=>tY ha hs hx hq
 fin:=fun A s it i vs Q E hh ha hs hx hq=>uS hh ha hs hx hq
end L2
set_option Elab.async false
set_option linter.all false
set_option maxRecDepth 100000
namespace L2
open PySem PySem.Spec PyProof.Rows
structure ZAp (z TI TO i1 i2 l1 l2:Addr):Prop where
 a1:TI≠z
 a2:TO≠z
 a3:i1≠z
 a4:i2≠z
 a5:TI≠TO
 a6:TI≠i1
 a7:TI≠i2
 a8:TO≠i1
 a9:TO≠i2
 a0:i1≠i2
 b1:l1≠z/\l1≠TO/\l1≠i1/\l1≠i2
 b2:l2≠z/\l2≠TO/\l2≠i1/\l2≠i2
section
variable {P:Program} {w:World} {A:Around} {E:Value->Shared->Prop} {s:Shared} {l1 l2:Addr} {ob1 ob2:Obj} {src1 src2:Heap->Array Value->Prop} {at1 at2:Addr->Nat->Heap->Prop}
theorem zW (S1:SubF P w l1 ob1 src1 at1) (S2:SubF P w l2 ob2 src2 at2) {z TI TO i1 i2:Addr} {k1 k2:Nat} {xs ys:Array Value} {x y a b:Value} {Q:Value->Shared->Prop} (D:ZAp z TI TO i1 i2 l1 l2)
   (Hz:IsZip s.heap z TI TO .none) (HI:IsPair s.heap TI (.ref i1) (.ref i2)) (HO':IsPair s.heap TO a b) (p1:at1 i1 k1 s.heap) (p2:at2 i2 k2 s.heap) (q1:src1 s.heap xs) (q2:src2 s.heap ys) (hx:xs[k1]?=some x) (hy:ys[k2]?=some y)
   (hQ:∀ h',IsZip h' z TI TO (rawInt s.heap.objs.size)->IsPair h' TO x y->at1 i1 (k1+1) h'->at2 i2 (k2+1) h'->IsPair h' s.heap.objs.size x y->h'.objs.size=s.heap.objs.size+1 ->
     (∀ c o,c≠z->c≠TO->c≠i1->c≠i2->s.heap.get? c=some o->h'.get? c=some o)->Q (.ref s.heap.objs.size) { s with heap:=h' }) :
   wpAny (model P w) A (Builtin.«zip.__next__» ⟨[.ref z],[]⟩) (fun fn s'=>∃ v,fn=.done (.ret v)/\Q v s') E s:=by
 show wpAny (model P w) _ (field (.ref z) 2 >>= _) _ _ _;refine wpAny_bind (wpAny_field Hz rfl (x:=.bool false) rfl ?_);show wpAny (model P w) _ (field (.ref z) 3 >>= _) _ _ _;refine wpAny_bind (wpAny_field Hz rfl (x:=.ref TI) rfl ?_);refine wpAny_bind (wpAny_seqItems HI rfl ?_);show wpAny (model P w) _ (Builtin.SmallTypes.ownedTupleIsFree (.ref z) >>= _) _ _ _;refine wpAny_bind ?_;unfold Builtin.SmallTypes.ownedTupleIsFree;refine wpAny_bind (wpAny_field Hz rfl (x:=.none) rfl (wpAny_pure ?_));simp only [if_true];refine wpAny_bind (wpAny_rule ?_);refine wpAny_bind (wpAny_field Hz rfl (x:=.ref TO) rfl ?_);refine wpAny_bind (wpAny_setField_rec Hz (by simp) fun g1 z1 e1=>?_);replace z1:IsZip g1 z TI TO .ellipsis:=z1;refine wpAny_bind ?_;simp only [List.zipIdx_cons,List.zipIdx_nil,List.forIn_cons,List.forIn_nil];refine wpAny_bind (wpAny_bind (wpAny_onRaise ?_));show wpAny (model P w) _ (Builtin.SmallTypes.nextOf (.ref i1) >>= _) _ _ _;refine wpAny_bind (S1.item _ { s with heap:=g1 } i1 k1 xs x _ _ (S1.atK _ _ _ _ p1 fun o e=>e1.extBut _ _ D.a3 e) (S1.srcK _ _ _ q1 fun o e=>e1.extBut _ _ D.b1.1 e) hx fun g2 p1b e2=>wpAny_pure ?_);have o2:IsPair g2 TO a b:=e2.extBut _ _ D.a8 (e1.extBut _ _ D.a2 HO');refine wpAny_bind (wpAny_seqItems o2 rfl ?_);refine wpAny_bind (wpAny_updateSeq_pair o2 fun g3 o3 e3=>?_);replace o3:IsPair g3 TO x b:=o3;refine wpAny_bind (wpAny_letGo (wpAny_pure ?_));refine wpAny_bind (wpAny_bind (wpAny_onRaise ?_));show wpAny (model P w) _ (Builtin.SmallTypes.nextOf (.ref i2) >>= _) _ _ _;refine wpAny_bind (S2.item _ { s with heap:=g3 } i2 k2 ys y _ _ (S2.atK _ _ _ _ p2 fun o e=>e3.extBut _ _ D.a9.symm (e2.extBut _ _ D.a0.symm (e1.extBut _ _ D.a4 e))) (S2.srcK _ _ _ q2 fun o e=>e3.extBut _ _ D.b2.2.1 (e2.extBut _ _ D.b2.2.2.1 (e1.extBut _ _ D.b2.1 e))) hy fun g4 p2b e4=>wpAny_pure ?_);have o4:IsPair g4 TO x b:=e4.extBut _ _ D.a9 o3;refine wpAny_bind (wpAny_seqItems o4 rfl ?_);refine wpAny_bind (wpAny_updateSeq_pair o4 fun g5 o5 e5=>?_);replace o5:IsPair g5 TO x y:=o5;refine wpAny_bind (wpAny_letGo (wpAny_pure (wpAny_pure ?_)));refine wpAny_bind (wpAny_seqItems o5 rfl ?_);refine wpAny_bind (wpAny_newTuple ?_);have sz:g5.objs.size=s.heap.objs.size:=by rw [e5.1,e4.1,e3.1,e2.1,e1.1]
 have z5:IsZip g5 z TI TO .ellipsis:=e5.extBut _ _ D.a2.symm (e4.extBut _ _ D.a4.symm (e3.extBut _ _ D.a2.symm (e2.extBut _ _ D.a3.symm z1)));have k5:∀ c o,c≠z->c≠TO->c≠i1->c≠i2->s.heap.get? c=some o->g5.get? c=some o:=fun c o c1 c2 c3 c4 e =>
   e5.extBut _ _ c2 (e4.extBut _ _ c4 (e3.extBut _ _ c2 (e2.extBut _ _ c3 (e1.extBut _ _ c1 e))))
 have p15:at1 i1 (k1+1) g5:=S1.atK _ _ _ _ p1b fun o e=>e5.extBut _ _ D.a8.symm (e4.extBut _ _ D.a0 (e3.extBut _ _ D.a8.symm e));have p25:at2 i2 (k2+1) g5:=S2.atK _ _ _ _ p2b fun o e=>e5.extBut _ _ D.a9.symm e;have zlt:z<g5.objs.size:=Heap.lt_size z5;show wpAny (model P w) _ (Builtin.SmallTypes.ownedTupleHandOut (.ref z) (.ref g5.objs.size) >>= _) _ _ _;refine wpAny_bind ?_;unfold Builtin.SmallTypes.ownedTupleHandOut;have z6:IsZip (g5.push { cls:=.type "tuple",data:=.seq #[x,y] }) z TI TO .ellipsis:=Heap.get?_push_of_some _ z5;refine wpAny_bind (wpAny_setField_rec z6 (by simp) fun g7 z7 e7=>?_);replace z7:IsZip g7 z TI TO (rawInt g5.objs.size):=z7;refine wpAny_setField_rec z7 (by simp) fun g8 z8 e8=>?_;replace z8:IsZip g8 z TI TO (rawInt g5.objs.size):=z8;have up:∀ c o,c≠z->g5.get? c=some o->g8.get? c=some o:=fun c o c1 e=>e8.extBut _ _ c1 (e7.extBut _ _ c1 (Heap.get?_push_of_some _ e));have t8:IsPair g8 g5.objs.size x y:=e8.extBut _ _ (Nat.ne_of_gt zlt) (e7.extBut _ _ (Nat.ne_of_gt zlt) (Heap.get?_push_size _ rfl));have s8:g8.objs.size=g5.objs.size+1:=by rw [e8.1,e7.1,Heap.size_push]
 rw [sz] at z8 t8 s8;refine wpAny_pure ⟨_,rfl,?_⟩;show Q (.ref g5.objs.size) _;rw [sz];exact hQ g8 z8 (up _ _ D.a2 o5) (S1.atK _ _ _ _ p15 fun o e=>up _ o D.a3 e) (S2.atK _ _ _ _ p25 fun o e=>up _ o D.a4 e) t8 s8 fun c o c1 c2 c3 c4 e=>up c o c1 (k5 c o c1 c2 c3 c4 e)
theorem Ch (S1:SubF P w l1 ob1 src1 at1) (S2:SubF P w l2 ob2 src2 at2) {z TI TO i1 i2:Addr} {k1 k2:Nat} {xs ys:Array Value} {a b:Value} {Q:Fin->Shared->Prop} (hh:A.handled=none) (D:ZAp z TI TO i1 i2 l1 l2)
   (Hz:IsZip s.heap z TI TO .none) (HI:IsPair s.heap TI (.ref i1) (.ref i2)) (HO':IsPair s.heap TO a b) (p1:at1 i1 k1 s.heap) (p2:at2 i2 k2 s.heap) (q1:src1 s.heap xs) (q2:src2 s.heap ys) (hend:xs[k1]?=none\/ys[k2]?=none)
   (hE:∀ h' e,(∀ c o,c≠z->c≠TO->c≠i1->c≠i2->s.heap.get? c=some o->h'.get? c=some o)->(∃ o,h'.get? e=some o/\o.cls=.type "StopIteration")->E (.ref e) { s with heap:=h' }) :
   wpAny (model P w) A (Builtin.«zip.__next__» ⟨[.ref z],[]⟩) Q E s:=by
 show wpAny (model P w) _ (field (.ref z) 2 >>= _) _ _ _;refine wpAny_bind (wpAny_field Hz rfl (x:=.bool false) rfl ?_);show wpAny (model P w) _ (field (.ref z) 3 >>= _) _ _ _;refine wpAny_bind (wpAny_field Hz rfl (x:=.ref TI) rfl ?_);refine wpAny_bind (wpAny_seqItems HI rfl ?_);show wpAny (model P w) _ (Builtin.SmallTypes.ownedTupleIsFree (.ref z) >>= _) _ _ _;refine wpAny_bind ?_;unfold Builtin.SmallTypes.ownedTupleIsFree;refine wpAny_bind (wpAny_field Hz rfl (x:=.none) rfl (wpAny_pure ?_));simp only [if_true];refine wpAny_bind (wpAny_rule ?_);refine wpAny_bind (wpAny_field Hz rfl (x:=.ref TO) rfl ?_);refine wpAny_bind (wpAny_setField_rec Hz (by simp) fun g1 z1 e1=>?_);replace z1:IsZip g1 z TI TO .ellipsis:=z1;refine wpAny_bind ?_;simp only [List.zipIdx_cons,List.zipIdx_nil,List.forIn_cons,List.forIn_nil];refine wpAny_bind (wpAny_bind (wpAny_onRaise ?_));show wpAny (model P w) _ (Builtin.SmallTypes.nextOf (.ref i1) >>= _) _ _ _;have p1a:at1 i1 k1 g1:=S1.atK _ _ _ _ p1 fun o e=>e1.extBut _ _ D.a3 e;have q1a:src1 g1 xs:=S1.srcK _ _ _ q1 fun o e=>e1.extBut _ _ D.b1.1 e;cases hx:xs[k1]? with
 | none =>
   refine wpAny_bind (S1.fin _ { s with heap:=g1 } i1 k1 xs _ _ hh p1a q1a hx fun g2 e e2 he=>?_);obtain ⟨oe,hoe,hce⟩:=he;have z2:IsZip g2 z TI TO .ellipsis:=e2 _ _ D.a3.symm z1;have ez:e≠z:=fun t=>by subst t;rw [z2] at hoe;cases hoe;simp at hce
   refine wpAny_setField_rec z2 (by simp) fun g3 _ e3=>hE g3 e (fun c o c1 _ c3 _ t=>e3.extBut _ _ c1 (e2 _ _ c3 (e1.extBut _ _ c1 t))) ⟨oe,e3.extBut _ _ ez hoe,hce⟩
 | some x =>
   have hy:ys[k2]?=none:=by
     rcases hend with h|h
     . rw [hx] at h;cases h
     . exact h
   refine wpAny_bind (S1.item _ { s with heap:=g1 } i1 k1 xs x _ _ p1a q1a hx fun g2 p1b e2=>wpAny_pure ?_);have o2:IsPair g2 TO a b:=e2.extBut _ _ D.a8 (e1.extBut _ _ D.a2 HO');refine wpAny_bind (wpAny_seqItems o2 rfl ?_);refine wpAny_bind (wpAny_updateSeq_pair o2 fun g3 o3 e3=>?_);refine wpAny_bind (wpAny_letGo (wpAny_pure ?_));refine wpAny_bind (wpAny_bind (wpAny_onRaise ?_));show wpAny (model P w) _ (Builtin.SmallTypes.nextOf (.ref i2) >>= _) _ _ _;refine wpAny_bind (S2.fin _ { s with heap:=g3 } i2 k2 ys _ _ hh (S2.atK _ _ _ _ p2 fun o e=>e3.extBut _ _ D.a9.symm (e2.extBut _ _ D.a0.symm (e1.extBut _ _ D.a4 e))) (S2.srcK _ _ _ q2 fun o e=>e3.extBut _ _ D.b2.2.1 (e2.extBut _ _ D.b2.2.2.1 (e1.extBut _ _ D.b2.1 e))) hy fun g4 e e4 he=>?_);obtain ⟨oe,hoe,hce⟩:=he;have z4:IsZip g4 z TI TO .ellipsis:=e4 _ _ D.a4.symm (e3.extBut _ _ D.a2.symm (e2.extBut _ _ D.a3.symm z1));have ez:e≠z:=fun t=>by subst t;rw [z4] at hoe;cases hoe;simp at hce
   refine wpAny_setField_rec z4 (by simp) fun g5 _ e5=>hE g5 e (fun c o c1 c2 c3 c4 t=>e5.extBut _ _ c1 (e4 _ _ c4 (e3.extBut _ _ c2 (e2.extBut _ _ c3 (e1.extBut _ _ c1 t))))) ⟨oe,e5.extBut _ _ ez hoe,hce⟩
abbrev zp1 (h:Heap) (ob1 ob2:Obj):Heap:=(h.push ob1).push ob2
abbrev zp2 (h:Heap) (ob1 ob2:Obj):Heap:=(zp1 h ob1 ob2).push { cls:=.type "tuple",data:=.seq #[.ref h.objs.size,.ref (h.push ob1).objs.size] }
abbrev zp3 (h:Heap) (ob1 ob2:Obj):Heap:=(zp2 h ob1 ob2).push { cls:=.type "tuple",data:=.seq #[.none,.none] }
abbrev zp4 (h:Heap) (ob1 ob2:Obj):Heap:=(zp3 h ob1 ob2).push { cls:=.type "zip",data:=.fields #[.none,.bool false,.bool false,.ref (zp1 h ob1 ob2).objs.size,.ref (zp2 h ob1 ob2).objs.size] }
theorem yU (S1:∀ P w,SubF P w l1 ob1 src1 at1) (S2:∀ P w,SubF P w l2 ob2 src2 at2) (ne:∀ h vs,src2 h vs->∃ o,h.get? l2=some o) (xs ys:Array Value) :
   Meets (Builtin.«zip.__new__» ⟨[.type "zip",.ref l1,.ref l2],[]⟩) (fun _ R s=>src1 s.heap xs/\src2 s.heap ys/\R (.ok (.ret (.ref (zp3 s.heap ob1 ob2).objs.size))) { s with heap:=zp4 s.heap ob1 ob2 }) :=
 .of_wp fun prog w A R s hyp=>by
   obtain ⟨hp,g,d,tk,os⟩:=s;obtain ⟨q1,q2,r⟩:=hyp;have zsub:=sub_zip;have B1:src1 (Shared.heap ⟨hp,g,d,tk,os⟩) xs:=q1;have B2:src2 (Shared.heap ⟨hp.push ob1,g,d,tk,os⟩) ys:=(S2 prog w).srcK _ _ _ q2 fun o e=>Heap.get?_push_of_some _ e
   wp_walk using ((S1 prog w).start _ _ _ _ _ B1),((S2 prog w).start _ _ _ _ _ B2)
   exact ⟨_,rfl,r⟩
theorem Ih (S1:∀ P w,SubF P w l1 ob1 src1 at1) (S2:∀ P w,SubF P w l2 ob2 src2 at2) (ne:∀ h vs,src2 h vs->∃ o,h.get? l2=some o) {xs ys:Array Value} {Q:Value->Shared->Prop} (q1:src1 s.heap xs) (q2:src2 s.heap ys)
   (h:∀ h',IsZip h' (s.heap.objs.size+4) (s.heap.objs.size+2) (s.heap.objs.size+3) .none->IsPair h' (s.heap.objs.size+2) (.ref s.heap.objs.size) (.ref (s.heap.objs.size+1)) ->
     IsPair h' (s.heap.objs.size+3) .none .none->at1 s.heap.objs.size 0 h'->at2 (s.heap.objs.size+1) 0 h' ->
     (∀ c o,s.heap.get? c=some o->h'.get? c=some o)->Q (.ref (s.heap.objs.size+4)) { s with heap:=h' }) (f1:ob1.isFreed=false) (f2:ob2.isFreed=false) :
   wpAny (model P w) A (call (.type "zip") [.ref l1,.ref l2]) Q E s:=by
 refine callType_new F.called_zip (by decide) (F.typeCall_zip_2 _ _) (F.newCall_zip_2 _ _) (fun obj=>F.args_object_init_3 obj _ _) F.entry_zip_new (yU S1 S2 ne xs ys) ⟨q1,q2,?_⟩;have n0:(s.heap.push ob1).objs.size=s.heap.objs.size+1:=Heap.size_push ..;have n1:(zp1 s.heap ob1 ob2).objs.size=s.heap.objs.size+2:=by rw [Heap.size_push,n0]
 have n2:(zp2 s.heap ob1 ob2).objs.size=s.heap.objs.size+3:=by rw [Heap.size_push,n1]
 have n3:(zp3 s.heap ob1 ob2).objs.size=s.heap.objs.size+4:=by rw [Heap.size_push,n2]
 have c5:(zp4 s.heap ob1 ob2).get? (zp3 s.heap ob1 ob2).objs.size=some _:=Heap.get?_push_size _ rfl;have c4:(zp4 s.heap ob1 ob2).get? (zp2 s.heap ob1 ob2).objs.size=some _:=Heap.get?_push_of_some _ (Heap.get?_push_size _ rfl);have c3:(zp4 s.heap ob1 ob2).get? (zp1 s.heap ob1 ob2).objs.size=some _:=Heap.get?_push_of_some _ (Heap.get?_push_of_some _ (Heap.get?_push_size _ rfl));have c2:(zp4 s.heap ob1 ob2).get? (s.heap.push ob1).objs.size=some ob2:=Heap.get?_push_of_some _ (Heap.get?_push_of_some _ (Heap.get?_push_of_some _ (Heap.get?_push_size _ f2)));have c1:(zp4 s.heap ob1 ob2).get? s.heap.objs.size=some ob1:=Heap.get?_push_of_some _ (Heap.get?_push_of_some _ (Heap.get?_push_of_some _ (Heap.get?_push_of_some _ (Heap.get?_push_size _ f1))));show _/\_;rw [n1,n2,n3] at c5;rw [n0,n1] at c3;rw [n2] at c4;rw [n0] at c2;rw [n3];exact ⟨⟨_,c5,rfl⟩,h _ c5 c3 c4 ((S1 P w).first _ _ c1) ((S2 P w).first _ _ c2) fun c o e=>Heap.get?_push_of_some _ (Heap.get?_push_of_some _ (Heap.get?_push_of_some _ (Heap.get?_push_of_some _ (Heap.get?_push_of_some _ e))))⟩
end
def SqX (K:PySem.W.Frag):Bool->Hp->Addr->List V->Prop
 | true,H,a,xs=>SqL K H a xs
 | false,H,a,xs=>SqT K H a xs
def Itz (K:PySem.W.Frag) (c d:Bool) (a b:Addr):It :=
 ⟨fun i H=>∃ xs ys x y,SqX K c H a xs/\SqX K d H b ys/\xs[i]?=some x/\ys[i]?=some y,
  fun i H v H'=>∃ p x y,H p=none/\v=.ref p/\H'=upd H p (.tup [x,y])/\(∀ xs,SqX K c H a xs->xs[i]?=some x)/\∀ ys,SqX K d H b ys->ys[i]?=some y,
  fun i H=>∃ xs ys,SqX K c H a xs/\SqX K d H b ys/\(xs.length<=i\/ys.length<=i)⟩
def Mu (a:Addr):Bool->Obj
 | true=>{ cls:=.type "list_iterator",data:=.fields #[.ref a,.int 0 0] }
 | false=>{ cls:=.type "tuple_iterator",data:=.fields #[.ref a,.int 0 0] }
def El (a:Addr):Bool->Heap->Array Value->Prop
 | true,h,vs=>h.IsList a vs
 | false,h,vs=>h.IsTuple a vs
def zAt (a:Addr):Bool->Addr->Nat->Heap->Prop
 | true,it,i,h=>h.IsListIter it a i
 | false,it,i,h=>h.IsTupleIter it a i
theorem dD (a:Addr) (c:Bool) (P:Program) (w:World):SubF P w a (Mu a c) (El a c) (zAt a c):=by
 cases c
 . exact Ka a
 . exact E9 a
theorem sO (a:Addr) (c:Bool):(Mu a c).isFreed=false:=by cases c <;> rfl
theorem lK (a:Addr) (c:Bool) (h:Heap) (vs:Array Value) (e:El a c h vs):∃ o,h.get? a=some o:=by
 cases c
 . obtain ⟨o,ho,_⟩:=e;exact ⟨o,ho⟩
 . obtain ⟨o,ho,_⟩:=e;exact ⟨o,ho⟩
theorem Inv.sqX {X:Cx} {pins:List (Addr × Obj)} {σ:St} {H:Hp} {s:Shared} {c:Bool} {a:Addr} {xs:List V} (I:Inv X pins σ H s) (h:SqX X.K c H a xs):∃ its:List Value,Vals xs its/\El a c s.heap its.toArray:=by
 cases c with
 | true =>
   obtain ⟨its,r,pl,_⟩:=I.list h;exact ⟨its,r,pl.isList⟩
 | false =>
   obtain ⟨its,r,⟨o,ho,hc,n,hd⟩,_⟩:=I.tuple h;exact ⟨its,r,⟨o,ho,hc,n,hd⟩⟩
theorem Inv.sqX_inj {X:Cx} {pins:List (Addr × Obj)} {σ:St} {H:Hp} {s:Shared} {c:Bool} {a:Addr} {xs ys:List V} (I:Inv X pins σ H s) (h:SqX X.K c H a xs) (h':SqX X.K c H a ys):xs=ys:=by
 cases c with
 | true=>exact I.list_inj h h'
 | false=>exact I.tuple_inj h h'
theorem JN {P:Program} {w:World} {K:PySem.W.Frag} {elts:List Expr} {x1} {tpos:Pos} (c d:Bool) (a b z TI TO i1 i2:Addr) (D:ZAp z TI TO i1 i2 a b) :
   Turn P w K (.Tuple elts x1 tpos) (Itz K c d a b) [z,TI,TO,i1,i2] z (fun i h=>IsZip h z TI TO .none/\IsPair h TI (.ref i1) (.ref i2)/\(∃ u v,IsPair h TO u v)/\zAt a c i1 i h/\zAt b d i2 i h) where
 mem:=by simp
 obj:=fun i h t e he=>by
   obtain ⟨t1,t2,⟨u,v,t3⟩,t4,t5⟩:=t;simp only [List.mem_cons,List.mem_nil_iff,or_false] at he;rcases he with rfl|rfl|rfl|rfl|rfl
   . exact ⟨_,t1,fun v z=>by cases z⟩
   . exact ⟨_,t2,fun v z=>by cases z⟩
   . exact ⟨_,t3,fun v z=>by cases z⟩
   . exact (dD a c P w).obj _ _ _ t4
   . exact (dD b d P w).obj _ _ _ t5
 keep:=fun i h h' t k=>by
   obtain ⟨t1,t2,⟨u,v,t3⟩,t4,t5⟩:=t;exact ⟨k z (by simp) _ t1,k TI (by simp) _ t2,⟨u,v,k TO (by simp) _ t3⟩,(dD a c P w).atK _ _ _ _ t4 fun o e=>k i1 (by simp) o e,(dD b d P w).atK _ _ _ _ t5 fun o e=>k i2 (by simp) o e⟩
 item:=fun X e1 e2 e3 hc i pins s σ H E I f t g=>by
   subst e1 e2 e3;obtain ⟨t1,t2,⟨u,v,t3⟩,t4,t5⟩:=t;obtain ⟨xs,ys,x,y,s1,s2,hx,hy⟩:=g;obtain ⟨us,r1,q1⟩:=I.sqX s1;obtain ⟨vs,r2,q2⟩:=I.sqX s2;obtain ⟨xu,hxu,rx⟩:=r1.get hx;obtain ⟨yu,hyu,ry⟩:=r2.get hy;have hT:s.TypeIs (.ref z) "zip":=⟨_,t1,rfl⟩;unfold pyNext;refine wpAny_bind (wpAny_attempt (wpAny_callSpecial?_slot (name:=Str.ofString "__next__") hT F.slot_zip_next (wpAny_call_entry F.slot_zip_next hT F.entry_zip_next
     (zW (dD a c _ _) (dD b d _ _) D t1 t2 t3 t4 t5 q1 q2 (x:=xu) (y:=yu) (by simpa using hxu) (by simpa using hyu) fun h' w1 w2 w3 w4 w5 w6 w7=>wpAny_pure ?_) (F.args_zip_next_1 _))))
   refine ⟨_,rfl,wpAny_letOwnedTupleGo_zip w1 fun h2 n1 n2=>?_⟩;have fz:∀ q∈[z,TI,TO,i1,i2],iT X pins H q:=f;have lt0:s.heap.objs.size≠z:=Nat.ne_of_gt (Heap.lt_size t1);have new:IsPair h2 s.heap.objs.size xu yu:=n2.extBut _ _ lt0 w5;have kp:∀ q o,q ∉ [z,TI,TO,i1,i2]->s.heap.get? q=some o->h2.get? q=some o:=fun q o hq e=>by
     simp only [List.mem_cons,List.mem_nil_iff,or_false,not_or] at hq;exact n2.extBut _ _ hq.1 (w7 q o hq.1 hq.2.2.1 hq.2.2.2.1 hq.2.2.2.2 e)
   have kTI:h2.get? TI=some _:=n2.extBut _ _ D.a1 (w7 TI _ D.a1 D.a5 D.a6 D.a7 t2);have Hn:∀ q u,H q=some u->q ∉ [z,TI,TO,i1,i2]:=fun q u e hq=>by rw [(fz q hq).1] at e;cases e
   have I2:Inv X pins σ H { s with heap:=h2 }:=by
     refine I.step (g':=s.gens) (d':=s.drawn) (t':=s.toks) (ch:=[z,TI,TO,i1,i2]) (fun q hq=>⟨(fz q hq).2.2.2.1,(fz q hq).2.1,(fz q hq).2.2.2.2.1,(fz q hq).2.2.2.2.2⟩) (fun q o _ _ hq e _=>kp q o hq e) (fun q o _ _ hq e _=>⟨o.slots,kp q o hq e⟩) (fun _ _ _ _ n=>n)
       (fun q o hq e=>⟨o,kp q o hq e⟩) (fun _ _ e=>e) (fun _ _ _ e=>e) (fun q ps e=>⟨#[],by rw [e];simp⟩) (fun m hm=>?_) (fun q u e=>?_) I.bare
     . obtain ⟨o,es,ep,ho,r⟩:=hm;exact ⟨o,es,ep,kp _ o (fun hq=>(fz _ hq).2.1 rfl) ho,r⟩
     . refine (I.hok q u e).stay (fun q' v hq' e'=>kp q' v ?_ e') (fun _ e'=>e') fun _ _ e'=>e';rcases hq' with rfl|hq'
       . exact Hn _ u e
       . exact Hn _ _ hq'
   have nH:H s.heap.objs.size=none:=I.fresh;have I3:Inv X pins σ (upd H s.heap.objs.size (.tup [x,y])) { s with heap:=h2 }:=by
     refine ⟨I2.ok,I2.os,I2.bare,?_,I2.loc,I2.cell,?_,fun n c e=>?_,fun p hp=>?_,fun q u e=>?_,I2.len⟩
     . refine ⟨I2.base.keep,I2.base.slot,fun q o e n hx=>?_,I2.base.there,fun q xs e=>?_,fun q o u e=>?_,fun q ps e=>?_⟩
       . have lt:q<X.s₀.heap.objs.size:=Heap.lt_size e;rw [ao (Nat.ne_of_lt (Nat.lt_of_lt_of_le lt I.sz))];exact I2.base.free q o e n hx
       . have e':=I2.base.tups q xs e;rw [ao (fun z=>by rw [z,nH] at e';cases e')];exact e'
       . have e':=I2.base.frzs q o u e;rw [ao (fun z=>by rw [z,nH] at e';cases e')];exact e'
       . obtain ⟨more,e'⟩:=I2.base.tbls q ps e;exact ⟨more,by rw [ao (fun z=>by rw [z,nH] at e';cases e')];exact e'⟩
     . rw [ao (Nat.ne_of_lt I.lt)];exact I2.free
     . obtain ⟨vv,o,ho,_⟩:=I.cell n c e;rw [ao (Nat.ne_of_lt (Heap.lt_size ho))];exact I2.freeC n c e
     . obtain ⟨k1,k2,k3⟩:=I.pin p hp;rw [ao (Nat.ne_of_lt (Heap.lt_size k1))];exact I2.pin p hp
     . by_cases hq:q=s.heap.objs.size
       . subst hq;rw [ak] at e;cases e;exact ⟨by show 2<=sizeLine;decide,[xu,yu],.cons rx (.cons ry .nil),_,new,rfl,_,rfl⟩
       . rw [ao hq] at e;refine (I2.hok q u e).stay (fun _ _ _ e'=>e') (fun q' e'=>?_) fun q' xs e'=>?_
         . rw [ao (fun z=>by rw [z,nH] at e';cases e')];exact e'
         . rw [ao (fun z=>by rw [z,nH] at e';cases e')];exact e'
   refine ⟨.ref s.heap.objs.size,_,I3,rfl,⟨_,x,y,nH,rfl,rfl,fun xs' q=>?_,fun ys' q=>?_⟩,⟨n1,kTI,⟨_,_,n2.extBut _ _ D.a2 w2⟩,(dD a c X.prog X.w).atK _ _ _ _ w3 fun o e=>n2.extBut _ _ D.a3 e,(dD b d X.prog X.w).atK _ _ _ _ w4 fun o e=>n2.extBut _ _ D.a4 e⟩,fun q hq=>?_⟩
   . rw [<- I.sqX_inj s1 q];exact hx
   . rw [<- I.sqX_inj s2 q];exact hy
   . have hlt:q<s.heap.objs.size:=by
       simp only [List.mem_cons,List.mem_nil_iff,or_false] at hq;rcases hq with rfl|rfl|rfl|rfl|rfl
       . exact Heap.lt_size t1
       . exact Heap.lt_size t2
       . exact Heap.lt_size t3
       . exact let ⟨o,e,_⟩:=(dD a c X.prog X.w).obj _ _ _ t4;Heap.lt_size e
       . exact let ⟨o,e,_⟩:=(dD b d X.prog X.w).obj _ _ _ t5;Heap.lt_size e
     rw [ao (Nat.ne_of_lt hlt)];exact (fz q hq).1
 done:=fun X e1 e2 e3 hc i pins s σ H E I f t g=>by
   subst e1 e2 e3;obtain ⟨t1,t2,⟨u,v,t3⟩,t4,t5⟩:=t;obtain ⟨xs,ys,s1,s2,hend⟩:=g;obtain ⟨us,r1,q1⟩:=I.sqX s1;obtain ⟨vs,r2,q2⟩:=I.sqX s2;have fz:∀ q∈[z,TI,TO,i1,i2],iT X pins H q:=f;have hh:X.A.handled=none:=I.ok.hd hc;have hT:s.TypeIs (.ref z) "zip":=⟨_,t1,rfl⟩;have hend':us.toArray[i]?=none\/vs.toArray[i]?=none:=by
     rcases hend with e|e
     . exact .inl (by have:=r1.length;simp;omega)
     . exact .inr (by have:=r2.length;simp;omega)
   unfold pyNext;refine wpAny_bind (wpAny_attempt (wpAny_callSpecial?_slot (name:=Str.ofString "__next__") hT F.slot_zip_next (wpAny_call_entry F.slot_zip_next hT F.entry_zip_next
     (Ch (dD a c _ _) (dD b d _ _) hh D t1 t2 t3 t4 t5 q1 q2 hend' fun h' e hk he=>?_) (F.args_zip_next_1 _))))
   obtain ⟨o,ho,hcl⟩:=he;refine wpAny_bind (wpAny_isInstance (T:="StopIteration") (b:=true) ⟨o,ho,hcl⟩ isSubtype_stop (wpAny_pure ⟨rfl,?_⟩));have kp:∀ q o,q ∉ [z,TI,TO,i1,i2]->s.heap.get? q=some o->h'.get? q=some o:=fun q o hq e=>by
     simp only [List.mem_cons,List.mem_nil_iff,or_false,not_or] at hq;exact hk q o hq.1 hq.2.2.1 hq.2.2.2.1 hq.2.2.2.2 e
   have Hn:∀ q u,H q=some u->q ∉ [z,TI,TO,i1,i2]:=fun q u e hq=>by rw [(fz q hq).1] at e;cases e
   refine I.step (g':=s.gens) (d':=s.drawn) (t':=s.toks) (ch:=[z,TI,TO,i1,i2]) (fun q hq=>⟨(fz q hq).2.2.2.1,(fz q hq).2.1,(fz q hq).2.2.2.2.1,(fz q hq).2.2.2.2.2⟩) (fun q o _ _ hq e _=>kp q o hq e) (fun q o _ _ hq e _=>⟨o.slots,kp q o hq e⟩) (fun _ _ _ _ n=>n)
     (fun q o hq e=>⟨o,kp q o hq e⟩) (fun _ _ e=>e) (fun _ _ _ e=>e) (fun q ps e=>⟨#[],by rw [e];simp⟩) (fun m hm=>?_) (fun q u e=>?_) I.bare
   . obtain ⟨o,es,ep,ho,r⟩:=hm;exact ⟨o,es,ep,kp _ o (fun hq=>(fz _ hq).2.1 rfl) ho,r⟩
   . refine (I.hok q u e).stay (fun q' v hq' e'=>kp q' v ?_ e') (fun _ e'=>e') fun _ _ e'=>e';rcases hq' with rfl|hq'
     . exact Hn _ u e
     . exact Hn _ _ hq'
 self:=fun A i s Q E t q=>wpAny_pyIter_zip t.1 q
end L2
set_option Elab.async false
set_option linter.all false
set_option maxRecDepth 100000
namespace L2
open PySem PySem.Spec PyProof.Rows
section
variable {X:Cx} {pins:List (Addr × Obj)} {σ:St} {H H2:Hp} {s s2:Shared} {a:Addr} {o:HO}
end
section
variable {P:Program} {w:World} {A:Around} {E:Value->Shared->Prop} {s:Shared}
end
end L2
set_option Elab.async false
set_option linter.all false
set_option maxRecDepth 100000
namespace L2
open PySem PySem.Spec PyProof.Rows
section
variable {P:Program} {w:World} {A:Around} {E:Value->Shared->Prop} {s:Shared} {R:Result->Shared->Prop}
end
section
variable {X:Cx} {e:Expr} {te:TE} {p1 p2 pos pos2:Pos}
end
end L2
set_option Elab.async false
set_option linter.all false
set_option maxRecDepth 100000
namespace L2
open PySem PySem.Spec PyProof.Rows
theorem dZ {a b:Nat} (h:a<b\/b<a):a≠b:=by omega
theorem Mn (n a b:Nat) (h1:a<n) (h2:b<n):ZAp (n+4) (n+2) (n+3) n (n+1) a b :=
 ⟨dZ (by omega),dZ (by omega),dZ (by omega),dZ (by omega),dZ (by omega),dZ (by omega),dZ (by omega),dZ (by omega),dZ (by omega),dZ (by omega),⟨dZ (by omega),dZ (by omega),dZ (by omega),dZ (by omega)⟩,⟨dZ (by omega),dZ (by omega),dZ (by omega),dZ (by omega)⟩⟩
section
variable {X:Cx}
def JW (K:PySem.W.Frag) (c d:Bool) (ta:TA):TI:=fun σ H R=>ta σ H fun vs H1=>∃ a b,vs=[.ref a,.ref b]/\(∃ xs,SqX K c H1 a xs)/\(∃ ys,SqX K d H1 b ys)/\R (Itz K c d a b) H1
theorem Mt {elts:List Expr} {x1} {tpos:Pos} {ea eb:Expr} {ta:TA} {p pos:Pos} (c d:Bool) (hg:Gl X "zip") (hm:X.mg "zip"=none) (ha:PA X [ea,eb] ta)
   (hs:starEach [ea,eb] X.env=[(false,eval ea X.env),(false,eval eb X.env)]:=by rfl) (hs2:starEach [eb] X.env=[(false,eval eb X.env)]:=by rfl) :
   PI X (.Tuple elts x1 tpos) (.Call (.Name "zip" p) [ea,eb] [] pos) (JW X.K c d ta):=by
 intro pins s σ H R I h;refine Call_ (ms I hg hm boot_zip (PyProof.Rows.callWith_type1 (lg (ha pos pins s σ H _ I h) fun us s1 vs H1 I1 r1 q1=>?_) (by rw [hs,hs2]) (by rw [hs2];rfl)));obtain ⟨a,b,e,⟨xs,sa⟩,⟨ys,sb⟩,q⟩:=q1;subst e;obtain ⟨u,v,rfl,ru,rv⟩:=Km r1;cases ru;cases rv;obtain ⟨us,r1,q1⟩:=I1.sqX sa;obtain ⟨vs,r2,q2⟩:=I1.sqX sb;obtain ⟨oa,hoa⟩:=lK a c _ _ q1;obtain ⟨ob,hob⟩:=lK b d _ _ q2;have la:=Heap.lt_size hoa;have lb:=Heap.lt_size hob;refine Ih (dD a c) (dD b d) (lK b d) q1 q2 (fun h' w1 w2 w3 w4 w5 w6=>?_) (sO a c) (sO b d);refine wpAny_pyIter_zip w1 ?_;have D:=Mn s1.heap.objs.size a b la lb;refine ⟨_,[s1.heap.objs.size+4,s1.heap.objs.size+2,s1.heap.objs.size+3,s1.heap.objs.size,s1.heap.objs.size+1],_,_,H1,rfl,I1.kept (t':=s1.toks) w6,JN c d a b _ _ _ _ _ D,⟨w1,w2,⟨_,_,w3⟩,w4,w5⟩,fun q hq=>?_,q⟩;have hle:s1.heap.objs.size<=q:=by
   simp only [List.mem_cons,List.mem_nil_iff,or_false] at hq;rcases hq with rfl|rfl|rfl|rfl|rfl
   . exact Nat.le_add_right _ 4
   . exact Nat.le_add_right _ 2
   . exact Nat.le_add_right _ 3
   . exact Nat.le_refl _
   . exact Nat.le_add_right _ 1
 exact I1.fpOk hle (I1.hok.fresh hle)
end
end L2
set_option linter.all false
namespace Pb
structure Road where
 a:Int
 b:Int
 t:Int
 u:Int
 deriving DecidableEq
def Ga (m:Int) (rs:List Road):Prop:=∀ S:Int->Prop,S 0->(∀ r∈rs,(S r.a↔S r.b))->∀ v,0<=v->v<m->S v
structure RoadOk (m:Int) (r:Road):Prop where
 a0:0<=r.a
 a1:r.a<m
 b0:0<=r.b
 b1:r.b<m
 ne:r.a≠r.b
 t0:2<=r.t
 t1:r.t<=1000000
 u0:2<=r.u
 u1:r.u<=1000000
structure Good (m:Int) (rs:List Road):Prop where
 m1:1<=m
 m24:m<=24
 len:(rs.length:Int)=m - 1
 ok:∀ r∈rs,RoadOk m r
 jn:Ga m rs
theorem jX {α:Type} [DecidableEq α]:∀ {l l':List α},l.Nodup->(∀ x∈l,x∈l')->l.length<=l'.length
 | [],_,_,_=>Nat.zero_le _
 | x::r,l',hn,hs=>by
   obtain ⟨h1,h2⟩:=List.nodup_cons.mp hn;have hx:x∈l':=hs x List.mem_cons_self;have:r.length<=(l'.erase x).length:=jX h2 fun y hy=>(List.mem_erase_of_ne (fun (e:y=x)=>h1 (by rw [<- e];exact hy))).mpr (hs y (List.mem_cons_of_mem _ hy));rw [List.length_erase_of_mem hx] at this;have hp:0<l'.length:=List.length_pos_of_mem hx;rw [List.length_cons];omega
def below (n:Nat):List Int:=(List.range n).map fun (k:Nat)=>(k:Int)
theorem dF {n:Nat} {v:Int}:v∈below n↔0<=v/\v<n:=by
 unfold below;rw [List.mem_map]
 constructor
 . rintro ⟨k,hk,rfl⟩;have:=List.mem_range.mp hk;omega
 . rintro ⟨h0,h1⟩;exact ⟨v.toNat,List.mem_range.mpr (by omega),by omega⟩
theorem jA (n:Nat):(below n).length=n:=by simp [below]
theorem hZ (n:Nat):(below n).Nodup:=by
 unfold below;refine List.Pairwise.map _ (fun a b h=>?_) (List.nodup_range (n:=n));intro e;exact h (by omega)
theorem mY {m:Int} {l:List Int} (hm:0<=m) (hn:l.Nodup) (h:∀ x∈l,0<=x/\x<m):(l.length:Int)<=m:=by
 have:=jX (l':=below m.toNat) hn fun x hx=>dF.mpr ⟨(h x hx).1,by have:=(h x hx).2;omega⟩;rw [jA] at this;omega
theorem GY {m:Int} {l:List Int} (hm:0<=m) (h:∀ v,0<=v->v<m->v∈l):m<=(l.length:Int):=by
 have:=jX (l:=below m.toNat) (l':=l) (hZ _) fun x hx=>by
   obtain ⟨h0,h1⟩:=dF.mp hx;exact h x h0 (by omega)
 rw [jA] at this;omega
def m5 (p:Int) (r:Road):List Int:=(if r.a=p then [r.b] else [])++(if r.b=p then [r.a] else [])
def b8 (rs:List Road) (p:Int):List Int:=rs.flatMap (m5 p)
theorem mB {rs:List Road} {p e:Int}:e∈b8 rs p↔∃ r∈rs,(r.a=p/\r.b=e)\/(r.b=p/\r.a=e):=by
 unfold b8 m5;rw [List.mem_flatMap]
 constructor
 . rintro ⟨r,hr,h⟩;refine ⟨r,hr,?_⟩;rcases List.mem_append.mp h with h|h
   . by_cases c:r.a=p
     . rw [if_pos c] at h;exact .inl ⟨c,(List.mem_singleton.mp h).symm⟩
     . rw [if_neg c] at h;cases h
   . by_cases c:r.b=p
     . rw [if_pos c] at h;exact .inr ⟨c,(List.mem_singleton.mp h).symm⟩
     . rw [if_neg c] at h;cases h
 . rintro ⟨r,hr,h⟩;refine ⟨r,hr,List.mem_append.mpr ?_⟩;rcases h with ⟨h1,h2⟩|⟨h1,h2⟩
   . exact .inl (by rw [if_pos h1,h2];exact List.mem_singleton.mpr rfl)
   . exact .inr (by rw [if_pos h1,h2];exact List.mem_singleton.mpr rfl)
theorem zH (rs:List Road) (p:Int):(b8 rs p).length<=2*rs.length:=by
 unfold b8
 induction rs with
 | nil=>simp
 | cons r rs ih =>
   rw [List.flatMap_cons,List.length_append,List.length_cons];have:(m5 p r).length<=2:=by
     unfold m5;rw [List.length_append];by_cases c:r.a=p <;> by_cases d:r.b=p <;> simp [c,d]
   omega
theorem m9 (rs:List Road) (r:Road) (p:Int):b8 (rs++[r]) p=b8 rs p++m5 p r:=by
 unfold b8;rw [List.flatMap_append];simp
def vL (c:List Int × List Int) (e:Int):List Int × List Int:=if e∈c.1 then c else (c.1++[e],c.2++[e])
structure JInv (m:Int) (rs:List Road) (ks ws:List Int):Prop where
 nd:ks.Nodup
 zero:0∈ks
 rng:∀ k∈ks,0<=k/\k<m
 sub:∀ w∈ws,w∈ks
 cl:∀ k∈ks,k ∉ ws->∀ e∈b8 rs k,e∈ks
 wl:ws.length<=ks.length
theorem DJ {l:List Int} {e:Int} (h:l.Nodup) (he:e ∉ l):(l++[e]).Nodup:=by
 rw [List.nodup_append];refine ⟨h,by simp,fun a ha b hb=>?_⟩;rw [List.mem_singleton.mp hb];exact fun z=>he (z ▸ ha)
structure JMid (m:Int) (rs:List Road) (p:Int) (es ks ws ks0:List Int) (n0:Nat):Prop where
 nd:ks.Nodup
 zero:0∈ks
 rng:∀ k∈ks,0<=k/\k<m
 sub:∀ w∈ws,w∈ks
 cl:∀ k∈ks,k ∉ ws->k=p\/∀ e∈b8 rs k,e∈ks
 seen:∀ e∈es,e∈ks
 pin:p∈ks
 mu:ks.length+n0=ks0.length+ws.length
 up:ks0.length<=ks.length
 wl:ws.length<=ks.length
theorem JMid.start {m:Int} {rs:List Road} {ks ws:List Int} {p:Int} (h:JInv m rs ks (ws++[p])):JMid m rs p [] ks ws ks ws.length where
 nd:=h.nd
 zero:=h.zero
 rng:=h.rng
 sub:=fun w hw=>h.sub w (List.mem_append_left _ hw)
 cl:=fun k hk hw=>by
   by_cases e:k=p
   . exact .inl e
   . exact .inr (h.cl k hk fun z=>by
       rcases List.mem_append.mp z with z|z
       . exact hw z
       . exact e (List.mem_singleton.mp z))
 seen:=fun e he=>by cases he
 pin:=h.sub p (List.mem_append_right _ (List.mem_singleton.mpr rfl))
 mu:=rfl
 up:=Nat.le_refl _
 wl:=by have:=h.wl;rw [List.length_append] at this;simp at this;omega
theorem JMid.step {m:Int} {rs:List Road} {p:Int} {es ks ws ks0:List Int} {n0:Nat} {e:Int} (h:JMid m rs p es ks ws ks0 n0) (h0:0<=e) (h1:e<m) :
   JMid m rs p (es++[e]) (vL (ks,ws) e).1 (vL (ks,ws) e).2 ks0 n0:=by
 unfold vL;by_cases c:e∈ks
 . rw [if_pos c];refine ⟨h.nd,h.zero,h.rng,h.sub,h.cl,fun x hx=>?_,h.pin,h.mu,h.up,h.wl⟩;rcases List.mem_append.mp hx with z|z
   . exact h.seen x z
   . rw [List.mem_singleton.mp z];exact c
 . rw [if_neg c];dsimp only;refine ⟨DJ h.nd c,List.mem_append_left _ h.zero,fun k hk=>?_,fun w hw=>?_,fun k hk hw=>?_,fun x hx=>?_,List.mem_append_left _ h.pin,?_,by have:=h.up;simp;omega,by have:=h.wl;simp;exact this⟩
   . rcases List.mem_append.mp hk with z|z
     . exact h.rng k z
     . rw [List.mem_singleton.mp z];exact ⟨h0,h1⟩
   . rcases List.mem_append.mp hw with z|z
     . exact List.mem_append_left _ (h.sub w z)
     . exact List.mem_append_right _ z
   . rcases List.mem_append.mp hk with z|z
     . rcases h.cl k z fun y=>hw (List.mem_append_left _ y) with y|y
       . exact .inl y
       . exact .inr fun x hx=>List.mem_append_left _ (y x hx)
     . exact absurd (List.mem_append_right _ z) hw
   . rcases List.mem_append.mp hx with z|z
     . exact List.mem_append_left _ (h.seen x z)
     . exact List.mem_append_right _ z
   . have:=h.mu;simp only [List.length_append,List.length_cons,List.length_nil];omega
theorem JMid.done {m:Int} {rs:List Road} {p:Int} {ks ws ks0:List Int} {n0:Nat} (h:JMid m rs p (b8 rs p) ks ws ks0 n0):JInv m rs ks ws where
 nd:=h.nd
 zero:=h.zero
 rng:=h.rng
 sub:=h.sub
 cl:=fun k hk hw=>by
   rcases h.cl k hk hw with z|z
   . rw [z];exact h.seen
   . exact z
 wl:=h.wl
theorem JInv.start {m:Int} {rs:List Road} (hm:1<=m):JInv m rs [0] [0] where
 nd:=by simp
 zero:=by simp
 rng:=fun k hk=>by rw [List.mem_singleton.mp hk];omega
 sub:=fun w hw=>hw
 cl:=fun k hk hw=>absurd hk hw
 wl:=by simp
theorem JInv.all {m:Int} {rs:List Road} {ks:List Int} (h:JInv m rs ks []) (hm:1<=m) (j:Ga m rs):(ks.length:Int)=m:=by
 have up:=mY (by omega) h.nd h.rng;have:∀ v,0<=v->v<m->v∈ks:=j (fun v=>v∈ks) h.zero fun r hr=>by
   constructor
   . intro ha;exact h.cl r.a ha (by simp) r.b (mB.mpr ⟨r,hr,.inl ⟨rfl,rfl⟩⟩)
   . intro hb;exact h.cl r.b hb (by simp) r.a (mB.mpr ⟨r,hr,.inr ⟨rfl,rfl⟩⟩)
 have:=GY (by omega) this;omega
theorem Jp {m:Int} {rs:List Road} (h:∀ r∈rs,RoadOk m r) {p e:Int} (he:e∈b8 rs p):0<=e/\e<m:=by
 obtain ⟨r,hr,z⟩:=mB.mp he;have k:=h r hr;rcases z with ⟨_,rfl⟩|⟨_,rfl⟩
 . exact ⟨k.b0,k.b1⟩
 . exact ⟨k.a0,k.a1⟩
structure Row where
 k:Int
 un:Int
 t:Int
 u:Int
 sw:Int
 sp:Int
structure RowOk (r:Row):Prop where
 u0:0<=r.un
 u1:r.un<r.k
 t0:2<=r.t
 t1:r.t<=1000000
 v0:2<=r.u
 v1:r.u<=1000000
 s0:0<=r.sp
 s1:r.sp<r.k
structure Rows (n:Nat) (rows:List Row):Prop where
 len:rows.length=n
 ok:∀ (i:Nat) (r:Row),rows[i]?=some r->r.k=(i:Int)+1/\RowOk r
structure Labels (n:Nat) (ls:List Int):Prop where
 len:ls.length=n
 nd:ls.Nodup
 all:∀ v:Int,0<=v->v<n->v∈ls
 rng:∀ v∈ls,0<=v/\v<n
theorem vl {α:Type} {l:List α} {k:Nat} {x y:α}:y∈l.take k++x::l.drop k↔y=x\/y∈l:=by
 rw [List.mem_append,List.mem_cons]
 constructor
 . rintro (h|h|h)
   . exact .inr (List.mem_of_mem_take h)
   . exact .inl h
   . exact .inr (List.mem_of_mem_drop h)
 . rintro (h|h)
   . exact .inr (.inl h)
   . rw [<- List.take_append_drop k l] at h;rcases List.mem_append.mp h with z|z
     . exact .inl z
     . exact .inr (.inr z)
def jB (ls:List Int) (r:Row):Road:=if r.sw=1 then ⟨ls.getD r.un.toNat 0,ls.getD r.k.toNat 0,r.t,r.u⟩ else ⟨ls.getD r.k.toNat 0,ls.getD r.un.toNat 0,r.t,r.u⟩
structure Put (ls:List Int) (rows:List Row) (rs:List Road):Prop where
 len:rs.length=rows.length
 of:∀ r∈rs,∃ w∈rows,r=jB ls w
 to:∀ w∈rows,jB ls w∈rs
theorem Put.nil (ls:List Int):Put ls [] []:=⟨rfl,fun r h=>(by cases h),fun r h=>(by cases h)⟩
theorem Put.step {ls:List Int} {rows:List Row} {rs:List Road} (h:Put ls rows rs) (w:Row) (k:Nat):Put ls (rows++[w]) (rs.take k++jB ls w::rs.drop k) where
 len:=by
   rw [List.length_append,List.length_cons,List.length_take,List.length_drop,List.length_append,h.len];simp;omega
 of:=fun r hr=>by
   rcases vl.mp hr with z|z
   . exact ⟨w,by simp,z⟩
   . obtain ⟨w',hw,e⟩:=h.of r z;exact ⟨w',List.mem_append_left _ hw,e⟩
 to:=fun w' hw=>by
   rw [vl];rcases List.mem_append.mp hw with z|z
   . exact .inr (h.to w' z)
   . exact .inl (by rw [List.mem_singleton.mp z])
theorem tP {ls:List Int} {n:Nat} (h:Labels n ls) {i:Nat} (hi:i<n):ls[i]?=some (ls.getD i 0):=by
 have:i<ls.length:=by rw [h.len];exact hi
 simp [List.getD,List.getElem?_eq_getElem this]
theorem Ao {ls:List Int} {n:Nat} (h:Labels n ls) {i:Nat} (hi:i<n):ls.getD i 0∈ls:=List.mem_of_getElem? (tP h hi)
theorem HU {ls:List Int} {n:Nat} (h:Labels n ls) {i j:Nat} (hi:i<n) (hj:j<n) (e:ls.getD i 0=ls.getD j 0):i=j:=by
 have h1:i<ls.length:=by rw [h.len];exact hi
 have h2:j<ls.length:=by rw [h.len];exact hj
 have e1:=tP h hi;have e2:=tP h hj;rw [e] at e1;have e3:ls[i]'h1=ls[j]'h2:=by
   rw [List.getElem?_eq_getElem h1] at e1;rw [List.getElem?_eq_getElem h2] at e2;exact Option.some.inj (e1.trans e2.symm)
 have nd:=List.pairwise_iff_getElem.mp h.nd;rcases Nat.lt_trichotomy i j with z|z|z
 . exact absurd e3 (nd i j h1 h2 z)
 . exact z
 . exact absurd e3.symm (nd j i h2 h1 z)
theorem K5 {n:Nat} {ls:List Int} {rows:List Row} {rs:List Road} (h1:1<=n) (h24:n<=24) (L:Labels n ls) (W:Rows (n - 1) rows) (P:Put ls rows rs):Good n rs where
 m1:=by omega
 m24:=by omega
 len:=by rw [P.len,W.len];omega
 ok:=fun r hr=>by
   obtain ⟨w,hw,rfl⟩:=P.of r hr;obtain ⟨i,hi⟩:=List.getElem?_of_mem hw;obtain ⟨ek,ok⟩:=W.ok i w hi;have hil:i<rows.length:=(List.getElem?_eq_some_iff.mp hi).1;rw [W.len] at hil;have hk:w.k.toNat<n:=by omega
   have hu:w.un.toNat<n:=by have:=ok.u0;have:=ok.u1;omega
   have r1:=L.rng _ (Ao L hk);have r2:=L.rng _ (Ao L hu);have ne:ls.getD w.k.toNat 0≠ls.getD w.un.toNat 0:=fun e=>by
     have:=HU L hk hu e;have:=ok.u0;have:=ok.u1;omega
   unfold jB;by_cases c:w.sw=1
   . rw [if_pos c];exact ⟨r2.1,r2.2,r1.1,r1.2,ne.symm,ok.t0,ok.t1,ok.v0,ok.v1⟩
   . rw [if_neg c];exact ⟨r1.1,r1.2,r2.1,r2.2,ne,ok.t0,ok.t1,ok.v0,ok.v1⟩
 jn:=by
   intro S s0 hS;have key:∀ i:Nat,i<n->(S (ls.getD i 0)↔S (ls.getD 0 0)):=by
     intro i
     induction i using Nat.strongRecOn with
     | ind i ih =>
       intro hi;by_cases z:i=0
       . rw [z]
       . have hil:i - 1<rows.length:=(by rw [W.len];omega);obtain ⟨ek,ok⟩:=W.ok (i - 1) rows[i - 1] (List.getElem?_eq_getElem hil);have hm:=P.to rows[i - 1] (List.getElem_mem hil);have hr:=hS _ hm;have hk:(rows[i - 1]).k.toNat=i:=(by omega);have hu:(rows[i - 1]).un.toNat<i:=(by have:=ok.u0;have:=ok.u1;omega);have hh:=ih _ hu (by omega);unfold jB at hr;rw [hk] at hr;by_cases c:(rows[i - 1]).sw=1
         . rw [if_pos c] at hr;exact hr.symm.trans hh
         . rw [if_neg c] at hr;exact hr.trans hh
   have at_:∀ v,0<=v->v<(n:Int)->∃ i,i<n/\ls.getD i 0=v:=fun v h0 h1=>by
     obtain ⟨i,hi⟩:=List.getElem?_of_mem (L.all v h0 h1);have hil:i<n:=(by have:=(List.getElem?_eq_some_iff.mp hi).1;rw [L.len] at this;exact this);refine ⟨i,hil,?_⟩;have:=tP L hil;rw [hi] at this;exact (Option.some.inj this).symm
   intro v h0 hv;obtain ⟨i,hi,rfl⟩:=at_ v h0 hv;obtain ⟨j,hj,ej⟩:=at_ 0 (by omega) (by omega);refine (key i hi).mpr ((key j hj).mp ?_);rw [ej];exact s0
end Pb
set_option linter.all false
namespace Pb
def Adj (rs:List Road) (a b:Int):Prop:=∃ x∈rs,(x.a=a/\x.b=b)\/(x.b=a/\x.a=b)
theorem Adj.symm {rs:List Road} {a b:Int} (h:Adj rs a b):Adj rs b a:=by
 obtain ⟨x,hx,h⟩:=h;rcases h with ⟨h1,h2⟩|⟨h1,h2⟩
 . exact ⟨x,hx,.inr ⟨h2,h1⟩⟩
 . exact ⟨x,hx,.inl ⟨h2,h1⟩⟩
theorem An {rs:List Road} {a b:Int}:b∈b8 rs a↔Adj rs a b:=mB
theorem Good.adj {m:Int} {rs:List Road} (g:Good m rs) {a b:Int} (h:Adj rs a b):(0<=a/\a<m)/\(0<=b/\b<m)/\a≠b:=by
 obtain ⟨x,hx,h⟩:=h;have k:=g.ok x hx;rcases h with ⟨h1,h2⟩|⟨h1,h2⟩
 . subst h1 h2;exact ⟨⟨k.a0,k.a1⟩,⟨k.b0,k.b1⟩,k.ne⟩
 . subst h1 h2;exact ⟨⟨k.b0,k.b1⟩,⟨k.a0,k.a1⟩,k.ne.symm⟩
theorem Good.from {m:Int} {rs:List Road} (g:Good m rs) {r:Int} (h0:0<=r) (h1:r<m) (S:Int->Prop) (sr:S r) (hS:∀ x∈rs,(S x.a↔S x.b)):∀ v,0<=v->v<m->S v:=by
 have key:∀ v,0<=v->v<m->(S v↔S 0):=g.jn (fun v=>S v↔S 0) Iff.rfl fun x hx=>by
   have:=hS x hx;exact ⟨fun h=>this.symm.trans h,fun h=>this.trans h⟩
 intro v a b;exact (key v a b).mpr ((key r h0 h1).mp sr)
inductive Dist (rs:List Road) (r:Int):Nat->Int->Prop
 | zero:Dist rs r 0 r
 | step {n:Nat} {u v:Int}:Dist rs r n u->Adj rs u v->Dist rs r (n+1) v
theorem MR {P:Nat->Prop}:∀ n,P n->∃ k,P k/\∀ j,j<k->¬ P j:=by
 intro n
 induction n using Nat.strongRecOn with
 | ind n ih =>
   intro h;by_cases z:∃ j,j<n/\P j
   . obtain ⟨j,hj,hp⟩:=z;exact ih j hj hp
   . exact ⟨n,h,fun j hj hp=>z ⟨j,hj,hp⟩⟩
structure Rooted (m:Int) (rs:List Road) (r:Int) (par:Int->Int) (dep:Int->Nat):Prop where
 root:dep r=0
 up:∀ v,0<=v->v<m->v≠r->(0<=par v/\par v<m)/\Adj rs v (par v)/\dep (par v)+1=dep v
 road:∀ x∈rs,(x.a≠r/\par x.a=x.b)\/(x.b≠r/\par x.b=x.a)
 one:(rs.map fun x=>if x.a≠r/\par x.a=x.b then x.a else x.b).Nodup
theorem KJ {n:Nat} {l:List Nat} (hn:l.Nodup) (hl:l.length=n) (hb:∀ x∈l,x<n):∀ i,i<n->i∈l:=by
 intro i hi;by_cases z:i∈l
 . exact z
 . have:=jX (l:=i::l) (l':=List.range n) (List.nodup_cons.mpr ⟨z,hn⟩) fun x hx=>by
     rcases List.mem_cons.mp hx with rfl|hx
     . exact List.mem_range.mpr hi
     . exact List.mem_range.mpr (hb x hx)
   rw [List.length_cons,List.length_range] at this;omega
theorem Fd {m:Int} {rs:List Road} (g:Good m rs) {r:Int} (h0:0<=r) (h1:r<m):∃ par dep,Rooted m rs r par dep:=by
 classical
 have reach:∀ v,0<=v->v<m->∃ n,Dist rs r n v:=g.from h0 h1 (fun v=>∃ n,Dist rs r n v) ⟨0,.zero⟩ fun x hx=>by
   constructor
   . rintro ⟨n,d⟩;exact ⟨n+1,d.step ⟨x,hx,.inl ⟨rfl,rfl⟩⟩⟩
   . rintro ⟨n,d⟩;exact ⟨n+1,d.step ⟨x,hx,.inr ⟨rfl,rfl⟩⟩⟩
 have hd:∀ v,∃ k,(0<=v/\v<m)->Dist rs r k v/\∀ j,j<k->¬ Dist rs r j v:=fun v=>by
   by_cases z:0<=v/\v<m
   . obtain ⟨n,d⟩:=reach v z.1 z.2;obtain ⟨k,h⟩:=MR (P:=fun k=>Dist rs r k v) n d;exact ⟨k,fun _=>h⟩
   . exact ⟨0,fun h=>absurd h z⟩
 let dep:Int->Nat:=fun v=>(hd v).choose
 have dspec:∀ v,0<=v->v<m->Dist rs r (dep v) v/\∀ j,j<dep v->¬ Dist rs r j v:=fun v a b=>(hd v).choose_spec ⟨a,b⟩;have dr:dep r=0:=by
   have:=(dspec r h0 h1).2 0;by_cases z:dep r=0
   . exact z
   . exact absurd Dist.zero (this (by omega))
 have hp:∀ v,∃ u,(0<=v/\v<m/\v≠r)->Adj rs v u/\dep u+1=dep v:=fun v=>by
   by_cases z:0<=v/\v<m/\v≠r
   . obtain ⟨a,b,c⟩:=z;obtain ⟨d,dm⟩:=dspec v a b;generalize hk:dep v=k at d dm;cases d with
     | zero=>exact absurd rfl c
     | @step n u _ d e =>
       refine ⟨u,fun _=>⟨e.symm,?_⟩⟩;obtain ⟨⟨u0,u1⟩,_⟩:=g.adj e;have l1:dep u<=n:=by
         by_cases w:dep u<=n
         . exact w
         . exact absurd d ((dspec u u0 u1).2 n (by omega))
       have l2:¬ dep u<n:=fun w=>dm (dep u+1) (by omega) ((dspec u u0 u1).1.step e);omega
   . exact ⟨0,fun h=>absurd h z⟩
 let par:Int->Int:=fun v=>(hp v).choose
 have pspec:∀ v,0<=v->v<m->v≠r->Adj rs v (par v)/\dep (par v)+1=dep v:=fun v a b c=>(hp v).choose_spec ⟨a,b,c⟩;have hi:∀ v,∃ i:Nat,(0<=v/\v<m/\v≠r)->∃ x,rs[i]?=some x/\((x.a=v/\x.b=par v)\/(x.b=v/\x.a=par v)):=fun v=>by
   by_cases z:0<=v/\v<m/\v≠r
   . obtain ⟨x,hx,h⟩:=(pspec v z.1 z.2.1 z.2.2).1;obtain ⟨i,e⟩:=List.getElem?_of_mem hx;exact ⟨i,fun _=>⟨x,e,h⟩⟩
   . exact ⟨0,fun h=>absurd h z⟩
 let ix:Int->Nat:=fun v=>(hi v).choose
 have ispec:∀ v,0<=v->v<m->v≠r->∃ x,rs[ix v]?=some x/\((x.a=v/\x.b=par v)\/(x.b=v/\x.a=par v)):=fun v a b c=>(hi v).choose_spec ⟨a,b,c⟩;have inj:∀ v u,0<=v->v<m->v≠r->0<=u->u<m->u≠r->ix v=ix u->v=u:=by
   intro v u a b c a' b' c' e;obtain ⟨x,hx,h⟩:=ispec v a b c;obtain ⟨y,hy,h'⟩:=ispec u a' b' c';rw [e,hy] at hx;cases hx;have d1:=(pspec v a b c).2;have d2:=(pspec u a' b' c').2;rcases h with ⟨p,q⟩|⟨p,q⟩ <;> rcases h' with ⟨p',q'⟩|⟨p',q'⟩
   . exact p.symm.trans p'
   . exfalso
     have e1:v=par u:=p.symm.trans q';have e2:u=par v:=p'.symm.trans q;rw [<- e1] at d2;rw [<- e2] at d1;omega
   . exfalso
     have e1:v=par u:=p.symm.trans q';have e2:u=par v:=p'.symm.trans q;rw [<- e1] at d2;rw [<- e2] at d1;omega
   . exact p.symm.trans p'
 let vs:List Int:=(below m.toNat).filter fun v=>decide (v≠r)
 have mv:∀ v,v∈vs↔(0<=v/\v<m/\v≠r):=fun v=>by
   rw [List.mem_filter,dF,decide_eq_true_eq]
   constructor
   . rintro ⟨⟨a,b⟩,c⟩;exact ⟨a,by omega,c⟩
   . rintro ⟨a,b,c⟩;exact ⟨⟨a,by omega⟩,c⟩
 have nv:vs.Nodup:=(hZ _).filter _;have lv:vs.length=rs.length:=by
   have e1:(r::vs).length<=(below m.toNat).length:=jX (List.nodup_cons.mpr ⟨fun h=>((mv r).mp h).2.2 rfl,nv⟩) fun x hx=>by
     rcases List.mem_cons.mp hx with rfl|hx
     . exact dF.mpr ⟨h0,by omega⟩
     . have:=(mv x).mp hx;exact dF.mpr ⟨this.1,by omega⟩
   have e2:(below m.toNat).length<=(r::vs).length:=jX (hZ _) fun x hx=>by
     have:=dF.mp hx;by_cases z:x=r
     . rw [z];exact List.mem_cons_self
     . exact List.mem_cons_of_mem _ ((mv x).mpr ⟨this.1,by omega,z⟩)
   rw [jA,List.length_cons] at e1 e2;have:=g.len;have:=g.m1;omega
 have il:(vs.map ix).Nodup:=by
   have:∀ (l:List Int),l.Nodup->(∀ v∈l,0<=v/\v<m/\v≠r)->(l.map ix).Nodup:=by
     intro l
     induction l with
     | nil=>intro _ _;simp
     | cons v l ih =>
       intro hn hm;obtain ⟨n1,n2⟩:=List.nodup_cons.mp hn;rw [List.map_cons];refine List.nodup_cons.mpr ⟨fun z=>?_,ih n2 fun u hu=>hm u (List.mem_cons_of_mem _ hu)⟩;obtain ⟨u,hu,e⟩:=List.mem_map.mp z;obtain ⟨a,b,c⟩:=hm v List.mem_cons_self;obtain ⟨a',b',c'⟩:=hm u (List.mem_cons_of_mem _ hu);exact n1 (inj u v a' b' c' a b c e ▸ hu)
   exact this vs nv fun v hv=>(mv v).mp hv
 have ib:∀ i∈vs.map ix,i<rs.length:=fun i hi'=>by
   obtain ⟨v,hv,rfl⟩:=List.mem_map.mp hi';obtain ⟨a,b,c⟩:=(mv v).mp hv;obtain ⟨x,hx,_⟩:=ispec v a b c;exact (List.getElem?_eq_some_iff.mp hx).1
 have all:=KJ il (by rw [List.length_map,lv]) ib;have back:∀ i x,rs[i]?=some x->∃ v,(0<=v/\v<m/\v≠r)/\ix v=i/\((x.a=v/\x.b=par v)\/(x.b=v/\x.a=par v)):=fun i x e=>by
   obtain ⟨v,hv,rfl⟩:=List.mem_map.mp (all i (List.getElem?_eq_some_iff.mp e).1);obtain ⟨a,b,c⟩:=(mv v).mp hv;obtain ⟨y,hy,h⟩:=ispec v a b c;rw [e] at hy;cases hy;exact ⟨v,⟨a,b,c⟩,rfl,h⟩
 have noback:∀ v,0<=v->v<m->v≠r->par v≠r->par (par v)≠v:=fun v a b c c' z=>by
   have d1:=pspec v a b c;obtain ⟨_,⟨a',b'⟩,_⟩:=g.adj d1.1;have d2:=pspec (par v) a' b' c';rw [z] at d2;omega
 have kid:∀ i x,rs[i]?=some x->∃ v,(0<=v/\v<m/\v≠r)/\ix v=i/\(if x.a≠r/\par x.a=x.b then x.a else x.b)=v:=fun i x e=>by
   obtain ⟨v,⟨a,b,c⟩,hv,h⟩:=back i x e;refine ⟨v,⟨a,b,c⟩,hv,?_⟩;rcases h with ⟨p,q⟩|⟨p,q⟩
   . rw [if_pos ⟨by rw [p];exact c,by rw [p];exact q.symm⟩];exact p
   . rw [if_neg]
     . exact p
     . rintro ⟨z1,z2⟩;rw [q] at z1 z2;exact noback v a b c z1 (z2.trans p)
 refine ⟨par,dep,dr,fun v a b c=>?_,fun x hx=>?_,?_⟩
 . obtain ⟨p,q⟩:=pspec v a b c;obtain ⟨_,w,_⟩:=g.adj p;exact ⟨w,p,q⟩
 . obtain ⟨i,e⟩:=List.getElem?_of_mem hx;obtain ⟨v,⟨a,b,c⟩,_,h⟩:=back i x e;rcases h with ⟨p,q⟩|⟨p,q⟩
   . exact .inl ⟨by rw [p];exact c,by rw [p];exact q.symm⟩
   . exact .inr ⟨by rw [p];exact c,by rw [p];exact q.symm⟩
 . refine List.pairwise_iff_getElem.mpr fun i j hi' hj' lt=>?_;rw [List.length_map] at hi' hj';rw [List.getElem_map,List.getElem_map];intro z;obtain ⟨v,_,e1,k1⟩:=kid i rs[i] (List.getElem?_eq_getElem hi');obtain ⟨u,_,e2,k2⟩:=kid j rs[j] (List.getElem?_eq_getElem hj');rw [k1,k2] at z;rw [z] at e1;omega
theorem ES {m:Int} {rs:List Road} (g:Good m rs) {p:Int} (h0:0<=p) (h1:p<m):(b8 rs p).Nodup:=by
 obtain ⟨par,dep,R⟩:=Fd g h0 h1;have one:=R.one;have ok:=g.ok;have road:=R.road;clear R g
 induction rs with
 | nil=>simp [b8]
 | cons x l ih =>
   have ox:=ok x List.mem_cons_self;have ol:∀ y∈l,RoadOk m y:=fun y hy=>ok y (List.mem_cons_of_mem _ hy);rw [List.map_cons] at one;obtain ⟨n1,n2⟩:=List.nodup_cons.mp one;have il:=ih n2 ol fun y hy=>road y (List.mem_cons_of_mem _ hy);have e:b8 (x::l) p=m5 p x++b8 l p:=by unfold b8;rw [List.flatMap_cons]
   rw [e];have kid:∀ y,RoadOk m y->((y.a≠p/\par y.a=y.b)\/(y.b≠p/\par y.b=y.a))->(y.a=p->(if y.a≠p/\par y.a=y.b then y.a else y.b)=y.b)/\(y.b=p->(if y.a≠p/\par y.a=y.b then y.a else y.b)=y.a):=fun y oy hy=>by
     constructor
     . intro z;rw [if_neg (fun w=>w.1 z)]
     . intro z;rcases hy with hy|hy
       . rw [if_pos hy]
       . exact absurd z hy.1
   have kx:=kid x ox (road x List.mem_cons_self);have inl:∀ e∈b8 l p,e∈l.map fun y=>if y.a≠p/\par y.a=y.b then y.a else y.b:=fun e he=>by
     obtain ⟨y,hy,h⟩:=mB.mp he;have ky:=kid y (ol y hy) (road y (List.mem_cons_of_mem _ hy));refine List.mem_map.mpr ⟨y,hy,?_⟩;rcases h with ⟨p1,q1⟩|⟨p1,q1⟩
     . rw [ky.1 p1];exact q1
     . rw [ky.2 p1];exact q1
   unfold m5;by_cases c:x.a=p
   . have d:¬ x.b=p:=fun z=>ox.ne (c.trans z.symm);rw [if_pos c,if_neg d,List.append_nil];refine List.nodup_cons.mpr ⟨fun z=>n1 ?_,il⟩;rw [kx.1 c];exact inl _ z
   . rw [if_neg c,List.nil_append];by_cases d:x.b=p
     . rw [if_pos d];refine List.nodup_cons.mpr ⟨fun z=>n1 ?_,il⟩;rw [kx.2 d];exact inl _ z
     . rw [if_neg d];exact il
def l9 (m:Int) (rs:List Road) (p:Int):List Int:=(below m.toNat).filter fun q=>decide (q∈b8 rs p)
theorem ym:∀ {l l':List Int},l.Perm l'->l.Pairwise (·<=·)->l'.Pairwise (·<=·)->l=l'
 | [],l',p,_,_=>(List.Perm.nil_eq p)
 | a::l,l',p,h,h'=>by
   cases l' with
   | nil=>exact absurd p.symm.nil_eq (by simp)
   | cons b r =>
     obtain ⟨h1,h2⟩:=List.pairwise_cons.mp h;obtain ⟨h1',h2'⟩:=List.pairwise_cons.mp h';have e:a=b:=by
       have ma:a∈b::r:=p.subset List.mem_cons_self;have mb:b∈a::l:=p.symm.subset List.mem_cons_self;rcases List.mem_cons.mp ma with z|z
       . exact z
       . rcases List.mem_cons.mp mb with w|w
         . exact w.symm
         . have:=h1 b w;have:=h1' a z;omega
     subst e;rw [ym (List.Perm.cons_inv p) h2 h2']
theorem Cc (n:Nat):(below n).Pairwise (·<=·):=by
 unfold below;refine List.Pairwise.map _ (fun a b (h:a<b)=>?_) List.pairwise_lt_range;omega
theorem Cj (m:Int) (rs:List Road) (p:Int):(l9 m rs p).Pairwise (·<=·):=(Cc _).filter _
theorem DS (m:Int) (rs:List Road) (p:Int):(l9 m rs p).Nodup:=(hZ _).filter _
theorem uE {m:Int} {rs:List Road} (g:Good m rs) {p q:Int}:q∈l9 m rs p↔Adj rs p q:=by
 unfold l9;rw [List.mem_filter,decide_eq_true_eq,An,dF]
 constructor
 . exact fun h=>h.2
 . intro h;obtain ⟨_,⟨a,b⟩,_⟩:=g.adj h;exact ⟨⟨a,by omega⟩,h⟩
theorem qY:∀ {l l':List Int},l.Nodup->l'.Nodup->(∀ x,x∈l↔x∈l')->l.Perm l'
 | [],l',_,_,h=>by
   cases l' with
   | nil=>exact .nil
   | cons b r=>exact absurd ((h b).mpr List.mem_cons_self) (by simp)
 | a::l,l',n,n',h=>by
   obtain ⟨n1,n2⟩:=List.nodup_cons.mp n;have ma:a∈l':=(h a).mp List.mem_cons_self;refine List.Perm.trans (List.Perm.cons a ?_) (List.perm_cons_erase ma).symm;refine qY n2 (n'.erase a) fun x=>?_
   constructor
   . intro hx;have ne:x≠a:=fun z=>n1 (z ▸ hx);exact (List.mem_erase_of_ne ne).mpr ((h x).mp (List.mem_cons_of_mem _ hx))
   . intro hx;have:x≠a:=fun z=>by
       subst z;exact (List.Nodup.not_mem_erase n') hx
     rcases List.mem_cons.mp ((h x).mpr (List.mem_of_mem_erase hx)) with z|z
     . exact absurd z this
     . exact z
theorem KY {m:Int} {rs:List Road} (g:Good m rs) {p:Int} (h0:0<=p) (h1:p<m) {zs:List Int} (hp:zs.Perm (b8 rs p)) (hs:zs.Pairwise (·<=·)):zs=l9 m rs p:=by
 refine ym (hp.trans (qY (ES g h0 h1) (DS m rs p) fun x=>?_)) hs (Cj m rs p);rw [uE g,An]
def dX (a b:Int) (x:Road):Option Int:=if x.a=a/\x.b=b then some x.t else if x.a=b/\x.b=a then some x.u else none
def bO (rs:List Road) (a b:Int):Option Int:=rs.findSome? (dX a b)
def tI (x:Road) (a b:Int):Prop:=(x.a=a/\x.b=b)\/(x.b=a/\x.a=b)
theorem Fc {m:Int} {rs:List Road} (g:Good m rs) {a b:Int} {i j:Nat} {x y:Road} (hi:rs[i]?=some x) (hj:rs[j]?=some y) (jx:tI x a b) (jy:tI y a b):i=j:=by
 obtain ⟨⟨a0,a1⟩,_,_⟩:=g.adj (show Adj rs a b from ⟨x,List.mem_of_getElem? hi,jx⟩);obtain ⟨par,dep,R⟩:=Fd g a0 a1;have kid:∀ z∈rs,tI z a b->(if z.a≠a/\par z.a=z.b then z.a else z.b)=b:=fun z hz jz=>by
   rcases jz with ⟨p,q⟩|⟨p,q⟩
   . rw [if_neg (fun w=>w.1 p)];exact q
   . rcases R.road z hz with w|w
     . rw [if_pos w];exact q
     . exact absurd p w.1
 have li:=(List.getElem?_eq_some_iff.mp hi);have lj:=(List.getElem?_eq_some_iff.mp hj);obtain ⟨li,ei⟩:=li;obtain ⟨lj,ej⟩:=lj;have nd:=List.pairwise_iff_getElem.mp R.one;have vi:(rs.map fun z=>if z.a≠a/\par z.a=z.b then z.a else z.b)[i]'(by rw [List.length_map];exact li)=b:=by
   rw [List.getElem_map];exact kid _ (List.getElem_mem li) (ei ▸ jx)
 have vj:(rs.map fun z=>if z.a≠a/\par z.a=z.b then z.a else z.b)[j]'(by rw [List.length_map];exact lj)=b:=by
   rw [List.getElem_map];exact kid _ (List.getElem_mem lj) (ej ▸ jy)
 rcases Nat.lt_trichotomy i j with z|z|z
 . exact absurd (vi.trans vj.symm) (nd i j _ _ z)
 . exact z
 . exact absurd (vj.trans vi.symm) (nd j i _ _ z)
theorem EF {a b:Int} {x:Road} (h:¬ tI x a b):dX a b x=none:=by
 unfold dX;rw [if_neg (fun z=>h (.inl z)),if_neg (fun z=>h (.inr ⟨z.2,z.1⟩))]
theorem Gp {m:Int} {rs:List Road} (g:Good m rs) {a b:Int} {i:Nat} {x:Road} (hi:rs[i]?=some x) (j:tI x a b):bO rs a b=dX a b x:=by
 have lt:=(List.getElem?_eq_some_iff.mp hi);obtain ⟨lt,ex⟩:=lt;have e:rs=rs.take i++x::rs.drop (i+1):=by rw [<- ex,List.getElem_cons_drop,List.take_append_drop]
 have pre:bO (rs.take i) a b=none:=by
   unfold bO;rw [List.findSome?_eq_none_iff];intro y hy;refine EF fun jy=>?_;obtain ⟨k,hk⟩:=List.getElem?_of_mem hy;have lk:=(List.getElem?_eq_some_iff.mp hk).1;rw [List.length_take] at lk;rw [List.getElem?_take_of_lt (by omega)] at hk;have:=Fc g hk hi jy j;omega
 have hx:(dX a b x).isSome=true:=by
   unfold dX;rcases j with z|z
   . rw [if_pos z];rfl
   . by_cases c:x.a=a/\x.b=b
     . rw [if_pos c];rfl
     . rw [if_neg c,if_pos ⟨z.2,z.1⟩];rfl
 obtain ⟨v,hv⟩:=Option.isSome_iff_exists.mp hx;have:bO (rs.take i++x::rs.drop (i+1)) a b=dX a b x:=by
   unfold bO at pre ⊢;rw [List.findSome?_append,pre,List.findSome?_cons,hv]
   rfl
 rw [<- e] at this;exact this
section
variable {m:Int} {row:List Int} {rs rs':List Road}
end
end Pb
set_option Elab.async false
set_option linter.all false
set_option maxRecDepth 100000
namespace L2
open PySem PySem.Spec PyProof.Rows
def aN (CX:CXT):Prop:=∀ outer H s e s',¬ CX outer H s E0 e s'
theorem az {CX:CXT} (q:aN CX) {X:Cx}:ku CX X E0:=fun _ _ _ _ _ _ _ h=>(q _ _ _ _ _ h).elim
structure Df (K:PySem.W.Frag) (mg:Str->Option Value) (x:Str) (st:Stmt) (ps:List Str) (f:Addr) (fd:FuncData):Prop where
 F:Fun K x x st f fd
 m:mg x=some (.ref f)
 b:Binds K fd ps []
section
variable {P:Program} {w:World} {K:PySem.W.Frag} {mg:Str->Option Value} {base:Heap} {CX:CXT}
theorem Fun.okC {x qual:Str} {st:Stmt} {f:Addr} {fd:FuncData} {N ps:List Str} {k:Nat} {sp:Sp} (F:Fun K x qual st f fd) (S:FnScope N ps (aa st)) (len:∀ vs H Q E,sp vs H Q E->vs.length=ps.length)
   (hbody:∀ (cdv:Value) (A:Around) (outer:List Env) (s:Shared) (H:Hp) (vs:List V) (Q:VK) (E:XK),Room k (A.deeper (envOfC qual (aa st) s.heap.objs.size f cdv))->sp vs H Q E ->
     ∃ t,PSs (kQ CX P w K mg base N qual (aa st) f cdv A outer s H E).nox (aw st) t/\t { nx:=fun _ H'=>Q .non H',rt:=Q } (start N vs) H):FnOk P w K mg base CX (k+1) f fd ps sp:=by
 obtain ⟨oc,od,kV,doc,pm,an,cdv,ct,osl,rfl,lk,hcd⟩:=F.ex;refine Ki lk hcd S len fun A outer s H vs Q E hr hsp=>?_;obtain ⟨t,h,q⟩:=hbody cdv A outer s H vs Q E hr hsp;exact ⟨t,h.nox,q⟩
end
structure NmL (sc:Scope) (x:Str):Prop where
 l:sc.names.lookup x=some .local
 d:(x == ("__debug__":Str))=false
 c:(x == ("__classdict__":Str))=false
structure NmG (sc:Scope) (x:Str):Prop where
 g:sc.names.lookup x=some .globalImplicit
 d:(x == ("__debug__":Str))=false
 n:x≠"__name__"
theorem us1 {us:List Value} (h:us.length=1):∃ a0,us=[a0]:=List.length_eq_one_iff.mp h
theorem us2 {us:List Value} (h:us.length=2):∃ a0 a1,us=[a0,a1]:=by
 cases us with
 | nil=>cases h
 | cons a0 t =>
   obtain ⟨a1,e⟩:=us1 (Nat.succ.inj h);subst e;exact ⟨a0,a1,rfl⟩
theorem us3 {us:List Value} (h:us.length=3):∃ a0 a1 a2,us=[a0,a1,a2]:=by
 cases us with
 | nil=>cases h
 | cons a0 t =>
   obtain ⟨a1,a2,e⟩:=us2 (Nat.succ.inj h);subst e;exact ⟨a0,a1,a2,rfl⟩
theorem us4 {us:List Value} (h:us.length=4):∃ a0 a1 a2 a3,us=[a0,a1,a2,a3]:=by
 cases us with
 | nil=>cases h
 | cons a0 t =>
   obtain ⟨a1,a2,a3,e⟩:=us3 (Nat.succ.inj h);subst e;exact ⟨a0,a1,a2,a3,rfl⟩
theorem us5 {us:List Value} (h:us.length=5):∃ a0 a1 a2 a3 a4,us=[a0,a1,a2,a3,a4]:=by
 cases us with
 | nil=>cases h
 | cons a0 t =>
   obtain ⟨a1,a2,a3,a4,e⟩:=us4 (Nat.succ.inj h);subst e;exact ⟨a0,a1,a2,a3,a4,rfl⟩
def nmL (sc:Scope) (x:Str):Bool:=decide (sc.names.lookup x=some .local) && !(x == ("__debug__":Str)) && !(x == ("__classdict__":Str))
def nmG (sc:Scope) (x:Str):Bool:=decide (sc.names.lookup x=some .globalImplicit) && !(x == ("__debug__":Str)) && !decide (x="__name__")
theorem NmL.of {sc:Scope} {x:Str} (h:nmL sc x=true):NmL sc x:=by
 unfold nmL at h;simp only [Bool.and_eq_true,decide_eq_true_eq,Bool.not_eq_true'] at h;exact ⟨h.1.1,h.1.2,h.2⟩
theorem NmG.of {sc:Scope} {x:Str} (h:nmG sc x=true):NmG sc x:=by
 unfold nmG at h;simp only [Bool.and_eq_true,decide_eq_true_eq,Bool.not_eq_true',decide_eq_false_iff_not] at h;exact ⟨h.1.1,h.1.2,h.2⟩
def LW (N ps:List Str) (sc:Scope):Bool:=decide (sc.kind=.function) && !sc.isCoroutine && !sc.isGenerator && decide N.Nodup && decide (N.take ps.length=ps) && (ps.all fun x=>decide (sc.names.lookup x=some .local\/sc.names.lookup x=some .cell)) && (sc.names.all fun y=>decide (y.2≠.free))
theorem FnScope.of {N ps:List Str} {sc:Scope} (h:LW N ps sc=true):FnScope N ps sc:=by
 unfold LW at h;simp only [Bool.and_eq_true,decide_eq_true_eq,Bool.not_eq_true',List.all_eq_true] at h;obtain ⟨⟨⟨⟨⟨⟨h1,h2⟩,h3⟩,h4⟩,h5⟩,h6⟩,h7⟩:=h;exact ⟨h1,h2,h3,h4,h5,h6,h7⟩
theorem pvl {X:Cx} (i:Nat) {x:Str} {pos:Pos} (n:NmL X.env.scope x) (hN:X.N[i]?=some x:=by rfl):PE X (.Name x pos) (AO i):=FO hN (.inl n.l) n.d n.c
theorem FH {CX:CXT} {P:Program} {w:World} {K:PySem.W.Frag} {mg:Str->Option Value} {base:Heap} {N:List Str} {qual:Str} {scope:Scope} {f:Addr} {cd:Value} {A:Around} {outer:List Env} {s:Shared} {H:Hp} {E:XK} :
   (kQ CX P w K mg base N qual scope f cd A outer s H E).K=K:=rfl
theorem yq (D:Ends) (σ:St) (H:Hp):tNever D σ H=False:=rfl
theorem KN (i j:Int):rE (.int i) (.int j)=true:=rfl
theorem KR (i j:Bool):rE (.bl i) (.bl j)=true:=rfl
theorem K4 (i:Int):rE (.int i) .non=true:=rfl
theorem Lc (i:Int):rE .non (.int i)=true:=rfl
theorem K9:rE .non .non=true:=rfl
theorem Kv (i j:Str):rE (.str i) (.str j)=true:=rfl
theorem ixT {K:PySem.W.Frag} {H:Hp} {p:Addr} {xs:List V} {i:Int} {v:V} {Q:VK} (h:H p=some (.tup xs)) (e:atI xs i=some v) (q:Q v H):HY K (.ref p) (.int i) H Q:=⟨p,xs,i,v,rfl,rfl,SqT.of h,e,q⟩
theorem ixL {K:PySem.W.Frag} {H:Hp} {p:Addr} {xs:List V} {i:Int} {v:V} {Q:VK} (h:H p=some (.lst xs)) (e:atI xs i=some v) (q:Q v H):xf K (.ref p) (.int i) H Q:=⟨p,xs,i,v,rfl,rfl,SqL.of h,e,q⟩
theorem ixS {K:PySem.W.Frag} {H:Hp} {p:Addr} {xs:List V} {i:Int} {v:V} {Q:VK} (h:SqL K H p xs) (e:atI xs i=some v) (q:Q v H):xf K (.ref p) (.int i) H Q:=⟨p,xs,i,v,rfl,rfl,h,e,q⟩
theorem tyL {K:PySem.W.Frag} {H:Hp} {l:Addr} {xs:List V} (h:H l=some (.lst xs)):tyV K "list" (.ref l) H:=.inl ⟨rfl,_,SqL.of h⟩
theorem uU {H:Hp} {l:Addr} {xs:List V} {y:V} {Q:VK} (h:H l=some (.lst xs)) (hz:xs.length<sizeLine) (q:Q .non (upd H l (.lst (xs++[y])))):rAppend (.ref l) [y] H Q:=⟨l,xs,y,rfl,rfl,h,hz,q⟩
theorem Nd {H:Hp} {l:Addr} {xs:List V} {i:Int} {y:V} {Q:VK} (h:H l=some (.lst xs)) (h0:0<=i) (h1:i<=xs.length) (hz:xs.length<sizeLine) (q:Q .non (upd H l (.lst (xs.take i.toNat++y::xs.drop i.toNat)))):rInsert (.ref l) [.int i,y] H Q :=
 ⟨l,xs,i,y,rfl,rfl,h,h0,h1,hz,q⟩
theorem Nf {H:Hp} {l:Addr} {xs:List V} {y:V} {Q:VK} (h:H l=some (.lst (xs++[y]))) (q:Q y (upd H l (.lst xs))):rPop (.ref l) [] H Q :=
 ⟨l,xs++[y],y,rfl,rfl,h,by simp,by rw [List.dropLast_concat];exact q⟩
theorem f6 {n:Nat} (h:n<=100000):n<sizeLine:=Nat.lt_of_le_of_lt h (by decide)
theorem bG {n:Nat} (h:n<=100000):n<=sizeLine:=Nat.le_of_lt (f6 h)
theorem xG {α:Type} {xs:List α} {i:Int} {v:α} (h0:0<=i) (h:xs[i.toNat]?=some v):atI xs i=some v:=by
 obtain ⟨n,rfl⟩:∃ n:Nat,i=n:=⟨i.toNat,by omega⟩;exact KW (by simpa using h)
theorem uH {X:Cx} {x:Str} {i:Int} {pos:Pos} (hg:Gl X x) (hm:∃ t,X.mg x=some (.int i t)) (hd:(x == ("__debug__":Str))=false:=by decide):PE X (.Name x pos) (tC (.int i)):=by
 obtain ⟨t,e⟩:=hm;exact K6 hg e ⟨t,rfl⟩ hd
def Itx (K:PySem.W.Frag):Bool->Addr->It
 | true,a=>Itl K a
 | false,a=>Itt K a
def Jo (K:PySem.W.Frag) (c:Bool) (tl:TE):TI:=fun σ H R=>tl σ H fun x H1=>∃ a,x=.ref a/\(∃ xs,SqX K c H1 a xs)/\R (Itx K c a) H1
theorem Ft {X:Cx} {tg l:Expr} {tl:TE} (c:Bool) (hl:PE X l tl):PI X tg l (Jo X.K c tl):=by
 cases c
 . exact sU hl
 . exact tQ hl
def BE (J:It) (p:Addr) (Q:VK) (g:TG) (tc:TT) (te:TE) (σ0:St) (H0:Hp):Prop :=
 ∃ W:Nat->Nat->List V->St->Hp->Prop,(∃ m,W 0 m [] σ0 H0)/\∀ i m ys σc Hc,W i m ys σc Hc ->
   (J.stop i Hc/\Q (.ref p) Hc)\/(J.go i Hc/\∀ x H',J.yld i Hc x H'->g x σc H' fun σ2 H2=>tc σ2 H2 fun b H3 =>
     if b=true then te σ2 H3 fun y H4=>H4 p=some (.lst ys)/\ys.length<sizeLine/\∃ m',m'<m/\W (i+1) m' (ys++[y]) σ2 (upd H4 p (.lst (ys++[y])))
     else ∃ m',m'<m/\W (i+1) m' ys σ2 H3)
theorem xX {own:Nat} {js:List Nat} {wi:TI} {g:TG} {tc:TT} {te:TE} {σ:St} {H:Hp} {Q:VK}:Kd own js wi g tc te σ H Q=wi σ H fun J H1=>∀ p,H1 p=none->BE J p Q g tc te (fh own js σ) (upd H1 p (.lst [])):=rfl
def nu (J:It) (D:Ends) (g:TG) (tb:TS) (σ:St) (H:Hp):Prop:=∃ W:Nat->Nat->St->Hp->Prop,(∃ m,W 0 m σ H)/\∀ i m σ H,W i m σ H ->
 (J.stop i H/\D.nx σ H)\/(J.go i H/\∃ N:St->Hp->Prop,(∀ σ' H',N σ' H'->∃ m',m'<m/\W (i+1) m' σ' H')/\∀ x H',J.yld i H x H'->g x σ H' fun σ2 H2=>tb { D with nx:=N,ct:=N,bk:=D.nx } σ2 H2)
theorem Dq {wi:TI} {g:TG} {tb:TS} {D:Ends} {σ:St} {H:Hp}:ME wi g tb D σ H=wi σ H fun J H1=>nu J D g tb σ H1:=rfl
theorem Bt {K:PySem.W.Frag} {c:Bool} {a p:Addr} {xs:List V} {Q:VK} {g:TG} {tc:TT} {te:TE} {σ0:St} {H0:Hp} (Pv:Nat->List V->St->Hp->Prop) (h0:Pv 0 [] σ0 H0) (hl:∀ i ys σ H,i<=xs.length->Pv i ys σ H->SqX K c H a xs)
   (hs:∀ (i:Nat) (x:V) (ys:List V) (σ:St) (H:Hp) (N:List V->St->Hp->Prop),(∀ ys' σ' H',Pv (i+1) ys' σ' H'->N ys' σ' H')->xs[i]?=some x->Pv i ys σ H->g x σ H fun σ2 H2=>tc σ2 H2 fun b H3 =>
     if b=true then te σ2 H3 fun y H4=>H4 p=some (.lst ys)/\ys.length<sizeLine/\N (ys++[y]) σ2 (upd H4 p (.lst (ys++[y]))) else N ys σ2 H3)
   (hd:∀ ys σ H,Pv xs.length ys σ H->Q (.ref p) H):BE (Itx K c a) p Q g tc te σ0 H0:=by
 refine ⟨fun i m ys σ H=>m=xs.length - i/\i<=xs.length/\Pv i ys σ H,⟨xs.length,by simp,Nat.zero_le _,h0⟩,?_⟩;rintro i m ys σ H ⟨rfl,hi,pv⟩;have q:=hl i ys σ H hi pv;by_cases hlt:i<xs.length
 . refine .inr ⟨?_,fun x H' y=>?_⟩
   . cases c
     . exact ⟨xs,xs[i],q,by simp [hlt]⟩
     . exact ⟨xs,xs[i],q,by simp [hlt]⟩
   . have e:H'=H/\xs[i]?=some x:=by
       cases c
       . exact ⟨y.1,y.2 xs q⟩
       . exact ⟨y.1,y.2 xs q⟩
     obtain ⟨rfl,hx⟩:=e;exact hs i x ys σ _ (fun ys' σ' H'=>∃ m',m'<xs.length - i/\(m'=xs.length - (i+1)/\i+1<=xs.length/\Pv (i+1) ys' σ' H')) (fun ys' σ' H' pv'=>⟨xs.length - (i+1),by omega,rfl,hlt,pv'⟩) hx pv
 . have e:i=xs.length:=by omega
   subst e;refine .inl ⟨?_,hd ys σ H pv⟩;cases c
   . exact ⟨xs,q,Nat.le_refl _⟩
   . exact ⟨xs,q,Nat.le_refl _⟩
theorem dM:bootBuiltins "len"=some (.builtin "len"):=by decide +kernel
theorem lx:bootBuiltins "isinstance"=some (.builtin "isinstance"):=by decide +kernel
theorem L5:bootBuiltins "all"=some (.builtin "all"):=by decide +kernel
theorem Fb:bootBuiltins "sorted"=some (.builtin "sorted"):=by decide +kernel
theorem LM:bootBuiltins "int"=some (.type "int"):=by decide +kernel
theorem pH:bootBuiltins "list"=some (.type "list"):=by decide +kernel
theorem gC:bootBuiltins "tuple"=some (.type "tuple"):=by decide +kernel
theorem KH:bootBuiltins "bool"=some (.type "bool"):=by decide +kernel
section
variable {X:Cx} {a b o e:Expr} {es:List Expr} {ta tb to:TE} {t:TA} {pos apos cpos:Pos} {f name:Str} {T id:String} {r:V->List V->Hp->VK->Prop}
theorem xK (K:PySem.W.Frag) (h:X.K=K):kb X (.type "tuple") (fun xs H Q=>∃ p ys,xs=[.ref p]/\((SqL K H p ys/\∀ l,H l=none->Q (.ref l) (upd H l (.tup ys)))\/(SqT K H p ys/\Q (.ref p) H))):=by subst h;exact dn
end
theorem vZ {x:Str} {k:NameKind}:∀ {l:List (Str × NameKind)},l.lookup x=some k->∃ y,(y,k)∈l
 | [],h=>by simp at h
 | (n,j)::r,h=>by
   rw [List.lookup_cons] at h;cases q:x == n with
   | true =>
     rw [q] at h;cases h;exact ⟨n,List.mem_cons_self⟩
   | false =>
     rw [q] at h;obtain ⟨y,hy⟩:=vZ h;exact ⟨y,List.mem_cons_of_mem _ hy⟩
theorem uG {X:Cx} {Nc:List Str} {scope:Scope} (own:Nat) (hf:∀ y∈scope.names,y.2≠.free) (hc:∀ y∈scope.names,y.2≠.cell) (hk:scope.kind=.function) (hn:∀ y∈scope.names,y.2=.local->scope.names.lookup y.1=some .local)
   (hl:Nc.length=own):CompTxt X Nc own [] scope [] where
 clos:=closureFor_none hf
 kind:=hk
 nocell:=hc
 names:=hn
 cells:=fun x c h=>by cases h
 has:=fun x h=>by
   have key:∀ k,(relabel scope X.env).names.lookup x=some k->k≠.cell/\k≠.free:=fun k e=>by
     obtain ⟨y,hy⟩:=vZ e;obtain ⟨⟨n,k0⟩,hm,e2⟩:=List.mem_map.mp hy;have h1:=hf _ hm;have h2:=hc _ hm;have e3:(k0 == NameKind.free)=false:=(by simpa using h1);simp only [e3,Bool.false_and,Bool.false_eq_true,if_false] at e2;cases e2;exact ⟨h2,h1⟩
   rcases h with h|h
   . exact absurd rfl (key _ h).1
   . exact absurd rfl (key _ h).2
 len:=by simpa using hl
 outer:=fun i x h=>by
   rw [List.getElem?_eq_none (by omega)] at h;cases h
theorem r6 {K:PySem.W.Frag} {a:Addr} {xs:List V} {g:TG} {tb:TS} {D:Ends} {σ:St} {H:Hp} (Pv:Nat->St->Hp->Prop) (h0:Pv 0 σ H) (hl:∀ i σ H,i<=xs.length->Pv i σ H->SqL K H a xs)
   (hs:∀ (i:Nat) (x:V) (σ:St) (H:Hp) (N:St->Hp->Prop),(∀ σ' H',Pv (i+1) σ' H'->N σ' H')->xs[i]?=some x->Pv i σ H->g x σ H fun σ2 H2=>tb { D with nx:=N,ct:=N,bk:=D.nx } σ2 H2) (hd:∀ σ H,Pv xs.length σ H->D.nx σ H) :
   nu (Itl K a) D g tb σ H:=HZ Pv h0 hl (fun i x σ H hx p=>hs i x σ H (Pv (i+1)) (fun _ _ z=>z) hx p) hd
theorem AN {K:PySem.W.Frag} {a:Addr} {xs:List V} {g:TG} {tb:TS} {D:Ends} {σ:St} {H:Hp} (Pv:Nat->St->Hp->Prop) (h0:Pv 0 σ H) (hl:∀ i σ H,i<=xs.length->Pv i σ H->SqT K H a xs)
   (hs:∀ (i:Nat) (x:V) (σ:St) (H:Hp) (N:St->Hp->Prop),(∀ σ' H',Pv (i+1) σ' H'->N σ' H')->xs[i]?=some x->Pv i σ H->g x σ H fun σ2 H2=>tb { D with nx:=N,ct:=N,bk:=D.nx } σ2 H2) (hd:∀ σ H,Pv xs.length σ H->D.nx σ H) :
   nu (Itt K a) D g tb σ H:=wD Pv h0 hl (fun i x σ H hx p=>hs i x σ H (Pv (i+1)) (fun _ _ z=>z) hx p) hd
theorem pR {lo:Int} {n:Nat} {g:TG} {tb:TS} {D:Ends} {σ:St} {H:Hp} (Pv:Nat->St->Hp->Prop) (h0:Pv 0 σ H)
   (hs:∀ (i:Nat) (σ:St) (H:Hp) (N:St->Hp->Prop),(∀ σ' H',Pv (i+1) σ' H'->N σ' H')->i<n->Pv i σ H->g (.int (lo+i)) σ H fun σ2 H2=>tb { D with nx:=N,ct:=N,bk:=D.nx } σ2 H2) (hd:∀ σ H,Pv n σ H->D.nx σ H) :
   nu (Itr lo n) D g tb σ H:=Fm Pv h0 (fun i σ H hi p=>hs i σ H (Pv (i+1)) (fun _ _ z=>z) hi p) hd
theorem Dx {c:TT} {tb:TS} {D:Ends} {σ:St} {H:Hp} (W:Nat->St->Hp->Prop) (n0:Nat) (h0:W n0 σ H)
   (hs:∀ (n:Nat) (σ:St) (H:Hp) (N:St->Hp->Prop),(∀ n' σ' H',n'<n->W n' σ' H'->N σ' H')->(∀ σ' H',N σ' H'->∃ m',m'<n/\W m' σ' H')->W n σ H ->
     c σ H fun b H1=>if b=true then ∃ N:St->Hp->Prop,(∀ σ' H',N σ' H'->∃ m',m'<n/\W m' σ' H')/\tb { D with nx:=N,ct:=N,bk:=D.nx } σ H1 else D.nx σ H1):BM c tb D σ H :=
 ⟨W,⟨n0,h0⟩,fun n σ H w=>hs n σ H (fun σ' H'=>∃ m',m'<n/\W m' σ' H') (fun n' _ _ hn w'=>⟨n',hn,w'⟩) (fun _ _ z=>z) w⟩
theorem p60:(0:Int)<10^(60:Int).toNat:=Int.pow_pos (by decide)
open Pb
def lH (r:Road):List V:=[.int r.a,.int r.b,.int r.t,.int r.u]
abbrev RoadsAt (H:Hp):List Addr->List Road->Prop:=Paired fun p r=>H p=some (.tup (lH r))
theorem RoadsAt.same {H H':Hp} (e:Same H H') {ps:List Addr} {rs:List Road} (h:RoadsAt H ps rs):RoadsAt H' ps rs:=Paired.imp' (fun p r q=>e p _ q) h
theorem RoadsAt.get {H:Hp}:∀ {ps:List Addr} {rs:List Road} {i:Nat} {x:V},RoadsAt H ps rs->(ps.map V.ref)[i]?=some x->∃ p r,x=.ref p/\ps[i]?=some p/\rs[i]?=some r/\H p=some (.tup (lH r))
 | _,_,i,x,.nil,e=>by simp at e
 | _,_,0,x,.cons (a:=p) (b:=r) h hs,e=>⟨p,r,by simpa using e.symm,by simp,by simp,h⟩
 | a::l1,_,i+1,x,.cons h hs,e=>by
   have e':(List.map V.ref l1)[i]?=some x:=by simpa using e
   obtain ⟨p,r,h1,h2,h3,h4⟩:=RoadsAt.get hs e';exact ⟨p,r,h1,by simpa using h2,by simpa using h3,h4⟩
theorem Same.tup {K:PySem.W.Frag} {H H':Hp} {a:Addr} {xs:List V} (e:Same H H') (h:SqT K H a xs):SqT K H' a xs:=by
 rcases h with (h|⟨o,h⟩)|h
 . exact .inl (.inl (e _ _ h))
 . exact .inl (.inr ⟨o,e _ _ h⟩)
 . exact .inr h
theorem Same.sqX {K:PySem.W.Frag} {H H':Hp} {c:Bool} {a:Addr} {xs:List V} (e:Same H H') (h:SqX K c H a xs):SqX K c H' a xs:=by
 cases c
 . exact Same.tup e h
 . exact Same.seq e h
theorem Same.new {H:Hp} {p:Addr} (o:HO) (h:H p=none):Same H (upd H p o):=fun b u e=>by rw [ao (bw e h)];exact e
end L2
set_option Elab.async false
set_option linter.all false
set_option maxRecDepth 100000
namespace L2
open PySem PySem.Spec PyProof.Rows
abbrev bmV:List Value:=[.type "ValueError",.type "Exception",.type "BaseException",.type "object"]
section
variable {prog:Program} {w:World} {A:Around} {E:Value->Shared->Prop} {s:Shared} {K:PySem.W.Frag} {x C:Addr} {ox:Obj} {od:Option Obj}
end
end L2
set_option Elab.async false
set_option linter.all false
set_option maxRecDepth 100000
namespace L2
open PySem PySem.Spec PyProof.Rows
def jw (h:Heap) (ea:Addr) (cls:Value) (od:Option Addr) (head:Value):Prop:=∃ oe vs,h.get? ea=some oe/\oe.cls=cls/\oe.dict=od/\oe.data=.fields vs/\vs[1]?=some head/\vs[2]?=some .none
def TbO (h:Heap) (T:Addr) (fl:Value):Prop:=∃ oT ts,h.get? T=some oT/\oT.data=.fields ts/\ts[3]?=some fl
structure Err (h:Heap) (ea T:Addr) (cls:Value) (od:Option Addr) (fl:Value):Prop where
 e:jw h ea cls od (.ref T)
 t:TbO h T fl
 ne:T≠ea
structure Kept (fs xs:List Addr) (h h':Heap):Prop where
 keep:∀ b o,h.get? b=some o->b ∉ fs->b ∉ xs->h'.get? b=some o
 slot:∀ b o,h.get? b=some o->b∈fs->b ∉ xs->∃ sl,h'.get? b=some { o with slots:=sl }
 there:∀ b o,h.get? b=some o->∃ o',h'.get? b=some o'
theorem Kept.mono {fs xs ys:List Addr} {h h':Heap} (k:Kept fs xs h h') (s:∀ b∈xs,b∈ys):Kept fs ys h h':=⟨fun b o e f x=>k.keep b o e f fun z=>x (s b z),fun b o e f x=>k.slot b o e f fun z=>x (s b z),k.there⟩
theorem Kept.trans {fs xs:List Addr} {h h1 h2:Heap} (a:Kept fs xs h h1) (b:Kept fs xs h1 h2):Kept fs xs h h2 where
 keep:=fun c o e f x=>b.keep c o (a.keep c o e f x) f x
 slot:=fun c o e f x=>by
   obtain ⟨s1,e1⟩:=a.slot c o e f x;obtain ⟨s2,e2⟩:=b.slot c _ e1 f x;exact ⟨s2,e2⟩
 there:=fun c o e=>by
   obtain ⟨o1,e1⟩:=a.there c o e;exact b.there c o1 e1
theorem Kept.of_all {fs xs:List Addr} {h h':Heap} (k:∀ b o,h.get? b=some o->h'.get? b=some o):Kept fs xs h h':=⟨fun b o e _ _=>k b o e,fun b o e _ _=>⟨o.slots,k b o e⟩,fun b o e=>⟨o,k b o e⟩⟩
theorem uW {fs xs:List Addr} {h:Heap} {a:Addr} {oa:Obj} {vs:Array Value} {i:Nat} {v:Value} (ha:h.get? a=some oa) (hd:oa.data=.fields vs) (hx:a∈xs):Kept fs xs h (h.update a (Obj.mapFields (·.setIfInBounds i v))):=by
 have oth:∀ b o,h.get? b=some o->b ∉ xs->(h.update a (Obj.mapFields (·.setIfInBounds i v))).get? b=some o:=fun b o e x=>by
   rw [Heap.get?_update_other _ _ (fun (z:a=b)=>x (z ▸ hx))];exact e
 refine ⟨fun b o e _ x=>oth b o e x,fun b o e _ x=>⟨o.slots,oth b o e x⟩,fun b o e=>?_⟩;by_cases z:b=a
 . subst z;exact ⟨_,Heap.get?_update_self _ ha (Obj.isFreed_of_fields (Obj.data_mapFields hd _))⟩
 . rw [Heap.get?_update_other _ _ (Ne.symm z)];exact ⟨o,e⟩
theorem Jw {h:Heap} {ea:Addr} {cls hd v:Value} {od:Option Addr} (e:jw h ea cls od hd):jw (h.update ea (Obj.mapFields (·.setIfInBounds 1 v))) ea cls od v:=by
 obtain ⟨oe,vs,h1,h2,h3,h4,h5,h6⟩:=e;have sz:1<vs.size:=(Array.getElem?_eq_some_iff.mp h5).1;refine ⟨_,_,Heap.get?_update_self _ h1 (Obj.isFreed_of_fields (Obj.data_mapFields h4 _)),?_,?_,Obj.data_mapFields h4 _,by simp [sz],by rw [Array.getElem?_setIfInBounds_ne (by decide)];exact h6⟩
 . rw [<- h2];exact Obj.cls_mapFields _ _
 . rw [<- h3];obtain ⟨c,d,dt,sl⟩:=oe;cases dt <;> rfl
theorem vw {h:Heap} {ea a:Addr} {cls hd:Value} {od:Option Addr} {f:Obj->Obj} (e:jw h ea cls od hd) (ne:a≠ea):jw (h.update a f) ea cls od hd:=by
 obtain ⟨oe,vs,h1,h2⟩:=e;exact ⟨oe,vs,by rw [Heap.get?_update_other _ _ ne];exact h1,h2⟩
theorem xP {h h':Heap} {ea:Addr} {cls hd:Value} {od:Option Addr} (e:jw h ea cls od hd) (k:∀ o,h.get? ea=some o->h'.get? ea=some o):jw h' ea cls od hd:=by
 obtain ⟨oe,vs,h1,h2⟩:=e;exact ⟨oe,vs,k _ h1,h2⟩
theorem E6 {h base:Heap} {ea:Addr} {cls hd:Value} {od:Option Addr} {l:List Env} (e:jw h ea cls od hd) (f:h.FunFrames base l):ea ∉ frs l:=fun z=>by
 obtain ⟨oe,vs,h1,_,_,h4,_⟩:=e;obtain ⟨_,o,ho,hn⟩:=f.mem z;rw [h1] at ho;cases ho;exact hn vs h4
theorem Gs {h base:Heap} {T:Addr} {fl:Value} {l:List Env} (e:TbO h T fl) (f:h.FunFrames base l):T ∉ frs l:=fun z=>by
 obtain ⟨oe,vs,h1,h4,_⟩:=e;obtain ⟨_,o,ho,hn⟩:=f.mem z;rw [h1] at ho;cases ho;exact hn vs h4
section
variable {M:Model} {A:Around} {E:Value->Shared->Prop} {s:Shared} {Q:Unit->Shared->Prop} {fs:List Addr} {ea T L:Addr} {cls fl hd:Value} {od:Option Addr} {base:Heap} {env:Env} {outer:List Env}
theorem Dc (r:Err s.heap ea T cls od fl) (h:∀ h',Err h' ea T cls od .none->Kept fs [T] s.heap h'->Q () { s with heap:=h' }):wpAny M A (setFlight (.ref ea) none) Q E s:=by
 obtain ⟨⟨oe,vs,h1,h2,h3,h4,h5,h6⟩,⟨oT,ts,t1,t2,t3⟩,ne⟩:=r;have sz:3<ts.size:=(Array.getElem?_eq_some_iff.mp t3).1;unfold setFlight;refine wpAny_bind (wpAny_field h1 h4 h5 ?_);rw [if_pos (by simp:(Value.ref T != Value.none)=true)];refine wpAny_setField t1 t2 sz (h _ ⟨vw ⟨oe,vs,h1,h2,h3,h4,h5,h6⟩ ne,⟨_,_,Heap.get?_update_self _ t1 (Obj.isFreed_of_fields (Obj.data_mapFields t2 _)),Obj.data_mapFields t2 _,by simp [sz]⟩,ne⟩ (uW t1 t2 (by simp)))
theorem Ap {head:Value} {hadNext:Bool} (hfr:A.frames=some (env::outer)) (hl:s.heap.FunFrames base (env::outer)) (hf:env.frame=some L) (r:jw s.heap ea cls od hd)
   (h:∀ h' T',Err h' ea T' cls od (rawInt L)->Kept (frs (env::outer)) [ea] s.heap h'->s.heap.get? T'=none->Q () { s with heap:=h' }) :
   wpAny M A (do let a <- frameOf env;let pl <- entryPlaceOf L hadNext;let b <- EntryCells.newEntry head a .none (rawInt L) .none pl;setField (.ref ea) 1 b) Q E s:=by
 have nf:=E6 r hl;refine wpAny_bind (wpAny_frameOf_fun hfr hl hf fun g1 so=>wpAny_bind (wpAny_entryPlaceOf fun pl hpl=>?_));unfold EntryCells.newEntry newFields;refine wpAny_bind (wpAny_newObj_type ?_ (hpl.sizeOk5 _ _ _ _ _));have r1:jw g1 ea cls od hd:=xP r fun o e=>(so.2.1 ea nf).trans e;generalize ht:({ cls:=.type "traceback",dict:=none,data:=.fields ([head,.ref L,.none,rawInt L,.none]++(if pl.isEmpty then List.replicate 6 Value.none else pl)).toArray }:Obj)=tb;have r2:jw (g1.push tb) ea cls od hd:=xP r1 fun o e=>Heap.get?_push_of_some _ e;obtain ⟨oe,vs,e1,e2,e3,e4,e5,e6⟩:=id r2;have lt:ea<g1.objs.size:=by
   obtain ⟨_,_,e,_⟩:=r1;exact Heap.lt_size e
 have hT:(g1.push tb).get? g1.objs.size=some tb:=Heap.get?_push_size g1 (by rw [<- ht];rfl);refine wpAny_setField e1 e4 (Array.getElem?_eq_some_iff.mp e5).1 (h _ g1.objs.size ⟨Jw r2,⟨tb,([head,.ref L,.none,rawInt L,.none]++(if pl.isEmpty then List.replicate 6 Value.none else pl)).toArray,?_,by rw [<- ht],by simp⟩,Nat.ne_of_gt lt⟩ ?_ ?_)
 . rw [Heap.get?_update_other _ _ (Nat.ne_of_lt lt)];exact hT
 . have k1:Kept (frs (env::outer)) [ea] s.heap g1:=⟨fun b o e f _=>(so.2.1 b f).trans e,fun b o e _ _=>so.2.2 b o e,fun b o e=>by
     obtain ⟨sl,z⟩:=so.2.2 b o e;exact ⟨_,z⟩⟩
   exact k1.trans ((Kept.of_all fun b o e=>Heap.get?_push_of_some _ e).trans (uW e1 e4 (by simp)))
 . exact Heap.get?_none_of_le (by rw [so.1];exact Nat.le_refl _)
theorem Gz (hfr:A.frames=some (env::outer)) (hl:s.heap.FunFrames base (env::outer)) (hf:env.frame=some L) (r:jw s.heap ea cls od .none)
   (h:∀ h' T',Err h' ea T' cls od (rawInt L)->Kept (frs (env::outer)) [ea] s.heap h'->s.heap.get? T'=none->Q () { s with heap:=h' }):wpAny M A (noteFrame (.ref ea) env) Q E s:=by
 obtain ⟨oe,vs,e1,e2,e3,e4,e5,e6⟩:=id r;unfold noteFrame;simp only [hf];refine wpAny_bind (wpAny_field e1 e4 e5 ?_);rw [if_neg (by decide)];exact Ap hfr hl hf r h
theorem Kz (hfr:A.frames=some (env::outer)) (hl:s.heap.FunFrames base (env::outer)) (hf:env.frame=some L) (r:Err s.heap ea T cls od .none)
   (h:∀ h' T',Err h' ea T' cls od (rawInt L)->Kept (frs (env::outer)) [ea,T] s.heap h'->s.heap.get? T'=none->Q () { s with heap:=h' }):wpAny M A (noteFrame (.ref ea) env) Q E s:=by
 have nT:=Gs r.t hl;obtain ⟨⟨oe,vs,e1,e2,e3,e4,e5,e6⟩,⟨oT,ts,t1,t2,t3⟩,ne⟩:=id r;unfold noteFrame;simp only [hf];refine wpAny_bind (wpAny_field e1 e4 e5 ?_);rw [if_pos (by simp:(Value.ref T != Value.none)=true)];refine wpAny_bind (wpAny_field t1 t2 t3 ?_);rw [if_neg (by simp [rawInt])];have k1:Kept (frs (env::outer)) [ea,T] s.heap (s.heap.update T (Obj.mapFields (·.setIfInBounds 3 Value.none))):=uW t1 t2 (by simp);refine wpAny_bind (wpAny_setField t1 t2 (Array.getElem?_eq_some_iff.mp t3).1 ?_);refine Ap hfr (hl.of_keeps fun b o e nf=>⟨o,?_,rfl⟩) hf (vw r.e ne) fun h' T' r' k2 n=>h h' T' r' (k1.trans (k2.mono (by simp))) ?_
 . by_cases z:b=T
   . subst z;rw [t1] at e;cases e;exact absurd t2 (nf ts)
   . rw [Heap.get?_update_other _ _ (Ne.symm z)];exact e
 . cases q:s.heap.get? T' with
   | none=>rfl
   | some o =>
     obtain ⟨o',z⟩:=k1.there T' o q;rw [z] at n;cases n
theorem E8 (hfr:A.frames=some (env::outer)) (hl:s.heap.FunFrames base (env::outer)) (hf:env.frame=some L) (r:jw s.heap ea cls od .none)
   (h:∀ h' T',Err h' ea T' cls od .none->Kept (frs (env::outer)) [ea] s.heap h'->s.heap.get? T'=none->Q () { s with heap:=h' }):wpAny M A (leaving env (.ref ea)) Q E s:=by
 unfold leaving;refine wpAny_bind (Gz hfr hl hf r fun h1 T1 r1 k1 n1=>Dc (fs:=frs (env::outer)) (s:={ s with heap:=h1 }) r1 fun h2 r2 k2=>h h2 T1 r2 ⟨fun b o e f x=>k2.keep b o (k1.keep b o e f x) f ?_,fun b o e f x=>?_,fun b o e=>?_⟩ n1)
 . simp only [List.mem_singleton];rintro rfl;rw [n1] at e;cases e
 . obtain ⟨s1,e1⟩:=k1.slot b o e f x;obtain ⟨s2,e2⟩:=k2.slot b _ e1 f (by
     simp only [List.mem_singleton];rintro rfl;rw [n1] at e;cases e)
   exact ⟨s2,e2⟩
 . obtain ⟨o1,e1⟩:=k1.there b o e;exact k2.there b o1 e1
theorem HE (hfr:A.frames=some (env::outer)) (hl:s.heap.FunFrames base (env::outer)) (hf:env.frame=some L) (r:Err s.heap ea T cls od .none)
   (h:∀ h' T',Err h' ea T' cls od .none->Kept (frs (env::outer)) [ea,T] s.heap h'->s.heap.get? T'=none->Q () { s with heap:=h' }):wpAny M A (leaving env (.ref ea)) Q E s:=by
 unfold leaving;refine wpAny_bind (Kz hfr hl hf r fun h1 T1 r1 k1 n1=>Dc (fs:=frs (env::outer)) (s:={ s with heap:=h1 }) r1 fun h2 r2 k2=>h h2 T1 r2 ⟨fun b o e f x=>k2.keep b o (k1.keep b o e f x) f ?_,fun b o e f x=>?_,fun b o e=>?_⟩ n1)
 . simp only [List.mem_singleton];rintro rfl;rw [n1] at e;cases e
 . obtain ⟨s1,e1⟩:=k1.slot b o e f x;obtain ⟨s2,e2⟩:=k2.slot b _ e1 f (by
     simp only [List.mem_singleton];rintro rfl;rw [n1] at e;cases e)
   exact ⟨s2,e2⟩
 . obtain ⟨o1,e1⟩:=k1.there b o e;exact k2.there b o1 e1
end
def CXe (P:Program) (w:World):CXT:=fun outer H s E e s'=>∃ (ea T:Addr) (cls:Value) (od:Option Addr) (H':Hp),e=.ref ea/\s'.os=s.os/\AllBare s'.gens/\Un (frs outer) [] H H' s.heap s'.heap/\HOk P w H' s'.heap /\
 H' ea=none/\H' T=none/\s.heap.get? ea=none/\s.heap.get? T=none/\Err s'.heap ea T cls od .none/\E cls od H'
theorem aJ {P:Program} {w:World}:aN (CXe P w):=fun outer H s e s' h=>by
 obtain ⟨_,_,_,_,_,_,_,_,_,_,_,_,_,_,_,z⟩:=h;exact z
theorem AX {P:Program} {w:World} {H:Hp} {h h':Heap} {fs xs:List Addr} (x:HOk P w H h) (k:Kept fs xs h h') (f:∀ b∈fs,H b=none) (u:∀ b∈xs,H b=none):HOk P w H h':=fun a o e=>by
 refine (x a o e).stay (fun b ob hb q=>k.keep b ob q ?_ ?_) (fun _ q=>q) fun _ _ q=>q
 . intro z;rcases hb with rfl|hb
   . rw [f _ z] at e;cases e
   . rw [f _ z] at hb;cases hb
 . intro z;rcases hb with rfl|hb
   . rw [u _ z] at e;cases e
   . rw [u _ z] at hb;cases hb
theorem DZ {P:Program} {w:World} {H:Hp} {h:Heap} {b:Addr} (x:HOk P w H h) (n:h.get? b=none):H b=none:=by
 cases q:H b with
 | none=>rfl
 | some o =>
   have lt:=x.lt q;cases z:h.get? b with
   | some o'=>rw [z] at n;cases n
   | none =>
     exfalso
     have:=(x b o q);cases o with
     | lst xs=>obtain ⟨_,_,_,_,e⟩:=this;rw [n] at e;cases e
     | tup xs=>obtain ⟨_,_,_,ob,e,_⟩:=this;rw [n] at e;cases e
     | dK kvs=>obtain ⟨_,_,_,_,ob,_,_,e,_⟩:=this;rw [n] at e;cases e
     | dT kvs=>obtain ⟨_,_,_,_,ob,_,_,e,_⟩:=this;rw [n] at e;cases e
     | set S m=>obtain ⟨ob,_,_,_,e,_⟩:=this;rw [n] at e;cases e
     | ins C dx fs=>obtain ⟨_,_,_,e,_⟩:=this;rw [n] at e;cases e
     | own y=>obtain ⟨_,e⟩:=this;rw [n] at e;cases e
     | xd fs=>obtain ⟨_,⟨_,_,_,e,_⟩,_⟩:=this;rw [n] at e;cases e
     | rng lo hi=>obtain ⟨_,_,_,e⟩:=this;rw [n] at e;cases e
     | frz ob u=>obtain ⟨e,_⟩:=this;rw [n] at e;cases e
     | tbl ps=>have e:h.get? b=some _:=this;rw [n] at e;cases e
     | met f y=>have e:h.get? b=some _:=this;rw [n] at e;cases e
     | ext φ=>obtain ⟨_,⟨_,e⟩,_⟩:=this;rw [n] at e;cases e
section
variable {P:Program} {w:World} {K:PySem.W.Frag} {mg:Str->Option Value} {base:Heap} {N:List Str} {qual:Str} {scope:Scope} {f:Addr} {cd:Value} {A:Around} {outer:List Env} {s:Shared} {H:Hp} {E:XK}
theorem BO {CX:CXT} {pins:List (Addr × Obj)} {σ:St} {H':Hp} {s':Shared} {h':Heap} {xs:List Addr} (J:Inv (kQ CX P w K mg base N qual scope f cd A outer s H E) pins σ H' s') (k:Kept (frs (envOfC qual scope s.heap.objs.size f cd::outer)) xs s'.heap h') (nx:∀ b∈xs,s.heap.get? b=none) :
   Un (frs outer) [] H H' s.heap h':=by
 have b0:Un (frs outer) [] H H' s.heap s'.heap:=J.base;have nl:∀ b o,s.heap.get? b=some o->b ∉ xs:=fun b o e z=>by rw [nx b z] at e;cases e
 have nf:∀ b o,s.heap.get? b=some o->b ∉ frs outer->b ∉ frs (envOfC qual scope s.heap.objs.size f cd::outer):=fun b o e z m=>by
   unfold frs at m z;rw [List.filterMap_cons] at m;have:(envOfC qual scope s.heap.objs.size f cd).frame=some s.heap.objs.size:=rfl;rw [this] at m;rcases List.mem_cons.mp m with m|m
   . exact absurd (Heap.lt_size e) (by rw [m];exact Nat.lt_irrefl _)
   . exact z m
 refine ⟨fun b o e n hf hx=>k.keep b o (b0.keep b o e n hf hx) (nf b o e hf) (nl b o e),fun b o e n hf hx=>?_,b0.free,fun b o e hx=>?_,b0.tups,b0.frzs,b0.tbls⟩
 . obtain ⟨sl,e1⟩:=b0.slot b o e n hf hx;by_cases m:b∈frs (envOfC qual scope s.heap.objs.size f cd::outer)
   . obtain ⟨s2,e2⟩:=k.slot b _ e1 m (nl b o e);exact ⟨s2,e2⟩
   . exact ⟨sl,k.keep b _ e1 m (nl b o e)⟩
 . obtain ⟨o1,e1⟩:=b0.there b o e hx;exact k.there b o1 e1
theorem j7 {CX:CXT} {pins:List (Addr × Obj)} {σ:St} {H':Hp} {s':Shared} (J:Inv (kQ CX P w K mg base N qual scope f cd A outer s H E) pins σ H' s') {b:Addr} (n:s'.heap.get? b=none):s.heap.get? b=none:=by
 cases q:s.heap.get? b with
 | none=>rfl
 | some o =>
   have b0:Un (frs outer) [] H H' s.heap s'.heap:=J.base;obtain ⟨o',e⟩:=b0.there b o q (by simp);rw [n] at e;cases e
theorem jc:ku (CXe P w) (kQ (CXe P w) P w K mg base N qual scope f cd A outer s H E) E:=by
 intro pins σ H1 s1 e s' I h;obtain ⟨ea,T,cls,od,H',rfl,os,bare,un,hok,n1,n2,f1,f2,er,q⟩:=h;have J:=I.call' (ch:=[]) os un hok bare (by simp);refine HE (base:=base) J.ok.frames J.stack rfl er fun h' T' er' k nT=>?_;have fr:∀ b∈frs (envOfC qual scope s.heap.objs.size f cd::outer),H' b=none:=J.stkFree;refine ⟨ea,T',cls,od,H',rfl,J.os,J.bare,BO J k ?_,AX hok k fr ?_,n1,DZ hok nT,j7 I f1,j7 J nT,er',q⟩
 . intro b hb;simp only [List.mem_cons,List.not_mem_nil,or_false] at hb;rcases hb with rfl|rfl
   . exact j7 I f1
   . exact j7 I f2
 . intro b hb;simp only [List.mem_cons,List.not_mem_nil,or_false] at hb;rcases hb with rfl|rfl
   . exact n1
   . exact n2
end
def F5 (X:Cx) (E:XK):Prop:=∀ (pins:List (Addr × Obj)) (σ:St) (H:Hp) (s:Shared) (ea:Addr) (cls:Value) (od:Option Addr) (h':Heap) (tk:Nat),Inv X pins σ H s->(∀ b o,s.heap.get? b=some o->h'.get? b=some o)->s.heap.get? ea=none->jw h' ea cls od .none->E cls od H ->
 X.xe (.ref ea) { s with heap:=h',toks:=tk }
section
variable {P:Program} {w:World} {K:PySem.W.Frag} {mg:Str->Option Value} {base:Heap} {N:List Str} {qual:Str} {scope:Scope} {f:Addr} {cd:Value} {A:Around} {outer:List Env} {s:Shared} {H:Hp} {E:XK}
theorem tJ:F5 (kQ (CXe P w) P w K mg base N qual scope f cd A outer s H E) E:=by
 intro pins σ H1 s1 ea cls od h' tk I kp nw er q;have J:=I.kept (t':=tk) kp;refine E8 (base:=base) J.ok.frames J.stack rfl er fun h2 T' er' k nT=>?_;have fr:∀ b∈frs (envOfC qual scope s.heap.objs.size f cd::outer),H1 b=none:=J.stkFree;refine ⟨ea,T',cls,od,H1,rfl,J.os,J.bare,BO J k ?_,AX J.hok k fr ?_,DZ I.hok nw,DZ J.hok nT,j7 I nw,j7 J nT,er',q⟩
 . intro b hb;rw [List.mem_singleton.mp hb];exact j7 I nw
 . intro b hb;rw [List.mem_singleton.mp hb];exact DZ I.hok nw
end
end L2
set_option Elab.async false
set_option linter.all false
set_option maxRecDepth 100000
namespace L2
open PySem PySem.Spec PyProof.Rows
def xo (K:PySem.W.Frag) (C:Addr):Prop:=∃ (nm qn:Str) (N:Addr) (bs bm:List Value) (hdct:Bool) (sn:List Str) (sub:List Value) (ab:Bool) (col:Option Bool) (dd:Option Addr) (k0 k1 k2 k3 k5:Option Value),
   K.lookup C=some (excClassObj nm qn C N bs bm hdct sn sub ab col dd k0 k1 k2 k3 k5 "ValueError.__new__")/\PySem.W.nsOkIn K N=true/\PySem.W.nsIn K N "__init__"=some none/\PySem.W.tailIn K bmV bm=true
theorem tG {K:PySem.W.Frag} {C:Addr} {o:Obj} (nm qn:Str) (N:Addr) (bs bm:List Value) (hdct:Bool) (sn:List Str) (sub:List Value) (ab:Bool) (col:Option Bool) (dd:Option Addr) (k0 k1 k2 k3 k5:Option Value) (l:K.lookup C=some o)
   (e:o=excClassObj nm qn C N bs bm hdct sn sub ab col dd k0 k1 k2 k3 k5 "ValueError.__new__") (a:PySem.W.nsOkIn K N=true) (b:PySem.W.nsIn K N "__init__"=some none) (c:PySem.W.tailIn K bmV bm=true):xo K C:=by
 subst e;exact ⟨_,_,_,_,_,_,_,_,_,_,_,_,_,_,_,_,l,a,b,c⟩
def Fn (C:Addr) (E:XK) (t:TA):TS:=fun _ σ H=>t σ H fun vs H1=>vs.length<=sizeLine/\E (.ref C) none H1
section
variable {X:Cx} {x:Str} {np cpos pos:Pos} {e0:Expr} {es:List Expr} {t:TA} {C:Addr} {E:XK}
theorem pX (q:xo X.K C) (hc:X.calm=true) (hR:F5 X E) (hg:Gl X x) (hm:X.mg x=some (.ref C)) (ha:PA X (e0::es) t) (hdb:(x == ("__debug__":Str))=false:=by decide)
   (he:starEach (e0::es) X.env=(false,eval e0 X.env)::starEach es X.env:=by rfl) (hpl:(backTo cpos (starEach es X.env)).any (·.1)=false:=by rfl):PS X (.Raise (some (.Call (.Name x np) (e0::es) [] cpos)) none pos) (Fn C E t):=by
 intro pins s σ H D I h;obtain ⟨nm,qn,N,bs,bm,hdct,sn,sub,ab,col,dd,k0,k1,k2,k3,k5,ho,z5,z6,z4⟩:=q;have B:=I.mod.kin;have T0:=PySem.W.tail_of_in B z4;have N0:X.base.Ns N (X.base.nsMap N):=.of_isNs (PySem.W.isNs_of_in B z5);have hp:(backTo cpos (starEach (e0::es) X.env)).any (·.1)=false:=by
   rw [he];show (false || (backTo cpos (starEach es X.env)).any (·.1))=false;rw [hpl]
   rfl
 refine wpAny_Raise_call_subT (C:=C) (nm:=nm) (q:=qn) (N:=N) (bs:=bs) (bm:=bm) (hdct:=hdct) (sn:=sn) (sub:=sub) (ab:=ab) (col:=col) (dd:=dd) (k0:=k0) (k1:=k1) (k2:=k2) (k3:=k3) (k5:=k5) PySem.F.excBase_ValueError
   (T0.hasType (by decide +kernel)) (I.ok.hd hc) hp (PySem.W.nsMap_none_of_in B z5 z6) (tF I hg hm ⟨rfl,?_⟩ hdb)
 have g:=ha cpos pins s σ H _ I h;rw [he] at g ⊢;refine Calls.evalArgs_plain (thn g fun us s1 ⟨vs,H1,I1,r1,q1⟩=>⟨rfl,by show us.length<=_;rw [<- r1.length];exact q1.1,I1.bk _ _ (B _ _ ho),N0.keeps I1.bk,T0.keeps I1.bk,fun h' ea m=>?_⟩);obtain ⟨tt,m1,_,_⟩:=m.there;exact hR pins σ H1 s1 ea (.ref C) none h' s1.toks I1 m.keeps m.new ⟨_,_,m1,rfl,rfl,rfl,rfl,rfl⟩ q1.2
end
section
variable {CX:CXT} {X:Cx} {k:Nat} {f C:Addr} {fd:FuncData} {ps:List Str} {sp:Sp} {dvs:List V} {ds:List Value} {x:Str} {p pos:Pos} {e:Expr} {es:List Expr} {te:TE} {t:TA} {st:Stmt} {sts:List Stmt} {ts:TS} {tx ux:(St->XK)->TS} {ex:XK->TE}
end
end L2
set_option Elab.async false
set_option linter.all false
set_option maxRecDepth 100000
namespace L2
open PySem PySem.Spec PyProof.Rows
section
variable {X:Cx} {pins:List (Addr × Obj)} {σ:St} {H:Hp} {s:Shared}
end
section
variable {K:PySem.W.Frag} {C C':Addr} {x:Addr} {ox:Obj} {od:Option Obj} {M:Model} {A:Around} {E:Value->Shared->Prop} {s:Shared} {b:Bool} {Q:Bool->Shared->Prop}
end
end L2
set_option Elab.async false
set_option linter.all false
set_option maxRecDepth 100000
namespace L2
open PySem PySem.Spec PyProof.Rows
def ExO (ea:Addr) (cls:Value) (od:Option Addr):HO:=.ext fun h=>∃ oe vs,h.get? ea=some oe/\oe.cls=cls/\oe.dict=od/\oe.data=.fields vs/\vs[2]?=some .none
section
variable {X:Cx} {pins:List (Addr × Obj)} {σ:St} {H:Hp} {s:Shared}
end
abbrev TH:=Ends->St->Value->Option Addr->Hp->Prop
def Ends.less (D:Ends) (i:Nat):Ends:={ nx:=fun σ H=>D.nx (σ.set i none) H,rt:=D.rt,bk:=fun σ H=>D.bk (σ.set i none) H,ct:=fun σ H=>D.ct (σ.set i none) H }
def MQ (K:PySem.W.Frag) (C':Addr) (i:Nat) (ts:TS) (tr:TH):TH:=fun D σ cls od H=>∃ C b,cls=.ref C/\PySem.W.mroIn K C (.ref C')=some b /\
 if b=true then ∀ ea,H ea=none->ts (D.less i) (σ.set i (some (.ref ea))) (upd H ea (ExO ea cls od)) else tr D σ cls od H
section
variable {X:Cx} {x n:Str} {np pos:Pos} {i:Nat} {C':Addr} {b0:Stmt} {suite:List Stmt} {jO:List ExceptHandler} {ts:TS} {tr:TH}
def MY (tb:(St->XK)->TS) (th:TH):TS:=fun D σ H=>tb (fun σ' cls od H'=>th D σ' cls od H') D σ H
end
end L2
set_option Elab.async false
set_option linter.all false
set_option maxRecDepth 100000
namespace L2
open PySem PySem.Spec PyProof.Rows
section
variable {P:Program} {w:World} {K:PySem.W.Frag} {mg:Str->Option Value} {base:Heap}
end
section
variable {X:Cx} {k:Nat} {f:Addr} {fd:FuncData} {ps:List Str} {sp:Sp} {x:Str} {p pos:Pos} {e:Expr} {es:List Expr} {t:TA}
end
section
variable {X:Cx}
end
end L2
set_option Elab.async false
set_option linter.all false
set_option maxRecDepth 100000
namespace L2
open PySem PySem.Spec PyProof.Rows
theorem Dp:∀ {ns:List Int} {us:List Value},Vals (ns.map V.int) us->IntsAre us ns
 | [],_,h=>by cases h;exact .nil
 | n::ns,_,h=>by
   cases h with
   | cons r t =>
     obtain ⟨k,rfl⟩:=(show ∃ t,_=Value.int n t from r);exact .cons n k (Dp t)
theorem Dm:∀ {ns:List Int} {us:List Value},IntsAre us ns->Vals (ns.map V.int) us
 | _,_,.nil=>.nil
 | _,_,.cons n t r=>.cons ⟨t,rfl⟩ (Dm r)
section
variable {X:Cx}
theorem CZ:kb X (.builtin "sorted") (fun xs H Q=>∃ (p:Addr) (ns:List Int),xs=[.ref p]/\SqL X.K H p (ns.map V.int)/\ns.length<64/\∀ (l:Addr) (zs:List Int),H l=none->zs.Perm ns->zs.Pairwise (·<=·)->Q (.ref l) (upd H l (.lst (zs.map V.int)))):=by
 intro pins s σ H xs us Q I r h;obtain ⟨p,ns,rfl,hp,h64,q⟩:=h;obtain ⟨u,rfl,ru⟩:=tR r;cases ru;obtain ⟨its,rv,pl,hz⟩:=I.list hp;have hi:=Dp rv;have e1:=IntsAre.length hi;refine sorted_ints pl.isList hi (by omega) fun out zs a1 a2 a3=>?_;obtain ⟨e,he⟩:=sortedAll_at s.heap its out;have hn:H (s.heap.objs.size+1)=none:=I.hok.fresh (Nat.le_succ _);have ln:zs.length=ns.length:=a2.length_eq;refine ⟨.ref (s.heap.objs.size+1),_,I.laid (a:=s.heap.objs.size+1) (o:=.lst (zs.map V.int)) (t':=s.toks) (fun b o e=>sortedAll_old e) (Nat.le_succ _) ⟨?_,out.toList,e,Dm a1,?_⟩,rfl,q _ zs hn a2 a3⟩
 . rw [List.length_map,ln];exact bG (by omega)
 . exact he
end
section
variable {K:PySem.W.Frag} {T C:Addr} {c0:Value} {dd:Option Addr} {cd:ClassData} {sl:Array (Option Value)}
end
section
variable {P:Program} {w:World} {K:PySem.W.Frag} {mg:Str->Option Value} {base:Heap}
theorem Fun.okX {x qual:Str} {st:Stmt} {f:Addr} {fd:FuncData} {N ps:List Str} {k:Nat} {sp:Sp} (F:Fun K x qual st f fd) (S:FnScope N ps (aa st)) (len:∀ vs H Q E,sp vs H Q E->vs.length=ps.length)
   (hbody:∀ (cdv:Value) (A:Around) (outer:List Env) (s:Shared) (H:Hp) (vs:List V) (Q:VK) (E:XK),Room k (A.deeper (envOfC qual (aa st) s.heap.objs.size f cdv))->sp vs H Q E ->
     ∃ t,PSs (kQ (CXe P w) P w K mg base N qual (aa st) f cdv A outer s H E) (aw st) t/\t { nx:=fun _ H'=>Q .non H',rt:=Q } (start N vs) H):FnOk P w K mg base (CXe P w) (k+1) f fd ps sp:=by
 obtain ⟨oc,od,kV,doc,pm,an,cdv,ct,osl,rfl,lk,hcd⟩:=F.ex;exact Ki lk hcd S len fun A outer s H vs Q E hr hsp=>hbody cdv A outer s H vs Q E hr hsp
end
theorem xS {C:Addr} {E:XK} {t:TA} {D:Ends} {σ:St} {H:Hp}:Fn C E t D σ H=t σ H fun vs H1=>vs.length<=sizeLine/\E (.ref C) none H1:=rfl
theorem Dt {tb:(St->XK)->TS} {th:TH} {D:Ends} {σ:St} {H:Hp}:MY tb th D σ H=tb (fun σ' cls od H'=>th D σ' cls od H') D σ H:=rfl
theorem B7 {K:PySem.W.Frag} {C':Addr} {i:Nat} {ts:TS} {tr:TH} {D:Ends} {σ:St} {cls:Value} {od:Option Addr} {H:Hp}:MQ K C' i ts tr D σ cls od H=∃ C b,cls=.ref C/\PySem.W.mroIn K C (.ref C')=some b /\
 if b=true then ∀ ea,H ea=none->ts (D.less i) (σ.set i (some (.ref ea))) (upd H ea (ExO ea cls od)) else tr D σ cls od H:=rfl
theorem Same.put {H H':Hp} {l:Addr} (e:Same H H') (n:H l=none) (o:HO):Same H (upd H' l o):=fun b u h=>by rw [ao (bw h n)];exact e b u h
theorem zX (i:Int):∀ ns:List Int,inV (.int i) (ns.map V.int)=decide (i∈ns)
 | []=>by simp [inV]
 | n::ns=>by
   have ih:=zX i ns;unfold inV at ih ⊢;rw [List.map_cons,List.any_cons,ih];have e:eqV (.int n) (.int i)=decide (n=i):=by first|rfl|simp [eqV]
   rw [e];by_cases h:i=n
   . subst h;simp
   . simp [h,Ne.symm h]
theorem yk:∀ ns:List Int,(ns.map V.int).all lJ=true
 | []=>rfl
 | n::ns=>by rw [List.map_cons,List.all_cons,yk ns];rfl
theorem inL {K:PySem.W.Frag} {neg:Bool} {H:Hp} {p:Addr} {i:Int} {ns:List Int} {Q:VK} (h:H p=some (.lst (ns.map V.int))) (q:Q (.bl (if neg then !decide (i∈ns) else decide (i∈ns))) H):rIn K neg (.int i) (.ref p) H Q:=by
 refine ⟨p,_,rfl,.inl (SqL.of h),rfl,yk ns,?_⟩;rw [zX];exact q
end L2
set_option Elab.async false
set_option linter.all false
set_option maxRecDepth 100000
namespace L2
open PySem PySem.Spec PyProof.Rows
section
variable {X:Cx} {Nc:List Str} {own:Nat} {js:List Nat} {scope:Scope} {cl:List (Str × Addr)}
end
end L2
set_option Elab.async false
set_option linter.all false
set_option maxRecDepth 100000
namespace L2
open PySem PySem.Spec PyProof.Rows
end L2
set_option Elab.async false
set_option linter.all false
set_option maxRecDepth 100000
namespace Pb
open L2 PySem
variable {m:Int} {rs:List Road} {r:Int} {par:Int->Int} {dep:Int->Nat}
theorem Fa {n i:Nat} (h:i<n):(below n)[i]?=some (i:Int):=by unfold below;rw [List.getElem?_map,List.getElem?_range h];rfl
theorem Al (n:Nat) (v:V):(List.replicate n [v]).flatten=List.replicate n v:=by
 induction n with
 | zero=>rfl
 | succ n ih=>rw [List.replicate_succ,List.flatten_cons,ih,List.replicate_succ];rfl
end Pb
set_option Elab.async false
set_option linter.all false
set_option maxRecDepth 100000
namespace L2
open PySem PySem.Spec PyProof.Rows
def Itv (K:PySem.W.Frag) (a:Addr) (n:Nat):It :=
 ⟨fun i H=>i<n/\∃ xs x,SqL K H a xs/\xs[n - 1 - i]?=some x,fun i H x H'=>H'=H/\∀ xs,SqL K H a xs->xs[n - 1 - i]?=some x,fun i H=>n<=i⟩
def Mz (K:PySem.W.Frag) (tl:TE):TI:=fun σ H R=>tl σ H fun x H1=>∃ a xs,x=.ref a/\SqL K H1 a xs/\R (Itv K a xs.length) H1
section
variable {X:Cx} {tg e:Expr} {te:TE} {p2 pos:Pos}
end
end L2
set_option Elab.async false
set_option linter.all false
set_option maxRecDepth 100000
namespace L2
open PySem PySem.Spec PyProof.Rows
def Gq (te:TE):TE:=fun σ H Q=>te σ H fun x H1=>∃ i,x=.int i/\0<=i/\i<=100000/\∀ l,H1 l=none->Q (.ref l) (upd H1 l (.lst ((Pb.below i.toNat).map V.int)))
section
variable {X:Cx} {e:Expr} {te:TE} {p1 p2 pos pos2:Pos}
end
end L2
set_option Elab.async false
set_option linter.all false
set_option maxRecDepth 100000
namespace L2
open PySem PySem.Spec PyProof.Rows PySem.W
section
variable {X:Cx}
end
end L2
set_option Elab.async false
set_option linter.all false
set_option maxRecDepth 100000
namespace L2
open PySem PySem.Spec PyProof.Rows
section
variable {X:Cx}
end
def MM (_ j:Int):Prop:=0<j/\j<18446744073709551616
theorem J0 {X:Cx}:OpR X (binaryOp .FloorDiv) (rI MM fun i j=>.int (i / j)):=opI fun i j _ _ _ _ _ hc q=>by
 have h1:(0:Int)<j:=hc.1;have h2:j<18446744073709551616:=hc.2;refine floordiv_int (by omega) (by rw [Int.fdiv_eq_ediv_of_nonneg i (by omega)];exact q) (.inl ?_);have h3:j.natAbs.log2<64:=(Nat.log2_lt (by omega)).mpr (by omega);unfold Builtin.divisionGoesByPylong;have hz:(j == 0)=false:=by simp;omega
 simp only [hz,Bool.false_eq_true,if_false];have:¬ (j.natAbs.log2 / 30+1 > 300):=by omega
 simp [this]
theorem KD {X:Cx} (K:PySem.W.Frag) (hK:X.K=K) {es:List Expr} {k:Nat} {pos:Pos} {t:TGs} {n:Nat} (hc:X.calm=true) (h:PGs X es t)
   (hn:(assignEach es X.env).length=n:=by rfl) (hst:(assignEach es X.env).findIdx? (·.1)=none:=by rfl):PG X (.Tuple es k pos) (DL K n t):=by
 subst hK;exact kF hc h hn hst
theorem IW {K:PySem.W.Frag} {c d:Bool} {a b p:Addr} {xs zs:List V} {Q:VK} {g:TG} {tc:TT} {te:TE} {σ0:St} {H0:Hp} (Pv:Nat->List V->St->Hp->Prop) (h0:Pv 0 [] σ0 H0) (hl:∀ i ys σ H,Pv i ys σ H->SqX K c H a xs/\SqX K d H b zs)
   (hs:∀ (i:Nat) (x z:V) (ys:List V) (σ:St) (H:Hp) (q:Addr) (N:List V->St->Hp->Prop),(∀ ys' σ' H',Pv (i+1) ys' σ' H'->N ys' σ' H')->xs[i]?=some x->zs[i]?=some z->Pv i ys σ H->H q=none->g (.ref q) σ (upd H q (.tup [x,z])) fun σ2 H2=>tc σ2 H2 fun b H3 =>
     if b=true then te σ2 H3 fun y H4=>H4 p=some (.lst ys)/\ys.length<sizeLine/\N (ys++[y]) σ2 (upd H4 p (.lst (ys++[y]))) else N ys σ2 H3)
   (hd:∀ ys σ H,Pv (min xs.length zs.length) ys σ H->Q (.ref p) H):BE (Itz K c d a b) p Q g tc te σ0 H0:=by
 refine ⟨fun i m ys σ H=>m=min xs.length zs.length - i/\i<=min xs.length zs.length/\Pv i ys σ H,⟨_,rfl,Nat.zero_le _,h0⟩,?_⟩;rintro i m ys σ H ⟨rfl,hi,pv⟩;obtain ⟨q1,q2⟩:=hl i ys σ H pv;by_cases hlt:i<min xs.length zs.length
 . refine .inr ⟨⟨xs,zs,xs[i]'(by omega),zs[i]'(by omega),q1,q2,List.getElem?_eq_getElem (by omega),List.getElem?_eq_getElem (by omega)⟩,fun x H' y=>?_⟩;obtain ⟨p',x',y',hp,rfl,rfl,e1,e2⟩:=y;exact hs i x' y' ys σ H p' (fun ys' σ' H'=>∃ m',m'<min xs.length zs.length - i/\(m'=min xs.length zs.length - (i+1)/\i+1<=min xs.length zs.length/\Pv (i+1) ys' σ' H')) (fun ys' σ' H' pv'=>⟨min xs.length zs.length - (i+1),by omega,rfl,hlt,pv'⟩) (e1 xs q1) (e2 zs q2) pv hp
 . have e:i=min xs.length zs.length:=by omega
   subst e;exact .inl ⟨⟨xs,zs,q1,q2,by omega⟩,hd ys σ H pv⟩
theorem tz {H:Hp} {l:Addr} {xs:List V} {i:Int} {v:V} {Q:Hp->Prop} (h:H l=some (.lst xs)) (i0:0<=i) (i1:i<xs.length) (q:Q (upd H l (.lst (xs.set i.toNat v)))):rSetL (.ref l) (.int i) v H Q :=
 ⟨l,xs,i,i.toNat,rfl,rfl,h,by unfold ixN;rw [if_pos i0,if_pos (by omega)],q⟩
theorem atG {xs:List Int} {i:Int} (i0:0<=i) (i1:i<xs.length):atI (xs.map V.int) i=some (.int (xs.getD i.toNat 0)):=xG i0 (by
 have h:i.toNat<xs.length:=by omega
 rw [List.getElem?_map,List.getElem?_eq_getElem h];simp [List.getD,h])
theorem MO (n:Nat) (v:V):(List.replicate n [v]).flatten=List.replicate n v:=by
 induction n with
 | zero=>rfl
 | succ n ih=>rw [List.replicate_succ,List.flatten_cons,ih,List.replicate_succ];rfl
theorem LD {xs:List Int} {n:Nat} {v:Int} (h:∀ x∈xs,0<=x) (hv:0<=v):∀ x∈xs.set n v,0<=x:=fun x hx=>by
 rcases List.mem_or_eq_of_mem_set hx with h1|h1
 . exact h x h1
 . rw [h1];exact hv
theorem Dk {xs:List Int} (h:∀ x∈xs,0<=x) (n:Nat):0<=xs.getD n 0:=by
 by_cases z:n<xs.length
 . rw [List.getD,List.getElem?_eq_getElem z];exact h _ (List.getElem_mem z)
 . rw [List.getD,List.getElem?_eq_none (by omega)];exact Int.le_refl _
theorem vc {X:Cx}:Ma X (xf X.K):=by
 intro pins s σ H x y v u Q I rx ry h;obtain ⟨p,xs,i,z,rfl,rfl,hq,he,q⟩:=h;cases rx;obtain ⟨t,rfl⟩:=ry;obtain ⟨its,r,pl,hz⟩:=I.list hq;obtain ⟨j,h1,h2,h3,h4,h5⟩:=xn he;obtain ⟨w,ew,rw'⟩:=r.get h2;have hl:=r.length;have hn:=lV;have fin:EP X pins σ Q w s:=⟨z,H,I,rw',q⟩;by_cases h0:0<=i
 . have hj:i.toNat=j:=by
     rw [seqIndex_of h0 h5] at h1;exact Option.some.inj h1
   exact wpAny_getItem_list pl.isList h0 (by omega) (by rw [hj];simpa using ew) fin
 . have hj:(i+(its.toArray.size:Int)).toNat=j:=by
     rw [seqIndex_neg (by omega) h4] at h1;rw [List.size_toArray,<- hl];exact Option.some.inj h1
   exact wpAny_getItem_list_neg pl.isList (by omega) (by rw [List.size_toArray] <;> omega) (by omega) (by rw [hj];simpa using ew) fin
end L2
set_option Elab.async false
set_option linter.all false
set_option maxRecDepth 100000
namespace Pb
open L2
section
variable {m:Int} {rs:List Road} {r:Int} {par:Int->Int} {dep:Int->Nat}
variable {held:Int->Int} {con:Int->Int->Int}
end
end Pb
set_option Elab.async false
set_option linter.all false
set_option maxRecDepth 100000
namespace Pb
open L2
section
variable {m:Int} {rs:List Road} {r:Int} {par:Int->Int} {dep:Int->Nat} {held:Int->Int}
end
section
open PySem
end
end Pb
set_option Elab.async false
set_option linter.all false
set_option maxRecDepth 100000
namespace L2
open PySem PySem.Spec PyProof.Rows
end L2
set_option Elab.async false
set_option linter.all false
set_option maxRecDepth 100000
namespace L2
open PySem PySem.Spec PyProof.Rows
def Nb (lo st:Int) (n:Nat):It:=⟨fun i _=>i<n,fun i H x H'=>H'=H/\x=.int (lo+i*st),fun i _=>n<=i⟩
def Kn (ta:TA):TI:=fun σ H R=>ta σ H fun vs H1=>∃ i j c:Int,vs=[.int i,.int j,.int c]/\(0<=i/\i<=1000000/\0<=j/\j<=1000000/\0<c/\c<=1000000)/\R (Nb i c (Builtin.Range.rangeSize i j c).toNat) H1
section
variable {X:Cx} {tg:Expr}
end
end L2
set_option Elab.async false
set_option linter.all false
set_option maxRecDepth 100000
namespace L2
open PySem PySem.Spec PyProof.Rows
def Lw (K:PySem.W.Frag) (c:Bool):R2:=fun x y H Q=>∃ p xs i v,x=.ref p/\y=.int i/\SqX K c H p xs/\atI xs i=some v/\Q v H
theorem Mv {X:Cx} (c:Bool):IxR X (Lw X.K c):=by
 cases c
 . exact bc
 . exact aq
theorem ixX {K:PySem.W.Frag} {c:Bool} {H:Hp} {p:Addr} {xs:List V} {i:Int} {v:V} {Q:VK} (h:SqX K c H p xs) (e:atI xs i=some v) (q:Q v H):Lw K c (.ref p) (.int i) H Q:=⟨p,xs,i,v,rfl,rfl,h,e,q⟩
theorem MX {K:PySem.W.Frag} {H:Hp} {p:Addr} {xs:List V} {i:Int} {v:V} {Q:VK} (h:SqT K H p xs) (e:atI xs i=some v) (q:Q v H):HY K (.ref p) (.int i) H Q:=⟨p,xs,i,v,rfl,rfl,h,e,q⟩
end L2
namespace Pb
open L2 PySem
section
variable {m:Int} {rs:List Road} {r:Int} {par:Int->Int} {dep:Int->Nat}
end
end Pb
set_option Elab.async false
set_option linter.all false
set_option maxRecDepth 100000
namespace L2
open PySem PySem.Spec PyProof.Rows
theorem zJ {P:Program} {w:World} {A:Around} {l:Addr} (c:Bool) {it:Addr} (hh:A.handled=none) (ne:l≠it) (its:Array Value):Draws P w A it [it,l] its.size (fun i v=>its[i]?=some v) (fun i h=>zAt l c it i h/\El l c h its) where
 live:=fun i h st=>let ⟨o,e,_⟩:=(dD l c P w).obj _ _ _ st.1;⟨o,e⟩
 frame:=fun i h h' st k=>⟨(dD l c P w).atK _ _ _ _ st.1 fun o e=>k it (by simp) o e,(dD l c P w).srcK _ _ _ st.2 fun o e=>k l (by simp) o e⟩
 item:=fun i s Q E hi st hq=>(dD l c P w).item A s it i its its[i] Q E st.1 st.2 (by simp [hi]) fun h' at' sb=>hq its[i] h' s.toks (by simp [hi]) ⟨at',(dD l c P w).srcK _ _ _ st.2 fun o e=>sb.extBut _ _ ne e⟩ sb
 done:=fun s Q E st hq=>(dD l c P w).fin A s it its.size its Q E hh st.1 st.2 (by simp) fun h' e eb he=>hq h' e eb he
section
variable {P:Program} {w:World} {A:Around} {E:Value->Shared->Prop} {s:Shared} {l:Addr} {ob:Obj} {src:Heap->Array Value->Prop} {at':Addr->Nat->Heap->Prop}
abbrev zy (n:Nat):Obj:={ cls:=.type "enumerate",data:=.fields #[.none,.bool false,.ref n,rawInt 0,.none,.none] }
theorem xE (S:∀ P w,SubF P w l ob src at') (xs:Array Value) :
   Meets (Builtin.«enumerate.__new__» ⟨[.type "enumerate",.ref l],[]⟩) (fun _ R s=>src s.heap xs/\R (.ok (.ret (.ref (s.heap.push ob).objs.size))) { s with heap:=(s.heap.push ob).push (zy s.heap.objs.size) }) :=
 .of_wp fun prog w A R s hyp=>by
   obtain ⟨hp,g,d,tk,os⟩:=s;obtain ⟨q1,r⟩:=hyp;have zsub:=sub_enumerate;have B1:src (Shared.heap ⟨hp,g,d,tk,os⟩) xs:=q1
   wp_walk using ((S prog w).start _ _ _ _ _ B1)
   refine wpAny_stack_any fun st=>?_;dsimp only;refine wpAny_pure ?_;have go:∀ b:Bool,b=true\/b=false:=fun b=>by cases b <;> simp
   split
   . rename_i c _ _ _ _ _
     rcases go (c == Value.type "enumerate") with z|z
     . rw [z]
       wp_walk using ((S prog w).start _ _ _ _ _ B1)
       exact ⟨_,rfl,r⟩
     . rw [z]
       wp_walk using ((S prog w).start _ _ _ _ _ B1)
       exact ⟨_,rfl,r⟩
   . wp_walk using ((S prog w).start _ _ _ _ _ B1)
     exact ⟨_,rfl,r⟩
theorem Fv (S:∀ P w,SubF P w l ob src at') {xs:Array Value} {Q:Value->Shared->Prop} (q1:src s.heap xs) (f1:ob.isFreed=false)
   (h:∀ h',IsEnum h' (s.heap.objs.size+1) s.heap.objs.size 0 .none->at' s.heap.objs.size 0 h'->(∀ c o,s.heap.get? c=some o->h'.get? c=some o)->Q (.ref (s.heap.objs.size+1)) { s with heap:=h' }) :
   wpAny (model P w) A (call (.type "enumerate") [.ref l]) Q E s:=by
 refine callType_new F.called_enumerate (by decide) (F.typeCall_enumerate_1 _) (F.newCall_enumerate_1 _) (fun obj=>F.args_object_init_2 obj _) F.entry_enumerate_new (xE S xs) ⟨q1,?_⟩;have n0:(s.heap.push ob).objs.size=s.heap.objs.size+1:=Heap.size_push ..;have c2:((s.heap.push ob).push (zy s.heap.objs.size)).get? (s.heap.push ob).objs.size=some (zy s.heap.objs.size):=Heap.get?_push_size _ rfl;have c1:((s.heap.push ob).push (zy s.heap.objs.size)).get? s.heap.objs.size=some ob:=Heap.get?_push_of_some _ (Heap.get?_push_size _ f1);show _/\_;rw [n0] at c2;rw [n0];exact ⟨⟨_,c2,rfl⟩,h _ c2 ((S P w).first _ _ c1) fun c o e=>Heap.get?_push_of_some _ (Heap.get?_push_of_some _ e)⟩
end
def Ite (K:PySem.W.Frag) (c:Bool) (a:Addr):It :=
 ⟨fun i H=>∃ xs x,SqX K c H a xs/\xs[i]?=some x,
  fun i H v H'=>∃ p x,H p=none/\v=.ref p/\H'=upd H p (.tup [.int i,x])/\∀ xs,SqX K c H a xs->xs[i]?=some x,
  fun i H=>∃ xs,SqX K c H a xs/\xs.length=i⟩
theorem Gf {P:Program} {w:World} {K:PySem.W.Frag} {elts:List Expr} {x1} {tpos:Pos} (c:Bool) (a e it:Addr) (ne:e≠it) (ae:a≠e) (ai:a≠it) :
   Turn P w K (.Tuple elts x1 tpos) (Ite K c a) [e,it] e (fun i h=>(∃ old,IsEnum h e it (i:Nat) old)/\zAt a c it i h) where
 mem:=by simp
 obj:=fun i h t b hb=>by
   obtain ⟨⟨old,t1⟩,t2⟩:=t;simp only [List.mem_cons,List.mem_nil_iff,or_false] at hb;rcases hb with rfl|rfl
   . exact ⟨_,t1,fun v z=>by cases z⟩
   . exact (dD a c P w).obj _ _ _ t2
 keep:=fun i h h' t k=>by
   obtain ⟨⟨old,t1⟩,t2⟩:=t;exact ⟨⟨old,k e (by simp) _ t1⟩,(dD a c P w).atK _ _ _ _ t2 fun o e=>k it (by simp) o e⟩
 item:=fun X e1 e2 e3 hc i pins s σ H E I f t g=>by
   subst e1 e2 e3;obtain ⟨⟨old,t1⟩,t2⟩:=t;obtain ⟨xs,x,s1,hx⟩:=g;obtain ⟨us,r1,q1⟩:=I.sqX s1;obtain ⟨xu,hxu,rx⟩:=r1.get hx;have hh:X.A.in1.handled=none:=I.ok.hd hc;have fz:∀ q∈[e,it],iT X pins H q:=f;have W:=WalksT.enumerateD (A:=X.A) (zJ (P:=X.prog) (w:=X.w) (A:=X.A.in1) (l:=a) c (it:=it) hh ai us.toArray) e ne (by simp;exact ⟨ne,ae.symm⟩) (by simp);have hil:i<us.toArray.size:=by
     have:=(List.getElem?_eq_some_iff.mp hxu).1
     simpa using this
   refine W.item i s _ _ hil ⟨⟨old,t1⟩,t2,q1⟩ fun T vals h' tk pt le tup mid keep=>?_;refine ⟨_,rfl,W.go elts x1 tpos i T { s with heap:=h',toks:=tk } _ _ mid fun h2 st2 keep2=>?_⟩;obtain ⟨tt,xv,px,ev⟩:=pt;have exv:xv=xu:=by
     have h1:us[i]?=some xv:=(by simpa using px);rw [hxu] at h1;cases h1
     rfl
   subst exv;have Tw:T ∉ [e,it]:=W.apart i T h' mid;have kp:∀ q o,q ∉ [e,it]->s.heap.get? q=some o->h2.get? q=some o:=fun q o hq eo=>keep2 q o hq (keep q o hq eo);obtain ⟨ot,ht,hct,nt,hdt⟩:=tup;have new:h2.get? T=some ot:=keep2 T ot Tw ht;have Hn:∀ q u,H q=some u->q ∉ [e,it]:=fun q u e hq=>by rw [(fz q hq).1] at e;cases e
   have nH:H T=none:=I.hok.fresh le;have Tb:∀ q o,s.heap.get? q=some o->q≠T:=fun q o eo=>Nat.ne_of_lt (Nat.lt_of_lt_of_le (Heap.lt_size eo) le);have I2:Inv X pins σ H { s with heap:=h2,toks:=tk }:=by
     refine I.step (g':=s.gens) (d':=s.drawn) (t':=tk) (ch:=[e,it]) (fun q hq=>⟨(fz q hq).2.2.2.1,(fz q hq).2.1,(fz q hq).2.2.2.2.1,(fz q hq).2.2.2.2.2⟩) (fun q o _ _ hq e _=>kp q o hq e) (fun q o _ _ hq e _=>⟨o.slots,kp q o hq e⟩) (fun _ _ _ _ n=>n)
       (fun q o hq e=>⟨o,kp q o hq e⟩) (fun _ _ e=>e) (fun _ _ _ e=>e) (fun q ps e=>⟨#[],by rw [e];simp⟩) (fun m hm=>?_) (fun q u e=>?_) I.bare
     . obtain ⟨o,es,ep,ho,r⟩:=hm;exact ⟨o,es,ep,kp _ o (fun hq=>(fz _ hq).2.1 rfl) ho,r⟩
     . refine (I.hok q u e).stay (fun q' v hq' e'=>kp q' v ?_ e') (fun _ e'=>e') fun _ _ e'=>e';rcases hq' with rfl|hq'
       . exact Hn _ u e
       . exact Hn _ _ hq'
   have I3:Inv X pins σ (upd H T (.tup [.int i,x])) { s with heap:=h2,toks:=tk }:=by
     refine ⟨I2.ok,I2.os,I2.bare,?_,I2.loc,I2.cell,?_,fun n c e=>?_,fun p hp=>?_,fun q u e=>?_,I2.len⟩
     . refine ⟨I2.base.keep,I2.base.slot,fun q o e n hx=>?_,I2.base.there,fun q xs e=>?_,fun q o u e=>?_,fun q ps e=>?_⟩
       . have lt:q<X.s₀.heap.objs.size:=Heap.lt_size e;rw [ao (Nat.ne_of_lt (Nat.lt_of_lt_of_le lt (Nat.le_trans I.sz le)))];exact I2.base.free q o e n hx
       . have e':=I2.base.tups q xs e;rw [ao (fun z=>by rw [z,nH] at e';cases e')];exact e'
       . have e':=I2.base.frzs q o u e;rw [ao (fun z=>by rw [z,nH] at e';cases e')];exact e'
       . obtain ⟨more,e'⟩:=I2.base.tbls q ps e;exact ⟨more,by rw [ao (fun z=>by rw [z,nH] at e';cases e')];exact e'⟩
     . rw [ao (Nat.ne_of_lt (Nat.lt_of_lt_of_le I.lt le))];exact I2.free
     . obtain ⟨vv,o,ho,_⟩:=I.cell n c e;rw [ao (Tb _ _ ho)];exact I2.freeC n c e
     . obtain ⟨k1,k2,k3⟩:=I.pin p hp;rw [ao (Tb _ _ k1)];exact I2.pin p hp
     . by_cases hq:q=T
       . subst hq;rw [ak] at e;cases e;refine ⟨by show 2<=sizeLine;decide,[.int (i:Nat) tt,xv],.cons ⟨tt,rfl⟩ (.cons rx .nil),ot,new,hct,nt,?_⟩;rw [hdt,ev]
       . rw [ao hq] at e;refine (I2.hok q u e).stay (fun _ _ _ e'=>e') (fun q' e'=>?_) fun q' xs e'=>?_
         . rw [ao (fun z=>by rw [z,nH] at e';cases e')];exact e'
         . rw [ao (fun z=>by rw [z,nH] at e';cases e')];exact e'
   refine ⟨.ref T,_,I3,rfl,⟨T,x,nH,rfl,rfl,fun xs' q=>?_⟩,⟨st2.1,st2.2.1⟩,fun q hq=>?_⟩
   . rw [<- I.sqX_inj s1 q];exact hx
   . have hlt:q≠T:=by
       simp only [List.mem_cons,List.mem_nil_iff,or_false] at hq;rcases hq with rfl|rfl
       . exact Tb _ _ t1
       . exact let ⟨o,e,_⟩:=(dD a c X.prog X.w).obj _ _ _ t2;Tb _ _ e
     rw [ao hlt];exact (fz q hq).1
 done:=fun X e1 e2 e3 hc i pins s σ H E I f t g=>by
   subst e1 e2 e3;obtain ⟨⟨old,t1⟩,t2⟩:=t;obtain ⟨xs,s1,hend⟩:=g;obtain ⟨us,r1,q1⟩:=I.sqX s1;have hh:X.A.in1.handled=none:=I.ok.hd hc;have fz:∀ q∈[e,it],iT X pins H q:=f;have W:=WalksT.enumerateD (A:=X.A) (zJ (P:=X.prog) (w:=X.w) (A:=X.A.in1) (l:=a) c (it:=it) hh ai us.toArray) e ne (by simp;exact ⟨ne,ae.symm⟩) (by simp);have ei:i=us.toArray.size:=by
     have:=r1.length;simp;omega
   subst ei;refine W.done s _ _ ⟨⟨old,t1⟩,t2,q1⟩ fun h' tk keep=>⟨rfl,?_⟩;have kp:∀ q o,q ∉ [e,it]->s.heap.get? q=some o->h'.get? q=some o:=fun q o hq e=>keep q o hq e;have Hn:∀ q u,H q=some u->q ∉ [e,it]:=fun q u e hq=>by rw [(fz q hq).1] at e;cases e
   refine I.step (g':=s.gens) (d':=s.drawn) (t':=tk) (ch:=[e,it]) (fun q hq=>⟨(fz q hq).2.2.2.1,(fz q hq).2.1,(fz q hq).2.2.2.2.1,(fz q hq).2.2.2.2.2⟩) (fun q o _ _ hq e _=>kp q o hq e) (fun q o _ _ hq e _=>⟨o.slots,kp q o hq e⟩) (fun _ _ _ _ n=>n)
     (fun q o hq e=>⟨o,kp q o hq e⟩) (fun _ _ e=>e) (fun _ _ _ e=>e) (fun q ps e=>⟨#[],by rw [e];simp⟩) (fun m hm=>?_) (fun q u e=>?_) I.bare
   . obtain ⟨o,es,ep,ho,r⟩:=hm;exact ⟨o,es,ep,kp _ o (fun hq=>(fz _ hq).2.1 rfl) ho,r⟩
   . refine (I.hok q u e).stay (fun q' v hq' e'=>kp q' v ?_ e') (fun _ e'=>e') fun _ _ e'=>e';rcases hq' with rfl|hq'
     . exact Hn _ u e
     . exact Hn _ _ hq'
 self:=fun A i s Q E t q=>by
   obtain ⟨⟨old,t1⟩,t2⟩:=t;exact wpAny_pyIter_enum t1 q
def Et (K:PySem.W.Frag) (c:Bool) (tl:TE):TI:=fun σ H R=>tl σ H fun x H1=>∃ a,x=.ref a/\(∃ xs,SqX K c H1 a xs)/\R (Ite K c a) H1
section
variable {X:Cx} {e:Expr} {te:TE} {p2 pos:Pos}
theorem KC {elts:List Expr} {x1} {tpos:Pos} (c:Bool) (hg:Gl X "enumerate") (hm:X.mg "enumerate"=none) (he:PE X e te) (h2:starEach [e] X.env=[(false,eval e X.env)]:=by rfl):PI X (.Tuple elts x1 tpos) (.Call (.Name "enumerate" p2) [e] [] pos) (Et X.K c te):=by
 intro pins s σ H R I h;refine Call_ (ms I hg hm boot_enumerate (PyProof.Rows.callWith_type1 ?_ h2 rfl));rw [h2];show wpAny _ _ (spliced ((false,eval e X.env)::backTo pos [])) _ _ s;refine Calls.spliced_cons (bh (he pins s σ H _ I h) fun u s1 x H1 I1 r1 q1=>Calls.spliced_nil ?_);obtain ⟨a,ex,⟨xs,sa⟩,q⟩:=q1;subst ex;cases r1;obtain ⟨us,r1,q1⟩:=I1.sqX sa;obtain ⟨oa,hoa⟩:=lK a c _ _ q1;have la:=Heap.lt_size hoa;refine Fv (dD a c) q1 (sO a c) fun h' w1 w2 w3=>?_;refine wpAny_pyIter_enum w1 ?_;refine ⟨_,[s1.heap.objs.size+1,s1.heap.objs.size],_,_,H1,rfl,I1.kept (t':=s1.toks) w3,Gf c a _ _ (Nat.succ_ne_self _) (Nat.ne_of_lt (Nat.lt_succ_of_lt la)) (Nat.ne_of_lt la),⟨⟨_,w1⟩,w2⟩,fun b hb=>?_,q⟩;have hle:s1.heap.objs.size<=b:=by
   simp only [List.mem_cons,List.mem_nil_iff,or_false] at hb;rcases hb with rfl|rfl
   . exact Nat.le_succ _
   . exact Nat.le_refl _
 exact I1.fpOk hle (I1.hok.fresh hle)
end
theorem Ja {K:PySem.W.Frag} {c:Bool} {a:Addr} {xs:List V} {g:TG} {tb:TS} {D:Ends} {σ:St} {H:Hp} (Pv:Nat->St->Hp->Prop) (h0:Pv 0 σ H) (hl:∀ i σ H,Pv i σ H->SqX K c H a xs)
   (hs:∀ (i:Nat) (x:V) (σ:St) (H:Hp) (p:Addr) (N:St->Hp->Prop),(∀ σ' H',Pv (i+1) σ' H'->N σ' H')->xs[i]?=some x->Pv i σ H->H p=none->g (.ref p) σ (upd H p (.tup [.int i,x])) fun σ2 H2=>tb { D with nx:=N,ct:=N,bk:=D.nx } σ2 H2)
   (hd:∀ σ H,Pv xs.length σ H->D.nx σ H):nu (Ite K c a) D g tb σ H:=by
 refine ⟨fun i m σ H=>m=xs.length - i/\i<=xs.length/\Pv i σ H,⟨_,rfl,Nat.zero_le _,h0⟩,?_⟩;rintro i m σ H ⟨rfl,hi,p⟩;have q1:=hl i σ H p;by_cases hlt:i<xs.length
 . refine .inr ⟨⟨xs,xs[i],q1,List.getElem?_eq_getElem hlt⟩,fun σ' H'=>∃ m',m'<xs.length - i/\(m'=xs.length - (i+1)/\i+1<=xs.length/\Pv (i+1) σ' H'),fun σ' H' z=>z,fun x H' y=>?_⟩;obtain ⟨p',x',hp,rfl,rfl,e1⟩:=y;exact hs i x' σ H p' _ (fun σ' H' p'=>⟨xs.length - (i+1),by omega,rfl,hlt,p'⟩) (e1 xs q1) p hp
 . have e:i=xs.length:=by omega
   subst e;exact .inl ⟨⟨xs,q1,rfl⟩,hd σ H p⟩
end L2
set_option Elab.async false
set_option linter.all false
set_option maxRecDepth 100000
namespace Pb
open L2 PySem
abbrev Stp:=Int × Int × Int
def vSt (s:Stp):List V:=[.int s.1,.int s.2.1,.int s.2.2]
abbrev StepsAt (H:Hp):List Addr->List Stp->Prop:=Paired fun q s=>H q=some (.tup (vSt s))
theorem StepsAt.same {H H':Hp} {qs:List Addr} {ss:List Stp} (e:Same H H') (h:StepsAt H qs ss):StepsAt H' qs ss:=Paired.imp' (fun q v x=>e q _ x) h
theorem StepsAt.get {H:Hp}:∀ {ps:List Addr} {vs:List Stp} {i:Nat} {x:V},StepsAt H ps vs->(ps.map V.ref)[i]?=some x->∃ p v,x=.ref p/\ps[i]?=some p/\vs[i]?=some v/\H p=some (.tup (vSt v))
 | _,_,i,x,.nil,e=>by simp at e
 | _,_,0,x,.cons (a:=p) (b:=r) h hs,e=>⟨p,r,by simpa using e.symm,by simp,by simp,h⟩
 | a::l1,_,i+1,x,.cons h hs,e=>by
   have e':(List.map V.ref l1)[i]?=some x:=by simpa using e
   obtain ⟨p,r,h1,h2,h3,h4⟩:=StepsAt.get hs e';exact ⟨p,r,h1,by simpa using h2,by simpa using h3,h4⟩
theorem Da {α β:Type} {R:α->β->Prop} {a:α} {b:β} (h:R a b):∀ {l₁:List α} {l₂:List β},Paired R l₁ l₂->Paired R (l₁++[a]) (l₂++[b])
 | _,_,.nil=>.cons h .nil
 | _,_,.cons x xs=>.cons x (Da h xs)
theorem BF {α β:Type} {R:α->β->Prop}:∀ {ps:List α} {vs:List β} {i:Nat} {x:α},Paired R ps vs->ps[i]?=some x->∃ v,vs[i]?=some v/\R x v
 | _,_,i,x,.nil,e=>by simp at e
 | _,_,0,x,.cons (a:=p) (b:=r) h hs,e=>by
   have:p=x:=by simpa using e
   subst this;exact ⟨r,by simp,h⟩
 | a::l1,_,i+1,x,.cons h hs,e=>by
   have e':l1[i]?=some x:=by simpa using e
   obtain ⟨v,h1,h2⟩:=BF hs e';exact ⟨v,by simpa using h1,h2⟩
abbrev Fi (H:Hp):List Addr->List (List Int)->Prop:=Paired fun q xs=>H q=some (.tup (xs.map V.int))
def dh (rs:List Road) (a b:Int):Int:=(bO rs a b).getD 1
def ig (rs:List Road) (xs:List Int) (s:Stp):List Int :=
 (xs.set s.1.toNat (xs.getD s.1.toNat 0 - s.2.2*dh rs s.1 s.2.1)).set s.2.1.toNat ((xs.set s.1.toNat (xs.getD s.1.toNat 0 - s.2.2*dh rs s.1 s.2.1)).getD s.2.1.toNat 0+s.2.2)
theorem yo (rs:List Road) (xs:List Int) (s:Stp):(ig rs xs s).length=xs.length:=by unfold ig;rw [List.length_set,List.length_set]
def jp (m:Int) (rs:List Road) (s:Stp):Bool:=decide (0<=s.1) && decide (s.1<m) && decide (s.2.1∈l9 m rs s.1) && decide (1<=s.2.2)
def tT (m:Int) (rs:List Road) (xs:List Int) (s:Stp):Bool:=jp m rs s && decide (s.2.2*dh rs s.1 s.2.1<=xs.getD s.1.toNat 0)
def jb (rs:List Road) (xs:List Int) (ss:List Stp) (i:Nat):List Int:=(ss.take i).foldl (ig rs) xs
def m7 (rs:List Road) (xs:List Int) (ss:List Stp):List (List Int):=(List.range (ss.length+1)).map (jb rs xs ss)
def BQ (m:Int) (rs:List Road) (xs:List Int) (ss:List Stp):Prop:=∀ i s,ss[i]?=some s->tT m rs (jb rs xs ss i) s=true
theorem J6 (rs:List Road) (xs:List Int) (ss:List Stp) (i:Nat):(jb rs xs ss i).length=xs.length:=by
 unfold jb;have:∀ (l:List Stp) (ys:List Int),(l.foldl (ig rs) ys).length=ys.length:=by
   intro l
   induction l with
   | nil=>intro ys;rfl
   | cons s l ih=>intro ys;rw [List.foldl_cons,ih,yo]
 exact this _ _
theorem FV {rs:List Road} {xs:List Int} {ss:List Stp} {i:Nat} {s:Stp} (h:ss[i]?=some s):jb rs xs ss (i+1)=ig rs (jb rs xs ss i) s:=by
 unfold jb;rw [List.take_succ,h,List.foldl_append]
 rfl
theorem tp (rs:List Road) (xs:List Int) (ss:List Stp):(m7 rs xs ss).length=ss.length+1:=by unfold m7;rw [List.length_map,List.length_range]
theorem nj {rs:List Road} {xs:List Int} {ss:List Stp} {i:Nat} (h:i<=ss.length):(m7 rs xs ss)[i]?=some (jb rs xs ss i):=by
 unfold m7;rw [List.getElem?_map,List.getElem?_range (by omega)]
 rfl
theorem F7 (rs:List Road) (xs:List Int) (ss:List Stp):jb rs xs ss 0=xs:=by unfold jb;rw [List.take_zero];rfl
theorem qJ {m:Int} {rs:List Road} {s:Stp} (h:jp m rs s=true):(0<=s.1/\s.1<m)/\s.2.1∈l9 m rs s.1/\1<=s.2.2:=by
 unfold jp at h;rw [Bool.and_eq_true,Bool.and_eq_true,Bool.and_eq_true] at h;exact ⟨⟨of_decide_eq_true h.1.1.1,of_decide_eq_true h.1.1.2⟩,of_decide_eq_true h.1.2,of_decide_eq_true h.2⟩
theorem zN {m:Int} {rs:List Road} (g:Good m rs) {a b:Int} (h:Adj rs a b):∃ k,bO rs a b=some k/\2<=k/\k<=1000000:=by
 obtain ⟨x,hx,j⟩:=h;obtain ⟨i,hi⟩:=List.getElem?_of_mem hx;have ok:=g.ok x hx;have jj:tI x a b:=j;rw [Gp g hi jj];unfold dX;by_cases c:x.a=a/\x.b=b
 . rw [if_pos c];exact ⟨_,rfl,ok.t0,ok.t1⟩
 . rw [if_neg c];have c2:x.a=b/\x.b=a:=by
     rcases jj with w|w
     . exact absurd w c
     . exact ⟨w.2,w.1⟩
   rw [if_pos c2];exact ⟨_,rfl,ok.u0,ok.u1⟩
theorem yp {m:Int} {rs:List Road} (g:Good m rs) {s:Stp} (h:jp m rs s=true):∃ k,bO rs s.1 s.2.1=some k/\dh rs s.1 s.2.1=k/\(2<=k/\k<=1000000)/\(0<=s.2.1/\s.2.1<m):=by
 obtain ⟨h1,h2,h3⟩:=qJ h;have ad:=(uE g).mp h2;obtain ⟨k,e,r⟩:=zN g ad;exact ⟨k,e,by unfold dh;rw [e];rfl,r,(g.adj ad).2.1⟩
end Pb
namespace L2
open PySem PySem.Spec PyProof.Rows
def Kp (i j k:Nat) (ta:TA):TS:=fun D σ H=>ta σ H fun vs H1=>∃ v w z,vs=[v,w,z]/\D.nx (((σ.set i (some v)).set j (some w)).set k (some z)) H1
end L2
set_option Elab.async false
set_option linter.all false
set_option maxRecDepth 100000
namespace Pb
open L2
section
variable {m:Int} {rs:List Road} {r:Int} {par:Int->Int} {dep:Int->Nat} {held held':Int->Int} {con:Int->Int->Int}
end
end Pb
set_option Elab.async false
set_option linter.all false
set_option maxRecDepth 100000
namespace L2
open PySem PySem.Spec PyProof.Rows
end L2
namespace Pb
open L2 PySem
end Pb
set_option Elab.async false
set_option linter.all false
set_option maxRecDepth 100000
namespace Pb
open L2 PySem
section
variable {m:Int} {rs:List Road}
end
def AtX (c:Bool) (H:Hp) (a:Addr) (xs:List V):Prop:=H a=some (if c then .lst xs else .tup xs)
theorem AtX.sq {K:PySem.W.Frag} {c:Bool} {H:Hp} {a:Addr} {xs:List V} (h:AtX c H a xs):SqX K c H a xs:=by
 cases c
 . exact SqT.of h
 . exact SqL.of h
end Pb
set_option Elab.async false
set_option linter.all false
set_option maxRecDepth 100000
namespace L2
open PySem PySem.Spec PyProof.Rows
section
variable {X:Cx} {i o:Expr} {ty td:TE}
def Ke (ty td:TE):TE:=fun σ H Q=>ty σ H fun y H1=>td σ H1 fun x H2=>∃ a,x=.ref a/\((∃ o,DGet H2 a y o/\Q (.bl o.isSome) H2)\/(y=.non/\(∃ kvs,H2 a=some (.dK kvs))/\Q (.bl false) H2))
end
end L2
set_option Elab.async false
set_option linter.all false
set_option maxRecDepth 100000
namespace Pb
open L2 PySem
section
variable {m:Int} {rs:List Road} {r b:Int} {par:Int->Int} {dep:Int->Nat}
end
end Pb
namespace L2
theorem cj {A B:TS} {D:Ends} {σ:St} {H:Hp} (h:∀ N:St->Hp->Prop,(∀ σ' H',B D σ' H'->N σ' H')->A { D with nx:=N } σ H):D9 A B D σ H:=h (B D) fun _ _ z=>z
end L2
set_option Elab.async false
set_option linter.all false
set_option maxRecDepth 100000
namespace L2
open PySem
theorem EX {K:PySem.W.Frag} {a:Addr} {xs:List V} {g:TG} {tb:TS} {D:Ends} {σ:St} {H:Hp} (Pv:Nat->St->Hp->Prop) (h0:Pv 0 σ H) (hl:∀ i σ H,i<=xs.length->Pv i σ H->SqL K H a xs)
   (hs:∀ (i:Nat) (x:V) (σ:St) (H:Hp) (N B:St->Hp->Prop),(∀ σ H,(g x σ H fun σ2 H2=>tb { D with nx:=N,ct:=N,bk:=D.nx } σ2 H2)->B σ H)->(∀ σ' H',Pv (i+1) σ' H'->N σ' H')->xs[i]?=some x->Pv i σ H->B σ H)
   (hd:∀ (B:St->Hp->Prop) σ H,(∀ σ H,D.nx σ H->B σ H)->Pv xs.length σ H->B σ H):nu (Itl K a) D g tb σ H :=
 r6 Pv h0 hl (fun i x σ H N hN hx p=>hs i x σ H N (fun σ H=>g x σ H fun σ2 H2=>tb { D with nx:=N,ct:=N,bk:=D.nx } σ2 H2) (fun _ _ z=>z) hN hx p) fun σ H p=>hd (fun σ H=>D.nx σ H) σ H (fun _ _ z=>z) p
theorem EU {lo:Int} {n:Nat} {g:TG} {tb:TS} {D:Ends} {σ:St} {H:Hp} (Pv:Nat->St->Hp->Prop) (h0:Pv 0 σ H)
   (hs:∀ (i:Nat) (σ:St) (H:Hp) (N B:St->Hp->Prop),(∀ σ H,(g (.int (lo+i)) σ H fun σ2 H2=>tb { D with nx:=N,ct:=N,bk:=D.nx } σ2 H2)->B σ H)->(∀ σ' H',Pv (i+1) σ' H'->N σ' H')->i<n->Pv i σ H->B σ H)
   (hd:∀ (B:St->Hp->Prop) σ H,(∀ σ H,D.nx σ H->B σ H)->Pv n σ H->B σ H):nu (Itr lo n) D g tb σ H :=
 pR Pv h0 (fun i σ H N hN hi p=>hs i σ H N (fun σ H=>g (.int (lo+i)) σ H fun σ2 H2=>tb { D with nx:=N,ct:=N,bk:=D.nx } σ2 H2) (fun _ _ z=>z) hN hi p) fun σ H p=>hd (fun σ H=>D.nx σ H) σ H (fun _ _ z=>z) p
theorem K1 {c:TT} {tb:TS} {D:Ends} {σ:St} {H:Hp} (W:Nat->St->Hp->Prop) (n0:Nat) (h0:W n0 σ H)
   (hs:∀ (n:Nat) (σ:St) (H:Hp) (N:St->Hp->Prop) (B:Nat->St->Hp->Prop),(∀ n σ H,(c σ H fun b H1=>if b=true then ∃ N:St->Hp->Prop,(∀ σ' H',N σ' H'->∃ m',m'<n/\W m' σ' H')/\tb { D with nx:=N,ct:=N,bk:=D.nx } σ H1 else D.nx σ H1)->B n σ H)->(∀ n' σ' H',n'<n->W n' σ' H'->N σ' H')->(∀ σ' H',N σ' H'->∃ m',m'<n/\W m' σ' H')->W n σ H->B n σ H):BM c tb D σ H :=
 Dx W n0 h0 fun n σ H N hN hN2 w=>hs n σ H N (fun n σ H=>c σ H fun b H1=>if b=true then ∃ N:St->Hp->Prop,(∀ σ' H',N σ' H'->∃ m',m'<n/\W m' σ' H')/\tb { D with nx:=N,ct:=N,bk:=D.nx } σ H1 else D.nx σ H1) (fun _ _ _ z=>z) hN hN2 w
theorem ex6 {α0:Sort _} {α1:Sort _} {α2:Sort _} {α3:Sort _} {α4:Sort _} {α5:Sort _} {P:α0->α1->α2->α3->α4->α5->Prop} (a0:α0) (a1:α1) (a2:α2) (a3:α3) (a4:α4) (a5:α5) (h:P a0 a1 a2 a3 a4 a5):∃ a0 a1 a2 a3 a4 a5,P a0 a1 a2 a3 a4 a5:=⟨a0,a1,a2,a3,a4,a5,h⟩
theorem ex7 {α0:Sort _} {α1:Sort _} {α2:Sort _} {α3:Sort _} {α4:Sort _} {α5:Sort _} {α6:Sort _} {P:α0->α1->α2->α3->α4->α5->α6->Prop} (a0:α0) (a1:α1) (a2:α2) (a3:α3) (a4:α4) (a5:α5) (a6:α6) (h:P a0 a1 a2 a3 a4 a5 a6):∃ a0 a1 a2 a3 a4 a5 a6,P a0 a1 a2 a3 a4 a5 a6:=⟨a0,a1,a2,a3,a4,a5,a6,h⟩
theorem ex8 {α0:Sort _} {α1:Sort _} {α2:Sort _} {α3:Sort _} {α4:Sort _} {α5:Sort _} {α6:Sort _} {α7:Sort _} {P:α0->α1->α2->α3->α4->α5->α6->α7->Prop} (a0:α0) (a1:α1) (a2:α2) (a3:α3) (a4:α4) (a5:α5) (a6:α6) (a7:α7) (h:P a0 a1 a2 a3 a4 a5 a6 a7):∃ a0 a1 a2 a3 a4 a5 a6 a7,P a0 a1 a2 a3 a4 a5 a6 a7:=⟨a0,a1,a2,a3,a4,a5,a6,a7,h⟩
theorem MZ {α0:Sort _} {α1:Sort _} {α2:Sort _} {α3:Sort _} {α4:Sort _} {α5:Sort _} {α6:Sort _} {α7:Sort _} {α8:Sort _} {α9:Sort _} {α10:Sort _} {α11:Sort _} {P:α0->α1->α2->α3->α4->α5->α6->α7->α8->α9->α10->α11->Prop} (a0:α0) (a1:α1) (a2:α2) (a3:α3) (a4:α4) (a5:α5) (a6:α6) (a7:α7) (a8:α8) (a9:α9) (a10:α10) (a11:α11) (h:P a0 a1 a2 a3 a4 a5 a6 a7 a8 a9 a10 a11):∃ a0 a1 a2 a3 a4 a5 a6 a7 a8 a9 a10 a11,P a0 a1 a2 a3 a4 a5 a6 a7 a8 a9 a10 a11:=⟨a0,a1,a2,a3,a4,a5,a6,a7,a8,a9,a10,a11,h⟩
theorem an4 {p0 p1 p2 p3:Prop} (h0:p0) (h1:p1) (h2:p2) (h3:p3):p0/\p1/\p2/\p3:=⟨h0,h1,h2,h3⟩
theorem an5 {p0 p1 p2 p3 p4:Prop} (h0:p0) (h1:p1) (h2:p2) (h3:p3) (h4:p4):p0/\p1/\p2/\p3/\p4:=⟨h0,h1,h2,h3,h4⟩
theorem an6 {p0 p1 p2 p3 p4 p5:Prop} (h0:p0) (h1:p1) (h2:p2) (h3:p3) (h4:p4) (h5:p5):p0/\p1/\p2/\p3/\p4/\p5:=⟨h0,h1,h2,h3,h4,h5⟩
theorem an9 {p0 p1 p2 p3 p4 p5 p6 p7 p8:Prop} (h0:p0) (h1:p1) (h2:p2) (h3:p3) (h4:p4) (h5:p5) (h6:p6) (h7:p7) (h8:p8):p0/\p1/\p2/\p3/\p4/\p5/\p6/\p7/\p8:=⟨h0,h1,h2,h3,h4,h5,h6,h7,h8⟩
end L2
set_option Elab.async false
set_option linter.all false
set_option maxRecDepth 100000
namespace Pb
open L2 PySem
section
variable {m:Int} {rs:List Road} {r:Int} {par:Int->Int} {dep:Int->Nat}
variable {para parb parc:Int->Int} {depa depb depc:Int->Nat} {a b c:Int}
end
section
variable {m:Int} {rs:List Road} {r b:Int} {par:Int->Int} {dep:Int->Nat}
end
end Pb
set_option Elab.async false
set_option linter.all false
set_option maxRecDepth 100000
namespace Pb
open L2 PySem
section
variable {m:Int} {rs:List Road} {r b:Int} {par:Int->Int} {dep:Int->Nat}
end
end Pb
set_option Elab.async false
set_option linter.all false
namespace L2
open PySem
end L2
namespace Pb
open PySem L2
end Pb
set_option Elab.async false
set_option linter.all false
set_option maxRecDepth 100000
set_option exponentiation.threshold 5000
namespace Pb
open L2 PySem
section
variable {m:Int} {rs:List Road} {r:Int} {par:Int->Int} {dep:Int->Nat}
variable {op:Int->Int->Int} {held:Int->Int} {con:Int->Int->Int}
end
end Pb
set_option Elab.async false
set_option linter.all false
set_option maxRecDepth 100000
namespace L2
open PySem PySem.Spec PyProof.Rows
section
variable {X:Cx}
end
end L2
namespace Pb
end Pb
set_option Elab.async false
set_option linter.all false
set_option maxRecDepth 100000
namespace L2
open PySem PySem.Spec PyProof.Rows
section
variable {X:Cx}
end
end L2
set_option Elab.async false
set_option linter.all false
set_option maxRecDepth 100000
namespace L2
open PySem PySem.Spec PyProof.Rows
section
variable {P:Program} {w:World} {A:Around} {R:Result->Shared->Prop} {I S:Addr} {fp wr:List Addr} {n:Nat} {Pv:Nat->Value->Prop} {St:Nat->Heap->Prop} {bt:Nat->Nat->Bool} {kw:List (Str × Value)}
end
section
variable {X:Cx} {x:Str} {p pos kpos:Pos} {e de:Expr} {t tk:TA}
def Kk (K:PySem.W.Frag) (t tk:TA):TE:=fun σ H Q=>t σ H fun vs H1=>tk σ H1 fun zs H2=>∃ (q:Addr) (ns:List Int) (d:V),vs=[.ref q]/\zs=[d]/\SqL K H2 q (ns.map V.int)/\ns≠[]/\∀ y,y∈ns->(∀ x∈ns,y<=x)->Q (.int y) H2
def Kc (t:TE):TE:=fun σ H Q=>t σ H fun x H1=>∃ b,x=.bl b/\Q (.bl (b != true)) H1
end
end L2
set_option Elab.async false
set_option linter.all false
set_option maxRecDepth 100000
namespace Pb
open L2 PySem
section
variable {m:Int} {rs:List Road} {r:Int} {par:Int->Int} {dep:Int->Nat}
variable {ch:Int->Option Int} {w:Int} {cn:Int->Int}
end
end Pb
set_option Elab.async false
set_option linter.all false
set_option maxRecDepth 100000
namespace L2
open PySem PySem.Spec PyProof.Rows PySem.W
section
variable {n:Nat}
variable (hn:0<n)
include hn
end
section
variable {prog:Program} {w:World} {A:Around} {E:Value->Shared->Prop} {s:Shared}
end
end L2
set_option Elab.async false
set_option linter.all false
set_option maxRecDepth 100000
namespace L2
open PySem PySem.Spec PyProof.Rows PySem.W Pb
section
variable {prog:Program} {w:World} {A:Around} {E:Value->Shared->Prop} {s:Shared} {it d:Addr} {i ep:Nat} {es:Array DictEntry}
end
section
variable {prog:Program} {w:World} {A:Around} {E:Value->Shared->Prop} {s:Shared} {fin:Bool} {C:Bool->Shared->Prop}
end
section
variable {prog:Program} {w:World} {A:Around} {E:Value->Shared->Prop} {s:Shared}
end
section
variable {X:Cx}
end
end L2
set_option Elab.async false
set_option linter.all false
set_option maxRecDepth 100000
namespace L2
end L2
namespace Pb
open L2 PySem
section
variable {m:Int} {rs:List Road} {r:Int} {par:Int->Int} {dep:Int->Nat}
end
section
end
end Pb
set_option Elab.async false
set_option linter.all false
set_option maxRecDepth 100000
namespace L2
open PySem PySem.Spec PyProof.Rows
def Gr (tk tv:TE):TE:=fun σ H Q=>∀ p,H p=none->pe [(tk,tv)] σ (upd H p (.dT [])) fun ps H2=>H2 p=some (.dT [])/\∃ (k:List Key) (b:Addr) (y:V),ps=[(.ref b,y)]/\H2 b=some (.tup (k.map kV))/\Q (.ref p) (upd H2 p (.dT [(k,y)]))
end L2
set_option Elab.async false
set_option linter.all false
set_option maxRecDepth 100000
namespace Pb
open L2 PySem
end Pb
namespace Pb
open L2 PySem
section
variable {m:Int} {rs:List Road} {xs:List Int}
variable {r:Int} {par:Int->Int} {dep:Int->Nat}
end
end Pb
set_option Elab.async false
set_option linter.all false
set_option maxRecDepth 100000
namespace L2
open PySem PySem.Spec PyProof.Rows Pb
section
variable {X:Cx}
end
end L2
set_option Elab.async false
set_option linter.all false
set_option maxRecDepth 100000
namespace L2
open PySem PySem.Spec PyProof.Rows
end L2
namespace Pb
end Pb
namespace L2
open PySem Pb
end L2
namespace L2
open PySem
end L2
namespace L2
open PySem
end L2
namespace L2
open PySem PySem.Spec PyProof.Rows Pb
end L2
namespace L2
open PySem
end L2
set_option Elab.async false
set_option linter.all false
set_option maxRecDepth 100000
namespace Pb
open L2 PySem
section
variable {m:Int} {rs:List Road} {r:Int} {par:Int->Int} {dep:Int->Nat}
end
section
variable {m:Int} {rs:List Road} {xs:List Int}
end
end Pb
set_option Elab.async false
set_option linter.all false
set_option maxRecDepth 100000
namespace L2
open PySem PySem.Spec PyProof.Rows PySem.W Pb
section
variable {X:Cx} {pins:List (Addr × Obj)} {σ:St} {H:Hp} {s:Shared}
end
def Itd (d:Addr) (o:Obj) (kvs:List (List Key × V)):It :=
 ⟨fun i H=>H d=some (.frz o (.dT kvs))/\i<kvs.length,fun i H x H'=>H'=H/\∃ (q:Addr) (k:List Key) (v:V),x=.ref q/\kvs[i]?=some (k,v)/\H q=some (.tup (k.map kV)),fun i H=>H d=some (.frz o (.dT kvs))/\i=kvs.length⟩
def Kg (tl:TE) (g:TG) (tb:TS):TS:=fun D σ H=>tl σ H fun x H1=>∃ (d:Addr) (kvs:List (List Key × V)),x=.ref d/\H1 d=some (.dT kvs) /\
 ∀ o,nu (Itd d o kvs) { D with nx:=fun σ' H'=>H' d=some (.frz o (.dT kvs))/\D.nx σ' (upd H' d (.dT kvs)) } g tb σ (upd H1 d (.frz o (.dT kvs)))
section
variable {X:Cx} {tg:Expr}
end
end L2
set_option Elab.async false
set_option linter.all false
set_option maxRecDepth 100000
namespace Pb
open L2 PySem
section
variable {α β:Type}
end
section
variable {m:Int} {rs:List Road} {r:Int} {par:Int->Int} {dep:Int->Nat}
end
end Pb
namespace Pb
open L2 PySem
section
variable {m:Int} {rs:List Road} {r:Int} {par:Int->Int} {dep:Int->Nat} {to:Bool}
end
end Pb
namespace Pb
open L2 PySem
end Pb
namespace Pb
open L2 PySem
end Pb
set_option Elab.async false
set_option linter.all false
set_option maxRecDepth 100000
namespace L2
open PySem PySem.Spec PyProof.Rows
section
variable {X:Cx} {cx:Str} {Nc:List Str} {own:Nat} {js:List Nat} {scope:Scope} {cl:List (Str × Addr)}
end
section
variable {X:Cx} {cx:Str} {Nc:List Str} {own:Nat} {js:List Nat} {scope:Scope} {cl:List (Str × Addr)}
end
end L2
set_option Elab.async false
set_option linter.all false
set_option maxRecDepth 100000
namespace L2
open PySem PySem.Spec PyProof.Rows PySem.W
section
variable {X:Cx}
end
def Its (z:Str):It:=⟨fun i _=>i<z.cps.size,fun i H x H'=>H'=H/\∃ c,z.cps[i]?=some c/\x=.str ⟨#[c]⟩,fun i _=>z.cps.size<=i⟩
section
variable {X:Cx} {tg:Expr}
def My (tl:TE):TI:=fun σ H R=>tl σ H fun x H1=>∃ z,x=.str z/\z.cps.all (·<128)=true/\R (Its z) H1
end
section
variable {P:Program} {w:World} {A:Around} {E:Value->Shared->Prop} {s:Shared}
end
section
variable {X:Cx} {e:Expr} {te:TE} {p2 apos cpos pos2:Pos} {z:Str} {zp:Pos} {zk:Nat}
def Gh (K:PySem.W.Frag) (z:Str) (te:TE):TE:=fun σ H Q=>te σ H fun x H1=>∃ (a:Addr) (ys:List Str),x=.ref a/\SqL K H1 a (ys.map V.str)/\(ys.map (·.length)).sum+ys.length*z.length<=16777216/\Q (.str (Str.join z ys.reverse)) H1
end
end L2
set_option Elab.async false
set_option linter.all false
set_option maxRecDepth 100000
namespace Pb
open L2 PySem PySem.W NumText
end Pb
set_option Elab.async false
set_option linter.all false
set_option maxRecDepth 100000
namespace L2
open PySem PySem.Spec PyProof.Rows PySem.W
end L2
namespace Pb
open L2 PySem PySem.W NumText
open PySem.StrLaws (At ChainG occ_tight partsBetween_eq partsFrom strSub_toList subAt_eq sub_whole)
section
variable {X:Str} {u c v:Nat}
end
end Pb
set_option Elab.async false
set_option linter.all false
set_option maxRecDepth 100000
namespace L2
open PySem PySem.Spec PyProof.Rows PySem.W
end L2
namespace Pb
open L2 PySem PySem.W NumText
end Pb
set_option Elab.async false
set_option linter.all false
set_option maxRecDepth 100000
namespace Pb
open L2 PySem
section
variable {m:Int} {rs:List Road} {r:Int} {par:Int->Int} {dep:Int->Nat} {held:Int->Int}
end
end Pb
set_option Elab.async false
set_option linter.all false
set_option maxRecDepth 100000
namespace L2
open PySem PySem.Spec PyProof.Rows
section
variable {prog:Program} {w:World} {A:Around} {E:Value->Shared->Prop} {R:Result->Shared->Prop} {s:Shared}
end
section
variable {M:Model} {A:Around} {E:Value->Shared->Prop} {s:Shared} {Q:Unit->Shared->Prop} {fs:List Addr} {ea T L:Addr} {cls fl hd:Value} {od:Option Addr} {base:Heap} {env:Env} {outer:List Env}
end
section
variable {P:Program} {w:World} {K:PySem.W.Frag} {mg:Str->Option Value} {base:Heap} {N:List Str} {qual:Str} {scope:Scope} {f:Addr} {cd:Value} {A:Around} {outer:List Env} {s:Shared} {H:Hp} {E:XK}
end
section
variable {X:Cx} {Nc:List Str} {own:Nat} {js:List Nat} {scope:Scope} {cl:List (Str × Addr)}
end
section
variable {X:Cx} {Nc:List Str} {own:Nat} {js:List Nat} {scope:Scope} {cl:List (Str × Addr)}
end
section
variable {X:Cx}
end
end L2
set_option Elab.async false
set_option linter.all false
set_option maxRecDepth 100000
namespace L2
open PySem PySem.Spec PyProof.Rows
section
variable {prog:Program} {w:World} {A:Around} {E:Value->Shared->Prop} {h:Heap} {g:Array GenState} {d:Drawn} {t:Nat} {os:OsState}
variable {nm q:Str} {C N:Addr} {bs bm bmB:List Value} {hdct:Bool} {sn:List Str} {sub:List Value} {ab:Bool} {col:Option Bool} {dd:Option Addr} {k0 k1 k2 k3 k5:Option Value} {B newId initId:String}
end
section
variable {M:Model} {A:Around} {E:Value->Shared->Prop} {env:Env}
variable {nm q:Str} {C N:Addr} {bs bm:List Value} {hdct:Bool} {sn:List Str} {sub:List Value} {ab:Bool} {col:Option Bool} {dd:Option Addr} {k0 k1 k2 k3 k5:Option Value} {newId:String}
end
section
variable {prog:Program} {w:World} {A:Around} {E:Value->Shared->Prop} {s:Shared} {env:Env}
variable {nm q:Str} {C N:Addr} {bs bm bmB:List Value} {hdct:Bool} {sn:List Str} {sub:List Value} {ab:Bool} {col:Option Bool} {dd:Option Addr} {k0 k1 k2 k3 k5:Option Value} {B newId initId:String}
end
section
variable {X:Cx} {pins:List (Addr × Obj)} {σ:St} {H:Hp} {s:Shared}
end
section
variable {P:Program} {w:World} {K:PySem.W.Frag} {mg:Str->Option Value} {base:Heap} {N:List Str} {qual:Str} {scope:Scope} {f:Addr} {cd:Value} {A:Around} {outer:List Env} {s:Shared} {H:Hp} {E:XK}
end
section
variable {X:Cx} {x:Str} {np cpos pos:Pos} {e0:Expr} {es:List Expr} {t:TA} {C fI:Addr} {E:XK} {CX:CXT} {k:Nat} {fd:FuncData} {ps:List Str} {sp:Sp}
end
section
variable {X:Cx} {x:Str} {np apos pos:Pos} {e0:Expr} {es:List Expr} {t:TA} {Tl:Addr} {pl:Sem Bool}
end
end L2
set_option Elab.async false
set_option linter.all false
set_option maxRecDepth 100000
namespace L2
open PySem PySem.Spec PyProof.Rows PySem.W PySem.Builtin PySem.Builtin.ObjectAttr
section
variable {K:PySem.W.Frag} {prog:Program} {w:World} {A:Around} {s:Shared} {x C Tl:Addr} {R:Result->Shared->Prop}
end
section
variable {X:Cx} {pins:List (Addr × Obj)} {σ:St} {H:Hp} {s:Shared}
end
section
variable {X:Cx} {pins:List (Addr × Obj)} {σ:St} {H:Hp} {s:Shared} {A:Around} {E:Value->Shared->Prop} {ea C Tl:Addr} {f:Str}
end
section
variable {X:Cx} {o value:Expr} {ta tv:TE} {f:Str} {pos pos':Pos}
end
section
variable {prog:Program} {w:World} {A:Around} {E:Value->Shared->Prop} {s:Shared} {K:PySem.W.Frag} {x C:Addr} {ox:Obj} {od:Obj}
end
section
variable {X:Cx} {o:Expr} {ta:TE} {f:Str} {pos:Pos}
end
end L2
set_option Elab.async false
set_option linter.all false
set_option maxRecDepth 100000
namespace L2
open PySem
def FI (K:PySem.W.Frag) (C':Addr) (ts:TS) (tr:TH):TH:=fun D σ cls od H=>∃ C b,cls=.ref C/\PySem.W.mroIn K C (.ref C')=some b/\if b=true then ts D σ H else tr D σ cls od H
section
variable {X:Cx} {x:Str} {np pos:Pos} {C':Addr} {b0:Stmt} {suite:List Stmt} {jO:List ExceptHandler} {ts:TS} {tr:TH}
end
end L2
namespace Pb
open L2 PySem
end Pb
set_option Elab.async false
set_option linter.all false
set_option maxRecDepth 100000
namespace Pb
open L2 PySem
section
variable {m:Int} {rs:List Road}
end
section
variable {m:Int} {rs:List Road} {r:Int} {par:Int->Int} {dep:Int->Nat} {st:Int->Int} {xs ys:List Int}
end
end Pb
set_option Elab.async false
set_option linter.all false
set_option maxRecDepth 100000
namespace L2
open PySem PySem.Spec PyProof.Rows
section
variable {X:Cx}
def Lo (t:TE):TE:=fun σ H Q=>t σ H fun x H1=>∃ b,x=.bl b/\Q (.bl (b == true)) H1
end
end L2
namespace Pb
open L2 PySem
section
variable {m:Int} {rs:List Road} {r:Int} {par:Int->Int} {dep:Int->Nat} {P:Int->Int} {xs:List Int}
end
end Pb
set_option Elab.async false
set_option linter.all false
set_option maxRecDepth 100000
namespace Pb
open L2 PySem
end Pb
set_option Elab.async false
set_option linter.all false
set_option maxRecDepth 100000
namespace L2
open PySem PySem.Spec PyProof.Rows
section
variable {prog:Program} {w:World} {A:Around} {E:Value->Shared->Prop} {s:Shared}
end
section
variable {X:Cx} {tg:Expr} {Nc:List Str} {own:Nat} {js:List Nat} {scope:Scope} {cl:List (Str × Addr)}
end
section
variable {X:Cx} {x n:Str} {np pos:Pos} {i:Nat} {C':Addr} {b0:Stmt} {suite:List Stmt} {jO:List ExceptHandler} {ts:Addr->TS} {tr:TH}
end
end L2
namespace Pb
open L2 PySem
end Pb
set_option Elab.async false
set_option linter.all false
set_option maxRecDepth 100000
namespace Pb
open L2 PySem
end Pb
set_option Elab.async false
set_option linter.all false
set_option maxRecDepth 100000
namespace L2
open PySem
def Kpt (o:Addr) (H H':Hp):Prop:=∀ b x,H b=some x->b≠o->H' b=some x
theorem Kpt.refl {o:Addr} {H:Hp}:Kpt o H H:=fun _ _ h _=>h
theorem Kpt.then {o:Addr} {H H1 H2:Hp} (a:Kpt o H H1) (b:Same H1 H2):Kpt o H H2:=fun c x h n=>b c x (a c x h n)
theorem Kpt.put {o:Addr} {H H1:Hp} (a:Kpt o H H1) (x:HO):Kpt o H (upd H1 o x):=fun c y h n=>by rw [ao n];exact a c y h n
end L2
namespace Pb
open PySem L2
def sG (xs ys:List Int):List Int:=List.zipWith (·+·) xs ys
def zrs (m:Int):List Int:=List.replicate m.toNat 0
theorem vk {α β:Type} {R:α->β->Prop} {a:α} {b:β} (e:R a b):∀ {l:List α} {l':List β},Paired R l l'->Paired R (l++[a]) (l'++[b])
 | _,_,.nil=>.cons e .nil
 | _,_,.cons x xs=>.cons x (vk e xs)
theorem C7 (m:Int):(zrs m).map V.int=List.replicate m.toNat (V.int 0):=by unfold zrs;rw [List.map_replicate]
section
variable {m:Int} {rs:List Road} {r:Int} {par:Int->Int} {dep:Int->Nat} {nd:Int->Int}
theorem HH {xs ys:List Int} {n:Nat} (h1:xs.length=n) (h2:ys.length=n):(sG xs ys).length=n:=by unfold sG;rw [List.length_zipWith];omega
theorem De (m:Int):(zrs m).length=m.toNat:=List.length_replicate
end
end Pb
set_option Elab.async false
set_option linter.all false
set_option maxRecDepth 100000
namespace Pb
open PySem L2
section
variable {m:Int} {rs:List Road} {r:Int} {par:Int->Int} {dep:Int->Nat} {nd:Int->Int}
variable {w:Int->Int}
variable {x st bl:Int->Int}
theorem Aw {xs:List Int} (x0:∀ x∈xs,0<=x) (i:Nat):0<=xs.getD i 0:=by
 rw [List.getD_eq_getElem?_getD];cases e:xs[i]? with
 | none=>exact Int.le_refl _
 | some y=>exact x0 y (List.mem_of_getElem? e)
end
end Pb
set_option Elab.async false
set_option linter.all false
set_option maxRecDepth 100000
namespace Pb
open PySem L2
theorem yj:∀ {xs ys:List Int},xs.length=ys.length->∀ (i:Nat),(sG xs ys).getD i 0=xs.getD i 0+ys.getD i 0
 | [],[],_,i=>by simp [sG]
 | a::xs,b::ys,h,0=>by simp [sG]
 | a::xs,b::ys,h,i+1=>by
   have ih:=yj (xs:=xs) (ys:=ys) (by simpa using h) i;unfold sG at ih ⊢;rw [List.zipWith_cons_cons,List.getD_cons_succ,List.getD_cons_succ,List.getD_cons_succ,ih]
theorem Bg (m:Int) (i:Nat):(zrs m).getD i 0=0:=by
 rw [List.getD_eq_getElem?_getD];cases e:(zrs m)[i]? with
 | none=>rfl
 | some y=>exact (List.mem_replicate.mp (List.mem_of_getElem? e)).2
section
variable {m:Int} {rs:List Road} {r:Int} {par:Int->Int} {dep:Int->Nat} {nd w:Int->Int}
theorem Go {m v d:Int} (v0:0<=v) (v1:v<m):((zrs m).set v.toNat d).getD v.toNat 0=d/\∀ u,0<=u->u<m->u≠v->((zrs m).set v.toNat d).getD u.toNat 0=0:=by
 refine ⟨?_,fun u u0 u1 hu=>?_⟩
 . rw [List.getD_eq_getElem?_getD,List.getElem?_set_self (by rw [De];omega)];rfl
 . rw [List.getD_eq_getElem?_getD,List.getElem?_set_ne (by omega),<- List.getD_eq_getElem?_getD,Bg]
end
end Pb
set_option Elab.async false
set_option linter.all false
set_option maxRecDepth 100000
namespace L2
open PySem PySem.Spec PyProof.Rows
section
variable {X:Cx}
def Kb (t:TE):TE:=fun σ H Q=>t σ H fun x H1=>∃ b,x=.bl b/\Q (.bl (b != false)) H1
end
end L2
namespace L2
open PySem Pb
end L2
set_option Elab.async false
set_option linter.all false
set_option maxRecDepth 100000
namespace Pb
open PySem L2
section
variable {m:Int} {rs:List Road} {r:Int} {par:Int->Int} {dep:Int->Nat} {nd w:Int->Int}
end
end Pb
set_option Elab.async false
set_option linter.all false
set_option maxRecDepth 100000
namespace Pb
open PySem L2
section
variable {m:Int} {rs:List Road} {r:Int} {par:Int->Int} {dep:Int->Nat} {near t u:Int}
end
end Pb
set_option Elab.async false
set_option linter.all false
set_option maxRecDepth 100000
namespace Pb
open PySem L2
section
variable {m:Int} {rs:List Road} {r:Int} {par:Int->Int} {dep:Int->Nat} {nd w:Int->Int}
end
end Pb
set_option Elab.async false
set_option linter.all false
set_option maxRecDepth 100000
namespace Pb
open PySem L2
section
variable {m:Int} {rs:List Road} {r:Int} {par:Int->Int} {dep:Int->Nat} {nd w:Int->Int}
end
end Pb
set_option Elab.async false
set_option linter.all false
set_option maxRecDepth 100000
namespace L2
open PySem PySem.Spec PyProof.Rows
def D6 (i j:Nat) (ta:TA):TS:=fun D σ H=>ta σ H fun vs H1=>∃ v w,vs=[v,w]/\D.nx ((σ.set i (some v)).set j (some w)) H1
theorem KZ {X:Cx} {pos:Pos} {i j:Nat} {x y:Str} {a b:Expr} {ta:TA} {px py pt:Pos} {kt k2 pt2} (hc:X.calm=true) (hN:X.N.Nodup) (hi:X.N[i]?=some x) (hj:X.N[j]?=some y) (hij:i≠j)
   (hx:X.env.scope.names.lookup x=some .local) (hy:X.env.scope.names.lookup y=some .local) (ha:PA X [a,b] ta)
   (hw:swappedStores [.Tuple [.Name x px,.Name y py] kt pt] (.Tuple [a,b] k2 pt2) X.env=pure (some [x,y]))
   (hs:swapsWithSole [.Tuple [.Name x px,.Name y py] kt pt] (.Tuple [a,b] k2 pt2) pos.line X.env=pure false:=by rfl) :
   PS X (.Assign [.Tuple [.Name x px,.Name y py] kt pt] (.Tuple [a,b] k2 pt2) pos) (D6 i j ta):=by
 intro pins s σ H D I h;rw [exec_Assign_arm];refine wpAny_bind (wpAny_standAt ?_);rw [hs];refine wpAny_bind (wpAny_pure ?_);rw [if_neg (by decide)];refine wpAny_bind (Tuple_ (lg (ha _ pins s σ H _ I h) fun us s1 vs H1 I1 r1 q1=>?_));obtain ⟨v,w,e1,q1⟩:=q1;subst e1;obtain ⟨u1,u2,rfl,rv,rw'⟩:∃ u1 u2,us=[u1,u2]/\RelV v u1/\RelV w u2:=by
   cases r1 with
   | cons p q =>
     cases q with
     | cons p' q' =>
       cases q';exact ⟨_,_,rfl,p,p'⟩
 refine wpAny_newObj_type ?_ (by show 2<=sizeLine;decide);have I2:Inv X pins σ H1 { s1 with heap:=s1.heap.push { cls:=.type "tuple",data:=.seq [u1,u2].toArray } }:=I1.kept (t':=s1.toks) fun b o e=>Heap.get?_push_of_some _ e;rw [hw];refine wpAny_bind (wpAny_pure ?_);show wpAny (model X.prog X.w) X.A (do rule "assign.swapped-stores";let items <- unpackItems (.ref s1.heap.objs.size) 2 none;assignInOrder [fun v=>bindName X.env y v,fun v=>bindName X.env x v] items.reverse;pure Flow.next) _ _ _;refine wpAny_bind (wpAny_rule (wpAny_bind (unpackItems_tuple (items:=#[u1,u2]) (I.ok.hd hc) (IsTup.new s1.heap _) fun h' hx'=>?_)));have I3:=I2.kept (h':=h') (t':=s1.toks) fun b o e=>hx' b o (Nat.ne_of_lt (Heap.lt_size e)) e;show wpAny _ _ (assignInOrder [fun v=>bindName X.env y v,fun v=>bindName X.env x v] [u2,u1] >>= fun _=>pure Flow.next) _ _ _;refine wpAny_bind (assignInOrder_cons (wpAny_bindName (pZ I3 hN hj (.inl hy) rw' (fun s3 I5=>?_) (.inr hy))));refine assignInOrder_cons (wpAny_bindName (pZ I5 hN hi (.inl hx) rv (fun s4 I6=>assignInOrder_nil (wpAny_pure ?_)) (.inr hx)));have e:(σ.set j (some w)).set i (some v)=(σ.set i (some v)).set j (some w):=List.set_comm _ _ hij.symm;rw [e] at I6;exact ⟨_,H1,I6,q1⟩
end L2
namespace Pb
open PySem L2
theorem qa {α β:Type} {R:α->β->Prop}:∀ {l:List α} {l':List β} {b:β},Paired R l (l'++[b])->∃ l0 a,l=l0++[a]/\Paired R l0 l'/\R a b
 | _,[],b,.cons (a:=a) h .nil=>⟨[],a,rfl,.nil,h⟩
 | _,c::l',b,.cons (a:=a) h hs=>by
   obtain ⟨l0,x,rfl,h1,h2⟩:=qa hs;exact ⟨a::l0,x,rfl,.cons h h1,h2⟩
theorem Dw {α:Type} (l:List α) (x:α):atI (l++[x]) (-1)=some x:=by
 unfold atI ixN;rw [if_neg (by decide),List.length_append,List.length_cons,List.length_nil,if_pos (by omega)];show (l++[x])[(-1+((l.length+(0+1):Nat):Int)).toNat]?=some x;rw [show (-1+((l.length+(0+1):Nat):Int)).toNat=l.length by omega,List.getElem?_append_right (Nat.le_refl _),Nat.sub_self]
 rfl
theorem Mh {xs ys:List Int} (l:xs.length=ys.length) (h:∀ i:Nat,xs.getD i 0=ys.getD i 0):xs=ys:=by
 refine List.ext_getElem l fun i h1 h2=>?_;have:=h i;rw [List.getD_eq_getElem?_getD,List.getD_eq_getElem?_getD,List.getElem?_eq_getElem h1,List.getElem?_eq_getElem h2] at this;exact this
theorem HQ {m v n:Int} {xs:List Int} (xl:(xs.length:Int)=m) (v0:0<=v) (v1:v<m):sG xs ((List.replicate m.toNat (0:Int)).set v.toNat n)=xs.set v.toNat (xs.getD v.toNat 0+n):=by
 have l1:xs.length=((List.replicate m.toNat (0:Int)).set v.toNat n).length:=by rw [List.length_set,List.length_replicate];omega
 refine Mh (by rw [HH rfl l1.symm,List.length_set]) fun i=>?_;rw [yj l1];have hz:=Go (m:=m) (d:=n) v0 v1;by_cases e:i=v.toNat
 . subst e;have h1:((List.replicate m.toNat (0:Int)).set v.toNat n).getD v.toNat 0=n:=hz.1;rw [h1,List.getD_eq_getElem?_getD (l:=xs.set v.toNat (xs.getD v.toNat 0+n)),List.getElem?_set_self (by omega)]
   rfl
 . have h1:((List.replicate m.toNat (0:Int)).set v.toNat n).getD i 0=0:=by
     rw [List.getD_eq_getElem?_getD,List.getElem?_set_ne (Ne.symm e),<- List.getD_eq_getElem?_getD];exact Bg m i
   rw [h1,List.getD_eq_getElem?_getD (l:=xs.set v.toNat (xs.getD v.toNat 0+n)),List.getElem?_set_ne (Ne.symm e),<- List.getD_eq_getElem?_getD];omega
theorem sne {a b:Str} (h:¬ a=b):¬ V.str a=V.str b:=fun z=>h (by injection z)
inductive Dd where
 | put (v n:Int)|want (v n:Int)|back (v n:Int)|step (a b n:Int)
def Dd.wd:Dd->Str
 | .put _ _=>"put" | .want _ _=>"want" | .back _ _=>"back" | .step _ _ _=>"step"
def Dd.ns:Dd->List Int
 | .put v n=>[v,n]|.want v n=>[v,n]|.back v n=>[v,n]|.step a b n=>[a,b,n]
def Dd.Ok (m:Int) (rs:List Road):Dd->Prop
 | .put v n=>(0<=v/\v<m)/\0<=n|.want v n=>(0<=v/\v<m)/\0<=n|.back _ _=>True|.step a b n=>Adj rs a b/\1<=n/\n<=3
def bhd (rs:List Road) (s:List Int × List Int):Dd->Option (List Int × List Int)
 | .put v n=>some (s.1.set v.toNat (s.1.getD v.toNat 0+n),s.2)
 | .want v n=>some (s.1,s.2.set v.toNat n)
 | .back _ _=>none
 | .step a b n=>if n*dh rs a b<=s.1.getD a.toNat 0 then some (ig rs s.1 (a,b,n),s.2) else none
def StL (H:Hp) (q:Addr) (s:List Int × List Int):Prop:=∃ a b,H q=some (.tup [.ref a,.ref b])/\H a=some (.lst (s.1.map V.int))/\H b=some (.lst (s.2.map V.int))
theorem Du {D:Dd} (h:∀ v n,D≠.back v n):¬ V.str D.wd=V.str "back":=by
 cases D with
 | put v n=>exact (sne (by decide +kernel):¬ V.str "put"=V.str "back")
 | want v n=>exact (sne (by decide +kernel):¬ V.str "want"=V.str "back")
 | back v n=>exact absurd rfl (h v n)
 | step a b n=>exact (sne (by decide +kernel):¬ V.str "step"=V.str "back")
theorem KI {m:Int} {rs:List Road} {s s':List Int × List Int} {D:Dd} (e:bhd rs s D=some s') (l1:(s.1.length:Int)=m) (l2:(s.2.length:Int)=m):(s'.1.length:Int)=m/\(s'.2.length:Int)=m:=by
 cases D with
 | put v n=>cases e;exact ⟨by rw [List.length_set];exact l1,l2⟩
 | want v n=>cases e;exact ⟨l1,by rw [List.length_set];exact l2⟩
 | back v n=>cases e
 | step a b n =>
   unfold bhd at e;by_cases z:n*dh rs a b<=s.1.getD a.toNat 0
   . simp only [if_pos z] at e;cases e;exact ⟨by rw [yo];exact l1,l2⟩
   . simp only [if_neg z] at e;cases e
theorem Mf {m:Int} {rs:List Road} (g:Good m rs) {s s':List Int × List Int} {D:Dd} (ok:D.Ok m rs) (e:bhd rs s D=some s') (n1:∀ y∈s.1,0<=y) (n2:∀ y∈s.2,0<=y):(∀ y∈s'.1,0<=y)/\∀ y∈s'.2,0<=y:=by
 cases D with
 | put v n =>
   cases e;refine ⟨fun y hy=>?_,n2⟩;rcases List.mem_or_eq_of_mem_set hy with q|q
   . exact n1 y q
   . have:=Aw n1 v.toNat;have:=ok.2;omega
 | want v n =>
   cases e;refine ⟨n1,fun y hy=>?_⟩;rcases List.mem_or_eq_of_mem_set hy with q|q
   . exact n2 y q
   . have:=ok.2;omega
 | back v n=>cases e
 | step a b n =>
   unfold bhd at e;by_cases z:n*dh rs a b<=s.1.getD a.toNat 0
   . simp only [if_pos z] at e;cases e;have h1:∀ y∈s.1.set a.toNat (s.1.getD a.toNat 0 - n*dh rs a b),0<=y:=fun y hy=>by
       rcases List.mem_or_eq_of_mem_set hy with q|q
       . exact n1 y q
       . omega
     refine ⟨fun y hy=>?_,n2⟩;unfold ig at hy;rcases List.mem_or_eq_of_mem_set hy with q|q
     . exact h1 y q
     . have:=Aw h1 b.toNat;have:=ok.2.1;show 0<=y;rw [q];show 0<=(s.1.set a.toNat (s.1.getD a.toNat 0 - n*dh rs a b)).getD b.toNat 0+n;omega
   . simp only [if_neg z] at e;cases e
end Pb
set_option Elab.async false
set_option linter.all false
set_option maxRecDepth 100000
set_option maxHeartbeats 4000000
namespace Pk
open PySem L2 Pb
seal L2.PSs L2.PS L2.PE L2.PT L2.PW L2.PA L2.PG L2.PGs L2.PI L2.PTs L2.PC L2.PPs L2.PO
abbrev top (i:Nat):Stmt:=Hd.top i
local macro_rules|`(tactic| walk_at "rd") => `(tactic| ((try dsimp only [tYes, GR, DG, Kb, Ends.less, xS, Dt, B7, FI, Dq, Kg, My, Gh, xX, G0, Eh, Jo, DR, DA, Kn, Et, Mz, JW, FH, yq, Gq, Ip, Kj, D9, tNext, D4, zz, DL, Eb, gNil, IM, Kp, D6, DC, Mo, Kk, Kc, Lo, ipI, Ji, DB, zA, tB, vT, tC, AO, tOp, tUn, rI0, rI, rU, rEq, rNe, En, zw, Ed, Eo, tNil, JM, Gu, tCB, tBM, Iw, Jj, JH, Ll, Ke, xc, DQ, Kl, ET, Gr, pe, FW, Gi, GN, tOr, IQ, EN, LY, Em, tIf, List.nil_append, List.append_nil, List.set_cons_zero, List.set_cons_succ, List.getElem?_cons_zero, List.getElem?_cons_succ]);(try simp only [tYes, GR, DG, Kb, Ends.less, xS, Dt, B7, FI, Dq, Kg, My, Gh, xX, G0, Eh, Jo, DR, DA, Kn, Et, Mz, JW, FH, yq, Gq, Ip, Kj, D9, tNext, D4, zz, DL, Eb, gNil, IM, Kp, D6, DC, Mo, Kk, Kc, Lo, ipI, Ji, DB, zA, tB, vT, tC, AO, tOp, tUn, rI0, rI, rU, rEq, rNe, KN, KR, K4, Lc, K9, Kv, En, zw, Ed, Eo, tNil, JM, Gu, tCB, tBM, Iw, Jj, JH, Ll, Ke, xc, DQ, Kl, ET, Gr, pe, FW, Gi, GN, tOr, IQ, EN, LY, Em, tIf, List.nil_append, List.append_nil, List.set_cons_zero, List.set_cons_succ, List.getElem?_cons_zero, List.getElem?_cons_succ, Option.some.injEq, V.int.injEq, V.bl.injEq, V.ref.injEq, List.cons.injEq, exists_eq_left, exists_eq_left', exists_and_left, exists_const, and_true, true_and, decide_eq_true_eq, Bool.not_eq_true', decide_eq_false_iff_not, Bool.true_eq_false, Bool.false_eq_true, if_true, if_false])))
set_option genSizeOf false in
set_option genInjectivity false in
structure Txt (K:PySem.W.Frag) (mg:Str->Option Value) where
 BadWeb:Addr
 M7:mg "BadWeb"=some (.ref BadWeb)
 NoPlace:Addr
 FZ:mg "NoPlace"=some (.ref NoPlace)
 NoRoad:Addr
 JV:mg "NoRoad"=some (.ref NoRoad)
 BadLaying:Addr
 Ci:mg "BadLaying"=some (.ref BadLaying)
 BadWish:Addr
 E4:mg "BadWish"=some (.ref BadWish)
 NoDeed:Addr
 Nj:mg "NoDeed"=some (.ref NoDeed)
 BadStep:Addr
 MU:mg "BadStep"=some (.ref BadStep)
 Web:Addr
 Ko:mg "Web"=some (.ref Web)
 Desk:Addr
 Fx:mg "Desk"=some (.ref Desk)
 FA:xo K NoPlace
 GI:xo K NoRoad
 CA:xo K BadLaying
 FE:xo K BadWish
 range:mg "range"=none
 zip:mg "zip"=none
 len:mg "len"=none
 isinstance:mg "isinstance"=none
 all:mg "all"=none
 int:mg "int"=none
 bool:mg "bool"=none
 tuple:mg "tuple"=none
 list:mg "list"=none
 sorted:mg "sorted"=none
 min:mg "min"=none
 enumerate:mg "enumerate"=none
 str:mg "str"=none
 c_MOST_PLACES:∃ t,mg "MOST_PLACES"=some (.int 24 t)
 c_LEAST_TOLL:∃ t,mg "LEAST_TOLL"=some (.int 2 t)
 c_MOST_TOLL:∃ t,mg "MOST_TOLL"=some (.int 1000000 t)
 gc:Cls K Web
 n_many:NoAttr K Web "many"
 n_roads:NoAttr K Web "roads"
 aQ:Cls K Desk
 n_web:NoAttr K Desk "web"
 n_past:NoAttr K Desk "past"
section
variable {P:Program} {w:World} {K:PySem.W.Frag} {mg:Str->Option Value} {base:Heap} {CX:CXT}
def nC (T:Txt K mg):Sp:=fun vs H Q _=>∃ (m:Int) (t:Addr) (xs:List V),vs=[.int m,.ref t]/\SqT K H t xs/\1<=m/\m<=24/\(xs.length:Int)=m - 1/\Q .non H
abbrev aZ:Stmt:=top 19
theorem vx:FnScope ["many","roads"] ["many","roads"] (aa aZ):=FnScope.of (by kernel_rfl)
theorem jD:NmL (aa aZ) "many":=.of (by kernel_rfl)
theorem pA:NmL (aa aZ) "roads":=.of (by kernel_rfl)
theorem e9:NmG (aa aZ) "MOST_PLACES":=.of (by kernel_rfl)
theorem CH:NmG (aa aZ) "BadWeb":=.of (by kernel_rfl)
theorem fQ:NmG (aa aZ) "len":=.of (by kernel_rfl)
theorem vt (T:Txt K mg) (hq:aN (CXe P w)) {f:Addr} {fd:FuncData} (D:Df K mg "check_counts" aZ ["many","roads"] f fd):FnOk P w K mg base (CXe P w) 1 f fd ["many","roads"] (nC T):=by
 refine D.F.okC vx (fun vs H Q E h=>?_) (fun cdv A outer s H vs Q E hr h=>?_)
 . obtain ⟨m,t,xs,rfl,_⟩:=h
   rfl
 . obtain ⟨m,t,xs,rfl,ht,h1,h2,hl,k⟩:=h;refine ⟨_,(aj (aO (d8 (AR ww ww ag (pvl 0 jD) (uH e9.g T.c_MOST_PLACES (hd:=e9.d)))) (al gD) aA) (al (aO (aE wu (bK bx fQ.g T.len dM (af (pvl 1 pA) ah) (hn:=fQ.n) (hdb:=fQ.d)) (am kK (pvl 0 jD) ag) (aG _)) (al gD) aA))),?_⟩;rw [show L2.start ["many","roads"] [V.int m,V.ref t]=[some (V.int m),some (V.ref t)] from rfl];walk_at "rd";rw [if_pos h1,if_neg (by omega)];exact ⟨xs,.inr ht,by rw [if_neg (by omega)];exact k⟩
def kj (T:Txt K mg):Sp:=fun vs H Q _=>∃ m n:Int,vs=[.int m,.int n]/\Q (.bl (decide (0<=n) && decide (n<m))) H
abbrev cw:Stmt:=top 18
theorem CB:FnScope ["many","number"] ["many","number"] (aa cw):=FnScope.of (by kernel_rfl)
theorem uR:NmL (aa cw) "many":=.of (by kernel_rfl)
theorem sB:NmL (aa cw) "number":=.of (by kernel_rfl)
theorem CK (T:Txt K mg) (hq:aN (CXe P w)) {f:Addr} {fd:FuncData} (D:Df K mg "is_place" cw ["many","number"] f fd):FnOk P w K mg base (CXe P w) 1 f fd ["many","number"] (kj T):=by
 refine D.F.okC CB (fun vs H Q E h=>?_) (fun cdv A outer s H vs Q E hr h=>?_)
 . obtain ⟨m,n,rfl,_⟩:=h
   rfl
 . obtain ⟨m,n,rfl,k⟩:=h;refine ⟨_,(al (aF (HL ww zB ag (pvl 1 sB) (pvl 0 uR)))),?_⟩;rw [show L2.start ["many","number"] [V.int m,V.int n]=[some (V.int m),some (V.int n)] from rfl];walk_at "rd";by_cases c:0<=n
   . simpa [c] using k
   . simpa [c] using k
def qS (T:Txt K mg):Sp:=fun vs H Q _=>∃ (m:Int) (p:Addr) (r:Road),vs=[.int m,.ref p]/\H p=some (.tup (lH r))/\0<=r.a/\r.a<m/\0<=r.b/\r.b<m/\r.a≠r.b/\Q .non H
abbrev bT:Stmt:=top 20
theorem yP:FnScope ["many","road"] ["many","road"] (aa bT):=FnScope.of (by kernel_rfl)
theorem kE:NmL (aa bT) "many":=.of (by kernel_rfl)
theorem d9:NmL (aa bT) "road":=.of (by kernel_rfl)
theorem db:NmG (aa bT) "is_place":=.of (by kernel_rfl)
theorem DI:NmG (aa bT) "BadWeb":=.of (by kernel_rfl)
theorem y6 (T:Txt K mg) (hq:aN (CXe P w)) {f:Addr} {fd:FuncData} (D:Df K mg "check_ends" bT ["many","road"] f fd) {cg:Addr} {dG:FuncData} (aY:Df K mg "is_place" cw ["many","number"] cg dG) (G_is_place:FnOk P w K mg base (CXe P w) 1 cg dG ["many","number"] (kj T)):FnOk P w K mg base (CXe P w) 2 f fd ["many","road"] (qS T):=by
 refine D.F.okC yP (fun vs H Q E h=>?_) (fun cdv A outer s H vs Q E hr h=>?_)
 . obtain ⟨m,p,r,rfl,_⟩:=h
   rfl
 . obtain ⟨m,p,r,rfl,hp,a0,a1,b0,b1,ne,k⟩:=h;refine ⟨_,(aj (aO (PW.pt (tL (d8 (fB (au G_is_place (hr.mono (by decide)) db.g aY.m aY.F.kp aY.b .nil (az hq) (af (pvl 0 kE) (af (ap bc (pvl 1 d9) ag (fun _ _=>rfl)) ah)) (hdb:=db.d)))) (sL (d8 (fB (au G_is_place (hr.mono (by decide)) db.g aY.m aY.F.kp aY.b .nil (az hq) (af (pvl 0 kE) (af (ap bc (pvl 1 d9) ag (fun _ _=>rfl)) ah)) (hdb:=db.d))))))) (al gD) aA) (al (aO (aE bR (ap bc (pvl 1 d9) ag (fun _ _=>rfl)) (ap bc (pvl 1 d9) ag (fun _ _=>rfl)) (aG _)) (al gD) aA))),?_⟩;rw [show L2.start ["many","road"] [V.int m,V.ref p]=[some (V.int m),some (V.ref p)] from rfl];walk_at "rd";refine ixT hp rfl ⟨m,r.a,rfl,_,rfl,?_⟩;rw [if_neg (by simp [a0,a1])];refine ixT hp rfl ⟨m,r.b,rfl,_,rfl,?_⟩;rw [if_neg (by simp [b0,b1])];refine ixT hp rfl (ixT hp rfl ⟨rfl,?_⟩);rw [if_neg (by simpa using ne)];exact k
def kR (T:Txt K mg):Sp:=fun vs H Q _=>∃ (t:Addr) (ps:List Addr) (rs:List Road) (n:Int),vs=[.ref t,.int n]/\SqT K H t (ps.map V.ref)/\RoadsAt H ps rs/\rs.length<=1000 /\
 ∀ l H',H l=none->Same H H'->H' l=some (.lst ((b8 rs n).map V.int))->Q (.ref l) H'
abbrev bH:Stmt:=top 23
theorem k8:FnScope ["roads","place","ends","road"] ["roads","place"] (aa bH):=FnScope.of (by kernel_rfl)
theorem rg:NmL (aa bH) "roads":=.of (by kernel_rfl)
theorem jJ:NmL (aa bH) "place":=.of (by kernel_rfl)
theorem d7:NmL (aa bH) "ends":=.of (by kernel_rfl)
theorem dj:NmL (aa bH) "road":=.of (by kernel_rfl)
theorem yM (T:Txt K mg) (hq:aN (CXe P w)) {f:Addr} {fd:FuncData} (D:Df K mg "other_ends" bH ["roads","place"] f fd):FnOk P w K mg base (CXe P w) 1 f fd ["roads","place"] (kR T):=by
 refine D.F.okC k8 (fun vs H Q E h=>?_) (fun cdv A outer s H vs Q E hr h=>?_)
 . obtain ⟨t,ps,rs,n,rfl,_⟩:=h
   rfl
 . obtain ⟨t,ps,rs,n,rfl,ht,hp,hl,k⟩:=h;refine ⟨_,(aj (aH (i:=2) k8.nd rfl (Or.inl d7.l) (c6 ah)) (aj (gn PassesOwn.never rfl (sU (pvl 0 rg)) (aM (i:=3) k8.nd rfl (Or.inl dj.l)) (aj (aO (aE bR (ap bc (pvl 3 dj) ag (fun _ _=>rfl)) (pvl 1 jJ) (aG _)) (al (bq (lO PySem.F.plainAttrs_list PySem.F.slot_list_append PySem.F.type_list_append d6 (pvl 2 d7) (af (ap bc (pvl 3 dj) ag (fun _ _=>rfl)) ah)))) aA) (al (aO (aE bR (ap bc (pvl 3 dj) ag (fun _ _=>rfl)) (pvl 1 jJ) (aG _)) (al (bq (lO PySem.F.plainAttrs_list PySem.F.slot_list_append PySem.F.type_list_append d6 (pvl 2 d7) (af (ap bc (pvl 3 dj) ag (fun _ _=>rfl)) ah)))) aA)))) (al (aF (pvl 2 d7))))),?_⟩;rw [show L2.start ["roads","place","ends","road"] [V.ref t,V.int n]=[some (V.ref t),some (V.int n),none,none] from rfl];walk_at "rd";refine ⟨by decide,fun l hn=>?_⟩;have hlen:ps.length=rs.length:=Paired.length hp;refine ⟨⟨_,Same.tup (Same.new _ hn) ht⟩,wD (xs:=ps.map V.ref) (fun i σ H2=>H2=upd H l (.lst ((b8 (rs.take i) n).map V.int))/\∃ v,σ=[some (.ref t),some (.int n),some (.ref l),v]) ⟨rfl,_,rfl⟩ (fun i σ H2 _ z=>by rw [z.1];exact Same.tup (Same.new _ hn) ht) ?_ ?_⟩
   . rintro i x σ H2 hi ⟨rfl,v,rfl⟩;obtain ⟨p,r,rfl,h1,h2,h3⟩:=hp.get hi;have np:p≠l:=bw h3 hn;have hil:i<rs.length:=(List.getElem?_eq_some_iff.mp h2).1;have et:rs.take (i+1)=rs.take i++[r]:=(by rw [List.take_succ,h2];rfl);have hb:(b8 (rs.take i) n).length<=2000:=Nat.le_trans (zH _ _) (by rw [List.length_take];omega);have hx:∀ o,upd H l o p=some (.tup (lH r)):=fun o=>by rw [ao np];exact h3
     walk_at "rd";refine ixT (hx _) rfl ?_;walk_at "rd";have fin:∀ (ys:List Int),(b8 (rs.take i) n++ys)=b8 (rs.take (i+1)) n->upd H l (.lst ((b8 (rs.take i) n).map V.int++ys.map V.int))=upd H l (.lst ((b8 (rs.take (i+1)) n).map V.int)):=fun ys e=>by
       rw [<- List.map_append,e]
     have e1:m5 n r=(if r.a=n then [r.b] else [])++(if r.b=n then [r.a] else []):=rfl;by_cases ca:r.a=n
     . rw [if_pos ca];refine ⟨tyL ak,ixT (hx _) rfl (uU ak (f6 (by rw [List.length_map];omega)) ?_)⟩;rw [iQ];refine ixT (hx _) rfl ?_;walk_at "rd";by_cases cb:r.b=n
       . rw [if_pos cb];refine ⟨tyL ak,ixT (hx _) rfl (uU ak (f6 (by rw [List.length_append,List.length_map];simp;omega)) ?_)⟩;rw [iQ,List.append_assoc];exact ⟨fin [r.b,r.a] (by rw [et,m9,e1,if_pos ca,if_pos cb];rfl),_,rfl⟩
       . rw [if_neg cb];exact ⟨fin [r.b] (by rw [et,m9,e1,if_pos ca,if_neg cb];rfl),_,rfl⟩
     . rw [if_neg ca];refine ixT (hx _) rfl ?_;walk_at "rd";by_cases cb:r.b=n
       . rw [if_pos cb];refine ⟨tyL ak,ixT (hx _) rfl (uU ak (f6 (by rw [List.length_map];omega)) ?_)⟩;rw [iQ];exact ⟨fin [r.a] (by rw [et,m9,e1,if_neg ca,if_pos cb];rfl),_,rfl⟩
       . rw [if_neg cb];have:=fin [] (by rw [et,m9,e1,if_neg ca,if_neg cb];rfl);rw [List.map_nil,List.append_nil] at this;exact ⟨this,_,rfl⟩
   . rintro σ H2 ⟨rfl,v,rfl⟩;rw [List.length_map,hlen,List.take_length];exact ⟨_,rfl,k l _ hn (Same.new _ hn) ak⟩
def gL (ks:List Int):List (Key × V):=ks.map fun k=>((Sum.inl k:Key),V.bl true)
theorem yi (ks:List Int):(gL ks).length=ks.length:=by unfold gL;rw [List.length_map]
theorem Bj (ks:List Int) (e:Int):jZ (gL ks) (Sum.inl e:Key)=if e∈ks then some (V.bl true) else none:=by
 unfold gL
 induction ks with
 | nil=>rfl
 | cons k ks ih =>
   rw [List.map_cons];by_cases c:k=e
   . rw [qk (by rw [c]),if_pos (by rw [c];exact List.mem_cons_self)]
   . rw [pJ (fun z=>c (Sum.inl.inj z)),ih];by_cases d:e∈ks
     . rw [if_pos d,if_pos (List.mem_cons_of_mem _ d)]
     . rw [if_neg d,if_neg (fun z=>by rcases List.mem_cons.mp z with z|z;exact c z.symm;exact d z)]
theorem Ht {ks:List Int} {e:Int} (h:e ∉ ks):fN (gL ks) (Sum.inl e:Key) (V.bl true)=gL (ks++[e]):=by
 rw [JF _ (by rw [Bj,if_neg h])];unfold gL;rw [List.map_append]
 rfl
def nc (T:Txt K mg):Sp:=fun vs H Q _=>∃ (m:Int) (t:Addr) (ps:List Addr) (rs:List Road),vs=[.int m,.ref t]/\SqT K H t (ps.map V.ref)/\RoadsAt H ps rs/\Good m rs/\∀ H',Same H H'->Q .non H'
abbrev aL:Stmt:=top 22
theorem d5:FnScope ["many","roads","reached","waiting","place","end"] ["many","roads"] (aa aL):=FnScope.of (by kernel_rfl)
theorem qE:NmL (aa aL) "many":=.of (by kernel_rfl)
theorem pE:NmL (aa aL) "roads":=.of (by kernel_rfl)
theorem cY:NmL (aa aL) "reached":=.of (by kernel_rfl)
theorem cX:NmL (aa aL) "waiting":=.of (by kernel_rfl)
theorem iP:NmL (aa aL) "place":=.of (by kernel_rfl)
theorem dW:NmL (aa aL) "end":=.of (by kernel_rfl)
theorem fC:NmG (aa aL) "other_ends":=.of (by kernel_rfl)
theorem fS:NmG (aa aL) "len":=.of (by kernel_rfl)
theorem CM:NmG (aa aL) "BadWeb":=.of (by kernel_rfl)
theorem we (T:Txt K mg) (hq:aN (CXe P w)) {f:Addr} {fd:FuncData} (D:Df K mg "check_joined" aL ["many","roads"] f fd) {cs:Addr} {fD:FuncData} (b7:Df K mg "other_ends" bH ["roads","place"] cs fD) (G_other_ends:FnOk P w K mg base (CXe P w) 1 cs fD ["roads","place"] (kR T)):FnOk P w K mg base (CXe P w) 2 f fd ["many","roads"] (nc T):=by
 refine D.F.okC d5 (fun vs H Q E h=>?_) (fun cdv A outer s H vs Q E hr h=>?_)
 . obtain ⟨m,t,ps,rs,rfl,_⟩:=h
   rfl
 . obtain ⟨m,t,ps,rs,rfl,ht,hp,g,k⟩:=h;have hu:=MP hr;refine ⟨_,(aj (aH (i:=2) d5.nd rfl (Or.inl cY.l) (KM (GZ ag kh Kw) rfl rfl (List.cons_ne_nil _ _) (by decide))) (aj (aH (i:=3) d5.nd rfl (Or.inl cX.l) (c6 (af ag ah))) (aj (Bi PassesOwn.never (HD (pvl 3 cX) (fun _=>rfl)) (aj (aH (i:=4) d5.nd rfl (Or.inl iP.l) (vu PySem.F.plainAttrs_list PySem.F.slot_list_pop PySem.F.type_list_pop vA (pvl 3 cX))) (al (gn PassesOwn.never rfl (tQ (au G_other_ends (hr.mono (by decide)) fC.g b7.m b7.F.kp b7.b .nil (az hq) (af (pvl 1 pE) (af (pvl 4 iP) ah)) (hdb:=fC.d))) (aM (i:=5) d5.nd rfl (Or.inl dW.l)) (al (aO (rH (Ff hu (pvl 5 dW) (pvl 2 cY))) (aj (K3 hu (pvl 2 cY) (pvl 5 dW) kh rfl) (al (bq (lO PySem.F.plainAttrs_list PySem.F.slot_list_append PySem.F.type_list_append d6 (pvl 3 cX) (af (pvl 5 dW) ah))))) aA)))))) (al (aO (aE wu (bK Gk fS.g T.len dM (af (pvl 2 cY) ah) (hn:=fS.n) (hdb:=fS.d)) (pvl 0 qE) (aG _)) (al gD) aA))))),?_⟩;rw [show L2.start ["many","roads","reached","waiting","place","end"] [V.int m,V.ref t]=[some (V.int m),some (V.ref t),none,none,none,none] from rfl];have m1:=g.m1;have m24:=g.m24;have glen:=g.len;walk_at "rd";intro d hd;refine ⟨ak,[(Sum.inl 0,.bl true)],rfl,by decide,?_⟩;rw [iQ];refine ⟨by decide,fun w0 hw=>?_⟩;have ed:pC [] [((Sum.inl 0:Key),V.bl true)]=gL [0]:=rfl;rw [ed];have ndw:w0≠d:=fun z=>by rw [z,ak] at hw;cases hw
   have hw0:H w0=none:=by rw [ao ndw] at hw;exact hw
   refine Dx (fun n σ H2=>∃ (ks ws:List Int) (v4 v5:Option V),n=2*(m.toNat - ks.length)+ws.length/\σ=[some (.int m),some (.ref t),some (.ref d),some (.ref w0),v4,v5]/\Same H H2/\H2 d=some (.dK (gL ks))/\H2 w0=some (.lst (ws.map V.int))/\JInv m rs ks ws) _ ⟨[0],[0],none,none,rfl,rfl,?_,?_,ak,JInv.start m1⟩ ?_
   . exact Same.trans (Same.new _ hd) (Same.new _ hw)
   . rw [ao ndw.symm,ak]
   rintro n σ H2 NW hN hN2 ⟨ks,ws,v4,v5,rfl,rfl,sm,h1,h2,J⟩;have kl:=mY (by omega) J.nd J.rng;refine ⟨_,rfl,!(ws.map V.int).isEmpty,.inl ⟨_,SqL.of h2,rfl⟩,?_⟩;rcases List.eq_nil_or_concat ws with rfl|⟨ws',p,rfl⟩
   . -- nothing waits: all places have been reached
     have full:=J.all m1 g.jn;refine M9 ?_;walk_at "rd";refine ⟨gL ks,h1,?_⟩;rw [yi,if_neg (by omega)];exact k _ sm
   . rw [List.concat_eq_append] at J h2 hN hN2 ⊢;have e1:(!(List.map V.int (ws'++[p])).isEmpty)=true:=(by simp);rw [e1];refine Ni ⟨NW,hN2,?_⟩;walk_at "rd";rw [List.map_append,List.map_cons,List.map_nil] at h2;refine ⟨tyL h2,Nf h2 ?_⟩;have ndw':d≠w0:=ndw.symm;have sm2:Same H (upd H2 w0 (.lst (ws'.map V.int))):=fun b o e=>by rw [ao (bw e hw0)];exact sm b o e
     refine ⟨t,ps,rs,p,rfl,Same.tup sm2 ht,RoadsAt.same sm2 hp,by omega,fun l H3 hn s3 hl=>?_⟩;have nlw:w0≠l:=bw (o:=.lst (ws'.map V.int)) ak hn;have nld:d≠l:=bw (o:=.dK (gL ks)) (by rw [ao ndw'];exact h1) hn;have hl0:H l=none:=sm2.free hn;refine ⟨l,rfl,⟨_,SqL.of hl⟩,r6 (K:=K) (xs:=(b8 rs p).map V.int) (fun i σ H4=>∃ (v5:Option V),σ=[some (.int m),some (.ref t),some (.ref d),some (.ref w0),some (.int p),v5]/\Same H H4/\H4 l=some (.lst ((b8 rs p).map V.int)) /\
       ∃ ks4 ws4:List Int,H4 d=some (.dK (gL ks4))/\H4 w0=some (.lst (ws4.map V.int))/\JMid m rs p ((b8 rs p).take i) ks4 ws4 ks ws'.length) ?_ (fun i σ H4 _ z=>by obtain ⟨_,_,_,z,_⟩:=z;exact SqL.of z) ?_ ?_⟩
     . refine ⟨_,rfl,sm2.trans s3,hl,ks,ws',?_,?_,?_⟩
       . exact s3 _ _ (by rw [ao ndw'];exact h1)
       . exact s3 _ _ ak
       . rw [List.take_zero];exact JMid.start J
     . rintro i x σ H4 NI hI hi ⟨v5,rfl,s4,hl4,ks4,ws4,hd4,hw4,M⟩;rw [List.getElem?_map] at hi;obtain ⟨e,he,rfl⟩:∃ e,(b8 rs p)[i]?=some e/\V.int e=x:=by
         cases q:(b8 rs p)[i]? with
         | none=>rw [q] at hi;cases hi
         | some e=>rw [q] at hi;exact ⟨e,rfl,Option.some.inj hi⟩
       have er:=Jp g.ok (List.mem_of_getElem? he);have et:(b8 rs p).take (i+1)=(b8 rs p).take i++[e]:=(by rw [List.take_succ,he];rfl);have st:=M.step er.1 er.2;have k4:=mY (by omega) M.nd M.rng;have mu4:=M.mu;walk_at "rd";refine ⟨_,DGet.k (k:=Sum.inl e) hd4,?_⟩;rw [Bj];by_cases c:e∈ks4
       . rw [if_pos c];rw [if_neg (by simp)];refine hI _ _ ⟨_,rfl,s4,hl4,ks4,ws4,hd4,hw4,?_⟩;rw [et];unfold vL at st;rw [if_pos c] at st;exact st
       . rw [if_neg c];rw [if_pos (by simp)];refine ⟨_,DPut.k (k:=Sum.inl e) hd4 (f6 (by rw [yi];omega)),?_⟩;rw [Ht c];have hw5:upd H4 d (.dK (gL (ks4++[e]))) w0=some (.lst (ws4.map V.int)):=(by rw [ao ndw];exact hw4);refine ⟨tyL hw5,uU hw5 (f6 (by rw [List.length_map];have:=M.wl;omega)) ?_⟩;have hmid:=M.mu;refine hI _ _ ⟨_,rfl,fun b o z=>?_,?_,ks4++[e],ws4++[e],?_,?_,?_⟩
         . rw [ao (bw z hw0),ao (bw z hd)];exact s4 b o z
         . rw [ao nlw.symm,ao nld.symm];exact hl4
         . rw [ao ndw',ak]
         . rw [ak,List.map_append];rfl
         . rw [et];unfold vL at st;rw [if_neg c] at st;exact st
     . rintro σ H4 ⟨v5,rfl,s4,hl4,ks4,ws4,hd4,hw4,M⟩;rw [List.length_map,List.take_length] at M;have k4:=mY (by omega) M.nd M.rng;have mu4:=M.mu;have up4:=M.up;refine hN _ _ _ ?_ ⟨ks4,ws4,some (.int p),v5,rfl,rfl,s4,hd4,hw4,M.done⟩;rw [List.length_append];simp only [List.length_cons,List.length_nil];omega
def pj (T:Txt K mg):Sp:=fun vs H Q _=>∃ (p:Addr) (r:Road),vs=[.ref p]/\H p=some (.tup (lH r))/\2<=r.t/\r.t<=1000000/\2<=r.u/\r.u<=1000000/\∀ H',Same H H'->Q .non H'
abbrev bo:Stmt:=top 21
theorem o7:FnScope ["road","number"] ["road"] (aa bo):=FnScope.of (by kernel_rfl)
theorem jG:NmL (aa bo) "road":=.of (by kernel_rfl)
theorem iE:NmL (aa bo) "number":=.of (by kernel_rfl)
theorem f9:NmG (aa bo) "LEAST_TOLL":=.of (by kernel_rfl)
theorem gm:NmG (aa bo) "MOST_TOLL":=.of (by kernel_rfl)
theorem C9:NmG (aa bo) "BadWeb":=.of (by kernel_rfl)
theorem wV (T:Txt K mg) (hq:aN (CXe P w)) {f:Addr} {fd:FuncData} (D:Df K mg "check_tolls" bo ["road"] f fd):FnOk P w K mg base (CXe P w) 1 f fd ["road"] (pj T):=by
 refine D.F.okC o7 (fun vs H Q E h=>?_) (fun cdv A outer s H vs Q E hr h=>?_)
 . obtain ⟨p,r,rfl,_⟩:=h
   rfl
 . obtain ⟨p,r,rfl,hp,t0,t1,u0,u1,k⟩:=h;refine ⟨_,(al (gn PassesOwn.never rfl (sU (eO (af (ap bc (pvl 0 jG) ag (fun _ _=>rfl)) (af (ap bc (pvl 0 jG) ag (fun _ _=>rfl)) ah)))) (aM (i:=1) o7.nd rfl (Or.inl iE.l)) (al (aO (d8 (AR ww ww (uH f9.g T.c_LEAST_TOLL (hd:=f9.d)) (pvl 1 iE) (uH gm.g T.c_MOST_TOLL (hd:=gm.d)))) (al gD) aA)))),?_⟩;rw [show L2.start ["road","number"] [V.ref p]=[some (V.ref p),none] from rfl];walk_at "rd";refine ixT hp rfl (ixT hp rfl ⟨bG (by simp),fun q hn=>?_⟩);have e1:upd H q (.tup [.int r.t,.int r.u]) q=some (.tup [.int r.t,.int r.u]):=ak;refine ⟨⟨_,SqT.of e1⟩,wD (K:=K) (xs:=[.int r.t,.int r.u]) (fun i σ H2=>H2=upd H q (.tup [.int r.t,.int r.u])/\∃ v,σ=[some (.ref p),v]) ⟨rfl,_,rfl⟩ (fun i σ H2 _ z=>by rw [z.1];exact SqT.of e1) ?_ ?_⟩
   . rintro i x σ H2 hi ⟨rfl,v,rfl⟩;have hx:∃ n:Int,x=.int n/\2<=n/\n<=1000000:=by
       match i,hi with
       | 0,hi=>exact ⟨r.t,by simpa using hi.symm,t0,t1⟩
       | 1,hi=>exact ⟨r.u,by simpa using hi.symm,u0,u1⟩
     obtain ⟨n,rfl,n0,n1⟩:=hx;walk_at "rd";rw [if_pos n0,if_neg (by omega)];exact ⟨_,rfl⟩
   . rintro σ H2 ⟨rfl,v,rfl⟩;exact k _ (Same.new _ hn)
/-- the attributes of a web -/
def wm (m:Int) (t:Addr):List (Str × V):=cW "roads" (.ref t) (cW "many" (.int m) [])
theorem MT:¬ (("many":Str)="roads"):=by decide +kernel
theorem fw (m:Int) (t:Addr):(wm m t).lookup ("many":Str)=some (.int m):=by
 unfold wm;rw [cH,if_neg MT,cH,if_pos rfl]
theorem nJ (m:Int) (t:Addr):(wm m t).lookup ("roads":Str)=some (.ref t):=by
 unfold wm;rw [cH,if_pos rfl]
/-- a web of m places and the roads rs stands at p,its tuple at t,the roads' tuples at ps -/
structure WebAt (C:Addr) (H:Hp) (p:Addr) (m:Int) (t:Addr) (ps:List Addr) (rs:List Road):Prop where
 ob:∃ dx,H p=some (.ins C dx (wm m t))
 tu:H t=some (.tup (ps.map V.ref))
 ro:RoadsAt H ps rs
 go:Good m rs
theorem WebAt.same {C:Addr} {H H':Hp} {p:Addr} {m:Int} {t:Addr} {ps:List Addr} {rs:List Road} (e:Same H H') (h:WebAt C H p m t ps rs):WebAt C H' p m t ps rs :=
 ⟨let ⟨dx,q⟩:=h.ob;⟨dx,e _ _ q⟩,e _ _ h.tu,RoadsAt.same e h.ro,h.go⟩
def fZ (T:Txt K mg):Sp:=fun vs H Q _=>∃ (p dx:Addr) (m:Int) (c:Bool) (a:Addr) (ps:List Addr) (rs:List Road),vs=[.ref p,.int m,.ref a]/\H p=some (.ins T.Web dx [])/\SqX K c H a (ps.map V.ref)/\RoadsAt H ps rs/\Good m rs /\
 ∀ t H',H t=none->WebAt T.Web H' p m t ps rs->(∀ b o,H b=some o->b≠p->H' b=some o)->Q .non H'
abbrev aI:Stmt:=fG (top 14) 0
theorem iZ:FnScope ["self","many","roads","kept","road"] ["self","many","roads"] (aa aI):=FnScope.of (by kernel_rfl)
theorem iW:NmL (aa aI) "self":=.of (by kernel_rfl)
theorem dE:NmL (aa aI) "many":=.of (by kernel_rfl)
theorem o0:NmL (aa aI) "roads":=.of (by kernel_rfl)
theorem cP:NmL (aa aI) "kept":=.of (by kernel_rfl)
theorem fq:NmL (aa aI) "road":=.of (by kernel_rfl)
theorem eU:NmG (aa aI) "tuple":=.of (by kernel_rfl)
theorem eS:NmG (aa aI) "check_counts":=.of (by kernel_rfl)
theorem fE:NmG (aa aI) "check_ends":=.of (by kernel_rfl)
theorem fb:NmG (aa aI) "check_tolls":=.of (by kernel_rfl)
theorem eP:NmG (aa aI) "check_joined":=.of (by kernel_rfl)
theorem vI (T:Txt K mg) (hq:aN (CXe P w)) {f:Addr} {fd:FuncData} (F:Fun K "__init__" "Web.__init__" aI f fd) {c9:Addr} {ni:FuncData} (dI:Df K mg "check_counts" aZ ["many","roads"] c9 ni) (G_check_counts:FnOk P w K mg base (CXe P w) 1 c9 ni ["many","roads"] (nC T)) {dP:Addr} {qW:FuncData} (eV:Df K mg "check_ends" bT ["many","road"] dP qW) (G_check_ends:FnOk P w K mg base (CXe P w) 2 dP qW ["many","road"] (qS T)) {da:Addr} {nB:FuncData} (dH:Df K mg "check_joined" aL ["many","roads"] da nB) (G_check_joined:FnOk P w K mg base (CXe P w) 2 da nB ["many","roads"] (nc T)) {dv:Addr} {pq:FuncData} (d4:Df K mg "check_tolls" bo ["road"] dv pq) (G_check_tolls:FnOk P w K mg base (CXe P w) 1 dv pq ["road"] (pj T)):FnOk P w K mg base (CXe P w) 3 f fd ["self","many","roads"] (fZ T):=by
 refine F.okC iZ (fun vs H Q E h=>?_) (fun cdv A outer s H vs Q E hr h=>?_)
 . obtain ⟨p,dx,m,c,a,ps,rs,rfl,_⟩:=h
   rfl
 . obtain ⟨p,dx,m,c,a,ps,rs,rfl,hp,ha,hro,g,k⟩:=h;refine ⟨_,(aj (aH (i:=3) iZ.nd rfl (Or.inl cP.l) (cU dn eU.g T.tuple gC (af (wA rfl (uG (Nc:=["road"]) 1 (by decide +kernel) (by decide +kernel) rfl (by decide +kernel) rfl) (Ft c (pvl 2 o0)) (fun _ _ _ _=>(aM (i:=0) (show (["road"]:List Str).Nodup from by decide +kernel) rfl (Or.inl rfl))) (fun _ _ _ _=>xg) (fun _ _ _ _=>(cU (xK K rfl) (by rfl) T.tuple gC (af (pv 0) ah)))) ah) (hn:=eU.n) (hdb:=eU.d))) (aj (bq (au G_check_counts (hr.mono (by decide)) eS.g dI.m dI.F.kp dI.b .nil (az hq) (af (pvl 1 dE) (af (pvl 3 cP) ah)) (hdb:=eS.d))) (aj (gn PassesOwn.never rfl (sU (pvl 3 cP)) (aM (i:=4) iZ.nd rfl (Or.inl fq.l)) (aj (bq (au G_check_ends (hr.mono (by decide)) fE.g eV.m eV.F.kp eV.b .nil (az hq) (af (pvl 1 dE) (af (pvl 4 fq) ah)) (hdb:=fE.d))) (al (bq (au G_check_tolls (hr.mono (by decide)) fb.g d4.m d4.F.kp d4.b .nil (az hq) (af (pvl 4 fq) ah) (hdb:=fb.d)))))) (aj (bq (au G_check_joined (hr.mono (by decide)) eP.g dH.m dH.F.kp dH.b .nil (az hq) (af (pvl 1 dE) (af (pvl 3 cP) ah)) (hdb:=eP.d))) (aj (vC (pvl 0 iW) (pvl 1 dE) rfl) (al (vC (pvl 0 iW) (pvl 3 cP) rfl))))))),?_⟩;rw [show L2.start ["self","many","roads","kept","road"] [V.ref p,V.int m,V.ref a]=[some (V.ref p),some (V.int m),some (V.ref a),none,none] from rfl];walk_at "rd";refine ⟨⟨_,ha⟩,fun l hl=>?_⟩;have hlen:ps.length=rs.length:=Paired.length hro;have glen:=g.len;have m24:=g.m24;have hl1:Same H (upd H l (.lst [])):=Same.new _ hl;refine Bt (K:=K) (xs:=ps.map V.ref) (fun i ys σ H2=>H2=upd H l (.lst ((ps.take i).map V.ref))/\ys=(ps.take i).map V.ref/\∃ v,σ=[v]) ⟨rfl,rfl,_,rfl⟩ (fun i ys σ H2 _ ⟨z,_⟩=>by rw [z];exact Same.sqX (Same.new _ hl) ha) ?_ ?_
   . rintro i x ys σ H2 N hN hi ⟨rfl,rfl,v,rfl⟩;obtain ⟨q,r,rfl,h1,h2,h3⟩:=hro.get hi;have nq:q≠l:=bw h3 hl;have hil:i<ps.length:=(List.getElem?_eq_some_iff.mp h1).1;have et:ps.take (i+1)=ps.take i++[q]:=(by rw [List.take_succ,h1];rfl);walk_at "rd";refine ⟨lH r,.inr ⟨SqT.of (by rw [ao nq];exact h3),ak,f6 (by rw [List.length_map,List.length_take];omega),hN _ _ _ ⟨?_,?_,_,rfl⟩⟩⟩
     . rw [iQ,et,List.map_append];rfl
     . rw [et,List.map_append];rfl
   . rintro ys σ H2 ⟨rfl,rfl,v,rfl⟩;rw [List.length_map,List.take_length];refine ⟨l,rfl,ps.map V.ref,.inl ⟨SqL.of ak,fun t ht=>?_⟩⟩;have s1:Same H (upd H l (.lst (ps.map V.ref))):=Same.new _ hl;have s2:Same (upd H l (.lst (ps.map V.ref))) (upd (upd H l (.lst (ps.map V.ref))) t (.tup (ps.map V.ref))):=Same.new _ ht;have ht0:H t=none:=s1.free ht;have ht1:∀ {H':Hp},Same (upd (upd H l (.lst (ps.map V.ref))) t (.tup (ps.map V.ref))) H'->H' t=some (.tup (ps.map V.ref)):=fun e=>e _ _ ak;refine ⟨m,t,ps.map V.ref,rfl,SqT.of ak,g.m1,g.m24,by rw [List.length_map];omega,⟨_,SqT.of ak⟩,?_⟩;refine AN (K:=K) (xs:=ps.map V.ref) (fun i σ H3=>Same (upd (upd H l (.lst (ps.map V.ref))) t (.tup (ps.map V.ref))) H3/\∃ v,σ=[some (.ref p),some (.int m),some (.ref a),some (.ref t),v]) ⟨Same.refl _,_,rfl⟩ (fun i σ H3 _ ⟨z,_⟩=>SqT.of (ht1 z)) ?_ ?_
     . rintro i x σ H3 N hN hi ⟨s3,v,rfl⟩;have s03:=s1.trans (s2.trans s3);obtain ⟨q,r,rfl,h1,h2,h3⟩:=hro.get hi;have ok:=g.ok r (List.mem_of_getElem? h2);walk_at "rd";refine ⟨m,q,r,rfl,s03 _ _ h3,ok.a0,ok.a1,ok.b0,ok.b1,ok.ne,?_⟩;exact ⟨q,r,rfl,s03 _ _ h3,ok.t0,ok.t1,ok.u0,ok.u1,fun H4 s4=>hN _ _ ⟨s3.trans s4,_,rfl⟩⟩
     . rintro σ H3 ⟨s3,v,rfl⟩;have s03:=s1.trans (s2.trans s3);walk_at "rd";refine ⟨m,t,ps,rs,rfl,SqT.of (ht1 s3),RoadsAt.same s03 hro,g,fun H4 s4=>?_⟩;have s04:=s03.trans s4;have ntp:t≠p:=fun z=>by rw [z,hp] at ht0;cases ht0
       refine ⟨T.Web,dx,[],s04 _ _ hp,T.gc,T.n_many,by decide,?_⟩;refine ⟨T.Web,dx,_,ak,T.gc,T.n_roads,by show 1<1000;decide,?_⟩;rw [iQ];refine k t _ ht0 ⟨⟨dx,ak⟩,?_,?_,g⟩ fun b o hb nb=>?_
       . rw [ao ntp];exact ht1 (s3.trans s4)
       . refine Paired.imp' (fun q r hq=>?_) hro;rw [ao (cy hq hp (by intro z;cases z))];exact s04 _ _ hq
       . rw [ao nb];exact s04 _ _ hb
/-- Web(m,roads),at a call: nothing is changed,a new web stands -/
theorem E1 (T:Txt K mg) {H:Hp} {m:Int} {c:Bool} {a:Addr} {ps:List Addr} {rs:List Road} {Q:Addr->Hp->Prop} (ha:SqX K c H a (ps.map V.ref)) (ro:RoadsAt H ps rs) (g:Good m rs)
   (k:∀ x t H',H x=none->H t=none->Same H H'->WebAt T.Web H' x m t ps rs->Q x H') :
   ∀ x dx,H x=none->H dx=none->dx≠x->fZ T [.ref x,.int m,.ref a] (upd (upd H dx (.own x)) x (.ins T.Web dx [])) (fun v H2=>v=.non/\Q x H2) E0:=by
 intro x dx hx hdx ne;have hx1:upd H dx (.own x) x=none:=by rw [ao ne.symm];exact hx
 have s0:Same H (upd (upd H dx (.own x)) x (.ins T.Web dx [])):=(Same.new _ hdx).trans (Same.new _ hx1);exact ⟨x,dx,m,c,a,ps,rs,rfl,ak,Same.sqX s0 ha,RoadsAt.same s0 ro,g,fun t H' ht W kp=>⟨rfl,k x t H' hx (s0.free ht) (fun b o e=>kp b o (s0 b o e) (bw e hx)) W⟩⟩
def sZ (T:Txt K mg):Sp:=fun vs H Q _=>∃ (c:Int),vs=[.int c]/\∀ (p:Addr) (t u:Int),H p=none->2<=t->t<=1000000->2<=u->u<=1000000->Q (.ref p) (upd H p (.tup [.int t,.int u]))
abbrev cr:Stmt:=top 43
theorem eX:FnScope ["t","there","back"] ["t"] (aa cr):=FnScope.of (by kernel_rfl)
theorem c8:NmL (aa cr) "t":=.of (by kernel_rfl)
theorem ef:NmL (aa cr) "there":=.of (by kernel_rfl)
theorem eK:NmL (aa cr) "back":=.of (by kernel_rfl)
theorem A4 (T:Txt K mg) (hq:aN (CXe P w)) {f:Addr} {fd:FuncData} (D:Df K mg "_law_tolls" cr ["t"] f fd):FnOk P w K mg base (CXe P w) 1 f fd ["t"] (sZ T):=by
 refine D.F.okC eX (fun vs H Q E h=>?_) (fun cdv A outer s H vs Q E hr h=>?_)
 . obtain ⟨c,rfl,_⟩:=h
   rfl
 . obtain ⟨c,rfl,k⟩:=h;refine ⟨_,(aj (aH (i:=1) eX.nd rfl (Or.inl ef.l) (am cN ag (am aW (am bE (pvl 0 c8) ag) ag))) (aj (aH (i:=2) eX.nd rfl (Or.inl eK.l) (am cN ag (am aW (am bE (pvl 0 c8) ag) ag))) (aj (aO (aE bR (am aW (pvl 0 c8) ag) ag (aG _)) (al (aH (i:=2) eX.nd rfl (Or.inl eK.l) (pvl 1 ef))) aA) (aj (aO (PW.pt (mi (aE bR (am aW (pvl 0 c8) ag) ag (aG _)) (jS (aE bR (am aW (am bE (pvl 0 c8) ag) ag) ag (aG _))))) (aj (aH (i:=1) eX.nd rfl (Or.inl ef.l) (am cN ag (am aW (am bE (pvl 0 c8) ag) ag))) (al (aH (i:=2) eX.nd rfl (Or.inl eK.l) (am cN ag (am aW (am bE (am bE (pvl 0 c8) ag) ag) ag))))) aA) (al (aF (eO (af (pvl 1 ef) (af (pvl 2 eK) ah))))))))),?_⟩;rw [show L2.start ["t","there","back"] [V.int c]=[some (V.int c),none,none] from rfl];have em:∀ (x n:Int),0<n->0<=x % n/\x % n<n:=fun x n h=>⟨Int.emod_nonneg x (Int.ne_of_gt h),Int.emod_lt_of_pos x h⟩;have a1:=em (c / 4) 3 (by decide);have a2:=em (c / 12) 3 (by decide);have a3:=em (c / 144) 999999 (by decide);have a4:=em (c / 144 / 999999) 999999 (by decide);have cd:∀ x n:Int,0<n->n<1073741824->u6 x n:=fun x n h1 h2=>⟨h1,h2⟩;have z2:∀ x y:V,[x,y].length<=sizeLine:=fun x y=>bG (by simp);walk_at "rd";refine ⟨cd _ _ (by decide) (by decide),by decide,cd _ _ (by decide) (by decide),by decide,by decide,?_⟩;have far:u6 c 36/\(0:Int)<4/\u6 c 144/\(0:Int)<999999/\u6 (c / 144) 999999:=⟨cd _ _ (by decide) (by decide),by decide,cd _ _ (by decide) (by decide),by decide,cd _ _ (by decide) (by decide)⟩;obtain ⟨f1,f2,f3,f4,f5⟩:=far;have k1:∀ p,H p=none->Q (.ref p) (upd H p (.tup [.int (2+c / 144 % 999999),.int (2+c / 144 / 999999 % 999999)])):=fun p hp=>k p _ _ hp (by omega) (by omega) (by omega) (by omega);have k2:∀ p,H p=none->Q (.ref p) (upd H p (.tup [.int (2+c / 4 % 3),.int (2+c / 4 % 3)])):=fun p hp=>k p _ _ hp (by omega) (by omega) (by omega) (by omega);have k3:∀ p,H p=none->Q (.ref p) (upd H p (.tup [.int (2+c / 4 % 3),.int (2+c / 12 % 3)])):=fun p hp=>k p _ _ hp (by omega) (by omega) (by omega) (by omega);by_cases y1:c % 4=1
   . rw [if_pos y1];refine ⟨f2,?_⟩;rw [if_neg (by omega)];exact ⟨z2 _ _,k2⟩
   . rw [if_neg y1];refine ⟨f2,?_⟩;by_cases y2:c % 4=2
     . rw [if_pos y2];refine ⟨f1,f2,?_⟩;by_cases y3:c / 36 % 4=1
       . rw [if_pos y3];exact ⟨f3,f4,f3,f5,f4,z2 _ _,k1⟩
       . rw [if_neg y3];exact ⟨z2 _ _,k3⟩
     . rw [if_neg y2];exact ⟨z2 _ _,k3⟩
/-- the fields of a desk -/
def lP (wb pl:Addr):List (Str × V):=cW "past" (.ref pl) (cW "web" (.ref wb) [])
theorem tm (wb pl:Addr):(lP wb pl).lookup ("web":Str)=some (.ref wb):=by
 unfold lP;rw [cH,if_neg (by decide +kernel),cH,if_pos rfl]
theorem jv (wb pl:Addr):(lP wb pl).lookup ("past":Str)=some (.ref pl):=by
 unfold lP;rw [cH,if_pos rfl]
theorem Aq {wb pl:Addr} {m:Str} (h1:¬ m="past") (h2:¬ m="web"):(lP wb pl).lookup m=none:=by
 unfold lP;rw [cH,if_neg h1,cH,if_neg h2]
 rfl
/-- a laying and a wish stand at q -/
def StAt (H:Hp) (q:Addr) (s:List Int × List Int):Prop:=∃ a b,H q=some (.tup [.ref a,.ref b])/\H a=some (.tup (s.1.map V.int))/\H b=some (.tup (s.2.map V.int))
/-- a desk stands at o: its web at wb,what was at pl -/
structure DeskAt (C O:Addr) (H:Hp) (o wb pl:Addr) (m:Int) (t:Addr) (ps:List Addr) (rs:List Road) (sts:List (List Int × List Int)):Prop where
 ob:∃ dx,H o=some (.ins O dx (lP wb pl))
 web:WebAt C H wb m t ps rs
 pa:∃ qs:List Addr,H pl=some (.lst (qs.map V.ref))/\Paired (StAt H) qs sts
theorem DeskAt.same {C O:Addr} {H H':Hp} {o wb pl:Addr} {m:Int} {t:Addr} {ps:List Addr} {rs:List Road} {sts:List (List Int × List Int)} (e:Same H H') (h:DeskAt C O H o wb pl m t ps rs sts):DeskAt C O H' o wb pl m t ps rs sts :=
 ⟨let ⟨dx,q⟩:=h.ob;⟨dx,e _ _ q⟩,h.web.same e,let ⟨qs,h1,h2⟩:=h.pa;⟨qs,e _ _ h1,Paired.imp' (fun q s ⟨a,b,x,y,z⟩=>⟨a,b,e _ _ x,e _ _ y,e _ _ z⟩) h2⟩⟩
/-- only what was at l has changed -/
theorem StAt.kpt {H H':Hp} {l q:Addr} {s:List Int × List Int} {xs:List V} (e:Kpt l H H') (hl:H l=some (.lst xs)) (h:StAt H q s):StAt H' q s:=by
 obtain ⟨a,b,x,y,z⟩:=h;exact ⟨a,b,e _ _ x (cy x hl (by intro z;cases z)),e _ _ y (cy y hl (by intro z;cases z)),e _ _ z (cy z hl (by intro z;cases z))⟩
theorem WebAt.kptL {C:Addr} {H H':Hp} {l p:Addr} {m:Int} {t:Addr} {ps:List Addr} {rs:List Road} {xs:List V} (e:Kpt l H H') (hl:H l=some (.lst xs)) (h:WebAt C H p m t ps rs):WebAt C H' p m t ps rs :=
 ⟨let ⟨dx,q⟩:=h.ob;⟨dx,e _ _ q (cy q hl (by intro z;cases z))⟩,e _ _ h.tu (cy h.tu hl (by intro z;cases z)),Paired.imp' (fun q x z=>e _ _ z (cy z hl (by intro z;cases z))) h.ro,h.go⟩
theorem WebAt.kptI {C O:Addr} {H H':Hp} {o p:Addr} {m:Int} {t dx:Addr} {ps:List Addr} {rs:List Road} {fs:List (Str × V)} (e:Kpt o H H') (ho:H o=some (.ins O dx fs)) (h:WebAt C H p m t ps rs) (n:p≠o:=by assumption):WebAt C H' p m t ps rs :=
 ⟨let ⟨dx,q⟩:=h.ob;⟨dx,e _ _ q n⟩,e _ _ h.tu (cy h.tu ho (by intro z;cases z)),Paired.imp' (fun q x z=>e _ _ z (cy z ho (by intro z;cases z))) h.ro,h.go⟩
theorem DeskAt.kpt {C O:Addr} {H H':Hp} {o wb pl l:Addr} {m:Int} {t:Addr} {ps:List Addr} {rs:List Road} {sts:List (List Int × List Int)} {xs:List V} (e:Kpt l H H') (hl:H l=some (.lst xs)) (n:pl≠l) (h:DeskAt C O H o wb pl m t ps rs sts):DeskAt C O H' o wb pl m t ps rs sts :=
 ⟨let ⟨dx,q⟩:=h.ob;⟨dx,e _ _ q (cy q hl (by intro z;cases z))⟩,h.web.kptL e hl,let ⟨qs,h1,h2⟩:=h.pa;⟨qs,e _ _ h1 n,Paired.imp' (fun q s x=>x.kpt e hl) h2⟩⟩
/-- the newest one -/
theorem DeskAt.last {C O:Addr} {H:Hp} {o wb pl:Addr} {m:Int} {t:Addr} {ps:List Addr} {rs:List Road} {sts:List (List Int × List Int)} {s:List Int × List Int} (h:DeskAt C O H o wb pl m t ps rs (sts++[s])):∃ (qs:List Addr) (q a b:Addr),H pl=some (.lst ((qs++[q]).map V.ref))/\Paired (StAt H) qs sts/\atI ((qs++[q]).map V.ref) (-1)=some (.ref q)/\H q=some (.tup [.ref a,.ref b])/\H a=some (.tup (s.1.map V.int))/\H b=some (.tup (s.2.map V.int)):=by
 obtain ⟨qs,h1,h2⟩:=h.pa;obtain ⟨qs',q,rfl,h3,a,b,h4,h5,h6⟩:=qa h2;refine ⟨qs',q,a,b,h1,h3,?_,h4,h5,h6⟩;rw [List.map_append];exact Dw _ _
theorem DeskAt.meth {C O:Addr} {H:Hp} {o wb pl:Addr} {m:Int} {t:Addr} {ps:List Addr} {rs:List Road} {sts:List (List Int × List Int)} (h:DeskAt C O H o wb pl m t ps rs sts) {mt:Str} {R:Prop} (q:R) (h1:¬ mt="past":=by decide +kernel) (h2:¬ mt="web":=by decide +kernel):∃ x x_1,H o=some (.ins O x x_1)/\x_1.lookup mt=none/\R :=
 let ⟨dx,ob⟩:=h.ob;⟨dx,_,ob,Aq h1 h2,q⟩
theorem DeskAt.wb_ {C O:Addr} {H:Hp} {o wb pl:Addr} {m:Int} {t:Addr} {ps:List Addr} {rs:List Road} {sts:List (List Int × List Int)} (T:Cls K O) (T2:NoAttr K O "web") (h:DeskAt C O H o wb pl m t ps rs sts) {R:V->Prop} (q:R (.ref wb)):∃ x x_1 x_2,H o=some (.ins x x_1 x_2)/\Cls K x/\NoAttr K x "web"/\∃ x_3,x_2.lookup ("web":Str)=some x_3/\R x_3 :=
 let ⟨dx,ob⟩:=h.ob;⟨O,dx,_,ob,T,T2,_,tm _ _,q⟩
def iw (T:Txt K mg):Sp:=fun vs H Q _=>∃ (o dx w t:Addr) (m:Int) (ps:List Addr) (rs:List Road),vs=[.ref o,.ref w]/\H o=some (.ins T.Desk dx [])/\WebAt T.Web H w m t ps rs /\
 ∀ wb pl t' H',H pl=none->DeskAt T.Web T.Desk H' o wb pl m t' ps rs [(zrs m,zrs m)]->(∀ b x,H b=some x->b≠o->H' b=some x)->Q .non H'
abbrev ba:Stmt:=fG (top 39) 0
theorem lZ:FnScope ["self","web","noughts"] ["self","web"] (aa ba):=FnScope.of (by kernel_rfl)
theorem iJ:NmL (aa ba) "self":=.of (by kernel_rfl)
theorem fe:NmL (aa ba) "web":=.of (by kernel_rfl)
theorem dN:NmL (aa ba) "noughts":=.of (by kernel_rfl)
theorem ji:NmG (aa ba) "Web":=.of (by kernel_rfl)
theorem eI:NmG (aa ba) "tuple":=.of (by kernel_rfl)
theorem u9 (T:Txt K mg) (hq:aN (CXe P w)) {f:Addr} {fd:FuncData} (F:Fun K "__init__" "Desk.__init__" ba f fd) {f_Web___init__:Addr} {cM:FuncData} (F_Web___init__:Fun K "__init__" "Web.__init__" aI f_Web___init__ cM) (b_Web:Binds K cM ["self","many","roads"] []) (tK:Mk K T.Web f_Web___init__) (G_Web_init:FnOk P w K mg base (CXe P w) 3 f_Web___init__ cM ["self","many","roads"] (fZ T)):FnOk P w K mg base (CXe P w) 5 f fd ["self","web"] (iw T):=by
 refine F.okC lZ (fun vs H Q E h=>?_) (fun cdv A outer s H vs Q E hr h=>?_)
 . obtain ⟨o,dx,w,t,m,ps,rs,rfl,_⟩:=h
   rfl
 . obtain ⟨o,dx,w,t,m,ps,rs,rfl,ho,W,k⟩:=h;have g:=W.go;have m24:=g.m24;have m1:=g.m1;obtain ⟨dw,wb⟩:=W.ob;refine ⟨_,(aj (vC (pvl 0 iJ) (tS tK G_Web_init (hr.mono (by decide)) ji.g T.Ko b_Web .nil (az hq) (af (cZ  (pvl 1 fe) rfl) (af (cZ  (pvl 1 fe) rfl) ah)) (hdb:=ji.d)) rfl) (aj (aH (i:=2) lZ.nd rfl (Or.inl dN.l) (cU dn eI.g T.tuple gC (af (am pr (c6 (af ag ah)) (cZ  (pvl 1 fe) rfl)) ah) (hn:=eI.n) (hdb:=eI.d))) (al (vC (pvl 0 iJ) (c6 (af (eO (af (pvl 2 dN) (af (pvl 2 dN) ah))) ah)) rfl)))),?_⟩;rw [show L2.start ["self","web","noughts"] [V.ref o,V.ref w]=[some (V.ref o),some (V.ref w),none] from rfl];walk_at "rd";refine ⟨T.Web,dw,_,wb,T.gc,T.n_many,_,fw _ _,T.Web,dw,_,wb,T.gc,T.n_roads,_,nJ _ _,?_⟩;refine E1 T (c:=false) (SqT.of W.tu) W.ro g fun x tw H1 hx htw s1 W1=>?_;have ho1:=s1 _ _ ho;have nxo:x≠o:=fun z=>by rw [z,ho] at hx;cases hx
   have nwo:w≠o:=cy wb ho (by
     intro z;injection z with _ _ z
     have:=fw m t;rw [z] at this;cases this)
   refine ⟨T.Desk,dx,[],ho1,T.aQ,T.n_web,by decide,by decide,fun l1 n1=>?_⟩;have k1:Kpt o H (upd H1 o (.ins T.Desk dx (cW "web" (.ref x) []))):=(Kpt.refl.then s1).put _;have o1:upd H1 o (.ins T.Desk dx (cW "web" (.ref x) [])) o=some (.ins T.Desk dx (cW "web" (.ref x) [])):=ak;have kw:Kpt o H1 (upd H1 o (.ins T.Desk dx (cW "web" (.ref x) []))):=Kpt.refl.put _;have kn:∀ {p:Addr},upd H1 o (.ins T.Desk dx (cW "web" (.ref x) [])) p=none->H1 p=none:=fun {p} h=>by
     cases e:H1 p with
     | none=>rfl
     | some y =>
       by_cases z:p=o
       . rw [z,o1] at h;cases h
       . rw [kw p y e z] at h;cases h
   have W2:WebAt T.Web (upd H1 o (.ins T.Desk dx (cW "web" (.ref x) []))) x m tw ps rs:=W1.kptI kw ho1;have W2':WebAt T.Web (upd H1 o (.ins T.Desk dx (cW "web" (.ref x) []))) w m t ps rs:=(W.same s1).kptI kw ho1;generalize upd H1 o (.ins T.Desk dx (cW "web" (.ref x) []))=H2 at k1 o1 kw kn W2 W2' n1 ⊢;obtain ⟨dw2,wb2⟩:=W2'.ob;have v1:=Same.new (.lst [V.int 0]) n1;refine ⟨T.Web,dw2,_,v1 _ _ wb2,T.gc,T.n_many,_,fw _ _,?_⟩;refine ⟨l1,m,[V.int 0],rfl,rfl,ak,by omega,by omega,bG (by simp;omega),fun l2 n2=>?_⟩;rw [Al,<- C7];have v2:=v1.trans (Same.new (.lst ((zrs m).map V.int)) n2);have e2:upd (upd H2 l1 (.lst [V.int 0])) l2 (.lst ((zrs m).map V.int)) l2=some (.lst ((zrs m).map V.int)):=ak;generalize upd (upd H2 l1 (.lst [V.int 0])) l2 (.lst ((zrs m).map V.int))=H3 at v2 e2 ⊢;refine ⟨l2,rfl,_,.inl ⟨SqL.of e2,fun l3 n3=>?_⟩⟩;have v3:=v2.trans (Same.new (.tup ((zrs m).map V.int)) n3);have e3:upd H3 l3 (.tup ((zrs m).map V.int)) l3=some (.tup ((zrs m).map V.int)):=ak;generalize upd H3 l3 (.tup ((zrs m).map V.int))=H4 at v3 e3 ⊢;refine ⟨bG (by simp),fun l4 n4=>⟨bG (by simp),fun l5 n5=>?_⟩⟩;have v4:=v3.trans (Same.new (.tup [V.ref l3,V.ref l3]) n4);have e4:upd H4 l4 (.tup [V.ref l3,V.ref l3]) l4=some (.tup [V.ref l3,V.ref l3]):=ak;have e34:=Same.new (.tup [V.ref l3,V.ref l3]) n4 _ _ e3;generalize upd H4 l4 (.tup [V.ref l3,V.ref l3])=H5 at v4 e4 e34 n5 ⊢;have v5s:=Same.new (.lst [V.ref l4]) n5;have v5:=v4.trans v5s;have e5:upd H5 l5 (.lst [V.ref l4]) l5=some (.lst [V.ref l4]):=ak;have e45:=v5s _ _ e4;have e35:=v5s _ _ e34;have n5H2:=v4.free n5;generalize upd H5 l5 (.lst [V.ref l4])=H6 at v5 e5 e45 e35 ⊢;have o6:=v5 _ _ o1;refine ⟨T.Desk,dx,_,o6,T.aQ,T.n_past,by show 1<1000;decide,?_⟩;have k6:Kpt o H6 (upd H6 o (.ins T.Desk dx (lP x l5))):=Kpt.refl.put _;have n5H:H l5=none:=s1.free (kn n5H2);show Q .non (upd H6 o (.ins T.Desk dx (lP x l5)));refine k x l5 tw _ n5H ⟨⟨dx,ak⟩,(W2.same v5).kptI k6 o6,[l4],k6 _ _ e5 (cy e5 o6 (by intro z;cases z)),.cons ⟨l3,l3,k6 _ _ e45 (cy e45 o6 (by intro z;cases z)),k6 _ _ e35 (cy e35 o6 (by intro z;cases z)),k6 _ _ e35 (cy e35 o6 (by intro z;cases z))⟩ .nil⟩ ?_;exact fun b x hb nb=>k6 _ _ (v5 _ _ (k1 b x hb nb)) nb
def lh (T:Txt K mg):Sp:=fun vs H Q _=>∃ (o wb pl t:Addr) (m:Int) (ps:List Addr) (rs:List Road) (sts:List (List Int × List Int)),vs=[.ref o]/\DeskAt T.Web T.Desk H o wb pl m t ps rs sts/\Q (.int ((sts.length:Int) - 1)) H
abbrev ck:Stmt:=fG (top 39) 8
theorem ze:FnScope ["self"] ["self"] (aa ck):=FnScope.of (by kernel_rfl)
theorem sR:NmL (aa ck) "self":=.of (by kernel_rfl)
theorem gR:NmG (aa ck) "len":=.of (by kernel_rfl)
theorem yY (T:Txt K mg) (hq:aN (CXe P w)) {f:Addr} {fd:FuncData} (F:Fun K "deeds" "Desk.deeds" ck f fd):FnOk P w K mg base (CXe P w) 1 f fd ["self"] (lh T):=by
 refine F.okC ze (fun vs H Q E h=>?_) (fun cdv A outer s H vs Q E hr h=>?_)
 . obtain ⟨o,wb,pl,t,m,ps,rs,sts,rfl,_⟩:=h
   rfl
 . obtain ⟨o,wb,pl,t,m,ps,rs,sts,rfl,O,k⟩:=h;obtain ⟨dx,ob⟩:=O.ob;obtain ⟨qs,h1,h2⟩:=O.pa;refine ⟨_,(al (aF (am kK (bK bx gR.g T.len dM (af (cZ  (pvl 0 sR) rfl) ah) (hn:=gR.n) (hdb:=gR.d)) ag))),?_⟩;rw [show L2.start ["self"] [V.ref o]=[some (V.ref o)] from rfl];walk_at "rd";refine ⟨T.Desk,dx,_,ob,T.aQ,T.n_past,_,jv _ _,pl,rfl,_,.inl (SqL.of h1),?_⟩;rw [List.length_map,Paired.length h2];exact k
def mX (T:Txt K mg):Sp:=fun vs H Q _=>∃ (o wb pl t:Addr) (m:Int) (ps:List Addr) (rs:List Road) (sts:List (List Int × List Int)) (s:List Int × List Int),vs=[.ref o]/\DeskAt T.Web T.Desk H o wb pl m t ps rs (sts++[s])/\sts≠[] /\
 ∀ H',DeskAt T.Web T.Desk H' o wb pl m t ps rs sts->Kpt pl H H'->Q .non H'
abbrev cD:Stmt:=fG (top 39) 5
theorem BJ:FnScope ["self"] ["self"] (aa cD):=FnScope.of (by kernel_rfl)
theorem lB:NmL (aa cD) "self":=.of (by kernel_rfl)
theorem EV:NmG (aa cD) "NoDeed":=.of (by kernel_rfl)
theorem AQ (T:Txt K mg) (hq:aN (CXe P w)) {f:Addr} {fd:FuncData} (F:Fun K "back" "Desk.back" cD f fd) {f_Desk_deeds:Addr} {du:FuncData} (F_Desk_deeds:Fun K "deeds" "Desk.deeds" ck f_Desk_deeds du) (b_Desk_deeds:Binds K du ["self"] []) (dQ:Meth K T.Desk "deeds" f_Desk_deeds) (G_Desk_deeds:FnOk P w K mg base (CXe P w) 1 f_Desk_deeds du ["self"] (lh T)):FnOk P w K mg base (CXe P w) 3 f fd ["self"] (mX T):=by
 refine F.okC BJ (fun vs H Q E h=>?_) (fun cdv A outer s H vs Q E hr h=>?_)
 . obtain ⟨o,wb,pl,t,m,ps,rs,sts,s,rfl,_⟩:=h
   rfl
 . obtain ⟨o,wb,pl,t,m,ps,rs,sts,s,rfl,O,ne,k⟩:=h;obtain ⟨dx,ob⟩:=O.ob;obtain ⟨qs,q,a,b,h1,h2,h3,h4,h5,h6⟩:=O.last;refine ⟨_,(aj (aO (aE bR (cL (pvl 0 lB) T.aQ dQ G_Desk_deeds (hr.mono (by decide)) b_Desk_deeds .nil (az hq)) ag (aG _)) (al gD) aA) (al (bq (vu PySem.F.plainAttrs_list PySem.F.slot_list_pop PySem.F.type_list_pop vA (cZ  (pvl 0 lB) rfl))))),?_⟩;rw [show L2.start ["self"] [V.ref o]=[some (V.ref o)] from rfl];walk_at "rd";refine ⟨dx,_,ob,Aq (by decide +kernel) (by decide +kernel),o,wb,pl,t,m,ps,rs,_,rfl,O,rfl,?_⟩;have sl:0<sts.length:=List.length_pos_iff.mpr ne;rw [if_neg (fun z=>by
     injection z with z
     rw [List.length_append,List.length_cons,List.length_nil] at z;omega)]
   refine ⟨T.Desk,dx,_,ob,T.aQ,T.n_past,_,jv _ _,.inl ⟨rfl,_,SqL.of h1⟩,?_⟩;have kp:Kpt pl H (upd H pl (.lst (qs.map V.ref))):=Kpt.refl.put _;have fin:Q .non (upd H pl (.lst (qs.map V.ref))):=by
     refine k _ ⟨⟨dx,kp _ _ ob (cy ob h1 (by intro z;cases z))⟩,O.web.kptL kp h1,qs,ak,Paired.imp' (fun q s x=>StAt.kpt kp h1 x) h2⟩ kp
   refine ⟨pl,_,V.ref q,rfl,rfl,h1,?_,?_⟩
   . rw [List.map_append,List.length_append,List.map_cons,List.map_nil,List.length_cons,List.length_nil,show (qs.map V.ref).length+(0+1) - 1=(qs.map V.ref).length by omega,List.getElem?_append_right (Nat.le_refl _),Nat.sub_self]
     rfl
   . rw [List.map_append,List.map_cons,List.map_nil,List.dropLast_concat];exact fin
def sv (T:Txt K mg):Sp:=fun vs H Q _=>∃ (l:Addr) (ps:List Addr) (rs:List Road) (a b:Int),vs=[.ref l,.int a,.int b]/\H l=some (.lst (ps.map V.ref))/\RoadsAt H ps rs/\(∀ k,bO rs a b=some k->Q (.int k) H)/\(bO rs a b=none->Q .non H)
abbrev bz:Stmt:=top 45
theorem gs:FnScope ["roads","a","b","one","other","there","back"] ["roads","a","b"] (aa bz):=FnScope.of (by kernel_rfl)
theorem rB:NmL (aa bz) "roads":=.of (by kernel_rfl)
theorem pp:NmL (aa bz) "a":=.of (by kernel_rfl)
theorem pb:NmL (aa bz) "b":=.of (by kernel_rfl)
theorem iB:NmL (aa bz) "one":=.of (by kernel_rfl)
theorem gf:NmL (aa bz) "other":=.of (by kernel_rfl)
theorem kL:NmL (aa bz) "there":=.of (by kernel_rfl)
theorem lA:NmL (aa bz) "back":=.of (by kernel_rfl)
theorem Bx (T:Txt K mg) (hq:aN (CXe P w)) {f:Addr} {fd:FuncData} (D:Df K mg "_law_price" bz ["roads","a","b"] f fd):FnOk P w K mg base (CXe P w) 1 f fd ["roads","a","b"] (sv T):=by
 refine D.F.okC gs (fun vs H Q E h=>?_) (fun cdv A outer s H vs Q E hr h=>?_)
 . obtain ⟨l,ps,rs,a,b,rfl,_⟩:=h
   rfl
 . obtain ⟨l,ps,rs,a,b,rfl,hl,ro,k,k2⟩:=h;refine ⟨_,(aj (gn PassesOwn.never rfl (tQ (pvl 0 rB)) (kF (n:=4) rfl (bj (aM (i:=3) gs.nd rfl (Or.inl iB.l)) (bj (aM (i:=4) gs.nd rfl (Or.inl gf.l)) (bj (aM (i:=5) gs.nd rfl (Or.inl kL.l)) (bj (aM (i:=6) gs.nd rfl (Or.inl lA.l)) iK))))) (aj (aO (PW.pt (mi (aE bR (pvl 3 iB) (pvl 1 pp) (aG _)) (jS (aE bR (pvl 4 gf) (pvl 2 pb) (aG _))))) (al (aF (pvl 5 kL))) aA) (al (aO (PW.pt (mi (aE bR (pvl 3 iB) (pvl 2 pb) (aG _)) (jS (aE bR (pvl 4 gf) (pvl 1 pp) (aG _))))) (al (aF (pvl 6 lA))) aA)))) (al (aF zD))),?_⟩;rw [show L2.start ["roads","a","b","one","other","there","back"] [V.ref l,V.int a,V.int b]=[some (V.ref l),some (V.int a),some (V.int b),none,none,none,none] from rfl];walk_at "rd";have hlen:ps.length=rs.length:=Paired.length ro;refine ⟨⟨_,SqL.of hl⟩,?_⟩;refine r6 (K:=K) (xs:=ps.map V.ref) (fun i σ H2=>H2=H/\bO (rs.take i) a b=none/\∃ v1 v2 v3 v4,σ=[some (V.ref l),some (V.int a),some (V.int b),v1,v2,v3,v4]) ⟨rfl,rfl,_,_,_,_,rfl⟩ (fun i σ H2 _ z=>by rw [z.1];exact SqL.of hl) ?_ ?_
   . rintro i x σ H2 N hN hx ⟨rfl,hno,v1,v2,v3,v4,rfl⟩;obtain ⟨q,r,rfl,h1,h2,h3⟩:=ro.get hx;have et:rs.take (i+1)=rs.take i++[r]:=(by rw [List.take_succ,h2];rfl);have split:bO rs a b=(bO (rs.take i) a b).or ((dX a b r).or (bO (rs.drop (i+1)) a b)):=by
       have:rs=rs.take i++r::rs.drop (i+1):=by
         have hil:i<rs.length:=(List.getElem?_eq_some_iff.mp h2).1;have e:rs[i]=r:=(by rw [List.getElem?_eq_getElem hil] at h2;exact Option.some.inj h2);rw [<- e,List.getElem_cons_drop,List.take_append_drop]
       conv=>lhs;rw [this]
       unfold bO;rw [List.findSome?_append,List.findSome?_cons];cases dX a b r <;> rfl
     rw [hno,Option.none_or] at split;walk_at "rd";refine ⟨_,SqT.of h3,rfl,_,_,rfl,_,_,rfl,_,_,rfl,_,_,rfl,rfl,?_⟩;walk_at "rd";have next:dX a b r=none->N [some (V.ref l),some (V.int a),some (V.int b),some (V.int r.a),some (V.int r.b),some (V.int r.t),some (V.int r.u)] H2:=fun z=>hN _ _ ⟨rfl,by
       rw [et];unfold bO at hno ⊢;rw [List.findSome?_append,hno,List.findSome?_cons,z]
       rfl,_,_,_,_,rfl⟩
     have got:∀ v,dX a b r=some v->bO rs a b=some v:=fun v z=>by rw [split,z];rfl
     unfold dX at next got;split
     . rename_i c1
       split
       . rename_i c2
         exact k _ (got _ (by rw [if_pos ⟨c1,c2⟩]))
       . rename_i c2
         split
         . rename_i c3
           split
           . rename_i c4
             exact k _ (got _ (by rw [if_neg (fun z=>c2 z.2),if_pos ⟨c3,c4⟩]))
           . rename_i c4
             exact next (by rw [if_neg (fun z=>c2 z.2),if_neg (fun z=>c4 z.2)])
         . rename_i c3
           exact next (by rw [if_neg (fun z=>c2 z.2),if_neg (fun z=>c3 z.1)])
     . rename_i c1
       split
       . rename_i c3
         split
         . rename_i c4
           exact k _ (got _ (by rw [if_neg (fun z=>c1 z.1),if_pos ⟨c3,c4⟩]))
         . rename_i c4
           exact next (by rw [if_neg (fun z=>c1 z.1),if_neg (fun z=>c4 z.2)])
       . rename_i c3
         exact next (by rw [if_neg (fun z=>c1 z.1),if_neg (fun z=>c3 z.1)])
   . rintro σ H2 ⟨rfl,hno,v1,v2,v3,v4,rfl⟩;rw [List.length_map,hlen,List.take_length] at hno;walk_at "rd";exact k2 hno
def qR (T:Txt K mg):Sp:=fun vs H Q _=>∃ (l la lb ln:Addr) (ps:List Addr) (rs:List Road) (m:Int) (s:List Int × List Int) (D:Dd),vs=[.ref l,.ref la,.ref lb,.str D.wd,.ref ln]/\H l=some (.lst (ps.map V.ref))/\RoadsAt H ps rs/\Good m rs/\H la=some (.lst (s.1.map V.int))/\H lb=some (.lst (s.2.map V.int))/\H ln=some (.lst (D.ns.map V.int))/\(s.1.length:Int)=m/\(s.2.length:Int)=m/\D.Ok m rs/\(∀ v n,D≠.back v n) /\
 (bhd rs s D=none->∀ H',Same H H'->Q .non H')/\(∀ s',bhd rs s D=some s'->∀ q a b H',Same H H'->H a=none->H b=none->H' q=some (.tup [.ref a,.ref b])->H' a=some (.lst (s'.1.map V.int))->H' b=some (.lst (s'.2.map V.int))->Q (.ref q) H')
abbrev aP:Stmt:=top 49
theorem ij:FnScope ["roads","held","wish","deed","numbers","now","wants","each"] ["roads","held","wish","deed","numbers"] (aa aP):=FnScope.of (by kernel_rfl)
theorem rm:NmL (aa aP) "roads":=.of (by kernel_rfl)
theorem sg:NmL (aa aP) "held":=.of (by kernel_rfl)
theorem sI:NmL (aa aP) "wish":=.of (by kernel_rfl)
theorem gj:NmL (aa aP) "deed":=.of (by kernel_rfl)
theorem av:NmL (aa aP) "numbers":=.of (by kernel_rfl)
theorem bB:NmL (aa aP) "now":=.of (by kernel_rfl)
theorem fT:NmL (aa aP) "wants":=.of (by kernel_rfl)
theorem eg:NmL (aa aP) "each":=.of (by kernel_rfl)
theorem cC:NmG (aa aP) "list":=.of (by kernel_rfl)
theorem gP:NmG (aa aP) "_law_price":=.of (by kernel_rfl)
theorem zg (T:Txt K mg) (hq:aN (CXe P w)) {f:Addr} {fd:FuncData} (D:Df K mg "_law_behind" aP ["roads","held","wish","deed","numbers"] f fd) {eF:Addr} {rS:FuncData} (fK:Df K mg "_law_price" bz ["roads","a","b"] eF rS) (G_law_price:FnOk P w K mg base (CXe P w) 1 eF rS ["roads","a","b"] (sv T)):FnOk P w K mg base (CXe P w) 2 f fd ["roads","held","wish","deed","numbers"] (qR T):=by
 refine D.F.okC ij (fun vs H Q E h=>?_) (fun cdv A outer s H vs Q E hr h=>?_)
 . obtain ⟨l,la,lb,ln,ps,rs,m,s,D,rfl,_⟩:=h
   rfl
 . obtain ⟨l,la,lb,ln,ps,rs,m,s,D',rfl,hl,ro,g,ha,hb,hn,xl,yl,ok,nb,kn,ks⟩:=h;have m24:=g.m24;refine ⟨_,(aj (aH (i:=5) ij.nd rfl (Or.inl bB.l) (cU gu cC.g T.list pH (af (pvl 1 sg) ah) (hn:=cC.n) (hdb:=cC.d))) (aj (aH (i:=6) ij.nd rfl (Or.inl fT.l) (cU gu cC.g T.list pH (af (pvl 2 sI) ah) (hn:=cC.n) (hdb:=cC.d))) (aj (aO (aE bR (pvl 3 gj) c7 (aG _)) (al (jh (am cN (ap aq (pvl 5 bB) (ap aq (pvl 4 av) ag (fun _ _=>rfl)) (fun _ _=>rfl)) (ap aq (pvl 4 av) ag (fun _ _=>rfl))) (rK (pvl 5 bB) (ap aq (pvl 4 av) ag (fun _ _=>rfl)) gF))) aA) (aj (aO (aE bR (pvl 3 gj) c7 (aG _)) (al (jh (ap aq (pvl 4 av) ag (fun _ _=>rfl)) (rK (pvl 6 fT) (ap aq (pvl 4 av) ag (fun _ _=>rfl)) gF))) aA) (aj (aO (aE bR (pvl 3 gj) c7 (aG _)) (aj (aH (i:=7) ij.nd rfl (Or.inl eg.l) (au G_law_price (hr.mono (by decide)) gP.g fK.m fK.F.kp fK.b .nil (az hq) (af (pvl 0 rm) (af (ap aq (pvl 4 av) ag (fun _ _=>rfl)) (af (ap aq (pvl 4 av) ag (fun _ _=>rfl)) ah))) (hdb:=gP.d))) (aj (aO (PW.pt (tL (rH (Mj (pvl 7 eg))) (tL (aE zB (ap aq (pvl 4 av) ag (fun _ _=>rfl)) ag (aG _)) (sL (aE zB (ap aq (pvl 5 bB) (ap aq (pvl 4 av) ag (fun _ _=>rfl)) (fun _ _=>rfl)) (am kG (pvl 7 eg) (ap aq (pvl 4 av) ag (fun _ _=>rfl))) (aG _)))))) (al (aF zD)) aA) (aj (jh (am kK (ap aq (pvl 5 bB) (ap aq (pvl 4 av) ag (fun _ _=>rfl)) (fun _ _=>rfl)) (am kG (pvl 7 eg) (ap aq (pvl 4 av) ag (fun _ _=>rfl)))) (rK (pvl 5 bB) (ap aq (pvl 4 av) ag (fun _ _=>rfl)) gF)) (al (jh (am cN (ap aq (pvl 5 bB) (ap aq (pvl 4 av) ag (fun _ _=>rfl)) (fun _ _=>rfl)) (ap aq (pvl 4 av) ag (fun _ _=>rfl))) (rK (pvl 5 bB) (ap aq (pvl 4 av) ag (fun _ _=>rfl)) gF)))))) aA) (al (aF (eO (af (pvl 5 bB) (af (pvl 6 fT) ah)))))))))),?_⟩;rw [show L2.start ["roads","held","wish","deed","numbers","now","wants","each"] [V.ref l,V.ref la,V.ref lb,V.str D'.wd,V.ref ln]=[some (V.ref l),some (V.ref la),some (V.ref lb),some (V.str D'.wd),some (V.ref ln),none,none,none] from rfl];refine cj fun N1 h1=>?_;walk_at "rd";refine ⟨_,.inl (SqL.of ha),fun l1 n1=>h1 _ _ (cj fun N2 h2=>?_)⟩;have s1:=Same.new (.lst (s.1.map V.int)) n1;have e1:upd H l1 (.lst (s.1.map V.int)) l1=some (.lst (s.1.map V.int)):=ak;generalize upd H l1 (.lst (s.1.map V.int))=H1 at s1 e1 ⊢;walk_at "rd";refine ⟨_,.inl (SqL.of (s1 _ _ hb)),fun l2 n2=>h2 _ _ ?_⟩;have s2:=Same.new (.lst (s.2.map V.int)) n2;have e2:upd H1 l2 (.lst (s.2.map V.int)) l2=some (.lst (s.2.map V.int)):=ak;have e12:=s2 _ _ e1;have s02:=s1.trans s2;have n20:=s1.free n2;have nl12:l1≠l2:=fun z=>by rw [<- z,e1] at n2;cases n2
   generalize upd H1 l2 (.lst (s.2.map V.int))=H2 at e2 e12 s02 ⊢;have hn2:=s02 _ _ hn;have pair:∀ (H3:Hp) (s':List Int × List Int),Same H H3->bhd rs s D'=some s'->H3 l1=some (.lst (s'.1.map V.int))->H3 l2=some (.lst (s'.2.map V.int))->[V.ref l1,V.ref l2].length<=sizeLine/\∀ (p:Addr),H3 p=none->Q (V.ref p) (upd H3 p (HO.tup [V.ref l1,V.ref l2])):=fun H3 s' s3 es f1 f2=>⟨bG (by simp),fun p np=>by
     have s4:=Same.new (.tup [V.ref l1,V.ref l2]) np;exact ks s' es p l1 l2 _ (s3.trans s4) n1 n20 ak (s4 _ _ f1) (s4 _ _ f2)⟩
   cases D' with
   | put v n =>
     simp only [Dd.wd];walk_at "rd";obtain ⟨vr,n0⟩:=ok;refine ixL hn2 rfl (ixL e12 (atG vr.1 (by omega)) (ixL hn2 rfl ⟨_,rfl,_,rfl,ixL hn2 rfl (tz e12 vr.1 (by rw [List.length_map];omega) ?_)⟩));rw [if_neg (sne (by decide +kernel)),if_neg (sne (by decide +kernel))];refine pair _ _ (s02.put n1 _) rfl (by rw [ak,<- List.map_set]) (by rw [ao nl12.symm];exact e2)
   | want v n =>
     simp only [Dd.wd];walk_at "rd";obtain ⟨vr,n0⟩:=ok;rw [if_neg (sne (by decide +kernel))];refine ixL hn2 rfl (ixL hn2 rfl (tz e2 vr.1 (by rw [List.length_map];omega) ?_));rw [if_neg (sne (by decide +kernel))];refine pair _ _ (s02.put n20 _) rfl (by rw [ao nl12];exact e12) (by rw [ak,<- List.map_set])
   | back v n=>exact absurd rfl (nb v n)
   | step a b n =>
     simp only [Dd.wd];walk_at "rd";obtain ⟨ad,nr⟩:=ok;obtain ⟨kk,ek,kr⟩:=zN g ad;obtain ⟨ar,br,nab⟩:=g.adj ad;have td:dh rs a b=kk:=(by unfold dh;rw [ek];rfl);rw [if_neg (sne (by decide +kernel)),if_neg (sne (by decide +kernel))];refine ixL hn2 rfl (ixL hn2 rfl ⟨l,ps,rs,a,b,rfl,s02 _ _ hl,RoadsAt.same s02 ro,fun k' hk'=>?_,fun z=>by rw [ek] at z;cases z⟩);rw [ek] at hk';cases hk';rw [if_neg (by intro z;cases z)];refine ixL hn2 rfl ⟨_,rfl,?_⟩;rw [if_neg (by omega)];refine ixL hn2 rfl (ixL e12 (atG ar.1 (by omega)) (ixL hn2 rfl ⟨_,rfl,_,rfl,.inl ⟨by omega,by omega⟩,_,rfl,?_⟩));by_cases z:s.1.getD a.toNat 0<kk*n
     . rw [if_pos z];refine kn ?_ H2 s02;show (if n*dh rs a b<=s.1.getD a.toNat 0 then _ else none)=none;rw [td,if_neg (by rw [Int.mul_comm];omega)]
     . rw [if_neg z];have z':n*dh rs a b<=s.1.getD a.toNat 0:=(by rw [td,Int.mul_comm];omega);have es:bhd rs s (.step a b n)=some (ig rs s.1 (a,b,n),s.2):=if_pos z';refine ixL hn2 rfl (ixL e12 (atG ar.1 (by omega)) (ixL hn2 rfl ⟨_,rfl,_,rfl,.inl ⟨by omega,by omega⟩,_,rfl,ixL hn2 rfl (tz e12 ar.1 (by rw [List.length_map];omega) ?_)⟩));rw [<- List.map_set];obtain ⟨xs1,ex1⟩:∃ xs1,xs1=s.1.set a.toNat (s.1.getD a.toNat 0 - kk*n):=⟨_,rfl⟩;rw [<- ex1];have x1l:(xs1.length:Int)=m:=(by rw [ex1,List.length_set];exact xl);have s3:=s02.put n1 (.lst (xs1.map V.int));have e13:upd H2 l1 (.lst (xs1.map V.int)) l1=some (.lst (xs1.map V.int)):=ak;have e23:upd H2 l1 (.lst (xs1.map V.int)) l2=some (.lst (s.2.map V.int)):=(by rw [ao nl12.symm];exact e2);generalize upd H2 l1 (.lst (xs1.map V.int))=H3 at s3 e13 e23 ⊢;have hn3:=s3 _ _ hn;refine ixL hn3 rfl (ixL e13 (atG br.1 (by omega)) (ixL hn3 rfl ⟨_,rfl,_,rfl,ixL hn3 rfl (tz e13 br.1 (by rw [List.length_map];omega) ?_)⟩));refine pair _ _ (s3.put n1 _) es ?_ (by rw [ao nl12.symm];exact e23);rw [ak,<- List.map_set];show _=some (HO.lst ((ig rs s.1 (a,b,n)).map V.int));unfold ig;rw [td,ex1,Int.mul_comm kk n]
def uv (T:Txt K mg):Sp:=fun vs H Q _=>∃ (l:Addr) (c m:Int) (ps:List Addr) (rs:List Road),vs=[.int c,.int m,.ref l]/\H l=some (.lst (ps.map V.ref))/\RoadsAt H ps rs/\Good m rs /\
 ∀ q b H' (D:Dd),D.Ok m rs->H b=none->Same H H'->H' q=some (.tup [.str D.wd,.ref b])->H' b=some (.lst (D.ns.map V.int))->Q (.ref q) H'
abbrev bg:Stmt:=top 48
theorem cG:FnScope ["cell","many","roads","place","amount","one","other","there","back"] ["cell","many","roads"] (aa bg):=FnScope.of (by kernel_rfl)
theorem bd:NmL (aa bg) "cell":=.of (by kernel_rfl)
theorem uy:NmL (aa bg) "many":=.of (by kernel_rfl)
theorem gX:NmL (aa bg) "roads":=.of (by kernel_rfl)
theorem ly:NmL (aa bg) "place":=.of (by kernel_rfl)
theorem eh:NmL (aa bg) "amount":=.of (by kernel_rfl)
theorem ga:NmL (aa bg) "one":=.of (by kernel_rfl)
theorem eM:NmL (aa bg) "other":=.of (by kernel_rfl)
theorem t7:NmL (aa bg) "there":=.of (by kernel_rfl)
theorem u8:NmL (aa bg) "back":=.of (by kernel_rfl)
theorem dl:NmG (aa bg) "len":=.of (by kernel_rfl)
theorem Cv (T:Txt K mg) (hq:aN (CXe P w)) {f:Addr} {fd:FuncData} (D:Df K mg "_law_deed" bg ["cell","many","roads"] f fd):FnOk P w K mg base (CXe P w) 1 f fd ["cell","many","roads"] (uv T):=by
 refine D.F.okC cG (fun vs H Q E h=>?_) (fun cdv A outer s H vs Q E hr h=>?_)
 . obtain ⟨l,c,m,ps,rs,rfl,_⟩:=h
   rfl
 . obtain ⟨l,c,m,ps,rs,rfl,hl,ro,g,k⟩:=h;have m1:=g.m1;have m24:=g.m24;have mp:0<m:=by omega
   have em:∀ (x n:Int),0<n->0<=x % n/\x % n<n:=fun x n h=>⟨Int.emod_nonneg x (Int.ne_of_gt h),Int.emod_lt_of_pos x h⟩;refine ⟨_,(aj (aH (i:=3) cG.nd rfl (Or.inl ly.l) (am aW (am bE (pvl 0 bd) ag) (pvl 1 uy))) (aj (aH (i:=4) cG.nd rfl (Or.inl eh.l) (am aW (am bE (pvl 0 bd) ag) ag)) (aj (aO (aE bR (am aW (am bE (pvl 0 bd) ag) ag) ag (aG _)) (al (aH (i:=4) cG.nd rfl (Or.inl eh.l) (am aW (am bE (pvl 0 bd) ag) (am A3 ag ag)))) aA) (aj (aO (aE bR (am aW (am bE (pvl 0 bd) ag) ag) ag (aG _)) (al (aH (i:=4) cG.nd rfl (Or.inl eh.l) (am kK (am kK (am A3 ag ag) ag) (am aW (am bE (pvl 0 bd) ag) ag)))) aA) (aj (aO (PW.pt (mi (aE bR (am aW (pvl 0 bd) ag) ag (aG _)) (jS (aE EB (bK bx dl.g T.len dM (af (pvl 2 gX) ah) (hn:=dl.n) (hdb:=dl.d)) ag (aG _))))) (aj (jh (ap aq (pvl 2 gX) (am aW (am bE (pvl 0 bd) ag) (bK bx dl.g T.len dM (af (pvl 2 gX) ah) (hn:=dl.n) (hdb:=dl.d))) (fun _ _=>rfl)) (kF (n:=4) rfl (bj (aM (i:=5) cG.nd rfl (Or.inl ga.l)) (bj (aM (i:=6) cG.nd rfl (Or.inl eM.l)) (bj (aM (i:=7) cG.nd rfl (Or.inl t7.l)) (bj (aM (i:=8) cG.nd rfl (Or.inl u8.l)) iK)))))) (aj (aO (aE bR (am aW (am bE (pvl 0 bd) ag) ag) ag (aG _)) (al (KZ (i:=5) (j:=6) rfl cG.nd rfl rfl (by decide) ga.l eM.l (af (pvl 6 eM) (af (pvl 5 ga) ah)) (by kernel_rfl))) aA) (al (aF (eO (af c7 (af (c6 (af (pvl 5 ga) (af (pvl 6 eM) (af (am cN ag (am aW (am bE (pvl 0 bd) ag) ag)) ah)))) ah))))))) aA) (al (aF (eO (af (ap aq (c6 (af c7 (af c7 (af c7 (af c7 (af c7 ah)))))) (am aW (pvl 0 bd) ag) (fun _ _=>rfl)) (af (c6 (af (pvl 3 ly) (af (pvl 4 eh) ah))) ah)))))))))),?_⟩;rw [show L2.start ["cell","many","roads","place","amount","one","other","there","back"] [V.int c,V.int m,V.ref l]=[some (V.int c),some (V.int m),some (V.ref l),none,none,none,none,none,none] from rfl];refine cj fun N1 h1=>?_;walk_at "rd";refine ⟨⟨by decide,by decide⟩,mp,h1 _ _ (cj fun N2 h2=>?_)⟩;have vr:=em (c / 5) m mp;generalize c / 5 % m=v at vr ⊢;walk_at "rd";refine ⟨⟨by decide,by decide⟩,by decide,h2 _ _ (cj fun N3 h3=>?_)⟩;have n0:=(em (c / 120) 13 (by decide)).1;generalize c / 120 % 13=n at n0 ⊢;have k3:∀ n,0<=n->N3 [some (V.int c),some (V.int m),some (V.ref l),some (V.int v),some (V.int n),none,none,none,none] H:=fun n n0=>by
     refine h3 _ _ (cj fun N4 h4=>?_);have k4:∀ n,0<=n->N4 [some (V.int c),some (V.int m),some (V.ref l),some (V.int v),some (V.int n),none,none,none,none] H:=fun n n0=>by
       refine h4 _ _ (cj fun N5 h5=>?_);have last:N5 [some (V.int c),some (V.int m),some (V.ref l),some (V.int v),some (V.int n),none,none,none,none] H:=by
         refine h5 _ _ ?_;walk_at "rd";refine ⟨bG (by simp),fun q1 n1=>⟨by decide,?_⟩⟩;have s1:=Same.new (.lst [V.str "put",V.str "put",V.str "want",V.str "put",V.str "back"]) n1;obtain ⟨D,hD,ok,en⟩:∃ D:Dd,atI [V.str "put",V.str "put",V.str "want",V.str "put",V.str "back"] (c % 5)=some (.str D.wd)/\D.Ok m rs/\D.ns=[v,n]:=by
           have h5:=em c 5 (by decide);rcases (show c % 5=0\/c % 5=1\/c % 5=2\/c % 5=3\/c % 5=4 by omega) with z|z|z|z|z <;> rw [z]
           . exact ⟨.put v n,rfl,⟨vr,n0⟩,rfl⟩
           . exact ⟨.put v n,rfl,⟨vr,n0⟩,rfl⟩
           . exact ⟨.want v n,rfl,⟨vr,n0⟩,rfl⟩
           . exact ⟨.put v n,rfl,⟨vr,n0⟩,rfl⟩
           . exact ⟨.back v n,rfl,trivial,rfl⟩
         refine ixL ak hD ⟨bG (by simp),fun q2 n2=>⟨bG (by simp),fun q3 n3=>?_⟩⟩;have s2:=s1.trans (Same.new (.lst [V.int v,V.int n]) n2);have s3:=Same.new (.tup [V.str D.wd,V.ref q2]) n3;refine k q3 q2 _ D ok (s1.free n2) (s2.trans s3) ak ?_;rw [en];exact s3 _ _ ak
       walk_at "rd";refine ⟨by decide,?_⟩;by_cases z3:c % 5=3
       . rw [if_pos z3];refine ⟨_,.inl (SqL.of hl),?_⟩;rw [List.length_map];by_cases zl:(0:Int)<ps.length
         . rw [if_pos zl];refine ⟨⟨by decide,by decide⟩,_,.inl (SqL.of hl),?_⟩;rw [List.length_map];have jr:=em (c / 5) (ps.length:Int) zl;refine ⟨zl,?_⟩;generalize c / 5 % (ps.length:Int)=j at jr ⊢;obtain ⟨p,hp⟩:∃ p,ps[j.toNat]?=some p:=⟨_,List.getElem?_eq_getElem (by omega)⟩;obtain ⟨p',x,e1,hp',hx,ex⟩:=ro.get (i:=j.toNat) (x:=V.ref p) (by rw [List.getElem?_map,hp];rfl);injection e1 with e1
           subst e1;have xm:=List.mem_of_getElem? hx;refine ixL (v:=V.ref p) hl (xG jr.1 (by rw [List.getElem?_map,hp];rfl)) ⟨p,rfl,_,SqT.of ex,rfl,_,_,rfl,_,_,rfl,_,_,rfl,_,_,rfl,rfl,⟨by decide,by decide⟩,by decide,?_⟩;have n3:=em (c / 240) 3 (by decide);have fin:∀ a b,Adj rs a b->∀ p,H p=none->[V.str "step",V.ref p].length<=sizeLine/\∀ p_1,upd H p (.lst [V.int a,V.int b,V.int (1+c / 240 % 3)]) p_1=none->Q (V.ref p_1) (upd (upd H p (.lst [V.int a,V.int b,V.int (1+c / 240 % 3)])) p_1 (.tup [V.str "step",V.ref p])):=fun a b ad p np=>⟨bG (by simp),fun p1 np1=>by
             have s1:=Same.new (.lst [V.int a,V.int b,V.int (1+c / 240 % 3)]) np;have s2:=Same.new (.tup [V.str "step",V.ref p]) np1;exact k p1 p _ (.step a b (1+c / 240 % 3)) ⟨ad,by omega,by omega⟩ np (s1.trans s2) ak (s2 _ _ ak)⟩
           by_cases z2:c / 120 % 2=1
           . rw [if_pos z2];exact ⟨_,_,⟨rfl,rfl⟩,⟨by decide,by decide⟩,by decide,bG (by simp),fin _ _ ⟨x,xm,.inr ⟨rfl,rfl⟩⟩⟩
           . rw [if_neg z2];exact ⟨⟨by decide,by decide⟩,by decide,bG (by simp),fin _ _ ⟨x,xm,.inl ⟨rfl,rfl⟩⟩⟩
         . rw [if_neg zl];exact last
       . rw [if_neg z3];exact last
     walk_at "rd";refine ⟨⟨by decide,by decide⟩,by decide,?_⟩;split
     . have h3:=em (c / 10920) 3 (by decide);have:(2:Int)<=10^Int.toNat 60 - 1:=(by decide);exact ⟨⟨by decide,by decide,by decide⟩,⟨by decide,by decide⟩,by decide,k4 _ (by omega)⟩
     . exact k4 n n0
   walk_at "rd";refine ⟨⟨by decide,by decide⟩,by decide,?_⟩;split
   . exact ⟨⟨by decide,by decide⟩,⟨by decide,by decide,by decide⟩,p60,k3 _ (em _ _ p60).1⟩
   . exact k3 n n0
def jm (T:Txt K mg):Sp:=fun vs H Q _=>∃ (o wb pl t a b:Addr) (m:Int) (ps:List Addr) (rs:List Road) (sts:List (List Int × List Int)) (s:List Int × List Int),vs=[.ref o,.ref a,.ref b]/\DeskAt T.Web T.Desk H o wb pl m t ps rs sts/\H a=some (.tup (s.1.map V.int))/\H b=some (.tup (s.2.map V.int))/\sts.length<=1000 /\
 ∀ H',DeskAt T.Web T.Desk H' o wb pl m t ps rs (sts++[s])->Kpt pl H H'->Q .non H'
abbrev cc:Stmt:=fG (top 39) 4
theorem Av:FnScope ["self","laying","wish"] ["self","laying","wish"] (aa cc):=FnScope.of (by kernel_rfl)
theorem tW:NmL (aa cc) "self":=.of (by kernel_rfl)
theorem rj:NmL (aa cc) "laying":=.of (by kernel_rfl)
theorem tZ:NmL (aa cc) "wish":=.of (by kernel_rfl)
theorem zQ (T:Txt K mg) (hq:aN (CXe P w)) {f:Addr} {fd:FuncData} (F:Fun K "keep" "Desk.keep" cc f fd):FnOk P w K mg base (CXe P w) 1 f fd ["self","laying","wish"] (jm T):=by
 refine F.okC Av (fun vs H Q E h=>?_) (fun cdv A outer s H vs Q E hr h=>?_)
 . obtain ⟨o,wb,pl,t,a,b,m,ps,rs,sts,s,rfl,_⟩:=h
   rfl
 . obtain ⟨o,wb,pl,t,a,b,m,ps,rs,sts,s,rfl,O,ha,hb,sl,k⟩:=h;obtain ⟨dx,ob⟩:=O.ob;obtain ⟨qs,h1,h2⟩:=O.pa;refine ⟨_,(al (bq (lO PySem.F.plainAttrs_list PySem.F.slot_list_append PySem.F.type_list_append d6 (cZ  (pvl 0 tW) rfl) (af (eO (af (pvl 1 rj) (af (pvl 2 tZ) ah))) ah)))),?_⟩;rw [show L2.start ["self","laying","wish"] [V.ref o,V.ref a,V.ref b]=[some (V.ref o),some (V.ref a),some (V.ref b)] from rfl];walk_at "rd";refine ⟨T.Desk,dx,_,ob,T.aQ,T.n_past,_,jv _ _,.inl ⟨rfl,_,SqL.of h1⟩,bG (by simp),fun q nq=>?_⟩;have s1:=Same.new (.tup [V.ref a,V.ref b]) nq;have ql:=Paired.length h2;refine ⟨pl,_,_,rfl,rfl,s1 _ _ h1,f6 (by rw [List.length_map];omega),?_⟩;have kp:Kpt pl (upd H q (.tup [V.ref a,V.ref b])) (upd (upd H q (.tup [V.ref a,V.ref b])) pl (.lst (qs.map V.ref++[V.ref q]))):=Kpt.refl.put _;have kp2:Kpt pl H (upd (upd H q (.tup [V.ref a,V.ref b])) pl (.lst (qs.map V.ref++[V.ref q]))):=fun c y h n=>kp c y (s1 _ _ h) n;have O1:=O.same s1;refine k _ ⟨?_,O1.web.kptL kp (s1 _ _ h1),qs++[q],by rw [ak,List.map_append];rfl,?_⟩ kp2
   . obtain ⟨dx',ob'⟩:=O1.ob;exact ⟨dx',kp _ _ ob' (cy ob' (s1 _ _ h1) (by intro z;cases z))⟩
   . refine vk ?_ (Paired.imp' (fun q s x=>StAt.kpt kp2 h1 x) h2);exact StAt.kpt kp (s1 _ _ h1) ⟨a,b,ak,s1 _ _ ha,s1 _ _ hb⟩
def eW (T:Txt K mg):Sp:=fun vs H Q _=>∃ (o wb pl t:Addr) (m:Int) (ps:List Addr) (rs:List Road) (sts:List (List Int × List Int)) (s:List Int × List Int),vs=[.ref o]/\DeskAt T.Web T.Desk H o wb pl m t ps rs (sts++[s])/\∀ a,H a=some (.tup (s.1.map V.int))->Q (.ref a) H
abbrev bU:Stmt:=fG (top 39) 6
theorem wK:FnScope ["self"] ["self"] (aa bU):=FnScope.of (by kernel_rfl)
theorem rh:NmL (aa bU) "self":=.of (by kernel_rfl)
theorem wO (T:Txt K mg) (hq:aN (CXe P w)) {f:Addr} {fd:FuncData} (F:Fun K "laying" "Desk.laying" bU f fd):FnOk P w K mg base (CXe P w) 1 f fd ["self"] (eW T):=by
 refine F.okC wK (fun vs H Q E h=>?_) (fun cdv A outer s H vs Q E hr h=>?_)
 . obtain ⟨o,wb,pl,t,m,ps,rs,sts,s,rfl,_⟩:=h
   rfl
 . obtain ⟨o,wb,pl,t,m,ps,rs,sts,s,rfl,O,k⟩:=h;obtain ⟨dx,ob⟩:=O.ob;obtain ⟨qs,q,a,b,h1,_,h3,h4,h5,h6⟩:=O.last;refine ⟨_,(al (aF (ap bc (ap aq (cZ  (pvl 0 rh) rfl) (lN jq ag) (fun _ _=>rfl)) ag (fun _ _=>rfl)))),?_⟩;rw [show L2.start ["self"] [V.ref o]=[some (V.ref o)] from rfl];walk_at "rd";refine ⟨T.Desk,dx,_,ob,T.aQ,T.n_past,_,jv _ _,ixL h1 h3 ?_⟩;exact ⟨q,_,0,_,rfl,rfl,SqT.of h4,rfl,k a h5⟩
def gv (T:Txt K mg):Sp:=fun vs H Q _=>∃ (o wb pl t:Addr) (m:Int) (ps:List Addr) (rs:List Road) (sts:List (List Int × List Int)) (s:List Int × List Int),vs=[.ref o]/\DeskAt T.Web T.Desk H o wb pl m t ps rs (sts++[s])/\∀ a,H a=some (.tup (s.2.map V.int))->Q (.ref a) H
abbrev cq:Stmt:=fG (top 39) 7
theorem Cg:FnScope ["self"] ["self"] (aa cq):=FnScope.of (by kernel_rfl)
theorem t9:NmL (aa cq) "self":=.of (by kernel_rfl)
theorem BK (T:Txt K mg) (hq:aN (CXe P w)) {f:Addr} {fd:FuncData} (F:Fun K "wish" "Desk.wish" cq f fd):FnOk P w K mg base (CXe P w) 1 f fd ["self"] (gv T):=by
 refine F.okC Cg (fun vs H Q E h=>?_) (fun cdv A outer s H vs Q E hr h=>?_)
 . obtain ⟨o,wb,pl,t,m,ps,rs,sts,s,rfl,_⟩:=h
   rfl
 . obtain ⟨o,wb,pl,t,m,ps,rs,sts,s,rfl,O,k⟩:=h;obtain ⟨dx,ob⟩:=O.ob;obtain ⟨qs,q,a,b,h1,_,h3,h4,h5,h6⟩:=O.last;refine ⟨_,(al (aF (ap bc (ap aq (cZ  (pvl 0 t9) rfl) (lN jq ag) (fun _ _=>rfl)) ag (fun _ _=>rfl)))),?_⟩;rw [show L2.start ["self"] [V.ref o]=[some (V.ref o)] from rfl];walk_at "rd";refine ⟨T.Desk,dx,_,ob,T.aQ,T.n_past,_,jv _ _,ixL h1 h3 ?_⟩;exact ⟨q,_,1,_,rfl,rfl,SqT.of h4,rfl,k b h6⟩
def eZ (T:Txt K mg):Sp:=fun vs H Q E=>∃ (p t:Addr) (m:Int) (ps:List Addr) (rs:List Road) (n:Int),vs=[.ref p,.int n]/\WebAt T.Web H p m t ps rs/\(0<=n->n<m->Q .non H)/\(¬ (0<=n/\n<m)->E (.ref T.NoPlace) none H)
abbrev aX:Stmt:=top 17
theorem wG:FnScope ["web","number"] ["web","number"] (aa aX):=FnScope.of (by kernel_rfl)
theorem rV:NmL (aa aX) "web":=.of (by kernel_rfl)
theorem pI:NmL (aa aX) "number":=.of (by kernel_rfl)
theorem gQ:NmG (aa aX) "is_place":=.of (by kernel_rfl)
theorem hU:NmG (aa aX) "NoPlace":=.of (by kernel_rfl)
theorem xk (T:Txt K mg) (hq:aN (CXe P w)) {f:Addr} {fd:FuncData} (D:Df K mg "check_place" aX ["web","number"] f fd) {cg:Addr} {dG:FuncData} (aY:Df K mg "is_place" cw ["many","number"] cg dG) (G_is_place:FnOk P w K mg base (CXe P w) 1 cg dG ["many","number"] (kj T)):FnOk P w K mg base (CXe P w) 2 f fd ["web","number"] (eZ T):=by
 refine D.F.okX wG (fun vs H Q E h=>?_) (fun cdv A outer s H vs Q E hr h=>?_)
 . obtain ⟨p,t,m,ps,rs,n,rfl,_⟩:=h
   rfl
 . obtain ⟨p,t,m,ps,rs,n,rfl,W,k,e⟩:=h;obtain ⟨dx,ob⟩:=W.ob;refine ⟨_,(al (aO (d8 (fB (au G_is_place (hr.mono (by decide)) gQ.g aY.m aY.F.kp aY.b .nil jc (af (cZ  (pvl 0 rV) rfl) (af (pvl 1 pI) ah)) (hdb:=gQ.d)))) (al (pX T.FA rfl tJ hU.g T.FZ (af c7 ah) (hdb:=hU.d))) aA)),?_⟩;rw [show L2.start ["web","number"] [V.ref p,V.int n]=[some (V.ref p),some (V.int n)] from rfl];walk_at "rd";refine ⟨T.Web,dx,_,ob,T.gc,T.n_many,_,fw m t,m,n,rfl,_,rfl,?_⟩;by_cases c:0<=n/\n<m
   . rw [if_neg (by simp [c.1,c.2])];exact k c.1 c.2
   . rw [if_pos (by simpa [Bool.and_eq_true] using c)];exact ⟨by decide,e c⟩
def aD (m:Int) (xs:List Int):Bool:=decide ((xs.length:Int)=m) && xs.all fun x=>decide (0<=x)
theorem iM {m:Int} {xs:List Int} (h:(xs.length:Int)=m) (h0:∀ x∈xs,0<=x):aD m xs=true:=by
 unfold aD;rw [decide_eq_true h,Bool.true_and,List.all_eq_true];exact fun x hx=>decide_eq_true (h0 x hx)
theorem fc {m:Int} {xs:List Int} (h:aD m xs=true):(xs.length:Int)=m:=by
 unfold aD at h;rw [Bool.and_eq_true] at h;exact of_decide_eq_true h.1
theorem sj {m:Int} {xs:List Int} (h:aD m xs=true):∀ x∈xs,0<=x:=by
 unfold aD at h;rw [Bool.and_eq_true,List.all_eq_true] at h;exact fun x hx=>of_decide_eq_true (h.2 x hx)
def mF (T:Txt K mg):Sp:=fun vs H Q _=>∃ (p a t:Addr) (c:Bool) (m:Int) (ps:List Addr) (rs:List Road) (xs:List Int),vs=[.ref p,.ref a]/\WebAt T.Web H p m t ps rs/\SqX K c H a (xs.map V.int)/\xs.length<=1000/\∀ H',Same H H'->Q (.bl (aD m xs)) H'
abbrev bW:Stmt:=top 26
theorem A2:FnScope ["web","numbers"] ["web","numbers"] (aa bW):=FnScope.of (by kernel_rfl)
theorem uQ:NmL (aa bW) "web":=.of (by kernel_rfl)
theorem jd:NmL (aa bW) "numbers":=.of (by kernel_rfl)
theorem im:NmG (aa bW) "len":=.of (by kernel_rfl)
theorem iz:NmG (aa bW) "all":=.of (by kernel_rfl)
theorem A7 (T:Txt K mg) (hq:aN (CXe P w)) {f:Addr} {fd:FuncData} (D:Df K mg "is_filled" bW ["web","numbers"] f fd):FnOk P w K mg base (CXe P w) 1 f fd ["web","numbers"] (mF T):=by
 refine D.F.okC A2 (fun vs H Q E h=>?_) (fun cdv A outer s H vs Q E hr h=>?_)
 . obtain ⟨p,a,t,c,m,ps,rs,xs,rfl,_⟩:=h
   rfl
 . obtain ⟨p,a,t,c,m,ps,rs,xs,rfl,W,ha,hz,k⟩:=h;refine ⟨_,(al (aF (pB (lQ bR (bK bx im.g T.len dM (af (pvl 1 jd) ah) (hn:=im.n) (hdb:=im.d)) (cZ  (pvl 0 uQ) rfl) (aG _)) (sF (bK (Ju rfl) iz.g T.all L5 (af (wA rfl (uG (Nc:=["number"]) 1 (by decide +kernel) (by decide +kernel) rfl (by decide +kernel) rfl) (Ft c (pvl 1 jd)) (fun _ _ _ _=>(aM (i:=0) (show (["number"]:List Str).Nodup from by decide +kernel) rfl (Or.inl rfl))) (fun _ _ _ _=>xg) (fun _ _ _ _=>(lQ ED (pv 0) ag (aG _)))) ah) (hn:=iz.n) (hdb:=iz.d)))))),?_⟩;rw [show L2.start ["web","numbers"] [V.ref p,V.ref a]=[some (V.ref p),some (V.ref a)] from rfl];walk_at "rd";obtain ⟨dx,ob⟩:=W.ob;have ha':SqL K H a (xs.map V.int)\/SqT K H a (xs.map V.int):=by
     cases c
     . exact .inr ha
     . exact .inl ha
   refine ⟨_,ha',T.Web,dx,_,ob,T.gc,T.n_many,_,fw m t,rfl,?_⟩;rw [List.length_map];by_cases hm:(xs.length:Int)=m
   . rw [if_pos (by rw [hm])];refine ⟨⟨_,ha⟩,fun l nl=>?_⟩;refine Bt (K:=K) (c:=c) (xs:=xs.map V.int) (fun i bs σ H2=>Same H H2/\H2 l=some (.lst bs)/\bs=((xs.take i).map fun x=>decide (0<=x)).map V.bl/\∃ v,σ=[v]) ⟨Same.new _ nl,ak,rfl,_,rfl⟩ (fun i bs σ H2 _ z=>Same.sqX z.1 ha) ?_ ?_
     . rintro i x bs σ H2 N hN hx ⟨s2,e2,rfl,v,rfl⟩;rw [List.getElem?_map] at hx;obtain ⟨y,gy,rfl⟩:=Option.map_eq_some_iff.mp hx;walk_at "rd";refine ⟨e2,f6 (by rw [List.length_map,List.length_map,List.length_take];omega),hN _ _ _ ⟨s2.put nl _,ak,?_,_,rfl⟩⟩;rw [List.take_succ,gy,List.map_append,List.map_append]
       rfl
     . rintro bs σ H2 ⟨s2,e2,rfl,v,rfl⟩;refine ⟨l,rfl,_,SqL.of e2,?_⟩;have e:(((xs.take (xs.map V.int).length).map fun x=>decide (0<=x)).all id)=aD m xs:=by
         rw [List.length_map,List.take_length,List.all_map];unfold aD;rw [decide_eq_true hm,Bool.true_and]
         rfl
       rw [e];exact k _ s2
   . rw [if_neg (fun z=>hm (by injection z))];have e:aD m xs=false:=by
       unfold aD;rw [decide_eq_false hm,Bool.false_and]
     rw [e] at k;exact k H (Same.refl _)
def mU (T:Txt K mg):Sp:=fun vs H Q E=>∃ (p a t:Addr) (c:Bool) (m:Int) (ps:List Addr) (rs:List Road) (xs:List Int),vs=[.ref p,.ref a]/\WebAt T.Web H p m t ps rs/\SqX K c H a (xs.map V.int)/\xs.length<=1000 /\
 (aD m xs=true->∀ l H',Same H H'->(H' l=some (.tup (xs.map V.int))\/(c=false/\l=a))->SqT K H' l (xs.map V.int)->Q (.ref l) H')/\(aD m xs=false->∀ H',Same H H'->E (.ref T.BadLaying) none H')
abbrev bM:Stmt:=top 25
theorem Bk:FnScope ["web","numbers"] ["web","numbers"] (aa bM):=FnScope.of (by kernel_rfl)
theorem u5:NmL (aa bM) "web":=.of (by kernel_rfl)
theorem iU:NmL (aa bM) "numbers":=.of (by kernel_rfl)
theorem ic:NmG (aa bM) "is_filled":=.of (by kernel_rfl)
theorem hV:NmG (aa bM) "BadLaying":=.of (by kernel_rfl)
theorem gw:NmG (aa bM) "tuple":=.of (by kernel_rfl)
theorem BS (T:Txt K mg) (hq:aN (CXe P w)) {f:Addr} {fd:FuncData} (D:Df K mg "laying_of" bM ["web","numbers"] f fd) {cJ:Addr} {gq:FuncData} (cm:Df K mg "is_filled" bW ["web","numbers"] cJ gq) (G_is_filled:FnOk P w K mg base (CXe P w) 1 cJ gq ["web","numbers"] (mF T)):FnOk P w K mg base (CXe P w) 2 f fd ["web","numbers"] (mU T):=by
 refine D.F.okX Bk (fun vs H Q E h=>?_) (fun cdv A outer s H vs Q E hr h=>?_)
 . obtain ⟨p,a,t,c,m,ps,rs,xs,rfl,_⟩:=h
   rfl
 . obtain ⟨p,a,t,c,m,ps,rs,xs,rfl,W,ha,hz,k,e⟩:=h;refine ⟨_,(aj (aO (d8 (fB (au G_is_filled (hr.mono (by decide)) ic.g cm.m cm.F.kp cm.b .nil jc (af (pvl 0 u5) (af (pvl 1 iU) ah)) (hdb:=ic.d)))) (al (pX T.CA rfl tJ hV.g T.Ci (af c7 ah) (hdb:=hV.d))) aA) (al (aF (cU dn gw.g T.tuple gC (af (pvl 1 iU) ah) (hn:=gw.n) (hdb:=gw.d))))),?_⟩;rw [show L2.start ["web","numbers"] [V.ref p,V.ref a]=[some (V.ref p),some (V.ref a)] from rfl];walk_at "rd";refine ⟨p,a,t,c,m,ps,rs,xs,rfl,W,ha,hz,fun H1 s1=>⟨_,rfl,?_⟩⟩;by_cases z:aD m xs=false
   . rw [if_pos z];exact ⟨by decide,e z H1 s1⟩
   . rw [if_neg z];have z':aD m xs=true:=(by simpa using z);cases c
     . exact ⟨_,.inr ⟨Same.sqX (c:=false) s1 ha,k z' a H1 s1 (.inr ⟨rfl,rfl⟩) (Same.sqX (c:=false) s1 ha)⟩⟩
     . exact ⟨_,.inl ⟨Same.sqX (c:=true) s1 ha,fun l nl=>k z' l _ (s1.trans (Same.new _ nl)) (.inl ak) (SqT.of ak)⟩⟩
def E7 (T:Txt K mg):Sp:=fun vs H Q E=>∃ (p a t:Addr) (c:Bool) (m:Int) (ps:List Addr) (rs:List Road) (xs:List Int) (v n:Int),vs=[.ref p,.ref a,.int v,.int n]/\WebAt T.Web H p m t ps rs/\SqX K c H a (xs.map V.int)/\xs.length<=1000 /\
 (aD m xs=true->0<=v->v<m->0<=xs.getD v.toNat 0+n->∀ l H',Same H H'->H' l=some (.tup ((xs.set v.toNat (xs.getD v.toNat 0+n)).map V.int))->Q (.ref l) H') /\
 (aD m xs=false->∀ H',Same H H'->E (.ref T.BadLaying) none H')/\(aD m xs=true->¬ (0<=v/\v<m)->∀ H',Same H H'->E (.ref T.NoPlace) none H')/\(aD m xs=true->0<=v->v<m->xs.getD v.toNat 0+n<0->∀ H',Same H H'->E (.ref T.BadLaying) none H')
abbrev eN:Stmt:=top 28
theorem Fk:FnScope ["web","laying","place","many","counts"] ["web","laying","place","many"] (aa eN):=FnScope.of (by kernel_rfl)
theorem qf:NmL (aa eN) "web":=.of (by kernel_rfl)
theorem zd:NmL (aa eN) "laying":=.of (by kernel_rfl)
theorem tf:NmL (aa eN) "place":=.of (by kernel_rfl)
theorem C5:NmL (aa eN) "many":=.of (by kernel_rfl)
theorem kY:NmL (aa eN) "counts":=.of (by kernel_rfl)
theorem nI:NmG (aa eN) "list":=.of (by kernel_rfl)
theorem fk:NmG (aa eN) "laying_of":=.of (by kernel_rfl)
theorem kz:NmG (aa eN) "check_place":=.of (by kernel_rfl)
theorem Lz (T:Txt K mg) (hq:aN (CXe P w)) {f:Addr} {fd:FuncData} (D:Df K mg "put" eN ["web","laying","place","many"] f fd) {aU:Addr} {bJ:FuncData} (ay:Df K mg "check_place" aX ["web","number"] aU bJ) (G_check_place:FnOk P w K mg base (CXe P w) 2 aU bJ ["web","number"] (eZ T)) {cF:Addr} {gA:FuncData} (bL:Df K mg "laying_of" bM ["web","numbers"] cF gA) (G_laying_of:FnOk P w K mg base (CXe P w) 2 cF gA ["web","numbers"] (mU T)):FnOk P w K mg base (CXe P w) 3 f fd ["web","laying","place","many"] (E7 T):=by
 refine D.F.okX Fk (fun vs H Q E h=>?_) (fun cdv A outer s H vs Q E hr h=>?_)
 . obtain ⟨p,a,t,c,m,ps,rs,xs,v,n,rfl,_⟩:=h
   rfl
 . obtain ⟨p,a,t,c,m,ps,rs,xs,v,n,rfl,W,ha,hz,k,e1,e2,e3⟩:=h;have g:=W.go;have m24:=g.m24;refine ⟨_,(aj (aH (i:=4) Fk.nd rfl (Or.inl kY.l) (cU gu nI.g T.list pH (af (au G_laying_of (hr.mono (by decide)) fk.g bL.m bL.F.kp bL.b .nil jc (af (pvl 0 qf) (af (pvl 1 zd) ah)) (hdb:=fk.d)) ah) (hn:=nI.n) (hdb:=nI.d))) (aj (bq (au G_check_place (hr.mono (by decide)) kz.g ay.m ay.F.kp ay.b .nil jc (af (pvl 0 qf) (af (pvl 2 tf) ah)) (hdb:=kz.d))) (aj (xr (pvl 4 kY) (pvl 2 tf) vc (pvl 3 C5) Gn gF) (al (aF (au G_laying_of (hr.mono (by decide)) fk.g bL.m bL.F.kp bL.b .nil jc (af (pvl 0 qf) (af (pvl 4 kY) ah)) (hdb:=fk.d))))))),?_⟩;rw [show L2.start ["web","laying","place","many","counts"] [V.ref p,V.ref a,V.int v,V.int n]=[some (V.ref p),some (V.ref a),some (V.int v),some (V.int n),none] from rfl];walk_at "rd";refine ⟨p,a,t,c,m,ps,rs,xs,rfl,W,ha,hz,fun fi l0 H0 s0 _ e0=>?_,e1⟩;have xl:(xs.length:Int)=m:=by
     unfold aD at fi;rw [Bool.and_eq_true] at fi;exact of_decide_eq_true fi.1
   refine ⟨l0,rfl,_,.inr e0,fun l n1=>?_⟩;have s01:=s0.trans (Same.new (.lst (xs.map V.int)) n1);have nl:=s0.free n1;have el:upd H0 l (.lst (xs.map V.int)) l=some (.lst (xs.map V.int)):=ak;generalize upd H0 l (.lst (xs.map V.int))=H1 at s01 el ⊢;refine ⟨p,t,m,ps,rs,v,rfl,W.same s01,fun v0 v1=>?_,fun z=>e2 fi z H1 s01⟩;refine ixL el (atG v0 (by omega)) ⟨_,rfl,tz el v0 (by rw [List.length_map];omega) ?_⟩;rw [<- List.map_set];have s2:=s01.put nl (.lst ((xs.set v.toNat (xs.getD v.toNat 0+n)).map V.int));have e2':upd H1 l (.lst ((xs.set v.toNat (xs.getD v.toNat 0+n)).map V.int)) l=some (.lst ((xs.set v.toNat (xs.getD v.toNat 0+n)).map V.int)):=ak;generalize upd H1 l (.lst ((xs.set v.toNat (xs.getD v.toNat 0+n)).map V.int))=H2 at s2 e2' ⊢;have yl:((xs.set v.toNat (xs.getD v.toNat 0+n)).length:Int)=m:=by rw [List.length_set];exact xl
   refine ⟨p,l,t,true,m,ps,rs,_,rfl,W.same s2,SqL.of e2',by omega,fun fy lr H3 s3 hl _=>?_,fun fy H3 s3=>?_⟩
   . have hl3:H3 lr=some (.tup ((xs.set v.toNat (xs.getD v.toNat 0+n)).map V.int)):=by
       rcases hl with z|z
       . exact z
       . cases z.1
     refine k fi v0 v1 ?_ lr H3 (s2.trans s3) hl3;unfold aD at fy;rw [Bool.and_eq_true,List.all_eq_true] at fy;exact of_decide_eq_true (fy.2 _ (List.mem_of_getElem? (i:=v.toNat) (by rw [List.getElem?_set_self (by omega)])))
   . refine e3 fi v0 v1 ?_ H3 (s2.trans s3);apply Classical.byContradiction;intro z;have:aD m (xs.set v.toNat (xs.getD v.toNat 0+n))=true:=by
       unfold aD at fi;rw [Bool.and_eq_true,List.all_eq_true] at fi;exact iM yl (LD (fun x hx=>of_decide_eq_true (fi.2 x hx)) (by omega))
     rw [this] at fy;cases fy
def Db (T:Txt K mg):Sp:=fun vs H Q E=>∃ (p t:Addr) (m:Int) (ps:List Addr) (rs:List Road) (v n:Int),vs=[.ref p,.int v,.int n]/\WebAt T.Web H p m t ps rs /\
 (0<=v->v<m->0<=n->∀ l H',Same H H'->H' l=some (.tup (((List.replicate m.toNat (0:Int)).set v.toNat n).map V.int))->Q (.ref l) H') /\
 (¬ (0<=v/\v<m)->∀ H',Same H H'->E (.ref T.NoPlace) none H')/\(0<=v->v<m->n<0->∀ H',Same H H'->E (.ref T.BadLaying) none H')
abbrev fF:Stmt:=top 27
theorem Ks:FnScope ["web","place","many"] ["web","place","many"] (aa fF):=FnScope.of (by kernel_rfl)
theorem uw:NmL (aa fF) "web":=.of (by kernel_rfl)
theorem yE:NmL (aa fF) "place":=.of (by kernel_rfl)
theorem zL:NmL (aa fF) "many":=.of (by kernel_rfl)
theorem ud:NmG (aa fF) "put":=.of (by kernel_rfl)
theorem La (T:Txt K mg) (hq:aN (CXe P w)) {f:Addr} {fd:FuncData} (D:Df K mg "pile" fF ["web","place","many"] f fd) {pY:Addr} {Fe:FuncData} (tH:Df K mg "put" eN ["web","laying","place","many"] pY Fe) (G_put:FnOk P w K mg base (CXe P w) 3 pY Fe ["web","laying","place","many"] (E7 T)):FnOk P w K mg base (CXe P w) 4 f fd ["web","place","many"] (Db T):=by
 refine D.F.okX Ks (fun vs H Q E h=>?_) (fun cdv A outer s H vs Q E hr h=>?_)
 . obtain ⟨p,t,m,ps,rs,v,n,rfl,_⟩:=h
   rfl
 . obtain ⟨p,t,m,ps,rs,v,n,rfl,W,k,e2,e3⟩:=h;have g:=W.go;have m1:=g.m1;have m24:=g.m24;obtain ⟨dx,ob⟩:=W.ob;refine ⟨_,(al (aF (au G_put (hr.mono (by decide)) ud.g tH.m tH.F.kp tH.b .nil jc (af (pvl 0 uw) (af (am pr (c6 (af ag ah)) (cZ  (pvl 0 uw) rfl)) (af (pvl 1 yE) (af (pvl 2 zL) ah)))) (hdb:=ud.d)))),?_⟩;rw [show L2.start ["web","place","many"] [V.ref p,V.int v,V.int n]=[some (V.ref p),some (V.int v),some (V.int n)] from rfl];walk_at "rd";refine ⟨bG (by simp),fun l0 n0=>?_⟩;have s0:=Same.new (.lst [V.int 0]) n0;refine ⟨T.Web,dx,_,s0 _ _ ob,T.gc,T.n_many,_,fw m t,?_⟩;refine ⟨l0,m,_,rfl,rfl,ak,by omega,by omega,bG (by simp;omega),fun l n1=>?_⟩;rw [MO];have s1:=s0.trans (Same.new (.lst (List.replicate m.toNat (V.int 0))) n1);have e1:upd (upd H l0 (.lst [V.int 0])) l (.lst (List.replicate m.toNat (V.int 0))) l=some (.lst ((List.replicate m.toNat (0:Int)).map V.int)):=by rw [ak,List.map_replicate]
   generalize upd (upd H l0 (.lst [V.int 0])) l (.lst (List.replicate m.toNat (V.int 0)))=H1 at s1 e1 ⊢;have zl:((List.replicate m.toNat (0:Int)).length:Int)=m:=by rw [List.length_replicate];omega
   have z0:∀ x∈List.replicate m.toNat (0:Int),0<=x:=fun x hx=>by rw [(List.mem_replicate.mp hx).2];decide
   have fz:=iM zl z0;have hz:0<=v->v<m->(List.replicate m.toNat (0:Int)).getD v.toNat 0=0:=fun v0 v1=>by
     rw [List.getD,List.getElem?_replicate_of_lt (by omega)];rfl
   refine ⟨p,l,t,true,m,ps,rs,_,v,n,rfl,W.same s1,SqL.of e1,by omega,fun _ v0 v1 h0 lr H2 s2 e=>?_,fun z=>(by rw [fz] at z;cases z),fun _ z H2 s2=>e2 z H2 (s1.trans s2),fun _ v0 v1 h0 H2 s2=>?_⟩
   . rw [hz v0 v1,Int.zero_add] at h0 e;exact k v0 v1 h0 lr H2 (s1.trans s2) e
   . rw [hz v0 v1,Int.zero_add] at h0;exact e3 v0 v1 h0 H2 (s1.trans s2)
def ue (T:Txt K mg):Sp:=fun vs H Q _=>∃ (o wb pl t:Addr) (m:Int) (ps:List Addr) (rs:List Road) (sts:List (List Int × List Int)) (s:List Int × List Int) (v n:Int),vs=[.ref o,.int v,.int n]/\DeskAt T.Web T.Desk H o wb pl m t ps rs (sts++[s])/\sts.length<=500/\(s.1.length:Int)=m/\(0<=v/\v<m)/\0<=n /\
 ∀ H',DeskAt T.Web T.Desk H' o wb pl m t ps rs (sts++[s]++[(s.1.set v.toNat (s.1.getD v.toNat 0+n),s.2)])->Kpt pl H H'->Q .non H'
abbrev b4:Stmt:=fG (top 39) 1
theorem um:FnScope ["self","place","many","heap"] ["self","place","many"] (aa b4):=FnScope.of (by kernel_rfl)
theorem fo:NmL (aa b4) "self":=.of (by kernel_rfl)
theorem tV:NmL (aa b4) "place":=.of (by kernel_rfl)
theorem uV:NmL (aa b4) "many":=.of (by kernel_rfl)
theorem mx:NmL (aa b4) "heap":=.of (by kernel_rfl)
theorem mh:NmG (aa b4) "pile":=.of (by kernel_rfl)
theorem gZ:NmG (aa b4) "tuple":=.of (by kernel_rfl)
theorem vy:NmG (aa b4) "zip":=.of (by kernel_rfl)
theorem C0 (T:Txt K mg) (hq:aN (CXe P w)) {f:Addr} {fd:FuncData} (F:Fun K "put" "Desk.put" b4 f fd) {f_Desk_keep:Addr} {b9:FuncData} (F_Desk_keep:Fun K "keep" "Desk.keep" cc f_Desk_keep b9) (b_Desk_keep:Binds K b9 ["self","laying","wish"] []) (df:Meth K T.Desk "keep" f_Desk_keep) (G_Desk_keep:FnOk P w K mg base (CXe P w) 1 f_Desk_keep b9 ["self","laying","wish"] (jm T)) {f_Desk_laying:Addr} {aR:FuncData} (F_Desk_laying:Fun K "laying" "Desk.laying" bU f_Desk_laying aR) (b_Desk_laying:Binds K aR ["self"] []) (bD:Meth K T.Desk "laying" f_Desk_laying) (G_Desk_laying:FnOk P w K mg base (CXe P w) 1 f_Desk_laying aR ["self"] (eW T)) {f_Desk_wish:Addr} {be:FuncData} (F_Desk_wish:Fun K "wish" "Desk.wish" cq f_Desk_wish be) (b_Desk_wish:Binds K be ["self"] []) (ce:Meth K T.Desk "wish" f_Desk_wish) (G_Desk_wish:FnOk P w K mg base (CXe P w) 1 f_Desk_wish be ["self"] (gv T)) {my:Addr} {C8:FuncData} (pf:Df K mg "pile" fF ["web","place","many"] my C8) (G_pile:FnOk P w K mg base (CXe P w) 4 my C8 ["web","place","many"] (Db T)):FnOk P w K mg base (CXe P w) 5 f fd ["self","place","many"] (ue T):=by
 refine F.okC um (fun vs H Q E h=>?_) (fun cdv A outer s H vs Q E hr h=>?_)
 . obtain ⟨o,wb,pl,t,m,ps,rs,sts,s,v,n,rfl,_⟩:=h
   rfl
 . obtain ⟨o,wb,pl,t,m,ps,rs,sts,s,v,n,rfl,O,sl,xl,vr,n0,k⟩:=h;obtain ⟨dx,ob⟩:=O.ob;have m24:=O.web.go.m24;refine ⟨_,(aj (aH (i:=3) um.nd rfl (Or.inl mx.l) (au G_pile (hr.mono (by decide)) mh.g pf.m pf.F.kp pf.b .nil (az hq) (af (cZ  (pvl 0 fo) rfl) (af (pvl 1 tV) (af (pvl 2 uV) ah))) (hdb:=mh.d))) (al (bq (lR (pvl 0 fo) T.aQ df G_Desk_keep (hr.mono (by decide)) b_Desk_keep .nil (az hq) (af (cU dn gZ.g T.tuple gC (af (wA rfl (uG (Nc:=["has","more"]) 2 (by decide +kernel) (by decide +kernel) rfl (by decide +kernel) rfl) (Mt false false vy.g T.zip (af (cL (pvl 0 fo) T.aQ bD G_Desk_laying (hr.mono (by decide)) b_Desk_laying .nil (az hq)) (af (pvl 3 mx) ah))) (fun _ _ _ _=>(KD K rfl (n:=2) rfl (bj (aM (i:=0) (show (["has","more"]:List Str).Nodup from by decide +kernel) rfl (Or.inl rfl)) (bj (aM (i:=1) (show (["has","more"]:List Str).Nodup from by decide +kernel) rfl (Or.inl rfl)) iK)))) (fun _ _ _ _=>xg) (fun _ _ _ _=>(am cN (pv 0) (pv 1)))) ah) (hn:=gZ.n) (hdb:=gZ.d)) (af (cL (pvl 0 fo) T.aQ ce G_Desk_wish (hr.mono (by decide)) b_Desk_wish .nil (az hq)) ah)))))),?_⟩;rw [show L2.start ["self","place","many","heap"] [V.ref o,V.int v,V.int n]=[some (V.ref o),some (V.int v),some (V.int n),none] from rfl];walk_at "rd";refine ⟨T.Desk,dx,_,ob,T.aQ,T.n_web,_,tm _ _,?_⟩;refine ⟨wb,t,m,ps,rs,v,n,rfl,O.web,fun _ _ _ l1 H1 s1 e1=>?_,fun z=>absurd vr z,fun _ _ z=>by omega⟩;have O1:=O.same s1;obtain ⟨dx1,ob1⟩:=O1.ob;refine O1.meth ?_;refine O1.meth ⟨o,wb,pl,t,m,ps,rs,sts,s,rfl,O1,fun la hla=>?_⟩;have pl24:((List.replicate m.toNat (0:Int)).set v.toNat n).length=m.toNat:=by rw [List.length_set,List.length_replicate]
   refine ⟨la,l1,⟨rfl,rfl⟩,⟨_,SqT.of hla⟩,⟨_,SqT.of e1⟩,fun p hp=>?_⟩;refine IW (K:=K) (c:=false) (d:=false) (xs:=s.1.map V.int) (zs:=((List.replicate m.toNat (0:Int)).set v.toNat n).map V.int) (fun i bs σ H2=>Same H1 H2/\H2 p=some (.lst bs)/\bs=(((s.1.zip ((List.replicate m.toNat (0:Int)).set v.toNat n)).take i).map fun q=>q.1+q.2).map V.int/\∃ v w,σ=[v,w]) ⟨Same.new _ hp,ak,rfl,_,_,rfl⟩ (fun i bs σ H2 z=>⟨SqT.of (z.1 _ _ hla),SqT.of (z.1 _ _ e1)⟩) ?_ ?_
   . rintro i x z bs σ H2 q N hN hx hz' ⟨s2,e2,rfl,v',w,rfl⟩ hq;rw [List.getElem?_map] at hx hz';obtain ⟨x,gx,rfl⟩:=Option.map_eq_some_iff.mp hx;obtain ⟨z,gz,rfl⟩:=Option.map_eq_some_iff.mp hz';have s3:=Same.new (.tup [V.int x,V.int z]) hq;have hix:=(List.getElem?_eq_some_iff.mp gx).1;walk_at "rd";refine ⟨_,SqT.of ak,rfl,_,_,rfl,_,_,rfl,rfl,?_⟩;walk_at "rd";refine ⟨s3 _ _ e2,f6 (by simp;omega),hN _ _ _ ⟨(s2.trans s3).put hp _,ak,?_,_,_,rfl⟩⟩;have hzz:(s.1.zip ((List.replicate m.toNat (0:Int)).set v.toNat n))[i]?=some (x,z):=(by rw [List.getElem?_zip_eq_some];exact ⟨gx,gz⟩);rw [List.take_succ,hzz,List.map_append,List.map_append]
     rfl
   . rintro bs σ H2 ⟨s2,e2,rfl,v',w,rfl⟩;have e:(((s.1.zip ((List.replicate m.toNat (0:Int)).set v.toNat n)).take (min (s.1.map V.int).length (((List.replicate m.toNat (0:Int)).set v.toNat n).map V.int).length)).map fun q=>q.1+q.2)=s.1.set v.toNat (s.1.getD v.toNat 0+n):=by
       rw [List.take_of_length_le (by rw [List.length_zip,List.length_map,List.length_map];exact Nat.le_refl _),<- HQ xl vr.1 vr.2];unfold sG;rw [List.zip,List.map_zipWith]
     rw [e] at e2;refine ⟨p,rfl,_,.inl ⟨SqL.of e2,fun l3 n3=>?_⟩⟩;have s3:=s2.trans (Same.new (.tup ((s.1.set v.toNat (s.1.getD v.toNat 0+n)).map V.int)) n3);have e3:upd H2 l3 (.tup ((s.1.set v.toNat (s.1.getD v.toNat 0+n)).map V.int)) l3=some (.tup ((s.1.set v.toNat (s.1.getD v.toNat 0+n)).map V.int)):=ak;generalize upd H2 l3 (.tup ((s.1.set v.toNat (s.1.getD v.toNat 0+n)).map V.int))=H3 at s3 e3 ⊢;have O3:=O1.same s3;refine O3.meth ⟨o,wb,pl,t,m,ps,rs,sts,s,rfl,O3,fun lb hlb=>?_⟩;refine ⟨o,wb,pl,t,l3,lb,m,ps,rs,_,(_,_),rfl,O3,e3,hlb,by rw [List.length_append];simp;omega,fun H4 O4 k4=>k H4 O4 ?_⟩;exact fun c y h n=>k4 c y (s3 _ _ (s1 _ _ h)) n
def Dn (T:Txt K mg):Sp:=fun vs H Q E=>∃ (p t:Addr) (m:Int) (ps:List Addr) (rs:List Road) (a b:Int),vs=[.ref p,.int a,.int b]/\WebAt T.Web H p m t ps rs /\
 (∀ k,0<=a->a<m->0<=b->b<m->bO rs a b=some k->Q (.int k) H)/\(¬ ((0<=a/\a<m)/\(0<=b/\b<m))->E (.ref T.NoPlace) none H)/\(0<=a->a<m->0<=b->b<m->bO rs a b=none->E (.ref T.NoRoad) none H)
abbrev di:Stmt:=top 15
theorem pw:FnScope ["web","a","b","one","other","there","back"] ["web","a","b"] (aa di):=FnScope.of (by kernel_rfl)
theorem oW:NmL (aa di) "web":=.of (by kernel_rfl)
theorem rZ:NmL (aa di) "a":=.of (by kernel_rfl)
theorem sN:NmL (aa di) "b":=.of (by kernel_rfl)
theorem nM:NmL (aa di) "one":=.of (by kernel_rfl)
theorem kX:NmL (aa di) "other":=.of (by kernel_rfl)
theorem qQ:NmL (aa di) "there":=.of (by kernel_rfl)
theorem sx:NmL (aa di) "back":=.of (by kernel_rfl)
theorem dY:NmG (aa di) "check_place":=.of (by kernel_rfl)
theorem o9:NmG (aa di) "NoRoad":=.of (by kernel_rfl)
theorem K7 (T:Txt K mg) (hq:aN (CXe P w)) {f:Addr} {fd:FuncData} (D:Df K mg "toll" di ["web","a","b"] f fd) {aU:Addr} {bJ:FuncData} (ay:Df K mg "check_place" aX ["web","number"] aU bJ) (G_check_place:FnOk P w K mg base (CXe P w) 2 aU bJ ["web","number"] (eZ T)):FnOk P w K mg base (CXe P w) 3 f fd ["web","a","b"] (Dn T):=by
 refine D.F.okX pw (fun vs H Q E h=>?_) (fun cdv A outer s H vs Q E hr h=>?_)
 . obtain ⟨p,t,m,ps,rs,a,b,rfl,_⟩:=h
   rfl
 . obtain ⟨p,t,m,ps,rs,a,b,rfl,W,k,e1,e2⟩:=h;obtain ⟨dx,ob⟩:=W.ob;refine ⟨_,(aj (bq (au G_check_place (hr.mono (by decide)) dY.g ay.m ay.F.kp ay.b .nil jc (af (pvl 0 oW) (af (pvl 1 rZ) ah)) (hdb:=dY.d))) (aj (bq (au G_check_place (hr.mono (by decide)) dY.g ay.m ay.F.kp ay.b .nil jc (af (pvl 0 oW) (af (pvl 2 sN) ah)) (hdb:=dY.d))) (aj (gn PassesOwn.leaving rfl (sU (cZ  (pvl 0 oW) rfl)) (kF (n:=4) rfl (bj (aM (i:=3) pw.nd rfl (Or.inl nM.l)) (bj (aM (i:=4) pw.nd rfl (Or.inl kX.l)) (bj (aM (i:=5) pw.nd rfl (Or.inl qQ.l)) (bj (aM (i:=6) pw.nd rfl (Or.inl sx.l)) iK))))) (aj (aO (PW.pt (mi (aE bR (pvl 3 nM) (pvl 1 rZ) (aG _)) (jS (aE bR (pvl 4 kX) (pvl 2 sN) (aG _))))) (al (aF (pvl 5 qQ))) aA) (al (aO (PW.pt (mi (aE bR (pvl 3 nM) (pvl 2 sN) (aG _)) (jS (aE bR (pvl 4 kX) (pvl 1 rZ) (aG _))))) (al (aF (pvl 6 sx))) aA)))) (al (pX T.GI rfl tJ o9.g T.JV (af c7 ah) (hdb:=o9.d)))))),?_⟩;rw [show L2.start ["web","a","b","one","other","there","back"] [V.ref p,V.int a,V.int b]=[some (V.ref p),some (V.int a),some (V.int b),none,none,none,none] from rfl];walk_at "rd";refine ⟨p,t,m,ps,rs,a,rfl,W,fun a0 a1=>?_,fun z=>e1 fun w=>z w.1⟩;refine ⟨p,t,m,ps,rs,b,rfl,W,fun b0 b1=>?_,fun z=>e1 fun w=>z w.2⟩;refine ⟨T.Web,dx,_,ob,T.gc,T.n_roads,_,nJ m t,t,rfl,⟨_,SqT.of W.tu⟩,?_⟩;have hlen:ps.length=rs.length:=Paired.length W.ro;refine AN (K:=K) (xs:=ps.map V.ref) (fun i σ H2=>H2=H/\bO (rs.take i) a b=none/\∃ v1 v2 v3 v4,σ=[some (V.ref p),some (V.int a),some (V.int b),v1,v2,v3,v4]) ⟨rfl,rfl,_,_,_,_,rfl⟩ (fun i σ H2 _ z=>by rw [z.1];exact SqT.of W.tu) ?_ ?_
   . rintro i x σ H2 N hN hx ⟨rfl,hno,v1,v2,v3,v4,rfl⟩;obtain ⟨q,r,rfl,h1,h2,h3⟩:=W.ro.get hx;have et:rs.take (i+1)=rs.take i++[r]:=(by rw [List.take_succ,h2];rfl);have split:bO rs a b=(bO (rs.take i) a b).or ((dX a b r).or (bO (rs.drop (i+1)) a b)):=by
       have:rs=rs.take i++r::rs.drop (i+1):=by
         have hil:i<rs.length:=(List.getElem?_eq_some_iff.mp h2).1;have e:rs[i]=r:=(by rw [List.getElem?_eq_getElem hil] at h2;exact Option.some.inj h2);rw [<- e,List.getElem_cons_drop,List.take_append_drop]
       conv=>lhs;rw [this]
       unfold bO;rw [List.findSome?_append,List.findSome?_cons];cases dX a b r <;> rfl
     rw [hno,Option.none_or] at split;walk_at "rd";refine ⟨_,SqT.of h3,rfl,_,_,rfl,_,_,rfl,_,_,rfl,_,_,rfl,rfl,?_⟩;walk_at "rd";have next:dX a b r=none->N [some (V.ref p),some (V.int a),some (V.int b),some (V.int r.a),some (V.int r.b),some (V.int r.t),some (V.int r.u)] H2:=fun z=>hN _ _ ⟨rfl,by
       rw [et];unfold bO at hno ⊢;rw [List.findSome?_append,hno,List.findSome?_cons,z]
       rfl,_,_,_,_,rfl⟩
     have got:∀ v,dX a b r=some v->bO rs a b=some v:=fun v z=>by rw [split,z];rfl
     unfold dX at next got;split
     . rename_i c1
       split
       . rename_i c2
         exact k _ a0 a1 b0 b1 (got _ (by rw [if_pos ⟨c1,c2⟩]))
       . rename_i c2
         split
         . rename_i c3
           split
           . rename_i c4
             exact k _ a0 a1 b0 b1 (got _ (by rw [if_neg (fun z=>c2 z.2),if_pos ⟨c3,c4⟩]))
           . rename_i c4
             exact next (by rw [if_neg (fun z=>c2 z.2),if_neg (fun z=>c4 z.2)])
         . rename_i c3
           exact next (by rw [if_neg (fun z=>c2 z.2),if_neg (fun z=>c3 z.1)])
     . rename_i c1
       split
       . rename_i c3
         split
         . rename_i c4
           exact k _ a0 a1 b0 b1 (got _ (by rw [if_neg (fun z=>c1 z.1),if_pos ⟨c3,c4⟩]))
         . rename_i c4
           exact next (by rw [if_neg (fun z=>c1 z.1),if_neg (fun z=>c4 z.2)])
       . rename_i c3
         exact next (by rw [if_neg (fun z=>c1 z.1),if_neg (fun z=>c3 z.1)])
   . rintro σ H2 ⟨rfl,hno,v1,v2,v3,v4,rfl⟩;rw [List.length_map,hlen,List.take_length] at hno;walk_at "rd";exact ⟨by decide,e2 a0 a1 b0 b1 hno⟩
def uY (T:Txt K mg):Sp:=fun vs H Q _=>∃ (p q t:Addr) (m:Int) (ps:List Addr) (rs:List Road) (s:Stp),vs=[.ref p,.ref q]/\WebAt T.Web H p m t ps rs/\H q=some (.tup (vSt s))/\jp m rs s=true/\Q (.int (s.2.2*dh rs s.1 s.2.1)) H
abbrev d0:Stmt:=top 34
theorem Jn:FnScope ["web","step"] ["web","step"] (aa d0):=FnScope.of (by kernel_rfl)
theorem AU:NmL (aa d0) "web":=.of (by kernel_rfl)
theorem lp:NmL (aa d0) "step":=.of (by kernel_rfl)
theorem qX:NmG (aa d0) "toll":=.of (by kernel_rfl)
theorem Hr (T:Txt K mg) (hq:aN (CXe P w)) {f:Addr} {fd:FuncData} (D:Df K mg "taken" d0 ["web","step"] f fd) {lY:Addr} {Dv:FuncData} (pc:Df K mg "toll" di ["web","a","b"] lY Dv) (G_toll:FnOk P w K mg base (CXe P w) 3 lY Dv ["web","a","b"] (Dn T)):FnOk P w K mg base (CXe P w) 4 f fd ["web","step"] (uY T):=by
 refine D.F.okC Jn (fun vs H Q E h=>?_) (fun cdv A outer s H vs Q E hr h=>?_)
 . obtain ⟨p,q,t,m,ps,rs,s,rfl,_⟩:=h
   rfl
 . obtain ⟨p,q,t,m,ps,rs,s,rfl,W,hs,is,k⟩:=h;have g:=W.go;obtain ⟨kk,e1,e2,kr,br⟩:=yp g is;have ar:=(qJ is).1;refine ⟨_,(al (aF (am kG (ap bc (pvl 1 lp) ag (fun _ _=>rfl)) (au G_toll (hr.mono (by decide)) qX.g pc.m pc.F.kp pc.b .nil (az hq) (af (pvl 0 AU) (af (ap bc (pvl 1 lp) ag (fun _ _=>rfl)) (af (ap bc (pvl 1 lp) ag (fun _ _=>rfl)) ah))) (hdb:=qX.d))))),?_⟩;rw [show L2.start ["web","step"] [V.ref p,V.ref q]=[some (V.ref p),some (V.ref q)] from rfl];walk_at "rd";refine ixT hs rfl (ixT hs rfl (ixT hs rfl ?_));refine ex7 p t m ps rs s.1 s.2.1 ?_;refine an5 rfl W (fun k' _ _ _ _ h=>?_) (fun z=>absurd ⟨ar,br⟩ z) (fun _ _ _ _ z=>by rw [e1] at z;cases z);rw [e1] at h;cases h;rw [e2] at k;exact ⟨_,rfl,_,rfl,.inr ⟨by omega,by omega⟩,k⟩
def xV (T:Txt K mg):Sp:=fun vs H Q _=>∃ (p a q t:Addr) (m:Int) (ps:List Addr) (rs:List Road) (xs:List Int) (s:Stp),vs=[.ref p,.ref a,.ref q]/\WebAt T.Web H p m t ps rs/\SqT K H a (xs.map V.int)/\(xs.length:Int)=m/\H q=some (.tup (vSt s))/\jp m rs s=true/\∀ l H',H l=none->Same H H'->H' l=some (.tup ((ig rs xs s).map V.int))->Q (.ref l) H'
abbrev cA:Stmt:=top 35
theorem xZ:FnScope ["web","laying","step","counts"] ["web","laying","step"] (aa cA):=FnScope.of (by kernel_rfl)
theorem yJ:NmL (aa cA) "web":=.of (by kernel_rfl)
theorem uC:NmL (aa cA) "laying":=.of (by kernel_rfl)
theorem gN:NmL (aa cA) "step":=.of (by kernel_rfl)
theorem fu:NmL (aa cA) "counts":=.of (by kernel_rfl)
theorem jR:NmG (aa cA) "list":=.of (by kernel_rfl)
theorem nA:NmG (aa cA) "taken":=.of (by kernel_rfl)
theorem iV:NmG (aa cA) "tuple":=.of (by kernel_rfl)
theorem FU (T:Txt K mg) (hq:aN (CXe P w)) {f:Addr} {fd:FuncData} (D:Df K mg "behind" cA ["web","laying","step"] f fd) {fM:Addr} {mM:FuncData} (eY:Df K mg "taken" d0 ["web","step"] fM mM) (G_taken:FnOk P w K mg base (CXe P w) 4 fM mM ["web","step"] (uY T)):FnOk P w K mg base (CXe P w) 5 f fd ["web","laying","step"] (xV T):=by
 refine D.F.okC xZ (fun vs H Q E h=>?_) (fun cdv A outer s H vs Q E hr h=>?_)
 . obtain ⟨p,a,q,t,m,ps,rs,xs,s,rfl,_⟩:=h
   rfl
 . obtain ⟨p,a,q,t,m,ps,rs,xs,s,rfl,W,ha,xl,hs,is,k⟩:=h;have g:=W.go;have m24:=g.m24;obtain ⟨kk,e1,e2,kr,br⟩:=yp g is;have ar:=(qJ is).1;refine ⟨_,(aj (aH (i:=3) xZ.nd rfl (Or.inl fu.l) (cU gu jR.g T.list pH (af (pvl 1 uC) ah) (hn:=jR.n) (hdb:=jR.d))) (aj (xr (pvl 3 fu) (ap bc (pvl 2 gN) ag (fun _ _=>rfl)) vc (au G_taken (hr.mono (by decide)) nA.g eY.m eY.F.kp eY.b .nil (az hq) (af (pvl 0 yJ) (af (pvl 2 gN) ah)) (hdb:=nA.d)) MC gF) (aj (xr (pvl 3 fu) (ap bc (pvl 2 gN) ag (fun _ _=>rfl)) vc (ap bc (pvl 2 gN) ag (fun _ _=>rfl)) Gn gF) (al (aF (cU dn iV.g T.tuple gC (af (pvl 3 fu) ah) (hn:=iV.n) (hdb:=iV.d))))))),?_⟩;rw [show L2.start ["web","laying","step","counts"] [V.ref p,V.ref a,V.ref q]=[some (V.ref p),some (V.ref a),some (V.ref q),none] from rfl];walk_at "rd";refine ⟨_,.inr ha,fun l nl=>?_⟩;have s1:=Same.new (.lst (xs.map V.int)) nl;have hs1:=s1 _ _ hs;have el:upd H l (.lst (xs.map V.int)) l=some (.lst (xs.map V.int)):=ak;generalize upd H l (.lst (xs.map V.int))=H1 at s1 hs1 el ⊢;refine ixT hs1 rfl (ixL el (atG ar.1 (by omega)) ?_);refine ex7 p q t m ps rs s ?_;refine an5 rfl (W.same s1) hs1 is ?_;refine ⟨_,rfl,_,rfl,tz el ar.1 (by rw [List.length_map];omega) ?_⟩;rw [<- List.map_set];have nql:q≠l:=cy hs1 el (by intro z;cases z);have yl:(xs.set s.1.toNat (xs.getD s.1.toNat 0 - s.2.2*dh rs s.1 s.2.1)).length=xs.length:=by rw [List.length_set]
   have hk:ig rs xs s=(xs.set s.1.toNat (xs.getD s.1.toNat 0 - s.2.2*dh rs s.1 s.2.1)).set s.2.1.toNat ((xs.set s.1.toNat (xs.getD s.1.toNat 0 - s.2.2*dh rs s.1 s.2.1)).getD s.2.1.toNat 0+s.2.2):=rfl;generalize xs.set s.1.toNat (xs.getD s.1.toNat 0 - s.2.2*dh rs s.1 s.2.1)=ys at yl hk ⊢;have hs2:upd H1 l (.lst (ys.map V.int)) q=some (.tup (vSt s)):=by rw [ao nql];exact hs1
   refine ixT hs2 rfl (ixL ak (atG br.1 (by omega)) (ixT hs2 rfl ⟨_,rfl,_,rfl,tz ak br.1 (by rw [List.length_map];omega) ?_⟩));rw [iQ,<- List.map_set,<- hk];refine ⟨_,.inl ⟨SqL.of ak,fun l2 n2=>?_⟩⟩;have n20:H l2=none:=by
     have nl2:l2≠l:=fun z=>by rw [z,ak] at n2;cases n2
     rw [ao nl2] at n2;exact s1.free n2
   exact k l2 _ n20 ((s1.put nl _).trans (Same.new _ n2)) ak
def q8 (T:Txt K mg):Sp:=fun vs H Q E=>∃ (p t:Addr) (m:Int) (ps:List Addr) (rs:List Road) (a:Int),vs=[.ref p,.int a]/\WebAt T.Web H p m t ps rs /\
 (∀ l H',0<=a->a<m->H l=none->Same H H'->H' l=some (.lst ((l9 m rs a).map V.int))->Q (.ref l) H')/\(¬ (0<=a/\a<m)->E (.ref T.NoPlace) none H)
abbrev bI:Stmt:=top 16
theorem zq:FnScope ["web","a"] ["web","a"] (aa bI):=FnScope.of (by kernel_rfl)
theorem lG:NmL (aa bI) "web":=.of (by kernel_rfl)
theorem mZ:NmL (aa bI) "a":=.of (by kernel_rfl)
theorem f8:NmG (aa bI) "check_place":=.of (by kernel_rfl)
theorem fj:NmG (aa bI) "sorted":=.of (by kernel_rfl)
theorem gB:NmG (aa bI) "other_ends":=.of (by kernel_rfl)
theorem y8 (T:Txt K mg) (hq:aN (CXe P w)) {f:Addr} {fd:FuncData} (D:Df K mg "neighbours" bI ["web","a"] f fd) {aU:Addr} {bJ:FuncData} (ay:Df K mg "check_place" aX ["web","number"] aU bJ) (G_check_place:FnOk P w K mg base (CXe P w) 2 aU bJ ["web","number"] (eZ T)) {cs:Addr} {fD:FuncData} (b7:Df K mg "other_ends" bH ["roads","place"] cs fD) (G_other_ends:FnOk P w K mg base (CXe P w) 1 cs fD ["roads","place"] (kR T)):FnOk P w K mg base (CXe P w) 3 f fd ["web","a"] (q8 T):=by
 refine D.F.okX zq (fun vs H Q E h=>?_) (fun cdv A outer s H vs Q E hr h=>?_)
 . obtain ⟨p,t,m,ps,rs,a,rfl,_⟩:=h
   rfl
 . obtain ⟨p,t,m,ps,rs,a,rfl,W,k,e⟩:=h;obtain ⟨dx,ob⟩:=W.ob;refine ⟨_,(aj (bq (au G_check_place (hr.mono (by decide)) f8.g ay.m ay.F.kp ay.b .nil jc (af (pvl 0 lG) (af (pvl 1 mZ) ah)) (hdb:=f8.d))) (al (aF (bK CZ fj.g T.sorted Fb (af (au G_other_ends (hr.mono (by decide)) gB.g b7.m b7.F.kp b7.b .nil jc (af (cZ  (pvl 0 lG) rfl) (af (pvl 1 mZ) ah)) (hdb:=gB.d)) ah) (hn:=fj.n) (hdb:=fj.d))))),?_⟩;rw [show L2.start ["web","a"] [V.ref p,V.int a]=[some (V.ref p),some (V.int a)] from rfl];walk_at "rd";refine ⟨p,t,m,ps,rs,a,rfl,W,fun a0 a1=>?_,e⟩;have hlen:(rs.length:Int)=m - 1:=W.go.len;have m24:=W.go.m24;refine ⟨T.Web,dx,_,ob,T.gc,T.n_roads,_,nJ m t,t,ps,rs,a,rfl,SqT.of W.tu,W.ro,by omega,fun l1 H1 n1 s1 e1=>?_⟩;refine ⟨l1,rfl,b8 rs a,SqL.of e1,by have:=zH rs a;omega,fun l2 zs n2 pz sz=>?_⟩;rw [KY W.go a0 a1 pz sz];exact k l2 _ a0 a1 (s1.free n2) (s1.trans (Same.new _ n2)) ak
def wn (T:Txt K mg):Sp:=fun vs H Q _=>∃ (p q t:Addr) (m:Int) (ps:List Addr) (rs:List Road) (s:Stp),vs=[.ref p,.ref q]/\WebAt T.Web H p m t ps rs/\H q=some (.tup (vSt s))/\∀ H',Same H H'->Q (.bl (jp m rs s)) H'
abbrev cV:Stmt:=top 33
theorem DM:FnScope ["web","step"] ["web","step"] (aa cV):=FnScope.of (by kernel_rfl)
theorem o8:NmL (aa cV) "web":=.of (by kernel_rfl)
theorem fW:NmL (aa cV) "step":=.of (by kernel_rfl)
theorem jH:NmG (aa cV) "is_place":=.of (by kernel_rfl)
theorem iH:NmG (aa cV) "neighbours":=.of (by kernel_rfl)
theorem Eu (T:Txt K mg) (hq:aN (CXe P w)) {f:Addr} {fd:FuncData} (D:Df K mg "is_step" cV ["web","step"] f fd) {cg:Addr} {dG:FuncData} (aY:Df K mg "is_place" cw ["many","number"] cg dG) (G_is_place:FnOk P w K mg base (CXe P w) 1 cg dG ["many","number"] (kj T)) {dU:Addr} {qV:FuncData} (eR:Df K mg "neighbours" bI ["web","a"] dU qV) (G_neighbours:FnOk P w K mg base (CXe P w) 3 dU qV ["web","a"] (q8 T)):FnOk P w K mg base (CXe P w) 4 f fd ["web","step"] (wn T):=by
 refine D.F.okC DM (fun vs H Q E h=>?_) (fun cdv A outer s H vs Q E hr h=>?_)
 . obtain ⟨p,q,t,m,ps,rs,s,rfl,_⟩:=h
   rfl
 . obtain ⟨p,q,t,m,ps,rs,s,rfl,W,hs,k⟩:=h;obtain ⟨dx,ob⟩:=W.ob;refine ⟨_,(al (aF (pB (au G_is_place (hr.mono (by decide)) jH.g aY.m aY.F.kp aY.b .nil (az hq) (af (cZ  (pvl 0 o8) rfl) (af (ap bc (pvl 1 fW) ag (fun _ _=>rfl)) ah)) (hdb:=jH.d)) (pB (lQ Fj (ap bc (pvl 1 fW) ag (fun _ _=>rfl)) (au G_neighbours (hr.mono (by decide)) iH.g eR.m eR.F.kp eR.b .nil (az hq) (af (pvl 0 o8) (af (ap bc (pvl 1 fW) ag (fun _ _=>rfl)) ah)) (hdb:=iH.d)) (by with_unfolding_all rfl)) (sF (lQ ED (ap bc (pvl 1 fW) ag (fun _ _=>rfl)) ag (aG _))))))),?_⟩;rw [show L2.start ["web","step"] [V.ref p,V.ref q]=[some (V.ref p),some (V.ref q)] from rfl];walk_at "rd";refine ⟨T.Web,dx,_,ob,T.gc,T.n_many,_,fw m t,ixT hs rfl ⟨m,s.1,rfl,?_⟩⟩;refine ⟨_,rfl,?_⟩;have kk:∀ H',Same H H'->Q (.bl (decide (0<=s.1) && decide (s.1<m) && decide (s.2.1∈l9 m rs s.1) && decide (1<=s.2.2))) H':=k;by_cases c:(decide (0<=s.1) && decide (s.1<m))=true
   . rw [if_pos c];rw [c,Bool.true_and] at kk;have ar:0<=s.1/\s.1<m:=by
       rw [Bool.and_eq_true] at c;exact ⟨of_decide_eq_true c.1,of_decide_eq_true c.2⟩
     refine ixT hs rfl (ixT hs rfl ?_);refine ex6 p t m ps rs s.1 ?_;refine an4 rfl W (fun l H1 _ _ nl s1 el=>?_) (fun z=>absurd ar z);refine inL el ⟨_,rfl,?_⟩;by_cases d:s.2.1∈l9 m rs s.1
     . rw [decide_eq_true d,Bool.true_and] at kk;rw [if_pos (by rw [decide_eq_true d];rfl)];exact ixT (s1 _ _ hs) rfl ⟨_,rfl,kk H1 s1⟩
     . rw [decide_eq_false d,Bool.false_and] at kk;rw [if_neg (by rw [decide_eq_false d];decide)];exact kk H1 s1
   . rw [if_neg c];rw [show (decide (0<=s.1) && decide (s.1<m))=false by simpa using c,Bool.false_and,Bool.false_and] at kk;exact kk H (Same.refl _)
def ph (T:Txt K mg):Sp:=fun vs H Q _=>∃ (p a q t:Addr) (m:Int) (ps:List Addr) (rs:List Road) (xs:List Int) (s:Stp),vs=[.ref p,.ref a,.ref q]/\WebAt T.Web H p m t ps rs/\SqT K H a (xs.map V.int)/\(xs.length:Int)=m/\H q=some (.tup (vSt s))/\∀ H',Same H H'->Q (.bl (tT m rs xs s)) H'
abbrev bp:Stmt:=top 32
theorem xA:FnScope ["web","laying","step"] ["web","laying","step"] (aa bp):=FnScope.of (by kernel_rfl)
theorem kq:NmL (aa bp) "web":=.of (by kernel_rfl)
theorem pu:NmL (aa bp) "laying":=.of (by kernel_rfl)
theorem fV:NmL (aa bp) "step":=.of (by kernel_rfl)
theorem ia:NmG (aa bp) "is_step":=.of (by kernel_rfl)
theorem i9:NmG (aa bp) "taken":=.of (by kernel_rfl)
theorem wQ (T:Txt K mg) (hq:aN (CXe P w)) {f:Addr} {fd:FuncData} (D:Df K mg "can_be_done" bp ["web","laying","step"] f fd) {gJ:Addr} {vP:FuncData} (iR:Df K mg "is_step" cV ["web","step"] gJ vP) (G_is_step:FnOk P w K mg base (CXe P w) 4 gJ vP ["web","step"] (wn T)) {fM:Addr} {mM:FuncData} (eY:Df K mg "taken" d0 ["web","step"] fM mM) (G_taken:FnOk P w K mg base (CXe P w) 4 fM mM ["web","step"] (uY T)):FnOk P w K mg base (CXe P w) 5 f fd ["web","laying","step"] (ph T):=by
 refine D.F.okC xA (fun vs H Q E h=>?_) (fun cdv A outer s H vs Q E hr h=>?_)
 . obtain ⟨p,a,q,t,m,ps,rs,xs,s,rfl,_⟩:=h
   rfl
 . obtain ⟨p,a,q,t,m,ps,rs,xs,s,rfl,W,ha,xl,hs,k⟩:=h;refine ⟨_,(al (aF (pB (au G_is_step (hr.mono (by decide)) ia.g iR.m iR.F.kp iR.b .nil (az hq) (af (pvl 0 kq) (af (pvl 2 fV) ah)) (hdb:=ia.d)) (sF (lQ ED (ap bc (pvl 1 pu) (ap bc (pvl 2 fV) ag (fun _ _=>rfl)) (fun _ _=>rfl)) (au G_taken (hr.mono (by decide)) i9.g eY.m eY.F.kp eY.b .nil (az hq) (af (pvl 0 kq) (af (pvl 2 fV) ah)) (hdb:=i9.d)) (aG _)))))),?_⟩;rw [show L2.start ["web","laying","step"] [V.ref p,V.ref a,V.ref q]=[some (V.ref p),some (V.ref a),some (V.ref q)] from rfl];walk_at "rd";refine ex7 p q t m ps rs s ?_;refine an4 rfl W hs (fun H1 s1=>⟨_,rfl,?_⟩);by_cases c:jp m rs s=true
   . rw [if_pos c];have ar:=(qJ c).1;refine ixT (s1 _ _ hs) rfl (MX (Same.tup s1 ha) (atG ar.1 (by omega)) ?_);refine ex7 p q t m ps rs s ?_;refine an5 rfl (W.same s1) (s1 _ _ hs) c ?_;have:=k H1 s1;unfold tT at this;rw [c,Bool.true_and] at this;exact ⟨_,rfl,_,rfl,this⟩
   . rw [if_neg c];have:=k H1 s1;unfold tT at this;rw [show jp m rs s=false by simpa using c,Bool.false_and] at this;exact this
def vV (T:Txt K mg):Sp:=fun vs H Q _=>∃ (p a b t:Addr) (c d:Bool) (m:Int) (ps qs:List Addr) (rs:List Road) (xs:List Int) (ss:List Stp),vs=[.ref p,.ref a,.ref b]/\WebAt T.Web H p m t ps rs/\AtX c H a (xs.map V.int)/\aD m xs=true/\AtX d H b (qs.map V.ref)/\StepsAt H qs ss/\ss.length<=1000/\BQ m rs xs ss/\∀ l ts H',H l=none->Same H H'->H' l=some (.lst (ts.map V.ref))->Fi H' ts (m7 rs xs ss)->Q (.ref l) H'
abbrev bu:Stmt:=top 31
theorem lI:FnScope ["web","laying","steps","passed","at","step"] ["web","laying","steps"] (aa bu):=FnScope.of (by kernel_rfl)
theorem jN:NmL (aa bu) "web":=.of (by kernel_rfl)
theorem tX:NmL (aa bu) "laying":=.of (by kernel_rfl)
theorem uX:NmL (aa bu) "steps":=.of (by kernel_rfl)
theorem dA:NmL (aa bu) "passed":=.of (by kernel_rfl)
theorem yN:NmL (aa bu) "at":=.of (by kernel_rfl)
theorem jC:NmL (aa bu) "step":=.of (by kernel_rfl)
theorem jg:NmG (aa bu) "laying_of":=.of (by kernel_rfl)
theorem pQ:NmG (aa bu) "enumerate":=.of (by kernel_rfl)
theorem h9:NmG (aa bu) "can_be_done":=.of (by kernel_rfl)
theorem FG:NmG (aa bu) "BadStep":=.of (by kernel_rfl)
theorem lD:NmG (aa bu) "behind":=.of (by kernel_rfl)
theorem D3 (T:Txt K mg) (hq:aN (CXe P w)) {f:Addr} {fd:FuncData} (D:Df K mg "layings" bu ["web","laying","steps"] f fd) {iq:Addr} {yt:FuncData} (j8:Df K mg "behind" cA ["web","laying","step"] iq yt) (G_behind:FnOk P w K mg base (CXe P w) 5 iq yt ["web","laying","step"] (xV T)) {dy:Addr} {pd:FuncData} (d3:Df K mg "can_be_done" bp ["web","laying","step"] dy pd) (G_can_be_done:FnOk P w K mg base (CXe P w) 5 dy pd ["web","laying","step"] (ph T)) {cF:Addr} {gA:FuncData} (bL:Df K mg "laying_of" bM ["web","numbers"] cF gA) (G_laying_of:FnOk P w K mg base (CXe P w) 2 cF gA ["web","numbers"] (mU T)):FnOk P w K mg base (CXe P w) 6 f fd ["web","laying","steps"] (vV T):=by
 refine D.F.okC lI (fun vs H Q E h=>?_) (fun cdv A outer s H vs Q E hr h=>?_)
 . obtain ⟨p,a,b,t,c,d,m,ps,qs,rs,xs,ss,rfl,_⟩:=h
   rfl
 . obtain ⟨p,a,b,t,c,d,m,ps,qs,rs,xs,ss,rfl,W,ha,fi,hb,hs,sl,ca,k⟩:=h;have g:=W.go;have m24:=g.m24;have xl:(xs.length:Int)=m:=by
     unfold aD at fi;rw [Bool.and_eq_true] at fi;exact of_decide_eq_true fi.1
   refine ⟨_,(aj (aH (i:=3) lI.nd rfl (Or.inl dA.l) (c6 (af (au G_laying_of (hr.mono (by decide)) jg.g bL.m bL.F.kp bL.b .nil (az hq) (af (pvl 0 jN) (af (pvl 1 tX) ah)) (hdb:=jg.d)) ah))) (aj (gn PassesOwn.never rfl (KC d pQ.g T.enumerate (pvl 2 uX)) (kF (n:=2) rfl (bj (aM (i:=4) lI.nd rfl (Or.inl yN.l)) (bj (aM (i:=5) lI.nd rfl (Or.inl jC.l)) iK))) (aj (aO (d8 (fB (au G_can_be_done (hr.mono (by decide)) h9.g d3.m d3.F.kp d3.b .nil (az hq) (af (pvl 0 jN) (af (ap aq (pvl 3 dA) (lN jq ag) (fun _ _=>rfl)) (af (pvl 5 jC) ah))) (hdb:=h9.d)))) (al gD) aA) (al (bq (lO PySem.F.plainAttrs_list PySem.F.slot_list_append PySem.F.type_list_append d6 (pvl 3 dA) (af (au G_behind (hr.mono (by decide)) lD.g j8.m j8.F.kp j8.b .nil (az hq) (af (pvl 0 jN) (af (ap aq (pvl 3 dA) (lN jq ag) (fun _ _=>rfl)) (af (pvl 5 jC) ah))) (hdb:=lD.d)) ah)))))) (al (aF (pvl 3 dA))))),?_⟩;rw [show L2.start ["web","laying","steps","passed","at","step"] [V.ref p,V.ref a,V.ref b]=[some (V.ref p),some (V.ref a),some (V.ref b),none,none,none] from rfl];walk_at "rd";refine ex8 p a t c m ps rs xs ?_;refine an6 rfl W ha.sq (by omega) (fun _ t0 H1 s1 e1 _=>?_) (fun z=>by rw [fi] at z;cases z);have e1':H1 t0=some (.tup (xs.map V.int)):=by
     rcases e1 with e|⟨hc,rfl⟩
     . exact e
     . subst hc;exact s1 _ _ ha
   refine ⟨bG (by simp),fun l nl=>?_⟩;have s2:=Same.new (.lst [V.ref t0]) nl;have nl0:=s1.free nl;have s12:=s1.trans s2;have e2:=s2 _ _ e1';have el:upd H1 l (.lst [V.ref t0]) l=some (.lst [V.ref t0]):=ak;generalize upd H1 l (.lst [V.ref t0])=H2 at s2 s12 e2 el ⊢;have ql:qs.length=ss.length:=Paired.length hs;have hbX:∀ {H3:Hp},Same H H3->SqX K d H3 b (qs.map V.ref):=fun {H3} s3=>AtX.sq (K:=K) (show AtX d H3 b (qs.map V.ref) from s3 _ _ hb);refine ⟨⟨_,hbX s12⟩,?_⟩;refine Ja (K:=K) (c:=d) (xs:=qs.map V.ref) (fun i σ H3=>Same H H3/\i<=ss.length/\∃ (ts:List Addr) (v4 v5:Option V),H3 l=some (.lst (ts.map V.ref))/\Fi H3 ts ((m7 rs xs ss).take (i+1))/\σ=[some (V.ref p),some (V.ref a),some (V.ref b),some (V.ref l),v4,v5]) ⟨s12,Nat.zero_le _,[t0],_,_,el,?_,rfl⟩ (fun i σ H3 z=>hbX z.1) ?_ ?_
   . have h0:=nj (rs:=rs) (xs:=xs) (ss:=ss) (i:=0) (Nat.zero_le _);rw [F7] at h0;rw [List.take_succ,h0,List.take_zero];exact .cons e2 .nil
   . rintro i x σ H3 q N hN hx ⟨s3,il,ts,v4,v5,e3,ta,rfl⟩ nq;obtain ⟨qx,s,rfl,h1,h2,h3⟩:=(StepsAt.same s3 hs).get hx;have il2:i<ss.length:=(List.getElem?_eq_some_iff.mp h2).1;have cd:=ca i s h2;have is:jp m rs s=true:=by
       unfold tT at cd;rw [Bool.and_eq_true] at cd;exact cd.1
     have s4:=Same.new (.tup [V.int (i:Int),V.ref qx]) nq;have tl:ts.length=((m7 rs xs ss).take (i+1)).length:=Paired.length ta;rw [List.length_take,tp] at tl;have stl:=J6 rs xs ss i;obtain ⟨tq,htq⟩:∃ tq,ts[i]?=some tq:=⟨_,List.getElem?_eq_getElem (by omega)⟩;obtain ⟨row,hr1,hr2⟩:=BF ta htq;rw [List.getElem?_take_of_lt (by omega),nj il] at hr1;cases hr1;have elast:∃ t',ts=t'++[tq]:=by
       refine ⟨ts.take i,?_⟩;have:=List.take_succ (l:=ts) (i:=i);rw [htq,List.take_of_length_le (by omega)] at this;exact this
     obtain ⟨t',et'⟩:=elast;have e3':H3 l=some (.lst (t'.map V.ref++[V.ref tq])):=(by rw [e3,et',List.map_append];rfl);walk_at "rd";refine ⟨_,SqT.of ak,rfl,_,_,rfl,_,_,rfl,rfl,?_⟩;refine ixL (s4 _ _ e3') (uO _ _) ?_;refine ⟨p,tq,qx,t,m,ps,rs,jb rs xs ss i,s,rfl,W.same (s3.trans s4),SqT.of (s4 _ _ hr2),by omega,s4 _ _ h3,fun H5 s5=>⟨_,rfl,?_⟩⟩;rw [cd,if_neg (by decide)];have s35:=s4.trans s5;refine ⟨tyL (s35 _ _ e3'),ixL (s35 _ _ e3') (uO _ _) ?_⟩;refine ⟨p,tq,qx,t,m,ps,rs,jb rs xs ss i,s,rfl,W.same (s3.trans s35),SqT.of (s35 _ _ hr2),by omega,s35 _ _ h3,is,fun tn H6 nn s6 en=>?_⟩;have s36:=s35.trans s6;have ntl:tn≠l:=fun z=>by rw [z,s35 _ _ e3'] at nn;cases nn
     refine uU (s36 _ _ e3) (f6 (by rw [List.length_map];omega)) (hN _ _ ⟨(s3.trans s36).put nl0 _,il2,ts++[tn],_,_,by rw [ak,List.map_append];rfl,?_,rfl⟩);rw [List.take_succ,nj (by omega),FV h2];exact Da (by rw [ao ntl];exact en) (Paired.imp' (fun a b h=>by rw [ao (cy (s36 _ _ h) (s36 _ _ e3) (by intro z;cases z))];exact s36 _ _ h) ta)
   . rintro σ H3 ⟨s3,il,ts,v4,v5,e3,ta,rfl⟩;rw [List.length_map,ql,List.take_of_length_le (by rw [tp];exact Nat.le_refl _)] at ta;walk_at "rd";exact k l ts H3 nl0 s3 e3 ta
def xU (T:Txt K mg):Sp:=fun vs H Q _=>∃ (p a b t:Addr) (c d:Bool) (m:Int) (ps qs:List Addr) (rs:List Road) (xs:List Int) (ss:List Stp),vs=[.ref p,.ref a,.ref b]/\WebAt T.Web H p m t ps rs/\AtX c H a (xs.map V.int)/\aD m xs=true/\AtX d H b (qs.map V.ref)/\StepsAt H qs ss/\ss.length<=1000/\BQ m rs xs ss/\∀ l H',Same H H'->H' l=some (.tup ((jb rs xs ss ss.length).map V.int))->Q (.ref l) H'
abbrev dq:Stmt:=top 30
theorem Fu:FnScope ["web","laying","steps"] ["web","laying","steps"] (aa dq):=FnScope.of (by kernel_rfl)
theorem zu:NmL (aa dq) "web":=.of (by kernel_rfl)
theorem uK:NmL (aa dq) "laying":=.of (by kernel_rfl)
theorem wg:NmL (aa dq) "steps":=.of (by kernel_rfl)
theorem lz:NmG (aa dq) "layings":=.of (by kernel_rfl)
theorem EZ (T:Txt K mg) (hq:aN (CXe P w)) {f:Addr} {fd:FuncData} (D:Df K mg "walked" dq ["web","laying","steps"] f fd) {gr:Addr} {vB:FuncData} (iI:Df K mg "layings" bu ["web","laying","steps"] gr vB) (G_layings:FnOk P w K mg base (CXe P w) 6 gr vB ["web","laying","steps"] (vV T)):FnOk P w K mg base (CXe P w) 7 f fd ["web","laying","steps"] (xU T):=by
 refine D.F.okC Fu (fun vs H Q E h=>?_) (fun cdv A outer s H vs Q E hr h=>?_)
 . obtain ⟨p,a,b,t,c,d,m,ps,qs,rs,xs,ss,rfl,_⟩:=h
   rfl
 . obtain ⟨p,a,b,t,c,d,m,ps,qs,rs,xs,ss,rfl,W,ha,fi,hb,hs,sl,ca,k⟩:=h;refine ⟨_,(al (aF (ap aq (au G_layings (hr.mono (by decide)) lz.g iI.m iI.F.kp iI.b .nil (az hq) (af (pvl 0 zu) (af (pvl 1 uK) (af (pvl 2 wg) ah))) (hdb:=lz.d)) (lN jq ag) (fun _ _=>rfl)))),?_⟩;rw [show L2.start ["web","laying","steps"] [V.ref p,V.ref a,V.ref b]=[some (V.ref p),some (V.ref a),some (V.ref b)] from rfl];walk_at "rd";refine MZ p a b t c d m ps qs rs xs ss ?_;refine an9 rfl W ha fi hb hs sl ca (fun l ts H1 nl s1 el ta=>?_);have tl:ts.length=(m7 rs xs ss).length:=Paired.length ta;rw [tp] at tl;obtain ⟨tq,htq⟩:∃ tq,ts[ss.length]?=some tq:=⟨_,List.getElem?_eq_getElem (by omega)⟩;obtain ⟨row,hr1,hr2⟩:=BF ta htq;rw [nj (Nat.le_refl _)] at hr1;cases hr1;have elast:ts=ts.take ss.length++[tq]:=by
     have:=List.take_succ (l:=ts) (i:=ss.length);rw [htq,List.take_of_length_le (by omega)] at this;exact this
   rw [elast,List.map_append] at el;exact ixL el (uO _ _) (k tq H1 s1 hr2)
def sk (T:Txt K mg):Sp:=fun vs H Q _=>∃ (o wb pl t:Addr) (m:Int) (ps:List Addr) (rs:List Road) (sts:List (List Int × List Int)) (s:List Int × List Int) (a b n:Int),vs=[.ref o,.int a,.int b,.int n]/\DeskAt T.Web T.Desk H o wb pl m t ps rs (sts++[s])/\sts.length<=500/\aD m s.1=true/\BQ m rs s.1 [(a,b,n)] /\
 ∀ H',DeskAt T.Web T.Desk H' o wb pl m t ps rs (sts++[s]++[(jb rs s.1 [(a,b,n)] 1,s.2)])->Kpt pl H H'->Q .non H'
abbrev cf:Stmt:=fG (top 39) 3
theorem Bs:FnScope ["self","a","b","times"] ["self","a","b","times"] (aa cf):=FnScope.of (by kernel_rfl)
theorem eJ:NmL (aa cf) "self":=.of (by kernel_rfl)
theorem wW:NmL (aa cf) "a":=.of (by kernel_rfl)
theorem xH:NmL (aa cf) "b":=.of (by kernel_rfl)
theorem sC:NmL (aa cf) "times":=.of (by kernel_rfl)
theorem jI:NmG (aa cf) "walked":=.of (by kernel_rfl)
theorem AG (T:Txt K mg) (hq:aN (CXe P w)) {f:Addr} {fd:FuncData} (F:Fun K "step" "Desk.step" cf f fd) {f_Desk_keep:Addr} {b9:FuncData} (F_Desk_keep:Fun K "keep" "Desk.keep" cc f_Desk_keep b9) (b_Desk_keep:Binds K b9 ["self","laying","wish"] []) (df:Meth K T.Desk "keep" f_Desk_keep) (G_Desk_keep:FnOk P w K mg base (CXe P w) 1 f_Desk_keep b9 ["self","laying","wish"] (jm T)) {f_Desk_laying:Addr} {aR:FuncData} (F_Desk_laying:Fun K "laying" "Desk.laying" bU f_Desk_laying aR) (b_Desk_laying:Binds K aR ["self"] []) (bD:Meth K T.Desk "laying" f_Desk_laying) (G_Desk_laying:FnOk P w K mg base (CXe P w) 1 f_Desk_laying aR ["self"] (eW T)) {f_Desk_wish:Addr} {be:FuncData} (F_Desk_wish:Fun K "wish" "Desk.wish" cq f_Desk_wish be) (b_Desk_wish:Binds K be ["self"] []) (ce:Meth K T.Desk "wish" f_Desk_wish) (G_Desk_wish:FnOk P w K mg base (CXe P w) 1 f_Desk_wish be ["self"] (gv T)) {iC:Addr} {yr:FuncData} (jQ:Df K mg "walked" dq ["web","laying","steps"] iC yr) (G_walked:FnOk P w K mg base (CXe P w) 7 iC yr ["web","laying","steps"] (xU T)):FnOk P w K mg base (CXe P w) 8 f fd ["self","a","b","times"] (sk T):=by
 refine F.okC Bs (fun vs H Q E h=>?_) (fun cdv A outer s H vs Q E hr h=>?_)
 . obtain ⟨o,wb,pl,t,m,ps,rs,sts,s,a,b,n,rfl,_⟩:=h
   rfl
 . obtain ⟨o,wb,pl,t,m,ps,rs,sts,s,a,b,n,rfl,O,sl,fi,ca,k⟩:=h;obtain ⟨dx,ob⟩:=O.ob;have m24:=O.web.go.m24;refine ⟨_,(al (bq (lR (pvl 0 eJ) T.aQ df G_Desk_keep (hr.mono (by decide)) b_Desk_keep .nil (az hq) (af (au G_walked (hr.mono (by decide)) jI.g jQ.m jQ.F.kp jQ.b .nil (az hq) (af (cZ  (pvl 0 eJ) rfl) (af (cL (pvl 0 eJ) T.aQ bD G_Desk_laying (hr.mono (by decide)) b_Desk_laying .nil (az hq)) (af (c6 (af (eO (af (pvl 1 wW) (af (pvl 2 xH) (af (pvl 3 sC) ah)))) ah)) ah))) (hdb:=jI.d)) (af (cL (pvl 0 eJ) T.aQ ce G_Desk_wish (hr.mono (by decide)) b_Desk_wish .nil (az hq)) ah))))),?_⟩;rw [show L2.start ["self","a","b","times"] [V.ref o,V.int a,V.int b,V.int n]=[some (V.ref o),some (V.int a),some (V.int b),some (V.int n)] from rfl];walk_at "rd";refine O.meth ?_;refine O.wb_ T.aQ T.n_web ?_;refine O.meth ⟨o,wb,pl,t,m,ps,rs,sts,s,rfl,O,fun la hla=>⟨bG (by simp),fun q1 n1=>⟨bG (by simp),fun q2 n2=>?_⟩⟩⟩;have s1:=Same.new (.tup [V.int a,V.int b,V.int n]) n1;have s2:=Same.new (.lst [V.ref q1]) n2;have e1:=s2 _ _ (ak (H:=H) (a:=q1) (o:=.tup [V.int a,V.int b,V.int n]));have e2:upd (upd H q1 (.tup [V.int a,V.int b,V.int n])) q2 (.lst [V.ref q1]) q2=some (.lst [V.ref q1]):=ak;have s12:=s1.trans s2;generalize upd (upd H q1 (.tup [V.int a,V.int b,V.int n])) q2 (.lst [V.ref q1])=H2 at e1 e2 s12 ⊢;have O2:=O.same s12;refine ⟨wb,la,q2,t,false,true,m,ps,[q1],rs,s.1,[(a,b,n)],rfl,O2.web,s12 _ _ hla,fi,e2,.cons e1 .nil,by simp,ca,fun l3 H3 s3 e3=>?_⟩;have O3:=O2.same s3;refine O3.meth ⟨o,wb,pl,t,m,ps,rs,sts,s,rfl,O3,fun lb hlb=>?_⟩;refine ⟨o,wb,pl,t,l3,lb,m,ps,rs,_,(_,_),rfl,O3,e3,hlb,by rw [List.length_append];simp;omega,fun H4 O4 k4=>k H4 O4 ?_⟩;exact fun c y h n=>k4 c y (s3 _ _ (s12 _ _ h)) n
def wc (T:Txt K mg):Sp:=fun vs H Q E=>∃ (p a t:Addr) (m:Int) (ps:List Addr) (rs:List Road) (xs:List Int),vs=[.ref p,.ref a]/\WebAt T.Web H p m t ps rs/\SqL K H a (xs.map V.int)/\xs.length<=1000 /\
 (aD m xs=true->∀ l H',Same H H'->H' l=some (.tup (xs.map V.int))->Q (.ref l) H')/\(aD m xs=false->∀ H',Same H H'->E (.ref T.BadWish) none H')
abbrev cB:Stmt:=top 37
theorem DF:FnScope ["web","numbers"] ["web","numbers"] (aa cB):=FnScope.of (by kernel_rfl)
theorem xN:NmL (aa cB) "web":=.of (by kernel_rfl)
theorem kH:NmL (aa cB) "numbers":=.of (by kernel_rfl)
theorem iY:NmG (aa cB) "is_filled":=.of (by kernel_rfl)
theorem kC:NmG (aa cB) "BadWish":=.of (by kernel_rfl)
theorem iA:NmG (aa cB) "tuple":=.of (by kernel_rfl)
theorem Ev (T:Txt K mg) (hq:aN (CXe P w)) {f:Addr} {fd:FuncData} (D:Df K mg "wish_of" cB ["web","numbers"] f fd) {cJ:Addr} {gq:FuncData} (cm:Df K mg "is_filled" bW ["web","numbers"] cJ gq) (G_is_filled:FnOk P w K mg base (CXe P w) 1 cJ gq ["web","numbers"] (mF T)):FnOk P w K mg base (CXe P w) 2 f fd ["web","numbers"] (wc T):=by
 refine D.F.okX DF (fun vs H Q E h=>?_) (fun cdv A outer s H vs Q E hr h=>?_)
 . obtain ⟨p,a,t,m,ps,rs,xs,rfl,_⟩:=h
   rfl
 . obtain ⟨p,a,t,m,ps,rs,xs,rfl,W,ha,hz,k,e⟩:=h;refine ⟨_,(aj (aO (d8 (fB (au G_is_filled (hr.mono (by decide)) iY.g cm.m cm.F.kp cm.b .nil jc (af (pvl 0 xN) (af (pvl 1 kH) ah)) (hdb:=iY.d)))) (al (pX T.FE rfl tJ kC.g T.E4 (af c7 ah) (hdb:=kC.d))) aA) (al (aF (cU dn iA.g T.tuple gC (af (pvl 1 kH) ah) (hn:=iA.n) (hdb:=iA.d))))),?_⟩;rw [show L2.start ["web","numbers"] [V.ref p,V.ref a]=[some (V.ref p),some (V.ref a)] from rfl];walk_at "rd";refine ⟨p,a,t,true,m,ps,rs,xs,rfl,W,ha,hz,fun H1 s1=>⟨_,rfl,?_⟩⟩;by_cases z:aD m xs=false
   . rw [if_pos z];exact ⟨by decide,e z H1 s1⟩
   . rw [if_neg z];have z':aD m xs=true:=(by simpa using z);exact ⟨_,.inl ⟨Same.seq s1 ha,fun l nl=>k z' l _ (s1.trans (Same.new _ nl)) ak⟩⟩
def sQ (T:Txt K mg):Sp:=fun vs H Q _=>∃ (o wb pl t:Addr) (m:Int) (ps:List Addr) (rs:List Road) (sts:List (List Int × List Int)) (s:List Int × List Int) (v n:Int),vs=[.ref o,.int v,.int n]/\DeskAt T.Web T.Desk H o wb pl m t ps rs (sts++[s])/\sts.length<=500/\(s.2.length:Int)=m/\(∀ y∈s.2,0<=y)/\(0<=v/\v<m)/\0<=n /\
 ∀ H',DeskAt T.Web T.Desk H' o wb pl m t ps rs (sts++[s]++[(s.1,s.2.set v.toNat n)])->Kpt pl H H'->Q .non H'
abbrev bN:Stmt:=fG (top 39) 2
theorem tD:FnScope ["self","place","many","wanted"] ["self","place","many"] (aa bN):=FnScope.of (by kernel_rfl)
theorem dz:NmL (aa bN) "self":=.of (by kernel_rfl)
theorem km:NmL (aa bN) "place":=.of (by kernel_rfl)
theorem t6:NmL (aa bN) "many":=.of (by kernel_rfl)
theorem fP:NmL (aa bN) "wanted":=.of (by kernel_rfl)
theorem gH:NmG (aa bN) "check_place":=.of (by kernel_rfl)
theorem gW:NmG (aa bN) "list":=.of (by kernel_rfl)
theorem jE:NmG (aa bN) "wish_of":=.of (by kernel_rfl)
theorem BU (T:Txt K mg) (hq:aN (CXe P w)) {f:Addr} {fd:FuncData} (F:Fun K "want" "Desk.want" bN f fd) {f_Desk_keep:Addr} {b9:FuncData} (F_Desk_keep:Fun K "keep" "Desk.keep" cc f_Desk_keep b9) (b_Desk_keep:Binds K b9 ["self","laying","wish"] []) (df:Meth K T.Desk "keep" f_Desk_keep) (G_Desk_keep:FnOk P w K mg base (CXe P w) 1 f_Desk_keep b9 ["self","laying","wish"] (jm T)) {f_Desk_laying:Addr} {aR:FuncData} (F_Desk_laying:Fun K "laying" "Desk.laying" bU f_Desk_laying aR) (b_Desk_laying:Binds K aR ["self"] []) (bD:Meth K T.Desk "laying" f_Desk_laying) (G_Desk_laying:FnOk P w K mg base (CXe P w) 1 f_Desk_laying aR ["self"] (eW T)) {f_Desk_wish:Addr} {be:FuncData} (F_Desk_wish:Fun K "wish" "Desk.wish" cq f_Desk_wish be) (b_Desk_wish:Binds K be ["self"] []) (ce:Meth K T.Desk "wish" f_Desk_wish) (G_Desk_wish:FnOk P w K mg base (CXe P w) 1 f_Desk_wish be ["self"] (gv T)) {aU:Addr} {bJ:FuncData} (ay:Df K mg "check_place" aX ["web","number"] aU bJ) (G_check_place:FnOk P w K mg base (CXe P w) 2 aU bJ ["web","number"] (eZ T)) {gl:Addr} {wf:FuncData} (iG:Df K mg "wish_of" cB ["web","numbers"] gl wf) (G_wish_of:FnOk P w K mg base (CXe P w) 2 gl wf ["web","numbers"] (wc T)):FnOk P w K mg base (CXe P w) 3 f fd ["self","place","many"] (sQ T):=by
 refine F.okC tD (fun vs H Q E h=>?_) (fun cdv A outer s H vs Q E hr h=>?_)
 . obtain ⟨o,wb,pl,t,m,ps,rs,sts,s,v,n,rfl,_⟩:=h
   rfl
 . obtain ⟨o,wb,pl,t,m,ps,rs,sts,s,v,n,rfl,O,sl,xl,x0,vr,n0,k⟩:=h;obtain ⟨dx,ob⟩:=O.ob;have m24:=O.web.go.m24;refine ⟨_,(aj (bq (au G_check_place (hr.mono (by decide)) gH.g ay.m ay.F.kp ay.b .nil (az hq) (af (cZ  (pvl 0 dz) rfl) (af (pvl 1 km) ah)) (hdb:=gH.d))) (aj (aH (i:=3) tD.nd rfl (Or.inl fP.l) (cU gu gW.g T.list pH (af (cL (pvl 0 dz) T.aQ ce G_Desk_wish (hr.mono (by decide)) b_Desk_wish .nil (az hq)) ah) (hn:=gW.n) (hdb:=gW.d))) (aj (jh (pvl 2 t6) (rK (pvl 3 fP) (pvl 1 km) gF)) (al (bq (lR (pvl 0 dz) T.aQ df G_Desk_keep (hr.mono (by decide)) b_Desk_keep .nil (az hq) (af (cL (pvl 0 dz) T.aQ bD G_Desk_laying (hr.mono (by decide)) b_Desk_laying .nil (az hq)) (af (au G_wish_of (hr.mono (by decide)) jE.g iG.m iG.F.kp iG.b .nil (az hq) (af (cZ  (pvl 0 dz) rfl) (af (pvl 3 fP) ah)) (hdb:=jE.d)) ah)))))))),?_⟩;rw [show L2.start ["self","place","many","wanted"] [V.ref o,V.int v,V.int n]=[some (V.ref o),some (V.int v),some (V.int n),none] from rfl];walk_at "rd";refine ⟨T.Desk,dx,_,ob,T.aQ,T.n_web,_,tm _ _,?_⟩;refine ⟨wb,t,m,ps,rs,v,rfl,O.web,fun _ _=>?_,fun z=>absurd vr z⟩;refine O.meth ⟨o,wb,pl,t,m,ps,rs,sts,s,rfl,O,fun lb hlb=>⟨lb,rfl,_,.inr (SqT.of hlb),fun l nl=>?_⟩⟩;refine tz ak vr.1 (by rw [List.length_map];omega) ?_;rw [<- List.map_set,iQ];have s1:=Same.new (.lst ((s.2.set v.toNat n).map V.int)) nl;have e1:upd H l (.lst ((s.2.set v.toNat n).map V.int)) l=some (.lst ((s.2.set v.toNat n).map V.int)):=ak;generalize upd H l (.lst ((s.2.set v.toNat n).map V.int))=H1 at s1 e1 ⊢;have O1:=O.same s1;have fi:aD m (s.2.set v.toNat n)=true:=iM (by rw [List.length_set];exact xl) fun y hy=>by
     rcases List.mem_or_eq_of_mem_set hy with q|q
     . exact x0 y q
     . omega
   refine O1.meth ?_;refine O1.meth ⟨o,wb,pl,t,m,ps,rs,sts,s,rfl,O1,fun la hla=>?_⟩;refine O1.wb_ T.aQ T.n_web ?_;refine ⟨wb,l,t,m,ps,rs,_,rfl,O1.web,SqL.of e1,by rw [List.length_set];omega,fun _ l2 H2 s2 e2=>?_,fun z=>by rw [fi] at z;cases z⟩;have O2:=O1.same s2;refine ⟨o,wb,pl,t,la,l2,m,ps,rs,_,(s.1,s.2.set v.toNat n),rfl,O2,s2 _ _ hla,e2,by rw [List.length_append];simp;omega,fun H4 O4 k4=>k H4 O4 ?_⟩;exact fun c y h n=>k4 c y (s2 _ _ (s1 _ _ h)) n
def yc (T:Txt K mg):Sp:=fun vs H Q _=>∃ (o wb pl t ln:Addr) (m:Int) (ps:List Addr) (rs:List Road) (sts:List (List Int × List Int)) (s s':List Int × List Int) (D:Dd),vs=[.ref o,.str D.wd,.ref ln]/\DeskAt T.Web T.Desk H o wb pl m t ps rs (sts++[s])/\sts.length<=500/\aD m s.1=true/\aD m s.2=true/\H ln=some (.lst (D.ns.map V.int))/\D.Ok m rs/\bhd rs s D=some s' /\
 ∀ H',DeskAt T.Web T.Desk H' o wb pl m t ps rs (sts++[s]++[s'])->Kpt pl H H'->Q .non H'
abbrev dR:Stmt:=top 50
theorem FB:FnScope ["desk","deed","numbers"] ["desk","deed","numbers"] (aa dR):=FnScope.of (by kernel_rfl)
theorem gM:NmL (aa dR) "desk":=.of (by kernel_rfl)
theorem j5:NmL (aa dR) "deed":=.of (by kernel_rfl)
theorem ci:NmL (aa dR) "numbers":=.of (by kernel_rfl)
theorem Gd (T:Txt K mg) (hq:aN (CXe P w)) {f:Addr} {fd:FuncData} (D:Df K mg "_law_do" dR ["desk","deed","numbers"] f fd) {f_Desk_back:Addr} {dL:FuncData} (F_Desk_back:Fun K "back" "Desk.back" cD f_Desk_back dL) (b_Desk_back:Binds K dL ["self"] []) (eB:Meth K T.Desk "back" f_Desk_back) (G_Desk_back:FnOk P w K mg base (CXe P w) 3 f_Desk_back dL ["self"] (mX T)) {f_Desk_put:Addr} {nN:FuncData} (F_Desk_put:Fun K "put" "Desk.put" b4 f_Desk_put nN) (b_Desk_put:Binds K nN ["self","place","many"] []) (pV:Meth K T.Desk "put" f_Desk_put) (G_Desk_put:FnOk P w K mg base (CXe P w) 5 f_Desk_put nN ["self","place","many"] (ue T)) {f_Desk_step:Addr} {mw:FuncData} (F_Desk_step:Fun K "step" "Desk.step" cf f_Desk_step mw) (b_Desk_step:Binds K mw ["self","a","b","times"] []) (oU:Meth K T.Desk "step" f_Desk_step) (G_Desk_step:FnOk P w K mg base (CXe P w) 8 f_Desk_step mw ["self","a","b","times"] (sk T)) {f_Desk_want:Addr} {mN:FuncData} (F_Desk_want:Fun K "want" "Desk.want" bN f_Desk_want mN) (b_Desk_want:Binds K mN ["self","place","many"] []) (nW:Meth K T.Desk "want" f_Desk_want) (G_Desk_want:FnOk P w K mg base (CXe P w) 3 f_Desk_want mN ["self","place","many"] (sQ T)):FnOk P w K mg base (CXe P w) 10 f fd ["desk","deed","numbers"] (yc T):=by
 refine D.F.okC FB (fun vs H Q E h=>?_) (fun cdv A outer s H vs Q E hr h=>?_)
 . obtain ⟨o,wb,pl,t,ln,m,ps,rs,sts,s,s',D,rfl,_⟩:=h
   rfl
 . obtain ⟨o,wb,pl,t,ln,m,ps,rs,sts,s,s',D',rfl,O,sl,f1,f2,hn,ok,eb,k⟩:=h;refine ⟨_,(aj (aO (aE bR (pvl 1 j5) c7 (aG _)) (al (aF (lR (pvl 0 gM) T.aQ pV G_Desk_put (hr.mono (by decide)) b_Desk_put .nil (az hq) (af (ap aq (pvl 2 ci) ag (fun _ _=>rfl)) (af (ap aq (pvl 2 ci) ag (fun _ _=>rfl)) ah))))) aA) (aj (aO (aE bR (pvl 1 j5) c7 (aG _)) (al (aF (lR (pvl 0 gM) T.aQ nW G_Desk_want (hr.mono (by decide)) b_Desk_want .nil (az hq) (af (ap aq (pvl 2 ci) ag (fun _ _=>rfl)) (af (ap aq (pvl 2 ci) ag (fun _ _=>rfl)) ah))))) aA) (aj (aO (aE bR (pvl 1 j5) c7 (aG _)) (al (aF (lR (pvl 0 gM) T.aQ oU G_Desk_step (hr.mono (by decide)) b_Desk_step .nil (az hq) (af (ap aq (pvl 2 ci) ag (fun _ _=>rfl)) (af (ap aq (pvl 2 ci) ag (fun _ _=>rfl)) (af (ap aq (pvl 2 ci) ag (fun _ _=>rfl)) ah)))))) aA) (al (aF (cL (pvl 0 gM) T.aQ eB G_Desk_back (hr.mono (by decide)) b_Desk_back .nil (az hq))))))),?_⟩;rw [show L2.start ["desk","deed","numbers"] [V.ref o,V.str D'.wd,V.ref ln]=[some (V.ref o),some (V.str D'.wd),some (V.ref ln)] from rfl];have l1:=fc f1;have l2:=fc f2;have g:=O.web.go;cases D' with
   | put v n =>
     simp only [Dd.wd];walk_at "rd";cases eb;exact O.meth (ixL hn rfl (ixL hn rfl ⟨o,wb,pl,t,m,ps,rs,sts,s,v,n,rfl,O,sl,l1,ok.1,ok.2,k⟩))
   | want v n =>
     simp only [Dd.wd];walk_at "rd";rw [if_neg (sne (by decide +kernel))];cases eb;exact O.meth (ixL hn rfl (ixL hn rfl ⟨o,wb,pl,t,m,ps,rs,sts,s,v,n,rfl,O,sl,l2,sj f2,ok.1,ok.2,k⟩))
   | back v n=>cases eb
   | step a b n =>
     simp only [Dd.wd];walk_at "rd";rw [if_neg (sne (by decide +kernel)),if_neg (sne (by decide +kernel))];unfold bhd at eb;by_cases z:n*dh rs a b<=s.1.getD a.toNat 0
     . simp only [if_pos z] at eb;cases eb;obtain ⟨ad,nr⟩:=ok;obtain ⟨ar,br,nab⟩:=g.adj ad;refine O.meth (ixL hn rfl (ixL hn rfl (ixL hn rfl ⟨o,wb,pl,t,m,ps,rs,sts,s,a,b,n,rfl,O,sl,f1,?_,k⟩)));intro i st hst
       match i,hst with
       | 0,hst =>
         cases hst;unfold tT jp;show (decide (0<=a) && decide (a<m) && decide (b∈l9 m rs a) && decide (1<=n) && decide (n*dh rs a b<=s.1.getD a.toNat 0))=true;rw [decide_eq_true ar.1,decide_eq_true ar.2,decide_eq_true ((uE g).mpr ad),decide_eq_true nr.1,decide_eq_true z]
         rfl
       | i+1,hst=>cases hst
     . simp only [if_neg z] at eb;cases eb
def ui (T:Txt K mg):Sp:=fun vs H Q _=>∃ (a:Addr) (ns:List Int) (k:Int),vs=[.ref a,.int k]/\SqL K H a (ns.map V.int)/\0<=k/\∀ v,Q (.int v) H
abbrev cK:Stmt:=top 41
theorem C3:FnScope ["script","k"] ["script","k"] (aa cK):=FnScope.of (by kernel_rfl)
theorem ko:NmL (aa cK) "script":=.of (by kernel_rfl)
theorem rf:NmL (aa cK) "k":=.of (by kernel_rfl)
theorem jF:NmG (aa cK) "len":=.of (by kernel_rfl)
theorem Co (T:Txt K mg) (hq:aN (CXe P w)) {f:Addr} {fd:FuncData} (D:Df K mg "_law_cell" cK ["script","k"] f fd):FnOk P w K mg base (CXe P w) 1 f fd ["script","k"] (ui T):=by
 refine D.F.okC C3 (fun vs H Q E h=>?_) (fun cdv A outer s H vs Q E hr h=>?_)
 . obtain ⟨a,ns,i,rfl,_⟩:=h
   rfl
 . obtain ⟨a,ns,i,rfl,ha,h0,k⟩:=h;refine ⟨_,(aj (aO (aE zB (pvl 1 rf) (bK bx jF.g T.len dM (af (pvl 0 ko) ah) (hn:=jF.n) (hdb:=jF.d)) (aG _)) (al (aF (ap aq (pvl 0 ko) (pvl 1 rf) (fun _ _=>rfl)))) aA) (al (aF ag))),?_⟩;rw [show L2.start ["script","k"] [V.ref a,V.int i]=[some (V.ref a),some (V.int i)] from rfl];walk_at "rd";refine ⟨_,.inl ha,?_⟩;rw [List.length_map];by_cases c:i<(ns.length:Int)
   . rw [if_pos c];have hi:i.toNat<ns.length:=(by omega);exact ixS ha (xG h0 (v:=.int ns[i.toNat]) (by rw [List.getElem?_map,List.getElem?_eq_getElem hi];rfl)) (k _)
   . rw [if_neg c];exact k 0
def wa (T:Txt K mg):Sp:=fun vs H Q _=>∃ (c o m b:Int),vs=[.int c,.int o,.int m,.int b]/\0<=m/\m<=1000/\0<b/\b<1000000000000000000/\∀ (l:Addr) (xs:List Int) (H':Hp),H l=none->Same H H'->H' l=some (.lst (xs.map V.int))->(xs.length:Int)=m->(∀ x∈xs,0<=x)->Q (.ref l) H'
abbrev bP:Stmt:=top 42
theorem fg:FnScope ["cell","mode","many","base","found","rest","k","m"] ["cell","mode","many","base"] (aa bP):=FnScope.of (by kernel_rfl)
theorem m3:NmL (aa bP) "cell":=.of (by kernel_rfl)
theorem vJ:NmL (aa bP) "mode":=.of (by kernel_rfl)
theorem wz:NmL (aa bP) "many":=.of (by kernel_rfl)
theorem nk:NmL (aa bP) "base":=.of (by kernel_rfl)
theorem ff:NmL (aa bP) "found":=.of (by kernel_rfl)
theorem fX:NmL (aa bP) "rest":=.of (by kernel_rfl)
theorem rM:NmL (aa bP) "k":=.of (by kernel_rfl)
theorem gh:NmL (aa bP) "m":=.of (by kernel_rfl)
theorem vf:NmG (aa bP) "range":=.of (by kernel_rfl)
theorem ER (T:Txt K mg) (hq:aN (CXe P w)) {f:Addr} {fd:FuncData} (D:Df K mg "_law_row" bP ["cell","mode","many","base"] f fd):FnOk P w K mg base (CXe P w) 1 f fd ["cell","mode","many","base"] (wa T):=by
 refine D.F.okC fg (fun vs H Q E h=>?_) (fun cdv A outer s H vs Q E hr h=>?_)
 . obtain ⟨c,o,m,b,rfl,_⟩:=h
   rfl
 . obtain ⟨c,o,m,b,rfl,m0,m1,b0,b1,k⟩:=h;refine ⟨_,(aj (aH (i:=4) fg.nd rfl (Or.inl ff.l) (c6 ah)) (aj (aH (i:=5) fg.nd rfl (Or.inl fX.l) (pvl 0 m3)) (aj (gn PassesOwn.never rfl (yb vf.g T.range (af (pvl 2 wz) ah)) (aM (i:=6) fg.nd rfl (Or.inl rM.l)) (al (aO (aE bR (pvl 1 vJ) ag (aG _)) (aj (bq (lO PySem.F.plainAttrs_list PySem.F.slot_list_append PySem.F.type_list_append d6 (pvl 4 ff) (af (am aW (pvl 5 fX) (pvl 3 nk)) ah))) (al (aH (i:=5) fg.nd rfl (Or.inl fX.l) (am J0 (pvl 5 fX) (pvl 3 nk))))) (aj (aH (i:=7) fg.nd rfl (Or.inl gh.l) (am aW (am kG (am cN (am cN (am aW (pvl 0 m3) ag) (am kG ag (pvl 6 rM))) ag) ag) ag)) (aj (aH (i:=7) fg.nd rfl (Or.inl gh.l) (am aW (am kG (am aW (am kG (pvl 7 gh) (pvl 7 gh)) ag) ag) ag)) (al (bq (lO PySem.F.plainAttrs_list PySem.F.slot_list_append PySem.F.type_list_append d6 (pvl 4 ff) (af (am bE (pvl 7 gh) ag) ah))))))))) (al (aF (pvl 4 ff)))))),?_⟩;rw [show L2.start ["cell","mode","many","base","found","rest","k","m"] [V.int c,V.int o,V.int m,V.int b]=[some (V.int c),some (V.int o),some (V.int m),some (V.int b),none,none,none,none] from rfl];walk_at "rd";refine ⟨by decide,fun l hl=>?_⟩;refine ⟨by omega,by omega,?_⟩;refine pR (fun i σ H2=>Same H H2/\∃ (xs:List Int) (r:Int) (v6 v7:Option V),H2 l=some (.lst (xs.map V.int))/\xs.length=i/\(∀ x∈xs,0<=x)/\σ=[some (V.int c),some (V.int o),some (V.int m),some (V.int b),some (V.ref l),some (V.int r),v6,v7]) ⟨Same.new _ hl,[],c,_,_,ak,rfl,(fun x hx=>absurd hx List.not_mem_nil),rfl⟩ ?_ ?_
   . rintro i σ H2 N hN hi ⟨s2,xs,r,v6,v7,e2,xl,x0,rfl⟩;have ei:(0:Int)+(i:Int)=(i:Int):=(by omega);rw [ei];walk_at "rd";have zl:(xs.map V.int).length<sizeLine:=f6 (by rw [List.length_map];omega);have snoc:∀ y:Int,0<=y->∀ x∈xs++[y],0<=x:=fun y hy x hx=>by
       rcases List.mem_append.mp hx with h|h
       . exact x0 x h
       . rw [List.mem_singleton.mp h];exact hy
     by_cases z:o=0
     . rw [if_pos z];refine ⟨tyL e2,b0,uU e2 zl ⟨⟨b0,by omega⟩,hN _ _ ⟨s2.put hl _,xs++[r % b],_,_,_,?_,by rw [List.length_append,xl];rfl,snoc _ (Int.emod_nonneg _ (by omega)),rfl⟩⟩⟩;rw [ak,List.map_append]
       rfl
     . rw [if_neg z];have h1:=Int.emod_nonneg c (show (998244353:Int)≠0 by decide);have h2:=Int.emod_lt_of_pos c (show (0:Int)<998244353 by decide);generalize c % 998244353=c1 at h1 h2 ⊢;have h3:=Int.emod_nonneg ((c1+7919*(i:Int)+11)*48271) (show (2147483647:Int)≠0 by decide);have h4:=Int.emod_lt_of_pos ((c1+7919*(i:Int)+11)*48271) (show (0:Int)<2147483647 by decide);refine ⟨by decide,.inl ⟨by decide,by decide⟩,.inr ⟨by decide,by decide⟩,by decide,?_⟩;generalize (c1+7919*(i:Int)+11)*48271 % 2147483647=c2 at h3 h4 ⊢;have h5:=Int.emod_nonneg (c2*c2) (show (2147483629:Int)≠0 by decide);refine ⟨.inl ⟨by omega,by omega⟩,by decide,.inr ⟨by decide,by decide⟩,by decide,?_⟩;have h6:=Int.emod_nonneg (c2*c2 % 2147483629*40692) (show (2147483399:Int)≠0 by decide);generalize c2*c2 % 2147483629*40692 % 2147483399=c3 at h6 ⊢;refine ⟨tyL e2,⟨by decide,by decide⟩,uU e2 zl (hN _ _ ⟨s2.put hl _,xs++[c3 / 7],_,_,_,?_,by rw [List.length_append,xl];rfl,snoc _ (Int.ediv_nonneg h6 (by decide)),rfl⟩)⟩;rw [ak,List.map_append]
       rfl
   . rintro σ H2 ⟨s2,xs,r,v6,v7,e2,xl,x0,rfl⟩;exact ⟨_,rfl,k l xs H2 hl s2 e2 (by omega) x0⟩
theorem uu {α β:Type} {R:α->β->Prop}:∀ (n:Nat) {l₁:List α} {l₂:List β},Paired R l₁ l₂->Paired R (l₁.take n) (l₂.take n)
 | 0,_,_,_=>by rw [List.take_zero,List.take_zero];exact .nil
 | _+1,_,_,.nil=>.nil
 | n+1,_,_,.cons x xs=>.cons x (uu n xs)
theorem uq {α β:Type} {R:α->β->Prop}:∀ (n:Nat) {l₁:List α} {l₂:List β},Paired R l₁ l₂->Paired R (l₁.drop n) (l₂.drop n)
 | 0,_,_,h=>h
 | _+1,_,_,.nil=>.nil
 | n+1,_,_,.cons x xs=>uq n xs
theorem wp {α β:Type} {R:α->β->Prop} {k₁:List α} {k₂:List β} (h:Paired R k₁ k₂):∀ {l₁:List α} {l₂:List β},Paired R l₁ l₂->Paired R (l₁++k₁) (l₂++k₂)
 | _,_,.nil=>h
 | _,_,.cons x xs=>.cons x (wp h xs)
theorem RoadsAt.ins {H:Hp} {ps:List Addr} {rs:List Road} {q:Addr} {r:Road} (n:Nat) (h:RoadsAt H ps rs) (e:H q=some (.tup (lH r))):RoadsAt H (ps.take n++q::ps.drop n) (rs.take n++r::rs.drop n) :=
 wp (R:=fun p r=>H p=some (.tup (lH r))) (.cons e (uq n h)) (uu n h)
theorem Bf {H:Hp} {p:Addr} (o:HO):∀ b u,H b=some u->b≠p->upd H p o b=some u:=fun b u h n=>by rw [ao n];exact h
/-- places numbered from another one on -/
def fY (m s:Int):List Int:=(below m.toNat).map fun v=>(v+s) % m
theorem ye {m s v:Int} (h0:0<=v) (h1:v<m):(fY m s).getD v.toNat 0=(v+s) % m:=by
 unfold fY;rw [List.getD,List.getElem?_map,Fa (by omega),Int.toNat_of_nonneg h0]
 rfl
theorem JY {m s a b:Int} (a0:0<=a) (a1:a<m) (b0:0<=b) (b1:b<m) (e:(a+s) % m=(b+s) % m):a=b:=by
 have h1:=Int.emod_emod_of_dvd (a+s) (Int.dvd_refl m);have h2:(a - b) % m=0:=by
   have:=Int.emod_eq_emod_iff_emod_sub_eq_zero.mp e
   rwa [show a+s - (b+s)=a - b by omega] at this
 obtain ⟨k,hk⟩:=Int.dvd_of_emod_eq_zero h2;have m0:0<m:=by omega
 have:k=0:=by
   rcases Int.lt_trichotomy k 0 with z|z|z
   . have:m*k<=m*(-1):=Int.mul_le_mul_of_nonneg_left (by omega) (by omega);omega
   . exact z
   . have:m*1<=m*k:=Int.mul_le_mul_of_nonneg_left (by omega) (by omega);omega
 rw [this] at hk;omega
theorem IH {m s:Int} (m0:1<=m):Labels m.toNat (fY m s) where
 len:=by unfold fY;rw [List.length_map,jA]
 nd:=by
   unfold fY;refine List.pairwise_map.mpr ((hZ m.toNat).imp_of_mem fun {a b} ha hb h e=>h ?_);obtain ⟨a0,a1⟩:=dF.mp ha;obtain ⟨b0,b1⟩:=dF.mp hb;exact JY a0 (by omega) b0 (by omega) e
 all:=fun v h0 h1=>by
   unfold fY;refine List.mem_map.mpr ⟨(v - s) % m,dF.mpr ⟨Int.emod_nonneg _ (by omega),?_⟩,?_⟩
   . have:=Int.emod_lt_of_pos (v - s) (show 0<m by omega);omega
   . rw [Int.emod_add_emod,show v - s+s=v by omega,Int.emod_eq_of_lt h0 (by omega)]
 rng:=fun v hv=>by
   unfold fY at hv;obtain ⟨u,_,rfl⟩:=List.mem_map.mp hv;have h1:=Int.emod_nonneg (u+s) (show m≠0 by omega);have h2:=Int.emod_lt_of_pos (u+s) (show 0<m by omega);omega
theorem KB {c:Prop} [Decidable c] {A B:Prop} {P:Int->Prop} (m1 m2:Int) (hB:P m2->B) (hA:P m1->A) (h:∀ m,(m=m1\/m=m2)->P m):if c then A else B:=by
 by_cases z:c
 . rw [if_pos z];exact hA (h _ (.inl rfl))
 . rw [if_neg z];exact hB (h _ (.inr rfl))
def sD (T:Txt K mg):Sp:=fun vs H Q _=>∃ (a:Addr) (ns:List Int),vs=[.ref a]/\SqL K H a (ns.map V.int) /\
 ∀ (t l:Addr) (m:Int) (ps:List Addr) (rs:List Road) (H':Hp),H t=none->H l=none->Same H H'->H' t=some (.tup [.int m,.ref l])->H' l=some (.lst (ps.map V.ref))->RoadsAt H' ps rs->Good m rs->Q (.ref t) H'
abbrev aB:Stmt:=top 44
theorem bf:FnScope ["script","mode","shape","tolls","many","roads","k","hang","one","other","there","back","road"] ["script"] (aa aB):=FnScope.of (by kernel_rfl)
theorem fU:NmL (aa aB) "script":=.of (by kernel_rfl)
theorem hJ:NmL (aa aB) "mode":=.of (by kernel_rfl)
theorem aV:NmL (aa aB) "shape":=.of (by kernel_rfl)
theorem kI:NmL (aa aB) "tolls":=.of (by kernel_rfl)
theorem cS:NmL (aa aB) "many":=.of (by kernel_rfl)
theorem ee:NmL (aa aB) "roads":=.of (by kernel_rfl)
theorem bX:NmL (aa aB) "k":=.of (by kernel_rfl)
theorem lF:NmL (aa aB) "hang":=.of (by kernel_rfl)
theorem iy:NmL (aa aB) "one":=.of (by kernel_rfl)
theorem gp:NmL (aa aB) "other":=.of (by kernel_rfl)
theorem gG:NmL (aa aB) "there":=.of (by kernel_rfl)
theorem gS:NmL (aa aB) "back":=.of (by kernel_rfl)
theorem hG:NmL (aa aB) "road":=.of (by kernel_rfl)
theorem b6:NmG (aa aB) "_law_cell":=.of (by kernel_rfl)
theorem dC:NmG (aa aB) "_law_row":=.of (by kernel_rfl)
theorem rT:NmG (aa aB) "range":=.of (by kernel_rfl)
theorem hW:NmG (aa aB) "_law_tolls":=.of (by kernel_rfl)
theorem ip:NmG (aa aB) "len":=.of (by kernel_rfl)
theorem BR (T:Txt K mg) (hq:aN (CXe P w)) {f:Addr} {fd:FuncData} (D:Df K mg "_law_roads" aB ["script"] f fd) {fm:Addr} {ur:FuncData} (cz:Df K mg "_law_cell" cK ["script","k"] fm ur) (G_law_cell:FnOk P w K mg base (CXe P w) 1 fm ur ["script","k"] (ui T)) {gg:Addr} {vO:FuncData} (eu:Df K mg "_law_row" bP ["cell","mode","many","base"] gg vO) (G_law_row:FnOk P w K mg base (CXe P w) 1 gg vO ["cell","mode","many","base"] (wa T)) {eC:Addr} {se:FuncData} (fJ:Df K mg "_law_tolls" cr ["t"] eC se) (G_law_tolls:FnOk P w K mg base (CXe P w) 1 eC se ["t"] (sZ T)):FnOk P w K mg base (CXe P w) 2 f fd ["script"] (sD T):=by
 refine D.F.okC bf (fun vs H Q E h=>?_) (fun cdv A outer s H vs Q E hr h=>?_)
 . obtain ⟨a,ns,rfl,_⟩:=h
   rfl
 . obtain ⟨a,ns,rfl,ha,k⟩:=h;refine ⟨_,(aj (aH (i:=1) bf.nd rfl (Or.inl hJ.l) (am aW (au G_law_cell (hr.mono (by decide)) b6.g cz.m cz.F.kp cz.b .nil (az hq) (af (pvl 0 fU) (af ag ah)) (hdb:=b6.d)) ag)) (aj (aH (i:=2) bf.nd rfl (Or.inl aV.l) (au G_law_row (hr.mono (by decide)) dC.g eu.m eu.F.kp eu.b .nil (az hq) (af (am bE (au G_law_cell (hr.mono (by decide)) b6.g cz.m cz.F.kp cz.b .nil (az hq) (af (pvl 0 fU) (af ag ah)) (hdb:=b6.d)) ag) (af (pvl 1 hJ) (af ag (af ag ah)))) (hdb:=dC.d))) (aj (aH (i:=3) bf.nd rfl (Or.inl kI.l) (au G_law_row (hr.mono (by decide)) dC.g eu.m eu.F.kp eu.b .nil (az hq) (af (au G_law_cell (hr.mono (by decide)) b6.g cz.m cz.F.kp cz.b .nil (az hq) (af (pvl 0 fU) (af ag ah)) (hdb:=b6.d)) (af (pvl 1 hJ) (af ag (af (am kG ag (am A3 ag ag)) ah)))) (hdb:=dC.d))) (aj (aH (i:=4) bf.nd rfl (Or.inl cS.l) (am cN ag (am aW (ap aq (pvl 2 aV) ag (fun _ _=>rfl)) ag))) (aj (aO (aE bR (am aW (am bE (ap aq (pvl 2 aV) ag (fun _ _=>rfl)) ag) ag) ag (aG _)) (al (aH (i:=4) bf.nd rfl (Or.inl cS.l) (am cN ag (am aW (am bE (ap aq (pvl 2 aV) ag (fun _ _=>rfl)) ag) ag)))) aA) (aj (aH (i:=5) bf.nd rfl (Or.inl ee.l) (c6 ah)) (aj (gn PassesOwn.never rfl (Fl rT.g T.range (af ag (af (pvl 4 cS) ah))) (aM (i:=6) bf.nd rfl (Or.inl bX.l)) (aj (aH (i:=7) bf.nd rfl (Or.inl lF.l) (ap aq (c6 (af (am kK (pvl 6 bX) ag) (af ag (af (am aW (ap aq (pvl 2 aV) (am cN (pvl 6 bX) ag) (fun _ _=>rfl)) (pvl 6 bX)) (af (am aW (ap aq (pvl 2 aV) (am cN (pvl 6 bX) ag) (fun _ _=>rfl)) (pvl 6 bX)) ah))))) (am aW (ap aq (pvl 2 aV) ag (fun _ _=>rfl)) ag) (fun _ _=>rfl))) (aj (aH (i:=8) bf.nd rfl (Or.inl iy.l) (am aW (am cN (pvl 7 lF) (am bE (ap aq (pvl 2 aV) ag (fun _ _=>rfl)) ag)) (pvl 4 cS))) (aj (aH (i:=9) bf.nd rfl (Or.inl gp.l) (am aW (am cN (pvl 6 bX) (am bE (ap aq (pvl 2 aV) ag (fun _ _=>rfl)) ag)) (pvl 4 cS))) (aj (jh (au G_law_tolls (hr.mono (by decide)) hW.g fJ.m fJ.F.kp fJ.b .nil (az hq) (af (ap aq (pvl 3 kI) (pvl 6 bX) (fun _ _=>rfl)) ah) (hdb:=hW.d)) (kF (n:=2) rfl (bj (aM (i:=10) bf.nd rfl (Or.inl gG.l)) (bj (aM (i:=11) bf.nd rfl (Or.inl gS.l)) iK)))) (aj (aH (i:=12) bf.nd rfl (Or.inl hG.l) (eO (af (pvl 8 iy) (af (pvl 9 gp) (af (pvl 10 gG) (af (pvl 11 gS) ah)))))) (aj (aO (aE bR (am aW (am bE (ap aq (pvl 2 aV) (am cN (pvl 6 bX) ag) (fun _ _=>rfl)) ag) ag) ag (aG _)) (al (aH (i:=12) bf.nd rfl (Or.inl hG.l) (eO (af (pvl 9 gp) (af (pvl 8 iy) (af (pvl 11 gS) (af (pvl 10 gG) ah))))))) aA) (al (bq (lO PySem.F.plainAttrs_list PySem.F.slot_list_insert PySem.F.type_list_insert Gc (pvl 5 ee) (af (am aW (am bE (ap aq (pvl 2 aV) (am cN (pvl 6 bX) ag) (fun _ _=>rfl)) ag) (am cN (bK bx ip.g T.len dM (af (pvl 5 ee) ah) (hn:=ip.n) (hdb:=ip.d)) ag)) (af (pvl 12 hG) ah)))))))))))) (al (aF (eO (af (pvl 4 cS) (af (pvl 5 ee) ah)))))))))))),?_⟩;rw [show L2.start ["script","mode","shape","tolls","many","roads","k","hang","one","other","there","back","road"] [V.ref a]=[some (V.ref a),none,none,none,none,none,none,none,none,none,none,none,none] from rfl];have em:∀ (x n:Int),0<n->0<=x % n/\x % n<n:=fun x n h=>⟨Int.emod_nonneg x (Int.ne_of_gt h),Int.emod_lt_of_pos x h⟩;have cd:∀ x n:Int,0<n->n<1073741824->u6 x n:=fun x n h1 h2=>⟨h1,h2⟩;refine cj fun N1 h1=>?_;walk_at "rd";refine ⟨a,ns,0,rfl,ha,by decide,fun c0=>⟨c0,rfl,by decide,h1 _ _ (cj fun N2 h2=>?_)⟩⟩;walk_at "rd";refine ⟨a,ns,0,rfl,ha,by decide,fun c1=>⟨c1,rfl,cd _ _ (by decide) (by decide),?_⟩⟩;refine ⟨_,_,26,9600,rfl,by decide,by decide,by decide,by decide,fun ls sh H1 n1 s1 e1 shl sh0=>h2 _ _ (cj fun N3 h3=>?_)⟩;walk_at "rd";refine ⟨a,ns,1,rfl,Same.seq s1 ha,by decide,fun c2=>⟨⟨by decide,by decide,by decide⟩,.inl ⟨by decide,by decide⟩,?_⟩⟩;refine ⟨_,_,24,_,rfl,by decide,by decide,by decide,by decide,fun lt ts H2 n2 s2 e2 tl t0=>h3 _ _ (cj fun N4 h4=>?_)⟩;walk_at "rd";have sh2:=s2 _ _ e1;have s02:=s1.trans s2;have g0:=atG (xs:=sh) (i:=0) (by decide) (by omega);have g1:=atG (xs:=sh) (i:=1) (by decide) (by omega);have p1:0<=sh.getD (1:Int).toNat 0:=Dk sh0 _;generalize sh.getD (0:Int).toNat 0=w0 at g0 ⊢;generalize sh.getD (1:Int).toNat 0=w1 at g1 p1 ⊢;refine ixL sh2 g0 ⟨w0,rfl,by decide,h4 _ _ (cj fun N5 h5=>?_)⟩;walk_at "rd";refine ixL sh2 g0 ⟨w0,rfl,cd _ _ (by decide) (by decide),by decide,?_⟩;have mm:=em w0 7 (by decide);have mn:=em (w0 / 70) 17 (by decide);apply KB (8+w0 / 70 % 17) (1+w0 % 7)
   . generalize 1+w0 % 7=m;intro h;exact h
   . exact fun h=>ixL sh2 g0 ⟨w0,rfl,cd _ _ (by decide) (by decide),by decide,h⟩
   intro m hm;have m1:1<=m:=by omega
   have m24:m<=24:=by omega
   clear hm mm mn;refine h5 _ _ (cj fun N6 h6=>?_);walk_at "rd";refine ⟨by decide,fun lo nlo=>h6 _ _ (cj fun N7 h7=>?_)⟩;walk_at "rd";refine ⟨1,m,⟨rfl,rfl⟩,⟨by decide,by decide,by omega,by omega⟩,?_⟩;have nl0:H lo=none:=s02.free nlo;refine EU (fun i σ H3=>∃ (ps:List Addr) (rs:List Road) (rows:List Row) (v6 v7 v8 v9 v10 v11 v12:Option V),σ=[some (V.ref a),some (V.int (c0 % 2)),some (V.ref ls),some (V.ref lt),some (V.int m),some (V.ref lo),v6,v7,v8,v9,v10,v11,v12]/\Same H2 H3/\H3 lo=some (.lst (ps.map V.ref))/\RoadsAt H3 ps rs/\Rows i rows/\Put (fY m (w1 / 4)) rows rs) ⟨[],[],[],_,_,_,_,_,_,_,rfl,Same.new _ nlo,ak,.nil,⟨rfl,fun i r h=>by cases h⟩,Put.nil _⟩ ?_ ?_
   . rintro i σ H3 N BB hBB hN hi ⟨ps,rs,rows,v6,v7,v8,v9,v10,v11,v12,rfl,s3,hl3,ro3,R,P⟩;refine hBB _ _ ?_;have k0:(1:Int)<=1+(i:Int):=(by omega);have k1:1+(i:Int)<m:=(by omega);generalize hk:(1:Int)+(i:Int)=kk at k0 k1 ⊢;have psl:ps.length=rs.length:=Paired.length ro3;have rl:=R.len;have pl:=P.len;have gk:=atG (xs:=sh) (i:=kk+1) (by omega) (by omega);have pk:0<=sh.getD (kk+1).toNat 0:=Dk sh0 _;generalize sh.getD (kk+1).toNat 0=wk at gk pk;have gt:=atG (xs:=ts) (i:=kk) (by omega) (by omega);generalize ts.getD kk.toNat 0=tk at gt;have sh3:=s3 _ _ sh2;have ts3:=s3 _ _ e2;have hg:=em wk kk (by omega);refine cj fun M1 k1'=>?_;walk_at "rd";refine ixL sh3 gk ⟨wk,rfl,by omega,ixL sh3 gk ⟨wk,rfl,by omega,bG (by simp),fun q1 hq1=>?_⟩⟩;have s4:=Same.new (.lst [.int (kk - 1),.int 0,.int (wk % kk),.int (wk % kk)]) hq1;obtain ⟨un,hun,u0,u1⟩:∃ un:Int,atI [V.int (kk - 1),V.int 0,V.int (wk % kk),V.int (wk % kk)] (w1 % 4)=some (.int un)/\0<=un/\un<kk:=by
       rcases (show w1 % 4=0\/w1 % 4=1\/w1 % 4=2\/w1 % 4=3 by omega) with z|z|z|z
       . exact ⟨_,by rw [z];rfl,by omega,by omega⟩
       . exact ⟨_,by rw [z];rfl,by omega,by omega⟩
       . exact ⟨_,by rw [z];rfl,hg.1,hg.2⟩
       . exact ⟨_,by rw [z];rfl,hg.1,hg.2⟩
     refine ixL (s4 _ _ sh3) g1 ⟨w1,rfl,by decide,ixL ak hun (k1' _ _ (cj fun M2 k2'=>?_))⟩;generalize upd H3 q1 (.lst [.int (kk - 1),.int 0,.int (wk % kk),.int (wk % kk)])=H4 at s4 ⊢;have sh4:=s4 _ _ sh3;walk_at "rd";refine ixL sh4 g1 ⟨w1,rfl,cd _ _ (by decide) (by decide),by omega,k2' _ _ (cj fun M3 k3'=>?_)⟩;walk_at "rd";refine ixL sh4 g1 ⟨w1,rfl,cd _ _ (by decide) (by decide),by omega,k3' _ _ (cj fun M4 k4'=>?_)⟩;walk_at "rd";refine ixL (s4 _ _ ts3) gt ?_;refine ⟨tk,rfl,fun q2 th bk hq2 t0' t1 b0 b1=>?_⟩;have s5:=Same.new (.tup [.int th,.int bk]) hq2;refine ⟨q2,rfl,_,SqT.of ak,rfl,_,_,rfl,_,_,rfl,rfl,k4' _ _ (cj fun M5 k5'=>?_)⟩;walk_at "rd";refine ⟨bG (by simp),fun q3 hq3=>k5' _ _ (cj fun M6 k6'=>?_)⟩;walk_at "rd";have s6:=Same.new (.tup [.int ((un+w1 / 4) % m),.int ((kk+w1 / 4) % m),.int th,.int bk]) hq3;have s36:=s4.trans (s5.trans s6);have q36:upd (upd H4 q2 (.tup [.int th,.int bk])) q3 (.tup [.int ((un+w1 / 4) % m),.int ((kk+w1 / 4) % m),.int th,.int bk]) q3=some (.tup [.int ((un+w1 / 4) % m),.int ((kk+w1 / 4) % m),.int th,.int bk]):=ak;generalize upd (upd H4 q2 (.tup [.int th,.int bk])) q3 (.tup [.int ((un+w1 / 4) % m),.int ((kk+w1 / 4) % m),.int th,.int bk])=H6 at s36 q36 ⊢;have sh6:=s36 _ _ sh3;have lu:=ye (s:=w1 / 4) u0 (show un<m by omega);have lk:=ye (s:=w1 / 4) (show 0<=kk by omega) k1;have put:∀ (H7:Hp) (q:Addr) (row:Row) (v7 v8 v9 v10 v11 v12:Option V),Same H3 H7->row.k=kk->RowOk row->H7 q=some (.tup (lH (jB (fY m (w1 / 4)) row)))->tyV K "list" (V.ref lo) H7/\xf K (V.ref ls) (V.int (kk+1)) H7 fun x H1=>∃ i,x=V.int i/\u6 i 48/\∃ y,(SqL K H1 lo y\/SqT K H1 lo y)/\0<(y.length:Int)+1/\rInsert (V.ref lo) [V.int (i / 48 % ((y.length:Int)+1)),V.ref q] H1 fun _ H2=>N [some (V.ref a),some (V.int (c0 % 2)),some (V.ref ls),some (V.ref lt),some (V.int m),some (V.ref lo),some (V.int kk),v7,v8,v9,v10,v11,v12] H2:=by
       intro H7 q row v7 v8 v9 v10 v11 v12 s7 rk rok hq;have hl7:=s7 _ _ hl3;have sp:=em (wk / 48) ((ps.length:Int)+1) (by omega);refine ⟨tyL hl7,ixL (s7 _ _ sh3) gk ⟨wk,rfl,cd _ _ (by decide) (by decide),_,.inl (SqL.of hl7),by omega,?_⟩⟩;rw [List.length_map];refine Nd hl7 sp.1 (by rw [List.length_map];omega) (f6 (by rw [List.length_map];omega)) (hN _ _ ⟨ps.take (wk / 48 % ((ps.length:Int)+1)).toNat++q::ps.drop (wk / 48 % ((ps.length:Int)+1)).toNat,rs.take (wk / 48 % ((ps.length:Int)+1)).toNat++jB (fY m (w1 / 4)) row::rs.drop (wk / 48 % ((ps.length:Int)+1)).toNat,rows++[row],_,_,_,_,_,_,_,rfl,?_,?_,?_,?_,P.step row _⟩)
       . exact (s3.trans s7).put nlo _
       . rw [ak,List.map_append,List.map_cons,List.map_take,List.map_drop]
       . exact RoadsAt.ins _ (Paired.imp' (fun p r h=>Bf _ _ _ h (cy h hl7 (by intro z;cases z))) (RoadsAt.same s7 ro3)) (Bf _ _ _ hq (cy hq hl7 (by intro z;cases z)))
       . refine ⟨by rw [List.length_append,rl];rfl,fun j r hj=>?_⟩;by_cases hjl:j<rows.length
         . rw [List.getElem?_append_left hjl] at hj;exact R.ok j r hj
         . have hj2:j=rows.length:=by
             have:=(List.getElem?_eq_some_iff.mp hj).1;rw [List.length_append] at this;simp at this;omega
           rw [hj2,List.getElem?_append_right (Nat.le_refl _),Nat.sub_self] at hj;cases hj;exact ⟨by omega,rok⟩
     refine ixL sh6 gk ⟨wk,rfl,cd _ _ (by decide) (by decide),by decide,?_⟩;by_cases c:wk / 24 % 2=1
     . rw [if_pos c];refine ⟨bG (by simp),fun q4 hq4=>k6' _ _ ?_⟩;walk_at "rd";refine put _ q4 ⟨kk,un,bk,th,0,0⟩ _ _ _ _ _ _ (s36.trans (Same.new _ hq4)) rfl ⟨u0,u1,b0,b1,t0',t1,Int.le_refl _,by show (0:Int)<kk;omega⟩ ?_;rw [ak];unfold jB;rw [if_neg (show ¬ (0:Int)=1 by decide)];show _=some (HO.tup [V.int ((fY m (w1 / 4)).getD kk.toNat 0),V.int ((fY m (w1 / 4)).getD un.toNat 0),V.int bk,V.int th]);rw [lu,lk]
     . rw [if_neg c];refine k6' _ _ ?_;walk_at "rd";refine put _ q3 ⟨kk,un,th,bk,1,0⟩ _ _ _ _ _ _ s36 rfl ⟨u0,u1,t0',t1,b0,b1,Int.le_refl _,by show (0:Int)<kk;omega⟩ ?_;rw [q36];unfold jB;rw [if_pos rfl];show _=some (HO.tup [V.int ((fY m (w1 / 4)).getD un.toNat 0),V.int ((fY m (w1 / 4)).getD kk.toNat 0),V.int th,V.int bk]);rw [lu,lk]
   . rintro BB σ H3 hBB ⟨ps,rs,rows,v6,v7,v8,v9,v10,v11,v12,rfl,s3,hl3,ro3,R,P⟩;refine hBB _ _ ?_;have g:=K5 (n:=m.toNat) (by omega) (by omega) (IH m1) (by rw [show m.toNat - 1=(m - 1).toNat by omega];exact R) P;rw [Int.toNat_of_nonneg (by omega)] at g;walk_at "rd";refine h7 _ _ ?_;walk_at "rd";refine ⟨bG (by simp),fun t nt=>?_⟩;have s4:=Same.new (.tup [.int m,.ref lo]) nt;exact k t lo m ps rs _ ((s02.trans s3).free nt) nl0 (s02.trans (s3.trans s4)) ak (s4 _ _ hl3) (RoadsAt.same s4 ro3) g
def mT (T:Txt K mg):Sp:=fun vs H Q _=>∃ i:Int,vs=[.int i]/\Q (.bl true) H
abbrev bZ:Stmt:=top 46
theorem BX:FnScope ["found"] ["found"] (aa bZ):=FnScope.of (by kernel_rfl)
theorem kJ:NmL (aa bZ) "found":=.of (by kernel_rfl)
theorem bQ:NmG (aa bZ) "isinstance":=.of (by kernel_rfl)
theorem ik:NmG (aa bZ) "int":=.of (by kernel_rfl)
theorem gY:NmG (aa bZ) "bool":=.of (by kernel_rfl)
theorem Ah (T:Txt K mg) (hq:aN (CXe P w)) {f:Addr} {fd:FuncData} (D:Df K mg "_law_whole" bZ ["found"] f fd):FnOk P w K mg base (CXe P w) 1 f fd ["found"] (mT T):=by
 refine D.F.okC BX (fun vs H Q E h=>?_) (fun cdv A outer s H vs Q E hr h=>?_)
 . obtain ⟨i,rfl,_⟩:=h
   rfl
 . obtain ⟨i,rfl,k⟩:=h;refine ⟨_,(al (aF (pB (bK nO bQ.g T.isinstance lx (af (pvl 0 kJ) (af (wU (v:=.ty "int") ik.g T.int LM rfl (hn:=ik.n) (hd:=ik.d)) ah)) (hn:=bQ.n) (hdb:=bQ.d)) (sF (Lm (bK nO bQ.g T.isinstance lx (af (pvl 0 kJ) (af (wU (v:=.ty "bool") gY.g T.bool KH rfl (hn:=gY.n) (hd:=gY.d)) ah)) (hn:=bQ.n) (hdb:=bQ.d))))))),?_⟩;rw [show L2.start ["found"] [V.int i]=[some (V.int i)] from rfl];walk_at "rd";refine ⟨_,_,_,true,rfl,.int i,fun cv h=>by cases h;rfl,_,rfl,?_⟩;rw [if_pos rfl];refine ⟨_,_,_,false,rfl,.int i,fun cv h=>by cases h;rfl,_,rfl,?_⟩;exact k
def uk (T:Txt K mg):Sp:=fun vs H Q _=>∃ (a b:Addr) (c:Bool) (xs:List Int),vs=[.ref a,.ref b]/\H a=some (.tup (xs.map V.int))/\SqX K c H b (xs.map V.int)/\xs.length<=1000/\∀ H',Same H H'->Q (.bl true) H'
abbrev bA:Stmt:=top 47
theorem uf:FnScope ["found","due","k"] ["found","due"] (aa bA):=FnScope.of (by kernel_rfl)
theorem eL:NmL (aa bA) "found":=.of (by kernel_rfl)
theorem jk:NmL (aa bA) "due":=.of (by kernel_rfl)
theorem ii:NmL (aa bA) "k":=.of (by kernel_rfl)
theorem eE:NmG (aa bA) "isinstance":=.of (by kernel_rfl)
theorem gU:NmG (aa bA) "tuple":=.of (by kernel_rfl)
theorem b5:NmG (aa bA) "len":=.of (by kernel_rfl)
theorem tU:NmG (aa bA) "range":=.of (by kernel_rfl)
theorem iL:NmG (aa bA) "_law_whole":=.of (by kernel_rfl)
theorem CO (T:Txt K mg) (hq:aN (CXe P w)) {f:Addr} {fd:FuncData} (D:Df K mg "_law_same" bA ["found","due"] f fd) {cI:Addr} {gI:FuncData} (cp:Df K mg "_law_whole" bZ ["found"] cI gI) (G_law_whole:FnOk P w K mg base (CXe P w) 1 cI gI ["found"] (mT T)):FnOk P w K mg base (CXe P w) 2 f fd ["found","due"] (uk T):=by
 refine D.F.okC uf (fun vs H Q E h=>?_) (fun cdv A outer s H vs Q E hr h=>?_)
 . obtain ⟨a,b,c,xs,rfl,_⟩:=h
   rfl
 . obtain ⟨a,b,c,xs,rfl,ha,hb,hz,k⟩:=h;refine ⟨_,(aj (aO (PW.pt (tL (d8 (fB (bK nO eE.g T.isinstance lx (af (pvl 0 eL) (af (wU (v:=.ty "tuple") gU.g T.tuple gC rfl (hn:=gU.n) (hd:=gU.d)) ah)) (hn:=eE.n) (hdb:=eE.d)))) (sL (aE wu (bK bx b5.g T.len dM (af (pvl 0 eL) ah) (hn:=b5.n) (hdb:=b5.d)) (bK bx b5.g T.len dM (af (pvl 1 jk) ah) (hn:=b5.n) (hdb:=b5.d)) (aG _))))) (al (aF kh)) aA) (aj (gn PassesOwn.never rfl (yb tU.g T.range (af (bK bx b5.g T.len dM (af (pvl 1 jk) ah) (hn:=b5.n) (hdb:=b5.d)) ah)) (aM (i:=2) uf.nd rfl (Or.inl ii.l)) (al (aO (PW.pt (tL (d8 (fB (au G_law_whole (hr.mono (by decide)) iL.g cp.m cp.F.kp cp.b .nil (az hq) (af (ap bc (pvl 0 eL) (pvl 2 ii) (fun _ _=>rfl)) ah) (hdb:=iL.d)))) (sL (aE wu (ap bc (pvl 0 eL) (pvl 2 ii) (fun _ _=>rfl)) (ap (Mv c) (pvl 1 jk) (pvl 2 ii) (fun _ _=>rfl)) (aG _))))) (al (aF kh)) aA))) (al (aF kh)))),?_⟩;rw [show L2.start ["found","due","k"] [V.ref a,V.ref b]=[some (V.ref a),some (V.ref b),none] from rfl];walk_at "rd";have hb':SqL K H b (xs.map V.int)\/SqT K H b (xs.map V.int):=by
     cases c
     . exact .inr hb
     . exact .inl hb
   refine ⟨_,_,_,true,rfl,.tup ha,fun cv h=>by cases h;rfl,_,rfl,?_⟩;rw [if_neg (by decide)];refine ⟨_,.inr (SqT.of ha),_,hb',?_⟩;rw [if_neg (fun z=>z rfl)];refine ⟨_,hb',?_⟩;rw [List.length_map];refine ⟨by omega,by omega,?_⟩;refine pR (fun i σ H2=>H2=H/\∃ v,σ=[some (V.ref a),some (V.ref b),v]) ⟨rfl,_,rfl⟩ ?_ ?_
   . rintro i σ H2 N hN hi ⟨rfl,v,rfl⟩;rw [Int.zero_add];have gi:=atG (xs:=xs) (i:=(i:Int)) (by omega) (by omega);walk_at "rd";refine ixT ha gi ⟨_,rfl,_,rfl,?_⟩;rw [if_neg (by decide)];refine ixT ha gi (ixX hb gi ⟨rfl,?_⟩);rw [if_neg (fun z=>z rfl)];exact hN _ _ ⟨rfl,_,rfl⟩
   . rintro σ H2 ⟨rfl,v,rfl⟩;exact k _ (Same.refl _)
def kZ (T:Txt K mg):Sp:=fun vs H Q _=>∃ (o wb pl t q:Addr) (m:Int) (ps:List Addr) (rs:List Road) (sts:List (List Int × List Int)) (s:List Int × List Int) (n:Int),vs=[.ref o,.ref q,.int n]/\DeskAt T.Web T.Desk H o wb pl m t ps rs (sts++[s])/\StL H q s/\s.1.length<=1000/\s.2.length<=1000/\n=(sts.length:Int)/\∀ H',Same H H'->Q (.bl true) H'
abbrev bF:Stmt:=top 51
theorem yB:FnScope ["desk","state","many"] ["desk","state","many"] (aa bF):=FnScope.of (by kernel_rfl)
theorem eA:NmL (aa bF) "desk":=.of (by kernel_rfl)
theorem jK:NmL (aa bF) "state":=.of (by kernel_rfl)
theorem rL:NmL (aa bF) "many":=.of (by kernel_rfl)
theorem dc:NmG (aa bF) "_law_same":=.of (by kernel_rfl)
theorem gO:NmG (aa bF) "_law_whole":=.of (by kernel_rfl)
theorem yF (T:Txt K mg) (hq:aN (CXe P w)) {f:Addr} {fd:FuncData} (D:Df K mg "_law_stands" bF ["desk","state","many"] f fd) {f_Desk_deeds:Addr} {du:FuncData} (F_Desk_deeds:Fun K "deeds" "Desk.deeds" ck f_Desk_deeds du) (b_Desk_deeds:Binds K du ["self"] []) (dQ:Meth K T.Desk "deeds" f_Desk_deeds) (G_Desk_deeds:FnOk P w K mg base (CXe P w) 1 f_Desk_deeds du ["self"] (lh T)) {f_Desk_laying:Addr} {aR:FuncData} (F_Desk_laying:Fun K "laying" "Desk.laying" bU f_Desk_laying aR) (b_Desk_laying:Binds K aR ["self"] []) (bD:Meth K T.Desk "laying" f_Desk_laying) (G_Desk_laying:FnOk P w K mg base (CXe P w) 1 f_Desk_laying aR ["self"] (eW T)) {f_Desk_wish:Addr} {be:FuncData} (F_Desk_wish:Fun K "wish" "Desk.wish" cq f_Desk_wish be) (b_Desk_wish:Binds K be ["self"] []) (ce:Meth K T.Desk "wish" f_Desk_wish) (G_Desk_wish:FnOk P w K mg base (CXe P w) 1 f_Desk_wish be ["self"] (gv T)) {fv:Addr} {ul:FuncData} (dB:Df K mg "_law_same" bA ["found","due"] fv ul) (G_law_same:FnOk P w K mg base (CXe P w) 2 fv ul ["found","due"] (uk T)) {cI:Addr} {gI:FuncData} (cp:Df K mg "_law_whole" bZ ["found"] cI gI) (G_law_whole:FnOk P w K mg base (CXe P w) 1 cI gI ["found"] (mT T)):FnOk P w K mg base (CXe P w) 3 f fd ["desk","state","many"] (kZ T):=by
 refine D.F.okC yB (fun vs H Q E h=>?_) (fun cdv A outer s H vs Q E hr h=>?_)
 . obtain ⟨o,wb,pl,t,q,m,ps,rs,sts,s,n,rfl,_⟩:=h
   rfl
 . obtain ⟨o,wb,pl,t,q,m,ps,rs,sts,s,n,rfl,O,S,l1,l2,en,k⟩:=h;obtain ⟨a,b,hq',ha,hb⟩:=S;refine ⟨_,(aj (aO (PW.pt (tL (d8 (fB (au G_law_same (hr.mono (by decide)) dc.g dB.m dB.F.kp dB.b .nil (az hq) (af (cL (pvl 0 eA) T.aQ bD G_Desk_laying (hr.mono (by decide)) b_Desk_laying .nil (az hq)) (af (ap bc (pvl 1 jK) ag (fun _ _=>rfl)) ah)) (hdb:=dc.d)))) (sL (d8 (fB (au G_law_same (hr.mono (by decide)) dc.g dB.m dB.F.kp dB.b .nil (az hq) (af (cL (pvl 0 eA) T.aQ ce G_Desk_wish (hr.mono (by decide)) b_Desk_wish .nil (az hq)) (af (ap bc (pvl 1 jK) ag (fun _ _=>rfl)) ah)) (hdb:=dc.d))))))) (al (aF kh)) aA) (al (aF (pB (au G_law_whole (hr.mono (by decide)) gO.g cp.m cp.F.kp cp.b .nil (az hq) (af (cL (pvl 0 eA) T.aQ dQ G_Desk_deeds (hr.mono (by decide)) b_Desk_deeds .nil (az hq)) ah) (hdb:=gO.d)) (sF (lQ bR (cL (pvl 0 eA) T.aQ dQ G_Desk_deeds (hr.mono (by decide)) b_Desk_deeds .nil (az hq)) (pvl 2 rL) (aG _))))))),?_⟩;rw [show L2.start ["desk","state","many"] [V.ref o,V.ref q,V.int n]=[some (V.ref o),some (V.ref q),some (V.int n)] from rfl];walk_at "rd";refine O.meth ⟨o,wb,pl,t,m,ps,rs,sts,s,rfl,O,fun la hla=>⟨q,_,0,_,rfl,rfl,SqT.of hq',rfl,?_⟩⟩;refine ⟨la,a,true,s.1,rfl,hla,SqL.of ha,l1,fun H1 s1=>⟨_,rfl,?_⟩⟩;rw [if_neg (by decide)];have O1:=O.same s1;refine O1.meth ⟨o,wb,pl,t,m,ps,rs,sts,s,rfl,O1,fun lb hlb=>⟨q,_,1,_,rfl,rfl,SqT.of (s1 _ _ hq'),rfl,?_⟩⟩;refine ⟨lb,b,true,s.2,rfl,hlb,SqL.of (s1 _ _ hb),l2,fun H2 s2=>⟨_,rfl,?_⟩⟩;rw [if_neg (by decide)];have O2:=O1.same s2;refine O2.meth ⟨o,wb,pl,t,m,ps,rs,_,rfl,O2,⟨_,rfl,_,rfl,?_⟩⟩;rw [if_pos rfl];refine O2.meth ⟨o,wb,pl,t,m,ps,rs,_,rfl,O2,?_⟩;refine ⟨rfl,?_⟩;rw [decide_eq_true (by rw [en,List.length_append,List.length_cons,List.length_nil];refine congrArg V.int ?_;omega)];exact k H2 (s1.trans s2)
def zx (K:PySem.W.Frag):Sp:=fun vs H Q _=>∃ (a:Addr) (ns:List Int),vs=[.ref a]/\SqL K H a (ns.map V.int)/\ns.length<=63/\∀ H',Q (.bl true) H'
def Lq (T:Txt K mg):Sp:=zx K
/-- a state that the law keeps: neither of its rows is one of the two that change -/
def StM (sl pl:Addr) (H:Hp) (q:Addr) (s:List Int × List Int):Prop:=∃ a b,H q=some (.tup [.ref a,.ref b])/\H a=some (.lst (s.1.map V.int))/\H b=some (.lst (s.2.map V.int))/\(a≠sl/\a≠pl)/\b≠sl/\b≠pl
theorem StM.kpt {sl pl l:Addr} {H H':Hp} {q:Addr} {s:List Int × List Int} {xs:List V} (hl:l=sl\/l=pl) (e:Kpt l H H') (hx:H l=some (.lst xs)) (h:StM sl pl H q s):StM sl pl H' q s:=by
 obtain ⟨a,b,x,y,z,na,nb⟩:=h;refine ⟨a,b,e _ _ x (cy x hx (by intro z;cases z)),e _ _ y ?_,e _ _ z ?_,na,nb⟩
 . rcases hl with rfl|rfl
   . exact na.1
   . exact na.2
 . rcases hl with rfl|rfl
   . exact nb.1
   . exact nb.2
structure Iv (C O:Addr) (H:Hp) (l o wb pl t1 o2 wb2 pl2 t2 sl:Addr) (m:Int) (ps:List Addr) (rs:List Road) (D S:List (List Int × List Int)):Prop where
 hl:H l=some (.lst (ps.map V.ref))
 ro:RoadsAt H ps rs
 dk:DeskAt C O H o wb pl m t1 ps rs D
 bs:DeskAt C O H o2 wb2 pl2 m t2 ps rs [(zrs m,zrs m)]
 st:∃ qs:List Addr,H sl=some (.lst (qs.map V.ref))/\Paired (StM sl pl H) qs S
 ne:sl≠pl/\l≠sl/\l≠pl/\pl2≠sl/\pl2≠pl
section
variable {C O:Addr} {H H':Hp} {l o wb pl t1 o2 wb2 pl2 t2 sl:Addr} {m:Int} {ps:List Addr} {rs:List Road} {D D' S S':List (List Int × List Int)} {s:List Int × List Int}
theorem Iv.same (e:Same H H') (h:Iv C O H l o wb pl t1 o2 wb2 pl2 t2 sl m ps rs D S):Iv C O H' l o wb pl t1 o2 wb2 pl2 t2 sl m ps rs D S :=
 ⟨e _ _ h.hl,RoadsAt.same e h.ro,h.dk.same e,h.bs.same e,let ⟨qs,h1,h2⟩:=h.st;⟨qs,e _ _ h1,Paired.imp' (fun q s ⟨a,b,x,y,z,n⟩=>⟨a,b,e _ _ x,e _ _ y,e _ _ z,n⟩) h2⟩,h.ne⟩
theorem Iv.kS {qs:List Addr} (h:Iv C O H l o wb pl t1 o2 wb2 pl2 t2 sl m ps rs D S) (e:Kpt sl H H') (h1:H' sl=some (.lst (qs.map V.ref))) (h2:Paired (StM sl pl H') qs S'):Iv C O H' l o wb pl t1 o2 wb2 pl2 t2 sl m ps rs D S':=by
 obtain ⟨qs0,g1,g2⟩:=h.st;exact ⟨e _ _ h.hl h.ne.2.1,Paired.imp' (fun q x z=>e _ _ z (cy z g1 (by intro z;cases z))) h.ro,h.dk.kpt e g1 (Ne.symm h.ne.1),h.bs.kpt e g1 h.ne.2.2.2.1,⟨qs,h1,h2⟩,h.ne⟩
theorem Iv.kD (h:Iv C O H l o wb pl t1 o2 wb2 pl2 t2 sl m ps rs D S) (e:Kpt pl H H') (d:DeskAt C O H' o wb pl m t1 ps rs D'):Iv C O H' l o wb pl t1 o2 wb2 pl2 t2 sl m ps rs D' S:=by
 obtain ⟨qs0,g1,g2⟩:=h.dk.pa;obtain ⟨qs,h1,h2⟩:=h.st;exact ⟨e _ _ h.hl h.ne.2.2.1,Paired.imp' (fun q x z=>e _ _ z (cy z g1 (by intro z;cases z))) h.ro,d,h.bs.kpt e g1 h.ne.2.2.2.2,⟨qs,e _ _ h1 h.ne.1,Paired.imp' (fun q s x=>StM.kpt (.inr rfl) e g1 x) h2⟩,h.ne⟩
theorem Iv.last (h:Iv C O H l o wb pl t1 o2 wb2 pl2 t2 sl m ps rs D (S++[s])):∃ (qs:List Addr) (q a b:Addr),H sl=some (.lst ((qs++[q]).map V.ref))/\Paired (StM sl pl H) qs S/\atI ((qs++[q]).map V.ref) (-1)=some (.ref q)/\H q=some (.tup [.ref a,.ref b])/\H a=some (.lst (s.1.map V.int))/\H b=some (.lst (s.2.map V.int))/\qs.length=S.length:=by
 obtain ⟨qs,h1,h2⟩:=h.st;obtain ⟨qs',q,rfl,h3,a,b,h4,h5,h6,_⟩:=qa h2;refine ⟨qs',q,a,b,h1,h3,?_,h4,h5,h6,Paired.length h3⟩;rw [List.map_append];exact Dw _ _
end
abbrev b3:Stmt:=top 52
theorem fA:FnScope ["script","many","roads","web","desk","beside","states","cell","deed","numbers","behind_v"] ["script"] (aa b3):=FnScope.of (by kernel_rfl)
theorem qZ:NmL (aa b3) "script":=.of (by kernel_rfl)
theorem eG:NmL (aa b3) "many":=.of (by kernel_rfl)
theorem jt:NmL (aa b3) "roads":=.of (by kernel_rfl)
theorem qi:NmL (aa b3) "web":=.of (by kernel_rfl)
theorem fL:NmL (aa b3) "desk":=.of (by kernel_rfl)
theorem rd:NmL (aa b3) "beside":=.of (by kernel_rfl)
theorem bC:NmL (aa b3) "states":=.of (by kernel_rfl)
theorem ug:NmL (aa b3) "cell":=.of (by kernel_rfl)
theorem hX:NmL (aa b3) "deed":=.of (by kernel_rfl)
theorem jT:NmL (aa b3) "numbers":=.of (by kernel_rfl)
theorem f7:NmL (aa b3) "behind_v":=.of (by kernel_rfl)
theorem lW:NmG (aa b3) "_law_roads":=.of (by kernel_rfl)
theorem vW:NmG (aa b3) "Web":=.of (by kernel_rfl)
theorem ka:NmG (aa b3) "Desk":=.of (by kernel_rfl)
theorem nh:NmG (aa b3) "_law_deed":=.of (by kernel_rfl)
theorem cu:NmG (aa b3) "len":=.of (by kernel_rfl)
theorem lC:NmG (aa b3) "_law_behind":=.of (by kernel_rfl)
theorem rb:NmG (aa b3) "_law_do":=.of (by kernel_rfl)
theorem cR:NmG (aa b3) "_law_stands":=.of (by kernel_rfl)
theorem LR (T:Txt K mg) (hq:aN (CXe P w)) {f:Addr} {fd:FuncData} (D:Df K mg "law" b3 ["script"] f fd) {f_Desk___init__:Addr} {iu:FuncData} (F_Desk___init__:Fun K "__init__" "Desk.__init__" ba f_Desk___init__ iu) (b_Desk:Binds K iu ["self","web"] []) (vY:Mk K T.Desk f_Desk___init__) (G_Desk_init:FnOk P w K mg base (CXe P w) 5 f_Desk___init__ iu ["self","web"] (iw T)) {f_Desk_back:Addr} {dL:FuncData} (F_Desk_back:Fun K "back" "Desk.back" cD f_Desk_back dL) (b_Desk_back:Binds K dL ["self"] []) (eB:Meth K T.Desk "back" f_Desk_back) (G_Desk_back:FnOk P w K mg base (CXe P w) 3 f_Desk_back dL ["self"] (mX T)) {f_Web___init__:Addr} {cM:FuncData} (F_Web___init__:Fun K "__init__" "Web.__init__" aI f_Web___init__ cM) (b_Web:Binds K cM ["self","many","roads"] []) (tK:Mk K T.Web f_Web___init__) (G_Web_init:FnOk P w K mg base (CXe P w) 3 f_Web___init__ cM ["self","many","roads"] (fZ T)) {dJ:Addr} {qT:FuncData} (eT:Df K mg "_law_behind" aP ["roads","held","wish","deed","numbers"] dJ qT) (G_law_behind:FnOk P w K mg base (CXe P w) 2 dJ qT ["roads","held","wish","deed","numbers"] (qR T)) {ft:Addr} {uj:FuncData} (gK:Df K mg "_law_deed" bg ["cell","many","roads"] ft uj) (G_law_deed:FnOk P w K mg base (CXe P w) 1 ft uj ["cell","many","roads"] (uv T)) {ir:Addr} {yg:FuncData} (jM:Df K mg "_law_do" dR ["desk","deed","numbers"] ir yg) (G_law_do:FnOk P w K mg base (CXe P w) 10 ir yg ["desk","deed","numbers"] (yc T)) {eD:Addr} {rA:FuncData} (fH:Df K mg "_law_roads" aB ["script"] eD rA) (G_law_roads:FnOk P w K mg base (CXe P w) 2 eD rA ["script"] (sD T)) {dS:Addr} {qU:FuncData} (bS:Df K mg "_law_stands" bF ["desk","state","many"] dS qU) (G_law_stands:FnOk P w K mg base (CXe P w) 3 dS qU ["desk","state","many"] (kZ T)):FnOk P w K mg base (CXe P w) 11 f fd ["script"] (Lq T):=by
 refine D.F.okC fA (fun vs H Q E h=>?_) (fun cdv A outer s H vs Q E hr h=>?_)
 . obtain ⟨a,ns,rfl,_⟩:=h
   rfl
 . obtain ⟨a,ns,rfl,ha,hn,k⟩:=h;have hv:=hr.units;refine ⟨_,(aj (jh (au G_law_roads (hr.mono (by decide)) lW.g fH.m fH.F.kp fH.b .nil (az hq) (af (pvl 0 qZ) ah) (hdb:=lW.d)) (kF (n:=2) rfl (bj (aM (i:=1) fA.nd rfl (Or.inl eG.l)) (bj (aM (i:=2) fA.nd rfl (Or.inl jt.l)) iK)))) (aj (aH (i:=3) fA.nd rfl (Or.inl qi.l) (tS tK G_Web_init (hr.mono (by decide)) vW.g T.Ko b_Web .nil (az hq) (af (pvl 1 eG) (af (pvl 2 jt) ah)) (hdb:=vW.d))) (aj (aH (i:=4) fA.nd rfl (Or.inl fL.l) (tS vY G_Desk_init (hr.mono (by decide)) ka.g T.Fx b_Desk .nil (az hq) (af (pvl 3 qi) ah) (hdb:=ka.d))) (aj (aH (i:=5) fA.nd rfl (Or.inl rd.l) (tS vY G_Desk_init (hr.mono (by decide)) ka.g T.Fx b_Desk .nil (az hq) (af (pvl 3 qi) ah) (hdb:=ka.d))) (aj (aH (i:=6) fA.nd rfl (Or.inl bC.l) (c6 (af (eO (af (am pr (c6 (af ag ah)) (pvl 1 eG)) (af (am pr (c6 (af ag ah)) (pvl 1 eG)) ah))) ah))) (aj (gn PassesOwn.never rfl (tQ (pvl 0 qZ)) (aM (i:=7) fA.nd rfl (Or.inl ug.l)) (aj (jh (au G_law_deed (hr.mono (by decide)) nh.g gK.m gK.F.kp gK.b .nil (az hq) (af (pvl 7 ug) (af (pvl 1 eG) (af (pvl 2 jt) ah))) (hdb:=nh.d)) (kF (n:=2) rfl (bj (aM (i:=8) fA.nd rfl (Or.inl hX.l)) (bj (aM (i:=9) fA.nd rfl (Or.inl jT.l)) iK)))) (aj (aO (PW.pt (mi (aE bR (pvl 8 hX) c7 (aG _)) (jS (aE EB (bK bx cu.g T.len dM (af (pvl 6 bC) ah) (hn:=cu.n) (hdb:=cu.d)) ag (aG _))))) (aj (bq (vu PySem.F.plainAttrs_list PySem.F.slot_list_pop PySem.F.type_list_pop vA (pvl 6 bC))) (al (aO (rH (xq (cL (pvl 4 fL) T.aQ eB G_Desk_back (hr.mono (by decide)) b_Desk_back .nil (az hq)))) (al (aF kh)) aA))) aA) (aj (aH (i:=10) fA.nd rfl (Or.inl f7.l) zD) (aj (aO (aE wu (pvl 8 hX) c7 (aG _)) (al (aH (i:=10) fA.nd rfl (Or.inl f7.l) (au G_law_behind (hr.mono (by decide)) lC.g eT.m eT.F.kp eT.b .nil (az hq) (af (pvl 2 jt) (af (ap bc (ap aq (pvl 6 bC) (lN jq ag) (fun _ _=>rfl)) ag (fun _ _=>rfl)) (af (ap bc (ap aq (pvl 6 bC) (lN jq ag) (fun _ _=>rfl)) ag (fun _ _=>rfl)) (af (pvl 8 hX) (af (pvl 9 jT) ah))))) (hdb:=lC.d)))) aA) (aj (aO (rH (xq (pvl 10 f7))) (aj (bq (lO PySem.F.plainAttrs_list PySem.F.slot_list_append PySem.F.type_list_append d6 (pvl 6 bC) (af (pvl 10 f7) ah))) (al (aO (rH (xq (au G_law_do (hr.mono (by decide)) rb.g jM.m jM.F.kp jM.b .nil (az hq) (af (pvl 4 fL) (af (pvl 8 hX) (af (pvl 9 jT) ah))) (hdb:=rb.d)))) (al (aF kh)) aA))) aA) (al (aO (d8 (fB (au G_law_stands (hr.mono (by decide)) cR.g bS.m bS.F.kp bS.b .nil (az hq) (af (pvl 4 fL) (af (ap aq (pvl 6 bC) (lN jq ag) (fun _ _=>rfl)) (af (am kK (bK bx cu.g T.len dM (af (pvl 6 bC) ah) (hn:=cu.n) (hdb:=cu.d)) ag) ah))) (hdb:=cR.d)))) (al (aF kh)) aA)))))))) (aj (Bi PassesOwn.never (aE EB (bK bx cu.g T.len dM (af (pvl 6 bC) ah) (hn:=cu.n) (hdb:=cu.d)) ag (aG _)) (aj (bq (vu PySem.F.plainAttrs_list PySem.F.slot_list_pop PySem.F.type_list_pop vA (pvl 6 bC))) (aj (bq (cL (pvl 4 fL) T.aQ eB G_Desk_back (hr.mono (by decide)) b_Desk_back .nil (az hq))) (al (aO (d8 (fB (au G_law_stands (hr.mono (by decide)) cR.g bS.m bS.F.kp bS.b .nil (az hq) (af (pvl 4 fL) (af (ap aq (pvl 6 bC) (lN jq ag) (fun _ _=>rfl)) (af (am kK (bK bx cu.g T.len dM (af (pvl 6 bC) ah) (hn:=cu.n) (hdb:=cu.d)) ag) ah))) (hdb:=cR.d)))) (al (aF kh)) aA))))) (al (aF (au G_law_stands (hr.mono (by decide)) cR.g bS.m bS.F.kp bS.b .nil (az hq) (af (pvl 5 rd) (af (eO (af (am pr (c6 (af ag ah)) (pvl 1 eG)) (af (am pr (c6 (af ag ah)) (pvl 1 eG)) ah))) (af ag ah))) (hdb:=cR.d))))))))))),?_⟩;rw [show L2.start ["script","many","roads","web","desk","beside","states","cell","deed","numbers","behind_v"] [V.ref a]=[some (V.ref a),none,none,none,none,none,none,none,none,none,none] from rfl];refine cj fun N1 h1=>?_;walk_at "rd";refine ⟨a,ns,rfl,ha,fun t l m ps rs H1 nt nl s1 et el ro g=>?_⟩;have m1:=g.m1;have m24:=g.m24;have mp:0<m:=by omega
   refine ⟨t,rfl,_,SqT.of et,rfl,_,_,rfl,_,_,rfl,rfl,h1 _ _ (cj fun N2 h2=>?_)⟩;walk_at "rd";refine E1 T (c:=true) (SqL.of el) ro g fun x tw H2 hx htw s2 W=>h2 _ _ (cj fun N3 h3=>?_);have s12:=s1.trans s2;have mkD:∀ {H':Hp} {Q':Addr->Hp->Prop},WebAt T.Web H' x m tw ps rs->(∀ (o wb pl t':Addr) (H'':Hp),H' o=none->H' pl=none->Same H' H''->DeskAt T.Web T.Desk H'' o wb pl m t' ps rs [(zrs m,zrs m)]->Q' o H'')->∀ y dx,H' y=none->H' dx=none->dx≠y->iw T [.ref y,.ref x] (upd (upd H' dx (.own y)) y (.ins T.Desk dx [])) (fun v H2=>v=.non/\Q' y H2) E0:=fun {H' Q'} W' q y dx hy hdx ne=>by
     have hy1:upd H' dx (.own y) y=none:=(by rw [ao ne.symm];exact hy);have t0:Same H' (upd (upd H' dx (.own y)) y (.ins T.Desk dx [])):=(Same.new _ hdx).trans (Same.new _ hy1);exact ⟨y,dx,x,tw,m,ps,rs,rfl,ak,W'.same t0,fun wb pl t' H'' hpl D kp=>⟨rfl,q y wb pl t' H'' hy (t0.free hpl) (fun b o e=>kp b o (t0 b o e) (bw e hy)) D⟩⟩
   walk_at "rd";refine mkD W fun o wb pl t1 H3 no npl s3 D1=>h3 _ _ (cj fun N4 h4=>?_);walk_at "rd";refine mkD (W.same s3) fun o2 wb2 pl2 t2 H4 no2 npl2 s4 B1=>h4 _ _ (cj fun N5 h5=>?_);have D2:=D1.same s4;have npp:pl2≠pl:=fun z=>by
     obtain ⟨qs,h,_⟩:=D1.pa;rw [z,h] at npl2;cases npl2
   have nlp:l≠pl:=fun z=>by rw [<- z,s2 _ _ el] at npl;cases npl
   have plH:H pl=none:=s12.free npl;have s14:=s12.trans (s3.trans s4);have el4:=(s2.trans (s3.trans s4)) _ _ el;have ro4:=RoadsAt.same (s2.trans (s3.trans s4)) ro;clear W mkD s12 s2 s3 s4 el ro et;have zer:∀ {H':Hp} {Q':VK},(∀ p H'',H' p=none->Same H' H''->H'' p=some (.lst ((zrs m).map V.int))->Q' (.ref p) H'')->[V.int 0].length<=sizeLine/\∀ (p:Addr),H' p=none->rRep (V.ref p) (V.int m) (upd H' p (.lst [V.int 0])) Q':=fun {H' Q'} q=>⟨by decide,fun p np=>by
     have v1:=Same.new (.lst [V.int 0]) np;refine ⟨p,m,[V.int 0],rfl,rfl,ak,by omega,by omega,bG (by simp;omega),fun p2 np2=>?_⟩;rw [Al,<- C7];exact q p2 _ (v1.free np2) (v1.trans (Same.new _ np2)) ak⟩
   have fz:aD m (zrs m)=true:=iM (by rw [De];omega) fun x hx=>by rw [(List.mem_replicate.mp hx).2];decide
   walk_at "rd";refine zer fun z1 H5 nz1 s5 e5=>zer fun z2 H6 nz2 s6 e6=>⟨bG (by simp),fun q0 nq0=>⟨bG (by simp),fun sl nsl=>?_⟩⟩;have s7:=Same.new (.tup [V.ref z1,V.ref z2]) nq0;have s8:=Same.new (.lst [V.ref q0]) nsl;have eq0:=s8 _ _ (ak (H:=H6) (a:=q0) (o:=.tup [V.ref z1,V.ref z2]));have esl:upd (upd H6 q0 (.tup [V.ref z1,V.ref z2])) sl (.lst [V.ref q0]) sl=some (.lst [V.ref q0]):=ak;have s78:=s7.trans s8;have s48:=s5.trans (s6.trans s78);have nsl6:=s7.free nsl;have nsl4:=(s5.trans s6).free nsl6;generalize upd (upd H6 q0 (.tup [V.ref z1,V.ref z2])) sl (.lst [V.ref q0])=H7 at eq0 esl s78 s48 ⊢;obtain ⟨qd,gd,_⟩:=D2.pa;obtain ⟨qb,gb,_⟩:=B1.pa;have fne:∀ {p:Addr} {y:HO},H4 p=some y->p≠sl:=fun h z=>by rw [z,nsl4] at h;cases h
   have I7:Iv T.Web T.Desk H7 l o wb pl t1 o2 wb2 pl2 t2 sl m ps rs [(zrs m,zrs m)] [(zrs m,zrs m)]:=by
     refine ⟨s48 _ _ el4,RoadsAt.same s48 ro4,D2.same s48,B1.same s48,⟨[q0],esl,.cons ⟨z1,z2,eq0,s78 _ _ (s6 _ _ e5),s78 _ _ e6,⟨?_,?_⟩,?_,?_⟩ .nil⟩,(fne gd).symm,fne el4,?_,fne gb,npp⟩
     . exact fun z=>by rw [<- z,s6 _ _ e5] at nsl6;cases nsl6
     . exact fun z=>by rw [z,gd] at nz1;cases nz1
     . exact fun z=>by rw [<- z,e6] at nsl6;cases nsl6
     . exact fun z=>by rw [z,s5 _ _ gd] at nz2;cases nz2
     . exact fun z=>nlp z
   have sH7:=s14.trans s48;have slH:H sl=none:=s14.free nsl4;clear D2 B1 el4 ro4 eq0 esl s78 s48 e5 e6 gd gb;refine h5 _ _ (cj fun N6 h6=>?_);walk_at "rd";refine ⟨⟨_,Same.seq sH7 ha⟩,?_⟩;have keep:∀ {p:Addr} {X Y:Hp},H p=none->Kpt p X Y->Same H X->Same H Y:=fun hp e s b y h=>e _ _ (s _ _ h) (bw h hp);have fl1:∀ {zs:List Int},aD m zs=true->zs.length<=1000:=fun f=>by have:=fc f;omega
   have stand:∀ {H':Hp} {sts:List (List Int × List Int)} {Q':VK},Iv T.Web T.Desk H' l o wb pl t1 o2 wb2 pl2 t2 sl m ps rs sts sts->(∀ s∈sts,aD m s.1=true/\aD m s.2=true)->sts≠[]->(∀ H'',Same H' H''->Q' (.bl true) H'')->xf K (V.ref sl) (V.int (-1)) H' fun x_1 H1=>∃ x_2,(SqL K H1 sl x_2\/SqT K H1 sl x_2)/\kZ T [V.ref o,x_1,V.int ((x_2.length:Int) - 1)] H1 Q' E0:=fun {H' sts Q'} I ok ne q=>by
     obtain ⟨S,s,e⟩:=(List.eq_nil_or_concat sts).resolve_left ne;rw [List.concat_eq_append] at e;subst e;obtain ⟨qs,q0,a',b',g1,g2,g3,g4,g5,g6,g7⟩:=I.last;refine ixL g1 g3 ⟨_,.inl (SqL.of g1),?_⟩;have f:=ok s (by simp);exact ⟨o,wb,pl,t1,q0,m,ps,rs,S,s,_,rfl,I.dk,⟨a',b',g4,g5,g6⟩,fl1 f.1,fl1 f.2,by rw [List.length_map,List.length_append,List.length_cons,List.length_nil,g7];omega,q⟩
   have popS:∀ {H':Hp} {D S:List (List Int × List Int)} {s:List Int × List Int} {R:VK},Iv T.Web T.Desk H' l o wb pl t1 o2 wb2 pl2 t2 sl m ps rs D (S++[s])->(∀ y H'',Iv T.Web T.Desk H'' l o wb pl t1 o2 wb2 pl2 t2 sl m ps rs D S->Kpt sl H' H''->R y H'')->rPop (V.ref sl) [] H' R:=fun {H' D S s R} I q=>by
     obtain ⟨qs,q0,a',b',g1,g2,g3,g4,g5,g6,g7⟩:=I.last;have kp:Kpt sl H' (upd H' sl (.lst (qs.map V.ref))):=Kpt.refl.put _;refine ⟨sl,_,V.ref q0,rfl,rfl,g1,?_,?_⟩
     . rw [List.map_append,List.length_append,List.map_cons,List.map_nil,List.length_cons,List.length_nil,show (qs.map V.ref).length+(0+1) - 1=(qs.map V.ref).length by omega,List.getElem?_append_right (Nat.le_refl _),Nat.sub_self]
       rfl
     . rw [List.map_append,List.map_cons,List.map_nil,List.dropLast_concat];exact q _ _ (I.kS kp ak (Paired.imp' (fun q s x=>StM.kpt (.inl rfl) kp g1 x) g2)) kp
   have appS:∀ {H':Hp} {D S:List (List Int × List Int)} {s:List Int × List Int} {q0:Addr} {R:VK},Iv T.Web T.Desk H' l o wb pl t1 o2 wb2 pl2 t2 sl m ps rs D S->StM sl pl H' q0 s->S.length<=1000->(∀ y H'',Iv T.Web T.Desk H'' l o wb pl t1 o2 wb2 pl2 t2 sl m ps rs D (S++[s])->Kpt sl H' H''->R y H'')->rAppend (V.ref sl) [V.ref q0] H' R:=fun {H' D S s q0 R} I st sl' q=>by
     obtain ⟨qs,g1,g2⟩:=I.st;have kp:Kpt sl H' (upd H' sl (.lst (qs.map V.ref++[V.ref q0]))):=Kpt.refl.put _;refine ⟨sl,_,_,rfl,rfl,g1,f6 (by rw [List.length_map,Paired.length g2];omega),?_⟩;exact q _ _ (I.kS (qs:=qs++[q0]) kp (by rw [ak,List.map_append];rfl) (vk (StM.kpt (.inl rfl) kp g1 st) (Paired.imp' (fun q s x=>StM.kpt (.inl rfl) kp g1 x) g2))) kp
   refine EX (K:=K) (xs:=ns.map V.int) (fun i σ H8=>Same H H8/\∃ (sts:List (List Int × List Int)) (v7 v8 v9 v10:Option V),Iv T.Web T.Desk H8 l o wb pl t1 o2 wb2 pl2 t2 sl m ps rs sts sts/\(∀ s∈sts,aD m s.1=true/\aD m s.2=true)/\sts≠[]/\sts.length<=i+1/\σ=[some (V.ref a),some (V.int m),some (V.ref l),some (V.ref x),some (V.ref o),some (V.ref o2),some (V.ref sl),v7,v8,v9,v10]) ⟨sH7,_,_,_,_,_,I7,(fun s hs=>by rw [List.mem_singleton.mp hs];exact ⟨fz,fz⟩),by simp,by simp,rfl⟩ (fun i σ H8 _ z=>Same.seq z.1 ha) ?_ ?_
   . rintro i y σ H8 N BB hBB hN hy ⟨s8,sts,v7,v8,v9,v10,I8,ok8,ne8,len8,rfl⟩;have il:=(List.getElem?_eq_some_iff.mp hy).1;rw [List.length_map] at il;rw [List.getElem?_map] at hy;obtain ⟨c,_,rfl⟩:=Option.map_eq_some_iff.mp hy;refine hBB _ _ (cj fun M1 k1=>?_);walk_at "rd";refine ⟨l,c,m,ps,rs,rfl,I8.hl,I8.ro,g,fun q b H9 D' okD nb s9 eq eb=>⟨q,rfl,_,SqT.of eq,rfl,_,_,rfl,_,_,rfl,rfl,k1 _ _ (cj fun M2 k2=>?_)⟩⟩;have I9:=I8.same s9;obtain ⟨qs8,g8,_⟩:=I8.st;obtain ⟨qd8,gd8,_⟩:=I8.dk.pa;have bsl:b≠sl:=fun z=>by rw [z,g8] at nb;cases nb
     have bpl:b≠pl:=fun z=>by rw [z,gd8] at nb;cases nb
     have s09:=s8.trans s9;have nx1:∀ (H10:Hp) (sts':List (List Int × List Int)),Same H H10->Iv T.Web T.Desk H10 l o wb pl t1 o2 wb2 pl2 t2 sl m ps rs sts' sts'->(∀ s∈sts',aD m s.1=true/\aD m s.2=true)->sts'≠[]->sts'.length<=i+1->H10 b=some (.lst (D'.ns.map V.int))->M2 [some (V.ref a),some (V.int m),some (V.ref l),some (V.ref x),some (V.ref o),some (V.ref o2),some (V.ref sl),some (V.int c),some (V.str D'.wd),some (V.ref b),v10] H10:=fun H10 sts' s10 I10 ok10 ne10 len10 eb10=>by
       refine k2 _ _ (cj fun M3 k3=>?_);walk_at "rd";refine k3 _ _ (cj fun M4 k4=>?_);have nonb:∀ Hn,Same H10 Hn->M4 [some (V.ref a),some (V.int m),some (V.ref l),some (V.ref x),some (V.ref o),some (V.ref o2),some (V.ref sl),some (V.int c),some (V.str D'.wd),some (V.ref b),some V.non] Hn:=fun Hn sn=>by
         refine k4 _ _ (cj fun M5 k5=>?_);walk_at "rd";refine k5 _ _ ?_;walk_at "rd";refine stand (I10.same sn) ok10 ne10 fun H11 s11=>⟨_,rfl,?_⟩;rw [if_neg (by decide)];exact hN _ _ ⟨s10.trans (sn.trans s11),sts',_,_,_,_,I10.same (sn.trans s11),ok10,ne10,by omega,rfl⟩
       by_cases hbk:∃ v n,D'=.back v n
       . obtain ⟨v,n,rfl⟩:=hbk;simp only [Dd.wd] at nonb ⊢;walk_at "rd";rw [if_neg (fun z=>z trivial)];exact nonb H10 (Same.refl _)
       . have nbk:∀ v n,D'≠.back v n:=fun v n z=>hbk ⟨v,n,z⟩;walk_at "rd";rw [if_pos (Du nbk)];obtain ⟨S,s,e⟩:=(List.eq_nil_or_concat sts').resolve_left ne10;rw [List.concat_eq_append] at e;subst e;obtain ⟨qs,q0,a',b',g1,g2,g3,g4,g5,g6,g7⟩:=I10.last;have f:=ok10 s (by simp);have sl10:S.length<=500:=(by rw [List.length_append] at len10;simp at len10;omega);refine ixL g1 g3 ⟨q0,_,0,_,rfl,rfl,SqT.of g4,rfl,ixL g1 g3 ⟨q0,_,1,_,rfl,rfl,SqT.of g4,rfl,?_⟩⟩;refine ⟨l,a',b',b,ps,rs,m,s,D',rfl,I10.hl,I10.ro,g,g5,g6,eb10,fc f.1,fc f.2,okD,nbk,fun _ H11 s11=>?_,fun s' es' q a2 b2 H11 s11 na2 nb2 e1 e2 e3=>?_⟩
         . exact nonb H11 s11
         . have I11:=I10.same s11;have eb11:=s11 _ _ eb10;obtain ⟨qs1,h1',_⟩:=I10.st;obtain ⟨qd1,hd',_⟩:=I10.dk.pa;have fr:∀ {p:Addr},H10 p=none->p≠sl/\p≠pl:=fun hp=>⟨fun z=>(by rw [z,h1'] at hp;cases hp),fun z=>(by rw [z,hd'] at hp;cases hp)⟩;have bl:=KI es' (fc f.1) (fc f.2);have bn:=Mf g okD es' (sj f.1) (sj f.2);refine k4 _ _ (cj fun M5 k5=>?_);obtain ⟨qs2,h2',_⟩:=I11.st;walk_at "rd";refine ⟨.inl ⟨rfl,_,SqL.of h2'⟩,appS I11 ⟨a2,b2,e1,e2,e3,fr na2,fr nb2⟩ (by rw [List.length_append];simp;omega) fun _ H12 I12 kp12=>?_⟩;have eb12:=kp12 _ _ eb11 bsl;refine ⟨o,wb,pl,t1,b,m,ps,rs,S,s,s',D',rfl,I12.dk,sl10,f.1,f.2,eb12,okD,es',fun H13 D13 kp13=>?_⟩;show ite (¬ V.non=V.non) _ _;rw [if_neg (fun z=>z rfl)];have I13:=I12.kD kp13 D13;have ok13:∀ z∈S++[s]++[s'],aD m z.1=true/\aD m z.2=true:=fun z hz=>by
             rcases List.mem_append.mp hz with h|h
             . exact ok10 z h
             . rw [List.mem_singleton.mp h];exact ⟨iM bl.1 bn.1,iM bl.2 bn.2⟩
           have s13':=keep plH kp13 (keep slH kp12 (s10.trans s11));refine k5 _ _ ?_;walk_at "rd";refine stand I13 ok13 (by simp) fun H14 s14'=>⟨_,rfl,?_⟩;rw [if_neg (by decide)];exact hN _ _ ⟨s13'.trans s14',_,_,_,_,_,I13.same s14',ok13,by simp,by rw [List.length_append];simp;simp at len10;omega,rfl⟩
     walk_at "rd";by_cases hbk:∃ v n,D'=.back v n
     . obtain ⟨v,n,rfl⟩:=hbk;simp only [Dd.wd] at nx1 ⊢;walk_at "rd";obtain ⟨qs9,g9,p9⟩:=I9.st;refine ⟨_,.inl (SqL.of g9),?_⟩;rw [List.length_map,Paired.length p9];by_cases z1:(1:Int)<sts.length
       . rw [if_pos z1];obtain ⟨S,s,e⟩:=(List.eq_nil_or_concat sts).resolve_left ne8;rw [List.concat_eq_append] at e;subst e;have Sne:S≠[]:=fun z=>by rw [z] at z1;simp at z1
         refine ⟨.inl ⟨rfl,_,SqL.of g9⟩,popS I9 fun _ H10 I10 kp10=>I10.dk.meth ?_⟩;refine ⟨o,wb,pl,t1,m,ps,rs,S,s,rfl,I10.dk,Sne,fun H11 D11 kp11=>?_⟩;show ite (¬ V.non=V.non) _ _;rw [if_neg (fun z=>z rfl)];exact nx1 H11 S (keep plH kp11 (keep slH kp10 s09)) (I10.kD kp11 D11) (fun z hz=>ok8 z (List.mem_append.mpr (.inl hz))) Sne (by rw [List.length_append] at len8;simp at len8;omega) (kp11 _ _ (kp10 _ _ eb bsl) bpl)
       . rw [if_neg z1];exact nx1 H9 sts s09 I9 ok8 ne8 len8 eb
     . rw [if_neg (Du fun v n z=>hbk ⟨v,n,z⟩)];exact nx1 H9 sts s09 I9 ok8 ne8 len8 eb
   . rintro BB σ H8 hBB ⟨s8,sts,v7,v8,v9,v10,I8,ok8,ne8,len8,rfl⟩;refine hBB _ _ (h6 _ _ (cj fun M1 k1=>?_));walk_at "rd";refine K1 (fun n σ H9=>Same H H9/\∃ (sts:List (List Int × List Int)),n=sts.length/\Iv T.Web T.Desk H9 l o wb pl t1 o2 wb2 pl2 t2 sl m ps rs sts sts/\(∀ s∈sts,aD m s.1=true/\aD m s.2=true)/\sts≠[]/\σ=[some (V.ref a),some (V.int m),some (V.ref l),some (V.ref x),some (V.ref o),some (V.ref o2),some (V.ref sl),v7,v8,v9,v10]) (sts.length) ⟨s8,sts,rfl,I8,ok8,ne8,rfl⟩ ?_;rintro n σ H9 NW BB hBB hN hN2 ⟨s9,sts,rfl,I9,ok9,ne9,rfl⟩;refine hBB _ _ _ ?_;obtain ⟨qs9,g9,p9⟩:=I9.st;walk_at "rd";refine ⟨_,.inl (SqL.of g9),?_⟩;rw [List.length_map,Paired.length p9];by_cases z1:(1:Int)<sts.length
     . rw [if_pos z1];obtain ⟨S,s,e⟩:=(List.eq_nil_or_concat sts).resolve_left ne9;rw [List.concat_eq_append] at e;subst e;have Sne:S≠[]:=fun z=>by rw [z] at z1;simp at z1
       refine ⟨NW,hN2,?_⟩;refine ⟨.inl ⟨rfl,_,SqL.of g9⟩,popS I9 fun _ H10 I10 kp10=>I10.dk.meth ?_⟩;refine ⟨o,wb,pl,t1,m,ps,rs,S,s,rfl,I10.dk,Sne,fun H11 D11 kp11=>?_⟩;have I11:=I10.kD kp11 D11;have ok11:∀ z∈S,aD m z.1=true/\aD m z.2=true:=fun z hz=>ok9 z (List.mem_append.mpr (.inl hz));refine stand I11 ok11 Sne fun H12 s12'=>⟨_,rfl,?_⟩;rw [if_neg (by decide)];exact hN S.length _ _ (by rw [List.length_append];simp) ⟨(keep plH kp11 (keep slH kp10 s9)).trans s12',S,rfl,I11.same s12',ok11,Sne,rfl⟩
     . rw [if_neg z1];refine k1 _ _ ?_;walk_at "rd";refine zer fun z3 H10 _ s10 e10=>zer fun z4 H11 _ s11 e11=>⟨bG (by simp),fun q5 nq5=>?_⟩;have s12:=Same.new (.tup [V.ref z3,V.ref z4]) nq5;exact ⟨o2,wb2,pl2,t2,q5,m,ps,rs,[],(zrs m,zrs m),0,rfl,(I9.bs.same (s10.trans (s11.trans s12))),⟨z3,z4,ak,s12 _ _ (s11 _ _ e10),s12 _ _ e11⟩,fl1 fz,fl1 fz,rfl,fun H' _=>k H'⟩
end
theorem Nn:aN CX0:=fun _ _ _ _ _ h=>h
theorem all_mk {l:PySem.W.OpenLaw} {w:World} {K:PySem.W.Frag} {h:Heap} {mg:Str->Option Value} {fa:Addr} {AI:Addr} {ng:Addr} {qh:Addr} {kc:Addr} {m6:Addr} {B4:Addr} {xT:Addr} {ju:Addr} {cQ:Addr} {xc_NoPlace:Value} {xd_NoPlace:Option Addr} {xk_NoPlace:ClassData} {xs_NoPlace:Array (Option Value)} {qn_NoPlace qq_NoPlace:Str} {qN_NoPlace:Addr} {qb_NoPlace qm_NoPlace:List Value} {qh_NoPlace:Bool} {qs_NoPlace:List Str} {qu_NoPlace:List Value} {qa_NoPlace:Bool} {qc_NoPlace:Option Bool} {qd_NoPlace:Option Addr} {q0_NoPlace q1_NoPlace q2_NoPlace q3_NoPlace q5_NoPlace:Option Value} {xc_NoRoad:Value} {xd_NoRoad:Option Addr} {xk_NoRoad:ClassData} {xs_NoRoad:Array (Option Value)} {qn_NoRoad qq_NoRoad:Str} {qN_NoRoad:Addr} {qb_NoRoad qm_NoRoad:List Value} {qh_NoRoad:Bool} {qs_NoRoad:List Str} {qu_NoRoad:List Value} {qa_NoRoad:Bool} {qc_NoRoad:Option Bool} {qd_NoRoad:Option Addr} {q0_NoRoad q1_NoRoad q2_NoRoad q3_NoRoad q5_NoRoad:Option Value} {xc_BadLaying:Value} {xd_BadLaying:Option Addr} {xk_BadLaying:ClassData} {xs_BadLaying:Array (Option Value)} {qn_BadLaying qq_BadLaying:Str} {qN_BadLaying:Addr} {qb_BadLaying qm_BadLaying:List Value} {qh_BadLaying:Bool} {qs_BadLaying:List Str} {qu_BadLaying:List Value} {qa_BadLaying:Bool} {qc_BadLaying:Option Bool} {qd_BadLaying:Option Addr} {q0_BadLaying q1_BadLaying q2_BadLaying q3_BadLaying q5_BadLaying:Option Value} {xc_BadWish:Value} {xd_BadWish:Option Addr} {xk_BadWish:ClassData} {xs_BadWish:Array (Option Value)} {qn_BadWish qq_BadWish:Str} {qN_BadWish:Addr} {qb_BadWish qm_BadWish:List Value} {qh_BadWish:Bool} {qs_BadWish:List Str} {qu_BadWish:List Value} {qa_BadWish:Bool} {qc_BadWish:Option Bool} {qd_BadWish:Option Addr} {q0_BadWish q1_BadWish q2_BadWish q3_BadWish q5_BadWish:Option Value} {c9:Addr} {od_check_counts vm:Option Addr} {vR:Array (Option Value)} {oc_check_counts vq wv wy m8 wx:Value} {cg:Addr} {od_is_place Cy:Option Addr} {C2:Array (Option Value)} {oc_is_place CD C1 CQ uo Cu:Value} {dP:Addr} {od_check_ends yX:Option Addr} {zo:Array (Option Value)} {oc_check_ends yH zh yx q9 zi:Value} {cs:Addr} {od_other_ends yW:Option Addr} {yT:Array (Option Value)} {oc_other_ends yA yG yZ qN yV:Value} {da:Addr} {od_check_joined vH:Option Addr} {vU:Array (Option Value)} {oc_check_joined vo vn vp ny vE:Value} {dv:Addr} {od_check_tolls xB:Option Addr} {xh:Array (Option Value)} {oc_check_tolls xF xi xa pi xL:Value} {f_Web___init__:Addr} {od_Web___init__ vS:Option Addr} {wt:Array (Option Value)} {oc_Web___init__ vK vQ wj nz vN:Value} {eC:Addr} {od_law_tolls zF:Option Addr} {Bh:Array (Option Value)} {oc_law_tolls AD Ak BG rQ zE:Value} {f_Desk___init__:Addr} {od_Desk___init__ uL:Option Addr} {ve:Array (Option Value)} {oc_Desk___init__ uN vg vd mf uA:Value} {f_Desk_deeds:Addr} {od_Desk_deeds y0:Option Addr} {zn:Array (Option Value)} {oc_Desk_deeds yO yR zc re yD:Value} {f_Desk_back:Addr} {od_Desk_back Bl:Option Addr} {Az:Array (Option Value)} {oc_Desk_back Bc zI A6 rF AL:Value} {eF:Addr} {od_law_price Ai:Option Addr} {Ag:Array (Option Value)} {oc_law_price zM zY Af rz BZ:Value} {dJ:Addr} {od_law_behind y9:Option Addr} {zj:Array (Option Value)} {oc_law_behind yI yy yL qM zm:Value} {ft:Addr} {od_law_deed Cs:Option Addr} {Cq:Array (Option Value)} {oc_law_deed Cn CW CJ ut Cl:Value} {f_Desk_keep:Addr} {od_Desk_keep zP:Option Addr} {Ay:Array (Option Value)} {oc_Desk_keep AB BD BA sd Am:Value} {f_Desk_laying:Addr} {od_Desk_laying xb:Option Addr} {wI:Array (Option Value)} {oc_Desk_laying wS xt wH pD wE:Value} {f_Desk_wish:Addr} {od_Desk_wish Bb:Option Addr} {Ba:Array (Option Value)} {oc_Desk_wish zS B5 Bo sK Bu:Value} {aU:Addr} {od_check_place wL:Option Addr} {xj:Array (Option Value)} {oc_check_place xC wZ wX pF wJ:Value} {cJ:Addr} {od_is_filled Ae:Option Addr} {zO:Array (Option Value)} {oc_is_filled B8 z9 AV sV Bw:Value} {cF:Addr} {od_laying_of zR:Option Addr} {AE:Array (Option Value)} {oc_laying_of Aj B0 Cb rn Ar:Value} {pY:Addr} {od_put LZ:Option Addr} {LI:Array (Option Value)} {oc_put Mp L8 Mg F3 L4:Value} {my:Addr} {od_pile KG:Option Addr} {KA:Array (Option Value)} {oc_pile Lf KS Lb Dl Ld:Value} {f_Desk_put:Addr} {od_Desk_put CN:Option Addr} {Cr:Array (Option Value)} {oc_Desk_put Ct Cw CP ua Cz:Value} {lY:Addr} {od_toll KL:Option Addr} {Kx:Array (Option Value)} {oc_toll KO K0 KP Ds Ky:Value} {fM:Addr} {od_taken IA:Option Addr} {Hg:Array (Option Value)} {oc_taken IP JL G5 zU GM:Value} {iq:Addr} {od_behind Gg:Option Addr} {E2:Array (Option Value)} {oc_behind Fs Gb Fz xQ Fr:Value} {dU:Addr} {od_neighbours zb:Option Addr} {yK:Array (Option Value)} {oc_neighbours y7 zf yQ qO yS:Value} {gJ:Addr} {od_is_step DU:Option Addr} {DH:Array (Option Value)} {oc_is_step EL Eg EJ vD DN:Value} {dy:Addr} {od_can_be_done xO:Option Addr} {wN:Array (Option Value)} {oc_can_be_done wP xI wM pG xp:Value} {gr:Addr} {od_layings DY:Option Addr} {Dz:Array (Option Value)} {oc_layings Ec Ep EK wq DE:Value} {iC:Addr} {od_walked F2:Option Addr} {FX:Array (Option Value)} {oc_walked FR F8 Fo xR FP:Value} {f_Desk_step:Addr} {od_Desk_step Ad:Option Addr} {AM:Array (Option Value)} {oc_Desk_step A5 Aa BP r9 AK:Value} {gl:Addr} {od_wish_of Ey:Option Addr} {DV:Array (Option Value)} {oc_wish_of Ez EH Ee vz DK:Value} {f_Desk_want:Addr} {od_Desk_want Bn:Option Addr} {BL:Array (Option Value)} {oc_Desk_want B3 A0 Cf sA BN:Value} {ir:Addr} {od_law_do F0:Option Addr} {F1:Array (Option Value)} {oc_law_do FL FF Fp ya Fw:Value} {fm:Addr} {od_law_cell CY:Option Addr} {CS:Array (Option Value)} {oc_law_cell CT C4 CF ub Ck:Value} {gg:Addr} {od_law_row EC:Option Addr} {EG:Array (Option Value)} {oc_law_row Er DD DX vF Dy:Value} {eD:Addr} {od_law_roads Bq:Option Addr} {AY:Array (Option Value)} {oc_law_roads zZ BC A9 sS Cd:Value} {cI:Addr} {od_law_whole B6:Option Addr} {Au:Array (Option Value)} {oc_law_whole Bm Be B9 rq Ax:Value} {fv:Addr} {od_law_same CL:Option Addr} {CU:Array (Option Value)} {oc_law_same CV Cm CC uc Cp:Value} {dS:Addr} {od_law_stands y4:Option Addr} {yz:Array (Option Value)} {oc_law_stands yC zr zt qP za:Value} {Ew:Addr} {od_law Gj:Option Addr} {MF:Array (Option Value)} {oc_law FY FN FS BT F9:Value} {t_MOST_PLACES:Tok} {t_LEAST_TOLL:Tok} {t_MOST_TOLL:Tok} (X:K.In h) (G:h.Ns mainGlobals mg) (hfa:mg "law"=some (.ref fa))
   (sf:PySem.W.nsIn K mainGlobals "BadWeb"=some (some (.ref AI)))
   (pS:PySem.W.nsIn K mainGlobals "NoPlace"=some (some (.ref ng)))
   (tE:PySem.W.nsIn K mainGlobals "NoRoad"=some (some (.ref qh)))
   (mq:PySem.W.nsIn K mainGlobals "BadLaying"=some (some (.ref kc)))
   (qC:PySem.W.nsIn K mainGlobals "BadWish"=some (some (.ref m6)))
   (su:PySem.W.nsIn K mainGlobals "NoDeed"=some (some (.ref B4)))
   (pO:PySem.W.nsIn K mainGlobals "BadStep"=some (some (.ref xT)))
   (A8:PySem.W.nsIn K mainGlobals "Web"=some (some (.ref ju)))
   (wR:PySem.W.nsIn K mainGlobals "Desk"=some (some (.ref cQ)))
   (qr:K.lookup ng=some ⟨xc_NoPlace,xd_NoPlace,.cls xk_NoPlace,xs_NoPlace⟩)
   (qA:(⟨xc_NoPlace,xd_NoPlace,.cls xk_NoPlace,xs_NoPlace⟩:Obj)=excClassObj qn_NoPlace qq_NoPlace ng qN_NoPlace qb_NoPlace qm_NoPlace qh_NoPlace qs_NoPlace qu_NoPlace qa_NoPlace qc_NoPlace qd_NoPlace q0_NoPlace q1_NoPlace q2_NoPlace q3_NoPlace q5_NoPlace "ValueError.__new__")
   (qB:PySem.W.nsOkIn K qN_NoPlace=true)
   (pM:PySem.W.nsIn K qN_NoPlace "__init__"=some none)
   (qj:PySem.W.tailIn K bmV qm_NoPlace=true)
   (rG:K.lookup qh=some ⟨xc_NoRoad,xd_NoRoad,.cls xk_NoRoad,xs_NoRoad⟩)
   (rP:(⟨xc_NoRoad,xd_NoRoad,.cls xk_NoRoad,xs_NoRoad⟩:Obj)=excClassObj qn_NoRoad qq_NoRoad qh qN_NoRoad qb_NoRoad qm_NoRoad qh_NoRoad qs_NoRoad qu_NoRoad qa_NoRoad qc_NoRoad qd_NoRoad q0_NoRoad q1_NoRoad q2_NoRoad q3_NoRoad q5_NoRoad "ValueError.__new__")
   (tj:PySem.W.nsOkIn K qN_NoRoad=true)
   (rN:PySem.W.nsIn K qN_NoRoad "__init__"=some none)
   (rC:PySem.W.tailIn K bmV qm_NoRoad=true)
   (mr:K.lookup kc=some ⟨xc_BadLaying,xd_BadLaying,.cls xk_BadLaying,xs_BadLaying⟩)
   (mI:(⟨xc_BadLaying,xd_BadLaying,.cls xk_BadLaying,xs_BadLaying⟩:Obj)=excClassObj qn_BadLaying qq_BadLaying kc qN_BadLaying qb_BadLaying qm_BadLaying qh_BadLaying qs_BadLaying qu_BadLaying qa_BadLaying qc_BadLaying qd_BadLaying q0_BadLaying q1_BadLaying q2_BadLaying q3_BadLaying q5_BadLaying "ValueError.__new__")
   (mQ:PySem.W.nsOkIn K qN_BadLaying=true)
   (l6:PySem.W.nsIn K qN_BadLaying "__init__"=some none)
   (l7:PySem.W.tailIn K bmV qm_BadLaying=true)
   (qw:K.lookup m6=some ⟨xc_BadWish,xd_BadWish,.cls xk_BadWish,xs_BadWish⟩)
   (qc:(⟨xc_BadWish,xd_BadWish,.cls xk_BadWish,xs_BadWish⟩:Obj)=excClassObj qn_BadWish qq_BadWish m6 qN_BadWish qb_BadWish qm_BadWish qh_BadWish qs_BadWish qu_BadWish qa_BadWish qc_BadWish qd_BadWish q0_BadWish q1_BadWish q2_BadWish q3_BadWish q5_BadWish "ValueError.__new__")
   (pN:PySem.W.nsOkIn K qN_BadWish=true)
   (qG:PySem.W.nsIn K qN_BadWish "__init__"=some none)
   (qD:PySem.W.tailIn K bmV qm_BadWish=true)
   (j9:PySem.W.nsIn K mainGlobals "check_counts"=some (some (.ref c9)))
   (j4:K.lookup c9=some ⟨oc_check_counts,od_check_counts,.func (PySem.W.fnOf "check_counts" "check_counts" (ax aZ) (aw aZ) (aa aZ) .none vq wv wy vm m8 wx),vR⟩)
   (j6:PySem.W.codeIn K m8 "check_counts"=true)
   (jU:PySem.W.keepIn K (.ref c9)=true)
   (qK:PySem.W.nsIn K mainGlobals "is_place"=some (some (.ref cg)))
   (qp:K.lookup cg=some ⟨oc_is_place,od_is_place,.func (PySem.W.fnOf "is_place" "is_place" (ax cw) (aw cw) (aa cw) .none CD C1 CQ Cy uo Cu),C2⟩)
   (pK:PySem.W.codeIn K uo "is_place"=true)
   (qe:PySem.W.keepIn K (.ref cg)=true)
   (mP:PySem.W.nsIn K mainGlobals "check_ends"=some (some (.ref dP)))
   (mV:K.lookup dP=some ⟨oc_check_ends,od_check_ends,.func (PySem.W.fnOf "check_ends" "check_ends" (ax bT) (aw bT) (aa bT) .none yH zh yx yX q9 zi),zo⟩)
   (mR:PySem.W.codeIn K q9 "check_ends"=true)
   (mG:PySem.W.keepIn K (.ref dP)=true)
   (lU:PySem.W.nsIn K mainGlobals "other_ends"=some (some (.ref cs)))
   (mz:K.lookup cs=some ⟨oc_other_ends,od_other_ends,.func (PySem.W.fnOf "other_ends" "other_ends" (ax bH) (aw bH) (aa bH) .none yA yG yZ yW qN yV),yT⟩)
   (mj:PySem.W.codeIn K qN "other_ends"=true)
   (mD:PySem.W.keepIn K (.ref cs)=true)
   (jL:PySem.W.nsIn K mainGlobals "check_joined"=some (some (.ref da)))
   (j3:K.lookup da=some ⟨oc_check_joined,od_check_joined,.func (PySem.W.fnOf "check_joined" "check_joined" (ax aL) (aw aL) (aa aL) .none vo vn vp vH ny vE),vU⟩)
   (j0:PySem.W.codeIn K ny "check_joined"=true)
   (j2:PySem.W.keepIn K (.ref da)=true)
   (k7:PySem.W.nsIn K mainGlobals "check_tolls"=some (some (.ref dv)))
   (kU:K.lookup dv=some ⟨oc_check_tolls,od_check_tolls,.func (PySem.W.fnOf "check_tolls" "check_tolls" (ax bo) (aw bo) (aa bo) .none xF xi xa xB pi xL),xh⟩)
   (ld:PySem.W.codeIn K pi "check_tolls"=true)
   (kO:PySem.W.keepIn K (.ref dv)=true)
   (jY:PySem.W.findIn K (.ref ju) "__init__"=some (some (.ref f_Web___init__)))
   (j1:PySem.W.isFn K (.ref f_Web___init__)=true)
   (jV:K.lookup f_Web___init__=some ⟨oc_Web___init__,od_Web___init__,.func (PySem.W.fnOf "__init__" "Web.__init__" (ax aI) (aw aI) (aa aI) .none vK vQ wj vS nz vN),wt⟩)
   (jW:PySem.W.codeIn K nz "Web.__init__"=true)
   (jP:PySem.W.keepIn K (.ref f_Web___init__)=true)
   (oj:PySem.W.nsIn K mainGlobals "_law_tolls"=some (some (.ref eC)))
   (oF:K.lookup eC=some ⟨oc_law_tolls,od_law_tolls,.func (PySem.W.fnOf "_law_tolls" "_law_tolls" (ax cr) (aw cr) (aa cr) .none AD Ak BG zF rQ zE),Bh⟩)
   (oP:PySem.W.codeIn K rQ "_law_tolls"=true)
   (oo:PySem.W.keepIn K (.ref eC)=true)
   (jf:PySem.W.findIn K (.ref cQ) "__init__"=some (some (.ref f_Desk___init__)))
   (jo:PySem.W.isFn K (.ref f_Desk___init__)=true)
   (iX:K.lookup f_Desk___init__=some ⟨oc_Desk___init__,od_Desk___init__,.func (PySem.W.fnOf "__init__" "Desk.__init__" (ax ba) (aw ba) (aa ba) .none uN vg vd uL mf uA),ve⟩)
   (ja:PySem.W.codeIn K mf "Desk.__init__"=true)
   (je:PySem.W.keepIn K (.ref f_Desk___init__)=true)
   (lS:PySem.W.findIn K (.ref cQ) "deeds"=some (some (.ref f_Desk_deeds)))
   (ml:PySem.W.isFn K (.ref f_Desk_deeds)=true)
   (mC:K.lookup f_Desk_deeds=some ⟨oc_Desk_deeds,od_Desk_deeds,.func (PySem.W.fnOf "deeds" "Desk.deeds" (ax ck) (aw ck) (aa ck) .none yO yR zc y0 re yD),zn⟩)
   (lX:PySem.W.codeIn K re "Desk.deeds"=true)
   (jl:PySem.W.keepIn K (.ref f_Desk_deeds)=true)
   (oZ:PySem.W.findIn K (.ref cQ) "back"=some (some (.ref f_Desk_back)))
   (nV:PySem.W.isFn K (.ref f_Desk_back)=true)
   (oM:K.lookup f_Desk_back=some ⟨oc_Desk_back,od_Desk_back,.func (PySem.W.fnOf "back" "Desk.back" (ax cD) (aw cD) (aa cD) .none Bc zI A6 Bl rF AL),Az⟩)
   (nR:PySem.W.codeIn K rF "Desk.back"=true)
   (ki:PySem.W.keepIn K (.ref f_Desk_back)=true)
   (oO:PySem.W.nsIn K mainGlobals "_law_price"=some (some (.ref eF)))
   (nD:K.lookup eF=some ⟨oc_law_price,od_law_price,.func (PySem.W.fnOf "_law_price" "_law_price" (ax bz) (aw bz) (aa bz) .none zM zY Af Ai rz BZ),Ag⟩)
   (oV:PySem.W.codeIn K rz "_law_price"=true)
   (nQ:PySem.W.keepIn K (.ref eF)=true)
   (mJ:PySem.W.nsIn K mainGlobals "_law_behind"=some (some (.ref dJ)))
   (mE:K.lookup dJ=some ⟨oc_law_behind,od_law_behind,.func (PySem.W.fnOf "_law_behind" "_law_behind" (ax aP) (aw aP) (aa aP) .none yI yy yL y9 qM zm),zj⟩)
   (mo:PySem.W.codeIn K qM "_law_behind"=true)
   (mH:PySem.W.keepIn K (.ref dJ)=true)
   (qy:PySem.W.nsIn K mainGlobals "_law_deed"=some (some (.ref ft)))
   (qF:K.lookup ft=some ⟨oc_law_deed,od_law_deed,.func (PySem.W.fnOf "_law_deed" "_law_deed" (ax bg) (aw bg) (aa bg) .none Cn CW CJ Cs ut Cl),Cq⟩)
   (pL:PySem.W.codeIn K ut "_law_deed"=true)
   (pU:PySem.W.keepIn K (.ref ft)=true)
   (oG:PySem.W.findIn K (.ref cQ) "keep"=some (some (.ref f_Desk_keep)))
   (oI:PySem.W.isFn K (.ref f_Desk_keep)=true)
   (oC:K.lookup f_Desk_keep=some ⟨oc_Desk_keep,od_Desk_keep,.func (PySem.W.fnOf "keep" "Desk.keep" (ax cc) (aw cc) (aa cc) .none AB BD BA zP sd Am),Ay⟩)
   (om:PySem.W.codeIn K sd "Desk.keep"=true)
   (kg:PySem.W.keepIn K (.ref f_Desk_keep)=true)
   (lq:PySem.W.findIn K (.ref cQ) "laying"=some (some (.ref f_Desk_laying)))
   (kT:PySem.W.isFn K (.ref f_Desk_laying)=true)
   (lm:K.lookup f_Desk_laying=some ⟨oc_Desk_laying,od_Desk_laying,.func (PySem.W.fnOf "laying" "Desk.laying" (ax bU) (aw bU) (aa bU) .none wS xt wH xb pD wE),wI⟩)
   (lf:PySem.W.codeIn K pD "Desk.laying"=true)
   (ie:PySem.W.keepIn K (.ref f_Desk_laying)=true)
   (oQ:PySem.W.findIn K (.ref cQ) "wish"=some (some (.ref f_Desk_wish)))
   (nP:PySem.W.isFn K (.ref f_Desk_wish)=true)
   (n8:K.lookup f_Desk_wish=some ⟨oc_Desk_wish,od_Desk_wish,.func (PySem.W.fnOf "wish" "Desk.wish" (ax cq) (aw cq) (aa cq) .none zS B5 Bo Bb sK Bu),Ba⟩)
   (n9:PySem.W.codeIn K sK "Desk.wish"=true)
   (kd:PySem.W.keepIn K (.ref f_Desk_wish)=true)
   (kP:PySem.W.nsIn K mainGlobals "check_place"=some (some (.ref aU)))
   (kW:K.lookup aU=some ⟨oc_check_place,od_check_place,.func (PySem.W.fnOf "check_place" "check_place" (ax aX) (aw aX) (aa aX) .none xC wZ wX wL pF wJ),xj⟩)
   (ll:PySem.W.codeIn K pF "check_place"=true)
   (kM:PySem.W.keepIn K (.ref aU)=true)
   (nG:PySem.W.nsIn K mainGlobals "is_filled"=some (some (.ref cJ)))
   (oE:K.lookup cJ=some ⟨oc_is_filled,od_is_filled,.func (PySem.W.fnOf "is_filled" "is_filled" (ax bW) (aw bW) (aa bW) .none B8 z9 AV Ae sV Bw),zO⟩)
   (oB:PySem.W.codeIn K sV "is_filled"=true)
   (og:PySem.W.keepIn K (.ref cJ)=true)
   (nL:PySem.W.nsIn K mainGlobals "laying_of"=some (some (.ref cF)))
   (nY:K.lookup cF=some ⟨oc_laying_of,od_laying_of,.func (PySem.W.fnOf "laying_of" "laying_of" (ax bM) (aw bM) (aa bM) .none Aj B0 Cb zR rn Ar),AE⟩)
   (n6:PySem.W.codeIn K rn "laying_of"=true)
   (oS:PySem.W.keepIn K (.ref cF)=true)
   (Ej:PySem.W.nsIn K mainGlobals "put"=some (some (.ref pY)))
   (Es:K.lookup pY=some ⟨oc_put,od_put,.func (PySem.W.fnOf "put" "put" (ax eN) (aw eN) (aa eN) .none Mp L8 Mg LZ F3 L4),LI⟩)
   (Ei:PySem.W.codeIn K F3 "put"=true)
   (DP:PySem.W.keepIn K (.ref pY)=true)
   (Bz:PySem.W.nsIn K mainGlobals "pile"=some (some (.ref my)))
   (BW:K.lookup my=some ⟨oc_pile,od_pile,.func (PySem.W.fnOf "pile" "pile" (ax fF) (aw fF) (aa fF) .none Lf KS Lb KG Dl Ld),KA⟩)
   (zV:PySem.W.codeIn K Dl "pile"=true)
   (Bp:PySem.W.keepIn K (.ref my)=true)
   (qg:PySem.W.findIn K (.ref cQ) "put"=some (some (.ref f_Desk_put)))
   (qH:PySem.W.isFn K (.ref f_Desk_put)=true)
   (qu:K.lookup f_Desk_put=some ⟨oc_Desk_put,od_Desk_put,.func (PySem.W.fnOf "put" "Desk.put" (ax b4) (aw b4) (aa b4) .none Ct Cw CP CN ua Cz),Cr⟩)
   (qt:PySem.W.codeIn K ua "Desk.put"=true)
   (lL:PySem.W.keepIn K (.ref f_Desk_put)=true)
   (Ce:PySem.W.nsIn K mainGlobals "toll"=some (some (.ref lY)))
   (AW:K.lookup lY=some ⟨oc_toll,od_toll,.func (PySem.W.fnOf "toll" "toll" (ax di) (aw di) (aa di) .none KO K0 KP KL Ds Ky),Kx⟩)
   (zT:PySem.W.codeIn K Ds "toll"=true)
   (Br:PySem.W.keepIn K (.ref lY)=true)
   (xD:PySem.W.nsIn K mainGlobals "taken"=some (some (.ref fM)))
   (wB:K.lookup fM=some ⟨oc_taken,od_taken,.func (PySem.W.fnOf "taken" "taken" (ax d0) (aw d0) (aa d0) .none IP JL G5 IA zU GM),Hg⟩)
   (xy:PySem.W.codeIn K zU "taken"=true)
   (wT:PySem.W.keepIn K (.ref fM)=true)
   (uI:PySem.W.nsIn K mainGlobals "behind"=some (some (.ref iq)))
   (vb:K.lookup iq=some ⟨oc_behind,od_behind,.func (PySem.W.fnOf "behind" "behind" (ax cA) (aw cA) (aa cA) .none Fs Gb Fz Gg xQ Fr),E2⟩)
   (uM:PySem.W.codeIn K xQ "behind"=true)
   (uJ:PySem.W.keepIn K (.ref iq)=true)
   (l8:PySem.W.nsIn K mainGlobals "neighbours"=some (some (.ref dU)))
   (md:K.lookup dU=some ⟨oc_neighbours,od_neighbours,.func (PySem.W.fnOf "neighbours" "neighbours" (ax bI) (aw bI) (aa bI) .none y7 zf yQ zb qO yS),yK⟩)
   (mO:PySem.W.codeIn K qO "neighbours"=true)
   (mW:PySem.W.keepIn K (.ref dU)=true)
   (si:PySem.W.nsIn K mainGlobals "is_step"=some (some (.ref gJ)))
   (sM:K.lookup gJ=some ⟨oc_is_step,od_is_step,.func (PySem.W.fnOf "is_step" "is_step" (ax cV) (aw cV) (aa cV) .none EL Eg EJ DU vD DN),DH⟩)
   (rp:PySem.W.codeIn K vD "is_step"=true)
   (rO:PySem.W.keepIn K (.ref gJ)=true)
   (lc:PySem.W.nsIn K mainGlobals "can_be_done"=some (some (.ref dy)))
   (k9:K.lookup dy=some ⟨oc_can_be_done,od_can_be_done,.func (PySem.W.fnOf "can_be_done" "can_be_done" (ax bp) (aw bp) (aa bp) .none wP xI wM xO pG xp),wN⟩)
   (lw:PySem.W.codeIn K pG "can_be_done"=true)
   (kN:PySem.W.keepIn K (.ref dy)=true)
   (sE:PySem.W.nsIn K mainGlobals "layings"=some (some (.ref gr)))
   (sW:K.lookup gr=some ⟨oc_layings,od_layings,.func (PySem.W.fnOf "layings" "layings" (ax bu) (aw bu) (aa bu) .none Ec Ep EK DY wq DE),Dz⟩)
   (sY:PySem.W.codeIn K wq "layings"=true)
   (sT:PySem.W.keepIn K (.ref gr)=true)
   (uF:PySem.W.nsIn K mainGlobals "walked"=some (some (.ref iC)))
   (uD:K.lookup iC=some ⟨oc_walked,od_walked,.func (PySem.W.fnOf "walked" "walked" (ax dq) (aw dq) (aa dq) .none FR F8 Fo F2 xR FP),FX⟩)
   (va:PySem.W.codeIn K xR "walked"=true)
   (uT:PySem.W.keepIn K (.ref iC)=true)
   (nS:PySem.W.findIn K (.ref cQ) "step"=some (some (.ref f_Desk_step)))
   (oY:PySem.W.isFn K (.ref f_Desk_step)=true)
   (oq:K.lookup f_Desk_step=some ⟨oc_Desk_step,od_Desk_step,.func (PySem.W.fnOf "step" "Desk.step" (ax cf) (aw cf) (aa cf) .none A5 Aa BP Ad r9 AK),AM⟩)
   (nF:PySem.W.codeIn K r9 "Desk.step"=true)
   (kf:PySem.W.keepIn K (.ref f_Desk_step)=true)
   (sX:PySem.W.nsIn K mainGlobals "wish_of"=some (some (.ref gl)))
   (rD:K.lookup gl=some ⟨oc_wish_of,od_wish_of,.func (PySem.W.fnOf "wish_of" "wish_of" (ax cB) (aw cB) (aa cB) .none Ez EH Ee Ey vz DK),DV⟩)
   (rR:PySem.W.codeIn K vz "wish_of"=true)
   (sJ:PySem.W.keepIn K (.ref gl)=true)
   (oX:PySem.W.findIn K (.ref cQ) "want"=some (some (.ref f_Desk_want)))
   (nZ:PySem.W.isFn K (.ref f_Desk_want)=true)
   (oh:K.lookup f_Desk_want=some ⟨oc_Desk_want,od_Desk_want,.func (PySem.W.fnOf "want" "Desk.want" (ax bN) (aw bN) (aa bN) .none B3 A0 Cf Bn sA BN),BL⟩)
   (nU:PySem.W.codeIn K sA "Desk.want"=true)
   (ke:PySem.W.keepIn K (.ref f_Desk_want)=true)
   (uZ:PySem.W.nsIn K mainGlobals "_law_do"=some (some (.ref ir)))
   (uP:K.lookup ir=some ⟨oc_law_do,od_law_do,.func (PySem.W.fnOf "_law_do" "_law_do" (ax dR) (aw dR) (aa dR) .none FL FF Fp F0 ya Fw),F1⟩)
   (uB:PySem.W.codeIn K ya "_law_do"=true)
   (u7:PySem.W.keepIn K (.ref ir)=true)
   (qL:PySem.W.nsIn K mainGlobals "_law_cell"=some (some (.ref fm)))
   (qm:K.lookup fm=some ⟨oc_law_cell,od_law_cell,.func (PySem.W.fnOf "_law_cell" "_law_cell" (ax cK) (aw cK) (aa cK) .none CT C4 CF CY ub Ck),CS⟩)
   (qo:PySem.W.codeIn K ub "_law_cell"=true)
   (qv:PySem.W.keepIn K (.ref fm)=true)
   (sP:PySem.W.nsIn K mainGlobals "_law_row"=some (some (.ref gg)))
   (rY:K.lookup gg=some ⟨oc_law_row,od_law_row,.func (PySem.W.fnOf "_law_row" "_law_row" (ax bP) (aw bP) (aa bP) .none Er DD DX EC vF Dy),EG⟩)
   (rX:PySem.W.codeIn K vF "_law_row"=true)
   (rJ:PySem.W.keepIn K (.ref gg)=true)
   (ou:PySem.W.nsIn K mainGlobals "_law_roads"=some (some (.ref eD)))
   (oA:K.lookup eD=some ⟨oc_law_roads,od_law_roads,.func (PySem.W.fnOf "_law_roads" "_law_roads" (ax aB) (aw aB) (aa aB) .none zZ BC A9 Bq sS Cd),AY⟩)
   (ow:PySem.W.codeIn K sS "_law_roads"=true)
   (nX:PySem.W.keepIn K (.ref eD)=true)
   (oH:PySem.W.nsIn K mainGlobals "_law_whole"=some (some (.ref cI)))
   (nK:K.lookup cI=some ⟨oc_law_whole,od_law_whole,.func (PySem.W.fnOf "_law_whole" "_law_whole" (ax bZ) (aw bZ) (aa bZ) .none Bm Be B9 B6 rq Ax),Au⟩)
   (oz:PySem.W.codeIn K rq "_law_whole"=true)
   (oN:PySem.W.keepIn K (.ref cI)=true)
   (pP:PySem.W.nsIn K mainGlobals "_law_same"=some (some (.ref fv)))
   (qz:K.lookup fv=some ⟨oc_law_same,od_law_same,.func (PySem.W.fnOf "_law_same" "_law_same" (ax bA) (aw bA) (aa bA) .none CV Cm CC CL uc Cp),CU⟩)
   (pT:PySem.W.codeIn K uc "_law_same"=true)
   (pW:PySem.W.keepIn K (.ref fv)=true)
   (mL:PySem.W.nsIn K mainGlobals "_law_stands"=some (some (.ref dS)))
   (mK:K.lookup dS=some ⟨oc_law_stands,od_law_stands,.func (PySem.W.fnOf "_law_stands" "_law_stands" (ax bF) (aw bF) (aa bF) .none yC zr zt y4 qP za),yz⟩)
   (me:PySem.W.codeIn K qP "_law_stands"=true)
   (mS:PySem.W.keepIn K (.ref dS)=true)
   (zv:PySem.W.nsIn K mainGlobals "law"=some (some (.ref Ew)))
   (Ef:K.lookup Ew=some ⟨oc_law,od_law,.func (PySem.W.fnOf "law" "law" (ax b3) (aw b3) (aa b3) .none FY FN FS Gj BT F9),MF⟩)
   (D0:PySem.W.codeIn K BT "law"=true)
   (DT:PySem.W.keepIn K (.ref Ew)=true)
   (BH:PySem.W.plainGet K ju Str.empty=true)
   (zK:PySem.W.hasDictIn K ju=true)
   (zG:PySem.W.plainOver K ju=true)
   (Ca:PySem.W.findIn K (.ref ju) "__setattr__"=some (some (.builtin "object.__setattr__")))
   (AH:PySem.W.makesIn K ju=true)
   (AA:PySem.W.keepIn K (.ref ju)=true)
   (n_many_Web:PySem.W.findIn K (.ref ju) "many"=some none)
   (n_roads_Web:PySem.W.findIn K (.ref ju) "roads"=some none)
   (wC:PySem.W.plainGet K cQ Str.empty=true)
   (xx:PySem.W.hasDictIn K cQ=true)
   (xM:PySem.W.plainOver K cQ=true)
   (wY:PySem.W.findIn K (.ref cQ) "__setattr__"=some (some (.builtin "object.__setattr__")))
   (wF:PySem.W.makesIn K cQ=true)
   (xJ:PySem.W.keepIn K (.ref cQ)=true)
   (n_web_Desk:PySem.W.findIn K (.ref cQ) "web"=some none)
   (n_past_Desk:PySem.W.findIn K (.ref cQ) "past"=some none)
   (z_range:PySem.W.nsIn K mainGlobals "range"=some none)
   (z_zip:PySem.W.nsIn K mainGlobals "zip"=some none)
   (z_len:PySem.W.nsIn K mainGlobals "len"=some none)
   (z_isinstance:PySem.W.nsIn K mainGlobals "isinstance"=some none)
   (z_all:PySem.W.nsIn K mainGlobals "all"=some none)
   (z_int:PySem.W.nsIn K mainGlobals "int"=some none)
   (z_bool:PySem.W.nsIn K mainGlobals "bool"=some none)
   (z_tuple:PySem.W.nsIn K mainGlobals "tuple"=some none)
   (z_list:PySem.W.nsIn K mainGlobals "list"=some none)
   (z_sorted:PySem.W.nsIn K mainGlobals "sorted"=some none)
   (z_min:PySem.W.nsIn K mainGlobals "min"=some none)
   (z_enumerate:PySem.W.nsIn K mainGlobals "enumerate"=some none)
   (z_str:PySem.W.nsIn K mainGlobals "str"=some none)
   (v_MOST_PLACES:PySem.W.nsIn K mainGlobals "MOST_PLACES"=some (some (.int 24 t_MOST_PLACES)))
   (v_LEAST_TOLL:PySem.W.nsIn K mainGlobals "LEAST_TOLL"=some (some (.int 2 t_LEAST_TOLL)))
   (v_MOST_TOLL:PySem.W.nsIn K mainGlobals "MOST_TOLL"=some (some (.int 1000000 t_MOST_TOLL))) :
   ∃ fd:FuncData,(∀ (s:Shared) (v:Value),BindsTo s fd ⟨[v],[]⟩ [("script",v)])/\∀ base:Heap,K.In base->base.Ns mainGlobals mg->FnOk l.prog w K mg base (CXe l.prog w) 11 fa fd ["script"] (zx K):=by
 have e:=hfa.symm.trans (PySem.W.mg_of X G zv);cases e
 let T:Txt K mg:=⟨AI,PySem.W.mg_of X G sf,ng,PySem.W.mg_of X G pS,qh,PySem.W.mg_of X G tE,kc,PySem.W.mg_of X G mq,m6,PySem.W.mg_of X G qC,B4,PySem.W.mg_of X G su,xT,PySem.W.mg_of X G pO,ju,PySem.W.mg_of X G A8,cQ,PySem.W.mg_of X G wR,tG _ _ _ _ _ _ _ _ _ _ _ _ _ _ _ _ qr qA qB pM qj,tG _ _ _ _ _ _ _ _ _ _ _ _ _ _ _ _ rG rP tj rN rC,tG _ _ _ _ _ _ _ _ _ _ _ _ _ _ _ _ mr mI mQ l6 l7,tG _ _ _ _ _ _ _ _ _ _ _ _ _ _ _ _ qw qc pN qG qD,PySem.W.mg_none_of X G z_range,PySem.W.mg_none_of X G z_zip,PySem.W.mg_none_of X G z_len,PySem.W.mg_none_of X G z_isinstance,PySem.W.mg_none_of X G z_all,PySem.W.mg_none_of X G z_int,PySem.W.mg_none_of X G z_bool,PySem.W.mg_none_of X G z_tuple,PySem.W.mg_none_of X G z_list,PySem.W.mg_none_of X G z_sorted,PySem.W.mg_none_of X G z_min,PySem.W.mg_none_of X G z_enumerate,PySem.W.mg_none_of X G z_str,⟨_,PySem.W.mg_of X G v_MOST_PLACES⟩,⟨_,PySem.W.mg_of X G v_LEAST_TOLL⟩,⟨_,PySem.W.mg_of X G v_MOST_TOLL⟩,⟨BH,zK,zG,Ca⟩,n_many_Web,n_roads_Web,⟨wC,xx,xM,wY⟩,n_web_Desk,n_past_Desk⟩
 have F_check_counts:=aK (st:=aZ) j4 j6 jU;have b_check_counts:=F_check_counts.binds (ps:=["many","roads"]) fun _ _ _ _ _ _ us hl=>by obtain ⟨u0,u1,rfl⟩:=us2 hl;rfl
 have dI:Df K mg "check_counts" aZ ["many","roads"] c9 _:=⟨F_check_counts,PySem.W.mg_of X G j9,b_check_counts⟩;have F_is_place:=aK (st:=cw) qp pK qe;have b_is_place:=F_is_place.binds (ps:=["many","number"]) fun _ _ _ _ _ _ us hl=>by obtain ⟨u0,u1,rfl⟩:=us2 hl;rfl
 have aY:Df K mg "is_place" cw ["many","number"] cg _:=⟨F_is_place,PySem.W.mg_of X G qK,b_is_place⟩;have F_check_ends:=aK (st:=bT) mV mR mG;have b_check_ends:=F_check_ends.binds (ps:=["many","road"]) fun _ _ _ _ _ _ us hl=>by obtain ⟨u0,u1,rfl⟩:=us2 hl;rfl
 have eV:Df K mg "check_ends" bT ["many","road"] dP _:=⟨F_check_ends,PySem.W.mg_of X G mP,b_check_ends⟩;have F_other_ends:=aK (st:=bH) mz mj mD;have b_other_ends:=F_other_ends.binds (ps:=["roads","place"]) fun _ _ _ _ _ _ us hl=>by obtain ⟨u0,u1,rfl⟩:=us2 hl;rfl
 have b7:Df K mg "other_ends" bH ["roads","place"] cs _:=⟨F_other_ends,PySem.W.mg_of X G lU,b_other_ends⟩;have F_check_joined:=aK (st:=aL) j3 j0 j2;have b_check_joined:=F_check_joined.binds (ps:=["many","roads"]) fun _ _ _ _ _ _ us hl=>by obtain ⟨u0,u1,rfl⟩:=us2 hl;rfl
 have dH:Df K mg "check_joined" aL ["many","roads"] da _:=⟨F_check_joined,PySem.W.mg_of X G jL,b_check_joined⟩;have F_check_tolls:=aK (st:=bo) kU ld kO;have b_check_tolls:=F_check_tolls.binds (ps:=["road"]) fun _ _ _ _ _ _ us hl=>by obtain ⟨u0,rfl⟩:=us1 hl;rfl
 have d4:Df K mg "check_tolls" bo ["road"] dv _:=⟨F_check_tolls,PySem.W.mg_of X G k7,b_check_tolls⟩;have F_Web___init__:=aK (st:=aI) jV jW jP;have b_Web:=F_Web___init__.binds (ps:=["self","many","roads"]) fun _ _ _ _ _ _ us hl=>by obtain ⟨u0,u1,u2,rfl⟩:=us3 hl;rfl
 have F_law_tolls:=aK (st:=cr) oF oP oo;have b_law_tolls:=F_law_tolls.binds (ps:=["t"]) fun _ _ _ _ _ _ us hl=>by obtain ⟨u0,rfl⟩:=us1 hl;rfl
 have fJ:Df K mg "_law_tolls" cr ["t"] eC _:=⟨F_law_tolls,PySem.W.mg_of X G oj,b_law_tolls⟩;have F_Desk___init__:=aK (st:=ba) iX ja je;have b_Desk:=F_Desk___init__.binds (ps:=["self","web"]) fun _ _ _ _ _ _ us hl=>by obtain ⟨u0,u1,rfl⟩:=us2 hl;rfl
 have F_Desk_deeds:=aK (st:=ck) mC lX jl;have b_Desk_deeds:=F_Desk_deeds.binds (ps:=["self"]) fun _ _ _ _ _ _ us hl=>by obtain ⟨u0,rfl⟩:=us1 hl;rfl
 have F_Desk_back:=aK (st:=cD) oM nR ki;have b_Desk_back:=F_Desk_back.binds (ps:=["self"]) fun _ _ _ _ _ _ us hl=>by obtain ⟨u0,rfl⟩:=us1 hl;rfl
 have F_law_price:=aK (st:=bz) nD oV nQ;have b_law_price:=F_law_price.binds (ps:=["roads","a","b"]) fun _ _ _ _ _ _ us hl=>by obtain ⟨u0,u1,u2,rfl⟩:=us3 hl;rfl
 have fK:Df K mg "_law_price" bz ["roads","a","b"] eF _:=⟨F_law_price,PySem.W.mg_of X G oO,b_law_price⟩;have F_law_behind:=aK (st:=aP) mE mo mH;have b_law_behind:=F_law_behind.binds (ps:=["roads","held","wish","deed","numbers"]) fun _ _ _ _ _ _ us hl=>by obtain ⟨u0,u1,u2,u3,u4,rfl⟩:=us5 hl;rfl
 have eT:Df K mg "_law_behind" aP ["roads","held","wish","deed","numbers"] dJ _:=⟨F_law_behind,PySem.W.mg_of X G mJ,b_law_behind⟩;have F_law_deed:=aK (st:=bg) qF pL pU;have b_law_deed:=F_law_deed.binds (ps:=["cell","many","roads"]) fun _ _ _ _ _ _ us hl=>by obtain ⟨u0,u1,u2,rfl⟩:=us3 hl;rfl
 have gK:Df K mg "_law_deed" bg ["cell","many","roads"] ft _:=⟨F_law_deed,PySem.W.mg_of X G qy,b_law_deed⟩;have F_Desk_keep:=aK (st:=cc) oC om kg;have b_Desk_keep:=F_Desk_keep.binds (ps:=["self","laying","wish"]) fun _ _ _ _ _ _ us hl=>by obtain ⟨u0,u1,u2,rfl⟩:=us3 hl;rfl
 have F_Desk_laying:=aK (st:=bU) lm lf ie;have b_Desk_laying:=F_Desk_laying.binds (ps:=["self"]) fun _ _ _ _ _ _ us hl=>by obtain ⟨u0,rfl⟩:=us1 hl;rfl
 have F_Desk_wish:=aK (st:=cq) n8 n9 kd;have b_Desk_wish:=F_Desk_wish.binds (ps:=["self"]) fun _ _ _ _ _ _ us hl=>by obtain ⟨u0,rfl⟩:=us1 hl;rfl
 have F_check_place:=aK (st:=aX) kW ll kM;have b_check_place:=F_check_place.binds (ps:=["web","number"]) fun _ _ _ _ _ _ us hl=>by obtain ⟨u0,u1,rfl⟩:=us2 hl;rfl
 have ay:Df K mg "check_place" aX ["web","number"] aU _:=⟨F_check_place,PySem.W.mg_of X G kP,b_check_place⟩;have F_is_filled:=aK (st:=bW) oE oB og;have b_is_filled:=F_is_filled.binds (ps:=["web","numbers"]) fun _ _ _ _ _ _ us hl=>by obtain ⟨u0,u1,rfl⟩:=us2 hl;rfl
 have cm:Df K mg "is_filled" bW ["web","numbers"] cJ _:=⟨F_is_filled,PySem.W.mg_of X G nG,b_is_filled⟩;have F_laying_of:=aK (st:=bM) nY n6 oS;have b_laying_of:=F_laying_of.binds (ps:=["web","numbers"]) fun _ _ _ _ _ _ us hl=>by obtain ⟨u0,u1,rfl⟩:=us2 hl;rfl
 have bL:Df K mg "laying_of" bM ["web","numbers"] cF _:=⟨F_laying_of,PySem.W.mg_of X G nL,b_laying_of⟩;have F_put:=aK (st:=eN) Es Ei DP;have b_put:=F_put.binds (ps:=["web","laying","place","many"]) fun _ _ _ _ _ _ us hl=>by obtain ⟨u0,u1,u2,u3,rfl⟩:=us4 hl;rfl
 have tH:Df K mg "put" eN ["web","laying","place","many"] pY _:=⟨F_put,PySem.W.mg_of X G Ej,b_put⟩;have F_pile:=aK (st:=fF) BW zV Bp;have b_pile:=F_pile.binds (ps:=["web","place","many"]) fun _ _ _ _ _ _ us hl=>by obtain ⟨u0,u1,u2,rfl⟩:=us3 hl;rfl
 have pf:Df K mg "pile" fF ["web","place","many"] my _:=⟨F_pile,PySem.W.mg_of X G Bz,b_pile⟩;have F_Desk_put:=aK (st:=b4) qu qt lL;have b_Desk_put:=F_Desk_put.binds (ps:=["self","place","many"]) fun _ _ _ _ _ _ us hl=>by obtain ⟨u0,u1,u2,rfl⟩:=us3 hl;rfl
 have F_toll:=aK (st:=di) AW zT Br;have b_toll:=F_toll.binds (ps:=["web","a","b"]) fun _ _ _ _ _ _ us hl=>by obtain ⟨u0,u1,u2,rfl⟩:=us3 hl;rfl
 have pc:Df K mg "toll" di ["web","a","b"] lY _:=⟨F_toll,PySem.W.mg_of X G Ce,b_toll⟩;have F_taken:=aK (st:=d0) wB xy wT;have b_taken:=F_taken.binds (ps:=["web","step"]) fun _ _ _ _ _ _ us hl=>by obtain ⟨u0,u1,rfl⟩:=us2 hl;rfl
 have eY:Df K mg "taken" d0 ["web","step"] fM _:=⟨F_taken,PySem.W.mg_of X G xD,b_taken⟩;have F_behind:=aK (st:=cA) vb uM uJ;have b_behind:=F_behind.binds (ps:=["web","laying","step"]) fun _ _ _ _ _ _ us hl=>by obtain ⟨u0,u1,u2,rfl⟩:=us3 hl;rfl
 have j8:Df K mg "behind" cA ["web","laying","step"] iq _:=⟨F_behind,PySem.W.mg_of X G uI,b_behind⟩;have F_neighbours:=aK (st:=bI) md mO mW;have b_neighbours:=F_neighbours.binds (ps:=["web","a"]) fun _ _ _ _ _ _ us hl=>by obtain ⟨u0,u1,rfl⟩:=us2 hl;rfl
 have eR:Df K mg "neighbours" bI ["web","a"] dU _:=⟨F_neighbours,PySem.W.mg_of X G l8,b_neighbours⟩;have F_is_step:=aK (st:=cV) sM rp rO;have b_is_step:=F_is_step.binds (ps:=["web","step"]) fun _ _ _ _ _ _ us hl=>by obtain ⟨u0,u1,rfl⟩:=us2 hl;rfl
 have iR:Df K mg "is_step" cV ["web","step"] gJ _:=⟨F_is_step,PySem.W.mg_of X G si,b_is_step⟩;have F_can_be_done:=aK (st:=bp) k9 lw kN;have b_can_be_done:=F_can_be_done.binds (ps:=["web","laying","step"]) fun _ _ _ _ _ _ us hl=>by obtain ⟨u0,u1,u2,rfl⟩:=us3 hl;rfl
 have d3:Df K mg "can_be_done" bp ["web","laying","step"] dy _:=⟨F_can_be_done,PySem.W.mg_of X G lc,b_can_be_done⟩;have F_layings:=aK (st:=bu) sW sY sT;have b_layings:=F_layings.binds (ps:=["web","laying","steps"]) fun _ _ _ _ _ _ us hl=>by obtain ⟨u0,u1,u2,rfl⟩:=us3 hl;rfl
 have iI:Df K mg "layings" bu ["web","laying","steps"] gr _:=⟨F_layings,PySem.W.mg_of X G sE,b_layings⟩;have F_walked:=aK (st:=dq) uD va uT;have b_walked:=F_walked.binds (ps:=["web","laying","steps"]) fun _ _ _ _ _ _ us hl=>by obtain ⟨u0,u1,u2,rfl⟩:=us3 hl;rfl
 have jQ:Df K mg "walked" dq ["web","laying","steps"] iC _:=⟨F_walked,PySem.W.mg_of X G uF,b_walked⟩;have F_Desk_step:=aK (st:=cf) oq nF kf;have b_Desk_step:=F_Desk_step.binds (ps:=["self","a","b","times"]) fun _ _ _ _ _ _ us hl=>by obtain ⟨u0,u1,u2,u3,rfl⟩:=us4 hl;rfl
 have F_wish_of:=aK (st:=cB) rD rR sJ;have b_wish_of:=F_wish_of.binds (ps:=["web","numbers"]) fun _ _ _ _ _ _ us hl=>by obtain ⟨u0,u1,rfl⟩:=us2 hl;rfl
 have iG:Df K mg "wish_of" cB ["web","numbers"] gl _:=⟨F_wish_of,PySem.W.mg_of X G sX,b_wish_of⟩;have F_Desk_want:=aK (st:=bN) oh nU ke;have b_Desk_want:=F_Desk_want.binds (ps:=["self","place","many"]) fun _ _ _ _ _ _ us hl=>by obtain ⟨u0,u1,u2,rfl⟩:=us3 hl;rfl
 have F_law_do:=aK (st:=dR) uP uB u7;have b_law_do:=F_law_do.binds (ps:=["desk","deed","numbers"]) fun _ _ _ _ _ _ us hl=>by obtain ⟨u0,u1,u2,rfl⟩:=us3 hl;rfl
 have jM:Df K mg "_law_do" dR ["desk","deed","numbers"] ir _:=⟨F_law_do,PySem.W.mg_of X G uZ,b_law_do⟩;have F_law_cell:=aK (st:=cK) qm qo qv;have b_law_cell:=F_law_cell.binds (ps:=["script","k"]) fun _ _ _ _ _ _ us hl=>by obtain ⟨u0,u1,rfl⟩:=us2 hl;rfl
 have cz:Df K mg "_law_cell" cK ["script","k"] fm _:=⟨F_law_cell,PySem.W.mg_of X G qL,b_law_cell⟩;have F_law_row:=aK (st:=bP) rY rX rJ;have b_law_row:=F_law_row.binds (ps:=["cell","mode","many","base"]) fun _ _ _ _ _ _ us hl=>by obtain ⟨u0,u1,u2,u3,rfl⟩:=us4 hl;rfl
 have eu:Df K mg "_law_row" bP ["cell","mode","many","base"] gg _:=⟨F_law_row,PySem.W.mg_of X G sP,b_law_row⟩;have F_law_roads:=aK (st:=aB) oA ow nX;have b_law_roads:=F_law_roads.binds (ps:=["script"]) fun _ _ _ _ _ _ us hl=>by obtain ⟨u0,rfl⟩:=us1 hl;rfl
 have fH:Df K mg "_law_roads" aB ["script"] eD _:=⟨F_law_roads,PySem.W.mg_of X G ou,b_law_roads⟩;have F_law_whole:=aK (st:=bZ) nK oz oN;have b_law_whole:=F_law_whole.binds (ps:=["found"]) fun _ _ _ _ _ _ us hl=>by obtain ⟨u0,rfl⟩:=us1 hl;rfl
 have cp:Df K mg "_law_whole" bZ ["found"] cI _:=⟨F_law_whole,PySem.W.mg_of X G oH,b_law_whole⟩;have F_law_same:=aK (st:=bA) qz pT pW;have b_law_same:=F_law_same.binds (ps:=["found","due"]) fun _ _ _ _ _ _ us hl=>by obtain ⟨u0,u1,rfl⟩:=us2 hl;rfl
 have dB:Df K mg "_law_same" bA ["found","due"] fv _:=⟨F_law_same,PySem.W.mg_of X G pP,b_law_same⟩;have F_law_stands:=aK (st:=bF) mK me mS;have b_law_stands:=F_law_stands.binds (ps:=["desk","state","many"]) fun _ _ _ _ _ _ us hl=>by obtain ⟨u0,u1,u2,rfl⟩:=us3 hl;rfl
 have bS:Df K mg "_law_stands" bF ["desk","state","many"] dS _:=⟨F_law_stands,PySem.W.mg_of X G mL,b_law_stands⟩;have F_law:=aK (st:=b3) Ef D0 DT;have b_law:=F_law.binds (ps:=["script"]) fun _ _ _ _ _ _ us hl=>by obtain ⟨u0,rfl⟩:=us1 hl;rfl
 have MK:Df K mg "law" b3 ["script"] fa _:=⟨F_law,PySem.W.mg_of X G zv,b_law⟩;refine ⟨PySem.W.fnOf "law" "law" (ax b3) (aw b3) (aa b3) .none FY FN FS Gj BT F9,fun s v=>.of_eq rfl,fun base _ _=>?_⟩;have tK:Mk K T.Web f_Web___init__:=⟨AH,jY,j1,AA⟩;have vY:Mk K T.Desk f_Desk___init__:=⟨wF,jf,jo,xJ⟩;have dQ:Meth K T.Desk "deeds" f_Desk_deeds:=⟨lS,ml,jl⟩;have eB:Meth K T.Desk "back" f_Desk_back:=⟨oZ,nV,ki⟩;have df:Meth K T.Desk "keep" f_Desk_keep:=⟨oG,oI,kg⟩;have bD:Meth K T.Desk "laying" f_Desk_laying:=⟨lq,kT,ie⟩;have ce:Meth K T.Desk "wish" f_Desk_wish:=⟨oQ,nP,kd⟩;have pV:Meth K T.Desk "put" f_Desk_put:=⟨qg,qH,lL⟩;have oU:Meth K T.Desk "step" f_Desk_step:=⟨nS,oY,kf⟩;have nW:Meth K T.Desk "want" f_Desk_want:=⟨oX,nZ,ke⟩;have G_check_counts:=vt (P:=l.prog) (w:=w) (base:=base) T aJ dI;have G_is_place:=CK (P:=l.prog) (w:=w) (base:=base) T aJ aY;have G_check_ends:=y6 (P:=l.prog) (w:=w) (base:=base) T aJ eV aY G_is_place;have G_other_ends:=yM (P:=l.prog) (w:=w) (base:=base) T aJ b7;have G_check_joined:=we (P:=l.prog) (w:=w) (base:=base) T aJ dH b7 G_other_ends;have G_check_tolls:=wV (P:=l.prog) (w:=w) (base:=base) T aJ d4;have G_Web_init:=vI (P:=l.prog) (w:=w) (base:=base) T aJ F_Web___init__ dI G_check_counts eV G_check_ends dH G_check_joined d4 G_check_tolls;have G_law_tolls:=A4 (P:=l.prog) (w:=w) (base:=base) T aJ fJ;have G_Desk_init:=u9 (P:=l.prog) (w:=w) (base:=base) T aJ F_Desk___init__ F_Web___init__ b_Web tK G_Web_init;have G_Desk_deeds:=yY (P:=l.prog) (w:=w) (base:=base) T aJ F_Desk_deeds;have G_Desk_back:=AQ (P:=l.prog) (w:=w) (base:=base) T aJ F_Desk_back F_Desk_deeds b_Desk_deeds dQ G_Desk_deeds;have G_law_price:=Bx (P:=l.prog) (w:=w) (base:=base) T aJ fK;have G_law_behind:=zg (P:=l.prog) (w:=w) (base:=base) T aJ eT fK G_law_price;have G_law_deed:=Cv (P:=l.prog) (w:=w) (base:=base) T aJ gK;have G_Desk_keep:=zQ (P:=l.prog) (w:=w) (base:=base) T aJ F_Desk_keep;have G_Desk_laying:=wO (P:=l.prog) (w:=w) (base:=base) T aJ F_Desk_laying;have G_Desk_wish:=BK (P:=l.prog) (w:=w) (base:=base) T aJ F_Desk_wish;have G_check_place:=xk (P:=l.prog) (w:=w) (base:=base) T aJ ay aY G_is_place;have G_is_filled:=A7 (P:=l.prog) (w:=w) (base:=base) T aJ cm;have G_laying_of:=BS (P:=l.prog) (w:=w) (base:=base) T aJ bL cm G_is_filled;have G_put:=Lz (P:=l.prog) (w:=w) (base:=base) T aJ tH ay G_check_place bL G_laying_of;have G_pile:=La (P:=l.prog) (w:=w) (base:=base) T aJ pf tH G_put;have G_Desk_put:=C0 (P:=l.prog) (w:=w) (base:=base) T aJ F_Desk_put F_Desk_keep b_Desk_keep df G_Desk_keep F_Desk_laying b_Desk_laying bD G_Desk_laying F_Desk_wish b_Desk_wish ce G_Desk_wish pf G_pile;have G_toll:=K7 (P:=l.prog) (w:=w) (base:=base) T aJ pc ay G_check_place;have G_taken:=Hr (P:=l.prog) (w:=w) (base:=base) T aJ eY pc G_toll;have G_behind:=FU (P:=l.prog) (w:=w) (base:=base) T aJ j8 eY G_taken;have G_neighbours:=y8 (P:=l.prog) (w:=w) (base:=base) T aJ eR ay G_check_place b7 G_other_ends;have G_is_step:=Eu (P:=l.prog) (w:=w) (base:=base) T aJ iR aY G_is_place eR G_neighbours;have G_can_be_done:=wQ (P:=l.prog) (w:=w) (base:=base) T aJ d3 iR G_is_step eY G_taken;have G_layings:=D3 (P:=l.prog) (w:=w) (base:=base) T aJ iI j8 G_behind d3 G_can_be_done bL G_laying_of;have G_walked:=EZ (P:=l.prog) (w:=w) (base:=base) T aJ jQ iI G_layings;have G_Desk_step:=AG (P:=l.prog) (w:=w) (base:=base) T aJ F_Desk_step F_Desk_keep b_Desk_keep df G_Desk_keep F_Desk_laying b_Desk_laying bD G_Desk_laying F_Desk_wish b_Desk_wish ce G_Desk_wish jQ G_walked;have G_wish_of:=Ev (P:=l.prog) (w:=w) (base:=base) T aJ iG cm G_is_filled;have G_Desk_want:=BU (P:=l.prog) (w:=w) (base:=base) T aJ F_Desk_want F_Desk_keep b_Desk_keep df G_Desk_keep F_Desk_laying b_Desk_laying bD G_Desk_laying F_Desk_wish b_Desk_wish ce G_Desk_wish ay G_check_place iG G_wish_of;have G_law_do:=Gd (P:=l.prog) (w:=w) (base:=base) T aJ jM F_Desk_back b_Desk_back eB G_Desk_back F_Desk_put b_Desk_put pV G_Desk_put F_Desk_step b_Desk_step oU G_Desk_step F_Desk_want b_Desk_want nW G_Desk_want;have G_law_cell:=Co (P:=l.prog) (w:=w) (base:=base) T aJ cz;have G_law_row:=ER (P:=l.prog) (w:=w) (base:=base) T aJ eu;have G_law_roads:=BR (P:=l.prog) (w:=w) (base:=base) T aJ fH cz G_law_cell eu G_law_row fJ G_law_tolls;have G_law_whole:=Ah (P:=l.prog) (w:=w) (base:=base) T aJ cp;have G_law_same:=CO (P:=l.prog) (w:=w) (base:=base) T aJ dB cp G_law_whole;have G_law_stands:=yF (P:=l.prog) (w:=w) (base:=base) T aJ bS F_Desk_deeds b_Desk_deeds dQ G_Desk_deeds F_Desk_laying b_Desk_laying bD G_Desk_laying F_Desk_wish b_Desk_wish ce G_Desk_wish dB G_law_same cp G_law_whole;have G_law:=LR (P:=l.prog) (w:=w) (base:=base) T aJ MK F_Desk___init__ b_Desk vY G_Desk_init F_Desk_back b_Desk_back eB G_Desk_back F_Web___init__ b_Web tK G_Web_init eT G_law_behind gK G_law_deed jM G_law_do fH G_law_roads bS G_law_stands;exact G_law
theorem walk {l:PySem.W.OpenLaw} {q:Program} {loose:List Str} {XP:(Str->Option Value)->Heap->Prop} {YP:World->Heap->Prop} {d:DefRec} {K:Params->PySem.W.Frag} (hn:l.most=some 63) (hdf:d.params.defaults=[])
   (hY:∀ (w:World) (h:Heap),YP w h->(K w.params).In h)
   (F:∀ (w:World) (mg:Str->Option Value) (fa:Addr) (h:Heap),(K w.params).In h->h.Ns mainGlobals mg->mg d.name=some (.ref fa) ->
     ∃ fd:FuncData,(∀ (s:Shared) (u:Value),BindsTo s fd ⟨[u],[]⟩ [("script",u)])/\∀ base:Heap,(K w.params).In base->base.Ns mainGlobals mg->FnOk l.prog w (K w.params) mg base (CXe l.prog w) 11 fa fd ["script"] (zx (K w.params))) :
   PySem.W.WalkO q loose XP YP l.row.toRowW d [] (fun f vs=>PySem.call f vs) :=
 L2.walk_of (n:=63) (k:=11) (x:="script") (CX:=fun w=>(CXe l.prog w)) (sp:=fun w=>zx (K w.params)) hn (by decide) hdf ⟨rfl,by decide,by decide⟩ hY F (fun _ _ a ns hl _ hS=>⟨a,ns,rfl,hS,hl,fun _=>rfl⟩) fun _ _ _ _ _ z=>aJ _ _ _ _ _ z
end Pk
open PySem PySem.W PyProof.Rows
set_option maxRecDepth 100000 in
set_option maxHeartbeats 0 in
theorem PySem.Challenge.cw_pebbletoll_k61_desk_deeds_holds : PySem.Challenge.rw_pebbletoll_k61_desk_deeds.Holds := by
 w_on;o_law
 refine PySem.W.holds_open (q:=Hd.qq) (loose:=[]) (Xt:=(fun s=>PySem.W.xlAt Hd.qq [] s && PySem.W.recOk (PySem.W.RowW.records (PySem.W.OpenRow.toRowW (PySem.Challenge.rw_pebbletoll_k61_desk_deeds).row)) s)) (XP:=PySem.W.XL Hd.qq []) (Yf:=PySem.W.Hook.obs (PySem.W.kHook Hd.KK Hd.asK Hd.asK_eq)) (Ya:=PySem.W.Hook.val (PySem.W.kHook Hd.KK Hd.asK Hd.asK_eq)) (YP:=PySem.W.Hook.says (PySem.W.kHook Hd.KK Hd.asK Hd.asK_eq)) (N:=7290) Hd.left (PySem.W.Hook.of (PySem.W.kHook Hd.KK Hd.asK Hd.asK_eq)) (PySem.W.Hook.keeps (PySem.W.kHook Hd.KK Hd.asK Hd.asK_eq)) (fun s e=>PySem.W.xl_of s (Bool.and_eq_true_iff.mp e).1) PySem.W.XL.keeps (by rfl) (by rfl) (by rfl) (fun s e=>PySem.W.recFacts_of (Bool.and_eq_true_iff.mp e).2) (by rfl) (by assumption) (by decide +kernel) ⟨rfl,rfl,rfl,rfl,rfl,by decide +kernel⟩ ?hw ?hc
 (case hw=>w_witness2)
 k_fill
 refine Pk.walk (l:=PySem.Challenge.rw_pebbletoll_k61_desk_deeds) rfl rfl (fun w h Y=>PySem.W.kIn_of Y) ?F
 case F =>
   intro w mg fa h KX G hmg;refine' Pk.all_mk KX G hmg ?sf ?pS ?tE ?mq ?qC ?su ?pO ?A8 ?wR ?qr ?qA ?qB ?pM ?qj ?rG ?rP ?tj ?rN ?rC ?mr ?mI ?mQ ?l6 ?l7 ?qw ?qc ?pN ?qG ?qD ?j9 ?j4 ?j6 ?jU ?qK ?qp ?pK ?qe ?mP ?mV ?mR ?mG ?lU ?mz ?mj ?mD ?jL ?j3 ?j0 ?j2 ?k7 ?kU ?ld ?kO ?jY ?j1 ?jV ?jW ?jP ?oj ?oF ?oP ?oo ?jf ?jo ?iX ?ja ?je ?lS ?ml ?mC ?lX ?jl ?oZ ?nV ?oM ?nR ?ki ?oO ?nD ?oV ?nQ ?mJ ?mE ?mo ?mH ?qy ?qF ?pL ?pU ?oG ?oI ?oC ?om ?kg ?lq ?kT ?lm ?lf ?ie ?oQ ?nP ?n8 ?n9 ?kd ?kP ?kW ?ll ?kM ?nG ?oE ?oB ?og ?nL ?nY ?n6 ?oS ?Ej ?Es ?Ei ?DP ?Bz ?BW ?zV ?Bp ?qg ?qH ?qu ?qt ?lL ?Ce ?AW ?zT ?Br ?xD ?wB ?xy ?wT ?uI ?vb ?uM ?uJ ?l8 ?md ?mO ?mW ?si ?sM ?rp ?rO ?lc ?k9 ?lw ?kN ?sE ?sW ?sY ?sT ?uF ?uD ?va ?uT ?nS ?oY ?oq ?nF ?kf ?sX ?rD ?rR ?sJ ?oX ?nZ ?oh ?nU ?ke ?uZ ?uP ?uB ?u7 ?qL ?qm ?qo ?qv ?sP ?rY ?rX ?rJ ?ou ?oA ?ow ?nX ?oH ?nK ?oz ?oN ?pP ?qz ?pT ?pW ?mL ?mK ?me ?mS ?zv ?Ef ?D0 ?DT ?BH ?zK ?zG ?Ca ?AH ?AA ?n_many_Web ?n_roads_Web ?wC ?xx ?xM ?wY ?wF ?xJ ?n_web_Desk ?n_past_Desk ?z_range ?z_zip ?z_len ?z_isinstance ?z_all ?z_int ?z_bool ?z_tuple ?z_list ?z_sorted ?z_min ?z_enumerate ?z_str ?v_MOST_PLACES ?v_LEAST_TOLL ?v_MOST_TOLL
   (case sf=>k_is)
   (case pS=>k_is)
   (case tE=>k_is)
   (case mq=>k_is)
   (case qC=>k_is)
   (case su=>k_is)
   (case pO=>k_is)
   (case A8=>k_is)
   (case wR=>k_is)
   (case qr=>k_is)
   (case qA=>rfl)
   (case qB=>kernel_rfl)
   (case pM=>k_is)
   (case qj=>kernel_rfl)
   (case rG=>k_is)
   (case rP=>rfl)
   (case tj=>kernel_rfl)
   (case rN=>k_is)
   (case rC=>kernel_rfl)
   (case mr=>k_is)
   (case mI=>rfl)
   (case mQ=>kernel_rfl)
   (case l6=>k_is)
   (case l7=>kernel_rfl)
   (case qw=>k_is)
   (case qc=>rfl)
   (case pN=>kernel_rfl)
   (case qG=>k_is)
   (case qD=>kernel_rfl)
   (case j9=>k_is)
   (case j4=>k_is)
   (case j6=>k_is)
   (case jU=>k_is)
   (case qK=>k_is)
   (case qp=>k_is)
   (case pK=>k_is)
   (case qe=>k_is)
   (case mP=>k_is)
   (case mV=>k_is)
   (case mR=>k_is)
   (case mG=>k_is)
   (case lU=>k_is)
   (case mz=>k_is)
   (case mj=>k_is)
   (case mD=>k_is)
   (case jL=>k_is)
   (case j3=>k_is)
   (case j0=>k_is)
   (case j2=>k_is)
   (case k7=>k_is)
   (case kU=>k_is)
   (case ld=>k_is)
   (case kO=>k_is)
   (case jY=>k_is)
   (case j1=>k_is)
   (case jV=>k_is)
   (case jW=>k_is)
   (case jP=>k_is)
   (case oj=>k_is)
   (case oF=>k_is)
   (case oP=>k_is)
   (case oo=>k_is)
   (case jf=>k_is)
   (case jo=>k_is)
   (case iX=>k_is)
   (case ja=>k_is)
   (case je=>k_is)
   (case lS=>k_is)
   (case ml=>k_is)
   (case mC=>k_is)
   (case lX=>k_is)
   (case jl=>k_is)
   (case oZ=>k_is)
   (case nV=>k_is)
   (case oM=>k_is)
   (case nR=>k_is)
   (case ki=>k_is)
   (case oO=>k_is)
   (case nD=>k_is)
   (case oV=>k_is)
   (case nQ=>k_is)
   (case mJ=>k_is)
   (case mE=>k_is)
   (case mo=>k_is)
   (case mH=>k_is)
   (case qy=>k_is)
   (case qF=>k_is)
   (case pL=>k_is)
   (case pU=>k_is)
   (case oG=>k_is)
   (case oI=>k_is)
   (case oC=>k_is)
   (case om=>k_is)
   (case kg=>k_is)
   (case lq=>k_is)
   (case kT=>k_is)
   (case lm=>k_is)
   (case lf=>k_is)
   (case ie=>k_is)
   (case oQ=>k_is)
   (case nP=>k_is)
   (case n8=>k_is)
   (case n9=>k_is)
   (case kd=>k_is)
   (case kP=>k_is)
   (case kW=>k_is)
   (case ll=>k_is)
   (case kM=>k_is)
   (case nG=>k_is)
   (case oE=>k_is)
   (case oB=>k_is)
   (case og=>k_is)
   (case nL=>k_is)
   (case nY=>k_is)
   (case n6=>k_is)
   (case oS=>k_is)
   (case Ej=>k_is)
   (case Es=>k_is)
   (case Ei=>k_is)
   (case DP=>k_is)
   (case Bz=>k_is)
   (case BW=>k_is)
   (case zV=>k_is)
   (case Bp=>k_is)
   (case qg=>k_is)
   (case qH=>k_is)
   (case qu=>k_is)
   (case qt=>k_is)
   (case lL=>k_is)
   (case Ce=>k_is)
   (case AW=>k_is)
   (case zT=>k_is)
   (case Br=>k_is)
   (case xD=>k_is)
   (case wB=>k_is)
   (case xy=>k_is)
   (case wT=>k_is)
   (case uI=>k_is)
   (case vb=>k_is)
   (case uM=>k_is)
   (case uJ=>k_is)
   (case l8=>k_is)
   (case md=>k_is)
   (case mO=>k_is)
   (case mW=>k_is)
   (case si=>k_is)
   (case sM=>k_is)
   (case rp=>k_is)
   (case rO=>k_is)
   (case lc=>k_is)
   (case k9=>k_is)
   (case lw=>k_is)
   (case kN=>k_is)
   (case sE=>k_is)
   (case sW=>k_is)
   (case sY=>k_is)
   (case sT=>k_is)
   (case uF=>k_is)
   (case uD=>k_is)
   (case va=>k_is)
   (case uT=>k_is)
   (case nS=>k_is)
   (case oY=>k_is)
   (case oq=>k_is)
   (case nF=>k_is)
   (case kf=>k_is)
   (case sX=>k_is)
   (case rD=>k_is)
   (case rR=>k_is)
   (case sJ=>k_is)
   (case oX=>k_is)
   (case nZ=>k_is)
   (case oh=>k_is)
   (case nU=>k_is)
   (case ke=>k_is)
   (case uZ=>k_is)
   (case uP=>k_is)
   (case uB=>k_is)
   (case u7=>k_is)
   (case qL=>k_is)
   (case qm=>k_is)
   (case qo=>k_is)
   (case qv=>k_is)
   (case sP=>k_is)
   (case rY=>k_is)
   (case rX=>k_is)
   (case rJ=>k_is)
   (case ou=>k_is)
   (case oA=>k_is)
   (case ow=>k_is)
   (case nX=>k_is)
   (case oH=>k_is)
   (case nK=>k_is)
   (case oz=>k_is)
   (case oN=>k_is)
   (case pP=>k_is)
   (case qz=>k_is)
   (case pT=>k_is)
   (case pW=>k_is)
   (case mL=>k_is)
   (case mK=>k_is)
   (case me=>k_is)
   (case mS=>k_is)
   (case zv=>k_is)
   (case Ef=>k_is)
   (case D0=>k_is)
   (case DT=>k_is)
   (case BH=>k_is)
   (case zK=>k_is)
   (case zG=>k_is)
   (case Ca=>k_is)
   (case AH=>k_is)
   (case AA=>k_is)
   (case n_many_Web=>k_is)
   (case n_roads_Web=>k_is)
   (case wC=>k_is)
   (case xx=>k_is)
   (case xM=>k_is)
   (case wY=>k_is)
   (case wF=>k_is)
   (case xJ=>k_is)
   (case n_web_Desk=>k_is)
   (case n_past_Desk=>k_is)
   (case z_range=>k_is)
   (case z_zip=>k_is)
   (case z_len=>k_is)
   (case z_isinstance=>k_is)
   (case z_all=>k_is)
   (case z_int=>k_is)
   (case z_bool=>k_is)
   (case z_tuple=>k_is)
   (case z_list=>k_is)
   (case z_sorted=>k_is)
   (case z_min=>k_is)
   (case z_enumerate=>k_is)
   (case z_str=>k_is)
   (case v_MOST_PLACES=>k_is)
   (case v_LEAST_TOLL=>k_is)
   (case v_MOST_TOLL=>k_is)
#print axioms PySem.Challenge.cw_pebbletoll_k61_desk_deeds_holds
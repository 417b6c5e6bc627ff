import PyProof.Rows.All
import Wide.All
import OpenK.AllK
import Wide.FinOn
import Lean
import PyProof.EqAt
import PyProof.EqKinds
import PyProof.TupleCall
import PyProof.P3Eq
import PyProof.NeData
import PyProof.FitsBits
import PyProof.ZipIter
import PyProof.TupleIter
import KE.KRevIter
import PyProof.TupleOfGen
import PyProof.ListRange
import KE.KIsAll
import PyProof.ExcArgsOwn
import OpenK.KDescr
import PyProof.StationsW
import PyProof.ExcBaseAll.ValueError
import OpenK.KOwn
import PyProof.RulesAs
import PyProof.RulesDel
import PyProof.Rows.SortWalk
import PyProof.CompUse
import KE.KDictSum
import PyProof.WalkInts
import KE.KSortTup
import PyProof.Rows.TupDisplay
import KE.KIntText
import PyProof.JoinWalk
import PyProof.ExcInit
import PyProof.ExcClass2
import PySem.Challenge.RW_pebbletoll_k38_always_by_trying
set_option Elab.async false
set_option linter.all false
set_option maxRecDepth 100000
namespace Hd
open PySem
def top (i:Nat):Stmt:=PySem.Challenge.pw_pebbletoll_k38_always_by_trying.main.body.getD i (.Pass ⟨0,0,0,0⟩)
def inC (s:Stmt) (j:Nat):Stmt:=match s with
 | .ClassDef _ _ _ b _ _ _ _ _ _ _=>b.getD j (.Pass ⟨0,0,0,0⟩)
 | _=>.Pass ⟨0,0,0,0⟩
def kA (s:Stmt):Arguments:=match s with
 | .FunctionDef _ a _ _ _ _ _ _ _ _=>a
 | _=>{ posonlyargs:=[],args:=[],vararg:=none,kwonlyargs:=[],kw_defaults:=[],kwarg:=none,defaults:=[] }
def kB (s:Stmt):List Stmt:=match s with
 | .FunctionDef _ _ b _ _ _ _ _ _ _=>b
 | _=>[]
def kS (s:Stmt):Scope:=match s with
 | .FunctionDef _ _ _ _ _ _ sc _ _ _=>sc
 | _=>{ kind:=.function,names:=[],isGenerator:=false,isCoroutine:=false }
open PySem.W PySem.Calls PyProof.Rows
def en (P:Params) (s:Str) (t:Tok) (v:Value):DictEntry:=.mk (PyData.keyHash P s) (.str s t) v
def cO (a b:Str) (t1 t2 t3:Tok) (i1 i2 i3 i4 i5:Int) (r1:Value) (b1:Bool) (i6:Int) (r2 v1 v2 v3 r3:Value) (i7 i8:Int) (t4:Tok):Obj:=.mk (.type "code") none (.fields #[.str a t1,.str b t2,.str "/claim/cut.py" t3,.int i1 0,.int i2 0,.int i3 0,.int i4 0,.int i5 0,r1,.bool b1,.int i6 0,r2,v1,v2,v3,r3,.int i7 0,.int i8 0,.str "/claim/cut.py" t4]) #[]
def fR (a b:Str) (s:Stmt):Obj:=.mk .none none (.func (.mk a b (kA s) (.stmts (kB s)) (kS s) 0 [] .none .none .none .none none .none .none 0)) #[]
def fO (a b:Str) (s:Stmt) (pm cd:Value):Obj:=.mk (.type "function") none (.func (PySem.W.fnOf a b (kA s) (kB s) (kS s) .none .none .none pm none cd .none)) #[]
def tO (xs:Array Value):Obj:=.mk (.type "tuple") none (.seq xs 0) #[]
def x0:Obj:=(tO #[])
def x1:Obj:=(.mk .none none (.fields #[]) #[])
def x2:Obj:=(cO "<module>" "<module>" 182 183 184 1 0 0 0 0 (.ref 11) false 181 (.ref 12) .none .none .none .none 185 1 186)
def x3:Obj:=(.mk (.type "frame") none .plain #[(some (.ref 13)),(some (.ref 3)),(some (.ref 3)),none,(some (.str "__main__" 164)),none,(some (.ref 0))])
noncomputable def ha (P:Params):Heap:=.mk (.mk (boot_o_0 P::boot_o_1 P::boot_o_2 P::boot_o_3 P::boot_o_4 P::boot_o_5 P::boot_o_6 P::boot_o_7 P::boot_o_8 P::boot_o_9 P::boot_o_10 P::x0::x1::x2::x3::[])) (.mk [] [] [] 0 [] [] false #[] [] 0 false false false 0 [2000,10,10] false 0 true [] [] 0 false)
noncomputable def hb (P:Params):Heap:=.mk (.mk (boot_o_0 P::boot_o_1 P::boot_o_2 P::boot_o_3 P::boot_o_4 P::boot_o_5 P::boot_o_6 P::boot_o_7 P::boot_o_8 P::boot_o_9 P::boot_o_10 P::x0::x1::x2::x3::[])) (.mk [] [] [] 0 [] [] false #[] [] 0 false false false 0 [2000,10,10] false 0 true [] [] 0 false)
abbrev st0:List Stmt:=[top 0,top 1,top 2,top 3,top 4,top 5,top 6,top 7,top 8,top 9,top 10,top 11,top 12,top 13,top 14,top 15,top 16,top 17,top 18,top 19,top 20,top 21,top 22,top 23,top 24,top 25,top 26,top 27,top 28,top 29]
abbrev st1:List Stmt:=[top 30,top 31,top 32,top 33,top 34,top 35,top 36,top 37,top 38,top 39,top 40,top 41,top 42,top 43,top 44,top 45,top 46,top 47,top 48,top 49,top 50,top 51,top 52,top 53]
abbrev bb:List Stmt:=st0++(st1++([]))
def env:Env:={ scope:=PySem.Challenge.pw_pebbletoll_k38_always_by_trying.main.scope,locals:=mainNs,globals:=mainNs,cells:=[],code:=(.ref 13),frame:=some 14 }
abbrev cE:Code:=.body bb env
theorem Rh (w:World) (os:OsState):topGo treeTable PySem.Challenge.pw_pebbletoll_k38_always_by_trying w 11 (some (.ref 6)) 12 (Shared.mk (boot_heap w.params) (.mk []) boot_drawn boot_toks os) (topStub PySem.Challenge.pw_pebbletoll_k38_always_by_trying)=some ((Shared.mk (ha w.params) (.mk []) (.mk 0 0 0 0) 187 os),Thread.mk (denote treeTable cE) cE (.mk 0 0 0 0) [topFrame (.mk 0 0 0 0)]):=by kernel_rfl
theorem Rj (w:World) (os:OsState):segRun treeTable PySem.Challenge.pw_pebbletoll_k38_always_by_trying w 11 (some (.ref 6)) 1 1 (Shared.mk (ha w.params) (.mk []) (.mk 0 0 0 0) 187 os) (blockOf bb env cE (.mk 0 0 0 0) [topFrame (.mk 0 0 0 0)])=some (.next,(Shared.mk (hb w.params) (.mk []) (.mk 0 0 0 0) 187 os),cE,(.mk 0 0 0 0)):=by kernel_rfl
def x4 (P:Params):Obj:=(.mk (.type "dict") none (.dict #[(en P "__name__" 165 (.str "pebbletoll.wishes" 461)),(en P "__doc__" 166 .none),(en P "__package__" 167 .none),(en P "__loader__" 168 (.builtin "__main__.__loader__#opaque")),(en P "__spec__" 169 .none),(en P "__annotations__" 170 (.ref 6)),(en P "__builtins__" 171 (.ref 4)),(en P "__file__" 173 (.str "/claim/cut.py" 172)),(en P "__cached__" 174 .none),(en P "TollError" 206 (.ref 24)),(en P "BadWeb" 222 (.ref 37)),(en P "NoPlace" 238 (.ref 49)),(en P "NoRoad" 254 (.ref 61)),(en P "BadWish" 270 (.ref 73)),(en P "NoWorst" 286 (.ref 85)),(en P "MOST_PLACES" 290 (.int 24 289)),(en P "LEAST_TOLL" 292 (.int 2 291)),(en P "MOST_TOLL" 294 (.int 1000000 293)),(en P "Web" 322 (.ref 102)),(en P "toll" 335 (.ref 113)),(en P "neighbours" 343 (.ref 120)),(en P "check_place" 351 (.ref 127)),(en P "is_place" 359 (.ref 134)),(en P "check_counts" 367 (.ref 141)),(en P "check_ends" 375 (.ref 148)),(en P "check_tolls" 383 (.ref 155)),(en P "check_joined" 395 (.ref 162)),(en P "other_ends" 405 (.ref 169)),(en P "is_filled" 413 (.ref 174)),(en P "total" 420 (.ref 181)),(en P "ahead" 435 (.ref 188)),(en P "down" 448 (.ref 195)),(en P "kids" 454 (.ref 200)),(en P "inward" 460 (.ref 205))] 34) #[])
def x5:Obj:=(.mk .none none (.fields #[(.int 2 0),(.int 0 0),(.ref 20),(.int 4 0),(.int 0 0),(.ref 33),(.int 6 0),(.int 0 0),(.ref 45),(.int 8 0),(.int 0 0),(.ref 57),(.int 10 0),(.int 0 0),(.ref 69),(.int 12 0),(.int 0 0),(.ref 81),(.int 18 0),(.int 0 0),(.ref 93),(.int 29 0),(.int 0 0),(.ref 112),(.int 38 0),(.int 0 0),(.ref 119),(.int 41 0),(.int 0 0),(.ref 126),(.int 44 0),(.int 0 0),(.ref 133),(.int 46 0),(.int 0 0),(.ref 140),(.int 51 0),(.int 0 0),(.ref 147),(.int 56 0),(.int 0 0),(.ref 154),(.int 60 0),(.int 0 0),(.ref 161),(.int 71 0),(.int 0 0),(.ref 168),(.int 80 0),(.int 0 0),(.ref 173),(.int 82 0),(.int 0 0),(.ref 180),(.int 85 0),(.int 0 0),(.ref 187),(.int 96 0),(.int 0 0),(.ref 194),(.int 106 0),(.int 0 0),(.ref 199),(.int 108 0),(.int 0 0),(.ref 204)]) #[])
def x6:Obj:=(tO #[(.type "ValueError")])
def x7:Obj:=(.mk (.type "builtin_function_or_method") none (.fields #[(.builtin "type.__prepare__"),(.type "type")]) #[])
def x8 (P:Params):Obj:=(.mk (.type "dict") none (.dict #[(en P "__module__" 196 (.str "pebbletoll.errors" 187)),(en P "__qualname__" 198 (.str "TollError" 197)),(en P "__firstlineno__" 200 (.int 2 199)),(en P "__static_attributes__" 201 (.ref 22))] 4) #[])
def x9:Obj:=(cO "TollError" "TollError" 191 192 193 2 0 0 0 0 (.ref 18) false 181 (.ref 19) .none .none .none .none 194 2 195)
def x10:Obj:=(.mk (.type "frame") none .plain #[(some (.ref 20)),(some (.ref 3)),(some (.ref 17)),none,(some (.str "pebbletoll.errors" 187)),none,(some (.ref 0))])
def x11 (P:Params):Obj:=(.mk (.type "dict") none (.dict #[(en P "__module__" 196 (.str "pebbletoll.errors" 187)),(en P "__firstlineno__" 200 (.int 2 199)),(en P "__static_attributes__" 201 (.ref 22)),(en P "__weakref__" 203 (.ref 25)),(en P "__doc__" 204 .none)] 3) #[])
def x12:Obj:=(.mk (.type "type") none (.cls (.mk "TollError" [(.type "ValueError")] [(.ref 24),(.type "ValueError"),(.type "Exception"),(.type "BaseException"),(.type "object")] 23 "TollError" true [] [(.ref 37),(.ref 49),(.ref 61),(.ref 73),(.ref 85)] false none false)) #[(some (.ref 15)),none,(some (.str "TollError" 189)),(some (.str "TollError" 197)),(some (.builtin "ValueError.__new__")),(some (.bool true))])
def x13:Obj:=(.mk (.type "getset_descriptor") none (.fields #[(.str "__weakref__" 202),(.ref 24),(.builtin "ExceptionGroup.__weakref__"),.none]) #[])
def x14:Obj:=(.mk (.type "super") none (.fields #[(.ref 24),(.ref 24),(.ref 24)]) #[])
def x15:Obj:=(.mk (.type "builtin_function_or_method") none (.fields #[(.builtin "object.__init_subclass__"),(.ref 24)]) #[])
def x16:Obj:=(tO #[(.ref 24)])
def x17 (P:Params):Obj:=(.mk (.type "dict") none (.dict #[(en P "__module__" 214 (.str "pebbletoll.errors" 187)),(en P "__qualname__" 216 (.str "BadWeb" 215)),(en P "__firstlineno__" 218 (.int 4 217)),(en P "__static_attributes__" 219 (.ref 35))] 4) #[])
def x18:Obj:=(cO "BadWeb" "BadWeb" 209 210 211 4 0 0 0 0 (.ref 31) false 181 (.ref 32) .none .none .none .none 212 4 213)
def x19:Obj:=(.mk (.type "frame") none .plain #[(some (.ref 33)),(some (.ref 3)),(some (.ref 30)),none,(some (.str "pebbletoll.errors" 187)),none,(some (.ref 0))])
def x20 (P:Params):Obj:=(.mk (.type "dict") none (.dict #[(en P "__module__" 214 (.str "pebbletoll.errors" 187)),(en P "__firstlineno__" 218 (.int 4 217)),(en P "__static_attributes__" 219 (.ref 35)),(en P "__doc__" 220 .none)] 2) #[])
def x21:Obj:=(.mk (.type "type") none (.cls (.mk "BadWeb" [(.ref 24)] [(.ref 37),(.ref 24),(.type "ValueError"),(.type "Exception"),(.type "BaseException"),(.type "object")] 36 "BadWeb" true [] [] false none false)) #[(some (.ref 28)),none,(some (.str "BadWeb" 207)),(some (.str "BadWeb" 215)),(some (.builtin "ValueError.__new__")),(some (.bool true))])
def x22:Obj:=(.mk (.type "super") none (.fields #[(.ref 37),(.ref 37),(.ref 37)]) #[])
def x23:Obj:=(.mk (.type "builtin_function_or_method") none (.fields #[(.builtin "object.__init_subclass__"),(.ref 37)]) #[])
def x24 (P:Params):Obj:=(.mk (.type "dict") none (.dict #[(en P "__module__" 230 (.str "pebbletoll.errors" 187)),(en P "__qualname__" 232 (.str "NoPlace" 231)),(en P "__firstlineno__" 234 (.int 6 233)),(en P "__static_attributes__" 235 (.ref 47))] 4) #[])
def x25:Obj:=(cO "NoPlace" "NoPlace" 225 226 227 6 0 0 0 0 (.ref 43) false 181 (.ref 44) .none .none .none .none 228 6 229)
def x26:Obj:=(.mk (.type "frame") none .plain #[(some (.ref 45)),(some (.ref 3)),(some (.ref 42)),none,(some (.str "pebbletoll.errors" 187)),none,(some (.ref 0))])
def x27 (P:Params):Obj:=(.mk (.type "dict") none (.dict #[(en P "__module__" 230 (.str "pebbletoll.errors" 187)),(en P "__firstlineno__" 234 (.int 6 233)),(en P "__static_attributes__" 235 (.ref 47)),(en P "__doc__" 236 .none)] 2) #[])
def x28:Obj:=(.mk (.type "type") none (.cls (.mk "NoPlace" [(.ref 24)] [(.ref 49),(.ref 24),(.type "ValueError"),(.type "Exception"),(.type "BaseException"),(.type "object")] 48 "NoPlace" true [] [] false none false)) #[(some (.ref 40)),none,(some (.str "NoPlace" 223)),(some (.str "NoPlace" 231)),(some (.builtin "ValueError.__new__")),(some (.bool true))])
def x29:Obj:=(.mk (.type "super") none (.fields #[(.ref 49),(.ref 49),(.ref 49)]) #[])
def x30:Obj:=(.mk (.type "builtin_function_or_method") none (.fields #[(.builtin "object.__init_subclass__"),(.ref 49)]) #[])
def x31 (P:Params):Obj:=(.mk (.type "dict") none (.dict #[(en P "__module__" 246 (.str "pebbletoll.errors" 187)),(en P "__qualname__" 248 (.str "NoRoad" 247)),(en P "__firstlineno__" 250 (.int 8 249)),(en P "__static_attributes__" 251 (.ref 59))] 4) #[])
def x32:Obj:=(cO "NoRoad" "NoRoad" 241 242 243 8 0 0 0 0 (.ref 55) false 181 (.ref 56) .none .none .none .none 244 8 245)
def x33:Obj:=(.mk (.type "frame") none .plain #[(some (.ref 57)),(some (.ref 3)),(some (.ref 54)),none,(some (.str "pebbletoll.errors" 187)),none,(some (.ref 0))])
def x34 (P:Params):Obj:=(.mk (.type "dict") none (.dict #[(en P "__module__" 246 (.str "pebbletoll.errors" 187)),(en P "__firstlineno__" 250 (.int 8 249)),(en P "__static_attributes__" 251 (.ref 59)),(en P "__doc__" 252 .none)] 2) #[])
def x35:Obj:=(.mk (.type "type") none (.cls (.mk "NoRoad" [(.ref 24)] [(.ref 61),(.ref 24),(.type "ValueError"),(.type "Exception"),(.type "BaseException"),(.type "object")] 60 "NoRoad" true [] [] false none false)) #[(some (.ref 52)),none,(some (.str "NoRoad" 239)),(some (.str "NoRoad" 247)),(some (.builtin "ValueError.__new__")),(some (.bool true))])
def x36:Obj:=(.mk (.type "super") none (.fields #[(.ref 61),(.ref 61),(.ref 61)]) #[])
def x37:Obj:=(.mk (.type "builtin_function_or_method") none (.fields #[(.builtin "object.__init_subclass__"),(.ref 61)]) #[])
def x38 (P:Params):Obj:=(.mk (.type "dict") none (.dict #[(en P "__module__" 262 (.str "pebbletoll.errors" 187)),(en P "__qualname__" 264 (.str "BadWish" 263)),(en P "__firstlineno__" 266 (.int 10 265)),(en P "__static_attributes__" 267 (.ref 71))] 4) #[])
def x39:Obj:=(cO "BadWish" "BadWish" 257 258 259 10 0 0 0 0 (.ref 67) false 181 (.ref 68) .none .none .none .none 260 10 261)
def x40:Obj:=(.mk (.type "frame") none .plain #[(some (.ref 69)),(some (.ref 3)),(some (.ref 66)),none,(some (.str "pebbletoll.errors" 187)),none,(some (.ref 0))])
def x41 (P:Params):Obj:=(.mk (.type "dict") none (.dict #[(en P "__module__" 262 (.str "pebbletoll.errors" 187)),(en P "__firstlineno__" 266 (.int 10 265)),(en P "__static_attributes__" 267 (.ref 71)),(en P "__doc__" 268 .none)] 2) #[])
def x42:Obj:=(.mk (.type "type") none (.cls (.mk "BadWish" [(.ref 24)] [(.ref 73),(.ref 24),(.type "ValueError"),(.type "Exception"),(.type "BaseException"),(.type "object")] 72 "BadWish" true [] [] false none false)) #[(some (.ref 64)),none,(some (.str "BadWish" 255)),(some (.str "BadWish" 263)),(some (.builtin "ValueError.__new__")),(some (.bool true))])
def x43:Obj:=(.mk (.type "super") none (.fields #[(.ref 73),(.ref 73),(.ref 73)]) #[])
def x44:Obj:=(.mk (.type "builtin_function_or_method") none (.fields #[(.builtin "object.__init_subclass__"),(.ref 73)]) #[])
def x45 (P:Params):Obj:=(.mk (.type "dict") none (.dict #[(en P "__module__" 278 (.str "pebbletoll.errors" 187)),(en P "__qualname__" 280 (.str "NoWorst" 279)),(en P "__firstlineno__" 282 (.int 12 281)),(en P "__static_attributes__" 283 (.ref 83))] 4) #[])
def x46:Obj:=(cO "NoWorst" "NoWorst" 273 274 275 12 0 0 0 0 (.ref 79) false 181 (.ref 80) .none .none .none .none 276 12 277)
def x47:Obj:=(.mk (.type "frame") none .plain #[(some (.ref 81)),(some (.ref 3)),(some (.ref 78)),none,(some (.str "pebbletoll.errors" 187)),none,(some (.ref 0))])
def x48 (P:Params):Obj:=(.mk (.type "dict") none (.dict #[(en P "__module__" 278 (.str "pebbletoll.errors" 187)),(en P "__firstlineno__" 282 (.int 12 281)),(en P "__static_attributes__" 283 (.ref 83)),(en P "__doc__" 284 .none)] 2) #[])
def x49:Obj:=(.mk (.type "type") none (.cls (.mk "NoWorst" [(.ref 24)] [(.ref 85),(.ref 24),(.type "ValueError"),(.type "Exception"),(.type "BaseException"),(.type "object")] 84 "NoWorst" true [] [] false none false)) #[(some (.ref 76)),none,(some (.str "NoWorst" 271)),(some (.str "NoWorst" 279)),(some (.builtin "ValueError.__new__")),(some (.bool true))])
def x50:Obj:=(.mk (.type "super") none (.fields #[(.ref 85),(.ref 85),(.ref 85)]) #[])
def x51:Obj:=(.mk (.type "builtin_function_or_method") none (.fields #[(.builtin "object.__init_subclass__"),(.ref 85)]) #[])
def x52 (P:Params):Obj:=(.mk (.type "dict") none (.dict #[(en P "__module__" 302 (.str "pebbletoll.webs" 287)),(en P "__qualname__" 304 (.str "Web" 303)),(en P "__firstlineno__" 306 (.int 18 305)),(en P "__init__" 312 (.ref 99)),(en P "__static_attributes__" 315 (.ref 100))] 5) #[])
def x53:Obj:=(.mk .none none (.fields #[(.int 20 0),(.int 4 0),(.ref 98)]) #[])
def x54:Obj:=(cO "Web" "Web" 297 298 299 18 0 0 0 0 (.ref 91) false 181 (.ref 92) .none .none .none .none 300 18 301)
def x55:Obj:=(.mk (.type "frame") none .plain #[(some (.ref 93)),(some (.ref 3)),(some (.ref 90)),none,(some (.str "pebbletoll.webs" 287)),none,(some (.ref 0))])
def x56:Obj:=(fR "__init__" "Web.__init__" (inC (top 11) 0))
def x57:Obj:=(cO "__init__" "Web.__init__" 307 308 309 20 3 0 0 3 (.ref 95) true 181 (.ref 96) .none .none .none (.ref 97) 310 20 311)
def x58:Obj:=(fO "__init__" "Web.__init__" (inC (top 11) 0) (.str "pebbletoll.webs" 287) (.ref 98))
def x59:Obj:=(tO #[(.str "many" 313),(.str "roads" 314)])
def x60 (P:Params):Obj:=(.mk (.type "dict") none (.dict #[(en P "__module__" 302 (.str "pebbletoll.webs" 287)),(en P "__firstlineno__" 306 (.int 18 305)),(en P "__init__" 312 (.ref 99)),(en P "__static_attributes__" 315 (.ref 100)),(en P "__dict__" 317 (.ref 103)),(en P "__weakref__" 319 (.ref 104)),(en P "__doc__" 320 .none)] 4) #[])
def x61:Obj:=(.mk (.type "type") none (.cls (.mk "Web" [(.type "object")] [(.ref 102),(.type "object")] 101 "Web" true [] [] false none false)) #[none,none,(some (.str "Web" 295)),(some (.str "Web" 303)),(some (.builtin "object.__new__")),(some (.bool true))])
def x62:Obj:=(.mk (.type "getset_descriptor") none (.fields #[(.str "__dict__" 316),(.ref 102),(.builtin "function.__dict__"),(.builtin "function.__dict__#set")]) #[])
def x63:Obj:=(.mk (.type "getset_descriptor") none (.fields #[(.str "__weakref__" 318),(.ref 102),(.builtin "ExceptionGroup.__weakref__"),.none]) #[])
def x64:Obj:=(.mk (.type "super") none (.fields #[(.ref 102),(.ref 102),(.ref 102)]) #[])
def x65:Obj:=(.mk (.type "builtin_function_or_method") none (.fields #[(.builtin "object.__init_subclass__"),(.ref 102)]) #[])
def x66:Obj:=(tO #[(.str "web" 326),(.str "a" 327),(.str "b" 328),(.str "one" 329),(.str "other" 330),(.str "there" 331),(.str "back" 332)])
def x67:Obj:=(fR "toll" "toll" (top 12))
def x68:Obj:=(cO "toll" "toll" 323 324 325 29 3 0 0 3 (.ref 107) true 181 (.ref 108) .none (.ref 109) (.ref 110) (.ref 111) 333 29 334)
def x69:Obj:=(fO "toll" "toll" (top 12) (.str "pebbletoll.webs" 287) (.ref 112))
def x70:Obj:=(tO #[(.str "web" 339),(.str "a" 340)])
def x71:Obj:=(fR "neighbours" "neighbours" (top 13))
def x72:Obj:=(cO "neighbours" "neighbours" 336 337 338 38 2 0 0 3 (.ref 114) true 181 (.ref 115) .none (.ref 116) (.ref 117) (.ref 118) 341 38 342)
def x73:Obj:=(fO "neighbours" "neighbours" (top 13) (.str "pebbletoll.webs" 287) (.ref 119))
def x74:Obj:=(tO #[(.str "web" 347),(.str "number" 348)])
def x75:Obj:=(fR "check_place" "check_place" (top 14))
def x76:Obj:=(cO "check_place" "check_place" 344 345 346 41 2 0 0 3 (.ref 121) true 181 (.ref 122) .none (.ref 123) (.ref 124) (.ref 125) 349 41 350)
def x77:Obj:=(fO "check_place" "check_place" (top 14) (.str "pebbletoll.webs" 287) (.ref 126))
def x78:Obj:=(tO #[(.str "many" 355),(.str "number" 356)])
def x79:Obj:=(fR "is_place" "is_place" (top 15))
def x80:Obj:=(cO "is_place" "is_place" 352 353 354 44 2 0 0 3 (.ref 128) true 181 (.ref 129) .none (.ref 130) (.ref 131) (.ref 132) 357 44 358)
def x81:Obj:=(fO "is_place" "is_place" (top 15) (.str "pebbletoll.webs" 287) (.ref 133))
def x82:Obj:=(tO #[(.str "many" 363),(.str "roads" 364)])
def x83:Obj:=(fR "check_counts" "check_counts" (top 16))
def x84:Obj:=(cO "check_counts" "check_counts" 360 361 362 46 2 0 0 3 (.ref 135) true 181 (.ref 136) .none (.ref 137) (.ref 138) (.ref 139) 365 46 366)
def x85:Obj:=(fO "check_counts" "check_counts" (top 16) (.str "pebbletoll.webs" 287) (.ref 140))
def x86:Obj:=(tO #[(.str "many" 371),(.str "road" 372)])
def x87:Obj:=(fR "check_ends" "check_ends" (top 17))
def x88:Obj:=(cO "check_ends" "check_ends" 368 369 370 51 2 0 0 3 (.ref 142) true 181 (.ref 143) .none (.ref 144) (.ref 145) (.ref 146) 373 51 374)
def x89:Obj:=(fO "check_ends" "check_ends" (top 17) (.str "pebbletoll.webs" 287) (.ref 147))
def x90:Obj:=(tO #[(.str "road" 379),(.str "number" 380)])
def x91:Obj:=(fR "check_tolls" "check_tolls" (top 18))
def x92:Obj:=(cO "check_tolls" "check_tolls" 376 377 378 56 1 0 0 3 (.ref 149) true 181 (.ref 150) .none (.ref 151) (.ref 152) (.ref 153) 381 56 382)
def x93:Obj:=(fO "check_tolls" "check_tolls" (top 18) (.str "pebbletoll.webs" 287) (.ref 154))
def x94:Obj:=(tO #[(.str "many" 387),(.str "roads" 388),(.str "reached" 389),(.str "waiting" 390),(.str "place" 391),(.str "end" 392)])
def x95:Obj:=(fR "check_joined" "check_joined" (top 19))
def x96:Obj:=(cO "check_joined" "check_joined" 384 385 386 60 2 0 0 3 (.ref 156) true 181 (.ref 157) .none (.ref 158) (.ref 159) (.ref 160) 393 60 394)
def x97:Obj:=(fO "check_joined" "check_joined" (top 19) (.str "pebbletoll.webs" 287) (.ref 161))
def x98:Obj:=(tO #[(.str "roads" 399),(.str "place" 400),(.str "ends" 401),(.str "road" 402)])
def x99:Obj:=(fR "other_ends" "other_ends" (top 20))
def Jo:Obj:=(cO "other_ends" "other_ends" 396 397 398 71 2 0 0 3 (.ref 163) true 181 (.ref 164) .none (.ref 165) (.ref 166) (.ref 167) 403 71 404)
def Ht:Obj:=(fO "other_ends" "other_ends" (top 20) (.str "pebbletoll.webs" 287) (.ref 168))
def Lb:Obj:=(fR "is_filled" "is_filled" (top 22))
def IT:Obj:=(cO "is_filled" "is_filled" 408 409 410 80 2 0 0 3 (.ref 170) true 181 (.ref 171) .none .none .none (.ref 172) 411 80 412)
def Iz:Obj:=(fO "is_filled" "is_filled" (top 22) (.str "pebbletoll.layings" 406) (.ref 173))
def IR:Obj:=(tO #[(.str "numbers" 417)])
def Nq:Obj:=(fR "total" "total" (top 23))
def HU:Obj:=(cO "total" "total" 414 415 416 82 1 0 0 3 (.ref 175) true 181 (.ref 176) .none (.ref 177) (.ref 178) (.ref 179) 418 82 419)
def HQ:Obj:=(fO "total" "total" (top 23) (.str "pebbletoll.layings" 406) (.ref 180))
def IE:Obj:=(tO #[(.str "web" 426),(.str "r" 427),(.str "nearer" 428),(.str "waiting" 429),(.str "place" 430),(.str "front" 431),(.str "kid" 432)])
def My:Obj:=(fR "ahead" "ahead" (top 25))
def Ij:Obj:=(cO "ahead" "ahead" 423 424 425 85 2 0 0 3 (.ref 182) true 181 (.ref 183) .none (.ref 184) (.ref 185) (.ref 186) 433 85 434)
def IV:Obj:=(fO "ahead" "ahead" (top 25) (.str "pebbletoll.ways" 421) (.ref 187))
def HK:Obj:=(tO #[(.str "web" 439),(.str "r" 440),(.str "nearer" 441),(.str "places" 442),(.str "waiting" 443),(.str "place" 444),(.str "kid" 445)])
def ND:Obj:=(fR "down" "down" (top 26))
def HV:Obj:=(cO "down" "down" 436 437 438 96 2 0 0 3 (.ref 189) true 181 (.ref 190) .none (.ref 191) (.ref 192) (.ref 193) 446 96 447)
def Ho:Obj:=(fO "down" "down" (top 26) (.str "pebbletoll.ways" 421) (.ref 194))
def Lh:Obj:=(fR "kids" "kids" (top 27))
def Ir:Obj:=(cO "kids" "kids" 449 450 451 106 3 0 0 3 (.ref 196) true 181 (.ref 197) .none .none .none (.ref 198) 452 106 453)
def Ig:Obj:=(fO "kids" "kids" (top 27) (.str "pebbletoll.ways" 421) (.ref 199))
def M6:Obj:=(fR "inward" "inward" (top 28))
def IW:Obj:=(cO "inward" "inward" 455 456 457 108 2 0 0 3 (.ref 201) true 181 (.ref 202) .none .none .none (.ref 203) 458 108 459)
def IA:Obj:=(fO "inward" "inward" (top 28) (.str "pebbletoll.ways" 421) (.ref 204))
noncomputable def h0 (P:Params):Heap:=.mk (.mk (boot_o_0 P::boot_o_1 P::boot_o_2 P::x4 P::boot_o_4 P::boot_o_5 P::boot_o_6 P::boot_o_7 P::boot_o_8 P::boot_o_9 P::boot_o_10 P::x0::x5::x2::x3::x6::x7::x8 P::x0::x1::x9::x10::x0::x11 P::x12::x13::x14::x15::x16::x7::x17 P::x0::x1::x18::x19::x0::x20 P::x21::x22::x23::x16::x7::x24 P::x0::x1::x25::x26::x0::x27 P::x28::x29::x30::x16::x7::x31 P::x0::x1::x32::x33::x0::x34 P::x35::x36::x37::x16::x7::x38 P::x0::x1::x39::x40::x0::x41 P::x42::x43::x44::x16::x7::x45 P::x0::x1::x46::x47::x0::x48 P::x49::x50::x51::x0::x7::x52 P::x0::x53::x54::x55::x0::x1::x56::x57::x58::x59::x60 P::x61::x62::x63::x64::x65::x0::x1::x66::x0::x67::x68::x69::x0::x1::x70::x0::x71::x72::x73::x0::x1::x74::x0::x75::x76::x77::x0::x1::x78::x0::x79::x80::x81::x0::x1::x82::x0::x83::x84::x85::x0::x1::x86::x0::x87::x88::x89::x0::x1::x90::x0::x91::x92::x93::x0::x1::x94::x0::x95::x96::x97::x0::x1::x98::x0::x99::Jo::Ht::x0::x1::Lb::IT::Iz::x0::x1::IR::x0::Nq::HU::HQ::x0::x1::IE::x0::My::Ij::IV::x0::x1::HK::x0::ND::HV::Ho::x0::x1::Lh::Ir::Ig::x0::x1::M6::IW::IA::[])) (.mk [] [] [] 0 [] [] false #[] [] 0 false false false 0 [2000,10,10] false 0 true [] [] 0 false)
theorem Rl (w:World) (os:OsState):segRun treeTable PySem.Challenge.pw_pebbletoll_k38_always_by_trying w 11 (some (.ref 6)) 1 2001 (Shared.mk (hb w.params) (.mk []) (.mk 0 0 0 0) 187 os) (piecesOf st0 env cE (.mk 0 0 0 0) [topFrame (.mk 0 0 0 0)])=some (.next,(Shared.mk (h0 w.params) (.mk []) (.mk 0 0 0 0) 463 os),cE,(.mk 111 0 111 8)):=by kernel_rfl
def LA (P:Params):Obj:=(.mk (.type "dict") none (.dict #[(en P "__name__" 165 (.str "law_pebbletoll_k38_always_by_trying" 597)),(en P "__doc__" 166 .none),(en P "__package__" 167 .none),(en P "__loader__" 168 (.builtin "__main__.__loader__#opaque")),(en P "__spec__" 169 .none),(en P "__annotations__" 170 (.ref 6)),(en P "__builtins__" 171 (.ref 4)),(en P "__file__" 173 (.str "/claim/cut.py" 172)),(en P "__cached__" 174 .none),(en P "TollError" 206 (.ref 24)),(en P "BadWeb" 222 (.ref 37)),(en P "NoPlace" 238 (.ref 49)),(en P "NoRoad" 254 (.ref 61)),(en P "BadWish" 270 (.ref 73)),(en P "NoWorst" 286 (.ref 85)),(en P "MOST_PLACES" 290 (.int 24 289)),(en P "LEAST_TOLL" 292 (.int 2 291)),(en P "MOST_TOLL" 294 (.int 1000000 293)),(en P "Web" 322 (.ref 102)),(en P "toll" 335 (.ref 113)),(en P "neighbours" 343 (.ref 120)),(en P "check_place" 351 (.ref 127)),(en P "is_place" 359 (.ref 134)),(en P "check_counts" 367 (.ref 141)),(en P "check_ends" 375 (.ref 148)),(en P "check_tolls" 383 (.ref 155)),(en P "check_joined" 395 (.ref 162)),(en P "other_ends" 405 (.ref 169)),(en P "is_filled" 413 (.ref 174)),(en P "total" 420 (.ref 181)),(en P "ahead" 435 (.ref 188)),(en P "down" 448 (.ref 195)),(en P "kids" 454 (.ref 200)),(en P "inward" 460 (.ref 205)),(en P "wish_of" 470 (.ref 212)),(en P "needs" 484 (.ref 219)),(en P "always" 492 (.ref 226)),(en P "fails" 498 (.ref 231)),(en P "is_idle" 506 (.ref 238)),(en P "failing" 515 (.ref 245)),(en P "Outlook" 545 (.ref 260)),(en P "idle_load" 554 (.ref 271)),(en P "idle_kids" 565 (.ref 278)),(en P "added" 571 (.ref 283)),(en P "greatest_load" 584 (.ref 290)),(en P "load_by" 596 (.ref 297)),(en P "_law_drawn" 609 (.ref 304)),(en P "_law_whole" 616 (.ref 311)),(en P "_law_tolls" 628 (.ref 318)),(en P "_law_down" 642 (.ref 325)),(en P "_law_standings" 648 (.ref 330)),(en P "_law_small_web" 662 (.ref 337)),(en P "_law_small_wish" 673 (.ref 344)),(en P "_law_layings" 679 (.ref 349)),(en P "_law_all_meet" 690 (.ref 356)),(en P "law" 704 (.ref 363))] 56) #[])
def QN:Obj:=(.mk .none none (.fields #[(.int 2 0),(.int 0 0),(.ref 20),(.int 4 0),(.int 0 0),(.ref 33),(.int 6 0),(.int 0 0),(.ref 45),(.int 8 0),(.int 0 0),(.ref 57),(.int 10 0),(.int 0 0),(.ref 69),(.int 12 0),(.int 0 0),(.ref 81),(.int 18 0),(.int 0 0),(.ref 93),(.int 29 0),(.int 0 0),(.ref 112),(.int 38 0),(.int 0 0),(.ref 119),(.int 41 0),(.int 0 0),(.ref 126),(.int 44 0),(.int 0 0),(.ref 133),(.int 46 0),(.int 0 0),(.ref 140),(.int 51 0),(.int 0 0),(.ref 147),(.int 56 0),(.int 0 0),(.ref 154),(.int 60 0),(.int 0 0),(.ref 161),(.int 71 0),(.int 0 0),(.ref 168),(.int 80 0),(.int 0 0),(.ref 173),(.int 82 0),(.int 0 0),(.ref 180),(.int 85 0),(.int 0 0),(.ref 187),(.int 96 0),(.int 0 0),(.ref 194),(.int 106 0),(.int 0 0),(.ref 199),(.int 108 0),(.int 0 0),(.ref 204),(.int 112 0),(.int 0 0),(.ref 211),(.int 117 0),(.int 0 0),(.ref 218),(.int 122 0),(.int 0 0),(.ref 225),(.int 126 0),(.int 0 0),(.ref 230),(.int 131 0),(.int 0 0),(.ref 237),(.int 133 0),(.int 0 0),(.ref 244),(.int 135 0),(.int 0 0),(.ref 251),(.int 144 0),(.int 0 0),(.ref 270),(.int 148 0),(.int 0 0),(.ref 277),(.int 154 0),(.int 0 0),(.ref 282),(.int 156 0),(.int 0 0),(.ref 289),(.int 165 0),(.int 0 0),(.ref 296),(.int 170 0),(.int 0 0),(.ref 303),(.int 179 0),(.int 0 0),(.ref 310),(.int 181 0),(.int 0 0),(.ref 317),(.int 187 0),(.int 0 0),(.ref 324),(.int 197 0),(.int 0 0),(.ref 329),(.int 205 0),(.int 0 0),(.ref 336),(.int 215 0),(.int 0 0),(.ref 343),(.int 221 0),(.int 0 0),(.ref 348),(.int 228 0),(.int 0 0),(.ref 355),(.int 233 0),(.int 0 0),(.ref 362)]) #[])
def Oh:Obj:=(tO #[(.str "web" 466),(.str "numbers" 467)])
def P7:Obj:=(fR "wish_of" "wish_of" (top 30))
def MD:Obj:=(cO "wish_of" "wish_of" 463 464 465 112 2 0 0 3 (.ref 206) true 181 (.ref 207) .none (.ref 208) (.ref 209) (.ref 210) 468 112 469)
def M5:Obj:=(fO "wish_of" "wish_of" (top 30) (.str "pebbletoll.wishes" 461) (.ref 211))
def MH:Obj:=(tO #[(.str "web" 476),(.str "wish" 477),(.str "r" 478),(.str "found" 479),(.str "place" 480),(.str "front" 481)])
def PM:Obj:=(fR "needs" "needs" (top 32))
def MY:Obj:=(cO "needs" "needs" 473 474 475 117 3 0 0 3 (.ref 213) true 181 (.ref 214) .none (.ref 215) (.ref 216) (.ref 217) 482 117 483)
def Mt:Obj:=(fO "needs" "needs" (top 32) (.str "pebbletoll.always" 471) (.ref 218))
def NR:Obj:=(tO #[(.str "web" 488),(.str "wish" 489)])
def Qu:Obj:=(fR "always" "always" (top 33))
def NP:Obj:=(cO "always" "always" 485 486 487 122 2 0 0 3 (.ref 220) true 181 (.ref 221) .none (.ref 222) (.ref 223) (.ref 224) 490 122 491)
def Lo:Obj:=(fO "always" "always" (top 33) (.str "pebbletoll.always" 471) (.ref 225))
def QU:Obj:=(fR "fails" "fails" (top 34))
def Mu:Obj:=(cO "fails" "fails" 493 494 495 126 2 0 0 3 (.ref 227) true 181 (.ref 228) .none .none .none (.ref 229) 496 126 497)
def Lk:Obj:=(fO "fails" "fails" (top 34) (.str "pebbletoll.always" 471) (.ref 230))
def Lp:Obj:=(tO #[(.str "web" 502),(.str "wish" 503)])
def PP:Obj:=(fR "is_idle" "is_idle" (top 35))
def LL:Obj:=(cO "is_idle" "is_idle" 499 500 501 131 2 0 0 3 (.ref 232) true 181 (.ref 233) .none (.ref 234) (.ref 235) (.ref 236) 504 131 505)
def Og:Obj:=(fO "is_idle" "is_idle" (top 35) (.str "pebbletoll.always" 471) (.ref 237))
def LJ:Obj:=(tO #[(.str "web" 510),(.str "wish" 511),(.str "r" 512)])
def QA:Obj:=(fR "failing" "failing" (top 36))
def Mv:Obj:=(cO "failing" "failing" 507 508 509 133 3 0 0 3 (.ref 239) true 181 (.ref 240) .none (.ref 241) (.ref 242) (.ref 243) 513 133 514)
def LQ:Obj:=(fO "failing" "failing" (top 36) (.str "pebbletoll.always" 471) (.ref 244))
def PZ (P:Params):Obj:=(.mk (.type "dict") none (.dict #[(en P "__module__" 523 (.str "pebbletoll.always" 471)),(en P "__qualname__" 525 (.str "Outlook" 524)),(en P "__firstlineno__" 527 (.int 135 526)),(en P "__init__" 533 (.ref 257)),(en P "__static_attributes__" 538 (.ref 258))] 5) #[])
def Qv:Obj:=(.mk .none none (.fields #[(.int 137 0),(.int 4 0),(.ref 256)]) #[])
def QO:Obj:=(cO "Outlook" "Outlook" 518 519 520 135 0 0 0 0 (.ref 249) false 181 (.ref 250) .none .none .none .none 521 135 522)
def Qy:Obj:=(.mk (.type "frame") none .plain #[(some (.ref 251)),(some (.ref 3)),(some (.ref 248)),none,(some (.str "pebbletoll.always" 471)),none,(some (.ref 0))])
def Qr:Obj:=(fR "__init__" "Outlook.__init__" (inC (top 37) 0))
def Lc:Obj:=(cO "__init__" "Outlook.__init__" 528 529 530 137 4 0 0 3 (.ref 253) true 181 (.ref 254) .none .none .none (.ref 255) 531 137 532)
def Ly:Obj:=(fO "__init__" "Outlook.__init__" (inC (top 37) 0) (.str "pebbletoll.always" 471) (.ref 256))
def ML:Obj:=(tO #[(.str "idle" 534),(.str "kids" 535),(.str "needs" 536),(.str "web" 537)])
def NG (P:Params):Obj:=(.mk (.type "dict") none (.dict #[(en P "__module__" 523 (.str "pebbletoll.always" 471)),(en P "__firstlineno__" 527 (.int 135 526)),(en P "__init__" 533 (.ref 257)),(en P "__static_attributes__" 538 (.ref 258)),(en P "__dict__" 540 (.ref 261)),(en P "__weakref__" 542 (.ref 262)),(en P "__doc__" 543 .none)] 4) #[])
def Lq:Obj:=(.mk (.type "type") none (.cls (.mk "Outlook" [(.type "object")] [(.ref 260),(.type "object")] 259 "Outlook" true [] [] false none false)) #[none,none,(some (.str "Outlook" 516)),(some (.str "Outlook" 524)),(some (.builtin "object.__new__")),(some (.bool true))])
def NQ:Obj:=(.mk (.type "getset_descriptor") none (.fields #[(.str "__dict__" 539),(.ref 260),(.builtin "function.__dict__"),(.builtin "function.__dict__#set")]) #[])
def L6:Obj:=(.mk (.type "getset_descriptor") none (.fields #[(.str "__weakref__" 541),(.ref 260),(.builtin "ExceptionGroup.__weakref__"),.none]) #[])
def QR:Obj:=(.mk (.type "super") none (.fields #[(.ref 260),(.ref 260),(.ref 260)]) #[])
def Qw:Obj:=(.mk (.type "builtin_function_or_method") none (.fields #[(.builtin "object.__init_subclass__"),(.ref 260)]) #[])
def LF:Obj:=(tO #[(.str "outlook" 549),(.str "place" 550),(.str "front" 551)])
def Qf:Obj:=(fR "idle_load" "idle_load" (top 38))
def Mz:Obj:=(cO "idle_load" "idle_load" 546 547 548 144 3 0 0 3 (.ref 265) true 181 (.ref 266) .none (.ref 267) (.ref 268) (.ref 269) 552 144 553)
def Mb:Obj:=(fO "idle_load" "idle_load" (top 38) (.str "pebbletoll.always" 471) (.ref 270))
def Oa:Obj:=(tO #[(.str "outlook" 558),(.str "place" 559),(.str "left_out" 560),(.str "load" 561),(.str "kid" 562)])
def PL:Obj:=(fR "idle_kids" "idle_kids" (top 39))
def Mc:Obj:=(cO "idle_kids" "idle_kids" 555 556 557 148 3 0 0 3 (.ref 272) true 181 (.ref 273) .none (.ref 274) (.ref 275) (.ref 276) 563 148 564)
def MB:Obj:=(fO "idle_kids" "idle_kids" (top 39) (.str "pebbletoll.always" 471) (.ref 277))
def QJ:Obj:=(fR "added" "added" (top 40))
def Nu:Obj:=(cO "added" "added" 566 567 568 154 2 0 0 3 (.ref 279) true 181 (.ref 280) .none .none .none (.ref 281) 569 154 570)
def Lx:Obj:=(fO "added" "added" (top 40) (.str "pebbletoll.always" 471) (.ref 282))
def NF:Obj:=(tO #[(.str "outlook" 575),(.str "place" 576),(.str "over" 577),(.str "room" 578),(.str "best" 579),(.str "kid" 580),(.str "load" 581)])
def QL:Obj:=(fR "greatest_load" "greatest_load" (top 41))
def Nv:Obj:=(cO "greatest_load" "greatest_load" 572 573 574 156 3 0 0 3 (.ref 284) true 181 (.ref 285) .none (.ref 286) (.ref 287) (.ref 288) 582 156 583)
def Lm:Obj:=(fO "greatest_load" "greatest_load" (top 41) (.str "pebbletoll.always" 471) (.ref 289))
def LI:Obj:=(tO #[(.str "outlook" 588),(.str "place" 589),(.str "kid" 590),(.str "room" 591),(.str "given" 592),(.str "over" 593)])
def PR:Obj:=(fR "load_by" "load_by" (top 42))
def ME:Obj:=(cO "load_by" "load_by" 585 586 587 165 4 0 0 3 (.ref 291) true 181 (.ref 292) .none (.ref 293) (.ref 294) (.ref 295) 594 165 595)
def No:Obj:=(fO "load_by" "load_by" (top 42) (.str "pebbletoll.always" 471) (.ref 296))
def Nn:Obj:=(tO #[(.str "script" 602),(.str "k" 603),(.str "cell" 604),(.str "near" 605),(.str "far" 606)])
def PK:Obj:=(fR "_law_drawn" "_law_drawn" (top 44))
def Nk:Obj:=(cO "_law_drawn" "_law_drawn" 599 600 601 170 2 0 0 3 (.ref 298) true 181 (.ref 299) .none (.ref 300) (.ref 301) (.ref 302) 607 170 608)
def Nd:Obj:=(fO "_law_drawn" "_law_drawn" (top 44) (.str "law_pebbletoll_k38_always_by_trying" 597) (.ref 303))
def NC:Obj:=(tO #[(.str "number" 613)])
def Qi:Obj:=(fR "_law_whole" "_law_whole" (top 45))
def Mq:Obj:=(cO "_law_whole" "_law_whole" 610 611 612 179 1 0 0 3 (.ref 305) true 181 (.ref 306) .none (.ref 307) (.ref 308) (.ref 309) 614 179 615)
def Me:Obj:=(fO "_law_whole" "_law_whole" (top 45) (.str "law_pebbletoll_k38_always_by_trying" 597) (.ref 310))
def L7:Obj:=(tO #[(.str "roads" 620),(.str "tolls" 621),(.str "one" 622),(.str "other" 623),(.str "there" 624),(.str "back" 625)])
def Qa:Obj:=(fR "_law_tolls" "_law_tolls" (top 46))
def MO:Obj:=(cO "_law_tolls" "_law_tolls" 617 618 619 181 1 0 0 3 (.ref 312) true 181 (.ref 313) .none (.ref 314) (.ref 315) (.ref 316) 626 181 627)
def K6:Obj:=(fO "_law_tolls" "_law_tolls" (top 46) (.str "law_pebbletoll_k38_always_by_trying" 597) (.ref 317))
def Na:Obj:=(tO #[(.str "tolls" 632),(.str "many" 633),(.str "r" 634),(.str "order" 635),(.str "at" 636),(.str "place" 637),(.str "above" 638),(.str "kid" 639)])
def PQ:Obj:=(fR "_law_down" "_law_down" (top 47))
def M0:Obj:=(cO "_law_down" "_law_down" 629 630 631 187 3 0 0 3 (.ref 319) true 181 (.ref 320) .none (.ref 321) (.ref 322) (.ref 323) 640 187 641)
def LW:Obj:=(fO "_law_down" "_law_down" (top 47) (.str "law_pebbletoll_k38_always_by_trying" 597) (.ref 324))
def Qq:Obj:=(fR "_law_standings" "_law_standings" (top 48))
def Ln:Obj:=(cO "_law_standings" "_law_standings" 643 644 645 197 5 0 0 3 (.ref 326) true 181 (.ref 327) .none .none .none (.ref 328) 646 197 647)
def Mj:Obj:=(fO "_law_standings" "_law_standings" (top 48) (.str "law_pebbletoll_k38_always_by_trying" 597) (.ref 329))
def LC:Obj:=(tO #[(.str "script" 652),(.str "many" 653),(.str "roads" 654),(.str "k" 655),(.str "part" 656),(.str "to" 657),(.str "there" 658),(.str "back" 659)])
def Qc:Obj:=(fR "_law_small_web" "_law_small_web" (top 49))
def Lf:Obj:=(cO "_law_small_web" "_law_small_web" 649 650 651 205 1 0 0 3 (.ref 331) true 181 (.ref 332) .none (.ref 333) (.ref 334) (.ref 335) 660 205 661)
def Oj:Obj:=(fO "_law_small_web" "_law_small_web" (top 49) (.str "law_pebbletoll_k38_always_by_trying" 597) (.ref 336))
def MU:Obj:=(tO #[(.str "script" 666),(.str "many" 667),(.str "wish" 668),(.str "k" 669),(.str "place" 670)])
def P3:Obj:=(fR "_law_small_wish" "_law_small_wish" (top 50))
def NH:Obj:=(cO "_law_small_wish" "_law_small_wish" 663 664 665 215 2 0 0 3 (.ref 338) true 181 (.ref 339) .none (.ref 340) (.ref 341) (.ref 342) 671 215 672)
def Ll:Obj:=(fO "_law_small_wish" "_law_small_wish" (top 50) (.str "law_pebbletoll_k38_always_by_trying" 597) (.ref 343))
def Qb:Obj:=(fR "_law_layings" "_law_layings" (top 51))
def MJ:Obj:=(cO "_law_layings" "_law_layings" 674 675 676 221 2 0 0 3 (.ref 345) true 181 (.ref 346) .none .none .none (.ref 347) 677 221 678)
def Mx:Obj:=(fO "_law_layings" "_law_layings" (top 51) (.str "law_pebbletoll_k38_always_by_trying" 597) (.ref 348))
def NM:Obj:=(tO #[(.str "tolls" 683),(.str "many" 684),(.str "wish" 685),(.str "pebbles" 686),(.str "laying" 687)])
def Qk:Obj:=(fR "_law_all_meet" "_law_all_meet" (top 52))
def LM:Obj:=(cO "_law_all_meet" "_law_all_meet" 680 681 682 228 4 0 0 3 (.ref 350) true 181 (.ref 351) .none (.ref 352) (.ref 353) (.ref 354) 688 228 689)
def MP:Obj:=(fO "_law_all_meet" "_law_all_meet" (top 52) (.str "law_pebbletoll_k38_always_by_trying" 597) (.ref 355))
def On:Obj:=(tO #[(.str "script" 694),(.str "many" 695),(.str "roads" 696),(.str "wish" 697),(.str "web" 698),(.str "tolls" 699),(.str "handed" 700),(.str "found" 701)])
def Qx:Obj:=(fR "law" "law" (top 53))
def Mf:Obj:=(cO "law" "law" 691 692 693 233 1 0 0 3 (.ref 357) true 181 (.ref 358) .none (.ref 359) (.ref 360) (.ref 361) 702 233 703)
def LY:Obj:=(fO "law" "law" (top 53) (.str "law_pebbletoll_k38_always_by_trying" 597) (.ref 362))
noncomputable def h1 (P:Params):Heap:=.mk (.mk (boot_o_0 P::boot_o_1 P::boot_o_2 P::LA P::boot_o_4 P::boot_o_5 P::boot_o_6 P::boot_o_7 P::boot_o_8 P::boot_o_9 P::boot_o_10 P::x0::QN::x2::x3::x6::x7::x8 P::x0::x1::x9::x10::x0::x11 P::x12::x13::x14::x15::x16::x7::x17 P::x0::x1::x18::x19::x0::x20 P::x21::x22::x23::x16::x7::x24 P::x0::x1::x25::x26::x0::x27 P::x28::x29::x30::x16::x7::x31 P::x0::x1::x32::x33::x0::x34 P::x35::x36::x37::x16::x7::x38 P::x0::x1::x39::x40::x0::x41 P::x42::x43::x44::x16::x7::x45 P::x0::x1::x46::x47::x0::x48 P::x49::x50::x51::x0::x7::x52 P::x0::x53::x54::x55::x0::x1::x56::x57::x58::x59::x60 P::x61::x62::x63::x64::x65::x0::x1::x66::x0::x67::x68::x69::x0::x1::x70::x0::x71::x72::x73::x0::x1::x74::x0::x75::x76::x77::x0::x1::x78::x0::x79::x80::x81::x0::x1::x82::x0::x83::x84::x85::x0::x1::x86::x0::x87::x88::x89::x0::x1::x90::x0::x91::x92::x93::x0::x1::x94::x0::x95::x96::x97::x0::x1::x98::x0::x99::Jo::Ht::x0::x1::Lb::IT::Iz::x0::x1::IR::x0::Nq::HU::HQ::x0::x1::IE::x0::My::Ij::IV::x0::x1::HK::x0::ND::HV::Ho::x0::x1::Lh::Ir::Ig::x0::x1::M6::IW::IA::x0::x1::Oh::x0::P7::MD::M5::x0::x1::MH::x0::PM::MY::Mt::x0::x1::NR::x0::Qu::NP::Lo::x0::x1::QU::Mu::Lk::x0::x1::Lp::x0::PP::LL::Og::x0::x1::LJ::x0::QA::Mv::LQ::x0::x7::PZ P::x0::Qv::QO::Qy::x0::x1::Qr::Lc::Ly::ML::NG P::Lq::NQ::L6::QR::Qw::x0::x1::LF::x0::Qf::Mz::Mb::x0::x1::Oa::x0::PL::Mc::MB::x0::x1::QJ::Nu::Lx::x0::x1::NF::x0::QL::Nv::Lm::x0::x1::LI::x0::PR::ME::No::x0::x1::Nn::x0::PK::Nk::Nd::x0::x1::NC::x0::Qi::Mq::Me::x0::x1::L7::x0::Qa::MO::K6::x0::x1::Na::x0::PQ::M0::LW::x0::x1::Qq::Ln::Mj::x0::x1::LC::x0::Qc::Lf::Oj::x0::x1::MU::x0::P3::NH::Ll::x0::x1::Qb::MJ::Mx::x0::x1::NM::x0::Qk::LM::MP::x0::x1::On::x0::Qx::Mf::LY::[])) (.mk [] [] [] 0 [] [] false #[] [] 0 false false false 0 [2000,10,10] false 0 true [] [] 0 false)
theorem Rg (w:World) (os:OsState):segRun treeTable PySem.Challenge.pw_pebbletoll_k38_always_by_trying w 11 (some (.ref 6)) 1 902 (Shared.mk (h0 w.params) (.mk []) (.mk 0 0 0 0) 463 os) (piecesOf st1 env cE (.mk 111 0 111 8) [topFrame (.mk 0 0 0 0)])=some (.next,(Shared.mk (h1 w.params) (.mk []) (.mk 0 0 0 0) 705 os),cE,(.mk 233 0 246 74)):=by kernel_rfl
noncomputable def hf (P:Params):Heap:=.mk (.mk (boot_o_0 P::boot_o_1 P::boot_o_2 P::LA P::boot_o_4 P::boot_o_5 P::boot_o_6 P::boot_o_7 P::boot_o_8 P::boot_o_9 P::boot_o_10 P::x0::QN::x2::x3::x6::x7::x8 P::x0::x1::x9::x10::x0::x11 P::x12::x13::x14::x15::x16::x7::x17 P::x0::x1::x18::x19::x0::x20 P::x21::x22::x23::x16::x7::x24 P::x0::x1::x25::x26::x0::x27 P::x28::x29::x30::x16::x7::x31 P::x0::x1::x32::x33::x0::x34 P::x35::x36::x37::x16::x7::x38 P::x0::x1::x39::x40::x0::x41 P::x42::x43::x44::x16::x7::x45 P::x0::x1::x46::x47::x0::x48 P::x49::x50::x51::x0::x7::x52 P::x0::x53::x54::x55::x0::x1::x56::x57::x58::x59::x60 P::x61::x62::x63::x64::x65::x0::x1::x66::x0::x67::x68::x69::x0::x1::x70::x0::x71::x72::x73::x0::x1::x74::x0::x75::x76::x77::x0::x1::x78::x0::x79::x80::x81::x0::x1::x82::x0::x83::x84::x85::x0::x1::x86::x0::x87::x88::x89::x0::x1::x90::x0::x91::x92::x93::x0::x1::x94::x0::x95::x96::x97::x0::x1::x98::x0::x99::Jo::Ht::x0::x1::Lb::IT::Iz::x0::x1::IR::x0::Nq::HU::HQ::x0::x1::IE::x0::My::Ij::IV::x0::x1::HK::x0::ND::HV::Ho::x0::x1::Lh::Ir::Ig::x0::x1::M6::IW::IA::x0::x1::Oh::x0::P7::MD::M5::x0::x1::MH::x0::PM::MY::Mt::x0::x1::NR::x0::Qu::NP::Lo::x0::x1::QU::Mu::Lk::x0::x1::Lp::x0::PP::LL::Og::x0::x1::LJ::x0::QA::Mv::LQ::x0::x7::PZ P::x0::Qv::QO::Qy::x0::x1::Qr::Lc::Ly::ML::NG P::Lq::NQ::L6::QR::Qw::x0::x1::LF::x0::Qf::Mz::Mb::x0::x1::Oa::x0::PL::Mc::MB::x0::x1::QJ::Nu::Lx::x0::x1::NF::x0::QL::Nv::Lm::x0::x1::LI::x0::PR::ME::No::x0::x1::Nn::x0::PK::Nk::Nd::x0::x1::NC::x0::Qi::Mq::Me::x0::x1::L7::x0::Qa::MO::K6::x0::x1::Na::x0::PQ::M0::LW::x0::x1::Qq::Ln::Mj::x0::x1::LC::x0::Qc::Lf::Oj::x0::x1::MU::x0::P3::NH::Ll::x0::x1::Qb::MJ::Mx::x0::x1::NM::x0::Qk::LM::MP::x0::x1::On::x0::Qx::Mf::LY::[])) (.mk [] [] [] 0 [] [] false #[] [] 0 false false false 0 [2000,10,10] false 0 true [] [] 0 false)
theorem Ra (w:World) (os:OsState):topRun treeTable PySem.Challenge.pw_pebbletoll_k38_always_by_trying w 11 (some (.ref 6)) 2 (Shared.mk (h1 w.params) (.mk []) (.mk 0 0 0 0) 705 os) (restOf [] env cE (.mk 233 0 246 74) [topFrame (.mk 0 0 0 0)])=some (Shared.mk (hf w.params) (.mk []) (.mk 0 0 0 0) 705 os):=by kernel_rfl
theorem run (w:World) (os:OsState):topRun treeTable PySem.Challenge.pw_pebbletoll_k38_always_by_trying w 11 (some (.ref 6)) (12+(1+(2001+(902+(2))))) (Shared.mk (boot_heap w.params) (.mk []) boot_drawn boot_toks os) (topStub PySem.Challenge.pw_pebbletoll_k38_always_by_trying)=some (Shared.mk (hf w.params) (.mk []) (.mk 0 0 0 0) 705 os):=go_top (Rh w os) (piece_block (Rj w os) (piece_app (Rl w os) (piece_app (Rg w os) (Ra w os))))
theorem opn:∀ w:World,(fencedOpening treeTable PySem.Challenge.pw_pebbletoll_k38_always_by_trying w 5928).map (fun s=>(s.heap,s.gens,s.drawn,s.toks))=some (boot_heap w.params,Array.mk [],boot_drawn,boot_toks):=boot_open (by kernel_rfl) (by decide) fun s=>by kernel_rfl
theorem siz (w:World):((boot_heap w.params).isNs mainGlobals && (Array.mk ([]:List GenState)).size == 0,(boot_heap w.params).objs.size,(boot_heap w.params).nsMap mainGlobals "__annotations__")=(true,11,(some (.ref 6))):=by kernel_rfl
noncomputable def KK:Params->Frag:=fun P =>
 (nat_lit 2,boot_o_2 P) ::
 (nat_lit 3,LA P) ::
 (nat_lit 15,x6) ::
 (nat_lit 22,x0) ::
 (nat_lit 23,x11 P) ::
 (nat_lit 24,x12) ::
 (nat_lit 25,x13) ::
 (nat_lit 28,x16) ::
 (nat_lit 35,x0) ::
 (nat_lit 36,x20 P) ::
 (nat_lit 37,x21) ::
 (nat_lit 40,x16) ::
 (nat_lit 47,x0) ::
 (nat_lit 48,x27 P) ::
 (nat_lit 49,x28) ::
 (nat_lit 52,x16) ::
 (nat_lit 59,x0) ::
 (nat_lit 60,x34 P) ::
 (nat_lit 61,x35) ::
 (nat_lit 64,x16) ::
 (nat_lit 71,x0) ::
 (nat_lit 72,x41 P) ::
 (nat_lit 73,x42) ::
 (nat_lit 76,x16) ::
 (nat_lit 83,x0) ::
 (nat_lit 84,x48 P) ::
 (nat_lit 85,x49) ::
 (nat_lit 95,x0) ::
 (nat_lit 98,x57) ::
 (nat_lit 99,x58) ::
 (nat_lit 100,x59) ::
 (nat_lit 101,x60 P) ::
 (nat_lit 102,x61) ::
 (nat_lit 103,x62) ::
 (nat_lit 104,x63) ::
 (nat_lit 107,x0) ::
 (nat_lit 109,x66) ::
 (nat_lit 110,x0) ::
 (nat_lit 112,x68) ::
 (nat_lit 113,x69) ::
 (nat_lit 114,x0) ::
 (nat_lit 116,x70) ::
 (nat_lit 117,x0) ::
 (nat_lit 119,x72) ::
 (nat_lit 120,x73) ::
 (nat_lit 121,x0) ::
 (nat_lit 123,x74) ::
 (nat_lit 124,x0) ::
 (nat_lit 126,x76) ::
 (nat_lit 127,x77) ::
 (nat_lit 128,x0) ::
 (nat_lit 130,x78) ::
 (nat_lit 131,x0) ::
 (nat_lit 133,x80) ::
 (nat_lit 134,x81) ::
 (nat_lit 135,x0) ::
 (nat_lit 137,x82) ::
 (nat_lit 138,x0) ::
 (nat_lit 140,x84) ::
 (nat_lit 141,x85) ::
 (nat_lit 142,x0) ::
 (nat_lit 144,x86) ::
 (nat_lit 145,x0) ::
 (nat_lit 147,x88) ::
 (nat_lit 148,x89) ::
 (nat_lit 149,x0) ::
 (nat_lit 151,x90) ::
 (nat_lit 152,x0) ::
 (nat_lit 154,x92) ::
 (nat_lit 155,x93) ::
 (nat_lit 156,x0) ::
 (nat_lit 158,x94) ::
 (nat_lit 159,x0) ::
 (nat_lit 161,x96) ::
 (nat_lit 162,x97) ::
 (nat_lit 163,x0) ::
 (nat_lit 165,x98) ::
 (nat_lit 166,x0) ::
 (nat_lit 168,Jo) ::
 (nat_lit 169,Ht) ::
 (nat_lit 170,x0) ::
 (nat_lit 173,IT) ::
 (nat_lit 174,Iz) ::
 (nat_lit 175,x0) ::
 (nat_lit 177,IR) ::
 (nat_lit 178,x0) ::
 (nat_lit 180,HU) ::
 (nat_lit 181,HQ) ::
 (nat_lit 182,x0) ::
 (nat_lit 184,IE) ::
 (nat_lit 185,x0) ::
 (nat_lit 187,Ij) ::
 (nat_lit 188,IV) ::
 (nat_lit 189,x0) ::
 (nat_lit 191,HK) ::
 (nat_lit 192,x0) ::
 (nat_lit 194,HV) ::
 (nat_lit 195,Ho) ::
 (nat_lit 196,x0) ::
 (nat_lit 199,Ir) ::
 (nat_lit 200,Ig) ::
 (nat_lit 201,x0) ::
 (nat_lit 204,IW) ::
 (nat_lit 205,IA) ::
 (nat_lit 206,x0) ::
 (nat_lit 208,Oh) ::
 (nat_lit 209,x0) ::
 (nat_lit 211,MD) ::
 (nat_lit 212,M5) ::
 (nat_lit 213,x0) ::
 (nat_lit 215,MH) ::
 (nat_lit 216,x0) ::
 (nat_lit 218,MY) ::
 (nat_lit 219,Mt) ::
 (nat_lit 220,x0) ::
 (nat_lit 222,NR) ::
 (nat_lit 223,x0) ::
 (nat_lit 225,NP) ::
 (nat_lit 226,Lo) ::
 (nat_lit 227,x0) ::
 (nat_lit 230,Mu) ::
 (nat_lit 231,Lk) ::
 (nat_lit 232,x0) ::
 (nat_lit 234,Lp) ::
 (nat_lit 235,x0) ::
 (nat_lit 237,LL) ::
 (nat_lit 238,Og) ::
 (nat_lit 239,x0) ::
 (nat_lit 241,LJ) ::
 (nat_lit 242,x0) ::
 (nat_lit 244,Mv) ::
 (nat_lit 245,LQ) ::
 (nat_lit 253,x0) ::
 (nat_lit 256,Lc) ::
 (nat_lit 257,Ly) ::
 (nat_lit 258,ML) ::
 (nat_lit 259,NG P) ::
 (nat_lit 260,Lq) ::
 (nat_lit 261,NQ) ::
 (nat_lit 262,L6) ::
 (nat_lit 265,x0) ::
 (nat_lit 267,LF) ::
 (nat_lit 268,x0) ::
 (nat_lit 270,Mz) ::
 (nat_lit 271,Mb) ::
 (nat_lit 272,x0) ::
 (nat_lit 274,Oa) ::
 (nat_lit 275,x0) ::
 (nat_lit 277,Mc) ::
 (nat_lit 278,MB) ::
 (nat_lit 279,x0) ::
 (nat_lit 282,Nu) ::
 (nat_lit 283,Lx) ::
 (nat_lit 284,x0) ::
 (nat_lit 286,NF) ::
 (nat_lit 287,x0) ::
 (nat_lit 289,Nv) ::
 (nat_lit 290,Lm) ::
 (nat_lit 291,x0) ::
 (nat_lit 293,LI) ::
 (nat_lit 294,x0) ::
 (nat_lit 296,ME) ::
 (nat_lit 297,No) ::
 (nat_lit 298,x0) ::
 (nat_lit 300,Nn) ::
 (nat_lit 301,x0) ::
 (nat_lit 303,Nk) ::
 (nat_lit 304,Nd) ::
 (nat_lit 305,x0) ::
 (nat_lit 307,NC) ::
 (nat_lit 308,x0) ::
 (nat_lit 310,Mq) ::
 (nat_lit 311,Me) ::
 (nat_lit 312,x0) ::
 (nat_lit 314,L7) ::
 (nat_lit 315,x0) ::
 (nat_lit 317,MO) ::
 (nat_lit 318,K6) ::
 (nat_lit 319,x0) ::
 (nat_lit 321,Na) ::
 (nat_lit 322,x0) ::
 (nat_lit 324,M0) ::
 (nat_lit 325,LW) ::
 (nat_lit 326,x0) ::
 (nat_lit 329,Ln) ::
 (nat_lit 330,Mj) ::
 (nat_lit 331,x0) ::
 (nat_lit 333,LC) ::
 (nat_lit 334,x0) ::
 (nat_lit 336,Lf) ::
 (nat_lit 337,Oj) ::
 (nat_lit 338,x0) ::
 (nat_lit 340,MU) ::
 (nat_lit 341,x0) ::
 (nat_lit 343,NH) ::
 (nat_lit 344,Ll) ::
 (nat_lit 345,x0) ::
 (nat_lit 348,MJ) ::
 (nat_lit 349,Mx) ::
 (nat_lit 350,x0) ::
 (nat_lit 352,NM) ::
 (nat_lit 353,x0) ::
 (nat_lit 355,LM) ::
 (nat_lit 356,MP) ::
 (nat_lit 357,x0) ::
 (nat_lit 359,On) ::
 (nat_lit 360,x0) ::
 (nat_lit 362,Mf) ::
 (nat_lit 363,LY)::[]
abbrev qq:Program:=PySem.W.view PySem.Challenge.pw_pebbletoll_k38_always_by_trying [1,2,3,4,5,6,8,9,10,11,12,13,14,15,16,17,18,19,20,22,23,25,26,27,28,30,32,33,34,35,36,37,38,39,40,41,42,44,45,46,47,48,49,50,51,52,53]
abbrev asK:List Addr:=[2,3,15,22,23,24,25,28,35,36,37,40,47,48,49,52,59,60,61,64,71,72,73,76,83,84,85,95,98,99,100,101,102,103,104,107,109,110,112,113,114,116,117,119,120,121,123,124,126,127,128,130,131,133,134,135,137,138,140,141,142,144,145,147,148,149,151,152,154,155,156,158,159,161,162,163,165,166,168,169,170,173,174,175,177,178,180,181,182,184,185,187,188,189,191,192,194,195,196,199,200,201,204,205,206,208,209,211,212,213,215,216,218,219,220,222,223,225,226,227,230,231,232,234,235,237,238,239,241,242,244,245,253,256,257,258,259,260,261,262,265,267,268,270,271,272,274,275,277,278,279,282,283,284,286,287,289,290,291,293,294,296,297,298,300,301,303,304,305,307,308,310,311,312,314,315,317,318,319,321,322,324,325,326,329,330,331,333,334,336,337,338,340,341,343,344,345,348,349,350,352,353,355,356,357,359,360,362,363]
theorem asK_eq:∀ P,asK=(KK P).map (·.1):=fun _=>by kernel_rfl
theorem Q0 (w:World):(fun os=>((staticsOk (importedModules PySem.Challenge.pw_pebbletoll_k38_always_by_trying.main.body) (boot_heap w.params) (hf w.params) && namesBound PySem.Challenge.pw_pebbletoll_k38_always_by_trying (hf w.params) && gensDone (Shared.mk (Hd.hf w.params) (.mk []) (.mk 0 0 0 0) 705 os) && laidKept (boot_heap w.params) (hf w.params)),openSeen qq [] (importedModules PySem.Challenge.pw_pebbletoll_k38_always_by_trying.main.body) (fun s=>PySem.W.xlAt Hd.qq [] s && PySem.W.recOk (PySem.W.RowW.records (PySem.W.OpenRow.toRowW (PySem.Challenge.rw_pebbletoll_k38_always_by_trying).row)) s) true (Shared.mk (Hd.hf w.params) (.mk []) (.mk 0 0 0 0) 705 os),Hook.obs (PySem.W.kHook Hd.KK Hd.asK Hd.asK_eq) (Shared.mk (Hd.hf w.params) (.mk []) (.mk 0 0 0 0) 705 os)))=fun _=>(true,openGood qq [],Hook.val (PySem.W.kHook Hd.KK Hd.asK Hd.asK_eq) w):=by kernel_rfl
theorem left:PySem.W.LeftO (PySem.Challenge.rw_pebbletoll_k38_always_by_trying).row.prog qq [] (fun s=>PySem.W.xlAt Hd.qq [] s && PySem.W.recOk (PySem.W.RowW.records (PySem.W.OpenRow.toRowW (PySem.Challenge.rw_pebbletoll_k38_always_by_trying).row)) s) (PySem.W.Hook.obs (PySem.W.kHook Hd.KK Hd.asK Hd.asK_eq)) (PySem.W.Hook.val (PySem.W.kHook Hd.KK Hd.asK Hd.asK_eq)) 5928:=LeftO.of_pieces opn siz run (by decide) Q0
end Hd
set_option Elab.async false
set_option linter.all false
set_option maxRecDepth 100000
namespace L2
open PySem PySem.Spec PyProof.Rows
abbrev Key:=Sum Int Str
def xL:Key->Value->Bool
 | .inl k,v=>Value.isInt k v
 | .inr x,v=>Value.isStrOf x v
def Rb (w:World):Key->Int
 | .inl k=>hashInt k
 | .inr x=>hashStr w x
theorem d3:∀ {k:Key} {v:Value},xL k v=true->(∃ i t,k=Sum.inl i/\v=Value.int i t)\/(∃ x t,k=Sum.inr x/\v=Value.str x t)
 | .inl i,v,h=>by
   obtain ⟨t,e⟩:=Value.isInt_shape (k:=i) (v:=v) h;exact .inl ⟨i,t,rfl,e⟩
 | .inr x,v,h=>by
   obtain ⟨t,e⟩:=Value.isStrOf_shape (x:=x) (v:=v) h;exact .inr ⟨x,t,rfl,e⟩
theorem JA (i:Int) (t:Tok):xL (.inl i) (.int i t)=true:=by simp [xL,Value.isInt]
theorem KG (x:Str) (t:Tok):xL (.inr x) (.str x t)=true:=by simp [xL,Value.isStrOf]
theorem QM (a b:Int):decide ((Sum.inl a:Key)=Sum.inl b)=(a == b):=by
 by_cases e:a=b
 . subst e;simp
 . have h:¬ (Sum.inl a:Key)=Sum.inl b:=fun q=>e (Sum.inl.inj q);rw [decide_eq_false h];exact (beq_eq_false_iff_ne.mpr e).symm
theorem QG (a b:Str):decide ((Sum.inr a:Key)=Sum.inr b)=decide (a=b):=by
 by_cases e:a=b
 . subst e;simp
 . have h:¬ (Sum.inr a:Key)=Sum.inr b:=fun q=>e (Sum.inr.inj q);rw [decide_eq_false h,decide_eq_false e]
theorem Qg (a:Int) (b:Str):decide ((Sum.inl a:Key)=Sum.inr b)=false:=decide_eq_false (fun q=>nomatch q)
theorem Qs (a:Str) (b:Int):decide ((Sum.inr a:Key)=Sum.inl b)=false:=decide_eq_false (fun q=>nomatch q)
def dB (prog:Program) (w:World):PySem.KeyKind prog w Key where
 is:=xL
 hash:=Rb w
 inj:=fun v a b ha hb=>by
   rcases d3 ha with ⟨i,t,rfl,rfl⟩|⟨x,t,rfl,rfl⟩
   . rcases d3 hb with ⟨j,u,rfl,e⟩|⟨y,u,rfl,e⟩
     . injection e with e1 _;rw [e1]
     . exact nomatch e
   . rcases d3 hb with ⟨j,u,rfl,e⟩|⟨y,u,rfl,e⟩
     . exact nomatch e
     . injection e with e1 _;rw [e1]
 byValue:=fun k v h=>by
   rcases d3 h with ⟨i,t,rfl,rfl⟩|⟨x,t,rfl,rfl⟩ <;> rfl
 pyHash:=fun hv h=>by
   rcases d3 hv with ⟨i,t,rfl,rfl⟩|⟨x,t,rfl,rfl⟩
   . exact wpAny_pyHash_int h
   . exact wpAny_pyHash_str h
 eqBool:=fun hu hv h=>by
   rcases d3 hu with ⟨i,t,rfl,rfl⟩|⟨x,t,rfl,rfl⟩
   . rcases d3 hv with ⟨j,u,rfl,rfl⟩|⟨y,u,rfl,rfl⟩
     . rw [QM] at h;exact wpAny_eqBool_int h
     . rw [Qg] at h;exact SeqAt.EqAt.int_str i t y u _ _ _ _ h
   . rcases d3 hv with ⟨j,u,rfl,rfl⟩|⟨y,u,rfl,rfl⟩
     . rw [Qs] at h;exact SeqAt.EqAt.str_int x t j u _ _ _ _ h
     . rw [QG] at h;exact wpAny_eqBool_str h
 «strs»:=fun k x t v h=>by
   rcases d3 h with ⟨i,u,rfl,e⟩|⟨y,u,rfl,e⟩
   . exact nomatch e
   . injection e with e1 _
     subst e1;cases v <;> rfl
theorem Ga (prog:Program) (w:World) (i:Int) (t:Tok):(dB prog w).is (.inl i) (.int i t)=true:=JA i t
theorem F6 (prog:Program) (w:World) (x:Str) (t:Tok):(dB prog w).is (.inr x) (.str x t)=true:=KG x t
end L2
namespace L2
open PySem PySem.Spec PyProof.Rows
inductive V where
 | non|bl (b:Bool)|int (i:Int)|str (x:Str)|byt (b:Array UInt8)|flt (b:UInt64)|ref (a:Addr)|ty (n:String)
 deriving DecidableEq
def RelV:V->Value->Prop
 | .non,u=>u=Value.none
 | .bl b,u=>u=Value.bool b
 | .int i,u=>∃ t,u=Value.int i t
 | .str x,u=>∃ t,u=Value.str x t
 | .byt b,u=>∃ t,u=Value.bytes b t
 | .flt b,u=>∃ t,u=Value.float b t
 | .ref a,u=>u=Value.ref a
 | .ty n,u=>u=Value.type n
abbrev Vals:List V->List Value->Prop:=Paired RelV
theorem Vals.length {xs:List V} {us:List Value} (r:Vals xs us):xs.length=us.length:=Paired.length r
theorem Vals.get:∀ {xs:List V} {us:List Value} {i:Nat} {x:V},Vals xs us->xs[i]?=some x->∃ u,us[i]?=some u/\RelV x u
 | _,_,_,_,.nil,e=>by simp at e
 | _,_,0,_,.cons r _,e=>by simp at e;subst e;exact ⟨_,rfl,r⟩
 | _,_,i+1,x,.cons _ t,e=>by
   obtain ⟨u,h1,h2⟩:=Vals.get (i:=i) (x:=x) t (by simpa using e);exact ⟨u,by simpa using h1,h2⟩
theorem Vals.set {x:V} {u:Value} (r:RelV x u):∀ {xs:List V} {us:List Value} (i:Nat),Vals xs us->Vals (xs.set i x) (us.set i u)
 | _,_,_,.nil=>.nil
 | _,_,0,.cons _ t=>.cons r t
 | _,_,i+1,.cons q t=>.cons q (Vals.set r i t)
theorem Vals.append:∀ {xs ys:List V} {us ws:List Value},Vals xs us->Vals ys ws->Vals (xs++ys) (us++ws)
 | _,_,_,_,.nil,s=>s
 | _,_,_,_,.cons r t,s=>.cons r (Vals.append t s)
def RelO:Option V->Option Value->Prop
 | some v,some u=>RelV v u
 | none,none=>True
 | _,_=>False
def KV {κ:Type}:List (κ × V)->List (κ × Value)->Prop:=Paired fun (p:κ × V) (q:κ × Value)=>p.1=q.1/\RelV p.2 q.2
def kV:Key->V
 | .inl i=>.int i
 | .inr x=>.str x
inductive HO where
 /-- a list -/
 | lst (xs:List V)
 /-- a tuple (never changes) -/
 | tup (xs:List V)
 /-- a dict whose keys are ints and texts;one whose keys are tuples of ints and texts (the empty one is both) -/
 | dK (kvs:List (Key × V))|dT (kvs:List (List Key × V))
 /-- a set of ints: its members,its size -/
 | set (S:Int->Bool) (n:Nat)
 /-- an instance of the class at C,its dict at dx,its attributes -/
 | ins (C dx:Addr) (fs:List (Str × V))
 /-- the dict of the instance at x -/
 | own (x:Addr)
 /-- the dict of an exception -/
 | xd (fs:List (Str × V))
 /-- a bound method,f of x -/
 | met (f x:Addr)
 /-- a range object lo,lo+1,.. below hi -/
 | rng (lo hi:Int)
 /-- a thing that is known to the object (the script;a dict while a loop walks it): read,never written while it is so -/
 | frz (o:Obj) (u:HO)
 /-- a code object's table -/
 | tbl (ps:Array Value)
 /-- any other thing,by what is true of its one object (a def of one's own: SetO a S n:=HO.ext fun h=>..) -/
 | ext (φ:Heap->Prop)
abbrev Hp:=Addr->Option HO
def upd (H:Hp) (a:Addr) (o:HO):Hp:=fun b=>if b=a then some o else H b
theorem ah {H:Hp} {a:Addr} {o:HO}:upd H a o a=some o:=by unfold upd;rw [if_pos rfl]
theorem ap {H:Hp} {a b:Addr} {o:HO} (h:b≠a):upd H a o b=H b:=by unfold upd;rw [if_neg h]
theorem oM {H:Hp} {a:Addr} {o u:HO}:upd (upd H a o) a u=upd H a u:=by
 funext b;unfold upd;split <;> rfl
theorem fQ {H:Hp} {a b:Addr} {o u:HO} (h:H a=some o) (h':H b=some u) (d:o≠u):a≠b:=by
 intro e;subst e;rw [h] at h';exact d (Option.some.inj h')
theorem bc {H:Hp} {a b:Addr} {o:HO} (h:H a=some o) (h':H b=none):a≠b:=by
 intro e;subst e;rw [h] at h';cases h'
section
variable (P:Program) (w:World)
def ObjOk (H:Hp) (h:Heap) (a:Addr):HO->Prop
 | .lst xs=>xs.length<=sizeLine/\∃ (its:List Value) (n:Nat),Vals xs its/\h.get? a=some { cls:=.type "list",data:=.seq its.toArray n }
 | .tup xs=>xs.length<=sizeLine/\∃ its:List Value,Vals xs its/\IsTup h a its.toArray
 | .dK kvs=>kvs.length<=sizeLine/\(a == sysModules)=false/\∃ vs,KV kvs vs/\h.DictOf (dB P w) a vs
 | .dT kvs=>kvs.length<=sizeLine/\(a == sysModules)=false/\∃ xs:List (List Key × Addr × Value),
     Paired (fun (p:List Key × V) (q:List Key × Addr × Value)=>p.1=q.1/\H q.2.1=some (.tup (p.1.map kV))/\RelV p.2 q.2.2) kvs xs /\
     ∃ o es ep,h.get? a=some o/\o.ExactDict/\o.data=.dict es ep/\es.toList=xs.map (entryOfKey (tupleKind (dB P w)))/\(xs.map (·.1)).Nodup
 | .set S n=>h.SetOf (intKind P w) a S n
 | .ins C dx fs=>H dx=some (.own a)/\fs.length<=1000/\dx≠a/\h.get? a=some (PySem.W.instObj C dx) /\
     ∃ mA,h.Ns1 dx mA/\(∀ f,RelO (fs.lookup f) (mA f))/\PySem.Within mA (fs.map (·.1))
 | .own _=>∃ o,h.get? a=some o
 | .xd fs=>∃ mA,h.Ns1 a mA/\∀ f,RelO (fs.lookup f) (mA f)
 | .rng lo hi=>∃ t u v,h.get? a=some { cls:=.type "range",data:=.fields #[.int lo t,.int hi u,.int 1 v] }
 | .frz o u=>h.get? a=some o/\ObjOk H h a u
 | .tbl ps=>h.get? a=some { cls:=.none,data:=.fields ps }
 | .met f x=>h.get? a=some (PySem.W.methodObj (.ref f) (.ref x))
 | .ext φ=>φ h/\(∃ o,h.get? a=some o)/\∀ h1 h2:Heap,φ h1->(∀ o,h1.get? a=some o->h2.get? a=some o)->φ h2
def HOk (H:Hp) (h:Heap):Prop:=∀ a o,H a=some o->ObjOk P w H h a o
end
section
variable {P:Program} {w:World} {H H':Hp} {h h':Heap} {a:Addr} {o:HO}
theorem ObjOk.lt (x:ObjOk P w H h a o):a<h.objs.size:=by
 cases o with
 | lst xs=>obtain ⟨_,_,_,_,e⟩:=x;exact Heap.lt_size e
 | tup xs=>obtain ⟨_,_,_,p⟩:=x;exact p.lt
 | dK kvs=>obtain ⟨_,_,_,_,o,_,_,e,_⟩:=x;exact Heap.lt_size e
 | dT kvs=>obtain ⟨_,_,_,_,o,_,_,e,_⟩:=x;exact Heap.lt_size e
 | set S n=>obtain ⟨o,_,_,_,e,_⟩:=x;exact Heap.lt_size e
 | ins C dx fs=>obtain ⟨_,_,_,e,_⟩:=x;exact Heap.lt_size e
 | own y=>obtain ⟨_,e⟩:=x;exact Heap.lt_size e
 | xd fs=>obtain ⟨_,⟨_,_,_,e,_⟩,_⟩:=x;exact Heap.lt_size e
 | rng lo hi=>obtain ⟨_,_,_,e⟩:=x;exact Heap.lt_size e
 | frz ob u=>obtain ⟨e,_⟩:=x;exact Heap.lt_size e
 | tbl ps=>exact Heap.lt_size (show h.get? a=some _ from x)
 | met f y=>exact Heap.lt_size (show h.get? a=some _ from x)
 | ext φ=>obtain ⟨_,⟨_,e⟩,_⟩:=x;exact Heap.lt_size e
theorem Paired.mapP {α β:Type} {F G:α->β->Prop}:∀ {l₁:List α} {l₂:List β},Paired F l₁ l₂->(∀ a b,F a b->G a b)->Paired G l₁ l₂
 | _,_,.nil,_=>.nil
 | _,_,.cons r t,f=>.cons (f _ _ r) (Paired.mapP t f)
theorem Paired.imp' {α β:Type} {F G:α->β->Prop} (f:∀ a b,F a b->G a b) {l₁:List α} {l₂:List β} (r:Paired F l₁ l₂):Paired G l₁ l₂:=Paired.mapP r f
theorem ObjOk.stay (x:ObjOk P w H h a o) (k:∀ b u,(b=a\/H b=some (.own a))->h.get? b=some u->h'.get? b=some u)
   (ho:∀ b,H b=some (.own a)->H' b=some (.own a)) (ht:∀ b xs,H b=some (.tup xs)->H' b=some (.tup xs)):ObjOk P w H' h' a o:=by
 induction o with
 | lst xs=>obtain ⟨z,its,n,r,e⟩:=x;exact ⟨z,its,n,r,k _ _ (.inl rfl) e⟩
 | tup xs=>obtain ⟨z,its,r,ob,e,c⟩:=x;exact ⟨z,its,r,ob,k _ _ (.inl rfl) e,c⟩
 | dK kvs=>obtain ⟨z,y,vs,r,ob,es,ep,e,c⟩:=x;exact ⟨z,y,vs,r,ob,es,ep,k _ _ (.inl rfl) e,c⟩
 | dT kvs =>
   obtain ⟨z,y,xs,r,ob,es,ep,e,c⟩:=x;exact ⟨z,y,xs,Paired.mapP r fun p q z=>⟨z.1,ht _ _ z.2.1,z.2.2⟩,ob,es,ep,k _ _ (.inl rfl) e,c⟩
 | set S n=>obtain ⟨ob,es,ep,t,e,c⟩:=x;exact ⟨ob,es,ep,t,k _ _ (.inl rfl) e,c⟩
 | ins C dx fs =>
   obtain ⟨d,z,ne,e,mA,⟨od,es,ep,e2,c⟩,r⟩:=x;exact ⟨ho _ d,z,ne,k _ _ (.inl rfl) e,mA,⟨od,es,ep,k _ _ (.inr d) e2,c⟩,r⟩
 | own y=>obtain ⟨ob,e⟩:=x;exact ⟨ob,k _ _ (.inl rfl) e⟩
 | xd fs=>obtain ⟨mA,⟨od,es,ep,e,c⟩,r⟩:=x;exact ⟨mA,⟨od,es,ep,k _ _ (.inl rfl) e,c⟩,r⟩
 | rng lo hi=>obtain ⟨t,u,v,e⟩:=x;exact ⟨t,u,v,k _ _ (.inl rfl) e⟩
 | frz ob u ih=>obtain ⟨e,q⟩:=x;exact ⟨k _ _ (.inl rfl) e,ih q⟩
 | tbl ps =>
   have e:h.get? a=some { cls:=.none,data:=.fields ps }:=x;show h'.get? a=some { cls:=.none,data:=.fields ps };exact k a _ (.inl rfl) e
 | met f y =>
   have e:h.get? a=some (PySem.W.methodObj (.ref f) (.ref y)):=x;show h'.get? a=some (PySem.W.methodObj (.ref f) (.ref y));exact k a _ (.inl rfl) e
 | ext φ=>obtain ⟨p,⟨o,e⟩,st⟩:=x;exact ⟨st _ _ p fun o q=>k _ _ (.inl rfl) q,⟨o,k _ _ (.inl rfl) e⟩,st⟩
theorem HOk.lt (x:HOk P w H h) (e:H a=some o):a<h.objs.size:=(x a o e).lt
theorem HOk.fresh (x:HOk P w H h) (e:h.objs.size<=a):H a=none:=by
 cases q:H a with
 | none=>rfl
 | some u=>exact absurd (Nat.lt_of_lt_of_le (x.lt q) e) (Nat.lt_irrefl _)
theorem HOk.kept (x:HOk P w H h) (k:∀ b u,h.get? b=some u->h'.get? b=some u):HOk P w H h':=fun a o e =>
 (x a o e).stay (fun b u _ q=>k b u q) (fun _ q=>q) fun _ _ q=>q
theorem HOk.laid (x:HOk P w H h) (k:∀ b u,h.get? b=some u->h'.get? b=some u) (hp:h.objs.size<=a) (new:ObjOk P w (upd H a o) h' a o):HOk P w (upd H a o) h':=fun b u e=>by
 have hn:=x.fresh hp;by_cases hb:b=a
 . subst hb;rw [ah] at e;cases e;exact new
 . rw [ap hb] at e;exact (x b u e).stay (fun c v _ q=>k c v q) (fun c q=>by rw [ap (bc q hn)];exact q) fun c xs q=>by rw [ap (bc q hn)];exact q
end
def Rd (H:Hp) (a:Addr) (u:HO):Prop:=H a=some u\/∃ o,H a=some (.frz o u)
theorem Rd.ok {P:Program} {w:World} {H:Hp} {h:Heap} {a:Addr} {u:HO} (r:Rd H a u) (x:HOk P w H h):ObjOk P w H h a u:=by
 rcases r with r|⟨o,r⟩
 . exact x a u r
 . obtain ⟨_,q⟩:=x a _ r;exact q
def Mut:Option HO->Prop
 | some (.lst _)=>True
 | some (.dK _)=>True
 | some (.dT _)=>True
 | some (.set _ _)=>True
 | some (.ins _ _ _)=>True
 | some (.ext _)=>True
 | _=>False
section
variable {P:Program} {w:World} {H:Hp} {h h':Heap} {x e:Addr} {o':HO}
theorem HOk.write (ok:HOk P w H h) (mu:Mut (H x)) (he:e=x\/H e=some (.own x)) (k:∀ b u,b≠e->h.get? b=some u->h'.get? b=some u) (heo:∃ u,h'.get? e=some u)
   (new:ObjOk P w (upd H x o') h' x o'):HOk P w (upd H x o') h':=fun b u q=>by
 have nown:∀ c y,H c=some (.own y)->c≠x:=fun c y r z=>by subst z;rw [r] at mu;exact mu
 have ntup:∀ c xs,H c=some (.tup xs)->c≠x:=fun c xs r z=>by subst z;rw [r] at mu;exact mu
 by_cases hb:b=x
 . subst hb;rw [ah] at q;cases q;exact new
 . rw [ap hb] at q;by_cases hbe:b=e
   . have q':H b=some (.own x):=by
       rcases he with z|z
       . exact absurd (hbe.trans z) hb
       . rw [hbe];exact z
     rw [q] at q';cases q';obtain ⟨v,hv⟩:=heo;exact ⟨v,by rw [hbe];exact hv⟩
   . refine (ok b u q).stay (fun c v hc r=>k c v ?_ r) (fun c r=>by rw [ap (nown c b r)];exact r) fun c xs r=>by rw [ap (ntup c xs r)];exact r
     rcases hc with rfl|hc
     . exact hbe
     . rintro rfl;rcases he with z|z
       . exact nown c b hc z
       . rw [hc] at z;cases z;exact hb rfl
end
structure Un (fs ex:List Addr) (H H':Hp) (h h':Heap):Prop where
 keep:∀ b o,h.get? b=some o->H b=none->b ∉ fs->b ∉ ex->h'.get? b=some o
 slot:∀ b o,h.get? b=some o->H b=none->b∈fs->b ∉ ex->∃ sl,h'.get? b=some { o with slots:=sl }
 free:∀ b o,h.get? b=some o->H b=none->b ∉ ex->H' b=none
 there:∀ b o,h.get? b=some o->b ∉ ex->∃ o',h'.get? b=some o'
 tups:∀ b xs,H b=some (.tup xs)->H' b=some (.tup xs)
 frzs:∀ b o u,H b=some (.frz o u)->H' b=some (.frz o u)
 tbls:∀ b ps,H b=some (.tbl ps)->∃ more,H' b=some (.tbl (ps++more))
section
variable {fs fs' ex ex':List Addr} {H H1 H2:Hp} {h h1 h2 h':Heap} {a x e:Addr} {o:HO}
theorem Un.any (u:Un fs ex H H1 h h1) {b:Addr} {ob:Obj} (q:h.get? b=some ob) (n:H b=none) (hx:b ∉ ex):∃ sl,h1.get? b=some { ob with slots:=sl }:=by
 by_cases hb:b∈fs
 . exact u.slot b ob q n hb hx
 . exact ⟨ob.slots,u.keep b ob q n hb hx⟩
theorem Un.kept (k:∀ b u,h.get? b=some u->h'.get? b=some u):Un fs ex H H h h' :=
 ⟨fun b ob q _ _ _=>k b ob q,fun b ob q _ _ _=>⟨ob.slots,k b ob q⟩,fun _ _ _ n _=>n,fun b ob q _=>⟨ob,k b ob q⟩,fun _ _ q=>q,fun _ _ _ q=>q,fun _ ps q=>⟨#[],by rw [q];simp⟩⟩
theorem Un.refl:Un fs ex H H h h:=Un.kept fun _ _ q=>q
theorem Un.laid (k:∀ b u,h.get? b=some u->h'.get? b=some u) (hp:h.objs.size<=a) (hn:H a=none):Un fs ex H (upd H a o) h h' where
 keep:=fun b u q _ _ _=>k b u q
 slot:=fun b u q _ _ _=>⟨u.slots,k b u q⟩
 free:=fun b u q n _=>by rw [ap (Nat.ne_of_lt (Nat.lt_of_lt_of_le (Heap.lt_size q) hp))];exact n
 there:=fun b u q _=>⟨u,k b u q⟩
 tups:=fun b xs q=>by rw [ap (bc q hn)];exact q
 frzs:=fun b u xs q=>by rw [ap (bc q hn)];exact q
 tbls:=fun b ps q=>⟨#[],by rw [ap (bc q hn),q];simp⟩
theorem Un.write (mu:Mut (H x)) (he:e=x\/H e=some (.own x)) (k:∀ b u,b≠e->h.get? b=some u->h'.get? b=some u) (heo:∃ u,h'.get? e=some u):Un fs ex H (upd H x o) h h':=by
 have hx:∀ b,H b=none->b≠x:=fun b n z=>by subst z;rw [n] at mu;exact mu
 have hb:∀ b,H b=none->b≠e:=fun b n z=>by
   subst z;rcases he with r|r
   . exact hx b n r
   . rw [n] at r;cases r
 have hm:∀ b u,H b=some u->¬ Mut (some u)->b≠x:=fun b u q nm z=>by subst z;rw [q] at mu;exact nm mu
 refine ⟨fun b u q n _ _=>k b u (hb b n) q,fun b u q n _ _=>⟨u.slots,k b u (hb b n) q⟩,fun b u q n _=>by rw [ap (hx b n)];exact n,fun b u q _=>?_,
   fun b xs q=>by rw [ap (hm b _ q fun z=>z)];exact q,fun b u xs q=>by rw [ap (hm b _ q fun z=>z)];exact q,fun b ps q=>⟨#[],by rw [ap (hm b _ q fun z=>z),q];simp⟩⟩
 by_cases hbe:b=e
 . subst hbe;exact heo
 . exact ⟨u,k b u hbe q⟩
end
def trk (h:Heap) (H:Hp):List Addr:=(List.range h.objs.size).filter fun a=>(H a).isSome
def uN (h:Heap) (H:Hp):Heap:=PySem.W.hideAll h (trk h H)
theorem Ke (h:Heap) (H:Hp):(uN h H).objs.size=h.objs.size:=PySem.W.hideAll_size _ _
theorem MC {h:Heap} {H:Hp} {b:Addr} {o:Obj} (e:h.get? b=some o) (n:H b=none):(uN h H).get? b=some o :=
 PySem.W.hideAll_get _ e fun hm=>by
   have q:(H b).isSome=true:=(List.mem_filter.mp hm).2;rw [n] at q;simp at q
theorem Pr {h:Heap} {H:Hp} {b:Addr} {o:Obj} (e:(uN h H).get? b=some o):h.get? b=some o/\H b=none:=by
 have e':h.get? b=some o:=PySem.W.of_hideAll (trk h H) e;refine ⟨e',?_⟩;cases q:H b with
 | none=>rfl
 | some x =>
   have hm:b∈trk h H:=List.mem_filter.mpr ⟨List.mem_range.mpr (Heap.lt_size e'),by simp [q]⟩;have z:(uN h H).get? b=none:=PySem.W.hideAll_none (trk h H) hm;rw [z] at e;cases e
def O5 (g h:Heap) (L:Addr):List (Addr × Obj):=(List.range h.objs.size).filterMap fun a=>if a=L\/(g.get? a).isSome=true then none else (h.get? a).map fun o=>(a,o)
def rest (g h:Heap) (L d:Addr):List (Addr × Obj):=(O5 g h L).filter fun p=>decide (p.1≠d)
end L2
namespace L2
open PySem PySem.Spec PyProof.Rows
structure Mod (K:PySem.W.Frag) (mg:Str->Option Value) (base:Heap):Prop where
 kin:K.In base
 glob:base.Ns mainGlobals mg
 blt:∃ mb,base.Ns builtinsNs mb/\∀ x:Str,x≠"__name__"->mb x=bootBuiltins x
 nolimit:base.NoLimit
structure Cx where
 prog:Program
 w:World
 K:PySem.W.Frag
 mg:Str->Option Value
 base:Heap
 A:Around
 N:List Str
 s₀:Shared
 H₀:Hp
 env:Env
 outer:List Env
 stack:List Env
 ex:List Addr
 fn:Str->Bool
 calm:Bool
 pn:List (Addr × Obj)
 xe:Value->Shared->Prop
def frs (l:List Env):List Addr:=l.filterMap (·.frame)
abbrev Cx.fs (X:Cx):List Addr:=frs X.outer
def Vis (sc:Scope) (x:Str):Prop:=sc.names.lookup x=some .local\/sc.names.lookup x=some .cell\/sc.names.lookup x=some .free
def Loc (sc:Scope) (x:Str):Prop:=sc.names.lookup x=some .local\/sc.names.lookup x=some .cell
def Ro (env:Env) (h:Heap) (m:Str->Option Value) (x:Str) (u:Value):Prop :=
 (env.kindOf x=some .local/\m x=some u)\/((env.kindOf x=some .cell\/env.kindOf x=some .free)/\∃ c,env.cells.lookup x=some c/\h.IsCell c (some u))
structure Cx.Ok (X:Cx):Prop where
 mod:Mod X.K X.mg X.base
 kind:X.env.scope.kind=.function
 glob:X.env.globals=mainGlobals
 blt:X.env.builtins=builtinsNs
 above:X.s₀.heap.objs.size<=X.env.locals
 inj:∀ x y c,X.env.cells.lookup x=some c->X.env.cells.lookup y=some c->x=y
 has:∀ x,(X.env.kindOf x=some .cell\/X.env.kindOf x=some .free)->∃ c,X.env.cells.lookup x=some c
 cab:∀ x c,X.fn x=true->X.env.cells.lookup x=some c->X.s₀.heap.objs.size<=c
 hd:X.calm=true->X.A.handled=none
 frames:X.A.frames=some X.stack
 stk:X.stack=X.outer\/(X.stack=X.env::X.outer/\X.env.frame=some X.env.locals)
 exf:∀ b∈X.ex,b≠X.env.locals/\∀ x c,X.env.cells.lookup x=some c->c≠b
 bs:∀ b o,X.base.get? b=some o->X.s₀.heap.get? b=some o/\X.H₀ b=none
 bsz:X.base.objs.size<=X.s₀.heap.objs.size
 noex:∀ b o,X.base.get? b=some o->b ∉ X.ex
 exfs:∀ b∈X.ex,b ∉ X.fs
 funs:X.s₀.heap.FunFrames X.base X.outer
 frf:∀ b∈X.fs,X.H₀ b=none
structure Inv (X:Cx) (pins:List (Addr × Obj)) (σ:List (Option V)) (H:Hp) (s:Shared):Prop where
 ok:X.Ok
 os:s.os=X.s₀.os
 bare:AllBare s.gens
 base:Un X.fs X.ex X.H₀ H X.s₀.heap s.heap
 loc:∃ m,s.heap.Ns X.env.locals m/\∀ (i:Nat) (x:Str) (v:V),X.N[i]?=some x->σ[i]?=some (some v)->Vis X.env.scope x->∃ u,RelV v u/\Ro X.env s.heap m x u
 cell:∀ x c,X.env.cells.lookup x=some c->∃ v,s.heap.IsCell c v
 free:H X.env.locals=none
 freeC:∀ x c,X.env.cells.lookup x=some c->H c=none
 pin:∀ p∈X.pn++pins,s.heap.get? p.1=some p.2/\H p.1=none/\p.1≠X.env.locals/\p.1 ∉ X.fs/\∀ v,p.2.data≠.cell v
 hok:HOk X.prog X.w H s.heap
 len:σ.length=X.N.length
section
variable {X:Cx} {pins:List (Addr × Obj)} {σ:List (Option V)} {H H':Hp} {s:Shared} {h':Heap}
theorem Cx.Ok.nofr (ok:X.Ok) {b:Addr} {o:Obj} (e:X.base.get? b=some o):b ∉ X.fs:=fun hb=>by
 have:=(ok.funs.mem hb).1;rw [e] at this;cases this
theorem Inv.bs (I:Inv X pins σ H s):∀ b o,X.base.get? b=some o->s.heap.get? b=some o/\H b=none:=fun b o e =>
 ⟨I.base.keep b o (I.ok.bs b o e).1 (I.ok.bs b o e).2 (I.ok.nofr e) (I.ok.noex b o e),I.base.free b o (I.ok.bs b o e).1 (I.ok.bs b o e).2 (I.ok.noex b o e)⟩
theorem Inv.bk (I:Inv X pins σ H s):∀ b o,X.base.get? b=some o->s.heap.get? b=some o:=fun b o e=>(I.bs b o e).1
theorem Inv.mod (I:Inv X pins σ H s):Mod X.K X.mg X.base:=I.ok.mod
theorem Inv.kIn (I:Inv X pins σ H s):X.K.In s.heap:=I.ok.mod.kin.keeps I.bk
theorem Inv.lt (I:Inv X pins σ H s):X.env.locals<s.heap.objs.size:=let ⟨_,hn,_⟩:=I.loc;hn.lt
theorem Inv.sz (I:Inv X pins σ H s):X.s₀.heap.objs.size<=s.heap.objs.size:=Nat.le_trans I.ok.above (Nat.le_of_lt I.lt)
theorem Inv.nofs (I:Inv X pins σ H s) {a:Addr} (h:s.heap.objs.size<=a):a ∉ X.fs:=fun hb=>by
 obtain ⟨_,o,ho,_⟩:=I.ok.funs.mem hb;exact absurd (Nat.lt_of_lt_of_le (Heap.lt_size ho) (Nat.le_trans I.sz h)) (Nat.lt_irrefl _)
theorem Inv.cne (I:Inv X pins σ H s):∀ x c,X.env.cells.lookup x=some c->c≠X.env.locals:=fun x c e z=>by
 obtain ⟨v,o,ho,hd⟩:=I.cell x c e;obtain ⟨m,⟨o',es,ep,ho',hd',_⟩,_⟩:=I.loc;rw [z,ho'] at ho;cases ho;rw [hd'] at hd;cases hd
theorem Inv.funs (I:Inv X pins σ H s):s.heap.FunFrames X.base X.outer:=by
 have all:∀ (l:List Env),(∀ b∈frs l,b∈X.fs)->X.s₀.heap.FunFrames X.base l->s.heap.FunFrames X.base l:=by
   intro l
   induction l with
   | nil=>intro _ _;trivial
   | cons env r ih =>
     intro hs hl;obtain ⟨hk,⟨L,o,hf,hn,ho,hd⟩,hr⟩:=hl;have hL:L∈X.fs:=hs L (by unfold frs;rw [List.filterMap_cons,hf];exact List.mem_cons_self);obtain ⟨sl,e⟩:=I.base.slot L o ho (I.ok.frf L hL) hL fun z=>I.ok.exfs L z hL;exact ⟨hk,⟨L,_,hf,hn,e,hd⟩,ih (fun b hb=>hs b (by unfold frs;rw [List.filterMap_cons,hf];exact List.mem_cons_of_mem _ hb)) hr⟩
 exact all X.outer (fun _ hb=>hb) I.ok.funs
theorem Inv.stack (I:Inv X pins σ H s):s.heap.FunFrames X.base X.stack:=by
 rcases I.ok.stk with e|⟨e,hf⟩
 . rw [e];exact I.funs
 . rw [e];obtain ⟨m,hn,_⟩:=I.loc;refine .cons (by rw [I.ok.kind];decide) hf hn ?_ I.funs;exact Heap.get?_none_of_le (Nat.le_trans I.ok.bsz I.ok.above)
theorem Inv.stkSub (I:Inv X pins σ H s):∀ b∈frs X.stack,b∈X.env.locals::X.fs:=fun b hb=>by
 rcases I.ok.stk with e|⟨e,hf⟩
 . rw [e] at hb;exact List.mem_cons_of_mem _ hb
 . rw [e] at hb;unfold frs at hb;rw [List.filterMap_cons,hf] at hb;exact hb
theorem Inv.stkFree (I:Inv X pins σ H s):∀ b∈frs X.stack,H b=none:=fun b hb=>by
 rcases List.mem_cons.mp (I.stkSub b hb) with e|hb
 . rw [e];exact I.free
 . obtain ⟨_,o,ho,_⟩:=I.ok.funs.mem hb;exact I.base.free b o ho (I.ok.frf b hb) fun z=>I.ok.exfs b z hb
theorem Inv.step {g':Array GenState} {t':Nat} {d':Drawn} {ch:List Addr} (I:Inv X pins σ H s)
   (hch:∀ b∈ch,(b∈X.ex\/X.s₀.heap.objs.size<=b)/\b≠X.env.locals/\(∀ x c,X.env.cells.lookup x=some c->c≠b)/\∀ p∈X.pn++pins,p.1≠b)
   (keep:∀ b o,b≠X.env.locals->b ∉ X.fs->b ∉ ch->s.heap.get? b=some o->H b=none->h'.get? b=some o)
   (slot:∀ b o,b≠X.env.locals->b∈X.fs->b ∉ ch->s.heap.get? b=some o->H b=none->∃ sl,h'.get? b=some { o with slots:=sl }) (free:∀ b o,b ∉ ch->s.heap.get? b=some o->H b=none->H' b=none)
   (there:∀ b o,b ∉ ch->s.heap.get? b=some o->∃ o',h'.get? b=some o')
   (tups:∀ b xs,H b=some (.tup xs)->H' b=some (.tup xs)) (frzs:∀ b o u,H b=some (.frz o u)->H' b=some (.frz o u)) (tbls:∀ b ps,H b=some (.tbl ps)->∃ more,H' b=some (.tbl (ps++more)))
   (ns:∀ m,s.heap.Ns X.env.locals m->h'.Ns X.env.locals m) (hok:HOk X.prog X.w H' h') (hg:AllBare g') :
   Inv X pins σ H' { s with heap:=h',gens:=g',drawn:=d',toks:=t' }:=by
 have neL:∀ b o,X.s₀.heap.get? b=some o->b≠X.env.locals:=fun b o e=>Nat.ne_of_lt (Nat.lt_of_lt_of_le (Heap.lt_size e) I.ok.above);have neC:∀ b o,X.s₀.heap.get? b=some o->b ∉ X.ex->b ∉ ch:=fun b o e hx hb=>by
   rcases (hch b hb).1 with z|z
   . exact hx z
   . exact absurd (Nat.lt_of_lt_of_le (Heap.lt_size e) z) (Nat.lt_irrefl _)
 have cellK:∀ x c,X.env.cells.lookup x=some c->∀ v,s.heap.IsCell c v->h'.IsCell c v:=fun x c e v ⟨o,ho,hd⟩=>by
   have nch:c ∉ ch:=fun z=>(hch c z).2.2.1 x c e rfl;by_cases hc:c∈X.fs
   . obtain ⟨sl,q⟩:=slot c o (I.cne x c e) hc nch ho (I.freeC x c e);exact ⟨_,q,hd⟩
   . exact ⟨o,keep c o (I.cne x c e) hc nch ho (I.freeC x c e),hd⟩
 refine ⟨I.ok,I.os,hg,⟨fun b o e n hb hx=>?_,fun b o e n hb hx=>?_,fun b o e n hx=>?_,fun b o e hx=>?_,fun b xs e=>tups b xs (I.base.tups b xs e),fun b o xs e=>frzs b o xs (I.base.frzs b o xs e),fun b ps e=>?_⟩,?_,fun x c e=>?_,?_,fun x c e=>?_,fun p hp=>?_,hok,I.len⟩
 . exact keep b o (neL b o e) hb (neC b o e hx) (I.base.keep b o e n hb hx) (I.base.free b o e n hx)
 . obtain ⟨sl,e1⟩:=I.base.slot b o e n hb hx;obtain ⟨sl',e2⟩:=slot b _ (neL b o e) hb (neC b o e hx) e1 (I.base.free b o e n hx);exact ⟨sl',e2⟩
 . obtain ⟨o',e1⟩:=I.base.there b o e hx;exact free b o' (neC b o e hx) e1 (I.base.free b o e n hx)
 . obtain ⟨o',e1⟩:=I.base.there b o e hx;exact there b o' (neC b o e hx) e1
 . obtain ⟨m1,e1⟩:=I.base.tbls b ps e;obtain ⟨m2,e2⟩:=tbls b _ e1;exact ⟨m1++m2,by rw [e2,Array.append_assoc]⟩
 . obtain ⟨m,hn,hl⟩:=I.loc;refine ⟨m,ns m hn,fun i x v e1 e2 e3=>?_⟩;obtain ⟨u,r,l⟩:=hl i x v e1 e2 e3;refine ⟨u,r,?_⟩;rcases l with l|⟨k,c,e,z⟩
   . exact .inl l
   . exact .inr ⟨k,c,e,cellK x c e _ z⟩
 . obtain ⟨v,z⟩:=I.cell x c e;exact ⟨v,cellK x c e v z⟩
 . obtain ⟨m,⟨o,_,_,ho,_⟩,_⟩:=I.loc;exact free _ o (fun z=>(hch _ z).2.1 rfl) ho I.free
 . obtain ⟨v,o,ho,hd⟩:=I.cell x c e;exact free c o (fun z=>(hch c z).2.2.1 x c e rfl) ho (I.freeC x c e)
 . obtain ⟨e,n,ne,nf,d⟩:=I.pin p hp;have nch:p.1 ∉ ch:=fun z=>(hch p.1 z).2.2.2 p hp rfl;exact ⟨keep p.1 p.2 ne nf nch e n,free p.1 p.2 nch e n,ne,nf,d⟩
theorem Inv.un {t':Nat} (I:Inv X pins σ H s) (u:Un X.fs [] H H' s.heap h') (hok:HOk X.prog X.w H' h'):Inv X pins σ H' { s with heap:=h',toks:=t' }:=by
 obtain ⟨m,⟨o,es,ep,ho,r⟩,_⟩:=id I.loc;obtain ⟨sl,hL⟩:=u.any ho I.free (by simp);exact I.step (g':=s.gens) (d':=s.drawn) (ch:=[]) (fun _ z=>nomatch z) (fun b o _ hb _ e n=>u.keep b o e n hb (by simp)) (fun b o _ hb _ e n=>u.slot b o e n hb (by simp)) (fun b o _ e n=>u.free b o e n (by simp)) (fun b o _ e=>u.there b o e (by simp)) u.tups u.frzs u.tbls (fun m' hm=>by
   obtain ⟨o',es',ep',ho',r'⟩:=hm;rw [ho] at ho';cases ho';exact ⟨_,es',ep',hL,r'⟩) hok I.bare
theorem Inv.call {g':Array GenState} {t':Nat} {d':Drawn} {ch:List Addr} (I:Inv X pins σ H s) (u:Un (frs X.stack) ch H H' s.heap h') (hok:HOk X.prog X.w H' h') (hg:AllBare g')
   (hch:∀ b∈ch,(b∈X.ex\/X.s₀.heap.objs.size<=b)/\b≠X.env.locals/\(∀ x c,X.env.cells.lookup x=some c->c≠b)/\∀ p∈X.pn++pins,p.1≠b) :
   Inv X pins σ H' { s with heap:=h',gens:=g',drawn:=d',toks:=t' }:=by
 obtain ⟨m,⟨o,es,ep,ho,r⟩,_⟩:=id I.loc;obtain ⟨sl,hL⟩:=u.any ho I.free fun z=>(hch _ z).2.1 rfl;exact I.step (ch:=ch) hch (fun b o hL hb hc e n=>u.keep b o e n (fun z=>(List.mem_cons.mp (I.stkSub b z)).elim hL hb) hc) (fun b o _ _ hc e n=>u.any e n hc) (fun b o hc e n=>u.free b o e n hc) (fun b o hc e=>u.there b o e hc) u.tups u.frzs u.tbls (fun m' hm=>by
   obtain ⟨o',es',ep',ho',r'⟩:=hm;rw [ho] at ho';cases ho';exact ⟨_,es',ep',hL,r'⟩) hok hg
theorem Inv.turned {t':Nat} {it:Addr} (I:Inv X pins σ H s) (k:∀ b o,b≠it->s.heap.get? b=some o->h'.get? b=some o) (hn:H it=none) (hL:it≠X.env.locals)
   (h1:it∈X.ex\/X.s₀.heap.objs.size<=it) (h2:∀ x c,X.env.cells.lookup x=some c->c≠it) (h3:∀ p∈X.pn++pins,p.1≠it):Inv X pins σ H { s with heap:=h',toks:=t' }:=by
 have nit:∀ b u,H b=some u->b≠it:=fun b u e z=>by rw [z,hn] at e;cases e
 refine I.step (g':=s.gens) (d':=s.drawn) (ch:=[it]) (fun b hb=>?_) (fun b o _ _ hc e _=>k b o (fun z=>hc (by simp [z])) e) (fun b o _ _ hc e _=>⟨o.slots,k b o (fun z=>hc (by simp [z])) e⟩) (fun _ _ _ _ n=>n)
   (fun b o hc e=>⟨o,k b o (fun z=>hc (by simp [z])) e⟩) (fun _ _ e=>e) (fun _ _ _ e=>e) (fun b ps e=>⟨#[],by rw [e];simp⟩) (fun m hm=>?_) (fun b u e=>?_) I.bare
 . have e:b=it:=by simpa using hb
   subst e;exact ⟨h1,hL,h2,h3⟩
 . obtain ⟨o,es,ep,ho,r⟩:=hm;exact ⟨o,es,ep,k _ o (Ne.symm hL) ho,r⟩
 . refine (I.hok b u e).stay (fun c v hc q=>k c v ?_ q) (fun _ q=>q) fun _ _ q=>q;rcases hc with z|z
   . rw [z];exact nit b u e
   . exact nit c _ z
theorem Inv.tok (I:Inv X pins σ H s) (t:Nat):Inv X pins σ H { s with toks:=t }:=I.un (h':=s.heap) (t':=t) Un.refl I.hok
theorem Inv.kept {t':Nat} (I:Inv X pins σ H s) (k:∀ b u,s.heap.get? b=some u->h'.get? b=some u):Inv X pins σ H { s with heap:=h',toks:=t' }:=I.un (Un.kept k) (I.hok.kept k)
theorem Inv.laid {a:Addr} {o:HO} {t':Nat} (I:Inv X pins σ H s) (k:∀ b u,s.heap.get? b=some u->h'.get? b=some u) (hp:s.heap.objs.size<=a) (new:ObjOk X.prog X.w (upd H a o) h' a o) :
   Inv X pins σ (upd H a o) { s with heap:=h',toks:=t' }:=I.un (Un.laid k hp (I.hok.fresh hp)) (I.hok.laid k hp new)
theorem Inv.write {x e:Addr} {o:HO} {t':Nat} (I:Inv X pins σ H s) (mu:Mut (H x)) (he:e=x\/H e=some (.own x)) (k:∀ b u,b≠e->s.heap.get? b=some u->h'.get? b=some u) (heo:∃ u,h'.get? e=some u)
   (new:ObjOk X.prog X.w (upd H x o) h' x o):Inv X pins σ (upd H x o) { s with heap:=h',toks:=t' }:=I.un (Un.write mu he k heo) (I.hok.write mu he k heo new)
theorem Inv.pins_of {pins':List (Addr × Obj)} (I:Inv X pins σ H s) (h:∀ p∈pins',s.heap.get? p.1=some p.2/\H p.1=none/\p.1≠X.env.locals/\p.1 ∉ X.fs/\∀ v,p.2.data≠.cell v):Inv X pins' σ H s :=
 ⟨I.ok,I.os,I.bare,I.base,I.loc,I.cell,I.free,I.freeC,fun p hp=>(List.mem_append.mp hp).elim (fun z=>I.pin p (List.mem_append_left _ z)) (h p),I.hok,I.len⟩
theorem Fx {N:List Str} (hN:N.Nodup) {i j:Nat} {x:Str} (a:N[i]?=some x) (b:N[j]?=some x):i=j:=by
 obtain ⟨h1,e1⟩:=List.getElem?_eq_some_iff.mp a;obtain ⟨h2,e2⟩:=List.getElem?_eq_some_iff.mp b;exact (List.getElem_inj hN).mp (e1.trans e2.symm)
theorem C5 {M:Model} {A:Around} {E:Value->Shared->Prop} {i:Nat} {x:Str} {v:V} {u:Value} {Q:Unit->Shared->Prop} (I:Inv X pins σ H s) (hN:X.N.Nodup) (hi:X.N[i]?=some x) (hx:Loc X.env.scope x) (r:RelV v u)
   (h:∀ s',Inv X pins (σ.set i (some v)) H s'->(∃ a,Heap.SameBut a s.heap s'.heap/\(a=X.env.locals\/X.env.cells.lookup x=some a))->Q () s') (hf:X.fn x=true\/X.env.scope.names.lookup x=some .local:=by first|exact .inl rfl|exact .inr rfl|assumption):wpAny M A (storeName X.env x u) Q E s:=by
 obtain ⟨m,hn,hl⟩:=id I.loc;have hcls:(X.env.scope.kind == .class || (X.env.scope.kind == .module && X.env.locals != X.env.globals))=false:=by rw [I.ok.kind];rfl
 have hiσ:i<σ.length:=by rw [I.len];exact (List.getElem?_eq_some_iff.mp hi).1
 have cne:=I.cne;have tracked:∀ {a:Addr} {h':Heap},(∃ o,s.heap.get? a=some o/\H a=none)->Heap.SameBut a s.heap h'->HOk X.prog X.w H h':=fun {a h'} ha hs b ob e=>by
   obtain ⟨_,_,hfree⟩:=ha;refine (I.hok b ob e).stay (fun c w' hc q=>(hs.2 c ?_).trans q) (fun _ q=>q) fun _ _ q=>q;rintro rfl;rcases hc with rfl|hc
   . rw [hfree] at e;cases e
   . rw [hfree] at hc;cases hc
 rcases hx with hk|hk
 . refine wpAny_storeName_local hk hn (fun h' hn' hs=>?_) hcls;obtain ⟨oL,_,_,hoL,_⟩:=id hn;refine h _ ⟨I.ok,I.os,I.bare,⟨fun b o e n hb hx=>?_,fun b o e n hb hx=>?_,I.base.free,fun b o e hx=>?_,I.base.tups,I.base.frzs,I.base.tbls⟩,⟨_,hn',fun j y v' e1 e2 e3=>?_⟩,fun y c e=>?_,I.free,I.freeC,fun p hp=>?_,tracked ⟨oL,hoL,I.free⟩ hs,by simpa using I.len⟩ ⟨_,hs,.inl rfl⟩
   . exact (hs.2 b (Nat.ne_of_lt (Nat.lt_of_lt_of_le (Heap.lt_size e) I.ok.above))).trans (I.base.keep b o e n hb hx)
   . obtain ⟨sl,e1⟩:=I.base.slot b o e n hb hx;exact ⟨sl,(hs.2 b (Nat.ne_of_lt (Nat.lt_of_lt_of_le (Heap.lt_size e) I.ok.above))).trans e1⟩
   . obtain ⟨o',e1⟩:=I.base.there b o e hx;exact ⟨o',(hs.2 b (Nat.ne_of_lt (Nat.lt_of_lt_of_le (Heap.lt_size e) I.ok.above))).trans e1⟩
   . by_cases hj:j=i
     . subst hj;rw [hi] at e1;cases e1;rw [List.getElem?_set_self hiσ] at e2;cases e2;exact ⟨u,r,.inl ⟨hk,by simp⟩⟩
     . rw [List.getElem?_set_ne (Ne.symm hj)] at e2;obtain ⟨u',r',q⟩:=hl j y v' e1 e2 e3;refine ⟨u',r',?_⟩;rcases q with ⟨k,e⟩|⟨k,c,e,z⟩
       . refine .inl ⟨k,?_⟩;have:y≠x:=fun e=>hj (Fx hN e1 (e ▸ hi));simp [this,e]
       . exact .inr ⟨k,c,e,z.sameBut hs (cne y c e)⟩
   . obtain ⟨w',z⟩:=I.cell y c e;exact ⟨w',z.sameBut hs (cne y c e)⟩
   . obtain ⟨e,n,ne,nf,d⟩:=I.pin p hp;exact ⟨(hs.2 p.1 ne).trans e,n,ne,nf,d⟩
 . have hfn:X.fn x=true:=by
     rcases hf with z|z
     . exact z
     . rw [z] at hk;cases hk
   obtain ⟨c,hc⟩:=I.ok.has x (.inl hk);obtain ⟨w',z⟩:=I.cell x c hc;refine wpAny_storeName_cell I.ok.kind hk hc z (fun h' hc' hs=>?_);obtain ⟨oc,hoc,hocd⟩:=id z;refine h { s with heap:=h' } ⟨I.ok,I.os,I.bare,⟨fun b o e n hb hx=>?_,fun b o e n hb hx=>?_,I.base.free,fun b o e hx=>?_,I.base.tups,I.base.frzs,I.base.tbls⟩,⟨m,hn.sameBut hs (Ne.symm (cne x c hc)),fun j y v' e1 e2 e3=>?_⟩,fun y c' e=>?_,I.free,I.freeC,fun p hp=>?_,tracked ⟨oc,hoc,I.freeC x c hc⟩ hs,by simpa using I.len⟩ ⟨c,hs,.inr hc⟩
   . exact (hs.2 b (Nat.ne_of_lt (Nat.lt_of_lt_of_le (Heap.lt_size e) (I.ok.cab x c hfn hc)))).trans (I.base.keep b o e n hb hx)
   . obtain ⟨sl,e1⟩:=I.base.slot b o e n hb hx;exact ⟨sl,(hs.2 b (Nat.ne_of_lt (Nat.lt_of_lt_of_le (Heap.lt_size e) (I.ok.cab x c hfn hc)))).trans e1⟩
   . obtain ⟨o',e1⟩:=I.base.there b o e hx;exact ⟨o',(hs.2 b (Nat.ne_of_lt (Nat.lt_of_lt_of_le (Heap.lt_size e) (I.ok.cab x c hfn hc)))).trans e1⟩
   . by_cases hj:j=i
     . subst hj;rw [hi] at e1;cases e1;rw [List.getElem?_set_self hiσ] at e2;cases e2;exact ⟨u,r,.inr ⟨.inl hk,c,hc,hc'⟩⟩
     . rw [List.getElem?_set_ne (Ne.symm hj)] at e2;obtain ⟨u',r',q⟩:=hl j y v' e1 e2 e3;refine ⟨u',r',?_⟩;rcases q with q|⟨k,c',e,z'⟩
       . exact .inl q
       . refine .inr ⟨k,c',e,z'.sameBut hs ?_⟩;rintro rfl;exact hj (Fx hN e1 (I.ok.inj _ _ _ e hc ▸ hi))
   . by_cases hcc:c'=c
     . subst hcc;exact ⟨_,hc'⟩
     . obtain ⟨w2,z2⟩:=I.cell y c' e;exact ⟨w2,z2.sameBut hs hcc⟩
   . obtain ⟨e,n,ne,nf,d⟩:=I.pin p hp;refine ⟨(hs.2 p.1 ?_).trans e,n,ne,nf,d⟩;intro q;rw [q,hoc] at e;have q':oc=p.2:=Option.some.inj e;exact d w' (by rw [<- q'];exact hocd)
theorem Ev {M:Model} {A:Around} {E:Value->Shared->Prop} {i:Nat} {x:Str} {v:V} {u:Value} {Q:Unit->Shared->Prop} (I:Inv X pins σ H s) (hN:X.N.Nodup) (hi:X.N[i]?=some x) (hx:Loc X.env.scope x) (r:RelV v u)
   (h:∀ s',Inv X pins (σ.set i (some v)) H s'->Q () s') (hf:X.fn x=true\/X.env.scope.names.lookup x=some .local:=by first|exact .inl rfl|exact .inr rfl|assumption):wpAny M A (storeName X.env x u) Q E s :=
 C5 I hN hi hx r (fun s' I' _=>h s' I') hf
theorem Inv.call' {s':Shared} {ch:List Addr} (I:Inv X pins σ H s) (ho:s'.os=s.os) (u:Un (frs X.stack) ch H H' s.heap s'.heap) (hok:HOk X.prog X.w H' s'.heap) (hg:AllBare s'.gens)
   (hch:∀ b∈ch,(b∈X.ex\/X.s₀.heap.objs.size<=b)/\b≠X.env.locals/\(∀ x c,X.env.cells.lookup x=some c->c≠b)/\∀ p∈X.pn++pins,p.1≠b):Inv X pins σ H' s':=by
 obtain ⟨h',g',d',t',o'⟩:=s';have e:o'=s.os:=ho;subst e;exact I.call (g':=g') (t':=t') (d':=d') u hok hg hch
end
abbrev XK:=Value->Option Addr->Hp->Prop
abbrev St:=List (Option V)
abbrev VK:=V->Hp->Prop
abbrev TE:=St->Hp->VK->Prop
abbrev TT:=St->Hp->(Bool->Hp->Prop)->Prop
abbrev TA:=St->Hp->(List V->Hp->Prop)->Prop
structure Ends where
 nx:St->Hp->Prop
 rt:VK
 bk:St->Hp->Prop:=fun _ _=>False
 ct:St->Hp->Prop:=fun _ _=>False
abbrev TS:=Ends->St->Hp->Prop
def EP (X:Cx) (pins:List (Addr × Obj)) (σ:St) (Q:VK) (u:Value) (s':Shared):Prop:=∃ v H',Inv X pins σ H' s'/\RelV v u/\Q v H'
def TP (X:Cx) (pins:List (Addr × Obj)) (σ:St) (Q:Bool->Hp->Prop) (b:Bool) (s':Shared):Prop:=∃ H',Inv X pins σ H' s'/\Q b H'
def AP (X:Cx) (pins:List (Addr × Obj)) (σ:St) (Q:List V->Hp->Prop) (us:List Value) (s':Shared):Prop:=∃ vs H',Inv X pins σ H' s'/\Vals vs us/\Q vs H'
def SP (X:Cx) (pins:List (Addr × Obj)) (D:Ends) (f:Flow) (s':Shared):Prop :=
 match f with
 | .next=>∃ σ' H',Inv X pins σ' H' s'/\D.nx σ' H'
 | .brk=>∃ σ' H',Inv X pins σ' H' s'/\D.bk σ' H'
 | .cont=>∃ σ' H',Inv X pins σ' H' s'/\D.ct σ' H'
 | .ret u=>∃ v σ' H',Inv X pins σ' H' s'/\RelV v u/\D.rt v H'
def PE (X:Cx) (e:Expr) (t:TE):Prop :=
 ∀ (pins:List (Addr × Obj)) (s:Shared) (σ:St) (H:Hp) (Q:VK),Inv X pins σ H s->t σ H Q->wpAny (model X.prog X.w) X.A (eval e X.env) (EP X pins σ Q) X.xe s
def PT (X:Cx) (e:Expr) (t:TT):Prop :=
 ∀ (pins:List (Addr × Obj)) (s:Shared) (σ:St) (H:Hp) (Q:Bool->Hp->Prop),Inv X pins σ H s->t σ H Q->wpAny (model X.prog X.w) X.A (isTrue e X.env (eval e X.env)) (TP X pins σ Q) X.xe s
def PW (X:Cx) (e:Expr) (t:TT):Prop :=
 ∀ (whole:Sem Value) (pins:List (Addr × Obj)) (s:Shared) (σ:St) (H:Hp) (Q:Bool->Hp->Prop),Inv X pins σ H s->t σ H Q->wpAny (model X.prog X.w) X.A (isTrue e X.env whole) (TP X pins σ Q) X.xe s
theorem PW.pt {X:Cx} {e:Expr} {t:TT} (h:PW X e t):PT X e t:=h _
def PA (X:Cx) (es:List Expr) (t:TA):Prop :=
 ∀ (pos:Pos) (pins:List (Addr × Obj)) (s:Shared) (σ:St) (H:Hp) (Q:List V->Hp->Prop),Inv X pins σ H s->t σ H Q->wpAny (model X.prog X.w) X.A (spliced (backTo pos (starEach es X.env))) (AP X pins σ Q) X.xe s
def PS (X:Cx) (st:Stmt) (t:TS):Prop :=
 ∀ (pins:List (Addr × Obj)) (s:Shared) (σ:St) (H:Hp) (D:Ends),Inv X pins σ H s->t D σ H->wpAny (model X.prog X.w) X.A (exec st X.env) (SP X pins D) X.xe s
def PSs (X:Cx) (st:List Stmt) (t:TS):Prop :=
 ∀ (pins:List (Addr × Obj)) (s:Shared) (σ:St) (H:Hp) (D:Ends),Inv X pins σ H s->t D σ H->wpAny (model X.prog X.w) X.A (execs st X.env) (SP X pins D) X.xe s
theorem thn {α:Type} {t:Sem α} {Q Q':α->Shared->Prop} {M:Model} {A:Around} {E:Value->Shared->Prop} {s:Shared} (h:wpAny M A t Q E s) (hQ:∀ a s,Q a s->Q' a s):wpAny M A t Q' E s:=wpAny_mono h hQ fun _ _ x=>x
theorem bg {t:Sem Value} {X:Cx} {pins:List (Addr × Obj)} {σ:St} {Q:VK} {Q':Value->Shared->Prop} {M:Model} {A:Around} {E:Value->Shared->Prop} {s:Shared} (h:wpAny M A t (EP X pins σ Q) E s) (hQ:∀ u s v H,Inv X pins σ H s->RelV v u->Q v H->Q' u s):wpAny M A t Q' E s:=thn h fun u s ⟨v,H,I,r,q⟩=>hQ u s v H I r q
theorem rD {t:Sem (List Value)} {X:Cx} {pins:List (Addr × Obj)} {σ:St} {Q:List V->Hp->Prop} {Q':List Value->Shared->Prop} {M:Model} {A:Around} {E:Value->Shared->Prop} {s:Shared} (h:wpAny M A t (AP X pins σ Q) E s) (hQ:∀ u s v H,Inv X pins σ H s->Vals v u->Q v H->Q' u s):wpAny M A t Q' E s:=thn h fun u s ⟨v,H,I,r,q⟩=>hQ u s v H I r q
theorem Cl {t:Sem Bool} {X:Cx} {pins:List (Addr × Obj)} {σ:St} {Q:Bool->Hp->Prop} {Q':Bool->Shared->Prop} {M:Model} {A:Around} {E:Value->Shared->Prop} {s:Shared} (h:wpAny M A t (TP X pins σ Q) E s) (hQ:∀ u s H,Inv X pins σ H s->Q u H->Q' u s):wpAny M A t Q' E s:=thn h fun u s ⟨H,I,q⟩=>hQ u s H I q
end L2
namespace L2
open PySem PySem.Spec PyProof.Rows
section
variable {X:Cx}
def B8 (i:Nat):TE:=fun σ H Q=>∃ v,σ[i]?=some (some v)/\Q v H
def tC (v:V):TE:=fun _ H Q=>Q v H
theorem Ed {i:Nat} {x:Str} {pos:Pos} (hN:X.N[i]?=some x) (hv:Vis X.env.scope x) (hd:(x == ("__debug__":Str))=false:=by decide) (hcd:(x == ("__classdict__":Str))=false:=by decide):PE X (.Name x pos) (B8 i):=by
 intro pins s σ H Q I h;obtain ⟨v,e,h⟩:=h;obtain ⟨m,hn,hl⟩:=I.loc;obtain ⟨u,r,l⟩:=hl i x v hN e hv;have fin:EP X pins σ Q u s:=⟨v,H,I,r,h⟩;rcases l with ⟨hk,hm⟩|⟨hk,c,hc,hcell⟩
 . exact wpAny_Name (wpAny_loadName_local I.ok.kind hk hn hm fin) hd
 . rcases hk with hk|hk
   . exact wpAny_Name (wpAny_loadName_cell I.ok.kind hk hc hcell fin) hd
   . exact wpAny_Name (wpAny_loadName_free I.ok.kind hk hc hcell fin hcd) hd
theorem au {i j pos}:PE X (.Constant (.int i) j pos) (tC (.int i)):=fun _ _ _ H _ I h=>wpAny_Constant_int ⟨.int i,H,I.tok _,⟨_,rfl⟩,h⟩
theorem xR {b j pos}:PE X (.Constant (.bool b) j pos) (tC (.bl b)):=fun _ _ _ H _ I h=>Constant_bool ⟨.bl b,H,I,rfl,h⟩
theorem vM {j pos}:PE X (.Constant .none j pos) (tC .non):=fun _ _ _ H _ I h=>Constant_none ⟨.non,H,I,rfl,h⟩
theorem A7 {x j pos}:PE X (.Constant (.str x) j pos) (tC (.str x)):=fun _ _ _ H _ I h=>Calls.Constant_str ⟨.str x,H,I.tok _,⟨_,rfl⟩,h⟩
def Gl (X:Cx) (x:Str):Prop:=X.env.kindOf x=some .globalImplicit
theorem xM {E:Value->Shared->Prop} {pins:List (Addr × Obj)} {s:Shared} {σ:St} {H:Hp} {x:Str} {u:Value} {pos:Pos} {Q:Value->Shared->Prop} (I:Inv X pins σ H s) (hg:Gl X x) (hm:X.mg x=some u) (h:Q u s)
   (hd:(x == ("__debug__":Str))=false:=by decide):wpAny (model X.prog X.w) X.A (eval (.Name x pos) X.env) Q E s :=
 Calls.Name_function_global I.ok.kind hg (Calls.loadGlobal_global (by rw [I.ok.glob];exact I.mod.glob.keeps I.bk) hm h) hd
theorem nG {E:Value->Shared->Prop} {pins:List (Addr × Obj)} {s:Shared} {σ:St} {H:Hp} {x:Str} {u:Value} {pos:Pos} {Q:Value->Shared->Prop} (I:Inv X pins σ H s) (hg:Gl X x) (hm:X.mg x=none) (hv:bootBuiltins x=some u) (h:Q u s)
   (hn:x≠"__name__":=by decide) (hd:(x == ("__debug__":Str))=false:=by decide):wpAny (model X.prog X.w) X.A (eval (.Name x pos) X.env) Q E s:=by
 obtain ⟨mb,h1,h2⟩:=I.mod.blt;exact Calls.Name_function_global I.ok.kind hg (Calls.loadGlobal_builtin (by rw [I.ok.glob];exact I.mod.glob.keeps I.bk) hm (by rw [I.ok.blt];exact h1.keeps I.bk) ((h2 x hn).trans hv) h) hd
theorem OZ {x:Str} {v:V} {u:Value} {pos:Pos} (hg:Gl X x) (hm:X.mg x=some u) (r:RelV v u) (hd:(x == ("__debug__":Str))=false:=by decide):PE X (.Name x pos) (tC v) :=
 fun _ _ _ H _ I h=>xM I hg hm ⟨v,H,I,r,h⟩ hd
theorem GD {x:Str} {v:V} {u:Value} {pos:Pos} (hg:Gl X x) (hm:X.mg x=none) (hv:bootBuiltins x=some u) (r:RelV v u) (hn:x≠"__name__":=by decide) (hd:(x == ("__debug__":Str))=false:=by decide):PE X (.Name x pos) (tC v) :=
 fun _ _ _ H _ I h=>nG I hg hm hv ⟨v,H,I,r,h⟩ hn hd
variable {a b:Expr} {ta tb:TE} {pos:Pos}
def PC (X:Cx) (op:CmpOp) (a b:Expr) (t:TE):Prop :=
 ∀ (pins:List (Addr × Obj)) (s:Shared) (σ:St) (H:Hp) (Q:VK),Inv X pins σ H s->t σ H Q ->
   wpAny (model X.prog X.w) X.A (eval a X.env) (fun v s₁=>wpAny (model X.prog X.w) X.A (eval b X.env) (fun u s₂=>wpAny (model X.prog X.w) X.A (compareOp op v u) (EP X pins σ Q) X.xe s₂) X.xe s₁) X.xe s
theorem L0 (b:Expr) {op:CmpOp} (h:op≠.In) (h2:op≠.NotIn):behindInMarks op b=false:=by
 have e1:(op == CmpOp.In)=false:=by cases op <;> first|rfl|exact absurd rfl h
 have e2:(op == CmpOp.NotIn)=false:=by cases op <;> first|rfl|exact absurd rfl h2
 cases b <;> simp [behindInMarks,e1,e2]
def QT (ta:TE):TE:=fun σ H Q=>ta σ H fun x H1=>Q (.bl (decide (x=.non))) H1
def IQ (ta:TE):TE:=fun σ H Q=>ta σ H fun x H1=>Q (.bl (!decide (x=.non))) H1
theorem RelV.none_iff {x:V} {v:Value} (r:RelV x v):(v == Value.none)=decide (x=.non):=by
 cases x with
 | non=>cases r;rfl
 | bl _=>cases r;rfl
 | int _=>obtain ⟨t,rfl⟩:=r;rfl
 | str _=>obtain ⟨t,rfl⟩:=r;rfl
 | byt _=>obtain ⟨t,rfl⟩:=r;rfl
 | flt _=>obtain ⟨t,rfl⟩:=r;rfl
 | ref _=>cases r;rfl
 | ty _=>cases r;rfl
theorem G1 {j pos'} (ha:PE X a ta):PC X .IsNot a (.Constant .none j pos') (IQ ta):=by
 intro pins s σ H Q I h;refine bg (ha pins s σ H _ I h) fun v s1 x H1 I1 r1 q1=>?_;exact Constant_none (isnot_none_gen ⟨.bl _,H1,I1,by rw [r1.none_iff];rfl,q1⟩)
def tB (t:TE):TT:=fun σ H Q=>t σ H fun x H1=>∃ c,x=.bl c/\Q c H1
theorem A3 {op:CmpOp} {t:TE} (h:PC X op a b t) (h1:behindInMarks op b=false:=by first|exact L0 _ (by decide) (by decide)|rfl):PT X (.Compare a [op] [b] pos) (tB t):=by
 intro pins s σ H Q I hw;refine wpAny_isTrue_Compare1 (thn (h pins s σ H _ I hw) fun v s1 h1=>thn h1 fun u s2 h2=>thn h2 fun c s3 ⟨x,H1,I1,r1,q1⟩=>?_) h1;obtain ⟨d,rfl,q⟩:=q1;cases r1;exact wpAny_truthy_bool ⟨H1,I1,q⟩
theorem mZ {e:Expr} {t:TE} (h:PE X e t) (he:∀ whole,isTrue e X.env whole=(do let v <- whole;standAt e.pos;holding [v] (truthy v)):=by intro _;rfl):PT X e (tB t):=by
 intro pins s σ H Q I hw;refine isTrue_plain (bg (h pins s σ H _ I hw) fun v s1 x H1 I1 r1 q1=>?_) (he _);obtain ⟨d,rfl,q⟩:=q1;cases r1;exact wpAny_truthy_bool ⟨H1,I1,q⟩
variable {tA tB':TT} {rest:List Expr}
def LO (t u:TT):TT:=fun σ H Q=>t σ H fun c H1=>if c=true then u σ H1 Q else Q false H1
def tOr (t u:TT):TT:=fun σ H Q=>t σ H fun c H1=>if c=true then Q true H1 else u σ H1 Q
def MI (t:TT):TT:=fun σ H Q=>t σ H fun c H1=>Q (!c) H1
theorem sI (ha:PT X a tA):PW X (.BoolOp .And [a] pos) tA:=by
 intro wh pins s σ H Q I h;refine isTrue_and (thn (ha pins s σ H Q I h) fun c s1 e=>?_);cases c with
 | true=>exact isTrue_and_nil e
 | false=>exact e
theorem J0 (ha:PT X a tA):PW X (.BoolOp .Or [a] pos) tA:=by
 intro wh pins s σ H Q I h;refine isTrue_or (thn (ha pins s σ H Q I h) fun c s1 e=>?_);cases c with
 | false=>exact isTrue_or_nil e
 | true=>exact e
theorem wB (ha:PT X a tA) (hb:PW X (.BoolOp .And (b::rest) pos) tB'):PW X (.BoolOp .And (a::b::rest) pos) (LO tA tB'):=by
 intro wh pins s σ H Q I h;refine isTrue_and (Cl (ha pins s σ H _ I h) fun c s1 H1 I1 q1=>?_);cases c with
 | true=>exact hb wh pins s1 σ H1 Q I1 q1
 | false=>exact ⟨H1,I1,q1⟩
theorem DD (ha:PT X a tA) (hb:PW X (.BoolOp .Or (b::rest) pos) tB'):PW X (.BoolOp .Or (a::b::rest) pos) (tOr tA tB'):=by
 intro wh pins s σ H Q I h;refine isTrue_or (Cl (ha pins s σ H _ I h) fun c s1 H1 I1 q1=>?_);cases c with
 | true=>exact ⟨H1,I1,q1⟩
 | false=>exact hb wh pins s1 σ H1 Q I1 q1
theorem m8 (ha:PT X a tA):PT X (.UnaryOp .Not a pos) (MI tA):=by
 intro pins s σ H Q I h;exact isTrue_not (ha pins s σ H (fun c H1=>Q (!c) H1) I h)
def Jb (ta tb:TE):TE:=fun σ H Q=>ta σ H fun x H1=>∃ c,x=.bl c/\if c=true then tb σ H1 Q else Q (.bl false) H1
def QB (ta tb:TE):TE:=fun σ H Q=>ta σ H fun x H1=>∃ c,x=.bl c/\if c=true then Q (.bl true) H1 else tb σ H1 Q
def IX (ta:TE):TE:=fun σ H Q=>ta σ H fun x H1=>∃ c,x=.bl c/\Q (.bl (!c)) H1
theorem Eg {op} {t:TE} (h:PE X a t):PE X (.BoolOp op [a] pos) t:=fun pins s σ H Q I hw=>BoolOp_one (h pins s σ H Q I hw)
theorem Ft (ha:PE X a ta) (hb:PE X (.BoolOp .And (b::rest) pos) tb):PE X (.BoolOp .And (a::b::rest) pos) (Jb ta tb):=by
 intro pins s σ H Q I h;refine BoolOp_and (bg (ha pins s σ H _ I h) fun v s1 x H1 I1 r1 q1=>?_);obtain ⟨c,rfl,q1⟩:=q1;cases r1;refine wpAny_truthy_bool ?_;cases c with
 | true=>exact hb pins s1 σ H1 Q I1 q1
 | false=>exact ⟨.bl false,H1,I1,rfl,q1⟩
theorem JM (ha:PE X a ta):PE X (.UnaryOp .Not a pos) (IX ta):=by
 intro pins s σ H Q I h;refine UnaryOp_ (bg (ha pins s σ H _ I h) fun v s1 x H1 I1 r1 q1=>?_);obtain ⟨c,rfl,q1⟩:=q1;cases r1;exact not_of (wpAny_truthy_bool ⟨.bl (!c),H1,I1,rfl,q1⟩)
def tIf (t:TT) (ta tb:TE):TE:=fun σ H Q=>t σ H fun c H1=>if c=true then ta σ H1 Q else tb σ H1 Q
end
end L2
namespace L2
open PySem PySem.Spec PyProof.Rows
def SqL (K:PySem.W.Frag) (H:Hp) (a:Addr) (xs:List V):Prop :=
 Rd H a (.lst xs) \/
   ∃ (o:Obj) (its:Array Value) (n:Nat),K.lookup a=some o/\o.cls=.type "list"/\o.dict=none/\o.data=.seq its n/\its.size<=sizeLine/\Vals xs its.toList
def SqT (K:PySem.W.Frag) (H:Hp) (a:Addr) (xs:List V):Prop :=
 Rd H a (.tup xs) \/
   ∃ (o:Obj) (its:Array Value) (n:Nat),K.lookup a=some o/\o.cls=.type "tuple"/\o.data=.seq its n/\its.size<=sizeLine/\Vals xs its.toList
def Ri:Value->Option V
 | .none=>some .non
 | .bool b=>some (.bl b)
 | .int i _=>some (.int i)
 | .str x _=>some (.str x)
 | .bytes b _=>some (.byt b)
 | .float b _=>some (.flt b)
 | .ref a=>some (.ref a)
 | .type n=>some (.ty n)
 | _=>none
theorem RelV.abs {x:V} {u:Value} (r:RelV x u):Ri u=some x:=by
 cases x with
 | non=>cases r;rfl
 | bl _=>cases r;rfl
 | int _=>obtain ⟨t,rfl⟩:=r;rfl
 | str _=>obtain ⟨t,rfl⟩:=r;rfl
 | byt _=>obtain ⟨t,rfl⟩:=r;rfl
 | flt _=>obtain ⟨t,rfl⟩:=r;rfl
 | ref _=>cases r;rfl
 | ty _=>cases r;rfl
theorem RelV.inj {x y:V} {u:Value} (r:RelV x u) (q:RelV y u):x=y:=Option.some.inj (r.abs.symm.trans q.abs)
theorem Vals.inj {xs ys:List V} {us:List Value} (h:Vals xs us) (h2:Vals ys us):xs=ys:=by
 induction h generalizing ys with
 | nil=>cases h2;rfl
 | cons r _ ih=>cases h2 with|cons r2 t2=>rw [r.inj r2,ih t2]
section
variable {X:Cx} {pins:List (Addr × Obj)} {σ:St} {H:Hp} {s:Shared} {a:Addr} {xs ys:List V}
theorem SqL.of {K:PySem.W.Frag} (h:H a=some (.lst xs)):SqL K H a xs:=.inl (.inl h)
theorem SqT.of {K:PySem.W.Frag} (h:H a=some (.tup xs)):SqT K H a xs:=.inl (.inl h)
theorem Inv.list (I:Inv X pins σ H s) (h:SqL X.K H a xs):∃ its:List Value,Vals xs its/\PlainL s.heap a its.toArray/\xs.length<=sizeLine:=by
 rcases h with h|⟨o,its,n,hk,hc,hd,hs,hz,r⟩
 . obtain ⟨z,its,n,r,e⟩:=h.ok I.hok;exact ⟨its,r,⟨_,n,e,rfl,rfl,rfl⟩,z⟩
 . refine ⟨its.toList,r,⟨o,n,I.kIn a o hk,hc,hd,by simpa using hs⟩,?_⟩;have e:=r.length;simp only [Array.length_toList] at e;omega
theorem Inv.tuple (I:Inv X pins σ H s) (h:SqT X.K H a xs):∃ its:List Value,Vals xs its/\IsTup s.heap a its.toArray/\xs.length<=sizeLine:=by
 rcases h with h|⟨o,its,n,hk,hc,hs,hz,r⟩
 . obtain ⟨z,its,r,p⟩:=h.ok I.hok;exact ⟨its,r,p,z⟩
 . refine ⟨its.toList,r,⟨o,I.kIn a o hk,hc,n,by simpa using hs⟩,?_⟩;have e:=r.length;simp only [Array.length_toList] at e;omega
theorem Inv.list_inj (I:Inv X pins σ H s) (h:SqL X.K H a xs) (h':SqL X.K H a ys):xs=ys:=by
 obtain ⟨its,r,⟨o,n,e,_,_,d⟩,_⟩:=I.list h;obtain ⟨its',r',⟨o',n',e',_,_,d'⟩,_⟩:=I.list h';rw [e] at e';cases e';rw [d] at d';injection d' with d1 _
 have:its=its':=by simpa using congrArg Array.toList d1
 subst this;exact r.inj r'
theorem Inv.tuple_inj (I:Inv X pins σ H s) (h:SqT X.K H a xs) (h':SqT X.K H a ys):xs=ys:=by
 obtain ⟨its,r,⟨o,e,_,n,d⟩,_⟩:=I.tuple h;obtain ⟨its',r',⟨o',e',_,n',d'⟩,_⟩:=I.tuple h';rw [e] at e';cases e';rw [d] at d';injection d' with d1 _
 have:its=its':=by simpa using congrArg Array.toList d1
 subst this;exact r.inj r'
end
abbrev Cx.wish (X:Cx) (E:Value->Shared->Prop):Cx:={ X with xe:=E }
abbrev Cx.nox (X:Cx):Cx:=X.wish fun _ _=>False
theorem Cx.Ok.wish {X:Cx} (ok:X.Ok) (E:Value->Shared->Prop):(X.wish E).Ok :=
 ⟨ok.mod,ok.kind,ok.glob,ok.blt,ok.above,ok.inj,ok.has,ok.cab,ok.hd,ok.frames,ok.stk,ok.exf,ok.bs,ok.bsz,ok.noex,ok.exfs,ok.funs,ok.frf⟩
theorem Cx.Ok.unwish {X:Cx} {E:Value->Shared->Prop} (ok:(X.wish E).Ok):X.Ok :=
 ⟨ok.mod,ok.kind,ok.glob,ok.blt,ok.above,ok.inj,ok.has,ok.cab,ok.hd,ok.frames,ok.stk,ok.exf,ok.bs,ok.bsz,ok.noex,ok.exfs,ok.funs,ok.frf⟩
section
variable {X:Cx} {pins:List (Addr × Obj)} {σ:St} {H:Hp} {s:Shared} {E:Value->Shared->Prop}
theorem Inv.wish (I:Inv X pins σ H s) (E:Value->Shared->Prop):Inv (X.wish E) pins σ H s:=⟨I.ok.wish E,I.os,I.bare,I.base,I.loc,I.cell,I.free,I.freeC,I.pin,I.hok,I.len⟩
theorem Inv.unwish (I:Inv (X.wish E) pins σ H s):Inv X pins σ H s:=⟨I.ok.unwish,I.os,I.bare,I.base,I.loc,I.cell,I.free,I.freeC,I.pin,I.hok,I.len⟩
theorem SP.unwish {D:Ends} {f:Flow} {s':Shared} (h:SP (X.wish E) pins D f s'):SP X pins D f s':=by
 cases f with
 | next=>obtain ⟨σ',H',I,q⟩:=h;exact ⟨σ',H',I.unwish,q⟩
 | brk=>obtain ⟨σ',H',I,q⟩:=h;exact ⟨σ',H',I.unwish,q⟩
 | cont=>obtain ⟨σ',H',I,q⟩:=h;exact ⟨σ',H',I.unwish,q⟩
 | ret u=>obtain ⟨v,σ',H',I,r,q⟩:=h;exact ⟨v,σ',H',I.unwish,r,q⟩
theorem PSs.nox {st:List Stmt} {t:TS} (h:PSs X.nox st t):PSs X st t:=fun pins s σ H D I hw =>
 wpAny_mono (h pins s σ H D (I.wish _) hw) (fun _ _ q=>q.unwish) fun _ _ z=>False.elim z
end
section
variable {X:Cx} {st:Stmt} {rest:List Stmt} {t u:TS} {e:Expr} {te:TE} {pos:Pos}
def tNext:TS:=fun D σ H=>D.nx σ H
def HH (t u:TS):TS:=fun D σ H=>t { D with nx:=u D } σ H
theorem bo:PSs X [] tNext:=fun _ _ σ H _ I h=>wpAny_execs_nil ⟨σ,H,I,h⟩
theorem ao (h1:PS X st t) (h2:PSs X rest u):PSs X (st::rest) (HH t u):=by
 intro pins s σ H D I h;refine wpAny_execs_cons (thn (h1 pins s σ H { D with nx:=u D } I h) fun f s1 q=>?_);cases f with
 | next =>
   obtain ⟨σ',H',I',q⟩:=q;exact h2 pins s1 σ' H' D I' q
 | ret v=>exact q
 | brk=>exact q
 | cont=>exact q
theorem aq (h1:PS X st t):PSs X [st] t:=by
 intro pins s σ H D I h;refine wpAny_execs_cons (thn (h1 pins s σ H D I h) fun f s1 q=>?_);cases f with
 | next=>exact wpAny_execs_nil q
 | ret v=>exact q
 | brk=>exact q
 | cont=>exact q
theorem Inv.quiet {pins:List (Addr × Obj)} {σ:St} {H:Hp} {s:Shared} (I:Inv X pins σ H s):interactive X.env=false:=by simp [interactive,I.ok.kind]
def I0 (te:TE):TS:=fun D σ H=>te σ H fun _ H1=>D.nx σ H1
theorem cX (he:PE X e te) (hs:swapsWith e none pos.line X.env=pure false:=by rfl):PS X (.Expr e pos) (I0 te):=by
 intro pins s σ H D I h;exact wpAny_Expr_any (bg (he pins s σ H _ I h) fun v s1 x H1 I1 r1 q1=>⟨σ,H1,I1,q1⟩) I.quiet hs
def LU (te:TE):TS:=fun D σ H=>te σ H D.rt
theorem aO (he:PE X e te):PS X (.Return (some e) pos) (LU te):=by
 intro pins s σ H D I h;exact wpAny_Return_some (bg (he pins s σ H _ I h) fun v s1 x H1 I1 r1 q1=>⟨x,σ,H1,I1,r1,q1⟩)
def OC:TS:=fun D _ H=>D.rt .non H
def Lj (c:TT) (t u:TS):TS:=fun D σ H=>c σ H fun b H1=>if b=true then t D σ H1 else u D σ H1
theorem ce {c:Expr} {a b:List Stmt} {tc:TT} (hc:PT X c tc) (ha:PSs X a t) (hb:PSs X b u):PS X (.If c a b pos) (Lj tc t u):=by
 intro pins s σ H D I h;refine wpAny_If (Cl (hc pins s σ H _ I h) fun d s1 H1 I1 q1=>?_);cases d with
 | true=>exact ha pins s1 σ H1 D I1 q1
 | false=>exact hb pins s1 σ H1 D I1 q1
def tNever:TS:=fun _ _ _=>False
theorem my:PS X st tNever:=fun _ _ _ _ _ _ h=>h.elim
end
abbrev TG:=V->St->Hp->(St->Hp->Prop)->Prop
abbrev TGs:=List V->St->Hp->(St->Hp->Prop)->Prop
def PG (X:Cx) (target:Expr) (t:TG):Prop :=
 ∀ (pins:List (Addr × Obj)) (s:Shared) (σ:St) (H:Hp) (v:V) (u:Value) (Q:St->Hp->Prop),Inv X pins σ H s->RelV v u->t v σ H Q ->
   wpAny (model X.prog X.w) X.A (assign target X.env u) (fun _ s'=>∃ σ' H',Inv X pins σ' H' s'/\Q σ' H') X.xe s
def PGs (X:Cx) (ts:List Expr) (t:TGs):Prop :=
 ∀ (pins:List (Addr × Obj)) (s:Shared) (σ:St) (H:Hp) (vs:List V) (us:List Value) (Q:St->Hp->Prop),Inv X pins σ H s->Vals vs us->t vs σ H Q ->
   wpAny (model X.prog X.w) X.A (assignInOrder ((assignEach ts X.env).map (·.2)) us) (fun _ s'=>∃ σ' H',Inv X pins σ' H' s'/\Q σ' H') X.xe s
abbrev Ez:=V->V->V->Hp->(Hp->Prop)->Prop
def Ng (X:Cx) (t:Ez):Prop :=
 ∀ (pins:List (Addr × Obj)) (s:Shared) (σ:St) (H:Hp) (o i v:V) (ov iv u:Value) (Q:Hp->Prop),Inv X pins σ H s->RelV o ov->RelV i iv->RelV v u->t o i v H Q ->
   wpAny (model X.prog X.w) X.A (setItem ov iv u) (fun _ s'=>∃ H',Inv X pins σ H' s'/\Q H') X.xe s
abbrev TIp:=V->V->Hp->VK->Prop
def PIp (X:Cx) (op:Operator) (t:TIp):Prop :=
 ∀ (pins:List (Addr × Obj)) (s:Shared) (σ:St) (H:Hp) (x y:V) (v u:Value) (Q:VK),Inv X pins σ H s->RelV x v->RelV y u->t x y H Q ->
   wpAny (model X.prog X.w) X.A (inplaceOp op v u) (EP X pins σ Q) X.xe s
section
variable {X:Cx} {pos:Pos}
def AV (i:Nat):TG:=fun v σ H Q=>Q (σ.set i (some v)) H
theorem aG {i:Nat} {x:Str} (hN:X.N.Nodup) (hi:X.N[i]?=some x) (hx:Loc X.env.scope x) (hf:X.fn x=true\/X.env.scope.names.lookup x=some .local:=by first|exact .inl rfl|exact .inr rfl|assumption):PG X (.Name x pos) (AV i):=by
 intro pins s σ H v u Q I r h;exact wpAny_assign_Name (Ev I hN hi hx r (fun s' I'=>⟨_,H,I',h⟩) hf)
def gNil:TGs:=fun vs σ H Q=>vs=[]/\Q σ H
def Jd (t:TG) (u:TGs):TGs:=fun vs σ H Q=>∃ v r,vs=v::r/\t v σ H fun σ' H'=>u r σ' H' Q
theorem jR:PGs X [] gNil:=by
 intro pins s σ H vs us Q I r h;obtain ⟨e,h⟩:=h;subst e;cases r;exact assignInOrder_nil ⟨σ,H,I,h⟩
theorem bB {e:Expr} {es:List Expr} {t:TG} {u:TGs} (h1:PG X e t) (h2:PGs X es u)
   (hs:(assignEach (e::es) X.env).map (·.2)=assign e X.env::(assignEach es X.env).map (·.2):=by rfl):PGs X (e::es) (Jd t u):=by
 intro pins s σ H vs us Q I r h;obtain ⟨v,vr,e1,h⟩:=h;subst e1;cases r with
 | cons r rr =>
   rw [hs];refine assignInOrder_cons (thn (h1 pins s σ H _ _ _ I r h) fun _ s1 ⟨σ1,H1,I1,q1⟩=>?_);exact h2 pins s1 σ1 H1 _ _ Q I1 rr q1
def Hs (K:PySem.W.Frag) (n:Nat) (t:TGs):TG:=fun v σ H Q=>∃ a xs,v=.ref a/\SqT K H a xs/\xs.length=n/\t xs σ H Q
theorem nC {es:List Expr} {k:Nat} {t:TGs} {n:Nat} (hc:X.calm=true) (h:PGs X es t)
   (hn:(assignEach es X.env).length=n:=by rfl) (hst:(assignEach es X.env).findIdx? (·.1)=none:=by rfl):PG X (.Tuple es k pos) (Hs X.K n t):=by
 intro pins s σ H v u Q I r hw;obtain ⟨a,xs,e1,hq,hl,hw⟩:=hw;subst e1;cases r;obtain ⟨its,rv,ht,hz⟩:=I.tuple hq;refine assign_Tuple_tuple (I.ok.hd hc) ht (by simp [hn,<- hl,rv.length]) hst fun h' hx=>?_;have I1:Inv X pins σ H { s with heap:=h' }:=I.kept (t':=s.toks) fun b o e=>hx b o (Nat.ne_of_lt (Heap.lt_size e)) e;exact h pins _ σ H xs _ Q I1 (by simpa using rv) hw
def MA (to ti:TE) (t:Ez):TG:=fun v σ H Q=>to σ H fun o H1=>ti σ H1 fun i H2=>t o i v H2 fun H3=>Q σ H3
theorem wx {o i:Expr} {to ti:TE} {t:Ez} (ho:PE X o to) (hi:PE X i ti) (hs:Ng X t)
   (ha:∀ v,assign (.Subscript o i pos) X.env v=(do
     let ov <- holding [v] (eval o X.env)
     let iv <- holding [v,ov] (eval i X.env)
     standAt pos
     holding [v,ov,iv] (setItem ov iv v)
     release [v,ov,iv] []):=by intro _;rfl):PG X (.Subscript o i pos) (MA to ti t):=by
 intro pins s σ H v u Q I r h;rw [ha];refine wpAny_bind (wpAny_holding (bg (ho pins s σ H _ I h) fun ov s1 x H1 I1 r1 q1=>?_));refine wpAny_bind (wpAny_holding (bg (hi pins s1 σ H1 _ I1 q1) fun iv s2 y H2 I2 r2 q2=>?_));refine wpAny_bind (wpAny_standAt (wpAny_bind (wpAny_holding (thn (hs pins s2 σ H2 x y v ov iv u _ I2 r1 r2 r q2) fun _ s3 ⟨H3,I3,q3⟩=>?_))));exact wpAny_release ⟨σ,H3,I3,q3⟩
def D5 (te:TE) (g:TG):TS:=fun D σ H=>te σ H fun x H1=>g x σ H1 D.nx
theorem pA {tg e:Expr} {te:TE} {g:TG} (he:PE X e te) (hg:PG X tg g) (hs:swapsWithSole [tg] e pos.line X.env=pure false:=by rfl) (hw:swappedStores [tg] e X.env=pure none:=by rfl)
   (h1:(assignEach [tg] X.env).map (·.2)=[assign tg X.env]:=by rfl):PS X (.Assign [tg] e pos) (D5 te g):=by
 intro pins s σ H D I h;refine wpAny_Assign_stores (bg (he pins s σ H _ I h) fun v s1 x H1 I1 r1 q1=>?_) hs hw;rw [h1];exact thn (hg pins s1 σ H1 x v _ I1 r1 q1) fun _ s2 q=>q
theorem aI {i:Nat} {x:Str} {e:Expr} {te:TE} {pos':Pos} (hN:X.N.Nodup) (hi:X.N[i]?=some x) (hx:Loc X.env.scope x) (he:PE X e te) (hs:swapsWith e (some (.Name x pos')) pos.line X.env=pure false:=by rfl) (hf:X.fn x=true\/X.env.scope.names.lookup x=some .local:=by first|exact .inl rfl|exact .inr rfl|assumption) :
   PS X (.Assign [.Name x pos'] e pos) (D5 te (AV i)):=by
 intro pins s σ H D I h;refine wpAny_Assign_Name (bg (he pins s σ H _ I h) fun v s1 y H1 I1 r1 q1=>?_) hs;exact Ev I1 hN hi hx r1 (fun s2 I2=>⟨_,H1,I2,q1⟩) hf
def QF (i:Nat) (te:TE) (ti:TIp):TS:=fun D σ H=>∃ x,σ[i]?=some (some x)/\te σ H fun y H1=>ti x y H1 fun z H2=>D.nx (σ.set i (some z)) H2
def HZ (to ti te:TE) (tget:V->V->Hp->VK->Prop) (tip:TIp) (tset:Ez):TS:=fun D σ H=>to σ H fun o H1=>ti σ H1 fun i H2=>tget o i H2 fun x H3=>te σ H3 fun y H4=>tip x y H4 fun z H5=>tset o i z H5 fun H6=>D.nx σ H6
def Qp (X:Cx) (t:V->V->Hp->VK->Prop):Prop :=
 ∀ (pins:List (Addr × Obj)) (s:Shared) (σ:St) (H:Hp) (o i:V) (ov iv:Value) (Q:VK),Inv X pins σ H s->RelV o ov->RelV i iv->t o i H Q ->
   wpAny (model X.prog X.w) X.A (getItem ov iv) (EP X pins σ Q) X.xe s
theorem GV {o i e:Expr} {to ti te:TE} {tget:V->V->Hp->VK->Prop} {tip:TIp} {tset:Ez} {op:Operator} {tpos:Pos} (ho:PE X o to) (hi:PE X i ti) (hg:Qp X tget) (he:PE X e te) (hp:PIp X op tip) (hs:Ng X tset)
   (ha:∀ ov iv new,augStore i ov iv new=(do holding [new,ov,iv] (setItem ov iv new);release [new,ov,iv] [];pure .next):=by intros;rfl):PS X (.AugAssign (.Subscript o i tpos) op e pos) (HZ to ti te tget tip tset):=by
 intro pins s σ H D I h;refine wpAny_AugAssign_SubscriptAny (bg (ho pins s σ H _ I h) fun ov s1 x1 H1 I1 r1 q1=>?_) ha;refine bg (hi pins s1 σ H1 _ I1 q1) fun iv s2 x2 H2 I2 r2 q2=>?_;refine thn (hg pins s2 σ H2 x1 x2 ov iv _ I2 r1 r2 q2) fun old s3 ⟨x3,H3,I3,r3,q3⟩=>?_;refine bg (he pins s3 σ H3 _ I3 q3) fun v s4 x4 H4 I4 r4 q4=>?_;refine thn (hp pins s4 σ H4 x3 x4 old v _ I4 r3 r4 q4) fun new s5 ⟨x5,H5,I5,r5,q5⟩=>?_;exact thn (hs pins s5 σ H5 x1 x2 x5 ov iv new _ I5 r1 r2 r5 q5) fun _ s6 ⟨H6,I6,q6⟩=>⟨σ,H6,I6,q6⟩
def ipI (f:Int->Int->Int):TIp:=fun x y H Q=>∃ i j,x=.int i/\y=.int j/\Q (.int (f i j)) H
theorem KQ:PIp X .Add (ipI fun i j=>i+j):=by
 intro pins s σ H x y v u Q I r1 r2 h;obtain ⟨i,j,e1,e2,q⟩:=h;subst e1;subst e2;obtain ⟨t,rfl⟩:=r1;obtain ⟨t',rfl⟩:=r2;exact iadd_int ⟨.int _,H,I.tok _,⟨_,rfl⟩,q⟩
end
section
variable {X:Cx} {pos:Pos}
def Eu (c:TT) (tb:TS):TS:=fun D σ H=>∃ W:Nat->St->Hp->Prop,(∃ m,W m σ H)/\∀ m σ H,W m σ H ->
 c σ H fun b H1=>if b=true then ∃ N:St->Hp->Prop,(∀ σ' H',N σ' H'->∃ m',m'<m/\W m' σ' H')/\tb { D with nx:=N,ct:=N,bk:=D.nx } σ H1 else D.nx σ H1
theorem uD {c:Expr} {body:List Stmt} {tc:TT} {tb:TS} (hp:PassesOwn (model X.prog X.w) X.A X.env X.xe) (hc:PT X c tc) (hb:PSs X body tb):PS X (.While c body [] pos) (Eu tc tb):=by
 intro pins s σ H D I h;obtain ⟨W,⟨m0,w0⟩,turn⟩:=h;refine wpAny_While (codeAny_whileLoop (fun n s'=>∃ σ' H',Inv X pins σ' H' s'/\W n σ' H') ?_ m0 ⟨σ,H,I,w0⟩);rintro n s1 ⟨σ1,H1,I1,w1⟩;refine wpAny_passesOwn hp (Cl (hc pins s1 σ1 H1 _ I1 (turn n σ1 H1 w1)) fun b s2 H2 I2 q2=>?_);cases b with
 | true =>
   obtain ⟨N,hN,q2⟩:=q2;rw [if_pos rfl];refine wpAny_passesOwn hp (thn (hb pins s2 σ1 H2 _ I2 q2) fun f s3 q3=>?_);cases f with
   | next =>
     obtain ⟨σ3,H3,I3,n3⟩:=q3;obtain ⟨m',hm,w3⟩:=hN σ3 H3 n3;exact ⟨m',hm,σ3,H3,I3,w3⟩
   | cont =>
     obtain ⟨σ3,H3,I3,n3⟩:=q3;obtain ⟨m',hm,w3⟩:=hN σ3 H3 n3;exact ⟨m',hm,σ3,H3,I3,w3⟩
   | brk=>exact q3
   | ret v=>exact q3
 | false =>
   rw [if_neg Bool.false_ne_true];exact wpAny_execs_nil ⟨σ1,H2,I2,q2⟩
end
structure It where
 go:Nat->Hp->Prop
 yld:Nat->Hp->V->Hp->Prop
 stop:Nat->Hp->Prop
def kJ (X:Cx) (pins:List (Addr × Obj)) (H:Hp) (b:Addr):Prop :=
 H b=none/\b≠X.env.locals/\b ∉ X.fs/\(b∈X.ex\/X.s₀.heap.objs.size<=b)/\(∀ x c,X.env.cells.lookup x=some c->c≠b)/\∀ p∈X.pn++pins,p.1≠b
theorem Inv.fpOk {X:Cx} {pins:List (Addr × Obj)} {σ:St} {H H':Hp} {s:Shared} {b:Addr} (I:Inv X pins σ H s) (hb:s.heap.objs.size<=b) (hn:H' b=none):kJ X pins H' b:=by
 refine ⟨hn,Nat.ne_of_gt (Nat.lt_of_lt_of_le I.lt hb),I.nofs hb,.inr (Nat.le_trans I.sz hb),fun x c e z=>?_,fun p hp z=>?_⟩
 . obtain ⟨v,q⟩:=I.cell x c e;exact absurd (Nat.lt_of_lt_of_le q.lt (by rw [z];exact hb)) (Nat.lt_irrefl _)
 . exact absurd (Nat.lt_of_lt_of_le (Heap.lt_size (I.pin p hp).1) (by rw [z];exact hb)) (Nat.lt_irrefl _)
structure Turn (P:Program) (w:World) (K:PySem.W.Frag) (tg:Expr) (J:It) (fp:List Addr) (it:Addr) (tn:Nat->Heap->Prop):Prop where
 mem:it∈fp
 obj:∀ i h,tn i h->∀ b∈fp,∃ o,h.get? b=some o/\∀ v,o.data≠.cell v
 keep:∀ i h h',tn i h->(∀ b∈fp,∀ o,h.get? b=some o->h'.get? b=some o)->tn i h'
 item:∀ (X:Cx),X.prog=P->X.w=w->X.K=K->X.calm=true->∀ (i:Nat) (pins:List (Addr × Obj)) (s:Shared) (σ:St) (H:Hp) (E:Value->Shared->Prop),Inv X pins σ H s->(∀ b∈fp,kJ X pins H b)->tn i s.heap->J.go i H ->
   wpAny (model P w) X.A (pyNext (.ref it)) (fun r s1=>∃ u,r=some u /\
     wpAny (model P w) X.A (letOwnedTupleGo tg (.ref it) u) (fun _ s2=>∃ x H',Inv X pins σ H' s2/\RelV x u/\J.yld i H x H'/\tn (i+1) s2.heap/\∀ b∈fp,H' b=none) E s1) E s
 done:∀ (X:Cx),X.prog=P->X.w=w->X.K=K->X.calm=true->∀ (i:Nat) (pins:List (Addr × Obj)) (s:Shared) (σ:St) (H:Hp) (E:Value->Shared->Prop),Inv X pins σ H s->(∀ b∈fp,kJ X pins H b)->tn i s.heap->J.stop i H ->
   wpAny (model P w) X.A (pyNext (.ref it)) (fun r s1=>r=none/\Inv X pins σ H s1) E s
 self:∀ (A:Around) (i:Nat) (s:Shared) (Q:Value->Shared->Prop) (E:Value->Shared->Prop),tn i s.heap->Q (.ref it) s->wpAny (model P w) A (pyIter (.ref it)) Q E s
abbrev TI:=St->Hp->(It->Hp->Prop)->Prop
def PIE (X:Cx) (pins:List (Addr × Obj)) (σ:St) (tg:Expr) (R:It->Hp->Prop) (itv:Value) (s2:Shared):Prop :=
 ∃ (it:Addr) (fp:List Addr) (tn:Nat->Heap->Prop) (J:It) (H':Hp),itv=.ref it/\Inv X pins σ H' s2/\Turn X.prog X.w X.K tg J fp it tn/\tn 0 s2.heap/\(∀ b∈fp,kJ X pins H' b)/\R J H'
def PI (X:Cx) (tg iter:Expr) (wi:TI):Prop :=
 ∀ (pins:List (Addr × Obj)) (s:Shared) (σ:St) (H:Hp) (R:It->Hp->Prop),Inv X pins σ H s->wi σ H R ->
   wpAny (model X.prog X.w) X.A (eval iter X.env) (fun v s1=>wpAny (model X.prog X.w) X.A (pyIter v) (PIE X pins σ tg R) X.xe s1) X.xe s
theorem Dz {M:Model} {A:Around} {E:Value->Shared->Prop} {s:Shared} {tg:Expr} {it:Addr} {u:Value} {o:Obj} {n:String} {vs:Array Value} {Q:Unit->Shared->Prop} (ho:s.heap.get? it=some o) (hc:o.cls=.type n) (hd:o.data=.fields vs)
   (hn:["enumerate","zip","dict_itemiterator","dict_reverseitemiterator","odict_iterator","itertools.zip_longest","itertools.pairwise"].contains n=false) (hQ:Q () s):wpAny M A (letOwnedTupleGo tg (.ref it) u) Q E s:=by
 unfold letOwnedTupleGo;cases tg <;> first
   | exact wpAny_pure hQ
   | (cases u <;> first
       | exact wpAny_pure hQ
       | (refine wpAny_bind (wpAny_load ho ?_)
          rw [hc,hd];show wpAny M A (if (["enumerate","zip","dict_itemiterator","dict_reverseitemiterator","odict_iterator","itertools.zip_longest","itertools.pairwise"].contains n && vs[0]? == some (rawInt _))=true then _ else _) Q E s;rw [if_neg (by intro h;rw [hn,Bool.false_and] at h;cases h)];exact wpAny_pure hQ))
def Itl (K:PySem.W.Frag) (a:Addr):It :=
 ⟨fun i H=>∃ xs x,SqL K H a xs/\xs[i]?=some x,fun i H x H'=>H'=H/\∀ xs,SqL K H a xs->xs[i]?=some x,fun i H=>∃ xs,SqL K H a xs/\xs.length<=i⟩
def Itt (K:PySem.W.Frag) (a:Addr):It :=
 ⟨fun i H=>∃ xs x,SqT K H a xs/\xs[i]?=some x,fun i H x H'=>H'=H/\∀ xs,SqT K H a xs->xs[i]?=some x,fun i H=>∃ xs,SqT K H a xs/\xs.length<=i⟩
def Itr (lo:Int) (n:Nat):It:=⟨fun i _=>i<n,fun i H x H'=>H'=H/\x=.int (lo+i),fun i _=>n<=i⟩
theorem Kl {P:Program} {w:World} {K:PySem.W.Frag} {tg:Expr} (a it:Addr):Turn P w K tg (Itl K a) [it] it (fun i h=>h.IsListIter it a i) where
 mem:=by simp
 obj:=fun i h st b hb=>by
   have e:b=it:=by simpa using hb
   subst e;obtain ⟨o,e,c,d⟩:=st;exact ⟨o,e,fun v z=>by rw [d] at z;cases z⟩
 keep:=fun i h h' st k=>st.at fun o e=>k it (by simp) o e
 item:=by
   intro X hP hw hK hc i pins s σ H E I hf st hg;subst hP hw hK;obtain ⟨xs,x,hq,hx⟩:=hg;obtain ⟨its,rv,p,hz⟩:=I.list hq;obtain ⟨u,hu,ru⟩:=rv.get hx;obtain ⟨f0,f1,f2,f3,f4,f5⟩:=hf it (by simp);refine wpAny_pyNext_list_item st p.isList (x:=u) (by simpa using hu) fun h' st' sb=>?_;have I1:Inv X pins σ H { s with heap:=h' }:=I.turned (t':=s.toks) (fun b o hb e=>(sb.2 b hb).trans e) f0 f1 f3 f4 f5;obtain ⟨o,e,c,d⟩:=id st';exact ⟨u,rfl,Dz (s:={ s with heap:=h' }) e c d (by decide) ⟨x,H,I1,ru,⟨rfl,fun ys hy=>by rw [I.list_inj hy hq];exact hx⟩,st',fun b hb=>(hf b hb).1⟩⟩
 done:=by
   intro X hP hw hK hc i pins s σ H E I hf st hg;subst hP hw hK;obtain ⟨xs,hq,hx⟩:=hg;obtain ⟨its,rv,p,hz⟩:=I.list hq;obtain ⟨f0,f1,f2,f3,f4,f5⟩:=hf it (by simp);have hl:=rv.length;exact wpAny_pyNext_list_end (I.ok.hd hc) st p.isList (by simp;omega) fun h' eb=>⟨rfl,I.turned (t':=s.toks) (fun b o hb e=>eb b o hb e) f0 f1 f3 f4 f5⟩
 self:=fun _ _ _ _ _ st h=>wpAny_pyIter_listiter st h
theorem Jc {P:Program} {w:World} {K:PySem.W.Frag} {tg:Expr} (a it:Addr):Turn P w K tg (Itt K a) [it] it (fun i h=>h.IsTupleIter it a i) where
 mem:=by simp
 obj:=fun i h st b hb=>by
   have e:b=it:=by simpa using hb
   subst e;obtain ⟨o,e,c,d⟩:=st;exact ⟨o,e,fun v z=>by rw [d] at z;cases z⟩
 keep:=fun i h h' st k=>st.at fun o e=>k it (by simp) o e
 item:=by
   intro X hP hw hK hc i pins s σ H E I hf st hg;subst hP hw hK;obtain ⟨xs,x,hq,hx⟩:=hg;obtain ⟨its,rv,p,hz⟩:=I.tuple hq;obtain ⟨u,hu,ru⟩:=rv.get hx;obtain ⟨f0,f1,f2,f3,f4,f5⟩:=hf it (by simp);refine wpAny_pyNext_tuple_item st (show s.heap.IsTuple a its.toArray from p) (x:=u) (by simpa using hu) fun h' st' sb=>?_;have I1:Inv X pins σ H { s with heap:=h' }:=I.turned (t':=s.toks) (fun b o hb e=>(sb.2 b hb).trans e) f0 f1 f3 f4 f5;obtain ⟨o,e,c,d⟩:=id st';exact ⟨u,rfl,Dz (s:={ s with heap:=h' }) e c d (by decide) ⟨x,H,I1,ru,⟨rfl,fun ys hy=>by rw [I.tuple_inj hy hq];exact hx⟩,st',fun b hb=>(hf b hb).1⟩⟩
 done:=by
   intro X hP hw hK hc i pins s σ H E I hf st hg;subst hP hw hK;obtain ⟨xs,hq,hx⟩:=hg;obtain ⟨its,rv,p,hz⟩:=I.tuple hq;obtain ⟨f0,f1,f2,f3,f4,f5⟩:=hf it (by simp);have hl:=rv.length;exact wpAny_pyNext_tuple_end (I.ok.hd hc) st (show s.heap.IsTuple a its.toArray from p) (by simp;omega) fun h' eb=>⟨rfl,I.turned (t':=s.toks) (fun b o hb e=>eb b o hb e) f0 f1 f3 f4 f5⟩
 self:=fun _ _ _ _ _ st h=>wpAny_pyIter_tupleiter st h
theorem Hx {P:Program} {w:World} {K:PySem.W.Frag} {tg:Expr} (it:Addr) (lo:Int) (n:Nat):Turn P w K tg (Itr lo n) [it] it (fun i h=>IsRangeIter h it (lo+(i:Nat)*1) ((n:Int) - (i:Nat)) 1) where
 mem:=by simp
 obj:=fun i h st b hb=>by
   have e:b=it:=by simpa using hb
   subst e;exact ⟨_,st,fun v z=>by
     have z':Data.fields _=Data.cell v:=z;cases z'⟩
 keep:=fun i h h' st k=>k it (by simp) _ st
 item:=by
   intro X hP hw hK hc i pins s σ H E I hf st hg;subst hP hw hK;obtain ⟨f0,f1,f2,f3,f4,f5⟩:=hf it (by simp);have W:=Walks.range (prog:=X.prog) (w:=X.w) (I.ok.hd hc) it lo 1 n;refine W.item i s _ _ hg st fun v h' tk hv st' kk=>?_;obtain ⟨t,rfl⟩:=hv;have I1:Inv X pins σ H { s with heap:=h',toks:=tk }:=I.turned (fun b o hb e=>kk b o (by simpa using hb) e) f0 f1 f3 f4 f5;refine ⟨_,rfl,Dz (s:={ s with heap:=h',toks:=tk }) (n:="range_iterator") st' rfl rfl (by decide) ⟨.int (lo+i),H,I1,⟨t,?_⟩,⟨rfl,rfl⟩,st',fun b hb=>(hf b hb).1⟩⟩;rw [Int.mul_one]
 done:=by
   intro X hP hw hK hc i pins s σ H E I hf st hg;subst hP hw hK;obtain ⟨f0,f1,f2,f3,f4,f5⟩:=hf it (by simp);exact wpAny_pyNext_range_end (I.ok.hd hc) st (by have:n<=i:=hg;omega) fun h' eb=>⟨rfl,I.turned (t':=s.toks) (fun b o hb e=>eb b o hb e) f0 f1 f3 f4 f5⟩
 self:=fun _ _ _ _ _ st h=>wpAny_pyIter_rangeiter st h
end L2
namespace L2
open PySem PySem.Spec PyProof.Rows
section
variable {X:Cx} {tg:Expr}
def HY (K:PySem.W.Frag) (tl:TE):TI:=fun σ H R=>tl σ H fun x H1=>∃ a,x=.ref a/\(∃ xs,SqL K H1 a xs)/\R (Itl K a) H1
def Nl (K:PySem.W.Frag) (tl:TE):TI:=fun σ H R=>tl σ H fun x H1=>∃ a,x=.ref a/\(∃ xs,SqT K H1 a xs)/\R (Itt K a) H1
theorem gQ {l:Expr} {tl:TE} (hl:PE X l tl):PI X tg l (HY X.K tl):=by
 intro pins s σ H R I h;refine bg (hl pins s σ H _ I h) fun v s1 x H1 I1 r1 q1=>?_;obtain ⟨a,e,⟨xs,hq⟩,q⟩:=q1;subst e;cases r1;obtain ⟨its,rv,p,hz⟩:=I1.list hq;refine wpAny_pyIter_list p.isList ?_;refine ⟨s1.heap.objs.size,[s1.heap.objs.size],_,_,H1,rfl,I1.kept (t':=s1.toks) fun b o e=>Heap.get?_push_of_some _ e,Kl a _,⟨_,Heap.get?_push_size _ rfl,rfl,rfl⟩,fun b hb=>?_,q⟩;have e:b=s1.heap.objs.size:=by simpa using hb
 subst e;exact I1.fpOk (Nat.le_refl _) (I1.hok.fresh (Nat.le_refl _))
theorem vW {l:Expr} {tl:TE} (hl:PE X l tl):PI X tg l (Nl X.K tl):=by
 intro pins s σ H R I h;refine bg (hl pins s σ H _ I h) fun v s1 x H1 I1 r1 q1=>?_;obtain ⟨a,e,⟨xs,hq⟩,q⟩:=q1;subst e;cases r1;obtain ⟨its,rv,p,hz⟩:=I1.tuple hq;refine wpAny_pyIter_tuple (show s1.heap.IsTuple a its.toArray from p) ?_;refine ⟨s1.heap.objs.size,[s1.heap.objs.size],_,_,H1,rfl,I1.kept (t':=s1.toks) fun b o e=>Heap.get?_push_of_some _ e,Jc a _,⟨_,Heap.get?_push_size _ rfl,rfl,rfl⟩,fun b hb=>?_,q⟩;have e:b=s1.heap.objs.size:=by simpa using hb
 subst e;exact I1.fpOk (Nat.le_refl _) (I1.hok.fresh (Nat.le_refl _))
theorem Fk {pins:List (Addr × Obj)} {σ:St} {H:Hp} {s:Shared} {R:It->Hp->Prop} {E:Value->Shared->Prop} {lo hi:Int} {t u v:Tok} {tk:Nat} (I:Inv X pins σ H s) (h1:-(2^62)<=lo) (h2:lo<2^62) (h3:-(2^62)<=hi) (h4:hi<2^62)
   (q:R (Itr lo (hi - lo).toNat) H):wpAny (model X.prog X.w) X.A (pyIter (.ref s.heap.objs.size)) (PIE X pins σ tg R) E { s with heap:=s.heap.push { cls:=.type "range",data:=.fields #[.int lo t,.int hi u,.int 1 v] },toks:=tk }:=by
 refine wpAny_pyIter_range (IsRange.new ..) (small_one h1 h2 h3 h4) ?_;have I1:Inv X pins σ H { s with heap:=s.heap.push { cls:=.type "range",data:=.fields #[.int lo t,.int hi u,.int 1 v] },toks:=tk }:=I.kept fun b o e=>Heap.get?_push_of_some _ e;refine ⟨(s.heap.push { cls:=.type "range",data:=.fields #[.int lo t,.int hi u,.int 1 v] }).objs.size,[(s.heap.push { cls:=.type "range",data:=.fields #[.int lo t,.int hi u,.int 1 v] }).objs.size],_,_,H,rfl,
   I1.kept (t':=tk) fun b o e=>Heap.get?_push_of_some _ e,Hx _ lo (hi - lo).toNat,?_,fun b hb=>?_,q⟩
 . have e1:lo+((0:Nat):Int)*1=lo:=by simp
   have e2:(((hi - lo).toNat:Nat):Int) - ((0:Nat):Int)=Builtin.Range.rangeSize lo hi 1:=by rw [rangeSize_one];split <;> omega
   show IsRangeIter _ _ (lo+((0:Nat):Int)*1) ((((hi - lo).toNat:Nat):Int) - ((0:Nat):Int)) 1;rw [e1,e2];exact Heap.get?_push_size _ rfl
 . have e:b=(s.heap.push { cls:=.type "range",data:=.fields #[.int lo t,.int hi u,.int 1 v] }).objs.size:=by simpa using hb
   subst e;exact I1.fpOk (Nat.le_refl _) (I1.hok.fresh (Nat.le_refl _))
def Ia (ta:TA):TI:=fun σ H R=>ta σ H fun vs H1=>∃ j:Int,vs=[.int j]/\-(2^62)<=j/\j<2^62/\R (Itr 0 j.toNat) H1
def Jr (ta:TA):TI:=fun σ H R=>ta σ H fun vs H1=>∃ i j:Int,vs=[.int i,.int j]/\(-(2^62)<=i/\i<2^62/\-(2^62)<=j/\j<2^62)/\R (Itr i (j - i).toNat) H1
theorem qV {a:Expr} {ta:TA} {p pos:Pos} (hg:Gl X "range") (hm:X.mg "range"=none) (ha:PA X [a] ta) (hs:starEach [a] X.env=[(false,eval a X.env)]:=by rfl):PI X tg (.Call (.Name "range" p) [a] [] pos) (Ia ta):=by
 intro pins s σ H R I h;refine Call_ (nG I hg hm boot_range (PyProof.Rows.callWith_type1 (rD (ha pos pins s σ H _ I h) fun us s1 vs H1 I1 r1 q1=>?_) hs rfl));obtain ⟨j,e,q1,q2,q⟩:=q1;subst e;cases r1 with
 | cons r rr =>
   cases rr;obtain ⟨t,rfl⟩:=r;exact call_range_1 (Fk I1 (by omega) (by omega) q1 q2 (by simpa using q))
theorem Cy {a b:Expr} {ta:TA} {p pos:Pos} (hg:Gl X "range") (hm:X.mg "range"=none) (ha:PA X [a,b] ta) (hs:starEach [a,b] X.env=[(false,eval a X.env),(false,eval b X.env)]:=by rfl) (hs2:starEach [b] X.env=[(false,eval b X.env)]:=by rfl) :
   PI X tg (.Call (.Name "range" p) [a,b] [] pos) (Jr ta):=by
 intro pins s σ H R I h;refine Call_ (nG I hg hm boot_range (PyProof.Rows.callWith_type1 (rD (ha pos pins s σ H _ I h) fun us s1 vs H1 I1 r1 q1=>?_) (by rw [hs,hs2]) (by rw [hs2];rfl)));obtain ⟨i,j,e,⟨q1,q2,q3,q4⟩,q⟩:=q1;subst e;cases r1 with
 | cons r rr =>
   cases rr with
   | cons r' rr =>
     cases rr;obtain ⟨t,rfl⟩:=r;obtain ⟨t',rfl⟩:=r';exact call_range_2 (Fk I1 q1 q2 q3 q4 q)
def Qm (wi:TI) (g:TG) (tb:TS):TS:=fun D σ H=>wi σ H fun J H1=>∃ W:Nat->Nat->St->Hp->Prop,(∃ m,W 0 m σ H1)/\∀ i m σ H,W i m σ H ->
 (J.stop i H/\D.nx σ H)\/(J.go i H/\∃ N:St->Hp->Prop,(∀ σ' H',N σ' H'->∃ m',m'<m/\W (i+1) m' σ' H')/\∀ x H',J.yld i H x H'->g x σ H' fun σ2 H2=>tb { D with nx:=N,ct:=N,bk:=D.nx } σ2 H2)
def se (fp:List Addr) (h:Heap):List (Addr × Obj):=fp.filterMap fun b=>(h.get? b).map fun o=>(b,o)
theorem jL {fp:List Addr} {h:Heap} {b:Addr} {o:Obj} (hb:b∈fp) (e:h.get? b=some o):(b,o)∈se fp h:=List.mem_filterMap.mpr ⟨b,hb,by rw [e];rfl⟩
theorem KI {fp:List Addr} {h:Heap} {p:Addr × Obj} (hp:p∈se fp h):p.1∈fp/\h.get? p.1=some p.2:=by
 obtain ⟨b,hb,e⟩:=List.mem_filterMap.mp hp;cases q:h.get? b with
 | none=>rw [q] at e;cases e
 | some o =>
   rw [q] at e;have e':(b,o)=p:=Option.some.inj e;subst e';exact ⟨hb,q⟩
theorem Inv.pinned {pins:List (Addr × Obj)} {σ:St} {H:Hp} {s:Shared} {fp:List Addr} (I:Inv X pins σ H s) (hf:∀ b∈fp,kJ X pins H b) (ho:∀ b∈fp,∃ o,s.heap.get? b=some o/\∀ v,o.data≠.cell v):Inv X (pins++se fp s.heap) σ H s :=
 I.pins_of fun p hp=>(List.mem_append.mp hp).elim (fun z=>I.pin p (List.mem_append_right _ z)) fun z=>by
   obtain ⟨hb,e⟩:=KI z;obtain ⟨f0,f1,f2,_⟩:=hf p.1 hb;obtain ⟨o,e',d⟩:=ho p.1 hb;rw [e] at e';cases e';exact ⟨e,f0,f1,f2,d⟩
theorem Inv.unpinned {pins pl:List (Addr × Obj)} {σ:St} {H:Hp} {s:Shared} (I:Inv X (pins++pl) σ H s):Inv X pins σ H s:=I.pins_of fun p hp=>I.pin p (List.mem_append_right _ (List.mem_append_left _ hp))
theorem dL {iter:Expr} {body:List Stmt} {wi:TI} {g:TG} {tb:TS} {pos:Pos} (hp:PassesOwn (model X.prog X.w) X.A X.env X.xe) (hc:X.calm=true) (hi:PI X tg iter wi) (hg:PG X tg g) (hb:PSs X body tb)
   (hs:∀ x,foldedSetIterable iter X.env x=pure x:=by intro _;rfl):PS X (.For tg iter body [] pos) (Qm wi g tb):=by
 intro pins s σ H D I h;refine wpAny_For (thn (hi pins s σ H _ I h) fun v s1 h1=>thn h1 fun itv s2 h2=>?_) hs;obtain ⟨it,fp,tn,J,H2,e,I2,T,st2,f2,W,⟨m0,w0⟩,turn⟩:=h2;subst e;have stat:∀ {H':Hp},(∀ b∈fp,H' b=none)->∀ b∈fp,kJ X pins H' b:=fun hn b hb=>⟨hn b hb,(f2 b hb).2⟩;refine codeAny_forLoop_any (fun n s'=>∃ i σ' H',Inv X pins σ' H' s'/\tn i s'.heap/\(∀ b∈fp,H' b=none)/\W i n σ' H') ?_ m0 ⟨0,σ,H2,I2,st2,fun b hb=>(f2 b hb).1,w0⟩;rintro n s3 ⟨i,σ3,H3,I3,st3,fr3,w3⟩;rcases turn i n σ3 H3 w3 with ⟨stop,qn⟩|⟨go,N,hN,step⟩
 . refine wpAny_passesOwn hp (thn (T.done X rfl rfl rfl hc i pins s3 σ3 H3 X.xe I3 (stat fr3) st3 stop) fun r s4 ⟨hr,I4⟩=>?_);subst hr;exact wpAny_execs_nil ⟨σ3,H3,I4,qn⟩
 . refine wpAny_passesOwn hp (thn (T.item X rfl rfl rfl hc i pins s3 σ3 H3 X.xe I3 (stat fr3) st3 go) fun r s4 ⟨u,hr,h4⟩=>?_);subst hr;refine wpAny_passesOwn hp (thn h4 fun _ s5 ⟨x,H5,I5,r5,y5,st5,fr5⟩=>?_);have I5':=I5.pinned (stat fr5) (T.obj _ _ st5);refine wpAny_passesOwn hp (thn (hg _ s5 σ3 H5 x u _ I5' r5 (step x H5 y5)) fun _ s6 ⟨σ6,H6,I6,q6⟩=>?_);refine wpAny_passesOwn hp (thn (hb _ s6 σ6 H6 _ I6 q6) fun f s7 q7=>?_);have again:∀ {σ7:St} {H7:Hp},Inv X (pins++se fp s5.heap) σ7 H7 s7->N σ7 H7->∃ m,m<n/\∃ i σ' H',Inv X pins σ' H' s7/\tn i s7.heap/\(∀ b∈fp,H' b=none)/\W i m σ' H':=fun {σ7 H7} I7 n7=>by
     obtain ⟨m',hm,w7⟩:=hN σ7 H7 n7;refine ⟨m',hm,i+1,σ7,H7,I7.unpinned,T.keep _ _ _ st5 fun b hb o e=>(I7.pin (b,o) (List.mem_append_right _ (List.mem_append_right _ (jL hb e)))).1,fun b hb=>?_,w7⟩;obtain ⟨o,e,d⟩:=T.obj _ _ st5 b hb;exact (I7.pin (b,o) (List.mem_append_right _ (List.mem_append_right _ (jL hb e)))).2.1
   cases f with
   | next=>obtain ⟨σ7,H7,I7,n7⟩:=q7;exact again I7 n7
   | cont=>obtain ⟨σ7,H7,I7,n7⟩:=q7;exact again I7 n7
   | brk=>obtain ⟨σ7,H7,I7,q7⟩:=q7;exact ⟨σ7,H7,I7.unpinned,q7⟩
   | ret v=>obtain ⟨x7,σ7,H7,I7,r7,q7⟩:=q7;exact ⟨x7,σ7,H7,I7.unpinned,r7,q7⟩
end
theorem Nh {K:PySem.W.Frag} {a:Addr} {xs:List V} {g:TG} {tb:TS} {D:Ends} {σ:St} {H:Hp} (Pv:Nat->St->Hp->Prop) (h0:Pv 0 σ H) (hl:∀ i σ H,i<=xs.length->Pv i σ H->SqL K H a xs)
   (hs:∀ i x σ H,xs[i]?=some x->Pv i σ H->g x σ H fun σ2 H2=>tb { D with nx:=Pv (i+1),ct:=Pv (i+1),bk:=D.nx } σ2 H2) (hd:∀ σ H,Pv xs.length σ H->D.nx σ H) :
   ∃ W:Nat->Nat->St->Hp->Prop,(∃ m,W 0 m σ H)/\∀ i m σ H,W i m σ H ->
     ((Itl K a).stop i H/\D.nx σ H)\/((Itl K a).go i H/\∃ N:St->Hp->Prop,(∀ σ' H',N σ' H'->∃ m',m'<m/\W (i+1) m' σ' H')/\∀ x H',(Itl K a).yld i H x H'->g x σ H' fun σ2 H2=>tb { D with nx:=N,ct:=N,bk:=D.nx } σ2 H2):=by
 refine ⟨fun i m σ H=>m=xs.length - i/\i<=xs.length/\Pv i σ H,⟨xs.length,by simp,Nat.zero_le _,h0⟩,?_⟩;rintro i m σ H ⟨rfl,hi,p⟩;have q:=hl i σ H hi p;by_cases hlt:i<xs.length
 . refine .inr ⟨⟨xs,xs[i],q,by simp [hlt]⟩,Pv (i+1),fun σ' H' p'=>⟨xs.length - (i+1),by omega,rfl,hlt,p'⟩,fun x H' y=>?_⟩;obtain ⟨e,y⟩:=y;subst e;exact hs i x σ _ (y xs q) p
 . have e:i=xs.length:=by omega
   subst e;exact .inl ⟨⟨xs,q,Nat.le_refl _⟩,hd σ H p⟩
theorem BP {K:PySem.W.Frag} {a:Addr} {xs:List V} {g:TG} {tb:TS} {D:Ends} {σ:St} {H:Hp} (Pv:Nat->St->Hp->Prop) (h0:Pv 0 σ H) (hl:∀ i σ H,i<=xs.length->Pv i σ H->SqT K H a xs)
   (hs:∀ i x σ H,xs[i]?=some x->Pv i σ H->g x σ H fun σ2 H2=>tb { D with nx:=Pv (i+1),ct:=Pv (i+1),bk:=D.nx } σ2 H2) (hd:∀ σ H,Pv xs.length σ H->D.nx σ H) :
   ∃ W:Nat->Nat->St->Hp->Prop,(∃ m,W 0 m σ H)/\∀ i m σ H,W i m σ H ->
     ((Itt K a).stop i H/\D.nx σ H)\/((Itt K a).go i H/\∃ N:St->Hp->Prop,(∀ σ' H',N σ' H'->∃ m',m'<m/\W (i+1) m' σ' H')/\∀ x H',(Itt K a).yld i H x H'->g x σ H' fun σ2 H2=>tb { D with nx:=N,ct:=N,bk:=D.nx } σ2 H2):=by
 refine ⟨fun i m σ H=>m=xs.length - i/\i<=xs.length/\Pv i σ H,⟨xs.length,by simp,Nat.zero_le _,h0⟩,?_⟩;rintro i m σ H ⟨rfl,hi,p⟩;have q:=hl i σ H hi p;by_cases hlt:i<xs.length
 . refine .inr ⟨⟨xs,xs[i],q,by simp [hlt]⟩,Pv (i+1),fun σ' H' p'=>⟨xs.length - (i+1),by omega,rfl,hlt,p'⟩,fun x H' y=>?_⟩;obtain ⟨e,y⟩:=y;subst e;exact hs i x σ _ (y xs q) p
 . have e:i=xs.length:=by omega
   subst e;exact .inl ⟨⟨xs,q,Nat.le_refl _⟩,hd σ H p⟩
theorem Kd {lo:Int} {n:Nat} {g:TG} {tb:TS} {D:Ends} {σ:St} {H:Hp} (Pv:Nat->St->Hp->Prop) (h0:Pv 0 σ H)
   (hs:∀ i σ H,i<n->Pv i σ H->g (.int (lo+i)) σ H fun σ2 H2=>tb { D with nx:=Pv (i+1),ct:=Pv (i+1),bk:=D.nx } σ2 H2) (hd:∀ σ H,Pv n σ H->D.nx σ H) :
   ∃ W:Nat->Nat->St->Hp->Prop,(∃ m,W 0 m σ H)/\∀ i m σ H,W i m σ H ->
     ((Itr lo n).stop i H/\D.nx σ H)\/((Itr lo n).go i H/\∃ N:St->Hp->Prop,(∀ σ' H',N σ' H'->∃ m',m'<m/\W (i+1) m' σ' H')/\∀ x H',(Itr lo n).yld i H x H'->g x σ H' fun σ2 H2=>tb { D with nx:=N,ct:=N,bk:=D.nx } σ2 H2):=by
 refine ⟨fun i m σ H=>m=n - i/\i<=n/\Pv i σ H,⟨n,by simp,Nat.zero_le _,h0⟩,?_⟩;rintro i m σ H ⟨rfl,hi,p⟩;by_cases hlt:i<n
 . refine .inr ⟨hlt,Pv (i+1),fun σ' H' p'=>⟨n - (i+1),by omega,rfl,hlt,p'⟩,fun x H' y=>?_⟩;obtain ⟨e,y⟩:=y;subst e y;exact hs i σ _ hlt p
 . have e:i=n:=by omega
   subst e;exact .inl ⟨Nat.le_refl _,hd σ H p⟩
end L2
namespace L2
open PySem PySem.Spec PyProof.Rows
abbrev R2:=V->V->Hp->VK->Prop
def OpR (X:Cx) (f:Value->Value->Sem Value) (r:R2):Prop :=
 ∀ (pins:List (Addr × Obj)) (s:Shared) (σ:St) (H:Hp) (x y:V) (v u:Value) (Q:VK),Inv X pins σ H s->RelV x v->RelV y u->r x y H Q ->
   wpAny (model X.prog X.w) X.A (f v u) (EP X pins σ Q) X.xe s
def UnR (X:Cx) (f:Value->Sem Value) (r:V->Hp->VK->Prop):Prop :=
 ∀ (pins:List (Addr × Obj)) (s:Shared) (σ:St) (H:Hp) (x:V) (v:Value) (Q:VK),Inv X pins σ H s->RelV x v->r x H Q ->
   wpAny (model X.prog X.w) X.A (f v) (EP X pins σ Q) X.xe s
def lV (X:Cx) (f:Value) (r:List V->Hp->VK->Prop):Prop :=
 ∀ (pins:List (Addr × Obj)) (s:Shared) (σ:St) (H:Hp) (xs:List V) (us:List Value) (Q:VK),Inv X pins σ H s->Vals xs us->r xs H Q ->
   wpAny (model X.prog X.w) X.A (call f us) (EP X pins σ Q) X.xe s
def Rn (X:Cx) (r:V->Hp->(Bool->Hp->Prop)->Prop):Prop :=
 ∀ (pins:List (Addr × Obj)) (s:Shared) (σ:St) (H:Hp) (x:V) (v:Value) (Q:Bool->Hp->Prop),Inv X pins σ H s->RelV x v->r x H Q ->
   wpAny (model X.prog X.w) X.A (truthy v) (TP X pins σ Q) X.xe s
def tOp (r:R2) (ta tb:TE):TE:=fun σ H Q=>ta σ H fun x H1=>tb σ H1 fun y H2=>r x y H2 Q
def tUn (r:V->Hp->VK->Prop) (ta:TE):TE:=fun σ H Q=>ta σ H fun x H1=>r x H1 Q
def rI (C:Int->Int->Prop) (g:Int->Int->V):R2:=fun x y H Q=>∃ i j,x=.int i/\y=.int j/\C i j/\Q (g i j) H
def rI0 (g:Int->Int->V):R2:=fun x y H Q=>∃ i j,x=.int i/\y=.int j/\Q (g i j) H
def rU (g:Int->V):V->Hp->VK->Prop:=fun x H Q=>∃ i,x=.int i/\Q (g i) H
section
variable {X:Cx} {a b c:Expr} {ta tb tc:TE} {pos:Pos}
theorem NS (ha:PE X a ta) (hb:PE X b tb) {pins:List (Addr × Obj)} {s:Shared} {σ:St} {H:Hp} {R:V->V->Hp->Prop} (I:Inv X pins σ H s)
   (h:ta σ H fun x H1=>tb σ H1 fun y H2=>R x y H2) {Q:Value->Shared->Prop} {f:Value->Value->Sem Value}
   (hf:∀ v u s2 x y H2,Inv X pins σ H2 s2->RelV x v->RelV y u->R x y H2->wpAny (model X.prog X.w) X.A (f v u) Q X.xe s2) :
   wpAny (model X.prog X.w) X.A (eval a X.env) (fun v s₁=>wpAny (model X.prog X.w) X.A (eval b X.env) (fun u s₂=>wpAny (model X.prog X.w) X.A (f v u) Q X.xe s₂) X.xe s₁) X.xe s:=by
 refine bg (ha pins s σ H _ I h) fun v s1 x H1 I1 r1 q1=>?_;refine bg (hb pins s1 σ H1 _ I1 q1) fun u s2 y H2 I2 r2 q2=>?_;exact hf v u s2 x y H2 I2 r1 r2 q2
theorem aF {op:Operator} {r:R2} (ho:OpR X (binaryOp op) r) (ha:PE X a ta) (hb:PE X b tb):PE X (.BinOp a op b pos) (tOp r ta tb):=by
 intro pins s σ H Q I h;exact wpAny_BinOp (NS ha hb I h fun v u s2 x y H2 I2 rx ry q=>ho pins s2 σ H2 x y v u Q I2 rx ry q)
theorem QZ {op:UnaryOp} {r:V->Hp->VK->Prop} (ho:UnR X (unaryOp op) r) (ha:PE X a ta):PE X (.UnaryOp op a pos) (tUn r ta):=by
 intro pins s σ H Q I h;exact UnaryOp_ (bg (ha pins s σ H _ I h) fun v s1 x H1 I1 r1 q1=>ho pins s1 σ H1 x v Q I1 r1 q1)
theorem opI {f:Value->Value->Sem Value} {C:Int->Int->Prop} {g:Int->Int->Int}
   (rule:∀ (i j:Int) (t u:Tok) (s:Shared) (Q:Value->Shared->Prop) (E:Value->Shared->Prop),C i j->Q (.int (g i j) s.toks) { s with toks:=s.toks+1 }->wpAny (model X.prog X.w) X.A (f (.int i t) (.int j u)) Q E s) :
   OpR X f (rI C fun i j=>.int (g i j)):=by
 intro pins s σ H x y v u Q I rx ry h;obtain ⟨i,j,rfl,rfl,hc,q⟩:=h;obtain ⟨t,rfl⟩:=rx;obtain ⟨t',rfl⟩:=ry;exact rule i j t t' s _ _ hc ⟨.int (g i j),H,I.tok _,⟨_,rfl⟩,q⟩
theorem P9 {f:Value->Value->Sem Value} {g:Int->Int->Int}
   (rule:∀ (i j:Int) (t u:Tok) (s:Shared) (Q:Value->Shared->Prop) (E:Value->Shared->Prop),Q (.int (g i j) s.toks) { s with toks:=s.toks+1 }->wpAny (model X.prog X.w) X.A (f (.int i t) (.int j u)) Q E s) :
   OpR X f (rI0 fun i j=>.int (g i j)):=by
 intro pins s σ H x y v u Q I rx ry h;obtain ⟨i,j,rfl,rfl,q⟩:=h;obtain ⟨t,rfl⟩:=rx;obtain ⟨t',rfl⟩:=ry;exact rule i j t t' s _ _ ⟨.int (g i j),H,I.tok _,⟨_,rfl⟩,q⟩
theorem IC {f:Value->Value->Sem Value} {g:Int->Int->Bool}
   (rule:∀ (i j:Int) (t u:Tok) (s:Shared) (Q:Value->Shared->Prop) (E:Value->Shared->Prop),Q (.bool (g i j)) s->wpAny (model X.prog X.w) X.A (f (.int i t) (.int j u)) Q E s) :
   OpR X f (rI0 fun i j=>.bl (g i j)):=by
 intro pins s σ H x y v u Q I rx ry h;obtain ⟨i,j,rfl,rfl,q⟩:=h;obtain ⟨t,rfl⟩:=rx;obtain ⟨t',rfl⟩:=ry;exact rule i j t t' s _ _ ⟨.bl (g i j),H,I,rfl,q⟩
def PN (i j:Int):Prop:=0<j/\j<1073741824
def Rf (i j:Int):Prop:=0<=j/\j<=1000000/\i.natAbs<2^64
def CMul (i j:Int):Prop:=(-(2^64)<i/\i<2^64)\/(-(2^64)<j/\j<2^64)
theorem CMul.ok {i j:Int} (h:CMul i j):IntMulOk i j:=by
 rcases h with ⟨h1,h2⟩|⟨h1,h2⟩
 . exact .of_left (intBits_le_64 h1 h2)
 . exact .of_right (intBits_le_64 h1 h2)
theorem fw:OpR X (binaryOp .Add) (rI0 fun i j=>.int (i+j)):=P9 fun _ _ _ _ _ _ _ q=>add_int q
theorem lp:OpR X (binaryOp .Sub) (rI0 fun i j=>.int (i - j)):=P9 fun _ _ _ _ _ _ _ q=>sub_int q
theorem iu:OpR X (binaryOp .Mult) (rI CMul fun i j=>.int (i*j)):=opI fun _ _ _ _ _ _ _ hc q=>mul_int q hc.ok
theorem oQ:OpR X (binaryOp .FloorDiv) (rI PN fun i j=>.int (i / j)):=opI fun i j _ _ _ _ _ hc q=>by
 have h1:(0:Int)<j:=hc.1;have h2:j<1073741824:=hc.2;exact floordiv_int (by omega) (by rw [Int.fdiv_eq_ediv_of_nonneg i (by omega)];exact q) (.inl (PyProof.noPylong_small (by omega)))
theorem ik:OpR X (binaryOp .Mod) (rI (fun _ j=>0<j) fun i j=>.int (i % j)):=opI fun i j _ _ _ _ _ hc q=>by
 have h1:(0:Int)<j:=hc;exact mod_int' (by omega) (by rw [Int.fmod_eq_emod_of_nonneg i (by omega)];exact q)
theorem QQ:OpR X (binaryOp .Pow) (rI Rf fun i j=>.int (i^j.toNat)):=opI fun _ _ _ _ _ _ _ hc q=>pow_int_small hc.1 hc.2.1 hc.2.2 q
theorem unI {f:Value->Sem Value} {g:Int->Int}
   (rule:∀ (i:Int) (t:Tok) (s:Shared) (Q:Value->Shared->Prop) (E:Value->Shared->Prop),Q (.int (g i) s.toks) { s with toks:=s.toks+1 }->wpAny (model X.prog X.w) X.A (f (.int i t)) Q E s) :
   UnR X f (rU fun i=>.int (g i)):=by
 intro pins s σ H x v Q I rx h;obtain ⟨i,rfl,q⟩:=h;obtain ⟨t,rfl⟩:=rx;exact rule i t s _ _ ⟨.int (g i),H,I.tok _,⟨_,rfl⟩,q⟩
theorem P6:UnR X (unaryOp .USub) (rU fun i=>.int (-i)):=unI fun _ _ _ _ _ q=>neg_int q
end
def pZ:V->V->Bool
 | .non,.non=>true|.non,.int _=>true|.int _,.non=>true|.non,.bl _=>true|.bl _,.non=>true|.non,.str _=>true|.str _,.non=>true
 | .int _,.int _=>true|.bl _,.bl _=>true|.str _,.str _=>true|.byt _,.byt _=>true
 | .int _,.str _=>true|.str _,.int _=>true|.bl _,.str _=>true|.str _,.bl _=>true
 | _,_=>false
def rEq:R2:=fun x y H Q=>pZ x y=true/\Q (.bl (decide (x=y))) H
def rNe:R2:=fun x y H Q=>pZ x y=true/\Q (.bl (!decide (x=y))) H
theorem Hf {i j:Int}:decide (V.int i=V.int j)=(i == j):=by
 rw [Bool.eq_iff_iff];simp
theorem Jw {i j:Bool}:decide (V.bl i=V.bl j)=(i == j):=by
 rw [Bool.eq_iff_iff];simp
theorem Hb {i j:Str}:decide (V.str i=V.str j)=(i == j):=by
 rw [Bool.eq_iff_iff];simp
theorem G4 {i j:Array UInt8}:decide (V.byt i=V.byt j)=(i.toList == j.toList):=by
 rw [Bool.eq_iff_iff];cases i;cases j;simp
section
variable {X:Cx} {a b c:Expr} {ta tb tc:TE} {pos:Pos}
theorem bz {pins:List (Addr × Obj)} {σ:St} {H:Hp} {s:Shared} {Q:VK} {k k':Bool} (I:Inv X pins σ H s) (q:Q (.bl k) H) (e:k=k'):EP X pins σ Q (.bool k') s:=by
 subst e;exact ⟨.bl k,H,I,rfl,q⟩
theorem jQ:OpR X (compareOp .Eq) rEq:=by
 intro pins s σ H x y v u Q I rx ry h;obtain ⟨hs,q⟩:=h;cases x with
 | non =>
   cases rx;cases y with
   | non=>cases ry;exact PySem.EqNone.eq_none_none (bz I q (by simp))
   | bl j=>cases ry;exact PySem.EqNone.eq_none_bool (bz I q (by simp))
   | int j=>obtain ⟨t',rfl⟩:=ry;exact PySem.EqNone.eq_none_int (bz I q (by simp))
   | str j=>obtain ⟨t',rfl⟩:=ry;exact PySem.EqNone.eq_none_str (bz I q (by simp))
   | _=>exact absurd (show false=true from hs) Bool.false_ne_true
 | bl i =>
   cases rx;cases y with
   | non=>cases ry;exact PySem.EqNone.eq_bool_none (bz I q (by simp))
   | bl j=>cases ry;exact eq_bool (bz I q Jw)
   | str j=>obtain ⟨t',rfl⟩:=ry;exact PySem.EqMixed.eq_bool_str (bz I q (by simp))
   | _=>exact absurd (show false=true from hs) Bool.false_ne_true
 | int i =>
   obtain ⟨t,rfl⟩:=rx;cases y with
   | non=>cases ry;exact PySem.EqNone.eq_int_none (bz I q (by simp))
   | int j=>obtain ⟨t',rfl⟩:=ry;exact eq_int (bz I q Hf)
   | str j=>obtain ⟨t',rfl⟩:=ry;exact PySem.EqMixed.eq_int_str (bz I q (by simp))
   | _=>exact absurd (show false=true from hs) Bool.false_ne_true
 | str i =>
   obtain ⟨t,rfl⟩:=rx;cases y with
   | non=>cases ry;exact PySem.EqNone.eq_str_none (bz I q (by simp))
   | bl j=>cases ry;exact PySem.EqMixed.eq_str_bool (bz I q (by simp))
   | int j=>obtain ⟨t',rfl⟩:=ry;exact PySem.EqMixed.eq_str_int (bz I q (by simp))
   | str j=>obtain ⟨t',rfl⟩:=ry;exact eq_str (bz I q Hb)
   | _=>exact absurd (show false=true from hs) Bool.false_ne_true
 | byt i =>
   obtain ⟨t,rfl⟩:=rx;cases y with
   | byt j=>obtain ⟨t',rfl⟩:=ry;exact PySem.W.eq_bytes (bz I q G4)
   | _=>exact absurd (show false=true from hs) Bool.false_ne_true
 | _=>cases y <;> exact absurd (show false=true from hs) Bool.false_ne_true
theorem xJ:OpR X (compareOp .NotEq) rNe:=by
 intro pins s σ H x y v u Q I rx ry h;obtain ⟨hs,q⟩:=h;cases x with
 | non =>
   cases rx;cases y with
   | non=>cases ry;exact PySem.EqNone.ne_none_none (bz I q (by simp))
   | bl j=>cases ry;exact PySem.EqNone.ne_none_bool (bz I q (by simp))
   | int j=>obtain ⟨t',rfl⟩:=ry;exact PySem.EqNone.ne_none_int (bz I q (by simp))
   | str j=>obtain ⟨t',rfl⟩:=ry;exact PySem.EqNone.ne_none_str (bz I q (by simp))
   | _=>exact absurd (show false=true from hs) Bool.false_ne_true
 | bl i =>
   cases rx;cases y with
   | non=>cases ry;exact PySem.EqNone.ne_bool_none (bz I q (by simp))
   | bl j=>cases ry;exact ne_bool (bz I q (congrArg not Jw))
   | str j=>obtain ⟨t',rfl⟩:=ry;exact PySem.EqMixed.ne_bool_str (bz I q (by simp))
   | _=>exact absurd (show false=true from hs) Bool.false_ne_true
 | int i =>
   obtain ⟨t,rfl⟩:=rx;cases y with
   | non=>cases ry;exact PySem.EqNone.ne_int_none (bz I q (by simp))
   | int j=>obtain ⟨t',rfl⟩:=ry;exact ne_int (bz I q (congrArg not Hf))
   | str j=>obtain ⟨t',rfl⟩:=ry;exact PySem.EqMixed.ne_int_str (bz I q (by simp))
   | _=>exact absurd (show false=true from hs) Bool.false_ne_true
 | str i =>
   obtain ⟨t,rfl⟩:=rx;cases y with
   | non=>cases ry;exact PySem.EqNone.ne_str_none (bz I q (by simp))
   | bl j=>cases ry;exact PySem.EqMixed.ne_str_bool (bz I q (by simp))
   | int j=>obtain ⟨t',rfl⟩:=ry;exact PySem.EqMixed.ne_str_int (bz I q (by simp))
   | str j=>obtain ⟨t',rfl⟩:=ry;exact ne_str (bz I q (congrArg not Hb))
   | _=>exact absurd (show false=true from hs) Bool.false_ne_true
 | byt i =>
   obtain ⟨t,rfl⟩:=rx;cases y with
   | byt j=>obtain ⟨t',rfl⟩:=ry;exact PySem.W.ne_bytes (bz I q (congrArg not G4))
   | _=>exact absurd (show false=true from hs) Bool.false_ne_true
 | _=>cases y <;> exact absurd (show false=true from hs) Bool.false_ne_true
theorem A5:OpR X (compareOp .Lt) (rI0 fun i j=>.bl (decide (i<j))):=IC fun _ _ _ _ _ _ _ q=>lt_int q
theorem AA:OpR X (compareOp .LtE) (rI0 fun i j=>.bl (decide (i<=j))):=IC fun _ _ _ _ _ _ _ q=>le_int q
theorem xF:OpR X (compareOp .Gt) (rI0 fun i j=>.bl (decide (j<i))):=IC fun _ _ _ _ _ _ _ q=>gt_int q
theorem Ow:OpR X (compareOp .GtE) (rI0 fun i j=>.bl (decide (j<=i))):=IC fun _ _ _ _ _ _ _ q=>ge_int q
theorem bi (b:Expr) {op:CmpOp} (h:op≠.In:=by decide) (h2:op≠.NotIn:=by decide):behindInMarks op b=false:=by
 have e1:(op == CmpOp.In)=false:=by cases op <;> first|rfl|exact absurd rfl h
 have e2:(op == CmpOp.NotIn)=false:=by cases op <;> first|rfl|exact absurd rfl h2
 cases b <;> simp [behindInMarks,e1,e2]
theorem sq {op:CmpOp} {r:R2} (ho:OpR X (compareOp op) r) (ha:PE X a ta) (hb:PE X b tb) (hm:behindInMarks op b=false):PE X (.Compare a [op] [b] pos) (tOp r ta tb):=by
 intro pins s σ H Q I h;exact wpAny_Compare1 (NS ha hb I h fun v u s2 x y H2 I2 rx ry q=>ho pins s2 σ H2 x y v u Q I2 rx ry q) hm
def DF (t:TE):TT:=fun σ H Q=>t σ H fun x H'=>∃ k,x=.bl k/\Q k H'
theorem bn {op:CmpOp} {r:R2} (ho:OpR X (compareOp op) r) (ha:PE X a ta) (hb:PE X b tb) (hm:behindInMarks op b=false):PT X (.Compare a [op] [b] pos) (DF (tOp r ta tb)):=by
 intro pins s σ H Q I h;refine wpAny_isTrue_Compare1 (bg (ha pins s σ H _ I h) fun v s1 x H1 I1 r1 q1=>bg (hb pins s1 σ H1 _ I1 q1) fun u s2 y H2 I2 r2 q2 =>
   bg (ho pins s2 σ H2 x y v u _ I2 r1 r2 q2) fun c s3 z H3 I3 r3 ⟨k,e,q3⟩=>?_) hm
 subst e;cases r3;exact wpAny_truthy_bool ⟨H3,I3,q3⟩
def AK (r r':R2) (ta tb tc:TE):TE:=fun σ H Q=>ta σ H fun x H1=>tb σ H1 fun y H2=>r x y H2 fun z H3=>∃ k,z=.bl k /\
 (if k=true then tc σ H3 fun w' H4=>r' y w' H4 Q else Q (.bl false) H3)
theorem Nf {op op':CmpOp} {r r':R2} (ho:OpR X (compareOp op) r) (ho':OpR X (compareOp op') r') (ha:PE X a ta) (hb:PE X b tb) (hc:PE X c tc)
   (hm:lastMarks [op,op'] [b,c]=false:=by with_unfolding_all rfl):PE X (.Compare a [op,op'] [b,c] pos) (AK r r' ta tb tc):=by
 intro pins s σ H Q I h;refine Compare_chain (bg (ha pins s σ H _ I h) fun v s1 x H1 I1 r1 q1=>chain_link (bg (hb pins s1 σ H1 _ I1 q1) fun u s2 y H2 I2 r2 q2 =>
   bg (ho pins s2 σ H2 x y v u _ I2 r1 r2 q2) fun d s3 z H3 I3 r3 ⟨k,e,q3⟩=>?_)) hm
 subst e;cases r3;refine wpAny_truthy_bool ?_;cases k with
 | false=>exact ite_ff ⟨.bl false,H3,I3,rfl,q3⟩
 | true=>exact ite_tt (chain_last (thn (hc pins s3 σ H3 _ I3 q3) fun w' s4 ⟨z',H4,I4,r4,q4⟩=>ho' pins s4 σ H4 y z' u w' Q I4 r2 r4 q4))
theorem DL {op op':CmpOp} {r r':R2} (ho:OpR X (compareOp op) r) (ho':OpR X (compareOp op') r') (ha:PE X a ta) (hb:PE X b tb) (hc:PE X c tc)
   (hm:lastMarks [op,op'] [b,c]=false:=by with_unfolding_all rfl):PT X (.Compare a [op,op'] [b,c] pos) (DF (AK r r' ta tb tc)):=by
 intro pins s σ H Q I h;refine isTrue_chain (bg (ha pins s σ H _ I h) fun v s1 x H1 I1 r1 q1=>test_link (bg (hb pins s1 σ H1 _ I1 q1) fun u s2 y H2 I2 r2 q2 =>
   bg (ho pins s2 σ H2 x y v u _ I2 r1 r2 q2) fun d s3 z H3 I3 r3 ⟨k,e,q3⟩=>?_)) hm
 subst e;cases r3;refine wpAny_truthy_bool ?_;cases k with
 | false =>
   obtain ⟨k',e',q'⟩:=q3;cases e';exact ite_ff ⟨H3,I3,q'⟩
 | true =>
   refine ite_tt (test_last (thn (hc pins s3 σ H3 _ I3 q3) fun w' s4 ⟨z',H4,I4,r4,q4⟩=>thn (ho' pins s4 σ H4 y z' u w' _ I4 r2 r4 q4) fun d' s5 ⟨z2,H5,I5,r5,k2,e2,q5⟩=>?_));subst e2;cases r5;exact wpAny_truthy_bool ⟨H5,I5,q5⟩
def QK (K:PySem.W.Frag) (x:V) (H:Hp) (k:Bool):Prop :=
 match x with
 | .non=>k=false
 | .bl b=>k=b
 | .int i=>k=(i != 0)
 | .str y=>y.length<=sizeLine/\k=((y.length:Int) != 0)
 | .byt y=>y.size<=sizeLine/\k=((y.size:Int) != 0)
 | .ref p=>(∃ xs,SqL K H p xs/\k=!xs.isEmpty)\/(∃ xs,SqT K H p xs/\k=!xs.isEmpty)\/∃ kvs,H p=some (.dK kvs)/\k=!kvs.isEmpty
 | _=>False
theorem HS {κ:Type} {kvs:List (κ × V)} {vs:List (κ × Value)} (r:KV kvs vs):(!vs.isEmpty)=!kvs.isEmpty:=by
 cases r <;> rfl
theorem A4 {xs:List V} {its:List Value} (r:Vals xs its):(!its.toArray.isEmpty)=!xs.isEmpty:=by
 cases r <;> simp
theorem su:(sizeLine:Nat)<2^63:=by rw [sizeLine_eq];decide
theorem PU:Rn X (fun x H Q=>∃ k,QK X.K x H k/\Q k H):=by
 intro pins s σ H x v Q I rx h;obtain ⟨k,e,q⟩:=h;have hl:=su;have hs:sizeLine=16777216:=sizeLine_eq;cases x with
 | non =>
   cases rx;have e':k=false:=e;subst e';exact truthy_none ⟨H,I,q⟩
 | bl b =>
   cases rx;have e':k=b:=e;subst e';exact wpAny_truthy_bool ⟨H,I,q⟩
 | int i =>
   obtain ⟨t,rfl⟩:=rx;have e':k=(i != 0):=e;subst e';exact PySem.P.truthy_int ⟨H,I,q⟩
 | str y =>
   obtain ⟨t,rfl⟩:=rx;obtain ⟨hy,e'⟩:y.length<=sizeLine/\k=((y.length:Int) != 0):=e;subst e';exact PySem.P.truthy_str (by omega) ⟨H,I.tok _,q⟩
 | byt y =>
   obtain ⟨t,rfl⟩:=rx;obtain ⟨hy,e'⟩:y.size<=sizeLine/\k=((y.size:Int) != 0):=e;subst e';exact PySem.W.truthy_bytes (by omega) ⟨H,I.tok _,q⟩
 | ref p =>
   cases rx;have e':(∃ xs,SqL X.K H p xs/\k=!xs.isEmpty)\/(∃ xs,SqT X.K H p xs/\k=!xs.isEmpty)\/∃ kvs,H p=some (.dK kvs)/\k=!kvs.isEmpty:=e;rcases e' with ⟨xs,hx,e'⟩|⟨xs,hx,e'⟩|⟨kvs,hx,e'⟩
   . subst e';obtain ⟨its,r,pl,hz⟩:=I.list hx;have hlen:=r.length;exact wpAny_truthy_list pl.isList (by simp only [List.size_toArray];omega) ⟨H,I.tok _,by rw [A4 r];exact q⟩
   . subst e';obtain ⟨its,r,pl,hz⟩:=I.tuple hx;have hlen:=r.length;exact truthy_tuple pl (by simp only [List.size_toArray];omega) ⟨H,I.tok _,by rw [A4 r];exact q⟩
   . subst e';obtain ⟨hz,hS,vs,r,m⟩:kvs.length<=sizeLine/\(p == sysModules)=false/\∃ vs,KV kvs vs/\s.heap.DictOf (dB X.prog X.w) p vs:=I.hok p _ hx;have hlen:kvs.length=vs.length:=Paired.length r;exact wpAny_truthy_dict hS m (by omega) ⟨H,I.tok _,by rw [HS r];exact q⟩
 | _=>exact (show False from e).elim
theorem zj (ha:PE X a ta) (he:∀ whole,isTrue a X.env whole=(do let v <- whole;standAt a.pos;holding [v] (truthy v))) :
   PT X a (fun σ H Q=>ta σ H fun x H'=>∃ k,QK X.K x H' k/\Q k H'):=by
 intro pins s σ H Q I h;exact isTrue_plain (bg (ha pins s σ H _ I h) fun v s1 x H1 I1 r1 q1=>PU pins s1 σ H1 x v Q I1 r1 q1) (he _)
theorem tS {x:V} {us:List Value} (r:Vals [x] us):∃ u,us=[u]/\RelV x u:=by
 cases r with
 | cons r1 r2=>cases r2;exact ⟨_,rfl,r1⟩
theorem Ov {x y:V} {us:List Value} (r:Vals [x,y] us):∃ u w',us=[u,w']/\RelV x u/\RelV y w':=by
 cases r with
 | cons r1 r2 =>
   cases r2 with
   | cons r3 r4=>cases r4;exact ⟨_,_,rfl,r1,r3⟩
end
end L2
namespace L2
open PySem PySem.Spec PyProof.Rows
structure ObjM (h:Heap) (x dx C:Addr) (mA:Str->Option Value):Prop where
 obj:h.get? x=some (PySem.W.instObj C dx)
 ns:h.Ns1 dx mA
 ne:dx≠x
theorem JD {h:Heap} {dx:Addr} {mA:Str->Option Value} (n:h.Ns1 dx mA):∃ od,h.get? dx=some od/\∀ name,PySem.W.lookIn name od=some (mA name):=by
 obtain ⟨o,es,ep,ho,hd,hk,_,hm⟩:=n;refine ⟨o,ho,fun name=>?_⟩;have e:=hm name;unfold nsFind findBy at e;rw [<- Array.find?_toList] at e;unfold PySem.W.lookIn;rw [hd];dsimp only;split
 . rename_i y q
   rw [q] at e;exact congrArg some e
 . rename_i q
   rw [q] at e;have a:es.toList.any (·.refKey)=false:=by
     rw [List.any_eq_false];intro y hy;obtain ⟨z,t,hkey⟩:=hk y (Array.mem_toList_iff.mp hy);simp [DictEntry.refKey,hkey]
   have a':¬ es.toList.any (·.refKey)=true:=by rw [a];exact Bool.false_ne_true
   rw [if_neg a'];exact congrArg some e
theorem ObjM.look {h:Heap} {x dx C:Addr} {mA:Str->Option Value} (I:ObjM h x dx C mA):∃ od,PySem.W.InstAt h x (PySem.W.instObj C dx) C (some od)/\∀ name,PySem.W.lookIn name od=some (mA name) :=
 let ⟨od,ho,hl⟩:=JD I.ns
 ⟨od,⟨I.obj,rfl,rfl,ho⟩,hl⟩
section
variable {prog:Program} {w:World} {A:Around} {E:Value->Shared->Prop} {s:Shared} {K:PySem.W.Frag} {x dx C f:Addr} {mA:Str->Option Value} {name:Str} {v:Value}
theorem OJ {expr:Bool} {Q:Value->Shared->Prop} (X:K.In s.heap) (I:ObjM s.heap x dx C mA) (hg:PySem.W.plainGet K C name=true) (hh:PySem.W.hasDictIn K C=true)
   (ha:PySem.W.findIn K (.ref C) name=some none) (hv:mA name=some v) (hv':PySem.W.handedIn v=true) (h:Q v { s with toks:=s.toks+1 }) :
   wpAny (model prog w) A (getAttr (.ref x) name expr) Q E s:=by
 obtain ⟨od,J,hl⟩:=I.look;exact PySem.W.get_value X J (PySem.W.plainGet_of hg).1 (PySem.W.findObj_own hh ha rfl (by rw [hl,hv])) hv' h
theorem Pp {ns:List Str} {Q:Unit->Shared->Prop} (X:K.In s.heap) (I:ObjM s.heap x dx C mA)
   (hs:PySem.W.findIn K (.ref C) "__setattr__"=some (some (.builtin "object.__setattr__"))) (hp:PySem.W.plainOver K C=true) (ht:PySem.W.takerIn K C name=some none) (hh:PySem.W.hasDictIn K C=true)
   (hw:PySem.Within mA ns) (hsz:ns.length<=sizeLine)
   (h:∀ h',ObjM h' x dx C (fun y=>if y=name then some v else mA y)->Heap.SameBut dx s.heap h'->Q () { s with heap:=h',toks:=s.toks+2 }) :
   wpAny (model prog w) A (setAttr (.ref x) name v) Q E s:=by
 obtain ⟨od,J,hl⟩:=I.look;refine PySem.W.set_plain X J hs (PySem.W.osa_open (s:={ s with toks:=s.toks+1 }) (r:=none) X J hp ht fun b=>?_);obtain ⟨cd,hc,hd'⟩:=PySem.W.any_some hh;have hx:s.heap.get? x=some ⟨.ref C,some dx,.plain,#[]⟩:=I.obj;refine wpAny_bind (wpAny_pure (wpAny_bind (wpAny_bind (wpAny_loadPart hx (wpAny_bind (PySem.W.Looks.here (s:={ s with toks:=s.toks+1 }) (PySem.W.looks_clsIn X hc) ?_))))));rw [hd'];refine wpAny_pure (a:=some dx) (wpAny_bind (wpAny_pure (wpAny_bind ?_)));refine wpAny_nsSet1 (s:={ s with toks:=s.toks+1 }) I.ns fun h' hn2 hs2=>?_;obtain ⟨oD,esD,epD,hoD,hdD,hcD⟩:=hn2.count (PySem.Within.cons name v hw);refine wpAny_bind (wpAny_lookBehind hoD (by rw [hdD];exact pastItsLine_dict (Nat.le_trans hcD (by rw [List.length_cons];omega))) ?_);exact wpAny_pure (h _ ⟨(hs2.2 _ (Ne.symm I.ne)).trans I.obj,hn2,I.ne⟩ hs2)
theorem MT {R:Result->Shared->Prop} {vs:List Value} {kw:List (Str × Value)} (X:K.In s.heap) (hm:PySem.W.makesIn K C=true)
   (hi:PySem.W.findIn K (.ref C) "__init__"=some (some (.ref f))) (hf:PySem.W.typeIn K (.ref f)=some (.type "function"))
   (h:codeAny (model prog w) (A.under (.builtin "type.__call__" ⟨.ref C::vs,kw⟩)) (.call (.ref f) ⟨.ref (s.heap.objs.size+1)::vs,kw⟩) (PySem.W.InitBack (s.heap.objs.size+1) R)
     { s with heap:=(s.heap.push PySem.W.emptyDict).push (PySem.W.instObj C s.heap.objs.size) }) :
   codeAny (model prog w) A (.call (.ref C) ⟨vs,kw⟩) R s:=by
 obtain ⟨hh,g,d,t,os⟩:=s;exact PySem.W.make_core (PySem.W.makes_of X hm) (PySem.W.looks_findIn X hi) (fun self=>PySem.W.bind_fn X self hf) (.inl rfl) h
end
def aR (f:Str) (v:V):List (Str × V)->List (Str × V)
 | []=>[(f,v)]
 | (g,x)::r=>if g=f then (g,v)::r else (g,x)::aR f v r
theorem bG (f g:Str) (v:V):∀ fs:List (Str × V),(aR f v fs).lookup g=if g=f then some v else fs.lookup g
 | []=>by
   show List.lookup g [(f,v)]=_;by_cases h:g=f
   . have hb:(g == f)=true:=beq_iff_eq.mpr h;simp only [List.lookup,hb,if_pos h]
   . have hb:(g == f)=false:=beq_eq_false_iff_ne.mpr h;simp only [List.lookup,hb,if_neg h]
 | (k,x)::r=>by
   have ih:=bG f g v r;rw [show aR f v ((k,x)::r)=(if k=f then (k,v)::r else (k,x)::aR f v r) from rfl];by_cases hk:k=f
   . rw [if_pos hk];by_cases h:g=k
     . have hb:(g == k)=true:=beq_iff_eq.mpr h;simp only [List.lookup,hb,if_pos (h.trans hk)]
     . have hb:(g == k)=false:=beq_eq_false_iff_ne.mpr h;simp only [List.lookup,hb,if_neg (fun e:g=f=>h (e.trans hk.symm))]
   . rw [if_neg hk];by_cases h:g=k
     . have hb:(g == k)=true:=beq_iff_eq.mpr h;simp only [List.lookup,hb,if_neg (fun e:g=f=>hk (h.symm.trans e))]
     . have hb:(g == k)=false:=beq_eq_false_iff_ne.mpr h;simp only [List.lookup,hb];exact ih
theorem xg (f:Str) (v:V):∀ fs:List (Str × V),f∈(aR f v fs).map (·.1)/\∀ g,g∈fs.map (·.1)->g∈(aR f v fs).map (·.1)
 | []=>⟨by simp [aR],fun g h=>by simp at h⟩
 | (k,x)::r=>by
   obtain ⟨i1,i2⟩:=xg f v r;rw [show aR f v ((k,x)::r)=(if k=f then (k,v)::r else (k,x)::aR f v r) from rfl];by_cases hk:k=f
   . rw [if_pos hk];subst hk;exact ⟨by simp,fun g h=>by simpa using h⟩
   . rw [if_neg hk];refine ⟨?_,fun g h=>?_⟩
     . rw [List.map_cons];exact List.mem_cons_of_mem _ i1
     . rw [List.map_cons] at h ⊢;rcases List.mem_cons.mp h with e|e
       . exact List.mem_cons.mpr (.inl e)
       . exact List.mem_cons_of_mem _ (i2 g e)
theorem yj (f:Str) (v:V):∀ fs:List (Str × V),(aR f v fs).length<=fs.length+1
 | []=>by simp [aR]
 | (k,x)::r=>by
   have ih:=yj f v r;rw [show aR f v ((k,x)::r)=(if k=f then (k,v)::r else (k,x)::aR f v r) from rfl];by_cases hk:k=f
   . rw [if_pos hk,List.length_cons,List.length_cons];omega
   . rw [if_neg hk,List.length_cons,List.length_cons];omega
theorem RelO.some_of {v:V} {o:Option Value} (r:RelO (some v) o):∃ u,o=some u/\RelV v u:=by
 cases o with
 | none=>exact (show False from r).elim
 | some u=>exact ⟨u,rfl,r⟩
theorem Kf {v:V} {u:Value} (r:RelV v u):PySem.W.handedIn u=true:=by
 cases v with
 | non=>cases (show u=Value.none from r);rfl
 | bl b=>cases (show u=Value.bool b from r);rfl
 | int i=>obtain ⟨t,e⟩:=(show ∃ t,u=Value.int i t from r);cases e;rfl
 | str x=>obtain ⟨t,e⟩:=(show ∃ t,u=Value.str x t from r);cases e;rfl
 | byt b=>obtain ⟨t,e⟩:=(show ∃ t,u=Value.bytes b t from r);cases e;rfl
 | flt b=>obtain ⟨t,e⟩:=(show ∃ t,u=Value.float b t from r);cases e;rfl
 | ref a=>cases (show u=Value.ref a from r);rfl
 | ty n=>cases (show u=Value.type n from r);rfl
section
variable {P:Program} {w:World} {H H':Hp} {h h':Heap} {a C dx:Addr} {fs fs':List (Str × V)}
theorem BF (hok:HOk P w H h) (e:H a=some (.ins C dx fs)):∃ mA,ObjM h a dx C mA/\(∀ f,RelO (fs.lookup f) (mA f))/\PySem.Within mA (fs.map (·.1))/\fs.length<=1000/\H dx=some (.own a):=by
 obtain ⟨d,z,ne,ob,mA,n,r,q⟩:=(show ObjOk P w H h a (.ins C dx fs) from hok a _ e);exact ⟨mA,⟨ob,n,ne⟩,r,q,z,d⟩
end
structure Cls (K:PySem.W.Frag) (C:Addr):Prop where
 pg:PySem.W.plainGet K C Str.empty=true
 hd:PySem.W.hasDictIn K C=true
 po:PySem.W.plainOver K C=true
 sa:PySem.W.findIn K (.ref C) "__setattr__"=some (some (.builtin "object.__setattr__"))
theorem Cls.get {K:PySem.W.Frag} {C:Addr} (c:Cls K C) (f:Str):PySem.W.plainGet K C f=true:=c.pg
def NoAttr (K:PySem.W.Frag) (C:Addr) (f:Str):Prop:=PySem.W.findIn K (.ref C) f=some none
theorem NoAttr.taker {K:PySem.W.Frag} {C:Addr} {f:Str} (n:NoAttr K C f):PySem.W.takerIn K C f=some none:=by
 unfold PySem.W.takerIn;rw [show PySem.W.findIn K (.ref C) f=some none from n]
 rfl
section
variable {X:Cx} {pins:List (Addr × Obj)} {σ:St} {H:Hp} {s:Shared} {a C dx:Addr} {fs:List (Str × V)} {f:Str} {v:V} {A:Around} {E:Value->Shared->Prop}
theorem HM {b:Bool} {Q:Value->Shared->Prop} (I:Inv X pins σ H s) (e:H a=some (.ins C dx fs)) (c:Cls X.K C) (n:NoAttr X.K C f) (l:fs.lookup f=some v)
   (h:∀ u s',Inv X pins σ H s'->RelV v u->Q u s'):wpAny (model X.prog X.w) A (getAttr (.ref a) f b) Q E s:=by
 obtain ⟨mA,O,r,_,_,_⟩:=BF I.hok e;obtain ⟨u,hu,ru⟩:=RelO.some_of (v:=v) (o:=mA f) (by rw [<- l];exact r f);exact OJ I.kIn O (c.get f) c.hd n hu (Kf ru) (h u _ (I.tok _) ru)
theorem Hy {y:V} {u:Value} {Q:Unit->Shared->Prop} (I:Inv X pins σ H s) (e:H a=some (.ins C dx fs)) (c:Cls X.K C) (n:NoAttr X.K C f) (hl:fs.length<1000) (ry:RelV y u)
   (h:∀ s',Inv X pins σ (upd H a (.ins C dx (aR f y fs))) s'->Q () s'):wpAny (model X.prog X.w) A (setAttr (.ref a) f u) Q E s:=by
 obtain ⟨mA,O,r,wi,_,ho⟩:=BF I.hok e;have hz:(fs.map (·.1)).length<=sizeLine:=by rw [List.length_map,sizeLine_eq];omega
 refine Pp I.kIn O c.sa c.po n.taker c.hd wi hz fun h' O' sb=>h _ ?_;have hd:∃ o,h'.get? dx=some o:=let ⟨o,_,_,e',_⟩:=O'.ns;⟨o,e'⟩;refine I.write (x:=a) (e:=dx) (by rw [e];exact True.intro) (.inr ho) (fun b q hb z=>(sb.2 b hb).trans z) hd ?_;refine ⟨by rw [ap O.ne];exact ho,?_,O.ne,O'.obj,_,O'.ns,fun g=>?_,fun g hg=>?_⟩
 . have:=yj f y fs;omega
 . show RelO ((aR f y fs).lookup g) (if g=f then some u else mA g);rw [bG];by_cases q:g=f
   . rw [if_pos q,if_pos q];exact ry
   . rw [if_neg q,if_neg q];exact r g
 . by_cases q:g=f
   . rw [q];exact (xg f y fs).1
   . refine (xg f y fs).2 g (wi g fun z=>hg ?_);show (if g=f then some u else mA g)=none;rw [if_neg q];exact z
theorem Inv.made (I:Inv X pins σ H s):Inv X pins σ (upd (upd H s.heap.objs.size (.own (s.heap.objs.size+1))) (s.heap.objs.size+1) (.ins C s.heap.objs.size []))
   { s with heap:=(s.heap.push PySem.W.emptyDict).push (PySem.W.instObj C s.heap.objs.size) }:=by
 have e1:(s.heap.push PySem.W.emptyDict).get? s.heap.objs.size=some PySem.W.emptyDict:=Heap.get?_push_size s.heap rfl;have e2:((s.heap.push PySem.W.emptyDict).push (PySem.W.instObj C s.heap.objs.size)).get? (s.heap.objs.size+1)=some (PySem.W.instObj C s.heap.objs.size):=by
   have:=Heap.get?_push_size (s.heap.push PySem.W.emptyDict) (o:=PySem.W.instObj C s.heap.objs.size) rfl
   rwa [Heap.size_push] at this
 have e3:(s.heap.push PySem.W.emptyDict).Ns s.heap.objs.size (fun _=>none):=⟨PySem.W.emptyDict,#[],_,e1,rfl,(fun e he=>absurd he (by simp)),fun _=>rfl⟩;have I1:=I.laid (a:=s.heap.objs.size) (o:=.own (s.heap.objs.size+1)) (h':=s.heap.push PySem.W.emptyDict) (t':=s.toks) (fun b u q=>Heap.get?_push_of_some _ q) (Nat.le_refl _) ⟨_,e1⟩;refine I1.laid (a:=s.heap.objs.size+1) (o:=.ins C s.heap.objs.size []) (t':=s.toks) (fun b u q=>Heap.get?_push_of_some _ q) (Nat.le_of_eq (Heap.size_push _ _)) ?_;have ne:s.heap.objs.size≠s.heap.objs.size+1:=Nat.ne_of_lt (Nat.lt_succ_self _);refine ⟨by rw [ap ne,ah],Nat.zero_le _,ne,e2,fun _=>none,(Heap.Ns1.of_empty e3).at fun o q=>Heap.get?_push_of_some _ q,fun _=>True.intro,fun y hy=>absurd rfl hy⟩
theorem Ph {prog:Program} {w:World} {env:Env} {e:Expr} {f:Str} {pos:Pos} {s:Shared} {Q:Value->Shared->Prop} (hb:attributeBase e f env (eval e env)=eval e env)
   (h:wpAny (model prog w) A (eval e env) (fun o s₁=>wpAny (model prog w) A (getAttr o f true) Q E s₁) E s):wpAny (model prog w) A (eval (.Attribute e f pos) env) Q E s :=
 Attribute_any_ h (by rw [arm_eval_Attribute,hb])
end
def NT (K:PySem.W.Frag) (ta:TE) (f:Str):TE:=fun σ H Q=>ta σ H fun x H1=>∃ a C dx fs v,x=.ref a/\H1 a=some (.ins C dx fs)/\Cls K C/\NoAttr K C f/\fs.lookup f=some v/\Q v H1
def LK (K:PySem.W.Frag) (ta tv:TE) (f:Str):TS:=fun D σ H=>tv σ H fun y H1=>ta σ H1 fun x H2=>∃ a C dx fs,x=.ref a/\H2 a=some (.ins C dx fs)/\Cls K C/\NoAttr K C f/\fs.length<1000 /\
 D.nx σ (upd H2 a (.ins C dx (aR f y fs)))
section
variable {X:Cx} {o e value:Expr} {f:Str} {pos pos' tpos:Pos} {ta tv:TE}
theorem dq (he:PE X e ta) (hb:attributeBase e f X.env (eval e X.env)=eval e X.env):PE X (.Attribute e f pos) (NT X.K ta f):=by
 intro pins s σ H Q I h;refine Ph hb (bg (he pins s σ H _ I h) fun u s1 x H1 I1 rx ⟨a,C,dx,fs,v,ex,ea,c,n,l,q⟩=>?_);subst ex;obtain rfl:u=Value.ref a:=rx;exact HM I1 ea c n l fun u' s2 I2 ru=>⟨v,H1,I2,ru,q⟩
theorem r9 (ha:PE X o ta) (hv:PE X value tv) (hs:swapsWith value (some (.Attribute o f pos')) pos.line X.env=pure false):PS X (.Assign [.Attribute o f pos'] value pos) (LK X.K ta tv f):=by
 intro pins s σ H D I h;refine plainObj_wpAny_Assign_Attribute (bg (hv pins s σ H _ I h) fun u s1 y H1 I1 ry q=>bg (ha pins s1 σ H1 _ I1 q) fun ov s2 x H2 I2 rx ⟨a,C,dx,fs,ex,ea,c,n,l,q2⟩=>?_) hs;subst ex;obtain rfl:ov=Value.ref a:=rx;exact Hy I2 ea c n l ry fun s3 I3=>⟨σ,_,I3,q2⟩
end
section
variable {X:Cx} {pins:List (Addr × Obj)} {σ:St} {H:Hp} {s:Shared} {A:Around} {E:Value->Shared->Prop} {Q:Value->Shared->Prop} {c:Value} {b:Bool}
inductive TyOf (K:PySem.W.Frag) (H:Hp):V->Value->Prop where
 | non:TyOf K H .non (.type "NoneType")
 | bl (x:Bool):TyOf K H (.bl x) (.type "bool")
 | int (i:Int):TyOf K H (.int i) (.type "int")
 | str (x:Str):TyOf K H (.str x) (.type "str")
 | flt (x:UInt64):TyOf K H (.flt x) (.type "float")
 | lst {a:Addr} {xs:List V} (e:H a=some (.lst xs)):TyOf K H (.ref a) (.type "list")
 | frz {a:Addr} {o:Obj} {xs:List V} (e:H a=some (.frz o (.lst xs))):TyOf K H (.ref a) (.type "list")
 | tup {a:Addr} {xs:List V} (e:H a=some (.tup xs)):TyOf K H (.ref a) (.type "tuple")
 | dK {a:Addr} {kvs:List (Key × V)} (e:H a=some (.dK kvs)):TyOf K H (.ref a) (.type "dict")
 | dT {a:Addr} {kvs:List (List Key × V)} (e:H a=some (.dT kvs)):TyOf K H (.ref a) (.type "dict")
 | ins {a C dx:Addr} {fs:List (Str × V)} (e:H a=some (.ins C dx fs)) (cl:Cls K C) (ha:PySem.W.findIn K (.ref C) "__class__"=some (some (.builtin "object.__class__")))
     (hn:PySem.W.specialIn K (.builtin "object.__class__") "__get__"=some (some (.builtin "getset_descriptor.__get__"))) (htk:PySem.W.takesIn K (.builtin "object.__class__")=some true)
     (hm:PySem.W.mroIn K C (.type "object")=some true):TyOf K H (.ref a) (.ref C)
theorem JW {x:V} {u t:Value} (I:Inv X pins σ H s) (rx:RelV x u) (ty:TyOf X.K H x t) (e:PySem.W.kitOne X.K t c=some b) (h:∀ tk,Q (.bool b) { s with toks:=tk }) :
   wpAny (model X.prog X.w) A (call (.builtin "isinstance") [u,c]) Q E s:=by
 cases ty with
 | non=>cases (show u=Value.none from rx);exact PySem.W.kia_one PySem.W.kitx_none I.kIn True.intro e (fun z=>nomatch z) h
 | bl y=>cases (show u=Value.bool y from rx);exact PySem.W.kia_one PySem.W.kitx_bool I.kIn True.intro e (fun z=>nomatch z) h
 | int i=>obtain ⟨t,q⟩:=(show ∃ t,u=Value.int i t from rx);cases q;exact PySem.W.kia_one PySem.W.kitx_int I.kIn True.intro e (fun z=>nomatch z) h
 | str y=>obtain ⟨t,q⟩:=(show ∃ t,u=Value.str y t from rx);cases q;exact PySem.W.kia_one PySem.W.kitx_str I.kIn True.intro e (fun z=>nomatch z) h
 | flt y=>obtain ⟨t,q⟩:=(show ∃ t,u=Value.float y t from rx);cases q;exact PySem.W.kia_one PySem.W.kitx_float I.kIn True.intro e (fun z=>nomatch z) h
 | @lst a xs ea =>
   cases (show u=Value.ref a from rx);obtain ⟨_,_,n,_,h1⟩:=(show ObjOk X.prog X.w H s.heap a (.lst xs) from I.hok a _ ea);exact PySem.W.kia_one PySem.W.kitx_list I.kIn ⟨_,h1,rfl⟩ e (fun z=>nomatch z) h
 | @frz a ob xs ea =>
   cases (show u=Value.ref a from rx);obtain ⟨_,_,_,n,_,h1⟩:=(show ObjOk X.prog X.w H s.heap a (.frz ob (.lst xs)) from I.hok a _ ea);exact PySem.W.kia_one PySem.W.kitx_list I.kIn ⟨_,h1,rfl⟩ e (fun z=>nomatch z) h
 | @tup a xs ea =>
   cases (show u=Value.ref a from rx);obtain ⟨_,_,_,p⟩:=(show ObjOk X.prog X.w H s.heap a (.tup xs) from I.hok a _ ea);obtain ⟨o,h1,h2,_⟩:=p;exact PySem.W.kia_one PySem.W.kitx_tuple I.kIn ⟨o,h1,h2⟩ e (fun z=>nomatch z) h
 | @dK a kvs ea =>
   cases (show u=Value.ref a from rx);obtain ⟨_,_,vs,_,p⟩:=(show ObjOk X.prog X.w H s.heap a (.dK kvs) from I.hok a _ ea);obtain ⟨o,es,ep,h1,h2,_⟩:=p;exact PySem.W.kia_one PySem.W.kitx_dict I.kIn ⟨o,h1,h2.1⟩ e (fun z=>nomatch z) h
 | @dT a kvs ea =>
   cases (show u=Value.ref a from rx);obtain ⟨_,_,xs,_,o,es,ep,h1,h2,_⟩:=(show ObjOk X.prog X.w H s.heap a (.dT kvs) from I.hok a _ ea);exact PySem.W.kia_one PySem.W.kitx_dict I.kIn ⟨o,h1,h2.1⟩ e (fun z=>nomatch z) h
 | @ins a C dx fs ea cl ha hn htk hm =>
   cases (show u=Value.ref a from rx);obtain ⟨mA,O,_⟩:=BF I.hok ea;obtain ⟨od,J,_⟩:=O.look;exact PySem.W.kia_one (PySem.W.kitx_own (cl.get _) cl.hd ha hn htk hm) I.kIn J e (fun z=>nomatch z) h
end
end L2
namespace L2
open PySem PySem.Spec PyProof.Rows
structure Room (k:Nat) (A:Around):Prop where
 hd:A.handled=none
 dp:A.depth+3*k+5<recursionLimit
 un:A.units+16*k+200<cLine
theorem Room.mono {j k:Nat} {A:Around} (r:Room k A) (h:j<=k):Room j A:=⟨r.hd,by have:=r.dp;omega,by have:=r.un;omega⟩
theorem Room.deeper {k:Nat} {A:Around} (r:Room (k+1) A) (env:Env):Room k (A.deeper env) :=
 ⟨r.hd,by have:=r.dp;show A.depth+1+3*k+5<_;omega,by have:=r.un;show A.units+3+16*k+200<_;omega⟩
theorem HB {A:Around} {C:Addr} {us:List Value} {kw:List (Str × Value)}:(A.under (.builtin "type.__call__" ⟨.ref C::us,kw⟩)).depth=A.depth+1:=by
 first|rfl|simp [Around.under,Code.weight,Code.isCreation,Code.isGuard,Code.isCaller,Code.frames,Code.isFrame,guardIds]
theorem Ie {A:Around} {C:Addr} {us:List Value} {kw:List (Str × Value)}:(A.under (.builtin "type.__call__" ⟨.ref C::us,kw⟩)).units=A.units+1:=by
 first|rfl|simp [Around.under,Code.cUnits,Code.frames,Code.isFrame]
theorem Room.make {k:Nat} {A:Around} (r:Room (k+1) A) (C:Addr) (us:List Value) (kw:List (Str × Value)):Room k (A.under (.builtin "type.__call__" ⟨.ref C::us,kw⟩)) :=
 ⟨r.hd,by have:=r.dp;rw [HB];omega,by have:=r.un;rw [Ie];omega⟩
theorem Room.depth {k:Nat} {A:Around} (r:Room k A):A.depth<recursionLimit:=by have:=r.dp;omega
theorem Room.units {k:Nat} {A:Around} (r:Room k A):A.units+64<cLine:=by have:=r.un;omega
def tNil:TA:=fun _ H Q=>Q [] H
def Ja (ta:TE) (tr:TA):TA:=fun σ H Q=>ta σ H fun x H1=>tr σ H1 fun xs H2=>Q (x::xs) H2
section
variable {X:Cx} {e:Expr} {es:List Expr} {te:TE} {t:TA} {pos:Pos}
theorem aj:PA X [] tNil:=fun _ _ _ _ H Q I h=>Calls.spliced_nil ⟨[],H,I,.nil,h⟩
theorem ag (ha:PE X e te) (hr:PA X es t) (hs:starEach (e::es) X.env=(false,eval e X.env)::starEach es X.env:=by rfl):PA X (e::es) (Ja te t):=by
 intro pos pins s σ H Q I h;rw [hs];show wpAny _ _ (spliced ((false,eval e X.env)::backTo pos (starEach es X.env))) _ _ s;refine Calls.spliced_cons (bg (ha pins s σ H _ I h) fun u s1 x H1 I1 r1 q1=>?_);exact rD (hr pos pins s1 σ H1 _ I1 q1) fun us s2 xs H2 I2 r2 q2=>⟨x::xs,H2,I2,.cons r1 r2,q2⟩
def Mw (t:TA):TE:=fun σ H Q=>t σ H fun xs H1=>xs.length<=sizeLine/\∀ p,H1 p=none->Q (.ref p) (upd H1 p (.tup xs))
def Om (t:TA):TE:=fun σ H Q=>t σ H fun xs H1=>xs.length<=sizeLine/\∀ p,H1 p=none->Q (.ref p) (upd H1 p (.lst xs))
theorem iz {x1} (h:PA X es t):PE X (.Tuple es x1 pos) (Mw t):=by
 intro pins s σ H Q I hq;refine wpAny_Tuple_spliced (rD (h pos pins s σ H _ I hq) fun us s1 xs H1 I1 r ⟨z,q⟩=>⟨by rw [<- r.length];exact z,?_⟩);have hf:H1 s1.heap.objs.size=none:=I1.hok.fresh (Nat.le_refl _);refine ⟨.ref s1.heap.objs.size,upd H1 s1.heap.objs.size (.tup xs),I1.laid (t':=s1.toks) (fun b u e=>Heap.get?_push_of_some _ e) (Nat.le_refl _) ?_,rfl,q _ hf⟩;exact ⟨z,us,r,⟨_,Heap.get?_push_size _ rfl,rfl,_,rfl⟩⟩
theorem d8 (h:PA X es t):PE X (.List es pos) (Om t):=by
 intro pins s σ H Q I hq;refine wpAny_List_spliced (rD (h pos pins s σ H _ I hq) fun us s1 xs H1 I1 r ⟨z,q⟩=>⟨by rw [<- r.length];exact z,?_⟩);have hf:H1 s1.heap.objs.size=none:=I1.hok.fresh (Nat.le_refl _);refine ⟨.ref s1.heap.objs.size,upd H1 s1.heap.objs.size (.lst xs),I1.laid (t':=s1.toks) (fun b u e=>Heap.get?_push_of_some _ e) (Nat.le_refl _) ?_,rfl,q _ hf⟩;exact ⟨z,us,0,r,Heap.get?_push_size _ rfl⟩
end
abbrev Sp:=List V->Hp->VK->XK->Prop
abbrev CXT:=List Env->Hp->Shared->XK->Value->Shared->Prop
structure Env0 (P:Program) (w:World) (K:PySem.W.Frag) (mg:Str->Option Value) (base:Heap) (A:Around) (outer:List Env) (s:Shared) (H:Hp):Prop where
 frames:A.frames=some outer
 mod:Mod K mg base
 bs:∀ b o,base.get? b=some o->s.heap.get? b=some o/\H b=none
 bsz:base.objs.size<=s.heap.objs.size
 funs:s.heap.FunFrames base outer
 frf:∀ b∈frs outer,H b=none
 hok:HOk P w H s.heap
 bare:AllBare s.gens
def CE (outer:List Env) (P:Program) (w:World) (H:Hp) (s:Shared) (Q:VK) (u:Value) (s':Shared):Prop :=
 ∃ v H',s'.os=s.os/\AllBare s'.gens/\Un (frs outer) [] H H' s.heap s'.heap/\HOk P w H' s'.heap/\RelV v u/\Q v H'
def CR (CX:CXT) (outer:List Env) (P:Program) (w:World) (H:Hp) (s:Shared) (Q:VK) (E:XK) (r:Result) (s':Shared):Prop :=
 match r with
 | .ok (.ret u)=>CE outer P w H s Q u s'
 | .ok _=>False
 | .error e=>CX outer H s E e s'
structure FnOk (P:Program) (w:World) (K:PySem.W.Frag) (mg:Str->Option Value) (base:Heap) (CX:CXT) (k:Nat) (f:Addr) (fd:FuncData) (ps:List Str) (sp:Sp):Prop where
 len:∀ vs H Q E,sp vs H Q E->vs.length=ps.length
 run:∀ (A:Around) (outer:List Env) (s:Shared) (H:Hp) (args:Args) (us:List Value) (vs:List V) (Q:VK) (E:XK),Room k A->Env0 P w K mg base A outer s H->BindsTo s fd args (ps.zip us)->Vals vs us->sp vs H Q E ->
   codeAny (model P w) A (.call (.ref f) args) (CR CX outer P w H s Q E) s
theorem Env0.make {P:Program} {w:World} {K:PySem.W.Frag} {mg:Str->Option Value} {base:Heap} {A:Around} {outer:List Env} {s:Shared} {H:Hp} (e:Env0 P w K mg base A outer s H) (C:Addr) (us:List Value) (kw:List (Str × Value)) :
   Env0 P w K mg base (A.under (.builtin "type.__call__" ⟨.ref C::us,kw⟩)) outer s H:=⟨by first|exact e.frames|(simpa [Around.under,Code.envs,Code.isFrame,pushEnvs] using e.frames),e.mod,e.bs,e.bsz,e.funs,e.frf,e.hok,e.bare⟩
section
variable {X:Cx} {pins:List (Addr × Obj)} {σ:St} {H:Hp} {s s':Shared}
theorem Inv.env0 (I:Inv X pins σ H s):Env0 X.prog X.w X.K X.mg X.base X.A X.stack s H :=
 ⟨I.ok.frames,I.ok.mod,I.bs,Nat.le_trans I.ok.bsz I.sz,I.stack,I.stkFree,I.hok,I.bare⟩
theorem Inv.after {Q:VK} {u:Value} (I:Inv X pins σ H s) (h:CE X.stack X.prog X.w H s Q u s'):EP X pins σ Q u s':=by
 obtain ⟨v,H',os,bare,un,hok,r,q⟩:=h;obtain ⟨hh,g,d,t,os'⟩:=s';obtain rfl:os'=s.os:=os;exact ⟨v,H',I.call (h':=hh) (g':=g) (d':=d) (t':=t) (ch:=[]) un hok bare (fun b z=>absurd z (by simp)),r,q⟩
end
def IP (sp:Sp) (dvs:List V) (E:XK) (t:TA):TE:=fun σ H Q=>t σ H fun vs H1=>sp (vs++dvs) H1 Q E
def Iy (C:Addr) (sp:Sp) (dvs:List V) (E:XK) (t:TA):TE:=fun σ H Q=>t σ H fun vs H1=>∀ x dx,H1 x=none->H1 dx=none->dx≠x ->
 sp (.ref x::(vs++dvs)) (upd (upd H1 dx (.own x)) x (.ins C dx [])) (fun v H2=>v=.non/\Q (.ref x) H2) E
def Binds (K:PySem.W.Frag) (fd:FuncData) (ps:List Str) (ds:List Value):Prop :=
 ∀ (s:Shared) (us:List Value),K.In s.heap->(us++ds).length=ps.length->BindsTo s fd ⟨us,[]⟩ (ps.zip (us++ds))
theorem Binds.all {K:PySem.W.Frag} {fd:FuncData} {ps:List Str} (h:∀ us:List Value,us.length=ps.length->bindArgs fd ⟨us,[]⟩=pure (ps.zip us)):Binds K fd ps []:=fun s us _ hl=>by
 rw [List.append_nil] at hl ⊢;exact .of_eq (h us hl)
def sS (CX:CXT) (X:Cx) (E:XK):Prop:=∀ (pins:List (Addr × Obj)) (σ:St) (H:Hp) (s:Shared) (e:Value) (s':Shared),Inv X pins σ H s->CX X.stack H s E e s'->X.xe e s'
section
variable {X:Cx} {CX:CXT} {k:Nat} {f C:Addr} {fd:FuncData} {ps:List Str} {sp:Sp} {dvs:List V} {ds:List Value} {E:XK} {x m:Str} {p pos apos:Pos} {e o:Expr} {es:List Expr} {ta:TE} {t:TA}
theorem P8 {pins:List (Addr × Obj)} {σ:St} {H:Hp} {s:Shared} {Q:VK} {us:List Value} {vs:List V} (F:FnOk X.prog X.w X.K X.mg X.base CX k f fd ps sp) (hr:Room k X.A) (hb:Binds X.K fd ps ds) (hd:Vals dvs ds) (hx:sS CX X E)
   (I:Inv X pins σ H s) (r:Vals vs us) (h:sp (vs++dvs) H Q E):wpAny (model X.prog X.w) X.A (call (.ref f) us) (EP X pins σ Q) X.xe s:=by
 have r2:Vals (vs++dvs) (us++ds):=r.append hd;have hl:(us++ds).length=ps.length:=by rw [<- r2.length];exact F.len _ _ _ _ h
 refine wpAny_call (codeAny_mono (F.run X.A X.stack s H ⟨us,[]⟩ (us++ds) (vs++dvs) Q E hr I.env0 (hb s us I.kIn hl) r2 h) fun r s' hq=>?_);cases r with
 | error e=>exact hx pins σ H s e s' I hq
 | ok fl =>
   cases fl with
   | ret u=>exact I.after hq
   | next=>exact False.elim hq
   | brk=>exact False.elim hq
   | cont=>exact False.elim hq
theorem aw (F:FnOk X.prog X.w X.K X.mg X.base CX k f fd ps sp) (hr:Room k X.A) (hg:Gl X x) (hm:X.mg x=some (.ref f)) (hk:PySem.W.keepIn X.K (.ref f)=true) (hb:Binds X.K fd ps ds) (hd:Vals dvs ds) (hx:sS CX X E)
   (ha:PA X (e::es) t) (hdb:(x == ("__debug__":Str))=false:=by decide) (he:starEach (e::es) X.env=(false,eval e X.env)::starEach es X.env:=by rfl) (hpl:(backTo pos (starEach es X.env)).any (·.1)=false:=by rfl) :
   PE X (.Call (.Name x p) (e::es) [] pos) (IP sp dvs E t):=by
 intro pins s σ H Q I h;refine wpAny_Call_Name_kw (xM I hg hm ?_ hdb);refine PySem.W.callWith_K (h₀:=X.base) I.ok.mod.kin hk (rD (ha pos pins s σ H _ I h) fun us s1 vs H1 I1 r q=>⟨I1.kIn,?_⟩) he hpl;exact P8 F hr hb hd hx I1 r q
structure Mk (K:PySem.W.Frag) (C f:Addr):Prop where
 makes:PySem.W.makesIn K C=true
 init:PySem.W.findIn K (.ref C) "__init__"=some (some (.ref f))
 fn:PySem.W.isFn K (.ref f)=true
 kp:PySem.W.keepIn K (.ref C)=true
theorem Lu {pins:List (Addr × Obj)} {σ:St} {H:Hp} {s:Shared} {Q:VK} {us:List Value} {vs:List V} (M:Mk X.K C f) (F:FnOk X.prog X.w X.K X.mg X.base CX k f fd ps sp) (hr:Room (k+1) X.A) (hb:Binds X.K fd ps ds) (hd:Vals dvs ds)
   (hx:sS CX X E) (I:Inv X pins σ H s) (r:Vals vs us)
   (h:∀ x dx,H x=none->H dx=none->dx≠x->sp (.ref x::(vs++dvs)) (upd (upd H dx (.own x)) x (.ins C dx [])) (fun v H2=>v=.non/\Q (.ref x) H2) E) :
   wpAny (model X.prog X.w) X.A (call (.ref C) us) (EP X pins σ Q) X.xe s:=by
 have hq:=h (s.heap.objs.size+1) s.heap.objs.size (I.hok.fresh (Nat.le_succ _)) (I.hok.fresh (Nat.le_refl _)) (Nat.ne_of_lt (Nat.lt_succ_self _));have I2:=Inv.made (C:=C) I;have r2:Vals (V.ref (s.heap.objs.size+1)::(vs++dvs)) (Value.ref (s.heap.objs.size+1)::(us++ds)):=.cons rfl (r.append hd);have hl:(Value.ref (s.heap.objs.size+1)::us++ds).length=ps.length:=by
   have e:=r2.length;rw [F.len _ _ _ _ hq] at e;exact e.symm
 refine wpAny_call (MT (f:=f) I.kIn M.makes M.init (beq_iff_eq.mp M.fn) (codeAny_mono (F.run _ X.stack _ _ ⟨Value.ref (s.heap.objs.size+1)::us,[]⟩ (Value.ref (s.heap.objs.size+1)::(us++ds)) _ _ E (hr.make C us [])
   (I2.env0.make C us []) (hb _ (Value.ref (s.heap.objs.size+1)::us) I2.kIn hl) r2 hq) fun r s' hq'=>?_))
 cases r with
 | error e=>exact hx pins σ _ _ e s' I2 hq'
 | ok fl =>
   cases fl with
   | ret u =>
     obtain ⟨v,H',I3,rv,ev,q3⟩:=I2.after hq';subst ev;exact ⟨rv,⟨V.ref (s.heap.objs.size+1),H',I3,rfl,q3⟩⟩
   | next=>exact False.elim hq'
   | brk=>exact False.elim hq'
   | cont=>exact False.elim hq'
theorem Hj (M:Mk X.K C f) (F:FnOk X.prog X.w X.K X.mg X.base CX k f fd ps sp) (hr:Room (k+1) X.A) (hg:Gl X x) (hm:X.mg x=some (.ref C)) (hb:Binds X.K fd ps ds) (hd:Vals dvs ds) (hx:sS CX X E)
   (ha:PA X (e::es) t) (hdb:(x == ("__debug__":Str))=false:=by decide) (he:starEach (e::es) X.env=(false,eval e X.env)::starEach es X.env:=by rfl) (hpl:(backTo pos (starEach es X.env)).any (·.1)=false:=by rfl) :
   PE X (.Call (.Name x p) (e::es) [] pos) (Iy C sp dvs E t):=by
 intro pins s σ H Q I h;refine wpAny_Call_Name_kw (xM I hg hm ?_ hdb);refine PySem.W.callWith_K (h₀:=X.base) I.ok.mod.kin M.kp (rD (ha pos pins s σ H _ I h) fun us s1 vs H1 I1 r q=>⟨I1.kIn,?_⟩) he hpl;exact Lu M F hr hb hd hx I1 r q
end
section
variable {X:Cx} {CX:CXT} {k:Nat} {f C:Addr} {fd:FuncData} {ps ks:List Str} {sp:Sp} {E:XK} {x m:Str} {p pos apos kpos:Pos} {e o:Expr} {es:List Expr} {kws:List Keyword} {te ta:TE} {t tk:TA} {nm:Option Str}
variable {g:List Value->List Value->List Value} {gV:List V->List V->List V}
end
structure FnScope (N P:List Str) (sc:Scope):Prop where
 kind:sc.kind=.function
 co:sc.isCoroutine=false
 gen:sc.isGenerator=false
 nd:N.Nodup
 pre:N.take P.length=P
 par:∀ x∈P,sc.names.lookup x=some .local\/sc.names.lookup x=some .cell
 nofree:∀ y∈sc.names,y.2≠.free
theorem CM {kindOf:Str->Option NameKind} {x:Str}:∀ {binds:List (Str × Value)} {m:Str->Option Value},(∀ v,(x,v) ∉ binds)->bindL kindOf binds m x=m x
 | [],_,_=>rfl
 | (n,v)::r,m,h=>by
   unfold bindL;rw [CM fun w hw=>h w (List.mem_cons_of_mem _ hw)];split
   . have:x≠n:=(by rintro rfl;exact h v List.mem_cons_self);simp [this]
   . rfl
theorem CH {kindOf:Str->Option NameKind} {x:Str}:∀ {binds:List (Str × Value)} {m:Str->Option Value},(∀ v,(x,v) ∉ binds)->bindC kindOf binds m x=m x
 | [],_,_=>rfl
 | (n,v)::r,m,h=>by
   unfold bindC;rw [CH fun w hw=>h w (List.mem_cons_of_mem _ hw)];split
   . rfl
   . have:x≠n:=(by rintro rfl;exact h v List.mem_cons_self);simp [this]
theorem CQ {kindOf:Str->Option NameKind} {x:Str} {v:Value}:∀ {P:List Str} {vs:List Value} {i:Nat} {m:Str->Option Value},P.Nodup->P[i]?=some x->vs[i]?=some v->kindOf x=some .local ->
   bindL kindOf (P.zip vs) m x=some v
 | [],_,_,_,_,h,_,_=>by simp at h
 | _::_,[],_,_,_,_,h,_=>by simp at h
 | p::P,w::vs,0,m,nd,h1,h2,hk=>by
   simp at h1 h2;subst h1;subst h2;show bindL kindOf ((p,w)::P.zip vs) m p=_;unfold bindL;rw [CM fun v hv=>(List.nodup_cons.mp nd).1 (List.of_mem_zip hv).1,if_pos hk];simp
 | p::P,w::vs,i+1,m,nd,h1,h2,hk=>by
   show bindL kindOf ((p,w)::P.zip vs) m x=_;unfold bindL;exact CQ (i:=i) (List.nodup_cons.mp nd).2 (by simpa using h1) (by simpa using h2) hk
theorem C4 {kindOf:Str->Option NameKind} {x:Str} {v:Value}:∀ {P:List Str} {vs:List Value} {i:Nat} {m:Str->Option Value},P.Nodup->P[i]?=some x->vs[i]?=some v->kindOf x≠some .local ->
   bindC kindOf (P.zip vs) m x=some v
 | [],_,_,_,_,h,_,_=>by simp at h
 | _::_,[],_,_,_,_,h,_=>by simp at h
 | p::P,w::vs,0,m,nd,h1,h2,hk=>by
   simp at h1 h2;subst h1;subst h2;show bindC kindOf ((p,w)::P.zip vs) m p=_;unfold bindC;rw [CH fun v hv=>(List.nodup_cons.mp nd).1 (List.of_mem_zip hv).1,if_neg hk];simp
 | p::P,w::vs,i+1,m,nd,h1,h2,hk=>by
   show bindC kindOf ((p,w)::P.zip vs) m x=_;unfold bindC;exact C4 (i:=i) (List.nodup_cons.mp nd).2 (by simpa using h1) (by simpa using h2) hk
def start (N:List Str) (vs:List V):St:=vs.map some++List.replicate (N.length - vs.length) none
def nN (CX:CXT) (P:Program) (w:World) (K:PySem.W.Frag) (mg:Str->Option Value) (base:Heap) (N:List Str) (qual:Str) (scope:Scope) (f:Addr) (cd:Value) (A:Around) (outer:List Env) (s:Shared) (H:Hp) (E:XK):Cx where
 prog:=P
 w:=w
 K:=K
 mg:=mg
 base:=base
 A:=A.deeper (envOfC qual scope s.heap.objs.size f cd)
 N:=N
 s₀:=s
 H₀:=H
 env:=envOfC qual scope s.heap.objs.size f cd
 outer:=outer
 stack:=envOfC qual scope s.heap.objs.size f cd::outer
 ex:=[]
 calm:=true
 fn:=fun _=>true
 pn:=[]
 xe:=fun e s'=>wpAny (model P w) (A.deeper (envOfC qual scope s.heap.objs.size f cd)) (leaving (envOfC qual scope s.heap.objs.size f cd) e) (fun _ s''=>CX outer H s E e s'') (fun e' s''=>CX outer H s E e' s'') s'
theorem jg {sc:Scope} {n:Nat} {x:Str} (h:sc.names.lookup x=some .cell):∃ c,(cellsFrom n sc.names []).lookup x=some c:=by
 have q:=PySem.W.cellsFrom_some sc.names n [] (.inl h);exact Option.isSome_iff_exists.mp q
theorem Jv {CX:CXT} {P:Program} {w:World} {K:PySem.W.Frag} {mg:Str->Option Value} {base:Heap} {N ps:List Str} {qual:Str} {scope:Scope} {f:Addr} {cd:Value} {A:Around} {outer:List Env} {s s1:Shared} {H:Hp} {E:XK} {us:List Value} {vs:List V}
   (S:FnScope N ps scope) (hd:A.handled=none) (e0:Env0 P w K mg base A outer s H) (hl:vs.length=ps.length) (r:Vals vs us)
   (x:InCallC s s.heap.objs.size (bindL (envOfC qual scope s.heap.objs.size f cd).kindOf (ps.zip us) fun _=>none) (cellsFrom (s.heap.objs.size+1) scope.names []) (bindC (envOfC qual scope s.heap.objs.size f cd).kindOf (ps.zip us) fun _=>none) s1) :
   Inv (nN CX P w K mg base N qual scope f cd A outer s H E) [] (start N vs) H s1:=by
 have hpl:ps.length<=N.length:=by have:=congrArg List.length S.pre;rw [List.length_take] at this;omega
 obtain ⟨h1,tk,rfl,hk⟩:=x.done;have noA:∀ b:Addr,b ∉ (nN CX P w K mg base N qual scope f cd A outer s H E).ex:=fun b z=>absurd (show b∈([]:List Addr) from z) (by simp);refine ⟨⟨e0.mod,S.kind,rfl,rfl,Nat.le_refl _,fun y z c h1 h2=>?_,fun y hy=>?_,fun y c _ h=>?_,fun _=>hd,Around.frames_deeper e0.frames,.inr ⟨rfl,rfl⟩,fun b z=>absurd z (noA b),e0.bs,e0.bsz,fun b _ _=>noA b,fun b z=>absurd z (noA b),e0.funs,e0.frf⟩,
   rfl,e0.bare,Un.kept hk,⟨_,x.toInCall.ns,fun i y v h1 h2 h3=>?_⟩,fun y c h=>⟨_,x.cell y c h⟩,e0.hok.fresh (Nat.le_refl _),fun y c h=>?_,fun p hp=>absurd (show p∈([]:List (Addr × Obj)) from hp) (by simp),e0.hok.kept hk,?_⟩
 . exact name_of_addr x.apart (PySem.mem_of_lookup h1) (PySem.mem_of_lookup h2)
 . have hy:scope.names.lookup y=some .cell\/scope.names.lookup y=some .free:=hy;rcases hy with hy|hy
   . exact jg hy
   . exact absurd rfl (S.nofree _ (PySem.mem_of_lookup hy))
 . exact Nat.le_of_lt (x.above y c (PySem.mem_of_lookup h))
 . have hi:i<vs.length:=by
     unfold start at h2;by_cases hi:i<vs.length
     . exact hi
     . rw [List.getElem?_append_right (by simpa using hi)] at h2;rw [List.getElem?_replicate] at h2;split at h2 <;> cases h2
   have ha:vs[i]?=some v:=by
     unfold start at h2;rw [List.getElem?_append_left (by simpa using hi),List.getElem?_map] at h2;cases e:vs[i]? with
     | none=>rw [e] at h2;cases h2
     | some a=>rw [e] at h2;cases h2;rfl
   obtain ⟨u,hu,rv⟩:=r.get ha;have hp:ps[i]?=some y:=by
     rw [<- S.pre,List.getElem?_take_of_lt (by omega)];exact h1
   have ndP:ps.Nodup:=by rw [<- S.pre];exact S.nd.sublist (List.take_sublist _ _)
   refine ⟨u,rv,?_⟩;rcases S.par y (List.mem_of_getElem? hp) with k|k
   . exact .inl ⟨k,CQ ndP hp hu k⟩
   . obtain ⟨c,e⟩:=jg (n:=s.heap.objs.size+1) k;refine .inr ⟨.inl k,c,e,?_⟩;have q:=x.cell y c e;rw [C4 ndP hp hu (by show scope.names.lookup y≠_;rw [k];decide)] at q;exact q
 . exact e0.hok.fresh (Nat.le_of_lt (x.above y c (PySem.mem_of_lookup h)))
 . unfold start;show _=N.length;rw [List.length_append,List.length_map,List.length_replicate];omega
theorem Os {CX:CXT} {P:Program} {w:World} {K:PySem.W.Frag} {mg:Str->Option Value} {base:Heap} {k:Nat} {f:Addr} {name qual:Str} {params:Arguments} {body:List Stmt} {scope:Scope} {dV kV doc pm cdv ct oc:Value} {an od:Option Addr}
   {osl:Array (Option Value)} {N ps:List Str} {sp:Sp} (lk:K.lookup f=some ⟨oc,od,.func (PySem.W.fnOf name qual params body scope dV kV doc pm an cdv ct),osl⟩) (hcd:PySem.W.codeIn K cdv qual=true) (S:FnScope N ps scope)
   (len:∀ vs H Q E,sp vs H Q E->vs.length=ps.length)
   (hbody:∀ (A:Around) (outer:List Env) (s:Shared) (H:Hp) (vs:List V) (Q:VK) (E:XK),Room k (A.deeper (envOfC qual scope s.heap.objs.size f cdv))->sp vs H Q E ->
     ∃ t,PSs (nN CX P w K mg base N qual scope f cdv A outer s H E) body t/\t { nx:=fun _ H'=>Q .non H',rt:=Q } (start N vs) H) :
   FnOk P w K mg base CX (k+1) f (PySem.W.fnOf name qual params body scope dV kV doc pm an cdv ct) ps sp:=by
 refine ⟨len,fun A outer s H args us vs Q E hr e0 hb r hsp=>?_⟩;have hl:=len _ _ _ _ hsp;have KX:K.In s.heap:=e0.mod.kin.keeps fun b o e=>(e0.bs b o e).1;have lim:s.heap.NoLimit:=e0.mod.nolimit.keeps fun b o e=>(e0.bs b o e).1;have hkind:∀ y∈ps.zip us,scope.names.lookup y.1=some .local\/(scope.names.lookup y.1=some .cell/\((cellsFrom (s.heap.objs.size+1) scope.names []).lookup y.1).isSome=true):=fun ⟨n,v⟩ hy=>by
   rcases S.par n (List.of_mem_zip hy).1 with q|q
   . exact .inl q
   . exact .inr ⟨q,PySem.W.cellsFrom_some _ _ _ (.inl q)⟩
 refine codeAny_call_function hr.depth (KX _ _ lk) rfl S.co S.gen rfl (PySem.W.codeRec_of KX hcd) (hb _ _ _ _ ?_);refine wpAny_newFunctionEnv_cells S.kind hkind fun env he s1 x=>?_;subst he;refine ⟨lim.keeps x.toInCall.keep,codeAny_func ?_⟩;obtain ⟨t,ht,hq⟩:=hbody A outer s H vs Q E (hr.deeper _) hsp;have I:Inv (nN CX P w K mg base N qual scope f cdv A outer s H E) [] (start N vs) H s1:=Jv S hr.hd e0 hl r x;refine wpAny_mono (ht [] s1 (start N vs) H _ I hq) (fun fl s' hs=>?_) fun e s' hs=>hs;have fin:∀ {σ':St} {H':Hp} {v:V} {u:Value},Inv (nN CX P w K mg base N qual scope f cdv A outer s H E) [] σ' H' s'->RelV v u->Q v H'->CE outer P w H s Q u s' :=
   fun {σ' H' v u} J rv q=>⟨v,H',J.os,J.bare,J.base,J.hok,rv,q⟩
 cases fl with
 | ret u =>
   obtain ⟨v,σ',H',J,rv,q⟩:=hs;exact fin J rv q
 | next =>
   obtain ⟨σ',H',J,q⟩:=hs;exact fin (v:=V.non) (u:=Value.none) J rfl q
 | brk =>
   obtain ⟨_,_,_,q⟩:=hs;exact False.elim q
 | cont =>
   obtain ⟨_,_,_,q⟩:=hs;exact False.elim q
end L2
namespace L2
open PySem PySem.Spec PyProof.Rows
section
variable {X:Cx} {x:Str} {p pos:Pos} {e:Expr} {es:List Expr} {t:TA} {id T:String} {r:List V->Hp->VK->Prop}
def tCB (r:List V->Hp->VK->Prop) (t:TA):TE:=fun σ H Q=>t σ H fun vs H1=>r vs H1 Q
theorem dR (hc:lV X (.builtin id) r) (hg:Gl X x) (hm:X.mg x=none) (hv:bootBuiltins x=some (.builtin id)) (ha:PA X (e::es) t) (hn:x≠"__name__":=by decide) (hdb:(x == ("__debug__":Str))=false:=by decide)
   (he:starEach (e::es) X.env=(false,eval e X.env)::starEach es X.env:=by rfl) (hpl:(backTo pos (starEach es X.env)).any (·.1)=false:=by rfl):PE X (.Call (.Name x p) (e::es) [] pos) (tCB r t):=by
 intro pins s σ H Q I h;refine wpAny_Call_Name_kw (nG I hg hm hv ?_ hn hdb);exact PyProof.Rows.callWith_builtin1 (rD (ha pos pins s σ H _ I h) fun us s1 vs H1 I1 r1 q1=>hc pins s1 σ H1 vs us Q I1 r1 q1) he hpl
theorem jJ (hc:lV X (.type T) r) (hg:Gl X x) (hm:X.mg x=none) (hv:bootBuiltins x=some (.type T)) (ha:PA X (e::es) t) (hn:x≠"__name__":=by decide) (hdb:(x == ("__debug__":Str))=false:=by decide)
   (he:starEach (e::es) X.env=(false,eval e X.env)::starEach es X.env:=by rfl) (hpl:(backTo pos (starEach es X.env)).any (·.1)=false:=by rfl):PE X (.Call (.Name x p) (e::es) [] pos) (tCB r t):=by
 intro pins s σ H Q I h;refine wpAny_Call_Name_kw (nG I hg hm hv ?_ hn hdb);exact PyProof.Rows.callWith_type1 (rD (ha pos pins s σ H _ I h) fun us s1 vs H1 I1 r1 q1=>hc pins s1 σ H1 vs us Q I1 r1 q1) he hpl
end
end L2
namespace HT
open PySem PyProof.Rows
section
open PySem.SeqAt
open PySem.AutoSeq1 (wpAny_loadPart')
open PySem.MeetsSeq PySem.MeetsSeq2 PySem.MeetsSeq3
end
section
variable {prog:Program} {w:World} {A:Around} {E:Value->Shared->Prop} {s:Shared}
end
end HT
namespace L2
open PySem PySem.Spec PyProof.Rows
abbrev TO:=St->Hp->(Option Int->Hp->Prop)->Prop
def PO (X:Cx) (e:Option Expr) (t:TO):Prop :=
 ∀ (pins:List (Addr × Obj)) (s:Shared) (σ:St) (H:Hp) (Q:Option Int->Hp->Prop),Inv X pins σ H s->t σ H Q ->
   wpAny (model X.prog X.w) X.A (evalPart e X.env) (fun u s'=>∃ o H',Inv X pins σ H' s'/\IsPart u o/\Q o H') X.xe s
section
variable {X:Cx} {e:Expr} {te:TE} {lo hi:Option Expr} {tl th:TO} {pos p2:Pos}
end
end L2
namespace L2
open PySem PySem.Spec PyProof.Rows
def ixN (n:Nat) (i:Int):Option Nat:=if 0<=i then (if i<n then some i.toNat else none) else if -(n:Int)<=i then some (i+n).toNat else none
def atI {α:Type} (xs:List α) (i:Int):Option α:=(ixN xs.length i).bind fun j=>xs[j]?
theorem GJ {n:Nat} {i:Int} {j:Nat} (h:ixN n i=some j):seqIndex? i n=some j/\j<n/\-(n:Int)<=i/\i<n:=by
 unfold ixN at h;by_cases h0:0<=i
 . rw [if_pos h0] at h;by_cases h1:i<n
   . rw [if_pos h1] at h;have e:i.toNat=j:=Option.some.inj h;exact ⟨by rw [seqIndex_of h0 h1,e],by omega,by omega,h1⟩
   . rw [if_neg h1] at h;cases h
 . rw [if_neg h0] at h;by_cases h1:-(n:Int)<=i
   . rw [if_pos h1] at h;have e:(i+n).toNat=j:=Option.some.inj h;exact ⟨by rw [seqIndex_neg (by omega) h1,e],by omega,h1,by omega⟩
   . rw [if_neg h1] at h;cases h
theorem Cn {α:Type} {xs:List α} {i:Int} {v:α} (h:atI xs i=some v):∃ j,seqIndex? i xs.length=some j/\xs[j]?=some v/\j<xs.length/\-(xs.length:Int)<=i/\i<xs.length:=by
 unfold atI at h;cases e:ixN xs.length i with
 | none=>rw [e] at h;cases h
 | some j =>
   rw [e] at h;obtain ⟨h1,h2,h3,h4⟩:=GJ e;exact ⟨j,h1,h,h2,h3,h4⟩
theorem G9 {α:Type} {xs:List α} {j:Nat} {v:α} (h:xs[j]?=some v):atI xs (j:Int)=some v:=by
 have hj:j<xs.length:=(List.getElem?_eq_some_iff.mp h).1;have e:ixN xs.length (j:Int)=some j:=by
   unfold ixN;rw [if_pos (by omega),if_pos (by omega)];simp
 unfold atI;rw [e];exact h
def Pc (b:Expr):Prop:=∀ o i,subscripted b false o i=operate [o,i] (getItem o i)
def IxR (X:Cx) (r:R2):Prop :=
 ∀ (value slice:Expr) (pins:List (Addr × Obj)) (s:Shared) (σ:St) (H:Hp) (x y:V) (v u:Value) (Q:VK),Inv X pins σ H s->RelV x v->RelV y u->r x y H Q ->
   subscripted slice false v u=operate [v,u] (getItem v u)->wpAny (model X.prog X.w) X.A (subscriptTail value slice v u) (EP X pins σ Q) X.xe s
def MtR (X:Cx) (id:String) (r:V->List V->Hp->VK->Prop):Prop :=
 ∀ (pins:List (Addr × Obj)) (s:Shared) (σ:St) (H:Hp) (x:V) (xs:List V) (v:Value) (us:List Value) (Q:VK),Inv X pins σ H s->RelV x v->Vals xs us->r x xs H Q ->
   wpAny (model X.prog X.w) X.A (call (.builtin id) (v::us)) (EP X pins σ Q) X.xe s
section
variable {X:Cx} {a b:Expr} {ta tb:TE} {pos:Pos}
theorem bA {r:R2} (hr:IxR X r) (ha:PE X a ta) (hb:PE X b tb) (hs:Pc b):PE X (.Subscript a b pos) (tOp r ta tb):=by
 intro pins s σ H Q I h;exact Subscript_ (NS ha hb I h fun v u s2 x y H2 I2 rx ry q=>hr a b pins s2 σ H2 x y v u Q I2 rx ry q (hs _ _))
def E2 (K:PySem.W.Frag):R2:=fun x y H Q=>∃ p xs i v,x=.ref p/\y=.int i/\SqL K H p xs/\atI xs i=some v/\Q v H
def QC (K:PySem.W.Frag):R2:=fun x y H Q=>∃ p xs i v,x=.ref p/\y=.int i/\SqT K H p xs/\atI xs i=some v/\Q v H
theorem bJ:IxR X (E2 X.K):=by
 intro value slice pins s σ H x y v u Q I rx ry h hs;obtain ⟨p,xs,i,z,rfl,rfl,hq,he,q⟩:=h;cases rx;obtain ⟨t,rfl⟩:=ry;obtain ⟨its,r,pl,hz⟩:=I.list hq;obtain ⟨j,h1,h2,h3,h4,h5⟩:=Cn he;obtain ⟨w,ew,rw'⟩:=r.get h2;have hl:=r.length;have hn:=su;have fin:EP X pins σ Q w s:=⟨z,H,I,rw',q⟩;by_cases h0:0<=i
 . have hj:i.toNat=j:=by
     rw [seqIndex_of h0 h5] at h1;exact Option.some.inj h1
   exact item_listR pl.isList h0 (by omega) (by rw [hj];simpa using ew) fin hs
 . have hj:(i+(its.toArray.size:Int)).toNat=j:=by
     rw [seqIndex_neg (by omega) h4] at h1;rw [List.size_toArray,<- hl];exact Option.some.inj h1
   exact subscriptTail_builtinR (x:=w) pl.isList.typeIs slot_list_getitem.lookup
     (wpAny_getItem_list_neg (Q:=fun r s'=>r=w/\EP X pins σ Q r s') pl.isList (by omega) (by rw [List.size_toArray] <;> omega) (by omega) (by rw [hj];simpa using ew) ⟨rfl,fin⟩) hs
theorem jp:IxR X (QC X.K):=by
 intro value slice pins s σ H x y v u Q I rx ry h hs;obtain ⟨p,xs,i,z,rfl,rfl,hq,he,q⟩:=h;cases rx;obtain ⟨t,rfl⟩:=ry;obtain ⟨its,r,pl,hz⟩:=I.tuple hq;obtain ⟨j,h1,h2,h3,h4,h5⟩:=Cn he;obtain ⟨w,ew,rw'⟩:=r.get h2;have hl:=r.length;have hn:=su;have fin:EP X pins σ Q w s:=⟨z,H,I,rw',q⟩;exact subscriptTail_builtinR (x:=w) pl.typeIs slot_tuple_getitem.lookup
   (getItem_tuple (j:=j) (Q:=fun r s'=>r=w/\EP X pins σ Q r s') pl (by omega) (by omega) (by rw [List.size_toArray,<- hl];exact h1) (by simpa using ew) ⟨rfl,fin⟩) hs
theorem IL (its:List Value) (n j:Nat) (u:Value):Obj.mapSeq (·.setIfInBounds j u) { cls:=.type "list",data:=.seq its.toArray n }={ cls:=.type "list",data:=.seq (its.set j u).toArray n }:=by
 simp [Obj.mapSeq]
theorem Inv.lst {pins:List (Addr × Obj)} {σ:St} {H:Hp} {s:Shared} {p:Addr} {xs:List V} (I:Inv X pins σ H s) (h:H p=some (.lst xs)) :
   ∃ (its:List Value) (n:Nat),Vals xs its/\s.heap.get? p=some { cls:=.type "list",data:=.seq its.toArray n }/\xs.length<=sizeLine:=by
 obtain ⟨z,its,n,r,e⟩:=I.hok p _ h;exact ⟨its,n,r,e,z⟩
theorem Inv.lstUpd {pins:List (Addr × Obj)} {σ:St} {H:Hp} {s:Shared} {p:Addr} {xs ys:List V} {its its':List Value} {n n':Nat} {f:Obj->Obj} (I:Inv X pins σ H s) (h:H p=some (.lst xs))
   (ho:s.heap.get? p=some { cls:=.type "list",data:=.seq its.toArray n }) (hf:f { cls:=.type "list",data:=.seq its.toArray n }={ cls:=.type "list",data:=.seq its'.toArray n' }) (r:Vals ys its') (hz:ys.length<=sizeLine) (t:Nat) :
   Inv X pins σ (upd H p (.lst ys)) { s with heap:=s.heap.update p f,toks:=t }:=by
 have e:(s.heap.update p f).get? p=some { cls:=.type "list",data:=.seq its'.toArray n' }:=by
   rw [Heap.get?_update_self f ho (by rw [hf] <;> rfl),hf]
 refine I.write (x:=p) (e:=p) (by rw [h];trivial) (.inl rfl) (fun b u hb q=>(Heap.get?_update_other _ _ (Ne.symm hb)).trans q) ⟨_,e⟩ ?_;exact ⟨hz,its',n',r,e⟩
def rSetL:V->V->V->Hp->(Hp->Prop)->Prop:=fun o i v H Q=>∃ p xs k j,o=.ref p/\i=.int k/\H p=some (.lst xs)/\ixN xs.length k=some j/\Q (upd H p (.lst (xs.set j v)))
theorem kC:Ng X rSetL:=by
 intro pins s σ H o i v ov iv u Q I ro ri rv h;obtain ⟨p,xs,k,j,rfl,rfl,hp,hj,q⟩:=h;cases ro;obtain ⟨t,rfl⟩:=ri;obtain ⟨its,n,r,ho,hz⟩:=I.lst hp;obtain ⟨h1,h2,h3,h4⟩:=GJ hj;have hl:=r.length;have hn:=su;have I':Inv X pins σ (upd H p (.lst (xs.set j v))) { s with heap:=s.heap.update p (Obj.mapSeq (·.setIfInBounds j u)) } :=
   I.lstUpd hp ho (IL its n j u) (r.set rv j) (by rw [List.length_set];exact hz) s.toks
 by_cases h0:0<=k
 . have hk:k.toNat=j:=by
     rw [seqIndex_of h0 h4] at h1;exact Option.some.inj h1
   exact PySem.W.ki_setAt ho h0 (by omega) (by rw [List.size_toArray,<- hl];exact h4) (by rw [hk];exact ⟨_,I',q⟩)
 . have hk:(k+(its.toArray.size:Int)).toNat=j:=by
     rw [seqIndex_neg (by omega) h3] at h1;rw [List.size_toArray,<- hl];exact Option.some.inj h1
   exact PySem.W.ki_setBack ho (by omega) (by rw [List.size_toArray,<- hl];exact h3) (by omega) (by rw [hk];exact ⟨_,I',q⟩)
theorem gI:lV X (.builtin "len") (fun xs H Q=>∃ p ys,xs=[.ref p]/\(SqL X.K H p ys\/SqT X.K H p ys)/\Q (.int ys.length) H):=by
 intro pins s σ H xs us Q I r h;obtain ⟨p,ys,rfl,hq,q⟩:=h;obtain ⟨u,rfl,rx⟩:=tS r;cases rx;have hn:=su;rcases hq with hq|hq
 . obtain ⟨its,r',pl,hz⟩:=I.list hq;have hlen:=r'.length;exact Calls.call_len_list pl.isList (by simp only [List.size_toArray] <;> omega) ⟨.int ys.length,H,I.tok _,⟨s.toks+1,by rw [List.size_toArray,hlen]⟩,q⟩
 . obtain ⟨its,r',pl,hz⟩:=I.tuple hq;have hlen:=r'.length;exact len_tuple pl (by simp only [List.size_toArray] <;> omega) ⟨.int ys.length,H,I.tok _,⟨s.toks+1,by rw [List.size_toArray,hlen]⟩,q⟩
theorem o9:lV X (.type "list") (fun xs H Q=>∃ p ys,xs=[.ref p]/\(SqL X.K H p ys\/SqT X.K H p ys)/\∀ l,H l=none->Q (.ref l) (upd H l (.lst ys))):=by
 intro pins s σ H xs us Q I r h;obtain ⟨p,ys,rfl,hq,q⟩:=h;obtain ⟨u,rfl,rx⟩:=tS r;cases rx;have fin:∀ (its:List Value),Vals ys its->ys.length<=sizeLine->∀ (h':Heap) (c':Nat),(∀ b o',s.heap.get? b=some o'->h'.get? b=some o') ->
     h'.get? s.heap.objs.size=some { cls:=.type "list",dict:=none,data:=.seq its.toArray c',slots:=#[] }->EP X pins σ Q (.ref s.heap.objs.size) { s with heap:=h' }:=fun its r' hz h' c' kp e =>
   ⟨.ref s.heap.objs.size,_,I.laid (t':=s.toks) kp (Nat.le_refl _) (show ObjOk X.prog X.w _ h' _ (.lst ys) from ⟨hz,its,c',r',e⟩),rfl,q _ (I.hok.fresh (Nat.le_refl _))⟩
 rcases hq with hq|hq
 . obtain ⟨its,r',pl,hz⟩:=I.list hq;have hlen:=r'.length;obtain ⟨o,ho,hc,n,hd⟩:=pl.isList;exact call_list_seq p (.inl rfl) ho hc hd (fun h' c' kp e=>fin its r' hz h' c' kp e) (by simp only [List.size_toArray] <;> omega)
 . obtain ⟨its,r',pl,hz⟩:=I.tuple hq;have hlen:=r'.length;obtain ⟨o,ho,hc,n,hd⟩:=pl;exact call_list_seq p (.inr rfl) ho hc hd (fun h' c' kp e=>fin its r' hz h' c' kp e) (by simp only [List.size_toArray] <;> omega)
theorem kb:lV X (.type "tuple") (fun xs H Q=>∃ p ys,xs=[.ref p]/\((SqL X.K H p ys/\∀ l,H l=none->Q (.ref l) (upd H l (.tup ys)))\/(SqT X.K H p ys/\Q (.ref p) H))):=by
 intro pins s σ H xs us Q I r h;obtain ⟨p,ys,rfl,h⟩:=h;obtain ⟨u,rfl,rx⟩:=tS r;cases rx;rcases h with ⟨hq,q⟩|⟨hq,q⟩
 . obtain ⟨its,r',pl,hz⟩:=I.list hq;have hlen:=r'.length;refine call_tuple_list pl.isList (fun h' kp=>?_) (by simp only [List.size_toArray] <;> omega);have I1:Inv X pins σ H { s with heap:=h' }:=I.kept (t':=s.toks) kp;have I2:Inv X pins σ (upd H h'.objs.size (.tup ys)) { s with heap:=h'.push { cls:=.type "tuple",data:=.seq its.toArray } } :=
     I1.laid (t':=s.toks) (fun b o e=>Heap.get?_push_of_some _ e) (Nat.le_refl _) (show ObjOk X.prog X.w _ _ _ (.tup ys) from ⟨hz,its,r',IsTup.new _ _⟩)
   exact ⟨.ref h'.objs.size,_,I2,rfl,q _ (I1.hok.fresh (Nat.le_refl _))⟩
 . obtain ⟨its,r',pl,hz⟩:=I.tuple hq;exact call_tuple_same pl ⟨.ref p,H,I,rfl,q⟩
def tyV (K:PySem.W.Frag) (T:String) (x:V) (H:Hp):Prop:=match x with
 | .str _=>T="str"
 | .int _=>T="int"
 | .ref p=>(T="list"/\∃ xs,SqL K H p xs)\/(T="tuple"/\∃ o,K.lookup p=some o/\o.cls=.type "tuple"/\o.dict=none) \/
     (T="dict"/\((∃ kvs,H p=some (.dK kvs))\/∃ kvs,H p=some (.dT kvs)))\/(T="set"/\∃ S n,H p=some (.set S n))
 | _=>False
theorem JU {pins:List (Addr × Obj)} {σ:St} {H:Hp} {s:Shared} {T:String} {x:V} {v:Value} (I:Inv X pins σ H s) (r:RelV x v) (ty:tyV X.K T x H) :
   s.TypeIs v T/\∀ a,v=.ref a->∃ ob,s.heap.get? a=some ob/\ob.dict=none:=by
 cases x with
 | str z =>
   obtain ⟨t,rfl⟩:=r;cases (show T="str" from ty);exact ⟨typeIs_str s z t,fun _ e=>nomatch e⟩
 | int i =>
   obtain ⟨t,rfl⟩:=r;cases (show T="int" from ty);exact ⟨typeIs_int s i t,fun _ e=>nomatch e⟩
 | ref p =>
   cases r;rcases ty with ⟨rfl,xs,hq⟩|⟨rfl,o,hk,hc,hd⟩|⟨rfl,hk⟩|⟨rfl,S,n,hk⟩
   . obtain ⟨its,_,pl,_⟩:=I.list hq;refine ⟨pl.isList.typeIs,fun a e=>?_⟩;cases e;obtain ⟨o,n,e,c,hd,_⟩:=pl;exact ⟨o,e,hd⟩
   . refine ⟨⟨o,I.kIn p o hk,hc⟩,fun a e=>?_⟩;cases e;exact ⟨o,I.kIn _ o hk,hd⟩
   . have z:∃ o,s.heap.get? p=some o/\o.ExactDict:=by
       rcases hk with ⟨kvs,hk⟩|⟨kvs,hk⟩
       . obtain ⟨_,_,_,_,o,_,_,e,ex,_⟩:=I.hok p _ hk;exact ⟨o,e,ex⟩
       . obtain ⟨_,_,_,_,o,_,_,e,ex,_⟩:=I.hok p _ hk;exact ⟨o,e,ex⟩
     obtain ⟨o,e,ex⟩:=z;refine ⟨⟨o,e,ex.1⟩,fun a e2=>?_⟩;cases e2;exact ⟨o,e,ex.2.1⟩
   . obtain ⟨o,_,_,_,e,ex,_⟩:=I.hok p _ hk;refine ⟨⟨o,e,ex.1⟩,fun a e2=>?_⟩;cases e2;exact ⟨o,e,ex.2.1⟩
 | _=>exact False.elim ty
def K9 (K:PySem.W.Frag) (T:String) (r:V->List V->Hp->VK->Prop) (to:TE):TE:=fun σ H Q=>to σ H fun x H1=>tyV K T x H1/\r x [] H1 Q
def tBM (K:PySem.W.Frag) (T:String) (r:V->List V->Hp->VK->Prop) (to:TE) (t:TA):TE:=fun σ H Q=>to σ H fun x H1=>tyV K T x H1/\t σ H1 fun xs H2=>r x xs H2 Q
variable {o e:Expr} {es:List Expr} {to:TE} {t:TA} {name:Str} {apos cpos:Pos} {T id:String} {r:V->List V->Hp->VK->Prop}
theorem E1 (pa:PlainAttrs T) (slot:Slot T name id) (hty:typeOf (.builtin id)=pure (.type "method_descriptor")) (hm:MtR X id r) (ho:PE X o to)
   (hbase:attributeBase o name X.env (eval o X.env)=eval o X.env:=by rfl) (hline:(apos.endLine == cpos.line)=true:=by rfl):PE X (.Call (.Attribute o name apos) [] [] cpos) (K9 X.K T r to):=by
 intro pins s σ H Q I h;refine wpAny_Call_method0_late hbase hline (bg (ho pins s σ H _ I h) fun v s1 x H1 I1 r1 ⟨ty,q1⟩=>?_);obtain ⟨h1,h2⟩:=JU I1 r1 ty;exact ⟨T,id,pa,slot,hty,h1,h2,Calls.callWith_builtin rfl (PySem.evalArgs_none (hm pins s1 σ H1 x [] v [] Q I1 r1 .nil q1))⟩
theorem oA (pa:PlainAttrs T) (slot:Slot T name id) (hty:typeOf (.builtin id)=pure (.type "method_descriptor")) (hm:MtR X id r) (ho:PE X o to) (ha:PA X (e::es) t)
   (hbase:attributeBase o name X.env (eval o X.env)=eval o X.env:=by rfl)
   (hfew:((backTo cpos (starEach (e::es) X.env)).all (fun x=>!x.1) && (backToKw cpos (keywordEach [] X.env)).all (fun x=>x.1.isSome)
     && decide ((e::es).length+([]:List Keyword).length+(if ([]:List Keyword).isEmpty then 0 else 1)<30))=true:=by rfl)
   (hline:(apos.endLine == cpos.line)=true:=by rfl) (hs:starEach (e::es) X.env=(false,eval e X.env)::starEach es X.env:=by rfl) (hplain:(backTo cpos (starEach es X.env)).any (·.1)=false:=by rfl) :
   PE X (.Call (.Attribute o name apos) (e::es) [] cpos) (tBM X.K T r to t):=by
 intro pins s σ H Q I h;refine wpAny_Call_method_late hbase hfew hline rfl (bg (ho pins s σ H _ I h) fun v s1 x H1 I1 r1 ⟨ty,q1⟩=>?_);obtain ⟨h1,h2⟩:=JU I1 r1 ty;refine ⟨T,id,pa,slot,hty,h1,h2,?_⟩;have hA:=ha cpos pins s1 σ H1 _ I1 q1;rw [hs] at hA ⊢;refine Calls.callWith_builtin (by show (false || (backTo cpos (starEach es X.env)).any (·.1))=false;rw [hplain] <;> rfl) (Calls.evalArgs_plain ?_);exact thn hA fun us s2 ⟨vs,H2,I2,r2,q2⟩=>hm pins s2 σ H2 x vs v us Q I2 r1 r2 q2
end
end L2
namespace L2
open PySem PySem.Spec PyProof.Rows
def MtM (X:Cx) (id:String) (r:V->List V->Hp->VK->Prop):Prop :=
 ∀ (pins:List (Addr × Obj)) (s:Shared) (σ:St) (H:Hp) (x:V) (xs:List V) (v:Value) (us:List Value) (Q:VK),Inv X pins σ H s->RelV x v->Vals xs us->r x xs H Q ->
   wpAny (model X.prog X.w) X.A (call (.builtin id) (v::us)) (EP X pins σ Q) X.xe s
theorem Vals.one {x:V} {us:List Value} (h:Vals [x] us):∃ u,us=[u]/\RelV x u:=by
 cases h with
 | cons r t=>cases t;exact ⟨_,rfl,r⟩
theorem Vals.zero:∀ {us:List Value},Vals [] us->us=[]
 | _,.nil=>rfl
theorem Vals.dropLast {xs:List V} {us:List Value} (h:Vals xs us):Vals xs.dropLast us.dropLast:=by
 induction h with
 | nil=>exact .nil
 | cons r t ih =>
   cases t with
   | nil=>exact .nil
   | cons q t'=>exact .cons r ih
theorem Vals.rep {xs:List V} {us:List Value} (h:Vals xs us):∀ k:Nat,Vals (List.replicate k xs).flatten (List.replicate k us).flatten
 | 0=>.nil
 | k+1=>by
   rw [List.replicate_succ,List.replicate_succ,List.flatten_cons,List.flatten_cons];exact Vals.append h (Vals.rep h k)
theorem HP {α:Type} (l:List α):l.eraseIdx (l.length - 1)=l.dropLast:=by
 induction l with
 | nil=>rfl
 | cons a r ih =>
   cases r with
   | nil=>rfl
   | cons b r =>
     have e:(a::b::r).length - 1=((b::r).length - 1)+1:=by
       have h1:(a::b::r).length=r.length+2:=rfl;have h2:(b::r).length=r.length+1:=rfl;omega
     rw [e,List.eraseIdx_cons_succ,ih]
     all_goals rfl
theorem CN (its:List Value):∀ (k:Nat) (acc:List Value),
   List.foldl (fun x1 x2=>x1++x2) acc.toArray (List.replicate k its.toArray)=(acc++(List.replicate k its).flatten).toArray
 | 0,acc=>by simp
 | k+1,acc=>by
   have e:acc.toArray++its.toArray=(acc++its).toArray:=by simp
   have e2:(acc++its)++(List.replicate k its).flatten=acc++(List.replicate (k+1) its).flatten:=by
     rw [List.replicate_succ,List.flatten_cons,List.append_assoc]
   rw [<- e2,<- CN its k (acc++its),<- e,List.replicate_succ,List.foldl_cons]
section
variable {X:Cx} {pins:List (Addr × Obj)} {σ:St} {H:Hp} {s:Shared} {l b:Addr} {xs ys zs:List V}
theorem Inv.lset {its its':List Value} {n:Nat} {f:Array Value->Array Value} {t':Nat} (I:Inv X pins σ H s) (hH:H l=some (.lst xs))
   (e:s.heap.get? l=some { cls:=.type "list",data:=.seq its.toArray n }) (hf:f its.toArray=its'.toArray) (hv:Vals ys its') (hz:ys.length<=sizeLine) :
   Inv X pins σ (upd H l (.lst ys)) { s with heap:=s.heap.update l (Obj.mapSeq f),toks:=t' }:=by
 have q:=PySem.IsL.update e f;rw [hf] at q;refine I.write (x:=l) (e:=l) (by rw [hH];exact trivial) (.inl rfl) (fun b' u hb hu=>(Heap.get?_update_other s.heap (Obj.mapSeq f) (Ne.symm hb)).trans hu) ⟨_,q⟩ ?_;exact ⟨hz,its',_,hv,q⟩
theorem Inv.lnew {its:List Value} {t':Nat} (I:Inv X pins σ H s) (hv:Vals ys its) (hz:ys.length<=sizeLine) :
   Inv X pins σ (upd H s.heap.objs.size (.lst ys)) { s with heap:=s.heap.push { cls:=.type "list",data:=.seq its.toArray },toks:=t' } :=
 I.laid (fun _ _ q=>Heap.get?_push_of_some _ q) (Nat.le_refl _) ⟨hz,its,0,hv,Heap.get?_push_size _ rfl⟩
theorem Inv.fresh (I:Inv X pins σ H s):H s.heap.objs.size=none:=I.hok.fresh (Nat.le_refl _)
theorem Inv.lstM (I:Inv X pins σ H s) (hH:H l=some (.lst xs)):xs.length<=sizeLine/\∃ (its:List Value) (n:Nat),Vals xs its/\xs.length=its.length/\s.heap.get? l=some { cls:=.type "list",data:=.seq its.toArray n }:=by
 obtain ⟨z,its,n,r,e⟩:=I.hok l _ hH;exact ⟨z,its,n,r,r.length,e⟩
theorem Fn {n:Nat} (h:n<=sizeLine):Builtin.List.listTooLong n=false:=by
 unfold Builtin.List.listTooLong;exact decide_eq_false (by omega)
end
section
variable {X:Cx}
def rAppend:V->List V->Hp->VK->Prop:=fun x vs H Q=>∃ l xs y,x=.ref l/\vs=[y]/\H l=some (.lst xs)/\xs.length<sizeLine/\Q .non (upd H l (.lst (xs++[y])))
theorem fb:MtM X "list.append" rAppend:=by
 intro pins s σ H x vs v us Q I rx rv h;obtain ⟨l,xs,y,rfl,rfl,hH,hz,q⟩:=h;cases rx;obtain ⟨u,rfl,ru⟩:=rv.one;obtain ⟨z,its,n,r,hl,e⟩:=I.lstM hH;refine call_meets F.slot_list_append ⟨_,e,rfl⟩ F.entry_list_append (F.args_list_append_2 _ _) (PySem.list_append l its.toArray n u (by rw [List.size_toArray];omega)) ⟨e,?_⟩;refine ⟨.non,_,I.lset (its':=its++[u]) hH e (by simp) (r.append (.cons ru .nil)) ?_,rfl,q⟩;rw [List.length_append,List.length_singleton];omega
def rExtend:V->List V->Hp->VK->Prop:=fun x vs H Q=>∃ l b xs zs,x=.ref l/\vs=[.ref b]/\H l=some (.lst xs)/\H b=some (.lst zs)/\xs.length+zs.length<=sizeLine/\Q .non (upd H l (.lst (xs++zs)))
theorem Kt:MtM X "list.extend" rExtend:=by
 intro pins s σ H x vs v us Q I rx rv h;obtain ⟨l,b,xs,zs,rfl,rfl,hH,hB,hz,q⟩:=h;cases rx;obtain ⟨u,rfl,ru⟩:=rv.one;cases ru;obtain ⟨z,its,n,r,hl,e⟩:=I.lstM hH;obtain ⟨z2,its2,n2,r2,hl2,e2⟩:=I.lstM hB;have hsz:its.toArray.size+its2.toArray.size<=sizeLine:=by rw [List.size_toArray,List.size_toArray];omega
 have hlong:¬ (!its.toArray.isEmpty && Builtin.List.listTooLong (its.toArray.size+its2.toArray.size))=true:=by
   rw [Fn hsz,Bool.and_false];exact Bool.false_ne_true
 refine call_meets F.slot_list_extend ⟨_,e,rfl⟩ F.entry_list_extend (F.args_list_extend_2 _ _)
   (AutoSeq1.list_extend_list_list_0 l its.toArray n b its2.toArray n2 hlong (by rw [List.size_toArray];omega) (by omega)) ⟨e,e2,?_⟩
 refine ⟨.non,_,I.lset (its':=its++its2) hH e (by simp) (r.append r2) ?_,rfl,q⟩;rw [List.length_append];omega
def rPop:V->List V->Hp->VK->Prop:=fun x vs H Q=>∃ l xs y,x=.ref l/\vs=[]/\H l=some (.lst xs)/\xs[xs.length - 1]?=some y/\Q y (upd H l (.lst xs.dropLast))
theorem EN:MtM X "list.pop" rPop:=by
 intro pins s σ H x vs v us Q I rx rv h;obtain ⟨l,xs,y,rfl,rfl,hH,hy,q⟩:=h;cases rx;have hus:=rv.zero;subst hus;obtain ⟨z,its,n,r,hl,e⟩:=I.lstM hH;obtain ⟨u,hu,ru⟩:=r.get hy;have hy':its.toArray[its.toArray.size - 1]?=some u:=by
   show its.toArray[its.length - 1]?=some u;rw [<- Array.getElem?_toList,<- hl];exact hu
 refine call_meets F.slot_list_pop ⟨_,e,rfl⟩ F.entry_list_pop (F.args_list_pop_1 _) (MeetsSeq.list_pop_last l its.toArray n u hy' (by rw [List.size_toArray];omega)) ⟨e,?_⟩;refine ⟨y,_,I.lset (its':=its.dropLast) hH e ?_ r.dropLast ?_,ru,q⟩
 . show its.toArray.eraseIdxIfInBounds (its.toArray.size - 1)=its.dropLast.toArray;rw [List.size_toArray,List.eraseIdxIfInBounds_toArray,HP]
 . rw [List.length_dropLast];omega
def rCat:R2:=fun x y H Q=>∃ l b xs zs,x=.ref l/\y=.ref b/\H l=some (.lst xs)/\H b=some (.lst zs)/\xs.length+zs.length<=sizeLine/\∀ p,H p=none->Q (.ref p) (upd H p (.lst (xs++zs)))
theorem QH:OpR X (binaryOp .Add) rCat:=by
 intro pins s σ H x y v u Q I rx ry h;obtain ⟨l,b,xs,zs,rfl,rfl,hH,hB,hz,q⟩:=h;cases rx;cases ry;obtain ⟨z,its,n,r,hl,e⟩:=I.lstM hH;obtain ⟨z2,its2,n2,r2,hl2,e2⟩:=I.lstM hB;refine PySem.P.add_list e e2 ?_ (by rw [List.size_toArray,List.size_toArray];omega);have ea:its.toArray++its2.toArray=(its++its2).toArray:=by simp
 rw [ea];exact ⟨.ref _,_,I.lnew (t':=s.toks) (r.append r2) (by rw [List.length_append];omega),rfl,q _ I.fresh⟩
def rRep:R2:=fun x y H Q=>∃ l k xs,x=.ref l/\y=.int k/\H l=some (.lst xs)/\-(2^63)<=k/\k<2^63/\xs.length*k.toNat<=sizeLine /\
 ∀ p,H p=none->Q (.ref p) (upd H p (.lst (List.replicate k.toNat xs).flatten))
theorem O7 {α:Type} (xs:List α) (k:Nat):(List.replicate k xs).flatten.length=k*xs.length:=by
 induction k with
 | zero=>simp
 | succ k ih=>rw [List.replicate_succ,List.flatten_cons,List.length_append,ih,Nat.succ_mul,Nat.add_comm]
theorem Ay:OpR X (binaryOp .Mult) rRep:=by
 intro pins s σ H x y v u Q I rx ry h;obtain ⟨l,k,xs,rfl,rfl,hH,h1,h2,hz,q⟩:=h;cases rx;obtain ⟨t,rfl⟩:=ry;obtain ⟨z,its,n,r,hl,e⟩:=I.lstM hH;have hlen:its.toArray.size*k.toNat<=sizeLine:=by rw [List.size_toArray,<- hl];exact hz
 have hcap:¬ its.toArray.size*k.toNat > (2^63 - 1) / 8:=by
   have:(sizeLine:Nat)<=(2^63 - 1) / 8:=by decide
   omega
 have hfit:¬ (!Builtin.List.listFitsIndex k)=true:=by
   rw [fitsIndex_both h1 h2];exact Bool.false_ne_true
 have hlong:¬ Builtin.List.listTooLong (its.toArray.size*k.toNat)=true:=by
   rw [Fn hlen];exact Bool.false_ne_true
 have hnew:List.foldl (fun x1 x2=>x1++x2) #[] (List.replicate (if its.toArray.isEmpty=true then 0 else k.toNat) its.toArray)=(List.replicate k.toNat its).flatten.toArray:=by
   have f0:∀ m:Nat,List.foldl (fun x1 x2=>x1++x2) #[] (List.replicate m its.toArray)=(List.replicate m its).flatten.toArray:=fun m=>by
     have:=CN its m [];rw [List.nil_append] at this;exact this
   rw [f0];cases its with
   | nil=>simp
   | cons a r'=>rw [if_neg (by simp)]
 refine wpAny_binaryOp_repeat_ref (T:="list") (U:="int") (by decide) ⟨_,e,rfl⟩ (fun s'=>typeIs_int s' k t) noFill_list_mul F.fills_int_mul F.slot_int_rmul repeat_list F.slot_int_index.lookup
   (call_meets F.slot_int_rmul (typeIs_int s k t) F.entry_int_rmul (F.args_int_rmul_2 _ _) (int___rmul___int_list k t l its.toArray n)
     ⟨e,rfl,⟨_,e,rfl⟩,call_meets F.slot_list_mul ⟨_,e,rfl⟩ F.entry_list_mul (F.args_list_mul_2 _ _) (AutoListH.list___mul___list_int_3 l its.toArray n k t hfit hcap hlong) ⟨e,?_⟩⟩)
 rw [hnew];exact ⟨.ref _,_,I.lnew (t':=s.toks) (r.rep k.toNat) (by rw [O7,Nat.mul_comm];exact hz),rfl,q _ I.fresh⟩
end
section
variable {prog:Program} {w:World} {A:Around} {E:Value->Shared->Prop} {s:Shared}
set_option maxRecDepth 100000 in
end
section
variable {X:Cx}
end
end L2
namespace L2
open PySem PySem.Spec PyProof.Rows
section
variable {κ:Type} [DecidableEq κ]
def c7 (kvs:List (κ × V)) (k:κ):Option V:=(kvs.find? fun kv=>decide (kv.1=k)).map (·.2)
def dW (kvs:List (κ × V)) (k:κ) (v:V):List (κ × V) :=
 if (kvs.any fun kv=>decide (kv.1=k))=true then kvs.map (fun kv=>if kv.1=k then (kv.1,v) else kv) else kvs++[(k,v)]
theorem eM {p:κ × V} {r:List (κ × V)} {k:κ} (e:p.1=k):c7 (p::r) k=some p.2:=by simp [c7,List.find?_cons,e]
theorem eO {p:κ × V} {r:List (κ × V)} {k:κ} (e:¬ p.1=k):c7 (p::r) k=c7 r k:=by simp [c7,List.find?_cons,e]
theorem pE (k:κ):∀ kvs:List (κ × V),(kvs.any fun kv=>decide (kv.1=k))=(c7 kvs k).isSome
 | []=>rfl
 | p::r=>by
   rw [List.any_cons];by_cases e:p.1=k
   . simp only [eM e,decide_eq_true e,Bool.true_or,Option.isSome_some]
   . rw [eO e,decide_eq_false e,Bool.false_or];exact pE k r
theorem FM (k j:κ) (y:V):∀ kvs:List (κ × V),c7 (kvs.map fun kv=>if kv.1=k then (kv.1,y) else kv) j=(c7 kvs j).map fun x=>if j=k then y else x
 | []=>rfl
 | p::r=>by
   have ih:=FM k j y r;rw [List.map_cons];by_cases h:p.1=k
   . rw [if_pos h];by_cases e:p.1=j
     . rw [eM (p:=(p.1,y)) e,eM e,Option.map_some,if_pos (e.symm.trans h)]
     . rw [eO (p:=(p.1,y)) e,eO e,ih]
   . rw [if_neg h];by_cases e:p.1=j
     . rw [eM (p:=p) e,eM e,Option.map_some,if_neg (fun z=>h (e.trans z))]
     . rw [eO (p:=p) e,eO e,ih]
theorem CZ (k j:κ) (y:V):∀ kvs:List (κ × V),c7 kvs k=none->c7 (kvs++[(k,y)]) j=if j=k then some y else c7 kvs j
 | [],_=>by
   by_cases e:k=j
   . rw [if_pos e.symm];exact eM (p:=(k,y)) e
   . rw [if_neg (fun z=>e z.symm)];exact eO (p:=(k,y)) e
 | p::r,hn=>by
   rw [List.cons_append];have hk:¬ p.1=k:=fun z=>by rw [eM z] at hn;cases hn
   rw [eO hk] at hn;have ih:=CZ k j y r hn;by_cases e:p.1=j
   . rw [eM e,eM e,if_neg (fun z=>hk (e.trans z))]
   . rw [eO e,eO e,ih]
theorem Fh (kvs:List (κ × V)) (k j:κ) (y:V):c7 (dW kvs k y) j=if j=k then some y else c7 kvs j:=by
 unfold dW;by_cases a:(kvs.any fun kv=>decide (kv.1=k))=true
 . rw [if_pos a,FM];rw [pE] at a;by_cases e:j=k
   . obtain ⟨x,hx⟩:=Option.isSome_iff_exists.mp a;rw [if_pos e,e,hx,Option.map_some,if_pos rfl]
   . rw [if_neg e];cases c7 kvs j with
     | none=>rfl
     | some x=>rw [Option.map_some,if_neg e]
 . rw [if_neg a];refine CZ k j y kvs ?_;rw [pE] at a;cases q:c7 kvs k with
   | none=>rfl
   | some x=>rw [q] at a;exact (a rfl).elim
theorem j8 (kvs:List (κ × V)) (k:κ) (v:V):(dW kvs k v).length<=kvs.length+1:=by
 unfold dW;split
 . rw [List.length_map];omega
 . rw [List.length_append,List.length_cons,List.length_nil];omega
theorem Ol {kvs:List (κ × V)} {k:κ} (v:V) (h:c7 kvs k=none):dW kvs k v=kvs++[(k,v)]:=by
 unfold dW;rw [pE,h];exact if_neg (by decide)
theorem RelO.isSome_eq {o:Option V} {u:Option Value} (r:RelO o u):o.isSome=u.isSome:=by
 cases o with
 | none=>cases u with
   | none=>rfl
   | some _=>exact (show False from r).elim
 | some _=>cases u with
   | none=>exact (show False from r).elim
   | some _=>rfl
theorem KV.val {kvs:List (κ × V)} {vs:List (κ × Value)} (r:KV kvs vs) (k:κ):RelO (c7 kvs k) (valueAt vs k):=by
 unfold KV at r
 induction r with
 | nil=>exact True.intro
 | @cons p q ps qs h t ih =>
   obtain ⟨h1,h2⟩:=h;by_cases e:p.1=k
   . have e':q.1=k:=h1.symm.trans e;have b:valueAt (q::qs) k=some q.2:=(by simp [valueAt,List.find?_cons,e']);rw [eM e,b];exact h2
   . have e':¬ q.1=k:=fun z=>e (h1.trans z);have b:valueAt (q::qs) k=valueAt qs k:=(by simp [valueAt,List.find?_cons,e']);rw [eO e,b];exact ih
theorem KV.any {kvs:List (κ × V)} {vs:List (κ × Value)} (r:KV kvs vs) (k:κ):(kvs.any fun kv=>decide (kv.1=k))=vs.any fun kv=>decide (kv.1=k):=by
 unfold KV at r
 induction r with
 | nil=>rfl
 | cons h t ih=>rw [List.any_cons,List.any_cons,ih,h.1]
theorem KV.repl {kvs:List (κ × V)} {vs:List (κ × Value)} (r:KV kvs vs) (k:κ) {y:V} {u:Value} (ry:RelV y u) :
   KV (kvs.map fun kv=>if kv.1=k then (kv.1,y) else kv) (vs.map fun kv=>if kv.1=k then (kv.1,u) else kv):=by
 unfold KV at r ⊢
 induction r with
 | nil=>exact .nil
 | @cons p q ps qs h t ih =>
   rw [List.map_cons,List.map_cons];refine .cons ?_ ih;obtain ⟨h1,h2⟩:=h;by_cases e:p.1=k
   . rw [if_pos e,if_pos (h1.symm.trans e)];exact ⟨h1,ry⟩
   . rw [if_neg e,if_neg (fun z=>e (h1.trans z))];exact ⟨h1,h2⟩
theorem KV.put {kvs:List (κ × V)} {vs:List (κ × Value)} (r:KV kvs vs) (k:κ) {y:V} {u:Value} (ry:RelV y u):KV (dW kvs k y) (stored vs k u):=by
 unfold dW stored;rw [r.any k];by_cases e:(vs.any fun kv=>decide (kv.1=k))=true
 . rw [if_pos e,if_pos e];exact r.repl k ry
 . rw [if_neg e,if_neg e];exact Paired.snoc r ⟨rfl,ry⟩
theorem KV.length {kvs:List (κ × V)} {vs:List (κ × Value)} (r:KV kvs vs):kvs.length=vs.length:=Paired.length r
end
theorem xS {P:Program} {w:World} {k:Key} {u:Value} (r:RelV (kV k) u):(dB P w).is k u=true:=by
 cases k with
 | inl i=>obtain ⟨t,e⟩:=(show ∃ t,u=Value.int i t from r);subst e;exact Ga P w i t
 | inr x=>obtain ⟨t,e⟩:=(show ∃ t,u=Value.str x t from r);subst e;exact F6 P w x t
theorem CV {P:Program} {w:World}:∀ {ks:List Key} {us:List Value},Vals (ks.map kV) us->ItemsAre (dB P w) ks us
 | [],_,r=>by rw [List.map_nil] at r;cases r;exact .nil
 | k::ks,_,r=>by
   rw [List.map_cons] at r;cases r with
   | cons h t=>exact .cons (xS h) (CV t)
abbrev KT (H:Hp):List (List Key × V)->List (List Key × Addr × Value)->Prop:=Paired fun p q=>p.1=q.1/\H q.2.1=some (.tup (p.1.map kV))/\RelV p.2 q.2.2
theorem KT.val {H:Hp} {kvs:List (List Key × V)} {xs:List (List Key × Addr × Value)} (r:KT H kvs xs) (k:List Key):RelO (c7 kvs k) ((atKey xs k).map (·.2)):=by
 induction r with
 | nil=>exact True.intro
 | @cons p q ps qs h t ih =>
   obtain ⟨h1,_,h2⟩:=h;by_cases e:p.1=k
   . have e':q.1=k:=h1.symm.trans e;have b:atKey (q::qs) k=some q.2:=(by simp [atKey,List.find?_cons,e']);rw [eM e,b];exact h2
   . have e':¬ q.1=k:=fun z=>e (h1.trans z);have b:atKey (q::qs) k=atKey qs k:=(by simp [atKey,List.find?_cons,e']);rw [eO e,b];exact ih
theorem KT.repl {H:Hp} {kvs:List (List Key × V)} {xs:List (List Key × Addr × Value)} (r:KT H kvs xs) (k:List Key) {y:V} {u:Value} (ry:RelV y u) :
   KT H (kvs.map fun kv=>if kv.1=k then (kv.1,y) else kv) (xs.map (putAt k u)):=by
 induction r with
 | nil=>exact .nil
 | @cons p q ps qs h t ih =>
   rw [List.map_cons,List.map_cons];refine .cons ?_ ih;obtain ⟨h1,h2,h3⟩:=h;unfold putAt;by_cases e:p.1=k
   . rw [if_pos e,if_pos (h1.symm.trans e)];exact ⟨h1,h2,ry⟩
   . rw [if_neg e,if_neg (fun z=>e (h1.trans z))];exact ⟨h1,h2,h3⟩
theorem KT.put {H:Hp} {kvs:List (List Key × V)} {xs:List (List Key × Addr × Value)} (r:KT H kvs xs) (k:List Key) {b:Addr} {y:V} {u:Value} (hb:H b=some (.tup (k.map kV))) (ry:RelV y u) :
   KT H (dW kvs k y) (storedH xs k b u):=by
 have e:(kvs.any fun kv=>decide (kv.1=k))=(atKey xs k).isSome:=by
   rw [pE,(r.val k).isSome_eq,Option.isSome_map]
 unfold dW storedH;rw [e];by_cases q:(atKey xs k).isSome=true
 . rw [if_pos q,if_pos q];exact r.repl k ry
 . rw [if_neg q,if_neg q];exact Paired.snoc r ⟨rfl,hb,ry⟩
theorem KT.keeps {H H':Hp} {kvs:List (List Key × V)} {xs:List (List Key × Addr × Value)} (r:KT H kvs xs) (ht:∀ b ys,H b=some (.tup ys)->H' b=some (.tup ys)):KT H' kvs xs :=
 Paired.mapP r fun _ _ z=>⟨z.1,ht _ _ z.2.1,z.2.2⟩
section
variable {P:Program} {w:World} {H:Hp} {h:Heap} {a:Addr}
theorem Ox {u:HO} (ok:HOk P w H h) (e:Rd H a u):ObjOk P w H h a u:=e.ok ok
theorem xG {kvs:List (Key × V)} (ok:HOk P w H h) (e:Rd H a (.dK kvs)):kvs.length<=sizeLine/\(a == sysModules)=false/\∃ vs,KV kvs vs/\h.DictOf (dB P w) a vs :=
 show ObjOk P w H h a (.dK kvs) from Ox ok e
theorem Ot {kvs:List (Key × V)} (ok:HOk P w H h) (e:H a=some (.dK kvs)):kvs.length<=sizeLine/\(a == sysModules)=false/\∃ vs,KV kvs vs/\h.DictOf (dB P w) a vs:=xG ok (.inl e)
theorem vR {ks:List Key} (ok:HOk P w H h) (e:H a=some (.tup (ks.map kV))):(tupleKind (dB P w)).is h ks a:=by
 obtain ⟨_,its,r,o,h1,h2,n,h3⟩:=(show ObjOk P w H h a (.tup (ks.map kV)) from ok a _ e);exact ⟨o,its.toArray,n,h1,h2,h3,by simpa using CV r⟩
theorem Aa {kvs:List (List Key × V)} (ok:HOk P w H h) (e:Rd H a (.dT kvs)):kvs.length<=sizeLine/\(a == sysModules)=false /\
   ∃ xs,KT H kvs xs/\h.DictOfH (tupleKind (dB P w)) a xs:=by
 obtain ⟨z,y,xs,r,o,es,ep,h1,h2,h3,h4,h5⟩:=(show ObjOk P w H h a (.dT kvs) from Ox ok e);refine ⟨z,y,xs,r,o,es,ep,h1,h2,h3,h4,fun x hx=>?_,h5⟩;have all:∀ {l:List (List Key × V)} {m:List (List Key × Addr × Value)},KT H l m->∀ x∈m,(tupleKind (dB P w)).is h x.1 x.2.1:=by
   intro l m q
   induction q with
   | nil=>intro x hx;exact nomatch hx
   | @cons p q ps qs hq t ih =>
     intro x hx;rcases List.mem_cons.mp hx with e|hx
     . subst e;exact vR ok (by rw [<- hq.1];exact hq.2.1)
     . exact ih x hx
 exact all r x hx
theorem Q4 {kvs:List (List Key × V)} (ok:HOk P w H h) (e:H a=some (.dT kvs)):kvs.length<=sizeLine/\(a == sysModules)=false /\
   ∃ xs,KT H kvs xs/\h.DictOfH (tupleKind (dB P w)) a xs:=Aa ok (.inl e)
end
def DGet (H:Hp) (a:Addr) (y:V) (r:Option V):Prop :=
 (∃ kvs k,Rd H a (.dK kvs)/\y=kV k/\r=c7 kvs k)\/∃ kvs k b,Rd H a (.dT kvs)/\y=.ref b/\H b=some (.tup (k.map kV))/\r=c7 kvs k
def DPut (H:Hp) (a:Addr) (y v:V) (H':Hp):Prop :=
 (∃ kvs k,H a=some (.dK kvs)/\y=kV k/\kvs.length<sizeLine/\H'=upd H a (.dK (dW kvs k v))) \/
 ∃ kvs k b,H a=some (.dT kvs)/\y=.ref b/\H b=some (.tup (k.map kV))/\kvs.length<sizeLine/\H'=upd H a (.dT (dW kvs k v))
theorem DGet.k {H:Hp} {a:Addr} {kvs:List (Key × V)} {k:Key} (e:H a=some (.dK kvs)):DGet H a (kV k) (c7 kvs k):=.inl ⟨kvs,k,.inl e,rfl,rfl⟩
theorem DGet.t {H:Hp} {a b:Addr} {kvs:List (List Key × V)} {k:List Key} (e:H a=some (.dT kvs)) (eb:H b=some (.tup (k.map kV))):DGet H a (.ref b) (c7 kvs k):=.inr ⟨kvs,k,b,.inl e,rfl,eb,rfl⟩
theorem DPut.k {H:Hp} {a:Addr} {kvs:List (Key × V)} {k:Key} {v:V} (e:H a=some (.dK kvs)) (hl:kvs.length<sizeLine):DPut H a (kV k) v (upd H a (.dK (dW kvs k v))):=.inl ⟨kvs,k,e,rfl,hl,rfl⟩
theorem DPut.t {H:Hp} {a b:Addr} {kvs:List (List Key × V)} {k:List Key} {v:V} (e:H a=some (.dT kvs)) (eb:H b=some (.tup (k.map kV))) (hl:kvs.length<sizeLine) :
   DPut H a (.ref b) v (upd H a (.dT (dW kvs k v))):=.inr ⟨kvs,k,b,e,rfl,eb,hl,rfl⟩
section
variable {X:Cx} {pins:List (Addr × Obj)} {σ:St} {H:Hp} {s:Shared} {a:Addr} {y v:V} {u r:Value} {o:Option V} {A:Around} {E:Value->Shared->Prop}
theorem Inv.big (I:Inv X pins σ H s):sysModules<s.heap.objs.size:=by
 have h:mainGlobals<s.heap.objs.size:=(I.mod.glob.keeps I.bk).lt;exact Nat.lt_trans (by decide) h
theorem J6 {Q:Value->Shared->Prop} (hu:A.units+1<cLine) (I:Inv X pins σ H s) (g:DGet H a y (some v)) (ry:RelV y u) (h:∀ w' s',Inv X pins σ H s'->RelV v w'->Q w' s') :
   wpAny (model X.prog X.w) A (getItem (.ref a) u) Q E s:=by
 rcases g with ⟨kvs,k,e,ey,l⟩|⟨kvs,k,b,e,ey,eb,l⟩
 . subst ey;obtain ⟨z,hd,vs,rel,dd⟩:=xG I.hok e;obtain ⟨w',hw,rw'⟩:=RelO.some_of (v:=v) (o:=valueAt vs k) (by rw [l];exact rel.val k);exact wpAny_getItem_of (xS ry) dd.mapOf hw (h w' _ (I.tok _) rw')
 . subst ey;cases (show u=Value.ref b from ry);obtain ⟨z,hd,xs,rel,dd⟩:=Aa I.hok e;obtain ⟨w',hw,rw'⟩:=RelO.some_of (v:=v) (o:=(atKey xs k).map (·.2)) (by rw [l];exact rel.val k);obtain ⟨p,hp,hp2⟩:=Option.map_eq_some_iff.mp hw;refine wpAny_getItem_heap (tupleKind_room_in1 hu) (vR I.hok eb) dd hp ?_;rw [hp2];exact h w' _ (I.tok _) rw'
theorem Re {Q:Value->Shared->Prop} (hu:A.units+1<cLine) (I:Inv X pins σ H s) (g:DGet H a y o) (ry:RelV y u) (h:∀ s',Inv X pins σ H s'->Q (.bool o.isSome) s') :
   wpAny (model X.prog X.w) A (compareOp .In u (.ref a)) Q E s:=by
 rcases g with ⟨kvs,k,e,ey,l⟩|⟨kvs,k,b,e,ey,eb,l⟩
 . subst ey;obtain ⟨z,hd,vs,rel,dd⟩:=xG I.hok e;refine wpAny_in_of (xS ry) hd dd.mapOf ?_;rw [<- (rel.val k).isSome_eq,<- l];exact h _ (I.tok _)
 . subst ey;cases (show u=Value.ref b from ry);obtain ⟨z,hd,xs,rel,dd⟩:=Aa I.hok e;refine wpAny_in_heap (tupleKind_room_in1 hu) (vR I.hok eb) hd dd ?_;have q:=(rel.val k).isSome_eq;rw [Option.isSome_map] at q;rw [<- q,<- l];exact h _ (I.tok _)
theorem Pu {Q:Value->Shared->Prop} (hu:A.units+1<cLine) (I:Inv X pins σ H s) (g:DGet H a y o) (ry:RelV y u) (h:∀ s',Inv X pins σ H s'->Q (.bool (!o.isSome)) s') :
   wpAny (model X.prog X.w) A (compareOp .NotIn u (.ref a)) Q E s:=by
 rcases g with ⟨kvs,k,e,ey,l⟩|⟨kvs,k,b,e,ey,eb,l⟩
 . subst ey;obtain ⟨z,hd,vs,rel,dd⟩:=xG I.hok e;refine wpAny_notIn_of (xS ry) hd dd.mapOf ?_;rw [<- (rel.val k).isSome_eq,<- l];exact h _ (I.tok _)
 . subst ey;cases (show u=Value.ref b from ry);obtain ⟨z,hd,xs,rel,dd⟩:=Aa I.hok e;refine wpAny_notIn_heap (tupleKind_room_in1 hu) (vR I.hok eb) hd dd ?_;have q:=(rel.val k).isSome_eq;rw [Option.isSome_map] at q;rw [<- q,<- l];exact h _ (I.tok _)
theorem Br {h':Heap} {t':Nat} {ob:HO} (I:Inv X pins σ H s) (mu:Mut (H a)) (hs:Heap.SameBut a s.heap h') (he:∃ q,h'.get? a=some q) (new:ObjOk X.prog X.w (upd H a ob) h' a ob) :
   Inv X pins σ (upd H a ob) { s with heap:=h',toks:=t' } :=
 I.write (x:=a) (e:=a) mu (.inl rfl) (fun b q hb z=>(hs.2 b hb).trans z) he new
theorem Jy {P:Program} {w:World} {H':Hp} {h':Heap} {kvs:List (Key × V)} {vs:List (Key × Value)} (z:kvs.length<=sizeLine) (hd:(a == sysModules)=false) (rel:KV kvs vs) (dd:h'.DictOf (dB P w) a vs) :
   ObjOk P w H' h' a (.dK kvs):=⟨z,hd,vs,rel,dd⟩
theorem JI {H':Hp} {Q:Unit->Shared->Prop} (hu:A.units+1<cLine) (I:Inv X pins σ H s) (g:DPut H a y v H') (ry:RelV y u) (rv:RelV v r) (h:∀ s',Inv X pins σ H' s'->Q () s') :
   wpAny (model X.prog X.w) A (setItem (.ref a) u r) Q E s:=by
 rcases g with ⟨kvs,k,e,ey,l,eH⟩|⟨kvs,k,b,e,ey,eb,l,eH⟩
 . subst ey eH;obtain ⟨z,hd,vs,rel,dd⟩:=Ot I.hok e;have hz:vs.length<=sizeLine:=by rw [<- rel.length];exact z
   have hl:(dW kvs k v).length<=sizeLine:=by have:=j8 kvs k v;omega
   refine wpAny_setItem_pairs (hsz:=hz) (xS ry) dd fun h' dd' hs=>h _ ?_;have he:∃ q,h'.get? a=some q:=let ⟨q,_,_,hq,_⟩:=dd';⟨q,hq⟩;exact Br I (by rw [e];exact True.intro) hs he (Jy hl hd (rel.put k rv) dd')
 . subst ey eH;cases (show u=Value.ref b from ry);obtain ⟨z,hd,xs,rel,dd⟩:=Q4 I.hok e;have hz:xs.length<=sizeLine:=by rw [<- Paired.length rel];exact z
   have hl:(dW kvs k v).length<=sizeLine:=by have:=j8 kvs k v;omega
   refine wpAny_setItem_heap (hsz:=hz) (tupleKind_room_in1 hu) (vR I.hok eb) dd fun h' dd' hs=>h _ ?_;obtain ⟨q,es,ep,hq,h2,h3,h4,_,h5⟩:=dd';refine Br I (by rw [e];exact True.intro) hs ⟨q,hq⟩ ⟨hl,hd,_,(rel.put k eb rv).keeps fun c ys ec=>?_,q,es,ep,hq,h2,h3,h4,h5⟩;rw [ap (fQ ec e (fun z=>nomatch z))];exact ec
end
section
variable {X:Cx} {pins:List (Addr × Obj)} {σ:St} {H:Hp} {s:Shared} {a:Addr} {kvs:List (Key × V)} {k:Key} {u:Value} {A:Around} {E:Value->Shared->Prop}
theorem QY {Q:Value->Shared->Prop} (I:Inv X pins σ H s) (e:Rd H a (.dK kvs)) (h:∀ t s',Inv X pins σ H s'->Q (.int kvs.length t) s'):wpAny (model X.prog X.w) A (call (.builtin "len") [.ref a]) Q E s:=by
 obtain ⟨z,hd,vs,rel,dd⟩:=xG I.hok e;refine call_len_dict hd dd (by rw [<- rel.length];rw [sizeLine_eq] at z;omega) ?_;rw [<- rel.length];exact h _ _ (I.tok _)
end
def P1 (i:Expr):Prop:=∀ ov iv,subscripted i false ov iv=operate [ov,iv] (getItem ov iv)
theorem Pf {prog:Program} {w:World} {A:Around} {E:Value->Shared->Prop} {s:Shared} {env:Env} {value slice:Expr} {pos:Pos} {T id:String} {Q:Value->Shared->Prop}
   (hl:typeLookup (.type T) "__getitem__"=pure (some (.builtin id))) (hs:P1 slice)
   (h:wpAny (model prog w) A (eval value env) (fun o s₁=>wpAny (model prog w) A (eval slice env) (fun i s₂=>s₂.TypeIs o T/\wpAny (model prog w) A (getItem o i) Q E s₂) E s₁) E s) :
   wpAny (model prog w) A (eval (.Subscript value slice pos) env) Q E s:=by
 refine Subscript_ (wpAny_mono h (fun o s₁ h₁=>wpAny_mono h₁ (fun i s₂ h₂=>?_) fun _ _ x=>x) fun _ _ x=>x);obtain ⟨hT,h₂⟩:=h₂;unfold subscriptTail;refine wpAny_bind ?_;rw [getitemInPython_of_ne hT.not_modules];refine wpAny_bind (wpAny_specialOf hT hl ?_);have fin:wpAny (model prog w) A (subscripted slice false o i) (fun r s₃=>wpAny (model prog w) A (letTemporaryGo value o r >>= fun _=>pure r) Q E s₃) E s₂:=by
   rw [hs o i];exact wpAny_operating (wpAny_mono h₂ (fun r s₃ h₃=>wpAny_bind (wpAny_letTemporaryGo (wpAny_pure h₃))) fun _ _ x=>x)
 first
   | exact wpAny_pure (wpAny_bind fin)
   | exact wpAny_bind (wpAny_pure (wpAny_bind fin))
   | exact wpAny_bind fin
theorem Gn {X:Cx} {pins:List (Addr × Obj)} {σ:St} {H:Hp} {s:Shared} {a:Addr} {y:V} {o:Option V} (I:Inv X pins σ H s) (g:DGet H a y o):s.TypeIs (.ref a) "dict":=by
 rcases g with ⟨kvs,k,e,_,_⟩|⟨kvs,k,b,e,_,_,_⟩
 . obtain ⟨_,_,vs,_,dd⟩:=xG I.hok e;exact dd.typeIs
 . obtain ⟨_,_,xs,_,dd⟩:=Aa I.hok e;exact dd.typeIs
def IU (td ty:TE):TE:=fun σ H Q=>td σ H fun x H1=>ty σ H1 fun y H2=>∃ a v,x=.ref a/\DGet H2 a y (some v)/\Q v H2
def Nz (ty td:TE):TE:=fun σ H Q=>ty σ H fun y H1=>td σ H1 fun x H2=>∃ a o,x=.ref a/\DGet H2 a y o/\Q (.bl o.isSome) H2
def BU (ty td:TE):TE:=fun σ H Q=>ty σ H fun y H1=>td σ H1 fun x H2=>∃ a o,x=.ref a/\DGet H2 a y o/\Q (.bl (!o.isSome)) H2
def Jk (td ty tv:TE):TS:=fun D σ H=>tv σ H fun v H1=>td σ H1 fun x H2=>ty σ H2 fun y H3=>∃ a H4,x=.ref a/\DPut H3 a y v H4/\D.nx σ H4
section
variable {X:Cx} {o i e value:Expr} {pos pos' tpos:Pos} {td ty tv:TE}
theorem G6 (hu:X.A.units+1<cLine) (ho:PE X o td) (hi:PE X i ty) (hs:P1 i):PE X (.Subscript o i pos) (IU td ty):=by
 intro pins s σ H Q I h;refine Pf PySem.F.slot_dict_getitem.lookup hs (bg (ho pins s σ H _ I h) fun u s1 x H1 I1 rx q1=>bg (hi pins s1 σ H1 _ I1 q1) fun iv s2 y H2 I2 ry ⟨a,v,ex,g,q2⟩=>?_);subst ex;obtain rfl:u=Value.ref a:=rx;exact ⟨Gn I2 g,J6 hu I2 g ry fun w' s3 I3 rw'=>⟨v,H2,I3,rw',q2⟩⟩
theorem Qt (hu:X.A.units+1<cLine) (hi:PE X i ty) (ho:PE X o td):PC X .In i o (Nz ty td):=by
 intro pins s σ H Q I h;refine bg (hi pins s σ H _ I h) fun iv s1 y H1 I1 ry q1=>bg (ho pins s1 σ H1 _ I1 q1) fun u s2 x H2 I2 rx ⟨a,ov,ex,g,q2⟩=>?_;subst ex;obtain rfl:u=Value.ref a:=rx;exact Re hu I2 g ry fun s3 I3=>⟨.bl ov.isSome,H2,I3,rfl,q2⟩
theorem KF (hu:X.A.units+1<cLine) (hi:PE X i ty) (ho:PE X o td):PC X .NotIn i o (BU ty td):=by
 intro pins s σ H Q I h;refine bg (hi pins s σ H _ I h) fun iv s1 y H1 I1 ry q1=>bg (ho pins s1 σ H1 _ I1 q1) fun u s2 x H2 I2 rx ⟨a,ov,ex,g,q2⟩=>?_;subst ex;obtain rfl:u=Value.ref a:=rx;exact Pu hu I2 g ry fun s3 I3=>⟨.bl (!ov.isSome),H2,I3,rfl,q2⟩
theorem BM (hu:X.A.units+1<cLine) (ho:PE X o td) (hi:PE X i ty) (hv:PE X value tv) (hs:swapsWith value (some (.Subscript o i pos')) pos.line X.env=pure false) :
   PS X (.Assign [.Subscript o i pos'] value pos) (Jk td ty tv):=by
 intro pins s σ H D I h;refine wpAny_Assign_Subscript (bg (hv pins s σ H _ I h) fun r s1 v H1 I1 rv q1=>bg (ho pins s1 σ H1 _ I1 q1) fun u s2 x H2 I2 rx q2=>bg (hi pins s2 σ H2 _ I2 q2) fun iv s3 y H3 I3 ry ⟨a,H4,ex,g,q3⟩=>?_) hs;subst ex;obtain rfl:u=Value.ref a:=rx;exact JI hu I3 g ry rv fun s4 I4=>⟨σ,H4,I4,q3⟩
end
theorem MM {P:Program} {w:World} {H:Hp} (h:Heap) (hb:sysModules<h.objs.size):ObjOk P w H (h.push { cls:=.type "dict",data:=.dict #[] }) h.objs.size (.dK []) :=
 ⟨Nat.zero_le _,beq_eq_false_iff_ne.mpr (Ne.symm (Nat.ne_of_lt hb)),[],.nil,Heap.DictOf.new h⟩
theorem Lw {P:Program} {w:World} {H:Hp} (h:Heap) (hb:sysModules<h.objs.size):ObjOk P w H (h.push { cls:=.type "dict",data:=.dict #[] }) h.objs.size (.dT []) :=
 ⟨Nat.zero_le _,beq_eq_false_iff_ne.mpr (Ne.symm (Nat.ne_of_lt hb)),[],.nil,_,#[],0,Heap.get?_push_size _ rfl,⟨rfl,rfl,rfl⟩,rfl,rfl,List.nodup_nil⟩
def JQ:TE:=fun _ H Q=>∀ p,H p=none->Q (.ref p) (upd H p (.dK []))
def tDNewT:TE:=fun _ H Q=>∀ p,H p=none->Q (.ref p) (upd H p (.dT []))
section
variable {X:Cx} {pos:Pos}
theorem L9:PE X (.Dict [] [] pos) tDNewT:=fun pins s σ H Q I h =>
 wpAny_Dict_empty ⟨.ref s.heap.objs.size,_,I.laid (a:=s.heap.objs.size) (o:=.dT []) (t':=s.toks) (fun _ _ q=>Heap.get?_push_of_some _ q) (Nat.le_refl _) (Lw s.heap I.big),rfl,h _ (I.hok.fresh (Nat.le_refl _))⟩
end
def sF:List (TE × TE)->St->Hp->(List (V × V)->Hp->Prop)->Prop
 | [],_,H,Q=>Q [] H
 | (tk,tv)::r,σ,H,Q=>tk σ H fun x H1=>tv σ H1 fun y H2=>sF r σ H2 fun ps H3=>Q ((x,y)::ps) H3
abbrev VV:List (V × V)->List (Value × Value)->Prop:=Paired fun p q=>RelV p.1 q.1/\RelV p.2 q.2
def PPs (X:Cx) (pos:Pos) (keys:List (Option Expr)) (values:List Expr) (trs:List (TE × TE)):Prop :=
 ∀ (pins:List (Addr × Obj)) (s:Shared) (σ:St) (H:Hp) (Q:List (V × V)->Hp->Prop),Inv X pins σ H s->sF trs σ H Q ->
   wpAny (model X.prog X.w) X.A (evalPairs (pairTrees keys values X.env pos)) (fun vs s'=>∃ ps H',Inv X pins σ H' s'/\VV ps vs/\Q ps H') X.xe s
theorem O4 {X:Cx} {pos:Pos}:PPs X pos [] [] []:=fun pins s σ H Q I h=>pairTrees_nil_walk ⟨[],H,I,.nil,h⟩
theorem LB {X:Cx} {pos:Pos} {k v:Expr} {ks:List (Option Expr)} {vs:List Expr} {tk tv:TE} {trs:List (TE × TE)} (hk:PE X k tk) (hv:PE X v tv) (hr:PPs X pos ks vs trs) :
   PPs X pos (some k::ks) (v::vs) ((tk,tv)::trs):=fun pins s σ H Q I h =>
 pairTrees_cons_walk (bg (hk pins s σ H _ I h) fun u s1 x H1 I1 rx q1=>bg (hv pins s1 σ H1 _ I1 q1) fun w2 s2 y H2 I2 ry q2 =>
   thn (hr pins s2 σ H2 _ I2 q2) fun ws s3 ⟨ps,H3,I3,rel,q3⟩=>⟨(x,y)::ps,H3,I3,.cons ⟨rx,ry⟩ rel,q3⟩)
def sk (kvs more:List (Key × V)):List (Key × V):=more.foldl (fun acc kv=>dW acc kv.1 kv.2) kvs
theorem KV.merge:∀ {more:List (Key × V)} {rs:List (Key × Value)} {kvs:List (Key × V)} {vs:List (Key × Value)},KV more rs->KV kvs vs->KV (sk kvs more) (merged vs rs):=by
 intro more rs kvs vs r;unfold KV at r
 induction r generalizing kvs vs with
 | nil=>intro q;exact q
 | @cons p q ps qs h t ih =>
   intro r0;have e:KV (dW kvs p.1 p.2) (stored vs q.1 q.2):=by
     have:=r0.put p.1 h.2;rw [<- h.1];exact this
   exact ih e
theorem vf:∀ (more kvs:List (Key × V)),(sk kvs more).length<=kvs.length+more.length
 | [],kvs=>by show kvs.length<=kvs.length+0;omega
 | p::r,kvs=>by
   have h1:=vf r (dW kvs p.1 p.2);have h2:=j8 kvs p.1 p.2;show (sk (dW kvs p.1 p.2) r).length<=_;rw [List.length_cons];omega
theorem AM {P:Program} {w:World}:∀ {kvs:List (Key × V)} {ws:List (Value × Value)},VV (kvs.map fun kv=>(kV kv.1,kv.2)) ws->∃ rs,Carries (dB P w) ws rs/\KV kvs rs
 | [],_,r=>by rw [List.map_nil] at r;cases r;exact ⟨[],True.intro,.nil⟩
 | p::kvs,_,r=>by
   rw [List.map_cons] at r;cases r with
   | @cons a b as bs h t =>
     obtain ⟨rs,c,q⟩:=AM (P:=P) (w:=w) t;obtain ⟨b1,b2⟩:=b;exact ⟨(p.1,b2)::rs,⟨xS h.1,rfl,c⟩,.cons ⟨rfl,h.2⟩ q⟩
def Jj (trs:List (TE × TE)):TE:=fun σ H Q=>∀ p,H p=none->sF trs σ (upd H p (.dK [])) fun ps H2=>H2 p=some (.dK [])/\∃ kvs:List (Key × V),ps=kvs.map (fun kv=>(kV kv.1,kv.2))/\kvs.length<=15/\Q (.ref p) (upd H2 p (.dK (sk [] kvs)))
theorem ON {X:Cx} {pos:Pos} {keys:List (Option Expr)} {values:List Expr} {trs:List (TE × TE)} (h:PPs X pos keys values trs) (hall:keys.all (·.isSome)=true) (hl:keys.length=values.length) (h0:keys≠[])
   (h15:keys.length<=15):PE X (.Dict keys values pos) (Jj trs):=by
 intro pins s σ H Q I q;have hn:=I.hok.fresh (Nat.le_refl s.heap.objs.size);have I1:=I.laid (a:=s.heap.objs.size) (o:=.dK []) (h':=s.heap.push { cls:=.type "dict",data:=.dict #[] }) (t':=s.toks) (fun _ _ q=>Heap.get?_push_of_some _ q) (Nat.le_refl _) (MM s.heap I.big);refine wpAny_Dict_walk (knd:=dB X.prog X.w) hall hl h0 h15 (thn (h pins _ σ _ _ I1 (q _ hn)) fun ws s2 ⟨ps,H2,I2,rel,e,kvs,ep,lk,q2⟩=>?_);subst ep;obtain ⟨rs,c,rk⟩:=AM (P:=X.prog) (w:=X.w) rel;obtain ⟨z,hd,vs0,r0,dd⟩:=Ot I2.hok e;cases r0;refine ⟨rs,c,dd,fun h' dd' hs=>⟨.ref s.heap.objs.size,_,?_,rfl,q2⟩⟩;have hz:(sk [] kvs).length<=sizeLine:=by
   have h1:=vf kvs [];rw [List.length_nil] at h1;rw [sizeLine_eq];omega
 have he:∃ q,h'.get? s.heap.objs.size=some q:=let ⟨q,_,_,hq,_⟩:=dd';⟨q,hq⟩;exact Br I2 (by rw [e];exact True.intro) hs he (Jy hz hd (rk.merge .nil) dd')
section
variable {X:Cx} {pins:List (Addr × Obj)} {σ:St} {H:Hp} {s:Shared} {a:Addr} {y d:V} {u r:Value} {o:Option V} {A:Around} {E:Value->Shared->Prop}
end
section
variable {X:Cx} {o e f:Expr} {apos cpos:Pos} {td ty tx:TE}
end
section
variable {X:Cx} {pins:List (Addr × Obj)} {σ:St} {H:Hp} {s:Shared} {a:Addr} {kvs:List (Key × V)} {A:Around} {E:Value->Shared->Prop}
end
section
variable {X:Cx} {pins:List (Addr × Obj)} {σ:St} {H:Hp} {s:Shared} {a:Addr} {y:V} {u:Value} {A:Around} {E:Value->Shared->Prop}
end
end L2
namespace Att
open PySem PySem.W PySem.Calls PyProof.Rows
theorem Ad {P:Params} {h:Heap}:∀ (ns:List Int) (vs:List Value),WellAll P h vs (ns.map WData.int)->IntsAre vs ns:=by
 intro ns
 induction ns with
 | nil =>
   intro vs w;rw [List.map_nil] at w;cases w;exact .nil
 | cons n ns ih =>
   intro vs w;rw [List.map_cons] at w;cases w with
   | cons a b =>
     cases a;exact .cons _ _ (ih _ b)
theorem KC {l:OpenLaw} {n:Nat} (hn:l.most=some n) {P:Params} {h:Heap} {args:List WData} {vals:List Value}
   (hpre:l.row.toRowW.claim.pre args=true) (hwl:WellAll P h vals args) :
   ∃ a vs ns,vals=[Value.ref a]/\args=[WData.list (ns.map WData.int)]/\h.get? a=some { cls:=.type "list",data:=.seq vs.toArray }/\IntsAre vs ns/\ns.length<=n:=by
 have hsh:WShape.hasAll [] args [.list .int]=true:=(pre_splitW hpre).1;have hc:l.pre.holds [] { args:=args }=true:=(pre_splitW hpre).2;obtain ⟨d,r,rfl,h1,h2⟩:=hasAllW_cons hsh;obtain rfl:=hasAllW_nil h2;obtain ⟨xs,rfl,h3⟩:=hasW_list h1;obtain ⟨ns,rfl⟩:=items_int h3;have hlen:ns.length<=n:=by
   unfold OpenLaw.pre at hc;have h4:(WTm.not (.lt (.lit (.int (n:Int))) (.len (.arg 0)))).holds [] { args:=[.list (ns.map .int)] }=true:=by
     have h4:=(holds_andW hc).1;rw [hn] at h4;exact h4
   have h5:=condW_of h4 (w_not (w_lt w_lit (w_len_list (w_arg rfl))));rw [List.length_map] at h5;refine Nat.le_of_not_lt fun q=>?_;have q':(n:Int)<((ns.length:Nat):Int):=by omega
   first
     | (rw [decide_eq_true q'] at h5;exact absurd h5 (by decide))
     | (simp at h5;omega)
 cases hwl with
 | cons w1 w2 =>
   cases w2;cases w1 with
   | list ho hall=>exact ⟨_,_,ns,rfl,rfl,ho,Ad ns _ hall,hlen⟩
theorem Kx (l:OpenLaw) (args:List WData):l.row.toRowW.claim.post args (.bool true) args=true :=
 postW_of (r:=l.row.toRowW) (X:=(true == true))
   (show WShape.has [] (.bool true) .bool=true by first|rfl|decide|simp [WShape.has,WShape.arms,WShape.armsAll])
   (show (WTm.eq .res (.lit (.bool true))).value [] { args:=args,res:=some (.bool true),after:=args }=some (.bool (true == true)) from w_eq_bool (w_res rfl) w_lit) rfl
theorem attach_call {l:OpenLaw} {n:Nat} {q:Program} {loose:List Str} {XP:(Str->Option Value)->Heap->Prop} {YP:World->Heap->Prop} {d:DefRec}
   (hn:l.most=some n) (hdf:d.params.defaults=[])
   (call:∀ (w:World) (s₀ s₁:Shared) (mg mb:Str->Option Value) (fa:Addr) (o:Obj) (pm cd doc:Value) (a:Addr) (vs:List Value) (ns:List Int),
     Ground q loose [] XP w s₀ mg mb s₁.heap->YP w s₁.heap ->
     s₁.heap.get? fa=some o->o.data=.func (docDef d.name d.params d.body d.scope pm cd doc)->s₁.heap.CodeRec cd d.name->mg d.name=some (.ref fa) ->
     s₁.heap.get? a=some { cls:=.type "list",data:=.seq vs.toArray }->IntsAre vs ns->ns.length<=n->s₁.gens=#[] ->
     codeAny (model l.prog w) callerA (.call (.ref fa) ⟨[.ref a],[]⟩) (fun r s'=>r=.ok (.ret (.bool true))/\OldK s₁.heap s'.heap/\s'.os=s₁.os/\AllBare s'.gens) s₁) :
   WalkO q loose XP YP l.row.toRowW d [] (fun f vs=>PySem.call f vs):=by
 intro w s₀ s₁ mg mb G Y fa o pm cd doc dV kV ho hd hcd hD hmg hg args vals as hpre hlay hrd hwl hlo;obtain rfl:dV=.none:=Dflts.none hD hdf;obtain rfl:kV=.none:=Dflts.noKw hD;obtain ⟨a,vs,ns,rfl,rfl,hobj,hints,hlen⟩:=KC hn hpre hwl;refine enter_call (codeAny_mono (call w s₀ s₁ mg mb fa o pm cd doc a vs ns G Y ho (fd_plain hd) hcd hmg hobj hints hlen hg) fun r s' hq=>?_);obtain ⟨rfl,h2,h3,h4⟩:=hq;exact ⟨.inl ⟨.bool true,.bool true,[],rfl,fun _=>rfl,.bool true,Kx l _,fun _=>⟨List.Pairwise.nil,fun _ hm=>(nomatch hm)⟩⟩,h2,h3,h4⟩
section
variable {prog:Program} {w:World} {A:Around} {E:Value->Shared->Prop} {s:Shared} {K:Frag}
end
end Att
namespace L2
open PySem PySem.Spec PyProof.Rows
theorem CO:∀ {vs:List Value} {ns:List Int},IntsAre vs ns->Vals (ns.map V.int) vs
 | _,_,.nil=>.nil
 | _,_,.cons n t h=>.cons ⟨t,rfl⟩ (CO h)
def Ni (H:Hp):Prop:=∀ b,H b=none\/∃ o xs,H b=some (.frz o (.lst xs))
theorem Mp {P:Program} {w:World} {K:PySem.W.Frag} {mg mb:Str->Option Value} {CX:CXT} {k:Nat} {fa a:Addr} {fd:FuncData} {x:Str} {sp:Sp} {s₁:Shared} {vs:List Value} {ns:List Int}
   (KX:K.In s₁.heap) (hns:s₁.heap.Ns mainGlobals mg) (hb:s₁.heap.Ns builtinsNs mb) (hbb:∀ x:Str,x≠"__name__"->mb x=bootBuiltins x) (hlim:s₁.heap.NoLimit) (hg:s₁.gens=#[])
   (ha:s₁.heap.get? a=some { cls:=.type "list",data:=.seq vs.toArray }) (hi:IntsAre vs ns) (hl:ns.length<=sizeLine) (hr:Room k callerA)
   (F:∀ base:Heap,K.In base->base.Ns mainGlobals mg->FnOk P w K mg base CX k fa fd [x] sp) (hbind:∀ (s:Shared) (u:Value),BindsTo s fd ⟨[u],[]⟩ [(x,u)])
   (hsp:∀ H:Hp,Ni H->SqL K H a (ns.map V.int)->sp [.ref a] H (fun v _=>v=.bl true) fun _ _ _=>False)
   (hCX:∀ H e s',CX [] H s₁ (fun _ _ _=>False) e s'->False) :
   codeAny (model P w) callerA (.call (.ref fa) ⟨[.ref a],[]⟩) (fun r s'=>r=.ok (.ret (.bool true))/\OldK s₁.heap s'.heap/\s'.os=s₁.os/\AllBare s'.gens) s₁:=by
 have rv:=CO hi;have lenV:=hi.length;have core:∀ H:Hp,Ni H->SqL K H a (ns.map V.int)->HOk P w H s₁.heap->(∀ b,H b≠none->b=a)->(H a≠none->K.lookup a=none) ->
     codeAny (model P w) callerA (.call (.ref fa) ⟨[.ref a],[]⟩) (fun r s'=>r=.ok (.ret (.bool true))/\OldK s₁.heap s'.heap/\s'.os=s₁.os/\AllBare s'.gens) s₁:=by
   intro H hO hS hok hA hK;have base_of:∀ {b:Addr} {o:Obj},s₁.heap.get? b=some o->H b=none->(uN s₁.heap H).get? b=some o:=fun e n=>MC e n;have noA:∀ {b:Addr} {o:Obj} {es:Array DictEntry} {ep:Nat},s₁.heap.get? b=some o->o.data=.dict es ep->H b=none:=fun {b o es ep} e d=>by
     cases q:H b with
     | none=>rfl
     | some u =>
       have e':b=a:=hA b (by rw [q];simp);subst e';rw [ha] at e;cases e;have d':Data.seq vs.toArray _=Data.dict es ep:=d;cases d'
   have nsK:∀ {b:Addr} {m:Str->Option Value},s₁.heap.Ns b m->(uN s₁.heap H).Ns b m:=fun {b m} ⟨o,es,ep,e,d,r⟩=>⟨o,es,ep,base_of e (noA e d),d,r⟩;have hKb:K.In (uN s₁.heap H):=fun b o e=>base_of (KX b o e) (by
     cases q:H b with
     | none=>rfl
     | some u =>
       have e':b=a:=hA b (by rw [q];simp);subst e';rw [hK (by rw [q];simp)] at e;cases e)
   have hM:Mod K mg (uN s₁.heap H):=⟨hKb,nsK hns,⟨mb,nsK hb,hbb⟩,let ⟨mc,h1,h2⟩:=hlim;⟨mc,nsK h1,h2⟩⟩;have e0:Env0 P w K mg (uN s₁.heap H) callerA [] s₁ H:=⟨rfl,hM,fun b o e=>Pr e,Nat.le_of_eq (Ke _ _),trivial,fun b hb=>absurd (show b∈([]:List Addr) from hb) (by simp),hok,.of_eq hg⟩;refine codeAny_mono ((F _ hKb (nsK hns)).run callerA [] s₁ H ⟨[.ref a],[]⟩ [.ref a] [.ref a] _ _ hr e0 (hbind s₁ (.ref a)) (.cons rfl .nil) (hsp H hO hS)) fun r s' h=>?_;cases r with
   | error e=>exact (hCX H e s' h).elim
   | ok fl =>
     cases fl with
     | next=>exact False.elim h
     | brk=>exact False.elim h
     | cont=>exact False.elim h
     | ret u =>
       obtain ⟨v,H',os,bare,un,hok',r',q⟩:=h;have q':v=.bl true:=q;subst q';obtain rfl:u=Value.bool true:=r';refine ⟨rfl,OldK.of_keep fun b o e=>?_,os,bare⟩;cases q:H b with
       | none=>exact un.keep b o e q (by intro z;exact absurd (show b∈([]:List Addr) from z) (by simp)) (by simp)
       | some u =>
         rcases hO b with z|⟨ob,xs,z⟩
         . rw [q] at z;cases z
         . have z2:=un.frzs b ob _ z;obtain ⟨e1,_⟩:=hok b _ z;obtain ⟨e2,_⟩:=hok' b _ z2;rw [e] at e1;cases e1;exact e2
 cases hk:K.lookup a with
 | some o =>
   have e:=KX a o hk;rw [ha] at e;cases e;refine core (fun _=>none) (fun _=>.inl rfl) (.inr ⟨_,vs.toArray,_,hk,rfl,rfl,rfl,by rw [List.size_toArray,lenV];exact hl,by simpa using rv⟩) (fun b u z=>by have z':(none:Option HO)=some u:=z;cases z') (fun b z=>absurd rfl z) fun z=>absurd rfl z
 | none =>
   refine core (fun b=>if b=a then some (.frz { cls:=.type "list",data:=.seq vs.toArray } (.lst (ns.map V.int))) else none) (fun b=>?_) (.inl (.inr ⟨{ cls:=.type "list",data:=.seq vs.toArray },if_pos rfl⟩)) (fun b u z=>?_) (fun b z=>?_) fun _=>hk
   . by_cases hb:b=a
     . exact .inr ⟨_,_,if_pos hb⟩
     . exact .inl (if_neg hb)
   . by_cases hb:b=a
     . have z':=(if_pos hb).symm.trans z;cases z';subst hb;exact ⟨ha,by rw [List.length_map];exact hl,vs,_,rv,ha⟩
     . have z':=(if_neg hb).symm.trans z;cases z'
   . by_cases hb:b=a
     . exact hb
     . exact absurd (if_neg hb) z
end L2
namespace L2
open PySem PySem.Spec PyProof.Rows
theorem walk_of {l:PySem.W.OpenLaw} {n k:Nat} {q:Program} {loose:List Str} {XP:(Str->Option Value)->Heap->Prop} {YP:World->Heap->Prop} {d:DefRec} {K:Params->PySem.W.Frag} {CX:World->CXT} {sp:World->Sp} {x:Str}
   (hn:l.most=some n) (hn2:n<=sizeLine) (hdf:d.params.defaults=[]) (hr:Room k callerA)
   (hY:∀ (w:World) (h:Heap),YP w h->(K w.params).In h)
   (F:∀ (w:World) (mg:Str->Option Value) (fa:Addr) (h:Heap),(K w.params).In h->h.Ns mainGlobals mg->mg d.name=some (.ref fa) ->
     ∃ fd:FuncData,(∀ (s:Shared) (u:Value),BindsTo s fd ⟨[u],[]⟩ [(x,u)]) /\
       ∀ base:Heap,(K w.params).In base->base.Ns mainGlobals mg->FnOk l.prog w (K w.params) mg base (CX w) k fa fd [x] (sp w))
   (hsp:∀ (w:World) (H:Hp) (a:Addr) (ns:List Int),ns.length<=n->Ni H->SqL (K w.params) H a (ns.map V.int)->sp w [.ref a] H (fun v _=>v=.bl true) fun _ _ _=>False)
   (hCX:∀ (w:World) (H:Hp) (s:Shared) (e:Value) (s':Shared),CX w [] H s (fun _ _ _=>False) e s'->False) :
   PySem.W.WalkO q loose XP YP l.row.toRowW d [] (fun f vs=>PySem.call f vs):=by
 refine Att.attach_call hn hdf fun w s₀ s₁ mg mb fa o pm cd doc a vs ns G Y ho hd hcd hmg hobj hints hlen hg=>?_;have KX:=hY w _ Y;obtain ⟨fd,hb,hF⟩:=F w mg fa _ KX G.T.g hmg;exact Mp KX G.T.g G.T.b G.T.builtins G.T.nolimit hg hobj hints (Nat.le_trans hlen hn2) hr hF hb (fun H hO hS=>hsp w H a ns hlen hO hS) fun H e s'=>hCX w H s₁ e s'
end L2
namespace L2
open PySem PySem.Spec PyProof.Rows
def GF (s:Stmt) (j:Nat):Stmt:=match s with
 | .ClassDef _ _ _ body _ _ _ _ _ _ _=>body.getD j (.Pass ⟨0,0,0,0⟩)
 | _=>.Pass ⟨0,0,0,0⟩
def aD (s:Stmt):Arguments:=match s with
 | .FunctionDef _ a _ _ _ _ _ _ _ _=>a
 | _=>{ posonlyargs:=[],args:=[],vararg:=none,kwonlyargs:=[],kw_defaults:=[],kwarg:=none,defaults:=[] }
def az (s:Stmt):List Stmt:=match s with
 | .FunctionDef _ _ b _ _ _ _ _ _ _=>b
 | _=>[]
def aa (s:Stmt):Scope:=match s with
 | .FunctionDef _ _ _ _ _ _ sc _ _ _=>sc
 | _=>{ kind:=.function,names:=[],isGenerator:=false,isCoroutine:=false }
abbrev CX0:CXT:=fun _ _ _ _ _ _=>False
abbrev E0:XK:=fun _ _ _=>False
structure Fun (K:PySem.W.Frag) (x qual:Str) (st:Stmt) (f:Addr) (fd:FuncData):Prop where
 ex:∃ (oc:Value) (od:Option Addr) (kV doc pm:Value) (an:Option Addr) (cdv ct:Value) (osl:Array (Option Value)),
   fd=PySem.W.fnOf x qual (aD st) (az st) (aa st) .none kV doc pm an cdv ct/\K.lookup f=some ⟨oc,od,.func fd,osl⟩/\PySem.W.codeIn K cdv qual=true
 kp:PySem.W.keepIn K (.ref f)=true
section
variable {P:Program} {w:World} {K:PySem.W.Frag} {mg:Str->Option Value} {base:Heap}
theorem Fun.binds {x qual:Str} {st:Stmt} {f:Addr} {fd:FuncData} {ps:List Str} (F:Fun K x qual st f fd)
   (h:∀ (kV doc pm:Value) (an:Option Addr) (cdv ct:Value) (us:List Value),us.length=ps.length->bindArgs (PySem.W.fnOf x qual (aD st) (az st) (aa st) .none kV doc pm an cdv ct) ⟨us,[]⟩=pure (ps.zip us)):Binds K fd ps []:=by
 obtain ⟨oc,od,kV,doc,pm,an,cdv,ct,osl,rfl,lk,hcd⟩:=F.ex;exact .all (h kV doc pm an cdv ct)
theorem aQ {x qual:Str} {st:Stmt} {f:Addr} {oc:Value} {od an:Option Addr} {osl:Array (Option Value)} {kV doc pm cdv ct:Value} (l:K.lookup f=some ⟨oc,od,.func (PySem.W.fnOf x qual (aD st) (az st) (aa st) .none kV doc pm an cdv ct),osl⟩)
   (c:PySem.W.codeIn K cdv qual=true) (k:PySem.W.keepIn K (.ref f)=true):Fun K x qual st f (PySem.W.fnOf x qual (aD st) (az st) (aa st) .none kV doc pm an cdv ct):=⟨⟨oc,od,kV,doc,pm,an,cdv,ct,osl,rfl,l,c⟩,k⟩
end
theorem DC {A:Around} {k:Nat} (hr:Room k A):A.units+1<cLine:=Nat.lt_of_le_of_lt (Nat.add_le_add_left (by decide:1<=64) _) hr.units
section
variable {X:Cx}
theorem pv (i:Nat) {x:Str} {pos:Pos} (hN:X.N[i]?=some x:=by rfl) (hv:Vis X.env.scope x:=by first|exact Or.inl rfl|exact Or.inr (Or.inl rfl)|exact Or.inr (Or.inr rfl)) (hd:(x == ("__debug__":Str))=false:=by decide)
   (hcd:(x == ("__classdict__":Str))=false:=by decide):PE X (.Name x pos) (B8 i):=Ed hN hv hd hcd
end
theorem Q9 {A B:Prop} (h:B):if false=true then A else B:=by
 rw [if_neg Bool.false_ne_true];exact h
theorem Rq {A B:Prop} (h:A):if true=true then A else B:=by
 rw [if_pos rfl];exact h
def Same (H H':Hp):Prop:=∀ b o,H b=some o->H' b=some o
theorem Same.refl (H:Hp):Same H H:=fun _ _ h=>h
theorem Same.trans {H H1 H2:Hp} (a:Same H H1) (b:Same H1 H2):Same H H2:=fun c o h=>b c o (a c o h)
theorem Same.free {H H':Hp} (e:Same H H') {l:Addr} (h:H' l=Option.none):H l=Option.none:=by
 cases q:H l with
 | none=>rfl
 | some o =>
   rw [e l o q] at h;cases h
theorem Same.seq {K:PySem.W.Frag} {H H':Hp} {a:Addr} {xs:List V} (e:Same H H') (h:SqL K H a xs):SqL K H' a xs:=by
 rcases h with (h|⟨o,h⟩)|h
 . exact .inl (.inl (e _ _ h))
 . exact .inl (.inr ⟨o,e _ _ h⟩)
 . exact .inr h
end L2
namespace L2
open PySem PySem.Spec PyProof.Rows
section
variable {X:Cx}
theorem JT:lV X (.builtin "len") (fun xs H Q=>∃ a kvs,xs=[V.ref a]/\H a=some (.dK kvs)/\Q (.int kvs.length) H):=by
 intro pins s σ H xs us Q I r h;obtain ⟨a,kvs,rfl,ha,q⟩:=h;obtain ⟨u,rfl,ru⟩:=tS r;cases ru;exact QY I (.inl ha) fun t s' I'=>⟨.int kvs.length,H,I',⟨t,rfl⟩,q⟩
end
section
variable {κ:Type} [DecidableEq κ]
end
end L2
set_option Elab.async false
set_option linter.all false
set_option maxRecDepth 100000
namespace L2
open PySem PySem.Spec PyProof.Rows
def Cx.comp (X:Cx) (Nc:List Str) (scope:Scope) (cl:List (Str × Addr)) (C:Addr) (s₂:Shared) (H₁:Hp) (fp:List Addr):Cx where
 prog:=X.prog
 w:=X.w
 K:=X.K
 mg:=X.mg
 base:=X.base
 A:=X.A
 N:=Nc
 s₀:=s₂
 H₀:=H₁
 env:=compEnvC scope cl C X.env
 outer:=X.stack
 stack:=X.stack
 ex:=fp
 fn:=fun _=>false
 calm:=X.calm
 pn:=[]
 xe:=fun _ _=>False
structure CompTxt (X:Cx) (Nc:List Str) (own:Nat) (js:List Nat) (scope:Scope) (cl:List (Str × Addr)):Prop where
 clos:closureFor scope X.env=pure cl
 kind:scope.kind=.function
 nocell:∀ y∈scope.names,y.2≠.cell
 names:∀ y∈scope.names,y.2=.local->scope.names.lookup y.1=some .local
 cells:∀ x c,cl.lookup x=some c->X.env.cells.lookup x=some c
 has:∀ x,((relabel scope X.env).names.lookup x=some .cell\/(relabel scope X.env).names.lookup x=some .free)->∃ c,cl.lookup x=some c
 len:Nc.length=own+js.length
 outer:∀ i x,Nc[own+i]?=some x->∃ j,js[i]?=some j/\X.N[j]?=some x/\X.env.scope.names.lookup x=some .cell/\(relabel scope X.env).names.lookup x=some .cell
def hW (own:Nat) (js:List Nat) (σ:St):St:=List.replicate own none++js.map fun j=>(σ[j]?).getD none
def HF (own:Nat) (js:List Nat) (wi:TI) (g:TG) (tc:TT) (te:TE):TE:=fun σ H Q=>wi σ H fun J H1=>∀ p,H1 p=none ->
 ∃ W:Nat->Nat->List V->St->Hp->Prop,(∃ m,W 0 m [] (hW own js σ) (upd H1 p (.lst [])))/\∀ i m ys σc Hc,W i m ys σc Hc ->
   (J.stop i Hc/\Q (.ref p) Hc)\/(J.go i Hc/\∀ x H',J.yld i Hc x H'->g x σc H' fun σ2 H2=>tc σ2 H2 fun b H3 =>
     if b=true then te σ2 H3 fun y H4=>H4 p=some (.lst ys)/\ys.length<sizeLine/\∃ m',m'<m/\W (i+1) m' (ys++[y]) σ2 (upd H4 p (.lst (ys++[y])))
     else ∃ m',m'<m/\W (i+1) m' ys σ2 H3)
def PTs (X:Cx) (ifs:List Expr) (t:TT):Prop :=
 ∀ (pins:List (Addr × Obj)) (s:Shared) (σ:St) (H:Hp) (Q:Bool->Hp->Prop),Inv X pins σ H s->t σ H Q ->
   wpAny (model X.prog X.w) X.A (forIn ifs true fun c r=>if r=true then do let ok <- isTrue c X.env (eval c X.env);pure (ForInStep.yield ok) else pure (ForInStep.yield r)) (TP X pins σ Q) X.xe s
def tYes:TT:=fun _ H Q=>Q true H
theorem oJ {X:Cx}:PTs X [] tYes:=fun pins s σ H Q I h=>wpAny_tests_nil ⟨H,I,h⟩
theorem Bq {X:Cx} {c:Expr} {t:TT} (h:PT X c t):PTs X [c] t:=fun pins s σ H Q I q=>wpAny_tests_one (h pins s σ H Q I q)
section
variable {prog:Program} {w:World} {A:Around} {E:Value->Shared->Prop} {R:Result->Shared->Prop} {s:Shared}
theorem yB {elt target iter:Expr} {ifs:List Expr} {scope:Scope} {pos:Pos} {it acc:Value} {env:Env} (I:Nat->Shared->Prop)
   (turn:∀ n s,I n s->wpAny (model prog w) A (pyNext it) (fun r s₁=>match r with
     | none=>R (.ok .next) s₁
     | some v=>wpAny (model prog w) A (letOwnedTupleGo target it v) (fun _ s₁'=>wpAny (model prog w) A (assign target env v) (fun _ s₂ =>
         wpAny (model prog w) A (forIn ifs true fun c r=>if r=true then do let ok <- isTrue c env (eval c env);pure (ForInStep.yield ok) else pure (ForInStep.yield r)) (fun ok s₃ =>
           if ok=true then wpAny (model prog w) A (eval elt env) (fun x s₄ =>
             wpAny (model prog w) A (call (.builtin "list.append") [acc,x]) (fun _ s₅=>∃ m,m<n/\I m s₅) (fun _ _=>False) s₄) (fun _ _=>False) s₃
           else ∃ m,m<n/\I m s₃) (fun _ _=>False) s₂) (fun _ _=>False) s₁') (fun _ _=>False) s₁) (fun _ _=>False) s)
   (n:Nat) (h:I n s) :
   codeAny (model prog w) A (.compLoop (.ListComp elt [⟨target,iter,ifs,0⟩] scope pos) 0 it acc env) R s:=by
 refine codeAny_loop rfl I (fun n s hI=>?_) n h;show wpAny _ A ((compTurn (.ListComp elt [⟨target,iter,ifs,0⟩] scope pos) 0 it acc env).onRaise (fun x=>do noteFrame x env;theTreesLotGoes x)) _ _ s;refine wpAny_noted ?_;rw [compTurn_list];refine wpAny_bind (wpAny_standAt (wpAny_bind (wpAny_mono (turn n s hI) (fun r s₁ h₁=>?_) fun _ _ h'=>h'.elim)));cases r with
 | none=>exact wpAny_pure h₁
 | some v =>
   refine wpAny_bind (wpAny_mono h₁ (fun _ s₁' h₁'=>?_) fun _ _ h'=>h'.elim);refine wpAny_bind (wpAny_mono h₁' (fun _ s₂ h₂=>wpAny_bind (wpAny_mono h₂ (fun ok s₃ h₃=>?_) fun _ _ h'=>h'.elim)) fun _ _ h'=>h'.elim);cases ok with
   | true =>
     rw [if_pos rfl] at h₃;simp only [if_true];exact wpAny_bind (wpAny_bind (wpAny_mono h₃ (fun x s₄ h₄=>wpAny_bind (wpAny_mono h₄ (fun _ s₅ h₅=>wpAny_pure (wpAny_pure ⟨rfl,h₅⟩)) fun _ _ h'=>h'.elim)) fun _ _ h'=>h'.elim))
   | false =>
     rw [if_neg Bool.false_ne_true] at h₃;simp only [Bool.false_eq_true,if_false]
     first
       | exact wpAny_pure ⟨rfl,h₃⟩
       | exact wpAny_bind (wpAny_pure (wpAny_pure ⟨rfl,h₃⟩))
end
end L2
set_option Elab.async false
set_option linter.all false
set_option maxRecDepth 100000
namespace L2
open PySem PySem.Spec PyProof.Rows
section
variable {X:Cx} {Nc:List Str} {own:Nat} {js:List Nat} {scope:Scope} {cl:List (Str × Addr)}
theorem B5 {pins:List (Addr × Obj)} {σ:St} {H₁:Hp} {s₂:Shared} {C:Addr} {fp:List Addr} (T:CompTxt X Nc own js scope cl) (I:Inv X pins σ H₁ s₂) (hC:s₂.heap.objs.size<=C)
   (f1:∀ b∈fp,kJ X pins H₁ b) (hlt:∀ b∈fp,b<s₂.heap.objs.size):(X.comp Nc scope cl C s₂ H₁ fp).Ok where
 mod:=I.ok.mod
 kind:=by show (relabel scope X.env).kind=_;exact T.kind
 glob:=I.ok.glob
 blt:=I.ok.blt
 above:=hC
 inj:=fun x y c h1 h2=>I.ok.inj x y c (T.cells x c h1) (T.cells y c h2)
 has:=fun x h=>T.has x h
 cab:=fun x c h=>by cases h
 hd:=I.ok.hd
 frames:=I.ok.frames
 stk:=.inl rfl
 exf:=fun b hb=>⟨Nat.ne_of_lt (Nat.lt_of_lt_of_le (hlt b hb) hC),fun x c h=>(f1 b hb).2.2.2.2.1 x c (T.cells x c h)⟩
 bs:=I.bs
 bsz:=Nat.le_trans I.ok.bsz I.sz
 noex:=fun b o e hb=>by
   rcases (f1 b hb).2.2.2.1 with z|z
   . exact I.ok.noex b o e z
   . exact absurd (Nat.lt_of_lt_of_le (Heap.lt_size (I.ok.bs b o e).1) z) (Nat.lt_irrefl _)
 exfs:=fun b hb hs=>by
   rcases List.mem_cons.mp (I.stkSub b hs) with z|z
   . exact (f1 b hb).2.1 z
   . exact (f1 b hb).2.2.1 z
 funs:=I.stack
 frf:=I.stkFree
theorem Fj {pins:List (Addr × Obj)} {σ:St} {H₁:Hp} {s₂:Shared} {C D:Addr} {fp:List Addr} {h₁:Heap} {t:Nat} {m:Str->Option Value} (T:CompTxt X Nc own js scope cl) (I:Inv X pins σ H₁ s₂) (hC:s₂.heap.objs.size<=C)
   (hD:s₂.heap.objs.size<=D) (hDC:D≠C) (f1:∀ b∈fp,kJ X pins H₁ b) (hlt:∀ b∈fp,b<s₂.heap.objs.size) (old:∀ b o,s₂.heap.get? b=some o->h₁.get? b=some o) (hns:h₁.Ns C m)
   (hacc:∃ n,h₁.get? D=some { cls:=.type "list",data:=.seq ([]:List Value).toArray n }) :
   Inv (X.comp Nc scope cl C s₂ H₁ fp) [] (hW own js σ) (upd H₁ D (.lst [])) { s₂ with heap:=h₁,toks:=t }:=by
 obtain ⟨na,hacc⟩:=hacc;have cellK:∀ c v,s₂.heap.IsCell c v->h₁.IsCell c v:=fun c v ⟨o,ho,hd⟩=>⟨o,old c o ho,hd⟩;refine ⟨B5 T I hC f1 hlt,rfl,I.bare,Un.laid old hD (I.hok.fresh hD),⟨m,hns,fun i x v e1 e2 e3=>?_⟩,fun x c e=>?_,?_,fun x c e=>?_,fun p hp=>(by cases hp),I.hok.laid old hD ?_,?_⟩
 . have hN:Nc[i]?=some x:=e1;have hσ:(hW own js σ)[i]?=some (some v):=e2;unfold hW at hσ;by_cases hi:i<own
   . rw [List.getElem?_append_left (by simpa using hi),List.getElem?_replicate] at hσ;simp [hi] at hσ
   . obtain ⟨k,rfl⟩:∃ k,i=own+k:=⟨i - own,by omega⟩;rw [List.getElem?_append_right (by simp)] at hσ;simp only [List.length_replicate,Nat.add_sub_cancel_left,List.getElem?_map] at hσ;obtain ⟨j,hj,hx,hk,hr⟩:=T.outer k x hN;rw [hj] at hσ;replace hσ:some (σ[j]?.getD none)=some (some v):=hσ;have hσj:σ[j]?=some (some v):=by
       cases q:σ[j]? with
       | none=>rw [q] at hσ;simp at hσ
       | some y=>rw [q] at hσ;simpa using hσ
     obtain ⟨m0,hn0,hl0⟩:=I.loc;obtain ⟨u,ru,lk⟩:=hl0 j x v hx hσj (.inr (.inl hk));refine ⟨u,ru,.inr ⟨.inl hr,?_⟩⟩;rcases lk with ⟨z,_⟩|⟨_,c,hc,hcell⟩
     . have z':X.env.scope.names.lookup x=some .local:=z;rw [hk] at z';cases z'
     . obtain ⟨c',hc'⟩:=T.has x (.inl hr);have:=T.cells x c' hc';rw [hc] at this;cases this;exact ⟨c,hc',cellK c _ hcell⟩
 . obtain ⟨v,z⟩:=I.cell x c (T.cells x c e);exact ⟨v,cellK c v z⟩
 . show upd H₁ D (.lst []) C=none;rw [ap (Ne.symm hDC)];exact I.hok.fresh hC
 . have e':=T.cells x c e;obtain ⟨v,o,ho,_⟩:=I.cell x c e';rw [ap (Nat.ne_of_lt (Nat.lt_of_lt_of_le (Heap.lt_size ho) hD))];exact I.freeC x c e'
 . exact ⟨Nat.zero_le _,[],na,.nil,hacc⟩
 . show (hW own js σ).length=Nc.length;rw [T.len];simp [hW]
theorem CK {pins:List (Addr × Obj)} {σ σc:St} {H₁ H':Hp} {s₂ s':Shared} {C:Addr} {fp:List Addr} {h':Heap} (I:Inv X pins σ H₁ s₂) (hC:s₂.heap.objs.size<=C)
   (f1:∀ b∈fp,kJ X pins H₁ b) (I':Inv (X.comp Nc scope cl C s₂ H₁ fp) [] σc H' s') (hs:Heap.SameBut C s'.heap h'):Inv X pins σ H' { s' with heap:=h' }:=by
 have u:Un (frs X.stack) fp H₁ H' s₂.heap s'.heap:=I'.base;have ne:∀ b o,s₂.heap.get? b=some o->b≠C:=fun b o e=>Nat.ne_of_lt (Nat.lt_of_lt_of_le (Heap.lt_size e) hC);have k:∀ b o,b≠C->s'.heap.get? b=some o->h'.get? b=some o:=fun b o n e=>hs.extBut b o n e;have u':Un (frs X.stack) fp H₁ H' s₂.heap h':=⟨fun b o e n hb hx=>k b o (ne b o e) (u.keep b o e n hb hx),fun b o e n hb hx=>let ⟨sl,q⟩:=u.slot b o e n hb hx;⟨sl,k b _ (ne b o e) q⟩,
   u.free,fun b o e hx=>let ⟨o',q⟩:=u.there b o e hx;⟨o',k b o' (ne b o e) q⟩,u.tups,u.frzs,u.tbls⟩
 have hfree:H' C=none:=I'.free;have hok':HOk X.prog X.w H' h':=fun a o e=>(I'.hok a o e).stay (fun b v hb q=>k b v (fun z=>by
   rcases hb with y|y
   . rw [y] at z;rw [z,hfree] at e;cases e
   . rw [z,hfree] at y;cases y) q) (fun _ q=>q) fun _ _ q=>q
 exact I.call' (s':={ s' with heap:=h' }) (ch:=fp) I'.os u' hok' I'.bare fun b hb=>⟨(f1 b hb).2.2.2.1,(f1 b hb).2.1,(f1 b hb).2.2.2.2.1,(f1 b hb).2.2.2.2.2⟩
theorem mF {elt target iter:Expr} {ifs:List Expr} {pos:Pos} {wi:TI} {g:TG} {tc:TT} {te:TE} (hc:X.calm=true) (T:CompTxt X Nc own js scope cl)
   (hi:PI X target iter wi) (hg:∀ C s₂ H₁ fp,PG (X.comp Nc scope cl C s₂ H₁ fp) target g) (ht:∀ C s₂ H₁ fp,PTs (X.comp Nc scope cl C s₂ H₁ fp) ifs tc)
   (he:∀ C s₂ H₁ fp,PE (X.comp Nc scope cl C s₂ H₁ fp) elt te) (hs:∀ x,foldedSetIterable iter X.env x=pure x:=by intro _;rfl) :
   PE X (.ListComp elt [⟨target,iter,ifs,0⟩] scope pos) (HF own js wi g tc te):=by
 intro pins s σ H Q I h;rw [eval_ListComp];refine wpAny_comprehension_free (use:=none) rfl hs T.clos T.kind T.names (thn (hi pins s σ H _ I h) fun v s1 h1=>thn h1 fun itv s2 h2=>?_);obtain ⟨it,fp,tn,J,H1,rfl,I1,Tn,st,f1,R⟩:=h2;have hfp:∀ b∈fp,b<s2.heap.objs.size:=fun b hb=>let ⟨o,e,_⟩:=Tn.obj _ _ st b hb;Heap.lt_size e;refine wpAny_newObj_type (wpAny_newFunctionEnv T.nocell (by intro y hy;simp at hy) (fun h₁ hns₁ hsb₁=>?_) T.kind);dsimp only at hns₁ hsb₁ ⊢;generalize hH2:s2.heap.push { cls:=.type "list",dict:=none,data:=.seq ([]:List Value).toArray }=H2 at hns₁ hsb₁ ⊢;have hC:H2.objs.size=s2.heap.objs.size+1:=by rw [<- hH2,Heap.size_push]
 have hDC:s2.heap.objs.size≠H2.objs.size:=by rw [hC];exact Nat.ne_of_lt (Nat.lt_succ_self _)
 have hCle:s2.heap.objs.size<=H2.objs.size:=by rw [hC];exact Nat.le_succ _
 have below:∀ b,b<s2.heap.objs.size->b≠H2.objs.size:=fun b hb=>by rw [hC];exact Nat.ne_of_lt (Nat.lt_succ_of_lt hb)
 have old:∀ b o,s2.heap.get? b=some o->h₁.get? b=some o:=fun b o e=>hsb₁.extBut b o (below b (Heap.lt_size e)) (Heap.get?_push_of_some _ (hH2 ▸ Heap.get?_push_of_some _ e));have hacc:∃ n,h₁.get? s2.heap.objs.size=some { cls:=.type "list",data:=.seq ([]:List Value).toArray n }:=⟨_,hsb₁.extBut _ _ hDC (Heap.get?_push_of_some _ (hH2 ▸ Heap.get?_push_size _ rfl))⟩;have st₁:tn 0 h₁:=Tn.keep _ _ _ st fun b _ o e=>old b o e;obtain ⟨W,⟨m0,w0⟩,turn⟩:=R s2.heap.objs.size I1.fresh;have Ic:=Fj (t:=s2.toks+([]:List (Str × Value)).length) T I1 hCle (Nat.le_refl _) hDC f1 hfp old hns₁ hacc;generalize hXc:X.comp Nc scope cl H2.objs.size s2 H1 fp=Xc at Ic;have stat:∀ {H':Hp},(∀ b∈fp,H' b=none)->∀ b∈fp,kJ Xc [] H' b:=fun {H'} hn b hb=>by
   subst hXc;exact ⟨hn b hb,below b (hfp b hb),(B5 T I1 hCle f1 hfp).exfs b hb,.inl hb,fun x c e=>(f1 b hb).2.2.2.2.1 x c (T.cells x c e),fun p hp=>by cases hp⟩
 have fr0:∀ b∈fp,upd H1 s2.heap.objs.size (.lst []) b=none:=fun b hb=>by
   rw [ap (Nat.ne_of_lt (hfp b hb))];exact (f1 b hb).1
 have calmc:Xc.calm=true:=by subst hXc;exact hc
 have loop:∀ s₃:Shared,s₃={ s2 with heap:=h₁,toks:=s2.toks+([]:List (Str × Value)).length } ->
     codeAny (model X.prog X.w) X.A (.compLoop (.ListComp elt [⟨target,iter,ifs,0⟩] scope pos) 0 (.ref it) (.ref s2.heap.objs.size) (compEnvC scope cl H2.objs.size X.env))
       (compPost (model X.prog X.w) X.A X.xe none (EP X pins σ Q) (.ref s2.heap.objs.size) H2.objs.size) s₃:=by
   rintro s₃ rfl;refine yB (fun n s'=>∃ i ys σ' H',Inv Xc [] σ' H' s'/\tn i s'.heap/\(∀ b∈fp,H' b=none)/\W i n ys σ' H') ?_ m0 ⟨0,[],_,_,Ic,st₁,fr0,w0⟩;rintro n s3 ⟨i,ys,σ3,H3,I3,st3,fr3,w3⟩;rcases turn i n ys σ3 H3 w3 with ⟨stop,q⟩|⟨go,step⟩
   . subst hXc;refine thn (Tn.done (X.comp Nc scope cl H2.objs.size s2 H1 fp) rfl rfl rfl hc i [] s3 σ3 H3 _ I3 (stat fr3) st3 stop) fun r s4 ⟨hr,I4⟩=>?_;subst hr;obtain ⟨m4,hn4,_⟩:=id I4.loc;exact ⟨m4,hn4,fun h' hs'=>⟨.ref s2.heap.objs.size,H3,CK I1 hCle f1 I4 hs',rfl,q⟩⟩
   . subst hXc;refine thn (Tn.item (X.comp Nc scope cl H2.objs.size s2 H1 fp) rfl rfl rfl hc i [] s3 σ3 H3 _ I3 (stat fr3) st3 go) fun r s4 ⟨u,hr,h4⟩=>?_;subst hr;refine thn h4 fun _ s5 ⟨x,H5,I5,r5,y5,st5,fr5⟩=>?_;have I5':=I5.pinned (stat fr5) (Tn.obj _ _ st5);have back:∀ {σ7:St} {H7:Hp} {s7:Shared},Inv (X.comp Nc scope cl H2.objs.size s2 H1 fp) ([]++se fp s5.heap) σ7 H7 s7->Inv (X.comp Nc scope cl H2.objs.size s2 H1 fp) [] σ7 H7 s7/\tn (i+1) s7.heap/\∀ b∈fp,H7 b=none:=fun {σ7 H7 s7} I7=>by
       refine ⟨I7.unpinned,Tn.keep _ _ _ st5 fun b hb o e=>(I7.pin (b,o) (List.mem_append_right _ (List.mem_append_right _ (jL hb e)))).1,fun b hb=>?_⟩;obtain ⟨o,e,d⟩:=Tn.obj _ _ st5 b hb;exact (I7.pin (b,o) (List.mem_append_right _ (List.mem_append_right _ (jL hb e)))).2.1
     refine thn (hg _ _ _ _ _ s5 σ3 H5 x u _ I5' r5 (step x H5 y5)) fun _ s6 ⟨σ6,H6,I6,q6⟩=>?_;refine Cl (ht _ _ _ _ _ s6 σ6 H6 _ I6 q6) fun ok s7 H7 I7 q7=>?_;cases ok with
     | false =>
       rw [if_neg Bool.false_ne_true] at q7 ⊢;obtain ⟨m',hm,w7⟩:=q7;obtain ⟨J1,J2,J3⟩:=back I7;exact ⟨m',hm,i+1,ys,σ6,H7,J1,J2,J3,w7⟩
     | true =>
       rw [if_pos rfl] at q7 ⊢;refine bg (he _ _ _ _ _ s7 σ6 H7 _ I7 q7) fun y s8 yv H8 I8 r8 ⟨hp8,hl8,m',hm,w8⟩=>?_;refine thn (fb _ s8 σ6 H8 (.ref s2.heap.objs.size) [yv] _ [y] (fun v' H'=>W (i+1) m' (ys++[yv]) σ6 H') I8 rfl (.cons r8 .nil) ⟨_,ys,yv,rfl,rfl,hp8,hl8,w8⟩) fun v9 s9 ⟨_,H9,I9,_,w9⟩=>?_;obtain ⟨J1,J2,J3⟩:=back I9;exact ⟨m',hm,i+1,ys++[yv],σ6,H9,J1,J2,J3,w9⟩
 exact codeAny_compStart_list (loop _ rfl) (Tn.self _ 0 _ _ _ st₁ (loop _ rfl))
end
end L2
set_option Elab.async false
set_option linter.all false
set_option maxRecDepth 100000
namespace L2
open PySem PySem.Spec PyProof.Rows
section
variable {X:Cx}
def Pi (K:PySem.W.Frag):List V->Hp->VK->Prop:=fun xs H Q=>∃ x c t b,xs=[x,c]/\TyOf K H x t/\(∀ cv,RelV c cv->PySem.W.kitOne K t cv=some b)/\Q (.bl b) H
theorem yq:lV X (.builtin "isinstance") (Pi X.K):=by
 intro pins s σ H xs us Q I r h;obtain ⟨x,c,t,b,rfl,ty,hk,q⟩:=h;obtain ⟨u,cv,rfl,ru,rc⟩:=Ov r;exact JW I ru ty (hk cv rc) fun tk=>⟨.bl b,H,I.tok tk,rfl,q⟩
theorem Ob (hc:X.calm=true):lV X (.builtin "all") (fun xs H Q=>∃ (p:Addr) (bs:List Bool),xs=[.ref p]/\SqL X.K H p (bs.map V.bl)/\Q (.bl (bs.all id)) H):=by
 intro pins s σ H xs us Q I r h;obtain ⟨p,bs,rfl,hp,q⟩:=h;obtain ⟨u,rfl,ru⟩:=tS r;cases ru;obtain ⟨its,rv,pl,hz⟩:=I.list hp;have hl:=pl.isList;have hlt:=pl.lt;have hh:X.A.in1.handled=none:=I.ok.hd hc;have hlen:its.length=bs.length:=by rw [<- rv.length,List.length_map]
 refine call_all_walk (wpAny_pyIter_list hl ?_);refine ⟨s.heap.objs.size,[s.heap.objs.size,p],[s.heap.objs.size],its.toArray.size,_,_,fun i=>(bs[i]?).getD true,rfl,Walks.list (A:=X.A.in1) hh _ p (Nat.ne_of_lt hlt) its.toArray,
   ⟨⟨_,Heap.get?_push_size _ rfl,rfl,rfl⟩,hl.push _⟩,fun i v s' Q' E' hP hQ=>?_,fun h' tk hk=>?_⟩
 . have hi:its[i]?=some v:=by simpa using hP
   have hib:i<bs.length:=by rw [<- hlen];exact (List.getElem?_eq_some_iff.mp hi).1
   obtain ⟨u,hu,ru⟩:=rv.get (i:=i) (x:=V.bl bs[i]) (by rw [List.getElem?_map,List.getElem?_eq_getElem hib];rfl);rw [hi] at hu;cases hu;cases ru;replace hQ:Q' (bs[i]?.getD true) s':=hQ;rw [List.getElem?_eq_getElem hib] at hQ;exact wpAny_truthy_bool hQ
 . have e:((List.range its.toArray.size).all fun i=>(bs[i]?).getD true)=bs.all id:=by
     rw [List.size_toArray,hlen];rw [Bool.eq_iff_iff,List.all_eq_true,List.all_eq_true]
     constructor
     . intro z b hb;obtain ⟨i,hi,rfl⟩:=List.getElem_of_mem hb;have:=z i (List.mem_range.mpr hi);rw [List.getElem?_eq_getElem hi] at this;exact this
     . intro z i hi;have hi':=List.mem_range.mp hi;rw [List.getElem?_eq_getElem hi'];exact z _ (List.getElem_mem hi')
   have kk:∀ b o,s.heap.get? b=some o->h'.get? b=some o:=fun b o eb=>hk b o (fun hm=>by rw [List.mem_singleton.mp hm] at eb;exact Nat.lt_irrefl _ (Heap.lt_size eb)) (Heap.get?_push_of_some _ eb);rw [e];exact ⟨.bl _,H,I.kept (t':=tk) kk,rfl,q⟩
end
mutual
inductive Deep (K:PySem.W.Frag) (H:Hp):V->PyData->Prop
 | non:Deep K H .non .none
 | bl (b:Bool):Deep K H (.bl b) (.bool b)
 | int (i:Int):Deep K H (.int i) (.int i)
 | str {x:Str}:PyData.canLay0 (.str x)=true->Deep K H (.str x) (.str x)
 | lst {a:Addr} {xs:List V} {ds:List PyData}:SqL K H a xs->DeepAll K H xs ds->Deep K H (.ref a) (.list ds)
 | tup {a:Addr} {xs:List V} {ds:List PyData}:SqT K H a xs->DeepAll K H xs ds->Deep K H (.ref a) (.tuple ds)
inductive DeepAll (K:PySem.W.Frag) (H:Hp):List V->List PyData->Prop
 | nil:DeepAll K H [] []
 | cons {x:V} {d:PyData} {xs:List V} {ds:List PyData}:Deep K H x d->DeepAll K H xs ds->DeepAll K H (x::xs) (d::ds)
end
mutual
theorem Deep.reads {X:Cx} {pins:List (Addr × Obj)} {σ:St} {H:Hp} {s:Shared} (I:Inv X pins σ H s):∀ {x:V} {d:PyData} {u:Value},Deep X.K H x d->RelV x u->(∃ as,Reads s.heap u d as)/\d.canLay0=true
 | _,_,_,.non,r=>by cases (show _=Value.none from r);exact ⟨⟨_,.none⟩,by simp [PyData.canLay0]⟩
 | _,_,_,.bl b,r=>by cases (show _=Value.bool b from r);exact ⟨⟨_,.bool b⟩,by simp [PyData.canLay0]⟩
 | _,_,_,.int i,r=>by obtain ⟨t,e⟩:=(show ∃ t,_=Value.int i t from r);cases e;exact ⟨⟨_,.int i t⟩,by simp [PyData.canLay0]⟩
 | _,_,_,.str (x:=x) h,r=>by obtain ⟨t,e⟩:=(show ∃ t,_=Value.str x t from r);cases e;exact ⟨⟨_,.str x t⟩,h⟩
 | _,_,_,.lst (a:=a) h hs,r=>by
   cases (show _=Value.ref a from r);obtain ⟨its,rv,⟨o,n,e,c,_,dd⟩,hz⟩:=I.list h;obtain ⟨⟨as,ra⟩,cl⟩:=DeepAll.reads I hs rv;exact ⟨⟨_,.list e c dd (by simpa using ra)⟩,by simpa [PyData.canLay0] using cl⟩
 | _,_,_,.tup (a:=a) h hs,r=>by
   cases (show _=Value.ref a from r);obtain ⟨its,rv,⟨o,e,c,n,dd⟩,hz⟩:=I.tuple h;obtain ⟨⟨as,ra⟩,cl⟩:=DeepAll.reads I hs rv;exact ⟨⟨_,.tuple e c dd (by simpa using ra)⟩,by simpa [PyData.canLay0] using cl⟩
theorem DeepAll.reads {X:Cx} {pins:List (Addr × Obj)} {σ:St} {H:Hp} {s:Shared} (I:Inv X pins σ H s):∀ {xs:List V} {ds:List PyData} {us:List Value},DeepAll X.K H xs ds->Vals xs us->(∃ as,ReadsAll s.heap us ds as)/\PyData.canLayAll0 ds=true
 | _,_,_,.nil,.nil=>⟨⟨_,.nil⟩,by simp [PyData.canLayAll0]⟩
 | _,_,_,.cons h hs,.cons r rs=>by
   obtain ⟨⟨as,ra⟩,c1⟩:=Deep.reads I h r;obtain ⟨⟨bs,rb⟩,c2⟩:=DeepAll.reads I hs rs;exact ⟨⟨_,.cons ra rb⟩,by simp [PyData.canLayAll0,c1,c2]⟩
end
section
variable {X:Cx}
def QE (K:PySem.W.Frag):R2:=fun x y H Q=>∃ d e,Deep K H x d/\Deep K H y e/\d.depth<=40/\Q (.bl (!PyData.eqv d e)) H
theorem P2 (hu:X.A.units+64<cLine):OpR X (compareOp .NotEq) (QE X.K):=by
 intro pins s σ H x y v u Q I rx ry h;obtain ⟨d,e,hd,he,hp,q⟩:=h;obtain ⟨⟨as,ra⟩,ca⟩:=hd.reads I rx;obtain ⟨⟨bs,rb⟩,cb⟩:=he.reads I ry;exact PySem.SeqAt.compareNe_reads ra rb ca cb (by omega) ⟨.bl _,H,I,rfl,q⟩
end
end L2
set_option Elab.async false
set_option linter.all false
set_option maxRecDepth 100000
namespace L2
open PySem PySem.Spec PyProof.Rows
structure SubF (P:Program) (w:World) (l:Addr) (ob:Obj) (src:Heap->Array Value->Prop) (at':Addr->Nat->Heap->Prop):Prop where
 start:∀ (A:Around) (s:Shared) (vs:Array Value) (Q:Value->Shared->Prop) (E:Value->Shared->Prop),src s.heap vs->Q (.ref s.heap.objs.size) { s with heap:=s.heap.push ob }->wpAny (model P w) A (pyIter (.ref l)) Q E s
 first:∀ it h,h.get? it=some ob->at' it 0 h
 atK:∀ it i h h',at' it i h->(∀ o,h.get? it=some o->h'.get? it=some o)->at' it i h'
 srcK:∀ h h' vs,src h vs->(∀ o,h.get? l=some o->h'.get? l=some o)->src h' vs
 obj:∀ it i h,at' it i h->∃ o,h.get? it=some o/\∀ v,o.data≠.cell v
 item:∀ (A:Around) (s:Shared) (it:Addr) (i:Nat) (vs:Array Value) (x:Value) (Q:Value->Shared->Prop) (E:Value->Shared->Prop),at' it i s.heap->src s.heap vs->vs[i]?=some x ->
   (∀ h',at' it (i+1) h'->Heap.SameBut it s.heap h'->Q x { s with heap:=h' })->wpAny (model P w) A (Builtin.SmallTypes.nextOf (.ref it)) Q E s
 fin:∀ (A:Around) (s:Shared) (it:Addr) (i:Nat) (vs:Array Value) (Q:Value->Shared->Prop) (E:Value->Shared->Prop),A.handled=none->at' it i s.heap->src s.heap vs->vs[i]?=none ->
   (∀ h' e,Heap.ExtBut it s.heap h'->(∃ o,h'.get? e=some o/\o.cls=.type "StopIteration")->E (.ref e) { s with heap:=h' })->wpAny (model P w) A (Builtin.SmallTypes.nextOf (.ref it)) Q E s
theorem JR {P:Program} {w:World} (l:Addr):SubF P w l { cls:=.type "list_iterator",data:=.fields #[.ref l,.int 0 0] } (fun h vs=>h.IsList l vs) (fun it i h=>h.IsListIter it l i) where
 start:=fun A s vs Q E hl hq=>wpAny_pyIter_list hl hq
 first:=fun it h e=>⟨_,e,rfl,rfl⟩
 atK:=fun it i h h' x k=>x.at k
 srcK:=fun h h' vs x k=>x.at k
 obj:=fun it i h x=>by
   obtain ⟨o,ho,_,hd⟩:=x;exact ⟨o,ho,fun v z=>by rw [hd] at z;cases z⟩
 item:=fun A s it i vs x Q E ha hs hx hq=>wpAny_nextOf_list_item ha hs hx hq
 fin:=fun A s it i vs Q E hh ha hs hx hq=>wpAny_nextOf_list_end hh ha hs hx hq
section
variable {P:Program} {w:World} {A:Around} {E:Value->Shared->Prop} {s:Shared}
theorem xW {it t:Addr} {i:Nat} {vs:Array Value} {x:Value} {Q:Value->Shared->Prop} (hi:s.heap.IsTupleIter it t i) (ht:s.heap.IsTuple t vs) (hx:vs[i]?=some x)
   (hq:∀ h',h'.IsTupleIter it t (i+1)->Heap.SameBut it s.heap h'->Q x { s with heap:=h' }):wpAny (model P w) A (Builtin.SmallTypes.nextOf (.ref it)) Q E s:=by
 obtain ⟨oi,hoi,hci,hdi⟩:=id hi;obtain ⟨ot,hot,_,nt,hdt⟩:=ht;unfold Builtin.SmallTypes.nextOf;refine wpAny_bind (wpAny_callSpecial?_slot (name:=Str.ofString "__next__") hi.typeIs F.slot_tuple_iterator_next (wpAny_call_entry F.slot_tuple_iterator_next hi.typeIs F.entry_tuple_iterator_next ?_ (F.args_tuple_iterator_next_1 _)));show wpAny (model P w) _ (field (.ref it) 0 >>= _) _ _ s;refine wpAny_bind (wpAny_field hoi hdi (x:=.ref t) rfl ?_);show wpAny (model P w) _ (if (Value.ref t == Value.none)=true then _ else _) _ _ s;rw [if_neg (by exact Bool.false_ne_true)];show wpAny (model P w) _ (field (.ref it) 1 >>= _) _ _ s;refine wpAny_bind (wpAny_field hoi hdi (x:=.int i 0) rfl ?_);show wpAny (model P w) _ (seqItems? (.ref t) >>= _) _ _ s;refine wpAny_bind (wpAny_seqItems hot hdt ?_);simp only [Int.toNat_natCast,hx];refine wpAny_bind (wpAny_setField hoi hdi (by simp) (wpAny_pure ⟨x,rfl,wpAny_pure (hq _ ?_ (Heap.SameBut.update ..))⟩));exact ⟨_,Heap.get?_update_self _ hoi (Obj.isFreed_of_fields (Obj.data_mapFields hdi _)),(Obj.cls_mapFields ..).trans hci,by rw [Obj.data_mapFields hdi];simp [rawInt]⟩
theorem yQ {it t:Addr} {i:Nat} {vs:Array Value} {Q:Value->Shared->Prop} (hh:A.handled=none) (hi:s.heap.IsTupleIter it t i) (ht:s.heap.IsTuple t vs) (hx:vs[i]?=none)
   (hE:∀ h' e,Heap.ExtBut it s.heap h'->(∃ o,h'.get? e=some o/\o.cls=.type "StopIteration")->E (.ref e) { s with heap:=h' }):wpAny (model P w) A (Builtin.SmallTypes.nextOf (.ref it)) Q E s:=by
 obtain ⟨oi,hoi,hci,hdi⟩:=id hi;obtain ⟨ot,hot,_,nt,hdt⟩:=ht;unfold Builtin.SmallTypes.nextOf;refine wpAny_bind (wpAny_callSpecial?_slot (name:=Str.ofString "__next__") hi.typeIs F.slot_tuple_iterator_next (wpAny_call_entry F.slot_tuple_iterator_next hi.typeIs F.entry_tuple_iterator_next ?_ (F.args_tuple_iterator_next_1 _)));show wpAny (model P w) _ (field (.ref it) 0 >>= _) _ _ s;refine wpAny_bind (wpAny_field hoi hdi (x:=.ref t) rfl ?_);show wpAny (model P w) _ (if (Value.ref t == Value.none)=true then _ else _) _ _ s;rw [if_neg (by exact Bool.false_ne_true)];show wpAny (model P w) _ (field (.ref it) 1 >>= _) _ _ s;refine wpAny_bind (wpAny_field hoi hdi (x:=.int i 0) rfl ?_);show wpAny (model P w) _ (seqItems? (.ref t) >>= _) _ _ s;refine wpAny_bind (wpAny_seqItems hot hdt ?_);simp only [Int.toNat_natCast,hx];refine wpAny_bind (wpAny_rule (wpAny_bind (wpAny_setField hoi hdi (by simp) ?_)));show wpAny (model P w) _ (newExc (.type "StopIteration") [] >>= _) _ _ _;refine wpAny_bind ?_;simp only [newExc,newTuple];refine wpAny_bind (wpAny_newObj_type ?_ (by size_fits));refine wpAny_bind (m:=firstArgMember _ _) (wpAny_of_eq (a:=Value.none) (by first|rfl|(simp only [firstArgMember];rfl)) ?_);refine wpAny_newObj_type ?_ (by size_fits);simp only [raiseNew];refine wpAny_bind (wpAny_handled ?_)
 first|rw [show A.in1.handled=none from hh]|rw [hh]
 refine wpAny_bind (wpAny_pure (wpAny_throw ?_));exact hE _ _ (((Heap.SameBut.update ..).extBut.push _).push _) ⟨_,Heap.get?_push_size _ rfl,rfl⟩
end
theorem Od {P:Program} {w:World} (l:Addr):SubF P w l { cls:=.type "tuple_iterator",data:=.fields #[.ref l,.int 0 0] } (fun h vs=>h.IsTuple l vs) (fun it i h=>h.IsTupleIter it l i) where
 start:=fun A s vs Q E hl hq=>wpAny_pyIter_tuple hl hq
 first:=fun it h e=>⟨_,e,rfl,rfl⟩
 atK:=fun it i h h' x k=>let ⟨o,ho,r⟩:=x;⟨o,k o ho,r⟩
 srcK:=fun h h' vs x k=>let ⟨o,ho,r⟩:=x;⟨o,k o ho,r⟩
 obj:=fun it i h x=>by
   obtain ⟨o,ho,_,hd⟩:=x;exact ⟨o,ho,fun v z=>by rw [hd] at z;cases z⟩
 item:=fun A s it i vs x Q E ha hs hx hq=>xW ha hs hx hq
 fin:=fun A s it i vs Q E hh ha hs hx hq=>yQ hh ha hs hx hq
end L2
set_option Elab.async false
set_option linter.all false
set_option maxRecDepth 100000
namespace L2
open PySem PySem.Spec PyProof.Rows
structure ZAp (z TI TO i1 i2 l1 l2:Addr):Prop where
 a1:TI≠z
 a2:TO≠z
 a3:i1≠z
 a4:i2≠z
 a5:TI≠TO
 a6:TI≠i1
 a7:TI≠i2
 a8:TO≠i1
 a9:TO≠i2
 a0:i1≠i2
 b1:l1≠z/\l1≠TO/\l1≠i1/\l1≠i2
 b2:l2≠z/\l2≠TO/\l2≠i1/\l2≠i2
section
variable {P:Program} {w:World} {A:Around} {E:Value->Shared->Prop} {s:Shared} {l1 l2:Addr} {ob1 ob2:Obj} {src1 src2:Heap->Array Value->Prop} {at1 at2:Addr->Nat->Heap->Prop}
theorem EI (S1:SubF P w l1 ob1 src1 at1) (S2:SubF P w l2 ob2 src2 at2) {z TI TO i1 i2:Addr} {k1 k2:Nat} {xs ys:Array Value} {x y a b:Value} {Q:Value->Shared->Prop} (D:ZAp z TI TO i1 i2 l1 l2)
   (Hz:IsZip s.heap z TI TO .none) (HI:IsPair s.heap TI (.ref i1) (.ref i2)) (HO':IsPair s.heap TO a b) (p1:at1 i1 k1 s.heap) (p2:at2 i2 k2 s.heap) (q1:src1 s.heap xs) (q2:src2 s.heap ys) (hx:xs[k1]?=some x) (hy:ys[k2]?=some y)
   (hQ:∀ h',IsZip h' z TI TO (rawInt s.heap.objs.size)->IsPair h' TO x y->at1 i1 (k1+1) h'->at2 i2 (k2+1) h'->IsPair h' s.heap.objs.size x y->h'.objs.size=s.heap.objs.size+1 ->
     (∀ c o,c≠z->c≠TO->c≠i1->c≠i2->s.heap.get? c=some o->h'.get? c=some o)->Q (.ref s.heap.objs.size) { s with heap:=h' }) :
   wpAny (model P w) A (Builtin.«zip.__next__» ⟨[.ref z],[]⟩) (fun fn s'=>∃ v,fn=.done (.ret v)/\Q v s') E s:=by
 show wpAny (model P w) _ (field (.ref z) 2 >>= _) _ _ _;refine wpAny_bind (wpAny_field Hz rfl (x:=.bool false) rfl ?_);show wpAny (model P w) _ (field (.ref z) 3 >>= _) _ _ _;refine wpAny_bind (wpAny_field Hz rfl (x:=.ref TI) rfl ?_);refine wpAny_bind (wpAny_seqItems HI rfl ?_);show wpAny (model P w) _ (Builtin.SmallTypes.ownedTupleIsFree (.ref z) >>= _) _ _ _;refine wpAny_bind ?_;unfold Builtin.SmallTypes.ownedTupleIsFree;refine wpAny_bind (wpAny_field Hz rfl (x:=.none) rfl (wpAny_pure ?_));simp only [if_true];refine wpAny_bind (wpAny_rule ?_);refine wpAny_bind (wpAny_field Hz rfl (x:=.ref TO) rfl ?_);refine wpAny_bind (wpAny_setField_rec Hz (by simp) fun g1 z1 e1=>?_);replace z1:IsZip g1 z TI TO .ellipsis:=z1;refine wpAny_bind ?_;simp only [List.zipIdx_cons,List.zipIdx_nil,List.forIn_cons,List.forIn_nil];refine wpAny_bind (wpAny_bind (wpAny_onRaise ?_));show wpAny (model P w) _ (Builtin.SmallTypes.nextOf (.ref i1) >>= _) _ _ _;refine wpAny_bind (S1.item _ { s with heap:=g1 } i1 k1 xs x _ _ (S1.atK _ _ _ _ p1 fun o e=>e1.extBut _ _ D.a3 e) (S1.srcK _ _ _ q1 fun o e=>e1.extBut _ _ D.b1.1 e) hx fun g2 p1b e2=>wpAny_pure ?_);have o2:IsPair g2 TO a b:=e2.extBut _ _ D.a8 (e1.extBut _ _ D.a2 HO');refine wpAny_bind (wpAny_seqItems o2 rfl ?_);refine wpAny_bind (wpAny_updateSeq_pair o2 fun g3 o3 e3=>?_);replace o3:IsPair g3 TO x b:=o3;refine wpAny_bind (wpAny_letGo (wpAny_pure ?_));refine wpAny_bind (wpAny_bind (wpAny_onRaise ?_));show wpAny (model P w) _ (Builtin.SmallTypes.nextOf (.ref i2) >>= _) _ _ _;refine wpAny_bind (S2.item _ { s with heap:=g3 } i2 k2 ys y _ _ (S2.atK _ _ _ _ p2 fun o e=>e3.extBut _ _ D.a9.symm (e2.extBut _ _ D.a0.symm (e1.extBut _ _ D.a4 e))) (S2.srcK _ _ _ q2 fun o e=>e3.extBut _ _ D.b2.2.1 (e2.extBut _ _ D.b2.2.2.1 (e1.extBut _ _ D.b2.1 e))) hy fun g4 p2b e4=>wpAny_pure ?_);have o4:IsPair g4 TO x b:=e4.extBut _ _ D.a9 o3;refine wpAny_bind (wpAny_seqItems o4 rfl ?_);refine wpAny_bind (wpAny_updateSeq_pair o4 fun g5 o5 e5=>?_);replace o5:IsPair g5 TO x y:=o5;refine wpAny_bind (wpAny_letGo (wpAny_pure (wpAny_pure ?_)));refine wpAny_bind (wpAny_seqItems o5 rfl ?_);refine wpAny_bind (wpAny_newTuple ?_);have sz:g5.objs.size=s.heap.objs.size:=by rw [e5.1,e4.1,e3.1,e2.1,e1.1]
 have z5:IsZip g5 z TI TO .ellipsis:=e5.extBut _ _ D.a2.symm (e4.extBut _ _ D.a4.symm (e3.extBut _ _ D.a2.symm (e2.extBut _ _ D.a3.symm z1)));have k5:∀ c o,c≠z->c≠TO->c≠i1->c≠i2->s.heap.get? c=some o->g5.get? c=some o:=fun c o c1 c2 c3 c4 e =>
   e5.extBut _ _ c2 (e4.extBut _ _ c4 (e3.extBut _ _ c2 (e2.extBut _ _ c3 (e1.extBut _ _ c1 e))))
 have p15:at1 i1 (k1+1) g5:=S1.atK _ _ _ _ p1b fun o e=>e5.extBut _ _ D.a8.symm (e4.extBut _ _ D.a0 (e3.extBut _ _ D.a8.symm e));have p25:at2 i2 (k2+1) g5:=S2.atK _ _ _ _ p2b fun o e=>e5.extBut _ _ D.a9.symm e;have zlt:z<g5.objs.size:=Heap.lt_size z5;show wpAny (model P w) _ (Builtin.SmallTypes.ownedTupleHandOut (.ref z) (.ref g5.objs.size) >>= _) _ _ _;refine wpAny_bind ?_;unfold Builtin.SmallTypes.ownedTupleHandOut;have z6:IsZip (g5.push { cls:=.type "tuple",data:=.seq #[x,y] }) z TI TO .ellipsis:=Heap.get?_push_of_some _ z5;refine wpAny_bind (wpAny_setField_rec z6 (by simp) fun g7 z7 e7=>?_);replace z7:IsZip g7 z TI TO (rawInt g5.objs.size):=z7;refine wpAny_setField_rec z7 (by simp) fun g8 z8 e8=>?_;replace z8:IsZip g8 z TI TO (rawInt g5.objs.size):=z8;have up:∀ c o,c≠z->g5.get? c=some o->g8.get? c=some o:=fun c o c1 e=>e8.extBut _ _ c1 (e7.extBut _ _ c1 (Heap.get?_push_of_some _ e));have t8:IsPair g8 g5.objs.size x y:=e8.extBut _ _ (Nat.ne_of_gt zlt) (e7.extBut _ _ (Nat.ne_of_gt zlt) (Heap.get?_push_size _ rfl));have s8:g8.objs.size=g5.objs.size+1:=by rw [e8.1,e7.1,Heap.size_push]
 rw [sz] at z8 t8 s8;refine wpAny_pure ⟨_,rfl,?_⟩;show Q (.ref g5.objs.size) _;rw [sz];exact hQ g8 z8 (up _ _ D.a2 o5) (S1.atK _ _ _ _ p15 fun o e=>up _ o D.a3 e) (S2.atK _ _ _ _ p25 fun o e=>up _ o D.a4 e) t8 s8 fun c o c1 c2 c3 c4 e=>up c o c1 (k5 c o c1 c2 c3 c4 e)
theorem Gb (S1:SubF P w l1 ob1 src1 at1) (S2:SubF P w l2 ob2 src2 at2) {z TI TO i1 i2:Addr} {k1 k2:Nat} {xs ys:Array Value} {a b:Value} {Q:Fin->Shared->Prop} (hh:A.handled=none) (D:ZAp z TI TO i1 i2 l1 l2)
   (Hz:IsZip s.heap z TI TO .none) (HI:IsPair s.heap TI (.ref i1) (.ref i2)) (HO':IsPair s.heap TO a b) (p1:at1 i1 k1 s.heap) (p2:at2 i2 k2 s.heap) (q1:src1 s.heap xs) (q2:src2 s.heap ys) (hend:xs[k1]?=none\/ys[k2]?=none)
   (hE:∀ h' e,(∀ c o,c≠z->c≠TO->c≠i1->c≠i2->s.heap.get? c=some o->h'.get? c=some o)->(∃ o,h'.get? e=some o/\o.cls=.type "StopIteration")->E (.ref e) { s with heap:=h' }) :
   wpAny (model P w) A (Builtin.«zip.__next__» ⟨[.ref z],[]⟩) Q E s:=by
 show wpAny (model P w) _ (field (.ref z) 2 >>= _) _ _ _;refine wpAny_bind (wpAny_field Hz rfl (x:=.bool false) rfl ?_);show wpAny (model P w) _ (field (.ref z) 3 >>= _) _ _ _;refine wpAny_bind (wpAny_field Hz rfl (x:=.ref TI) rfl ?_);refine wpAny_bind (wpAny_seqItems HI rfl ?_);show wpAny (model P w) _ (Builtin.SmallTypes.ownedTupleIsFree (.ref z) >>= _) _ _ _;refine wpAny_bind ?_;unfold Builtin.SmallTypes.ownedTupleIsFree;refine wpAny_bind (wpAny_field Hz rfl (x:=.none) rfl (wpAny_pure ?_));simp only [if_true];refine wpAny_bind (wpAny_rule ?_);refine wpAny_bind (wpAny_field Hz rfl (x:=.ref TO) rfl ?_);refine wpAny_bind (wpAny_setField_rec Hz (by simp) fun g1 z1 e1=>?_);replace z1:IsZip g1 z TI TO .ellipsis:=z1;refine wpAny_bind ?_;simp only [List.zipIdx_cons,List.zipIdx_nil,List.forIn_cons,List.forIn_nil];refine wpAny_bind (wpAny_bind (wpAny_onRaise ?_));show wpAny (model P w) _ (Builtin.SmallTypes.nextOf (.ref i1) >>= _) _ _ _;have p1a:at1 i1 k1 g1:=S1.atK _ _ _ _ p1 fun o e=>e1.extBut _ _ D.a3 e;have q1a:src1 g1 xs:=S1.srcK _ _ _ q1 fun o e=>e1.extBut _ _ D.b1.1 e;cases hx:xs[k1]? with
 | none =>
   refine wpAny_bind (S1.fin _ { s with heap:=g1 } i1 k1 xs _ _ hh p1a q1a hx fun g2 e e2 he=>?_);obtain ⟨oe,hoe,hce⟩:=he;have z2:IsZip g2 z TI TO .ellipsis:=e2 _ _ D.a3.symm z1;have ez:e≠z:=fun t=>by subst t;rw [z2] at hoe;cases hoe;simp at hce
   refine wpAny_setField_rec z2 (by simp) fun g3 _ e3=>hE g3 e (fun c o c1 _ c3 _ t=>e3.extBut _ _ c1 (e2 _ _ c3 (e1.extBut _ _ c1 t))) ⟨oe,e3.extBut _ _ ez hoe,hce⟩
 | some x =>
   have hy:ys[k2]?=none:=by
     rcases hend with h|h
     . rw [hx] at h;cases h
     . exact h
   refine wpAny_bind (S1.item _ { s with heap:=g1 } i1 k1 xs x _ _ p1a q1a hx fun g2 p1b e2=>wpAny_pure ?_);have o2:IsPair g2 TO a b:=e2.extBut _ _ D.a8 (e1.extBut _ _ D.a2 HO');refine wpAny_bind (wpAny_seqItems o2 rfl ?_);refine wpAny_bind (wpAny_updateSeq_pair o2 fun g3 o3 e3=>?_);refine wpAny_bind (wpAny_letGo (wpAny_pure ?_));refine wpAny_bind (wpAny_bind (wpAny_onRaise ?_));show wpAny (model P w) _ (Builtin.SmallTypes.nextOf (.ref i2) >>= _) _ _ _;refine wpAny_bind (S2.fin _ { s with heap:=g3 } i2 k2 ys _ _ hh (S2.atK _ _ _ _ p2 fun o e=>e3.extBut _ _ D.a9.symm (e2.extBut _ _ D.a0.symm (e1.extBut _ _ D.a4 e))) (S2.srcK _ _ _ q2 fun o e=>e3.extBut _ _ D.b2.2.1 (e2.extBut _ _ D.b2.2.2.1 (e1.extBut _ _ D.b2.1 e))) hy fun g4 e e4 he=>?_);obtain ⟨oe,hoe,hce⟩:=he;have z4:IsZip g4 z TI TO .ellipsis:=e4 _ _ D.a4.symm (e3.extBut _ _ D.a2.symm (e2.extBut _ _ D.a3.symm z1));have ez:e≠z:=fun t=>by subst t;rw [z4] at hoe;cases hoe;simp at hce
   refine wpAny_setField_rec z4 (by simp) fun g5 _ e5=>hE g5 e (fun c o c1 c2 c3 c4 t=>e5.extBut _ _ c1 (e4 _ _ c4 (e3.extBut _ _ c2 (e2.extBut _ _ c3 (e1.extBut _ _ c1 t))))) ⟨oe,e5.extBut _ _ ez hoe,hce⟩
abbrev zp1 (h:Heap) (ob1 ob2:Obj):Heap:=(h.push ob1).push ob2
abbrev zp2 (h:Heap) (ob1 ob2:Obj):Heap:=(zp1 h ob1 ob2).push { cls:=.type "tuple",data:=.seq #[.ref h.objs.size,.ref (h.push ob1).objs.size] }
abbrev zp3 (h:Heap) (ob1 ob2:Obj):Heap:=(zp2 h ob1 ob2).push { cls:=.type "tuple",data:=.seq #[.none,.none] }
abbrev zp4 (h:Heap) (ob1 ob2:Obj):Heap:=(zp3 h ob1 ob2).push { cls:=.type "zip",data:=.fields #[.none,.bool false,.bool false,.ref (zp1 h ob1 ob2).objs.size,.ref (zp2 h ob1 ob2).objs.size] }
theorem Ds (S1:∀ P w,SubF P w l1 ob1 src1 at1) (S2:∀ P w,SubF P w l2 ob2 src2 at2) (ne:∀ h vs,src2 h vs->∃ o,h.get? l2=some o) (xs ys:Array Value) :
   Meets (Builtin.«zip.__new__» ⟨[.type "zip",.ref l1,.ref l2],[]⟩) (fun _ R s=>src1 s.heap xs/\src2 s.heap ys/\R (.ok (.ret (.ref (zp3 s.heap ob1 ob2).objs.size))) { s with heap:=zp4 s.heap ob1 ob2 }) :=
 .of_wp fun prog w A R s hyp=>by
   obtain ⟨hp,g,d,tk,os⟩:=s;obtain ⟨q1,q2,r⟩:=hyp;have zsub:=sub_zip;have B1:src1 (Shared.heap ⟨hp,g,d,tk,os⟩) xs:=q1;have B2:src2 (Shared.heap ⟨hp.push ob1,g,d,tk,os⟩) ys:=(S2 prog w).srcK _ _ _ q2 fun o e=>Heap.get?_push_of_some _ e
   wp_walk using ((S1 prog w).start _ _ _ _ _ B1),((S2 prog w).start _ _ _ _ _ B2)
   exact ⟨_,rfl,r⟩
theorem K3 (S1:∀ P w,SubF P w l1 ob1 src1 at1) (S2:∀ P w,SubF P w l2 ob2 src2 at2) (ne:∀ h vs,src2 h vs->∃ o,h.get? l2=some o) {xs ys:Array Value} {Q:Value->Shared->Prop} (q1:src1 s.heap xs) (q2:src2 s.heap ys)
   (h:∀ h',IsZip h' (s.heap.objs.size+4) (s.heap.objs.size+2) (s.heap.objs.size+3) .none->IsPair h' (s.heap.objs.size+2) (.ref s.heap.objs.size) (.ref (s.heap.objs.size+1)) ->
     IsPair h' (s.heap.objs.size+3) .none .none->at1 s.heap.objs.size 0 h'->at2 (s.heap.objs.size+1) 0 h' ->
     (∀ c o,s.heap.get? c=some o->h'.get? c=some o)->Q (.ref (s.heap.objs.size+4)) { s with heap:=h' }) (f1:ob1.isFreed=false) (f2:ob2.isFreed=false) :
   wpAny (model P w) A (call (.type "zip") [.ref l1,.ref l2]) Q E s:=by
 refine callType_new F.called_zip (by decide) (F.typeCall_zip_2 _ _) (F.newCall_zip_2 _ _) (fun obj=>F.args_object_init_3 obj _ _) F.entry_zip_new (Ds S1 S2 ne xs ys) ⟨q1,q2,?_⟩;have n0:(s.heap.push ob1).objs.size=s.heap.objs.size+1:=Heap.size_push ..;have n1:(zp1 s.heap ob1 ob2).objs.size=s.heap.objs.size+2:=by rw [Heap.size_push,n0]
 have n2:(zp2 s.heap ob1 ob2).objs.size=s.heap.objs.size+3:=by rw [Heap.size_push,n1]
 have n3:(zp3 s.heap ob1 ob2).objs.size=s.heap.objs.size+4:=by rw [Heap.size_push,n2]
 have c5:(zp4 s.heap ob1 ob2).get? (zp3 s.heap ob1 ob2).objs.size=some _:=Heap.get?_push_size _ rfl;have c4:(zp4 s.heap ob1 ob2).get? (zp2 s.heap ob1 ob2).objs.size=some _:=Heap.get?_push_of_some _ (Heap.get?_push_size _ rfl);have c3:(zp4 s.heap ob1 ob2).get? (zp1 s.heap ob1 ob2).objs.size=some _:=Heap.get?_push_of_some _ (Heap.get?_push_of_some _ (Heap.get?_push_size _ rfl));have c2:(zp4 s.heap ob1 ob2).get? (s.heap.push ob1).objs.size=some ob2:=Heap.get?_push_of_some _ (Heap.get?_push_of_some _ (Heap.get?_push_of_some _ (Heap.get?_push_size _ f2)));have c1:(zp4 s.heap ob1 ob2).get? s.heap.objs.size=some ob1:=Heap.get?_push_of_some _ (Heap.get?_push_of_some _ (Heap.get?_push_of_some _ (Heap.get?_push_of_some _ (Heap.get?_push_size _ f1))));show _/\_;rw [n1,n2,n3] at c5;rw [n0,n1] at c3;rw [n2] at c4;rw [n0] at c2;rw [n3];exact ⟨⟨_,c5,rfl⟩,h _ c5 c3 c4 ((S1 P w).first _ _ c1) ((S2 P w).first _ _ c2) fun c o e=>Heap.get?_push_of_some _ (Heap.get?_push_of_some _ (Heap.get?_push_of_some _ (Heap.get?_push_of_some _ (Heap.get?_push_of_some _ e))))⟩
end
def SqX (K:PySem.W.Frag):Bool->Hp->Addr->List V->Prop
 | true,H,a,xs=>SqL K H a xs
 | false,H,a,xs=>SqT K H a xs
def Itz (K:PySem.W.Frag) (c d:Bool) (a b:Addr):It :=
 ⟨fun i H=>∃ xs ys x y,SqX K c H a xs/\SqX K d H b ys/\xs[i]?=some x/\ys[i]?=some y,
  fun i H v H'=>∃ p x y,H p=none/\v=.ref p/\H'=upd H p (.tup [x,y])/\(∀ xs,SqX K c H a xs->xs[i]?=some x)/\∀ ys,SqX K d H b ys->ys[i]?=some y,
  fun i H=>∃ xs ys,SqX K c H a xs/\SqX K d H b ys/\(xs.length<=i\/ys.length<=i)⟩
def QS (a:Addr):Bool->Obj
 | true=>{ cls:=.type "list_iterator",data:=.fields #[.ref a,.int 0 0] }
 | false=>{ cls:=.type "tuple_iterator",data:=.fields #[.ref a,.int 0 0] }
def Iu (a:Addr):Bool->Heap->Array Value->Prop
 | true,h,vs=>h.IsList a vs
 | false,h,vs=>h.IsTuple a vs
def zAt (a:Addr):Bool->Addr->Nat->Heap->Prop
 | true,it,i,h=>h.IsListIter it a i
 | false,it,i,h=>h.IsTupleIter it a i
theorem eU (a:Addr) (c:Bool) (P:Program) (w:World):SubF P w a (QS a c) (Iu a c) (zAt a c):=by
 cases c
 . exact Od a
 . exact JR a
theorem wX (a:Addr) (c:Bool):(QS a c).isFreed=false:=by cases c <;> rfl
theorem oH (a:Addr) (c:Bool) (h:Heap) (vs:Array Value) (e:Iu a c h vs):∃ o,h.get? a=some o:=by
 cases c
 . obtain ⟨o,ho,_⟩:=e;exact ⟨o,ho⟩
 . obtain ⟨o,ho,_⟩:=e;exact ⟨o,ho⟩
theorem Inv.sqX {X:Cx} {pins:List (Addr × Obj)} {σ:St} {H:Hp} {s:Shared} {c:Bool} {a:Addr} {xs:List V} (I:Inv X pins σ H s) (h:SqX X.K c H a xs):∃ its:List Value,Vals xs its/\Iu a c s.heap its.toArray:=by
 cases c with
 | true =>
   obtain ⟨its,r,pl,_⟩:=I.list h;exact ⟨its,r,pl.isList⟩
 | false =>
   obtain ⟨its,r,⟨o,ho,hc,n,hd⟩,_⟩:=I.tuple h;exact ⟨its,r,⟨o,ho,hc,n,hd⟩⟩
theorem Inv.sqX_inj {X:Cx} {pins:List (Addr × Obj)} {σ:St} {H:Hp} {s:Shared} {c:Bool} {a:Addr} {xs ys:List V} (I:Inv X pins σ H s) (h:SqX X.K c H a xs) (h':SqX X.K c H a ys):xs=ys:=by
 cases c with
 | true=>exact I.list_inj h h'
 | false=>exact I.tuple_inj h h'
theorem Lg {P:Program} {w:World} {K:PySem.W.Frag} {elts:List Expr} {x1} {tpos:Pos} (c d:Bool) (a b z TI TO i1 i2:Addr) (D:ZAp z TI TO i1 i2 a b) :
   Turn P w K (.Tuple elts x1 tpos) (Itz K c d a b) [z,TI,TO,i1,i2] z (fun i h=>IsZip h z TI TO .none/\IsPair h TI (.ref i1) (.ref i2)/\(∃ u v,IsPair h TO u v)/\zAt a c i1 i h/\zAt b d i2 i h) where
 mem:=by simp
 obj:=fun i h t e he=>by
   obtain ⟨t1,t2,⟨u,v,t3⟩,t4,t5⟩:=t;simp only [List.mem_cons,List.mem_nil_iff,or_false] at he;rcases he with rfl|rfl|rfl|rfl|rfl
   . exact ⟨_,t1,fun v z=>by cases z⟩
   . exact ⟨_,t2,fun v z=>by cases z⟩
   . exact ⟨_,t3,fun v z=>by cases z⟩
   . exact (eU a c P w).obj _ _ _ t4
   . exact (eU b d P w).obj _ _ _ t5
 keep:=fun i h h' t k=>by
   obtain ⟨t1,t2,⟨u,v,t3⟩,t4,t5⟩:=t;exact ⟨k z (by simp) _ t1,k TI (by simp) _ t2,⟨u,v,k TO (by simp) _ t3⟩,(eU a c P w).atK _ _ _ _ t4 fun o e=>k i1 (by simp) o e,(eU b d P w).atK _ _ _ _ t5 fun o e=>k i2 (by simp) o e⟩
 item:=fun X e1 e2 e3 hc i pins s σ H E I f t g=>by
   subst e1 e2 e3;obtain ⟨t1,t2,⟨u,v,t3⟩,t4,t5⟩:=t;obtain ⟨xs,ys,x,y,s1,s2,hx,hy⟩:=g;obtain ⟨us,r1,q1⟩:=I.sqX s1;obtain ⟨vs,r2,q2⟩:=I.sqX s2;obtain ⟨xu,hxu,rx⟩:=r1.get hx;obtain ⟨yu,hyu,ry⟩:=r2.get hy;have hT:s.TypeIs (.ref z) "zip":=⟨_,t1,rfl⟩;unfold pyNext;refine wpAny_bind (wpAny_attempt (wpAny_callSpecial?_slot (name:=Str.ofString "__next__") hT F.slot_zip_next (wpAny_call_entry F.slot_zip_next hT F.entry_zip_next
     (EI (eU a c _ _) (eU b d _ _) D t1 t2 t3 t4 t5 q1 q2 (x:=xu) (y:=yu) (by simpa using hxu) (by simpa using hyu) fun h' w1 w2 w3 w4 w5 w6 w7=>wpAny_pure ?_) (F.args_zip_next_1 _))))
   refine ⟨_,rfl,wpAny_letOwnedTupleGo_zip w1 fun h2 n1 n2=>?_⟩;have fz:∀ q∈[z,TI,TO,i1,i2],kJ X pins H q:=f;have lt0:s.heap.objs.size≠z:=Nat.ne_of_gt (Heap.lt_size t1);have new:IsPair h2 s.heap.objs.size xu yu:=n2.extBut _ _ lt0 w5;have kp:∀ q o,q ∉ [z,TI,TO,i1,i2]->s.heap.get? q=some o->h2.get? q=some o:=fun q o hq e=>by
     simp only [List.mem_cons,List.mem_nil_iff,or_false,not_or] at hq;exact n2.extBut _ _ hq.1 (w7 q o hq.1 hq.2.2.1 hq.2.2.2.1 hq.2.2.2.2 e)
   have kTI:h2.get? TI=some _:=n2.extBut _ _ D.a1 (w7 TI _ D.a1 D.a5 D.a6 D.a7 t2);have Hn:∀ q u,H q=some u->q ∉ [z,TI,TO,i1,i2]:=fun q u e hq=>by rw [(fz q hq).1] at e;cases e
   have I2:Inv X pins σ H { s with heap:=h2 }:=by
     refine I.step (g':=s.gens) (d':=s.drawn) (t':=s.toks) (ch:=[z,TI,TO,i1,i2]) (fun q hq=>⟨(fz q hq).2.2.2.1,(fz q hq).2.1,(fz q hq).2.2.2.2.1,(fz q hq).2.2.2.2.2⟩) (fun q o _ _ hq e _=>kp q o hq e) (fun q o _ _ hq e _=>⟨o.slots,kp q o hq e⟩) (fun _ _ _ _ n=>n)
       (fun q o hq e=>⟨o,kp q o hq e⟩) (fun _ _ e=>e) (fun _ _ _ e=>e) (fun q ps e=>⟨#[],by rw [e];simp⟩) (fun m hm=>?_) (fun q u e=>?_) I.bare
     . obtain ⟨o,es,ep,ho,r⟩:=hm;exact ⟨o,es,ep,kp _ o (fun hq=>(fz _ hq).2.1 rfl) ho,r⟩
     . refine (I.hok q u e).stay (fun q' v hq' e'=>kp q' v ?_ e') (fun _ e'=>e') fun _ _ e'=>e';rcases hq' with rfl|hq'
       . exact Hn _ u e
       . exact Hn _ _ hq'
   have nH:H s.heap.objs.size=none:=I.fresh;have I3:Inv X pins σ (upd H s.heap.objs.size (.tup [x,y])) { s with heap:=h2 }:=by
     refine ⟨I2.ok,I2.os,I2.bare,?_,I2.loc,I2.cell,?_,fun n c e=>?_,fun p hp=>?_,fun q u e=>?_,I2.len⟩
     . refine ⟨I2.base.keep,I2.base.slot,fun q o e n hx=>?_,I2.base.there,fun q xs e=>?_,fun q o u e=>?_,fun q ps e=>?_⟩
       . have lt:q<X.s₀.heap.objs.size:=Heap.lt_size e;rw [ap (Nat.ne_of_lt (Nat.lt_of_lt_of_le lt I.sz))];exact I2.base.free q o e n hx
       . have e':=I2.base.tups q xs e;rw [ap (fun z=>by rw [z,nH] at e';cases e')];exact e'
       . have e':=I2.base.frzs q o u e;rw [ap (fun z=>by rw [z,nH] at e';cases e')];exact e'
       . obtain ⟨more,e'⟩:=I2.base.tbls q ps e;exact ⟨more,by rw [ap (fun z=>by rw [z,nH] at e';cases e')];exact e'⟩
     . rw [ap (Nat.ne_of_lt I.lt)];exact I2.free
     . obtain ⟨vv,o,ho,_⟩:=I.cell n c e;rw [ap (Nat.ne_of_lt (Heap.lt_size ho))];exact I2.freeC n c e
     . obtain ⟨k1,k2,k3⟩:=I.pin p hp;rw [ap (Nat.ne_of_lt (Heap.lt_size k1))];exact I2.pin p hp
     . by_cases hq:q=s.heap.objs.size
       . subst hq;rw [ah] at e;cases e;exact ⟨by show 2<=sizeLine;decide,[xu,yu],.cons rx (.cons ry .nil),_,new,rfl,_,rfl⟩
       . rw [ap hq] at e;refine (I2.hok q u e).stay (fun _ _ _ e'=>e') (fun q' e'=>?_) fun q' xs e'=>?_
         . rw [ap (fun z=>by rw [z,nH] at e';cases e')];exact e'
         . rw [ap (fun z=>by rw [z,nH] at e';cases e')];exact e'
   refine ⟨.ref s.heap.objs.size,_,I3,rfl,⟨_,x,y,nH,rfl,rfl,fun xs' q=>?_,fun ys' q=>?_⟩,⟨n1,kTI,⟨_,_,n2.extBut _ _ D.a2 w2⟩,(eU a c X.prog X.w).atK _ _ _ _ w3 fun o e=>n2.extBut _ _ D.a3 e,(eU b d X.prog X.w).atK _ _ _ _ w4 fun o e=>n2.extBut _ _ D.a4 e⟩,fun q hq=>?_⟩
   . rw [<- I.sqX_inj s1 q];exact hx
   . rw [<- I.sqX_inj s2 q];exact hy
   . have hlt:q<s.heap.objs.size:=by
       simp only [List.mem_cons,List.mem_nil_iff,or_false] at hq;rcases hq with rfl|rfl|rfl|rfl|rfl
       . exact Heap.lt_size t1
       . exact Heap.lt_size t2
       . exact Heap.lt_size t3
       . exact let ⟨o,e,_⟩:=(eU a c X.prog X.w).obj _ _ _ t4;Heap.lt_size e
       . exact let ⟨o,e,_⟩:=(eU b d X.prog X.w).obj _ _ _ t5;Heap.lt_size e
     rw [ap (Nat.ne_of_lt hlt)];exact (fz q hq).1
 done:=fun X e1 e2 e3 hc i pins s σ H E I f t g=>by
   subst e1 e2 e3;obtain ⟨t1,t2,⟨u,v,t3⟩,t4,t5⟩:=t;obtain ⟨xs,ys,s1,s2,hend⟩:=g;obtain ⟨us,r1,q1⟩:=I.sqX s1;obtain ⟨vs,r2,q2⟩:=I.sqX s2;have fz:∀ q∈[z,TI,TO,i1,i2],kJ X pins H q:=f;have hh:X.A.handled=none:=I.ok.hd hc;have hT:s.TypeIs (.ref z) "zip":=⟨_,t1,rfl⟩;have hend':us.toArray[i]?=none\/vs.toArray[i]?=none:=by
     rcases hend with e|e
     . exact .inl (by have:=r1.length;simp;omega)
     . exact .inr (by have:=r2.length;simp;omega)
   unfold pyNext;refine wpAny_bind (wpAny_attempt (wpAny_callSpecial?_slot (name:=Str.ofString "__next__") hT F.slot_zip_next (wpAny_call_entry F.slot_zip_next hT F.entry_zip_next
     (Gb (eU a c _ _) (eU b d _ _) hh D t1 t2 t3 t4 t5 q1 q2 hend' fun h' e hk he=>?_) (F.args_zip_next_1 _))))
   obtain ⟨o,ho,hcl⟩:=he;refine wpAny_bind (wpAny_isInstance (T:="StopIteration") (b:=true) ⟨o,ho,hcl⟩ isSubtype_stop (wpAny_pure ⟨rfl,?_⟩));have kp:∀ q o,q ∉ [z,TI,TO,i1,i2]->s.heap.get? q=some o->h'.get? q=some o:=fun q o hq e=>by
     simp only [List.mem_cons,List.mem_nil_iff,or_false,not_or] at hq;exact hk q o hq.1 hq.2.2.1 hq.2.2.2.1 hq.2.2.2.2 e
   have Hn:∀ q u,H q=some u->q ∉ [z,TI,TO,i1,i2]:=fun q u e hq=>by rw [(fz q hq).1] at e;cases e
   refine I.step (g':=s.gens) (d':=s.drawn) (t':=s.toks) (ch:=[z,TI,TO,i1,i2]) (fun q hq=>⟨(fz q hq).2.2.2.1,(fz q hq).2.1,(fz q hq).2.2.2.2.1,(fz q hq).2.2.2.2.2⟩) (fun q o _ _ hq e _=>kp q o hq e) (fun q o _ _ hq e _=>⟨o.slots,kp q o hq e⟩) (fun _ _ _ _ n=>n)
     (fun q o hq e=>⟨o,kp q o hq e⟩) (fun _ _ e=>e) (fun _ _ _ e=>e) (fun q ps e=>⟨#[],by rw [e];simp⟩) (fun m hm=>?_) (fun q u e=>?_) I.bare
   . obtain ⟨o,es,ep,ho,r⟩:=hm;exact ⟨o,es,ep,kp _ o (fun hq=>(fz _ hq).2.1 rfl) ho,r⟩
   . refine (I.hok q u e).stay (fun q' v hq' e'=>kp q' v ?_ e') (fun _ e'=>e') fun _ _ e'=>e';rcases hq' with rfl|hq'
     . exact Hn _ u e
     . exact Hn _ _ hq'
 self:=fun A i s Q E t q=>wpAny_pyIter_zip t.1 q
end L2
set_option Elab.async false
set_option linter.all false
set_option maxRecDepth 100000
namespace L2
open PySem PySem.Spec PyProof.Rows
section
variable {X:Cx} {pins:List (Addr × Obj)} {σ:St} {H H2:Hp} {s s2:Shared} {a:Addr} {o:HO}
end
section
variable {P:Program} {w:World} {A:Around} {E:Value->Shared->Prop} {s:Shared}
end
end L2
set_option Elab.async false
set_option linter.all false
set_option maxRecDepth 100000
namespace L2
open PySem PySem.Spec PyProof.Rows
section
variable {P:Program} {w:World} {A:Around} {E:Value->Shared->Prop} {s:Shared} {R:Result->Shared->Prop}
end
section
variable {X:Cx} {e:Expr} {te:TE} {p1 p2 pos pos2:Pos}
end
end L2
set_option Elab.async false
set_option linter.all false
set_option maxRecDepth 100000
namespace L2
open PySem PySem.Spec PyProof.Rows
theorem fD {a b:Nat} (h:a<b\/b<a):a≠b:=by omega
theorem QD (n a b:Nat) (h1:a<n) (h2:b<n):ZAp (n+4) (n+2) (n+3) n (n+1) a b :=
 ⟨fD (by omega),fD (by omega),fD (by omega),fD (by omega),fD (by omega),fD (by omega),fD (by omega),fD (by omega),fD (by omega),fD (by omega),⟨fD (by omega),fD (by omega),fD (by omega),fD (by omega)⟩,⟨fD (by omega),fD (by omega),fD (by omega),fD (by omega)⟩⟩
section
variable {X:Cx}
def LS (K:PySem.W.Frag) (c d:Bool) (ta:TA):TI:=fun σ H R=>ta σ H fun vs H1=>∃ a b,vs=[.ref a,.ref b]/\(∃ xs,SqX K c H1 a xs)/\(∃ ys,SqX K d H1 b ys)/\R (Itz K c d a b) H1
theorem Qo {elts:List Expr} {x1} {tpos:Pos} {ea eb:Expr} {ta:TA} {p pos:Pos} (c d:Bool) (hg:Gl X "zip") (hm:X.mg "zip"=none) (ha:PA X [ea,eb] ta)
   (hs:starEach [ea,eb] X.env=[(false,eval ea X.env),(false,eval eb X.env)]:=by rfl) (hs2:starEach [eb] X.env=[(false,eval eb X.env)]:=by rfl) :
   PI X (.Tuple elts x1 tpos) (.Call (.Name "zip" p) [ea,eb] [] pos) (LS X.K c d ta):=by
 intro pins s σ H R I h;refine Call_ (nG I hg hm boot_zip (PyProof.Rows.callWith_type1 (rD (ha pos pins s σ H _ I h) fun us s1 vs H1 I1 r1 q1=>?_) (by rw [hs,hs2]) (by rw [hs2];rfl)));obtain ⟨a,b,e,⟨xs,sa⟩,⟨ys,sb⟩,q⟩:=q1;subst e;obtain ⟨u,v,rfl,ru,rv⟩:=Ov r1;cases ru;cases rv;obtain ⟨us,r1,q1⟩:=I1.sqX sa;obtain ⟨vs,r2,q2⟩:=I1.sqX sb;obtain ⟨oa,hoa⟩:=oH a c _ _ q1;obtain ⟨ob,hob⟩:=oH b d _ _ q2;have la:=Heap.lt_size hoa;have lb:=Heap.lt_size hob;refine K3 (eU a c) (eU b d) (oH b d) q1 q2 (fun h' w1 w2 w3 w4 w5 w6=>?_) (wX a c) (wX b d);refine wpAny_pyIter_zip w1 ?_;have D:=QD s1.heap.objs.size a b la lb;refine ⟨_,[s1.heap.objs.size+4,s1.heap.objs.size+2,s1.heap.objs.size+3,s1.heap.objs.size,s1.heap.objs.size+1],_,_,H1,rfl,I1.kept (t':=s1.toks) w6,Lg c d a b _ _ _ _ _ D,⟨w1,w2,⟨_,_,w3⟩,w4,w5⟩,fun q hq=>?_,q⟩;have hle:s1.heap.objs.size<=q:=by
   simp only [List.mem_cons,List.mem_nil_iff,or_false] at hq;rcases hq with rfl|rfl|rfl|rfl|rfl
   . exact Nat.le_add_right _ 4
   . exact Nat.le_add_right _ 2
   . exact Nat.le_add_right _ 3
   . exact Nat.le_refl _
   . exact Nat.le_add_right _ 1
 exact I1.fpOk hle (I1.hok.fresh hle)
end
end L2
set_option linter.all false
namespace Pb
structure Road where
 a:Int
 b:Int
 t:Int
 u:Int
 deriving DecidableEq
def Kh (m:Int) (rs:List Road):Prop:=∀ S:Int->Prop,S 0->(∀ r∈rs,(S r.a↔S r.b))->∀ v,0<=v->v<m->S v
structure RoadOk (m:Int) (r:Road):Prop where
 a0:0<=r.a
 a1:r.a<m
 b0:0<=r.b
 b1:r.b<m
 ne:r.a≠r.b
 t0:2<=r.t
 t1:r.t<=1000000
 u0:2<=r.u
 u1:r.u<=1000000
structure Good (m:Int) (rs:List Road):Prop where
 m1:1<=m
 m24:m<=24
 len:(rs.length:Int)=m - 1
 ok:∀ r∈rs,RoadOk m r
 jn:Kh m rs
theorem mN {α:Type} [DecidableEq α]:∀ {l l':List α},l.Nodup->(∀ x∈l,x∈l')->l.length<=l'.length
 | [],_,_,_=>Nat.zero_le _
 | x::r,l',hn,hs=>by
   obtain ⟨h1,h2⟩:=List.nodup_cons.mp hn;have hx:x∈l':=hs x List.mem_cons_self;have:r.length<=(l'.erase x).length:=mN h2 fun y hy=>(List.mem_erase_of_ne (fun (e:y=x)=>h1 (by rw [<- e];exact hy))).mpr (hs y (List.mem_cons_of_mem _ hy));rw [List.length_erase_of_mem hx] at this;have hp:0<l'.length:=List.length_pos_of_mem hx;rw [List.length_cons];omega
def below (n:Nat):List Int:=(List.range n).map fun (k:Nat)=>(k:Int)
theorem bM {n:Nat} {v:Int}:v∈below n↔0<=v/\v<n:=by
 unfold below;rw [List.mem_map]
 constructor
 . rintro ⟨k,hk,rfl⟩;have:=List.mem_range.mp hk;omega
 . rintro ⟨h0,h1⟩;exact ⟨v.toNat,List.mem_range.mpr (by omega),by omega⟩
theorem aU (n:Nat):(below n).length=n:=by simp [below]
theorem d4 (n:Nat):(below n).Nodup:=by
 unfold below;refine List.Pairwise.map _ (fun a b h=>?_) (List.nodup_range (n:=n));intro e;exact h (by omega)
theorem cL {m:Int} {l:List Int} (hm:0<=m) (hn:l.Nodup) (h:∀ x∈l,0<=x/\x<m):(l.length:Int)<=m:=by
 have:=mN (l':=below m.toNat) hn fun x hx=>bM.mpr ⟨(h x hx).1,by have:=(h x hx).2;omega⟩;rw [aU] at this;omega
theorem Nx {m:Int} {l:List Int} (hm:0<=m) (h:∀ v,0<=v->v<m->v∈l):m<=(l.length:Int):=by
 have:=mN (l:=below m.toNat) (l':=l) (d4 _) fun x hx=>by
   obtain ⟨h0,h1⟩:=bM.mp hx;exact h x h0 (by omega)
 rw [aU] at this;omega
def qI (p:Int) (r:Road):List Int:=(if r.a=p then [r.b] else [])++(if r.b=p then [r.a] else [])
def b7 (rs:List Road) (p:Int):List Int:=rs.flatMap (qI p)
theorem pM {rs:List Road} {p e:Int}:e∈b7 rs p↔∃ r∈rs,(r.a=p/\r.b=e)\/(r.b=p/\r.a=e):=by
 unfold b7 qI;rw [List.mem_flatMap]
 constructor
 . rintro ⟨r,hr,h⟩;refine ⟨r,hr,?_⟩;rcases List.mem_append.mp h with h|h
   . by_cases c:r.a=p
     . rw [if_pos c] at h;exact .inl ⟨c,(List.mem_singleton.mp h).symm⟩
     . rw [if_neg c] at h;cases h
   . by_cases c:r.b=p
     . rw [if_pos c] at h;exact .inr ⟨c,(List.mem_singleton.mp h).symm⟩
     . rw [if_neg c] at h;cases h
 . rintro ⟨r,hr,h⟩;refine ⟨r,hr,List.mem_append.mpr ?_⟩;rcases h with ⟨h1,h2⟩|⟨h1,h2⟩
   . exact .inl (by rw [if_pos h1,h2];exact List.mem_singleton.mpr rfl)
   . exact .inr (by rw [if_pos h1,h2];exact List.mem_singleton.mpr rfl)
theorem DS (rs:List Road) (p:Int):(b7 rs p).length<=2*rs.length:=by
 unfold b7
 induction rs with
 | nil=>simp
 | cons r rs ih =>
   rw [List.flatMap_cons,List.length_append,List.length_cons];have:(qI p r).length<=2:=by
     unfold qI;rw [List.length_append];by_cases c:r.a=p <;> by_cases d:r.b=p <;> simp [c,d]
   omega
theorem qN (rs:List Road) (r:Road) (p:Int):b7 (rs++[r]) p=b7 rs p++qI p r:=by
 unfold b7;rw [List.flatMap_append];simp
def Aj (c:List Int × List Int) (e:Int):List Int × List Int:=if e∈c.1 then c else (c.1++[e],c.2++[e])
structure JInv (m:Int) (rs:List Road) (ks ws:List Int):Prop where
 nd:ks.Nodup
 zero:0∈ks
 rng:∀ k∈ks,0<=k/\k<m
 sub:∀ w∈ws,w∈ks
 cl:∀ k∈ks,k ∉ ws->∀ e∈b7 rs k,e∈ks
 wl:ws.length<=ks.length
theorem Jm {l:List Int} {e:Int} (h:l.Nodup) (he:e ∉ l):(l++[e]).Nodup:=by
 rw [List.nodup_append];refine ⟨h,by simp,fun a ha b hb=>?_⟩;rw [List.mem_singleton.mp hb];exact fun z=>he (z ▸ ha)
structure JMid (m:Int) (rs:List Road) (p:Int) (es ks ws ks0:List Int) (n0:Nat):Prop where
 nd:ks.Nodup
 zero:0∈ks
 rng:∀ k∈ks,0<=k/\k<m
 sub:∀ w∈ws,w∈ks
 cl:∀ k∈ks,k ∉ ws->k=p\/∀ e∈b7 rs k,e∈ks
 seen:∀ e∈es,e∈ks
 pin:p∈ks
 mu:ks.length+n0=ks0.length+ws.length
 up:ks0.length<=ks.length
 wl:ws.length<=ks.length
theorem JMid.start {m:Int} {rs:List Road} {ks ws:List Int} {p:Int} (h:JInv m rs ks (ws++[p])):JMid m rs p [] ks ws ks ws.length where
 nd:=h.nd
 zero:=h.zero
 rng:=h.rng
 sub:=fun w hw=>h.sub w (List.mem_append_left _ hw)
 cl:=fun k hk hw=>by
   by_cases e:k=p
   . exact .inl e
   . exact .inr (h.cl k hk fun z=>by
       rcases List.mem_append.mp z with z|z
       . exact hw z
       . exact e (List.mem_singleton.mp z))
 seen:=fun e he=>by cases he
 pin:=h.sub p (List.mem_append_right _ (List.mem_singleton.mpr rfl))
 mu:=rfl
 up:=Nat.le_refl _
 wl:=by have:=h.wl;rw [List.length_append] at this;simp at this;omega
theorem JMid.step {m:Int} {rs:List Road} {p:Int} {es ks ws ks0:List Int} {n0:Nat} {e:Int} (h:JMid m rs p es ks ws ks0 n0) (h0:0<=e) (h1:e<m) :
   JMid m rs p (es++[e]) (Aj (ks,ws) e).1 (Aj (ks,ws) e).2 ks0 n0:=by
 unfold Aj;by_cases c:e∈ks
 . rw [if_pos c];refine ⟨h.nd,h.zero,h.rng,h.sub,h.cl,fun x hx=>?_,h.pin,h.mu,h.up,h.wl⟩;rcases List.mem_append.mp hx with z|z
   . exact h.seen x z
   . rw [List.mem_singleton.mp z];exact c
 . rw [if_neg c];dsimp only;refine ⟨Jm h.nd c,List.mem_append_left _ h.zero,fun k hk=>?_,fun w hw=>?_,fun k hk hw=>?_,fun x hx=>?_,List.mem_append_left _ h.pin,?_,by have:=h.up;simp;omega,by have:=h.wl;simp;exact this⟩
   . rcases List.mem_append.mp hk with z|z
     . exact h.rng k z
     . rw [List.mem_singleton.mp z];exact ⟨h0,h1⟩
   . rcases List.mem_append.mp hw with z|z
     . exact List.mem_append_left _ (h.sub w z)
     . exact List.mem_append_right _ z
   . rcases List.mem_append.mp hk with z|z
     . rcases h.cl k z fun y=>hw (List.mem_append_left _ y) with y|y
       . exact .inl y
       . exact .inr fun x hx=>List.mem_append_left _ (y x hx)
     . exact absurd (List.mem_append_right _ z) hw
   . rcases List.mem_append.mp hx with z|z
     . exact List.mem_append_left _ (h.seen x z)
     . exact List.mem_append_right _ z
   . have:=h.mu;simp only [List.length_append,List.length_cons,List.length_nil];omega
theorem JMid.done {m:Int} {rs:List Road} {p:Int} {ks ws ks0:List Int} {n0:Nat} (h:JMid m rs p (b7 rs p) ks ws ks0 n0):JInv m rs ks ws where
 nd:=h.nd
 zero:=h.zero
 rng:=h.rng
 sub:=h.sub
 cl:=fun k hk hw=>by
   rcases h.cl k hk hw with z|z
   . rw [z];exact h.seen
   . exact z
 wl:=h.wl
theorem JInv.start {m:Int} {rs:List Road} (hm:1<=m):JInv m rs [0] [0] where
 nd:=by simp
 zero:=by simp
 rng:=fun k hk=>by rw [List.mem_singleton.mp hk];omega
 sub:=fun w hw=>hw
 cl:=fun k hk hw=>absurd hk hw
 wl:=by simp
theorem JInv.all {m:Int} {rs:List Road} {ks:List Int} (h:JInv m rs ks []) (hm:1<=m) (j:Kh m rs):(ks.length:Int)=m:=by
 have up:=cL (by omega) h.nd h.rng;have:∀ v,0<=v->v<m->v∈ks:=j (fun v=>v∈ks) h.zero fun r hr=>by
   constructor
   . intro ha;exact h.cl r.a ha (by simp) r.b (pM.mpr ⟨r,hr,.inl ⟨rfl,rfl⟩⟩)
   . intro hb;exact h.cl r.b hb (by simp) r.a (pM.mpr ⟨r,hr,.inr ⟨rfl,rfl⟩⟩)
 have:=Nx (by omega) this;omega
theorem MV {m:Int} {rs:List Road} (h:∀ r∈rs,RoadOk m r) {p e:Int} (he:e∈b7 rs p):0<=e/\e<m:=by
 obtain ⟨r,hr,z⟩:=pM.mp he;have k:=h r hr;rcases z with ⟨_,rfl⟩|⟨_,rfl⟩
 . exact ⟨k.b0,k.b1⟩
 . exact ⟨k.a0,k.a1⟩
structure Row where
 k:Int
 un:Int
 t:Int
 u:Int
 sw:Int
 sp:Int
structure RowOk (r:Row):Prop where
 u0:0<=r.un
 u1:r.un<r.k
 t0:2<=r.t
 t1:r.t<=1000000
 v0:2<=r.u
 v1:r.u<=1000000
 s0:0<=r.sp
 s1:r.sp<r.k
structure Rows (n:Nat) (rows:List Row):Prop where
 len:rows.length=n
 ok:∀ (i:Nat) (r:Row),rows[i]?=some r->r.k=(i:Int)+1/\RowOk r
structure Labels (n:Nat) (ls:List Int):Prop where
 len:ls.length=n
 nd:ls.Nodup
 all:∀ v:Int,0<=v->v<n->v∈ls
 rng:∀ v∈ls,0<=v/\v<n
theorem AY {α:Type} {l:List α} {k:Nat} {x y:α}:y∈l.take k++x::l.drop k↔y=x\/y∈l:=by
 rw [List.mem_append,List.mem_cons]
 constructor
 . rintro (h|h|h)
   . exact .inr (List.mem_of_mem_take h)
   . exact .inl h
   . exact .inr (List.mem_of_mem_drop h)
 . rintro (h|h)
   . exact .inr (.inl h)
   . rw [<- List.take_append_drop k l] at h;rcases List.mem_append.mp h with z|z
     . exact .inl z
     . exact .inr (.inr z)
def gH (ls:List Int) (r:Row):Road:=if r.sw=1 then ⟨ls.getD r.un.toNat 0,ls.getD r.k.toNat 0,r.t,r.u⟩ else ⟨ls.getD r.k.toNat 0,ls.getD r.un.toNat 0,r.t,r.u⟩
structure Put (ls:List Int) (rows:List Row) (rs:List Road):Prop where
 len:rs.length=rows.length
 of:∀ r∈rs,∃ w∈rows,r=gH ls w
 to:∀ w∈rows,gH ls w∈rs
theorem Put.nil (ls:List Int):Put ls [] []:=⟨rfl,fun r h=>(by cases h),fun r h=>(by cases h)⟩
theorem Put.step {ls:List Int} {rows:List Row} {rs:List Road} (h:Put ls rows rs) (w:Row) (k:Nat):Put ls (rows++[w]) (rs.take k++gH ls w::rs.drop k) where
 len:=by
   rw [List.length_append,List.length_cons,List.length_take,List.length_drop,List.length_append,h.len];simp;omega
 of:=fun r hr=>by
   rcases AY.mp hr with z|z
   . exact ⟨w,by simp,z⟩
   . obtain ⟨w',hw,e⟩:=h.of r z;exact ⟨w',List.mem_append_left _ hw,e⟩
 to:=fun w' hw=>by
   rw [AY];rcases List.mem_append.mp hw with z|z
   . exact .inr (h.to w' z)
   . exact .inl (by rw [List.mem_singleton.mp z])
theorem xN {ls:List Int} {n:Nat} (h:Labels n ls) {i:Nat} (hi:i<n):ls[i]?=some (ls.getD i 0):=by
 have:i<ls.length:=by rw [h.len];exact hi
 simp [List.getD,List.getElem?_eq_getElem this]
theorem EX {ls:List Int} {n:Nat} (h:Labels n ls) {i:Nat} (hi:i<n):ls.getD i 0∈ls:=List.mem_of_getElem? (xN h hi)
theorem K8 {ls:List Int} {n:Nat} (h:Labels n ls) {i j:Nat} (hi:i<n) (hj:j<n) (e:ls.getD i 0=ls.getD j 0):i=j:=by
 have h1:i<ls.length:=by rw [h.len];exact hi
 have h2:j<ls.length:=by rw [h.len];exact hj
 have e1:=xN h hi;have e2:=xN h hj;rw [e] at e1;have e3:ls[i]'h1=ls[j]'h2:=by
   rw [List.getElem?_eq_getElem h1] at e1;rw [List.getElem?_eq_getElem h2] at e2;exact Option.some.inj (e1.trans e2.symm)
 have nd:=List.pairwise_iff_getElem.mp h.nd;rcases Nat.lt_trichotomy i j with z|z|z
 . exact absurd e3 (nd i j h1 h2 z)
 . exact z
 . exact absurd e3.symm (nd j i h2 h1 z)
theorem Pq {n:Nat} {ls:List Int} {rows:List Row} {rs:List Road} (h1:1<=n) (h24:n<=24) (L:Labels n ls) (W:Rows (n - 1) rows) (P:Put ls rows rs):Good n rs where
 m1:=by omega
 m24:=by omega
 len:=by rw [P.len,W.len];omega
 ok:=fun r hr=>by
   obtain ⟨w,hw,rfl⟩:=P.of r hr;obtain ⟨i,hi⟩:=List.getElem?_of_mem hw;obtain ⟨ek,ok⟩:=W.ok i w hi;have hil:i<rows.length:=(List.getElem?_eq_some_iff.mp hi).1;rw [W.len] at hil;have hk:w.k.toNat<n:=by omega
   have hu:w.un.toNat<n:=by have:=ok.u0;have:=ok.u1;omega
   have r1:=L.rng _ (EX L hk);have r2:=L.rng _ (EX L hu);have ne:ls.getD w.k.toNat 0≠ls.getD w.un.toNat 0:=fun e=>by
     have:=K8 L hk hu e;have:=ok.u0;have:=ok.u1;omega
   unfold gH;by_cases c:w.sw=1
   . rw [if_pos c];exact ⟨r2.1,r2.2,r1.1,r1.2,ne.symm,ok.t0,ok.t1,ok.v0,ok.v1⟩
   . rw [if_neg c];exact ⟨r1.1,r1.2,r2.1,r2.2,ne,ok.t0,ok.t1,ok.v0,ok.v1⟩
 jn:=by
   intro S s0 hS;have key:∀ i:Nat,i<n->(S (ls.getD i 0)↔S (ls.getD 0 0)):=by
     intro i
     induction i using Nat.strongRecOn with
     | ind i ih =>
       intro hi;by_cases z:i=0
       . rw [z]
       . have hil:i - 1<rows.length:=(by rw [W.len];omega);obtain ⟨ek,ok⟩:=W.ok (i - 1) rows[i - 1] (List.getElem?_eq_getElem hil);have hm:=P.to rows[i - 1] (List.getElem_mem hil);have hr:=hS _ hm;have hk:(rows[i - 1]).k.toNat=i:=(by omega);have hu:(rows[i - 1]).un.toNat<i:=(by have:=ok.u0;have:=ok.u1;omega);have hh:=ih _ hu (by omega);unfold gH at hr;rw [hk] at hr;by_cases c:(rows[i - 1]).sw=1
         . rw [if_pos c] at hr;exact hr.symm.trans hh
         . rw [if_neg c] at hr;exact hr.trans hh
   have at_:∀ v,0<=v->v<(n:Int)->∃ i,i<n/\ls.getD i 0=v:=fun v h0 h1=>by
     obtain ⟨i,hi⟩:=List.getElem?_of_mem (L.all v h0 h1);have hil:i<n:=(by have:=(List.getElem?_eq_some_iff.mp hi).1;rw [L.len] at this;exact this);refine ⟨i,hil,?_⟩;have:=xN L hil;rw [hi] at this;exact (Option.some.inj this).symm
   intro v h0 hv;obtain ⟨i,hi,rfl⟩:=at_ v h0 hv;obtain ⟨j,hj,ej⟩:=at_ 0 (by omega) (by omega);refine (key i hi).mpr ((key j hj).mp ?_);rw [ej];exact s0
end Pb
set_option linter.all false
namespace Pb
def Adj (rs:List Road) (a b:Int):Prop:=∃ x∈rs,(x.a=a/\x.b=b)\/(x.b=a/\x.a=b)
theorem Adj.symm {rs:List Road} {a b:Int} (h:Adj rs a b):Adj rs b a:=by
 obtain ⟨x,hx,h⟩:=h;rcases h with ⟨h1,h2⟩|⟨h1,h2⟩
 . exact ⟨x,hx,.inr ⟨h2,h1⟩⟩
 . exact ⟨x,hx,.inl ⟨h2,h1⟩⟩
theorem yH {rs:List Road} {a b:Int}:b∈b7 rs a↔Adj rs a b:=pM
theorem Good.adj {m:Int} {rs:List Road} (g:Good m rs) {a b:Int} (h:Adj rs a b):(0<=a/\a<m)/\(0<=b/\b<m)/\a≠b:=by
 obtain ⟨x,hx,h⟩:=h;have k:=g.ok x hx;rcases h with ⟨h1,h2⟩|⟨h1,h2⟩
 . subst h1 h2;exact ⟨⟨k.a0,k.a1⟩,⟨k.b0,k.b1⟩,k.ne⟩
 . subst h1 h2;exact ⟨⟨k.b0,k.b1⟩,⟨k.a0,k.a1⟩,k.ne.symm⟩
theorem Good.from {m:Int} {rs:List Road} (g:Good m rs) {r:Int} (h0:0<=r) (h1:r<m) (S:Int->Prop) (sr:S r) (hS:∀ x∈rs,(S x.a↔S x.b)):∀ v,0<=v->v<m->S v:=by
 have key:∀ v,0<=v->v<m->(S v↔S 0):=g.jn (fun v=>S v↔S 0) Iff.rfl fun x hx=>by
   have:=hS x hx;exact ⟨fun h=>this.symm.trans h,fun h=>this.trans h⟩
 intro v a b;exact (key v a b).mpr ((key r h0 h1).mp sr)
inductive Dist (rs:List Road) (r:Int):Nat->Int->Prop
 | zero:Dist rs r 0 r
 | step {n:Nat} {u v:Int}:Dist rs r n u->Adj rs u v->Dist rs r (n+1) v
theorem Q5 {P:Nat->Prop}:∀ n,P n->∃ k,P k/\∀ j,j<k->¬ P j:=by
 intro n
 induction n using Nat.strongRecOn with
 | ind n ih =>
   intro h;by_cases z:∃ j,j<n/\P j
   . obtain ⟨j,hj,hp⟩:=z;exact ih j hj hp
   . exact ⟨n,h,fun j hj hp=>z ⟨j,hj,hp⟩⟩
structure Rooted (m:Int) (rs:List Road) (r:Int) (par:Int->Int) (dep:Int->Nat):Prop where
 root:dep r=0
 up:∀ v,0<=v->v<m->v≠r->(0<=par v/\par v<m)/\Adj rs v (par v)/\dep (par v)+1=dep v
 road:∀ x∈rs,(x.a≠r/\par x.a=x.b)\/(x.b≠r/\par x.b=x.a)
 one:(rs.map fun x=>if x.a≠r/\par x.a=x.b then x.a else x.b).Nodup
theorem Pj {n:Nat} {l:List Nat} (hn:l.Nodup) (hl:l.length=n) (hb:∀ x∈l,x<n):∀ i,i<n->i∈l:=by
 intro i hi;by_cases z:i∈l
 . exact z
 . have:=mN (l:=i::l) (l':=List.range n) (List.nodup_cons.mpr ⟨z,hn⟩) fun x hx=>by
     rcases List.mem_cons.mp hx with rfl|hx
     . exact List.mem_range.mpr hi
     . exact List.mem_range.mpr (hb x hx)
   rw [List.length_cons,List.length_range] at this;omega
theorem AZ {m:Int} {rs:List Road} (g:Good m rs) {r:Int} (h0:0<=r) (h1:r<m):∃ par dep,Rooted m rs r par dep:=by
 classical
 have reach:∀ v,0<=v->v<m->∃ n,Dist rs r n v:=g.from h0 h1 (fun v=>∃ n,Dist rs r n v) ⟨0,.zero⟩ fun x hx=>by
   constructor
   . rintro ⟨n,d⟩;exact ⟨n+1,d.step ⟨x,hx,.inl ⟨rfl,rfl⟩⟩⟩
   . rintro ⟨n,d⟩;exact ⟨n+1,d.step ⟨x,hx,.inr ⟨rfl,rfl⟩⟩⟩
 have hd:∀ v,∃ k,(0<=v/\v<m)->Dist rs r k v/\∀ j,j<k->¬ Dist rs r j v:=fun v=>by
   by_cases z:0<=v/\v<m
   . obtain ⟨n,d⟩:=reach v z.1 z.2;obtain ⟨k,h⟩:=Q5 (P:=fun k=>Dist rs r k v) n d;exact ⟨k,fun _=>h⟩
   . exact ⟨0,fun h=>absurd h z⟩
 let dep:Int->Nat:=fun v=>(hd v).choose
 have dspec:∀ v,0<=v->v<m->Dist rs r (dep v) v/\∀ j,j<dep v->¬ Dist rs r j v:=fun v a b=>(hd v).choose_spec ⟨a,b⟩;have dr:dep r=0:=by
   have:=(dspec r h0 h1).2 0;by_cases z:dep r=0
   . exact z
   . exact absurd Dist.zero (this (by omega))
 have hp:∀ v,∃ u,(0<=v/\v<m/\v≠r)->Adj rs v u/\dep u+1=dep v:=fun v=>by
   by_cases z:0<=v/\v<m/\v≠r
   . obtain ⟨a,b,c⟩:=z;obtain ⟨d,dm⟩:=dspec v a b;generalize hk:dep v=k at d dm;cases d with
     | zero=>exact absurd rfl c
     | @step n u _ d e =>
       refine ⟨u,fun _=>⟨e.symm,?_⟩⟩;obtain ⟨⟨u0,u1⟩,_⟩:=g.adj e;have l1:dep u<=n:=by
         by_cases w:dep u<=n
         . exact w
         . exact absurd d ((dspec u u0 u1).2 n (by omega))
       have l2:¬ dep u<n:=fun w=>dm (dep u+1) (by omega) ((dspec u u0 u1).1.step e);omega
   . exact ⟨0,fun h=>absurd h z⟩
 let par:Int->Int:=fun v=>(hp v).choose
 have pspec:∀ v,0<=v->v<m->v≠r->Adj rs v (par v)/\dep (par v)+1=dep v:=fun v a b c=>(hp v).choose_spec ⟨a,b,c⟩;have hi:∀ v,∃ i:Nat,(0<=v/\v<m/\v≠r)->∃ x,rs[i]?=some x/\((x.a=v/\x.b=par v)\/(x.b=v/\x.a=par v)):=fun v=>by
   by_cases z:0<=v/\v<m/\v≠r
   . obtain ⟨x,hx,h⟩:=(pspec v z.1 z.2.1 z.2.2).1;obtain ⟨i,e⟩:=List.getElem?_of_mem hx;exact ⟨i,fun _=>⟨x,e,h⟩⟩
   . exact ⟨0,fun h=>absurd h z⟩
 let ix:Int->Nat:=fun v=>(hi v).choose
 have ispec:∀ v,0<=v->v<m->v≠r->∃ x,rs[ix v]?=some x/\((x.a=v/\x.b=par v)\/(x.b=v/\x.a=par v)):=fun v a b c=>(hi v).choose_spec ⟨a,b,c⟩;have inj:∀ v u,0<=v->v<m->v≠r->0<=u->u<m->u≠r->ix v=ix u->v=u:=by
   intro v u a b c a' b' c' e;obtain ⟨x,hx,h⟩:=ispec v a b c;obtain ⟨y,hy,h'⟩:=ispec u a' b' c';rw [e,hy] at hx;cases hx;have d1:=(pspec v a b c).2;have d2:=(pspec u a' b' c').2;rcases h with ⟨p,q⟩|⟨p,q⟩ <;> rcases h' with ⟨p',q'⟩|⟨p',q'⟩
   . exact p.symm.trans p'
   . exfalso
     have e1:v=par u:=p.symm.trans q';have e2:u=par v:=p'.symm.trans q;rw [<- e1] at d2;rw [<- e2] at d1;omega
   . exfalso
     have e1:v=par u:=p.symm.trans q';have e2:u=par v:=p'.symm.trans q;rw [<- e1] at d2;rw [<- e2] at d1;omega
   . exact p.symm.trans p'
 let vs:List Int:=(below m.toNat).filter fun v=>decide (v≠r)
 have mv:∀ v,v∈vs↔(0<=v/\v<m/\v≠r):=fun v=>by
   rw [List.mem_filter,bM,decide_eq_true_eq]
   constructor
   . rintro ⟨⟨a,b⟩,c⟩;exact ⟨a,by omega,c⟩
   . rintro ⟨a,b,c⟩;exact ⟨⟨a,by omega⟩,c⟩
 have nv:vs.Nodup:=(d4 _).filter _;have lv:vs.length=rs.length:=by
   have e1:(r::vs).length<=(below m.toNat).length:=mN (List.nodup_cons.mpr ⟨fun h=>((mv r).mp h).2.2 rfl,nv⟩) fun x hx=>by
     rcases List.mem_cons.mp hx with rfl|hx
     . exact bM.mpr ⟨h0,by omega⟩
     . have:=(mv x).mp hx;exact bM.mpr ⟨this.1,by omega⟩
   have e2:(below m.toNat).length<=(r::vs).length:=mN (d4 _) fun x hx=>by
     have:=bM.mp hx;by_cases z:x=r
     . rw [z];exact List.mem_cons_self
     . exact List.mem_cons_of_mem _ ((mv x).mpr ⟨this.1,by omega,z⟩)
   rw [aU,List.length_cons] at e1 e2;have:=g.len;have:=g.m1;omega
 have il:(vs.map ix).Nodup:=by
   have:∀ (l:List Int),l.Nodup->(∀ v∈l,0<=v/\v<m/\v≠r)->(l.map ix).Nodup:=by
     intro l
     induction l with
     | nil=>intro _ _;simp
     | cons v l ih =>
       intro hn hm;obtain ⟨n1,n2⟩:=List.nodup_cons.mp hn;rw [List.map_cons];refine List.nodup_cons.mpr ⟨fun z=>?_,ih n2 fun u hu=>hm u (List.mem_cons_of_mem _ hu)⟩;obtain ⟨u,hu,e⟩:=List.mem_map.mp z;obtain ⟨a,b,c⟩:=hm v List.mem_cons_self;obtain ⟨a',b',c'⟩:=hm u (List.mem_cons_of_mem _ hu);exact n1 (inj u v a' b' c' a b c e ▸ hu)
   exact this vs nv fun v hv=>(mv v).mp hv
 have ib:∀ i∈vs.map ix,i<rs.length:=fun i hi'=>by
   obtain ⟨v,hv,rfl⟩:=List.mem_map.mp hi';obtain ⟨a,b,c⟩:=(mv v).mp hv;obtain ⟨x,hx,_⟩:=ispec v a b c;exact (List.getElem?_eq_some_iff.mp hx).1
 have all:=Pj il (by rw [List.length_map,lv]) ib;have back:∀ i x,rs[i]?=some x->∃ v,(0<=v/\v<m/\v≠r)/\ix v=i/\((x.a=v/\x.b=par v)\/(x.b=v/\x.a=par v)):=fun i x e=>by
   obtain ⟨v,hv,rfl⟩:=List.mem_map.mp (all i (List.getElem?_eq_some_iff.mp e).1);obtain ⟨a,b,c⟩:=(mv v).mp hv;obtain ⟨y,hy,h⟩:=ispec v a b c;rw [e] at hy;cases hy;exact ⟨v,⟨a,b,c⟩,rfl,h⟩
 have noback:∀ v,0<=v->v<m->v≠r->par v≠r->par (par v)≠v:=fun v a b c c' z=>by
   have d1:=pspec v a b c;obtain ⟨_,⟨a',b'⟩,_⟩:=g.adj d1.1;have d2:=pspec (par v) a' b' c';rw [z] at d2;omega
 have kid:∀ i x,rs[i]?=some x->∃ v,(0<=v/\v<m/\v≠r)/\ix v=i/\(if x.a≠r/\par x.a=x.b then x.a else x.b)=v:=fun i x e=>by
   obtain ⟨v,⟨a,b,c⟩,hv,h⟩:=back i x e;refine ⟨v,⟨a,b,c⟩,hv,?_⟩;rcases h with ⟨p,q⟩|⟨p,q⟩
   . rw [if_pos ⟨by rw [p];exact c,by rw [p];exact q.symm⟩];exact p
   . rw [if_neg]
     . exact p
     . rintro ⟨z1,z2⟩;rw [q] at z1 z2;exact noback v a b c z1 (z2.trans p)
 refine ⟨par,dep,dr,fun v a b c=>?_,fun x hx=>?_,?_⟩
 . obtain ⟨p,q⟩:=pspec v a b c;obtain ⟨_,w,_⟩:=g.adj p;exact ⟨w,p,q⟩
 . obtain ⟨i,e⟩:=List.getElem?_of_mem hx;obtain ⟨v,⟨a,b,c⟩,_,h⟩:=back i x e;rcases h with ⟨p,q⟩|⟨p,q⟩
   . exact .inl ⟨by rw [p];exact c,by rw [p];exact q.symm⟩
   . exact .inr ⟨by rw [p];exact c,by rw [p];exact q.symm⟩
 . refine List.pairwise_iff_getElem.mpr fun i j hi' hj' lt=>?_;rw [List.length_map] at hi' hj';rw [List.getElem_map,List.getElem_map];intro z;obtain ⟨v,_,e1,k1⟩:=kid i rs[i] (List.getElem?_eq_getElem hi');obtain ⟨u,_,e2,k2⟩:=kid j rs[j] (List.getElem?_eq_getElem hj');rw [k1,k2] at z;rw [z] at e1;omega
theorem IJ {m:Int} {rs:List Road} (g:Good m rs) {p:Int} (h0:0<=p) (h1:p<m):(b7 rs p).Nodup:=by
 obtain ⟨par,dep,R⟩:=AZ g h0 h1;have one:=R.one;have ok:=g.ok;have road:=R.road;clear R g
 induction rs with
 | nil=>simp [b7]
 | cons x l ih =>
   have ox:=ok x List.mem_cons_self;have ol:∀ y∈l,RoadOk m y:=fun y hy=>ok y (List.mem_cons_of_mem _ hy);rw [List.map_cons] at one;obtain ⟨n1,n2⟩:=List.nodup_cons.mp one;have il:=ih n2 ol fun y hy=>road y (List.mem_cons_of_mem _ hy);have e:b7 (x::l) p=qI p x++b7 l p:=by unfold b7;rw [List.flatMap_cons]
   rw [e];have kid:∀ y,RoadOk m y->((y.a≠p/\par y.a=y.b)\/(y.b≠p/\par y.b=y.a))->(y.a=p->(if y.a≠p/\par y.a=y.b then y.a else y.b)=y.b)/\(y.b=p->(if y.a≠p/\par y.a=y.b then y.a else y.b)=y.a):=fun y oy hy=>by
     constructor
     . intro z;rw [if_neg (fun w=>w.1 z)]
     . intro z;rcases hy with hy|hy
       . rw [if_pos hy]
       . exact absurd z hy.1
   have kx:=kid x ox (road x List.mem_cons_self);have inl:∀ e∈b7 l p,e∈l.map fun y=>if y.a≠p/\par y.a=y.b then y.a else y.b:=fun e he=>by
     obtain ⟨y,hy,h⟩:=pM.mp he;have ky:=kid y (ol y hy) (road y (List.mem_cons_of_mem _ hy));refine List.mem_map.mpr ⟨y,hy,?_⟩;rcases h with ⟨p1,q1⟩|⟨p1,q1⟩
     . rw [ky.1 p1];exact q1
     . rw [ky.2 p1];exact q1
   unfold qI;by_cases c:x.a=p
   . have d:¬ x.b=p:=fun z=>ox.ne (c.trans z.symm);rw [if_pos c,if_neg d,List.append_nil];refine List.nodup_cons.mpr ⟨fun z=>n1 ?_,il⟩;rw [kx.1 c];exact inl _ z
   . rw [if_neg c,List.nil_append];by_cases d:x.b=p
     . rw [if_pos d];refine List.nodup_cons.mpr ⟨fun z=>n1 ?_,il⟩;rw [kx.2 d];exact inl _ z
     . rw [if_neg d];exact il
def fJ (m:Int) (rs:List Road) (p:Int):List Int:=(below m.toNat).filter fun q=>decide (q∈b7 rs p)
theorem CS:∀ {l l':List Int},l.Perm l'->l.Pairwise (·<=·)->l'.Pairwise (·<=·)->l=l'
 | [],l',p,_,_=>(List.Perm.nil_eq p)
 | a::l,l',p,h,h'=>by
   cases l' with
   | nil=>exact absurd p.symm.nil_eq (by simp)
   | cons b r =>
     obtain ⟨h1,h2⟩:=List.pairwise_cons.mp h;obtain ⟨h1',h2'⟩:=List.pairwise_cons.mp h';have e:a=b:=by
       have ma:a∈b::r:=p.subset List.mem_cons_self;have mb:b∈a::l:=p.symm.subset List.mem_cons_self;rcases List.mem_cons.mp ma with z|z
       . exact z
       . rcases List.mem_cons.mp mb with w|w
         . exact w.symm
         . have:=h1 b w;have:=h1' a z;omega
     subst e;rw [CS (List.Perm.cons_inv p) h2 h2']
theorem Fi (n:Nat):(below n).Pairwise (·<=·):=by
 unfold below;refine List.Pairwise.map _ (fun a b (h:a<b)=>?_) List.pairwise_lt_range;omega
theorem Go (m:Int) (rs:List Road) (p:Int):(fJ m rs p).Pairwise (·<=·):=(Fi _).filter _
theorem zW (m:Int) (rs:List Road) (p:Int):(fJ m rs p).Nodup:=(d4 _).filter _
theorem jr {m:Int} {rs:List Road} (g:Good m rs) {p q:Int}:q∈fJ m rs p↔Adj rs p q:=by
 unfold fJ;rw [List.mem_filter,decide_eq_true_eq,yH,bM]
 constructor
 . exact fun h=>h.2
 . intro h;obtain ⟨_,⟨a,b⟩,_⟩:=g.adj h;exact ⟨⟨a,by omega⟩,h⟩
theorem fM:∀ {l l':List Int},l.Nodup->l'.Nodup->(∀ x,x∈l↔x∈l')->l.Perm l'
 | [],l',_,_,h=>by
   cases l' with
   | nil=>exact .nil
   | cons b r=>exact absurd ((h b).mpr List.mem_cons_self) (by simp)
 | a::l,l',n,n',h=>by
   obtain ⟨n1,n2⟩:=List.nodup_cons.mp n;have ma:a∈l':=(h a).mp List.mem_cons_self;refine List.Perm.trans (List.Perm.cons a ?_) (List.perm_cons_erase ma).symm;refine fM n2 (n'.erase a) fun x=>?_
   constructor
   . intro hx;have ne:x≠a:=fun z=>n1 (z ▸ hx);exact (List.mem_erase_of_ne ne).mpr ((h x).mp (List.mem_cons_of_mem _ hx))
   . intro hx;have:x≠a:=fun z=>by
       subst z;exact (List.Nodup.not_mem_erase n') hx
     rcases List.mem_cons.mp ((h x).mpr (List.mem_of_mem_erase hx)) with z|z
     . exact absurd z this
     . exact z
theorem Ps {m:Int} {rs:List Road} (g:Good m rs) {p:Int} (h0:0<=p) (h1:p<m) {zs:List Int} (hp:zs.Perm (b7 rs p)) (hs:zs.Pairwise (·<=·)):zs=fJ m rs p:=by
 refine CS (hp.trans (fM (IJ g h0 h1) (zW m rs p) fun x=>?_)) hs (Go m rs p);rw [jr g,yH]
def di (a b:Int) (x:Road):Option Int:=if x.a=a/\x.b=b then some x.t else if x.a=b/\x.b=a then some x.u else none
def aE (rs:List Road) (a b:Int):Option Int:=rs.findSome? (di a b)
theorem zr {rs:List Road} {a b:Int}:(aE rs a b).isSome=true↔Adj rs a b:=by
 unfold aE;rw [List.findSome?_isSome_iff]
 constructor
 . rintro ⟨x,hx,h⟩;unfold di at h;by_cases c:x.a=a/\x.b=b
   . exact ⟨x,hx,.inl c⟩
   . rw [if_neg c] at h;by_cases d:x.a=b/\x.b=a
     . exact ⟨x,hx,.inr ⟨d.2,d.1⟩⟩
     . rw [if_neg d] at h;cases h
 . rintro ⟨x,hx,h⟩;refine ⟨x,hx,?_⟩;unfold di;rcases h with h|h
   . rw [if_pos h];rfl
   . by_cases c:x.a=a/\x.b=b
     . rw [if_pos c];rfl
     . rw [if_neg c,if_pos ⟨h.2,h.1⟩];rfl
def lM (x:Road) (a b:Int):Prop:=(x.a=a/\x.b=b)\/(x.b=a/\x.a=b)
theorem CY {m:Int} {rs:List Road} (g:Good m rs) {a b:Int} {i j:Nat} {x y:Road} (hi:rs[i]?=some x) (hj:rs[j]?=some y) (jx:lM x a b) (jy:lM y a b):i=j:=by
 obtain ⟨⟨a0,a1⟩,_,_⟩:=g.adj (show Adj rs a b from ⟨x,List.mem_of_getElem? hi,jx⟩);obtain ⟨par,dep,R⟩:=AZ g a0 a1;have kid:∀ z∈rs,lM z a b->(if z.a≠a/\par z.a=z.b then z.a else z.b)=b:=fun z hz jz=>by
   rcases jz with ⟨p,q⟩|⟨p,q⟩
   . rw [if_neg (fun w=>w.1 p)];exact q
   . rcases R.road z hz with w|w
     . rw [if_pos w];exact q
     . exact absurd p w.1
 have li:=(List.getElem?_eq_some_iff.mp hi);have lj:=(List.getElem?_eq_some_iff.mp hj);obtain ⟨li,ei⟩:=li;obtain ⟨lj,ej⟩:=lj;have nd:=List.pairwise_iff_getElem.mp R.one;have vi:(rs.map fun z=>if z.a≠a/\par z.a=z.b then z.a else z.b)[i]'(by rw [List.length_map];exact li)=b:=by
   rw [List.getElem_map];exact kid _ (List.getElem_mem li) (ei ▸ jx)
 have vj:(rs.map fun z=>if z.a≠a/\par z.a=z.b then z.a else z.b)[j]'(by rw [List.length_map];exact lj)=b:=by
   rw [List.getElem_map];exact kid _ (List.getElem_mem lj) (ej ▸ jy)
 rcases Nat.lt_trichotomy i j with z|z|z
 . exact absurd (vi.trans vj.symm) (nd i j _ _ z)
 . exact z
 . exact absurd (vj.trans vi.symm) (nd j i _ _ z)
theorem Je {a b:Int} {x:Road} (h:¬ lM x a b):di a b x=none:=by
 unfold di;rw [if_neg (fun z=>h (.inl z)),if_neg (fun z=>h (.inr ⟨z.2,z.1⟩))]
theorem qX {m:Int} {rs:List Road} (g:Good m rs) {a b:Int} {i:Nat} {x:Road} (hi:rs[i]?=some x) (j:lM x a b):aE rs a b=di a b x:=by
 have lt:=(List.getElem?_eq_some_iff.mp hi);obtain ⟨lt,ex⟩:=lt;have e:rs=rs.take i++x::rs.drop (i+1):=by rw [<- ex,List.getElem_cons_drop,List.take_append_drop]
 have pre:aE (rs.take i) a b=none:=by
   unfold aE;rw [List.findSome?_eq_none_iff];intro y hy;refine Je fun jy=>?_;obtain ⟨k,hk⟩:=List.getElem?_of_mem hy;have lk:=(List.getElem?_eq_some_iff.mp hk).1;rw [List.length_take] at lk;rw [List.getElem?_take_of_lt (by omega)] at hk;have:=CY g hk hi jy j;omega
 have hx:(di a b x).isSome=true:=by
   unfold di;rcases j with z|z
   . rw [if_pos z];rfl
   . by_cases c:x.a=a/\x.b=b
     . rw [if_pos c];rfl
     . rw [if_neg c,if_pos ⟨z.2,z.1⟩];rfl
 obtain ⟨v,hv⟩:=Option.isSome_iff_exists.mp hx;have:aE (rs.take i++x::rs.drop (i+1)) a b=di a b x:=by
   unfold aE at pre ⊢;rw [List.findSome?_append,pre,List.findSome?_cons,hv]
   rfl
 rw [<- e] at this;exact this
theorem KH {rs:List Road} {a b:Int} (h:¬ Adj rs a b):aE rs a b=none:=by
 cases q:aE rs a b with
 | none=>rfl
 | some v=>exact absurd (zr.mp (by rw [q];rfl)) h
theorem Lr {x:Road} (h:x.a≠x.b):di x.a x.b x=some x.t:=by unfold di;rw [if_pos ⟨rfl,rfl⟩]
theorem Oe {x:Road} (h:x.a≠x.b):di x.b x.a x=some x.u:=by unfold di;rw [if_neg (fun z=>h z.1),if_pos ⟨rfl,rfl⟩]
theorem Jx {m:Int} {rs:List Road} (p:Int):fJ m rs p=(below m.toNat).filter fun q=>(aE rs p q).isSome:=by
 unfold fJ
 congr 1
 funext q
 rw [Bool.eq_iff_iff,decide_eq_true_eq,zr,yH]
section
variable {m:Int} {row:List Int} {rs rs':List Road}
end
end Pb
set_option Elab.async false
set_option linter.all false
set_option maxRecDepth 100000
namespace L2
open PySem PySem.Spec PyProof.Rows
def aX (CX:CXT):Prop:=∀ outer H s e s',¬ CX outer H s E0 e s'
theorem aY {CX:CXT} (q:aX CX) {X:Cx}:sS CX X E0:=fun _ _ _ _ _ _ _ h=>(q _ _ _ _ _ h).elim
structure Df (K:PySem.W.Frag) (mg:Str->Option Value) (x:Str) (st:Stmt) (ps:List Str) (f:Addr) (fd:FuncData):Prop where
 F:Fun K x x st f fd
 m:mg x=some (.ref f)
 b:Binds K fd ps []
section
variable {P:Program} {w:World} {K:PySem.W.Frag} {mg:Str->Option Value} {base:Heap} {CX:CXT}
theorem Fun.okC {x qual:Str} {st:Stmt} {f:Addr} {fd:FuncData} {N ps:List Str} {k:Nat} {sp:Sp} (F:Fun K x qual st f fd) (S:FnScope N ps (aa st)) (len:∀ vs H Q E,sp vs H Q E->vs.length=ps.length)
   (hbody:∀ (cdv:Value) (A:Around) (outer:List Env) (s:Shared) (H:Hp) (vs:List V) (Q:VK) (E:XK),Room k (A.deeper (envOfC qual (aa st) s.heap.objs.size f cdv))->sp vs H Q E ->
     ∃ t,PSs (nN CX P w K mg base N qual (aa st) f cdv A outer s H E).nox (az st) t/\t { nx:=fun _ H'=>Q .non H',rt:=Q } (start N vs) H):FnOk P w K mg base CX (k+1) f fd ps sp:=by
 obtain ⟨oc,od,kV,doc,pm,an,cdv,ct,osl,rfl,lk,hcd⟩:=F.ex;refine Os lk hcd S len fun A outer s H vs Q E hr hsp=>?_;obtain ⟨t,h,q⟩:=hbody cdv A outer s H vs Q E hr hsp;exact ⟨t,h.nox,q⟩
end
structure NmL (sc:Scope) (x:Str):Prop where
 l:sc.names.lookup x=some .local
 d:(x == ("__debug__":Str))=false
 c:(x == ("__classdict__":Str))=false
structure NmC (sc:Scope) (x:Str):Prop where
 l:sc.names.lookup x=some .cell
 d:(x == ("__debug__":Str))=false
 c:(x == ("__classdict__":Str))=false
structure NmG (sc:Scope) (x:Str):Prop where
 g:sc.names.lookup x=some .globalImplicit
 d:(x == ("__debug__":Str))=false
 n:x≠"__name__"
theorem us1 {us:List Value} (h:us.length=1):∃ a0,us=[a0]:=List.length_eq_one_iff.mp h
theorem us2 {us:List Value} (h:us.length=2):∃ a0 a1,us=[a0,a1]:=by
 cases us with
 | nil=>cases h
 | cons a0 t =>
   obtain ⟨a1,e⟩:=us1 (Nat.succ.inj h);subst e;exact ⟨a0,a1,rfl⟩
theorem us3 {us:List Value} (h:us.length=3):∃ a0 a1 a2,us=[a0,a1,a2]:=by
 cases us with
 | nil=>cases h
 | cons a0 t =>
   obtain ⟨a1,a2,e⟩:=us2 (Nat.succ.inj h);subst e;exact ⟨a0,a1,a2,rfl⟩
theorem us4 {us:List Value} (h:us.length=4):∃ a0 a1 a2 a3,us=[a0,a1,a2,a3]:=by
 cases us with
 | nil=>cases h
 | cons a0 t =>
   obtain ⟨a1,a2,a3,e⟩:=us3 (Nat.succ.inj h);subst e;exact ⟨a0,a1,a2,a3,rfl⟩
theorem us5 {us:List Value} (h:us.length=5):∃ a0 a1 a2 a3 a4,us=[a0,a1,a2,a3,a4]:=by
 cases us with
 | nil=>cases h
 | cons a0 t =>
   obtain ⟨a1,a2,a3,a4,e⟩:=us4 (Nat.succ.inj h);subst e;exact ⟨a0,a1,a2,a3,a4,rfl⟩
def nmL (sc:Scope) (x:Str):Bool:=decide (sc.names.lookup x=some .local) && !(x == ("__debug__":Str)) && !(x == ("__classdict__":Str))
def nmC (sc:Scope) (x:Str):Bool:=decide (sc.names.lookup x=some .cell) && !(x == ("__debug__":Str)) && !(x == ("__classdict__":Str))
def nmG (sc:Scope) (x:Str):Bool:=decide (sc.names.lookup x=some .globalImplicit) && !(x == ("__debug__":Str)) && !decide (x="__name__")
theorem NmL.of {sc:Scope} {x:Str} (h:nmL sc x=true):NmL sc x:=by
 unfold nmL at h;simp only [Bool.and_eq_true,decide_eq_true_eq,Bool.not_eq_true'] at h;exact ⟨h.1.1,h.1.2,h.2⟩
theorem NmC.of {sc:Scope} {x:Str} (h:nmC sc x=true):NmC sc x:=by
 unfold nmC at h;simp only [Bool.and_eq_true,decide_eq_true_eq,Bool.not_eq_true'] at h;exact ⟨h.1.1,h.1.2,h.2⟩
theorem NmG.of {sc:Scope} {x:Str} (h:nmG sc x=true):NmG sc x:=by
 unfold nmG at h;simp only [Bool.and_eq_true,decide_eq_true_eq,Bool.not_eq_true',decide_eq_false_iff_not] at h;exact ⟨h.1.1,h.1.2,h.2⟩
def PX (N ps:List Str) (sc:Scope):Bool:=decide (sc.kind=.function) && !sc.isCoroutine && !sc.isGenerator && decide N.Nodup && decide (N.take ps.length=ps) && (ps.all fun x=>decide (sc.names.lookup x=some .local\/sc.names.lookup x=some .cell)) && (sc.names.all fun y=>decide (y.2≠.free))
theorem FnScope.of {N ps:List Str} {sc:Scope} (h:PX N ps sc=true):FnScope N ps sc:=by
 unfold PX at h;simp only [Bool.and_eq_true,decide_eq_true_eq,Bool.not_eq_true',List.all_eq_true] at h;obtain ⟨⟨⟨⟨⟨⟨h1,h2⟩,h3⟩,h4⟩,h5⟩,h6⟩,h7⟩:=h;exact ⟨h1,h2,h3,h4,h5,h6,h7⟩
theorem pvl {X:Cx} (i:Nat) {x:Str} {pos:Pos} (n:NmL X.env.scope x) (hN:X.N[i]?=some x:=by rfl):PE X (.Name x pos) (B8 i):=Ed hN (.inl n.l) n.d n.c
theorem pvc {X:Cx} (i:Nat) {x:Str} {pos:Pos} (n:NmC X.env.scope x) (hN:X.N[i]?=some x:=by rfl):PE X (.Name x pos) (B8 i):=Ed hN (.inr (.inl n.l)) n.d n.c
theorem Ku {CX:CXT} {P:Program} {w:World} {K:PySem.W.Frag} {mg:Str->Option Value} {base:Heap} {N:List Str} {qual:Str} {scope:Scope} {f:Addr} {cd:Value} {A:Around} {outer:List Env} {s:Shared} {H:Hp} {E:XK} :
   (nN CX P w K mg base N qual scope f cd A outer s H E).K=K:=rfl
theorem CF (D:Ends) (σ:St) (H:Hp):tNever D σ H=False:=rfl
theorem OP (i j:Int):pZ (.int i) (.int j)=true:=rfl
theorem OT (i j:Bool):pZ (.bl i) (.bl j)=true:=rfl
theorem O8 (i:Int):pZ (.int i) .non=true:=rfl
theorem OG (i:Int):pZ .non (.int i)=true:=rfl
theorem O6:pZ .non .non=true:=rfl
theorem O1 (i j:Str):pZ (.str i) (.str j)=true:=rfl
theorem ixT {K:PySem.W.Frag} {H:Hp} {p:Addr} {xs:List V} {i:Int} {v:V} {Q:VK} (h:H p=some (.tup xs)) (e:atI xs i=some v) (q:Q v H):QC K (.ref p) (.int i) H Q:=⟨p,xs,i,v,rfl,rfl,SqT.of h,e,q⟩
theorem ixL {K:PySem.W.Frag} {H:Hp} {p:Addr} {xs:List V} {i:Int} {v:V} {Q:VK} (h:H p=some (.lst xs)) (e:atI xs i=some v) (q:Q v H):E2 K (.ref p) (.int i) H Q:=⟨p,xs,i,v,rfl,rfl,SqL.of h,e,q⟩
theorem ixS {K:PySem.W.Frag} {H:Hp} {p:Addr} {xs:List V} {i:Int} {v:V} {Q:VK} (h:SqL K H p xs) (e:atI xs i=some v) (q:Q v H):E2 K (.ref p) (.int i) H Q:=⟨p,xs,i,v,rfl,rfl,h,e,q⟩
theorem tyL {K:PySem.W.Frag} {H:Hp} {l:Addr} {xs:List V} (h:H l=some (.lst xs)):tyV K "list" (.ref l) H:=.inl ⟨rfl,_,SqL.of h⟩
theorem tG {H:Hp} {l:Addr} {xs:List V} {y:V} {Q:VK} (h:H l=some (.lst xs)) (hz:xs.length<sizeLine) (q:Q .non (upd H l (.lst (xs++[y])))):rAppend (.ref l) [y] H Q:=⟨l,xs,y,rfl,rfl,h,hz,q⟩
theorem Mi {H:Hp} {l:Addr} {xs:List V} {y:V} {Q:VK} (h:H l=some (.lst (xs++[y]))) (q:Q y (upd H l (.lst xs))):rPop (.ref l) [] H Q :=
 ⟨l,xs++[y],y,rfl,rfl,h,by simp,by rw [List.dropLast_concat];exact q⟩
theorem dI {n:Nat} (h:n<=100000):n<sizeLine:=Nat.lt_of_le_of_lt h (by decide)
theorem bK {n:Nat} (h:n<=100000):n<=sizeLine:=Nat.le_of_lt (dI h)
theorem iH {α:Type} {xs:List α} {i:Int} {v:α} (h0:0<=i) (h:xs[i.toNat]?=some v):atI xs i=some v:=by
 obtain ⟨n,rfl⟩:∃ n:Nat,i=n:=⟨i.toNat,by omega⟩;exact G9 (by simpa using h)
theorem zD {X:Cx} {x:Str} {i:Int} {pos:Pos} (hg:Gl X x) (hm:∃ t,X.mg x=some (.int i t)) (hd:(x == ("__debug__":Str))=false:=by decide):PE X (.Name x pos) (tC (.int i)):=by
 obtain ⟨t,e⟩:=hm;exact OZ hg e ⟨t,rfl⟩ hd
def Itx (K:PySem.W.Frag):Bool->Addr->It
 | true,a=>Itl K a
 | false,a=>Itt K a
def MQ (K:PySem.W.Frag) (c:Bool) (tl:TE):TI:=fun σ H R=>tl σ H fun x H1=>∃ a,x=.ref a/\(∃ xs,SqX K c H1 a xs)/\R (Itx K c a) H1
theorem JN {X:Cx} {tg l:Expr} {tl:TE} (c:Bool) (hl:PE X l tl):PI X tg l (MQ X.K c tl):=by
 cases c
 . exact vW hl
 . exact gQ hl
def sv (J:It) (p:Addr) (Q:VK) (g:TG) (tc:TT) (te:TE) (σ0:St) (H0:Hp):Prop :=
 ∃ W:Nat->Nat->List V->St->Hp->Prop,(∃ m,W 0 m [] σ0 H0)/\∀ i m ys σc Hc,W i m ys σc Hc ->
   (J.stop i Hc/\Q (.ref p) Hc)\/(J.go i Hc/\∀ x H',J.yld i Hc x H'->g x σc H' fun σ2 H2=>tc σ2 H2 fun b H3 =>
     if b=true then te σ2 H3 fun y H4=>H4 p=some (.lst ys)/\ys.length<sizeLine/\∃ m',m'<m/\W (i+1) m' (ys++[y]) σ2 (upd H4 p (.lst (ys++[y])))
     else ∃ m',m'<m/\W (i+1) m' ys σ2 H3)
theorem CC {own:Nat} {js:List Nat} {wi:TI} {g:TG} {tc:TT} {te:TE} {σ:St} {H:Hp} {Q:VK}:HF own js wi g tc te σ H Q=wi σ H fun J H1=>∀ p,H1 p=none->sv J p Q g tc te (hW own js σ) (upd H1 p (.lst [])):=rfl
def qP (J:It) (D:Ends) (g:TG) (tb:TS) (σ:St) (H:Hp):Prop:=∃ W:Nat->Nat->St->Hp->Prop,(∃ m,W 0 m σ H)/\∀ i m σ H,W i m σ H ->
 (J.stop i H/\D.nx σ H)\/(J.go i H/\∃ N:St->Hp->Prop,(∀ σ' H',N σ' H'->∃ m',m'<m/\W (i+1) m' σ' H')/\∀ x H',J.yld i H x H'->g x σ H' fun σ2 H2=>tb { D with nx:=N,ct:=N,bk:=D.nx } σ2 H2)
theorem Gx {wi:TI} {g:TG} {tb:TS} {D:Ends} {σ:St} {H:Hp}:Qm wi g tb D σ H=wi σ H fun J H1=>qP J D g tb σ H1:=rfl
theorem uQ {K:PySem.W.Frag} {c:Bool} {a p:Addr} {xs:List V} {Q:VK} {g:TG} {tc:TT} {te:TE} {σ0:St} {H0:Hp} (Pv:Nat->List V->St->Hp->Prop) (h0:Pv 0 [] σ0 H0) (hl:∀ i ys σ H,i<=xs.length->Pv i ys σ H->SqX K c H a xs)
   (hs:∀ (i:Nat) (x:V) (ys:List V) (σ:St) (H:Hp) (N:List V->St->Hp->Prop),(∀ ys' σ' H',Pv (i+1) ys' σ' H'->N ys' σ' H')->xs[i]?=some x->Pv i ys σ H->g x σ H fun σ2 H2=>tc σ2 H2 fun b H3 =>
     if b=true then te σ2 H3 fun y H4=>H4 p=some (.lst ys)/\ys.length<sizeLine/\N (ys++[y]) σ2 (upd H4 p (.lst (ys++[y]))) else N ys σ2 H3)
   (hd:∀ ys σ H,Pv xs.length ys σ H->Q (.ref p) H):sv (Itx K c a) p Q g tc te σ0 H0:=by
 refine ⟨fun i m ys σ H=>m=xs.length - i/\i<=xs.length/\Pv i ys σ H,⟨xs.length,by simp,Nat.zero_le _,h0⟩,?_⟩;rintro i m ys σ H ⟨rfl,hi,pv⟩;have q:=hl i ys σ H hi pv;by_cases hlt:i<xs.length
 . refine .inr ⟨?_,fun x H' y=>?_⟩
   . cases c
     . exact ⟨xs,xs[i],q,by simp [hlt]⟩
     . exact ⟨xs,xs[i],q,by simp [hlt]⟩
   . have e:H'=H/\xs[i]?=some x:=by
       cases c
       . exact ⟨y.1,y.2 xs q⟩
       . exact ⟨y.1,y.2 xs q⟩
     obtain ⟨rfl,hx⟩:=e;exact hs i x ys σ _ (fun ys' σ' H'=>∃ m',m'<xs.length - i/\(m'=xs.length - (i+1)/\i+1<=xs.length/\Pv (i+1) ys' σ' H')) (fun ys' σ' H' pv'=>⟨xs.length - (i+1),by omega,rfl,hlt,pv'⟩) hx pv
 . have e:i=xs.length:=by omega
   subst e;refine .inl ⟨?_,hd ys σ H pv⟩;cases c
   . exact ⟨xs,q,Nat.le_refl _⟩
   . exact ⟨xs,q,Nat.le_refl _⟩
theorem zU {lo:Int} {n:Nat} {p:Addr} {Q:VK} {g:TG} {tc:TT} {te:TE} {σ0:St} {H0:Hp} (Pv:Nat->List V->St->Hp->Prop) (h0:Pv 0 [] σ0 H0)
   (hs:∀ (i:Nat) (ys:List V) (σ:St) (H:Hp) (N:List V->St->Hp->Prop),(∀ ys' σ' H',Pv (i+1) ys' σ' H'->N ys' σ' H')->i<n->Pv i ys σ H->g (.int (lo+i)) σ H fun σ2 H2=>tc σ2 H2 fun b H3 =>
     if b=true then te σ2 H3 fun y H4=>H4 p=some (.lst ys)/\ys.length<sizeLine/\N (ys++[y]) σ2 (upd H4 p (.lst (ys++[y]))) else N ys σ2 H3)
   (hd:∀ ys σ H,Pv n ys σ H->Q (.ref p) H):sv (Itr lo n) p Q g tc te σ0 H0:=by
 refine ⟨fun i m ys σ H=>m=n - i/\i<=n/\Pv i ys σ H,⟨n,by simp,Nat.zero_le _,h0⟩,?_⟩;rintro i m ys σ H ⟨rfl,hi,pv⟩;by_cases hlt:i<n
 . refine .inr ⟨hlt,fun x H' y=>?_⟩;obtain ⟨rfl,rfl⟩:=y;exact hs i ys σ _ (fun ys' σ' H'=>∃ m',m'<n - i/\(m'=n - (i+1)/\i+1<=n/\Pv (i+1) ys' σ' H')) (fun ys' σ' H' pv'=>⟨n - (i+1),by omega,rfl,hlt,pv'⟩) hlt pv
 . have e:i=n:=by omega
   subst e;exact .inl ⟨Nat.le_refl _,hd ys σ H pv⟩
theorem p7:bootBuiltins "len"=some (.builtin "len"):=by decide +kernel
theorem vg:bootBuiltins "isinstance"=some (.builtin "isinstance"):=by decide +kernel
theorem Qd:bootBuiltins "all"=some (.builtin "all"):=by decide +kernel
theorem Kc:bootBuiltins "sorted"=some (.builtin "sorted"):=by decide +kernel
theorem P5:bootBuiltins "int"=some (.type "int"):=by decide +kernel
theorem BQ:bootBuiltins "list"=some (.type "list"):=by decide +kernel
theorem tz:bootBuiltins "tuple"=some (.type "tuple"):=by decide +kernel
theorem Pw:bootBuiltins "bool"=some (.type "bool"):=by decide +kernel
section
variable {X:Cx} {a b o e:Expr} {es:List Expr} {ta tb to:TE} {t:TA} {pos apos cpos:Pos} {f name:Str} {T id:String} {r:V->List V->Hp->VK->Prop}
theorem Bs (K:PySem.W.Frag) (h:X.K=K):lV X (.type "tuple") (fun xs H Q=>∃ p ys,xs=[.ref p]/\((SqL K H p ys/\∀ l,H l=none->Q (.ref l) (upd H l (.tup ys)))\/(SqT K H p ys/\Q (.ref p) H))):=by subst h;exact kb
theorem LN (K:PySem.W.Frag) (h:X.K=K):IxR X (E2 K):=by subst h;exact bJ
end
theorem zY {x:Str} {k:NameKind}:∀ {l:List (Str × NameKind)},l.lookup x=some k->∃ y,(y,k)∈l
 | [],h=>by simp at h
 | (n,j)::r,h=>by
   rw [List.lookup_cons] at h;cases q:x == n with
   | true =>
     rw [q] at h;cases h;exact ⟨n,List.mem_cons_self⟩
   | false =>
     rw [q] at h;obtain ⟨y,hy⟩:=zY h;exact ⟨y,List.mem_cons_of_mem _ hy⟩
theorem zo {X:Cx} {Nc:List Str} {scope:Scope} (own:Nat) (hf:∀ y∈scope.names,y.2≠.free) (hc:∀ y∈scope.names,y.2≠.cell) (hk:scope.kind=.function) (hn:∀ y∈scope.names,y.2=.local->scope.names.lookup y.1=some .local)
   (hl:Nc.length=own):CompTxt X Nc own [] scope [] where
 clos:=closureFor_none hf
 kind:=hk
 nocell:=hc
 names:=hn
 cells:=fun x c h=>by cases h
 has:=fun x h=>by
   have key:∀ k,(relabel scope X.env).names.lookup x=some k->k≠.cell/\k≠.free:=fun k e=>by
     obtain ⟨y,hy⟩:=zY e;obtain ⟨⟨n,k0⟩,hm,e2⟩:=List.mem_map.mp hy;have h1:=hf _ hm;have h2:=hc _ hm;have e3:(k0 == NameKind.free)=false:=(by simpa using h1);simp only [e3,Bool.false_and,Bool.false_eq_true,if_false] at e2;cases e2;exact ⟨h2,h1⟩
   rcases h with h|h
   . exact absurd rfl (key _ h).1
   . exact absurd rfl (key _ h).2
 len:=by simpa using hl
 outer:=fun i x h=>by
   rw [List.getElem?_eq_none (by omega)] at h;cases h
theorem wL {K:PySem.W.Frag} {a:Addr} {xs:List V} {g:TG} {tb:TS} {D:Ends} {σ:St} {H:Hp} (Pv:Nat->St->Hp->Prop) (h0:Pv 0 σ H) (hl:∀ i σ H,i<=xs.length->Pv i σ H->SqL K H a xs)
   (hs:∀ (i:Nat) (x:V) (σ:St) (H:Hp) (N:St->Hp->Prop),(∀ σ' H',Pv (i+1) σ' H'->N σ' H')->xs[i]?=some x->Pv i σ H->g x σ H fun σ2 H2=>tb { D with nx:=N,ct:=N,bk:=D.nx } σ2 H2) (hd:∀ σ H,Pv xs.length σ H->D.nx σ H) :
   qP (Itl K a) D g tb σ H:=Nh Pv h0 hl (fun i x σ H hx p=>hs i x σ H (Pv (i+1)) (fun _ _ z=>z) hx p) hd
theorem FJ {K:PySem.W.Frag} {a:Addr} {xs:List V} {g:TG} {tb:TS} {D:Ends} {σ:St} {H:Hp} (Pv:Nat->St->Hp->Prop) (h0:Pv 0 σ H) (hl:∀ i σ H,i<=xs.length->Pv i σ H->SqT K H a xs)
   (hs:∀ (i:Nat) (x:V) (σ:St) (H:Hp) (N:St->Hp->Prop),(∀ σ' H',Pv (i+1) σ' H'->N σ' H')->xs[i]?=some x->Pv i σ H->g x σ H fun σ2 H2=>tb { D with nx:=N,ct:=N,bk:=D.nx } σ2 H2) (hd:∀ σ H,Pv xs.length σ H->D.nx σ H) :
   qP (Itt K a) D g tb σ H:=BP Pv h0 hl (fun i x σ H hx p=>hs i x σ H (Pv (i+1)) (fun _ _ z=>z) hx p) hd
theorem Ae {lo:Int} {n:Nat} {g:TG} {tb:TS} {D:Ends} {σ:St} {H:Hp} (Pv:Nat->St->Hp->Prop) (h0:Pv 0 σ H)
   (hs:∀ (i:Nat) (σ:St) (H:Hp) (N:St->Hp->Prop),(∀ σ' H',Pv (i+1) σ' H'->N σ' H')->i<n->Pv i σ H->g (.int (lo+i)) σ H fun σ2 H2=>tb { D with nx:=N,ct:=N,bk:=D.nx } σ2 H2) (hd:∀ σ H,Pv n σ H->D.nx σ H) :
   qP (Itr lo n) D g tb σ H:=Kd Pv h0 (fun i σ H hi p=>hs i σ H (Pv (i+1)) (fun _ _ z=>z) hi p) hd
theorem BL {c:TT} {tb:TS} {D:Ends} {σ:St} {H:Hp} (W:Nat->St->Hp->Prop) (n0:Nat) (h0:W n0 σ H)
   (hs:∀ (n:Nat) (σ:St) (H:Hp) (N:St->Hp->Prop),(∀ n' σ' H',n'<n->W n' σ' H'->N σ' H')->(∀ σ' H',N σ' H'->∃ m',m'<n/\W m' σ' H')->W n σ H ->
     c σ H fun b H1=>if b=true then ∃ N:St->Hp->Prop,(∀ σ' H',N σ' H'->∃ m',m'<n/\W m' σ' H')/\tb { D with nx:=N,ct:=N,bk:=D.nx } σ H1 else D.nx σ H1):Eu c tb D σ H :=
 ⟨W,⟨n0,h0⟩,fun n σ H w=>hs n σ H (fun σ' H'=>∃ m',m'<n/\W m' σ' H') (fun n' _ _ hn w'=>⟨n',hn,w'⟩) (fun _ _ z=>z) w⟩
theorem p60:(0:Int)<10^(60:Int).toNat:=Int.pow_pos (by decide)
open Pb
def mY (r:Road):List V:=[.int r.a,.int r.b,.int r.t,.int r.u]
abbrev RoadsAt (H:Hp):List Addr->List Road->Prop:=Paired fun p r=>H p=some (.tup (mY r))
theorem RoadsAt.same {H H':Hp} (e:Same H H') {ps:List Addr} {rs:List Road} (h:RoadsAt H ps rs):RoadsAt H' ps rs:=Paired.imp' (fun p r q=>e p _ q) h
theorem RoadsAt.get {H:Hp}:∀ {ps:List Addr} {rs:List Road} {i:Nat} {x:V},RoadsAt H ps rs->(ps.map V.ref)[i]?=some x->∃ p r,x=.ref p/\ps[i]?=some p/\rs[i]?=some r/\H p=some (.tup (mY r))
 | _,_,i,x,.nil,e=>by simp at e
 | _,_,0,x,.cons (a:=p) (b:=r) h hs,e=>⟨p,r,by simpa using e.symm,by simp,by simp,h⟩
 | a::l1,_,i+1,x,.cons h hs,e=>by
   have e':(List.map V.ref l1)[i]?=some x:=by simpa using e
   obtain ⟨p,r,h1,h2,h3,h4⟩:=RoadsAt.get hs e';exact ⟨p,r,h1,by simpa using h2,by simpa using h3,h4⟩
theorem Same.tup {K:PySem.W.Frag} {H H':Hp} {a:Addr} {xs:List V} (e:Same H H') (h:SqT K H a xs):SqT K H' a xs:=by
 rcases h with (h|⟨o,h⟩)|h
 . exact .inl (.inl (e _ _ h))
 . exact .inl (.inr ⟨o,e _ _ h⟩)
 . exact .inr h
theorem Same.sqX {K:PySem.W.Frag} {H H':Hp} {c:Bool} {a:Addr} {xs:List V} (e:Same H H') (h:SqX K c H a xs):SqX K c H' a xs:=by
 cases c
 . exact Same.tup e h
 . exact Same.seq e h
theorem Same.new {H:Hp} {p:Addr} (o:HO) (h:H p=none):Same H (upd H p o):=fun b u e=>by rw [ap (bc e h)];exact e
end L2
set_option Elab.async false
set_option linter.all false
set_option maxRecDepth 100000
namespace L2
open PySem PySem.Spec PyProof.Rows
abbrev bmV:List Value:=[.type "ValueError",.type "Exception",.type "BaseException",.type "object"]
structure XCls (K:PySem.W.Frag) (C:Addr):Prop where
 ty:PySem.W.typeIn K (.ref C)=some (.type "type")
 ga:PySem.W.findIn K (.ref C) "__getattribute__"=some (some (.builtin "BaseException.__getattribute__"))
 gt:PySem.W.findIn K (.ref C) "__getattr__"=some none
 cl:PySem.W.findIn K (.ref C) "__class__"=some (some (.builtin "object.__class__"))
 gs:PySem.W.specialIn K (.builtin "object.__class__") "__get__"=some (some (.builtin "getset_descriptor.__get__"))
 tk:PySem.W.takesIn K (.builtin "object.__class__")=some true
 mo:PySem.W.mroIn K C (.type "object")=some true
 mb:PySem.W.mroIn K C (.type "BaseException")=some true
 hd:PySem.W.hasDictIn K C=true
 sf:PySem.W.mroIn K C (.ref C)=some true
section
variable {prog:Program} {w:World} {A:Around} {E:Value->Shared->Prop} {s:Shared} {K:PySem.W.Frag} {x C:Addr} {ox:Obj} {od:Option Obj}
end
end L2
set_option Elab.async false
set_option linter.all false
set_option maxRecDepth 100000
namespace L2
open PySem PySem.Spec PyProof.Rows
def kX (h:Heap) (ea:Addr) (cls:Value) (od:Option Addr) (head:Value):Prop:=∃ oe vs,h.get? ea=some oe/\oe.cls=cls/\oe.dict=od/\oe.data=.fields vs/\vs[1]?=some head/\vs[2]?=some .none
def TbO (h:Heap) (T:Addr) (fl:Value):Prop:=∃ oT ts,h.get? T=some oT/\oT.data=.fields ts/\ts[3]?=some fl
structure Err (h:Heap) (ea T:Addr) (cls:Value) (od:Option Addr) (fl:Value):Prop where
 e:kX h ea cls od (.ref T)
 t:TbO h T fl
 ne:T≠ea
structure Kept (fs xs:List Addr) (h h':Heap):Prop where
 keep:∀ b o,h.get? b=some o->b ∉ fs->b ∉ xs->h'.get? b=some o
 slot:∀ b o,h.get? b=some o->b∈fs->b ∉ xs->∃ sl,h'.get? b=some { o with slots:=sl }
 there:∀ b o,h.get? b=some o->∃ o',h'.get? b=some o'
theorem Kept.mono {fs xs ys:List Addr} {h h':Heap} (k:Kept fs xs h h') (s:∀ b∈xs,b∈ys):Kept fs ys h h':=⟨fun b o e f x=>k.keep b o e f fun z=>x (s b z),fun b o e f x=>k.slot b o e f fun z=>x (s b z),k.there⟩
theorem Kept.trans {fs xs:List Addr} {h h1 h2:Heap} (a:Kept fs xs h h1) (b:Kept fs xs h1 h2):Kept fs xs h h2 where
 keep:=fun c o e f x=>b.keep c o (a.keep c o e f x) f x
 slot:=fun c o e f x=>by
   obtain ⟨s1,e1⟩:=a.slot c o e f x;obtain ⟨s2,e2⟩:=b.slot c _ e1 f x;exact ⟨s2,e2⟩
 there:=fun c o e=>by
   obtain ⟨o1,e1⟩:=a.there c o e;exact b.there c o1 e1
theorem Kept.of_all {fs xs:List Addr} {h h':Heap} (k:∀ b o,h.get? b=some o->h'.get? b=some o):Kept fs xs h h':=⟨fun b o e _ _=>k b o e,fun b o e _ _=>⟨o.slots,k b o e⟩,fun b o e=>⟨o,k b o e⟩⟩
theorem yW {fs xs:List Addr} {h:Heap} {a:Addr} {oa:Obj} {vs:Array Value} {i:Nat} {v:Value} (ha:h.get? a=some oa) (hd:oa.data=.fields vs) (hx:a∈xs):Kept fs xs h (h.update a (Obj.mapFields (·.setIfInBounds i v))):=by
 have oth:∀ b o,h.get? b=some o->b ∉ xs->(h.update a (Obj.mapFields (·.setIfInBounds i v))).get? b=some o:=fun b o e x=>by
   rw [Heap.get?_update_other _ _ (fun (z:a=b)=>x (z ▸ hx))];exact e
 refine ⟨fun b o e _ x=>oth b o e x,fun b o e _ x=>⟨o.slots,oth b o e x⟩,fun b o e=>?_⟩;by_cases z:b=a
 . subst z;exact ⟨_,Heap.get?_update_self _ ha (Obj.isFreed_of_fields (Obj.data_mapFields hd _))⟩
 . rw [Heap.get?_update_other _ _ (Ne.symm z)];exact ⟨o,e⟩
theorem Li {h:Heap} {ea:Addr} {cls hd v:Value} {od:Option Addr} (e:kX h ea cls od hd):kX (h.update ea (Obj.mapFields (·.setIfInBounds 1 v))) ea cls od v:=by
 obtain ⟨oe,vs,h1,h2,h3,h4,h5,h6⟩:=e;have sz:1<vs.size:=(Array.getElem?_eq_some_iff.mp h5).1;refine ⟨_,_,Heap.get?_update_self _ h1 (Obj.isFreed_of_fields (Obj.data_mapFields h4 _)),?_,?_,Obj.data_mapFields h4 _,by simp [sz],by rw [Array.getElem?_setIfInBounds_ne (by decide)];exact h6⟩
 . rw [<- h2];exact Obj.cls_mapFields _ _
 . rw [<- h3];obtain ⟨c,d,dt,sl⟩:=oe;cases dt <;> rfl
theorem Ap {h:Heap} {ea a:Addr} {cls hd:Value} {od:Option Addr} {f:Obj->Obj} (e:kX h ea cls od hd) (ne:a≠ea):kX (h.update a f) ea cls od hd:=by
 obtain ⟨oe,vs,h1,h2⟩:=e;exact ⟨oe,vs,by rw [Heap.get?_update_other _ _ ne];exact h1,h2⟩
theorem CU {h h':Heap} {ea:Addr} {cls hd:Value} {od:Option Addr} (e:kX h ea cls od hd) (k:∀ o,h.get? ea=some o->h'.get? ea=some o):kX h' ea cls od hd:=by
 obtain ⟨oe,vs,h1,h2⟩:=e;exact ⟨oe,vs,k _ h1,h2⟩
theorem JC {h base:Heap} {ea:Addr} {cls hd:Value} {od:Option Addr} {l:List Env} (e:kX h ea cls od hd) (f:h.FunFrames base l):ea ∉ frs l:=fun z=>by
 obtain ⟨oe,vs,h1,_,_,h4,_⟩:=e;obtain ⟨_,o,ho,hn⟩:=f.mem z;rw [h1] at ho;cases ho;exact hn vs h4
theorem NX {h base:Heap} {T:Addr} {fl:Value} {l:List Env} (e:TbO h T fl) (f:h.FunFrames base l):T ∉ frs l:=fun z=>by
 obtain ⟨oe,vs,h1,h4,_⟩:=e;obtain ⟨_,o,ho,hn⟩:=f.mem z;rw [h1] at ho;cases ho;exact hn vs h4
section
variable {M:Model} {A:Around} {E:Value->Shared->Prop} {s:Shared} {Q:Unit->Shared->Prop} {fs:List Addr} {ea T L:Addr} {cls fl hd:Value} {od:Option Addr} {base:Heap} {env:Env} {outer:List Env}
theorem GG (r:Err s.heap ea T cls od fl) (h:∀ h',Err h' ea T cls od .none->Kept fs [T] s.heap h'->Q () { s with heap:=h' }):wpAny M A (setFlight (.ref ea) none) Q E s:=by
 obtain ⟨⟨oe,vs,h1,h2,h3,h4,h5,h6⟩,⟨oT,ts,t1,t2,t3⟩,ne⟩:=r;have sz:3<ts.size:=(Array.getElem?_eq_some_iff.mp t3).1;unfold setFlight;refine wpAny_bind (wpAny_field h1 h4 h5 ?_);rw [if_pos (by simp:(Value.ref T != Value.none)=true)];refine wpAny_setField t1 t2 sz (h _ ⟨Ap ⟨oe,vs,h1,h2,h3,h4,h5,h6⟩ ne,⟨_,_,Heap.get?_update_self _ t1 (Obj.isFreed_of_fields (Obj.data_mapFields t2 _)),Obj.data_mapFields t2 _,by simp [sz]⟩,ne⟩ (yW t1 t2 (by simp)))
theorem Fc {head:Value} {hadNext:Bool} (hfr:A.frames=some (env::outer)) (hl:s.heap.FunFrames base (env::outer)) (hf:env.frame=some L) (r:kX s.heap ea cls od hd)
   (h:∀ h' T',Err h' ea T' cls od (rawInt L)->Kept (frs (env::outer)) [ea] s.heap h'->s.heap.get? T'=none->Q () { s with heap:=h' }) :
   wpAny M A (do let a <- frameOf env;let pl <- entryPlaceOf L hadNext;let b <- EntryCells.newEntry head a .none (rawInt L) .none pl;setField (.ref ea) 1 b) Q E s:=by
 have nf:=JC r hl;refine wpAny_bind (wpAny_frameOf_fun hfr hl hf fun g1 so=>wpAny_bind (wpAny_entryPlaceOf fun pl hpl=>?_));unfold EntryCells.newEntry newFields;refine wpAny_bind (wpAny_newObj_type ?_ (hpl.sizeOk5 _ _ _ _ _));have r1:kX g1 ea cls od hd:=CU r fun o e=>(so.2.1 ea nf).trans e;generalize ht:({ cls:=.type "traceback",dict:=none,data:=.fields ([head,.ref L,.none,rawInt L,.none]++(if pl.isEmpty then List.replicate 6 Value.none else pl)).toArray }:Obj)=tb;have r2:kX (g1.push tb) ea cls od hd:=CU r1 fun o e=>Heap.get?_push_of_some _ e;obtain ⟨oe,vs,e1,e2,e3,e4,e5,e6⟩:=id r2;have lt:ea<g1.objs.size:=by
   obtain ⟨_,_,e,_⟩:=r1;exact Heap.lt_size e
 have hT:(g1.push tb).get? g1.objs.size=some tb:=Heap.get?_push_size g1 (by rw [<- ht];rfl);refine wpAny_setField e1 e4 (Array.getElem?_eq_some_iff.mp e5).1 (h _ g1.objs.size ⟨Li r2,⟨tb,([head,.ref L,.none,rawInt L,.none]++(if pl.isEmpty then List.replicate 6 Value.none else pl)).toArray,?_,by rw [<- ht],by simp⟩,Nat.ne_of_gt lt⟩ ?_ ?_)
 . rw [Heap.get?_update_other _ _ (Nat.ne_of_lt lt)];exact hT
 . have k1:Kept (frs (env::outer)) [ea] s.heap g1:=⟨fun b o e f _=>(so.2.1 b f).trans e,fun b o e _ _=>so.2.2 b o e,fun b o e=>by
     obtain ⟨sl,z⟩:=so.2.2 b o e;exact ⟨_,z⟩⟩
   exact k1.trans ((Kept.of_all fun b o e=>Heap.get?_push_of_some _ e).trans (yW e1 e4 (by simp)))
 . exact Heap.get?_none_of_le (by rw [so.1];exact Nat.le_refl _)
theorem MG (hfr:A.frames=some (env::outer)) (hl:s.heap.FunFrames base (env::outer)) (hf:env.frame=some L) (r:kX s.heap ea cls od .none)
   (h:∀ h' T',Err h' ea T' cls od (rawInt L)->Kept (frs (env::outer)) [ea] s.heap h'->s.heap.get? T'=none->Q () { s with heap:=h' }):wpAny M A (noteFrame (.ref ea) env) Q E s:=by
 obtain ⟨oe,vs,e1,e2,e3,e4,e5,e6⟩:=id r;unfold noteFrame;simp only [hf];refine wpAny_bind (wpAny_field e1 e4 e5 ?_);rw [if_neg (by decide)];exact Fc hfr hl hf r h
theorem OU (hfr:A.frames=some (env::outer)) (hl:s.heap.FunFrames base (env::outer)) (hf:env.frame=some L) (r:Err s.heap ea T cls od .none)
   (h:∀ h' T',Err h' ea T' cls od (rawInt L)->Kept (frs (env::outer)) [ea,T] s.heap h'->s.heap.get? T'=none->Q () { s with heap:=h' }):wpAny M A (noteFrame (.ref ea) env) Q E s:=by
 have nT:=NX r.t hl;obtain ⟨⟨oe,vs,e1,e2,e3,e4,e5,e6⟩,⟨oT,ts,t1,t2,t3⟩,ne⟩:=id r;unfold noteFrame;simp only [hf];refine wpAny_bind (wpAny_field e1 e4 e5 ?_);rw [if_pos (by simp:(Value.ref T != Value.none)=true)];refine wpAny_bind (wpAny_field t1 t2 t3 ?_);rw [if_neg (by simp [rawInt])];have k1:Kept (frs (env::outer)) [ea,T] s.heap (s.heap.update T (Obj.mapFields (·.setIfInBounds 3 Value.none))):=yW t1 t2 (by simp);refine wpAny_bind (wpAny_setField t1 t2 (Array.getElem?_eq_some_iff.mp t3).1 ?_);refine Fc hfr (hl.of_keeps fun b o e nf=>⟨o,?_,rfl⟩) hf (Ap r.e ne) fun h' T' r' k2 n=>h h' T' r' (k1.trans (k2.mono (by simp))) ?_
 . by_cases z:b=T
   . subst z;rw [t1] at e;cases e;exact absurd t2 (nf ts)
   . rw [Heap.get?_update_other _ _ (Ne.symm z)];exact e
 . cases q:s.heap.get? T' with
   | none=>rfl
   | some o =>
     obtain ⟨o',z⟩:=k1.there T' o q;rw [z] at n;cases n
theorem JO (hfr:A.frames=some (env::outer)) (hl:s.heap.FunFrames base (env::outer)) (hf:env.frame=some L) (r:kX s.heap ea cls od .none)
   (h:∀ h' T',Err h' ea T' cls od .none->Kept (frs (env::outer)) [ea] s.heap h'->s.heap.get? T'=none->Q () { s with heap:=h' }):wpAny M A (leaving env (.ref ea)) Q E s:=by
 unfold leaving;refine wpAny_bind (MG hfr hl hf r fun h1 T1 r1 k1 n1=>GG (fs:=frs (env::outer)) (s:={ s with heap:=h1 }) r1 fun h2 r2 k2=>h h2 T1 r2 ⟨fun b o e f x=>k2.keep b o (k1.keep b o e f x) f ?_,fun b o e f x=>?_,fun b o e=>?_⟩ n1)
 . simp only [List.mem_singleton];rintro rfl;rw [n1] at e;cases e
 . obtain ⟨s1,e1⟩:=k1.slot b o e f x;obtain ⟨s2,e2⟩:=k2.slot b _ e1 f (by
     simp only [List.mem_singleton];rintro rfl;rw [n1] at e;cases e)
   exact ⟨s2,e2⟩
 . obtain ⟨o1,e1⟩:=k1.there b o e;exact k2.there b o1 e1
theorem M7 (hfr:A.frames=some (env::outer)) (hl:s.heap.FunFrames base (env::outer)) (hf:env.frame=some L) (r:Err s.heap ea T cls od .none)
   (h:∀ h' T',Err h' ea T' cls od .none->Kept (frs (env::outer)) [ea,T] s.heap h'->s.heap.get? T'=none->Q () { s with heap:=h' }):wpAny M A (leaving env (.ref ea)) Q E s:=by
 unfold leaving;refine wpAny_bind (OU hfr hl hf r fun h1 T1 r1 k1 n1=>GG (fs:=frs (env::outer)) (s:={ s with heap:=h1 }) r1 fun h2 r2 k2=>h h2 T1 r2 ⟨fun b o e f x=>k2.keep b o (k1.keep b o e f x) f ?_,fun b o e f x=>?_,fun b o e=>?_⟩ n1)
 . simp only [List.mem_singleton];rintro rfl;rw [n1] at e;cases e
 . obtain ⟨s1,e1⟩:=k1.slot b o e f x;obtain ⟨s2,e2⟩:=k2.slot b _ e1 f (by
     simp only [List.mem_singleton];rintro rfl;rw [n1] at e;cases e)
   exact ⟨s2,e2⟩
 . obtain ⟨o1,e1⟩:=k1.there b o e;exact k2.there b o1 e1
end
def CXe (P:Program) (w:World):CXT:=fun outer H s E e s'=>∃ (ea T:Addr) (cls:Value) (od:Option Addr) (H':Hp),e=.ref ea/\s'.os=s.os/\AllBare s'.gens/\Un (frs outer) [] H H' s.heap s'.heap/\HOk P w H' s'.heap /\
 H' ea=none/\H' T=none/\s.heap.get? ea=none/\s.heap.get? T=none/\Err s'.heap ea T cls od .none/\E cls od H'
theorem aP {P:Program} {w:World}:aX (CXe P w):=fun outer H s e s' h=>by
 obtain ⟨_,_,_,_,_,_,_,_,_,_,_,_,_,_,_,z⟩:=h;exact z
theorem FS {P:Program} {w:World} {H:Hp} {h h':Heap} {fs xs:List Addr} (x:HOk P w H h) (k:Kept fs xs h h') (f:∀ b∈fs,H b=none) (u:∀ b∈xs,H b=none):HOk P w H h':=fun a o e=>by
 refine (x a o e).stay (fun b ob hb q=>k.keep b ob q ?_ ?_) (fun _ q=>q) fun _ _ q=>q
 . intro z;rcases hb with rfl|hb
   . rw [f _ z] at e;cases e
   . rw [f _ z] at hb;cases hb
 . intro z;rcases hb with rfl|hb
   . rw [u _ z] at e;cases e
   . rw [u _ z] at hb;cases hb
theorem Hl {P:Program} {w:World} {H:Hp} {h:Heap} {b:Addr} (x:HOk P w H h) (n:h.get? b=none):H b=none:=by
 cases q:H b with
 | none=>rfl
 | some o =>
   have lt:=x.lt q;cases z:h.get? b with
   | some o'=>rw [z] at n;cases n
   | none =>
     exfalso
     have:=(x b o q);cases o with
     | lst xs=>obtain ⟨_,_,_,_,e⟩:=this;rw [n] at e;cases e
     | tup xs=>obtain ⟨_,_,_,ob,e,_⟩:=this;rw [n] at e;cases e
     | dK kvs=>obtain ⟨_,_,_,_,ob,_,_,e,_⟩:=this;rw [n] at e;cases e
     | dT kvs=>obtain ⟨_,_,_,_,ob,_,_,e,_⟩:=this;rw [n] at e;cases e
     | set S m=>obtain ⟨ob,_,_,_,e,_⟩:=this;rw [n] at e;cases e
     | ins C dx fs=>obtain ⟨_,_,_,e,_⟩:=this;rw [n] at e;cases e
     | own y=>obtain ⟨_,e⟩:=this;rw [n] at e;cases e
     | xd fs=>obtain ⟨_,⟨_,_,_,e,_⟩,_⟩:=this;rw [n] at e;cases e
     | rng lo hi=>obtain ⟨_,_,_,e⟩:=this;rw [n] at e;cases e
     | frz ob u=>obtain ⟨e,_⟩:=this;rw [n] at e;cases e
     | tbl ps=>have e:h.get? b=some _:=this;rw [n] at e;cases e
     | met f y=>have e:h.get? b=some _:=this;rw [n] at e;cases e
     | ext φ=>obtain ⟨_,⟨_,e⟩,_⟩:=this;rw [n] at e;cases e
section
variable {P:Program} {w:World} {K:PySem.W.Frag} {mg:Str->Option Value} {base:Heap} {N:List Str} {qual:Str} {scope:Scope} {f:Addr} {cd:Value} {A:Around} {outer:List Env} {s:Shared} {H:Hp} {E:XK}
theorem EG {CX:CXT} {pins:List (Addr × Obj)} {σ:St} {H':Hp} {s':Shared} {h':Heap} {xs:List Addr} (J:Inv (nN CX P w K mg base N qual scope f cd A outer s H E) pins σ H' s') (k:Kept (frs (envOfC qual scope s.heap.objs.size f cd::outer)) xs s'.heap h') (nx:∀ b∈xs,s.heap.get? b=none) :
   Un (frs outer) [] H H' s.heap h':=by
 have b0:Un (frs outer) [] H H' s.heap s'.heap:=J.base;have nl:∀ b o,s.heap.get? b=some o->b ∉ xs:=fun b o e z=>by rw [nx b z] at e;cases e
 have nf:∀ b o,s.heap.get? b=some o->b ∉ frs outer->b ∉ frs (envOfC qual scope s.heap.objs.size f cd::outer):=fun b o e z m=>by
   unfold frs at m z;rw [List.filterMap_cons] at m;have:(envOfC qual scope s.heap.objs.size f cd).frame=some s.heap.objs.size:=rfl;rw [this] at m;rcases List.mem_cons.mp m with m|m
   . exact absurd (Heap.lt_size e) (by rw [m];exact Nat.lt_irrefl _)
   . exact z m
 refine ⟨fun b o e n hf hx=>k.keep b o (b0.keep b o e n hf hx) (nf b o e hf) (nl b o e),fun b o e n hf hx=>?_,b0.free,fun b o e hx=>?_,b0.tups,b0.frzs,b0.tbls⟩
 . obtain ⟨sl,e1⟩:=b0.slot b o e n hf hx;by_cases m:b∈frs (envOfC qual scope s.heap.objs.size f cd::outer)
   . obtain ⟨s2,e2⟩:=k.slot b _ e1 m (nl b o e);exact ⟨s2,e2⟩
   . exact ⟨sl,k.keep b _ e1 m (nl b o e)⟩
 . obtain ⟨o1,e1⟩:=b0.there b o e hx;exact k.there b o1 e1
theorem mV {CX:CXT} {pins:List (Addr × Obj)} {σ:St} {H':Hp} {s':Shared} (J:Inv (nN CX P w K mg base N qual scope f cd A outer s H E) pins σ H' s') {b:Addr} (n:s'.heap.get? b=none):s.heap.get? b=none:=by
 cases q:s.heap.get? b with
 | none=>rfl
 | some o =>
   have b0:Un (frs outer) [] H H' s.heap s'.heap:=J.base;obtain ⟨o',e⟩:=b0.there b o q (by simp);rw [n] at e;cases e
theorem dH:sS (CXe P w) (nN (CXe P w) P w K mg base N qual scope f cd A outer s H E) E:=by
 intro pins σ H1 s1 e s' I h;obtain ⟨ea,T,cls,od,H',rfl,os,bare,un,hok,n1,n2,f1,f2,er,q⟩:=h;have J:=I.call' (ch:=[]) os un hok bare (by simp);refine M7 (base:=base) J.ok.frames J.stack rfl er fun h' T' er' k nT=>?_;have fr:∀ b∈frs (envOfC qual scope s.heap.objs.size f cd::outer),H' b=none:=J.stkFree;refine ⟨ea,T',cls,od,H',rfl,J.os,J.bare,EG J k ?_,FS hok k fr ?_,n1,Hl hok nT,mV I f1,mV J nT,er',q⟩
 . intro b hb;simp only [List.mem_cons,List.not_mem_nil,or_false] at hb;rcases hb with rfl|rfl
   . exact mV I f1
   . exact mV I f2
 . intro b hb;simp only [List.mem_cons,List.not_mem_nil,or_false] at hb;rcases hb with rfl|rfl
   . exact n1
   . exact n2
end
def JY (X:Cx) (E:XK):Prop:=∀ (pins:List (Addr × Obj)) (σ:St) (H:Hp) (s:Shared) (ea:Addr) (cls:Value) (od:Option Addr) (h':Heap) (tk:Nat),Inv X pins σ H s->(∀ b o,s.heap.get? b=some o->h'.get? b=some o)->s.heap.get? ea=none->kX h' ea cls od .none->E cls od H ->
 X.xe (.ref ea) { s with heap:=h',toks:=tk }
section
variable {P:Program} {w:World} {K:PySem.W.Frag} {mg:Str->Option Value} {base:Heap} {N:List Str} {qual:Str} {scope:Scope} {f:Addr} {cd:Value} {A:Around} {outer:List Env} {s:Shared} {H:Hp} {E:XK}
theorem xO:JY (nN (CXe P w) P w K mg base N qual scope f cd A outer s H E) E:=by
 intro pins σ H1 s1 ea cls od h' tk I kp nw er q;have J:=I.kept (t':=tk) kp;refine JO (base:=base) J.ok.frames J.stack rfl er fun h2 T' er' k nT=>?_;have fr:∀ b∈frs (envOfC qual scope s.heap.objs.size f cd::outer),H1 b=none:=J.stkFree;refine ⟨ea,T',cls,od,H1,rfl,J.os,J.bare,EG J k ?_,FS J.hok k fr ?_,Hl I.hok nw,Hl J.hok nT,mV I nw,mV J nT,er',q⟩
 . intro b hb;rw [List.mem_singleton.mp hb];exact mV I nw
 . intro b hb;rw [List.mem_singleton.mp hb];exact Hl I.hok nw
end
end L2
set_option Elab.async false
set_option linter.all false
set_option maxRecDepth 100000
namespace L2
open PySem PySem.Spec PyProof.Rows
def Be (K:PySem.W.Frag) (C:Addr):Prop:=∃ (nm qn:Str) (N:Addr) (bs bm:List Value) (hdct:Bool) (sn:List Str) (sub:List Value) (ab:Bool) (col:Option Bool) (dd:Option Addr) (k0 k1 k2 k3 k5:Option Value),
   K.lookup C=some (excClassObj nm qn C N bs bm hdct sn sub ab col dd k0 k1 k2 k3 k5 "ValueError.__new__")/\PySem.W.nsOkIn K N=true/\PySem.W.nsIn K N "__init__"=some none/\PySem.W.tailIn K bmV bm=true
theorem xQ {K:PySem.W.Frag} {C:Addr} {o:Obj} (nm qn:Str) (N:Addr) (bs bm:List Value) (hdct:Bool) (sn:List Str) (sub:List Value) (ab:Bool) (col:Option Bool) (dd:Option Addr) (k0 k1 k2 k3 k5:Option Value) (l:K.lookup C=some o)
   (e:o=excClassObj nm qn C N bs bm hdct sn sub ab col dd k0 k1 k2 k3 k5 "ValueError.__new__") (a:PySem.W.nsOkIn K N=true) (b:PySem.W.nsIn K N "__init__"=some none) (c:PySem.W.tailIn K bmV bm=true):Be K C:=by
 subst e;exact ⟨_,_,_,_,_,_,_,_,_,_,_,_,_,_,_,_,l,a,b,c⟩
def Kr (C:Addr) (E:XK) (t:TA):TS:=fun _ σ H=>t σ H fun vs H1=>vs.length<=sizeLine/\E (.ref C) none H1
section
variable {X:Cx} {x:Str} {np cpos pos:Pos} {e0:Expr} {es:List Expr} {t:TA} {C:Addr} {E:XK}
theorem uT (q:Be X.K C) (hc:X.calm=true) (hR:JY X E) (hg:Gl X x) (hm:X.mg x=some (.ref C)) (ha:PA X (e0::es) t) (hdb:(x == ("__debug__":Str))=false:=by decide)
   (he:starEach (e0::es) X.env=(false,eval e0 X.env)::starEach es X.env:=by rfl) (hpl:(backTo cpos (starEach es X.env)).any (·.1)=false:=by rfl):PS X (.Raise (some (.Call (.Name x np) (e0::es) [] cpos)) none pos) (Kr C E t):=by
 intro pins s σ H D I h;obtain ⟨nm,qn,N,bs,bm,hdct,sn,sub,ab,col,dd,k0,k1,k2,k3,k5,ho,z5,z6,z4⟩:=q;have B:=I.mod.kin;have T0:=PySem.W.tail_of_in B z4;have N0:X.base.Ns N (X.base.nsMap N):=.of_isNs (PySem.W.isNs_of_in B z5);have hp:(backTo cpos (starEach (e0::es) X.env)).any (·.1)=false:=by
   rw [he];show (false || (backTo cpos (starEach es X.env)).any (·.1))=false;rw [hpl]
   rfl
 refine wpAny_Raise_call_subT (C:=C) (nm:=nm) (q:=qn) (N:=N) (bs:=bs) (bm:=bm) (hdct:=hdct) (sn:=sn) (sub:=sub) (ab:=ab) (col:=col) (dd:=dd) (k0:=k0) (k1:=k1) (k2:=k2) (k3:=k3) (k5:=k5) PySem.F.excBase_ValueError
   (T0.hasType (by decide +kernel)) (I.ok.hd hc) hp (PySem.W.nsMap_none_of_in B z5 z6) (xM I hg hm ⟨rfl,?_⟩ hdb)
 have g:=ha cpos pins s σ H _ I h;rw [he] at g ⊢;refine Calls.evalArgs_plain (thn g fun us s1 ⟨vs,H1,I1,r1,q1⟩=>⟨rfl,by show us.length<=_;rw [<- r1.length];exact q1.1,I1.bk _ _ (B _ _ ho),N0.keeps I1.bk,T0.keeps I1.bk,fun h' ea m=>?_⟩);obtain ⟨tt,m1,_,_⟩:=m.there;exact hR pins σ H1 s1 ea (.ref C) none h' s1.toks I1 m.keeps m.new ⟨_,_,m1,rfl,rfl,rfl,rfl,rfl⟩ q1.2
end
section
variable {CX:CXT} {X:Cx} {k:Nat} {f C:Addr} {fd:FuncData} {ps:List Str} {sp:Sp} {dvs:List V} {ds:List Value} {x:Str} {p pos:Pos} {e:Expr} {es:List Expr} {te:TE} {t:TA} {st:Stmt} {sts:List Stmt} {ts:TS} {tx ux:(St->XK)->TS} {ex:XK->TE}
end
end L2
set_option Elab.async false
set_option linter.all false
set_option maxRecDepth 100000
namespace L2
open PySem PySem.Spec PyProof.Rows
section
variable {X:Cx} {pins:List (Addr × Obj)} {σ:St} {H:Hp} {s:Shared}
end
section
variable {K:PySem.W.Frag} {C C':Addr} {x:Addr} {ox:Obj} {od:Option Obj} {M:Model} {A:Around} {E:Value->Shared->Prop} {s:Shared} {b:Bool} {Q:Bool->Shared->Prop}
end
end L2
set_option Elab.async false
set_option linter.all false
set_option maxRecDepth 100000
namespace L2
open PySem PySem.Spec PyProof.Rows
def ExO (ea:Addr) (cls:Value) (od:Option Addr):HO:=.ext fun h=>∃ oe vs,h.get? ea=some oe/\oe.cls=cls/\oe.dict=od/\oe.data=.fields vs/\vs[2]?=some .none
section
variable {X:Cx} {pins:List (Addr × Obj)} {σ:St} {H:Hp} {s:Shared}
end
abbrev TH:=Ends->St->Value->Option Addr->Hp->Prop
def Ends.less (D:Ends) (i:Nat):Ends:={ nx:=fun σ H=>D.nx (σ.set i none) H,rt:=D.rt,bk:=fun σ H=>D.bk (σ.set i none) H,ct:=fun σ H=>D.ct (σ.set i none) H }
def QX (K:PySem.W.Frag) (C':Addr) (i:Nat) (ts:TS) (tr:TH):TH:=fun D σ cls od H=>∃ C b,cls=.ref C/\PySem.W.mroIn K C (.ref C')=some b /\
 if b=true then ∀ ea,H ea=none->ts (D.less i) (σ.set i (some (.ref ea))) (upd H ea (ExO ea cls od)) else tr D σ cls od H
section
variable {X:Cx} {x n:Str} {np pos:Pos} {i:Nat} {C':Addr} {b0:Stmt} {suite:List Stmt} {rest:List ExceptHandler} {ts:TS} {tr:TH}
def Rc (tb:(St->XK)->TS) (th:TH):TS:=fun D σ H=>tb (fun σ' cls od H'=>th D σ' cls od H') D σ H
end
end L2
set_option Elab.async false
set_option linter.all false
set_option maxRecDepth 100000
namespace L2
open PySem PySem.Spec PyProof.Rows
section
variable {P:Program} {w:World} {K:PySem.W.Frag} {mg:Str->Option Value} {base:Heap}
end
section
variable {X:Cx} {k:Nat} {f:Addr} {fd:FuncData} {ps:List Str} {sp:Sp} {x:Str} {p pos:Pos} {e:Expr} {es:List Expr} {t:TA}
end
section
variable {X:Cx}
end
def rF (cells:List (Str × Addr)):List (Str × NameKind)->List (Str × Addr)->List (Str × Addr)
 | [],acc=>acc
 | (n,k)::r,acc=>if k == .free then rF cells r ((n,(cells.lookup n).getD 0)::acc) else rF cells r acc
theorem Il {scope:Scope} {env:Env} (h:∀ y∈scope.names,y.2=.free->(env.cells.lookup y.1).isSome=true):closureFor scope env=pure (rF env.cells scope.names []):=by
 have key:∀ (l:List (Str × NameKind)) (acc:List (Str × Addr)),(∀ y∈l,y.2=.free->(env.cells.lookup y.1).isSome=true) ->
     (forIn l acc fun (y:Str × NameKind) (c:List (Str × Addr))=>(if y.2 == NameKind.free then do let a <- cellOf env y.1;pure (ForInStep.yield ((y.1,a)::c)) else pure (ForInStep.yield c):Sem (ForInStep (List (Str × Addr)))))=(pure (rF env.cells l acc):Sem (List (Str × Addr))):=by
   intro l
   induction l with
   | nil=>intro acc _;rfl
   | cons y l ih =>
     obtain ⟨n,k⟩:=y;intro acc hh;have h1:=hh (n,k) List.mem_cons_self;have h2:∀ y∈l,y.2=.free->(env.cells.lookup y.1).isSome=true:=fun y hy=>hh y (List.mem_cons_of_mem _ hy);rw [List.forIn_cons];unfold rF;cases q:k == NameKind.free with
     | false =>
       simp only [Bool.false_eq_true,if_false,pure_bind];exact ih acc h2
     | true =>
       obtain ⟨c,hc⟩:=Option.isSome_iff_exists.mp (h1 (by simpa using q));dsimp only at hc;simp only [if_true,cellOf,hc,pure_bind,Option.getD_some];exact ih _ h2
 have:=key scope.names [] h;unfold closureFor;simp only [bind_pure];exact this
theorem yK {cells:List (Str × Addr)} {x:Str} {c:Addr}:∀ {l:List (Str × NameKind)} {acc:List (Str × Addr)},(∀ y∈l,y.2=.free->(cells.lookup y.1).isSome=true)->(∀ x c,acc.lookup x=some c->cells.lookup x=some c)->(rF cells l acc).lookup x=some c->cells.lookup x=some c
 | [],acc,_,h2,h3=>h2 x c h3
 | (n,k)::r,acc,h1,h2,h3=>by
   have h1':∀ y∈r,y.2=.free->(cells.lookup y.1).isSome=true:=fun y hy=>h1 y (List.mem_cons_of_mem _ hy);unfold rF at h3;cases q:k == NameKind.free with
   | false =>
     rw [q] at h3;exact yK h1' h2 (by simpa using h3)
   | true =>
     rw [q] at h3;simp only [if_true] at h3;obtain ⟨a,ha⟩:=Option.isSome_iff_exists.mp (h1 (n,k) List.mem_cons_self (by simpa using q));dsimp only at ha;rw [ha] at h3;refine yK h1' (fun y d hy=>?_) h3;rw [List.lookup_cons] at hy;cases z:y == n with
     | true =>
       rw [z] at hy;cases hy;rw [eq_of_beq z];exact ha
     | false =>
       rw [z] at hy;exact h2 y d hy
theorem yZ {cells:List (Str × Addr)} {x:Str}:∀ {l:List (Str × NameKind)} {acc:List (Str × Addr)},((∃ c,acc.lookup x=some c)\/(x,NameKind.free)∈l)->∃ c,(rF cells l acc).lookup x=some c
 | [],acc,h=>by
   rcases h with h|h
   . exact h
   . cases h
 | (n,k)::r,acc,h=>by
   unfold rF;cases q:k == NameKind.free with
   | false =>
     simp only [Bool.false_eq_true,if_false];refine yZ ?_;rcases h with h|h
     . exact .inl h
     . rcases List.mem_cons.mp h with z|z
       . cases z;simp at q
       . exact .inr z
   | true =>
     simp only [if_true];refine yZ ?_;by_cases z:x=n
     . subst z;exact .inl ⟨(cells.lookup x).getD 0,by rw [List.lookup_cons];simp⟩
     . rcases h with ⟨c,h⟩|h
       . refine .inl ⟨c,?_⟩;rw [List.lookup_cons];have:(x == n)=false:=(by simpa using z);rw [this];exact h
       . rcases List.mem_cons.mp h with y|y
         . cases y;exact absurd rfl z
         . exact .inr y
theorem mJ {env:Env} {x:Str} {k:NameKind}:∀ {l:List (Str × NameKind)},l.lookup x=some k ->
   (l.map fun (n,k)=>if (k == NameKind.free && env.scope.kind == .function && env.kindOf n == some .cell) then (n,NameKind.cell) else (n,k)).lookup x=some (if (k == NameKind.free && env.scope.kind == .function && env.kindOf x == some .cell) then NameKind.cell else k)
 | [],h=>by simp at h
 | (n,j)::r,h=>by
   have ih:=@mJ env x k r;rw [List.map_cons];rw [List.lookup_cons] at h;cases z:x == n with
   | true =>
     rw [z] at h;cases h;have e:=eq_of_beq z;subst e;by_cases q:(k == NameKind.free && env.scope.kind == .function && env.kindOf x == some .cell)=true
     . simp only [q,if_true,List.lookup_cons,z]
     . simp only [q,if_false,List.lookup_cons,z,Bool.false_eq_true]
   | false =>
     rw [z] at h;dsimp only;by_cases q:(j == NameKind.free && env.scope.kind == .function && env.kindOf n == some .cell)=true
     . rw [if_pos q,List.lookup_cons,z];exact ih h
     . rw [if_neg q,List.lookup_cons,z];exact ih h
theorem oN {X:Cx} {Nc:List Str} {scope:Scope} (own:Nat) (js:List Nat) (hc:∀ y∈scope.names,y.2≠.cell) (hk:scope.kind=.function) (hn:∀ y∈scope.names,y.2=.local->scope.names.lookup y.1=some .local) (hl:Nc.length=own+js.length)
   (hf:∀ y∈scope.names,y.2=.free->X.env.scope.names.lookup y.1=some .cell) (hX:X.env.scope.kind=.function) (hcell:∀ x,X.env.scope.names.lookup x=some .cell->∃ c,X.env.cells.lookup x=some c)
   (hU:∀ i,i<js.length->∃ x j,Nc[own+i]?=some x/\js[i]?=some j/\X.N[j]?=some x/\scope.names.lookup x=some .free):CompTxt X Nc own js scope (rF X.env.cells scope.names []):=by
 have hs:∀ y∈scope.names,y.2=.free->(X.env.cells.lookup y.1).isSome=true:=fun y hy e=>by
   obtain ⟨c,q⟩:=hcell _ (hf y hy e);rw [q]
   rfl
 have free_cell:∀ x,scope.names.lookup x=some .free->X.env.scope.names.lookup x=some .cell:=fun x h=>hf (x,.free) (PySem.mem_of_lookup h) rfl;refine ⟨Il hs,hk,hc,hn,fun x c h=>yK hs (fun x c z=>by simp at z) h,fun x h=>?_,hl,fun i x h=>?_⟩
 . cases q:scope.names.lookup x with
   | none =>
     exfalso
     have:(relabel scope X.env).names.lookup x=none:=by
       unfold relabel;dsimp only
       revert q
       generalize scope.names=l
       induction l with
       | nil=>intro _;rfl
       | cons y l ih =>
         obtain ⟨n,k⟩:=y;intro q;rw [List.lookup_cons] at q;cases z:x == n with
         | true=>rw [z] at q;cases q
         | false =>
           rw [z] at q;rw [List.map_cons];dsimp only;by_cases w:(k == NameKind.free && X.env.scope.kind == .function && X.env.kindOf n == some .cell)=true
           . rw [if_pos w,List.lookup_cons,z];exact ih q
           . rw [if_neg w,List.lookup_cons,z];exact ih q
     rw [this] at h;rcases h with h|h <;> cases h
   | some k =>
     have r:(relabel scope X.env).names.lookup x=some _:=mJ (env:=X.env) q;cases k with
     | free=>exact yZ (.inr (PySem.mem_of_lookup q))
     | cell=>exact absurd rfl (hc _ (PySem.mem_of_lookup q))
     | _ =>
       rw [r] at h;simp at h
 . have hi:i<js.length:=by
     have:=(List.getElem?_eq_some_iff.mp h).1;omega
   obtain ⟨y,j,e1,e2,e3,e4⟩:=hU i hi;rw [h] at e1;cases e1;have fc:=free_cell x e4;refine ⟨j,e2,e3,fc,?_⟩;have r:(relabel scope X.env).names.lookup x=some _:=mJ (env:=X.env) e4;rw [r];have:X.env.kindOf x=some .cell:=fc;rw [this,hX]
   rfl
end L2
set_option Elab.async false
set_option linter.all false
set_option maxRecDepth 100000
namespace L2
open PySem PySem.Spec PyProof.Rows
theorem Hi:∀ {ns:List Int} {us:List Value},Vals (ns.map V.int) us->IntsAre us ns
 | [],_,h=>by cases h;exact .nil
 | n::ns,_,h=>by
   cases h with
   | cons r t =>
     obtain ⟨k,rfl⟩:=(show ∃ t,_=Value.int n t from r);exact .cons n k (Hi t)
theorem GZ:∀ {ns:List Int} {us:List Value},IntsAre us ns->Vals (ns.map V.int) us
 | _,_,.nil=>.nil
 | _,_,.cons n t r=>.cons ⟨t,rfl⟩ (GZ r)
section
variable {X:Cx}
theorem Gm:lV X (.builtin "sorted") (fun xs H Q=>∃ (p:Addr) (ns:List Int),xs=[.ref p]/\SqL X.K H p (ns.map V.int)/\ns.length<64/\∀ (l:Addr) (zs:List Int),H l=none->zs.Perm ns->zs.Pairwise (·<=·)->Q (.ref l) (upd H l (.lst (zs.map V.int)))):=by
 intro pins s σ H xs us Q I r h;obtain ⟨p,ns,rfl,hp,h64,q⟩:=h;obtain ⟨u,rfl,ru⟩:=tS r;cases ru;obtain ⟨its,rv,pl,hz⟩:=I.list hp;have hi:=Hi rv;have e1:=IntsAre.length hi;refine sorted_ints pl.isList hi (by omega) fun out zs a1 a2 a3=>?_;obtain ⟨e,he⟩:=sortedAll_at s.heap its out;have hn:H (s.heap.objs.size+1)=none:=I.hok.fresh (Nat.le_succ _);have ln:zs.length=ns.length:=a2.length_eq;refine ⟨.ref (s.heap.objs.size+1),_,I.laid (a:=s.heap.objs.size+1) (o:=.lst (zs.map V.int)) (t':=s.toks) (fun b o e=>sortedAll_old e) (Nat.le_succ _) ⟨?_,out.toList,e,GZ a1,?_⟩,rfl,q _ zs hn a2 a3⟩
 . rw [List.length_map,ln];exact bK (by omega)
 . exact he
end
theorem PD {K:PySem.W.Frag} {C T:Addr} {c0:Value} {dd:Option Addr} {cd:ClassData} {sl:Array (Option Value)} (h:K.lookup C=some ⟨c0,dd,.cls cd,sl⟩) (m:cd.mro=.ref C::.ref T::bmV) (C':Addr):PySem.W.mroIn K C (.ref C')=some (decide (C'=C) || decide (C'=T)):=by
 unfold PySem.W.mroIn PySem.W.clsIn;rw [h];simp only [Option.bind_some,m,List.isEmpty_cons,Bool.false_eq_true,if_false]
 congr 1
 by_cases h1:C'=C
 . subst h1;simp
 . by_cases h2:C'=T
   . subst h2;simp
   . have a:(Value.ref C' == Value.ref C)=false:=(by simpa using h1);have b:(Value.ref C' == Value.ref T)=false:=(by simpa using h2);simp [List.contains_cons,a,b,h1,h2]
structure XErr (K:PySem.W.Frag) (T C:Addr):Prop where
 x:XCls K C
 mr:∀ C',PySem.W.mroIn K C (.ref C')=some (decide (C'=C) || decide (C'=T))
 mv:PySem.W.mroIn K C (.type "ValueError")=some true
theorem zO {K:PySem.W.Frag} {C:Addr} {c0:Value} {dd:Option Addr} {cd:ClassData} {sl:Array (Option Value)} {r:List Value} (h:K.lookup C=some ⟨c0,dd,.cls cd,sl⟩) (m:cd.mro=.ref C::r) {v:Value} (hv:(Value.ref C::r).contains v=true):PySem.W.mroIn K C v=some true:=by
 unfold PySem.W.mroIn PySem.W.clsIn;rw [h];simp only [Option.bind_some,m,List.isEmpty_cons,Bool.false_eq_true,if_false,hv]
section
variable {K:PySem.W.Frag} {T C:Addr} {c0:Value} {dd:Option Addr} {cd:ClassData} {sl:Array (Option Value)}
theorem GM {r:List Value} (h1:PySem.W.typeIn K (.ref C)=some (.type "type")) (h2:PySem.W.findIn K (.ref C) "__getattribute__"=some (some (.builtin "BaseException.__getattribute__"))) (h3:PySem.W.findIn K (.ref C) "__getattr__"=some none)
   (h4:PySem.W.findIn K (.ref C) "__class__"=some (some (.builtin "object.__class__"))) (h5:PySem.W.specialIn K (.builtin "object.__class__") "__get__"=some (some (.builtin "getset_descriptor.__get__"))) (h6:PySem.W.takesIn K (.builtin "object.__class__")=some true)
   (h7:PySem.W.hasDictIn K C=true) (h:K.lookup C=some ⟨c0,dd,.cls cd,sl⟩) (m:cd.mro=.ref C::r) (a:r.contains (.type "object")=true) (b:r.contains (.type "BaseException")=true):XCls K C :=
 ⟨h1,h2,h3,h4,h5,h6,zO h m (by rw [List.contains_cons,a,Bool.or_true]),zO h m (by rw [List.contains_cons,b,Bool.or_true]),h7,zO h m (by simp)⟩
structure XTop (K:PySem.W.Frag) (T:Addr):Prop where
 x:XCls K T
theorem OW (h1:PySem.W.typeIn K (.ref C)=some (.type "type")) (h2:PySem.W.findIn K (.ref C) "__getattribute__"=some (some (.builtin "BaseException.__getattribute__"))) (h3:PySem.W.findIn K (.ref C) "__getattr__"=some none)
   (h4:PySem.W.findIn K (.ref C) "__class__"=some (some (.builtin "object.__class__"))) (h5:PySem.W.specialIn K (.builtin "object.__class__") "__get__"=some (some (.builtin "getset_descriptor.__get__"))) (h6:PySem.W.takesIn K (.builtin "object.__class__")=some true)
   (h7:PySem.W.hasDictIn K C=true) (h:K.lookup C=some ⟨c0,dd,.cls cd,sl⟩) (m:cd.mro=.ref C::bmV):XTop K C:=⟨GM h1 h2 h3 h4 h5 h6 h7 h m (by decide +kernel) (by decide +kernel)⟩
theorem sQ (h1:PySem.W.typeIn K (.ref C)=some (.type "type")) (h2:PySem.W.findIn K (.ref C) "__getattribute__"=some (some (.builtin "BaseException.__getattribute__"))) (h3:PySem.W.findIn K (.ref C) "__getattr__"=some none)
   (h4:PySem.W.findIn K (.ref C) "__class__"=some (some (.builtin "object.__class__"))) (h5:PySem.W.specialIn K (.builtin "object.__class__") "__get__"=some (some (.builtin "getset_descriptor.__get__"))) (h6:PySem.W.takesIn K (.builtin "object.__class__")=some true)
   (h7:PySem.W.hasDictIn K C=true) (h:K.lookup C=some ⟨c0,dd,.cls cd,sl⟩) (m:cd.mro=.ref C::.ref T::bmV):XErr K T C:=by
 have a:(Value.ref T::bmV).contains (.type "object")=true:=by rw [List.contains_cons];simp [bmV]
 have b:(Value.ref T::bmV).contains (.type "BaseException")=true:=by rw [List.contains_cons];simp [bmV]
 have c:(Value.ref T::bmV).contains (.type "ValueError")=true:=by rw [List.contains_cons];simp [bmV]
 exact ⟨GM h1 h2 h3 h4 h5 h6 h7 h m a b,PD h m,zO h m (by rw [List.contains_cons,c,Bool.or_true])⟩
end
section
variable {P:Program} {w:World} {K:PySem.W.Frag} {mg:Str->Option Value} {base:Heap}
theorem Fun.okX {x qual:Str} {st:Stmt} {f:Addr} {fd:FuncData} {N ps:List Str} {k:Nat} {sp:Sp} (F:Fun K x qual st f fd) (S:FnScope N ps (aa st)) (len:∀ vs H Q E,sp vs H Q E->vs.length=ps.length)
   (hbody:∀ (cdv:Value) (A:Around) (outer:List Env) (s:Shared) (H:Hp) (vs:List V) (Q:VK) (E:XK),Room k (A.deeper (envOfC qual (aa st) s.heap.objs.size f cdv))->sp vs H Q E ->
     ∃ t,PSs (nN (CXe P w) P w K mg base N qual (aa st) f cdv A outer s H E) (az st) t/\t { nx:=fun _ H'=>Q .non H',rt:=Q } (start N vs) H):FnOk P w K mg base (CXe P w) (k+1) f fd ps sp:=by
 obtain ⟨oc,od,kV,doc,pm,an,cdv,ct,osl,rfl,lk,hcd⟩:=F.ex;exact Os lk hcd S len fun A outer s H vs Q E hr hsp=>hbody cdv A outer s H vs Q E hr hsp
end
theorem Cv {C:Addr} {E:XK} {t:TA} {D:Ends} {σ:St} {H:Hp}:Kr C E t D σ H=t σ H fun vs H1=>vs.length<=sizeLine/\E (.ref C) none H1:=rfl
theorem Ha {tb:(St->XK)->TS} {th:TH} {D:Ends} {σ:St} {H:Hp}:Rc tb th D σ H=tb (fun σ' cls od H'=>th D σ' cls od H') D σ H:=rfl
theorem D6 {K:PySem.W.Frag} {C':Addr} {i:Nat} {ts:TS} {tr:TH} {D:Ends} {σ:St} {cls:Value} {od:Option Addr} {H:Hp}:QX K C' i ts tr D σ cls od H=∃ C b,cls=.ref C/\PySem.W.mroIn K C (.ref C')=some b /\
 if b=true then ∀ ea,H ea=none->ts (D.less i) (σ.set i (some (.ref ea))) (upd H ea (ExO ea cls od)) else tr D σ cls od H:=rfl
theorem Rm {H:Hp} {l b:Addr} {xs zs:List V} {Q:VK} (h1:H l=some (.lst xs)) (h2:H b=some (.lst zs)) (hz:xs.length+zs.length<=sizeLine) (q:∀ p,H p=none->Q (.ref p) (upd H p (.lst (xs++zs)))):rCat (.ref l) (.ref b) H Q:=⟨l,b,xs,zs,rfl,rfl,h1,h2,hz,q⟩
theorem Same.put {H H':Hp} {l:Addr} (e:Same H H') (n:H l=none) (o:HO):Same H (upd H' l o):=fun b u h=>by rw [ap (bc h n)];exact e b u h
end L2
set_option Elab.async false
set_option linter.all false
set_option maxRecDepth 100000
namespace L2
open PySem PySem.Spec PyProof.Rows
theorem NN {M:Model} {A:Around} {E:Value->Shared->Prop} {s:Shared} {env:Env} {x:Str} {px:Pos} {v:Value} {Q:Unit->Shared->Prop} (h:wpAny M A (storeName env x v) Q E s):wpAny M A (assign (.Name x px) env v) Q E s:=by
 show wpAny M A (do standAt px;bindName env x v) Q E s;exact wpAny_bind (wpAny_standAt (wpAny_bindName h))
section
variable {X:Cx} {Nc:List Str} {own:Nat} {js:List Nat} {scope:Scope} {cl:List (Str × Addr)}
theorem zL {i:Nat} {x:Str} {px pos:Pos} {elt target iter:Expr} {ifs:List Expr} {cpos:Pos} {wi:TI} {g:TG} {tc:TT} {te:TE} (hN:X.N.Nodup) (hxi:X.N[i]?=some x) (hxl:X.env.scope.names.lookup x=some .local) (hc:X.calm=true) (T:CompTxt X Nc own js scope cl)
   (hi:PI X target iter wi) (hg:∀ C s₂ H₁ fp,PG (X.comp Nc scope cl C s₂ H₁ fp) target g) (ht:∀ C s₂ H₁ fp,PTs (X.comp Nc scope cl C s₂ H₁ fp) ifs tc)
   (he:∀ C s₂ H₁ fp,PE (X.comp Nc scope cl C s₂ H₁ fp) elt te) (hs:∀ x,foldedSetIterable iter X.env x=pure x:=by intro _;rfl)
   (hsw:swapsWith (.ListComp elt [⟨target,iter,ifs,0⟩] scope cpos) (some (.Name x px)) pos.line X.env=pure true:=by rfl) :
   PS X (.Assign [.Name x px] (.ListComp elt [⟨target,iter,ifs,0⟩] scope cpos) pos) (D5 (HF own js wi g tc te) (AV i)):=by
 intro pins s σ H D I h;rw [exec_Assign_Name_used _ _ _ _ hsw];refine wpAny_bind (wpAny_standAt (wpAny_bind ?_));rw [arm_evalThenUse_ListComp];refine wpAny_bind ?_;refine wpAny_comprehension_free (use:=some (assign (.Name x px) X.env)) rfl hs T.clos T.kind T.names (thn (hi pins s σ H _ I h) fun v s1 h1=>thn h1 fun itv s2 h2=>?_);obtain ⟨it,fp,tn,J,H1,rfl,I1,Tn,st,f1,R⟩:=h2;have hfp:∀ b∈fp,b<s2.heap.objs.size:=fun b hb=>let ⟨o,e,_⟩:=Tn.obj _ _ st b hb;Heap.lt_size e;refine wpAny_newObj_type (wpAny_newFunctionEnv T.nocell (by intro y hy;simp at hy) (fun h₁ hns₁ hsb₁=>?_) T.kind);dsimp only at hns₁ hsb₁ ⊢;generalize hH2:s2.heap.push { cls:=.type "list",dict:=none,data:=.seq ([]:List Value).toArray }=H2 at hns₁ hsb₁ ⊢;have hC:H2.objs.size=s2.heap.objs.size+1:=by rw [<- hH2,Heap.size_push]
 have hDC:s2.heap.objs.size≠H2.objs.size:=by rw [hC];exact Nat.ne_of_lt (Nat.lt_succ_self _)
 have hCle:s2.heap.objs.size<=H2.objs.size:=by rw [hC];exact Nat.le_succ _
 have below:∀ b,b<s2.heap.objs.size->b≠H2.objs.size:=fun b hb=>by rw [hC];exact Nat.ne_of_lt (Nat.lt_succ_of_lt hb)
 have old:∀ b o,s2.heap.get? b=some o->h₁.get? b=some o:=fun b o e=>hsb₁.extBut b o (below b (Heap.lt_size e)) (Heap.get?_push_of_some _ (hH2 ▸ Heap.get?_push_of_some _ e));have hacc:∃ n,h₁.get? s2.heap.objs.size=some { cls:=.type "list",data:=.seq ([]:List Value).toArray n }:=⟨_,hsb₁.extBut _ _ hDC (Heap.get?_push_of_some _ (hH2 ▸ Heap.get?_push_size _ rfl))⟩;have st₁:tn 0 h₁:=Tn.keep _ _ _ st fun b _ o e=>old b o e;obtain ⟨W,⟨m0,w0⟩,turn⟩:=R s2.heap.objs.size I1.fresh;have Ic:=Fj (t:=s2.toks+([]:List (Str × Value)).length) T I1 hCle (Nat.le_refl _) hDC f1 hfp old hns₁ hacc;generalize hXc:X.comp Nc scope cl H2.objs.size s2 H1 fp=Xc at Ic;have stat:∀ {H':Hp},(∀ b∈fp,H' b=none)->∀ b∈fp,kJ Xc [] H' b:=fun {H'} hn b hb=>by
   subst hXc;exact ⟨hn b hb,below b (hfp b hb),(B5 T I1 hCle f1 hfp).exfs b hb,.inl hb,fun x c e=>(f1 b hb).2.2.2.2.1 x c (T.cells x c e),fun p hp=>by cases hp⟩
 have fr0:∀ b∈fp,upd H1 s2.heap.objs.size (.lst []) b=none:=fun b hb=>by
   rw [ap (Nat.ne_of_lt (hfp b hb))];exact (f1 b hb).1
 have calmc:Xc.calm=true:=by subst hXc;exact hc
 have loop:∀ s₃:Shared,s₃={ s2 with heap:=h₁,toks:=s2.toks+([]:List (Str × Value)).length } ->
     codeAny (model X.prog X.w) X.A (.compLoop (.ListComp elt [⟨target,iter,ifs,0⟩] scope cpos) 0 (.ref it) (.ref s2.heap.objs.size) (compEnvC scope cl H2.objs.size X.env))
       (compPost (model X.prog X.w) X.A X.xe (some (assign (.Name x px) X.env)) (fun _ s'=>wpAny (model X.prog X.w) X.A (pure ()) (fun _ s''=>wpAny (model X.prog X.w) X.A (pure Flow.next) (SP X pins D) X.xe s'') X.xe s') (.ref s2.heap.objs.size) H2.objs.size) s₃:=by
   rintro s₃ rfl;refine yB (fun n s'=>∃ i ys σ' H',Inv Xc [] σ' H' s'/\tn i s'.heap/\(∀ b∈fp,H' b=none)/\W i n ys σ' H') ?_ m0 ⟨0,[],_,_,Ic,st₁,fr0,w0⟩;rintro n s3 ⟨i,ys,σ3,H3,I3,st3,fr3,w3⟩;rcases turn i n ys σ3 H3 w3 with ⟨stop,q⟩|⟨go,step⟩
   . subst hXc;refine thn (Tn.done (X.comp Nc scope cl H2.objs.size s2 H1 fp) rfl rfl rfl hc i [] s3 σ3 H3 _ I3 (stat fr3) st3 stop) fun r s4 ⟨hr,I4⟩=>?_;subst hr;obtain ⟨m4,hn4,_⟩:=id I4.loc;have J:=CK I1 hCle f1 I4 (h':=s4.heap) (Heap.SameBut.refl _ _);have cl0:H2.objs.size≠X.env.locals:=Nat.ne_of_gt (Nat.lt_of_lt_of_le I1.lt hCle);have cy:X.s₀.heap.objs.size<=H2.objs.size:=Nat.le_trans I1.sz hCle;have cc:∀ y c,X.env.cells.lookup y=some c->c≠H2.objs.size:=fun y c e=>by
       obtain ⟨v',o',ho',_⟩:=I1.cell y c e;exact Nat.ne_of_lt (Nat.lt_of_lt_of_le (Heap.lt_size ho') hCle)
     have cp:∀ p∈X.pn++pins,p.1≠H2.objs.size:=fun p hp=>by
       obtain ⟨ho',_⟩:=I1.pin p hp;exact Nat.ne_of_lt (Nat.lt_of_lt_of_le (Heap.lt_size ho') hCle)
     refine NN (C5 (v:=.ref s2.heap.objs.size) J hN hxi (.inl hxl) rfl (fun s5 I5 ⟨ad,sb,had⟩=>?_) (.inr hxl));have nad:H2.objs.size≠ad:=by
       rcases had with rfl|had
       . exact cl0
       . exact (cc _ _ had).symm
     obtain ⟨oo,es,ep,e1,e2⟩:=hn4;refine ⟨m4,⟨oo,es,ep,(sb.2 _ nad).trans e1,e2⟩,fun h' hs'=>wpAny_pure (wpAny_pure ⟨_,H3,?_,q⟩)⟩;exact I5.turned (it:=H2.objs.size) (t':=s5.toks) (fun b o n e=>hs'.extBut b o n e) I4.free cl0 (.inr cy) cc cp
   . subst hXc;refine thn (Tn.item (X.comp Nc scope cl H2.objs.size s2 H1 fp) rfl rfl rfl hc i [] s3 σ3 H3 _ I3 (stat fr3) st3 go) fun r s4 ⟨u,hr,h4⟩=>?_;subst hr;refine thn h4 fun _ s5 ⟨x,H5,I5,r5,y5,st5,fr5⟩=>?_;have I5':=I5.pinned (stat fr5) (Tn.obj _ _ st5);have back:∀ {σ7:St} {H7:Hp} {s7:Shared},Inv (X.comp Nc scope cl H2.objs.size s2 H1 fp) ([]++se fp s5.heap) σ7 H7 s7->Inv (X.comp Nc scope cl H2.objs.size s2 H1 fp) [] σ7 H7 s7/\tn (i+1) s7.heap/\∀ b∈fp,H7 b=none:=fun {σ7 H7 s7} I7=>by
       refine ⟨I7.unpinned,Tn.keep _ _ _ st5 fun b hb o e=>(I7.pin (b,o) (List.mem_append_right _ (List.mem_append_right _ (jL hb e)))).1,fun b hb=>?_⟩;obtain ⟨o,e,d⟩:=Tn.obj _ _ st5 b hb;exact (I7.pin (b,o) (List.mem_append_right _ (List.mem_append_right _ (jL hb e)))).2.1
     refine thn (hg _ _ _ _ _ s5 σ3 H5 x u _ I5' r5 (step x H5 y5)) fun _ s6 ⟨σ6,H6,I6,q6⟩=>?_;refine Cl (ht _ _ _ _ _ s6 σ6 H6 _ I6 q6) fun ok s7 H7 I7 q7=>?_;cases ok with
     | false =>
       rw [if_neg Bool.false_ne_true] at q7 ⊢;obtain ⟨m',hm,w7⟩:=q7;obtain ⟨J1,J2,J3⟩:=back I7;exact ⟨m',hm,i+1,ys,σ6,H7,J1,J2,J3,w7⟩
     | true =>
       rw [if_pos rfl] at q7 ⊢;refine bg (he _ _ _ _ _ s7 σ6 H7 _ I7 q7) fun y s8 yv H8 I8 r8 ⟨hp8,hl8,m',hm,w8⟩=>?_;refine thn (fb _ s8 σ6 H8 (.ref s2.heap.objs.size) [yv] _ [y] (fun v' H'=>W (i+1) m' (ys++[yv]) σ6 H') I8 rfl (.cons r8 .nil) ⟨_,ys,yv,rfl,rfl,hp8,hl8,w8⟩) fun v9 s9 ⟨_,H9,I9,_,w9⟩=>?_;obtain ⟨J1,J2,J3⟩:=back I9;exact ⟨m',hm,i+1,ys++[yv],σ6,H9,J1,J2,J3,w9⟩
 exact codeAny_compStart_list (loop _ rfl) (Tn.self _ 0 _ _ _ st₁ (loop _ rfl))
end
end L2
set_option Elab.async false
set_option linter.all false
set_option maxRecDepth 100000
namespace L2
open PySem PySem.Spec PyProof.Rows
theorem xy {K:PySem.W.Frag} {H:Hp}:∀ ns:List Int,DeepAll K H (ns.map V.int) (ns.map PyData.int)
 | []=>.nil
 | n::ns=>.cons (.int n) (xy ns)
theorem CD {K:PySem.W.Frag} {H:Hp} {l:Addr} {ns:List Int} (h:H l=some (.lst (ns.map V.int))):Deep K H (.ref l) (.list (ns.map PyData.int)):=.lst (SqL.of h) (xy ns)
theorem yy:∀ ns:List Int,PyData.eqvAll (ns.map PyData.int) (ns.map PyData.int)=true
 | []=>by simp [PyData.eqvAll]
 | n::ns=>by
   simp only [List.map_cons,PyData.eqvAll];rw [yy ns];simp [PyData.eqv]
theorem LH (ns:List Int):PyData.eqv (.list (ns.map PyData.int)) (.list (ns.map PyData.int))=true:=by
 simp only [PyData.eqv];exact yy ns
theorem vC:∀ ns:List Int,PyData.depthAll (ns.map PyData.int)<=1
 | []=>by simp [PyData.depthAll]
 | n::ns=>by
   simp only [List.map_cons,PyData.depthAll];have:=vC ns;have:(PyData.int n).depth<=1:=by simp [PyData.depth]
   omega
theorem Iw (ns:List Int):(PyData.list (ns.map PyData.int)).depth<=40:=by
 simp only [PyData.depth];have:=vC ns;omega
theorem Lz {K:PySem.W.Frag} {H:Hp} {a b:Addr} {ns:List Int} {Q:VK} (ha:H a=some (.lst (ns.map V.int))) (hb:H b=some (.lst (ns.map V.int))) (q:Q (.bl false) H):QE K (.ref a) (.ref b) H Q :=
 ⟨_,_,CD ha,CD hb,Iw ns,by rw [LH];exact q⟩
end L2
set_option Elab.async false
set_option linter.all false
set_option maxRecDepth 100000
namespace Pb
open L2 PySem
def front (r:Int) (par:Int->Int) (p:Int):V:=if p=r then .non else .int (par p)
def aB (m:Int) (rs:List Road) (fv:V) (p:Int):List Int:=(fJ m rs p).filter fun v=>decide (V.int v≠fv)
variable {m:Int} {rs:List Road} {r:Int} {par:Int->Int} {dep:Int->Nat}
theorem Rooted.ne (R:Rooted m rs r par dep) {v:Int} (h0:0<=v) (h1:v<m) (hr:v≠r):par v≠v:=fun z=>by
 have:=(R.up v h0 h1 hr).2.2;rw [z] at this;omega
theorem aN (g:Good m rs) (R:Rooted m rs r par dep) {p v:Int} (p0:0<=p) (p1:p<m):v∈aB m rs (front r par p) p↔(0<=v/\v<m)/\v≠r/\par v=p:=by
 unfold aB;rw [List.mem_filter,jr g,decide_eq_true_eq]
 constructor
 . rintro ⟨ad,hf⟩;obtain ⟨_,hv,_⟩:=g.adj ad;refine ⟨hv,?_⟩;obtain ⟨x,hx,j⟩:=ad;have key:∀ u w:Int,(u≠r/\par u=w)\/(w≠r/\par w=u)->u=p->w=v->v≠r/\par v=p:=fun u w h e1 e2=>by
     subst e1 e2;rcases h with h|h
     . exfalso
       apply hf;unfold front;rw [if_neg h.1,h.2]
     . exact h
   rcases j with ⟨a,b⟩|⟨a,b⟩
   . exact key x.a x.b (R.road x hx) a b
   . exact key x.b x.a (R.road x hx).symm a b
 . rintro ⟨hv,hr,hp⟩;have u:=R.up v hv.1 hv.2 hr;rw [hp] at u;refine ⟨?_,fun z=>?_⟩
   . obtain ⟨x,hx,j⟩:=u.2.1;exact ⟨x,hx,j.elim (fun q=>.inr ⟨q.2,q.1⟩) (fun q=>.inl ⟨q.2,q.1⟩)⟩
   . unfold front at z;by_cases c:p=r
     . rw [if_pos c] at z;cases z
     . rw [if_neg c] at z;have e:v=par p:=(by injection z);have w:=(R.up p p0 p1 c).2.2;have w2:=u.2.2;rw [<- e] at w;omega
theorem ie {fv:V} {p:Int}:(aB m rs fv p).Nodup:=(zW m rs p).filter _
def nl (m:Int) (par:Int->Int) (ks:List Int):List V:=(below m.toNat).map fun v=>if v∈ks then .int (par v) else .non
def kU (m r:Int) (par:Int->Int):List V:=(below m.toNat).map (front r par)
theorem qZ {ks:List Int}:(nl m par ks).length=m.toNat:=by unfold nl;rw [List.length_map,aU]
theorem fV {n i:Nat} (h:i<n):(below n)[i]?=some (i:Int):=by unfold below;rw [List.getElem?_map,List.getElem?_range h];rfl
theorem Ky {ks:List Int} {v:Int} (h0:0<=v) (h1:v<m):(nl m par ks)[v.toNat]?=some (if v∈ks then .int (par v) else .non):=by
 unfold nl;rw [List.getElem?_map,fV (by omega)];show some (if ((v.toNat:Nat):Int)∈ks then V.int (par ((v.toNat:Nat):Int)) else V.non)=_;rw [Int.toNat_of_nonneg h0]
theorem Qj {ks:List Int} {v:Int} (h0:0<=v) (h1:v<m):(nl m par ks).set v.toNat (.int (par v))=nl m par (ks++[v]):=by
 refine List.ext_getElem? fun i=>?_;rw [List.getElem?_set];by_cases c:i<m.toNat
 . have e:∀ l:List Int,(nl m par l)[i]?=some (if (i:Int)∈l then .int (par (i:Int)) else .non):=fun l=>by
     have:=Ky (par:=par) (ks:=l) (v:=(i:Int)) (m:=m) (by omega) (by omega)
     rwa [Int.toNat_natCast] at this
   rw [e,qZ];by_cases z:v.toNat=i
   . have z2:v=(i:Int):=(by omega);rw [if_pos z,if_pos (by omega),e,if_pos (by rw [z2];simp),<- z2]
   . rw [if_neg z,e];have z2:¬ ((i:Int)=v):=(by omega);simp [z2]
 . have e:∀ l:List Int,(nl m par l)[i]?=none:=fun l=>List.getElem?_eq_none (by rw [qZ];omega);rw [e,e,qZ];by_cases z:v.toNat=i
   . omega
   . rw [if_neg z]
structure AInv (m:Int) (rs:List Road) (r:Int) (par:Int->Int) (ks ws:List Int):Prop where
 nd:ks.Nodup
 rng:∀ k∈ks,0<=k/\k<m
 nr:r ∉ ks
 sub:∀ w∈ws,w=r\/w∈ks
 wnd:ws.Nodup
 ok:∀ v∈ks,par v ∉ ws/\(par v=r\/par v∈ks)
 dn:∀ v,0<=v->v<m->v≠r->(par v=r\/par v∈ks)->par v ∉ ws->v∈ks
theorem AInv.start:AInv m rs r par [] [r] where
 nd:=List.nodup_nil
 rng:=fun _ h=>by cases h
 nr:=fun h=>by cases h
 sub:=fun w h=>.inl (List.mem_singleton.mp h)
 wnd:=by simp
 ok:=fun _ h=>by cases h
 dn:=fun v _ _ _ h n=>by
   rcases h with h|h
   . exact absurd (by rw [h];simp) n
   . cases h
theorem AInv.at_ (J:AInv m rs r par ks ws) (r0:0<=r) (r1:r<m) {p:Int} (hp:p∈ws):0<=p/\p<m:=by
 rcases J.sub p hp with h|h
 . rw [h];exact ⟨r0,r1⟩
 . exact J.rng p h
theorem AInv.front (J:AInv m rs r par ks ws) {p:Int} (hp:p∈ws):(if p∈ks then V.int (par p) else V.non)=front r par p:=by
 unfold Pb.front;by_cases c:p=r
 . rw [if_pos c,if_neg (by rw [c];exact J.nr)]
 . rw [if_neg c,if_pos ((J.sub p hp).resolve_left c)]
theorem AInv.step (g:Good m rs) (R:Rooted m rs r par dep) (r0:0<=r) (r1:r<m) {ks ws ws':List Int} {p:Int} (J:AInv m rs r par ks ws) (e:ws.Perm (p::ws')):AInv m rs r par (ks++aB m rs (Pb.front r par p) p) (ws'++aB m rs (Pb.front r par p) p):=by
 have hp:p∈ws:=e.mem_iff.mpr List.mem_cons_self;have pr:=J.at_ r0 r1 hp;have mk:∀ v,v∈aB m rs (Pb.front r par p) p↔(0<=v/\v<m)/\v≠r/\par v=p:=fun v=>aN g R pr.1 pr.2;have nk:(aB m rs (Pb.front r par p) p).Nodup:=ie;generalize aB m rs (Pb.front r par p) p=kk at mk nk ⊢;have dis:∀ v∈kk,v ∉ ks:=fun v hv z=>(J.ok v z).1 (by rw [((mk v).mp hv).2.2];exact hp);obtain ⟨n1,n2⟩:=List.nodup_cons.mp (e.nodup_iff.mp J.wnd);have sw:∀ w∈ws',w∈ws:=fun w hw=>e.mem_iff.mpr (List.mem_cons_of_mem _ hw);refine ⟨?_,?_,?_,?_,?_,?_,?_⟩
 . rw [List.nodup_append];exact ⟨J.nd,nk,fun a ha b hb z=>dis b hb (z ▸ ha)⟩
 . intro k hk;rcases List.mem_append.mp hk with h|h
   . exact J.rng k h
   . exact ((mk k).mp h).1
 . intro z;rcases List.mem_append.mp z with h|h
   . exact J.nr h
   . exact ((mk r).mp h).2.1 rfl
 . intro w hw;rcases List.mem_append.mp hw with h|h
   . exact (J.sub w (sw w h)).imp id (List.mem_append_left _)
   . exact .inr (List.mem_append_right _ h)
 . rw [List.nodup_append];refine ⟨n2,nk,fun a ha b hb z=>?_⟩;subst z;rcases J.sub a (sw a ha) with h|h
   . exact ((mk a).mp hb).2.1 h
   . exact dis a hb h
 . intro v hv;rcases List.mem_append.mp hv with h|h
   . obtain ⟨o1,o2⟩:=J.ok v h;refine ⟨fun z=>?_,o2.imp id (List.mem_append_left _)⟩;rcases List.mem_append.mp z with z|z
     . exact o1 (sw _ z)
     . rcases o2 with o|o
       . exact ((mk _).mp z).2.1 o
       . exact dis _ z o
   . obtain ⟨q1,q2,q3⟩:=(mk v).mp h;rw [q3];refine ⟨fun z=>?_,(J.sub p hp).imp id (List.mem_append_left _)⟩;rcases List.mem_append.mp z with z|z
     . exact n1 z
     . obtain ⟨w1,w2,w3⟩:=(mk p).mp z;exact R.ne w1.1 w1.2 w2 w3
 . intro v v0 v1 vr h n;have nk2:par v ∉ kk:=fun z=>n (List.mem_append_right _ z);have h':par v=r\/par v∈ks:=h.imp id fun z=>(List.mem_append.mp z).resolve_right nk2;by_cases c:par v=p
   . exact List.mem_append_right _ ((mk v).mpr ⟨⟨v0,v1⟩,vr,c⟩)
   . refine List.mem_append_left _ (J.dn v v0 v1 vr h' fun z=>?_);rcases List.mem_cons.mp (e.mem_iff.mp z) with z|z
     . exact c z
     . exact n (List.mem_append_left _ z)
theorem AInv.perm {ks ws ws2:List Int} (J:AInv m rs r par ks ws) (e:ws.Perm ws2):AInv m rs r par ks ws2 where
 nd:=J.nd
 rng:=J.rng
 nr:=J.nr
 sub:=fun w h=>J.sub w (e.mem_iff.mpr h)
 wnd:=e.nodup_iff.mp J.wnd
 ok:=fun v h=>⟨fun z=>(J.ok v h).1 (e.mem_iff.mpr z),(J.ok v h).2⟩
 dn:=fun v h0 h1 hr h n=>J.dn v h0 h1 hr h fun z=>n (e.mem_iff.mp z)
theorem AInv.all (R:Rooted m rs r par dep) {ks:List Int} (J:AInv m rs r par ks []):∀ v,0<=v->v<m->v≠r->v∈ks:=by
 have key:∀ n v,dep v=n->0<=v->v<m->v≠r->v∈ks:=by
   intro n
   induction n with
   | zero =>
     intro v e v0 v1 vr;have:=(R.up v v0 v1 vr).2.2;omega
   | succ n ih =>
     intro v e v0 v1 vr;have u:=R.up v v0 v1 vr;refine J.dn v v0 v1 vr ?_ (by simp);by_cases c:par v=r
     . exact .inl c
     . exact .inr (ih (par v) (by omega) u.1.1 u.1.2 c)
 exact fun v=>key _ v rfl
theorem AInv.done (R:Rooted m rs r par dep) {ks:List Int} (J:AInv m rs r par ks []):nl m par ks=kU m r par:=by
 unfold nl kU;refine List.map_congr_left fun v hv=>?_;have hv':0<=v/\v<m:=by
   unfold below at hv;obtain ⟨k,hk,rfl⟩:=List.mem_map.mp hv;have:=List.mem_range.mp hk;omega
 unfold Pb.front;by_cases c:v=r
 . rw [if_pos c,if_neg (by rw [c];exact J.nr)]
 . rw [if_neg c,if_pos (J.all R v hv'.1 hv'.2 c)]
theorem uz (n:Nat) (v:V):(List.replicate n [v]).flatten=List.replicate n v:=by
 induction n with
 | zero=>rfl
 | succ n ih=>rw [List.replicate_succ,List.flatten_cons,ih,List.replicate_succ];rfl
theorem Qh:nl m par []=List.replicate m.toNat V.non:=by
 unfold nl;refine List.ext_getElem? fun i=>?_;by_cases c:i<m.toNat
 . rw [List.getElem?_map,fV c,List.getElem?_replicate,if_pos c];simp
 . rw [List.getElem?_eq_none (by rw [List.length_map,aU];omega),List.getElem?_eq_none (by rw [List.length_replicate];omega)]
def iI (par:Int->Int):Nat->Int->List Int
 | 0,v=>[v]
 | n+1,v=>v::iI par n (par v)
theorem Rooted.pos (R:Rooted m rs r par dep) {v:Int} (h0:0<=v) (h1:v<m) (hr:v≠r):dep v=dep (par v)+1:=(R.up v h0 h1 hr).2.2.symm
theorem AF (R:Rooted m rs r par dep):∀ (n:Nat) (v:Int),dep v=n->0<=v->v<m->(iI par n v).Nodup/\(∀ x∈iI par n v,(0<=x/\x<m)/\dep x<=n)/\(iI par n v).length=n+1
 | 0,v,e,h0,h1=>⟨by unfold iI;simp,fun x hx=>by
     unfold iI at hx;rw [List.mem_singleton.mp hx];exact ⟨⟨h0,h1⟩,by omega⟩,rfl⟩
 | n+1,v,e,h0,h1=>by
   have hr:v≠r:=fun z=>by rw [z,R.root] at e;omega
   have u:=R.up v h0 h1 hr;obtain ⟨i1,i2,i3⟩:=AF R n (par v) (by omega) u.1.1 u.1.2;unfold iI;refine ⟨List.nodup_cons.mpr ⟨fun z=>?_,i1⟩,fun x hx=>?_,by rw [List.length_cons,i3]⟩
   . have:=(i2 v z).2;omega
   . rcases List.mem_cons.mp hx with rfl|hx
     . exact ⟨⟨h0,h1⟩,by omega⟩
     . exact ⟨(i2 x hx).1,by have:=(i2 x hx).2;omega⟩
theorem eT (R:Rooted m rs r par dep) {v:Int} (h0:0<=v) (h1:v<m):dep v+1<=m.toNat:=by
 obtain ⟨i1,i2,i3⟩:=AF R _ v rfl h0 h1;have:=cL (m:=m) (by omega) i1 fun x hx=>(i2 x hx).1;omega
theorem zB {v:Int} (h0:0<=v) (h1:v<m):(kU m r par)[v.toNat]?=some (front r par v):=by
 unfold kU;rw [List.getElem?_map,fV (by omega)];show some (front r par ((v.toNat:Nat):Int))=_;rw [Int.toNat_of_nonneg h0]
theorem sx (g:Good m rs) (R:Rooted m rs r par dep) {v:Int} (h0:0<=v) (h1:v<m) (hr:v≠r):∃ k,aE rs v (par v)=some k/\2<=k/\k<=1000000:=by
 obtain ⟨x,hx,j⟩:=(R.up v h0 h1 hr).2.1;obtain ⟨i,hi⟩:=List.getElem?_of_mem hx;have ok:=g.ok x hx;rw [qX g hi j];unfold di;by_cases c:x.a=v/\x.b=par v
 . rw [if_pos c];exact ⟨_,rfl,ok.t0,ok.t1⟩
 . rw [if_neg c];have c2:x.a=par v/\x.b=v:=by
     rcases j with j|j
     . exact absurd j c
     . exact ⟨j.2,j.1⟩
   rw [if_pos c2];exact ⟨_,rfl,ok.u0,ok.u1⟩
def nM (m:Int) (rs:List Road) (r:Int) (par:Int->Int):Nat->Int->List Int
 | 0,v=>[v]
 | n+1,v=>v::(aB m rs (front r par v) v).flatMap (nM m rs r par n)
def bL (m:Int) (rs:List Road) (r:Int) (par:Int->Int) (dep:Int->Nat) (v:Int):List Int:=nM m rs r par (m.toNat - 1 - dep v) v
theorem sH {f h:Int->List Int}:∀ {l:List Int},(∀ x∈l,f x=h x)->l.flatMap f=l.flatMap h
 | [],_=>rfl
 | a::l,e=>by rw [List.flatMap_cons,List.flatMap_cons,e a List.mem_cons_self,sH fun x hx=>e x (List.mem_cons_of_mem _ hx)]
theorem fN (g:Good m rs) (R:Rooted m rs r par dep) {v:Int} (h0:0<=v) (h1:v<m):bL m rs r par dep v=v::(aB m rs (front r par v) v).flatMap (bL m rs r par dep):=by
 have mk:∀ u,u∈aB m rs (front r par v) v->(0<=u/\u<m)/\u≠r/\par u=v:=fun u=>(aN g R h0 h1).mp;have du:∀ u∈aB m rs (front r par v) v,dep u=dep v+1/\dep u+1<=m.toNat:=fun u hu=>by
   obtain ⟨w1,w2,w3⟩:=mk u hu;have:=R.pos w1.1 w1.2 w2;rw [w3] at this;exact ⟨this,eT R w1.1 w1.2⟩
 unfold bL;cases e:m.toNat - 1 - dep v with
 | zero =>
   have:aB m rs (front r par v) v=[]:=List.eq_nil_iff_forall_not_mem.mpr fun u hu=>by
     have:=du u hu;omega
   rw [this]
   rfl
 | succ n =>
   show v::(aB m rs (front r par v) v).flatMap (nM m rs r par n)=_;rw [sH fun u hu=>show nM m rs r par n u=nM m rs r par (m.toNat - 1 - dep u) u by rw [show m.toNat - 1 - dep u=n by have:=du u hu;omega]]
def up (par:Int->Int):Nat->Int->Int
 | 0,x=>x
 | k+1,x=>par (up par k x)
theorem A2 {f:Int->List Int}:∀ {l:List Int},l.Nodup->(∀ u∈l,(f u).Nodup)->(∀ u∈l,∀ w∈l,∀ x,x∈f u->x∈f w->u=w)->(l.flatMap f).Nodup
 | [],_,_,_=>by simp
 | a::l,n,h1,h2=>by
   obtain ⟨n1,n2⟩:=List.nodup_cons.mp n;rw [List.flatMap_cons,List.nodup_append];refine ⟨h1 a List.mem_cons_self,A2 n2 (fun u hu=>h1 u (List.mem_cons_of_mem _ hu)) (fun u hu w hw=>h2 u (List.mem_cons_of_mem _ hu) w (List.mem_cons_of_mem _ hw)),fun x hx y hy z=>?_⟩;subst z;obtain ⟨w,hw,hxw⟩:=List.mem_flatMap.mp hy;have:=h2 a List.mem_cons_self w (List.mem_cons_of_mem _ hw) x hx hxw;exact n1 (this ▸ hw)
theorem tm (g:Good m rs) (R:Rooted m rs r par dep):∀ (n:Nat) (v:Int),0<=v->v<m->(nM m rs r par n v).Nodup/\∀ x∈nM m rs r par n v,(0<=x/\x<m)/\∃ k,dep x=dep v+k/\up par k x=v
 | 0,v,h0,h1=>⟨by unfold nM;simp,fun x hx=>by
     unfold nM at hx;rw [List.mem_singleton.mp hx];exact ⟨⟨h0,h1⟩,0,rfl,rfl⟩⟩
 | n+1,v,h0,h1=>by
   have mk:∀ u,u∈aB m rs (front r par v) v->(0<=u/\u<m)/\u≠r/\par u=v:=fun u=>(aN g R h0 h1).mp;have nk:(aB m rs (front r par v) v).Nodup:=ie;have ih:=fun u hu=>tm g R n u (mk u hu).1.1 (mk u hu).1.2;have du:∀ u∈aB m rs (front r par v) v,dep u=dep v+1:=fun u hu=>by
     obtain ⟨w1,w2,w3⟩:=mk u hu;have:=R.pos w1.1 w1.2 w2;rw [w3] at this;exact this
   unfold nM;refine ⟨List.nodup_cons.mpr ⟨fun z=>?_,A2 nk (fun u hu=>(ih u hu).1) fun u hu w hw x hx hy=>?_⟩,fun x hx=>?_⟩
   . obtain ⟨u,hu,hv⟩:=List.mem_flatMap.mp z;obtain ⟨_,k,e,_⟩:=(ih u hu).2 v hv;have:=du u hu;omega
   . obtain ⟨_,k1,e1,f1⟩:=(ih u hu).2 x hx;obtain ⟨_,k2,e2,f2⟩:=(ih w hw).2 x hy;have d1:=du u hu;have d2:=du w hw;have:k1=k2:=(by omega);rw [<- f1,<- f2,this]
   . rcases List.mem_cons.mp hx with rfl|hx
     . exact ⟨⟨h0,h1⟩,0,rfl,rfl⟩
     . obtain ⟨u,hu,hv⟩:=List.mem_flatMap.mp hx;obtain ⟨xr,k,e,f⟩:=(ih u hu).2 x hv;exact ⟨xr,k+1,by rw [e,du u hu];omega,by show par (up par k x)=v;rw [f];exact (mk u hu).2.2⟩
theorem NO (g:Good m rs) (R:Rooted m rs r par dep) {v:Int} (h0:0<=v) (h1:v<m):(bL m rs r par dep v).length<=24:=by
 obtain ⟨n1,n2⟩:=tm g R (m.toNat - 1 - dep v) v h0 h1;have:=cL (m:=m) (by omega) n1 fun x hx=>(n2 x hx).1;have:=g.m24;unfold bL;omega
end Pb
set_option Elab.async false
set_option linter.all false
set_option maxRecDepth 100000
namespace L2
open PySem PySem.Spec PyProof.Rows
def Itv (K:PySem.W.Frag) (a:Addr) (n:Nat):It :=
 ⟨fun i H=>i<n/\∃ xs x,SqL K H a xs/\xs[n - 1 - i]?=some x,fun i H x H'=>H'=H/\∀ xs,SqL K H a xs->xs[n - 1 - i]?=some x,fun i H=>n<=i⟩
theorem Md {P:Program} {w:World} {K:PySem.W.Frag} {tg:Expr} (a it:Addr) (n:Nat):Turn P w K tg (Itv K a n) [it] it (fun i h=>i<=n/\h.IsRevIter it a ((n:Int) - 1 - (i:Int))) where
 mem:=by simp
 obj:=fun i h st b hb=>by
   have e:b=it:=by simpa using hb
   subst e;obtain ⟨_,o,e,c,d⟩:=st;exact ⟨o,e,fun v z=>by rw [d] at z;cases z⟩
 keep:=fun i h h' st k=>⟨st.1,st.2.at fun o e=>k it (by simp) o e⟩
 item:=by
   intro X hP hw hK hc i pins s σ H E I hf st hg;subst hP hw hK;obtain ⟨hi,xs,x,hq,hx⟩:=hg;obtain ⟨its,rv,p,hz⟩:=I.list hq;obtain ⟨u,hu,ru⟩:=rv.get hx;obtain ⟨f0,f1,f2,f3,f4,f5⟩:=hf it (by simp);have e0:(n:Int) - 1 - (i:Int)=((n - 1 - i:Nat):Int):=by omega
   have st2:=st.2;rw [e0] at st2;refine wpAny_pyNext_rev_item st2 p.isList (x:=u) (by simpa using hu) fun h' st' sb=>?_;have I1:Inv X pins σ H { s with heap:=h' }:=I.turned (t':=s.toks) (fun b o hb e=>(sb.2 b hb).trans e) f0 f1 f3 f4 f5;obtain ⟨o,e,c,d⟩:=id st';have e1:((n - 1 - i:Nat):Int) - 1=(n:Int) - 1 - ((i+1:Nat):Int):=by omega
   rw [e1] at st';exact ⟨u,rfl,Dz (s:={ s with heap:=h' }) e c d (by decide) ⟨x,H,I1,ru,⟨rfl,fun ys hy=>by rw [I.list_inj hy hq];exact hx⟩,⟨hi,st'⟩,fun b hb=>(hf b hb).1⟩⟩
 done:=by
   intro X hP hw hK hc i pins s σ H E I hf st hg;subst hP hw hK;have hg':n<=i:=hg;obtain ⟨f0,f1,f2,f3,f4,f5⟩:=hf it (by simp);have st2:=st.2;have st1:=st.1;rw [show (n:Int) - 1 - (i:Int)=-1 by omega] at st2;exact wpAny_pyNext_rev_end (I.ok.hd hc) st2 fun h' eb=>⟨rfl,I.turned (t':=s.toks) (fun b o hb e=>eb b o hb e) f0 f1 f3 f4 f5⟩
 self:=fun _ _ _ _ _ st h=>wpAny_pyIter_revIter st.2 h
def MN (K:PySem.W.Frag) (tl:TE):TI:=fun σ H R=>tl σ H fun x H1=>∃ a xs,x=.ref a/\SqL K H1 a xs/\R (Itv K a xs.length) H1
section
variable {X:Cx} {tg e:Expr} {te:TE} {p2 pos:Pos}
theorem FW (hg:Gl X "reversed") (hm:X.mg "reversed"=none) (he:PE X e te) (h2:starEach [e] X.env=[(false,eval e X.env)]:=by rfl):PI X tg (.Call (.Name "reversed" p2) [e] [] pos) (MN X.K te):=by
 intro pins s σ H R I h;refine Call_ (nG I hg hm boot_reversed (PyProof.Rows.callWith_type1 ?_ h2 rfl));rw [h2];show wpAny _ _ (spliced ((false,eval e X.env)::backTo pos [])) _ _ s;refine Calls.spliced_cons (bg (he pins s σ H _ I h) fun u s1 x H1 I1 r1 q1=>Calls.spliced_nil ?_);obtain ⟨a,ys,ex,sa,q⟩:=q1;subst ex;cases r1;obtain ⟨its,rv,pl,hz⟩:=I1.list sa;refine call_reversed_list pl.isList ?_;have sz:its.toArray.size=ys.length:=by rw [List.size_toArray,rv.length]
 rw [sz];refine wpAny_pyIter_revIter (i:=(ys.length:Int) - 1) (l:=a) ⟨_,Heap.get?_push_size _ rfl,rfl,rfl⟩ ?_;refine ⟨s1.heap.objs.size,[s1.heap.objs.size],_,_,H1,rfl,I1.kept (t':=s1.toks) fun b o e=>Heap.get?_push_of_some _ e,Md a _ ys.length,⟨Nat.zero_le _,?_⟩,fun b hb=>?_,q⟩
 . exact ⟨_,Heap.get?_push_size _ rfl,rfl,by simp [revObj]⟩
 . have e:b=s1.heap.objs.size:=by simpa using hb
   subst e;exact I1.fpOk (Nat.le_refl _) (I1.hok.fresh (Nat.le_refl _))
end
theorem Fo {K:PySem.W.Frag} {a:Addr} {xs:List V} {g:TG} {tb:TS} {D:Ends} {σ:St} {H:Hp} (Pv:Nat->St->Hp->Prop) (h0:Pv 0 σ H) (hl:∀ i σ H,i<=xs.length->Pv i σ H->SqL K H a xs)
   (hs:∀ (i:Nat) (x:V) (σ:St) (H:Hp) (N:St->Hp->Prop),(∀ σ' H',Pv (i+1) σ' H'->N σ' H')->xs.reverse[i]?=some x->Pv i σ H->g x σ H fun σ2 H2=>tb { D with nx:=N,ct:=N,bk:=D.nx } σ2 H2) (hd:∀ σ H,Pv xs.length σ H->D.nx σ H) :
   qP (Itv K a xs.length) D g tb σ H:=by
 refine ⟨fun i m σ H=>m=xs.length - i/\i<=xs.length/\Pv i σ H,⟨xs.length,by simp,Nat.zero_le _,h0⟩,?_⟩;rintro i m σ H ⟨rfl,hi,p⟩;have q:=hl i σ H hi p;by_cases hlt:i<xs.length
 . have hx:xs[xs.length - 1 - i]?=some xs[xs.length - 1 - i]:=List.getElem?_eq_getElem (by omega);refine .inr ⟨⟨hlt,xs,_,q,hx⟩,fun σ' H'=>∃ m',m'<xs.length - i/\(m'=xs.length - (i+1)/\i+1<=xs.length/\Pv (i+1) σ' H'),fun σ' H' z=>z,fun x H' y=>?_⟩;obtain ⟨e,y⟩:=y;subst e;exact hs i x σ _ _ (fun σ' H' p'=>⟨xs.length - (i+1),by omega,rfl,hlt,p'⟩) (by rw [List.getElem?_reverse hlt];exact y xs q) p
 . have e:i=xs.length:=by omega
   subst e;exact .inl ⟨Nat.le_refl _,hd σ H p⟩
end L2
set_option Elab.async false
set_option linter.all false
set_option maxRecDepth 100000
namespace L2
open PySem PySem.Spec PyProof.Rows
def JH (te:TE):TE:=fun σ H Q=>te σ H fun x H1=>∃ i,x=.int i/\0<=i/\i<=100000/\∀ l,H1 l=none->Q (.ref l) (upd H1 l (.lst ((Pb.below i.toNat).map V.int)))
section
variable {X:Cx} {e:Expr} {te:TE} {p1 p2 pos pos2:Pos}
end
end L2
set_option Elab.async false
set_option linter.all false
set_option maxRecDepth 100000
namespace L2
open PySem PySem.Spec PyProof.Rows PySem.W
section
variable {X:Cx}
end
end L2
set_option Elab.async false
set_option linter.all false
set_option maxRecDepth 100000
namespace L2
open PySem PySem.Spec PyProof.Rows
theorem J5:bootBuiltins "sum"=some (.builtin "sum"):=by decide +kernel
theorem yi (ns:List Int):∀ n,n<=ns.length->preSum (fun i=>ns.getD i 0) n=(ns.take n).sum
 | 0,_=>by simp [preSum]
 | n+1,h=>by
   have ih:=yi ns n (by omega);have hn:n<ns.length:=by omega
   rw [List.take_succ,List.getElem?_eq_getElem hn,List.sum_append,<- ih];simp [preSum,List.getD,hn]
section
variable {X:Cx}
theorem EL (hc:X.calm=true):lV X (.builtin "sum") (fun xs H Q=>∃ (p:Addr) (ns:List Int),xs=[.ref p]/\(SqL X.K H p (ns.map V.int)\/SqT X.K H p (ns.map V.int))/\Q (.int ns.sum) H):=by
 intro pins s σ H xs us Q I r h;obtain ⟨p,ns,rfl,hp,q⟩:=h;obtain ⟨u,rfl,ru⟩:=tS r;cases ru;have hh:X.A.in1.handled=none:=I.ok.hd hc;have vals:∀ {its:List Value},Vals (ns.map V.int) its->its.length=ns.length/\∀ (i:Nat) (v:Value),its.toArray[i]?=some v->∃ t,v=Value.int (ns.getD i 0) t:=by
   intro its rv;have hlen:its.length=ns.length:=by rw [<- rv.length,List.length_map]
   refine ⟨hlen,fun i v hP=>?_⟩;have hi:its[i]?=some v:=by simpa using hP
   have hib:i<ns.length:=by rw [<- hlen];exact (List.getElem?_eq_some_iff.mp hi).1
   obtain ⟨u,hu,ru⟩:=rv.get (i:=i) (x:=V.int ns[i]) (by rw [List.getElem?_map,List.getElem?_eq_getElem hib];rfl);rw [hi] at hu;cases hu;obtain ⟨t,e⟩:=(show ∃ t,v=Value.int ns[i] t from ru);exact ⟨t,by rw [e];simp [List.getD,hib]⟩
 have fin:∀ {n:Nat},n=ns.length->preSum (fun i=>ns.getD i 0) n=ns.sum:=fun {n} e=>by rw [yi ns n (by omega),List.take_of_length_le (by omega)]
 rcases hp with hp|hp
 . obtain ⟨its,rv,pl,hz⟩:=I.list hp;obtain ⟨hlen,hv⟩:=vals rv;have hl:=pl.isList;have hlt:=pl.lt;refine call_sum_walkG (wpAny_pyIter_list hl ?_);refine ⟨s.heap.objs.size,[s.heap.objs.size,p],[s.heap.objs.size],its.toArray.size,_,_,fun i=>ns.getD i 0,rfl,Walks.list (A:=X.A.in1) hh _ p (Nat.ne_of_lt hlt) its.toArray,
     ⟨⟨_,Heap.get?_push_size _ rfl,rfl,rfl⟩,hl.push _⟩,fun b hb=>?_,fun i v hP=>hv i v hP,fun h' tk t' hk=>?_⟩
   . simp only [Heap.push,Array.size_push];rcases List.mem_cons.mp hb with e|e
     . rw [e];exact Nat.lt_succ_self _
     . rw [List.mem_singleton.mp e];exact Nat.lt_succ_of_lt hlt
   . have kk:∀ b o,s.heap.get? b=some o->h'.get? b=some o:=fun b o eb=>hk b o (fun hm=>by rw [List.mem_singleton.mp hm] at eb;exact Nat.lt_irrefl _ (Heap.lt_size eb)) (Heap.get?_push_of_some _ eb);rw [fin (by rw [List.size_toArray,hlen])];exact ⟨.int _,H,I.kept (t':=tk) kk,⟨t',rfl⟩,q⟩
 . obtain ⟨its,rv,pl,hz⟩:=I.tuple hp;obtain ⟨hlen,hv⟩:=vals rv;have hl:s.heap.IsTuple p its.toArray:=pl;have hlt:p<s.heap.objs.size:=by
     obtain ⟨o,e,_⟩:=id hl;exact Heap.lt_size e
   refine call_sum_walkG (wpAny_pyIter_tuple hl ?_);refine ⟨s.heap.objs.size,[s.heap.objs.size,p],[s.heap.objs.size],its.toArray.size,_,_,fun i=>ns.getD i 0,rfl,Walks.tuple (A:=X.A.in1) hh _ p (Nat.ne_of_lt hlt) its.toArray,
     ⟨⟨_,Heap.get?_push_size _ rfl,rfl,rfl⟩,hl.push _⟩,fun b hb=>?_,fun i v hP=>hv i v hP,fun h' tk t' hk=>?_⟩
   . simp only [Heap.push,Array.size_push];rcases List.mem_cons.mp hb with e|e
     . rw [e];exact Nat.lt_succ_self _
     . rw [List.mem_singleton.mp e];exact Nat.lt_succ_of_lt hlt
   . have kk:∀ b o,s.heap.get? b=some o->h'.get? b=some o:=fun b o eb=>hk b o (fun hm=>by rw [List.mem_singleton.mp hm] at eb;exact Nat.lt_irrefl _ (Heap.lt_size eb)) (Heap.get?_push_of_some _ eb);rw [fin (by rw [List.size_toArray,hlen])];exact ⟨.int _,H,I.kept (t':=tk) kk,⟨t',rfl⟩,q⟩
end
theorem Hg {X:Cx} (K:PySem.W.Frag) (hK:X.K=K) {es:List Expr} {k:Nat} {pos:Pos} {t:TGs} {n:Nat} (hc:X.calm=true) (h:PGs X es t)
   (hn:(assignEach es X.env).length=n:=by rfl) (hst:(assignEach es X.env).findIdx? (·.1)=none:=by rfl):PG X (.Tuple es k pos) (Hs K n t):=by
 subst hK;exact nC hc h hn hst
theorem Mo {K:PySem.W.Frag} {c d:Bool} {a b p:Addr} {xs zs:List V} {Q:VK} {g:TG} {tc:TT} {te:TE} {σ0:St} {H0:Hp} (Pv:Nat->List V->St->Hp->Prop) (h0:Pv 0 [] σ0 H0) (hl:∀ i ys σ H,Pv i ys σ H->SqX K c H a xs/\SqX K d H b zs)
   (hs:∀ (i:Nat) (x z:V) (ys:List V) (σ:St) (H:Hp) (q:Addr) (N:List V->St->Hp->Prop),(∀ ys' σ' H',Pv (i+1) ys' σ' H'->N ys' σ' H')->xs[i]?=some x->zs[i]?=some z->Pv i ys σ H->H q=none->g (.ref q) σ (upd H q (.tup [x,z])) fun σ2 H2=>tc σ2 H2 fun b H3 =>
     if b=true then te σ2 H3 fun y H4=>H4 p=some (.lst ys)/\ys.length<sizeLine/\N (ys++[y]) σ2 (upd H4 p (.lst (ys++[y]))) else N ys σ2 H3)
   (hd:∀ ys σ H,Pv (min xs.length zs.length) ys σ H->Q (.ref p) H):sv (Itz K c d a b) p Q g tc te σ0 H0:=by
 refine ⟨fun i m ys σ H=>m=min xs.length zs.length - i/\i<=min xs.length zs.length/\Pv i ys σ H,⟨_,rfl,Nat.zero_le _,h0⟩,?_⟩;rintro i m ys σ H ⟨rfl,hi,pv⟩;obtain ⟨q1,q2⟩:=hl i ys σ H pv;by_cases hlt:i<min xs.length zs.length
 . refine .inr ⟨⟨xs,zs,xs[i]'(by omega),zs[i]'(by omega),q1,q2,List.getElem?_eq_getElem (by omega),List.getElem?_eq_getElem (by omega)⟩,fun x H' y=>?_⟩;obtain ⟨p',x',y',hp,rfl,rfl,e1,e2⟩:=y;exact hs i x' y' ys σ H p' (fun ys' σ' H'=>∃ m',m'<min xs.length zs.length - i/\(m'=min xs.length zs.length - (i+1)/\i+1<=min xs.length zs.length/\Pv (i+1) ys' σ' H')) (fun ys' σ' H' pv'=>⟨min xs.length zs.length - (i+1),by omega,rfl,hlt,pv'⟩) (e1 xs q1) (e2 zs q2) pv hp
 . have e:i=min xs.length zs.length:=by omega
   subst e;exact .inl ⟨⟨xs,zs,q1,q2,by omega⟩,hd ys σ H pv⟩
theorem Ea {H:Hp} {l:Addr} {xs:List V} {i:Int} {v:V} {Q:Hp->Prop} (h:H l=some (.lst xs)) (i0:0<=i) (i1:i<xs.length) (q:Q (upd H l (.lst (xs.set i.toNat v)))):rSetL (.ref l) (.int i) v H Q :=
 ⟨l,xs,i,i.toNat,rfl,rfl,h,by unfold ixN;rw [if_pos i0,if_pos (by omega)],q⟩
theorem atG {xs:List Int} {i:Int} (i0:0<=i) (i1:i<xs.length):atI (xs.map V.int) i=some (.int (xs.getD i.toNat 0)):=iH i0 (by
 have h:i.toNat<xs.length:=by omega
 rw [List.getElem?_map,List.getElem?_eq_getElem h];simp [List.getD,h])
theorem KM {xs:List Int} {n:Nat} {v:Int} (h:∀ x∈xs,0<=x) (hv:0<=v):∀ x∈xs.set n v,0<=x:=fun x hx=>by
 rcases List.mem_or_eq_of_mem_set hx with h1|h1
 . exact h x h1
 . rw [h1];exact hv
theorem GS {xs:List Int} (h:∀ x∈xs,0<=x) (n:Nat):0<=xs.getD n 0:=by
 by_cases z:n<xs.length
 . rw [List.getD,List.getElem?_eq_getElem z];exact h _ (List.getElem_mem z)
 . rw [List.getD,List.getElem?_eq_none (by omega)];exact Int.le_refl _
theorem EO {X:Cx}:Qp X (E2 X.K):=by
 intro pins s σ H x y v u Q I rx ry h;obtain ⟨p,xs,i,z,rfl,rfl,hq,he,q⟩:=h;cases rx;obtain ⟨t,rfl⟩:=ry;obtain ⟨its,r,pl,hz⟩:=I.list hq;obtain ⟨j,h1,h2,h3,h4,h5⟩:=Cn he;obtain ⟨w,ew,rw'⟩:=r.get h2;have hl:=r.length;have hn:=su;have fin:EP X pins σ Q w s:=⟨z,H,I,rw',q⟩;by_cases h0:0<=i
 . have hj:i.toNat=j:=by
     rw [seqIndex_of h0 h5] at h1;exact Option.some.inj h1
   exact wpAny_getItem_list pl.isList h0 (by omega) (by rw [hj];simpa using ew) fin
 . have hj:(i+(its.toArray.size:Int)).toNat=j:=by
     rw [seqIndex_neg (by omega) h4] at h1;rw [List.size_toArray,<- hl];exact Option.some.inj h1
   exact wpAny_getItem_list_neg pl.isList (by omega) (by rw [List.size_toArray] <;> omega) (by omega) (by rw [hj];simpa using ew) fin
theorem Nm {K:PySem.W.Frag} {a p:Addr} {xs:List V} {Q:VK} {g:TG} {tc:TT} {te:TE} {σ0:St} {H0:Hp} (Pv:Nat->List V->St->Hp->Prop) (h0:Pv 0 [] σ0 H0) (hl:∀ i ys σ H,i<=xs.length->Pv i ys σ H->SqL K H a xs)
   (hs:∀ (i:Nat) (x:V) (ys:List V) (σ:St) (H:Hp) (N:List V->St->Hp->Prop),(∀ ys' σ' H',Pv (i+1) ys' σ' H'->N ys' σ' H')->xs.reverse[i]?=some x->Pv i ys σ H->g x σ H fun σ2 H2=>tc σ2 H2 fun b H3 =>
     if b=true then te σ2 H3 fun y H4=>H4 p=some (.lst ys)/\ys.length<sizeLine/\N (ys++[y]) σ2 (upd H4 p (.lst (ys++[y]))) else N ys σ2 H3)
   (hd:∀ ys σ H,Pv xs.length ys σ H->Q (.ref p) H):sv (Itv K a xs.length) p Q g tc te σ0 H0:=by
 refine ⟨fun i m ys σ H=>m=xs.length - i/\i<=xs.length/\Pv i ys σ H,⟨xs.length,by simp,Nat.zero_le _,h0⟩,?_⟩;rintro i m ys σ H ⟨rfl,hi,pv⟩;have q:=hl i ys σ H hi pv;by_cases hlt:i<xs.length
 . have hx:xs[xs.length - 1 - i]?=some xs[xs.length - 1 - i]:=List.getElem?_eq_getElem (by omega);refine .inr ⟨⟨hlt,xs,_,q,hx⟩,fun x H' y=>?_⟩;obtain ⟨e,y⟩:=y;subst e;exact hs i x ys σ _ (fun ys' σ' H'=>∃ m',m'<xs.length - i/\(m'=xs.length - (i+1)/\i+1<=xs.length/\Pv (i+1) ys' σ' H')) (fun ys' σ' H' pv'=>⟨xs.length - (i+1),by omega,rfl,hlt,pv'⟩) (by rw [List.getElem?_reverse hlt];exact y xs q) pv
 . have e:i=xs.length:=by omega
   subst e;exact .inl ⟨Nat.le_refl _,hd ys σ H pv⟩
end L2
set_option Elab.async false
set_option linter.all false
set_option maxRecDepth 100000
namespace Pb
open L2
def After (par:Int->Int):List Int->List Int->Prop
 | _,[]=>True
 | S,c::t=>par c∈S/\After par (c::S) t
section
variable {m:Int} {rs:List Road} {r:Int} {par:Int->Int} {dep:Int->Nat}
theorem After.mono:∀ {l S S':List Int},(∀ x∈S,x∈S')->After par S l->After par S' l
 | [],_,_,_,_=>trivial
 | c::t,S,S',h,a=>⟨h _ a.1,After.mono (fun x hx=>by
     rcases List.mem_cons.mp hx with e|e
     . exact List.mem_cons.mpr (.inl e)
     . exact List.mem_cons_of_mem _ (h x e)) a.2⟩
theorem After.append:∀ {l1 l2 S:List Int},After par S l1->After par S l2->After par S (l1++l2)
 | [],_,_,_,b=>b
 | c::t,l2,S,a,b=>⟨a.1,After.append a.2 (b.mono fun x hx=>List.mem_cons_of_mem _ hx)⟩
theorem After.snoc {c:Int}:∀ {l S:List Int},After par S l->(par c∈S\/par c∈l)->After par S (l++[c])
 | [],S,_,h=>⟨h.resolve_right (by simp),trivial⟩
 | d::t,S,a,h=>⟨a.1,After.snoc a.2 (by
     rcases h with h|h
     . exact .inl (List.mem_cons_of_mem _ h)
     . rcases List.mem_cons.mp h with e|e
       . exact .inl (List.mem_cons.mpr (.inl e))
       . exact .inr e)⟩
theorem After.up:∀ {A B S:List Int},After par S (A++B)->∀ k∈A,par k∈S\/par k∈A
 | [],_,_,_,k,hk=>by cases hk
 | c::t,B,S,a,k,hk=>by
   rcases List.mem_cons.mp hk with e|e
   . rw [e];exact .inl a.1
   . rcases After.up (A:=t) (B:=B) a.2 k e with h|h
     . rcases List.mem_cons.mp h with h|h
       . exact .inr (by rw [h];exact List.mem_cons_self)
       . exact .inl h
     . exact .inr (List.mem_cons_of_mem _ h)
structure Order (m r:Int) (par:Int->Int) (t:List Int):Prop where
 nd:(r::t).Nodup
 rng:∀ v∈t,0<=v/\v<m
 all:∀ v,0<=v->v<m->v=r\/v∈t
 af:After par [r] t
theorem Order.ne {t:List Int} (O:Order m r par t) {v:Int} (h:v∈t):v≠r:=fun z=>(List.nodup_cons.mp O.nd).1 (z ▸ h)
theorem Aw (g:Good m rs) (R:Rooted m rs r par dep):∀ (n:Nat) (v:Int) (S:List Int),0<=v->v<m->par v∈S->After par S (nM m rs r par n v)
 | 0,v,S,_,_,h=>⟨h,trivial⟩
 | n+1,v,S,h0,h1,h=>by
   refine ⟨h,?_⟩;have:∀ (ks:List Int) (S:List Int),v∈S->(∀ u∈ks,u∈aB m rs (front r par v) v)->After par S (ks.flatMap (nM m rs r par n)):=by
     intro ks
     induction ks with
     | nil=>intro S _ _;exact trivial
     | cons u ks ih =>
       intro S hv hk;rw [List.flatMap_cons];obtain ⟨w1,w2,w3⟩:=(aN g R h0 h1).mp (hk u List.mem_cons_self);exact (Aw g R n u S w1.1 w1.2 (by rw [w3];exact hv)).append (ih S hv fun x hx=>hk x (List.mem_cons_of_mem _ hx))
   exact this _ _ List.mem_cons_self fun u hu=>hu
theorem zT (g:Good m rs) (R:Rooted m rs r par dep) (r0:0<=r) (r1:r<m) (nd:(bL m rs r par dep r).Nodup) (al:∀ v,v∈bL m rs r par dep r↔0<=v/\v<m):∃ t,bL m rs r par dep r=r::t/\Order m r par t:=by
 have e:=fN g R r0 r1;refine ⟨_,e,?_⟩;rw [e] at nd al;refine ⟨nd,fun v hv=>(al v).mp (List.mem_cons_of_mem _ hv),fun v h0 h1=>List.mem_cons.mp ((al v).mpr ⟨h0,h1⟩),?_⟩;have:∀ ks:List Int,(∀ u∈ks,u∈aB m rs (front r par r) r)->After par [r] (ks.flatMap (bL m rs r par dep)):=by
   intro ks
   induction ks with
   | nil=>intro _;exact trivial
   | cons u ks ih =>
     intro hk;rw [List.flatMap_cons];obtain ⟨w1,w2,w3⟩:=(aN g R r0 r1).mp (hk u List.mem_cons_self);exact (Aw g R _ u [r] w1.1 w1.2 (by rw [w3];exact List.mem_cons_self)).append (ih fun x hx=>hk x (List.mem_cons_of_mem _ hx))
 exact this _ fun u hu=>hu
def xm (m:Int) (rs:List Road) (r:Int) (par:Int->Int) (held:Int->Int) (con:Int->Int->Int):Nat->Int->Int
 | 0,v=>held v
 | n+1,v=>held v+((aB m rs (front r par v) v).map fun c=>con c (xm m rs r par held con n c)).sum
def gat (m:Int) (rs:List Road) (r:Int) (par:Int->Int) (dep:Int->Nat) (held:Int->Int) (con:Int->Int->Int) (v:Int):Int:=xm m rs r par held con (m.toNat - 1 - dep v) v
variable {held:Int->Int} {con:Int->Int->Int}
theorem bC (g:Good m rs) (R:Rooted m rs r par dep) {v:Int} (h0:0<=v) (h1:v<m):gat m rs r par dep held con v=held v+((aB m rs (front r par v) v).map fun c=>con c (gat m rs r par dep held con c)).sum:=by
 have mk:∀ u,u∈aB m rs (front r par v) v->(0<=u/\u<m)/\u≠r/\par u=v:=fun u=>(aN g R h0 h1).mp;have du:∀ u∈aB m rs (front r par v) v,dep u=dep v+1/\dep u+1<=m.toNat:=fun u hu=>by
   obtain ⟨w1,w2,w3⟩:=mk u hu;have:=R.pos w1.1 w1.2 w2;rw [w3] at this;exact ⟨this,eT R w1.1 w1.2⟩
 unfold gat;cases e:m.toNat - 1 - dep v with
 | zero =>
   have:aB m rs (front r par v) v=[]:=List.eq_nil_iff_forall_not_mem.mpr fun u hu=>by
     have:=du u hu;omega
   rw [this];simp [xm]
 | succ n =>
   show held v+_=_;rw [List.map_congr_left fun u hu=>show con u (xm m rs r par held con n u)=con u (xm m rs r par held con (m.toNat - 1 - dep u) u) by rw [show m.toNat - 1 - dep u=n by have:=du u hu;omega]]
theorem FV {l l':List Int} (h:l.Perm l'):l.sum=l'.sum:=by
 induction h with
 | nil=>rfl
 | cons x _ ih=>rw [List.sum_cons,List.sum_cons,ih]
 | swap x y l=>simp only [List.sum_cons];omega
 | trans _ _ h1 h2=>exact h1.trans h2
def ut (par:Int->Int) (con:Int->Int->Int) (cs:List Int) (v:Int):List Int:=cs.set (par v).toNat (cs.getD (par v).toNat 0+con v (cs.getD v.toNat 0))
structure Sofar (m:Int) (rs:List Road) (r:Int) (par:Int->Int) (dep:Int->Nat) (held:Int->Int) (con:Int->Int->Int) (t cs:List Int):Prop where
 len:(cs.length:Int)=m
 val:∀ v,0<=v->v<m->cs.getD v.toNat 0=held v+((t.filter fun c=>decide (par c=v)).map fun c=>con c (gat m rs r par dep held con c)).sum
theorem Sofar.nil {hs:List Int} (h:(hs.length:Int)=m):Sofar m rs r par dep (fun v=>hs.getD v.toNat 0) con [] hs:=⟨h,fun v _ _=>by simp⟩
theorem Gg (g:Good m rs) (R:Rooted m rs r par dep) {t:List Int} (nd:t.Nodup) (tr:∀ x∈t,(0<=x/\x<m)/\x≠r) {v:Int} (h0:0<=v) (h1:v<m) (hk:∀ k,0<=k->k<m->k≠r->par k=v->k∈t):(t.filter fun c=>decide (par c=v)).Perm (aB m rs (front r par v) v):=by
 refine fM (nd.filter _) ie fun x=>?_;rw [List.mem_filter,aN g R h0 h1,decide_eq_true_eq];exact ⟨fun h=>⟨(tr x h.1).1,(tr x h.1).2,h.2⟩,fun h=>⟨hk x h.1.1 h.1.2 h.2.1 h.2.2,h.2.2⟩⟩
theorem Sofar.full (g:Good m rs) (R:Rooted m rs r par dep) {t cs:List Int} (s:Sofar m rs r par dep held con t cs) (nd:t.Nodup) (tr:∀ x∈t,(0<=x/\x<m)/\x≠r) {v:Int} (h0:0<=v) (h1:v<m) (hk:∀ k,0<=k->k<m->k≠r->par k=v->k∈t):cs.getD v.toNat 0=gat m rs r par dep held con v:=by
 rw [s.val v h0 h1,bC g R h0 h1,FV ((Gg g R nd tr h0 h1 hk).map _)]
theorem Sofar.step (g:Good m rs) (R:Rooted m rs r par dep) {t cs:List Int} (s:Sofar m rs r par dep held con t cs) {v:Int} (h0:0<=v) (h1:v<m) (hr:v≠r) (e:cs.getD v.toNat 0=gat m rs r par dep held con v):Sofar m rs r par dep held con (v::t) (ut par con cs v) where
 len:=by unfold ut;rw [List.length_set];exact s.len
 val:=fun u u0 u1=>by
   have pu:=(R.up v h0 h1 hr).1;have sl:=s.len;have vu:=s.val u u0 u1;unfold ut;rw [e];by_cases c:par v=u
   . have hl:u.toNat<cs.length:=(by omega);rw [List.filter_cons_of_pos (by simpa using c),List.map_cons,List.sum_cons,c];rw [show (cs.set u.toNat (cs.getD u.toNat 0+con v (gat m rs r par dep held con v))).getD u.toNat 0=cs.getD u.toNat 0+con v (gat m rs r par dep held con v) by simp [List.getD,hl],vu];omega
   . rw [List.filter_cons_of_neg (by simpa using c),<- vu];have:(par v).toNat≠u.toNat:=(by omega);simp [List.getD,List.getElem?_set_ne this]
theorem Order.places {t:List Int} (O:Order m r par t):∀ x∈t,(0<=x/\x<m)/\x≠r:=fun x hx=>⟨O.rng x hx,O.ne hx⟩
theorem Order.turn (g:Good m rs) (R:Rooted m rs r par dep) {t cs:List Int} (O:Order m r par t) {i:Nat} {v:Int} (s:Sofar m rs r par dep held con (t.drop (t.length - i)) cs) (hv:t.reverse[i]?=some v) :
   ((0<=v/\v<m)/\v≠r)/\cs.getD v.toNat 0=gat m rs r par dep held con v/\Sofar m rs r par dep held con (t.drop (t.length - (i+1))) (ut par con cs v):=by
 have hi:i<t.length:=by
   have:=(List.getElem?_eq_some_iff.mp hv).1
   rwa [List.length_reverse] at this
 rw [List.getElem?_reverse hi] at hv;generalize hj:t.length - 1 - i=j at hv;have ej:t.length - i=j+1:=by omega
 have ej':t.length - (i+1)=j:=by omega
 rw [ej] at s;rw [ej'];have hjl:j<t.length:=by omega
 have vm:v∈t:=List.mem_of_getElem? hv;have vp:=O.places v vm;have ed:t.drop j=v::t.drop (j+1):=by
   rw [List.drop_eq_getElem_cons hjl];rw [List.getElem?_eq_getElem hjl] at hv;cases hv
   rfl
 have es:t=t.take j++v::t.drop (j+1):=by rw [<- ed,List.take_append_drop]
 have ndt:=(List.nodup_cons.mp O.nd).2;have nd2:=ndt;rw [es] at nd2;have av:v ∉ t.take j:=fun z=>(List.nodup_append.mp nd2).2.2 v z v List.mem_cons_self rfl;have e:=s.full g R (ndt.sublist (List.drop_sublist _ _)) (fun x hx=>O.places x (List.mem_of_mem_drop hx)) vp.1.1 vp.1.2 fun k k0 k1 kr pk=>by
   rcases O.all k k0 k1 with z|z
   . exact absurd z kr
   . rw [es] at z;rcases List.mem_append.mp z with z|z
     . have af:=O.af;rw [es] at af;rcases af.up k z with w|w
       . rw [pk] at w;exact absurd (List.mem_singleton.mp w) vp.2
       . rw [pk] at w;exact absurd w av
     . rcases List.mem_cons.mp z with z|z
       . subst z;exact absurd pk (R.ne k0 k1 kr)
       . exact z
 exact ⟨vp,e,by rw [ed];exact s.step g R vp.1.1 vp.1.2 vp.2 e⟩
def xw (m:Int) (rs:List Road) (r:Int) (par:Int->Int) (dep:Int->Nat) (held:Int->Int) (con:Int->Int->Int):List Int:=(below m.toNat).map (gat m rs r par dep held con)
theorem LX {v:Int} (h0:0<=v) (h1:v<m):(xw m rs r par dep held con).getD v.toNat 0=gat m rs r par dep held con v:=by
 unfold xw;rw [List.getD,List.getElem?_map,fV (by omega),Int.toNat_of_nonneg h0]
 rfl
theorem Order.done (g:Good m rs) (R:Rooted m rs r par dep) {t cs:List Int} (O:Order m r par t) (s:Sofar m rs r par dep held con t cs):cs=xw m rs r par dep held con:=by
 have sl:=s.len;refine List.ext_getElem? fun i=>?_;by_cases h:i<m.toNat
 . have hc:i<cs.length:=by omega
   have e:=s.full g R (List.nodup_cons.mp O.nd).2 O.places (v:=(i:Int)) (by omega) (by omega) fun k k0 k1 kr pk=>(O.all k k0 k1).resolve_left kr;unfold xw;rw [List.getElem?_map,fV h];rw [Int.toNat_natCast,List.getD,List.getElem?_eq_getElem hc] at e;rw [List.getElem?_eq_getElem hc];exact congrArg some e
 . unfold xw;rw [List.getElem?_eq_none (by omega),List.getElem?_eq_none (by rw [List.length_map,aU];omega)]
theorem Rooted.adj (R:Rooted m rs r par dep) {a b:Int} (h:Adj rs a b):(b≠r/\par b=a)\/(a≠r/\par a=b):=by
 obtain ⟨x,hx,j⟩:=h;have:=R.road x hx;rcases j with ⟨e1,e2⟩|⟨e1,e2⟩
 . subst e1;subst e2;exact this.symm
 . subst e1;subst e2;exact this
end
end Pb
set_option Elab.async false
set_option linter.all false
set_option maxRecDepth 100000
namespace Pb
open L2
section
variable {m:Int} {rs:List Road} {r:Int} {par:Int->Int} {dep:Int->Nat} {held:Int->Int}
theorem mH (l:List Int) (i j:Nat) (x:Int) (h:i<l.length):(l.set i x).getD j 0=if i=j then x else l.getD j 0:=by
 by_cases c:i=j
 . subst c;rw [if_pos rfl];simp [List.getD,h]
 . rw [if_neg c];simp [List.getD,List.getElem?_set_ne c]
end
section
open PySem
end
end Pb
set_option Elab.async false
set_option linter.all false
set_option maxRecDepth 100000
namespace L2
open PySem PySem.Spec PyProof.Rows
end L2
set_option Elab.async false
set_option linter.all false
set_option maxRecDepth 100000
namespace L2
open PySem PySem.Spec PyProof.Rows
def Rp (lo st:Int) (n:Nat):It:=⟨fun i _=>i<n,fun i H x H'=>H'=H/\x=.int (lo+i*st),fun i _=>n<=i⟩
def OD (ta:TA):TI:=fun σ H R=>ta σ H fun vs H1=>∃ i j c:Int,vs=[.int i,.int j,.int c]/\(0<=i/\i<=1000000/\0<=j/\j<=1000000/\0<c/\c<=1000000)/\R (Rp i c (Builtin.Range.rangeSize i j c).toNat) H1
section
variable {X:Cx} {tg:Expr}
end
end L2
set_option Elab.async false
set_option linter.all false
set_option maxRecDepth 100000
namespace L2
open PySem PySem.Spec PyProof.Rows
def Nr (K:PySem.W.Frag) (c:Bool):R2:=fun x y H Q=>∃ p xs i v,x=.ref p/\y=.int i/\SqX K c H p xs/\atI xs i=some v/\Q v H
theorem Qe {X:Cx} (c:Bool):IxR X (Nr X.K c):=by
 cases c
 . exact jp
 . exact bJ
theorem Ci {X:Cx} (c:Bool) (K:PySem.W.Frag) (h:X.K=K):IxR X (Nr K c):=by subst h;exact Qe c
theorem ixX {K:PySem.W.Frag} {c:Bool} {H:Hp} {p:Addr} {xs:List V} {i:Int} {v:V} {Q:VK} (h:SqX K c H p xs) (e:atI xs i=some v) (q:Q v H):Nr K c (.ref p) (.int i) H Q:=⟨p,xs,i,v,rfl,rfl,h,e,q⟩
end L2
namespace Pb
open L2 PySem
theorem GA {α β:Type} {R:α->β->Prop}:∀ (n:Nat) {l₁:List α} {l₂:List β},Paired R l₁ l₂->Paired R (l₁.take n) (l₂.take n)
 | 0,_,_,_=>by rw [List.take_zero,List.take_zero];exact .nil
 | _+1,_,_,.nil=>.nil
 | n+1,_,_,.cons x xs=>.cons x (GA n xs)
theorem G3 {α β:Type} {R:α->β->Prop}:∀ (n:Nat) {l₁:List α} {l₂:List β},Paired R l₁ l₂->Paired R (l₁.drop n) (l₂.drop n)
 | 0,_,_,h=>h
 | _+1,_,_,.nil=>.nil
 | n+1,_,_,.cons x xs=>G3 n xs
theorem JP {α β:Type} {R:α->β->Prop} {k₁:List α} {k₂:List β} (h:Paired R k₁ k₂):∀ {l₁:List α} {l₂:List β},Paired R l₁ l₂->Paired R (l₁++k₁) (l₂++k₂)
 | _,_,.nil=>h
 | _,_,.cons x xs=>.cons x (JP h xs)
theorem QP {α β:Type} {R:α->β->Prop} {ps:List α} {rs:List β} {q:α} {r:β} (n:Nat) (h:Paired R ps rs) (e:R q r):Paired R (ps.take n++q::ps.drop n) (rs.take n++r::rs.drop n):=JP (.cons e (G3 n h)) (GA n h)
theorem Fl (n:Nat):Labels n (below n):=⟨aU n,d4 n,fun v h0 h1=>bM.mpr ⟨h0,h1⟩,fun v h=>bM.mp h⟩
theorem AH {n:Nat} {v:Int} (h0:0<=v) (h1:v<n):(below n).getD v.toNat 0=v:=by
 rw [List.getD,fV (by omega),Int.toNat_of_nonneg h0]
 rfl
theorem KZ {n:Nat} {rows:List Row} {row:Row} (R:Rows n rows) (k:row.k=(n:Int)+1) (ok:RowOk row):Rows (n+1) (rows++[row]):=by
 have rl:=R.len;refine ⟨by rw [List.length_append,rl];rfl,fun j r hj=>?_⟩;by_cases hjl:j<rows.length
 . rw [List.getElem?_append_left hjl] at hj;exact R.ok j r hj
 . have hj2:j=rows.length:=by
     have:=(List.getElem?_eq_some_iff.mp hj).1;rw [List.length_append] at this;simp at this;omega
   rw [hj2,List.getElem?_append_right (Nat.le_refl _),Nat.sub_self] at hj;cases hj;exact ⟨by rw [hj2,rl];exact k,ok⟩
section
variable {m:Int} {rs:List Road} {r:Int} {par:Int->Int} {dep:Int->Nat}
def hnd (rs:List Road) (par:Int->Int) (v x:Int):Int:=if 0<=x then x / (aE rs v (par v)).getD 1 else x*(aE rs (par v) v).getD 1
theorem sg (g:Good m rs) (R:Rooted m rs r par dep) {v:Int} (h0:0<=v) (h1:v<m) (hr:v≠r):∃ k,aE rs (par v) v=some k/\2<=k/\k<=1000000:=by
 obtain ⟨x,hx,j⟩:=(R.up v h0 h1 hr).2.1;obtain ⟨i,hi⟩:=List.getElem?_of_mem hx;have ok:=g.ok x hx;have jj:lM x (par v) v:=by
   rcases j with ⟨a,b⟩|⟨a,b⟩
   . exact .inr ⟨b,a⟩
   . exact .inl ⟨b,a⟩
 rw [qX g hi jj];unfold di;by_cases c:x.a=par v/\x.b=v
 . rw [if_pos c];exact ⟨_,rfl,ok.t0,ok.t1⟩
 . rw [if_neg c];have c2:x.a=v/\x.b=par v:=by
     rcases jj with w|w
     . exact absurd w c
     . exact ⟨w.2,w.1⟩
   rw [if_pos c2];exact ⟨_,rfl,ok.u0,ok.u1⟩
def fW (rs:List Road) (fv:V) (p:Int) (i:Nat):List Int:=((below i).filter fun q=>(aE rs p q).isSome).filter fun v=>decide (V.int v≠fv)
theorem lJ (i:Nat):below (i+1)=below i++[(i:Int)]:=by
 unfold below;rw [List.range_succ,List.map_append]
 rfl
theorem zS (p:Int) (fv:V):fW rs fv p m.toNat=aB m rs fv p:=by
 unfold fW aB;rw [Jx]
theorem IY {fv:V} {p:Int} {i:Nat} (h1:(aE rs p (i:Int)).isSome=true) (h2:V.int (i:Int)≠fv):fW rs fv p (i+1)=fW rs fv p i++[(i:Int)]:=by
 unfold fW;rw [lJ,List.filter_append,List.filter_append]
 congr 1
 simp [h1,h2]
theorem A8 {fv:V} {p:Int} {i:Nat} (h:(aE rs p (i:Int)).isSome=true->¬ V.int (i:Int)≠fv):fW rs fv p (i+1)=fW rs fv p i:=by
 unfold fW;rw [lJ,List.filter_append,List.filter_append];have:([(i:Int)].filter fun q=>(aE rs p q).isSome).filter (fun v=>decide (V.int v≠fv))=[]:=by
   by_cases c:(aE rs p (i:Int)).isSome=true
   . have:=h c;simp [c]
     simpa using this
   . simp [c]
 rw [this,List.append_nil]
structure Bfs (m:Int) (rs:List Road) (r:Int) (par:Int->Int) (t:List Int) (k:Nat):Prop where
 J:AInv m rs r par t ((r::t).drop k)
 af:After par [r] t
theorem Bfs.start:Bfs m rs r par [] 0:=⟨AInv.start,trivial⟩
theorem Bfs.step (g:Good m rs) (R:Rooted m rs r par dep) (r0:0<=r) (r1:r<m) {t:List Int} {k:Nat} (b:Bfs m rs r par t k) {p:Int} (hp:(r::t)[k]?=some p):Bfs m rs r par (t++aB m rs (front r par p) p) (k+1):=by
 have hk:=(List.getElem?_eq_some_iff.mp hp).1;have ed:(r::t).drop k=p::(r::t).drop (k+1):=by
   rw [List.drop_eq_getElem_cons hk];rw [List.getElem?_eq_getElem hk] at hp;cases hp
   rfl
 have J:=b.J.step g R r0 r1 (p:=p) (ws':=(r::t).drop (k+1)) (by rw [ed]);have pr:=b.J.at_ r0 r1 (p:=p) (by rw [ed];exact List.mem_cons_self);have pm:p∈r::t:=List.mem_of_getElem? hp;refine ⟨?_,?_⟩
 . rw [<- List.cons_append,List.drop_append_of_le_length (by omega)];exact J
 . have:∀ (ks l:List Int),(∀ u∈ks,u∈aB m rs (front r par p) p)->After par [r] l->p∈r::l->After par [r] (l++ks):=by
     intro ks
     induction ks with
     | nil=>intro l _ h _;rw [List.append_nil];exact h
     | cons u ks ih =>
       intro l hu h hpl;obtain ⟨w1,w2,w3⟩:=(aN g R pr.1 pr.2).mp (hu u List.mem_cons_self);have h2:After par [r] (l++[u]):=h.snoc (by
         rw [w3];rcases List.mem_cons.mp hpl with e|e
         . exact .inl (by rw [e];exact List.mem_cons_self)
         . exact .inr e)
       have:=ih (l++[u]) (fun x hx=>hu x (List.mem_cons_of_mem _ hx)) h2 (by
         rcases List.mem_cons.mp hpl with e|e
         . rw [e];exact List.mem_cons_self
         . exact List.mem_cons_of_mem _ (List.mem_append_left _ e))
       rwa [List.append_assoc] at this
   exact this _ t (fun u hu=>hu) b.af pm
theorem Bfs.done (R:Rooted m rs r par dep) {t:List Int} {k:Nat} (hk:(r::t).length<=k) (b:Bfs m rs r par t k):Order m r par t:=by
 have J:=b.J;rw [List.drop_eq_nil_of_le hk] at J;refine ⟨List.nodup_cons.mpr ⟨J.nr,J.nd⟩,J.rng,fun v h0 h1=>?_,b.af⟩;by_cases z:v=r
 . exact .inl z
 . exact .inr (J.all R v h0 h1 z)
end
def bw (m:Int) (xs ys:List Int):List Int:=(List.range m.toNat).map fun i=>xs.getD i 0 - ys.getD i 0
theorem JF {m:Int} (h:0<=m) (xs ys:List Int):((bw m xs ys).length:Int)=m:=by unfold bw;rw [List.length_map,List.length_range];omega
end Pb
set_option Elab.async false
set_option linter.all false
set_option maxRecDepth 100000
namespace L2
open PySem PySem.Spec PyProof.Rows
theorem Er {P:Program} {w:World} {A:Around} {l:Addr} (c:Bool) {it:Addr} (hh:A.handled=none) (ne:l≠it) (its:Array Value):Draws P w A it [it,l] its.size (fun i v=>its[i]?=some v) (fun i h=>zAt l c it i h/\Iu l c h its) where
 live:=fun i h st=>let ⟨o,e,_⟩:=(eU l c P w).obj _ _ _ st.1;⟨o,e⟩
 frame:=fun i h h' st k=>⟨(eU l c P w).atK _ _ _ _ st.1 fun o e=>k it (by simp) o e,(eU l c P w).srcK _ _ _ st.2 fun o e=>k l (by simp) o e⟩
 item:=fun i s Q E hi st hq=>(eU l c P w).item A s it i its its[i] Q E st.1 st.2 (by simp [hi]) fun h' at' sb=>hq its[i] h' s.toks (by simp [hi]) ⟨at',(eU l c P w).srcK _ _ _ st.2 fun o e=>sb.extBut _ _ ne e⟩ sb
 done:=fun s Q E st hq=>(eU l c P w).fin A s it its.size its Q E hh st.1 st.2 (by simp) fun h' e eb he=>hq h' e eb he
section
variable {P:Program} {w:World} {A:Around} {E:Value->Shared->Prop} {s:Shared} {l:Addr} {ob:Obj} {src:Heap->Array Value->Prop} {at':Addr->Nat->Heap->Prop}
abbrev DA (n:Nat):Obj:={ cls:=.type "enumerate",data:=.fields #[.none,.bool false,.ref n,rawInt 0,.none,.none] }
theorem Cj (S:∀ P w,SubF P w l ob src at') (xs:Array Value) :
   Meets (Builtin.«enumerate.__new__» ⟨[.type "enumerate",.ref l],[]⟩) (fun _ R s=>src s.heap xs/\R (.ok (.ret (.ref (s.heap.push ob).objs.size))) { s with heap:=(s.heap.push ob).push (DA s.heap.objs.size) }) :=
 .of_wp fun prog w A R s hyp=>by
   obtain ⟨hp,g,d,tk,os⟩:=s;obtain ⟨q1,r⟩:=hyp;have zsub:=sub_enumerate;have B1:src (Shared.heap ⟨hp,g,d,tk,os⟩) xs:=q1
   wp_walk using ((S prog w).start _ _ _ _ _ B1)
   refine wpAny_stack_any fun st=>?_;dsimp only;refine wpAny_pure ?_;have go:∀ b:Bool,b=true\/b=false:=fun b=>by cases b <;> simp
   split
   . rename_i c _ _ _ _ _
     rcases go (c == Value.type "enumerate") with z|z
     . rw [z]
       wp_walk using ((S prog w).start _ _ _ _ _ B1)
       exact ⟨_,rfl,r⟩
     . rw [z]
       wp_walk using ((S prog w).start _ _ _ _ _ B1)
       exact ⟨_,rfl,r⟩
   . wp_walk using ((S prog w).start _ _ _ _ _ B1)
     exact ⟨_,rfl,r⟩
theorem JJ (S:∀ P w,SubF P w l ob src at') {xs:Array Value} {Q:Value->Shared->Prop} (q1:src s.heap xs) (f1:ob.isFreed=false)
   (h:∀ h',IsEnum h' (s.heap.objs.size+1) s.heap.objs.size 0 .none->at' s.heap.objs.size 0 h'->(∀ c o,s.heap.get? c=some o->h'.get? c=some o)->Q (.ref (s.heap.objs.size+1)) { s with heap:=h' }) :
   wpAny (model P w) A (call (.type "enumerate") [.ref l]) Q E s:=by
 refine callType_new F.called_enumerate (by decide) (F.typeCall_enumerate_1 _) (F.newCall_enumerate_1 _) (fun obj=>F.args_object_init_2 obj _) F.entry_enumerate_new (Cj S xs) ⟨q1,?_⟩;have n0:(s.heap.push ob).objs.size=s.heap.objs.size+1:=Heap.size_push ..;have c2:((s.heap.push ob).push (DA s.heap.objs.size)).get? (s.heap.push ob).objs.size=some (DA s.heap.objs.size):=Heap.get?_push_size _ rfl;have c1:((s.heap.push ob).push (DA s.heap.objs.size)).get? s.heap.objs.size=some ob:=Heap.get?_push_of_some _ (Heap.get?_push_size _ f1);show _/\_;rw [n0] at c2;rw [n0];exact ⟨⟨_,c2,rfl⟩,h _ c2 ((S P w).first _ _ c1) fun c o e=>Heap.get?_push_of_some _ (Heap.get?_push_of_some _ e)⟩
end
def Ite (K:PySem.W.Frag) (c:Bool) (a:Addr):It :=
 ⟨fun i H=>∃ xs x,SqX K c H a xs/\xs[i]?=some x,
  fun i H v H'=>∃ p x,H p=none/\v=.ref p/\H'=upd H p (.tup [.int i,x])/\∀ xs,SqX K c H a xs->xs[i]?=some x,
  fun i H=>∃ xs,SqX K c H a xs/\xs.length=i⟩
theorem JV {P:Program} {w:World} {K:PySem.W.Frag} {elts:List Expr} {x1} {tpos:Pos} (c:Bool) (a e it:Addr) (ne:e≠it) (ae:a≠e) (ai:a≠it) :
   Turn P w K (.Tuple elts x1 tpos) (Ite K c a) [e,it] e (fun i h=>(∃ old,IsEnum h e it (i:Nat) old)/\zAt a c it i h) where
 mem:=by simp
 obj:=fun i h t b hb=>by
   obtain ⟨⟨old,t1⟩,t2⟩:=t;simp only [List.mem_cons,List.mem_nil_iff,or_false] at hb;rcases hb with rfl|rfl
   . exact ⟨_,t1,fun v z=>by cases z⟩
   . exact (eU a c P w).obj _ _ _ t2
 keep:=fun i h h' t k=>by
   obtain ⟨⟨old,t1⟩,t2⟩:=t;exact ⟨⟨old,k e (by simp) _ t1⟩,(eU a c P w).atK _ _ _ _ t2 fun o e=>k it (by simp) o e⟩
 item:=fun X e1 e2 e3 hc i pins s σ H E I f t g=>by
   subst e1 e2 e3;obtain ⟨⟨old,t1⟩,t2⟩:=t;obtain ⟨xs,x,s1,hx⟩:=g;obtain ⟨us,r1,q1⟩:=I.sqX s1;obtain ⟨xu,hxu,rx⟩:=r1.get hx;have hh:X.A.in1.handled=none:=I.ok.hd hc;have fz:∀ q∈[e,it],kJ X pins H q:=f;have W:=WalksT.enumerateD (A:=X.A) (Er (P:=X.prog) (w:=X.w) (A:=X.A.in1) (l:=a) c (it:=it) hh ai us.toArray) e ne (by simp;exact ⟨ne,ae.symm⟩) (by simp);have hil:i<us.toArray.size:=by
     have:=(List.getElem?_eq_some_iff.mp hxu).1
     simpa using this
   refine W.item i s _ _ hil ⟨⟨old,t1⟩,t2,q1⟩ fun T vals h' tk pt le tup mid keep=>?_;refine ⟨_,rfl,W.go elts x1 tpos i T { s with heap:=h',toks:=tk } _ _ mid fun h2 st2 keep2=>?_⟩;obtain ⟨tt,xv,px,ev⟩:=pt;have exv:xv=xu:=by
     have h1:us[i]?=some xv:=(by simpa using px);rw [hxu] at h1;cases h1
     rfl
   subst exv;have Tw:T ∉ [e,it]:=W.apart i T h' mid;have kp:∀ q o,q ∉ [e,it]->s.heap.get? q=some o->h2.get? q=some o:=fun q o hq eo=>keep2 q o hq (keep q o hq eo);obtain ⟨ot,ht,hct,nt,hdt⟩:=tup;have new:h2.get? T=some ot:=keep2 T ot Tw ht;have Hn:∀ q u,H q=some u->q ∉ [e,it]:=fun q u e hq=>by rw [(fz q hq).1] at e;cases e
   have nH:H T=none:=I.hok.fresh le;have Tb:∀ q o,s.heap.get? q=some o->q≠T:=fun q o eo=>Nat.ne_of_lt (Nat.lt_of_lt_of_le (Heap.lt_size eo) le);have I2:Inv X pins σ H { s with heap:=h2,toks:=tk }:=by
     refine I.step (g':=s.gens) (d':=s.drawn) (t':=tk) (ch:=[e,it]) (fun q hq=>⟨(fz q hq).2.2.2.1,(fz q hq).2.1,(fz q hq).2.2.2.2.1,(fz q hq).2.2.2.2.2⟩) (fun q o _ _ hq e _=>kp q o hq e) (fun q o _ _ hq e _=>⟨o.slots,kp q o hq e⟩) (fun _ _ _ _ n=>n)
       (fun q o hq e=>⟨o,kp q o hq e⟩) (fun _ _ e=>e) (fun _ _ _ e=>e) (fun q ps e=>⟨#[],by rw [e];simp⟩) (fun m hm=>?_) (fun q u e=>?_) I.bare
     . obtain ⟨o,es,ep,ho,r⟩:=hm;exact ⟨o,es,ep,kp _ o (fun hq=>(fz _ hq).2.1 rfl) ho,r⟩
     . refine (I.hok q u e).stay (fun q' v hq' e'=>kp q' v ?_ e') (fun _ e'=>e') fun _ _ e'=>e';rcases hq' with rfl|hq'
       . exact Hn _ u e
       . exact Hn _ _ hq'
   have I3:Inv X pins σ (upd H T (.tup [.int i,x])) { s with heap:=h2,toks:=tk }:=by
     refine ⟨I2.ok,I2.os,I2.bare,?_,I2.loc,I2.cell,?_,fun n c e=>?_,fun p hp=>?_,fun q u e=>?_,I2.len⟩
     . refine ⟨I2.base.keep,I2.base.slot,fun q o e n hx=>?_,I2.base.there,fun q xs e=>?_,fun q o u e=>?_,fun q ps e=>?_⟩
       . have lt:q<X.s₀.heap.objs.size:=Heap.lt_size e;rw [ap (Nat.ne_of_lt (Nat.lt_of_lt_of_le lt (Nat.le_trans I.sz le)))];exact I2.base.free q o e n hx
       . have e':=I2.base.tups q xs e;rw [ap (fun z=>by rw [z,nH] at e';cases e')];exact e'
       . have e':=I2.base.frzs q o u e;rw [ap (fun z=>by rw [z,nH] at e';cases e')];exact e'
       . obtain ⟨more,e'⟩:=I2.base.tbls q ps e;exact ⟨more,by rw [ap (fun z=>by rw [z,nH] at e';cases e')];exact e'⟩
     . rw [ap (Nat.ne_of_lt (Nat.lt_of_lt_of_le I.lt le))];exact I2.free
     . obtain ⟨vv,o,ho,_⟩:=I.cell n c e;rw [ap (Tb _ _ ho)];exact I2.freeC n c e
     . obtain ⟨k1,k2,k3⟩:=I.pin p hp;rw [ap (Tb _ _ k1)];exact I2.pin p hp
     . by_cases hq:q=T
       . subst hq;rw [ah] at e;cases e;refine ⟨by show 2<=sizeLine;decide,[.int (i:Nat) tt,xv],.cons ⟨tt,rfl⟩ (.cons rx .nil),ot,new,hct,nt,?_⟩;rw [hdt,ev]
       . rw [ap hq] at e;refine (I2.hok q u e).stay (fun _ _ _ e'=>e') (fun q' e'=>?_) fun q' xs e'=>?_
         . rw [ap (fun z=>by rw [z,nH] at e';cases e')];exact e'
         . rw [ap (fun z=>by rw [z,nH] at e';cases e')];exact e'
   refine ⟨.ref T,_,I3,rfl,⟨T,x,nH,rfl,rfl,fun xs' q=>?_⟩,⟨st2.1,st2.2.1⟩,fun q hq=>?_⟩
   . rw [<- I.sqX_inj s1 q];exact hx
   . have hlt:q≠T:=by
       simp only [List.mem_cons,List.mem_nil_iff,or_false] at hq;rcases hq with rfl|rfl
       . exact Tb _ _ t1
       . exact let ⟨o,e,_⟩:=(eU a c X.prog X.w).obj _ _ _ t2;Tb _ _ e
     rw [ap hlt];exact (fz q hq).1
 done:=fun X e1 e2 e3 hc i pins s σ H E I f t g=>by
   subst e1 e2 e3;obtain ⟨⟨old,t1⟩,t2⟩:=t;obtain ⟨xs,s1,hend⟩:=g;obtain ⟨us,r1,q1⟩:=I.sqX s1;have hh:X.A.in1.handled=none:=I.ok.hd hc;have fz:∀ q∈[e,it],kJ X pins H q:=f;have W:=WalksT.enumerateD (A:=X.A) (Er (P:=X.prog) (w:=X.w) (A:=X.A.in1) (l:=a) c (it:=it) hh ai us.toArray) e ne (by simp;exact ⟨ne,ae.symm⟩) (by simp);have ei:i=us.toArray.size:=by
     have:=r1.length;simp;omega
   subst ei;refine W.done s _ _ ⟨⟨old,t1⟩,t2,q1⟩ fun h' tk keep=>⟨rfl,?_⟩;have kp:∀ q o,q ∉ [e,it]->s.heap.get? q=some o->h'.get? q=some o:=fun q o hq e=>keep q o hq e;have Hn:∀ q u,H q=some u->q ∉ [e,it]:=fun q u e hq=>by rw [(fz q hq).1] at e;cases e
   refine I.step (g':=s.gens) (d':=s.drawn) (t':=tk) (ch:=[e,it]) (fun q hq=>⟨(fz q hq).2.2.2.1,(fz q hq).2.1,(fz q hq).2.2.2.2.1,(fz q hq).2.2.2.2.2⟩) (fun q o _ _ hq e _=>kp q o hq e) (fun q o _ _ hq e _=>⟨o.slots,kp q o hq e⟩) (fun _ _ _ _ n=>n)
     (fun q o hq e=>⟨o,kp q o hq e⟩) (fun _ _ e=>e) (fun _ _ _ e=>e) (fun q ps e=>⟨#[],by rw [e];simp⟩) (fun m hm=>?_) (fun q u e=>?_) I.bare
   . obtain ⟨o,es,ep,ho,r⟩:=hm;exact ⟨o,es,ep,kp _ o (fun hq=>(fz _ hq).2.1 rfl) ho,r⟩
   . refine (I.hok q u e).stay (fun q' v hq' e'=>kp q' v ?_ e') (fun _ e'=>e') fun _ _ e'=>e';rcases hq' with rfl|hq'
     . exact Hn _ u e
     . exact Hn _ _ hq'
 self:=fun A i s Q E t q=>by
   obtain ⟨⟨old,t1⟩,t2⟩:=t;exact wpAny_pyIter_enum t1 q
def Hv (K:PySem.W.Frag) (c:Bool) (tl:TE):TI:=fun σ H R=>tl σ H fun x H1=>∃ a,x=.ref a/\(∃ xs,SqX K c H1 a xs)/\R (Ite K c a) H1
section
variable {X:Cx} {e:Expr} {te:TE} {p2 pos:Pos}
theorem OS {elts:List Expr} {x1} {tpos:Pos} (c:Bool) (hg:Gl X "enumerate") (hm:X.mg "enumerate"=none) (he:PE X e te) (h2:starEach [e] X.env=[(false,eval e X.env)]:=by rfl):PI X (.Tuple elts x1 tpos) (.Call (.Name "enumerate" p2) [e] [] pos) (Hv X.K c te):=by
 intro pins s σ H R I h;refine Call_ (nG I hg hm boot_enumerate (PyProof.Rows.callWith_type1 ?_ h2 rfl));rw [h2];show wpAny _ _ (spliced ((false,eval e X.env)::backTo pos [])) _ _ s;refine Calls.spliced_cons (bg (he pins s σ H _ I h) fun u s1 x H1 I1 r1 q1=>Calls.spliced_nil ?_);obtain ⟨a,ex,⟨xs,sa⟩,q⟩:=q1;subst ex;cases r1;obtain ⟨us,r1,q1⟩:=I1.sqX sa;obtain ⟨oa,hoa⟩:=oH a c _ _ q1;have la:=Heap.lt_size hoa;refine JJ (eU a c) q1 (wX a c) fun h' w1 w2 w3=>?_;refine wpAny_pyIter_enum w1 ?_;refine ⟨_,[s1.heap.objs.size+1,s1.heap.objs.size],_,_,H1,rfl,I1.kept (t':=s1.toks) w3,JV c a _ _ (Nat.succ_ne_self _) (Nat.ne_of_lt (Nat.lt_succ_of_lt la)) (Nat.ne_of_lt la),⟨⟨_,w1⟩,w2⟩,fun b hb=>?_,q⟩;have hle:s1.heap.objs.size<=b:=by
   simp only [List.mem_cons,List.mem_nil_iff,or_false] at hb;rcases hb with rfl|rfl
   . exact Nat.le_succ _
   . exact Nat.le_refl _
 exact I1.fpOk hle (I1.hok.fresh hle)
end
end L2
set_option Elab.async false
set_option linter.all false
set_option maxRecDepth 100000
namespace Pb
open L2 PySem
abbrev Stp:=Int × Int × Int
def dG (rs:List Road) (a b:Int):Int:=(aE rs a b).getD 1
def b9 (rs:List Road) (xs:List Int) (s:Stp):List Int :=
 (xs.set s.1.toNat (xs.getD s.1.toNat 0 - s.2.2*dG rs s.1 s.2.1)).set s.2.1.toNat ((xs.set s.1.toNat (xs.getD s.1.toNat 0 - s.2.2*dG rs s.1 s.2.1)).getD s.2.1.toNat 0+s.2.2)
theorem CB (rs:List Road) (xs:List Int) (s:Stp):(b9 rs xs s).length=xs.length:=by unfold b9;rw [List.length_set,List.length_set]
def k7 (m:Int) (rs:List Road) (s:Stp):Bool:=decide (0<=s.1) && decide (s.1<m) && decide (s.2.1∈fJ m rs s.1) && decide (1<=s.2.2)
def oC (m:Int) (rs:List Road) (xs:List Int) (s:Stp):Bool:=k7 m rs s && decide (s.2.2*dG rs s.1 s.2.1<=xs.getD s.1.toNat 0)
theorem pG {m:Int} {rs:List Road} {s:Stp} (h:k7 m rs s=true):(0<=s.1/\s.1<m)/\s.2.1∈fJ m rs s.1/\1<=s.2.2:=by
 unfold k7 at h;rw [Bool.and_eq_true,Bool.and_eq_true,Bool.and_eq_true] at h;exact ⟨⟨of_decide_eq_true h.1.1.1,of_decide_eq_true h.1.1.2⟩,of_decide_eq_true h.1.2,of_decide_eq_true h.2⟩
theorem mB {m:Int} {rs:List Road} (g:Good m rs) {a b:Int} (h:Adj rs a b):∃ k,aE rs a b=some k/\2<=k/\k<=1000000:=by
 obtain ⟨x,hx,j⟩:=h;obtain ⟨i,hi⟩:=List.getElem?_of_mem hx;have ok:=g.ok x hx;have jj:lM x a b:=j;rw [qX g hi jj];unfold di;by_cases c:x.a=a/\x.b=b
 . rw [if_pos c];exact ⟨_,rfl,ok.t0,ok.t1⟩
 . rw [if_neg c];have c2:x.a=b/\x.b=a:=by
     rcases jj with w|w
     . exact absurd w c
     . exact ⟨w.2,w.1⟩
   rw [if_pos c2];exact ⟨_,rfl,ok.u0,ok.u1⟩
theorem J4 {m:Int} {rs:List Road} (g:Good m rs) {s:Stp} (h:k7 m rs s=true):∃ k,aE rs s.1 s.2.1=some k/\dG rs s.1 s.2.1=k/\(2<=k/\k<=1000000)/\(0<=s.2.1/\s.2.1<m):=by
 obtain ⟨h1,h2,h3⟩:=pG h;have ad:=(jr g).mp h2;obtain ⟨k,e,r⟩:=mB g ad;exact ⟨k,e,by unfold dG;rw [e];rfl,r,(g.adj ad).2.1⟩
end Pb
namespace L2
open PySem PySem.Spec PyProof.Rows
def OB (i j k:Nat) (ta:TA):TS:=fun D σ H=>ta σ H fun vs H1=>∃ v w z,vs=[v,w,z]/\D.nx (((σ.set i (some v)).set j (some w)).set k (some z)) H1
end L2
set_option Elab.async false
set_option linter.all false
set_option maxRecDepth 100000
namespace Pb
open L2
section
variable {m:Int} {rs:List Road} {r:Int} {par:Int->Int} {dep:Int->Nat} {held held':Int->Int} {con:Int->Int->Int}
theorem G8 {f h:Int->Int}:∀ {l:List Int},(∀ c∈l,f c<=h c)->(l.map f).sum<=(l.map h).sum
 | [],_=>Int.le_refl _
 | c::l,hl=>by
   rw [List.map_cons,List.map_cons,List.sum_cons,List.sum_cons];have h1:=hl c List.mem_cons_self;have h2:=G8 (l:=l) fun x hx=>hl x (List.mem_cons_of_mem _ hx);omega
theorem tj {f h:Int->Int} {l:List Int} (hl:∀ c∈l,f c=h c):(l.map f).sum=(l.map h).sum:=by rw [List.map_congr_left hl]
theorem GH {f h:Int->Int} {c0:Int}:∀ {l:List Int},l.Nodup->c0∈l->(∀ c∈l,c≠c0->f c=h c)->(l.map f).sum=(l.map h).sum+(f c0 - h c0)
 | [],_,hm,_=>by cases hm
 | c::l,nd,hm,hl=>by
   obtain ⟨n1,n2⟩:=List.nodup_cons.mp nd;rw [List.map_cons,List.map_cons,List.sum_cons,List.sum_cons];by_cases z:c=c0
   . subst z;rw [tj (f:=f) (h:=h) (l:=l) fun x hx=>hl x (List.mem_cons_of_mem _ hx) fun w=>n1 (w ▸ hx)];omega
   . have hm':c0∈l:=by
       rcases List.mem_cons.mp hm with w|w
       . exact absurd w.symm z
       . exact w
     rw [hl c List.mem_cons_self z,GH n2 hm' fun x hx=>hl x (List.mem_cons_of_mem _ hx)];omega
structure Chg (m:Int) (r:Int) (par:Int->Int) (held held':Int->Int) (c0 dc dp:Int):Prop where
 rng:0<=c0/\c0<m
 nr:c0≠r
 own:held' c0=held c0+dc
 up:held' (par c0)=held (par c0)+dp
 oth:∀ v,0<=v->v<m->v≠c0->v≠par c0->held' v=held v
theorem Chg.deep (g:Good m rs) (R:Rooted m rs r par dep) {c0 dc dp:Int} (C:Chg m r par held held' c0 dc dp):∀ (n:Nat) (v:Int),m.toNat - dep v=n->0<=v->v<m->dep c0<dep v->gat m rs r par dep held' con v=gat m rs r par dep held con v:=by
 intro n
 induction n using Nat.strongRecOn with
 | _ n ih =>
   intro v hn v0 v1 hd;have dc0:=R.pos C.rng.1 C.rng.2 C.nr;rw [bC g R v0 v1,bC g R v0 v1,C.oth v v0 v1 (fun z=>by rw [z] at hd;omega) (fun z=>by rw [z] at hd;omega)]
   congr 1
   refine tj fun c hc=>?_;obtain ⟨w1,w2,w3⟩:=(aN g R v0 v1).mp hc;have dk:=R.pos w1.1 w1.2 w2;have dl:=eT R w1.1 w1.2;rw [w3] at dk;rw [ih (m.toNat - dep c) (by omega) c rfl w1.1 w1.2 (by omega)]
theorem Chg.at (g:Good m rs) (R:Rooted m rs r par dep) {c0 dc dp:Int} (C:Chg m r par held held' c0 dc dp):gat m rs r par dep held' con c0=gat m rs r par dep held con c0+dc:=by
 rw [bC g R C.rng.1 C.rng.2,bC g R C.rng.1 C.rng.2,C.own];have:((aB m rs (front r par c0) c0).map fun c=>con c (gat m rs r par dep held' con c)).sum=((aB m rs (front r par c0) c0).map fun c=>con c (gat m rs r par dep held con c)).sum:=by
   refine tj fun c hc=>?_;obtain ⟨w1,w2,w3⟩:=(aN g R C.rng.1 C.rng.2).mp hc;have dk:=R.pos w1.1 w1.2 w2;rw [w3] at dk;rw [C.deep g R _ c rfl w1.1 w1.2 (by omega)]
 rw [this];omega
theorem Chg.side (g:Good m rs) (R:Rooted m rs r par dep) {c0 dc dp:Int} (C:Chg m r par held held' c0 dc dp) {v:Int} (v0:0<=v) (v1:v<m) (hd:dep v=dep c0) (hv:v≠c0):gat m rs r par dep held' con v=gat m rs r par dep held con v:=by
 have dc0:=R.pos C.rng.1 C.rng.2 C.nr;rw [bC g R v0 v1,bC g R v0 v1,C.oth v v0 v1 hv (fun z=>by rw [z] at hd;omega)]
 congr 1
 refine tj fun c hc=>?_;obtain ⟨w1,w2,w3⟩:=(aN g R v0 v1).mp hc;have dk:=R.pos w1.1 w1.2 w2;rw [w3] at dk;rw [C.deep g R _ c rfl w1.1 w1.2 (by omega)]
theorem Chg.ahead (g:Good m rs) (R:Rooted m rs r par dep) {c0 dc dp:Int} (C:Chg m r par held held' c0 dc dp):gat m rs r par dep held' con (par c0)=gat m rs r par dep held con (par c0)+(dp+con c0 (gat m rs r par dep held con c0+dc) - con c0 (gat m rs r par dep held con c0)):=by
 have u:=R.up c0 C.rng.1 C.rng.2 C.nr;rw [bC g R u.1.1 u.1.2,bC (held:=held) g R u.1.1 u.1.2,C.up];have:=GH (c0:=c0) (f:=fun c=>con c (gat m rs r par dep held' con c)) (h:=fun c=>con c (gat m rs r par dep held con c)) (l:=aB m rs (front r par (par c0)) (par c0)) ie ((aN g R u.1.1 u.1.2).mpr ⟨C.rng,C.nr,rfl⟩) fun c hc hne=>by
   obtain ⟨w1,w2,w3⟩:=(aN g R u.1.1 u.1.2).mp hc;have dk:=R.pos w1.1 w1.2 w2;have dc0:=R.pos C.rng.1 C.rng.2 C.nr;rw [w3] at dk;show con c _=con c _;rw [C.side g R w1.1 w1.2 (by omega) hne]
 rw [this,C.at g R];omega
theorem Chg.le (g:Good m rs) (R:Rooted m rs r par dep) (hc:∀ v x y,x<=y->con v x<=con v y) {c0 dc dp:Int} (C:Chg m r par held held' c0 dc dp) (key:dp+con c0 (gat m rs r par dep held con c0+dc)<=con c0 (gat m rs r par dep held con c0)):∀ (n:Nat) (v:Int),dep c0 - dep v=n->0<=v->v<m->v≠c0->gat m rs r par dep held' con v<=gat m rs r par dep held con v:=by
 intro n
 induction n with
 | zero =>
   intro v hn v0 v1 hv;by_cases z:dep v=dep c0
   . exact Int.le_of_eq (C.side g R v0 v1 z hv)
   . exact Int.le_of_eq (C.deep g R _ v rfl v0 v1 (by omega))
 | succ n ih =>
   intro v hn v0 v1 hv;by_cases z:v=par c0
   . rw [z,C.ahead g R];omega
   . rw [bC g R v0 v1,bC (held:=held) g R v0 v1,C.oth v v0 v1 hv z];have:=G8 (f:=fun c=>con c (gat m rs r par dep held' con c)) (h:=fun c=>con c (gat m rs r par dep held con c)) (l:=aB m rs (front r par v) v) fun c hk=>by
       obtain ⟨w1,w2,w3⟩:=(aN g R v0 v1).mp hk;have dk:=R.pos w1.1 w1.2 w2;rw [w3] at dk;exact hc c _ _ (ih c (by omega) w1.1 w1.2 fun w=>z (by rw [<- w,w3]))
     omega
theorem Chg.eq (g:Good m rs) (R:Rooted m rs r par dep) {c0 dc dp:Int} (C:Chg m r par held held' c0 dc dp) (key:dp+con c0 (gat m rs r par dep held con c0+dc)=con c0 (gat m rs r par dep held con c0)):∀ (n:Nat) (v:Int),dep c0 - dep v=n->0<=v->v<m->v≠c0->gat m rs r par dep held' con v=gat m rs r par dep held con v:=by
 intro n
 induction n with
 | zero =>
   intro v hn v0 v1 hv;by_cases z:dep v=dep c0
   . exact C.side g R v0 v1 z hv
   . exact C.deep g R _ v rfl v0 v1 (by omega)
 | succ n ih =>
   intro v hn v0 v1 hv;by_cases z:v=par c0
   . rw [z,C.ahead g R];omega
   . rw [bC g R v0 v1,bC (held:=held) g R v0 v1,C.oth v v0 v1 hv z]
     congr 1
     refine tj fun c hk=>?_;obtain ⟨w1,w2,w3⟩:=(aN g R v0 v1).mp hk;have dk:=R.pos w1.1 w1.2 w2;rw [w3] at dk;rw [ih c (by omega) w1.1 w1.2 fun w=>z (by rw [<- w,w3])]
theorem zq (g:Good m rs) (R:Rooted m rs r par dep) {xs:List Int} (xl:(xs.length:Int)=m) {s:Stp} (is:k7 m rs s=true) :
   (s.1≠r/\par s.1=s.2.1/\Chg m r par (fun v=>xs.getD v.toNat 0) (fun v=>(b9 rs xs s).getD v.toNat 0) s.1 (-(s.2.2*dG rs s.1 s.2.1)) s.2.2) \/
   (s.2.1≠r/\par s.2.1=s.1/\Chg m r par (fun v=>xs.getD v.toNat 0) (fun v=>(b9 rs xs s).getD v.toNat 0) s.2.1 s.2.2 (-(s.2.2*dG rs s.1 s.2.1))):=by
 obtain ⟨ar,nb,n1⟩:=pG is;have ad:=(jr g).mp nb;have br:=(g.adj ad).2.1;have ab:=(g.adj ad).2.2;have ga:(b9 rs xs s).getD s.1.toNat 0=xs.getD s.1.toNat 0 + -(s.2.2*dG rs s.1 s.2.1):=by
   unfold b9;rw [mH _ _ _ _ (by rw [List.length_set];omega),if_neg (by omega),mH _ _ _ _ (by omega),if_pos rfl];omega
 have gb:(b9 rs xs s).getD s.2.1.toNat 0=xs.getD s.2.1.toNat 0+s.2.2:=by
   unfold b9;rw [mH _ _ _ _ (by rw [List.length_set];omega),if_pos rfl,mH _ _ _ _ (by omega),if_neg (by omega)]
 have go:∀ v:Int,0<=v->v≠s.1->v≠s.2.1->(b9 rs xs s).getD v.toNat 0=xs.getD v.toNat 0:=fun v v0 h1 h2=>by
   unfold b9;rw [mH _ _ _ _ (by rw [List.length_set];omega),if_neg (by omega),mH _ _ _ _ (by omega),if_neg (by omega)]
 rcases R.adj ad with ⟨h1,h2⟩|⟨h1,h2⟩
 . exact .inr ⟨h1,h2,br,h1,gb,by rw [h2];exact ga,fun v v0 _ w1 w2=>go v v0 (by rw [h2] at w2;exact w2) w1⟩
 . exact .inl ⟨h1,h2,ar,h1,ga,by rw [h2];exact gb,fun v v0 _ w1 w2=>go v v0 w1 (by rw [h2] at w2;exact w2)⟩
end
end Pb
set_option Elab.async false
set_option linter.all false
set_option maxRecDepth 100000
namespace L2
open PySem PySem.Spec PyProof.Rows
end L2
namespace Pb
open L2 PySem
theorem zG {m:Int} {rs:List Road} {xs:List Int} {s:Stp} (h:oC m rs xs s=true):k7 m rs s=true/\s.2.2*dG rs s.1 s.2.1<=xs.getD s.1.toNat 0:=by
 unfold oC at h;rw [Bool.and_eq_true] at h;exact ⟨h.1,of_decide_eq_true h.2⟩
theorem O2 {m:Int} {rs:List Road} (g:Good m rs) {xs:List Int} (xl:(xs.length:Int)=m) (x0:∀ x∈xs,0<=x) {s:Stp} (h:oC m rs xs s=true):∀ x∈b9 rs xs s,0<=x:=by
 obtain ⟨is,le⟩:=zG h;obtain ⟨ar,nb,n1⟩:=pG is;have h1:∀ x∈xs.set s.1.toNat (xs.getD s.1.toNat 0 - s.2.2*dG rs s.1 s.2.1),0<=x:=KM x0 (by omega);unfold b9;exact KM h1 (by have:=GS h1 s.2.1.toNat;omega)
end Pb
set_option Elab.async false
set_option linter.all false
set_option maxRecDepth 100000
namespace Pb
open L2 PySem
section
variable {m:Int} {rs:List Road}
theorem xT:∀ (l:List Int) (i:Nat) (v:Int),i<l.length->(l.set i v).sum=l.sum - l.getD i 0+v
 | [],i,v,h=>by simp at h
 | a::l,0,v,_=>by simp;omega
 | a::l,i+1,v,h=>by
   have ih:=xT l i v (by simpa using h);have e:(a::l).getD (i+1) 0=l.getD i 0:=by simp [List.getD]
   rw [List.set_cons_succ,List.sum_cons,List.sum_cons,ih,e];omega
end
end Pb
set_option Elab.async false
set_option linter.all false
set_option maxRecDepth 100000
namespace L2
open PySem PySem.Spec PyProof.Rows
section
variable {X:Cx} {i o:Expr} {ty td:TE}
def Oy (ty td:TE):TE:=fun σ H Q=>ty σ H fun y H1=>td σ H1 fun x H2=>∃ a,x=.ref a/\((∃ o,DGet H2 a y o/\Q (.bl o.isSome) H2)\/(y=.non/\(∃ kvs,H2 a=some (.dK kvs))/\Q (.bl false) H2))
end
end L2
set_option Elab.async false
set_option linter.all false
set_option maxRecDepth 100000
namespace Pb
open L2 PySem
section
variable {m:Int} {rs:List Road} {r b:Int} {par:Int->Int} {dep:Int->Nat}
def B0 (par:Int->Int) (b:Int):Nat->Int->Bool
 | 0,v=>decide (v=b)
 | n+1,v=>decide (v=b) || B0 par b n (par v)
def ben (par:Int->Int) (dep:Int->Nat) (b v:Int):Bool:=B0 par b (dep v) v
theorem LV (R:Rooted m rs r par dep) {v:Int} (v0:0<=v) (v1:v<m) (hr:v≠r):ben par dep b v=(decide (v=b) || ben par dep b (par v)):=by
 unfold ben;rw [R.pos v0 v1 hr]
 rfl
def Im (m:Int) (par:Int->Int) (dep:Int->Nat) (b:Int):List Int:=(below m.toNat).filter (ben par dep b)
theorem HL:(Im m par dep b).Nodup:=(d4 _).filter _
theorem MX {v:Int}:v∈Im m par dep b↔(0<=v/\v<m)/\ben par dep b v=true:=by
 unfold Im;rw [List.mem_filter,bM]
 constructor
 . rintro ⟨h1,h2⟩;exact ⟨⟨h1.1,by omega⟩,h2⟩
 . rintro ⟨h1,h2⟩;exact ⟨⟨h1.1,by omega⟩,h2⟩
end
end Pb
namespace L2
theorem ji {A B:TS} {D:Ends} {σ:St} {H:Hp} (h:∀ N:St->Hp->Prop,(∀ σ' H',B D σ' H'->N σ' H')->A { D with nx:=N } σ H):HH A B D σ H:=h (B D) fun _ _ z=>z
end L2
set_option Elab.async false
set_option linter.all false
set_option maxRecDepth 100000
namespace L2
open PySem
theorem kL {K:PySem.W.Frag} {a:Addr} {xs:List V} {g:TG} {tb:TS} {D:Ends} {σ:St} {H:Hp} (Pv:Nat->St->Hp->Prop) (h0:Pv 0 σ H) (hl:∀ i σ H,i<=xs.length->Pv i σ H->SqL K H a xs)
   (hs:∀ (i:Nat) (x:V) (σ:St) (H:Hp) (N B:St->Hp->Prop),(∀ σ H,(g x σ H fun σ2 H2=>tb { D with nx:=N,ct:=N,bk:=D.nx } σ2 H2)->B σ H)->(∀ σ' H',Pv (i+1) σ' H'->N σ' H')->xs[i]?=some x->Pv i σ H->B σ H)
   (hd:∀ (B:St->Hp->Prop) σ H,(∀ σ H,D.nx σ H->B σ H)->Pv xs.length σ H->B σ H):qP (Itl K a) D g tb σ H :=
 wL Pv h0 hl (fun i x σ H N hN hx p=>hs i x σ H N (fun σ H=>g x σ H fun σ2 H2=>tb { D with nx:=N,ct:=N,bk:=D.nx } σ2 H2) (fun _ _ z=>z) hN hx p) fun σ H p=>hd (fun σ H=>D.nx σ H) σ H (fun _ _ z=>z) p
theorem ui {lo:Int} {n:Nat} {g:TG} {tb:TS} {D:Ends} {σ:St} {H:Hp} (Pv:Nat->St->Hp->Prop) (h0:Pv 0 σ H)
   (hs:∀ (i:Nat) (σ:St) (H:Hp) (N B:St->Hp->Prop),(∀ σ H,(g (.int (lo+i)) σ H fun σ2 H2=>tb { D with nx:=N,ct:=N,bk:=D.nx } σ2 H2)->B σ H)->(∀ σ' H',Pv (i+1) σ' H'->N σ' H')->i<n->Pv i σ H->B σ H)
   (hd:∀ (B:St->Hp->Prop) σ H,(∀ σ H,D.nx σ H->B σ H)->Pv n σ H->B σ H):qP (Itr lo n) D g tb σ H :=
 Ae Pv h0 (fun i σ H N hN hi p=>hs i σ H N (fun σ H=>g (.int (lo+i)) σ H fun σ2 H2=>tb { D with nx:=N,ct:=N,bk:=D.nx } σ2 H2) (fun _ _ z=>z) hN hi p) fun σ H p=>hd (fun σ H=>D.nx σ H) σ H (fun _ _ z=>z) p
theorem GU {c:TT} {tb:TS} {D:Ends} {σ:St} {H:Hp} (W:Nat->St->Hp->Prop) (n0:Nat) (h0:W n0 σ H)
   (hs:∀ (n:Nat) (σ:St) (H:Hp) (N:St->Hp->Prop) (B:Nat->St->Hp->Prop),(∀ n σ H,(c σ H fun b H1=>if b=true then ∃ N:St->Hp->Prop,(∀ σ' H',N σ' H'->∃ m',m'<n/\W m' σ' H')/\tb { D with nx:=N,ct:=N,bk:=D.nx } σ H1 else D.nx σ H1)->B n σ H)->(∀ n' σ' H',n'<n->W n' σ' H'->N σ' H')->(∀ σ' H',N σ' H'->∃ m',m'<n/\W m' σ' H')->W n σ H->B n σ H):Eu c tb D σ H :=
 BL W n0 h0 fun n σ H N hN hN2 w=>hs n σ H N (fun n σ H=>c σ H fun b H1=>if b=true then ∃ N:St->Hp->Prop,(∀ σ' H',N σ' H'->∃ m',m'<n/\W m' σ' H')/\tb { D with nx:=N,ct:=N,bk:=D.nx } σ H1 else D.nx σ H1) (fun _ _ _ z=>z) hN hN2 w
theorem ex6 {α0:Sort _} {α1:Sort _} {α2:Sort _} {α3:Sort _} {α4:Sort _} {α5:Sort _} {P:α0->α1->α2->α3->α4->α5->Prop} (a0:α0) (a1:α1) (a2:α2) (a3:α3) (a4:α4) (a5:α5) (h:P a0 a1 a2 a3 a4 a5):∃ a0 a1 a2 a3 a4 a5,P a0 a1 a2 a3 a4 a5:=⟨a0,a1,a2,a3,a4,a5,h⟩
theorem ex8 {α0:Sort _} {α1:Sort _} {α2:Sort _} {α3:Sort _} {α4:Sort _} {α5:Sort _} {α6:Sort _} {α7:Sort _} {P:α0->α1->α2->α3->α4->α5->α6->α7->Prop} (a0:α0) (a1:α1) (a2:α2) (a3:α3) (a4:α4) (a5:α5) (a6:α6) (a7:α7) (h:P a0 a1 a2 a3 a4 a5 a6 a7):∃ a0 a1 a2 a3 a4 a5 a6 a7,P a0 a1 a2 a3 a4 a5 a6 a7:=⟨a0,a1,a2,a3,a4,a5,a6,a7,h⟩
theorem an4 {p0 p1 p2 p3:Prop} (h0:p0) (h1:p1) (h2:p2) (h3:p3):p0/\p1/\p2/\p3:=⟨h0,h1,h2,h3⟩
theorem an6 {p0 p1 p2 p3 p4 p5:Prop} (h0:p0) (h1:p1) (h2:p2) (h3:p3) (h4:p4) (h5:p5):p0/\p1/\p2/\p3/\p4/\p5:=⟨h0,h1,h2,h3,h4,h5⟩
end L2
set_option Elab.async false
set_option linter.all false
set_option maxRecDepth 100000
namespace Pb
open L2 PySem
section
variable {m:Int} {rs:List Road} {r:Int} {par:Int->Int} {dep:Int->Nat}
variable {para parb parc:Int->Int} {depa depb depc:Int->Nat} {a b c:Int}
end
section
variable {m:Int} {rs:List Road} {r b:Int} {par:Int->Int} {dep:Int->Nat}
theorem GR:∀ (n:Nat) (v:Int),B0 par b n v=decide (b∈iI par n v)
 | 0,v=>by
   show decide (v=b)=decide (b∈[v]);exact decide_eq_decide.mpr ⟨fun z=>by rw [z];exact List.mem_cons_self,fun z=>(List.mem_singleton.mp z).symm⟩
 | n+1,v=>by
   show (decide (v=b) || B0 par b n (par v))=decide (b∈v::iI par n (par v));rw [GR n (par v)];by_cases c:v=b
   . rw [decide_eq_true c,Bool.true_or,decide_eq_true (by rw [c];exact List.mem_cons_self)]
   . rw [decide_eq_false c,Bool.false_or];exact decide_eq_decide.mpr ⟨fun z=>List.mem_cons_of_mem _ z,fun z=>by
       rcases List.mem_cons.mp z with z|z
       . exact absurd z.symm c
       . exact z⟩
end
end Pb
set_option Elab.async false
set_option linter.all false
set_option maxRecDepth 100000
namespace Pb
open L2 PySem
section
variable {m:Int} {rs:List Road} {r b:Int} {par:Int->Int} {dep:Int->Nat}
theorem Op:∀ (k:Nat) (x:Int),up par (k+1) x=up par k (par x)
 | 0,_=>rfl
 | k+1,x=>by show par (up par (k+1) x)=par (up par k (par x));rw [Op k x]
theorem yz:∀ (n k:Nat) (x:Int),k<=n->up par k x∈iI par n x
 | 0,0,x,_=>List.mem_cons_self
 | n+1,0,x,_=>List.mem_cons_self
 | n+1,k+1,x,h=>by
   rw [Op];exact List.mem_cons_of_mem _ (yz n k (par x) (by omega))
theorem Gz {f:Int->List Int}:∀ {l:List Int} {k:Nat} {p:Int},(l.flatMap f)[k]?=some p->∃ u∈l,∃ k' rest,(f u)[k']?=some p/\(l.flatMap f).drop k=(f u).drop k'++rest
 | [],k,p,h=>by simp at h
 | u::l,k,p,h=>by
   rw [List.flatMap_cons] at h ⊢;by_cases c:k<(f u).length
   . rw [List.getElem?_append_left c] at h;exact ⟨u,List.mem_cons_self,k,l.flatMap f,h,List.drop_append_of_le_length (Nat.le_of_lt c)⟩
   . rw [List.getElem?_append_right (by omega)] at h;obtain ⟨w,hw,k',rest,h1,h2⟩:=Gz h;refine ⟨w,List.mem_cons_of_mem _ hw,k',rest,h1,?_⟩;rw [<- h2,List.drop_append,List.drop_eq_nil_of_le (by omega),List.nil_append]
theorem LR (g:Good m rs) (R:Rooted m rs r par dep):∀ (n:Nat) (v:Int),m.toNat - 1 - dep v=n->0<=v->v<m->∀ (k:Nat) (p:Int),(bL m rs r par dep v)[k]?=some p->∃ rest,(bL m rs r par dep v).drop k=bL m rs r par dep p++rest:=by
 intro n
 induction n with
 | zero =>
   intro v hn v0 v1 k p h;have e:bL m rs r par dep v=[v]:=by unfold bL;rw [hn];rfl
   cases k with
   | zero =>
     have:p=v:=(by rw [e] at h;exact (Option.some.inj h).symm);rw [this];exact ⟨[],by rw [List.append_nil];rfl⟩
   | succ k=>rw [e] at h;simp at h
 | succ n ih =>
   intro v hn v0 v1 k p h;have e:=fN g R v0 v1;cases k with
   | zero =>
     have:p=v:=(by rw [e] at h;exact (Option.some.inj h).symm);rw [this];exact ⟨[],by rw [List.append_nil];rfl⟩
   | succ k =>
     rw [e,List.getElem?_cons_succ] at h;obtain ⟨u,hu,k',rest,h1,h2⟩:=Gz h;obtain ⟨ur,un,up⟩:=(aN g R v0 v1).mp hu;have du:=R.pos ur.1 ur.2 un;rw [up] at du;have dl:=eT R ur.1 ur.2;obtain ⟨rest',h3⟩:=ih u (by omega) ur.1 ur.2 k' p h1;exact ⟨rest'++rest,by rw [e,List.drop_succ_cons,h2,h3,List.append_assoc]⟩
theorem u6 (g:Good m rs) (R:Rooted m rs r par dep) {v:Int} (v0:0<=v) (v1:v<m):v∈bL m rs r par dep v:=by
 rw [fN g R v0 v1];exact List.mem_cons_self
theorem xP (g:Good m rs) (R:Rooted m rs r par dep) {p:Int} (p0:0<=p) (p1:p<m) (x:Int):x∈bL m rs r par dep p↔(0<=x/\x<m)/\ben par dep p x=true:=by
 constructor
 . intro h;obtain ⟨xr,k,e1,e2⟩:=(tm g R _ p p0 p1).2 x h;refine ⟨xr,?_⟩;unfold ben;rw [GR];refine decide_eq_true ?_;rw [<- e2];exact yz _ _ _ (by omega)
 . rintro ⟨xr,h⟩;generalize hn:dep x=n
   induction n generalizing x with
   | zero =>
     by_cases z:x=r
     . subst z;have:p=x:=by
         unfold ben at h;rw [R.root] at h;exact (of_decide_eq_true h).symm
       rw [this];exact u6 g R xr.1 xr.2
     . have:=R.pos xr.1 xr.2 z;omega
   | succ n ih =>
     have z:x≠r:=fun z=>by rw [z,R.root] at hn;omega
     have u:=R.up x xr.1 xr.2 z;rw [LV R xr.1 xr.2 z] at h;by_cases y:x=p
     . rw [y];exact u6 g R p0 p1
     . rw [decide_eq_false y,Bool.false_or] at h;have hp:=ih (par x) u.1 h (by omega);obtain ⟨k,hk⟩:=List.getElem?_of_mem hp;obtain ⟨rest,e⟩:=LR g R _ p rfl p0 p1 k _ hk;refine List.mem_of_mem_drop (i:=k) ?_;rw [e,fN g R u.1.1 u.1.2];refine List.mem_append_left _ (List.mem_cons_of_mem _ (List.mem_flatMap.mpr ⟨x,(aN g R u.1.1 u.1.2).mpr ⟨xr,z,rfl⟩,u6 g R xr.1 xr.2⟩))
theorem NL (g:Good m rs) (R:Rooted m rs r par dep) {p:Int} (p0:0<=p) (p1:p<m):(bL m rs r par dep p).Perm (Im m par dep p) :=
 fM (tm g R _ p p0 p1).1 HL fun x=>by rw [xP g R p0 p1,MX]
end
end Pb
set_option Elab.async false
set_option linter.all false
namespace L2
open PySem
end L2
namespace Pb
open PySem L2
def ned (rs:List Road) (par:Int->Int) (v x:Int):Int:=x*(aE rs (par v) v).getD 1
def vPr (r:Int) (par:Int->Int) (v:Int):List V:=[.int v,front r par v]
abbrev PrsAt (H:Hp) (r:Int) (par:Int->Int):List Addr->List Int->Prop:=Paired fun q v=>H q=some (.tup (vPr r par v))
theorem PrsAt.same {H H':Hp} {r:Int} {par:Int->Int} {qs:List Addr} {vs:List Int} (e:Same H H') (h:PrsAt H r par qs vs):PrsAt H' r par qs vs:=Paired.imp' (fun q v x=>e q _ x) h
theorem PrsAt.get {H:Hp} {r:Int} {par:Int->Int}:∀ {ps:List Addr} {vs:List Int} {i:Nat} {x:V},PrsAt H r par ps vs->(ps.map V.ref)[i]?=some x->∃ p v,x=.ref p/\ps[i]?=some p/\vs[i]?=some v/\H p=some (.tup (vPr r par v))
 | _,_,i,x,.nil,e=>by simp at e
 | _,_,0,x,.cons (a:=p) (b:=r) h hs,e=>⟨p,r,by simpa using e.symm,by simp,by simp,h⟩
 | a::l1,_,i+1,x,.cons h hs,e=>by
   have e':(List.map V.ref l1)[i]?=some x:=by simpa using e
   obtain ⟨p,r,h1,h2,h3,h4⟩:=PrsAt.get hs e';exact ⟨p,r,h1,by simpa using h2,by simpa using h3,h4⟩
theorem PrsAt.snoc {H:Hp} {r:Int} {par:Int->Int} {q:Addr} {v:Int} (e:H q=some (.tup (vPr r par v))):∀ {qs:List Addr} {vs:List Int},PrsAt H r par qs vs->PrsAt H r par (qs++[q]) (vs++[v])
 | _,_,.nil=>.cons e .nil
 | _,_,.cons x xs=>.cons x (PrsAt.snoc e xs)
theorem GK {α β:Type} {R:α->β->Prop} {k₁:List α} {k₂:List β} (h:Paired R k₁ k₂):∀ {l₁:List α} {l₂:List β},Paired R l₁ l₂->Paired R (l₁++k₁) (l₂++k₂)
 | _,_,.nil=>h
 | _,_,.cons x xs=>.cons x (GK h xs)
end Pb
set_option Elab.async false
set_option linter.all false
set_option maxRecDepth 100000
set_option exponentiation.threshold 5000
namespace Pb
open L2 PySem
section
variable {m:Int} {rs:List Road} {r:Int} {par:Int->Int} {dep:Int->Nat}
def foU (op:Int->Int->Int) (m:Int) (rs:List Road) (r:Int) (par:Int->Int) (held:Int->Int) (con:Int->Int->Int):Nat->Int->Int
 | 0,v=>held v
 | n+1,v=>((aB m rs (front r par v) v).map fun c=>con c (foU op m rs r par held con n c)).foldl op (held v)
def fo (op:Int->Int->Int) (m:Int) (rs:List Road) (r:Int) (par:Int->Int) (dep:Int->Nat) (held:Int->Int) (con:Int->Int->Int) (v:Int):Int:=foU op m rs r par held con (m.toNat - 1 - dep v) v
variable {op:Int->Int->Int} {held:Int->Int} {con:Int->Int->Int}
theorem Px (g:Good m rs) (R:Rooted m rs r par dep) {v:Int} (h0:0<=v) (h1:v<m):fo op m rs r par dep held con v=((aB m rs (front r par v) v).map fun c=>con c (fo op m rs r par dep held con c)).foldl op (held v):=by
 have du:∀ u∈aB m rs (front r par v) v,dep u=dep v+1/\dep u+1<=m.toNat:=fun u hu=>by
   obtain ⟨w1,w2,w3⟩:=(aN g R h0 h1).mp hu;have:=R.pos w1.1 w1.2 w2;rw [w3] at this;exact ⟨this,eT R w1.1 w1.2⟩
 unfold fo;cases e:m.toNat - 1 - dep v with
 | zero =>
   have:aB m rs (front r par v) v=[]:=List.eq_nil_iff_forall_not_mem.mpr fun u hu=>by
     have:=du u hu;omega
   rw [this]
   rfl
 | succ n =>
   show List.foldl op (held v) _=_;rw [List.map_congr_left fun u hu=>show con u (foU op m rs r par held con n u)=con u (foU op m rs r par held con (m.toNat - 1 - dep u) u) by rw [show m.toNat - 1 - dep u=n by have:=du u hu;omega]]
theorem Order.cut (R:Rooted m rs r par dep) {t:List Int} (O:Order m r par t) {i:Nat} {v:Int} (hv:t.reverse[i]?=some v) :
   ((0<=v/\v<m)/\v≠r)/\t.drop (t.length - (i+1))=v::t.drop (t.length - i)/\(t.drop (t.length - i)).Nodup/\(∀ x∈t.drop (t.length - i),(0<=x/\x<m)/\x≠r)/\∀ k,0<=k->k<m->k≠r->par k=v->k∈t.drop (t.length - i):=by
 have hi:i<t.length:=by
   have:=(List.getElem?_eq_some_iff.mp hv).1
   rwa [List.length_reverse] at this
 rw [List.getElem?_reverse hi] at hv;generalize hj:t.length - 1 - i=j at hv;have ej:t.length - i=j+1:=by omega
 have ej':t.length - (i+1)=j:=by omega
 rw [ej,ej'];have hjl:j<t.length:=by omega
 have vm:v∈t:=List.mem_of_getElem? hv;have vp:=O.places v vm;have ed:t.drop j=v::t.drop (j+1):=by
   rw [List.drop_eq_getElem_cons hjl];rw [List.getElem?_eq_getElem hjl] at hv;cases hv
   rfl
 have es:t=t.take j++v::t.drop (j+1):=by rw [<- ed,List.take_append_drop]
 have ndt:=(List.nodup_cons.mp O.nd).2;have nd2:=ndt;rw [es] at nd2;have av:v ∉ t.take j:=fun z=>(List.nodup_append.mp nd2).2.2 v z v List.mem_cons_self rfl;refine ⟨vp,ed,ndt.sublist (List.drop_sublist _ _),fun x hx=>O.places x (List.mem_of_mem_drop hx),fun k k0 k1 kr pk=>?_⟩;rcases O.all k k0 k1 with z|z
 . exact absurd z kr
 . rw [es] at z;rcases List.mem_append.mp z with z|z
   . have af:=O.af;rw [es] at af;rcases af.up k z with w|w
     . rw [pk] at w;exact absurd (List.mem_singleton.mp w) vp.2
     . rw [pk] at w;exact absurd w av
   . rcases List.mem_cons.mp z with z|z
     . subst z;exact absurd pk (R.ne k0 k1 kr)
     . exact z
def mx (i j:Int):Int:=if j > i then j else i
def bor (rs:List Road) (par:Int->Int) (v x:Int):Int:=x*(aE rs v (par v)).getD 1
abbrev wgt (m:Int) (rs:List Road) (r:Int) (par:Int->Int) (dep:Int->Nat):Int->Int:=fo mx m rs r par dep (fun _=>1) (bor rs par)
theorem Order.perm_len {t:List Int} (O:Order m r par t) (r0:0<=r) (r1:r<m):t.length+1=m.toNat:=by
 have h:=(fM O.nd (d4 m.toNat) fun x=>by
   rw [List.mem_cons,bM];refine ⟨fun h=>?_,fun h=>O.all x h.1 (by have:=h.2;omega)⟩;rcases h with h|h
   . rw [h];exact ⟨r0,by omega⟩
   . have:=O.rng x h;exact ⟨this.1,by omega⟩).length_eq
 rw [aU,List.length_cons] at h;exact h
theorem G2 {cs:List Int} {i:Nat} (h:i<cs.length):cs.getD i 0∈cs:=by
 rw [List.getD,List.getElem?_eq_getElem h];exact List.getElem_mem h
end
end Pb
set_option Elab.async false
set_option linter.all false
set_option maxRecDepth 100000
namespace L2
open PySem PySem.Spec PyProof.Rows
section
variable {X:Cx}
end
end L2
namespace Pb
end Pb
set_option Elab.async false
set_option linter.all false
set_option maxRecDepth 100000
namespace L2
open PySem PySem.Spec PyProof.Rows
section
variable {X:Cx}
end
end L2
set_option Elab.async false
set_option linter.all false
set_option maxRecDepth 100000
namespace L2
open PySem PySem.Spec PyProof.Rows
section
variable {P:Program} {w:World} {A:Around} {R:Result->Shared->Prop} {I S:Addr} {fp wr:List Addr} {n:Nat} {Pv:Nat->Value->Prop} {St:Nat->Heap->Prop} {bt:Nat->Nat->Bool} {kw:List (Str × Value)}
end
section
variable {X:Cx} {x:Str} {p pos kpos:Pos} {e de:Expr} {t tk:TA}
def Oo (K:PySem.W.Frag) (t tk:TA):TE:=fun σ H Q=>t σ H fun vs H1=>tk σ H1 fun zs H2=>∃ (q:Addr) (ns:List Int) (d:V),vs=[.ref q]/\zs=[d]/\SqL K H2 q (ns.map V.int)/\ns≠[]/\∀ y,y∈ns->(∀ x∈ns,y<=x)->Q (.int y) H2
def Oq (t:TE):TE:=fun σ H Q=>t σ H fun x H1=>∃ b,x=.bl b/\Q (.bl (b != true)) H1
end
end L2
set_option Elab.async false
set_option linter.all false
set_option maxRecDepth 100000
namespace Pb
open L2 PySem
section
variable {m:Int} {rs:List Road} {r:Int} {par:Int->Int} {dep:Int->Nat}
variable {ch:Int->Option Int} {w:Int} {cn:Int->Int}
end
end Pb
set_option Elab.async false
set_option linter.all false
set_option maxRecDepth 100000
namespace L2
open PySem PySem.Spec PyProof.Rows PySem.W
section
variable {n:Nat}
variable (hn:0<n)
include hn
end
section
variable {prog:Program} {w:World} {A:Around} {E:Value->Shared->Prop} {s:Shared}
end
end L2
set_option Elab.async false
set_option linter.all false
set_option maxRecDepth 100000
namespace L2
open PySem PySem.Spec PyProof.Rows PySem.W Pb
section
variable {prog:Program} {w:World} {A:Around} {E:Value->Shared->Prop} {s:Shared} {it d:Addr} {i ep:Nat} {es:Array DictEntry}
end
section
variable {prog:Program} {w:World} {A:Around} {E:Value->Shared->Prop} {s:Shared} {fin:Bool} {C:Bool->Shared->Prop}
end
section
variable {prog:Program} {w:World} {A:Around} {E:Value->Shared->Prop} {s:Shared}
end
section
variable {X:Cx}
end
end L2
set_option Elab.async false
set_option linter.all false
set_option maxRecDepth 100000
namespace L2
theorem Fz {κ:Type} [DecidableEq κ] {kvs:List (κ × V)} {k:κ} {v:V} {p:κ × V} (h:p∈dW kvs k v):p.1=k\/∃ q∈kvs,p.1=q.1:=by
 unfold dW at h;split at h
 . obtain ⟨q,hq,e⟩:=List.mem_map.mp h;refine .inr ⟨q,hq,?_⟩;rw [<- e];split <;> rfl
 . rcases List.mem_append.mp h with h|h
   . exact .inr ⟨p,h,rfl⟩
   . rw [List.mem_singleton.mp h];exact .inl rfl
end L2
namespace Pb
open L2 PySem
section
variable {m:Int} {rs:List Road} {r:Int} {par:Int->Int} {dep:Int->Nat}
theorem yM (g:Good m rs) (v x y:Int) (h:x<=y):hnd rs par v x<=hnd rs par v y:=by
 have pos:∀ a b:Int,0<(aE rs a b).getD 1:=fun a b=>by
   cases e:aE rs a b with
   | none=>decide
   | some k =>
     obtain ⟨k',e',h2,_⟩:=mB g (zr.mp (show (aE rs a b).isSome=true by rw [e];rfl));rw [e] at e';cases e';show 0<k;omega
 have p1:=pos v (par v);have p2:=pos (par v) v;unfold hnd;by_cases c:0<=x
 . rw [if_pos c,if_pos (by omega)];exact Int.ediv_le_ediv p1 h
 . rw [if_neg c];by_cases c2:0<=y
   . rw [if_pos c2];have a1:0<=y / (aE rs v (par v)).getD 1:=Int.ediv_nonneg c2 (by omega);have a2:x*(aE rs (par v) v).getD 1<=0:=Int.mul_nonpos_of_nonpos_of_nonneg (by omega) (by omega);omega
   . rw [if_neg c2];exact Int.mul_le_mul_of_nonneg_right h (by omega)
theorem Eh {x n k k':Int} (n0:1<=n) (k2:2<=k) (k2':2<=k'):(n+(if 0<=x + -(n*k) then (x + -(n*k)) / k else (x + -(n*k))*k')<=if 0<=x then x / k else x*k') /\
   (-(n*k)+(if 0<=x+n then (x+n) / k' else (x+n)*k)<=if 0<=x then x / k' else x*k):=by
 have nk:n*2<=n*k:=Int.mul_le_mul_of_nonneg_left k2 (by omega);have nk':n*2<=n*k':=Int.mul_le_mul_of_nonneg_left k2' (by omega)
 constructor
 . by_cases c1:0<=x + -(n*k)
   . rw [if_pos c1,if_pos (by omega),<- Int.neg_mul,Int.add_mul_ediv_right _ _ (by omega)];omega
   . rw [if_neg c1];by_cases c2:0<=x
     . rw [if_pos c2];have q1:=Int.mul_ediv_add_emod x k;have q2:=Int.emod_lt_of_pos x (show 0<k by omega);have q3:=Int.emod_nonneg x (show k≠0 by omega);have q4:x / k<n:=by
         rw [Int.ediv_lt_iff_lt_mul (by omega)];omega
       have e1:k*(x / k - n)=k*(x / k) - n*k:=(by rw [Int.mul_sub,Int.mul_comm k n]);have e3:x + -(n*k)<=k*(x / k - n+1) - 1:=by
         have:k*(x / k - n+1)=k*(x / k - n)+k:=(by rw [Int.mul_add,Int.mul_one]);omega
       have e4:k*(x / k - n+1)<=2*(x / k - n+1):=by
         have:=Int.mul_le_mul_of_nonpos_right k2 (show x / k - n+1<=0 by omega);omega
       have e5:x + -(n*k)<=(x / k - n):=(by omega);have e6:(x + -(n*k))*k'<=(x / k - n)*k':=Int.mul_le_mul_of_nonneg_right e5 (by omega);have e7:(x / k - n)*k'<=(x / k - n)*1:=Int.mul_le_mul_of_nonpos_left (show x / k - n<=0 by omega) (show 1<=k' by omega);omega
     . rw [if_neg c2];have e1:(x + -(n*k))*k'=x*k' + -(n*k)*k':=Int.add_mul ..;have e2:-(n*k)*k'<=-(n*k)*1:=Int.mul_le_mul_of_nonpos_left (show -(n*k)<=0 by omega) (show 1<=k' by omega);omega
 . by_cases c1:0<=x
   . rw [if_pos c1,if_pos (by omega)];have a1:(x+n) / k'<=(x+n*k') / k':=Int.ediv_le_ediv (by omega) (by omega);rw [Int.add_mul_ediv_right _ _ (by omega)] at a1;omega
   . rw [if_neg c1];by_cases c2:0<=x+n
     . rw [if_pos c2];have a1:(x+n) / k'<=x+n:=Int.ediv_le_self _ c2;have a2:(-x)*2<=(-x)*k:=Int.mul_le_mul_of_nonneg_left k2 (by omega);have a3:(n+x)*2<=(n+x)*k:=Int.mul_le_mul_of_nonneg_left k2 (by omega);have a4:(n+x)*k=n*k+x*k:=Int.add_mul ..;omega
     . rw [if_neg c2,Int.add_mul];omega
theorem Kk (g:Good m rs) (R:Rooted m rs r par dep) (r0:0<=r) (r1:r<m) {xs ys:List Int} (xl:(xs.length:Int)=m) {s:Stp} (is:k7 m rs s=true) :
   gat m rs r par dep (fun v=>(bw m (b9 rs xs s) ys).getD v.toNat 0) (hnd rs par) r<=gat m rs r par dep (fun v=>(bw m xs ys).getD v.toNat 0) (hnd rs par) r:=by
 obtain ⟨ar,nb,n1⟩:=pG is;have ad:=(jr g).mp nb;have br:=(g.adj ad).2.1;obtain ⟨k,ek,k0,k1⟩:=mB g ad;obtain ⟨k',ek',k0',k1'⟩:=mB g ad.symm;have td:dG rs s.1 s.2.1=k:=by unfold dG;rw [ek];rfl
 have ov:∀ (zs:List Int) (v:Int),0<=v->v<m->(bw m zs ys).getD v.toNat 0=zs.getD v.toNat 0 - ys.getD v.toNat 0:=fun zs v v0 v1=>by
   unfold bw;rw [List.getD,List.getElem?_map,List.getElem?_range (by omega)]
   rfl
 have cv:∀ {c dc dp:Int},0<=par c/\par c<m->Chg m r par (fun v=>xs.getD v.toNat 0) (fun v=>(b9 rs xs s).getD v.toNat 0) c dc dp->Chg m r par (fun v=>(bw m xs ys).getD v.toNat 0) (fun v=>(bw m (b9 rs xs s) ys).getD v.toNat 0) c dc dp:=fun {c dc dp} pr C=>by
   refine ⟨C.rng,C.nr,?_,?_,fun v v0 v1 w1 w2=>?_⟩
   . show (bw m (b9 rs xs s) ys).getD c.toNat 0=(bw m xs ys).getD c.toNat 0+dc;rw [ov _ c C.rng.1 C.rng.2,ov _ c C.rng.1 C.rng.2];have:=C.own;omega
   . show (bw m (b9 rs xs s) ys).getD (par c).toNat 0=(bw m xs ys).getD (par c).toNat 0+dp;rw [ov _ _ pr.1 pr.2,ov _ _ pr.1 pr.2];have:=C.up;omega
   . show (bw m (b9 rs xs s) ys).getD v.toNat 0=(bw m xs ys).getD v.toNat 0;rw [ov _ v v0 v1,ov _ v v0 v1];have:=C.oth v v0 v1 w1 w2;omega
 rcases zq g R xl is with ⟨h1,h2,C⟩|⟨h1,h2,C⟩
 . refine (cv (by rw [h2];exact br) C).le g R (yM g) ?_ _ r rfl r0 r1 fun z=>h1 z.symm;unfold hnd;rw [h2,ek,ek',td];exact (Eh n1 k0 k0').1
 . refine (cv (by rw [h2];exact ar) C).le g R (yM g) ?_ _ r rfl r0 r1 fun z=>h1 z.symm;unfold hnd;rw [h2,ek,ek',td];exact (Eh n1 k0 k0').2
theorem sW {zs ys:List Int} (i:Nat):(bw m zs ys).getD i 0=if i<m.toNat then zs.getD i 0 - ys.getD i 0 else 0:=by
 unfold bw;by_cases c:i<m.toNat
 . rw [if_pos c,List.getD,List.getElem?_map,List.getElem?_range c]
   rfl
 . rw [if_neg c,List.getD,List.getElem?_map,List.getElem?_eq_none (by rw [List.length_range];omega)]
   rfl
end
section
end
end Pb
set_option Elab.async false
set_option linter.all false
set_option maxRecDepth 100000
namespace L2
open PySem PySem.Spec PyProof.Rows
def Ka (tk tv:TE):TE:=fun σ H Q=>∀ p,H p=none->sF [(tk,tv)] σ (upd H p (.dT [])) fun ps H2=>H2 p=some (.dT [])/\∃ (k:List Key) (b:Addr) (y:V),ps=[(.ref b,y)]/\H2 b=some (.tup (k.map kV))/\Q (.ref p) (upd H2 p (.dT [(k,y)]))
end L2
set_option Elab.async false
set_option linter.all false
set_option maxRecDepth 100000
namespace Pb
open L2 PySem
inductive Come (m:Int) (rs:List Road) (xs:List Int):List Int->Prop
 | start:Come m rs xs xs
 | step {z:List Int} {a b:Int}:Come m rs xs z->oC m rs z (a,b,1)=true->Come m rs xs (b9 rs z (a,b,1))
theorem A0:∀ {z:List Int},(∀ x∈z,0<=x)->0<=z.sum
 | [],_=>Int.le_refl 0
 | x::z,h=>by
   have h1:=h x (.head _);have h2:=A0 fun y hy=>h y (.tail _ hy);rw [List.sum_cons];omega
end Pb
namespace Pb
open L2 PySem
section
variable {m:Int} {rs:List Road} {xs:List Int}
theorem Come.len {z:List Int} (h:Come m rs xs z):z.length=xs.length:=by
 induction h with
 | start=>rfl
 | step _ _ ih=>rw [CB];exact ih
variable {r:Int} {par:Int->Int} {dep:Int->Nat}
end
end Pb
set_option Elab.async false
set_option linter.all false
set_option maxRecDepth 100000
namespace L2
open PySem PySem.Spec PyProof.Rows Pb
section
variable {X:Cx}
end
end L2
set_option Elab.async false
set_option linter.all false
set_option maxRecDepth 100000
namespace L2
open PySem PySem.Spec PyProof.Rows
end L2
namespace Pb
end Pb
namespace L2
open PySem Pb
end L2
namespace L2
open PySem
end L2
namespace L2
open PySem
end L2
namespace L2
open PySem PySem.Spec PyProof.Rows Pb
end L2
namespace L2
open PySem
end L2
set_option Elab.async false
set_option linter.all false
set_option maxRecDepth 100000
namespace Pb
open L2 PySem
theorem Fm {P:Int->Prop} (f:Int->Nat):∀ (n:Nat) (v:Int),f v=n->P v->∃ v,P v/\∀ u,P u->f v<=f u:=by
 intro n
 induction n using Nat.strongRecOn with
 | _ n ih =>
   intro v hn hp;by_cases c:∃ u,P u/\f u<f v
   . obtain ⟨u,h1,h2⟩:=c;exact ih (f u) (by omega) u rfl h1
   . exact ⟨v,hp,fun u hu=>Nat.le_of_not_lt fun h=>c ⟨u,hu,h⟩⟩
theorem FZ:∀ {l:List Int},(∀ x∈l,x<=0)->l.sum<=0
 | [],_=>Int.le_refl 0
 | x::l,h=>by
   have h1:=h x (.head _);have h2:=FZ fun y hy=>h y (.tail _ hy);rw [List.sum_cons];omega
theorem CT:∀ {l:List Int} {y:Int},(∀ x∈l,x<=0)->y∈l->l.sum<=y
 | x::l,y,h,hy=>by
   have h1:=h x (.head _);have h2:=FZ fun y hy=>h y (.tail _ hy);rw [List.sum_cons];rcases List.mem_cons.mp hy with e|e
   . omega
   . have:=CT (fun y hy=>h y (.tail _ hy)) e;omega
theorem yp:∀ {l:List Int},(∀ x∈l,x=0)->l.sum=0
 | [],_=>rfl
 | x::l,h=>by rw [List.sum_cons,h x (.head _),yp fun y hy=>h y (.tail _ hy)];rfl
section
variable {m:Int} {rs:List Road} {r:Int} {par:Int->Int} {dep:Int->Nat}
abbrev stg (m:Int) (rs:List Road) (r:Int) (par:Int->Int) (dep:Int->Nat) (ys z:List Int) (v:Int):Int:=gat m rs r par dep (fun v=>(bw m z ys).getD v.toNat 0) (hnd rs par) v
theorem Ag (g:Good m rs) (R:Rooted m rs r par dep) {ys z:List Int} {v:Int} (v0:0<=v) (v1:v<m):stg m rs r par dep ys z v=z.getD v.toNat 0 - ys.getD v.toNat 0+((aB m rs (front r par v) v).map fun c=>hnd rs par c (stg m rs r par dep ys z c)).sum:=by
 show gat m rs r par dep _ _ v=_;rw [bC g R v0 v1];show (bw m z ys).getD v.toNat 0+_=_;rw [sW,if_pos (by omega)]
theorem FA {xs ys:List Int} {s:Stp} {c dc dp:Int} (pr:0<=par c/\par c<m) (C:Chg m r par (fun v=>xs.getD v.toNat 0) (fun v=>(b9 rs xs s).getD v.toNat 0) c dc dp):Chg m r par (fun v=>(bw m xs ys).getD v.toNat 0) (fun v=>(bw m (b9 rs xs s) ys).getD v.toNat 0) c dc dp:=by
 have ov:∀ (zs:List Int) (v:Int),0<=v->v<m->(bw m zs ys).getD v.toNat 0=zs.getD v.toNat 0 - ys.getD v.toNat 0:=fun zs v v0 v1=>by
   rw [sW,if_pos (by omega)]
 refine ⟨C.rng,C.nr,?_,?_,fun v v0 v1 w1 w2=>?_⟩
 . show (bw m (b9 rs xs s) ys).getD c.toNat 0=(bw m xs ys).getD c.toNat 0+dc;rw [ov _ c C.rng.1 C.rng.2,ov _ c C.rng.1 C.rng.2];have:=C.own;omega
 . show (bw m (b9 rs xs s) ys).getD (par c).toNat 0=(bw m xs ys).getD (par c).toNat 0+dp;rw [ov _ _ pr.1 pr.2,ov _ _ pr.1 pr.2];have:=C.up;omega
 . show (bw m (b9 rs xs s) ys).getD v.toNat 0=(bw m xs ys).getD v.toNat 0;rw [ov _ v v0 v1,ov _ v v0 v1];have:=C.oth v v0 v1 w1 w2;omega
theorem KJ (g:Good m rs) (R:Rooted m rs r par dep) (r0:0<=r) (r1:r<m) {z ys:List Int} (zl:(z.length:Int)=m) (y0:∀ y∈ys,0<=y) (s0:0<=stg m rs r par dep ys z r) :
   ((∀ v,0<=v->v<m->ys.getD v.toNat 0<=z.getD v.toNat 0)/\z.getD r.toNat 0 - ys.getD r.toNat 0=stg m rs r par dep ys z r)\/∃ a b,oC m rs z (a,b,1)=true/\stg m rs r par dep ys (b9 rs z (a,b,1)) r=stg m rs r par dep ys z r:=by
 have yn:∀ v:Int,0<=ys.getD v.toNat 0:=fun v=>GS y0 _;have tl:∀ v,0<=v->v<m->v≠r->∃ k k',aE rs v (par v)=some k/\aE rs (par v) v=some k'/\2<=k/\2<=k'/\(0<=par v/\par v<m)/\Adj rs v (par v)/\dep (par v)+1=dep v:=fun v v0 v1 hv=>by
   obtain ⟨u1,u2,u3⟩:=R.up v v0 v1 hv;obtain ⟨k,ek,k0,_⟩:=mB g u2;obtain ⟨k',ek',k0',_⟩:=mB g u2.symm;exact ⟨k,k',ek,ek',k0,k0',u1,u2,u3⟩
 by_cases cA:∃ v,(0<=v/\v<m/\v≠r)/\(aE rs v (par v)).getD 1<=stg m rs r par dep ys z v
 . -- the deepest place that has something to hand on
   obtain ⟨v',hv'⟩:=cA;obtain ⟨v,⟨⟨v0,v1,vr⟩,hv⟩,mx⟩:=Fm (P:=fun v=>(0<=v/\v<m/\v≠r)/\(aE rs v (par v)).getD 1<=stg m rs r par dep ys z v) (fun v=>m.toNat - dep v) _ v' rfl hv';obtain ⟨k,k',ek,ek',k0,k0',pr,ad,dp⟩:=tl v v0 v1 vr;rw [ek] at hv;have hv:k<=stg m rs r par dep ys z v:=hv;have np:∀ x∈(aB m rs (front r par v) v).map fun c=>hnd rs par c (stg m rs r par dep ys z c),x<=0:=fun x hx=>by
     obtain ⟨c,hc,rfl⟩:=List.mem_map.mp hx;obtain ⟨w1,w2,w3⟩:=(aN g R v0 v1).mp hc;have dk:=R.pos w1.1 w1.2 w2;have dl:=eT R w1.1 w1.2;rw [w3] at dk;obtain ⟨q,q',eq,eq',q0,q0',_⟩:=tl c w1.1 w1.2 w2;have nc:¬ q<=stg m rs r par dep ys z c:=fun h=>by
       have:=mx c ⟨⟨w1.1,w1.2,w2⟩,by rw [eq];exact h⟩;omega
     unfold hnd;rw [eq,eq'];show (if 0<=stg m rs r par dep ys z c then stg m rs r par dep ys z c / q else stg m rs r par dep ys z c*q')<=0;generalize stg m rs r par dep ys z c=G at nc ⊢;by_cases c0:0<=G
     . rw [if_pos c0,Int.ediv_eq_zero_of_lt c0 (by omega)];exact Int.le_refl _
     . rw [if_neg c0];exact Int.mul_nonpos_of_nonpos_of_nonneg (by omega) (by omega)
   have e:=Ag g R (ys:=ys) (z:=z) v0 v1;have sp:=FZ np;have yv:=yn v;have td:dG rs v (par v)=k:=by unfold dG;rw [ek];rfl
   have is:k7 m rs (v,par v,1)=true:=by
     unfold k7;have nb:=(jr g).mpr ad;simp only [Bool.and_eq_true,decide_eq_true_eq];exact ⟨⟨⟨v0,v1⟩,nb⟩,by decide⟩
   refine .inr ⟨v,par v,?_,?_⟩
   . unfold oC;rw [is,Bool.true_and,decide_eq_true_eq];show 1*dG rs v (par v)<=z.getD v.toNat 0;rw [td];omega
   . rcases zq g R zl is with ⟨h1,h2,C⟩|⟨h1,h2,C⟩
     . refine (FA pr C).eq g R ?_ _ r rfl r0 r1 fun w=>vr w.symm;show 1+hnd rs par v (stg m rs r par dep ys z v + -(1*dG rs v (par v)))=hnd rs par v (stg m rs r par dep ys z v);rw [td];unfold hnd;rw [ek];generalize stg m rs r par dep ys z v=G at hv ⊢;rw [if_pos (by omega),if_pos (by omega)];show 1+(G + -(1*k)) / k=G / k;rw [<- Int.neg_mul,Int.add_mul_ediv_right _ _ (by omega)];omega
     . have d2:=R.pos pr.1 pr.2 h1;simp only at h2;rw [h2] at d2;omega
 . have up:∀ v,0<=v->v<m->v≠r->hnd rs par v (stg m rs r par dep ys z v)<=0/\(0<=stg m rs r par dep ys z v->hnd rs par v (stg m rs r par dep ys z v)=0):=fun v v0 v1 vr=>by
     obtain ⟨k,k',ek,ek',k0,k0',pr,ad,dp⟩:=tl v v0 v1 vr;have nc:¬ k<=stg m rs r par dep ys z v:=fun h=>cA ⟨v,⟨v0,v1,vr⟩,by rw [ek];exact h⟩;unfold hnd;rw [ek,ek'];show (if 0<=stg m rs r par dep ys z v then stg m rs r par dep ys z v / k else stg m rs r par dep ys z v*k')<=0/\(0<=stg m rs r par dep ys z v->(if 0<=stg m rs r par dep ys z v then stg m rs r par dep ys z v / k else stg m rs r par dep ys z v*k')=0);generalize stg m rs r par dep ys z v=G at nc ⊢;by_cases c0:0<=G
     . rw [if_pos c0,Int.ediv_eq_zero_of_lt c0 (by omega)];exact ⟨Int.le_refl _,fun _=>rfl⟩
     . rw [if_neg c0];exact ⟨Int.mul_nonpos_of_nonpos_of_nonneg (by omega) (by omega),fun h=>absurd h c0⟩
   by_cases cB:∃ v,(0<=v/\v<m/\v≠r)/\stg m rs r par dep ys z v<0
   . -- the nearest place that lacks something
     obtain ⟨v',hv'⟩:=cB;obtain ⟨v,⟨⟨v0,v1,vr⟩,hv⟩,mn⟩:=Fm (P:=fun v=>(0<=v/\v<m/\v≠r)/\stg m rs r par dep ys z v<0) dep _ v' rfl hv';obtain ⟨k,k',ek,ek',k0,k0',pr,ad,dp⟩:=tl v v0 v1 vr;have pg:0<=stg m rs r par dep ys z (par v):=by
       by_cases c:par v=r
       . rw [c];exact s0
       . refine Int.le_of_not_gt fun h=>?_;have:=mn (par v) ⟨⟨pr.1,pr.2,c⟩,h⟩;omega
     have e:=Ag g R (ys:=ys) (z:=z) pr.1 pr.2;have sp:=CT (l:=(aB m rs (front r par (par v)) (par v)).map fun c=>hnd rs par c (stg m rs r par dep ys z c)) (y:=hnd rs par v (stg m rs r par dep ys z v)) (fun x hx=>by
       obtain ⟨c,hc,rfl⟩:=List.mem_map.mp hx;obtain ⟨w1,w2,w3⟩:=(aN g R pr.1 pr.2).mp hc;exact (up c w1.1 w1.2 w2).1) (List.mem_map.mpr ⟨v,(aN g R pr.1 pr.2).mpr ⟨⟨v0,v1⟩,vr,rfl⟩,rfl⟩)
     have hh:hnd rs par v (stg m rs r par dep ys z v)=stg m rs r par dep ys z v*k':=by
       unfold hnd;rw [ek',if_neg (by omega)]
       rfl
     have hk:stg m rs r par dep ys z v*k'<=(-1)*k':=Int.mul_le_mul_of_nonneg_right (by omega) (by omega);have yv:=yn (par v);have td:dG rs (par v) v=k':=(by unfold dG;rw [ek'];rfl);have is:k7 m rs (par v,v,1)=true:=by
       unfold k7;have nb:=(jr g).mpr ad.symm;simp only [Bool.and_eq_true,decide_eq_true_eq];exact ⟨⟨⟨pr.1,pr.2⟩,nb⟩,by decide⟩
     refine .inr ⟨par v,v,?_,?_⟩
     . unfold oC;rw [is,Bool.true_and,decide_eq_true_eq];show 1*dG rs (par v) v<=z.getD (par v).toNat 0;rw [td];omega
     . rcases zq g R zl is with ⟨h1,h2,C⟩|⟨h1,h2,C⟩
       . have d2:=R.pos pr.1 pr.2 h1;simp only at h2;rw [h2] at d2;omega
       . refine (FA pr C).eq g R ?_ _ r rfl r0 r1 fun w=>vr w.symm;show -(1*dG rs (par v) v)+hnd rs par v (stg m rs r par dep ys z v+1)=hnd rs par v (stg m rs r par dep ys z v);rw [td,hh];unfold hnd;rw [ek,ek'];generalize stg m rs r par dep ys z v=G at hv ⊢;show -(1*k')+(if 0<=G+1 then (G+1) / k else (G+1)*k')=G*k';by_cases c:0<=G+1
         . have:G=-1:=(by omega);subst this;rw [if_pos c];show -(1*k')+0 / k=-1*k';rw [Int.zero_ediv];omega
         . rw [if_neg c,Int.add_mul];omega
   . have nn:∀ v,0<=v->v<m->0<=stg m rs r par dep ys z v:=fun v v0 v1=>by
       by_cases c:v=r
       . rw [c];exact s0
       . exact Int.le_of_not_gt fun h=>cB ⟨v,⟨v0,v1,c⟩,h⟩
     have ev:∀ v,0<=v->v<m->z.getD v.toNat 0 - ys.getD v.toNat 0=stg m rs r par dep ys z v:=fun v v0 v1=>by
       have e:=Ag g R (ys:=ys) (z:=z) v0 v1;rw [yp fun x hx=>?_] at e
       . omega
       . obtain ⟨c,hc,rfl⟩:=List.mem_map.mp hx;obtain ⟨w1,w2,w3⟩:=(aN g R v0 v1).mp hc;exact (up c w1.1 w1.2 w2).2 (nn c w1.1 w1.2)
     refine .inl ⟨fun v v0 v1=>?_,ev r r0 r1⟩;have h1:=ev v v0 v1;have h2:=nn v v0 v1;omega
theorem Come.pre {xs z:List Int} {a b:Int} (c:oC m rs xs (a,b,1)=true) (h:Come m rs (b9 rs xs (a,b,1)) z):Come m rs xs z:=by
 induction h with
 | start=>exact .step .start c
 | step _ c2 ih=>exact .step ih c2
theorem JE (g:Good m rs) {z:List Int} (zl:(z.length:Int)=m) {a b:Int} (c:oC m rs z (a,b,1)=true):(b9 rs z (a,b,1)).sum<z.sum:=by
 obtain ⟨is,en⟩:=zG c;obtain ⟨ar,nb,_⟩:=pG is;obtain ⟨k,ek,tk,kk,br⟩:=J4 g is;have ad:=g.adj ((jr g).mp nb);simp only at ar nb ek tk br en ad;unfold b9;show ((z.set a.toNat (z.getD a.toNat 0 - 1*dG rs a b)).set b.toNat ((z.set a.toNat (z.getD a.toNat 0 - 1*dG rs a b)).getD b.toNat 0+1)).sum<z.sum;rw [xT _ _ _ (by rw [List.length_set];omega),xT _ _ _ (by omega),tk];omega
theorem Pg (g:Good m rs) (R:Rooted m rs r par dep) (r0:0<=r) (r1:r<m) {ys:List Int} (y0:∀ y∈ys,0<=y):∀ (n:Nat) (z:List Int),z.sum.toNat=n->(z.length:Int)=m->(∀ x∈z,0<=x)->0<=stg m rs r par dep ys z r ->
   ∃ z',Come m rs z z'/\(∀ v,0<=v->v<m->ys.getD v.toNat 0<=z'.getD v.toNat 0)/\z'.getD r.toNat 0 - ys.getD r.toNat 0=stg m rs r par dep ys z r:=by
 intro n
 induction n using Nat.strongRecOn with
 | _ n ih =>
   intro z hn zl z0 s0;rcases KJ g R r0 r1 zl y0 s0 with ⟨h1,h2⟩|⟨a,b,c,e⟩
   . exact ⟨z,.start,h1,h2⟩
   . have z0':=O2 g zl z0 c;have lt:=JE g zl c;have s0':=A0 z0';obtain ⟨z',h1,h2,h3⟩:=ih _ (by omega) (b9 rs z (a,b,1)) rfl (by rw [CB];exact zl) z0' (by rw [e];exact s0);exact ⟨z',h1.pre c,h2,by rw [h3,e]⟩
theorem Come.stg_le (g:Good m rs) (R:Rooted m rs r par dep) (r0:0<=r) (r1:r<m) {xs ys:List Int} (xl:(xs.length:Int)=m) {z:List Int} (h:Come m rs xs z):stg m rs r par dep ys z r<=stg m rs r par dep ys xs r:=by
 induction h with
 | start=>exact Int.le_refl _
 | step hz c ih=>exact Int.le_trans (Kk g R r0 r1 (by rw [hz.len];exact xl) (zG c).1) ih
theorem FU (g:Good m rs) (v x:Int) (h:0<=x):0<=hnd rs par v x:=by
 have:=yM (par:=par) g v 0 x h;have e:hnd rs par v 0=0:=by unfold hnd;rw [if_pos (Int.le_refl _)];exact Int.zero_ediv _
 omega
theorem El {held:Int->Int} {con:Int->Int->Int} (hz:∀ v,0<=held v) (hc:∀ v x,0<=x->0<=con v x):∀ (n:Nat) (v:Int),0<=xm m rs r par held con n v
 | 0,v=>hz v
 | n+1,v=>by
   show 0<=held v+((aB m rs (front r par v) v).map fun c=>con c (xm m rs r par held con n c)).sum;have h1:=hz v;have h2:0<=((aB m rs (front r par v) v).map fun c=>con c (xm m rs r par held con n c)).sum:=A0 fun x hx=>by
     obtain ⟨c,hc',rfl⟩:=List.mem_map.mp hx;exact hc c _ (El hz hc n c)
   omega
theorem Qz (g:Good m rs) (R:Rooted m rs r par dep) (r0:0<=r) (r1:r<m) {ys z:List Int} (h:∀ v,0<=v->v<m->ys.getD v.toNat 0<=z.getD v.toNat 0):z.getD r.toNat 0 - ys.getD r.toNat 0<=stg m rs r par dep ys z r:=by
 have hz:∀ v:Int,0<=(bw m z ys).getD v.toNat 0:=fun v=>by
   rw [sW];by_cases c:v.toNat<m.toNat
   . rw [if_pos c];have:=h (v.toNat:Int) (by omega) (by omega);rw [Int.toNat_natCast] at this;omega
   . rw [if_neg c];exact Int.le_refl _
 rw [Ag g R r0 r1];have:0<=((aB m rs (front r par r) r).map fun c=>hnd rs par c (stg m rs r par dep ys z c)).sum:=A0 fun x hx=>by
   obtain ⟨c,hc,rfl⟩:=List.mem_map.mp hx;exact FU g c _ (El hz (FU g) _ _)
 omega
end
section
variable {m:Int} {rs:List Road} {xs:List Int}
end
end Pb
set_option Elab.async false
set_option linter.all false
set_option maxRecDepth 100000
namespace L2
open PySem PySem.Spec PyProof.Rows PySem.W Pb
section
variable {X:Cx} {pins:List (Addr × Obj)} {σ:St} {H:Hp} {s:Shared}
end
def Itd (d:Addr) (o:Obj) (kvs:List (List Key × V)):It :=
 ⟨fun i H=>H d=some (.frz o (.dT kvs))/\i<kvs.length,fun i H x H'=>H'=H/\∃ (q:Addr) (k:List Key) (v:V),x=.ref q/\kvs[i]?=some (k,v)/\H q=some (.tup (k.map kV)),fun i H=>H d=some (.frz o (.dT kvs))/\i=kvs.length⟩
def Ou (tl:TE) (g:TG) (tb:TS):TS:=fun D σ H=>tl σ H fun x H1=>∃ (d:Addr) (kvs:List (List Key × V)),x=.ref d/\H1 d=some (.dT kvs) /\
 ∀ o,qP (Itd d o kvs) { D with nx:=fun σ' H'=>H' d=some (.frz o (.dT kvs))/\D.nx σ' (upd H' d (.dT kvs)) } g tb σ (upd H1 d (.frz o (.dT kvs)))
section
variable {X:Cx} {tg:Expr}
end
end L2
set_option Elab.async false
set_option linter.all false
set_option maxRecDepth 100000
namespace Pb
open L2 PySem
section
variable {α β:Type}
end
section
variable {m:Int} {rs:List Road} {r:Int} {par:Int->Int} {dep:Int->Nat}
end
end Pb
namespace Pb
open L2 PySem
section
variable {m:Int} {rs:List Road} {r:Int} {par:Int->Int} {dep:Int->Nat} {to:Bool}
end
end Pb
namespace Pb
open L2 PySem
end Pb
namespace Pb
open L2 PySem
end Pb
set_option Elab.async false
set_option linter.all false
set_option maxRecDepth 100000
namespace L2
open PySem PySem.Spec PyProof.Rows
section
variable {X:Cx} {cx:Str} {Nc:List Str} {own:Nat} {js:List Nat} {scope:Scope} {cl:List (Str × Addr)}
end
section
variable {X:Cx} {cx:Str} {Nc:List Str} {own:Nat} {js:List Nat} {scope:Scope} {cl:List (Str × Addr)}
end
end L2
set_option Elab.async false
set_option linter.all false
set_option maxRecDepth 100000
namespace L2
open PySem PySem.Spec PyProof.Rows PySem.W
section
variable {X:Cx}
end
def Its (z:Str):It:=⟨fun i _=>i<z.cps.size,fun i H x H'=>H'=H/\∃ c,z.cps[i]?=some c/\x=.str ⟨#[c]⟩,fun i _=>z.cps.size<=i⟩
section
variable {X:Cx} {tg:Expr}
def P0 (tl:TE):TI:=fun σ H R=>tl σ H fun x H1=>∃ z,x=.str z/\z.cps.all (·<128)=true/\R (Its z) H1
end
section
variable {P:Program} {w:World} {A:Around} {E:Value->Shared->Prop} {s:Shared}
end
section
variable {X:Cx} {e:Expr} {te:TE} {p2 apos cpos pos2:Pos} {z:Str} {zp:Pos} {zk:Nat}
def J8 (K:PySem.W.Frag) (z:Str) (te:TE):TE:=fun σ H Q=>te σ H fun x H1=>∃ (a:Addr) (ys:List Str),x=.ref a/\SqL K H1 a (ys.map V.str)/\(ys.map (·.length)).sum+ys.length*z.length<=16777216/\Q (.str (Str.join z ys.reverse)) H1
end
end L2
set_option Elab.async false
set_option linter.all false
set_option maxRecDepth 100000
namespace Pb
open L2 PySem PySem.W NumText
end Pb
set_option Elab.async false
set_option linter.all false
set_option maxRecDepth 100000
namespace L2
open PySem PySem.Spec PyProof.Rows PySem.W
end L2
namespace Pb
open L2 PySem PySem.W NumText
open PySem.StrLaws (At ChainG occ_tight partsBetween_eq partsFrom strSub_toList subAt_eq sub_whole)
section
variable {X:Str} {u c v:Nat}
end
end Pb
set_option Elab.async false
set_option linter.all false
set_option maxRecDepth 100000
namespace L2
open PySem PySem.Spec PyProof.Rows PySem.W
end L2
namespace Pb
open L2 PySem PySem.W NumText
end Pb
set_option Elab.async false
set_option linter.all false
set_option maxRecDepth 100000
namespace Pb
open L2 PySem
section
variable {m:Int} {rs:List Road} {r:Int} {par:Int->Int} {dep:Int->Nat} {held:Int->Int}
theorem Ih:∀ (xs:List Int),(List.range xs.length).map (fun i=>xs.getD i 0)=xs:=fun xs=>by
 refine List.ext_getElem? fun i=>?_;rw [List.getElem?_map];by_cases h:i<xs.length
 . rw [List.getElem?_range h,List.getElem?_eq_getElem h];show some (xs.getD i 0)=_;rw [List.getD,List.getElem?_eq_getElem h]
   rfl
 . rw [List.getElem?_eq_none (by rw [List.length_range];omega),List.getElem?_eq_none (by omega)]
   rfl
theorem Kp {xs:List Int} {n:Nat} (h:xs.length=n):((below n).map fun v=>xs.getD v.toNat 0).sum=xs.sum:=by
 unfold below;rw [List.map_map,<- h];exact congrArg List.sum (Ih xs)
theorem GB (R:Rooted m rs r par dep):∀ (n:Nat) (v:Int),dep v=n->0<=v->v<m->B0 par r n v=true
 | 0,v,e,h0,h1=>by
   refine decide_eq_true (Classical.byContradiction fun h=>?_);have:=R.pos h0 h1 h;omega
 | n+1,v,e,h0,h1=>by
   show (decide (v=r) || B0 par r n (par v))=true;by_cases h:v=r
   . rw [decide_eq_true h];rfl
   . have u:=R.up v h0 h1 h;rw [GB R n (par v) (by omega) u.1.1 u.1.2,Bool.or_true]
theorem C1 (g:Good m rs) (R:Rooted m rs r par dep) (r0:0<=r) (r1:r<m):∃ t,bL m rs r par dep r=r::t/\Order m r par t :=
 zT g R r0 r1 (tm g R _ r r0 r1).1 fun v=>by
   rw [xP g R r0 r1];exact ⟨fun h=>h.1,fun h=>⟨h,GB R _ v rfl h.1 h.2⟩⟩
end
end Pb
set_option Elab.async false
set_option linter.all false
set_option maxRecDepth 100000
namespace L2
open PySem PySem.Spec PyProof.Rows
section
variable {prog:Program} {w:World} {A:Around} {E:Value->Shared->Prop} {R:Result->Shared->Prop} {s:Shared}
end
section
variable {M:Model} {A:Around} {E:Value->Shared->Prop} {s:Shared} {Q:Unit->Shared->Prop} {fs:List Addr} {ea T L:Addr} {cls fl hd:Value} {od:Option Addr} {base:Heap} {env:Env} {outer:List Env}
end
section
variable {P:Program} {w:World} {K:PySem.W.Frag} {mg:Str->Option Value} {base:Heap} {N:List Str} {qual:Str} {scope:Scope} {f:Addr} {cd:Value} {A:Around} {outer:List Env} {s:Shared} {H:Hp} {E:XK}
end
section
variable {X:Cx} {Nc:List Str} {own:Nat} {js:List Nat} {scope:Scope} {cl:List (Str × Addr)}
end
section
variable {X:Cx} {Nc:List Str} {own:Nat} {js:List Nat} {scope:Scope} {cl:List (Str × Addr)}
end
section
variable {X:Cx}
end
end L2
set_option Elab.async false
set_option linter.all false
set_option maxRecDepth 100000
namespace L2
open PySem PySem.Spec PyProof.Rows
section
variable {prog:Program} {w:World} {A:Around} {E:Value->Shared->Prop} {h:Heap} {g:Array GenState} {d:Drawn} {t:Nat} {os:OsState}
variable {nm q:Str} {C N:Addr} {bs bm bmB:List Value} {hdct:Bool} {sn:List Str} {sub:List Value} {ab:Bool} {col:Option Bool} {dd:Option Addr} {k0 k1 k2 k3 k5:Option Value} {B newId initId:String}
end
section
variable {M:Model} {A:Around} {E:Value->Shared->Prop} {env:Env}
variable {nm q:Str} {C N:Addr} {bs bm:List Value} {hdct:Bool} {sn:List Str} {sub:List Value} {ab:Bool} {col:Option Bool} {dd:Option Addr} {k0 k1 k2 k3 k5:Option Value} {newId:String}
end
section
variable {prog:Program} {w:World} {A:Around} {E:Value->Shared->Prop} {s:Shared} {env:Env}
variable {nm q:Str} {C N:Addr} {bs bm bmB:List Value} {hdct:Bool} {sn:List Str} {sub:List Value} {ab:Bool} {col:Option Bool} {dd:Option Addr} {k0 k1 k2 k3 k5:Option Value} {B newId initId:String}
end
section
variable {X:Cx} {pins:List (Addr × Obj)} {σ:St} {H:Hp} {s:Shared}
end
section
variable {P:Program} {w:World} {K:PySem.W.Frag} {mg:Str->Option Value} {base:Heap} {N:List Str} {qual:Str} {scope:Scope} {f:Addr} {cd:Value} {A:Around} {outer:List Env} {s:Shared} {H:Hp} {E:XK}
end
section
variable {X:Cx} {x:Str} {np cpos pos:Pos} {e0:Expr} {es:List Expr} {t:TA} {C fI:Addr} {E:XK} {CX:CXT} {k:Nat} {fd:FuncData} {ps:List Str} {sp:Sp}
end
section
variable {X:Cx} {x:Str} {np apos pos:Pos} {e0:Expr} {es:List Expr} {t:TA} {Tl:Addr} {pl:Sem Bool}
end
end L2
set_option Elab.async false
set_option linter.all false
set_option maxRecDepth 100000
namespace L2
open PySem PySem.Spec PyProof.Rows PySem.W PySem.Builtin PySem.Builtin.ObjectAttr
section
variable {K:PySem.W.Frag} {prog:Program} {w:World} {A:Around} {s:Shared} {x C Tl:Addr} {R:Result->Shared->Prop}
end
section
variable {X:Cx} {pins:List (Addr × Obj)} {σ:St} {H:Hp} {s:Shared}
end
section
variable {X:Cx} {pins:List (Addr × Obj)} {σ:St} {H:Hp} {s:Shared} {A:Around} {E:Value->Shared->Prop} {ea C Tl:Addr} {f:Str}
end
section
variable {X:Cx} {o value:Expr} {ta tv:TE} {f:Str} {pos pos':Pos}
end
section
variable {prog:Program} {w:World} {A:Around} {E:Value->Shared->Prop} {s:Shared} {K:PySem.W.Frag} {x C:Addr} {ox:Obj} {od:Obj}
end
section
variable {X:Cx} {o:Expr} {ta:TE} {f:Str} {pos:Pos}
end
end L2
set_option Elab.async false
set_option linter.all false
set_option maxRecDepth 100000
namespace L2
open PySem
def Kn (K:PySem.W.Frag) (C':Addr) (ts:TS) (tr:TH):TH:=fun D σ cls od H=>∃ C b,cls=.ref C/\PySem.W.mroIn K C (.ref C')=some b/\if b=true then ts D σ H else tr D σ cls od H
section
variable {X:Cx} {x:Str} {np pos:Pos} {C':Addr} {b0:Stmt} {suite:List Stmt} {rest:List ExceptHandler} {ts:TS} {tr:TH}
end
end L2
namespace Pb
open L2 PySem
end Pb
set_option Elab.async false
set_option linter.all false
set_option maxRecDepth 100000
namespace Pb
open L2 PySem
section
variable {m:Int} {rs:List Road}
end
section
variable {m:Int} {rs:List Road} {r:Int} {par:Int->Int} {dep:Int->Nat} {st:Int->Int} {xs ys:List Int}
theorem GN (g:Good m rs) (R:Rooted m rs r par dep) (r0:0<=r) (r1:r<m) {r':Int} {par':Int->Int} {dep':Int->Nat} (R':Rooted m rs r' par' dep') (r0':0<=r') (r1':r'<m) (xl:(xs.length:Int)=m) (x0:∀ x∈xs,0<=x) (y0:∀ y∈ys,0<=y) (s0:0<=stg m rs r par dep ys xs r):0<=stg m rs r' par' dep' ys xs r':=by
 obtain ⟨z,cz,hz,_⟩:=Pg g R r0 r1 y0 _ xs rfl xl x0 s0;have h1:=Qz g R' r0' r1' hz;have h2:=cz.stg_le (ys:=ys) g R' r0' r1' xl;have h3:=hz r' r0' r1';omega
end
end Pb
set_option Elab.async false
set_option linter.all false
set_option maxRecDepth 100000
namespace L2
open PySem PySem.Spec PyProof.Rows
section
variable {X:Cx}
def PY (t:TE):TE:=fun σ H Q=>t σ H fun x H1=>∃ b,x=.bl b/\Q (.bl (b == true)) H1
end
end L2
namespace Pb
open L2 PySem
section
variable {m:Int} {rs:List Road} {r:Int} {par:Int->Int} {dep:Int->Nat} {P:Int->Int} {xs:List Int}
end
end Pb
set_option Elab.async false
set_option linter.all false
set_option maxRecDepth 100000
namespace Pb
open L2 PySem
end Pb
set_option Elab.async false
set_option linter.all false
set_option maxRecDepth 100000
namespace L2
open PySem PySem.Spec PyProof.Rows
section
variable {prog:Program} {w:World} {A:Around} {E:Value->Shared->Prop} {s:Shared}
end
section
variable {X:Cx} {tg:Expr} {Nc:List Str} {own:Nat} {js:List Nat} {scope:Scope} {cl:List (Str × Addr)}
end
section
variable {X:Cx} {x n:Str} {np pos:Pos} {i:Nat} {C':Addr} {b0:Stmt} {suite:List Stmt} {rest:List ExceptHandler} {ts:Addr->TS} {tr:TH}
end
end L2
namespace Pb
open L2 PySem
end Pb
set_option Elab.async false
set_option linter.all false
set_option maxRecDepth 100000
namespace Pb
open L2 PySem
end Pb
set_option Elab.async false
set_option linter.all false
set_option maxRecDepth 100000
namespace L2
open PySem
theorem KP {K:PySem.W.Frag} {c:Bool} {a p:Addr} {xs:List V} {Q:VK} {g:TG} {tc:TT} {te:TE} {σ0:St} {H0:Hp} (Pv:Nat->List V->St->Hp->Prop) (h0:Pv 0 [] σ0 H0) (hl:∀ i ys σ H,Pv i ys σ H->SqX K c H a xs)
   (hs:∀ (i:Nat) (x:V) (ys:List V) (σ:St) (H:Hp) (q:Addr) (N:List V->St->Hp->Prop),(∀ ys' σ' H',Pv (i+1) ys' σ' H'->N ys' σ' H')->xs[i]?=some x->Pv i ys σ H->H q=none->g (.ref q) σ (upd H q (.tup [.int i,x])) fun σ2 H2=>tc σ2 H2 fun b H3 =>
     if b=true then te σ2 H3 fun y H4=>H4 p=some (.lst ys)/\ys.length<sizeLine/\N (ys++[y]) σ2 (upd H4 p (.lst (ys++[y]))) else N ys σ2 H3)
   (hd:∀ ys σ H,Pv xs.length ys σ H->Q (.ref p) H):sv (Ite K c a) p Q g tc te σ0 H0:=by
 refine ⟨fun i m ys σ H=>m=xs.length - i/\i<=xs.length/\Pv i ys σ H,⟨_,rfl,Nat.zero_le _,h0⟩,?_⟩;rintro i m ys σ H ⟨rfl,hi,pv⟩;have q1:=hl i ys σ H pv;by_cases hlt:i<xs.length
 . refine .inr ⟨⟨xs,xs[i],q1,List.getElem?_eq_getElem hlt⟩,fun x H' y=>?_⟩;obtain ⟨p',x',hp,rfl,rfl,e1⟩:=y;exact hs i x' ys σ H p' (fun ys' σ' H'=>∃ m',m'<xs.length - i/\(m'=xs.length - (i+1)/\i+1<=xs.length/\Pv (i+1) ys' σ' H')) (fun ys' σ' H' pv'=>⟨xs.length - (i+1),by omega,rfl,hlt,pv'⟩) (e1 xs q1) pv hp
 . have e:i=xs.length:=by omega
   subst e;exact .inl ⟨⟨xs,q1,rfl⟩,hd ys σ H pv⟩
def Kpt (o:Addr) (H H':Hp):Prop:=∀ b x,H b=some x->b≠o->H' b=some x
theorem Kpt.refl {o:Addr} {H:Hp}:Kpt o H H:=fun _ _ h _=>h
theorem Kpt.then {o:Addr} {H H1 H2:Hp} (a:Kpt o H H1) (b:Same H1 H2):Kpt o H H2:=fun c x h n=>b c x (a c x h n)
theorem Kpt.put {o:Addr} {H H1:Hp} (a:Kpt o H H1) (x:HO):Kpt o H (upd H1 o x):=fun c y h n=>by rw [ap n];exact a c y h n
theorem Kpt.sqX {K:PySem.W.Frag} {H H':Hp} {o C dx:Addr} {fs:List (Str × V)} {c:Bool} {a:Addr} {xs:List V} (e:Kpt o H H') (ho:H o=some (.ins C dx fs)) (h:SqX K c H a xs):SqX K c H' a xs:=by
 have n:∀ {y:HO},H a=some y->y≠.ins C dx fs->a≠o:=fun hy ny z=>by rw [z,ho] at hy;cases hy;exact ny rfl
 cases c
 . rcases h with (h|⟨o',h⟩)|h
   . exact .inl (.inl (e _ _ h (n h (by intro z;cases z))))
   . exact .inl (.inr ⟨o',e _ _ h (n h (by intro z;cases z))⟩)
   . exact .inr h
 . rcases h with (h|⟨o',h⟩)|h
   . exact .inl (.inl (e _ _ h (n h (by intro z;cases z))))
   . exact .inl (.inr ⟨o',e _ _ h (n h (by intro z;cases z))⟩)
   . exact .inr h
end L2
namespace Pb
open PySem L2
def iT (xs ys:List Int):List Int:=List.zipWith (·+·) xs ys
def zrs (m:Int):List Int:=List.replicate m.toNat 0
def oG (m:Int) (ls:List (List Int)):List Int:=ls.foldl iT (zrs m)
def iM (b l:List Int):List Int:=if b.sum<l.sum then l else b
theorem DJ {b l:List Int} (h:b.sum<l.sum):iM b l=l:=if_pos h
theorem Ec {b l:List Int} (h:¬ b.sum<l.sum):iM b l=b:=if_neg h
def upT (rs:List Road) (par:Int->Int) (v:Int):Int:=(aE rs v (par v)).getD 1
def dnT (rs:List Road) (par:Int->Int) (v:Int):Int:=(aE rs (par v) v).getD 1
abbrev kd (m:Int) (rs:List Road) (r:Int) (par:Int->Int) (v:Int):List Int:=aB m rs (front r par v) v
def idK (m:Int) (rs:List Road) (r:Int) (par:Int->Int) (ix:Int->List Int) (v:Int) (x:V):List Int:=oG m (((kd m rs r par v).filter fun k=>decide (V.int k≠x)).map ix)
def jX (b:List Int) (v d:Int):List Int:=b.set v.toNat (b.getD v.toNat 0+d)
def byK (m:Int) (rs:List Road) (r:Int) (par:Int->Int) (nd:Int->Int) (ix:Int->List Int) (gk:Int->Int->List Int) (v room k:Int):List Int :=
 iT (gk k (upT rs par k*(room - nd k*dnT rs par k+1) - 1)) (idK m rs r par ix v (.int k))
def j9 (m:Int) (rs:List Road) (r:Int) (par:Int->Int) (nd:Int->Int) (ix:Int->List Int) (gk:Int->Int->List Int) (v y:Int):List Int :=
 ((kd m rs r par v).map (byK m rs r par nd ix gk v (nd v+y))).foldl iM (jX (idK m rs r par ix v .non) v (nd v+y))
def ld (m:Int) (rs:List Road) (r:Int) (par:Int->Int) (nd:Int->Int):Nat->Bool->Int->Int->List Int
 | 0,_,_,_=>[]
 | n+1,true,v,y=>j9 m rs r par nd (fun k=>ld m rs r par nd n false k 0) (fun k z=>ld m rs r par nd n true k z) v y
 | n+1,false,v,_=>if 0<nd v then idK m rs r par (fun k=>ld m rs r par nd n false k 0) v .non else j9 m rs r par nd (fun k=>ld m rs r par nd n false k 0) (fun k z=>ld m rs r par nd n true k z) v (upT rs par v - 1)
def gld (m:Int) (rs:List Road) (r:Int) (par:Int->Int) (dep:Int->Nat) (nd:Int->Int) (v y:Int):List Int:=ld m rs r par nd (m.toNat - dep v) true v y
def idl (m:Int) (rs:List Road) (r:Int) (par:Int->Int) (dep:Int->Nat) (nd:Int->Int) (v:Int):List Int:=ld m rs r par nd (m.toNat - dep v) false v 0
def gL (m:Int) (xs:List Int):Int:=((below m.toNat).filter fun v=>decide (0<xs.getD v.toNat 0)).headD 0
theorem Gw {m:Int} {xs:List Int} (xl:(xs.length:Int)=m) (nn:∀ x∈xs,0<=x) (h:xs.sum≠0):∃ tl,((below m.toNat).filter fun v=>decide (0<xs.getD v.toNat 0))=gL m xs::tl/\(0<=gL m xs/\gL m xs<m)/\0<xs.getD (gL m xs).toNat 0:=by
 have ex:∃ x∈xs,0<x:=by
   refine Classical.byContradiction fun n=>h ?_;have:∀ l:List Int,(∀ x∈l,x=0)->l.sum=0:=by
     intro l
     induction l with
     | nil=>intro _;rfl
     | cons a l ih=>intro q;rw [List.sum_cons,q a List.mem_cons_self,ih fun x hx=>q x (List.mem_cons_of_mem _ hx)];rfl
   refine this xs fun x hx=>?_;have h1:=nn x hx;have h2:¬ 0<x:=fun z=>n ⟨x,hx,z⟩;omega
 obtain ⟨x,hx,x0⟩:=ex;obtain ⟨i,hi,rfl⟩:=List.mem_iff_getElem.mp hx;have im:(i:Int)∈(below m.toNat).filter fun v=>decide (0<xs.getD v.toNat 0):=by
   refine List.mem_filter.mpr ⟨List.mem_of_getElem? (fV (show i<m.toNat by omega)),decide_eq_true ?_⟩;rw [show ((i:Int)).toNat=i from rfl,List.getD_eq_getElem?_getD,List.getElem?_eq_getElem hi];exact x0
 unfold gL;cases e:(below m.toNat).filter fun v=>decide (0<xs.getD v.toNat 0) with
 | nil=>rw [e] at im;cases im
 | cons a tl =>
   have am:a∈(below m.toNat).filter fun v=>decide (0<xs.getD v.toNat 0):=by rw [e];exact List.mem_cons_self
   have w:=List.mem_filter.mp am;have r:=bM.mp w.1;exact ⟨tl,rfl,⟨r.1,by have:=r.2;show a<m;omega⟩,of_decide_eq_true w.2⟩
theorem OL (m:Int):(zrs m).sum=0:=by
 unfold zrs
 induction m.toNat with
 | zero=>rfl
 | succ n ih=>rw [List.replicate_succ,List.sum_cons,ih];rfl
theorem vV:∀ {l:List Int},(∀ x∈l,0<=x)->0<=l.sum
 | [],_=>by decide
 | a::l,h=>by
   have h1:=h a List.mem_cons_self;have h2:=vV fun x hx=>h x (List.mem_cons_of_mem _ hx);rw [List.sum_cons];omega
theorem E5:∀ {l:List Int},(∀ x∈l,0<=x)->∀ {x:Int},x∈l->x<=l.sum
 | a::l,h,x,hx=>by
   have h1:=h a List.mem_cons_self;have h2:=vV fun x hx=>h x (List.mem_cons_of_mem _ hx);rw [List.sum_cons];rcases List.mem_cons.mp hx with rfl|hx
   . omega
   . have:=E5 (fun x hx=>h x (List.mem_cons_of_mem _ hx)) hx;omega
theorem zX {α β:Type} {R:α->β->Prop}:∀ {l:List α} {l':List β},Paired R l l'->∀ {i:Nat} {b:β},l'[i]?=some b->∃ a,l[i]?=some a/\R a b
 | _,_,.nil,i,b,e=>by simp at e
 | _,_,.cons (a:=a) (b:=b') h _,0,b,e=>by
   rw [List.getElem?_cons_zero] at e;cases e;exact ⟨a,rfl,h⟩
 | _,_,.cons h hs,i+1,b,e=>by
   rw [List.getElem?_cons_succ] at e;obtain ⟨a,h1,h2⟩:=zX hs e;exact ⟨a,by rw [List.getElem?_cons_succ];exact h1,h2⟩
theorem oS {α β:Type} {R S:α->β->Prop}:∀ {l:List α} {l':List β},(∀ a b,a∈l->R a b->S a b)->Paired R l l'->Paired S l l'
 | _,_,_,.nil=>.nil
 | _,_,f,.cons h hs=>.cons (f _ _ List.mem_cons_self h) (oS (fun a b ha=>f a b (List.mem_cons_of_mem _ ha)) hs)
theorem Hh {α β:Type} {R:α->β->Prop}:∀ {l:List α} {l':List β},Paired R l l'->∀ {a:α},a∈l->∃ b,R a b
 | _,_,.nil,a,h=>by cases h
 | _,_,.cons (b:=b) h hs,a,ha=>by
   rcases List.mem_cons.mp ha with rfl|ha
   . exact ⟨b,h⟩
   . exact Hh hs ha
theorem zn {α β:Type} {R:α->β->Prop} {a:α} {b:β} (e:R a b):∀ {l:List α} {l':List β},Paired R l l'->Paired R (l++[a]) (l'++[b])
 | _,_,.nil=>.cons e .nil
 | _,_,.cons x xs=>.cons x (zn e xs)
theorem Ab {α:Type} {xs:List α} {i:Int} (h:0<=i):atI xs i=xs[i.toNat]?:=by
 cases e:xs[i.toNat]? with
 | some v=>exact iH h e
 | none =>
   have:=List.getElem?_eq_none_iff.mp e;unfold atI ixN;rw [if_pos h,if_neg (by omega)]
   rfl
theorem CL {m v:Int} (v0:0<=v) (v1:v<m):(below m.toNat)[v.toNat]?=some v:=by
 rw [fV (by omega)];exact congrArg some (Int.toNat_of_nonneg v0)
theorem Cb {m v:Int} (nd:Int->Int) (v0:0<=v) (v1:v<m):atI (((below m.toNat).map nd).map V.int) v=some (.int (nd v)):=iH v0 (by
 rw [List.getElem?_map,List.getElem?_map,CL v0 v1]
 rfl)
theorem GP (m:Int):(zrs m).map V.int=List.replicate m.toNat (V.int 0):=by unfold zrs;rw [List.map_replicate]
theorem Hq {m:Int} {ls:List (List Int)} {l:List Int}:oG m (ls++[l])=iT (oG m ls) l:=by unfold oG;rw [List.foldl_append];rfl
section
variable {m:Int} {rs:List Road} {r:Int} {par:Int->Int} {dep:Int->Nat} {nd:Int->Int}
theorem xC {ix ix':Int->List Int} {v:Int} {x:V} (h:∀ k∈kd m rs r par v,ix k=ix' k):idK m rs r par ix v x=idK m rs r par ix' v x:=by
 unfold idK;rw [List.map_congr_left fun k hk=>h k (List.mem_filter.mp hk).1]
theorem yg {ix ix':Int->List Int} {gk gk':Int->Int->List Int} {v y:Int} (h:∀ k∈kd m rs r par v,ix k=ix' k) (h':∀ k∈kd m rs r par v,∀ z,gk k z=gk' k z):j9 m rs r par nd ix gk v y=j9 m rs r par nd ix' gk' v y:=by
 unfold j9 byK;rw [xC (x:=.non) h,List.map_congr_left fun k hk=>by rw [h' k hk,xC (x:=.int k) h]]
theorem bT (g:Good m rs) (R:Rooted m rs r par dep) {v:Int} (h0:0<=v) (h1:v<m) {k:Int} (hk:k∈kd m rs r par v):((0<=k/\k<m)/\k≠r/\par k=v)/\m.toNat - dep v=m.toNat - dep k+1/\1<=m.toNat - dep k:=by
 have w:=(aN g R h0 h1).mp hk;have:=R.pos w.1.1 w.1.2 w.2.1;have d:=eT R w.1.1 w.1.2;rw [w.2.2] at this;exact ⟨w,by omega,by omega⟩
theorem Ej (R:Rooted m rs r par dep) {v:Int} (h0:0<=v) (h1:v<m):∃ n,m.toNat - dep v=n+1:=⟨m.toNat - dep v - 1,by have:=eT R h0 h1;omega⟩
theorem qk (g:Good m rs) (R:Rooted m rs r par dep) {v y:Int} (h0:0<=v) (h1:v<m):gld m rs r par dep nd v y=j9 m rs r par nd (idl m rs r par dep nd) (gld m rs r par dep nd) v y:=by
 obtain ⟨n,e⟩:=Ej R h0 h1;have hn:∀ k∈kd m rs r par v,m.toNat - dep k=n:=fun k hk=>by have:=(bT g R h0 h1 hk).2.1;omega
 unfold gld;rw [e];show j9 m rs r par nd _ _ v y=_;exact yg (fun k hk=>by show _=ld m rs r par nd (m.toNat - dep k) false k 0;rw [hn k hk]) (fun k hk z=>by show _=ld m rs r par nd (m.toNat - dep k) true k z;rw [hn k hk])
theorem t6 (g:Good m rs) (R:Rooted m rs r par dep) {v:Int} (h0:0<=v) (h1:v<m):idl m rs r par dep nd v=if 0<nd v then idK m rs r par (idl m rs r par dep nd) v .non else gld m rs r par dep nd v (upT rs par v - 1):=by
 obtain ⟨n,e⟩:=Ej R h0 h1;have hn:∀ k∈kd m rs r par v,m.toNat - dep k=n:=fun k hk=>by have:=(bT g R h0 h1 hk).2.1;omega
 rw [qk g R h0 h1];unfold idl;rw [e];show (if 0<nd v then idK m rs r par _ v .non else j9 m rs r par nd _ _ v _)=_;by_cases c:0<nd v
 . rw [if_pos c,if_pos c];exact xC fun k hk=>by rw [hn k hk]
 . rw [if_neg c,if_neg c];exact yg (fun k hk=>by show _=ld m rs r par nd (m.toNat - dep k) false k 0;rw [hn k hk]) (fun k hk z=>by show _=ld m rs r par nd (m.toNat - dep k) true k z;rw [hn k hk])
theorem qr {xs ys:List Int} {n:Nat} (h1:xs.length=n) (h2:ys.length=n):(iT xs ys).length=n:=by unfold iT;rw [List.length_zipWith];omega
theorem wQ {m:Int}:∀ (ls:List (List Int)) (a:List Int),a.length=m.toNat->(∀ l∈ls,l.length=m.toNat)->(ls.foldl iT a).length=m.toNat
 | [],a,h,_=>h
 | l::ls,a,h,hl=>wQ ls (iT a l) (qr h (hl l List.mem_cons_self)) fun x hx=>hl x (List.mem_cons_of_mem _ hx)
theorem sM (m:Int):(zrs m).length=m.toNat:=List.length_replicate
theorem sy {ix:Int->List Int} {v:Int} {x:V} (h:∀ k∈kd m rs r par v,(ix k).length=m.toNat):(idK m rs r par ix v x).length=m.toNat:=by
 unfold idK oG;refine wQ _ _ (sM m) fun l hl=>?_;obtain ⟨k,hk,rfl⟩:=List.mem_map.mp hl;exact h k (List.mem_filter.mp hk).1
theorem C2 {P:List Int->Prop}:∀ (ls:List (List Int)) (b:List Int),P b->(∀ l∈ls,P l)->P (ls.foldl iM b)
 | [],b,h,_=>h
 | l::ls,b,h,hl=>C2 ls (iM b l) (by
   unfold iM;split
   . exact hl l List.mem_cons_self
   . exact h) fun x hx=>hl x (List.mem_cons_of_mem _ hx)
theorem D8 {b:List Int} {v d:Int}:(jX b v d).length=b.length:=by unfold jX;rw [List.length_set]
theorem Kb {ix:Int->List Int} {gk:Int->Int->List Int} {v y:Int} (h:∀ k∈kd m rs r par v,(ix k).length=m.toNat) (h':∀ k∈kd m rs r par v,∀ z,(gk k z).length=m.toNat):(j9 m rs r par nd ix gk v y).length=m.toNat:=by
 unfold j9;refine C2 (P:=fun l=>l.length=m.toNat) _ _ (by rw [D8];exact sy h) fun l hl=>?_;obtain ⟨k,hk,rfl⟩:=List.mem_map.mp hl;exact qr (h' k hk _) (sy h)
theorem ET (g:Good m rs) (R:Rooted m rs r par dep):∀ (n:Nat) (v:Int),0<=v->v<m->m.toNat - dep v=n->(idl m rs r par dep nd v).length=m.toNat/\∀ y,(gld m rs r par dep nd v y).length=m.toNat
 | 0,v,h0,h1,e=>by have:=eT R h0 h1;omega
 | n+1,v,h0,h1,e=>by
   have kk:∀ k∈kd m rs r par v,_:=fun k hk=>by
     have w:=bT g R h0 h1 hk;exact ET g R n k w.1.1.1 w.1.1.2 (by omega)
   have a:∀ y,(gld m rs r par dep nd v y).length=m.toNat:=fun y=>by
     rw [qk g R h0 h1];exact Kb (fun k hk=>(kk k hk).1) fun k hk=>(kk k hk).2
   refine ⟨?_,a⟩;rw [t6 g R h0 h1];split
   . exact sy fun k hk=>(kk k hk).1
   . exact a _
theorem si (g:Good m rs) (R:Rooted m rs r par dep) {v:Int} (h0:0<=v) (h1:v<m):(idl m rs r par dep nd v).length=m.toNat:=(ET g R _ v h0 h1 rfl).1
theorem G5 (g:Good m rs) (R:Rooted m rs r par dep) {v y:Int} (h0:0<=v) (h1:v<m):(gld m rs r par dep nd v y).length=m.toNat:=(ET g R _ v h0 h1 rfl).2 y
end
end Pb
set_option Elab.async false
set_option linter.all false
set_option maxRecDepth 100000
namespace Pb
open PySem L2
theorem zA:∀ {xs ys:List Int},xs.length=ys.length->(iT xs ys).sum=xs.sum+ys.sum
 | [],[],_=>rfl
 | a::xs,b::ys,h=>by
   have ih:=zA (xs:=xs) (ys:=ys) (by simpa using h);unfold iT at ih ⊢;rw [List.zipWith_cons_cons,List.sum_cons,List.sum_cons,List.sum_cons,ih];omega
theorem CG {n:Nat}:∀ (ls:List (List Int)) (a:List Int),a.length=n->(∀ l∈ls,l.length=n)->(ls.foldl iT a).sum=a.sum+(ls.map List.sum).sum
 | [],a,_,_=>by simp
 | l::ls,a,ha,hl=>by
   have h1:=hl l List.mem_cons_self;rw [List.foldl_cons,CG ls _ (qr ha h1) fun x hx=>hl x (List.mem_cons_of_mem _ hx),zA (ha.trans h1.symm),List.map_cons,List.sum_cons];omega
theorem D3 (l:List Int):(l.filter fun k=>decide (V.int k≠V.non))=l:=List.filter_eq_self.mpr fun k _=>by simp
theorem Fg {f:Int->Int}:∀ {l:List Int},l.Nodup->∀ {k:Int},k∈l->((l.filter fun j=>decide (V.int j≠V.int k)).map f).sum=(l.map f).sum - f k
 | a::l,nd,k,hk=>by
   obtain ⟨h1,h2⟩:=List.nodup_cons.mp nd;by_cases e:a=k
   . subst e;rw [List.filter_cons_of_neg (by simp),List.map_cons,List.sum_cons];rw [List.filter_eq_self.mpr fun j hj=>by
       have:j≠a:=fun z=>h1 (z ▸ hj)
       simpa using this]
     omega
   . rw [List.filter_cons_of_pos (by simpa using e),List.map_cons,List.sum_cons,List.map_cons,List.sum_cons,Fg h2 ((List.mem_cons.mp hk).resolve_left (Ne.symm e))];omega
theorem MR {b:List Int} {v d:Int} (h:v.toNat<b.length):(jX b v d).sum=b.sum+d:=by
 unfold jX;rw [xT _ _ _ h];omega
theorem Pt {b l:List Int}:b.sum<=(iM b l).sum/\l.sum<=(iM b l).sum:=by
 by_cases h:b.sum<l.sum
 . rw [DJ h];omega
 . rw [Ec h];omega
theorem En:∀ (ls:List (List Int)) (b:List Int),b.sum<=(ls.foldl iM b).sum/\∀ l∈ls,l.sum<=(ls.foldl iM b).sum
 | [],b=>⟨Int.le_refl _,fun l h=>by cases h⟩
 | a::ls,b=>by
   obtain ⟨h1,h2⟩:=En ls (iM b a);have g:=Pt (b:=b) (l:=a);refine ⟨Int.le_trans g.1 h1,fun l hl=>?_⟩;rcases List.mem_cons.mp hl with rfl|hl
   . exact Int.le_trans g.2 h1
   . exact h2 l hl
theorem zC:∀ (ls:List (List Int)) (b:List Int),ls.foldl iM b=b\/ls.foldl iM b∈ls
 | [],b=>.inl rfl
 | a::ls,b=>by
   rw [List.foldl_cons];rcases zC ls (iM b a) with h|h
   . rw [h];by_cases z:b.sum<a.sum
     . rw [DJ z];exact .inr List.mem_cons_self
     . rw [Ec z];exact .inl rfl
   . exact .inr (List.mem_cons_of_mem _ h)
theorem AI {f e:Int->Int} {D F:Int}:∀ {l:List Int},(∀ c∈l,f c*D<=e c*F)->(l.map f).sum*D<=(l.map e).sum*F
 | [],_=>by simp
 | a::l,h=>by
   have h1:=h a List.mem_cons_self;have h2:=AI (l:=l) fun c hc=>h c (List.mem_cons_of_mem _ hc);rw [List.map_cons,List.map_cons,List.sum_cons,List.sum_cons,Int.add_mul,Int.add_mul];omega
theorem oW {f:Int->Int} {l:List Int} (h:∀ c∈l,0<=f c):0<=(l.map f).sum:=vV fun x hx=>by
 obtain ⟨c,hc,rfl⟩:=List.mem_map.mp hx;exact h c hc
theorem uF {f:Int->Int} {l:List Int} (h:∀ c∈l,0<=f c) {c:Int} (hc:c∈l):f c<=(l.map f).sum:=E5 (fun x hx=>by
 obtain ⟨c,hc,rfl⟩:=List.mem_map.mp hx;exact h c hc) (List.mem_map.mpr ⟨c,hc,rfl⟩)
theorem y8 {f h:Int->Int}:∀ {l:List Int},(l.map fun c=>f c+h c).sum=(l.map f).sum+(l.map h).sum
 | []=>by simp
 | a::l=>by rw [List.map_cons,List.map_cons,List.map_cons,List.sum_cons,List.sum_cons,List.sum_cons,y8];omega
theorem o0 {f h:Int->Int}:∀ {l:List Int},(l.map fun c=>f c - h c).sum=(l.map f).sum - (l.map h).sum
 | []=>by simp
 | a::l=>by rw [List.map_cons,List.map_cons,List.map_cons,List.sum_cons,List.sum_cons,List.sum_cons,o0];omega
section
variable {m:Int} {rs:List Road} {r:Int} {par:Int->Int} {dep:Int->Nat} {nd:Int->Int}
theorem jC (g:Good m rs) (R:Rooted m rs r par dep) {v:Int} (h0:0<=v) (h1:v<m) (hr:v≠r):2<=upT rs par v/\2<=dnT rs par v:=by
 obtain ⟨k1,e1,a,_⟩:=sx g R h0 h1 hr;obtain ⟨k2,e2,b,_⟩:=sg g R h0 h1 hr;unfold upT dnT;rw [e1,e2];exact ⟨a,b⟩
def idS (m:Int) (rs:List Road) (r:Int) (par:Int->Int) (dep:Int->Nat) (nd:Int->Int) (v:Int):Int:=((kd m rs r par v).map fun c=>(idl m rs r par dep nd c).sum).sum
def gS (m:Int) (rs:List Road) (r:Int) (par:Int->Int) (dep:Int->Nat) (nd:Int->Int) (v D:Int):Int:=(gld m rs r par dep nd v (D - nd v)).sum - idS m rs r par dep nd v
def gK (m:Int) (rs:List Road) (r:Int) (par:Int->Int) (dep:Int->Nat) (nd:Int->Int) (k D:Int):Int:=(gld m rs r par dep nd k (upT rs par k*(D - nd k*dnT rs par k+1) - 1)).sum - (idl m rs r par dep nd k).sum
theorem Cg (g:Good m rs) (R:Rooted m rs r par dep) {v:Int} (h0:0<=v) (h1:v<m) (x:V):(idK m rs r par (idl m rs r par dep nd) v x).sum=(((kd m rs r par v).filter fun k=>decide (V.int k≠x)).map fun c=>(idl m rs r par dep nd c).sum).sum:=by
 unfold idK oG;rw [CG _ _ (sM m) fun l hl=>?_,OL,Int.zero_add,List.map_map]
 . rfl
 . obtain ⟨k,hk,rfl⟩:=List.mem_map.mp hl;have w:=bT g R h0 h1 (List.mem_filter.mp hk).1;exact si g R w.1.1.1 w.1.1.2
theorem FE (g:Good m rs) (R:Rooted m rs r par dep) {v:Int} (h0:0<=v) (h1:v<m) (x:V):(idK m rs r par (idl m rs r par dep nd) v x).length=m.toNat:=sy fun k hk=>by
 have w:=bT g R h0 h1 hk;exact si g R w.1.1.1 w.1.1.2
theorem GC (g:Good m rs) (R:Rooted m rs r par dep) {v:Int} (h0:0<=v) (h1:v<m) {k:Int} (hk:k∈kd m rs r par v) (D:Int):(byK m rs r par nd (idl m rs r par dep nd) (gld m rs r par dep nd) v D k).sum=idS m rs r par dep nd v+gK m rs r par dep nd k D:=by
 have w:=bT g R h0 h1 hk;unfold byK gK;rw [zA ((G5 g R w.1.1.1 w.1.1.2).trans (FE g R h0 h1 _).symm),Cg g R h0 h1,Fg (show (kd m rs r par v).Nodup from ie) hk];unfold idS;omega
theorem pR (g:Good m rs) (R:Rooted m rs r par dep) {v:Int} (h0:0<=v) (h1:v<m) (D:Int):D<=gS m rs r par dep nd v D/\(∀ k∈kd m rs r par v,gK m rs r par dep nd k D<=gS m rs r par dep nd v D)/\(gS m rs r par dep nd v D=D\/∃ k∈kd m rs r par v,gS m rs r par dep nd v D=gK m rs r par dep nd k D):=by
 have e:nd v+(D - nd v)=D:=by omega
 have b0:(jX (idK m rs r par (idl m rs r par dep nd) v .non) v D).sum=idS m rs r par dep nd v+D:=by
   rw [MR (by rw [FE g R h0 h1];omega),Cg g R h0 h1,D3]
   rfl
 unfold gS;rw [qk g R h0 h1];unfold j9;rw [e];obtain ⟨p1,p2⟩:=En ((kd m rs r par v).map (byK m rs r par nd (idl m rs r par dep nd) (gld m rs r par dep nd) v D)) (jX (idK m rs r par (idl m rs r par dep nd) v .non) v D);refine ⟨by omega,fun k hk=>?_,?_⟩
 . have:=p2 _ (List.mem_map.mpr ⟨k,hk,rfl⟩);rw [GC g R h0 h1 hk] at this;omega
 . rcases zC ((kd m rs r par v).map (byK m rs r par nd (idl m rs r par dep nd) (gld m rs r par dep nd) v D)) (jX (idK m rs r par (idl m rs r par dep nd) v .non) v D) with h|h
   . rw [h,b0];exact .inl (by omega)
   . obtain ⟨k,hk,e⟩:=List.mem_map.mp h;rw [<- e,GC g R h0 h1 hk];exact .inr ⟨k,hk,by omega⟩
theorem nu {k y:Int}:(gld m rs r par dep nd k y).sum=idS m rs r par dep nd k+gS m rs r par dep nd k (y+nd k):=by
 unfold gS;rw [show y+nd k - nd k=y by omega];omega
theorem mT (g:Good m rs) (R:Rooted m rs r par dep) {k:Int} (h0:0<=k) (h1:k<m):(idl m rs r par dep nd k).sum=idS m rs r par dep nd k+if 0<nd k then 0 else gS m rs r par dep nd k (upT rs par k - 1+nd k):=by
 rw [t6 g R h0 h1];split
 . rw [Cg g R h0 h1,D3];unfold idS;omega
 . exact nu
structure Nds (m:Int) (rs:List Road) (r:Int) (par:Int->Int) (w nd:Int->Int):Prop where
 st:∀ v,0<=v->v<m->nd v=w v+((kd m rs r par v).map fun c=>nd c*dnT rs par c).sum
 nn:∀ v,0<=v->v<m->0<=nd v
 w0:∀ v,0<=v->v<m->0<=w v
variable {w:Int->Int}
theorem dn0 (g:Good m rs) (R:Rooted m rs r par dep) (N:Nds m rs r par w nd) {v:Int} (h0:0<=v) (h1:v<m):∀ c∈kd m rs r par v,0<=nd c*dnT rs par c:=fun c hc=>by
 have q:=(bT g R h0 h1 hc).1;have t:=jC g R q.1.1 q.1.2 q.2.1;exact Int.mul_nonneg (N.nn c q.1.1 q.1.2) (by omega)
theorem wU (g:Good m rs) (R:Rooted m rs r par dep) (N:Nds m rs r par w nd) {v:Int} (h0:0<=v) (h1:v<m) {c:Int} (hc:c∈kd m rs r par v):w v+nd c*dnT rs par c<=nd v:=by
 rw [N.st v h0 h1];have:=uF (dn0 g R N h0 h1) hc;omega
theorem Bi (g:Good m rs) (R:Rooted m rs r par dep) (N:Nds m rs r par w nd) {v:Int} (h0:0<=v) (h1:v<m) (z:nd v<=0) {c:Int} (hc:c∈kd m rs r par v):nd c=0:=by
 have h:=wU g R N h0 h1 hc;have q:=(bT g R h0 h1 hc).1;have t:=jC g R q.1.1 q.1.2 q.2.1;have n:=N.nn c q.1.1 q.1.2;have w0:=N.w0 v h0 h1;have:=Int.mul_le_mul_of_nonneg_left t.2 n;omega
theorem Gy (g:Good m rs) (R:Rooted m rs r par dep) {v:Int} (h0:0<=v) (h1:v<m):1<=wgt m rs r par dep v/\(∀ c∈kd m rs r par v,wgt m rs r par dep c*upT rs par c<=wgt m rs r par dep v)/\(wgt m rs r par dep v=1\/∃ c∈kd m rs r par v,wgt m rs r par dep v=wgt m rs r par dep c*upT rs par c):=by
 have e:wgt m rs r par dep v=((kd m rs r par v).map fun c=>wgt m rs r par dep c*upT rs par c).foldl mx 1:=Px g R h0 h1;have fm:∀ (l:List Int) (a:Int),a<=l.foldl mx a/\(∀ x∈l,x<=l.foldl mx a)/\(l.foldl mx a=a\/l.foldl mx a∈l):=by
   intro l
   induction l with
   | nil=>intro a;exact ⟨Int.le_refl _,fun x h=>(by cases h),.inl rfl⟩
   | cons b l ih =>
     intro a;obtain ⟨i1,i2,i3⟩:=ih (mx a b);have hm:a<=mx a b/\b<=mx a b/\(mx a b=a\/mx a b=b):=(by unfold mx;split <;> omega);rw [List.foldl_cons];refine ⟨by omega,fun x hx=>?_,?_⟩
     . rcases List.mem_cons.mp hx with rfl|hx
       . omega
       . exact i2 x hx
     . rcases i3 with i3|i3
       . rw [i3];rcases hm.2.2 with h|h
         . exact .inl h
         . rw [h];exact .inr List.mem_cons_self
       . exact .inr (List.mem_cons_of_mem _ i3)
 obtain ⟨f1,f2,f3⟩:=fm ((kd m rs r par v).map fun c=>wgt m rs r par dep c*upT rs par c) 1;rw [<- e] at f1 f2 f3;refine ⟨f1,fun c hc=>f2 _ (List.mem_map.mpr ⟨c,hc,rfl⟩),f3.imp id fun h=>?_⟩;obtain ⟨c,hc,e⟩:=List.mem_map.mp h;exact ⟨c,hc,e.symm⟩
theorem Cr (g:Good m rs) (R:Rooted m rs r par dep) (N:Nds m rs r par w nd):∀ (n:Nat) (v:Int),0<=v->v<m->m.toNat - dep v=n->(∀ k∈kd m rs r par v,nd k=0)->∀ D,0<=D->gS m rs r par dep nd v D=wgt m rs r par dep v*D
 | 0,v,h0,h1,e,_,_,_=>by have:=eT R h0 h1;omega
 | n+1,v,h0,h1,e,z,D,D0=>by
   have kk:∀ k∈kd m rs r par v,gK m rs r par dep nd k D=wgt m rs r par dep k*upT rs par k*D:=fun k hk=>by
     obtain ⟨q,q2,_⟩:=bT g R h0 h1 hk;have kz:=z k hk;have t:=jC g R q.1.1 q.1.2 q.2.1;have ih:=Cr g R N n k q.1.1 q.1.2 (by omega) (fun c hc=>Bi g R N q.1.1 q.1.2 (by omega) hc);have u1:0<=upT rs par k*(D+1) - 1:=by
       have:=Int.mul_le_mul_of_nonneg_left (show 1<=D+1 by omega) (show 0<=upT rs par k by omega);omega
     unfold gK;rw [nu,mT g R q.1.1 q.1.2,kz,if_neg (by decide),Int.zero_mul,Int.sub_zero,Int.add_zero,Int.add_zero,ih _ u1,ih _ (by omega)];rw [Int.mul_sub,Int.mul_sub,Int.mul_add,Int.mul_add,Int.mul_one,Int.mul_assoc];omega
   obtain ⟨a1,a2,a3⟩:=pR (nd:=nd) g R h0 h1 D;obtain ⟨b1,b2,b3⟩:=Gy g R h0 h1;have le:gS m rs r par dep nd v D<=wgt m rs r par dep v*D:=by
     rcases a3 with h|⟨k,hk,h⟩
     . rw [h];have:=Int.mul_le_mul_of_nonneg_right b1 D0;omega
     . rw [h,kk k hk];exact Int.mul_le_mul_of_nonneg_right (b2 k hk) D0
   have ge:wgt m rs r par dep v*D<=gS m rs r par dep nd v D:=by
     rcases b3 with h|⟨k,hk,h⟩
     . rw [h];omega
     . rw [h,<- kk k hk];exact a2 k hk
   omega
theorem ar1 {st n u d D e:Int} (u2:2<=u) (d2:2<=d) (n1:1<=n) (he:e=(if 0<=st then st / u else st*d)+n*d) (k0:0<=st+n) (eD:e<=D) (hD:n*d<=D):st+n<=u*(D - n*d+1) - 1+n/\n<=u*(D - n*d+1) - 1+n/\(st+n)*D<=e*(u*(D - n*d+1) - 1+n):=by
 have N2:=Int.mul_le_mul_of_nonneg_left d2 (show 0<=n by omega);obtain ⟨C,hC⟩:∃ C,D - n*d=C:=⟨_,rfl⟩;have C0:0<=C:=by omega
 have eDC:D=C+n*d:=by omega
 rw [hC];have uC:=Int.mul_le_mul_of_nonneg_right u2 C0;have uC1:u*(C+1)=u*C+u:=by rw [Int.mul_add,Int.mul_one]
 rw [uC1];by_cases s:0<=st
 . rw [if_pos s] at he;have c0:=Int.ediv_nonneg s (show 0<=u by omega);have c1:=Int.mul_ediv_add_emod st u;have c2:=Int.emod_lt_of_pos st (show 0<u by omega);generalize st / u=c at he c0 c1;have cC:c<=C:=by omega
   have ucC:=Int.mul_le_mul_of_nonneg_left cC (show 0<=u by omega);refine ⟨by omega,by omega,?_⟩;have h1:(st+n)*D<=(u*c+(u - 1+n))*D:=Int.mul_le_mul_of_nonneg_right (by omega) (by omega);have h2:0<=(C - c)*(u*(n*d) - (u - 1+n)):=by
     refine Int.mul_nonneg (by omega) ?_;have q1:=Int.mul_le_mul_of_nonneg_left N2 (show 0<=u by omega);have q2:0<=(u - 1)*(n - 1):=Int.mul_nonneg (by omega) (by omega);have q3:(u - 1)*(n - 1)=u*n - u - n+1:=(by grind);have q4:u*(n*2)=2*(u*n):=(by grind);have q5:0<=u*n:=Int.mul_nonneg (by omega) (by omega);omega
   have h3:(u*c+(u - 1+n))*(C+n*d)+(C - c)*(u*(n*d) - (u - 1+n))=(c+n*d)*(u*C+(u - 1+n)):=by grind
   rw [he,show u*C+u - 1+n=u*C+(u - 1+n) by omega];rw [eDC] at h1 ⊢;omega
 . rw [if_neg s] at he;refine ⟨by omega,by omega,?_⟩;have e1:e=(st+n)*d:=by rw [he,Int.add_mul]
   have q1:C+n*d<=d*(u*C+u - 1+n):=by
     have a1:d*(u*C+u - 1+n)=d*(u*C+u - 1)+n*d:=(by grind);have a2:=Int.mul_le_mul_of_nonneg_right d2 (show 0<=u*C+u - 1 by omega);omega
   rw [e1,eDC,Int.mul_assoc];exact Int.mul_le_mul_of_nonneg_left q1 k0
theorem ar2 {f D D' k e F:Int} (hD':0<D') (D0:0<=D) (F0:0<=F) (h1:f*D'<=k*F) (h2:k*D<=e*D'):f*D<=e*F:=by
 have a1:=Int.mul_le_mul_of_nonneg_right h1 D0;have a2:=Int.mul_le_mul_of_nonneg_right h2 F0;have a3:f*D'*D=f*D*D':=by grind
 have a4:k*F*D=k*D*F:=by grind
 have a5:e*D'*F=e*F*D':=by grind
 exact Int.le_of_mul_le_mul_right (show f*D*D'<=e*F*D' by omega) hD'
structure Lay (m:Int) (rs:List Road) (r:Int) (par:Int->Int) (w x st bl:Int->Int):Prop where
 x0:∀ v,0<=v->v<m->0<=x v
 st:∀ v,0<=v->v<m->st v=x v - w v+((kd m rs r par v).map fun c=>hnd rs par c (st c)).sum
 bl:∀ v,0<=v->v<m->bl v=x v+((kd m rs r par v).map bl).sum
variable {x st bl:Int->Int}
theorem sA (v z:Int):hnd rs par v z=if 0<=z then z / upT rs par v else z*dnT rs par v:=rfl
theorem AG (g:Good m rs) (R:Rooted m rs r par dep) (N:Nds m rs r par w nd) (L:Lay m rs r par w x st bl):∀ (n:Nat) (v:Int),0<=v->v<m->m.toNat - dep v=n->st v+nd v=x v+((kd m rs r par v).map fun c=>hnd rs par c (st c)+nd c*dnT rs par c).sum/\0<=st v+nd v/\∀ c∈kd m rs r par v,0<=hnd rs par c (st c)+nd c*dnT rs par c
 | 0,v,h0,h1,e=>by have:=eT R h0 h1;omega
 | n+1,v,h0,h1,e=>by
   have e1:st v+nd v=x v+((kd m rs r par v).map fun c=>hnd rs par c (st c)+nd c*dnT rs par c).sum:=by
     rw [y8,L.st v h0 h1,N.st v h0 h1];omega
   have kk:∀ c∈kd m rs r par v,0<=hnd rs par c (st c)+nd c*dnT rs par c:=fun c hc=>by
     obtain ⟨q,q2,_⟩:=bT g R h0 h1 hc;have t:=jC g R q.1.1 q.1.2 q.2.1;have ih:=(AG g R N L n c q.1.1 q.1.2 (by omega)).2.1;have d:=dn0 g R N h0 h1 c hc;rw [sA];split
     . rename_i z
       have:=Int.ediv_nonneg z (show 0<=upT rs par c by omega);omega
     . rw [<- Int.add_mul];exact Int.mul_nonneg ih (by omega)
   refine ⟨e1,?_,kk⟩;rw [e1];have:=oW kk;have:=L.x0 v h0 h1;omega
theorem EU (g:Good m rs) (R:Rooted m rs r par dep) (N:Nds m rs r par w nd) (L:Lay m rs r par w x st bl) {k:Int} (h0:0<=k) (h1:k<m) (hr:k≠r) (z:nd k=0) (ih:∀ D,st k+nd k<=D->(∀ c∈kd m rs r par k,nd c*dnT rs par c<=D)->1<=D->(bl k - idS m rs r par dep nd k)*D<=(st k+nd k)*gS m rs r par dep nd k D) :
   bl k - (idl m rs r par dep nd k).sum<=wgt m rs r par dep k*upT rs par k*hnd rs par k (st k)/\0<=hnd rs par k (st k):=by
 have t:=jC g R h0 h1 hr;have s0:=(AG g R N L _ k h0 h1 rfl).2.1;rw [z,Int.add_zero] at s0;have G:=Cr g R N _ k h0 h1 rfl (fun c hc=>Bi g R N h0 h1 (by omega) hc);have W1:=(Gy g R h0 h1).1;have q:=ih (st k+1) (by omega) (fun c hc=>by
   have:=wU g R N h0 h1 hc;have:=N.w0 k h0 h1;omega) (by omega)
 rw [G _ (by omega),z,Int.add_zero,<- Int.mul_assoc] at q;have q2:=Int.le_of_mul_le_mul_right q (by omega);rw [mT g R h0 h1,if_neg (by omega),z,Int.add_zero,G _ (by omega),sA,if_pos s0];have c0:=Int.ediv_nonneg s0 (show 0<=upT rs par k by omega);have c1:=Int.mul_ediv_add_emod (st k) (upT rs par k);have c2:=Int.emod_lt_of_pos (st k) (show 0<upT rs par k by omega);refine ⟨?_,c0⟩;generalize st k / upT rs par k=c at c0 c1 ⊢;have a1:st k<=upT rs par k*c+(upT rs par k - 1):=by omega
 have a2:=Int.mul_le_mul_of_nonneg_left a1 (show 0<=wgt m rs r par dep k by omega);rw [Int.mul_add,<- Int.mul_assoc] at a2;rw [Int.mul_comm (st k)] at q2;omega
theorem BE (g:Good m rs) (R:Rooted m rs r par dep) (N:Nds m rs r par w nd) (L:Lay m rs r par w x st bl):∀ (n:Nat) (v:Int),0<=v->v<m->m.toNat - dep v=n->∀ D,st v+nd v<=D->(∀ c∈kd m rs r par v,nd c*dnT rs par c<=D)->1<=D->(bl v - idS m rs r par dep nd v)*D<=(st v+nd v)*gS m rs r par dep nd v D
 | 0,v,h0,h1,e,_,_,_,_=>by have:=eT R h0 h1;omega
 | n+1,v,h0,h1,e,D,hD,hk,D1=>by
   obtain ⟨e1,e2,e3⟩:=AG g R N L _ v h0 h1 rfl;obtain ⟨a1,a2,_⟩:=pR (nd:=nd) g R h0 h1 D;have x0:=L.x0 v h0 h1;have kk:∀ k∈kd m rs r par v,(bl k - (idl m rs r par dep nd k).sum)*D<=(hnd rs par k (st k)+nd k*dnT rs par k)*gS m rs r par dep nd v D:=fun k hkm=>by
     obtain ⟨q,q2,_⟩:=bT g R h0 h1 hkm;have ih:=BE g R N L n k q.1.1 q.1.2 (by omega);have t:=jC g R q.1.1 q.1.2 q.2.1;have ke:=e3 k hkm;have keD:hnd rs par k (st k)+nd k*dnT rs par k<=D:=by
       have:=uF e3 hkm;omega
     have up:=a2 k hkm;have key:(bl k - (idl m rs r par dep nd k).sum)*D<=(hnd rs par k (st k)+nd k*dnT rs par k)*gK m rs r par dep nd k D:=by
       by_cases z:nd k=0
       . obtain ⟨z1,z2⟩:=EU g R N L q.1.1 q.1.2 q.2.1 z ih;have u1:0<=upT rs par k*(D+1) - 1:=by
           have:=Int.mul_le_mul_of_nonneg_left (show 1<=D+1 by omega) (show 0<=upT rs par k by omega);omega
         have G:=Cr g R N _ k q.1.1 q.1.2 rfl (fun c hc=>Bi g R N q.1.1 q.1.2 (by omega) hc);have eg:gK m rs r par dep nd k D=wgt m rs r par dep k*upT rs par k*D:=by
           unfold gK;rw [nu,mT g R q.1.1 q.1.2,z,if_neg (by decide),Int.zero_mul,Int.sub_zero,Int.add_zero,Int.add_zero,G _ u1,G _ (by omega)];rw [Int.mul_sub,Int.mul_sub,Int.mul_add,Int.mul_add,Int.mul_one,Int.mul_assoc];omega
         rw [eg,z,Int.zero_mul,Int.add_zero];have:=Int.mul_le_mul_of_nonneg_right z1 (show 0<=D by omega);have r:hnd rs par k (st k)*(wgt m rs r par dep k*upT rs par k*D)=wgt m rs r par dep k*upT rs par k*hnd rs par k (st k)*D:=(by grind);rw [r];exact this
       . have n1:=N.nn k q.1.1 q.1.2;have s0:=(AG g R N L _ k q.1.1 q.1.2 rfl).2.1;obtain ⟨b1,b2,b3⟩:=ar1 (st:=st k) (n:=nd k) (D:=D) t.1 t.2 (by omega) rfl s0 (by rw [<- sA];exact keD) (hk k hkm);rw [<- sA] at b3;have eg:gK m rs r par dep nd k D=gS m rs r par dep nd k (upT rs par k*(D - nd k*dnT rs par k+1) - 1+nd k):=by
           unfold gK;rw [nu,mT g R q.1.1 q.1.2,if_pos (by omega)];omega
         have ei:(idl m rs r par dep nd k).sum=idS m rs r par dep nd k:=by
           rw [mT g R q.1.1 q.1.2,if_pos (by omega)];omega
         rw [eg,ei];generalize upT rs par k*(D - nd k*dnT rs par k+1) - 1+nd k=D' at b1 b2 b3 ⊢;refine ar2 (D':=D') (k:=st k+nd k) (by omega) (by omega) ?_ (ih D' b1 (fun c hc=>?_) (by omega)) b3
         . have:=(pR (nd:=nd) g R q.1.1 q.1.2 D').1;omega
         . have:=wU g R N q.1.1 q.1.2 hc;have:=N.w0 k q.1.1 q.1.2;omega
     exact Int.le_trans key (Int.mul_le_mul_of_nonneg_left up ke)
   have eb:bl v - idS m rs r par dep nd v=x v+((kd m rs r par v).map fun k=>bl k - (idl m rs r par dep nd k).sum).sum:=by
     rw [o0,L.bl v h0 h1];unfold idS;omega
   have h1:=AI kk;have h2:=Int.mul_le_mul_of_nonneg_left a1 x0;rw [eb,e1,Int.add_mul,Int.add_mul];omega
theorem KO (g:Good m rs) (R:Rooted m rs r par dep) (N:Nds m rs r par w nd) (L:Lay m rs r par w x st bl) (r0:0<=r) (r1:r<m) (wr:1<=w r) (hs:st r<=-1):bl r<=(gld m rs r par dep nd r (-1)).sum:=by
 obtain ⟨e1,e2,e3⟩:=AG g R N L _ r r0 r1 rfl;have eg:(gld m rs r par dep nd r (-1)).sum=idS m rs r par dep nd r+gS m rs r par dep nd r (nd r - 1):=by
   rw [nu,show (-1:Int)+nd r=nd r - 1 by omega]
 have hk:∀ c∈kd m rs r par r,nd c*dnT rs par c<=nd r - 1:=fun c hc=>by
   have:=wU g R N r0 r1 hc;omega
 have x0:=L.x0 r r0 r1;have a1:=(pR (nd:=nd) g R r0 r1 (nd r - 1)).1;rw [eg];by_cases D1:1<=nd r - 1
 . have q:=BE g R N L _ r r0 r1 rfl (nd r - 1) (by omega) hk D1;have q2:(st r+nd r)*gS m rs r par dep nd r (nd r - 1)<=gS m rs r par dep nd r (nd r - 1)*(nd r - 1):=by
     rw [Int.mul_comm];exact Int.mul_le_mul_of_nonneg_left (by omega) (by omega)
   have:=Int.le_of_mul_le_mul_right (Int.le_trans q q2) (by omega);omega
 . have s0:=oW e3;have ek:∀ c∈kd m rs r par r,bl c - (idl m rs r par dep nd c).sum<=0:=fun c hc=>by
     obtain ⟨q,q2,_⟩:=bT g R r0 r1 hc;have t:=jC g R q.1.1 q.1.2 q.2.1;have h1:=hk c hc;have n:=N.nn c q.1.1 q.1.2;have z:nd c=0:=by
       have:=Int.mul_le_mul_of_nonneg_left t.2 n;omega
     obtain ⟨z1,z2⟩:=EU g R N L q.1.1 q.1.2 q.2.1 z (BE g R N L _ c q.1.1 q.1.2 rfl);have:=uF e3 hc;simp only [z,Int.zero_mul,Int.add_zero] at this;have hz:hnd rs par c (st c)=0:=(by omega);rw [hz,Int.mul_zero] at z1;exact z1
   have eb:bl r - idS m rs r par dep nd r=x r+((kd m rs r par r).map fun k=>bl k - (idl m rs r par dep nd k).sum).sum:=by
     rw [o0,L.bl r r0 r1];unfold idS;omega
   have:=oW (l:=kd m rs r par r) (f:=fun c=>(idl m rs r par dep nd c).sum - bl c) fun c hc=>by have:=ek c hc;omega
   rw [o0] at this;rw [o0] at eb;omega
theorem G0 (g:Good m rs) (R:Rooted m rs r par dep) (x:Int->Int):∀ (n:Nat) (v:Int),0<=v->v<m->m.toNat - dep v=n->gat m rs r par dep x (fun _ z=>z) v=((bL m rs r par dep v).map x).sum
 | 0,v,h0,h1,e=>by have:=eT R h0 h1;omega
 | n+1,v,h0,h1,e=>by
   rw [bC g R h0 h1,fN g R h0 h1,List.map_cons,List.sum_cons];have:∀ l:List Int,(∀ c∈l,c∈kd m rs r par v)->(l.map fun c=>gat m rs r par dep x (fun _ z=>z) c).sum=((l.flatMap (bL m rs r par dep)).map x).sum:=by
     intro l
     induction l with
     | nil=>intro _;rfl
     | cons a l ih =>
       intro h;obtain ⟨q,q2,_⟩:=bT g R h0 h1 (h a List.mem_cons_self);rw [List.map_cons,List.sum_cons,List.flatMap_cons,List.map_append,List.sum_append,ih fun c hc=>h c (List.mem_cons_of_mem _ hc),G0 g R x n a q.1.1 q.1.2 (by omega)]
   rw [this _ fun c hc=>hc]
theorem OX (g:Good m rs) (R:Rooted m rs r par dep) (r0:0<=r) (r1:r<m) (x:Int->Int):gat m rs r par dep x (fun _ z=>z) r=((below m.toNat).map x).sum:=by
 rw [G0 g R x _ r r0 r1 rfl];obtain ⟨t,e,O⟩:=C1 g R r0 r1;rw [e];refine FV ((fM O.nd (d4 _) fun v=>?_).map x);rw [List.mem_cons,bM];refine ⟨fun h=>?_,fun h=>O.all v h.1 (by have:=h.2;omega)⟩;rcases h with h|h
 . rw [h];exact ⟨r0,by omega⟩
 . have:=O.rng v h;omega
theorem Bx (g:Good m rs) (R:Rooted m rs r par dep) {x:Int->Int} {con:Int->Int->Int} (x0:∀ v,0<=v->v<m->0<=x v) (c0:∀ v z,0<=v->v<m->v≠r->0<=z->0<=con v z):∀ (n:Nat) (v:Int),0<=v->v<m->m.toNat - dep v=n->0<=gat m rs r par dep x con v
 | 0,v,h0,h1,e=>by have:=eT R h0 h1;omega
 | n+1,v,h0,h1,e=>by
   rw [bC g R h0 h1];have a:=x0 v h0 h1;have b:=oW (l:=kd m rs r par v) (f:=fun c=>con c (gat m rs r par dep x con c)) fun c hc=>by
     obtain ⟨q,q2,_⟩:=bT g R h0 h1 hc;exact c0 c _ q.1.1 q.1.2 q.2.1 (Bx g R x0 c0 n c q.1.1 q.1.2 (by omega))
   exact Int.add_nonneg a b
abbrev u8 (m:Int) (rs:List Road) (r:Int) (par:Int->Int) (dep:Int->Nat) (xs:List Int):Int->Int:=gat m rs r par dep (fun v=>xs.getD v.toNat 0) (ned rs par)
theorem py {xs:List Int} (x0:∀ x∈xs,0<=x) (i:Nat):0<=xs.getD i 0:=by
 rw [List.getD_eq_getElem?_getD];cases e:xs[i]? with
 | none=>exact Int.le_refl _
 | some y=>exact x0 y (List.mem_of_getElem? e)
theorem FT (g:Good m rs) (R:Rooted m rs r par dep) {ys:List Int} (y0:∀ y∈ys,0<=y):Nds m rs r par (fun v=>ys.getD v.toNat 0) (u8 m rs r par dep ys) where
 st:=fun v h0 h1=>bC g R h0 h1
 nn:=fun v h0 h1=>Bx g R (fun v _ _=>py y0 _) (fun v z a b c d=>by
   have t:=jC g R a b c;unfold ned;exact Int.mul_nonneg d (show 0<=dnT rs par v by omega)) _ v h0 h1 rfl
 w0:=fun v _ _=>py y0 _
theorem P4 (g:Good m rs) (R:Rooted m rs r par dep) {xs ys:List Int} (x0:∀ x∈xs,0<=x):Lay m rs r par (fun v=>ys.getD v.toNat 0) (fun v=>xs.getD v.toNat 0) (gat m rs r par dep (fun v=>(bw m xs ys).getD v.toNat 0) (hnd rs par)) (gat m rs r par dep (fun v=>xs.getD v.toNat 0) (fun _ z=>z)) where
 x0:=fun v _ _=>py x0 _
 st:=fun v h0 h1=>by
   have:=sW (m:=m) (zs:=xs) (ys:=ys) v.toNat;rw [if_pos (by omega)] at this;rw [bC g R h0 h1,this]
 bl:=fun v h0 h1=>bC g R h0 h1
theorem Ju (g:Good m rs) (R:Rooted m rs r par dep) (r0:0<=r) (r1:r<m) {xs ys:List Int} (xl:(xs.length:Int)=m) (x0:∀ x∈xs,0<=x) (y0:∀ y∈ys,0<=y) (yr:0<ys.getD r.toNat 0) (h:(gld m rs r par dep (u8 m rs r par dep ys) r (-1)).sum+1<=xs.sum):0<=gat m rs r par dep (fun v=>(bw m xs ys).getD v.toNat 0) (hnd rs par) r:=by
 refine Classical.byContradiction fun n=>?_;have q:=KO g R (FT g R y0) (P4 g R (ys:=ys) x0) r0 r1 yr (by omega);rw [OX g R r0 r1,Kp (by omega)] at q;omega
end
end Pb
set_option Elab.async false
set_option linter.all false
set_option maxRecDepth 100000
namespace Pb
open PySem L2
theorem CJ {f:Int->List Int}:∀ {l:List Int},(l.flatMap f).Nodup->∀ {a b u:Int},a∈l->b∈l->u∈f a->u∈f b->a=b
 | c::l,nd,a,b,u,ha,hb,ua,ub=>by
   rw [List.flatMap_cons] at nd;obtain ⟨n1,n2,n3⟩:=List.nodup_append.mp nd;rcases List.mem_cons.mp ha with ha|ha <;> rcases List.mem_cons.mp hb with hb|hb
   . rw [ha,hb]
   . rw [ha] at ua;exact absurd rfl (n3 u ua u (List.mem_flatMap.mpr ⟨b,hb,ub⟩))
   . rw [hb] at ub;exact absurd rfl (n3 u ub u (List.mem_flatMap.mpr ⟨a,ha,ua⟩))
   . exact CJ n2 ha hb ua ub
theorem jq:∀ {xs ys:List Int},xs.length=ys.length->∀ (i:Nat),(iT xs ys).getD i 0=xs.getD i 0+ys.getD i 0
 | [],[],_,i=>by simp [iT]
 | a::xs,b::ys,h,0=>by simp [iT]
 | a::xs,b::ys,h,i+1=>by
   have ih:=jq (xs:=xs) (ys:=ys) (by simpa using h) i;unfold iT at ih ⊢;rw [List.zipWith_cons_cons,List.getD_cons_succ,List.getD_cons_succ,List.getD_cons_succ,ih]
theorem Cw {n:Nat} (i:Nat):∀ (ls:List (List Int)) (a:List Int),a.length=n->(∀ l∈ls,l.length=n)->(ls.foldl iT a).getD i 0=a.getD i 0+(ls.map fun l=>l.getD i 0).sum
 | [],a,_,_=>by simp
 | l::ls,a,ha,hl=>by
   have h1:=hl l List.mem_cons_self;rw [List.foldl_cons,Cw i ls _ (qr ha h1) fun x hx=>hl x (List.mem_cons_of_mem _ hx),jq (ha.trans h1.symm),List.map_cons,List.sum_cons];omega
theorem Nw (m:Int) (i:Nat):(zrs m).getD i 0=0:=by
 rw [List.getD_eq_getElem?_getD];cases e:(zrs m)[i]? with
 | none=>rfl
 | some y=>exact (List.mem_replicate.mp (List.mem_of_getElem? e)).2
theorem tV {f:Int->Int}:∀ {l:List Int},(∀ c∈l,f c=0)->(l.map f).sum=0
 | [],_=>rfl
 | a::l,h=>by rw [List.map_cons,List.sum_cons,h a List.mem_cons_self,tV fun c hc=>h c (List.mem_cons_of_mem _ hc)];rfl
theorem tI {f:Int->Int}:∀ {l:List Int},l.Nodup->∀ {c:Int},c∈l->(∀ j∈l,j≠c->f j=0)->(l.map f).sum=f c
 | a::l,nd,c,hc,h=>by
   obtain ⟨n1,n2⟩:=List.nodup_cons.mp nd;rw [List.map_cons,List.sum_cons];by_cases e:a=c
   . subst e;rw [tV fun j hj=>h j (List.mem_cons_of_mem _ hj) fun z=>n1 (z ▸ hj)];omega
   . rw [h a List.mem_cons_self e,tI n2 ((List.mem_cons.mp hc).resolve_left (Ne.symm e)) fun j hj=>h j (List.mem_cons_of_mem _ hj)];omega
theorem re {b:List Int} {v d:Int} (h:v.toNat<b.length) (i:Nat):(jX b v d).getD i 0=b.getD i 0+if i=v.toNat then d else 0:=by
 unfold jX;by_cases e:i=v.toNat
 . subst e;rw [if_pos rfl,List.getD_eq_getElem?_getD,List.getElem?_set_self h]
   rfl
 . rw [if_neg e,List.getD_eq_getElem?_getD,List.getElem?_set_ne (Ne.symm e),<- List.getD_eq_getElem?_getD];omega
section
variable {m:Int} {rs:List Road} {r:Int} {par:Int->Int} {dep:Int->Nat} {nd w:Int->Int}
theorem JZ (g:Good m rs) (R:Rooted m rs r par dep) {v:Int} (h0:0<=v) (h1:v<m):(bL m rs r par dep v).Nodup :=
 (NL g R h0 h1).nodup_iff.mpr ((d4 _).filter _)
theorem xH (g:Good m rs) (R:Rooted m rs r par dep) {v:Int} (h0:0<=v) (h1:v<m) {u:Int}:u∈bL m rs r par dep v↔u=v\/∃ c∈kd m rs r par v,u∈bL m rs r par dep c:=by
 rw [fN g R h0 h1,List.mem_cons,List.mem_flatMap]
theorem GY (g:Good m rs) (R:Rooted m rs r par dep) {v:Int} (h0:0<=v) (h1:v<m):(∀ c∈kd m rs r par v,v ∉ bL m rs r par dep c)/\∀ {a b u:Int},a∈kd m rs r par v->b∈kd m rs r par v->u∈bL m rs r par dep a->u∈bL m rs r par dep b->a=b:=by
 have n:=JZ g R h0 h1;rw [fN g R h0 h1] at n;obtain ⟨n1,n2⟩:=List.nodup_cons.mp n;exact ⟨fun c hc z=>n1 (List.mem_flatMap.mpr ⟨c,hc,z⟩),fun ha hb ua ub=>CJ n2 ha hb ua ub⟩
theorem Cu (g:Good m rs) (R:Rooted m rs r par dep) {held held':Int->Int} {con:Int->Int->Int}:∀ (n:Nat) (v:Int),0<=v->v<m->m.toNat - dep v=n->(∀ u∈bL m rs r par dep v,held u=held' u)->gat m rs r par dep held con v=gat m rs r par dep held' con v
 | 0,v,h0,h1,e,_=>by have:=eT R h0 h1;omega
 | n+1,v,h0,h1,e,h=>by
   rw [bC g R h0 h1,bC g R h0 h1,h v (u6 g R h0 h1)];rw [List.map_congr_left fun c hc=>?_];obtain ⟨q,q2,_⟩:=bT g R h0 h1 hc;rw [Cu g R n c q.1.1 q.1.2 (by omega) fun u hu=>h u ((xH g R h0 h1).mpr (.inr ⟨c,hc,hu⟩))]
structure Ld (m:Int) (rs:List Road) (r:Int) (par:Int->Int) (dep:Int->Nat) (w:Int->Int) (X:List Int) (v y:Int):Prop where
 len:X.length=m.toNat
 nn:∀ i,0<=X.getD i 0
 off:∀ u,0<=u->u ∉ bL m rs r par dep v->X.getD u.toNat 0=0
 st:gat m rs r par dep (fun u=>X.getD u.toNat 0 - w u) (hnd rs par) v=y
theorem zx (g:Good m rs) (R:Rooted m rs r par dep) {v:Int} (h0:0<=v) (h1:v<m) (x:V) (i:Nat):(idK m rs r par (idl m rs r par dep nd) v x).getD i 0=(((kd m rs r par v).filter fun k=>decide (V.int k≠x)).map fun c=>(idl m rs r par dep nd c).getD i 0).sum:=by
 unfold idK oG;rw [Cw i _ _ (sM m) fun l hl=>?_,Nw,Int.zero_add,List.map_map]
 . rfl
 . obtain ⟨k,hk,rfl⟩:=List.mem_map.mp hl;have w:=bT g R h0 h1 (List.mem_filter.mp hk).1;exact si g R w.1.1.1 w.1.1.2
theorem Az (g:Good m rs) (R:Rooted m rs r par dep) {v:Int} (h0:0<=v) (h1:v<m) (x:V) (ih:∀ c∈kd m rs r par v,∃ y,Ld m rs r par dep w (idl m rs r par dep nd c) c y) :
   (∀ i,0<=(idK m rs r par (idl m rs r par dep nd) v x).getD i 0)/\(∀ u,0<=u->(∀ c∈kd m rs r par v,u ∉ bL m rs r par dep c)->(idK m rs r par (idl m rs r par dep nd) v x).getD u.toNat 0=0) /\
   ∀ c∈kd m rs r par v,∀ u,0<=u->u∈bL m rs r par dep c->(idK m rs r par (idl m rs r par dep nd) v x).getD u.toNat 0=if V.int c≠x then (idl m rs r par dep nd c).getD u.toNat 0 else 0:=by
 refine ⟨fun i=>?_,fun u u0 hu=>?_,fun c hc u u0 hu=>?_⟩
 . rw [zx g R h0 h1];refine oW fun c hc=>?_;obtain ⟨y,L⟩:=ih c (List.mem_filter.mp hc).1;exact L.nn i
 . rw [zx g R h0 h1];refine tV fun c hc=>?_;have hc:=(List.mem_filter.mp hc).1;obtain ⟨y,L⟩:=ih c hc;exact L.off u u0 (hu c hc)
 . rw [zx g R h0 h1];have oth:∀ j∈(kd m rs r par v).filter (fun k=>decide (V.int k≠x)),j≠c->(idl m rs r par dep nd j).getD u.toNat 0=0:=fun j hj nj=>by
     have hj:=(List.mem_filter.mp hj).1;obtain ⟨y,L⟩:=ih j hj;exact L.off u u0 fun z=>nj ((GY g R h0 h1).2 hj hc z hu)
   by_cases e:V.int c≠x
   . rw [if_pos e];exact tI (ie.filter _) (List.mem_filter.mpr ⟨hc,decide_eq_true e⟩) oth
   . rw [if_neg e];exact tV fun j hj=>oth j hj fun z=>e (by
       rw [<- z];exact of_decide_eq_true (List.mem_filter.mp hj).2)
theorem yO (g:Good m rs) (R:Rooted m rs r par dep) (N:Nds m rs r par w nd) {c:Int} (h0:0<=c) (h1:c<m) (hr:c≠r):hnd rs par c (if 0<nd c then -nd c else upT rs par c - 1)=-(nd c*dnT rs par c):=by
 have t:=jC g R h0 h1 hr;have n:=N.nn c h0 h1;rw [sA];by_cases z:0<nd c
 . rw [if_pos z,if_neg (by omega),Int.neg_mul]
 . rw [if_neg z,if_pos (by omega),show nd c=0 by omega,Int.zero_mul];exact Int.ediv_eq_zero_of_lt (by omega) (by omega)
theorem GX {f:Int->Int}:∀ {l:List Int},(l.map fun c=>-f c).sum=-(l.map f).sum
 | []=>rfl
 | a::l=>by rw [List.map_cons,List.map_cons,List.sum_cons,List.sum_cons,GX];omega
theorem DT (g:Good m rs) (R:Rooted m rs r par dep) (N:Nds m rs r par w nd):∀ (n:Nat) (v:Int),0<=v->v<m->m.toNat - dep v=n->(v≠r->Ld m rs r par dep w (idl m rs r par dep nd v) v (if 0<nd v then -nd v else upT rs par v - 1))/\∀ y,-1<=y->(y=-1->1<=w v)->Ld m rs r par dep w (gld m rs r par dep nd v y) v y
 | 0,v,h0,h1,e=>by have:=eT R h0 h1;omega
 | n+1,v,h0,h1,e=>by
   have K1:∀ c∈kd m rs r par v,(c≠r/\(0<=c/\c<m))/\Ld m rs r par dep w (idl m rs r par dep nd c) c (if 0<nd c then -nd c else upT rs par c - 1)/\∀ y,0<=y->Ld m rs r par dep w (gld m rs r par dep nd c y) c y:=fun c hc=>by
     obtain ⟨q,q2,_⟩:=bT g R h0 h1 hc;have ih:=DT g R N n c q.1.1 q.1.2 (by omega);exact ⟨⟨q.2.1,q.1⟩,ih.1 q.2.1,fun y y0=>ih.2 y (by omega) fun z=>by omega⟩
   have K2:∀ c∈kd m rs r par v,∃ y,Ld m rs r par dep w (idl m rs r par dep nd c) c y:=fun c hc=>⟨_,(K1 c hc).2.1⟩;have ben:∀ c∈kd m rs r par v,∀ u∈bL m rs r par dep c,0<=u:=fun c hc u hu=>((xP g R (K1 c hc).1.2.1 (K1 c hc).1.2.2 u).mp hu).1.1;have p1:=GY g R h0 h1;have fin:∀ (X:List Int) (z y:Int) (hc:Int->Int),X.length=m.toNat->(∀ i,0<=X.getD i 0)->(∀ u,0<=u->u ∉ bL m rs r par dep v->X.getD u.toNat 0=0)->X.getD v.toNat 0=z->(∀ c∈kd m rs r par v,∃ Y s,Ld m rs r par dep w Y c s/\hnd rs par c s=hc c/\∀ u∈bL m rs r par dep c,X.getD u.toNat 0=Y.getD u.toNat 0)->z - w v+((kd m rs r par v).map hc).sum=y->Ld m rs r par dep w X v y:=fun X z y hc xl xn xo xz xk hy=>by
     refine ⟨xl,xn,xo,?_⟩;rw [bC g R h0 h1,xz,<- hy,List.map_congr_left fun c hcm=>?_];obtain ⟨Y,s,L,e1,e2⟩:=xk c hcm;rw [<- e1,<- L.st,Cu g R _ c (K1 c hcm).1.2.1 (K1 c hcm).1.2.2 rfl fun u hu=>by rw [e2 u hu]]
   have offv:∀ {x:V} {u:Int},0<=u->u ∉ bL m rs r par dep v->(idK m rs r par (idl m rs r par dep nd) v x).getD u.toNat 0=0:=fun u0 hu=>(Az g R h0 h1 _ K2).2.1 _ u0 fun c hc z=>hu ((xH g R h0 h1).mpr (.inr ⟨c,hc,z⟩));have negs:((kd m rs r par v).map fun c=>-(nd c*dnT rs par c)).sum=w v - nd v:=by
     rw [GX,N.st v h0 h1];omega
   have A:∀ y,-1<=y->(y=-1->1<=w v)->Ld m rs r par dep w (gld m rs r par dep nd v y) v y:=fun y y0 y1=>by
     have w0:=N.w0 v h0 h1;have n0:=N.nn v h0 h1;have room:0<=nd v+y:=by
       have:=oW (dn0 g R N h0 h1);have:=N.st v h0 h1;omega
     rw [qk g R h0 h1];unfold j9;rcases zC ((kd m rs r par v).map (byK m rs r par nd (idl m rs r par dep nd) (gld m rs r par dep nd) v (nd v+y))) (jX (idK m rs r par (idl m rs r par dep nd) v .non) v (nd v+y)) with h|h
     . rw [h];have kl:=FE (nd:=nd) g R h0 h1 .non;have ia:=Az g R h0 h1 .non K2;have vl:v.toNat<(idK m rs r par (idl m rs r par dep nd) v .non).length:=(by omega);refine fin _ (nd v+y) y (fun c=>-(nd c*dnT rs par c)) (by rw [D8];exact kl) (fun i=>?_) (fun u u0 hu=>?_) ?_ (fun c hc=>⟨_,_,(K1 c hc).2.1,yO g R N (K1 c hc).1.2.1 (K1 c hc).1.2.2 (K1 c hc).1.1,fun u hu=>?_⟩) (by rw [negs];omega)
       . rw [re vl];have:=ia.1 i;split <;> omega
       . have nv:u≠v:=fun z=>hu ((xH g R h0 h1).mpr (.inl z));rw [re vl,offv u0 hu,if_neg (by omega)]
         rfl
       . rw [re vl,if_pos rfl,ia.2.1 v h0 p1.1];omega
       . have u0:=ben c hc u hu;have nv:u≠v:=fun z=>p1.1 c hc (z ▸ hu);rw [re vl,if_neg (by omega),ia.2.2 c hc u u0 hu,if_pos (by intro z;cases z)];omega
     . obtain ⟨k,hk,e⟩:=List.mem_map.mp h;rw [<- e];obtain ⟨⟨kr,k0,k1⟩,_,kg⟩:=K1 k hk;have t:=jC g R k0 k1 kr;have kn:=wU g R N h0 h1 hk;have kd0:=dn0 g R N h0 h1 k hk;obtain ⟨gv,hgv⟩:∃ gv,nd v+y - nd k*dnT rs par k=gv:=⟨_,rfl⟩;have gv0:0<=gv:=(by omega);have u1:0<=upT rs par k*(gv+1) - 1:=by
         have:=Int.mul_le_mul_of_nonneg_left (show 1<=gv+1 by omega) (show 0<=upT rs par k by omega);omega
       have LG:=kg _ u1;have kl:=FE (nd:=nd) g R h0 h1 (.int k);have ia:=Az g R h0 h1 (.int k) K2;unfold byK;rw [hgv];have ll:=LG.len.trans kl.symm;refine fin _ 0 y (fun c=>if c=k then gv else -(nd c*dnT rs par c)) (qr LG.len kl) (fun i=>?_) (fun u u0 hu=>?_) ?_ (fun c hc=>?_) ?_
       . rw [jq ll];have:=ia.1 i;have:=LG.nn i;omega
       . rw [jq ll,offv u0 hu,LG.off u u0 fun z=>hu ((xH g R h0 h1).mpr (.inr ⟨k,hk,z⟩))]
         rfl
       . rw [jq ll,ia.2.1 v h0 p1.1,LG.off v h0 (p1.1 k hk)]
         rfl
       . by_cases ck:c=k
         . subst ck;refine ⟨_,_,LG,?_,fun u hu=>?_⟩
           . rw [if_pos rfl,sA,if_pos u1];have:upT rs par c*(gv+1) - 1=(upT rs par c - 1)+upT rs par c*gv:=(by rw [Int.mul_add,Int.mul_one];omega);rw [this,Int.add_mul_ediv_left _ _ (by omega),Int.ediv_eq_zero_of_lt (by omega) (by omega)];omega
           . rw [jq ll,ia.2.2 c hc u (ben c hc u hu) hu,if_neg (fun z=>z rfl)];omega
         . refine ⟨_,_,(K1 c hc).2.1,?_,fun u hu=>?_⟩
           . rw [if_neg ck];exact yO g R N (K1 c hc).1.2.1 (K1 c hc).1.2.2 (K1 c hc).1.1
           . have u0:=ben c hc u hu;rw [jq ll,ia.2.2 c hc u u0 hu,if_pos (by intro z;cases z;exact ck rfl),LG.off u u0 fun z=>ck (p1.2 hc hk hu z)];omega
       . have e1:((kd m rs r par v).map fun c=>if c=k then gv else -(nd c*dnT rs par c)).sum=((kd m rs r par v).map fun c=>-(nd c*dnT rs par c)).sum+((kd m rs r par v).map fun c=>if c=k then gv+nd k*dnT rs par k else 0).sum:=by
           rw [<- y8];rw [List.map_congr_left fun c hc=>?_];by_cases ck:c=k
           . rw [if_pos ck,if_pos ck,ck];omega
           . rw [if_neg ck,if_neg ck];omega
         rw [e1,negs,tI (show (kd m rs r par v).Nodup from ie) hk fun j _ nj=>if_neg nj,if_pos rfl];omega
   refine ⟨fun vr=>?_,A⟩;have t:=jC g R h0 h1 vr;rw [t6 g R h0 h1];by_cases z:0<nd v
   . rw [if_pos z,if_pos z];have ia:=Az g R h0 h1 .non K2;refine fin _ 0 _ (fun c=>-(nd c*dnT rs par c)) (FE g R h0 h1 _) ia.1 (fun u u0 hu=>offv u0 hu) (ia.2.1 v h0 p1.1) (fun c hc=>⟨_,_,(K1 c hc).2.1,yO g R N (K1 c hc).1.2.1 (K1 c hc).1.2.2 (K1 c hc).1.1,fun u hu=>?_⟩) (by rw [negs];omega);rw [ia.2.2 c hc u (ben c hc u hu) hu,if_pos (by intro z;cases z)]
   . rw [if_neg z,if_neg z];exact A _ (by omega) fun q=>by omega
theorem E6 (g:Good m rs) (R:Rooted m rs r par dep) {xs ys:List Int} {con:Int->Int->Int} {v:Int} (h0:0<=v) (h1:v<m):gat m rs r par dep (fun v=>(bw m xs ys).getD v.toNat 0) con v=gat m rs r par dep (fun u=>xs.getD u.toNat 0 - ys.getD u.toNat 0) con v :=
 Cu g R _ v h0 h1 rfl fun u hu=>by
   have ur:=((xP g R h0 h1 u).mp hu).1;have:=sW (m:=m) (zs:=xs) (ys:=ys) u.toNat;rw [if_pos (by omega)] at this;exact this
theorem Nb (g:Good m rs) (R:Rooted m rs r par dep) (r0:0<=r) (r1:r<m) {ys:List Int} (y0:∀ y∈ys,0<=y) (yr:0<ys.getD r.toNat 0) {X:List Int} (eX:X=gld m rs r par dep (u8 m rs r par dep ys) r (-1)):(X.length:Int)=m/\(∀ x∈X,0<=x)/\stg m rs r par dep ys X r=-1:=by
 have L:=(DT g R (FT g R y0) _ r r0 r1 rfl).2 (-1) (by omega) fun _=>yr;rw [<- eX] at L;have l:=L.len;refine ⟨by omega,fun x hx=>?_,?_⟩
 . obtain ⟨i,hi,rfl⟩:=List.mem_iff_getElem.mp hx;have:=L.nn i
   rwa [List.getD_eq_getElem?_getD,List.getElem?_eq_getElem hi] at this
 . show gat m rs r par dep (fun v=>(bw m X ys).getD v.toNat 0) (hnd rs par) r=-1;rw [E6 g R r0 r1];exact L.st
end
end Pb
set_option Elab.async false
set_option linter.all false
set_option maxRecDepth 100000
namespace L2
open PySem PySem.Spec PyProof.Rows
section
variable {X:Cx}
def Oz (t:TE):TE:=fun σ H Q=>t σ H fun x H1=>∃ b,x=.bl b/\Q (.bl (b != false)) H1
end
end L2
namespace L2
open PySem Pb
end L2
set_option Elab.async false
set_option linter.all false
set_option maxRecDepth 100000
namespace Pb
open PySem L2
section
variable {m:Int} {rs:List Road} {r:Int} {par:Int->Int} {dep:Int->Nat} {nd w:Int->Int}
end
end Pb
set_option Elab.async false
set_option linter.all false
set_option maxRecDepth 100000
namespace Pb
open PySem L2
section
variable {m:Int} {rs:List Road} {r:Int} {par:Int->Int} {dep:Int->Nat} {near t u:Int}
end
end Pb
set_option Elab.async false
set_option linter.all false
set_option maxRecDepth 100000
namespace Pb
open PySem L2
section
variable {m:Int} {rs:List Road} {r:Int} {par:Int->Int} {dep:Int->Nat} {nd w:Int->Int}
end
end Pb
set_option Elab.async false
set_option linter.all false
set_option maxRecDepth 100000
namespace Pb
open PySem L2
def ki:Nat->Int->List (List Int)
 | 0,_=>[]
 | 1,p=>[[p]]
 | n+2,p=>(below (p+1).toNat).flatMap fun f=>(ki (n+1) (p - f)).map fun r=>f::r
theorem pF:∀ (n:Nat) (p:Int),0<=p->∀ zs:List Int,zs∈ki (n+1) p↔zs.length=n+1/\(∀ z∈zs,0<=z)/\zs.sum=p
 | 0,p,p0,zs=>by
   show zs∈[[p]]↔_;rw [List.mem_singleton]
   constructor
   . rintro rfl;exact ⟨rfl,fun z hz=>by rw [List.mem_singleton.mp hz];exact p0,by simp⟩
   . rintro ⟨h1,h2,h3⟩
     match zs,h1 with
     | [a],_ =>
       simp at h3;rw [h3]
 | n+1,p,p0,zs=>by
   show zs∈(below (p+1).toNat).flatMap _↔_;rw [List.mem_flatMap]
   constructor
   . rintro ⟨f,hf,hz⟩;obtain ⟨r,hr,rfl⟩:=List.mem_map.mp hz;have f1:=bM.mp hf;obtain ⟨h1,h2,h3⟩:=(pF n (p - f) (by omega) r).mp hr;refine ⟨by rw [List.length_cons,h1],fun z hz=>?_,by rw [List.sum_cons,h3];omega⟩;rcases List.mem_cons.mp hz with rfl|h
     . exact f1.1
     . exact h2 z h
   . rintro ⟨h1,h2,h3⟩
     match zs,h1 with
     | f::r,h1 =>
       have f0:=h2 f List.mem_cons_self;have r0:=vV (l:=r) fun z hz=>h2 z (List.mem_cons_of_mem _ hz);rw [List.sum_cons] at h3;refine ⟨f,bM.mpr ⟨f0,by omega⟩,List.mem_map.mpr ⟨r,(pF n (p - f) (by omega) r).mpr ⟨by simpa using h1,fun z hz=>h2 z (List.mem_cons_of_mem _ hz),by omega⟩,rfl⟩⟩
theorem yE:∀ (n:Nat) (p:Int),0<=p->p<=40->(ki (n+1) p).length<=41^n
 | 0,p,_,_=>by show 1<=1;exact Nat.le_refl _
 | n+1,p,p0,p1=>by
   have:∀ l:List Int,(∀ f∈l,0<=f/\f<=p)->(l.flatMap fun f=>(ki (n+1) (p - f)).map fun r=>f::r).length<=l.length*41^n:=by
     intro l
     induction l with
     | nil=>intro _;simp
     | cons a l ih =>
       intro h;have h1:=ih fun f hf=>h f (List.mem_cons_of_mem _ hf);have h2:=h a List.mem_cons_self;have h3:=yE n (p - a) (by omega) (by omega);rw [List.flatMap_cons,List.length_append,List.length_map,List.length_cons,Nat.add_mul,Nat.one_mul];omega
   have h:=this (below (p+1).toNat) fun f hf=>by have:=bM.mp hf;omega
   show ((below (p+1).toNat).flatMap _).length<=_;rw [aU] at h;have h4:(p+1).toNat*41^n<=41*41^n:=Nat.mul_le_mul_right _ (by omega);rw [Nat.pow_succ,Nat.mul_comm];omega
theorem DR {α:Type} {g:Int->List α} {k:Nat}:∀ {l:List Int},(∀ f∈l,(g f).length<=k)->(l.flatMap g).length<=l.length*k
 | [],_=>by simp
 | a::l,h=>by
   have h1:=DR (l:=l) fun f hf=>h f (List.mem_cons_of_mem _ hf);have h2:=h a List.mem_cons_self;rw [List.flatMap_cons,List.length_append,List.length_cons,Nat.add_mul,Nat.one_mul];omega
abbrev LLs (H:Hp):List Addr->List (List Int)->Prop:=Paired fun a zs=>H a=some (.lst (zs.map V.int))
theorem LLs.same {H H':Hp} {as:List Addr} {zss:List (List Int)} (e:Same H H') (h:LLs H as zss):LLs H' as zss:=Paired.imp' (fun a zs x=>e a _ x) h
section
variable {m:Int} {rs:List Road} {r:Int} {par:Int->Int} {dep:Int->Nat} {nd w:Int->Int}
abbrev szL (m:Int) (rs:List Road) (r:Int) (par:Int->Int) (dep:Int->Nat) (v:Int):Nat:=(bL m rs r par dep v).length
theorem B4 (g:Good m rs) (R:Rooted m rs r par dep) {v:Int} (h0:0<=v) (h1:v<m):szL m rs r par dep v=1+((kd m rs r par v).map (szL m rs r par dep)).sum:=by
 unfold szL;rw [fN g R h0 h1,List.length_cons,List.length_flatMap];show _=1+((aB m rs (front r par v) v).map fun a=>(bL m rs r par dep a).length).sum;omega
theorem EZ (g:Good m rs) (R:Rooted m rs r par dep) {v:Int} (h0:0<=v) (h1:v<m):1<=szL m rs r par dep v:=by
 rw [B4 g R h0 h1];omega
theorem ul (g:Good m rs) (R:Rooted m rs r par dep) {v:Int} (h0:0<=v) (h1:v<m) (h3:szL m rs r par dep v<=3):kd m rs r par v=[]\/(∃ c,kd m rs r par v=[c]/\szL m rs r par dep c+1=szL m rs r par dep v)\/∃ a b,kd m rs r par v=[a,b]/\szL m rs r par dep a=1/\szL m rs r par dep b=1/\szL m rs r par dep v=3:=by
 have e:=B4 g R h0 h1;have p:∀ c∈kd m rs r par v,1<=szL m rs r par dep c:=fun c hc=>by
   obtain ⟨q,_⟩:=bT g R h0 h1 hc;exact EZ g R q.1.1 q.1.2
 match hk:kd m rs r par v with
 | []=>exact .inl rfl
 | [c] =>
   rw [hk] at e;simp only [List.map_cons,List.map_nil,List.sum_cons,List.sum_nil] at e;exact .inr (.inl ⟨c,rfl,by omega⟩)
 | [a,b] =>
   rw [hk] at e p;simp only [List.map_cons,List.map_nil,List.sum_cons,List.sum_nil] at e;have:=p a (by simp);have:=p b (by simp);exact .inr (.inr ⟨a,b,rfl,by omega,by omega,by omega⟩)
 | a::b::c::l =>
   rw [hk] at e p;simp only [List.map_cons,List.sum_cons] at e;have:=p a (by simp);have:=p b (by simp);have:=p c (by simp);omega
theorem xE (g:Good m rs) (R:Rooted m rs r par dep) (N:Nds m rs r par w nd) {c:Int} (h0:0<=c) (h1:c<m) (cr:c≠r) (s1:szL m rs r par dep c=1) (D:Int):nd c=w c/\idS m rs r par dep nd c=0/\gS m rs r par dep nd c D=D/\(idl m rs r par dep nd c).sum=(if 0<nd c then 0 else upT rs par c - 1)/\gK m rs r par dep nd c D=upT rs par c*(D - nd c*dnT rs par c+1) - 1+nd c - (if 0<nd c then 0 else upT rs par c - 1):=by
 have k0:kd m rs r par c=[]:=by
   rcases ul g R h0 h1 (by omega) with h|⟨a,h,e⟩|⟨a,b,h,e⟩
   . exact h
   . have hk:a∈kd m rs r par c:=(by rw [h];exact List.mem_cons_self);obtain ⟨q,_⟩:=bT g R h0 h1 hk;have:=EZ g R q.1.1 q.1.2;omega
   . omega
 have n0:=N.nn c h0 h1;have e1:nd c=w c:=by rw [N.st c h0 h1,k0];simp
 have e2:idS m rs r par dep nd c=0:=by unfold idS;rw [k0];rfl
 have e3:∀ D,gS m rs r par dep nd c D=D:=fun D=>by
   rcases (pR (nd:=nd) g R h0 h1 D).2.2 with h|⟨k,hk,_⟩
   . exact h
   . rw [k0] at hk;cases hk
 have e4:(idl m rs r par dep nd c).sum=if 0<nd c then 0 else upT rs par c - 1:=by
   rw [mT g R h0 h1,e2,e3];split <;> omega
 refine ⟨e1,e2,e3 D,e4,?_⟩;unfold gK;rw [nu,e2,e3,e4];omega
theorem M8 (g:Good m rs) (R:Rooted m rs r par dep) (N:Nds m rs r par w nd) (r0:0<=r) (r1:r<m) (m3:szL m rs r par dep r<=3) (T:∀ v,0<=v->v<m->v≠r->(2<=upT rs par v/\upT rs par v<=4)/\2<=dnT rs par v/\dnT rs par v<=4) (wr:1<=w r) (W:∀ v,0<=v->v<m->w v<=2/\(szL m rs r par dep r=3->w v<=1)):(gld m rs r par dep nd r (-1)).sum+1<=40:=by
 rw [nu];have er:=N.st r r0 r1;have wr2:=W r r0 r1;obtain ⟨_,_,a3⟩:=pR (nd:=nd) g R r0 r1 (-1+nd r);have mul4:∀ {t z:Int},0<=t->t<=4->0<=z->0<=t*z/\t*z<=4*z:=fun t0 t4 z0=>⟨Int.mul_nonneg t0 z0,Int.mul_le_mul_of_nonneg_right t4 z0⟩;have mulR:∀ {t z:Int},0<=t->t<=4->0<=z->0<=z*t/\z*t<=4*z:=fun t0 t4 z0=>by rw [Int.mul_comm];exact mul4 t0 t4 z0
 rcases ul g R r0 r1 m3 with h|⟨c,h,e⟩|⟨a,b,h,ea,eb,e3⟩
 . have e2:idS m rs r par dep nd r=0:=by unfold idS;rw [h];rfl
   rw [h] at er;simp only [List.map_nil,List.sum_nil] at er;rcases a3 with z|⟨k,hk,_⟩
   . omega
   . rw [h] at hk;cases hk
 . have hk:c∈kd m rs r par r:=by rw [h];exact List.mem_cons_self
   obtain ⟨q,_⟩:=bT g R r0 r1 hk;have t:=T c q.1.1 q.1.2 q.2.1;have wc:=W c q.1.1 q.1.2;have n0:=N.nn c q.1.1 q.1.2;have w0:=N.w0 c q.1.1 q.1.2;have e2:idS m rs r par dep nd r=(idl m rs r par dep nd c).sum:=by unfold idS;rw [h];simp
   rw [h] at er;simp only [List.map_cons,List.map_nil,List.sum_cons,List.sum_nil] at er;have dm:=mulR (t:=dnT rs par c) (z:=nd c) (by omega) t.2.2 n0;have dz:-1+nd r - nd c*dnT rs par c+1=w r:=by omega
   have gk:gS m rs r par dep nd r (-1+nd r)=-1+nd r\/gS m rs r par dep nd r (-1+nd r)=gK m rs r par dep nd c (-1+nd r):=a3.imp id fun ⟨k,hk,z⟩=>by
     rw [h] at hk;rw [List.mem_singleton.mp hk] at z;exact z
   have um:=mul4 (t:=upT rs par c) (z:=w r) (by omega) t.1.2 (by omega);have ug:gK m rs r par dep nd c (-1+nd r)=idS m rs r par dep nd c+gS m rs r par dep nd c (upT rs par c*w r - 1+nd c) - (idl m rs r par dep nd c).sum:=by
     unfold gK;rw [dz,nu]
   rcases ul g R q.1.1 q.1.2 (by omega) with h'|⟨d,h',e'⟩|⟨_,_,_,_,_,_⟩
   . have s1:szL m rs r par dep c=1:=(by rw [B4 g R q.1.1 q.1.2,h'];rfl);obtain ⟨l1,l2,l3,l4,_⟩:=xE g R N q.1.1 q.1.2 q.2.1 s1 (upT rs par c*w r - 1+nd c);rw [l2,l3,l4] at ug;rw [e2,l4];rcases gk with z|z
     . rw [z];split <;> omega
     . rw [z,ug];split <;> omega
   . have hd:d∈kd m rs r par c:=(by rw [h'];exact List.mem_cons_self);obtain ⟨q',_⟩:=bT g R q.1.1 q.1.2 hd;have sd:szL m rs r par dep d=1:=by
       have:=EZ g R q'.1.1 q'.1.2;omega
     have s3:szL m rs r par dep r=3:=(by omega);have wr1:=wr2.2 s3;have wc1:=wc.2 s3;have wd1:=(W d q'.1.1 q'.1.2).2 s3;have td:=T d q'.1.1 q'.1.2 q'.2.1;have nd0:=N.nn d q'.1.1 q'.1.2;have w1:w r=1:=(by omega);rw [w1,Int.mul_one] at ug;have ec:=N.st c q.1.1 q.1.2;rw [h'] at ec;simp only [List.map_cons,List.map_nil,List.sum_cons,List.sum_nil] at ec;have dm':=mulR (t:=dnT rs par d) (z:=nd d) (by omega) td.2.2 nd0;obtain ⟨l1,l2,_,l4,l5⟩:=xE g R N q'.1.1 q'.1.2 q'.2.1 sd (upT rs par c - 1+nd c);have ic:idS m rs r par dep nd c=(idl m rs r par dep nd d).sum:=(by unfold idS;rw [h'];simp);have gc:∀ D,gS m rs r par dep nd c D=D\/gS m rs r par dep nd c D=gK m rs r par dep nd d D:=fun D=>(pR (nd:=nd) g R q.1.1 q.1.2 D).2.2.imp id fun ⟨k,hk,z⟩=>by
       rw [h'] at hk;rw [List.mem_singleton.mp hk] at z;exact z
     have zz:upT rs par c - 1+nd c - nd d*dnT rs par d+1=upT rs par c+w c:=(by omega);rw [zz] at l5;have um':=mul4 (t:=upT rs par d) (z:=upT rs par c+w c) (by omega) td.1.2 (by omega);have ib:0<=(idl m rs r par dep nd d).sum/\(idl m rs r par dep nd d).sum<=3:=(by rw [l4];split <;> omega);have gcb:gS m rs r par dep nd c (upT rs par c - 1+nd c)<=32:=by
       rcases gc (upT rs par c - 1+nd c) with z|z
       . omega
       . rw [z,l5];split <;> omega
     have nc5:nd c<=5:=(by omega);rw [e2];have il:=mT (nd:=nd) g R q.1.1 q.1.2;by_cases pos:0<nd c
     . rw [if_pos pos] at il;rcases gk with z|z
       . rw [z];omega
       . rw [z,ug];omega
     . rw [if_neg pos] at il;have nz:nd c=0:=(by omega);rw [nz] at il ug gcb;rcases gk with z|z
       . rw [z];omega
       . rw [z,ug];omega
   . omega
 . have ha:a∈kd m rs r par r:=by rw [h];exact List.mem_cons_self
   have hb:b∈kd m rs r par r:=by rw [h];exact List.mem_cons_of_mem _ List.mem_cons_self
   obtain ⟨qa,_⟩:=bT g R r0 r1 ha;obtain ⟨qb,_⟩:=bT g R r0 r1 hb;have ta:=T a qa.1.1 qa.1.2 qa.2.1;have tb:=T b qb.1.1 qb.1.2 qb.2.1;have wr1:=wr2.2 e3;have wa1:=(W a qa.1.1 qa.1.2).2 e3;have wb1:=(W b qb.1.1 qb.1.2).2 e3;have na:=N.nn a qa.1.1 qa.1.2;have nb:=N.nn b qb.1.1 qb.1.2;rw [h] at er;simp only [List.map_cons,List.map_nil,List.sum_cons,List.sum_nil] at er;obtain ⟨la1,la2,_,la4,la5⟩:=xE g R N qa.1.1 qa.1.2 qa.2.1 ea (-1+nd r);obtain ⟨lb1,lb2,_,lb4,lb5⟩:=xE g R N qb.1.1 qb.1.2 qb.2.1 eb (-1+nd r);have e2:idS m rs r par dep nd r=(idl m rs r par dep nd a).sum+(idl m rs r par dep nd b).sum:=by unfold idS;rw [h];simp
   have da:=mulR (t:=dnT rs par a) (z:=nd a) (by omega) ta.2.2 na;have db:=mulR (t:=dnT rs par b) (z:=nd b) (by omega) tb.2.2 nb;have za:-1+nd r - nd a*dnT rs par a+1=w r+nd b*dnT rs par b:=by omega
   have zb:-1+nd r - nd b*dnT rs par b+1=w r+nd a*dnT rs par a:=by omega
   rw [za] at la5;rw [zb] at lb5;have ua:=mul4 (t:=upT rs par a) (z:=w r+nd b*dnT rs par b) (by omega) ta.1.2 (by omega);have ub:=mul4 (t:=upT rs par b) (z:=w r+nd a*dnT rs par a) (by omega) tb.1.2 (by omega);have ia:0<=(idl m rs r par dep nd a).sum/\(idl m rs r par dep nd a).sum<=3:=by rw [la4];split <;> omega
   have ib:0<=(idl m rs r par dep nd b).sum/\(idl m rs r par dep nd b).sum<=3:=by rw [lb4];split <;> omega
   rw [e2];rcases a3 with z|⟨k,hk,z⟩
   . rw [z];omega
   . rw [h] at hk;rcases List.mem_cons.mp hk with hk|hk
     . rw [hk,la5] at z;rw [z];split <;> omega
     . rw [List.mem_singleton.mp hk,lb5] at z;rw [z];split <;> omega
end
end Pb
set_option Elab.async false
set_option linter.all false
set_option maxRecDepth 100000
set_option maxHeartbeats 4000000
namespace Pk
open PySem L2 Pb
seal L2.PSs L2.PS L2.PE L2.PT L2.PW L2.PA L2.PG L2.PGs L2.PI L2.PTs L2.PC L2.PPs L2.PO
abbrev top (i:Nat):Stmt:=Hd.top i
local macro_rules|`(tactic| walk_at "rd") => `(tactic| ((try dsimp only [tYes, QT, IQ, Oz, Ends.less, Cv, Ha, D6, Kn, Gx, Ou, P0, J8, CC, Nl, HY, MQ, Ia, Jr, OD, Hv, MN, LS, Ku, CF, JH, LU, OC, HH, tNext, D5, AV, Hs, Jd, gNil, MA, OB, HZ, QF, Oo, Oq, PY, ipI, Lj, I0, DF, tB, AK, tC, B8, tOp, tUn, rI0, rI, rU, rEq, rNe, IP, Iy, Ja, tNil, Mw, Om, tCB, tBM, K9, NT, LK, Nz, Oy, BU, Jk, IU, Jj, Ka, sF, JQ, tDNewT, LO, tOr, MI, Jb, QB, IX, tIf, List.nil_append, List.append_nil, List.set_cons_zero, List.set_cons_succ, List.getElem?_cons_zero, List.getElem?_cons_succ]);(try simp only [tYes, QT, IQ, Oz, Ends.less, Cv, Ha, D6, Kn, Gx, Ou, P0, J8, CC, Nl, HY, MQ, Ia, Jr, OD, Hv, MN, LS, Ku, CF, JH, LU, OC, HH, tNext, D5, AV, Hs, Jd, gNil, MA, OB, HZ, QF, Oo, Oq, PY, ipI, Lj, I0, DF, tB, AK, tC, B8, tOp, tUn, rI0, rI, rU, rEq, rNe, OP, OT, O8, OG, O6, O1, IP, Iy, Ja, tNil, Mw, Om, tCB, tBM, K9, NT, LK, Nz, Oy, BU, Jk, IU, Jj, Ka, sF, JQ, tDNewT, LO, tOr, MI, Jb, QB, IX, tIf, List.nil_append, List.append_nil, List.set_cons_zero, List.set_cons_succ, List.getElem?_cons_zero, List.getElem?_cons_succ, Option.some.injEq, V.int.injEq, V.bl.injEq, V.ref.injEq, List.cons.injEq, exists_eq_left, exists_eq_left', exists_and_left, exists_const, and_true, true_and, decide_eq_true_eq, Bool.not_eq_true', decide_eq_false_iff_not, Bool.true_eq_false, Bool.false_eq_true, if_true, if_false])))
set_option genSizeOf false in
set_option genInjectivity false in
structure Txt (K:PySem.W.Frag) (mg:Str->Option Value) where
 TollError:Addr
 QW:mg "TollError"=some (.ref TollError)
 BadWeb:Addr
 Rk:mg "BadWeb"=some (.ref BadWeb)
 NoPlace:Addr
 KL:mg "NoPlace"=some (.ref NoPlace)
 NoRoad:Addr
 LD:mg "NoRoad"=some (.ref NoRoad)
 BadWish:Addr
 Ko:mg "BadWish"=some (.ref BadWish)
 NoWorst:Addr
 KU:mg "NoWorst"=some (.ref NoWorst)
 Web:Addr
 Q2:mg "Web"=some (.ref Web)
 Outlook:Addr
 Kq:mg "Outlook"=some (.ref Outlook)
 QV:XTop K TollError
 Rs:XErr K TollError BadWeb
 Q7:XErr K TollError NoPlace
 JL:Be K NoPlace
 Rr:XErr K TollError NoRoad
 Nj:Be K NoRoad
 Q8:XErr K TollError BadWish
 JK:Be K BadWish
 Q6:XErr K TollError NoWorst
 KY:Be K NoWorst
 ndx:[TollError,BadWeb,NoPlace,NoRoad,BadWish,NoWorst].Nodup
 range:mg "range"=none
 zip:mg "zip"=none
 len:mg "len"=none
 isinstance:mg "isinstance"=none
 all:mg "all"=none
 int:mg "int"=none
 bool:mg "bool"=none
 tuple:mg "tuple"=none
 list:mg "list"=none
 reversed:mg "reversed"=none
 sorted:mg "sorted"=none
 min:mg "min"=none
 enumerate:mg "enumerate"=none
 sum:mg "sum"=none
 c_MOST_PLACES:∃ t,mg "MOST_PLACES"=some (.int 24 t)
 c_LEAST_TOLL:∃ t,mg "LEAST_TOLL"=some (.int 2 t)
 c_MOST_TOLL:∃ t,mg "MOST_TOLL"=some (.int 1000000 t)
 j3:Cls K Web
 n_many:NoAttr K Web "many"
 n_roads:NoAttr K Web "roads"
 bX:Cls K Outlook
 n_web:NoAttr K Outlook "web"
 xI:NoAttr K Outlook "needs"
 EY:NoAttr K Outlook "kids"
 n_idle:NoAttr K Outlook "idle"
section
variable {P:Program} {w:World} {K:PySem.W.Frag} {mg:Str->Option Value} {base:Heap} {CX:CXT}
def qD (T:Txt K mg):Sp:=fun vs H Q _=>∃ (m:Int) (t:Addr) (xs:List V),vs=[.int m,.ref t]/\SqT K H t xs/\1<=m/\m<=24/\(xs.length:Int)=m - 1/\Q .non H
abbrev bj:Stmt:=top 16
theorem AW:FnScope ["many","roads"] ["many","roads"] (aa bj):=FnScope.of (by kernel_rfl)
theorem lg:NmL (aa bj) "many":=.of (by kernel_rfl)
theorem sZ:NmL (aa bj) "roads":=.of (by kernel_rfl)
theorem g0:NmG (aa bj) "MOST_PLACES":=.of (by kernel_rfl)
theorem Gf:NmG (aa bj) "BadWeb":=.of (by kernel_rfl)
theorem iV:NmG (aa bj) "len":=.of (by kernel_rfl)
theorem AX (T:Txt K mg) (hq:aX (CXe P w)) {f:Addr} {fd:FuncData} (D:Df K mg "check_counts" bj ["many","roads"] f fd):FnOk P w K mg base (CXe P w) 1 f fd ["many","roads"] (qD T):=by
 refine D.F.okC AW (fun vs H Q E h=>?_) (fun cdv A outer s H vs Q E hr h=>?_)
 . obtain ⟨m,t,xs,rfl,_⟩:=h
   rfl
 . obtain ⟨m,t,xs,rfl,ht,h1,h2,hl,k⟩:=h;refine ⟨_,(ao (ce (m8 (DL AA AA au (pvl 0 lg) (zD g0.g T.c_MOST_PLACES (hd:=g0.d)))) (aq my) bo) (aq (ce (bn xJ (dR gI iV.g T.len p7 (ag (pvl 1 sZ) aj) (hn:=iV.n) (hdb:=iV.d)) (aF lp (pvl 0 lg) au) (bi _)) (aq my) bo))),?_⟩;rw [show L2.start ["many","roads"] [V.int m,V.ref t]=[some (V.int m),some (V.ref t)] from rfl];walk_at "rd";rw [if_pos h1,if_neg (by omega)];exact ⟨xs,.inr ht,by rw [if_neg (by omega)];exact k⟩
def rq (T:Txt K mg):Sp:=fun vs H Q _=>∃ m n:Int,vs=[.int m,.int n]/\Q (.bl (decide (0<=n) && decide (n<m))) H
abbrev dg:Stmt:=top 15
theorem Gs:FnScope ["many","number"] ["many","number"] (aa dg):=FnScope.of (by kernel_rfl)
theorem zu:NmL (aa dg) "many":=.of (by kernel_rfl)
theorem wW:NmL (aa dg) "number":=.of (by kernel_rfl)
theorem F5 (T:Txt K mg) (hq:aX (CXe P w)) {f:Addr} {fd:FuncData} (D:Df K mg "is_place" dg ["many","number"] f fd):FnOk P w K mg base (CXe P w) 1 f fd ["many","number"] (rq T):=by
 refine D.F.okC Gs (fun vs H Q E h=>?_) (fun cdv A outer s H vs Q E hr h=>?_)
 . obtain ⟨m,n,rfl,_⟩:=h
   rfl
 . obtain ⟨m,n,rfl,k⟩:=h;refine ⟨_,(aq (aO (Nf AA A5 au (pvl 1 wW) (pvl 0 zu)))),?_⟩;rw [show L2.start ["many","number"] [V.int m,V.int n]=[some (V.int m),some (V.int n)] from rfl];walk_at "rd";by_cases c:0<=n
   . simpa [c] using k
   . simpa [c] using k
def vA (T:Txt K mg):Sp:=fun vs H Q _=>∃ (m:Int) (p:Addr) (r:Road),vs=[.int m,.ref p]/\H p=some (.tup (mY r))/\0<=r.a/\r.a<m/\0<=r.b/\r.b<m/\r.a≠r.b/\Q .non H
abbrev bZ:Stmt:=top 17
theorem Du:FnScope ["many","road"] ["many","road"] (aa bZ):=FnScope.of (by kernel_rfl)
theorem nD:NmL (aa bZ) "many":=.of (by kernel_rfl)
theorem fP:NmL (aa bZ) "road":=.of (by kernel_rfl)
theorem dY:NmG (aa bZ) "is_place":=.of (by kernel_rfl)
theorem Jl:NmG (aa bZ) "BadWeb":=.of (by kernel_rfl)
theorem Dl (T:Txt K mg) (hq:aX (CXe P w)) {f:Addr} {fd:FuncData} (D:Df K mg "check_ends" bZ ["many","road"] f fd) {d7:Addr} {j1:FuncData} (b8:Df K mg "is_place" dg ["many","number"] d7 j1) (G_is_place:FnOk P w K mg base (CXe P w) 1 d7 j1 ["many","number"] (rq T)):FnOk P w K mg base (CXe P w) 2 f fd ["many","road"] (vA T):=by
 refine D.F.okC Du (fun vs H Q E h=>?_) (fun cdv A outer s H vs Q E hr h=>?_)
 . obtain ⟨m,p,r,rfl,_⟩:=h
   rfl
 . obtain ⟨m,p,r,rfl,hp,a0,a1,b0,b1,ne,k⟩:=h;refine ⟨_,(ao (ce (PW.pt (DD (m8 (mZ (aw G_is_place (hr.mono (by decide)) dY.g b8.m b8.F.kp b8.b .nil (aY hq) (ag (pvl 0 nD) (ag (bA jp (pvl 1 fP) au (fun _ _=>rfl)) aj)) (hdb:=dY.d)))) (J0 (m8 (mZ (aw G_is_place (hr.mono (by decide)) dY.g b8.m b8.F.kp b8.b .nil (aY hq) (ag (pvl 0 nD) (ag (bA jp (pvl 1 fP) au (fun _ _=>rfl)) aj)) (hdb:=dY.d))))))) (aq my) bo) (aq (ce (bn jQ (bA jp (pvl 1 fP) au (fun _ _=>rfl)) (bA jp (pvl 1 fP) au (fun _ _=>rfl)) (bi _)) (aq my) bo))),?_⟩;rw [show L2.start ["many","road"] [V.int m,V.ref p]=[some (V.int m),some (V.ref p)] from rfl];walk_at "rd";refine ixT hp rfl ⟨m,r.a,rfl,_,rfl,?_⟩;rw [if_neg (by simp [a0,a1])];refine ixT hp rfl ⟨m,r.b,rfl,_,rfl,?_⟩;rw [if_neg (by simp [b0,b1])];refine ixT hp rfl (ixT hp rfl ⟨rfl,?_⟩);rw [if_neg (by simpa using ne)];exact k
def nZ (T:Txt K mg):Sp:=fun vs H Q _=>∃ (t:Addr) (ps:List Addr) (rs:List Road) (n:Int),vs=[.ref t,.int n]/\SqT K H t (ps.map V.ref)/\RoadsAt H ps rs/\rs.length<=1000 /\
 ∀ l H',H l=none->Same H H'->H' l=some (.lst ((b7 rs n).map V.int))->Q (.ref l) H'
abbrev bP:Stmt:=top 20
theorem nX:FnScope ["roads","place","ends","road"] ["roads","place"] (aa bP):=FnScope.of (by kernel_rfl)
theorem vH:NmL (aa bP) "roads":=.of (by kernel_rfl)
theorem mh:NmL (aa bP) "place":=.of (by kernel_rfl)
theorem fT:NmL (aa bP) "ends":=.of (by kernel_rfl)
theorem eF:NmL (aa bP) "road":=.of (by kernel_rfl)
theorem Dr (T:Txt K mg) (hq:aX (CXe P w)) {f:Addr} {fd:FuncData} (D:Df K mg "other_ends" bP ["roads","place"] f fd):FnOk P w K mg base (CXe P w) 1 f fd ["roads","place"] (nZ T):=by
 refine D.F.okC nX (fun vs H Q E h=>?_) (fun cdv A outer s H vs Q E hr h=>?_)
 . obtain ⟨t,ps,rs,n,rfl,_⟩:=h
   rfl
 . obtain ⟨t,ps,rs,n,rfl,ht,hp,hl,k⟩:=h;refine ⟨_,(ao (aI (i:=2) nX.nd rfl (Or.inl fT.l) (d8 aj)) (ao (dL PassesOwn.never rfl (vW (pvl 0 vH)) (aG (i:=3) nX.nd rfl (Or.inl eF.l)) (ao (ce (bn jQ (bA jp (pvl 3 eF) au (fun _ _=>rfl)) (pvl 1 mh) (bi _)) (aq (cX (oA PySem.F.plainAttrs_list PySem.F.slot_list_append PySem.F.type_list_append fb (pvl 2 fT) (ag (bA jp (pvl 3 eF) au (fun _ _=>rfl)) aj)))) bo) (aq (ce (bn jQ (bA jp (pvl 3 eF) au (fun _ _=>rfl)) (pvl 1 mh) (bi _)) (aq (cX (oA PySem.F.plainAttrs_list PySem.F.slot_list_append PySem.F.type_list_append fb (pvl 2 fT) (ag (bA jp (pvl 3 eF) au (fun _ _=>rfl)) aj)))) bo)))) (aq (aO (pvl 2 fT))))),?_⟩;rw [show L2.start ["roads","place","ends","road"] [V.ref t,V.int n]=[some (V.ref t),some (V.int n),none,none] from rfl];walk_at "rd";refine ⟨by decide,fun l hn=>?_⟩;have hlen:ps.length=rs.length:=Paired.length hp;refine ⟨⟨_,Same.tup (Same.new _ hn) ht⟩,BP (xs:=ps.map V.ref) (fun i σ H2=>H2=upd H l (.lst ((b7 (rs.take i) n).map V.int))/\∃ v,σ=[some (.ref t),some (.int n),some (.ref l),v]) ⟨rfl,_,rfl⟩ (fun i σ H2 _ z=>by rw [z.1];exact Same.tup (Same.new _ hn) ht) ?_ ?_⟩
   . rintro i x σ H2 hi ⟨rfl,v,rfl⟩;obtain ⟨p,r,rfl,h1,h2,h3⟩:=hp.get hi;have np:p≠l:=bc h3 hn;have hil:i<rs.length:=(List.getElem?_eq_some_iff.mp h2).1;have et:rs.take (i+1)=rs.take i++[r]:=(by rw [List.take_succ,h2];rfl);have hb:(b7 (rs.take i) n).length<=2000:=Nat.le_trans (DS _ _) (by rw [List.length_take];omega);have hx:∀ o,upd H l o p=some (.tup (mY r)):=fun o=>by rw [ap np];exact h3
     walk_at "rd";refine ixT (hx _) rfl ?_;walk_at "rd";have fin:∀ (ys:List Int),(b7 (rs.take i) n++ys)=b7 (rs.take (i+1)) n->upd H l (.lst ((b7 (rs.take i) n).map V.int++ys.map V.int))=upd H l (.lst ((b7 (rs.take (i+1)) n).map V.int)):=fun ys e=>by
       rw [<- List.map_append,e]
     have e1:qI n r=(if r.a=n then [r.b] else [])++(if r.b=n then [r.a] else []):=rfl;by_cases ca:r.a=n
     . rw [if_pos ca];refine ⟨tyL ah,ixT (hx _) rfl (tG ah (dI (by rw [List.length_map];omega)) ?_)⟩;rw [oM];refine ixT (hx _) rfl ?_;walk_at "rd";by_cases cb:r.b=n
       . rw [if_pos cb];refine ⟨tyL ah,ixT (hx _) rfl (tG ah (dI (by rw [List.length_append,List.length_map];simp;omega)) ?_)⟩;rw [oM,List.append_assoc];exact ⟨fin [r.b,r.a] (by rw [et,qN,e1,if_pos ca,if_pos cb];rfl),_,rfl⟩
       . rw [if_neg cb];exact ⟨fin [r.b] (by rw [et,qN,e1,if_pos ca,if_neg cb];rfl),_,rfl⟩
     . rw [if_neg ca];refine ixT (hx _) rfl ?_;walk_at "rd";by_cases cb:r.b=n
       . rw [if_pos cb];refine ⟨tyL ah,ixT (hx _) rfl (tG ah (dI (by rw [List.length_map];omega)) ?_)⟩;rw [oM];exact ⟨fin [r.a] (by rw [et,qN,e1,if_neg ca,if_pos cb];rfl),_,rfl⟩
       . rw [if_neg cb];have:=fin [] (by rw [et,qN,e1,if_neg ca,if_neg cb];rfl);rw [List.map_nil,List.append_nil] at this;exact ⟨this,_,rfl⟩
   . rintro σ H2 ⟨rfl,v,rfl⟩;rw [List.length_map,hlen,List.take_length];exact ⟨_,rfl,k l _ hn (Same.new _ hn) ah⟩
def jO (ks:List Int):List (Key × V):=ks.map fun k=>((Sum.inl k:Key),V.bl true)
theorem C3 (ks:List Int):(jO ks).length=ks.length:=by unfold jO;rw [List.length_map]
theorem FY (ks:List Int) (e:Int):c7 (jO ks) (Sum.inl e:Key)=if e∈ks then some (V.bl true) else none:=by
 unfold jO
 induction ks with
 | nil=>rfl
 | cons k ks ih =>
   rw [List.map_cons];by_cases c:k=e
   . rw [eM (by rw [c]),if_pos (by rw [c];exact List.mem_cons_self)]
   . rw [eO (fun z=>c (Sum.inl.inj z)),ih];by_cases d:e∈ks
     . rw [if_pos d,if_pos (List.mem_cons_of_mem _ d)]
     . rw [if_neg d,if_neg (fun z=>by rcases List.mem_cons.mp z with z|z;exact c z.symm;exact d z)]
theorem K0 {ks:List Int} {e:Int} (h:e ∉ ks):dW (jO ks) (Sum.inl e:Key) (V.bl true)=jO (ks++[e]):=by
 rw [Ol _ (by rw [FY,if_neg h])];unfold jO;rw [List.map_append]
 rfl
def qY (T:Txt K mg):Sp:=fun vs H Q _=>∃ (m:Int) (t:Addr) (ps:List Addr) (rs:List Road),vs=[.int m,.ref t]/\SqT K H t (ps.map V.ref)/\RoadsAt H ps rs/\Good m rs/\∀ H',Same H H'->Q .non H'
abbrev aM:Stmt:=top 19
theorem fU:FnScope ["many","roads","reached","waiting","place","end"] ["many","roads"] (aa aM):=FnScope.of (by kernel_rfl)
theorem tH:NmL (aa aM) "many":=.of (by kernel_rfl)
theorem ss:NmL (aa aM) "roads":=.of (by kernel_rfl)
theorem dE:NmL (aa aM) "reached":=.of (by kernel_rfl)
theorem dF:NmL (aa aM) "waiting":=.of (by kernel_rfl)
theorem kO:NmL (aa aM) "place":=.of (by kernel_rfl)
theorem fH:NmL (aa aM) "end":=.of (by kernel_rfl)
theorem iy:NmG (aa aM) "other_ends":=.of (by kernel_rfl)
theorem iP:NmG (aa aM) "len":=.of (by kernel_rfl)
theorem F2:NmG (aa aM) "BadWeb":=.of (by kernel_rfl)
theorem z3 (T:Txt K mg) (hq:aX (CXe P w)) {f:Addr} {fd:FuncData} (D:Df K mg "check_joined" aM ["many","roads"] f fd) {cP:Addr} {iq:FuncData} (cu:Df K mg "other_ends" bP ["roads","place"] cP iq) (G_other_ends:FnOk P w K mg base (CXe P w) 1 cP iq ["roads","place"] (nZ T)):FnOk P w K mg base (CXe P w) 2 f fd ["many","roads"] (qY T):=by
 refine D.F.okC fU (fun vs H Q E h=>?_) (fun cdv A outer s H vs Q E hr h=>?_)
 . obtain ⟨m,t,ps,rs,rfl,_⟩:=h
   rfl
 . obtain ⟨m,t,ps,rs,rfl,ht,hp,g,k⟩:=h;have hu:=DC hr;refine ⟨_,(ao (aI (i:=2) fU.nd rfl (Or.inl dE.l) (ON (LB au xR O4) rfl rfl (List.cons_ne_nil _ _) (by decide))) (ao (aI (i:=3) fU.nd rfl (Or.inl dF.l) (d8 (ag au aj))) (ao (uD PassesOwn.never (zj (pvl 3 dF) (fun _=>rfl)) (ao (aI (i:=4) fU.nd rfl (Or.inl kO.l) (E1 PySem.F.plainAttrs_list PySem.F.slot_list_pop PySem.F.type_list_pop EN (pvl 3 dF))) (aq (dL PassesOwn.never rfl (gQ (aw G_other_ends (hr.mono (by decide)) iy.g cu.m cu.F.kp cu.b .nil (aY hq) (ag (pvl 1 ss) (ag (pvl 4 kO) aj)) (hdb:=iy.d))) (aG (i:=5) fU.nd rfl (Or.inl fH.l)) (aq (ce (A3 (KF hu (pvl 5 fH) (pvl 2 dE))) (ao (BM hu (pvl 2 dE) (pvl 5 fH) xR rfl) (aq (cX (oA PySem.F.plainAttrs_list PySem.F.slot_list_append PySem.F.type_list_append fb (pvl 3 dF) (ag (pvl 5 fH) aj))))) bo)))))) (aq (ce (bn xJ (dR JT iP.g T.len p7 (ag (pvl 2 dE) aj) (hn:=iP.n) (hdb:=iP.d)) (pvl 0 tH) (bi _)) (aq my) bo))))),?_⟩;rw [show L2.start ["many","roads","reached","waiting","place","end"] [V.int m,V.ref t]=[some (V.int m),some (V.ref t),none,none,none,none] from rfl];have m1:=g.m1;have m24:=g.m24;have glen:=g.len;walk_at "rd";intro d hd;refine ⟨ah,[(Sum.inl 0,.bl true)],rfl,by decide,?_⟩;rw [oM];refine ⟨by decide,fun w0 hw=>?_⟩;have ed:sk [] [((Sum.inl 0:Key),V.bl true)]=jO [0]:=rfl;rw [ed];have ndw:w0≠d:=fun z=>by rw [z,ah] at hw;cases hw
   have hw0:H w0=none:=by rw [ap ndw] at hw;exact hw
   refine BL (fun n σ H2=>∃ (ks ws:List Int) (v4 v5:Option V),n=2*(m.toNat - ks.length)+ws.length/\σ=[some (.int m),some (.ref t),some (.ref d),some (.ref w0),v4,v5]/\Same H H2/\H2 d=some (.dK (jO ks))/\H2 w0=some (.lst (ws.map V.int))/\JInv m rs ks ws) _ ⟨[0],[0],none,none,rfl,rfl,?_,?_,ah,JInv.start m1⟩ ?_
   . exact Same.trans (Same.new _ hd) (Same.new _ hw)
   . rw [ap ndw.symm,ah]
   rintro n σ H2 NW hN hN2 ⟨ks,ws,v4,v5,rfl,rfl,sm,h1,h2,J⟩;have kl:=cL (by omega) J.nd J.rng;refine ⟨_,rfl,!(ws.map V.int).isEmpty,.inl ⟨_,SqL.of h2,rfl⟩,?_⟩;rcases List.eq_nil_or_concat ws with rfl|⟨ws',p,rfl⟩
   . -- nothing waits: all places have been reached
     have full:=J.all m1 g.jn;refine Q9 ?_;walk_at "rd";refine ⟨jO ks,h1,?_⟩;rw [C3,if_neg (by omega)];exact k _ sm
   . rw [List.concat_eq_append] at J h2 hN hN2 ⊢;have e1:(!(List.map V.int (ws'++[p])).isEmpty)=true:=(by simp);rw [e1];refine Rq ⟨NW,hN2,?_⟩;walk_at "rd";rw [List.map_append,List.map_cons,List.map_nil] at h2;refine ⟨tyL h2,Mi h2 ?_⟩;have ndw':d≠w0:=ndw.symm;have sm2:Same H (upd H2 w0 (.lst (ws'.map V.int))):=fun b o e=>by rw [ap (bc e hw0)];exact sm b o e
     refine ⟨t,ps,rs,p,rfl,Same.tup sm2 ht,RoadsAt.same sm2 hp,by omega,fun l H3 hn s3 hl=>?_⟩;have nlw:w0≠l:=bc (o:=.lst (ws'.map V.int)) ah hn;have nld:d≠l:=bc (o:=.dK (jO ks)) (by rw [ap ndw'];exact h1) hn;have hl0:H l=none:=sm2.free hn;refine ⟨l,rfl,⟨_,SqL.of hl⟩,wL (K:=K) (xs:=(b7 rs p).map V.int) (fun i σ H4=>∃ (v5:Option V),σ=[some (.int m),some (.ref t),some (.ref d),some (.ref w0),some (.int p),v5]/\Same H H4/\H4 l=some (.lst ((b7 rs p).map V.int)) /\
       ∃ ks4 ws4:List Int,H4 d=some (.dK (jO ks4))/\H4 w0=some (.lst (ws4.map V.int))/\JMid m rs p ((b7 rs p).take i) ks4 ws4 ks ws'.length) ?_ (fun i σ H4 _ z=>by obtain ⟨_,_,_,z,_⟩:=z;exact SqL.of z) ?_ ?_⟩
     . refine ⟨_,rfl,sm2.trans s3,hl,ks,ws',?_,?_,?_⟩
       . exact s3 _ _ (by rw [ap ndw'];exact h1)
       . exact s3 _ _ ah
       . rw [List.take_zero];exact JMid.start J
     . rintro i x σ H4 NI hI hi ⟨v5,rfl,s4,hl4,ks4,ws4,hd4,hw4,M⟩;rw [List.getElem?_map] at hi;obtain ⟨e,he,rfl⟩:∃ e,(b7 rs p)[i]?=some e/\V.int e=x:=by
         cases q:(b7 rs p)[i]? with
         | none=>rw [q] at hi;cases hi
         | some e=>rw [q] at hi;exact ⟨e,rfl,Option.some.inj hi⟩
       have er:=MV g.ok (List.mem_of_getElem? he);have et:(b7 rs p).take (i+1)=(b7 rs p).take i++[e]:=(by rw [List.take_succ,he];rfl);have st:=M.step er.1 er.2;have k4:=cL (by omega) M.nd M.rng;have mu4:=M.mu;walk_at "rd";refine ⟨_,DGet.k (k:=Sum.inl e) hd4,?_⟩;rw [FY];by_cases c:e∈ks4
       . rw [if_pos c];rw [if_neg (by simp)];refine hI _ _ ⟨_,rfl,s4,hl4,ks4,ws4,hd4,hw4,?_⟩;rw [et];unfold Aj at st;rw [if_pos c] at st;exact st
       . rw [if_neg c];rw [if_pos (by simp)];refine ⟨_,DPut.k (k:=Sum.inl e) hd4 (dI (by rw [C3];omega)),?_⟩;rw [K0 c];have hw5:upd H4 d (.dK (jO (ks4++[e]))) w0=some (.lst (ws4.map V.int)):=(by rw [ap ndw];exact hw4);refine ⟨tyL hw5,tG hw5 (dI (by rw [List.length_map];have:=M.wl;omega)) ?_⟩;have hmid:=M.mu;refine hI _ _ ⟨_,rfl,fun b o z=>?_,?_,ks4++[e],ws4++[e],?_,?_,?_⟩
         . rw [ap (bc z hw0),ap (bc z hd)];exact s4 b o z
         . rw [ap nlw.symm,ap nld.symm];exact hl4
         . rw [ap ndw',ah]
         . rw [ah,List.map_append];rfl
         . rw [et];unfold Aj at st;rw [if_neg c] at st;exact st
     . rintro σ H4 ⟨v5,rfl,s4,hl4,ks4,ws4,hd4,hw4,M⟩;rw [List.length_map,List.take_length] at M;have k4:=cL (by omega) M.nd M.rng;have mu4:=M.mu;have up4:=M.up;refine hN _ _ _ ?_ ⟨ks4,ws4,some (.int p),v5,rfl,rfl,s4,hd4,hw4,M.done⟩;rw [List.length_append];simp only [List.length_cons,List.length_nil];omega
def sV (T:Txt K mg):Sp:=fun vs H Q _=>∃ (p:Addr) (r:Road),vs=[.ref p]/\H p=some (.tup (mY r))/\2<=r.t/\r.t<=1000000/\2<=r.u/\r.u<=1000000/\∀ H',Same H H'->Q .non H'
abbrev bE:Stmt:=top 18
theorem sC:FnScope ["road","number"] ["road"] (aa bE):=FnScope.of (by kernel_rfl)
theorem me:NmL (aa bE) "road":=.of (by kernel_rfl)
theorem kN:NmL (aa bE) "number":=.of (by kernel_rfl)
theorem ja:NmG (aa bE) "LEAST_TOLL":=.of (by kernel_rfl)
theorem jv:NmG (aa bE) "MOST_TOLL":=.of (by kernel_rfl)
theorem GW:NmG (aa bE) "BadWeb":=.of (by kernel_rfl)
theorem BK (T:Txt K mg) (hq:aX (CXe P w)) {f:Addr} {fd:FuncData} (D:Df K mg "check_tolls" bE ["road"] f fd):FnOk P w K mg base (CXe P w) 1 f fd ["road"] (sV T):=by
 refine D.F.okC sC (fun vs H Q E h=>?_) (fun cdv A outer s H vs Q E hr h=>?_)
 . obtain ⟨p,r,rfl,_⟩:=h
   rfl
 . obtain ⟨p,r,rfl,hp,t0,t1,u0,u1,k⟩:=h;refine ⟨_,(aq (dL PassesOwn.never rfl (vW (iz (ag (bA jp (pvl 0 me) au (fun _ _=>rfl)) (ag (bA jp (pvl 0 me) au (fun _ _=>rfl)) aj)))) (aG (i:=1) sC.nd rfl (Or.inl kN.l)) (aq (ce (m8 (DL AA AA (zD ja.g T.c_LEAST_TOLL (hd:=ja.d)) (pvl 1 kN) (zD jv.g T.c_MOST_TOLL (hd:=jv.d)))) (aq my) bo)))),?_⟩;rw [show L2.start ["road","number"] [V.ref p]=[some (V.ref p),none] from rfl];walk_at "rd";refine ixT hp rfl (ixT hp rfl ⟨bK (by simp),fun q hn=>?_⟩);have e1:upd H q (.tup [.int r.t,.int r.u]) q=some (.tup [.int r.t,.int r.u]):=ah;refine ⟨⟨_,SqT.of e1⟩,BP (K:=K) (xs:=[.int r.t,.int r.u]) (fun i σ H2=>H2=upd H q (.tup [.int r.t,.int r.u])/\∃ v,σ=[some (.ref p),v]) ⟨rfl,_,rfl⟩ (fun i σ H2 _ z=>by rw [z.1];exact SqT.of e1) ?_ ?_⟩
   . rintro i x σ H2 hi ⟨rfl,v,rfl⟩;have hx:∃ n:Int,x=.int n/\2<=n/\n<=1000000:=by
       match i,hi with
       | 0,hi=>exact ⟨r.t,by simpa using hi.symm,t0,t1⟩
       | 1,hi=>exact ⟨r.u,by simpa using hi.symm,u0,u1⟩
     obtain ⟨n,rfl,n0,n1⟩:=hx;walk_at "rd";rw [if_pos n0,if_neg (by omega)];exact ⟨_,rfl⟩
   . rintro σ H2 ⟨rfl,v,rfl⟩;exact k _ (Same.new _ hn)
/-- the attributes of a web -/
def zR (m:Int) (t:Addr):List (Str × V):=aR "roads" (.ref t) (aR "many" (.int m) [])
theorem Q3:¬ (("many":Str)="roads"):=by decide +kernel
theorem kY (m:Int) (t:Addr):(zR m t).lookup ("many":Str)=some (.int m):=by
 unfold zR;rw [bG,if_neg Q3,bG,if_pos rfl]
theorem yo (m:Int) (t:Addr):(zR m t).lookup ("roads":Str)=some (.ref t):=by
 unfold zR;rw [bG,if_pos rfl]
/-- a web of m places and the roads rs stands at p,its tuple at t,the roads' tuples at ps -/
structure WebAt (C:Addr) (H:Hp) (p:Addr) (m:Int) (t:Addr) (ps:List Addr) (rs:List Road):Prop where
 ob:∃ dx,H p=some (.ins C dx (zR m t))
 tu:H t=some (.tup (ps.map V.ref))
 ro:RoadsAt H ps rs
 go:Good m rs
theorem WebAt.same {C:Addr} {H H':Hp} {p:Addr} {m:Int} {t:Addr} {ps:List Addr} {rs:List Road} (e:Same H H') (h:WebAt C H p m t ps rs):WebAt C H' p m t ps rs :=
 ⟨let ⟨dx,q⟩:=h.ob;⟨dx,e _ _ q⟩,e _ _ h.tu,RoadsAt.same e h.ro,h.go⟩
def lW (T:Txt K mg):Sp:=fun vs H Q _=>∃ (p dx:Addr) (m:Int) (c:Bool) (a:Addr) (ps:List Addr) (rs:List Road),vs=[.ref p,.int m,.ref a]/\H p=some (.ins T.Web dx [])/\SqX K c H a (ps.map V.ref)/\RoadsAt H ps rs/\Good m rs /\
 ∀ t H',H t=none->WebAt T.Web H' p m t ps rs->(∀ b o,H b=some o->b≠p->H' b=some o)->Q .non H'
abbrev aL:Stmt:=GF (top 11) 0
theorem lX:FnScope ["self","many","roads","kept","road"] ["self","many","roads"] (aa aL):=FnScope.of (by kernel_rfl)
theorem kW:NmL (aa aL) "self":=.of (by kernel_rfl)
theorem eY:NmL (aa aL) "many":=.of (by kernel_rfl)
theorem sB:NmL (aa aL) "roads":=.of (by kernel_rfl)
theorem c9:NmL (aa aL) "kept":=.of (by kernel_rfl)
theorem hV:NmL (aa aL) "road":=.of (by kernel_rfl)
theorem gN:NmG (aa aL) "tuple":=.of (by kernel_rfl)
theorem gr:NmG (aa aL) "check_counts":=.of (by kernel_rfl)
theorem iw:NmG (aa aL) "check_ends":=.of (by kernel_rfl)
theorem gY:NmG (aa aL) "check_tolls":=.of (by kernel_rfl)
theorem gC:NmG (aa aL) "check_joined":=.of (by kernel_rfl)
theorem AE (T:Txt K mg) (hq:aX (CXe P w)) {f:Addr} {fd:FuncData} (F:Fun K "__init__" "Web.__init__" aL f fd) {dX:Addr} {qU:FuncData} (ff:Df K mg "check_counts" bj ["many","roads"] dX qU) (G_check_counts:FnOk P w K mg base (CXe P w) 1 dX qU ["many","roads"] (qD T)) {fk:Addr} {vx:FuncData} (gF:Df K mg "check_ends" bZ ["many","road"] fk vx) (G_check_ends:FnOk P w K mg base (CXe P w) 2 fk vx ["many","road"] (vA T)) {dP:Addr} {qK:FuncData} (fg:Df K mg "check_joined" aM ["many","roads"] dP qK) (G_check_joined:FnOk P w K mg base (CXe P w) 2 dP qK ["many","roads"] (qY T)) {eN:Addr} {tf:FuncData} (fL:Df K mg "check_tolls" bE ["road"] eN tf) (G_check_tolls:FnOk P w K mg base (CXe P w) 1 eN tf ["road"] (sV T)):FnOk P w K mg base (CXe P w) 3 f fd ["self","many","roads"] (lW T):=by
 refine F.okC lX (fun vs H Q E h=>?_) (fun cdv A outer s H vs Q E hr h=>?_)
 . obtain ⟨p,dx,m,c,a,ps,rs,rfl,_⟩:=h
   rfl
 . obtain ⟨p,dx,m,c,a,ps,rs,rfl,hp,ha,hro,g,k⟩:=h;refine ⟨_,(ao (aI (i:=3) lX.nd rfl (Or.inl c9.l) (jJ kb gN.g T.tuple tz (ag (mF rfl (zo (Nc:=["road"]) 1 (by decide +kernel) (by decide +kernel) rfl (by decide +kernel) rfl) (JN c (pvl 2 sB)) (fun _ _ _ _=>(aG (i:=0) (show (["road"]:List Str).Nodup from by decide +kernel) rfl (Or.inl rfl))) (fun _ _ _ _=>oJ) (fun _ _ _ _=>(jJ (Bs K rfl) (by rfl) T.tuple tz (ag (pv 0) aj)))) aj) (hn:=gN.n) (hdb:=gN.d))) (ao (cX (aw G_check_counts (hr.mono (by decide)) gr.g ff.m ff.F.kp ff.b .nil (aY hq) (ag (pvl 1 eY) (ag (pvl 3 c9) aj)) (hdb:=gr.d))) (ao (dL PassesOwn.never rfl (vW (pvl 3 c9)) (aG (i:=4) lX.nd rfl (Or.inl hV.l)) (ao (cX (aw G_check_ends (hr.mono (by decide)) iw.g gF.m gF.F.kp gF.b .nil (aY hq) (ag (pvl 1 eY) (ag (pvl 4 hV) aj)) (hdb:=iw.d))) (aq (cX (aw G_check_tolls (hr.mono (by decide)) gY.g fL.m fL.F.kp fL.b .nil (aY hq) (ag (pvl 4 hV) aj) (hdb:=gY.d)))))) (ao (cX (aw G_check_joined (hr.mono (by decide)) gC.g fg.m fg.F.kp fg.b .nil (aY hq) (ag (pvl 1 eY) (ag (pvl 3 c9) aj)) (hdb:=gC.d))) (ao (r9 (pvl 0 kW) (pvl 1 eY) rfl) (aq (r9 (pvl 0 kW) (pvl 3 c9) rfl))))))),?_⟩;rw [show L2.start ["self","many","roads","kept","road"] [V.ref p,V.int m,V.ref a]=[some (V.ref p),some (V.int m),some (V.ref a),none,none] from rfl];walk_at "rd";refine ⟨⟨_,ha⟩,fun l hl=>?_⟩;have hlen:ps.length=rs.length:=Paired.length hro;have glen:=g.len;have m24:=g.m24;have hl1:Same H (upd H l (.lst [])):=Same.new _ hl;refine uQ (K:=K) (xs:=ps.map V.ref) (fun i ys σ H2=>H2=upd H l (.lst ((ps.take i).map V.ref))/\ys=(ps.take i).map V.ref/\∃ v,σ=[v]) ⟨rfl,rfl,_,rfl⟩ (fun i ys σ H2 _ ⟨z,_⟩=>by rw [z];exact Same.sqX (Same.new _ hl) ha) ?_ ?_
   . rintro i x ys σ H2 N hN hi ⟨rfl,rfl,v,rfl⟩;obtain ⟨q,r,rfl,h1,h2,h3⟩:=hro.get hi;have nq:q≠l:=bc h3 hl;have hil:i<ps.length:=(List.getElem?_eq_some_iff.mp h1).1;have et:ps.take (i+1)=ps.take i++[q]:=(by rw [List.take_succ,h1];rfl);walk_at "rd";refine ⟨mY r,.inr ⟨SqT.of (by rw [ap nq];exact h3),ah,dI (by rw [List.length_map,List.length_take];omega),hN _ _ _ ⟨?_,?_,_,rfl⟩⟩⟩
     . rw [oM,et,List.map_append];rfl
     . rw [et,List.map_append];rfl
   . rintro ys σ H2 ⟨rfl,rfl,v,rfl⟩;rw [List.length_map,List.take_length];refine ⟨l,rfl,ps.map V.ref,.inl ⟨SqL.of ah,fun t ht=>?_⟩⟩;have s1:Same H (upd H l (.lst (ps.map V.ref))):=Same.new _ hl;have s2:Same (upd H l (.lst (ps.map V.ref))) (upd (upd H l (.lst (ps.map V.ref))) t (.tup (ps.map V.ref))):=Same.new _ ht;have ht0:H t=none:=s1.free ht;have ht1:∀ {H':Hp},Same (upd (upd H l (.lst (ps.map V.ref))) t (.tup (ps.map V.ref))) H'->H' t=some (.tup (ps.map V.ref)):=fun e=>e _ _ ah;refine ⟨m,t,ps.map V.ref,rfl,SqT.of ah,g.m1,g.m24,by rw [List.length_map];omega,⟨_,SqT.of ah⟩,?_⟩;refine FJ (K:=K) (xs:=ps.map V.ref) (fun i σ H3=>Same (upd (upd H l (.lst (ps.map V.ref))) t (.tup (ps.map V.ref))) H3/\∃ v,σ=[some (.ref p),some (.int m),some (.ref a),some (.ref t),v]) ⟨Same.refl _,_,rfl⟩ (fun i σ H3 _ ⟨z,_⟩=>SqT.of (ht1 z)) ?_ ?_
     . rintro i x σ H3 N hN hi ⟨s3,v,rfl⟩;have s03:=s1.trans (s2.trans s3);obtain ⟨q,r,rfl,h1,h2,h3⟩:=hro.get hi;have ok:=g.ok r (List.mem_of_getElem? h2);walk_at "rd";refine ⟨m,q,r,rfl,s03 _ _ h3,ok.a0,ok.a1,ok.b0,ok.b1,ok.ne,?_⟩;exact ⟨q,r,rfl,s03 _ _ h3,ok.t0,ok.t1,ok.u0,ok.u1,fun H4 s4=>hN _ _ ⟨s3.trans s4,_,rfl⟩⟩
     . rintro σ H3 ⟨s3,v,rfl⟩;have s03:=s1.trans (s2.trans s3);walk_at "rd";refine ⟨m,t,ps,rs,rfl,SqT.of (ht1 s3),RoadsAt.same s03 hro,g,fun H4 s4=>?_⟩;have s04:=s03.trans s4;have ntp:t≠p:=fun z=>by rw [z,hp] at ht0;cases ht0
       refine ⟨T.Web,dx,[],s04 _ _ hp,T.j3,T.n_many,by decide,?_⟩;refine ⟨T.Web,dx,_,ah,T.j3,T.n_roads,by show 1<1000;decide,?_⟩;rw [oM];refine k t _ ht0 ⟨⟨dx,ah⟩,?_,?_,g⟩ fun b o hb nb=>?_
       . rw [ap ntp];exact ht1 (s3.trans s4)
       . refine Paired.imp' (fun q r hq=>?_) hro;rw [ap (fQ hq hp (by intro z;cases z))];exact s04 _ _ hq
       . rw [ap nb];exact s04 _ _ hb
/-- Web(m,roads),at a call: nothing is changed,a new web stands -/
theorem PV (T:Txt K mg) {H:Hp} {m:Int} {c:Bool} {a:Addr} {ps:List Addr} {rs:List Road} {Q:Addr->Hp->Prop} (ha:SqX K c H a (ps.map V.ref)) (ro:RoadsAt H ps rs) (g:Good m rs)
   (k:∀ x t H',H x=none->H t=none->Same H H'->WebAt T.Web H' x m t ps rs->Q x H') :
   ∀ x dx,H x=none->H dx=none->dx≠x->lW T [.ref x,.int m,.ref a] (upd (upd H dx (.own x)) x (.ins T.Web dx [])) (fun v H2=>v=.non/\Q x H2) E0:=by
 intro x dx hx hdx ne;have hx1:upd H dx (.own x) x=none:=by rw [ap ne.symm];exact hx
 have s0:Same H (upd (upd H dx (.own x)) x (.ins T.Web dx [])):=(Same.new _ hdx).trans (Same.new _ hx1);exact ⟨x,dx,m,c,a,ps,rs,rfl,ah,Same.sqX s0 ha,RoadsAt.same s0 ro,g,fun t H' ht W kp=>⟨rfl,k x t H' hx (s0.free ht) (fun b o e=>kp b o (s0 b o e) (bc e hx)) W⟩⟩
/-- the dict of the tolls of the first roads -/
def Pm (H:Hp) (d:Addr) (rs:List Road) (n:Nat):Prop:=∃ kvs,H d=some (.dT kvs)/\(kvs.length<=2*n/\∀ p∈kvs,∃ a b:Int,p.1=[.inl a,.inl b])/\∀ a b:Int,(∀ i x,i<n->rs[i]?=some x->lM x a b->c7 kvs [.inl a,.inl b]=(di a b x).map V.int)/\((∀ i x,i<n->rs[i]?=some x->¬ lM x a b)->c7 kvs [.inl a,.inl b]=none)
/-- the dict of the tolls of a web -/
structure TollsAt (H:Hp) (d:Addr) (rs:List Road):Prop where
 ex:∃ kvs,H d=some (.dT kvs)/\∀ a b:Int,c7 kvs [.inl a,.inl b]=(aE rs a b).map V.int
 ks:∃ kvs,H d=some (.dT kvs)/\kvs.length<=2*rs.length/\∀ p∈kvs,∃ a b:Int,p.1=[.inl a,.inl b]
theorem TollsAt.same {H H':Hp} {d:Addr} {rs:List Road} (e:Same H H') (h:TollsAt H d rs):TollsAt H' d rs:=by
 obtain ⟨kvs,h1,h2⟩:=h.ex;obtain ⟨kws,h3,h4⟩:=h.ks;exact ⟨⟨kvs,e _ _ h1,h2⟩,⟨kws,e _ _ h3,h4⟩⟩
def wm (T:Txt K mg):Sp:=fun vs H Q _=>∃ (l:Addr) (ps:List Addr) (m:Int) (rs:List Road),vs=[.ref l]/\H l=some (.lst (ps.map V.ref))/\RoadsAt H ps rs/\Good m rs/\∀ d H',H d=none->Same H H'->TollsAt H' d rs->Q (.ref d) H'
abbrev bS:Stmt:=top 46
theorem gW:FnScope ["roads","tolls","one","other","there","back"] ["roads"] (aa bS):=FnScope.of (by kernel_rfl)
theorem wz:NmL (aa bS) "roads":=.of (by kernel_rfl)
theorem fS:NmL (aa bS) "tolls":=.of (by kernel_rfl)
theorem kE:NmL (aa bS) "one":=.of (by kernel_rfl)
theorem jF:NmL (aa bS) "other":=.of (by kernel_rfl)
theorem nh:NmL (aa bS) "there":=.of (by kernel_rfl)
theorem ow:NmL (aa bS) "back":=.of (by kernel_rfl)
theorem Ei (T:Txt K mg) (hq:aX (CXe P w)) {f:Addr} {fd:FuncData} (D:Df K mg "_law_tolls" bS ["roads"] f fd):FnOk P w K mg base (CXe P w) 1 f fd ["roads"] (wm T):=by
 refine D.F.okC gW (fun vs H Q E h=>?_) (fun cdv A outer s H vs Q E hr h=>?_)
 . obtain ⟨l,ps,m,rs,rfl,_⟩:=h
   rfl
 . obtain ⟨l,ps,m,rs,rfl,hl,ro,g,k⟩:=h;have hu:=DC hr;refine ⟨_,(ao (aI (i:=1) gW.nd rfl (Or.inl fS.l) L9) (ao (dL PassesOwn.never rfl (gQ (pvl 0 wz)) (nC (n:=4) rfl (bB (aG (i:=2) gW.nd rfl (Or.inl kE.l)) (bB (aG (i:=3) gW.nd rfl (Or.inl jF.l)) (bB (aG (i:=4) gW.nd rfl (Or.inl nh.l)) (bB (aG (i:=5) gW.nd rfl (Or.inl ow.l)) jR))))) (ao (BM hu (pvl 1 fS) (iz (ag (pvl 2 kE) (ag (pvl 3 jF) aj))) (pvl 4 nh) rfl) (aq (BM hu (pvl 1 fS) (iz (ag (pvl 3 jF) (ag (pvl 2 kE) aj))) (pvl 5 ow) rfl)))) (aq (aO (pvl 1 fS))))),?_⟩;rw [show L2.start ["roads","tolls","one","other","there","back"] [V.ref l]=[some (V.ref l),none,none,none,none,none] from rfl];walk_at "rd";intro d hd;have s0:=Same.new (.dT []) hd;have hlen:ps.length=rs.length:=Paired.length ro;have glen:=g.len;have m24:=g.m24;refine ⟨⟨_,SqL.of (s0 _ _ hl)⟩,?_⟩;refine wL (K:=K) (xs:=ps.map V.ref) (fun i σ H2=>Same H H2/\Pm H2 d rs i/\∃ v1 v2 v3 v4,σ=[some (V.ref l),some (V.ref d),v1,v2,v3,v4]) ⟨s0,⟨[],ah,⟨by simp,fun p hp=>nomatch hp⟩,fun a b=>⟨fun i x hi=>absurd hi (Nat.not_lt_zero _),fun _=>rfl⟩⟩,_,_,_,_,rfl⟩ (fun i σ H2 _ z=>SqL.of (z.1 _ _ hl)) ?_ ?_
   . rintro i x σ H2 N hN hx ⟨s2,⟨kvs,hk,⟨hkl,hks⟩,hkv⟩,v1,v2,v3,v4,rfl⟩;obtain ⟨q,r,rfl,h1,h2,h3⟩:=ro.get hx;have hil:i<rs.length:=(List.getElem?_eq_some_iff.mp h2).1;have ok:=g.ok r (List.mem_of_getElem? h2);walk_at "rd";refine ⟨_,SqT.of (s2 _ _ h3),rfl,_,_,rfl,_,_,rfl,_,_,rfl,_,_,rfl,rfl,?_⟩;refine ⟨bK (by simp),fun p1 n1=>⟨_,DPut.t (k:=[.inl r.a,.inl r.b]) (Same.new (.tup [V.int r.a,V.int r.b]) n1 _ _ hk) ah (dI (by omega)),bK (by simp),fun p2 n2=>?_⟩⟩;have l1:=j8 kvs [Sum.inl r.a,Sum.inl r.b] (V.int r.t);have np2:d≠p2:=fun z=>by rw [<- z,ah] at n2;cases n2
     refine ⟨_,DPut.t (k:=[.inl r.b,.inl r.a]) (by rw [ap np2];exact ah) ah (dI (by omega)),hN _ _ ⟨?_,⟨_,ah,?_,?_⟩,_,_,_,_,rfl⟩⟩
     . intro b o hb;have nd:b≠d:=bc hb hd;have b2:=s2 _ _ hb;have nb1:b≠p1:=bc b2 n1;have b3:upd (upd H2 p1 (.tup [V.int r.a,V.int r.b])) d (.dT (dW kvs [Sum.inl r.a,Sum.inl r.b] (V.int r.t))) b=some o:=(by rw [ap nd,ap nb1];exact b2);rw [ap nd,ap (bc b3 n2)];exact b3
     . have l2:=j8 (dW kvs [Sum.inl r.a,Sum.inl r.b] (V.int r.t)) [Sum.inl r.b,Sum.inl r.a] (V.int r.u);refine ⟨by omega,fun p hp=>?_⟩;rcases Fz hp with e|⟨q,hq,e⟩
       . exact ⟨_,_,e⟩
       rcases Fz hq with e'|⟨q',hq',e'⟩
       . exact ⟨_,_,e.trans e'⟩
       . obtain ⟨a',b',e2⟩:=hks q' hq';exact ⟨a',b',e.trans (e'.trans e2)⟩
     . intro a' b';have v2:c7 (dW (dW kvs [Sum.inl r.a,Sum.inl r.b] (V.int r.t)) [Sum.inl r.b,Sum.inl r.a] (V.int r.u)) [Sum.inl a',Sum.inl b']=if a'=r.b/\b'=r.a then some (V.int r.u) else if a'=r.a/\b'=r.b then some (V.int r.t) else c7 kvs [Sum.inl a',Sum.inl b']:=by
         rw [Fh,Fh];simp
       rw [v2];have away:¬ lM r a' b'->(if a'=r.b/\b'=r.a then some (V.int r.u) else if a'=r.a/\b'=r.b then some (V.int r.t) else c7 kvs [Sum.inl a',Sum.inl b'])=c7 kvs [Sum.inl a',Sum.inl b']:=fun z=>by
         rw [if_neg (fun w=>z (.inr ⟨w.1.symm,w.2.symm⟩)),if_neg (fun w=>z (.inl ⟨w.1.symm,w.2.symm⟩))]
       constructor
       . intro j x hj hy jx;by_cases e:j=i
         . subst e;rw [h2] at hy;cases hy;rcases jx with ⟨w1,w2⟩|⟨w1,w2⟩
           . subst w1 w2;rw [if_neg (fun z=>ok.ne z.1),if_pos ⟨rfl,rfl⟩,Lr ok.ne]
             rfl
           . subst w1 w2;rw [if_pos ⟨rfl,rfl⟩,Oe ok.ne]
             rfl
         . rw [away fun w=>e (CY g hy h2 jx w)];exact (hkv a' b').1 j x (by omega) hy jx
       . intro z;rw [away (z i r (by omega) h2)];exact (hkv a' b').2 fun j x hj hx=>z j x (by omega) hx
   . rintro σ H2 ⟨s2,⟨kvs,hk,⟨hkl,hks⟩,hkv⟩,v1,v2,v3,v4,rfl⟩;rw [List.length_map,hlen] at hkv;walk_at "rd";refine k d H2 hd s2 ⟨⟨kvs,hk,fun a b=>?_⟩,⟨kvs,hk,by rw [List.length_map,hlen] at hkl;exact hkl,hks⟩⟩;by_cases z:∃ (i:Nat) (x:Road),rs[i]?=some x/\lM x a b
     . obtain ⟨i,x,hi,j⟩:=z;rw [(hkv a b).1 i x (List.getElem?_eq_some_iff.mp hi).1 hi j,qX g hi j]
     . rw [(hkv a b).2 fun i x _ hi j=>z ⟨i,x,hi,j⟩,KH]
       . rfl
       . rintro ⟨x,hx,j⟩;obtain ⟨i,hi⟩:=List.getElem?_of_mem hx;exact z ⟨i,x,hi,j⟩
def q9 (T:Txt K mg):Nat->Sp
 | 0=>fun _ _ _ _=>False
 | n+1=>fun vs H Q _=>∃ (j:Nat) (p:Int),vs=[.int (j+1:Nat),.int p]/\j<=n/\j<=2/\0<=p/\p<=40 /\
   ∀ l as H',H l=none->Same H H'->H' l=some (.lst (as.map V.ref))->LLs H' as (ki (j+1) p)->Q (.ref l) H'
def sG (T:Txt K mg):Sp:=q9 T 25
abbrev aW:Stmt:=top 51
theorem jT:FnScope ["many","pebbles","found","first"] ["many","pebbles"] (aa aW):=FnScope.of (by kernel_rfl)
theorem md:NmL (aa aW) "many":=.of (by kernel_rfl)
theorem fZ:NmL (aa aW) "pebbles":=.of (by kernel_rfl)
theorem hG:NmL (aa aW) "found":=.of (by kernel_rfl)
theorem lx:NmC (aa aW) "first":=.of (by kernel_rfl)
theorem tX:NmG (aa aW) "range":=.of (by kernel_rfl)
theorem ip:NmG (aa aW) "_law_layings":=.of (by kernel_rfl)
theorem zV (T:Txt K mg) (hq:aX (CXe P w)) {f:Addr} {fd:FuncData} (D:Df K mg "_law_layings" aW ["many","pebbles"] f fd):∀ n:Nat,FnOk P w K mg base (CXe P w) (n+1) f fd ["many","pebbles"] (q9 T n):=by
 intro n;have D_law_layings:=D
 induction n with
 | zero=>exact D.F.okC jT (fun vs H Q E h=>h.elim) (fun cdv A outer s H vs Q E hr h=>h.elim)
 | succ n G_law_layings =>
 refine D.F.okC jT (fun vs H Q E h=>?_) (fun cdv A outer s H vs Q E hr h=>?_)
 . obtain ⟨j,p,rfl,_⟩:=h
   rfl
 . obtain ⟨j,p,rfl,jn,j2,p0,p40,k⟩:=h;refine ⟨_,(ao (ce (bn jQ (pvl 0 md) au (bi _)) (aq (aO (d8 (ag (d8 (ag (pvl 1 fZ) aj)) aj)))) bo) (ao (aI (i:=2) jT.nd rfl (Or.inl hG.l) (d8 aj)) (ao (dL PassesOwn.never rfl (qV tX.g T.range (ag (aF fw (pvl 1 fZ) au) aj)) (aG (i:=3) jT.nd rfl (Or.inr lx.l)) (aq (cX (oA PySem.F.plainAttrs_list PySem.F.slot_list_extend PySem.F.type_list_extend Kt (pvl 2 hG) (ag (mF rfl (oN (Nc:=["rest","first"]) 1 [3] (by decide +kernel) rfl (by decide +kernel) rfl (by show ∀ (y:Str × NameKind),y∈_->y.2=NameKind.free->(aa aW).names.lookup y.1=some NameKind.cell;decide +kernel) rfl (fun _ h=>jg h) (fun i hi=>match i,hi with|0,_=>⟨"first",3,rfl,rfl,rfl,by decide +kernel⟩|i+1,hi=>absurd hi (by show ¬ i+1<1;omega))) (gQ (aw G_law_layings (hr.mono (by omega)) ip.g D_law_layings.m D_law_layings.F.kp D_law_layings.b .nil (aY hq) (ag (aF lp (pvl 0 md) au) (ag (aF lp (pvl 1 fZ) (pvc 3 lx)) aj)) (hdb:=ip.d))) (fun _ _ _ _=>(aG (i:=0) (show (["rest","first"]:List Str).Nodup from by decide +kernel) rfl (Or.inl rfl))) (fun _ _ _ _=>oJ) (fun _ _ _ _=>(aF QH (d8 (ag (pv 1) aj)) (pv 0)))) aj))))) (aq (aO (pvl 2 hG)))))),?_⟩;rw [show L2.start ["many","pebbles","found","first"] [V.int (j+1:Nat),V.int p]=[some (V.int (j+1:Nat)),some (V.int p),none,none] from rfl];walk_at "rd";by_cases z:((j+1:Nat):Int)=1
   . rw [if_pos z];have j0:j=0:=(by omega);subst j0;refine ⟨bK (by simp),fun a na=>⟨bK (by simp),fun l nl=>?_⟩⟩;have s1:=Same.new (.lst [V.int p]) na;have s2:=Same.new (.lst [V.ref a]) nl;exact k l [a] _ (s1.free nl) (s1.trans s2) ah (.cons (s2 _ _ ah) .nil)
   . rw [if_neg z];obtain ⟨i,rfl⟩:∃ i,j=i+1:=⟨j - 1,by omega⟩;obtain ⟨n',rfl⟩:∃ n',n=n'+1:=⟨n - 1,by omega⟩;refine ⟨bK (by simp),fun l nl=>⟨by omega,by omega,?_⟩⟩;have s0:=Same.new (.lst []) nl;refine ui (fun f σ H3=>Same H H3/\∃ (as:List Addr) (v3:Option V),H3 l=some (.lst (as.map V.ref))/\LLs H3 as ((below f).flatMap fun f=>(ki (i+1) (p - f)).map fun r=>f::r)/\(∀ a∈as,a≠l)/\σ=[some (V.int ((i+1+1:Nat):Int)),some (V.int p),some (V.ref l),v3]) ⟨s0,[],_,ah,.nil,(fun a h=>by cases h),rfl⟩ ?_ ?_
     . rintro f σ H3 N BB hBB hN hf ⟨s3,as,v3,e3,L3,hal,rfl⟩;refine hBB _ _ ?_;have al:as.length<=2000:=by
         rw [Paired.length L3];have h1:=DR (l:=below f) (g:=fun f=>(ki (i+1) (p - f)).map fun r=>f::r) (k:=41) fun f' hf'=>by
           have:=bM.mp hf';rw [List.length_map];have h2:=yE i (p - f') (by omega) (by omega);have h3:41^i<=41^1:=Nat.pow_le_pow_right (by decide) (by omega);omega
         rw [aU] at h1;have:f*41<=41*41:=Nat.mul_le_mul_right _ (by omega);omega
       walk_at "rd";rw [Int.zero_add];refine ⟨.inl ⟨rfl,_,SqL.of e3⟩,i,p - f,?_,by omega,by omega,by omega,by omega,fun l4 bs H4 n4 s4 e4 L4=>⟨l4,rfl,⟨_,SqL.of e4⟩,fun pc npc=>?_⟩⟩
       . have:((i+1+1:Nat):Int) - 1=((i+1:Nat):Int):=(by omega);rw [this]
       have s34:=s3.trans s4;have bl:bs.length<=41:=by
         rw [Paired.length L4];have h2:=yE i (p - f) (by omega) (by omega);have h3:41^i<=41^1:=Nat.pow_le_pow_right (by decide) (by omega);omega
       have e34:=s4 _ _ e3;have npl:pc≠l:=fun z=>by rw [z,e34] at npc;cases npc
       refine uQ (K:=K) (c:=true) (xs:=bs.map V.ref) (fun j ws σ H5=>Same H4 H5/\H5 pc=some (.lst ws)/\(∃ cs:List Addr,ws=cs.map V.ref/\LLs H5 cs (((ki (i+1) (p - f)).take j).map fun r=>(f:Int)::r)/\∀ c∈cs,c≠pc/\c≠l)/\∃ v,σ=[v,some (V.int f)]) ⟨Same.new _ npc,ah,⟨[],rfl,.nil,fun c h=>by cases h⟩,_,rfl⟩ (fun j ws σ H5 _ z=>SqL.of (z.1 _ _ e4)) ?_ ?_
       . rintro j y ws σ H5 N2 hN2 hy ⟨s5,e5,⟨cs,rfl,L5,hc⟩,v,rfl⟩;rw [List.getElem?_map] at hy;obtain ⟨q,hq',rfl⟩:=Option.map_eq_some_iff.mp hy;have jl:=(List.getElem?_eq_some_iff.mp hq').1;obtain ⟨zs,hzs⟩:∃ zs,(ki (i+1) (p - f))[j]?=some zs:=⟨_,List.getElem?_eq_getElem (by rw [<- Paired.length L4];exact jl)⟩;obtain ⟨q2,hq2,eq2⟩:=zX (LLs.same s5 L4) hzs;rw [hq'] at hq2;cases hq2;have zl:=((pF i (p - f) (by omega) zs).mp (List.mem_of_getElem? hzs)).1;have cl:cs.length<=41:=by
           have h1:=Paired.length L5;rw [List.length_map,List.length_take] at h1;omega
         walk_at "rd";refine ⟨bK (by simp),fun q3 n3=>?_⟩;have s6:=Same.new (.lst [V.int (f:Int)]) n3;refine Rm ah (s6 _ _ eq2) (bK (by simp;omega)) fun q4 n4'=>?_;have s7:=s6.trans (Same.new (.lst ([V.int (f:Int)]++zs.map V.int)) n4');have eq4:upd (upd H5 q3 (.lst [V.int (f:Int)])) q4 (.lst ([V.int (f:Int)]++zs.map V.int)) q4=some (.lst (((f:Int)::zs).map V.int)):=ah;have n45:=s6.free n4';generalize upd (upd H5 q3 (.lst [V.int (f:Int)])) q4 (.lst ([V.int (f:Int)]++zs.map V.int))=H6 at s7 eq4 ⊢;have q4p:q4≠pc:=fun z=>by rw [z,e5] at n45;cases n45
         have q4l:q4≠l:=fun z=>by rw [z,s5 _ _ e34] at n45;cases n45
         refine ⟨s7 _ _ e5,dI (by rw [List.length_map];omega),hN2 _ _ _ ⟨(s5.trans s7).put npc _,ah,⟨cs++[q4],by rw [List.map_append];rfl,?_,fun c hcc=>?_⟩,_,rfl⟩⟩
         . rw [List.take_succ,hzs,List.map_append];refine zn (by rw [ap q4p];exact eq4) (oS (fun a b ha h=>?_) L5);rw [ap (hc a ha).1];exact s7 _ _ h
         . rcases List.mem_append.mp hcc with h|h
           . exact hc c h
           . rw [List.mem_singleton.mp h];exact ⟨q4p,q4l⟩
       . rintro ws σ H5 ⟨s5,e5,⟨cs,rfl,L5,hc⟩,v,rfl⟩;rw [List.length_map,Paired.length L4,List.take_length] at L5;have cl:cs.length<=41:=by
           rw [Paired.length L5,List.length_map,<- Paired.length L4];exact bl
         have e35:=s5 _ _ e34;refine ⟨l,pc,_,_,rfl,rfl,e35,e5,bK (by rw [List.length_map,List.length_map];omega),hN _ _ ⟨(s34.trans s5).put nl _,as++cs,_,by rw [ah,List.map_append],?_,(fun a ha=>(List.mem_append.mp ha).elim (hal a) fun h=>(hc a h).2),rfl⟩⟩;rw [lJ,List.flatMap_append,List.flatMap_cons,List.flatMap_nil,List.append_nil];refine GK (oS (fun a b ha h=>?_) L5) (oS (fun a b ha h=>?_) (LLs.same (s4.trans s5) L3))
         . rw [ap (hc a ha).2];exact h
         . rw [ap (hal a ha)];exact h
     . rintro BB σ H3 hBB ⟨s3,as,v3,e3,L3,hal,rfl⟩;refine hBB _ _ ?_;walk_at "rd";exact k l as H3 nl s3 e3 L3
theorem Bm (T:Txt K mg) (hq:aX (CXe P w)) {f:Addr} {fd:FuncData} (D:Df K mg "_law_layings" aW ["many","pebbles"] f fd):FnOk P w K mg base (CXe P w) 26 f fd ["many","pebbles"] (sG T):=zV T hq D  25
def yx (T:Txt K mg):Sp:=fun vs H Q _=>∃ (d:Addr) (rs:List Road) (m r:Int),vs=[.ref d,.int m,.int r]/\TollsAt H d rs/\Good m rs/\(0<=r/\r<m) /\
 ∃ par dep,Rooted m rs r par dep/\∀ lo qs t H',H lo=none->Same H H'->H' lo=some (.lst (qs.map V.ref))->PrsAt H' r par qs (r::t)->Order m r par t->Q (.ref lo) H'
abbrev bu:Stmt:=top 47
theorem gg:FnScope ["tolls","many","r","order","at","place","above","kid"] ["tolls","many","r"] (aa bu):=FnScope.of (by kernel_rfl)
theorem xU:NmL (aa bu) "tolls":=.of (by kernel_rfl)
theorem yX:NmL (aa bu) "many":=.of (by kernel_rfl)
theorem Dg:NmL (aa bu) "r":=.of (by kernel_rfl)
theorem eR:NmL (aa bu) "order":=.of (by kernel_rfl)
theorem gB:NmL (aa bu) "at":=.of (by kernel_rfl)
theorem jW:NmL (aa bu) "place":=.of (by kernel_rfl)
theorem ou:NmL (aa bu) "above":=.of (by kernel_rfl)
theorem iX:NmL (aa bu) "kid":=.of (by kernel_rfl)
theorem lY:NmG (aa bu) "len":=.of (by kernel_rfl)
theorem yf:NmG (aa bu) "range":=.of (by kernel_rfl)
theorem Gk (T:Txt K mg) (hq:aX (CXe P w)) {f:Addr} {fd:FuncData} (D:Df K mg "_law_down" bu ["tolls","many","r"] f fd):FnOk P w K mg base (CXe P w) 1 f fd ["tolls","many","r"] (yx T):=by
 refine D.F.okC gg (fun vs H Q E h=>?_) (fun cdv A outer s H vs Q E hr h=>?_)
 . obtain ⟨d,rs,m,r,rfl,_⟩:=h
   rfl
 . obtain ⟨d,rs,m,r,rfl,ta,g,rr,par,dep,R,k⟩:=h;have hu:=DC hr;have m24:=g.m24;refine ⟨_,(ao (aI (i:=3) gg.nd rfl (Or.inl eR.l) (d8 (ag (iz (ag (pvl 2 Dg) (ag vM aj))) aj))) (ao (aI (i:=4) gg.nd rfl (Or.inl gB.l) au) (ao (uD PassesOwn.never (bn A5 (pvl 4 gB) (dR gI lY.g T.len p7 (ag (pvl 3 eR) aj) (hn:=lY.n) (hdb:=lY.d)) (bi _)) (ao (pA (bA bJ (pvl 3 eR) (pvl 4 gB) (fun _ _=>rfl)) (nC (n:=2) rfl (bB (aG (i:=5) gg.nd rfl (Or.inl jW.l)) (bB (aG (i:=6) gg.nd rfl (Or.inl ou.l)) jR)))) (ao (dL PassesOwn.never rfl (qV yf.g T.range (ag (pvl 1 yX) aj)) (aG (i:=7) gg.nd rfl (Or.inl iX.l)) (aq (ce (PW.pt (wB (bn xJ (pvl 7 iX) (pvl 6 ou) (bi _)) (sI (A3 (Qt hu (iz (ag (pvl 5 jW) (ag (pvl 7 iX) aj))) (pvl 0 xU)))))) (aq (cX (oA PySem.F.plainAttrs_list PySem.F.slot_list_append PySem.F.type_list_append fb (pvl 3 eR) (ag (iz (ag (pvl 7 iX) (ag (pvl 5 jW) aj))) aj)))) bo))) (aq (aI (i:=4) gg.nd rfl (Or.inl gB.l) (aF fw (pvl 4 gB) au)))))) (aq (aO (pvl 3 eR)))))),?_⟩;rw [show L2.start ["tolls","many","r","order","at","place","above","kid"] [V.ref d,V.int m,V.int r]=[some (V.ref d),some (V.int m),some (V.int r),none,none,none,none,none] from rfl];walk_at "rd";refine ⟨bK (by simp),fun q0 n0=>⟨bK (by simp),fun lo nlo=>?_⟩⟩;have s1:=Same.new (.tup [V.int r,V.non]) n0;have nl0:=s1.free nlo;have s2:=s1.trans (Same.new (.lst [V.ref q0]) nlo);have nql:q0≠lo:=fun z=>by rw [<- z,ah] at nlo;cases nlo
   have e2:upd (upd H q0 (.tup [V.int r,V.non])) lo (.lst [V.ref q0]) lo=some (.lst [V.ref q0]):=ah;have f2:upd (upd H q0 (.tup [V.int r,V.non])) lo (.lst [V.ref q0]) q0=some (.tup (vPr r par r)):=by
     rw [ap nql,ah];unfold vPr Pb.front;rw [if_pos rfl]
   generalize upd (upd H q0 (.tup [V.int r,V.non])) lo (.lst [V.ref q0])=H2 at s2 e2 f2 ⊢;have lim:∀ {t:List Int} {ws:List Int},AInv m rs r par t ws->(r::t).length<=m.toNat:=fun {t ws} J=>by
     have:=cL (m:=m) (by omega) (List.nodup_cons.mpr ⟨J.nr,J.nd⟩) fun v hv=>by
       rcases List.mem_cons.mp hv with e|e
       . rw [e];exact rr
       . exact J.rng v e
     omega
   refine BL (fun n σ H4=>∃ (t:List Int) (qs:List Addr) (k:Nat) (v5 v6 v7:Option V),n=m.toNat - k/\k<=(r::t).length/\σ=[some (.ref d),some (.int m),some (.int r),some (.ref lo),some (.int (k:Nat)),v5,v6,v7]/\Same H H4/\H4 lo=some (.lst (qs.map V.ref))/\PrsAt H4 r par qs (r::t)/\Bfs m rs r par t k) m.toNat ⟨[],[q0],0,_,_,_,rfl,Nat.zero_le _,rfl,s2,e2,.cons f2 .nil,Bfs.start⟩ ?_;rintro n σ H4 NW hN hN2 ⟨t,qs,kk,v5,v6,v7,rfl,kle,rfl,s4,ho,pa,S⟩;have tl:=lim S.J;have ql:qs.length=(r::t).length:=Paired.length pa;walk_at "rd";refine ⟨_,.inl (SqL.of ho),?_⟩;rw [List.length_map,ql];by_cases c:kk=(r::t).length
   . rw [if_neg (by omega)];exact k lo qs t H4 nl0 s4 ho pa (S.done R (by omega))
   . rw [if_pos (by omega)];have klt:kk<(r::t).length:=(by omega);obtain ⟨p,hp⟩:∃ p,(r::t)[kk]?=some p:=⟨_,List.getElem?_eq_getElem klt⟩;have S':=S.step g R rr.1 rr.2 hp;have tl':=lim S'.J;have pr:0<=p/\p<m:=by
       rcases List.mem_cons.mp (List.mem_of_getElem? hp) with e|e
       . rw [e];exact rr
       . exact S.J.rng p e
     refine ⟨NW,fun σ' H' z=>?_,?_⟩
     . obtain ⟨m',lt,t',qs',k',a5,a6,a7,e1,e2,e3⟩:=hN2 _ _ z;exact ⟨m',lt,t',qs',k',e1,e2,a5,a6,a7,e3⟩
     obtain ⟨qx,hqx⟩:∃ qx,qs[kk]?=some qx:=⟨_,List.getElem?_eq_getElem (by omega)⟩;obtain ⟨qp,pv,e1,e2,e3,e4⟩:=pa.get (i:=kk) (x:=.ref qx) (by rw [List.getElem?_map,hqx];rfl);injection e1 with e1
     subst e1;rw [hp] at e3;cases e3;refine ixL ho (G9 (by rw [List.getElem?_map,hqx];rfl)) ⟨qx,rfl,_,SqT.of e4,rfl,_,_,rfl,_,_,rfl,rfl,by omega,by omega,?_⟩;have mk:∀ v,v∈aB m rs (Pb.front r par p) p->(0<=v/\v<m)/\v≠r/\par v=p:=fun v=>(aN g R pr.1 pr.2).mp;have inK:∀ i:Nat,i<m.toNat->(aE rs p (i:Int)).isSome=true->V.int (i:Int)≠Pb.front r par p->(i:Int)∈aB m rs (Pb.front r par p) p:=fun i hi h1 h2=>by
       rw [<- zS];unfold fW;exact List.mem_filter.mpr ⟨List.mem_filter.mpr ⟨bM.mpr ⟨by omega,by omega⟩,h1⟩,decide_eq_true h2⟩
     have ktl:∀ i:Nat,i<=m.toNat->(fW rs (Pb.front r par p) p i).length<=24:=fun i hi=>by
       unfold fW;refine Nat.le_trans (List.length_filter_le _ _) (Nat.le_trans (List.length_filter_le _ _) ?_);rw [aU];omega
     have fvs:∀ i:Int,pZ (.int i) (Pb.front r par p)=true:=fun i=>by
       unfold Pb.front;by_cases z:p=r
       . rw [if_pos z];rfl
       . rw [if_neg z];rfl
     rw [<- zS] at S' tl';refine Ae (fun i σ H5=>Same H H5/\∃ (qs:List Addr) (v7:Option V),H5 lo=some (.lst (qs.map V.ref))/\PrsAt H5 r par qs (r::(t++fW rs (Pb.front r par p) p i))/\σ=[some (.ref d),some (.int m),some (.int r),some (.ref lo),some (.int (kk:Nat)),some (.int p),some (Pb.front r par p),v7]) ⟨s4,qs,_,ho,by rw [show fW rs (Pb.front r par p) p 0=[] from rfl,List.append_nil];exact pa,rfl⟩ ?_ ?_
     . rintro i σ H5 N hN hi ⟨s5,qs,v7,ho,pa,rfl⟩;rw [Int.zero_add];have kl:=ktl i (by omega);have ql:qs.length=(r::(t++fW rs (Pb.front r par p) p i)).length:=Paired.length pa;rw [List.length_cons,List.length_append] at ql;rw [List.length_cons] at tl;walk_at "rd";refine ⟨fvs _,?_⟩;by_cases c1:V.int (i:Int)=Pb.front r par p
       . rw [if_neg (fun z=>z c1)];exact hN _ _ ⟨s5,qs,_,ho,by rw [A8 (fun _ z=>z c1)];exact pa,rfl⟩
       . rw [if_pos c1];refine ⟨bK (by simp),fun q nq=>?_⟩;have s6:=Same.new (.tup [V.int p,V.int (i:Int)]) nq;obtain ⟨kvs,hkv,hv⟩:=(ta.same s5).ex;have hg:=DGet.t (k:=[.inl p,.inl (i:Int)]) (s6 _ _ hkv) ah;rw [hv] at hg;refine ⟨_,hg,?_⟩;by_cases c2:(aE rs p (i:Int)).isSome=true
         . rw [if_pos (by rw [Option.isSome_map];exact c2)];obtain ⟨_,kr,kp⟩:=mk _ (inK i hi c2 c1);refine ⟨tyL (s6 _ _ ho),bK (by simp),fun q' nq'=>?_⟩;have s7:=s6.trans (Same.new (.tup [V.int (i:Int),V.int p]) nq');have ho7:=s7 _ _ ho;have nqo:q'≠lo:=fun z=>by rw [z,s6 _ _ ho] at nq';cases nq'
           refine tG ho7 (dI (by rw [List.length_map];omega)) (hN _ _ ⟨(s5.trans s7).put nl0 _,qs++[q'],_,by rw [ah,List.map_append];rfl,?_,rfl⟩);rw [IY c2 c1,<- List.append_assoc,<- List.cons_append];refine PrsAt.snoc ?_ (Paired.imp' (fun a b h=>by rw [ap (fQ (s7 _ _ h) ho7 (by intro z;cases z))];exact s7 _ _ h) pa);rw [ap nqo,ah];unfold vPr Pb.front;rw [if_neg kr,kp]
         . rw [if_neg (by rw [Option.isSome_map];exact c2)];exact hN _ _ ⟨s5.trans s6,qs,_,s6 _ _ ho,by rw [A8 (fun z=>absurd z c2)];exact PrsAt.same s6 pa,rfl⟩
     . rintro σ H5 ⟨s5,qs,v7,ho,pa,rfl⟩;walk_at "rd";exact hN (m.toNat - (kk+1)) _ _ (by omega) ⟨_,qs,kk+1,_,_,_,rfl,by rw [List.length_cons,List.length_append];rw [List.length_cons] at klt;omega,rfl,s5,ho,pa,S'⟩
def pY (T:Txt K mg):Sp:=fun vs H Q _=>∃ (dt a b:Addr) (c d:Bool) (rs:List Road) (xs ys:List Int) (m r:Int),vs=[.ref dt,.int m,.ref a,.ref b,.int r]/\TollsAt H dt rs/\Good m rs/\SqX K c H a (xs.map V.int)/\(xs.length:Int)=m/\SqX K d H b (ys.map V.int)/\(ys.length:Int)=m/\(0<=r/\r<m) /\
 ∃ par dep,Rooted m rs r par dep/\∀ l H',H l=none->Same H H'->H' l=some (.lst ((xw m rs r par dep (fun v=>(bw m xs ys).getD v.toNat 0) (hnd rs par)).map V.int))->Q (.ref l) H'
abbrev aA:Stmt:=top 48
theorem hZ:FnScope ["tolls","many","laying","wish","r","found","place","above"] ["tolls","many","laying","wish","r"] (aa aA):=FnScope.of (by kernel_rfl)
theorem gf:NmL (aa aA) "tolls":=.of (by kernel_rfl)
theorem kP:NmL (aa aA) "many":=.of (by kernel_rfl)
theorem F1:NmC (aa aA) "laying":=.of (by kernel_rfl)
theorem GI:NmC (aa aA) "wish":=.of (by kernel_rfl)
theorem xD:NmL (aa aA) "r":=.of (by kernel_rfl)
theorem ba:NmL (aa aA) "found":=.of (by kernel_rfl)
theorem b5:NmL (aa aA) "place":=.of (by kernel_rfl)
theorem aZ:NmL (aa aA) "above":=.of (by kernel_rfl)
theorem r6:NmG (aa aA) "range":=.of (by kernel_rfl)
theorem oB:NmG (aa aA) "reversed":=.of (by kernel_rfl)
theorem jc:NmG (aa aA) "_law_down":=.of (by kernel_rfl)
theorem yN (T:Txt K mg) (hq:aX (CXe P w)) {f:Addr} {fd:FuncData} (D:Df K mg "_law_standings" aA ["tolls","many","laying","wish","r"] f fd) {ij:Addr} {yA:FuncData} (jN:Df K mg "_law_down" bu ["tolls","many","r"] ij yA) (G_law_down:FnOk P w K mg base (CXe P w) 1 ij yA ["tolls","many","r"] (yx T)):FnOk P w K mg base (CXe P w) 2 f fd ["tolls","many","laying","wish","r"] (pY T):=by
 refine D.F.okC hZ (fun vs H Q E h=>?_) (fun cdv A outer s H vs Q E hr h=>?_)
 . obtain ⟨dt,a,b,c,d,rs,xs,ys,m,r,rfl,_⟩:=h
   rfl
 . obtain ⟨dt,a,b,c,d,rs,xs,ys,m,r,rfl,ta,g,ha,xl,hb,yl,rr,par,dep,R,k⟩:=h;have hu:=DC hr;have m1:=g.m1;have m24:=g.m24;refine ⟨_,(ao (zL (i:=5) hZ.nd rfl ba.l rfl (oN (Nc:=["place","laying","wish"]) 1 [2,3] (by decide +kernel) rfl (by decide +kernel) rfl (by show ∀ (y:Str × NameKind),y∈_->y.2=NameKind.free->(aa aA).names.lookup y.1=some NameKind.cell;decide +kernel) rfl (fun _ h=>jg h) (fun i hi=>match i,hi with|0,_=>⟨"laying",2,rfl,rfl,rfl,by decide +kernel⟩|1,_=>⟨"wish",3,rfl,rfl,rfl,by decide +kernel⟩|i+2,hi=>absurd hi (by show ¬ i+2<2;omega))) (qV r6.g T.range (ag (pvl 1 kP) aj)) (fun _ _ _ _=>(aG (i:=0) (show (["place","laying","wish"]:List Str).Nodup from by decide +kernel) rfl (Or.inl rfl))) (fun _ _ _ _=>oJ) (fun _ _ _ _=>(aF lp (bA (Ci c K rfl) (pv 1) (pv 0) (fun _ _=>rfl)) (bA (Ci d K rfl) (pv 2) (pv 0) (fun _ _=>rfl))))) (ao (dL PassesOwn.never rfl (FW oB.g T.reversed (aw G_law_down (hr.mono (by decide)) jc.g jN.m jN.F.kp jN.b .nil (aY hq) (ag (pvl 0 gf) (ag (pvl 1 kP) (ag (pvl 4 xD) aj))) (hdb:=jc.d))) (nC (n:=2) rfl (bB (aG (i:=6) hZ.nd rfl (Or.inl b5.l)) (bB (aG (i:=7) hZ.nd rfl (Or.inl aZ.l)) jR))) (aq (ce (PW.pt (wB (A3 (G1 (pvl 7 aZ))) (sI (bn Ow (bA bJ (pvl 5 ba) (pvl 6 b5) (fun _ _=>rfl)) au (bi _))))) (aq (pA (aF fw (bA bJ (pvl 5 ba) (pvl 7 aZ) (fun _ _=>rfl)) (aF oQ (bA bJ (pvl 5 ba) (pvl 6 b5) (fun _ _=>rfl)) (G6 hu (pvl 0 gf) (iz (ag (pvl 6 b5) (ag (pvl 7 aZ) aj))) (fun _ _=>rfl)))) (wx (pvl 5 ba) (pvl 7 aZ) kC))) (aq (ce (A3 (G1 (pvl 7 aZ))) (aq (pA (aF fw (bA bJ (pvl 5 ba) (pvl 7 aZ) (fun _ _=>rfl)) (aF iu (bA bJ (pvl 5 ba) (pvl 6 b5) (fun _ _=>rfl)) (G6 hu (pvl 0 gf) (iz (ag (pvl 7 aZ) (ag (pvl 6 b5) aj))) (fun _ _=>rfl)))) (wx (pvl 5 ba) (pvl 7 aZ) kC))) bo))))) (aq (aO (pvl 5 ba))))),?_⟩;rw [show L2.start ["tolls","many","laying","wish","r","found","place","above"] [V.ref dt,V.int m,V.ref a,V.ref b,V.int r]=[some (V.ref dt),some (V.int m),some (V.ref a),some (V.ref b),some (V.int r),none,none,none] from rfl];walk_at "rd";refine ⟨by omega,by omega,fun lo no=>?_⟩;refine zU (fun i zs σ H3=>Same H H3/\H3 lo=some (.lst zs)/\zs=((List.range i).map fun i=>xs.getD i 0 - ys.getD i 0).map V.int/\∃ v,σ=[v,some (V.ref a),some (V.ref b)]) ⟨Same.new _ no,ah,rfl,_,rfl⟩ ?_ ?_
   . rintro i zs σ H3 N hN hi ⟨s3,e3',rfl,v,rfl⟩;rw [Int.zero_add];have i0:(0:Int)<=(i:Int):=(by omega);have ga:=atG (xs:=xs) i0 (by omega);have gb:=atG (xs:=ys) i0 (by omega);rw [Int.toNat_natCast] at ga gb;walk_at "rd";refine ixX (Same.sqX s3 ha) ga (ixX (Same.sqX s3 hb) gb ⟨_,rfl,_,rfl,e3',dI (by simp;omega),hN _ _ _ ⟨s3.put no _,ah,?_,_,rfl⟩⟩);rw [List.range_succ,List.map_append,List.map_append]
     rfl
   . rintro zs σ H3 ⟨s3,e3',rfl,v,rfl⟩;have ol:=JF (m:=m) (by omega) xs ys;change H3 lo=some (.lst ((bw m xs ys).map V.int)) at e3';refine ⟨dt,rs,m,r,rfl,ta.same s3,g,rr,par,dep,R,fun lq qs t H4 nq s4 eq pa O=>?_⟩;have nqo:lq≠lo:=fun z=>by rw [z,e3'] at nq;cases nq
     have s34:=s3.trans s4;have ql:qs.length=(r::t).length:=Paired.length pa;refine ⟨lq,rfl,_,SqL.of eq,?_⟩;refine Fo (K:=K) (xs:=qs.map V.ref) (fun i σ H5=>Same H H5/\H5 lq=some (.lst (qs.map V.ref))/\PrsAt H5 r par qs (r::t)/\∃ (cs:List Int) (v6 v7:Option V),H5 lo=some (.lst (cs.map V.int))/\Sofar m rs r par dep (fun v=>(bw m xs ys).getD v.toNat 0) (hnd rs par) (t.drop (t.length - i)) cs/\σ=[some (V.ref dt),some (V.int m),some (V.ref a),some (V.ref b),some (V.int r),some (V.ref lo),v6,v7]) ⟨s34,eq,pa,bw m xs ys,_,_,s4 _ _ e3',by rw [Nat.sub_zero,List.drop_length];exact Sofar.nil ol,rfl⟩ (fun i σ H5 _ z=>SqL.of z.2.1) ?_ ?_
     . rintro i x σ H5 N hN hx ⟨s5,q5,pa5,cs,v6,v7,c5,so,rfl⟩;have il:=(List.getElem?_eq_some_iff.mp hx).1;rw [List.length_reverse,List.length_map,ql,List.length_cons] at il;rw [List.getElem?_reverse (by rw [List.length_map,ql,List.length_cons];omega),List.length_map,ql] at hx;obtain ⟨q,v,rfl,hq,hv,e5⟩:=pa5.get hx;have hv':(r::t).reverse[i]?=some v:=(by rw [List.getElem?_reverse (by rw [List.length_cons];omega)];exact hv);rw [List.reverse_cons] at hv';have cl:=so.len;walk_at "rd";refine ⟨_,SqT.of e5,rfl,_,_,rfl,_,_,rfl,rfl,?_⟩;walk_at "rd";by_cases ci:i<t.length
       . rw [List.getElem?_append_left (by rw [List.length_reverse];exact ci)] at hv';obtain ⟨⟨vr,vn⟩,ev,so'⟩:=O.turn g R so hv';have u:=R.up v vr.1 vr.2 vn;obtain ⟨kk,hk,k0,k1⟩:=sx g R vr.1 vr.2 vn;obtain ⟨kd,hd,d0,d1⟩:=sg g R vr.1 vr.2 vn;have fv:Pb.front r par v=V.int (par v):=(by unfold Pb.front;rw [if_neg vn]);rw [fv];have nn:¬ V.int (par v)=V.non:=(by intro z;cases z);have gv:=atG (xs:=cs) vr.1 (by omega);have gu:=atG (xs:=cs) u.1.1 (by omega);have get:∀ (x y kx:Int) (q':Addr),aE rs x y=some kx->H5 q'=none->DGet (upd H5 q' (.tup [V.int x,V.int y])) dt (V.ref q') (some (V.int kx)):=fun x y kx q' hx nq'=>by
           obtain ⟨kvs,hkv,hv2⟩:=(ta.same s5).ex;have hg:=DGet.t (k:=[.inl x,.inl y]) (Same.new (.tup [V.int x,V.int y]) nq' _ _ hkv) ah;rw [hv2,hx] at hg;exact hg
         have fin:∀ (w:Int) (q':Addr) (o:List V),H5 q'=none->w=cs.getD (par v).toNat 0+hnd rs par v (cs.getD v.toNat 0)->rSetL (V.ref lo) (V.int (par v)) (V.int w) (upd H5 q' (.tup o)) fun H3=>N [some (V.ref dt),some (V.int m),some (V.ref a),some (V.ref b),some (V.int r),some (V.ref lo),some (V.int v),some (V.int (par v))] H3:=fun w q' o nq' hw=>by
           have s6:=Same.new (.tup o) nq';refine Ea (s6 _ _ c5) u.1.1 (by rw [List.length_map];omega) (hN _ _ ⟨(s5.trans s6).put no _,?_,?_,ut par (hnd rs par) cs v,_,_,?_,so',rfl⟩)
           . rw [ap nqo];exact s6 _ _ q5
           . exact Paired.imp' (fun a b h=>by rw [ap (fQ (s6 _ _ h) (s6 _ _ c5) (by intro z;cases z))];exact s6 _ _ h) pa5
           . rw [ah,<- List.map_set,hw]
             rfl
         rw [if_pos nn];refine ixL c5 gv ⟨_,rfl,?_⟩;by_cases cp:0<=cs.getD v.toNat 0
         . rw [if_pos cp];refine ixL c5 gu (ixL c5 gv ⟨bK (by simp),fun q' nq'=>⟨_,get v (par v) kk q' hk nq',_,rfl,_,rfl,⟨by omega,by omega⟩,_,rfl,fin _ q' _ nq' ?_⟩⟩);unfold hnd;rw [if_pos cp,hk]
           rfl
         . rw [if_neg cp,if_pos nn];refine ixL c5 gu (ixL c5 gv ⟨bK (by simp),fun q' nq'=>⟨_,get (par v) v kd q' hd nq',_,rfl,_,rfl,.inr ⟨by omega,by omega⟩,_,rfl,fin _ q' _ nq' ?_⟩⟩);unfold hnd;rw [if_neg cp,hd]
           rfl
       . have ei:i=t.reverse.length:=(by rw [List.length_reverse];omega);rw [ei,List.getElem?_append_right (Nat.le_refl _),Nat.sub_self] at hv';cases hv';have fv:Pb.front r par r=V.non:=(by unfold Pb.front;rw [if_pos rfl]);rw [fv];rw [if_neg (fun z=>z rfl),if_neg (fun z=>z rfl)];refine hN _ _ ⟨s5,q5,pa5,cs,_,_,c5,?_,rfl⟩;rw [List.length_reverse] at ei;rw [show t.length - (i+1)=t.length - i by omega];exact so
     . rintro σ H5 ⟨s5,q5,pa5,cs,v6,v7,c5,so,rfl⟩;rw [List.length_map,ql,List.length_cons,show t.length - (t.length+1)=0 by omega,List.drop_zero] at so;rw [O.done g R so] at c5;walk_at "rd";exact k lo H5 no s5 c5
def qQ (T:Txt K mg):Sp:=fun vs H Q _=>∃ (dt b:Addr) (rs:List Road) (ys:List Int) (m p:Int),vs=[.ref dt,.int m,.ref b,.int p]/\TollsAt H dt rs/\Good m rs/\m<=3/\SqL K H b (ys.map V.int)/\(ys.length:Int)=m/\0<=p/\p<=40 /\
 ∃ par dep,Rooted m rs 0 par dep/\∀ bv H',(bv=true↔∀ zs∈ki m.toNat p,0<=stg m rs 0 par dep ys zs 0)->Same H H'->Q (.bl bv) H'
abbrev aV:Stmt:=top 52
theorem qW:FnScope ["tolls","many","wish","pebbles","laying"] ["tolls","many","wish","pebbles"] (aa aV):=FnScope.of (by kernel_rfl)
theorem sY:NmL (aa aV) "tolls":=.of (by kernel_rfl)
theorem lF:NmL (aa aV) "many":=.of (by kernel_rfl)
theorem uM:NmL (aa aV) "wish":=.of (by kernel_rfl)
theorem qC:NmL (aa aV) "pebbles":=.of (by kernel_rfl)
theorem j6:NmL (aa aV) "laying":=.of (by kernel_rfl)
theorem gX:NmG (aa aV) "_law_layings":=.of (by kernel_rfl)
theorem gl:NmG (aa aV) "_law_standings":=.of (by kernel_rfl)
theorem AL (T:Txt K mg) (hq:aX (CXe P w)) {f:Addr} {fd:FuncData} (D:Df K mg "_law_all_meet" aV ["tolls","many","wish","pebbles"] f fd) {eL:Addr} {sR:FuncData} (D_law_layings:Df K mg "_law_layings" aW ["many","pebbles"] eL sR) (G_law_layings:FnOk P w K mg base (CXe P w) 26 eL sR ["many","pebbles"] (sG T)) {dv:Addr} {qv:FuncData} (eK:Df K mg "_law_standings" aA ["tolls","many","laying","wish","r"] dv qv) (G_law_standings:FnOk P w K mg base (CXe P w) 2 dv qv ["tolls","many","laying","wish","r"] (pY T)):FnOk P w K mg base (CXe P w) 27 f fd ["tolls","many","wish","pebbles"] (qQ T):=by
 refine D.F.okC qW (fun vs H Q E h=>?_) (fun cdv A outer s H vs Q E hr h=>?_)
 . obtain ⟨dt,b,rs,ys,m,p,rfl,_⟩:=h
   rfl
 . obtain ⟨dt,b,rs,ys,m,p,rfl,ta,g,m3,hb,yl,p0,p40,par,dep,R,k⟩:=h;have m1:=g.m1;have mp:0<m:=by omega
   refine ⟨_,(ao (dL PassesOwn.never rfl (gQ (aw G_law_layings (hr.mono (by decide)) gX.g D_law_layings.m D_law_layings.F.kp D_law_layings.b .nil (aY hq) (ag (pvl 1 lF) (ag (pvl 3 qC) aj)) (hdb:=gX.d))) (aG (i:=4) qW.nd rfl (Or.inl j6.l)) (aq (ce (bn A5 (bA bJ (aw G_law_standings (hr.mono (by decide)) gl.g eK.m eK.F.kp eK.b .nil (aY hq) (ag (pvl 0 sY) (ag (pvl 1 lF) (ag (pvl 4 j6) (ag (pvl 2 uM) (ag au aj))))) (hdb:=gl.d)) au (fun _ _=>rfl)) au (bi _)) (aq (aO xR)) bo))) (aq (aO xR))),?_⟩;rw [show L2.start ["tolls","many","wish","pebbles","laying"] [V.ref dt,V.int m,V.ref b,V.int p]=[some (V.ref dt),some (V.int m),some (V.ref b),some (V.int p),none] from rfl];walk_at "rd";obtain ⟨j,hj⟩:∃ j:Nat,m=((j+1:Nat):Int):=⟨m.toNat - 1,by omega⟩;have hjm:m.toNat=j+1:=by omega
   refine ⟨j,p,by rw [hj],by show j<=24;omega,by omega,p0,p40,fun l as H1 n1 s1 e1 L1=>⟨l,rfl,⟨_,SqL.of e1⟩,?_⟩⟩;rw [<- hjm] at L1;refine kL (K:=K) (xs:=as.map V.ref) (fun i σ H2=>Same H1 H2/\(∀ zs∈(ki m.toNat p).take i,0<=stg m rs 0 par dep ys zs 0)/\∃ v4,σ=[some (V.ref dt),some (V.int m),some (V.ref b),some (V.int p),v4]) ⟨Same.refl _,(fun z h=>by simp at h),_,rfl⟩ (fun i σ H2 _ z=>SqL.of (z.1 _ _ e1)) ?_ ?_
   . rintro i y σ H2 N BB hBB hN hy ⟨s2,hm,v4,rfl⟩;rw [List.getElem?_map] at hy;obtain ⟨q,hq',rfl⟩:=Option.map_eq_some_iff.mp hy;have jl:=(List.getElem?_eq_some_iff.mp hq').1;obtain ⟨zs,hzs⟩:∃ zs,(ki m.toNat p)[i]?=some zs:=⟨_,List.getElem?_eq_getElem (by rw [<- Paired.length L1];exact jl)⟩;obtain ⟨q2,hq2,eq2⟩:=zX (LLs.same s2 L1) hzs;rw [hq'] at hq2;cases hq2;have zm:=List.mem_of_getElem? hzs;have zm':=zm;rw [hjm] at zm';have zl:(zs.length:Int)=m:=by
       have:=((pF j p p0 zs).mp zm').1;omega
     refine hBB _ _ ?_;walk_at "rd";have s12:=s1.trans s2;refine ⟨dt,q,b,true,true,rs,zs,ys,m,0,rfl,ta.same s12,g,SqL.of eq2,zl,Same.seq s12 hb,yl,⟨Int.le_refl 0,mp⟩,par,dep,R,fun l3 H3 n3 s3 e3=>?_⟩;refine ixL e3 (atG (Int.le_refl 0) (by unfold xw;rw [List.length_map,aU];omega)) ⟨_,rfl,?_⟩;rw [LX (Int.le_refl 0) mp];by_cases z:stg m rs 0 par dep ys zs 0<0
     . rw [if_pos z];exact k false H3 ⟨fun z=>(by cases z),fun z'=>absurd (z' zs zm) (by omega)⟩ (s12.trans s3)
     . rw [if_neg z];refine hN _ _ ⟨s2.trans s3,fun w hw=>?_,_,rfl⟩;rw [List.take_succ,hzs] at hw;rcases List.mem_append.mp hw with h|h
       . exact hm w h
       . simp at h;rw [h];omega
   . rintro BB σ H2 hBB ⟨s2,hm,v4,rfl⟩;refine hBB _ _ ?_;rw [List.length_map,Paired.length L1,List.take_length] at hm;walk_at "rd";exact k true H2 ⟨fun _=>hm,fun _=>rfl⟩ (s1.trans s2)
theorem DK (c i:Int) (i0:0<=i) (i1:i<=1000):CMul 7919 i/\CMul (c % 998244353+7919*i+11) 48271/\CMul ((c % 998244353+7919*i+11)*48271 % 2147483647) ((c % 998244353+7919*i+11)*48271 % 2147483647)/\CMul (((c % 998244353+7919*i+11)*48271 % 2147483647)*((c % 998244353+7919*i+11)*48271 % 2147483647) % 2147483629) (((c % 998244353+7919*i+11)*48271 % 2147483647)*((c % 998244353+7919*i+11)*48271 % 2147483647) % 2147483629)/\CMul ((((c % 998244353+7919*i+11)*48271 % 2147483647)*((c % 998244353+7919*i+11)*48271 % 2147483647) % 2147483629)*(((c % 998244353+7919*i+11)*48271 % 2147483647)*((c % 998244353+7919*i+11)*48271 % 2147483647) % 2147483629)) (((c % 998244353+7919*i+11)*48271 % 2147483647)+12345678901)/\PN ((((c % 998244353+7919*i+11)*48271 % 2147483647)*((c % 998244353+7919*i+11)*48271 % 2147483647) % 2147483629)*(((c % 998244353+7919*i+11)*48271 % 2147483647)*((c % 998244353+7919*i+11)*48271 % 2147483647) % 2147483629)*(((c % 998244353+7919*i+11)*48271 % 2147483647)+12345678901)) 7/\0<=(((c % 998244353+7919*i+11)*48271 % 2147483647)*((c % 998244353+7919*i+11)*48271 % 2147483647) % 2147483629)*(((c % 998244353+7919*i+11)*48271 % 2147483647)*((c % 998244353+7919*i+11)*48271 % 2147483647) % 2147483629)*(((c % 998244353+7919*i+11)*48271 % 2147483647)+12345678901) / 7:=by
 have h3:=Int.emod_nonneg ((c % 998244353+7919*i+11)*48271) (show (2147483647:Int)≠0 by decide);have h4:=Int.emod_lt_of_pos ((c % 998244353+7919*i+11)*48271) (show (0:Int)<2147483647 by decide);generalize (c % 998244353+7919*i+11)*48271 % 2147483647=n at h3 h4 ⊢;have h5:=Int.emod_nonneg (n*n) (show (2147483629:Int)≠0 by decide);have h6:=Int.emod_lt_of_pos (n*n) (show (0:Int)<2147483629 by decide);generalize n*n % 2147483629=f at h5 h6 ⊢;refine ⟨.inl ⟨by decide,by decide⟩,.inr ⟨by decide,by decide⟩,.inl ⟨by omega,by omega⟩,.inl ⟨by omega,by omega⟩,.inr ⟨by omega,by omega⟩,⟨by decide,by decide⟩,?_⟩;exact Int.ediv_nonneg (Int.mul_nonneg (Int.mul_nonneg h5 h5) (by omega)) (by decide)
def qi (T:Txt K mg):Sp:=fun vs H Q _=>∃ (a:Addr) (ns:List Int) (k:Int),vs=[.ref a,.int k]/\SqL K H a (ns.map V.int)/\0<=k/\k<=1000/\∀ v,0<=v->Q (.int v) H
abbrev bI:Stmt:=top 44
theorem gR:FnScope ["script","k","cell","near","far"] ["script","k"] (aa bI):=FnScope.of (by kernel_rfl)
theorem fE:NmL (aa bI) "script":=.of (by kernel_rfl)
theorem mW:NmL (aa bI) "k":=.of (by kernel_rfl)
theorem eP:NmL (aa bI) "cell":=.of (by kernel_rfl)
theorem gq:NmL (aa bI) "near":=.of (by kernel_rfl)
theorem ko:NmL (aa bI) "far":=.of (by kernel_rfl)
theorem dS:NmG (aa bI) "len":=.of (by kernel_rfl)
theorem Fw (T:Txt K mg) (hq:aX (CXe P w)) {f:Addr} {fd:FuncData} (D:Df K mg "_law_drawn" bI ["script","k"] f fd):FnOk P w K mg base (CXe P w) 1 f fd ["script","k"] (qi T):=by
 refine D.F.okC gR (fun vs H Q E h=>?_) (fun cdv A outer s H vs Q E hr h=>?_)
 . obtain ⟨a,ns,i,rfl,_⟩:=h
   rfl
 . obtain ⟨a,ns,i,rfl,ha,i0,i1,k⟩:=h;refine ⟨_,(ao (aI (i:=2) gR.nd rfl (Or.inl eP.l) au) (ao (ce (bn A5 (pvl 1 mW) (dR gI dS.g T.len p7 (ag (pvl 0 fE) aj) (hn:=dS.n) (hdb:=dS.d)) (bi _)) (aq (aI (i:=2) gR.nd rfl (Or.inl eP.l) (aF ik (bA bJ (pvl 0 fE) (pvl 1 mW) (fun _ _=>rfl)) (aF QQ au au)))) bo) (ao (ce (PW.pt (wB (bn xF (dR gI dS.g T.len p7 (ag (pvl 0 fE) aj) (hn:=dS.n) (hdb:=dS.d)) au (bi _)) (sI (bn jQ (aF ik (bA bJ (pvl 0 fE) au (fun _ _=>rfl)) au) au (bi _))))) (ao (aI (i:=3) gR.nd rfl (Or.inl gq.l) (aF ik (aF iu (aF fw (aF fw (aF ik (pvl 2 eP) au) (aF iu au (pvl 1 mW))) au) au) au)) (ao (aI (i:=4) gR.nd rfl (Or.inl ko.l) (aF ik (aF iu (pvl 3 gq) (pvl 3 gq)) au)) (aq (aI (i:=2) gR.nd rfl (Or.inl eP.l) (aF oQ (aF iu (aF iu (pvl 4 ko) (pvl 4 ko)) (aF fw (pvl 3 gq) au)) au))))) bo) (aq (aO (pvl 2 eP)))))),?_⟩;rw [show L2.start ["script","k","cell","near","far"] [V.ref a,V.int i]=[some (V.ref a),some (V.int i),none,none,none] from rfl];walk_at "rd";refine ⟨_,.inl ha,?_⟩;rw [List.length_map];by_cases z:i<(ns.length:Int)
   . rw [if_pos z];refine ixS ha (atG i0 z) ⟨⟨by decide,by decide,by decide⟩,_,rfl,p60,?_⟩;have c0:=Int.emod_nonneg (ns.getD i.toNat 0) (Int.ne_of_gt p60);generalize ns.getD i.toNat 0 % 10^Int.toNat 60=c at c0 ⊢;obtain ⟨h1,h2,h3,h4,h5,h6,h7⟩:=DK c i i0 i1;refine ⟨_,.inl ha,?_⟩;rw [List.length_map,if_pos (by omega)];refine ixS ha (atG (by decide) (by omega)) ⟨_,rfl,by decide,?_⟩;by_cases y:ns.getD (0:Int).toNat 0 % 2=1
     . rw [if_pos y];exact ⟨by decide,h1,h2,by decide,h3,by decide,h4,h5,h6,k _ h7⟩
     . rw [if_neg y];exact k _ c0
   . rw [if_neg z];obtain ⟨h1,h2,h3,h4,h5,h6,h7⟩:=DK 0 i i0 i1;refine ⟨_,.inl ha,?_⟩;rw [List.length_map];by_cases x:0<(ns.length:Int)
     . rw [if_pos x];refine ixS ha (atG (by decide) x) ⟨_,rfl,by decide,?_⟩;by_cases y:ns.getD (0:Int).toNat 0 % 2=1
       . rw [if_pos y];exact ⟨by decide,h1,h2,by decide,h3,by decide,h4,h5,h6,k _ h7⟩
       . rw [if_neg y];exact k 0 (by decide)
     . rw [if_neg x];exact k 0 (by decide)
def pU (T:Txt K mg):Sp:=fun vs H Q _=>∃ (a:Addr) (ns:List Int),vs=[.ref a]/\SqL K H a (ns.map V.int) /\
 ∀ (t l:Addr) (m:Int) (ps:List Addr) (rs:List Road) (H':Hp),H t=none->H l=none->Same H H'->H' t=some (.tup [.int m,.ref l])->H' l=some (.lst (ps.map V.ref))->RoadsAt H' ps rs->Good m rs->m<=3->(∀ x∈rs,x.t<=4/\x.u<=4)->Q (.ref t) H'
abbrev aH:Stmt:=top 49
theorem cj:FnScope ["script","many","roads","k","part","to","there","back"] ["script"] (aa aH):=FnScope.of (by kernel_rfl)
theorem jV:NmL (aa aH) "script":=.of (by kernel_rfl)
theorem gU:NmL (aa aH) "many":=.of (by kernel_rfl)
theorem f6:NmL (aa aH) "roads":=.of (by kernel_rfl)
theorem bU:NmL (aa aH) "k":=.of (by kernel_rfl)
theorem cV:NmL (aa aH) "part":=.of (by kernel_rfl)
theorem iR:NmL (aa aH) "to":=.of (by kernel_rfl)
theorem gh:NmL (aa aH) "there":=.of (by kernel_rfl)
theorem gJ:NmL (aa aH) "back":=.of (by kernel_rfl)
theorem cS:NmG (aa aH) "_law_drawn":=.of (by kernel_rfl)
theorem rJ:NmG (aa aH) "range":=.of (by kernel_rfl)
theorem zw (T:Txt K mg) (hq:aX (CXe P w)) {f:Addr} {fd:FuncData} (D:Df K mg "_law_small_web" aH ["script"] f fd) {c8:Addr} {jG:FuncData} (bR:Df K mg "_law_drawn" bI ["script","k"] c8 jG) (G_law_drawn:FnOk P w K mg base (CXe P w) 1 c8 jG ["script","k"] (qi T)):FnOk P w K mg base (CXe P w) 2 f fd ["script"] (pU T):=by
 refine D.F.okC cj (fun vs H Q E h=>?_) (fun cdv A outer s H vs Q E hr h=>?_)
 . obtain ⟨a,ns,rfl,_⟩:=h
   rfl
 . obtain ⟨a,ns,rfl,ha,k⟩:=h;refine ⟨_,(ao (aI (i:=1) cj.nd rfl (Or.inl gU.l) (aF fw au (aF ik (aF oQ (aw G_law_drawn (hr.mono (by decide)) cS.g bR.m bR.F.kp bR.b .nil (aY hq) (ag (pvl 0 jV) (ag au aj)) (hdb:=cS.d)) au) au))) (ao (aI (i:=2) cj.nd rfl (Or.inl f6.l) (d8 aj)) (ao (dL PassesOwn.never rfl (Cy rJ.g T.range (ag au (ag (pvl 1 gU) aj))) (aG (i:=3) cj.nd rfl (Or.inl bU.l)) (ao (aI (i:=4) cj.nd rfl (Or.inl cV.l) (aw G_law_drawn (hr.mono (by decide)) cS.g bR.m bR.F.kp bR.b .nil (aY hq) (ag (pvl 0 jV) (ag (pvl 3 bU) aj)) (hdb:=cS.d))) (ao (aI (i:=5) cj.nd rfl (Or.inl iR.l) (aF ik (pvl 4 cV) (pvl 3 bU))) (ao (aI (i:=6) cj.nd rfl (Or.inl gh.l) (aF fw au (aF ik (aF oQ (pvl 4 cV) (pvl 3 bU)) au))) (ao (aI (i:=7) cj.nd rfl (Or.inl gJ.l) (aF fw au (aF ik (aF oQ (pvl 4 cV) (aF iu au (pvl 3 bU))) au))) (aq (cX (oA PySem.F.plainAttrs_list PySem.F.slot_list_append PySem.F.type_list_append fb (pvl 2 f6) (ag (bA bJ (d8 (ag (iz (ag (pvl 5 iR) (ag (pvl 3 bU) (ag (pvl 6 gh) (ag (pvl 7 gJ) aj))))) (ag (iz (ag (pvl 3 bU) (ag (pvl 5 iR) (ag (pvl 7 gJ) (ag (pvl 6 gh) aj))))) aj))) (aF ik (aF oQ (pvl 4 cV) (aF iu au (pvl 3 bU))) au) (fun _ _=>rfl)) aj))))))))) (aq (aO (iz (ag (pvl 1 gU) (ag (pvl 2 f6) aj)))))))),?_⟩;rw [show L2.start ["script","many","roads","k","part","to","there","back"] [V.ref a]=[some (V.ref a),none,none,none,none,none,none,none] from rfl];have em:∀ (x n:Int),0<n->0<=x % n/\x % n<n:=fun x n h=>⟨Int.emod_nonneg x (Int.ne_of_gt h),Int.emod_lt_of_pos x h⟩;refine ji fun N1 h1=>?_;walk_at "rd";refine ⟨a,ns,0,rfl,ha,by decide,by decide,fun v0 v00=>⟨_,rfl,⟨by decide,by decide⟩,by decide,h1 _ _ (ji fun N6 h6=>?_)⟩⟩;have m1:1<=1+v0 / 2 % 3:=by omega
   have m3:1+v0 / 2 % 3<=3:=by omega
   generalize 1+v0 / 2 % 3=m at m1 m3 ⊢;walk_at "rd";refine ⟨by decide,fun lo nlo=>h6 _ _ (ji fun N7 h7=>?_)⟩;walk_at "rd";refine ⟨1,m,⟨rfl,rfl⟩,⟨by decide,by decide,by omega,by omega⟩,?_⟩;refine ui (fun i σ H3=>∃ (ps:List Addr) (rs:List Road) (rows:List Row) (v3 v4 v5 v6 v7:Option V),σ=[some (V.ref a),some (V.int m),some (V.ref lo),v3,v4,v5,v6,v7]/\Same H H3/\H3 lo=some (.lst (ps.map V.ref))/\RoadsAt H3 ps rs/\Rows i rows/\(∀ x∈rs,x.t<=4/\x.u<=4)/\Put (below m.toNat) rows rs) ⟨[],[],[],_,_,_,_,_,rfl,Same.new _ nlo,ah,.nil,⟨rfl,fun i r h=>by cases h⟩,(fun x h=>by cases h),Put.nil _⟩ ?_ ?_
   . rintro i σ H3 N BB hBB hN hi ⟨ps,rs,rows,v3,v4,v5,v6,v7,rfl,s3,hl3,ro3,R,T4,P⟩;refine hBB _ _ ?_;have k0:(1:Int)<=1+(i:Int):=(by omega);have k1:1+(i:Int)<m:=(by omega);generalize hk:(1:Int)+(i:Int)=kk at k0 k1 ⊢;have psl:ps.length=rs.length:=Paired.length ro3;have rl:=R.len;have pl:=P.len;refine ji fun M1 k1'=>?_;walk_at "rd";refine ⟨a,ns,kk,rfl,Same.seq s3 ha,by omega,by omega,fun c c0=>k1' _ _ (ji fun M2 k2'=>?_)⟩;have hg:=em c kk (by omega);walk_at "rd";refine ⟨by omega,k2' _ _ (ji fun M3 k3'=>?_)⟩;have un0:=hg.1;have un1:=hg.2;generalize c % kk=un at un0 un1 ⊢;walk_at "rd";refine ⟨⟨by omega,by omega⟩,by decide,k3' _ _ (ji fun M4 k4'=>?_)⟩;have t0':2<=2+c / kk % 2:=(by have:=em (c / kk) 2 (by decide);omega);have t1':2+c / kk % 2<=1000000:=(by have:=em (c / kk) 2 (by decide);omega);have t4:2+c / kk % 2<=4:=(by have:=em (c / kk) 2 (by decide);omega);generalize 2+c / kk % 2=th at t0' t1' t4 ⊢;walk_at "rd";refine ⟨.inl ⟨by decide,by decide⟩,⟨by omega,by omega⟩,by decide,k4' _ _ ?_⟩;have b0':2<=2+c / (2*kk) % 3:=(by have:=em (c / (2*kk)) 3 (by decide);omega);have b1':2+c / (2*kk) % 3<=1000000:=(by have:=em (c / (2*kk)) 3 (by decide);omega);have b4:2+c / (2*kk) % 3<=4:=(by have:=em (c / (2*kk)) 3 (by decide);omega);generalize 2+c / (2*kk) % 3=bk at b0' b1' b4 ⊢;walk_at "rd";refine ⟨tyL hl3,bK (by simp),fun q1 n1=>⟨bK (by simp),fun q2 n2=>⟨bK (by simp),fun q3 n3=>⟨.inl ⟨by decide,by decide⟩,⟨by omega,by omega⟩,by decide,?_⟩⟩⟩⟩;have t1:=Same.new (.tup [V.int un,V.int kk,V.int th,V.int bk]) n1;have t2:=Same.new (.tup [V.int kk,V.int un,V.int bk,V.int th]) n2;have t3:=Same.new (.lst [V.ref q1,V.ref q2]) n3;have e1:=t3 _ _ (t2 _ _ (ah (H:=H3) (a:=q1) (o:=.tup [V.int un,V.int kk,V.int th,V.int bk])));have e2:=t3 _ _ (ah (H:=upd H3 q1 (.tup [V.int un,V.int kk,V.int th,V.int bk])) (a:=q2) (o:=.tup [V.int kk,V.int un,V.int bk,V.int th]));have e3:upd (upd (upd H3 q1 (.tup [V.int un,V.int kk,V.int th,V.int bk])) q2 (.tup [V.int kk,V.int un,V.int bk,V.int th])) q3 (.lst [V.ref q1,V.ref q2]) q3=some (.lst [V.ref q1,V.ref q2]):=ah;have s34:=t1.trans (t2.trans t3);generalize upd (upd (upd H3 q1 (.tup [V.int un,V.int kk,V.int th,V.int bk])) q2 (.tup [V.int kk,V.int un,V.int bk,V.int th])) q3 (.lst [V.ref q1,V.ref q2])=H7 at e1 e2 e3 s34 ⊢;have lu:=AH (n:=m.toNat) un0 (by omega);have lk:=AH (n:=m.toNat) (show 0<=kk by omega) (by omega);have hl7:=s34 _ _ hl3;obtain ⟨q,row,hq,eq,rk,rok,rt⟩:∃ (q:Addr) (row:Row),atI [V.ref q1,V.ref q2] (c / (6*kk) % 2)=some (.ref q)/\H7 q=some (.tup (mY (gH (below m.toNat) row)))/\row.k=kk/\RowOk row/\(gH (below m.toNat) row).t<=4/\(gH (below m.toNat) row).u<=4:=by
       have h2:=em (c / (6*kk)) 2 (by decide);rcases (show c / (6*kk) % 2=0\/c / (6*kk) % 2=1 by omega) with z|z
       . refine ⟨q1,⟨kk,un,th,bk,1,0⟩,by rw [z];rfl,?_,rfl,⟨un0,un1,t0',t1',b0',b1',Int.le_refl _,by show (0:Int)<kk;omega⟩,by unfold gH;rw [if_pos rfl];exact ⟨t4,b4⟩⟩;rw [e1];unfold gH;rw [if_pos rfl];show _=some (HO.tup [V.int ((below m.toNat).getD un.toNat 0),V.int ((below m.toNat).getD kk.toNat 0),V.int th,V.int bk]);rw [lu,lk]
       . refine ⟨q2,⟨kk,un,bk,th,0,0⟩,by rw [z];rfl,?_,rfl,⟨un0,un1,b0',b1',t0',t1',Int.le_refl _,by show (0:Int)<kk;omega⟩,by unfold gH;rw [if_neg (show ¬ (0:Int)=1 by decide)];exact ⟨b4,t4⟩⟩;rw [e2];unfold gH;rw [if_neg (show ¬ (0:Int)=1 by decide)];show _=some (HO.tup [V.int ((below m.toNat).getD kk.toNat 0),V.int ((below m.toNat).getD un.toNat 0),V.int bk,V.int th]);rw [lu,lk]
     refine ixL e3 hq (tG hl7 (dI (by rw [List.length_map];omega)) ?_);have keep:∀ {zs:List V} {q:Addr} {r':Road},H7 q=some (.tup (mY r'))->upd H7 lo (.lst zs) q=some (.tup (mY r')):=fun {zs q r'} h=>by rw [ap (fQ h hl7 (by intro z;cases z))];exact h
     have ins:=QP (R:=fun p r=>upd H7 lo (.lst (ps.map V.ref++[V.ref q])) p=some (.tup (mY r))) ps.length (Paired.imp' (fun p r h=>keep h) (RoadsAt.same s34 ro3)) (keep eq);have pst:=P.step row ps.length;rw [List.take_length,List.drop_length,psl,List.take_length,List.drop_length] at ins;rw [psl,List.take_length,List.drop_length] at pst;exact hN _ _ ⟨ps++[q],rs++[gH (below m.toNat) row],rows++[row],_,_,_,_,_,rfl,(s3.trans s34).put nlo _,by rw [ah,List.map_append];rfl,ins,KZ R (by omega) rok,(fun x hx=>by
       rcases List.mem_append.mp hx with h|h
       . exact T4 x h
       . rw [List.mem_singleton.mp h];exact rt),pst⟩
   . rintro BB σ H3 hBB ⟨ps,rs,rows,v3,v4,v5,v6,v7,rfl,s3,hl3,ro3,R,T4,P⟩;refine hBB _ _ ?_;have g:=Pq (n:=m.toNat) (by omega) (by omega) (Fl _) (by rw [show m.toNat - 1=(m - 1).toNat by omega];exact R) P;rw [Int.toNat_of_nonneg (by omega)] at g;refine h7 _ _ ?_;walk_at "rd";refine ⟨bK (by simp),fun t nt=>?_⟩;have s4:=Same.new (.tup [.int m,.ref lo]) nt;exact k t lo m ps rs _ (s3.free nt) nlo (s3.trans s4) ah (s4 _ _ hl3) (RoadsAt.same s4 ro3) g m3 T4
def oq (T:Txt K mg):Sp:=fun vs H Q _=>∃ (a:Addr) (ns:List Int) (m:Int),vs=[.ref a,.int m]/\SqL K H a (ns.map V.int)/\ns.length<=63/\1<=m/\m<=3 /\
 ∀ (l:Addr) (xs:List Int) (H':Hp),H l=none->Same H H'->H' l=some (.lst (xs.map V.int))->(xs.length:Int)=m->(∀ x∈xs,0<=x)->(∀ x∈xs,x<=2/\(m=3->x<=1))->Q (.ref l) H'
abbrev aJ:Stmt:=top 50
theorem gm:FnScope ["script","many","wish","k","place"] ["script","many"] (aa aJ):=FnScope.of (by kernel_rfl)
theorem jI:NmL (aa aJ) "script":=.of (by kernel_rfl)
theorem dZ:NmL (aa aJ) "many":=.of (by kernel_rfl)
theorem d5:NmL (aa aJ) "wish":=.of (by kernel_rfl)
theorem iU:NmL (aa aJ) "k":=.of (by kernel_rfl)
theorem fK:NmL (aa aJ) "place":=.of (by kernel_rfl)
theorem qB:NmG (aa aJ) "range":=.of (by kernel_rfl)
theorem gA:NmG (aa aJ) "len":=.of (by kernel_rfl)
theorem g6:NmG (aa aJ) "_law_drawn":=.of (by kernel_rfl)
theorem ya (T:Txt K mg) (hq:aX (CXe P w)) {f:Addr} {fd:FuncData} (D:Df K mg "_law_small_wish" aJ ["script","many"] f fd) {c8:Addr} {jG:FuncData} (bR:Df K mg "_law_drawn" bI ["script","k"] c8 jG) (G_law_drawn:FnOk P w K mg base (CXe P w) 1 c8 jG ["script","k"] (qi T)):FnOk P w K mg base (CXe P w) 2 f fd ["script","many"] (oq T):=by
 refine D.F.okC gm (fun vs H Q E h=>?_) (fun cdv A outer s H vs Q E hr h=>?_)
 . obtain ⟨a,ns,m,rfl,_⟩:=h
   rfl
 . obtain ⟨a,ns,m,rfl,ha,hn,m1,m3,k⟩:=h;have mp:0<m:=by omega
   refine ⟨_,(ao (aI (i:=2) gm.nd rfl (Or.inl d5.l) (aF Ay (d8 (ag au aj)) (pvl 1 dZ))) (ao (dL PassesOwn.never rfl (Cy qB.g T.range (ag (pvl 1 dZ) (ag (dR gI gA.g T.len p7 (ag (pvl 0 jI) aj) (hn:=gA.n) (hdb:=gA.d)) aj))) (aG (i:=3) gm.nd rfl (Or.inl iU.l)) (ao (aI (i:=4) gm.nd rfl (Or.inl fK.l) (aF ik (pvl 3 iU) (pvl 1 dZ))) (aq (pA (aF ik (aF fw (aF iu au (bA bJ (pvl 2 d5) (pvl 4 fK) (fun _ _=>rfl))) (aw G_law_drawn (hr.mono (by decide)) g6.g bR.m bR.F.kp bR.b .nil (aY hq) (ag (pvl 0 jI) (ag (pvl 3 iU) aj)) (hdb:=g6.d))) (bA bJ (d8 (ag au (ag au (ag au aj)))) (aF lp (pvl 1 dZ) au) (fun _ _=>rfl))) (wx (pvl 2 d5) (pvl 4 fK) kC))))) (aq (aO (pvl 2 d5))))),?_⟩;rw [show L2.start ["script","many","wish","k","place"] [V.ref a,V.int m]=[some (V.ref a),some (V.int m),none,none,none] from rfl];walk_at "rd";refine ⟨by decide,fun r1' nr1=>?_⟩;have u1:=Same.new (.lst [V.int 0]) nr1;refine ⟨r1',m,[V.int 0],rfl,rfl,ah,by omega,by omega,bK (by simp;omega),fun l nl=>?_⟩;rw [uz,<- GP];have u2:=u1.trans (Same.new (.lst ((zrs m).map V.int)) nl);have f2:upd (upd H r1' (.lst [V.int 0])) l (.lst ((zrs m).map V.int)) l=some (.lst ((zrs m).map V.int)):=ah;have nl0:=u1.free nl;generalize upd (upd H r1' (.lst [V.int 0])) l (.lst ((zrs m).map V.int))=H1 at u2 f2 ⊢;refine ⟨_,.inl (Same.seq u2 ha),m,_,⟨rfl,rfl⟩,⟨by omega,by omega,by omega,by rw [List.length_map];omega⟩,?_⟩;rw [List.length_map];refine ui (fun i σ H2=>Same H H2/\∃ (xs:List Int) (v3 v4:Option V),H2 l=some (.lst (xs.map V.int))/\(xs.length:Int)=m/\(∀ x∈xs,0<=x/\x<=2/\(m=3->x<=1))/\σ=[some (.ref a),some (.int m),some (.ref l),v3,v4]) ⟨u2,zrs m,_,_,f2,by rw [sM];omega,(fun x hx=>by rw [(List.mem_replicate.mp hx).2];omega),rfl⟩ ?_ ?_
   . rintro i σ H2 N BB hBB hN hi ⟨s2,xs,v3,v4,e2,xl,x0,rfl⟩;have i0:0<=m+(i:Int):=(by omega);have i1:m+(i:Int)<=1000:=(by omega);refine hBB _ _ (ji fun M1 k1=>?_);generalize m+(i:Int)=j at i0 i1 ⊢;walk_at "rd";refine ⟨mp,k1 _ _ ?_⟩;have p0:=Int.emod_nonneg j (Int.ne_of_gt mp);have p1:=Int.emod_lt_of_pos j mp;generalize j % m=p at p0 p1 ⊢;walk_at "rd";refine ixL e2 (atG p0 (by omega)) ⟨_,rfl,.inl ⟨by decide,by decide⟩,a,ns,j,rfl,Same.seq s2 ha,i0,i1,fun c c0=>⟨_,rfl,bK (by simp),fun q nq=>?_⟩⟩;have s3:=Same.new (.lst [V.int 3,V.int 3,V.int 2]) nq;obtain ⟨w,hw,w0,w1⟩:∃ w:Int,atI [V.int 3,V.int 3,V.int 2] (m - 1)=some (.int w)/\0<w/\w<=3/\(m=3->w<=2):=by
       rcases (show m=1\/m=2\/m=3 by omega) with z|z|z <;> subst z
       . exact ⟨3,rfl,by decide,by decide,fun z=>by cases z⟩
       . exact ⟨3,rfl,by decide,by decide,fun z=>by cases z⟩
       . exact ⟨2,rfl,by decide,by decide,fun _=>by decide⟩
     refine ixL ah hw ⟨w,rfl,w0,Ea (s3 _ _ e2) p0 (by rw [List.length_map];omega) (hN _ _ ⟨(s2.trans s3).put nl0 _,xs.set p.toNat ((2*xs.getD p.toNat 0+c) % w),_,_,by rw [ah,List.map_set],by rw [List.length_set];exact xl,fun x hx=>?_,rfl⟩)⟩;rcases List.mem_or_eq_of_mem_set hx with q|q
     . exact x0 x q
     . have g1:=Int.emod_nonneg (2*xs.getD p.toNat 0+c) (show w≠0 by omega);have g2:=Int.emod_lt_of_pos (2*xs.getD p.toNat 0+c) w0;rw [q];refine ⟨g1,by omega,fun z=>?_⟩;have:=w1.2 z;omega
   . rintro BB σ H2 hBB ⟨s2,xs,v3,v4,e2,xl,x0,rfl⟩;refine hBB _ _ ?_;walk_at "rd";exact k l xs H2 nl0 s2 e2 xl (fun x hx=>(x0 x hx).1) (fun x hx=>(x0 x hx).2)
def wa (T:Txt K mg):Sp:=fun vs H Q _=>∃ i:Int,vs=[.int i]/\Q (.bl true) H
abbrev cw:Stmt:=top 45
theorem DM:FnScope ["number"] ["number"] (aa cw):=FnScope.of (by kernel_rfl)
theorem mf:NmL (aa cw) "number":=.of (by kernel_rfl)
theorem bW:NmG (aa cw) "isinstance":=.of (by kernel_rfl)
theorem kf:NmG (aa cw) "int":=.of (by kernel_rfl)
theorem jZ:NmG (aa cw) "bool":=.of (by kernel_rfl)
theorem E9 (T:Txt K mg) (hq:aX (CXe P w)) {f:Addr} {fd:FuncData} (D:Df K mg "_law_whole" cw ["number"] f fd):FnOk P w K mg base (CXe P w) 1 f fd ["number"] (wa T):=by
 refine D.F.okC DM (fun vs H Q E h=>?_) (fun cdv A outer s H vs Q E hr h=>?_)
 . obtain ⟨i,rfl,_⟩:=h
   rfl
 . obtain ⟨i,rfl,k⟩:=h;refine ⟨_,(aq (aO (Ft (dR yq bW.g T.isinstance vg (ag (pvl 0 mf) (ag (GD (v:=.ty "int") kf.g T.int P5 rfl (hn:=kf.n) (hd:=kf.d)) aj)) (hn:=bW.n) (hdb:=bW.d)) (Eg (JM (dR yq bW.g T.isinstance vg (ag (pvl 0 mf) (ag (GD (v:=.ty "bool") jZ.g T.bool Pw rfl (hn:=jZ.n) (hd:=jZ.d)) aj)) (hn:=bW.n) (hdb:=bW.d))))))),?_⟩;rw [show L2.start ["number"] [V.int i]=[some (V.int i)] from rfl];walk_at "rd";refine ⟨_,_,_,true,rfl,.int i,fun cv h=>by cases h;rfl,_,rfl,?_⟩;rw [if_pos rfl];refine ⟨_,_,_,false,rfl,.int i,fun cv h=>by cases h;rfl,_,rfl,?_⟩;exact k
def jM (T:Txt K mg):Sp:=fun vs H Q E=>∃ (p t:Addr) (m:Int) (ps:List Addr) (rs:List Road) (n:Int),vs=[.ref p,.int n]/\WebAt T.Web H p m t ps rs/\(0<=n->n<m->Q .non H)/\(¬ (0<=n/\n<m)->E (.ref T.NoPlace) none H)
abbrev bp:Stmt:=top 14
theorem BG:FnScope ["web","number"] ["web","number"] (aa bp):=FnScope.of (by kernel_rfl)
theorem vX:NmL (aa bp) "web":=.of (by kernel_rfl)
theorem sh:NmL (aa bp) "number":=.of (by kernel_rfl)
theorem jU:NmG (aa bp) "is_place":=.of (by kernel_rfl)
theorem j7:NmG (aa bp) "NoPlace":=.of (by kernel_rfl)
theorem Ch (T:Txt K mg) (hq:aX (CXe P w)) {f:Addr} {fd:FuncData} (D:Df K mg "check_place" bp ["web","number"] f fd) {d7:Addr} {j1:FuncData} (b8:Df K mg "is_place" dg ["many","number"] d7 j1) (G_is_place:FnOk P w K mg base (CXe P w) 1 d7 j1 ["many","number"] (rq T)):FnOk P w K mg base (CXe P w) 2 f fd ["web","number"] (jM T):=by
 refine D.F.okX BG (fun vs H Q E h=>?_) (fun cdv A outer s H vs Q E hr h=>?_)
 . obtain ⟨p,t,m,ps,rs,n,rfl,_⟩:=h
   rfl
 . obtain ⟨p,t,m,ps,rs,n,rfl,W,k,e⟩:=h;obtain ⟨dx,ob⟩:=W.ob;refine ⟨_,(aq (ce (m8 (mZ (aw G_is_place (hr.mono (by decide)) jU.g b8.m b8.F.kp b8.b .nil dH (ag (dq  (pvl 0 vX) rfl) (ag (pvl 1 sh) aj)) (hdb:=jU.d)))) (aq (uT T.JL rfl xO j7.g T.KL (ag A7 aj) (hdb:=j7.d))) bo)),?_⟩;rw [show L2.start ["web","number"] [V.ref p,V.int n]=[some (V.ref p),some (V.int n)] from rfl];walk_at "rd";refine ⟨T.Web,dx,_,ob,T.j3,T.n_many,_,kY m t,m,n,rfl,_,rfl,?_⟩;by_cases c:0<=n/\n<m
   . rw [if_neg (by simp [c.1,c.2])];exact k c.1 c.2
   . rw [if_pos (by simpa [Bool.and_eq_true] using c)];exact ⟨by decide,e c⟩
def ve (T:Txt K mg):Sp:=fun vs H Q E=>∃ (p t:Addr) (m:Int) (ps:List Addr) (rs:List Road) (a:Int),vs=[.ref p,.int a]/\WebAt T.Web H p m t ps rs /\
 (∀ l H',0<=a->a<m->H l=none->Same H H'->H' l=some (.lst ((fJ m rs a).map V.int))->Q (.ref l) H')/\(¬ (0<=a/\a<m)->E (.ref T.NoPlace) none H)
abbrev bN:Stmt:=top 13
theorem Dm:FnScope ["web","a"] ["web","a"] (aa bN):=FnScope.of (by kernel_rfl)
theorem om:NmL (aa bN) "web":=.of (by kernel_rfl)
theorem rf:NmL (aa bN) "a":=.of (by kernel_rfl)
theorem iZ:NmG (aa bN) "check_place":=.of (by kernel_rfl)
theorem hJ:NmG (aa bN) "sorted":=.of (by kernel_rfl)
theorem jt:NmG (aa bN) "other_ends":=.of (by kernel_rfl)
theorem Dw (T:Txt K mg) (hq:aX (CXe P w)) {f:Addr} {fd:FuncData} (D:Df K mg "neighbours" bN ["web","a"] f fd) {bD:Addr} {c6:FuncData} (aK:Df K mg "check_place" bp ["web","number"] bD c6) (G_check_place:FnOk P w K mg base (CXe P w) 2 bD c6 ["web","number"] (jM T)) {cP:Addr} {iq:FuncData} (cu:Df K mg "other_ends" bP ["roads","place"] cP iq) (G_other_ends:FnOk P w K mg base (CXe P w) 1 cP iq ["roads","place"] (nZ T)):FnOk P w K mg base (CXe P w) 3 f fd ["web","a"] (ve T):=by
 refine D.F.okX Dm (fun vs H Q E h=>?_) (fun cdv A outer s H vs Q E hr h=>?_)
 . obtain ⟨p,t,m,ps,rs,a,rfl,_⟩:=h
   rfl
 . obtain ⟨p,t,m,ps,rs,a,rfl,W,k,e⟩:=h;obtain ⟨dx,ob⟩:=W.ob;refine ⟨_,(ao (cX (aw G_check_place (hr.mono (by decide)) iZ.g aK.m aK.F.kp aK.b .nil dH (ag (pvl 0 om) (ag (pvl 1 rf) aj)) (hdb:=iZ.d))) (aq (aO (dR Gm hJ.g T.sorted Kc (ag (aw G_other_ends (hr.mono (by decide)) jt.g cu.m cu.F.kp cu.b .nil dH (ag (dq  (pvl 0 om) rfl) (ag (pvl 1 rf) aj)) (hdb:=jt.d)) aj) (hn:=hJ.n) (hdb:=hJ.d))))),?_⟩;rw [show L2.start ["web","a"] [V.ref p,V.int a]=[some (V.ref p),some (V.int a)] from rfl];walk_at "rd";refine ⟨p,t,m,ps,rs,a,rfl,W,fun a0 a1=>?_,e⟩;have hlen:(rs.length:Int)=m - 1:=W.go.len;have m24:=W.go.m24;refine ⟨T.Web,dx,_,ob,T.j3,T.n_roads,_,yo m t,t,ps,rs,a,rfl,SqT.of W.tu,W.ro,by omega,fun l1 H1 n1 s1 e1=>?_⟩;refine ⟨l1,rfl,b7 rs a,SqL.of e1,by have:=DS rs a;omega,fun l2 zs n2 pz sz=>?_⟩;rw [Ps W.go a0 a1 pz sz];exact k l2 _ a0 a1 (s1.free n2) (s1.trans (Same.new _ n2)) ah
def xK (T:Txt K mg):Sp:=fun vs H Q _=>∃ (p t:Addr) (m:Int) (ps:List Addr) (rs:List Road) (a:Int) (fv:V),vs=[.ref p,.int a,fv]/\WebAt T.Web H p m t ps rs/\0<=a/\a<m/\(fv=.non\/∃ i,fv=.int i) /\
 ∀ l H',H l=none->Same H H'->H' l=some (.lst ((aB m rs fv a).map V.int))->Q (.ref l) H'
abbrev fA:Stmt:=top 27
theorem O3:FnScope ["web","place","front"] ["web","place","front"] (aa fA):=FnScope.of (by kernel_rfl)
theorem F9:NmL (aa fA) "web":=.of (by kernel_rfl)
theorem Dq:NmL (aa fA) "place":=.of (by kernel_rfl)
theorem PJ:NmC (aa fA) "front":=.of (by kernel_rfl)
theorem nA:NmG (aa fA) "neighbours":=.of (by kernel_rfl)
theorem PB (T:Txt K mg) (hq:aX (CXe P w)) {f:Addr} {fd:FuncData} (D:Df K mg "kids" fA ["web","place","front"] f fd) {fx:Addr} {vz:FuncData} (gG:Df K mg "neighbours" bN ["web","a"] fx vz) (G_neighbours:FnOk P w K mg base (CXe P w) 3 fx vz ["web","a"] (ve T)):FnOk P w K mg base (CXe P w) 4 f fd ["web","place","front"] (xK T):=by
 refine D.F.okC O3 (fun vs H Q E h=>?_) (fun cdv A outer s H vs Q E hr h=>?_)
 . obtain ⟨p,t,m,ps,rs,a,fv,rfl,_⟩:=h
   rfl
 . obtain ⟨p,t,m,ps,rs,a,fv,rfl,W,a0,a1,hf,k⟩:=h;have m24:=W.go.m24;refine ⟨_,(aq (aO (mF rfl (oN (Nc:=["near","front"]) 1 [2] (by decide +kernel) rfl (by decide +kernel) rfl (by show ∀ (y:Str × NameKind),y∈_->y.2=NameKind.free->(aa fA).names.lookup y.1=some NameKind.cell;decide +kernel) rfl (fun _ h=>jg h) (fun i hi=>match i,hi with|0,_=>⟨"front",2,rfl,rfl,rfl,by decide +kernel⟩|i+1,hi=>absurd hi (by show ¬ i+1<1;omega))) (gQ (aw G_neighbours (hr.mono (by decide)) nA.g gG.m gG.F.kp gG.b .nil (aY hq) (ag (pvl 0 F9) (ag (pvl 1 Dq) aj)) (hdb:=nA.d))) (fun _ _ _ _=>(aG (i:=0) (show (["near","front"]:List Str).Nodup from by decide +kernel) rfl (Or.inl rfl))) (fun _ _ _ _=>(Bq (bn xJ (pv 0) (pv 1) (bi _)))) (fun _ _ _ _=>(pv 0))))),?_⟩;rw [show L2.start ["web","place","front"] [V.ref p,V.int a,fv]=[some (V.ref p),some (V.int a),some fv] from rfl];walk_at "rd";have nl:(fJ m rs a).length<=24:=by
     have:=List.length_filter_le (fun q=>decide (q∈b7 rs a)) (below m.toNat);rw [aU] at this;unfold fJ;omega
   refine ⟨p,t,m,ps,rs,a,rfl,W,fun l1 H1 _ _ n1 s1 e1=>⟨l1,rfl,⟨_,SqL.of e1⟩,fun l2 n2=>?_⟩,fun z=>absurd ⟨a0,a1⟩ z⟩;have n20:H l2=none:=s1.free n2;refine uQ (c:=true) (K:=K) (a:=l1) (xs:=(fJ m rs a).map V.int) (fun j ys σ H2=>Same H1 H2/\H2 l2=some (.lst ys)/\ys=(((fJ m rs a).take j).filter fun v=>decide (V.int v≠fv)).map V.int/\∃ v,σ=[v,some fv]) ⟨Same.new _ n2,ah,rfl,_,rfl⟩ (fun j ys σ H2 _ z=>SqL.of (z.1 _ _ e1)) ?_ ?_
   . rintro j xj ys σ H2 N hN hj ⟨s2,h2,rfl,v,rfl⟩;rw [List.getElem?_map] at hj;obtain ⟨b,hb,rfl⟩:=Option.map_eq_some_iff.mp hj;have et:(fJ m rs a).take (j+1)=(fJ m rs a).take j++[b]:=(by rw [List.take_succ,hb];rfl);have ll:(((fJ m rs a).take j).filter fun v=>decide (V.int v≠fv)).length<=24:=by
       have h1:=List.length_filter_le (fun v=>decide (V.int v≠fv)) ((fJ m rs a).take j);rw [List.length_take] at h1;omega
     walk_at "rd";have sc:pZ (V.int b) fv=true:=by
       rcases hf with rfl|⟨i,rfl⟩ <;> rfl
     refine ⟨sc,?_⟩;by_cases c:V.int b=fv
     . rw [if_neg (fun z=>z c)];refine hN _ _ _ ⟨s2,h2,?_,_,rfl⟩;rw [et,List.filter_append];simp [c]
     . rw [if_pos c];refine ⟨h2,dI (by rw [List.length_map];omega),hN _ _ _ ⟨s2.put n2 _,ah,?_,_,rfl⟩⟩;rw [et,List.filter_append];simp [c]
   . rintro ys σ H2 ⟨s2,h2,rfl,v,rfl⟩;rw [List.length_map,List.take_length] at h2;exact k l2 H2 n20 (s1.trans s2) h2
def uL (T:Txt K mg):Sp:=fun vs H Q E=>∃ (p t:Addr) (m:Int) (ps:List Addr) (rs:List Road) (r:Int),vs=[.ref p,.int r]/\WebAt T.Web H p m t ps rs /\
 (0<=r->r<m->∃ par dep,Rooted m rs r par dep/\∀ l H',H l=none->Same H H'->H' l=some (.lst (kU m r par))->Q (.ref l) H')/\(¬ (0<=r/\r<m)->E (.ref T.NoPlace) none H)
abbrev cG:Stmt:=top 25
theorem mE:FnScope ["web","r","nearer","waiting","place","front","kid"] ["web","r"] (aa cG):=FnScope.of (by kernel_rfl)
theorem o7:NmL (aa cG) "web":=.of (by kernel_rfl)
theorem Ba:NmL (aa cG) "r":=.of (by kernel_rfl)
theorem je:NmL (aa cG) "nearer":=.of (by kernel_rfl)
theorem ii:NmL (aa cG) "waiting":=.of (by kernel_rfl)
theorem jP:NmL (aa cG) "place":=.of (by kernel_rfl)
theorem sD:NmL (aa cG) "front":=.of (by kernel_rfl)
theorem ph:NmL (aa cG) "kid":=.of (by kernel_rfl)
theorem lD:NmG (aa cG) "check_place":=.of (by kernel_rfl)
theorem vd:NmG (aa cG) "kids":=.of (by kernel_rfl)
theorem Ml (T:Txt K mg) (hq:aX (CXe P w)) {f:Addr} {fd:FuncData} (D:Df K mg "ahead" cG ["web","r"] f fd) {bD:Addr} {c6:FuncData} (aK:Df K mg "check_place" bp ["web","number"] bD c6) (G_check_place:FnOk P w K mg base (CXe P w) 2 bD c6 ["web","number"] (jM T)) {gP:Addr} {kM:FuncData} (eS:Df K mg "kids" fA ["web","place","front"] gP kM) (G_kids:FnOk P w K mg base (CXe P w) 4 gP kM ["web","place","front"] (xK T)):FnOk P w K mg base (CXe P w) 5 f fd ["web","r"] (uL T):=by
 refine D.F.okX mE (fun vs H Q E h=>?_) (fun cdv A outer s H vs Q E hr h=>?_)
 . obtain ⟨p,t,m,ps,rs,r,rfl,_⟩:=h
   rfl
 . obtain ⟨p,t,m,ps,rs,r,rfl,W,k,e⟩:=h;obtain ⟨dx,ob⟩:=W.ob;have g:=W.go;have m24:=g.m24;refine ⟨_,(ao (cX (aw G_check_place (hr.mono (by decide)) lD.g aK.m aK.F.kp aK.b .nil dH (ag (pvl 0 o7) (ag (pvl 1 Ba) aj)) (hdb:=lD.d))) (ao (aI (i:=2) mE.nd rfl (Or.inl je.l) (aF Ay (d8 (ag vM aj)) (dq  (pvl 0 o7) rfl))) (ao (aI (i:=3) mE.nd rfl (Or.inl ii.l) (d8 (ag (pvl 1 Ba) aj))) (ao (uD PassesOwn.leaving (zj (pvl 3 ii) (fun _=>rfl)) (ao (aI (i:=4) mE.nd rfl (Or.inl jP.l) (E1 PySem.F.plainAttrs_list PySem.F.slot_list_pop PySem.F.type_list_pop EN (pvl 3 ii))) (ao (aI (i:=5) mE.nd rfl (Or.inl sD.l) (bA bJ (pvl 2 je) (pvl 4 jP) (fun _ _=>rfl))) (aq (dL PassesOwn.leaving rfl (gQ (aw G_kids (hr.mono (by decide)) vd.g eS.m eS.F.kp eS.b .nil dH (ag (pvl 0 o7) (ag (pvl 4 jP) (ag (pvl 5 sD) aj))) (hdb:=vd.d))) (aG (i:=6) mE.nd rfl (Or.inl ph.l)) (ao (pA (pvl 4 jP) (wx (pvl 2 je) (pvl 6 ph) kC)) (aq (cX (oA PySem.F.plainAttrs_list PySem.F.slot_list_append PySem.F.type_list_append fb (pvl 3 ii) (ag (pvl 6 ph) aj)))))))))) (aq (aO (pvl 2 je))))))),?_⟩;rw [show L2.start ["web","r","nearer","waiting","place","front","kid"] [V.ref p,V.int r]=[some (V.ref p),some (V.int r),none,none,none,none,none] from rfl];walk_at "rd";refine ⟨p,t,m,ps,rs,r,rfl,W,fun r0 r1=>?_,e⟩;obtain ⟨par,dep,R,k⟩:=k r0 r1;refine ⟨by decide,fun l1 n1=>?_⟩;have s1:=Same.new (.lst [V.non]) n1;refine ⟨T.Web,dx,_,s1 _ _ ob,T.j3,T.n_many,_,rfl,?_⟩;refine ⟨l1,m,[V.non],rfl,rfl,ah,by omega,by omega,bK (by simp;omega),fun l2 n2=>?_⟩;have n20:H l2=none:=s1.free n2;rw [uz,<- Qh (par:=par)];have s2:=s1.trans (Same.new (.lst (nl m par [])) n2);refine ⟨bK (by simp),fun l3 n3=>?_⟩;have n30:H l3=none:=s2.free n3;have n32:l3≠l2:=fun z=>by rw [z,ah] at n3;cases n3
   have s3:=s2.trans (Same.new (.lst [V.int r]) n3);have e2:upd (upd (upd H l1 (.lst [V.non])) l2 (.lst (nl m par []))) l3 (.lst [V.int r]) l2=some (.lst (nl m par [])):=by rw [ap n32.symm,ah]
   have e3:upd (upd (upd H l1 (.lst [V.non])) l2 (.lst (nl m par []))) l3 (.lst [V.int r]) l3=some (.lst [V.int r]):=ah;generalize upd (upd (upd H l1 (.lst [V.non])) l2 (.lst (nl m par []))) l3 (.lst [V.int r])=H3 at s3 e2 e3 ⊢;refine GU (fun n σ H4=>∃ (ks ws:List Int) (v4 v5 v6:Option V),n=2*(m.toNat - ks.length)+ws.length/\σ=[some (.ref p),some (.int r),some (.ref l2),some (.ref l3),v4,v5,v6]/\Same H H4/\H4 l2=some (.lst (nl m par ks))/\H4 l3=some (.lst (ws.map V.int))/\AInv m rs r par ks ws) (2*m.toNat+1) ⟨[],[r],_,_,_,rfl,rfl,s3,e2,e3,AInv.start⟩ ?_;rintro n σ H4 NW BB hBB hN hN2 ⟨ks,ws,v4,v5,v6,rfl,rfl,s4,h2,h3,J⟩;refine hBB _ _ _ ?_;have kl:=cL (by omega) J.nd J.rng;walk_at "rd";refine ⟨_,.inl ⟨_,SqL.of h3,rfl⟩,?_⟩;rcases List.eq_nil_or_concat ws with rfl|⟨ws',q,rfl⟩
   . rw [if_neg (by simp)];rw [J.done R] at h2;exact k l2 H4 n20 s4 h2
   . rw [List.concat_eq_append] at J h3 hN hN2 ⊢;rw [if_pos (by simp)];have hq:q∈ws'++[q]:=List.mem_append_right _ (List.mem_singleton.mpr rfl);have pr:=J.at_ r0 r1 hq;have J2:=J.step g R r0 r1 (p:=q) (ws':=ws') (List.perm_append_singleton q ws');refine ⟨NW,fun σ' H' z=>?_,?_⟩
     . obtain ⟨m',lt,ks',ws'',a4,a5,a6,e1,e2,e3⟩:=hN2 _ _ z;exact ⟨m',lt,ks',ws'',e1,a4,a5,a6,e2,e3⟩
     rw [List.map_append,List.map_cons,List.map_nil] at h3;refine ⟨tyL h3,Mi h3 ?_⟩;have s5:Same H (upd H4 l3 (.lst (ws'.map V.int))):=s4.put n30 _;have h25:upd H4 l3 (.lst (ws'.map V.int)) l2=some (.lst (nl m par ks)):=(by rw [ap n32.symm];exact h2);have h35:upd H4 l3 (.lst (ws'.map V.int)) l3=some (.lst (ws'.map V.int)):=ah;generalize upd H4 l3 (.lst (ws'.map V.int))=H5 at s5 h25 h35 ⊢;refine ixL h25 (iH pr.1 (Ky pr.1 pr.2)) ?_;rw [J.front hq];have hfv:Pb.front r par q=.non\/∃ i,Pb.front r par q=.int i:=by
       unfold Pb.front;by_cases c:q=r
       . rw [if_pos c];exact .inl rfl
       . rw [if_neg c];exact .inr ⟨_,rfl⟩
     have mk:∀ v,v∈aB m rs (Pb.front r par q) q->(0<=v/\v<m)/\v≠r/\par v=q:=fun v=>(aN g R pr.1 pr.2).mp;refine ⟨p,t,m,ps,rs,q,_,rfl,W.same s5,pr.1,pr.2,hfv,fun l6 H6 n6 s6 e6=>⟨l6,rfl,⟨_,SqL.of e6⟩,?_⟩⟩;generalize aB m rs (Pb.front r par q) q=kk at mk e6 J2 ⊢;have n6':H l6=none:=s5.free n6;have n62:l6≠l2:=fun z=>by rw [z,h25] at n6;cases n6
     have n63:l6≠l3:=fun z=>by rw [z,h35] at n6;cases n6
     have kl2:=cL (by omega) J2.nd J2.rng;rw [List.length_append] at kl2;have wl2:=cL (by omega) J2.wnd fun w hw=>J2.at_ r0 r1 hw;rw [List.length_append] at wl2;refine kL (K:=K) (xs:=kk.map V.int) (fun i σ H7=>∃ v6,σ=[some (.ref p),some (.int r),some (.ref l2),some (.ref l3),some (.int q),some (Pb.front r par q),v6]/\Same H H7/\H7 l6=some (.lst (kk.map V.int))/\H7 l2=some (.lst (nl m par (ks++kk.take i)))/\H7 l3=some (.lst ((ws'++kk.take i).map V.int))) ⟨_,rfl,s5.trans s6,e6,by rw [List.take_zero,List.append_nil];exact s6 _ _ h25,by rw [List.take_zero,List.append_nil];exact s6 _ _ h35⟩ (fun i σ H7 _ z=>by obtain ⟨_,_,_,z,_⟩:=z;exact SqL.of z) ?_ ?_
     . rintro i x σ H7 NI BB hBB hI hi ⟨v6,rfl,s7,e7,h27,h37⟩;refine hBB _ _ ?_;rw [List.getElem?_map] at hi;obtain ⟨v,hv,rfl⟩:=Option.map_eq_some_iff.mp hi;obtain ⟨vr,_,vp⟩:=mk v (List.mem_of_getElem? hv);have et:kk.take (i+1)=kk.take i++[v]:=(by rw [List.take_succ,hv];rfl);walk_at "rd";refine ⟨l2,_,v,v.toNat,rfl,rfl,h27,by unfold ixN;rw [if_pos vr.1,if_pos (by rw [qZ];omega)],?_⟩;rw [<- vp,Qj vr.1 vr.2,vp,List.append_assoc,<- et];have h38:upd H7 l2 (.lst (nl m par (ks++kk.take (i+1)))) l3=some (.lst ((ws'++kk.take i).map V.int)):=(by rw [ap n32];exact h37);have wlen:(ws'++kk.take i).length<=100:=by
         rw [List.length_append,List.length_take];omega
       refine ⟨tyL h38,tG h38 (dI (by rw [List.length_map];omega)) (hI _ _ ⟨_,rfl,(s7.put n20 _).put n30 _,?_,?_,?_⟩)⟩
       . rw [ap n63,ap n62];exact e7
       . rw [ap n32.symm,ah]
       . rw [ah,et,<- List.append_assoc,List.map_append (l₁:=ws'++kk.take i)];rfl
     . rintro BB σ H7 hBB ⟨v6,rfl,s7,e7,h27,h37⟩;refine hBB _ _ ?_;rw [List.length_map,List.take_length] at h27 h37;refine hN _ _ _ ?_ ⟨_,_,_,_,_,rfl,rfl,s7,h27,h37,J2⟩;rw [List.length_append,List.length_append,List.length_append];simp only [List.length_cons,List.length_nil];omega
def pH (T:Txt K mg):Sp:=fun vs H Q _=>∃ (a b:Addr) (xs ys:List Int),vs=[.ref a,.ref b]/\H a=some (.lst (xs.map V.int))/\H b=some (.lst (ys.map V.int))/\xs.length<=1000/\∀ l H',H l=none->Same H H'->H' l=some (.lst ((iT xs ys).map V.int))->Q (.ref l) H'
abbrev eG:Stmt:=top 40
theorem Ma:FnScope ["one","other"] ["one","other"] (aa eG):=FnScope.of (by kernel_rfl)
theorem EA:NmL (aa eG) "one":=.of (by kernel_rfl)
theorem BZ:NmL (aa eG) "other":=.of (by kernel_rfl)
theorem D4:NmG (aa eG) "zip":=.of (by kernel_rfl)
theorem Oc (T:Txt K mg) (hq:aX (CXe P w)) {f:Addr} {fd:FuncData} (D:Df K mg "added" eG ["one","other"] f fd):FnOk P w K mg base (CXe P w) 1 f fd ["one","other"] (pH T):=by
 refine D.F.okC Ma (fun vs H Q E h=>?_) (fun cdv A outer s H vs Q E hr h=>?_)
 . obtain ⟨a,b,xs,ys,rfl,_⟩:=h
   rfl
 . obtain ⟨a,b,xs,ys,rfl,ha,hb,hz,k⟩:=h;refine ⟨_,(aq (aO (mF rfl (zo (Nc:=["left","right"]) 2 (by decide +kernel) (by decide +kernel) rfl (by decide +kernel) rfl) (Qo true true D4.g T.zip (ag (pvl 0 EA) (ag (pvl 1 BZ) aj))) (fun _ _ _ _=>(Hg K rfl (n:=2) rfl (bB (aG (i:=0) (show (["left","right"]:List Str).Nodup from by decide +kernel) rfl (Or.inl rfl)) (bB (aG (i:=1) (show (["left","right"]:List Str).Nodup from by decide +kernel) rfl (Or.inl rfl)) jR)))) (fun _ _ _ _=>oJ) (fun _ _ _ _=>(aF fw (pv 0) (pv 1)))))),?_⟩;rw [show L2.start ["one","other"] [V.ref a,V.ref b]=[some (V.ref a),some (V.ref b)] from rfl];walk_at "rd";refine ⟨a,b,⟨rfl,rfl⟩,⟨_,SqL.of ha⟩,⟨_,SqL.of hb⟩,fun p hp=>?_⟩;refine Mo (K:=K) (c:=true) (d:=true) (xs:=xs.map V.int) (zs:=ys.map V.int) (fun i bs σ H2=>Same H H2/\H2 p=some (.lst bs)/\bs=(((xs.zip ys).take i).map fun q=>q.1+q.2).map V.int/\∃ v w,σ=[v,w]) ⟨Same.new _ hp,ah,rfl,_,_,rfl⟩ (fun i bs σ H2 z=>⟨SqL.of (z.1 _ _ ha),SqL.of (z.1 _ _ hb)⟩) ?_ ?_
   . rintro i x z bs σ H2 q N hN hx hz' ⟨s2,e2,rfl,v,w,rfl⟩ hq;rw [List.getElem?_map] at hx hz';obtain ⟨x,gx,rfl⟩:=Option.map_eq_some_iff.mp hx;obtain ⟨z,gz,rfl⟩:=Option.map_eq_some_iff.mp hz';have s3:=Same.new (.tup [V.int x,V.int z]) hq;have hix:=(List.getElem?_eq_some_iff.mp gx).1;walk_at "rd";refine ⟨_,SqT.of ah,rfl,_,_,rfl,_,_,rfl,rfl,?_⟩;walk_at "rd";refine ⟨s3 _ _ e2,dI (by simp;omega),hN _ _ _ ⟨(s2.trans s3).put hp _,ah,?_,_,_,rfl⟩⟩;have hzz:(xs.zip ys)[i]?=some (x,z):=(by rw [List.getElem?_zip_eq_some];exact ⟨gx,gz⟩);rw [List.take_succ,hzz,List.map_append,List.map_append]
     rfl
   . rintro bs σ H2 ⟨s2,e2,rfl,v,w,rfl⟩;have e:(((xs.zip ys).take (min (xs.map V.int).length (ys.map V.int).length)).map fun q=>q.1+q.2)=iT xs ys:=by
       rw [List.take_of_length_le (by rw [List.length_zip,List.length_map,List.length_map];exact Nat.le_refl _)];unfold iT;rw [List.zip,List.map_zipWith]
     rw [e] at e2;exact k p H2 hp s2 e2
/-- the fields of an outlook -/
def jS (p na ka ia:Addr):List (Str × V):=aR "idle" (.ref ia) (aR "kids" (.ref ka) (aR "needs" (.ref na) (aR "web" (.ref p) [])))
theorem q8 (p na ka ia:Addr):(jS p na ka ia).lookup ("web":Str)=some (.ref p):=by
 unfold jS;rw [bG,if_neg (by decide +kernel),bG,if_neg (by decide +kernel),bG,if_neg (by decide +kernel),bG,if_pos rfl]
theorem rh (p na ka ia:Addr):(jS p na ka ia).lookup ("needs":Str)=some (.ref na):=by
 unfold jS;rw [bG,if_neg (by decide +kernel),bG,if_neg (by decide +kernel),bG,if_pos rfl]
theorem AO (p na ka ia:Addr):(jS p na ka ia).lookup ("kids":Str)=some (.ref ka):=by
 unfold jS;rw [bG,if_neg (by decide +kernel),bG,if_pos rfl]
theorem z9 (p na ka ia:Addr):(jS p na ka ia).lookup ("idle":Str)=some (.ref ia):=by
 unfold jS;rw [bG,if_pos rfl]
/-- the web as seen from r,at o: the needs at na,the rows of kids kl at ka,the idle loads of the places of S at ia -/
structure OutAt (C O:Addr) (H:Hp) (o p t:Addr) (m:Int) (ps:List Addr) (rs:List Road) (r:Int) (par:Int->Int) (dep:Int->Nat) (nd:Int->Int) (na ka ia:Addr) (kl:List Addr) (bs:List V) (S:Int->Prop):Prop where
 ob:∃ dx,H o=some (.ins O dx (jS p na ka ia))
 web:WebAt C H p m t ps rs
 rt:Rooted m rs r par dep
 hn:H na=some (.lst (((below m.toNat).map nd).map V.int))
 hk:H ka=some (.lst (kl.map V.ref))
 kp:Paired (fun a v=>H a=some (.lst ((kd m rs r par v).map V.int))) kl (below m.toNat)
 hi:H ia=some (.lst bs)
 done:∀ c,S c->∃ a,atI bs c=some (.ref a)/\H a=some (.lst ((idl m rs r par dep nd c).map V.int))
 cl:∀ u,0<=u->u<m->S u->∀ c∈kd m rs r par u,S c
theorem OutAt.same {C O:Addr} {H H':Hp} {o p t:Addr} {m:Int} {ps:List Addr} {rs:List Road} {r:Int} {par:Int->Int} {dep:Int->Nat} {nd:Int->Int} {na ka ia:Addr} {kl:List Addr} {bs:List V} {S:Int->Prop} (e:Same H H') (h:OutAt C O H o p t m ps rs r par dep nd na ka ia kl bs S):OutAt C O H' o p t m ps rs r par dep nd na ka ia kl bs S where
 ob:=let ⟨dx,q⟩:=h.ob;⟨dx,e _ _ q⟩
 web:=h.web.same e
 rt:=h.rt
 hn:=e _ _ h.hn
 hk:=e _ _ h.hk
 kp:=Paired.imp' (fun q v x=>e q _ x) h.kp
 hi:=e _ _ h.hi
 done:=fun c hc=>let ⟨a,h1,h2⟩:=h.done c hc;⟨a,h1,e _ _ h2⟩
 cl:=h.cl
theorem OutAt.kids {C O:Addr} {H:Hp} {o p t:Addr} {m:Int} {ps:List Addr} {rs:List Road} {r:Int} {par:Int->Int} {dep:Int->Nat} {nd:Int->Int} {na ka ia:Addr} {kl:List Addr} {bs:List V} {S:Int->Prop} (h:OutAt C O H o p t m ps rs r par dep nd na ka ia kl bs S) {v:Int} (v0:0<=v) (v1:v<m):∃ a,atI (kl.map V.ref) v=some (.ref a)/\H a=some (.lst ((kd m rs r par v).map V.int)):=by
 obtain ⟨a,ha,hv⟩:=zX h.kp (CL v0 v1);exact ⟨a,iH v0 (by rw [List.getElem?_map,ha];rfl),hv⟩
theorem Ru {m:Int} {rs:List Road} (g:Good m rs) {r:Int} {par:Int->Int} {v:Int}:(kd m rs r par v).length<=24:=by
 have h1:=List.length_filter_le (fun u=>decide (V.int u≠front r par v)) (fJ m rs v);have h2:=List.length_filter_le (fun q=>decide (q∈b7 rs v)) (below m.toNat);rw [aU] at h2;have:=g.m24;show ((fJ m rs v).filter fun u=>decide (V.int u≠front r par v)).length<=24;unfold fJ at h1 ⊢;omega
def jh (T:Txt K mg):Sp:=fun vs H Q _=>∃ (o p t:Addr) (m:Int) (ps:List Addr) (rs:List Road) (r:Int) (par:Int->Int) (dep:Int->Nat) (nd:Int->Int) (na ka ia:Addr) (kl:List Addr) (bs:List V) (S:Int->Prop) (v:Int) (x:V),vs=[.ref o,.int v,x]/\OutAt T.Web T.Outlook H o p t m ps rs r par dep nd na ka ia kl bs S/\(0<=v/\v<m)/\(x=.non\/∃ i,x=.int i)/\(∀ c∈kd m rs r par v,S c) /\
 ∀ l H',H l=none->Same H H'->H' l=some (.lst ((idK m rs r par (idl m rs r par dep nd) v x).map V.int))->Q (.ref l) H'
abbrev bh:Stmt:=top 39
theorem lm:FnScope ["outlook","place","left_out","load","kid"] ["outlook","place","left_out"] (aa bh):=FnScope.of (by kernel_rfl)
theorem ig:NmL (aa bh) "outlook":=.of (by kernel_rfl)
theorem xi:NmL (aa bh) "place":=.of (by kernel_rfl)
theorem sJ:NmL (aa bh) "left_out":=.of (by kernel_rfl)
theorem gn:NmL (aa bh) "load":=.of (by kernel_rfl)
theorem kh:NmL (aa bh) "kid":=.of (by kernel_rfl)
theorem ni:NmG (aa bh) "added":=.of (by kernel_rfl)
theorem Eo (T:Txt K mg) (hq:aX (CXe P w)) {f:Addr} {fd:FuncData} (D:Df K mg "idle_kids" bh ["outlook","place","left_out"] f fd) {dC:Addr} {fq:FuncData} (dQ:Df K mg "added" eG ["one","other"] dC fq) (G_added:FnOk P w K mg base (CXe P w) 1 dC fq ["one","other"] (pH T)):FnOk P w K mg base (CXe P w) 2 f fd ["outlook","place","left_out"] (jh T):=by
 refine D.F.okC lm (fun vs H Q E h=>?_) (fun cdv A outer s H vs Q E hr h=>?_)
 . obtain ⟨o,p,t,m,ps,rs,r,par,dep,nd,na,ka,ia,kl,bs,S,v,x,rfl,_⟩:=h
   rfl
 . obtain ⟨o,p,t,m,ps,rs,r,par,dep,nd,na,ka,ia,kl,bs,S,v,x,rfl,O,vr,hx,hS,k⟩:=h;have g:=O.web.go;have R:=O.rt;have m24:=g.m24;obtain ⟨dx,ob⟩:=O.ob;obtain ⟨dw,wb⟩:=O.web.ob;refine ⟨_,(ao (aI (i:=3) lm.nd rfl (Or.inl gn.l) (aF Ay (d8 (ag au aj)) (dq  (dq  (pvl 0 ig) rfl) rfl))) (ao (dL PassesOwn.never rfl (gQ (bA bJ (dq  (pvl 0 ig) rfl) (pvl 1 xi) (fun _ _=>rfl))) (aG (i:=4) lm.nd rfl (Or.inl kh.l)) (aq (ce (bn xJ (pvl 4 kh) (pvl 2 sJ) (bi _)) (aq (aI (i:=3) lm.nd rfl (Or.inl gn.l) (aw G_added (hr.mono (by decide)) ni.g dQ.m dQ.F.kp dQ.b .nil (aY hq) (ag (pvl 3 gn) (ag (bA bJ (dq  (pvl 0 ig) rfl) (pvl 4 kh) (fun _ _=>rfl)) aj)) (hdb:=ni.d)))) bo))) (aq (aO (pvl 3 gn))))),?_⟩;rw [show L2.start ["outlook","place","left_out","load","kid"] [V.ref o,V.int v,x]=[some (V.ref o),some (V.int v),some x,none,none] from rfl];walk_at "rd";refine ⟨by decide,fun l1 n1=>?_⟩;have s1:=Same.new (.lst [V.int 0]) n1;refine ⟨T.Outlook,dx,_,s1 _ _ ob,T.bX,T.n_web,_,q8 _ _ _ _,p,rfl,?_⟩;refine ⟨T.Web,dw,_,s1 _ _ wb,T.j3,T.n_many,_,kY _ _,?_⟩;refine ⟨l1,m,[V.int 0],rfl,rfl,ah,by omega,by omega,bK (by simp;omega),fun l2 n2=>?_⟩;rw [uz,<- GP];have s2:=s1.trans (Same.new (.lst ((zrs m).map V.int)) n2);have n20:H l2=none:=s1.free n2;have e2:upd (upd H l1 (.lst [V.int 0])) l2 (.lst ((zrs m).map V.int)) l2=some (.lst ((zrs m).map V.int)):=ah;generalize upd (upd H l1 (.lst [V.int 0])) l2 (.lst ((zrs m).map V.int))=H2 at s2 e2 ⊢;obtain ⟨ak,hak,hkk⟩:=O.kids vr.1 vr.2;refine ⟨T.Outlook,dx,_,s2 _ _ ob,T.bX,T.EY,_,AO _ _ _ _,ixL (s2 _ _ O.hk) hak ⟨ak,rfl,⟨_,SqL.of (s2 _ _ hkk)⟩,?_⟩⟩;have kr:∀ c∈kd m rs r par v,0<=c/\c<m:=fun c hc=>((aN g R vr.1 vr.2).mp hc).1;refine kL (K:=K) (xs:=(kd m rs r par v).map V.int) (fun i σ H3=>Same H H3/\∃ (l:Addr) (v5:Option V),H l=none/\H3 l=some (.lst ((oG m ((((kd m rs r par v).take i).filter fun k=>decide (V.int k≠x)).map (idl m rs r par dep nd))).map V.int))/\σ=[some (V.ref o),some (V.int v),some x,some (V.ref l),v5]) ⟨s2,l2,_,n20,e2,rfl⟩ (fun i σ H3 _ z=>SqL.of (z.1 _ _ hkk)) ?_ ?_
   . rintro i y σ H3 N BB hBB hN hy ⟨s3,l,v5,nl,el,rfl⟩;refine hBB _ _ ?_;rw [List.getElem?_map] at hy;obtain ⟨c,hc,rfl⟩:=Option.map_eq_some_iff.mp hy;have cm:c∈kd m rs r par v:=List.mem_of_getElem? hc;have et:(kd m rs r par v).take (i+1)=(kd m rs r par v).take i++[c]:=(by rw [List.take_succ,hc];rfl);walk_at "rd";have sc:pZ (V.int c) x=true:=by
       rcases hx with rfl|⟨i,rfl⟩ <;> rfl
     refine ⟨sc,?_⟩;by_cases cx:V.int c=x
     . rw [if_neg (fun z=>z cx)];refine hN _ _ ⟨s3,l,_,nl,?_,rfl⟩;rw [et,List.filter_append]
       simpa [cx] using el
     . rw [if_pos cx];obtain ⟨ai,h1,h2⟩:=O.done c (hS c cm);refine ⟨T.Outlook,dx,_,s3 _ _ ob,T.bX,T.n_idle,_,z9 _ _ _ _,ixL (s3 _ _ O.hi) h1 ?_⟩;have ll:(oG m ((((kd m rs r par v).take i).filter fun k=>decide (V.int k≠x)).map (idl m rs r par dep nd))).length=m.toNat:=wQ _ _ (sM m) fun y hy=>by
         obtain ⟨k,hk,rfl⟩:=List.mem_map.mp hy;have:=kr k (List.mem_of_mem_take (List.mem_filter.mp hk).1);exact si g R this.1 this.2
       refine ⟨l,ai,_,_,rfl,el,s3 _ _ h2,by omega,fun l4 H4 n4 s4 e4=>hN _ _ ⟨s3.trans s4,l4,_,s3.free n4,?_,rfl⟩⟩;rw [et,List.filter_append,List.filter_cons_of_pos (by simpa using cx),List.filter_nil,List.map_append,List.map_cons,List.map_nil,Hq];exact e4
   . rintro BB σ H3 hBB ⟨s3,l,v5,nl,el,rfl⟩;refine hBB _ _ ?_;rw [List.length_map,List.take_length] at el;walk_at "rd";exact k l H3 nl s3 el
def oV (T:Txt K mg):Sp:=fun vs H Q E=>∃ (p t:Addr) (m:Int) (ps:List Addr) (rs:List Road) (a b:Int),vs=[.ref p,.int a,.int b]/\WebAt T.Web H p m t ps rs /\
 (∀ k,0<=a->a<m->0<=b->b<m->aE rs a b=some k->Q (.int k) H)/\(¬ ((0<=a/\a<m)/\(0<=b/\b<m))->E (.ref T.NoPlace) none H)/\(0<=a->a<m->0<=b->b<m->aE rs a b=none->E (.ref T.NoRoad) none H)
abbrev cR:Stmt:=top 12
theorem sj:FnScope ["web","a","b","one","other","there","back"] ["web","a","b"] (aa cR):=FnScope.of (by kernel_rfl)
theorem rz:NmL (aa cR) "web":=.of (by kernel_rfl)
theorem vP:NmL (aa cR) "a":=.of (by kernel_rfl)
theorem vU:NmL (aa cR) "b":=.of (by kernel_rfl)
theorem rG:NmL (aa cR) "one":=.of (by kernel_rfl)
theorem nQ:NmL (aa cR) "other":=.of (by kernel_rfl)
theorem vB:NmL (aa cR) "there":=.of (by kernel_rfl)
theorem wM:NmL (aa cR) "back":=.of (by kernel_rfl)
theorem fG:NmG (aa cR) "check_place":=.of (by kernel_rfl)
theorem sN:NmG (aa cR) "NoRoad":=.of (by kernel_rfl)
theorem OQ (T:Txt K mg) (hq:aX (CXe P w)) {f:Addr} {fd:FuncData} (D:Df K mg "toll" cR ["web","a","b"] f fd) {bD:Addr} {c6:FuncData} (aK:Df K mg "check_place" bp ["web","number"] bD c6) (G_check_place:FnOk P w K mg base (CXe P w) 2 bD c6 ["web","number"] (jM T)):FnOk P w K mg base (CXe P w) 3 f fd ["web","a","b"] (oV T):=by
 refine D.F.okX sj (fun vs H Q E h=>?_) (fun cdv A outer s H vs Q E hr h=>?_)
 . obtain ⟨p,t,m,ps,rs,a,b,rfl,_⟩:=h
   rfl
 . obtain ⟨p,t,m,ps,rs,a,b,rfl,W,k,e1,e2⟩:=h;obtain ⟨dx,ob⟩:=W.ob;refine ⟨_,(ao (cX (aw G_check_place (hr.mono (by decide)) fG.g aK.m aK.F.kp aK.b .nil dH (ag (pvl 0 rz) (ag (pvl 1 vP) aj)) (hdb:=fG.d))) (ao (cX (aw G_check_place (hr.mono (by decide)) fG.g aK.m aK.F.kp aK.b .nil dH (ag (pvl 0 rz) (ag (pvl 2 vU) aj)) (hdb:=fG.d))) (ao (dL PassesOwn.leaving rfl (vW (dq  (pvl 0 rz) rfl)) (nC (n:=4) rfl (bB (aG (i:=3) sj.nd rfl (Or.inl rG.l)) (bB (aG (i:=4) sj.nd rfl (Or.inl nQ.l)) (bB (aG (i:=5) sj.nd rfl (Or.inl vB.l)) (bB (aG (i:=6) sj.nd rfl (Or.inl wM.l)) jR))))) (ao (ce (PW.pt (wB (bn jQ (pvl 3 rG) (pvl 1 vP) (bi _)) (sI (bn jQ (pvl 4 nQ) (pvl 2 vU) (bi _))))) (aq (aO (pvl 5 vB))) bo) (aq (ce (PW.pt (wB (bn jQ (pvl 3 rG) (pvl 2 vU) (bi _)) (sI (bn jQ (pvl 4 nQ) (pvl 1 vP) (bi _))))) (aq (aO (pvl 6 wM))) bo)))) (aq (uT T.Nj rfl xO sN.g T.LD (ag A7 aj) (hdb:=sN.d)))))),?_⟩;rw [show L2.start ["web","a","b","one","other","there","back"] [V.ref p,V.int a,V.int b]=[some (V.ref p),some (V.int a),some (V.int b),none,none,none,none] from rfl];walk_at "rd";refine ⟨p,t,m,ps,rs,a,rfl,W,fun a0 a1=>?_,fun z=>e1 fun w=>z w.1⟩;refine ⟨p,t,m,ps,rs,b,rfl,W,fun b0 b1=>?_,fun z=>e1 fun w=>z w.2⟩;refine ⟨T.Web,dx,_,ob,T.j3,T.n_roads,_,yo m t,t,rfl,⟨_,SqT.of W.tu⟩,?_⟩;have hlen:ps.length=rs.length:=Paired.length W.ro;refine FJ (K:=K) (xs:=ps.map V.ref) (fun i σ H2=>H2=H/\aE (rs.take i) a b=none/\∃ v1 v2 v3 v4,σ=[some (V.ref p),some (V.int a),some (V.int b),v1,v2,v3,v4]) ⟨rfl,rfl,_,_,_,_,rfl⟩ (fun i σ H2 _ z=>by rw [z.1];exact SqT.of W.tu) ?_ ?_
   . rintro i x σ H2 N hN hx ⟨rfl,hno,v1,v2,v3,v4,rfl⟩;obtain ⟨q,r,rfl,h1,h2,h3⟩:=W.ro.get hx;have et:rs.take (i+1)=rs.take i++[r]:=(by rw [List.take_succ,h2];rfl);have split:aE rs a b=(aE (rs.take i) a b).or ((di a b r).or (aE (rs.drop (i+1)) a b)):=by
       have:rs=rs.take i++r::rs.drop (i+1):=by
         have hil:i<rs.length:=(List.getElem?_eq_some_iff.mp h2).1;have e:rs[i]=r:=(by rw [List.getElem?_eq_getElem hil] at h2;exact Option.some.inj h2);rw [<- e,List.getElem_cons_drop,List.take_append_drop]
       conv=>lhs;rw [this]
       unfold aE;rw [List.findSome?_append,List.findSome?_cons];cases di a b r <;> rfl
     rw [hno,Option.none_or] at split;walk_at "rd";refine ⟨_,SqT.of h3,rfl,_,_,rfl,_,_,rfl,_,_,rfl,_,_,rfl,rfl,?_⟩;walk_at "rd";have next:di a b r=none->N [some (V.ref p),some (V.int a),some (V.int b),some (V.int r.a),some (V.int r.b),some (V.int r.t),some (V.int r.u)] H2:=fun z=>hN _ _ ⟨rfl,by
       rw [et];unfold aE at hno ⊢;rw [List.findSome?_append,hno,List.findSome?_cons,z]
       rfl,_,_,_,_,rfl⟩
     have got:∀ v,di a b r=some v->aE rs a b=some v:=fun v z=>by rw [split,z];rfl
     unfold di at next got;split
     . rename_i c1
       split
       . rename_i c2
         exact k _ a0 a1 b0 b1 (got _ (by rw [if_pos ⟨c1,c2⟩]))
       . rename_i c2
         split
         . rename_i c3
           split
           . rename_i c4
             exact k _ a0 a1 b0 b1 (got _ (by rw [if_neg (fun z=>c2 z.2),if_pos ⟨c3,c4⟩]))
           . rename_i c4
             exact next (by rw [if_neg (fun z=>c2 z.2),if_neg (fun z=>c4 z.2)])
         . rename_i c3
           exact next (by rw [if_neg (fun z=>c2 z.2),if_neg (fun z=>c3 z.1)])
     . rename_i c1
       split
       . rename_i c3
         split
         . rename_i c4
           exact k _ a0 a1 b0 b1 (got _ (by rw [if_neg (fun z=>c1 z.1),if_pos ⟨c3,c4⟩]))
         . rename_i c4
           exact next (by rw [if_neg (fun z=>c1 z.1),if_neg (fun z=>c4 z.2)])
       . rename_i c3
         exact next (by rw [if_neg (fun z=>c1 z.1),if_neg (fun z=>c3 z.1)])
   . rintro σ H2 ⟨rfl,hno,v1,v2,v3,v4,rfl⟩;rw [List.length_map,hlen,List.take_length] at hno;walk_at "rd";exact ⟨by decide,e2 a0 a1 b0 b1 hno⟩
def pP (T:Txt K mg):Sp:=fun vs H Q _=>∃ (p:Addr) (ns:List Int),vs=[.ref p]/\(SqL K H p (ns.map V.int)\/SqT K H p (ns.map V.int))/\Q (.int ns.sum) H
abbrev fh:Stmt:=top 23
theorem La:FnScope ["numbers"] ["numbers"] (aa fh):=FnScope.of (by kernel_rfl)
theorem y2:NmL (aa fh) "numbers":=.of (by kernel_rfl)
theorem qu:NmG (aa fh) "sum":=.of (by kernel_rfl)
theorem LZ (T:Txt K mg) (hq:aX (CXe P w)) {f:Addr} {fd:FuncData} (D:Df K mg "total" fh ["numbers"] f fd):FnOk P w K mg base (CXe P w) 1 f fd ["numbers"] (pP T):=by
 refine D.F.okC La (fun vs H Q E h=>?_) (fun cdv A outer s H vs Q E hr h=>?_)
 . obtain ⟨p,ns,rfl,_⟩:=h
   rfl
 . obtain ⟨p,ns,rfl,hp,k⟩:=h;refine ⟨_,(aq (aO (dR (EL rfl) qu.g T.sum J5 (ag (pvl 0 y2) aj) (hn:=qu.n) (hdb:=qu.d)))),?_⟩;rw [show L2.start ["numbers"] [V.ref p]=[some (V.ref p)] from rfl];walk_at "rd";exact ⟨ns,hp,k⟩
def jY (T:Txt K mg):Nat->Sp
 | 0=>fun _ _ _ _=>False
 | n+1=>fun vs H Q _=>∃ (o p t:Addr) (m:Int) (ps:List Addr) (rs:List Road) (r:Int) (par:Int->Int) (dep:Int->Nat) (nd:Int->Int) (na ka ia:Addr) (kl:List Addr) (bs:List V) (S:Int->Prop) (v y:Int),vs=[.ref o,.int v,.int y]/\OutAt T.Web T.Outlook H o p t m ps rs r par dep nd na ka ia kl bs S/\(0<=v/\v<m)/\m.toNat<=dep v+1+n/\(∀ c∈kd m rs r par v,S c) /\
   ∀ l H',H l=none->Same H H'->H' l=some (.lst ((gld m rs r par dep nd v y).map V.int))->Q (.ref l) H'
def kj (T:Txt K mg):Sp:=jY T 25
def Gd (T:Txt K mg):Nat->Sp
 | 0=>fun _ _ _ _=>False
 | n+1=>fun vs H Q _=>∃ (o p t:Addr) (m:Int) (ps:List Addr) (rs:List Road) (r:Int) (par:Int->Int) (dep:Int->Nat) (nd:Int->Int) (na ka ia:Addr) (kl:List Addr) (bs:List V) (S:Int->Prop) (v c y:Int),vs=[.ref o,.int v,.int c,.int y]/\OutAt T.Web T.Outlook H o p t m ps rs r par dep nd na ka ia kl bs S/\(0<=v/\v<m)/\c∈kd m rs r par v/\m.toNat<=dep c+1+n/\(∀ c∈kd m rs r par v,S c) /\
   ∀ l H',H l=none->Same H H'->H' l=some (.lst ((byK m rs r par nd (idl m rs r par dep nd) (gld m rs r par dep nd) v y c).map V.int))->Q (.ref l) H'
abbrev ay:Stmt:=top 41
theorem cT:FnScope ["outlook","place","over","room","best","kid","load"] ["outlook","place","over"] (aa ay):=FnScope.of (by kernel_rfl)
theorem dh:NmL (aa ay) "outlook":=.of (by kernel_rfl)
theorem cQ:NmL (aa ay) "place":=.of (by kernel_rfl)
theorem sL:NmL (aa ay) "over":=.of (by kernel_rfl)
theorem gw:NmL (aa ay) "room":=.of (by kernel_rfl)
theorem cY:NmL (aa ay) "best":=.of (by kernel_rfl)
theorem lQ:NmL (aa ay) "kid":=.of (by kernel_rfl)
theorem gM:NmL (aa ay) "load":=.of (by kernel_rfl)
theorem iB:NmG (aa ay) "idle_kids":=.of (by kernel_rfl)
theorem ju:NmG (aa ay) "load_by":=.of (by kernel_rfl)
theorem d6:NmG (aa ay) "total":=.of (by kernel_rfl)
abbrev bF:Stmt:=top 42
theorem t9:FnScope ["outlook","place","kid","room","given","over"] ["outlook","place","kid","room"] (aa bF):=FnScope.of (by kernel_rfl)
theorem d9:NmL (aa bF) "outlook":=.of (by kernel_rfl)
theorem kG:NmL (aa bF) "place":=.of (by kernel_rfl)
theorem gO:NmL (aa bF) "kid":=.of (by kernel_rfl)
theorem Al:NmL (aa bF) "room":=.of (by kernel_rfl)
theorem pK:NmL (aa bF) "given":=.of (by kernel_rfl)
theorem qE:NmL (aa bF) "over":=.of (by kernel_rfl)
theorem jd:NmG (aa bF) "toll":=.of (by kernel_rfl)
theorem qg:NmG (aa bF) "added":=.of (by kernel_rfl)
theorem jA:NmG (aa bF) "greatest_load":=.of (by kernel_rfl)
theorem lz:NmG (aa bF) "idle_kids":=.of (by kernel_rfl)
theorem Gi (T:Txt K mg) (hq:aX (CXe P w)) {f:Addr} {fd:FuncData} (D:Df K mg "load_by" bF ["outlook","place","kid","room"] f fd) {dC:Addr} {fq:FuncData} (dQ:Df K mg "added" eG ["one","other"] dC fq) (G_added:FnOk P w K mg base (CXe P w) 1 dC fq ["one","other"] (pH T)) {bx:Addr} {cq:FuncData} (bf:Df K mg "idle_kids" bh ["outlook","place","left_out"] bx cq) (G_idle_kids:FnOk P w K mg base (CXe P w) 2 bx cq ["outlook","place","left_out"] (jh T)) {df:Addr} {eI:FuncData} (cf:Df K mg "toll" cR ["web","a","b"] df eI) (G_toll:FnOk P w K mg base (CXe P w) 3 df eI ["web","a","b"] (oV T)) {be:Addr} {cg:FuncData} (D_greatest_load:Df K mg "greatest_load" ay ["outlook","place","over"] be cg) {n N:Nat} (hN:3<=N) (G_greatest_load:FnOk P w K mg base (CXe P w) N be cg ["outlook","place","over"] (jY T n)):FnOk P w K mg base (CXe P w) (N+1) f fd ["outlook","place","kid","room"] (Gd T n):=by
 refine D.F.okC t9 (fun vs H Q E h=>?_) (fun cdv A outer s H vs Q E hr h=>?_)
 . cases n with
   | zero=>exact h.elim
   | succ n =>
   obtain ⟨o,p,t,m,ps,rs,r,par,dep,nd,na,ka,ia,kl,bs,S,v,c,y,rfl,_⟩:=h
   rfl
 . cases n with
   | zero=>exact h.elim
   | succ n =>
   obtain ⟨o,p,t,m,ps,rs,r,par,dep,nd,na,ka,ia,kl,bs,S,v,c,y,rfl,O,vr,cm,fu,hS,k⟩:=h;have g:=O.web.go;have R:=O.rt;have m24:=g.m24;obtain ⟨dx,ob⟩:=O.ob;obtain ⟨⟨cr,cn,cp⟩,_,_⟩:=bT g R vr.1 vr.2 cm;obtain ⟨k1,hk1,a0,a1⟩:=sg g R cr.1 cr.2 cn;obtain ⟨k2,hk2,b0,b1⟩:=sx g R cr.1 cr.2 cn;have e1:dnT rs par c=k1:=by unfold dnT;rw [hk1];rfl
   have e2:upT rs par c=k2:=by unfold upT;rw [hk2];rfl
   rw [cp] at hk1 hk2;refine ⟨_,(ao (aI (i:=4) t9.nd rfl (Or.inl pK.l) (aF lp (pvl 3 Al) (aF iu (bA bJ (dq  (pvl 0 d9) rfl) (pvl 2 gO) (fun _ _=>rfl)) (aw G_toll (hr.mono (by omega)) jd.g cf.m cf.F.kp cf.b .nil (aY hq) (ag (dq  (pvl 0 d9) rfl) (ag (pvl 1 kG) (ag (pvl 2 gO) aj))) (hdb:=jd.d))))) (ao (aI (i:=5) t9.nd rfl (Or.inl qE.l) (aF lp (aF iu (aw G_toll (hr.mono (by omega)) jd.g cf.m cf.F.kp cf.b .nil (aY hq) (ag (dq  (pvl 0 d9) rfl) (ag (pvl 2 gO) (ag (pvl 1 kG) aj))) (hdb:=jd.d)) (aF fw (pvl 4 pK) au)) au)) (aq (aO (aw G_added (hr.mono (by omega)) qg.g dQ.m dQ.F.kp dQ.b .nil (aY hq) (ag (aw G_greatest_load (hr.mono (by omega)) jA.g D_greatest_load.m D_greatest_load.F.kp D_greatest_load.b .nil (aY hq) (ag (pvl 0 d9) (ag (pvl 2 gO) (ag (pvl 5 qE) aj))) (hdb:=jA.d)) (ag (aw G_idle_kids (hr.mono (by omega)) lz.g bf.m bf.F.kp bf.b .nil (aY hq) (ag (pvl 0 d9) (ag (pvl 1 kG) (ag (pvl 2 gO) aj))) (hdb:=lz.d)) aj)) (hdb:=qg.d)))))),?_⟩;rw [show L2.start ["outlook","place","kid","room","given","over"] [V.ref o,V.int v,V.int c,V.int y]=[some (V.ref o),some (V.int v),some (V.int c),some (V.int y),none,none] from rfl];walk_at "rd";refine ⟨T.Outlook,dx,_,ob,T.bX,T.xI,_,rh _ _ _ _,ixL O.hn (Cb nd cr.1 cr.2) ?_⟩;have W:=O.web;refine ⟨T.Outlook,dx,_,ob,T.bX,T.n_web,_,q8 _ _ _ _,?_⟩;refine ⟨p,t,m,ps,rs,v,c,rfl,W,fun k' _ _ _ _ h=>?_,fun z=>absurd ⟨vr,cr⟩ z,fun _ _ _ _ z=>by rw [hk1] at z;cases z⟩;rw [hk1] at h;cases h;refine ⟨_,rfl,_,rfl,.inr ⟨by omega,by omega⟩,?_⟩;refine ⟨T.Outlook,dx,_,ob,T.bX,T.n_web,_,q8 _ _ _ _,?_⟩;refine ⟨p,t,m,ps,rs,c,v,rfl,W,fun k' _ _ _ _ h=>?_,fun z=>absurd ⟨cr,vr⟩ z,fun _ _ _ _ z=>by rw [hk2] at z;cases z⟩;rw [hk2] at h;cases h;refine ⟨_,rfl,.inl ⟨by omega,by omega⟩,?_⟩;refine ⟨o,p,t,m,ps,rs,r,par,dep,nd,na,ka,ia,kl,bs,S,c,_,rfl,O,cr,fu,fun d hd=>O.cl c cr.1 cr.2 (hS c cm) d hd,fun l1 H1 n1 s1 h1=>?_⟩;refine ⟨o,p,t,m,ps,rs,r,par,dep,nd,na,ka,ia,kl,bs,S,v,_,rfl,O.same s1,vr,.inr ⟨_,rfl⟩,hS,fun l2 H2 n2 s2 h2=>?_⟩;refine ⟨l1,l2,_,_,rfl,s2 _ _ h1,h2,by rw [G5 g R cr.1 cr.2];omega,fun l3 H3 n3 s3 h3=>?_⟩;refine k l3 H3 (s1.free (s2.free n3)) (s1.trans (s2.trans s3)) ?_;unfold byK;rw [e1,e2];exact h3
theorem yc (T:Txt K mg) (hq:aX (CXe P w)) {f:Addr} {fd:FuncData} (D:Df K mg "greatest_load" ay ["outlook","place","over"] f fd) {g9:Addr} {uX:FuncData} (gZ:Df K mg "load_by" bF ["outlook","place","kid","room"] g9 uX) {dC:Addr} {fq:FuncData} (dQ:Df K mg "added" eG ["one","other"] dC fq) (G_added:FnOk P w K mg base (CXe P w) 1 dC fq ["one","other"] (pH T)) {bx:Addr} {cq:FuncData} (bf:Df K mg "idle_kids" bh ["outlook","place","left_out"] bx cq) (G_idle_kids:FnOk P w K mg base (CXe P w) 2 bx cq ["outlook","place","left_out"] (jh T)) {df:Addr} {eI:FuncData} (cf:Df K mg "toll" cR ["web","a","b"] df eI) (G_toll:FnOk P w K mg base (CXe P w) 3 df eI ["web","a","b"] (oV T)) {dA:Addr} {fC:FuncData} (b6:Df K mg "total" fh ["numbers"] dA fC) (G_total:FnOk P w K mg base (CXe P w) 1 dA fC ["numbers"] (pP T)):∀ n:Nat,FnOk P w K mg base (CXe P w) (2*n+4) f fd ["outlook","place","over"] (jY T n):=by
 intro n;have D_greatest_load:=D
 induction n with
 | zero=>exact D.F.okC cT (fun vs H Q E h=>h.elim) (fun cdv A outer s H vs Q E hr h=>h.elim)
 | succ n G_greatest_load =>
 have G_load_by:=Gi T hq gZ dQ G_added bf G_idle_kids cf G_toll D_greatest_load (by omega) G_greatest_load;refine D.F.okC cT (fun vs H Q E h=>?_) (fun cdv A outer s H vs Q E hr h=>?_)
 . obtain ⟨o,p,t,m,ps,rs,r,par,dep,nd,na,ka,ia,kl,bs,S,v,y,rfl,_⟩:=h
   rfl
 . obtain ⟨o,p,t,m,ps,rs,r,par,dep,nd,na,ka,ia,kl,bs,S,v,y,rfl,O,vr,fu,hS,k⟩:=h;have g:=O.web.go;have R:=O.rt;have m24:=g.m24;obtain ⟨dx,ob⟩:=O.ob;refine ⟨_,(ao (aI (i:=3) cT.nd rfl (Or.inl gw.l) (aF fw (bA bJ (dq  (pvl 0 dh) rfl) (pvl 1 cQ) (fun _ _=>rfl)) (pvl 2 sL))) (ao (aI (i:=4) cT.nd rfl (Or.inl cY.l) (aw G_idle_kids (hr.mono (by omega)) iB.g bf.m bf.F.kp bf.b .nil (aY hq) (ag (pvl 0 dh) (ag (pvl 1 cQ) (ag vM aj))) (hdb:=iB.d))) (ao (GV (pvl 4 cY) (pvl 1 cQ) EO (pvl 3 gw) KQ kC) (ao (dL PassesOwn.never rfl (gQ (bA bJ (dq  (pvl 0 dh) rfl) (pvl 1 cQ) (fun _ _=>rfl))) (aG (i:=5) cT.nd rfl (Or.inl lQ.l)) (ao (aI (i:=6) cT.nd rfl (Or.inl gM.l) (aw G_load_by (hr.mono (by omega)) ju.g gZ.m gZ.F.kp gZ.b .nil (aY hq) (ag (pvl 0 dh) (ag (pvl 1 cQ) (ag (pvl 5 lQ) (ag (pvl 3 gw) aj)))) (hdb:=ju.d))) (aq (ce (bn xF (aw G_total (hr.mono (by omega)) d6.g b6.m b6.F.kp b6.b .nil (aY hq) (ag (pvl 6 gM) aj) (hdb:=d6.d)) (aw G_total (hr.mono (by omega)) d6.g b6.m b6.F.kp b6.b .nil (aY hq) (ag (pvl 4 cY) aj) (hdb:=d6.d)) (bi _)) (aq (aI (i:=4) cT.nd rfl (Or.inl cY.l) (pvl 6 gM))) bo)))) (aq (aO (pvl 4 cY))))))),?_⟩;rw [show L2.start ["outlook","place","over","room","best","kid","load"] [V.ref o,V.int v,V.int y]=[some (V.ref o),some (V.int v),some (V.int y),none,none,none,none] from rfl];walk_at "rd";refine ⟨T.Outlook,dx,_,ob,T.bX,T.xI,_,rh _ _ _ _,ixL O.hn (Cb nd vr.1 vr.2) ⟨_,rfl,?_⟩⟩;refine ⟨o,p,t,m,ps,rs,r,par,dep,nd,na,ka,ia,kl,bs,S,v,_,rfl,O,vr,.inl rfl,hS,fun l1 H1 n1 s1 h1=>?_⟩;have kl1:(idK m rs r par (idl m rs r par dep nd) v V.non).length=m.toNat:=sy fun k hk=>by
     have w:=bT g R vr.1 vr.2 hk;exact si g R w.1.1.1 w.1.1.2
   refine ixL h1 (atG vr.1 (by omega)) ⟨_,rfl,Ea h1 vr.1 (by rw [List.length_map];omega) ?_⟩;have s2:=s1.put n1 (.lst (((idK m rs r par (idl m rs r par dep nd) v V.non).map V.int).set v.toNat (V.int ((idK m rs r par (idl m rs r par dep nd) v V.non).getD v.toNat 0+(nd v+y)))));have h2:upd H1 l1 (.lst (((idK m rs r par (idl m rs r par dep nd) v V.non).map V.int).set v.toNat (V.int ((idK m rs r par (idl m rs r par dep nd) v V.non).getD v.toNat 0+(nd v+y))))) l1=some (.lst ((jX (idK m rs r par (idl m rs r par dep nd) v V.non) v (nd v+y)).map V.int)):=by
     rw [ah];unfold jX;rw [List.map_set]
   generalize upd H1 l1 (.lst (((idK m rs r par (idl m rs r par dep nd) v V.non).map V.int).set v.toNat (V.int ((idK m rs r par (idl m rs r par dep nd) v V.non).getD v.toNat 0+(nd v+y)))))=H2 at s2 h2 ⊢;obtain ⟨ak,hak,hkk⟩:=O.kids vr.1 vr.2;refine ⟨T.Outlook,dx,_,s2 _ _ ob,T.bX,T.EY,_,AO _ _ _ _,ixL (s2 _ _ O.hk) hak ⟨ak,rfl,⟨_,SqL.of (s2 _ _ hkk)⟩,?_⟩⟩;refine kL (K:=K) (xs:=(kd m rs r par v).map V.int) (fun i σ H3=>Same H H3/\∃ (l:Addr) (v5 v6:Option V),H l=none/\H3 l=some (.lst (((((kd m rs r par v).take i).map (byK m rs r par nd (idl m rs r par dep nd) (gld m rs r par dep nd) v (nd v+y))).foldl iM (jX (idK m rs r par (idl m rs r par dep nd) v .non) v (nd v+y))).map V.int))/\σ=[some (V.ref o),some (V.int v),some (V.int y),some (V.int (nd v+y)),some (V.ref l),v5,v6]) ⟨s2,l1,_,_,n1,h2,rfl⟩ (fun i σ H3 _ z=>SqL.of (z.1 _ _ hkk)) ?_ ?_
   . rintro i y' σ H3 N BB hBB hN hy ⟨s3,l,v5,v6,nl,el,rfl⟩;refine hBB _ _ ?_;rw [List.getElem?_map] at hy;obtain ⟨c,hc,rfl⟩:=Option.map_eq_some_iff.mp hy;have cm:c∈kd m rs r par v:=List.mem_of_getElem? hc;have et:(kd m rs r par v).take (i+1)=(kd m rs r par v).take i++[c]:=(by rw [List.take_succ,hc];rfl);have w:=bT g R vr.1 vr.2 cm;obtain ⟨n',rfl⟩:∃ n',n=n'+1:=⟨n - 1,by omega⟩;walk_at "rd";refine ⟨o,p,t,m,ps,rs,r,par,dep,nd,na,ka,ia,kl,bs,S,v,c,_,rfl,O.same s3,vr,cm,by omega,hS,fun l4 H4 n4 s4 h4=>?_⟩;refine ⟨l4,_,rfl,.inl (SqL.of h4),l,_,rfl,.inl (SqL.of (s4 _ _ el)),?_⟩;refine ⟨_,rfl,_,rfl,?_⟩;have ef:(((kd m rs r par v).take (i+1)).map (byK m rs r par nd (idl m rs r par dep nd) (gld m rs r par dep nd) v (nd v+y))).foldl iM (jX (idK m rs r par (idl m rs r par dep nd) v .non) v (nd v+y))=iM ((((kd m rs r par v).take i).map (byK m rs r par nd (idl m rs r par dep nd) (gld m rs r par dep nd) v (nd v+y))).foldl iM (jX (idK m rs r par (idl m rs r par dep nd) v .non) v (nd v+y))) (byK m rs r par nd (idl m rs r par dep nd) (gld m rs r par dep nd) v (nd v+y) c):=by
       rw [et,List.map_append,List.foldl_append]
       rfl
     split
     . rename_i q
       refine hN _ _ ⟨s3.trans s4,l4,_,_,s3.free n4,?_,rfl⟩;rw [ef,DJ q];exact h4
     . rename_i q
       refine hN _ _ ⟨s3.trans s4,l,_,_,nl,?_,rfl⟩;rw [ef,Ec q];exact s4 _ _ el
   . rintro BB σ H3 hBB ⟨s3,l,v5,v6,nl,el,rfl⟩;refine hBB _ _ ?_;rw [List.length_map,List.take_length] at el;walk_at "rd";refine k l H3 nl s3 ?_;rw [qk g R vr.1 vr.2];exact el
theorem y3 (T:Txt K mg) (hq:aX (CXe P w)) {f:Addr} {fd:FuncData} (D:Df K mg "greatest_load" ay ["outlook","place","over"] f fd) {g9:Addr} {uX:FuncData} (gZ:Df K mg "load_by" bF ["outlook","place","kid","room"] g9 uX) {dC:Addr} {fq:FuncData} (dQ:Df K mg "added" eG ["one","other"] dC fq) (G_added:FnOk P w K mg base (CXe P w) 1 dC fq ["one","other"] (pH T)) {bx:Addr} {cq:FuncData} (bf:Df K mg "idle_kids" bh ["outlook","place","left_out"] bx cq) (G_idle_kids:FnOk P w K mg base (CXe P w) 2 bx cq ["outlook","place","left_out"] (jh T)) {df:Addr} {eI:FuncData} (cf:Df K mg "toll" cR ["web","a","b"] df eI) (G_toll:FnOk P w K mg base (CXe P w) 3 df eI ["web","a","b"] (oV T)) {dA:Addr} {fC:FuncData} (b6:Df K mg "total" fh ["numbers"] dA fC) (G_total:FnOk P w K mg base (CXe P w) 1 dA fC ["numbers"] (pP T)):FnOk P w K mg base (CXe P w) 54 f fd ["outlook","place","over"] (kj T):=yc T hq D gZ dQ G_added bf G_idle_kids cf G_toll b6 G_total 25
def wP (T:Txt K mg):Sp:=fun vs H Q _=>∃ (o p t:Addr) (m:Int) (ps:List Addr) (rs:List Road) (r:Int) (par:Int->Int) (dep:Int->Nat) (nd:Int->Int) (na ka ia:Addr) (kl:List Addr) (bs:List V) (S:Int->Prop) (v:Int),vs=[.ref o,.int v,.int (par v)]/\OutAt T.Web T.Outlook H o p t m ps rs r par dep nd na ka ia kl bs S/\(0<=v/\v<m)/\v≠r/\(∀ c∈kd m rs r par v,S c) /\
 ∀ l H',H l=none->Same H H'->H' l=some (.lst ((idl m rs r par dep nd v).map V.int))->Q (.ref l) H'
abbrev bQ:Stmt:=top 38
theorem Em:FnScope ["outlook","place","front"] ["outlook","place","front"] (aa bQ):=FnScope.of (by kernel_rfl)
theorem eW:NmL (aa bQ) "outlook":=.of (by kernel_rfl)
theorem fX:NmL (aa bQ) "place":=.of (by kernel_rfl)
theorem wy:NmL (aa bQ) "front":=.of (by kernel_rfl)
theorem j4:NmG (aa bQ) "idle_kids":=.of (by kernel_rfl)
theorem iA:NmG (aa bQ) "greatest_load":=.of (by kernel_rfl)
theorem og:NmG (aa bQ) "toll":=.of (by kernel_rfl)
theorem FF (T:Txt K mg) (hq:aX (CXe P w)) {f:Addr} {fd:FuncData} (D:Df K mg "idle_load" bQ ["outlook","place","front"] f fd) {be:Addr} {cg:FuncData} (D_greatest_load:Df K mg "greatest_load" ay ["outlook","place","over"] be cg) (G_greatest_load:FnOk P w K mg base (CXe P w) 54 be cg ["outlook","place","over"] (kj T)) {bx:Addr} {cq:FuncData} (bf:Df K mg "idle_kids" bh ["outlook","place","left_out"] bx cq) (G_idle_kids:FnOk P w K mg base (CXe P w) 2 bx cq ["outlook","place","left_out"] (jh T)) {df:Addr} {eI:FuncData} (cf:Df K mg "toll" cR ["web","a","b"] df eI) (G_toll:FnOk P w K mg base (CXe P w) 3 df eI ["web","a","b"] (oV T)):FnOk P w K mg base (CXe P w) 55 f fd ["outlook","place","front"] (wP T):=by
 refine D.F.okC Em (fun vs H Q E h=>?_) (fun cdv A outer s H vs Q E hr h=>?_)
 . obtain ⟨o,p,t,m,ps,rs,r,par,dep,nd,na,ka,ia,kl,bs,S,v,rfl,_⟩:=h
   rfl
 . obtain ⟨o,p,t,m,ps,rs,r,par,dep,nd,na,ka,ia,kl,bs,S,v,rfl,O,vr,vn,hS,k⟩:=h;have g:=O.web.go;have R:=O.rt;have m24:=g.m24;have W:=O.web;obtain ⟨dx,ob⟩:=O.ob;obtain ⟨k2,hk2,b0,b1⟩:=sx g R vr.1 vr.2 vn;have e2:upT rs par v=k2:=by unfold upT;rw [hk2];rfl
   have u:=R.up v vr.1 vr.2 vn;rw [t6 g R vr.1 vr.2] at k;refine ⟨_,(ao (ce (bn xF (bA bJ (dq  (pvl 0 eW) rfl) (pvl 1 fX) (fun _ _=>rfl)) au (bi _)) (aq (aO (aw G_idle_kids (hr.mono (by decide)) j4.g bf.m bf.F.kp bf.b .nil (aY hq) (ag (pvl 0 eW) (ag (pvl 1 fX) (ag vM aj))) (hdb:=j4.d)))) bo) (aq (aO (aw G_greatest_load (hr.mono (by decide)) iA.g D_greatest_load.m D_greatest_load.F.kp D_greatest_load.b .nil (aY hq) (ag (pvl 0 eW) (ag (pvl 1 fX) (ag (aF lp (aw G_toll (hr.mono (by decide)) og.g cf.m cf.F.kp cf.b .nil (aY hq) (ag (dq  (pvl 0 eW) rfl) (ag (pvl 1 fX) (ag (pvl 2 wy) aj))) (hdb:=og.d)) au) aj))) (hdb:=iA.d))))),?_⟩;rw [show L2.start ["outlook","place","front"] [V.ref o,V.int v,V.int (par v)]=[some (V.ref o),some (V.int v),some (V.int (par v))] from rfl];walk_at "rd";refine ⟨T.Outlook,dx,_,ob,T.bX,T.xI,_,rh _ _ _ _,ixL O.hn (Cb nd vr.1 vr.2) ⟨_,rfl,?_⟩⟩;by_cases c:0<nd v
   . rw [if_pos c] at k ⊢;exact ⟨o,p,t,m,ps,rs,r,par,dep,nd,na,ka,ia,kl,bs,S,v,_,rfl,O,vr,.inl rfl,hS,k⟩
   . rw [if_neg c] at k ⊢;refine ⟨T.Outlook,dx,_,ob,T.bX,T.n_web,_,q8 _ _ _ _,?_⟩;refine ⟨p,t,m,ps,rs,v,par v,rfl,W,fun k' _ _ _ _ h=>?_,fun z=>absurd ⟨vr,u.1⟩ z,fun _ _ _ _ z=>by rw [hk2] at z;cases z⟩;rw [hk2] at h;cases h;refine ⟨_,rfl,?_⟩;refine ⟨o,p,t,m,ps,rs,r,par,dep,nd,na,ka,ia,kl,bs,S,v,_,rfl,O,vr,by show m.toNat<=dep v+1+24;omega,hS,?_⟩;rw [<- e2];exact k
def GO (T:Txt K mg):Sp:=fun vs H Q E=>∃ (p t:Addr) (m:Int) (ps:List Addr) (rs:List Road) (r:Int),vs=[.ref p,.int r]/\WebAt T.Web H p m t ps rs /\
 (0<=r->r<m->∃ par dep,Rooted m rs r par dep/\∀ l H',H l=none->Same H H'->H' l=some (.lst ((bL m rs r par dep r).map V.int))->(bL m rs r par dep r).Nodup->(∀ v,v∈bL m rs r par dep r↔0<=v/\v<m)->Q (.ref l) H')/\(¬ (0<=r/\r<m)->E (.ref T.NoPlace) none H)
abbrev dJ:Stmt:=top 26
theorem oU:FnScope ["web","r","nearer","places","waiting","place","kid"] ["web","r"] (aa dJ):=FnScope.of (by kernel_rfl)
theorem yC:NmL (aa dJ) "web":=.of (by kernel_rfl)
theorem Cz:NmL (aa dJ) "r":=.of (by kernel_rfl)
theorem sU:NmL (aa dJ) "nearer":=.of (by kernel_rfl)
theorem mj:NmL (aa dJ) "places":=.of (by kernel_rfl)
theorem i9:NmL (aa dJ) "waiting":=.of (by kernel_rfl)
theorem kc:NmL (aa dJ) "place":=.of (by kernel_rfl)
theorem yk:NmL (aa dJ) "kid":=.of (by kernel_rfl)
theorem vb:NmG (aa dJ) "ahead":=.of (by kernel_rfl)
theorem zd:NmG (aa dJ) "reversed":=.of (by kernel_rfl)
theorem wp:NmG (aa dJ) "kids":=.of (by kernel_rfl)
theorem OF (T:Txt K mg) (hq:aX (CXe P w)) {f:Addr} {fd:FuncData} (D:Df K mg "down" dJ ["web","r"] f fd) {fj:Addr} {jw:FuncData} (dy:Df K mg "ahead" cG ["web","r"] fj jw) (G_ahead:FnOk P w K mg base (CXe P w) 5 fj jw ["web","r"] (uL T)) {gP:Addr} {kM:FuncData} (eS:Df K mg "kids" fA ["web","place","front"] gP kM) (G_kids:FnOk P w K mg base (CXe P w) 4 gP kM ["web","place","front"] (xK T)):FnOk P w K mg base (CXe P w) 6 f fd ["web","r"] (GO T):=by
 refine D.F.okX oU (fun vs H Q E h=>?_) (fun cdv A outer s H vs Q E hr h=>?_)
 . obtain ⟨p,t,m,ps,rs,r,rfl,_⟩:=h
   rfl
 . obtain ⟨p,t,m,ps,rs,r,rfl,W,k,e⟩:=h;have g:=W.go;have m24:=g.m24;refine ⟨_,(ao (aI (i:=2) oU.nd rfl (Or.inl sU.l) (aw G_ahead (hr.mono (by decide)) vb.g dy.m dy.F.kp dy.b .nil dH (ag (pvl 0 yC) (ag (pvl 1 Cz) aj)) (hdb:=vb.d))) (ao (aI (i:=3) oU.nd rfl (Or.inl mj.l) (d8 aj)) (ao (aI (i:=4) oU.nd rfl (Or.inl i9.l) (d8 (ag (pvl 1 Cz) aj))) (ao (uD PassesOwn.leaving (zj (pvl 4 i9) (fun _=>rfl)) (ao (aI (i:=5) oU.nd rfl (Or.inl kc.l) (E1 PySem.F.plainAttrs_list PySem.F.slot_list_pop PySem.F.type_list_pop EN (pvl 4 i9))) (ao (cX (oA PySem.F.plainAttrs_list PySem.F.slot_list_append PySem.F.type_list_append fb (pvl 3 mj) (ag (pvl 5 kc) aj))) (aq (dL PassesOwn.leaving rfl (FW zd.g T.reversed (aw G_kids (hr.mono (by decide)) wp.g eS.m eS.F.kp eS.b .nil dH (ag (pvl 0 yC) (ag (pvl 5 kc) (ag (bA bJ (pvl 2 sU) (pvl 5 kc) (fun _ _=>rfl)) aj))) (hdb:=wp.d))) (aG (i:=6) oU.nd rfl (Or.inl yk.l)) (aq (cX (oA PySem.F.plainAttrs_list PySem.F.slot_list_append PySem.F.type_list_append fb (pvl 4 i9) (ag (pvl 6 yk) aj))))))))) (aq (aO (pvl 3 mj))))))),?_⟩;rw [show L2.start ["web","r","nearer","places","waiting","place","kid"] [V.ref p,V.int r]=[some (V.ref p),some (V.int r),none,none,none,none,none] from rfl];walk_at "rd";refine ⟨p,t,m,ps,rs,r,rfl,W,fun r0 r1=>?_,e⟩;obtain ⟨par,dep,R,k⟩:=k r0 r1;refine ⟨par,dep,R,fun l1 H1 n1 s1 e1=>⟨by decide,fun l3 n3=>⟨bK (by simp),fun l4 n4=>?_⟩⟩⟩;have n30:H l3=none:=s1.free n3;have s3:=s1.trans (Same.new (.lst []) n3);have n40:H l4=none:=s3.free n4;have n13:l1≠l3:=fun z=>by rw [<- z,e1] at n3;cases n3
   have n34:l3≠l4:=fun z=>by rw [<- z,ah] at n4;cases n4
   have e13:=Same.new (.lst []) n3 _ _ e1;have n14:l1≠l4:=fun z=>by rw [<- z,e13] at n4;cases n4
   have s4:=s3.trans (Same.new (.lst [V.int r]) n4);have e14:=Same.new (.lst [V.int r]) n4 _ _ e13;have e34:upd (upd H1 l3 (.lst [])) l4 (.lst [V.int r]) l3=some (.lst []):=by rw [ap n34,ah]
   have e44:upd (upd H1 l3 (.lst [])) l4 (.lst [V.int r]) l4=some (.lst [V.int r]):=ah;generalize upd (upd H1 l3 (.lst [])) l4 (.lst [V.int r])=H4 at s4 e14 e34 e44 ⊢;refine GU (fun n σ H5=>∃ (ks ws pl:List Int) (v5 v6:Option V),n=2*(m.toNat - ks.length)+ws.length/\σ=[some (.ref p),some (.int r),some (.ref l1),some (.ref l3),some (.ref l4),v5,v6]/\Same H H5/\H5 l1=some (.lst (kU m r par))/\H5 l3=some (.lst (pl.map V.int))/\H5 l4=some (.lst (ws.map V.int))/\AInv m rs r par ks ws/\(pl++ws).Perm (r::ks)/\pl++ws.reverse.flatMap (bL m rs r par dep)=bL m rs r par dep r) (2*m.toNat+1) ⟨[],[r],[],_,_,rfl,rfl,s4,e14,e34,e44,AInv.start,List.Perm.refl _,by simp⟩ ?_;rintro n σ H5 NW BB hBB hN hN2 ⟨ks,ws,pl,v5,v6,rfl,rfl,s5,h1,h3,h4,J,pe,ep⟩;refine hBB _ _ _ ?_;have rk:∀ w∈r::ks,0<=w/\w<m:=fun w hw=>by
     rcases List.mem_cons.mp hw with rfl|z
     . exact ⟨r0,r1⟩
     . exact J.rng w z
   have nk:(r::ks).Nodup:=List.nodup_cons.mpr ⟨J.nr,J.nd⟩;have kl:=cL (m:=m) (by omega) nk rk;have kl1:=cL (m:=m) (by omega) J.nd J.rng;have pl1:=pe.length_eq;rw [List.length_append] at pl1;rw [List.length_cons] at kl pl1;walk_at "rd";refine ⟨_,.inl ⟨_,SqL.of h4,rfl⟩,?_⟩;rcases List.eq_nil_or_concat ws with rfl|⟨ws',q,rfl⟩
   . rw [if_neg (by simp)];rw [List.reverse_nil,List.flatMap_nil,List.append_nil] at ep;rw [List.append_nil] at pe;subst ep;refine k l3 H5 n30 s5 h3 (pe.nodup_iff.mpr nk) fun v=>⟨fun z=>rk v (pe.mem_iff.mp z),fun z=>pe.mem_iff.mpr ?_⟩;by_cases c:v=r
     . rw [c];exact List.mem_cons_self
     . exact List.mem_cons_of_mem _ (J.all R v z.1 z.2 c)
   . rw [List.concat_eq_append] at J h4 hN hN2 pe ep pl1 ⊢;rw [if_pos (by simp)];have hq:q∈ws'++[q]:=List.mem_append_right _ (List.mem_singleton.mpr rfl);have pr:=J.at_ r0 r1 hq;have J2:=J.step g R r0 r1 (p:=q) (ws':=ws') (List.perm_append_singleton q ws');refine ⟨NW,fun σ' H' z=>?_,?_⟩
     . obtain ⟨m',lt,ks',ws'',pl',a5,a6,z1,z2⟩:=hN2 _ _ z;exact ⟨m',lt,ks',ws'',z1,pl',a5,a6,z2⟩
     rw [List.map_append,List.map_cons,List.map_nil] at h4;refine ⟨tyL h4,Mi h4 ?_⟩;have s6:Same H (upd H5 l4 (.lst (ws'.map V.int))):=s5.put n40 _;have h36:upd H5 l4 (.lst (ws'.map V.int)) l3=some (.lst (pl.map V.int)):=(by rw [ap n34];exact h3);have h16:upd H5 l4 (.lst (ws'.map V.int)) l1=some (.lst (kU m r par)):=(by rw [ap n14];exact h1);have h46:upd H5 l4 (.lst (ws'.map V.int)) l4=some (.lst (ws'.map V.int)):=ah;generalize upd H5 l4 (.lst (ws'.map V.int))=H6 at s6 h36 h16 h46 ⊢;refine ⟨tyL h36,tG h36 (dI (by rw [List.length_map];omega)) ?_⟩;have s7:Same H (upd H6 l3 (.lst (pl.map V.int++[V.int q]))):=s6.put n30 _;have h37:upd H6 l3 (.lst (pl.map V.int++[V.int q])) l3=some (.lst ((pl++[q]).map V.int)):=(by rw [ah,List.map_append];rfl);have h17:upd H6 l3 (.lst (pl.map V.int++[V.int q])) l1=some (.lst (kU m r par)):=(by rw [ap n13];exact h16);have h47:upd H6 l3 (.lst (pl.map V.int++[V.int q])) l4=some (.lst (ws'.map V.int)):=(by rw [ap n34.symm];exact h46);generalize upd H6 l3 (.lst (pl.map V.int++[V.int q]))=H7 at s7 h37 h17 h47 ⊢;refine ixL h17 (iH pr.1 (zB pr.1 pr.2)) ?_;have hfv:Pb.front r par q=.non\/∃ i,Pb.front r par q=.int i:=by
       unfold Pb.front;by_cases c:q=r
       . rw [if_pos c];exact .inl rfl
       . rw [if_neg c];exact .inr ⟨_,rfl⟩
     have pq:=fN g R pr.1 pr.2;refine ⟨p,t,m,ps,rs,q,_,rfl,W.same s7,pr.1,pr.2,hfv,fun l8 H8 n8 s8 e8=>⟨l8,rfl,_,SqL.of e8,?_⟩⟩;generalize aB m rs (Pb.front r par q) q=kk at e8 J2 pq ⊢;have n81:l1≠l8:=fun z=>by rw [<- z,h17] at n8;cases n8
     have n83:l3≠l8:=fun z=>by rw [<- z,h37] at n8;cases n8
     have n84:l4≠l8:=fun z=>by rw [<- z,h47] at n8;cases n8
     have kl2:=cL (m:=m) (by omega) J2.nd J2.rng;rw [List.length_append] at kl2;have wl2:=cL (m:=m) (by omega) J2.wnd fun w hw=>J2.at_ r0 r1 hw;rw [List.length_append] at wl2;refine Fo (K:=K) (xs:=kk.map V.int) (fun i σ H9=>∃ v6,σ=[some (.ref p),some (.int r),some (.ref l1),some (.ref l3),some (.ref l4),some (.int q),v6]/\Same H H9/\H9 l8=some (.lst (kk.map V.int))/\H9 l1=some (.lst (kU m r par))/\H9 l3=some (.lst ((pl++[q]).map V.int))/\H9 l4=some (.lst ((ws'++kk.reverse.take i).map V.int))) ⟨_,rfl,s7.trans s8,e8,s8 _ _ h17,s8 _ _ h37,by rw [List.take_zero,List.append_nil];exact s8 _ _ h47⟩ (fun i σ H9 _ z=>by obtain ⟨_,_,_,z,_⟩:=z;exact SqL.of z) ?_ ?_
     . rintro i x σ H9 NI hI hi ⟨v6,rfl,s9,e9,h19,h39,h49⟩;rw [<- List.map_reverse,List.getElem?_map] at hi;obtain ⟨v,hv,rfl⟩:=Option.map_eq_some_iff.mp hi;have et:kk.reverse.take (i+1)=kk.reverse.take i++[v]:=(by rw [List.take_succ,hv];rfl);have wlen:(ws'++kk.reverse.take i).length<=100:=by
         rw [List.length_append,List.length_take,List.length_reverse];omega
       walk_at "rd";refine ⟨tyL h49,tG h49 (dI (by rw [List.length_map];omega)) (hI _ _ ⟨_,rfl,s9.put n40 _,?_,?_,?_,?_⟩)⟩
       . rw [ap n84.symm];exact e9
       . rw [ap n14];exact h19
       . rw [ap n34];exact h39
       . rw [ah,et,<- List.append_assoc,List.map_append (l₁:=ws'++kk.reverse.take i)];rfl
     . rintro σ H9 ⟨v6,rfl,s9,e9,h19,h39,h49⟩;rw [List.length_map,show kk.length=kk.reverse.length by rw [List.length_reverse],List.take_length] at h49;refine hN _ _ _ ?_ ⟨ks++kk,ws'++kk.reverse,pl++[q],_,_,rfl,rfl,s9,h19,h39,h49,J2.perm (List.Perm.append_left _ kk.reverse_perm.symm),?_,?_⟩
       . rw [List.length_append,List.length_append,List.length_append,List.length_reverse];simp only [List.length_cons,List.length_nil];omega
       . have p1:(pl++[q]++(ws'++kk.reverse)).Perm (pl++(ws'++[q])++kk):=by
           rw [List.append_assoc,List.append_assoc];refine List.Perm.append_left _ ?_;rw [<- List.append_assoc];exact List.Perm.append (List.perm_append_comm) kk.reverse_perm
         exact p1.trans (List.Perm.append_right _ pe)
       . rw [<- ep,List.reverse_append,List.reverse_append,List.reverse_reverse,List.reverse_singleton,List.singleton_append,List.flatMap_cons,pq,List.flatMap_append];simp
/-- the places of a row with the ones ahead of them,from its end -/
def IH (par:Int->Int) (v:Int):List V:=[.int v,.int (par v)]
abbrev PairsAt (H:Hp) (par:Int->Int):List Addr->List Int->Prop:=Paired fun q v=>H q=some (.tup (IH par v))
theorem PairsAt.same {H H':Hp} {par:Int->Int} {qs:List Addr} {vs:List Int} (e:Same H H') (h:PairsAt H par qs vs):PairsAt H' par qs vs:=Paired.imp' (fun q v x=>e q _ x) h
theorem PairsAt.get {H:Hp} {par:Int->Int}:∀ {ps:List Addr} {rs:List Int} {i:Nat} {x:V},PairsAt H par ps rs->(ps.map V.ref)[i]?=some x->∃ p r,x=.ref p/\ps[i]?=some p/\rs[i]?=some r/\H p=some (.tup (IH par r))
 | _,_,i,x,.nil,e=>by simp at e
 | _,_,0,x,.cons (a:=p) (b:=r) h hs,e=>⟨p,r,by simpa using e.symm,by simp,by simp,h⟩
 | a::l1,_,i+1,x,.cons h hs,e=>by
   have e':(List.map V.ref l1)[i]?=some x:=by simpa using e
   obtain ⟨p,r,h1,h2,h3,h4⟩:=PairsAt.get hs e';exact ⟨p,r,h1,by simpa using h2,by simpa using h3,h4⟩
theorem PairsAt.snoc {H:Hp} {par:Int->Int} {q:Addr} {v:Int} (e:H q=some (.tup (IH par v))):∀ {qs:List Addr} {vs:List Int},PairsAt H par qs vs->PairsAt H par (qs++[q]) (vs++[v])
 | _,_,.nil=>.cons e .nil
 | _,_,.cons x xs=>.cons x (PairsAt.snoc e xs)
def qS (T:Txt K mg):Sp:=fun vs H Q E=>∃ (p t:Addr) (m:Int) (ps:List Addr) (rs:List Road) (r:Int),vs=[.ref p,.int r]/\WebAt T.Web H p m t ps rs /\
 (0<=r->r<m->∃ par dep,Rooted m rs r par dep/\∀ l qs tl H',bL m rs r par dep r=r::tl->H l=none->Same H H'->H' l=some (.lst (qs.map V.ref))->PairsAt H' par qs tl.reverse->Order m r par tl->Q (.ref l) H')/\(¬ (0<=r/\r<m)->E (.ref T.NoPlace) none H)
abbrev cJ:Stmt:=top 28
theorem CW:FnScope ["web","r","nearer"] ["web","r"] (aa cJ):=FnScope.of (by kernel_rfl)
theorem vc:NmL (aa cJ) "web":=.of (by kernel_rfl)
theorem yt:NmC (aa cJ) "r":=.of (by kernel_rfl)
theorem zg:NmC (aa cJ) "nearer":=.of (by kernel_rfl)
theorem qF:NmG (aa cJ) "ahead":=.of (by kernel_rfl)
theorem vT:NmG (aa cJ) "reversed":=.of (by kernel_rfl)
theorem sO:NmG (aa cJ) "down":=.of (by kernel_rfl)
theorem JG (T:Txt K mg) (hq:aX (CXe P w)) {f:Addr} {fd:FuncData} (D:Df K mg "inward" cJ ["web","r"] f fd) {fj:Addr} {jw:FuncData} (dy:Df K mg "ahead" cG ["web","r"] fj jw) (G_ahead:FnOk P w K mg base (CXe P w) 5 fj jw ["web","r"] (uL T)) {p6:Addr} {G7:FuncData} (sX:Df K mg "down" dJ ["web","r"] p6 G7) (G_down:FnOk P w K mg base (CXe P w) 6 p6 G7 ["web","r"] (GO T)):FnOk P w K mg base (CXe P w) 7 f fd ["web","r"] (qS T):=by
 refine D.F.okX CW (fun vs H Q E h=>?_) (fun cdv A outer s H vs Q E hr h=>?_)
 . obtain ⟨p,t,m,ps,rs,r,rfl,_⟩:=h
   rfl
 . obtain ⟨p,t,m,ps,rs,r,rfl,W,k,e⟩:=h;have g:=W.go;have m24:=g.m24;refine ⟨_,(ao (aI (i:=2) CW.nd rfl (Or.inr zg.l) (aw G_ahead (hr.mono (by decide)) qF.g dy.m dy.F.kp dy.b .nil dH (ag (pvl 0 vc) (ag (pvc 1 yt) aj)) (hdb:=qF.d))) (aq (aO (mF rfl (oN (Nc:=["place","nearer","r"]) 1 [2,1] (by decide +kernel) rfl (by decide +kernel) rfl (by show ∀ (y:Str × NameKind),y∈_->y.2=NameKind.free->(aa cJ).names.lookup y.1=some NameKind.cell;decide +kernel) rfl (fun _ h=>jg h) (fun i hi=>match i,hi with|0,_=>⟨"nearer",2,rfl,rfl,rfl,by decide +kernel⟩|1,_=>⟨"r",1,rfl,rfl,rfl,by decide +kernel⟩|i+2,hi=>absurd hi (by show ¬ i+2<2;omega))) (FW vT.g T.reversed (aw G_down (hr.mono (by decide)) sO.g sX.m sX.F.kp sX.b .nil dH (ag (pvl 0 vc) (ag (pvc 1 yt) aj)) (hdb:=sO.d))) (fun _ _ _ _=>(aG (i:=0) (show (["place","nearer","r"]:List Str).Nodup from by decide +kernel) rfl (Or.inl rfl))) (fun _ _ _ _=>(Bq (bn xJ (pv 0) (pv 2) (bi _)))) (fun _ _ _ _=>(iz (ag (pv 0) (ag (bA (LN K rfl) (pv 1) (pv 0) (fun _ _=>rfl)) aj)))))))),?_⟩;rw [show L2.start ["web","r","nearer"] [V.ref p,V.int r]=[some (V.ref p),some (V.int r),none] from rfl];walk_at "rd";refine ex6 p t m ps rs r ?_;refine an4 rfl W (fun r0 r1=>?_) e;obtain ⟨par,dep,R,k⟩:=k r0 r1;refine ⟨par,dep,R,fun l1 H1 n1 s1 e1=>?_⟩;refine ex6 p t m ps rs r ?_;refine an4 rfl (W.same s1) (fun _ _=>⟨par,dep,R,fun l2 H2 n2 s2 e2 nd al=>?_⟩) (fun z=>absurd ⟨r0,r1⟩ z);obtain ⟨tl,et,O⟩:=zT g R r0 r1 nd al;have ll:=NO g R r0 r1;rw [et] at e2 ll;rw [List.length_cons] at ll;refine ⟨l2,rfl,_,SqL.of e2,fun pc npc=>?_⟩;have e12:=s2 _ _ e1;have s12:=s1.trans s2;have npc0:=s12.free npc;refine Nm (K:=K) (xs:=(r::tl).map V.int) (fun i zs σ H3=>Same H2 H3/\H3 pc=some (.lst zs)/\(∃ qs:List Addr,zs=qs.map V.ref/\PairsAt H3 par qs (tl.reverse.take i))/\∃ v,σ=[v,some (V.ref l1),some (V.int r)]) ⟨Same.new _ npc,ah,⟨[],rfl,.nil⟩,_,rfl⟩ (fun i zs σ H3 _ z=>SqL.of (z.1 _ _ e2)) ?_ ?_
   . rintro i x zs σ H3 N hN hx ⟨s3,e3,⟨qs,rfl,pa⟩,v,rfl⟩;rw [<- List.map_reverse,List.reverse_cons,List.getElem?_map] at hx;obtain ⟨y,gy,rfl⟩:=Option.map_eq_some_iff.mp hx;have il:=(List.getElem?_eq_some_iff.mp gy).1;rw [List.length_append,List.length_reverse] at il;have ql:qs.length=(tl.reverse.take i).length:=Paired.length pa;rw [List.length_take,List.length_reverse] at ql;walk_at "rd";by_cases c:i<tl.length
     . rw [List.getElem?_append_left (by rw [List.length_reverse];exact c)] at gy;have ym:y∈tl:=List.mem_reverse.mp (List.mem_of_getElem? gy);have yr:=O.rng y ym;rw [if_pos (O.ne ym)];have gp:atI (kU m r par) y=some (V.int (par y)):=by
         have ef:Pb.front r par y=V.int (par y):=(by unfold Pb.front;rw [if_neg (O.ne ym)]);rw [<- ef];exact iH yr.1 (zB yr.1 yr.2)
       refine ixL (s3 _ _ e12) gp ⟨bK (by simp),fun q nq=>?_⟩;have s4:=Same.new (.tup [V.int y,V.int (par y)]) nq;have nqp:q≠pc:=fun z=>by rw [z,e3] at nq;cases nq
       refine ⟨s4 _ _ e3,dI (by rw [List.length_map];omega),hN _ _ _ ⟨(s3.trans s4).put npc _,ah,⟨qs++[q],by rw [List.map_append];rfl,?_⟩,_,rfl⟩⟩;rw [List.take_succ,gy];refine PairsAt.snoc (by rw [ap nqp,ah];rfl) ?_;exact Paired.imp' (fun a b h=>by
         rw [ap (fQ h e3 (by intro z;cases z)),ap (bc h nq)];exact h) pa
     . have ei:i=tl.reverse.length:=(by rw [List.length_reverse];simp at il;omega);rw [ei,List.getElem?_append_right (Nat.le_refl _),Nat.sub_self] at gy;cases gy;rw [if_neg (fun z=>z rfl)];refine hN _ _ _ ⟨s3,e3,⟨qs,rfl,?_⟩,_,rfl⟩;rw [List.take_of_length_le (by omega)] at pa ⊢;exact pa
   . rintro zs σ H3 ⟨s3,e3,⟨qs,rfl,pa⟩,v,rfl⟩;rw [List.take_of_length_le (by rw [List.length_map,List.length_reverse,List.length_cons];omega)] at pa;exact k pc qs tl H3 et npc0 (s12.trans s3) e3 pa O
def bq (m:Int) (xs:List Int):Bool:=decide ((xs.length:Int)=m) && xs.all fun x=>decide (0<=x)
theorem Kv {m:Int} {xs:List Int} (h:(xs.length:Int)=m) (h0:∀ x∈xs,0<=x):bq m xs=true:=by
 unfold bq;rw [decide_eq_true h,Bool.true_and,List.all_eq_true];exact fun x hx=>decide_eq_true (h0 x hx)
theorem Jf {m:Int} {xs:List Int} (h:bq m xs=true):(xs.length:Int)=m:=by
 unfold bq at h;rw [Bool.and_eq_true] at h;exact of_decide_eq_true h.1
theorem KW {m:Int} {xs:List Int} (h:bq m xs=true):∀ x∈xs,0<=x:=by
 unfold bq at h;rw [Bool.and_eq_true,List.all_eq_true] at h;exact fun x hx=>of_decide_eq_true (h.2 x hx)
def wR (T:Txt K mg):Sp:=fun vs H Q _=>∃ (p a t:Addr) (c:Bool) (m:Int) (ps:List Addr) (rs:List Road) (xs:List Int),vs=[.ref p,.ref a]/\WebAt T.Web H p m t ps rs/\SqX K c H a (xs.map V.int)/\xs.length<=1000/\∀ H',Same H H'->Q (.bl (bq m xs)) H'
abbrev cD:Stmt:=top 22
theorem Et:FnScope ["web","numbers"] ["web","numbers"] (aa cD):=FnScope.of (by kernel_rfl)
theorem y7:NmL (aa cD) "web":=.of (by kernel_rfl)
theorem lw:NmL (aa cD) "numbers":=.of (by kernel_rfl)
theorem kt:NmG (aa cD) "len":=.of (by kernel_rfl)
theorem km:NmG (aa cD) "all":=.of (by kernel_rfl)
theorem FG (T:Txt K mg) (hq:aX (CXe P w)) {f:Addr} {fd:FuncData} (D:Df K mg "is_filled" cD ["web","numbers"] f fd):FnOk P w K mg base (CXe P w) 1 f fd ["web","numbers"] (wR T):=by
 refine D.F.okC Et (fun vs H Q E h=>?_) (fun cdv A outer s H vs Q E hr h=>?_)
 . obtain ⟨p,a,t,c,m,ps,rs,xs,rfl,_⟩:=h
   rfl
 . obtain ⟨p,a,t,c,m,ps,rs,xs,rfl,W,ha,hz,k⟩:=h;refine ⟨_,(aq (aO (Ft (sq jQ (dR gI kt.g T.len p7 (ag (pvl 1 lw) aj) (hn:=kt.n) (hdb:=kt.d)) (dq  (pvl 0 y7) rfl) (bi _)) (Eg (dR (Ob rfl) km.g T.all Qd (ag (mF rfl (zo (Nc:=["number"]) 1 (by decide +kernel) (by decide +kernel) rfl (by decide +kernel) rfl) (JN c (pvl 1 lw)) (fun _ _ _ _=>(aG (i:=0) (show (["number"]:List Str).Nodup from by decide +kernel) rfl (Or.inl rfl))) (fun _ _ _ _=>oJ) (fun _ _ _ _=>(sq Ow (pv 0) au (bi _)))) aj) (hn:=km.n) (hdb:=km.d)))))),?_⟩;rw [show L2.start ["web","numbers"] [V.ref p,V.ref a]=[some (V.ref p),some (V.ref a)] from rfl];walk_at "rd";obtain ⟨dx,ob⟩:=W.ob;have ha':SqL K H a (xs.map V.int)\/SqT K H a (xs.map V.int):=by
     cases c
     . exact .inr ha
     . exact .inl ha
   refine ⟨_,ha',T.Web,dx,_,ob,T.j3,T.n_many,_,kY m t,rfl,?_⟩;rw [List.length_map];by_cases hm:(xs.length:Int)=m
   . rw [if_pos (by rw [hm])];refine ⟨⟨_,ha⟩,fun l nl=>?_⟩;refine uQ (K:=K) (c:=c) (xs:=xs.map V.int) (fun i bs σ H2=>Same H H2/\H2 l=some (.lst bs)/\bs=((xs.take i).map fun x=>decide (0<=x)).map V.bl/\∃ v,σ=[v]) ⟨Same.new _ nl,ah,rfl,_,rfl⟩ (fun i bs σ H2 _ z=>Same.sqX z.1 ha) ?_ ?_
     . rintro i x bs σ H2 N hN hx ⟨s2,e2,rfl,v,rfl⟩;rw [List.getElem?_map] at hx;obtain ⟨y,gy,rfl⟩:=Option.map_eq_some_iff.mp hx;walk_at "rd";refine ⟨e2,dI (by rw [List.length_map,List.length_map,List.length_take];omega),hN _ _ _ ⟨s2.put nl _,ah,?_,_,rfl⟩⟩;rw [List.take_succ,gy,List.map_append,List.map_append]
       rfl
     . rintro bs σ H2 ⟨s2,e2,rfl,v,rfl⟩;refine ⟨l,rfl,_,SqL.of e2,?_⟩;have e:(((xs.take (xs.map V.int).length).map fun x=>decide (0<=x)).all id)=bq m xs:=by
         rw [List.length_map,List.take_length,List.all_map];unfold bq;rw [decide_eq_true hm,Bool.true_and]
         rfl
       rw [e];exact k _ s2
   . rw [if_neg (fun z=>hm (by injection z))];have e:bq m xs=false:=by
       unfold bq;rw [decide_eq_false hm,Bool.false_and]
     rw [e] at k;exact k H (Same.refl _)
def uf (T:Txt K mg):Sp:=fun vs H Q E=>∃ (p a t:Addr) (c:Bool) (m:Int) (ps:List Addr) (rs:List Road) (xs:List Int),vs=[.ref p,.ref a]/\WebAt T.Web H p m t ps rs/\SqX K c H a (xs.map V.int)/\xs.length<=1000 /\
 (bq m xs=true->∀ l H',Same H H'->SqT K H' l (xs.map V.int)->Q (.ref l) H')/\(bq m xs=false->∀ H',Same H H'->E (.ref T.BadWish) none H')
abbrev cM:Stmt:=top 30
theorem Jt:FnScope ["web","numbers"] ["web","numbers"] (aa cM):=FnScope.of (by kernel_rfl)
theorem Bf:NmL (aa cM) "web":=.of (by kernel_rfl)
theorem m6:NmL (aa cM) "numbers":=.of (by kernel_rfl)
theorem kT:NmG (aa cM) "is_filled":=.of (by kernel_rfl)
theorem nF:NmG (aa cM) "BadWish":=.of (by kernel_rfl)
theorem ku:NmG (aa cM) "tuple":=.of (by kernel_rfl)
theorem Jg (T:Txt K mg) (hq:aX (CXe P w)) {f:Addr} {fd:FuncData} (D:Df K mg "wish_of" cM ["web","numbers"] f fd) {f7:Addr} {xf:FuncData} (iE:Df K mg "is_filled" cD ["web","numbers"] f7 xf) (G_is_filled:FnOk P w K mg base (CXe P w) 1 f7 xf ["web","numbers"] (wR T)):FnOk P w K mg base (CXe P w) 2 f fd ["web","numbers"] (uf T):=by
 refine D.F.okX Jt (fun vs H Q E h=>?_) (fun cdv A outer s H vs Q E hr h=>?_)
 . obtain ⟨p,a,t,c,m,ps,rs,xs,rfl,_⟩:=h
   rfl
 . obtain ⟨p,a,t,c,m,ps,rs,xs,rfl,W,ha,hz,k,e⟩:=h;refine ⟨_,(ao (ce (m8 (mZ (aw G_is_filled (hr.mono (by decide)) kT.g iE.m iE.F.kp iE.b .nil dH (ag (pvl 0 Bf) (ag (pvl 1 m6) aj)) (hdb:=kT.d)))) (aq (uT T.JK rfl xO nF.g T.Ko (ag A7 aj) (hdb:=nF.d))) bo) (aq (aO (jJ kb ku.g T.tuple tz (ag (pvl 1 m6) aj) (hn:=ku.n) (hdb:=ku.d))))),?_⟩;rw [show L2.start ["web","numbers"] [V.ref p,V.ref a]=[some (V.ref p),some (V.ref a)] from rfl];walk_at "rd";refine ⟨p,a,t,c,m,ps,rs,xs,rfl,W,ha,hz,fun H1 s1=>⟨_,rfl,?_⟩⟩;by_cases z:bq m xs=false
   . rw [if_pos z];exact ⟨by decide,e z H1 s1⟩
   . rw [if_neg z];have z':bq m xs=true:=(by simpa using z);cases c
     . exact ⟨_,.inr ⟨Same.sqX (c:=false) s1 ha,k z' a H1 s1 (Same.sqX (c:=false) s1 ha)⟩⟩
     . exact ⟨_,.inl ⟨Same.sqX (c:=true) s1 ha,fun l nl=>k z' l _ (s1.trans (Same.new _ nl)) (SqT.of ah)⟩⟩
def EC (T:Txt K mg):Sp:=fun vs H Q E=>∃ (p a t:Addr) (c:Bool) (m:Int) (ps:List Addr) (rs:List Road) (xs:List Int) (r:Int),vs=[.ref p,.ref a,.int r]/\WebAt T.Web H p m t ps rs/\SqX K c H a (xs.map V.int)/\xs.length<=1000 /\
 (bq m xs=true->0<=r->r<m->∃ par dep,Rooted m rs r par dep/\∀ l H',H l=none->Same H H'->H' l=some (.lst ((xw m rs r par dep (fun v=>xs.getD v.toNat 0) (ned rs par)).map V.int))->Q (.ref l) H') /\
 (bq m xs=false->∀ H',Same H H'->E (.ref T.BadWish) none H')/\(bq m xs=true->¬ (0<=r/\r<m)->∀ H',Same H H'->E (.ref T.NoPlace) none H')
abbrev cN:Stmt:=top 32
theorem uA:FnScope ["web","wish","r","found","place","front"] ["web","wish","r"] (aa cN):=FnScope.of (by kernel_rfl)
theorem pX:NmL (aa cN) "web":=.of (by kernel_rfl)
theorem Dt:NmL (aa cN) "wish":=.of (by kernel_rfl)
theorem Hw:NmL (aa cN) "r":=.of (by kernel_rfl)
theorem jK:NmL (aa cN) "found":=.of (by kernel_rfl)
theorem mq:NmL (aa cN) "place":=.of (by kernel_rfl)
theorem mO:NmL (aa cN) "front":=.of (by kernel_rfl)
theorem n9:NmG (aa cN) "list":=.of (by kernel_rfl)
theorem pf:NmG (aa cN) "wish_of":=.of (by kernel_rfl)
theorem qL:NmG (aa cN) "inward":=.of (by kernel_rfl)
theorem vq:NmG (aa cN) "toll":=.of (by kernel_rfl)
theorem Nt (T:Txt K mg) (hq:aX (CXe P w)) {f:Addr} {fd:FuncData} (D:Df K mg "needs" cN ["web","wish","r"] f fd) {f9:Addr} {ng:FuncData} (ft:Df K mg "inward" cJ ["web","r"] f9 ng) (G_inward:FnOk P w K mg base (CXe P w) 7 f9 ng ["web","r"] (qS T)) {df:Addr} {eI:FuncData} (cf:Df K mg "toll" cR ["web","a","b"] df eI) (G_toll:FnOk P w K mg base (CXe P w) 3 df eI ["web","a","b"] (oV T)) {eZ:Addr} {lN:FuncData} (eA:Df K mg "wish_of" cM ["web","numbers"] eZ lN) (G_wish_of:FnOk P w K mg base (CXe P w) 2 eZ lN ["web","numbers"] (uf T)):FnOk P w K mg base (CXe P w) 8 f fd ["web","wish","r"] (EC T):=by
 refine D.F.okX uA (fun vs H Q E h=>?_) (fun cdv A outer s H vs Q E hr h=>?_)
 . obtain ⟨p,a,t,c,m,ps,rs,xs,r,rfl,_⟩:=h
   rfl
 . obtain ⟨p,a,t,c,m,ps,rs,xs,r,rfl,W,ha,hz,k,e,e'⟩:=h;have g:=W.go;have m24:=g.m24;refine ⟨_,(ao (aI (i:=3) uA.nd rfl (Or.inl jK.l) (jJ o9 n9.g T.list BQ (ag (aw G_wish_of (hr.mono (by decide)) pf.g eA.m eA.F.kp eA.b .nil dH (ag (pvl 0 pX) (ag (pvl 1 Dt) aj)) (hdb:=pf.d)) aj) (hn:=n9.n) (hdb:=n9.d))) (ao (dL PassesOwn.leaving rfl (gQ (aw G_inward (hr.mono (by decide)) qL.g ft.m ft.F.kp ft.b .nil dH (ag (pvl 0 pX) (ag (pvl 2 Hw) aj)) (hdb:=qL.d))) (nC (n:=2) rfl (bB (aG (i:=4) uA.nd rfl (Or.inl mq.l)) (bB (aG (i:=5) uA.nd rfl (Or.inl mO.l)) jR))) (aq (GV (pvl 3 jK) (pvl 5 mO) EO (aF iu (bA bJ (pvl 3 jK) (pvl 4 mq) (fun _ _=>rfl)) (aw G_toll (hr.mono (by decide)) vq.g cf.m cf.F.kp cf.b .nil dH (ag (pvl 0 pX) (ag (pvl 5 mO) (ag (pvl 4 mq) aj))) (hdb:=vq.d))) KQ kC))) (aq (aO (pvl 3 jK))))),?_⟩;rw [show L2.start ["web","wish","r","found","place","front"] [V.ref p,V.ref a,V.int r]=[some (V.ref p),some (V.ref a),some (V.int r),none,none,none] from rfl];walk_at "rd";refine ex8 p a t c m ps rs xs ?_;refine an6 rfl W ha hz (fun fi l0 H0 s0 e0=>?_) e;have xl:(xs.length:Int)=m:=by
     unfold bq at fi;rw [Bool.and_eq_true] at fi;exact of_decide_eq_true fi.1
   refine ⟨l0,rfl,_,.inr e0,fun l n1=>?_⟩;have s1:=Same.new (.lst (xs.map V.int)) n1;have s01:=s0.trans s1;have nl:=s0.free n1;have e1:upd H0 l (.lst (xs.map V.int)) l=some (.lst (xs.map V.int)):=ah;generalize upd H0 l (.lst (xs.map V.int))=H1 at s1 s01 e1 ⊢;refine ex6 p t m ps rs r ?_;refine an4 rfl (W.same s01) (fun r0 r1=>?_) (fun z=>e' fi z H1 s01);obtain ⟨par,dep,R,k⟩:=k fi r0 r1;refine ⟨par,dep,R,fun l2 qs tl H2 _ n2 s2 e2 pa O=>?_⟩;have nll:l2≠l:=fun z=>by rw [z,e1] at n2;cases n2
   refine ⟨l2,rfl,⟨_,SqL.of e2⟩,?_⟩;have ql:qs.length=tl.reverse.length:=Paired.length pa;refine kL (K:=K) (xs:=qs.map V.ref) (fun i σ H3=>Same H H3/\H3 l2=some (.lst (qs.map V.ref))/\PairsAt H3 par qs tl.reverse/\∃ (cs:List Int) (v4 v5:Option V),H3 l=some (.lst (cs.map V.int))/\Sofar m rs r par dep (fun v=>xs.getD v.toNat 0) (ned rs par) (tl.drop (tl.length - i)) cs/\σ=[some (V.ref p),some (V.ref a),some (V.int r),some (V.ref l),v4,v5]) ⟨s01.trans s2,e2,pa,xs,_,_,s2 _ _ e1,by rw [Nat.sub_zero,List.drop_length];exact Sofar.nil xl,rfl⟩ (fun i σ H3 _ z=>SqL.of z.2.1) ?_ ?_
   . rintro i x σ H3 N BB hBB hN hx ⟨s3,e3,pa3,cs,v4,v5,c3,so,rfl⟩;refine hBB _ _ ?_;obtain ⟨q,v,rfl,hq,hv,eq⟩:=pa3.get hx;obtain ⟨⟨vr,vn⟩,ev,so'⟩:=O.turn g R so hv;have u:=R.up v vr.1 vr.2 vn;obtain ⟨kk,hk,k0,k1⟩:=sg g R vr.1 vr.2 vn;have cl:=so.len;walk_at "rd";refine ⟨_,SqT.of eq,rfl,_,_,rfl,_,_,rfl,rfl,?_⟩;refine ixL c3 (atG u.1.1 (by omega)) (ixL c3 (atG vr.1 (by omega)) ?_);refine ⟨p,t,m,ps,rs,par v,v,rfl,W.same s3,fun k' _ _ _ _ h=>?_,fun z=>absurd ⟨u.1,vr⟩ z,fun _ _ _ _ z=>by rw [hk] at z;cases z⟩;rw [hk] at h;cases h;refine ⟨_,rfl,_,rfl,.inr ⟨by omega,by omega⟩,_,rfl,Ea c3 u.1.1 (by rw [List.length_map];omega) (hN _ _ ⟨s3.put nl _,?_,?_,ut par (ned rs par) cs v,_,_,?_,so',rfl⟩)⟩
     . rw [ap nll];exact e3
     . exact Paired.imp' (fun a b h=>by rw [ap (fQ h c3 (by intro z;cases z))];exact h) pa3
     . rw [ah,<- List.map_set];unfold ut ned;rw [hk]
       rfl
   . rintro BB σ H3 hBB ⟨s3,e3,pa3,cs,v4,v5,c3,so,rfl⟩;refine hBB _ _ ?_;rw [List.length_map,ql,List.length_reverse,Nat.sub_self,List.drop_zero] at so;rw [O.done g R so] at c3;walk_at "rd";exact k l H3 nl s3 c3
theorem OutAt.put {C O:Addr} {H:Hp} {o p t:Addr} {m:Int} {ps:List Addr} {rs:List Road} {r:Int} {par:Int->Int} {dep:Int->Nat} {nd:Int->Int} {na ka ia:Addr} {kl:List Addr} {bs:List V} {S:Int->Prop} (h:OutAt C O H o p t m ps rs r par dep nd na ka ia kl bs S) (hna:na≠ia) (hka:ka≠ia) (hkl:∀ q∈kl,q≠ia) (hd:∀ c,S c->0<=c/\∀ a,atI bs c=some (.ref a)->a≠ia) (bl:bs.length=m.toNat) {v:Int} (v0:0<=v) (v1:v<m) (hS:∀ c∈kd m rs r par v,S c) {l:Addr} (hl:H l=some (.lst ((idl m rs r par dep nd v).map V.int))) (nl:l≠ia) :
   OutAt C O (upd H ia (.lst (bs.set v.toNat (.ref l)))) o p t m ps rs r par dep nd na ka ia kl (bs.set v.toNat (.ref l)) (fun c=>c=v\/S c) where
 ob:=by
   obtain ⟨dx,q⟩:=h.ob;exact ⟨dx,by rw [ap (fQ q h.hi (by intro z;cases z))];exact q⟩
 web:=by
   have W:=h.web;refine ⟨?_,?_,?_,W.go⟩
   . obtain ⟨dx,q⟩:=W.ob;exact ⟨dx,by rw [ap (fQ q h.hi (by intro z;cases z))];exact q⟩
   . rw [ap (fQ W.tu h.hi (by intro z;cases z))];exact W.tu
   . exact Paired.imp' (fun q x e=>by rw [ap (fQ e h.hi (by intro z;cases z))];exact e) W.ro
 rt:=h.rt
 hn:=by rw [ap hna];exact h.hn
 hk:=by rw [ap hka];exact h.hk
 kp:=oS (fun q x hq e=>by rw [ap (hkl q hq)];exact e) h.kp
 hi:=ah
 done:=fun c hc=>by
   by_cases e:c=v
   . subst e;refine ⟨l,iH v0 ?_,by rw [ap nl];exact hl⟩;rw [List.getElem?_set_self (by omega)]
   . have hc:=hc.resolve_left e;obtain ⟨a,h1,h2⟩:=h.done c hc;obtain ⟨c0,h3⟩:=hd c hc;refine ⟨a,iH c0 ?_,by rw [ap (h3 a h1)];exact h2⟩;rw [List.getElem?_set_ne (by omega)];exact (Ab c0).symm.trans h1
 cl:=fun u u0 u1 hu c hc=>by
   rcases hu with rfl|hu
   . exact .inr (hS c hc)
   . exact .inr (h.cl u u0 u1 hu c hc)
theorem OutAt.sub {C O:Addr} {H:Hp} {o p t:Addr} {m:Int} {ps:List Addr} {rs:List Road} {r:Int} {par:Int->Int} {dep:Int->Nat} {nd:Int->Int} {na ka ia:Addr} {kl:List Addr} {bs:List V} {S:Int->Prop} {S':Int->Prop} (h:OutAt C O H o p t m ps rs r par dep nd na ka ia kl bs S) (f:∀ c,S' c->S c) (cl:∀ u,0<=u->u<m->S' u->∀ c∈kd m rs r par u,S' c):OutAt C O H o p t m ps rs r par dep nd na ka ia kl bs S' :=
 ⟨h.ob,h.web,h.rt,h.hn,h.hk,h.kp,h.hi,fun c hc=>h.done c (f c hc),cl⟩
theorem WebAt.kpt {C O:Addr} {H H':Hp} {o p:Addr} {m:Int} {t dx:Addr} {ps:List Addr} {rs:List Road} (e:Kpt o H H') (ho:H o=some (.ins O dx [])) (h:WebAt C H p m t ps rs):WebAt C H' p m t ps rs :=
 ⟨let ⟨dx,q⟩:=h.ob;⟨dx,e _ _ q (fQ q ho (by intro z;cases z))⟩,e _ _ h.tu (fQ h.tu ho (by intro z;cases z)),Paired.imp' (fun q x z=>e _ _ z (fQ z ho (by intro z;cases z))) h.ro,h.go⟩
def l9 (T:Txt K mg):Sp:=fun vs H Q _=>∃ (o dx p a t:Addr) (c:Bool) (m:Int) (ps:List Addr) (rs:List Road) (xs:List Int) (r:Int),vs=[.ref o,.ref p,.ref a,.int r]/\H o=some (.ins T.Outlook dx [])/\WebAt T.Web H p m t ps rs/\SqX K c H a (xs.map V.int)/\bq m xs=true/\(0<=r/\r<m) /\
 ∃ par dep,Rooted m rs r par dep/\∀ na ka ia kl bs H',OutAt T.Web T.Outlook H' o p t m ps rs r par dep (gat m rs r par dep (fun v=>xs.getD v.toNat 0) (ned rs par)) na ka ia kl bs (fun v=>(0<=v/\v<m)/\v≠r)->(∀ b x,H b=some x->b≠o->H' b=some x)->Q .non H'
abbrev ax:Stmt:=GF (top 37) 0
theorem iW:FnScope ["self","web","wish","r","place","front"] ["self","web","wish","r"] (aa ax):=FnScope.of (by kernel_rfl)
theorem bO:NmL (aa ax) "self":=.of (by kernel_rfl)
theorem cI:NmC (aa ax) "web":=.of (by kernel_rfl)
theorem qc:NmL (aa ax) "wish":=.of (by kernel_rfl)
theorem gD:NmL (aa ax) "r":=.of (by kernel_rfl)
theorem eV:NmL (aa ax) "place":=.of (by kernel_rfl)
theorem iY:NmL (aa ax) "front":=.of (by kernel_rfl)
theorem jf:NmG (aa ax) "needs":=.of (by kernel_rfl)
theorem lZ:NmG (aa ax) "enumerate":=.of (by kernel_rfl)
theorem jb:NmG (aa ax) "ahead":=.of (by kernel_rfl)
theorem ir:NmG (aa ax) "inward":=.of (by kernel_rfl)
theorem gj:NmG (aa ax) "idle_load":=.of (by kernel_rfl)
theorem vE (T:Txt K mg) (hq:aX (CXe P w)) {f:Addr} {fd:FuncData} (F:Fun K "__init__" "Outlook.__init__" ax f fd) {fj:Addr} {jw:FuncData} (dy:Df K mg "ahead" cG ["web","r"] fj jw) (G_ahead:FnOk P w K mg base (CXe P w) 5 fj jw ["web","r"] (uL T)) {fY:Addr} {wG:FuncData} (iG:Df K mg "idle_load" bQ ["outlook","place","front"] fY wG) (G_idle_load:FnOk P w K mg base (CXe P w) 55 fY wG ["outlook","place","front"] (wP T)) {f9:Addr} {ng:FuncData} (ft:Df K mg "inward" cJ ["web","r"] f9 ng) (G_inward:FnOk P w K mg base (CXe P w) 7 f9 ng ["web","r"] (qS T)) {gP:Addr} {kM:FuncData} (eS:Df K mg "kids" fA ["web","place","front"] gP kM) (G_kids:FnOk P w K mg base (CXe P w) 4 gP kM ["web","place","front"] (xK T)) {mM:Addr} {DV:FuncData} (oO:Df K mg "needs" cN ["web","wish","r"] mM DV) (G_needs:FnOk P w K mg base (CXe P w) 8 mM DV ["web","wish","r"] (EC T)):FnOk P w K mg base (CXe P w) 56 f fd ["self","web","wish","r"] (l9 T):=by
 refine F.okC iW (fun vs H Q E h=>?_) (fun cdv A outer s H vs Q E hr h=>?_)
 . obtain ⟨o,dx,p,a,t,c,m,ps,rs,xs,r,rfl,_⟩:=h
   rfl
 . obtain ⟨o,dx,p,a,t,c,m,ps,rs,xs,r,rfl,ho,W,ha,fi,rr,par,dep,R,k⟩:=h;have g:=W.go;have m24:=g.m24;obtain ⟨dw,wb⟩:=W.ob;refine ⟨_,(ao (r9 (pvl 0 bO) (pvc 1 cI) rfl) (ao (r9 (pvl 0 bO) (aw G_needs (hr.mono (by decide)) jf.g oO.m oO.F.kp oO.b .nil (aY hq) (ag (pvc 1 cI) (ag (pvl 2 qc) (ag (pvl 3 gD) aj))) (hdb:=jf.d)) rfl) (ao (r9 (pvl 0 bO) (mF rfl (oN (Nc:=["place","front","web"]) 2 [1] (by decide +kernel) rfl (by decide +kernel) rfl (by show ∀ (y:Str × NameKind),y∈_->y.2=NameKind.free->(aa ax).names.lookup y.1=some NameKind.cell;decide +kernel) rfl (fun _ h=>jg h) (fun i hi=>match i,hi with|0,_=>⟨"web",1,rfl,rfl,rfl,by decide +kernel⟩|i+1,hi=>absurd hi (by show ¬ i+1<1;omega))) (OS true lZ.g T.enumerate (aw G_ahead (hr.mono (by decide)) jb.g dy.m dy.F.kp dy.b .nil (aY hq) (ag (pvc 1 cI) (ag (pvl 3 gD) aj)) (hdb:=jb.d))) (fun _ _ _ _=>(Hg K rfl (n:=2) rfl (bB (aG (i:=0) (show (["place","front","web"]:List Str).Nodup from by decide +kernel) rfl (Or.inl rfl)) (bB (aG (i:=1) (show (["place","front","web"]:List Str).Nodup from by decide +kernel) rfl (Or.inl rfl)) jR)))) (fun _ _ _ _=>oJ) (fun _ _ _ _=>(aw G_kids (hr.mono (by decide)) (by rfl) eS.m eS.F.kp eS.b .nil (aY hq) (ag (pv 2) (ag (pv 0) (ag (pv 1) aj)))))) rfl) (ao (r9 (pvl 0 bO) (aF Ay (d8 (ag vM aj)) (dq  (pvc 1 cI) rfl)) rfl) (aq (dL PassesOwn.never rfl (gQ (aw G_inward (hr.mono (by decide)) ir.g ft.m ft.F.kp ft.b .nil (aY hq) (ag (pvc 1 cI) (ag (pvl 3 gD) aj)) (hdb:=ir.d))) (nC (n:=2) rfl (bB (aG (i:=4) iW.nd rfl (Or.inl eV.l)) (bB (aG (i:=5) iW.nd rfl (Or.inl iY.l)) jR))) (aq (pA (aw G_idle_load (hr.mono (by decide)) gj.g iG.m iG.F.kp iG.b .nil (aY hq) (ag (pvl 0 bO) (ag (pvl 4 eV) (ag (pvl 5 iY) aj))) (hdb:=gj.d)) (wx (dq  (pvl 0 bO) rfl) (pvl 4 eV) kC))))))))),?_⟩;rw [show L2.start ["self","web","wish","r","place","front"] [V.ref o,V.ref p,V.ref a,V.int r]=[some (V.ref o),some (V.ref p),some (V.ref a),some (V.int r),none,none] from rfl];walk_at "rd";have xl:(xs.length:Int)=m:=by
     have fi:=fi;unfold bq at fi;rw [Bool.and_eq_true] at fi;exact of_decide_eq_true fi.1
   refine ⟨T.Outlook,dx,[],ho,T.bX,T.n_web,by decide,?_⟩;have k1:Kpt o H (upd H o (.ins T.Outlook dx (aR "web" (.ref p) []))):=Kpt.refl.put _;have o1:upd H o (.ins T.Outlook dx (aR "web" (.ref p) [])) o=some (.ins T.Outlook dx (aR "web" (.ref p) [])):=ah;generalize upd H o (.ins T.Outlook dx (aR "web" (.ref p) []))=H1 at k1 o1 ⊢;refine ⟨p,a,t,c,m,ps,rs,xs,r,rfl,W.kpt k1 ho,k1.sqX ho ha,by omega,fun _ _ _=>⟨par,dep,R,fun na H2 n2 s2 e2=>?_⟩,fun z=>(by rw [fi] at z;cases z),fun _ z=>absurd rr z⟩;have k2:=k1.then s2;refine ⟨T.Outlook,dx,_,s2 _ _ o1,T.bX,T.xI,by show 1<1000;decide,?_⟩;have nao:na≠o:=fun z=>by rw [z,o1] at n2;cases n2
   have k3:=k2.put (.ins T.Outlook dx (aR "needs" (.ref na) (aR "web" (.ref p) [])));have o3:upd H2 o (.ins T.Outlook dx (aR "needs" (.ref na) (aR "web" (.ref p) []))) o=some (.ins T.Outlook dx (aR "needs" (.ref na) (aR "web" (.ref p) []))):=ah;have e3:upd H2 o (.ins T.Outlook dx (aR "needs" (.ref na) (aR "web" (.ref p) []))) na=_:=(ap nao).trans e2;generalize upd H2 o (.ins T.Outlook dx (aR "needs" (.ref na) (aR "web" (.ref p) [])))=H3 at k3 o3 e3 ⊢;have W3:=W.kpt k3 ho;refine ⟨p,t,m,ps,rs,r,rfl,W3,fun _ _=>⟨par,dep,R,fun la H4 n4 s4 e4=>⟨la,rfl,⟨_,SqL.of e4⟩,fun ka nka=>?_⟩⟩,fun z=>absurd rr z⟩;have n3ka:=s4.free nka;refine KP (K:=K) (c:=true) (xs:=kU m r par) (fun i ys σ H5=>Same H4 H5/\H5 ka=some (.lst ys)/\(∃ kl:List Addr,ys=kl.map V.ref/\Paired (fun a v=>H5 a=some (.lst ((kd m rs r par v).map V.int))) kl ((below m.toNat).take i)/\∀ q∈kl,q≠ka)/\∃ v w,σ=[v,w,some (V.ref p)]) ⟨Same.new _ nka,ah,⟨[],rfl,.nil,by simp⟩,_,_,rfl⟩ (fun i ys σ H5 z=>SqL.of (z.1 _ _ e4)) ?_ ?_
   . rintro i x ys σ H5 q N hN hx ⟨s5,e5,⟨kl,rfl,pk,hkq⟩,v,w,rfl⟩ nq;have il:i<m.toNat:=by
       have:=(List.getElem?_eq_some_iff.mp hx).1;unfold kU at this
       rwa [List.length_map,aU] at this
     have ex:x=Pb.front r par (i:Int):=by
       have:=zB (m:=m) (r:=r) (par:=par) (v:=(i:Int)) (by omega) (by omega);rw [show ((i:Int)).toNat=i from rfl,hx] at this;exact Option.some.inj this
     have qe:=s5 _ _ e4;have s6:=Same.new (.tup [V.int i,x]) nq;have s46:=s5.trans s6;have et:(below m.toNat).take (i+1)=(below m.toNat).take i++[(i:Int)]:=(by rw [List.take_succ,fV il];rfl);have kll:kl.length<=24:=by
       have:=Paired.length pk;rw [List.length_take] at this;omega
     walk_at "rd";refine ⟨_,SqT.of ah,rfl,_,_,rfl,_,_,rfl,rfl,?_⟩;refine ⟨p,t,m,ps,rs,i,x,rfl,W3.same (s4.trans s46),by omega,by omega,?_,fun l6 H6 n6 s7 e7=>?_⟩
     . rw [ex];unfold Pb.front;split
       . exact .inl rfl
       . exact .inr ⟨_,rfl⟩
     have s57:=s6.trans s7;refine ⟨s57 _ _ e5,dI (by rw [List.length_map];omega),hN _ _ _ ⟨(s5.trans s57).put nka _,ah,⟨kl++[l6],by rw [List.map_append];rfl,?_,fun q hq=>?_⟩,_,_,rfl⟩⟩;have nk:l6≠ka:=fun z=>by rw [z,s6 _ _ e5] at n6;cases n6
     rotate_left
     . rcases List.mem_append.mp hq with h|h
       . exact hkq q h
       . rw [List.mem_singleton.mp h];exact fun z=>by rw [z,s6 _ _ e5] at n6;cases n6
     rw [et];refine zn (by rw [ap nk,e7,ex]) (oS (fun q v hq h=>?_) pk);have e:q≠ka:=fun z=>hkq q hq z;rw [ap e];exact s57 _ _ h
   . rintro ys σ H5 ⟨s5,e5,⟨kl,rfl,pk,hkq⟩,v,w,rfl⟩;rw [show (kU m r par).length=m.toNat by unfold kU;rw [List.length_map,aU],List.take_of_length_le (by rw [aU];exact Nat.le_refl _)] at pk;have o5:=s5 _ _ (s4 _ _ o3);have k5:=(k3.then s4).then s5;have e5n:=s5 _ _ (s4 _ _ e3);refine ⟨T.Outlook,dx,_,o5,T.bX,T.EY,by show 2<1000;decide,by decide,fun l1 n1=>?_⟩;have kao:ka≠o:=fun z=>by rw [z,o5] at e5;cases e5
     have k6:=k5.put (.ins T.Outlook dx (aR "kids" (.ref ka) (aR "needs" (.ref na) (aR "web" (.ref p) []))));have o6:upd H5 o (.ins T.Outlook dx (aR "kids" (.ref ka) (aR "needs" (.ref na) (aR "web" (.ref p) [])))) o=some (.ins T.Outlook dx (aR "kids" (.ref ka) (aR "needs" (.ref na) (aR "web" (.ref p) [])))):=ah;have e6:upd H5 o (.ins T.Outlook dx (aR "kids" (.ref ka) (aR "needs" (.ref na) (aR "web" (.ref p) [])))) ka=_:=(ap kao).trans e5;have e6n:upd H5 o (.ins T.Outlook dx (aR "kids" (.ref ka) (aR "needs" (.ref na) (aR "web" (.ref p) [])))) na=_:=(ap nao).trans e5n;have pk6:Paired (fun a v=>upd H5 o (.ins T.Outlook dx (aR "kids" (.ref ka) (aR "needs" (.ref na) (aR "web" (.ref p) [])))) a=some (.lst ((kd m rs r par v).map V.int))) kl (below m.toNat):=Paired.imp' (fun q v h=>by rw [ap (fQ h o5 (by intro z;cases z))];exact h) pk;generalize upd H5 o (.ins T.Outlook dx (aR "kids" (.ref ka) (aR "needs" (.ref na) (aR "web" (.ref p) []))))=H6 at k6 o6 e6 e6n pk6 n1 ⊢;have s7:=Same.new (.lst [V.non]) n1;obtain ⟨dw',wb'⟩:=(W.kpt k6 ho).ob;refine ⟨T.Web,dw',_,s7 _ _ wb',T.j3,T.n_many,_,kY _ _,?_⟩;refine ⟨l1,m,[V.non],rfl,rfl,ah,by omega,by omega,bK (by simp;omega),fun ia nia=>?_⟩;rw [uz];have s8:=s7.trans (Same.new (.lst (List.replicate m.toNat V.non)) nia);have i8:upd (upd H6 l1 (.lst [V.non])) ia (.lst (List.replicate m.toNat V.non)) ia=some (.lst (List.replicate m.toNat V.non)):=ah;have nia6:=s7.free nia;generalize upd (upd H6 l1 (.lst [V.non])) ia (.lst (List.replicate m.toNat V.non))=H8 at s8 i8 ⊢;have o8:=s8 _ _ o6;refine ⟨T.Outlook,dx,_,o8,T.bX,T.n_idle,by show 3<1000;decide,?_⟩;have k8:=(k6.then s8).put (.ins T.Outlook dx (jS p na ka ia));have iao:ia≠o:=fun z=>by rw [z,o6] at nia6;cases nia6
     have O9:OutAt T.Web T.Outlook (upd H8 o (.ins T.Outlook dx (jS p na ka ia))) o p t m ps rs r par dep (gat m rs r par dep (fun v=>xs.getD v.toNat 0) (ned rs par)) na ka ia kl (List.replicate m.toNat V.non) (fun _=>False) :=
       ⟨⟨dx,ah⟩,W.kpt k8 ho,R,(ap nao).trans (s8 _ _ e6n),(ap kao).trans (s8 _ _ e6),Paired.imp' (fun q v h=>by rw [ap (fQ h o6 (by intro z;cases z))];exact s8 _ _ h) pk6,(ap iao).trans i8,fun c z=>z.elim,fun u _ _ z=>z.elim⟩
     have k9:=k8;show qS T [V.ref p,V.int r] (upd H8 o (.ins T.Outlook dx (jS p na ka ia))) _ _;generalize upd H8 o (.ins T.Outlook dx (jS p na ka ia))=H9 at O9 k9 ⊢;have hia:H ia=none:=by
       cases e:H ia with
       | none=>rfl
       | some x=>rw [k6 _ _ e iao] at nia6;cases nia6
     have hna:na≠ia:=fun z=>by rw [<- z,e6n] at nia6;cases nia6
     have hka:ka≠ia:=fun z=>by rw [<- z,e6] at nia6;cases nia6
     have hkl:∀ q∈kl,q≠ia:=fun q hq z=>by
       obtain ⟨v,hv⟩:=Hh pk6 hq;rw [z,nia6] at hv;cases hv
     refine ⟨p,t,m,ps,rs,r,rfl,O9.web,fun _ _=>⟨par,dep,R,fun lq qs tl H10 et n10 s10 e10 pa Or=>⟨lq,rfl,⟨_,SqL.of e10⟩,?_⟩⟩,fun z=>absurd rr z⟩;have nlq:lq≠ia:=fun z=>by rw [z,O9.hi] at n10;cases n10
     refine kL (K:=K) (xs:=qs.map V.ref) (fun i σ H11=>Kpt o H H11/\H11 lq=some (.lst (qs.map V.ref))/\PairsAt H11 par qs tl.reverse/\∃ (bs:List V) (v4 v5:Option V),OutAt T.Web T.Outlook H11 o p t m ps rs r par dep (gat m rs r par dep (fun v=>xs.getD v.toNat 0) (ned rs par)) na ka ia kl bs (fun c=>c∈tl.drop (tl.length - i))/\bs.length=m.toNat/\(∀ c,c∈tl.drop (tl.length - i)->∀ a,atI bs c=some (.ref a)->a≠ia)/\σ=[some (V.ref o),some (V.ref p),some (V.ref a),some (V.int r),v4,v5]) ⟨k9.then s10,e10,pa,List.replicate m.toNat V.non,_,_,(O9.same s10).sub (fun c hc=>?_) (fun u _ _ hu=>?_),List.length_replicate,fun c hc=>?_,rfl⟩ (fun i σ H11 _ z=>SqL.of z.2.1) ?_ ?_
     . rw [Nat.sub_zero,List.drop_length] at hc;cases hc
     . rw [Nat.sub_zero,List.drop_length] at hu;cases hu
     . rw [Nat.sub_zero,List.drop_length] at hc;cases hc
     . rintro i x σ H11 N BB hBB hN hx ⟨k11,e11,pa11,bs,v4,v5,O11,bl,hda,rfl⟩;refine hBB _ _ ?_;obtain ⟨q,v,rfl,hq,hv,eq⟩:=pa11.get hx;obtain ⟨⟨vr,vn⟩,ed,_,hdp,hdk⟩:=Or.cut R hv;have hS:∀ c∈kd m rs r par v,c∈tl.drop (tl.length - i):=fun c hc=>by
         have w:=(aN g R vr.1 vr.2).mp hc;exact hdk c w.1.1 w.1.2 w.2.1 w.2.2
       walk_at "rd";refine ⟨_,SqT.of eq,rfl,_,_,rfl,_,_,rfl,rfl,?_⟩;refine ⟨o,p,t,m,ps,rs,r,par,dep,_,na,ka,ia,kl,bs,_,v,rfl,O11,vr,vn,hS,fun l H12 n12 s12 e12=>?_⟩;have O12:=O11.same s12;obtain ⟨dx',ob'⟩:=O12.ob;have nl:l≠ia:=fun z=>by rw [z,O11.hi] at n12;cases n12
       refine ⟨T.Outlook,dx',_,ob',T.bX,T.n_idle,_,z9 _ _ _ _,Ea O12.hi vr.1 (by omega) (hN _ _ ⟨?_,?_,?_,_,_,_,(O12.put hna hka hkl (fun c hc=>⟨(hdp c hc).1.1,hda c hc⟩) bl vr.1 vr.2 hS e12 nl).sub (fun c hc=>?_) (fun u u0 u1 hu c hc=>?_),?_,?_,rfl⟩)⟩
       . exact fun b y hb nb=>by rw [ap (bc hb hia)];exact s12 _ _ (k11 b y hb nb)
       . rw [ap nlq];exact s12 _ _ e11
       . exact Paired.imp' (fun a b h=>by rw [ap (fQ (s12 _ _ h) O12.hi (by intro z;cases z))];exact s12 _ _ h) pa11
       . rw [ed] at hc;exact List.mem_cons.mp hc
       . rw [ed];rw [ed] at hu;rcases List.mem_cons.mp hu with rfl|hu
         . exact List.mem_cons_of_mem _ (hS c hc)
         . exact List.mem_cons_of_mem _ (O11.cl u u0 u1 hu c hc)
       . rw [List.length_set];exact bl
       . intro c hc a' ha';rw [ed] at hc;by_cases e:c=v
         . subst e;rw [Ab vr.1,List.getElem?_set_self (by omega)] at ha';cases ha';exact nl
         . have hc:=(List.mem_cons.mp hc).resolve_left e;have c0:=(hdp c hc).1.1;rw [Ab c0,List.getElem?_set_ne (by omega),<- Ab c0] at ha';exact hda c hc a' ha'
     . rintro BB σ H11 hBB ⟨k11,e11,pa11,bs,v4,v5,O11,bl,hda,rfl⟩;refine hBB _ _ ?_;have ql:qs.length=tl.reverse.length:=Paired.length pa11;rw [List.length_map,ql,List.length_reverse,Nat.sub_self,List.drop_zero] at O11;walk_at "rd";refine k na ka ia kl bs H11 (O11.sub (fun c hc=>?_) (fun u u0 u1 hu c hc=>?_)) k11
       . exact (Or.all c hc.1.1 hc.1.2).resolve_left hc.2
       . have w:=(aN g R u0 u1).mp hc;exact ⟨w.1,w.2.1⟩
def zZ (T:Txt K mg):Sp:=fun vs H Q _=>∃ (p a t:Addr) (c:Bool) (m:Int) (ps:List Addr) (rs:List Road) (xs:List Int) (r:Int),vs=[.ref p,.ref a,.int r]/\WebAt T.Web H p m t ps rs/\SqX K c H a (xs.map V.int)/\bq m xs=true/\(0<=r/\r<m) /\
 ∃ par dep,Rooted m rs r par dep/\∀ l H',H l=none->Same H H'->H' l=some (.tup ((gld m rs r par dep (u8 m rs r par dep xs) r (-1)).map V.int))->Q (.ref l) H'
abbrev cK:Stmt:=top 36
theorem Iq:FnScope ["web","wish","r"] ["web","wish","r"] (aa cK):=FnScope.of (by kernel_rfl)
theorem Ck:NmL (aa cK) "web":=.of (by kernel_rfl)
theorem Ar:NmL (aa cK) "wish":=.of (by kernel_rfl)
theorem vS:NmL (aa cK) "r":=.of (by kernel_rfl)
theorem kq:NmG (aa cK) "tuple":=.of (by kernel_rfl)
theorem jE:NmG (aa cK) "greatest_load":=.of (by kernel_rfl)
theorem m7:NmG (aa cK) "Outlook":=.of (by kernel_rfl)
theorem Hu (T:Txt K mg) (hq:aX (CXe P w)) {f:Addr} {fd:FuncData} (D:Df K mg "failing" cK ["web","wish","r"] f fd) {f_Outlook___init__:Addr} {iQ:FuncData} (F_Outlook___init__:Fun K "__init__" "Outlook.__init__" ax f_Outlook___init__ iQ) (b_Outlook:Binds K iQ ["self","web","wish","r"] []) (vZ:Mk K T.Outlook f_Outlook___init__) (G_Outlook_init:FnOk P w K mg base (CXe P w) 56 f_Outlook___init__ iQ ["self","web","wish","r"] (l9 T)) {be:Addr} {cg:FuncData} (D_greatest_load:Df K mg "greatest_load" ay ["outlook","place","over"] be cg) (G_greatest_load:FnOk P w K mg base (CXe P w) 54 be cg ["outlook","place","over"] (kj T)):FnOk P w K mg base (CXe P w) 58 f fd ["web","wish","r"] (zZ T):=by
 refine D.F.okC Iq (fun vs H Q E h=>?_) (fun cdv A outer s H vs Q E hr h=>?_)
 . obtain ⟨p,a,t,c,m,ps,rs,xs,r,rfl,_⟩:=h
   rfl
 . obtain ⟨p,a,t,c,m,ps,rs,xs,r,rfl,W,ha,fi,rr,par,dep,R,k⟩:=h;have m24:=W.go.m24;refine ⟨_,(aq (aO (jJ kb kq.g T.tuple tz (ag (aw G_greatest_load (hr.mono (by decide)) jE.g D_greatest_load.m D_greatest_load.F.kp D_greatest_load.b .nil (aY hq) (ag (Hj vZ G_Outlook_init (hr.mono (by decide)) m7.g T.Kq b_Outlook .nil (aY hq) (ag (pvl 0 Ck) (ag (pvl 1 Ar) (ag (pvl 2 vS) aj))) (hdb:=m7.d)) (ag (pvl 2 vS) (ag (QZ P6 au) aj))) (hdb:=jE.d)) aj) (hn:=kq.n) (hdb:=kq.d)))),?_⟩;rw [show L2.start ["web","wish","r"] [V.ref p,V.ref a,V.int r]=[some (V.ref p),some (V.ref a),some (V.int r)] from rfl];walk_at "rd";intro o dx no ndx ne;have no1:upd H dx (.own o) o=none:=by rw [ap ne.symm];exact no
   have s0:Same H (upd (upd H dx (.own o)) o (.ins T.Outlook dx [])):=(Same.new _ ndx).trans (Same.new _ no1);refine ⟨o,dx,p,a,t,c,m,ps,rs,xs,r,rfl,ah,W.same s0,Same.sqX s0 ha,fi,rr,par,dep,R,fun na ka ia kl bs H1 O kp=>?_⟩;have s1:Same H H1:=fun b x hb=>kp b x (s0 b x hb) (bc hb no);refine ⟨rfl,?_⟩;refine ⟨o,p,t,m,ps,rs,r,par,dep,_,na,ka,ia,kl,bs,_,r,_,rfl,O,rr,by show m.toNat<=dep r+1+24;omega,fun c hc=>?_,fun l H2 n2 s2 h2=>?_⟩
   . have w:=(aN W.go R rr.1 rr.2).mp hc;exact ⟨w.1,w.2.1⟩
   . refine ⟨l,rfl,_,.inl ⟨SqL.of h2,fun l3 n3=>k l3 _ (s1.free (s2.free n3)) ((s1.trans s2).trans (Same.new _ n3)) ah⟩⟩
def tq (T:Txt K mg):Sp:=fun vs H Q E=>∃ (p a t:Addr) (c:Bool) (m:Int) (ps:List Addr) (rs:List Road) (xs:List Int),vs=[.ref p,.ref a]/\WebAt T.Web H p m t ps rs/\SqX K c H a (xs.map V.int)/\xs.length<=1000 /\
 (bq m xs=true->∀ H',Same H H'->Q (.bl (decide (xs.sum=0))) H')/\(bq m xs=false->∀ H',Same H H'->E (.ref T.BadWish) none H')
abbrev cZ:Stmt:=top 35
theorem HD:FnScope ["web","wish"] ["web","wish"] (aa cZ):=FnScope.of (by kernel_rfl)
theorem BD:NmL (aa cZ) "web":=.of (by kernel_rfl)
theorem AN:NmL (aa cZ) "wish":=.of (by kernel_rfl)
theorem qf:NmG (aa cZ) "total":=.of (by kernel_rfl)
theorem m9:NmG (aa cZ) "wish_of":=.of (by kernel_rfl)
theorem HC (T:Txt K mg) (hq:aX (CXe P w)) {f:Addr} {fd:FuncData} (D:Df K mg "is_idle" cZ ["web","wish"] f fd) {dA:Addr} {fC:FuncData} (b6:Df K mg "total" fh ["numbers"] dA fC) (G_total:FnOk P w K mg base (CXe P w) 1 dA fC ["numbers"] (pP T)) {eZ:Addr} {lN:FuncData} (eA:Df K mg "wish_of" cM ["web","numbers"] eZ lN) (G_wish_of:FnOk P w K mg base (CXe P w) 2 eZ lN ["web","numbers"] (uf T)):FnOk P w K mg base (CXe P w) 3 f fd ["web","wish"] (tq T):=by
 refine D.F.okX HD (fun vs H Q E h=>?_) (fun cdv A outer s H vs Q E hr h=>?_)
 . obtain ⟨p,a,t,c,m,ps,rs,xs,rfl,_⟩:=h
   rfl
 . obtain ⟨p,a,t,c,m,ps,rs,xs,rfl,W,ha,hz,k,e⟩:=h;refine ⟨_,(aq (aO (sq jQ (aw G_total (hr.mono (by decide)) qf.g b6.m b6.F.kp b6.b .nil dH (ag (aw G_wish_of (hr.mono (by decide)) m9.g eA.m eA.F.kp eA.b .nil dH (ag (pvl 0 BD) (ag (pvl 1 AN) aj)) (hdb:=m9.d)) aj) (hdb:=qf.d)) au (bi _)))),?_⟩;rw [show L2.start ["web","wish"] [V.ref p,V.ref a]=[some (V.ref p),some (V.ref a)] from rfl];walk_at "rd";refine ⟨p,a,t,c,m,ps,rs,xs,rfl,W,ha,hz,fun fi l H1 s1 h1=>?_,e⟩;refine ⟨l,_,rfl,.inr h1,?_⟩;refine ⟨rfl,?_⟩;rw [show decide (V.int xs.sum=V.int 0)=decide (xs.sum=0) by by_cases z:xs.sum=0 <;> simp [z]];exact k fi H1 s1
def FP (T:Txt K mg):Sp:=fun vs H Q E=>∃ (p a t:Addr) (c:Bool) (m:Int) (ps:List Addr) (rs:List Road) (xs:List Int),vs=[.ref p,.ref a]/\WebAt T.Web H p m t ps rs/\SqX K c H a (xs.map V.int)/\xs.length<=1000 /\
 (bq m xs=true->xs.sum≠0->∃ par dep,Rooted m rs (gL m xs) par dep/\∀ l H',H l=none->Same H H'->H' l=some (.tup ((gld m rs (gL m xs) par dep (u8 m rs (gL m xs) par dep xs) (gL m xs) (-1)).map V.int))->Q (.ref l) H') /\
 (bq m xs=false->∀ H',Same H H'->E (.ref T.BadWish) none H')/\(bq m xs=true->xs.sum=0->∀ H',Same H H'->E (.ref T.NoWorst) none H')
abbrev dD:Stmt:=top 34
theorem E3:FnScope ["web","wish","wanted_at"] ["web","wish"] (aa dD):=FnScope.of (by kernel_rfl)
theorem qo:NmL (aa dD) "web":=.of (by kernel_rfl)
theorem vk:NmC (aa dD) "wish":=.of (by kernel_rfl)
theorem m5:NmL (aa dD) "wanted_at":=.of (by kernel_rfl)
theorem pJ:NmG (aa dD) "is_idle":=.of (by kernel_rfl)
theorem pL:NmG (aa dD) "NoWorst":=.of (by kernel_rfl)
theorem Cm:NmG (aa dD) "range":=.of (by kernel_rfl)
theorem pO:NmG (aa dD) "failing":=.of (by kernel_rfl)
theorem Of (T:Txt K mg) (hq:aX (CXe P w)) {f:Addr} {fd:FuncData} (D:Df K mg "fails" dD ["web","wish"] f fd) {jk:Addr} {Aq:FuncData} (kQ:Df K mg "failing" cK ["web","wish","r"] jk Aq) (G_failing:FnOk P w K mg base (CXe P w) 58 jk Aq ["web","wish","r"] (zZ T)) {fe:Addr} {lA:FuncData} (eC:Df K mg "is_idle" cZ ["web","wish"] fe lA) (G_is_idle:FnOk P w K mg base (CXe P w) 3 fe lA ["web","wish"] (tq T)):FnOk P w K mg base (CXe P w) 59 f fd ["web","wish"] (FP T):=by
 refine D.F.okX E3 (fun vs H Q E h=>?_) (fun cdv A outer s H vs Q E hr h=>?_)
 . obtain ⟨p,a,t,c,m,ps,rs,xs,rfl,_⟩:=h
   rfl
 . obtain ⟨p,a,t,c,m,ps,rs,xs,rfl,W,ha,hz,k,e,e'⟩:=h;have g:=W.go;have m24:=g.m24;obtain ⟨dw,wb⟩:=W.ob;refine ⟨_,(ao (ce (mZ (aw G_is_idle (hr.mono (by decide)) pJ.g eC.m eC.F.kp eC.b .nil dH (ag (pvl 0 qo) (ag (pvc 1 vk) aj)) (hdb:=pJ.d))) (aq (uT T.KY rfl xO pL.g T.KU (ag A7 aj) (hdb:=pL.d))) bo) (ao (zL (i:=2) E3.nd rfl m5.l rfl (oN (Nc:=["place","wish"]) 1 [1] (by decide +kernel) rfl (by decide +kernel) rfl (by show ∀ (y:Str × NameKind),y∈_->y.2=NameKind.free->(aa dD).names.lookup y.1=some NameKind.cell;decide +kernel) rfl (fun _ h=>jg h) (fun i hi=>match i,hi with|0,_=>⟨"wish",1,rfl,rfl,rfl,by decide +kernel⟩|i+1,hi=>absurd hi (by show ¬ i+1<1;omega))) (qV Cm.g T.range (ag (dq  (pvl 0 qo) rfl) aj)) (fun _ _ _ _=>(aG (i:=0) (show (["place","wish"]:List Str).Nodup from by decide +kernel) rfl (Or.inl rfl))) (fun _ _ _ _=>(Bq (bn xF (bA (Ci c K rfl) (pv 1) (pv 0) (fun _ _=>rfl)) au (bi _)))) (fun _ _ _ _=>(pv 0))) (aq (aO (aw G_failing (hr.mono (by decide)) pO.g kQ.m kQ.F.kp kQ.b .nil dH (ag (pvl 0 qo) (ag (pvc 1 vk) (ag (bA bJ (pvl 2 m5) au (fun _ _=>rfl)) aj))) (hdb:=pO.d)))))),?_⟩;rw [show L2.start ["web","wish","wanted_at"] [V.ref p,V.ref a]=[some (V.ref p),some (V.ref a),none] from rfl];walk_at "rd";refine ⟨p,a,t,c,m,ps,rs,xs,rfl,W,ha,hz,fun fi H1 s1=>?_,e⟩;refine ⟨_,rfl,?_⟩;by_cases z:xs.sum=0
   . rw [if_pos (by simpa using z)];exact ⟨by decide,e' fi z H1 s1⟩
   . rw [if_neg (by simpa using z)];obtain ⟨par,dep,R,k⟩:=k fi z;have xl:=Jf fi;have nn:=KW fi;obtain ⟨tl,etl,rr,x0⟩:=Gw xl nn z;refine ⟨T.Web,dw,_,s1 _ _ wb,T.j3,T.n_many,_,kY _ _,m,rfl,by omega,by omega,fun pc npc=>?_⟩;have npc0:=s1.free npc;refine zU (fun i zs σ H3=>Same H1 H3/\H3 pc=some (.lst zs)/\zs=((below i).filter fun v=>decide (0<xs.getD v.toNat 0)).map V.int/\∃ v,σ=[v,some (V.ref a)]) ⟨Same.new _ npc,ah,rfl,_,rfl⟩ ?_ ?_
     . rintro i zs σ H3 N hN hi ⟨s3,e3,rfl,v,rfl⟩;have ll:((below i).filter fun v=>decide (0<xs.getD v.toNat 0)).length<=24:=by
         have h1:=List.length_filter_le (fun v=>decide (0<xs.getD v.toNat 0)) (below i);rw [aU] at h1;omega
       walk_at "rd";rw [Int.zero_add];refine ixX (Same.sqX (s1.trans s3) ha) (atG (by omega) (by omega)) ⟨_,rfl,?_⟩;rw [show ((i:Int)).toNat=i from rfl];by_cases q:0<xs.getD i 0
       . rw [if_pos q];refine ⟨e3,dI (by rw [List.length_map];omega),hN _ _ _ ⟨s3.put npc _,ah,?_,_,rfl⟩⟩;rw [lJ,List.filter_append,List.filter_cons_of_pos (by simpa using q),List.filter_nil,List.map_append]
         rfl
       . rw [if_neg q];refine hN _ _ _ ⟨s3,e3,?_,_,rfl⟩;rw [lJ,List.filter_append,List.filter_cons_of_neg (by simpa using q),List.filter_nil,List.append_nil]
     . rintro zs σ H3 ⟨s3,e3,rfl,v,rfl⟩;rw [etl] at e3;have s13:=s1.trans s3;refine ixL (v:=V.int (gL m xs)) e3 (iH (by decide) rfl) ?_;exact ⟨p,a,t,c,m,ps,rs,xs,_,rfl,W.same s13,Same.sqX s13 ha,fi,rr,par,dep,R,fun l H4 n4 s4 h4=>k l H4 (s13.free n4) (s13.trans s4) h4⟩
def wk (T:Txt K mg):Sp:=fun vs H Q E=>∃ (p a t:Addr) (c:Bool) (m:Int) (ps:List Addr) (rs:List Road) (xs:List Int),vs=[.ref p,.ref a]/\WebAt T.Web H p m t ps rs/\SqX K c H a (xs.map V.int)/\xs.length<=1000 /\
 (bq m xs=true->xs.sum≠0->∃ par dep,Rooted m rs (gL m xs) par dep/\∀ H',Same H H'->Q (.int ((gld m rs (gL m xs) par dep (u8 m rs (gL m xs) par dep xs) (gL m xs) (-1)).sum+1)) H') /\
 (bq m xs=true->xs.sum=0->∀ H',Same H H'->Q (.int 0) H')/\(bq m xs=false->∀ H',Same H H'->E (.ref T.BadWish) none H')
abbrev dU:Stmt:=top 33
theorem Kz:FnScope ["web","wish"] ["web","wish"] (aa dU):=FnScope.of (by kernel_rfl)
theorem vo:NmL (aa dU) "web":=.of (by kernel_rfl)
theorem sP:NmL (aa dU) "wish":=.of (by kernel_rfl)
theorem oz:NmG (aa dU) "is_idle":=.of (by kernel_rfl)
theorem qR:NmG (aa dU) "total":=.of (by kernel_rfl)
theorem qG:NmG (aa dU) "fails":=.of (by kernel_rfl)
theorem KS (T:Txt K mg) (hq:aX (CXe P w)) {f:Addr} {fd:FuncData} (D:Df K mg "always" dU ["web","wish"] f fd) {ml:Addr} {DZ:FuncData} (oP:Df K mg "fails" dD ["web","wish"] ml DZ) (G_fails:FnOk P w K mg base (CXe P w) 59 ml DZ ["web","wish"] (FP T)) {fe:Addr} {lA:FuncData} (eC:Df K mg "is_idle" cZ ["web","wish"] fe lA) (G_is_idle:FnOk P w K mg base (CXe P w) 3 fe lA ["web","wish"] (tq T)) {dA:Addr} {fC:FuncData} (b6:Df K mg "total" fh ["numbers"] dA fC) (G_total:FnOk P w K mg base (CXe P w) 1 dA fC ["numbers"] (pP T)):FnOk P w K mg base (CXe P w) 60 f fd ["web","wish"] (wk T):=by
 refine D.F.okX Kz (fun vs H Q E h=>?_) (fun cdv A outer s H vs Q E hr h=>?_)
 . obtain ⟨p,a,t,c,m,ps,rs,xs,rfl,_⟩:=h
   rfl
 . obtain ⟨p,a,t,c,m,ps,rs,xs,rfl,W,ha,hz,k,e,e'⟩:=h;refine ⟨_,(ao (ce (mZ (aw G_is_idle (hr.mono (by decide)) oz.g eC.m eC.F.kp eC.b .nil dH (ag (pvl 0 vo) (ag (pvl 1 sP) aj)) (hdb:=oz.d))) (aq (aO au)) bo) (aq (aO (aF fw (aw G_total (hr.mono (by decide)) qR.g b6.m b6.F.kp b6.b .nil dH (ag (aw G_fails (hr.mono (by decide)) qG.g oP.m oP.F.kp oP.b .nil dH (ag (pvl 0 vo) (ag (pvl 1 sP) aj)) (hdb:=qG.d)) aj) (hdb:=qR.d)) au)))),?_⟩;rw [show L2.start ["web","wish"] [V.ref p,V.ref a]=[some (V.ref p),some (V.ref a)] from rfl];walk_at "rd";refine ⟨p,a,t,c,m,ps,rs,xs,rfl,W,ha,hz,fun fi H1 s1=>?_,e'⟩;refine ⟨_,rfl,?_⟩;by_cases z:xs.sum=0
   . rw [if_pos (by simpa using z)];exact e fi z H1 s1
   . rw [if_neg (by simpa using z)];obtain ⟨par,dep,R,k⟩:=k fi z;refine ⟨p,a,t,c,m,ps,rs,xs,rfl,W.same s1,Same.sqX s1 ha,hz,fun _ _=>⟨par,dep,R,fun l H2 n2 s2 h2=>?_⟩,fun z=>(by rw [fi] at z;cases z),fun _ z'=>absurd z' z⟩;refine ⟨l,_,rfl,.inr (SqT.of h2),_,rfl,k H2 (s1.trans s2)⟩
def DE (K:PySem.W.Frag):Sp:=fun vs H Q _=>∃ (a:Addr) (ns:List Int),vs=[.ref a]/\SqL K H a (ns.map V.int)/\ns.length<=63/\∀ H',Q (.bl true) H'
def Qn (T:Txt K mg):Sp:=DE K
theorem OA {rs:List Road} (h:∀ x∈rs,x.t<=4/\x.u<=4) {a b k:Int} (e:aE rs a b=some k):k<=4:=by
 unfold aE at e;obtain ⟨x,hx,ex⟩:=List.exists_of_findSome?_eq_some e;have:=h x hx;unfold di at ex;split at ex
 . cases ex;exact this.1
 . split at ex
   . cases ex;exact this.2
   . cases ex
abbrev cH:Stmt:=top 53
theorem nB:FnScope ["script","many","roads","wish","web","tolls","handed","found"] ["script"] (aa cH):=FnScope.of (by kernel_rfl)
theorem vD:NmL (aa cH) "script":=.of (by kernel_rfl)
theorem j5:NmL (aa cH) "many":=.of (by kernel_rfl)
theorem pj:NmL (aa cH) "roads":=.of (by kernel_rfl)
theorem iL:NmL (aa cH) "wish":=.of (by kernel_rfl)
theorem Bd:NmL (aa cH) "web":=.of (by kernel_rfl)
theorem pw:NmL (aa cH) "tolls":=.of (by kernel_rfl)
theorem nO:NmL (aa cH) "handed":=.of (by kernel_rfl)
theorem eB:NmL (aa cH) "found":=.of (by kernel_rfl)
theorem lH:NmG (aa cH) "_law_small_web":=.of (by kernel_rfl)
theorem kR:NmG (aa cH) "_law_small_wish":=.of (by kernel_rfl)
theorem zP:NmG (aa cH) "Web":=.of (by kernel_rfl)
theorem iC:NmG (aa cH) "list":=.of (by kernel_rfl)
theorem qz:NmG (aa cH) "_law_tolls":=.of (by kernel_rfl)
theorem vh:NmG (aa cH) "always":=.of (by kernel_rfl)
theorem qy:NmG (aa cH) "_law_whole":=.of (by kernel_rfl)
theorem fF:NmG (aa cH) "_law_all_meet":=.of (by kernel_rfl)
theorem uE:NmG (aa cH) "sum":=.of (by kernel_rfl)
theorem Ql (T:Txt K mg) (hq:aX (CXe P w)) {f:Addr} {fd:FuncData} (D:Df K mg "law" cH ["script"] f fd) {f_Web___init__:Addr} {lI:FuncData} (F_Web___init__:Fun K "__init__" "Web.__init__" aL f_Web___init__ lI) (b_Web:Binds K lI ["self","many","roads"] []) (II:Mk K T.Web f_Web___init__) (G_Web_init:FnOk P w K mg base (CXe P w) 3 f_Web___init__ lI ["self","many","roads"] (lW T)) {dN:Addr} {qO:FuncData} (cF:Df K mg "_law_all_meet" aV ["tolls","many","wish","pebbles"] dN qO) (G_law_all_meet:FnOk P w K mg base (CXe P w) 27 dN qO ["tolls","many","wish","pebbles"] (qQ T)) {dj:Addr} {oZ:FuncData} (eJ:Df K mg "_law_small_web" aH ["script"] dj oZ) (G_law_small_web:FnOk P w K mg base (CXe P w) 2 dj oZ ["script"] (pU T)) {cU:Addr} {oj:FuncData} (dM:Df K mg "_law_small_wish" aJ ["script","many"] cU oj) (G_law_small_wish:FnOk P w K mg base (CXe P w) 2 cU oj ["script","many"] (oq T)) {gi:Addr} {vY:FuncData} (iJ:Df K mg "_law_tolls" bS ["roads"] gi vY) (G_law_tolls:FnOk P w K mg base (CXe P w) 1 gi vY ["roads"] (wm T)) {f8:Addr} {xA:FuncData} (iK:Df K mg "_law_whole" cw ["number"] f8 xA) (G_law_whole:FnOk P w K mg base (CXe P w) 1 f8 xA ["number"] (wa T)) {kD:Addr} {CA:FuncData} (mX:Df K mg "always" dU ["web","wish"] kD CA) (G_always:FnOk P w K mg base (CXe P w) 60 kD CA ["web","wish"] (wk T)):FnOk P w K mg base (CXe P w) 61 f fd ["script"] (Qn T):=by
 refine D.F.okC nB (fun vs H Q E h=>?_) (fun cdv A outer s H vs Q E hr h=>?_)
 . obtain ⟨a,ns,rfl,_⟩:=h
   rfl
 . obtain ⟨a,ns,rfl,ha,hn,k⟩:=h;have hv:=hr.units;refine ⟨_,(ao (pA (aw G_law_small_web (hr.mono (by decide)) lH.g eJ.m eJ.F.kp eJ.b .nil (aY hq) (ag (pvl 0 vD) aj) (hdb:=lH.d)) (nC (n:=2) rfl (bB (aG (i:=1) nB.nd rfl (Or.inl j5.l)) (bB (aG (i:=2) nB.nd rfl (Or.inl pj.l)) jR)))) (ao (aI (i:=3) nB.nd rfl (Or.inl iL.l) (aw G_law_small_wish (hr.mono (by decide)) kR.g dM.m dM.F.kp dM.b .nil (aY hq) (ag (pvl 0 vD) (ag (pvl 1 j5) aj)) (hdb:=kR.d))) (ao (aI (i:=4) nB.nd rfl (Or.inl Bd.l) (Hj II G_Web_init (hr.mono (by decide)) zP.g T.Q2 b_Web .nil (aY hq) (ag (pvl 1 j5) (ag (jJ o9 iC.g T.list BQ (ag (pvl 2 pj) aj) (hn:=iC.n) (hdb:=iC.d)) aj)) (hdb:=zP.d))) (ao (aI (i:=5) nB.nd rfl (Or.inl pw.l) (aw G_law_tolls (hr.mono (by decide)) qz.g iJ.m iJ.F.kp iJ.b .nil (aY hq) (ag (pvl 2 pj) aj) (hdb:=qz.d))) (ao (aI (i:=6) nB.nd rfl (Or.inl nO.l) (jJ o9 iC.g T.list BQ (ag (pvl 3 iL) aj) (hn:=iC.n) (hdb:=iC.d))) (ao (aI (i:=7) nB.nd rfl (Or.inl eB.l) (aw G_always (hr.mono (by decide)) vh.g mX.m mX.F.kp mX.b .nil (aY hq) (ag (pvl 4 Bd) (ag (pvl 6 nO) aj)) (hdb:=vh.d))) (ao (ce (PW.pt (DD (m8 (mZ (aw G_law_whole (hr.mono (by decide)) qy.g iK.m iK.F.kp iK.b .nil (aY hq) (ag (pvl 7 eB) aj) (hdb:=qy.d)))) (DD (bn A5 (pvl 7 eB) au (bi _)) (DD (bn xF (pvl 7 eB) au (bi _)) (J0 (bn (P2 hv) (pvl 6 nO) (pvl 3 iL) (bi _))))))) (aq (aO xR)) bo) (ao (ce (m8 (mZ (aw G_law_all_meet (hr.mono (by decide)) fF.g cF.m cF.F.kp cF.b .nil (aY hq) (ag (pvl 5 pw) (ag (pvl 1 j5) (ag (pvl 3 iL) (ag (pvl 7 eB) aj)))) (hdb:=fF.d)))) (aq (aO xR)) bo) (ao (ce (bn jQ (dR (EL rfl) uE.g T.sum J5 (ag (pvl 3 iL) aj) (hn:=uE.n) (hdb:=uE.d)) au (bi _)) (aq (aO (sq jQ (pvl 7 eB) au (bi _)))) bo) (aq (aO (Ft (sq xF (pvl 7 eB) au (bi _)) (Eg (JM (aw G_law_all_meet (hr.mono (by decide)) fF.g cF.m cF.F.kp cF.b .nil (aY hq) (ag (pvl 5 pw) (ag (pvl 1 j5) (ag (pvl 3 iL) (ag (aF lp (pvl 7 eB) au) aj)))) (hdb:=fF.d)))))))))))))))),?_⟩;rw [show L2.start ["script","many","roads","wish","web","tolls","handed","found"] [V.ref a]=[some (V.ref a),none,none,none,none,none,none,none] from rfl];refine ji fun N1 h1=>?_;walk_at "rd";refine ⟨a,ns,rfl,ha,fun t l m ps rs H1 nt nl s1 et el ro g m3 T4=>?_⟩;have m1:=g.m1;have mp:0<m:=by omega
   refine ⟨t,rfl,_,SqT.of et,rfl,_,_,rfl,_,_,rfl,rfl,h1 _ _ (ji fun N2 h2=>?_)⟩;walk_at "rd";refine ⟨a,ns,m,rfl,Same.seq s1 ha,hn,m1,m3,fun ly ys H2 ny s2 ey yl y0 yb=>h2 _ _ (ji fun N3 h3=>?_)⟩;have s12:=s1.trans s2;have el2:=s2 _ _ el;walk_at "rd";refine ⟨_,.inl (SqL.of el2),fun lc nlc=>?_⟩;have u2:=Same.new (.lst (ps.map V.ref)) nlc;refine PV T (c:=true) (SqL.of ah) (RoadsAt.same (s2.trans u2) ro) g fun x tw H3 hx htw s3 W=>?_;have s23:=u2.trans s3;refine h3 _ _ (ji fun N4 h4=>?_);walk_at "rd";refine ⟨l,ps,m,rs,rfl,s23 _ _ el2,RoadsAt.same (s2.trans s23) ro,g,fun d H4 nd s4 ta=>h4 _ _ (ji fun N5 h5=>?_)⟩;have s24:=s23.trans s4;have W4:=W.same s4;walk_at "rd";refine ⟨_,.inl (SqL.of (s24 _ _ ey)),fun lh nlh=>h5 _ _ (ji fun N6 h6=>?_)⟩;have u5:=Same.new (.lst (ys.map V.int)) nlh;have eh:upd H4 lh (.lst (ys.map V.int)) lh=some (.lst (ys.map V.int)):=ah;have ey5:=u5 _ _ (s24 _ _ ey);have W5:=W4.same u5;have ta5:=ta.same u5;generalize upd H4 lh (.lst (ys.map V.int))=H5 at eh ey5 W5 ta5 ⊢;have y1:ys.length<=1000:=by omega
   have fy:=Kv yl y0;have nofy:∀ {P:Prop},bq m ys=false->P:=fun z=>by rw [fy] at z;cases z
   obtain ⟨par0,dep0,Rz⟩:=AZ g (Int.le_refl 0) mp;have lay:∀ (p:Int),0<=p->∀ zs,zs∈ki m.toNat p↔(zs.length:Int)=m/\(∀ z∈zs,0<=z)/\zs.sum=p:=fun p p0 zs=>by
     obtain ⟨j,hj⟩:∃ j:Nat,m.toNat=j+1:=⟨m.toNat - 1,by omega⟩;rw [hj,pF j p p0 zs]
     constructor
     . rintro ⟨a,b,c⟩;exact ⟨by omega,b,c⟩
     . rintro ⟨a,b,c⟩;exact ⟨by omega,b,c⟩
   obtain ⟨pb,pb0,pb1,hz,hg,al,no⟩:∃ pb:Int,0<=pb/\pb<=40/\(ys.sum=0->pb=0)/\(ys.sum≠0->0<pb/\∃ par dep,Rooted m rs (gL m ys) par dep/\(gld m rs (gL m ys) par dep (u8 m rs (gL m ys) par dep ys) (gL m ys) (-1)).sum+1=pb)/\(∀ zs∈ki m.toNat pb,0<=stg m rs 0 par0 dep0 ys zs 0)/\(ys.sum≠0->¬ ∀ zs∈ki m.toNat (pb - 1),0<=stg m rs 0 par0 dep0 ys zs 0):=by
     by_cases sn:ys.sum=0
     . refine ⟨0,Int.le_refl 0,by decide,fun _=>rfl,fun z=>absurd sn z,fun zs hzs=>?_,fun z=>absurd sn z⟩;obtain ⟨zl,z0,_⟩:=(lay 0 (Int.le_refl 0) zs).mp hzs;have hy:∀ u:Int,ys.getD u.toNat 0=0:=fun u=>by
         have h1:=py y0 u.toNat;by_cases c:u.toNat<ys.length
         . have:=E5 y0 (G2 c);omega
         . rw [List.getD_eq_getElem?_getD,List.getElem?_eq_none (by omega)];rfl
       show 0<=gat m rs 0 par0 dep0 (fun v=>(bw m zs ys).getD v.toNat 0) (hnd rs par0) 0;rw [E6 g Rz (Int.le_refl 0) mp];refine Bx g Rz (fun v _ _=>?_) (fun v z a b c d=>?_) _ 0 (Int.le_refl 0) mp rfl
       . show 0<=zs.getD v.toNat 0 - ys.getD v.toNat 0;rw [hy];have:=py z0 v.toNat;omega
       . exact FU g v z d
     . obtain ⟨_,_,fr,fp⟩:=Gw yl y0 sn;obtain ⟨par,dep,R⟩:=AZ g fr.1 fr.2;have w:=Nb g R fr.1 fr.2 y0 fp rfl;have w0:=vV w.2.1;have szr:szL m rs (gL m ys) par dep (gL m ys)=m.toNat:=by
         obtain ⟨t,e,O⟩:=C1 g R fr.1 fr.2;unfold szL;rw [e,List.length_cons];exact O.perm_len fr.1 fr.2
       have bd:=M8 g R (FT g R y0) fr.1 fr.2 (by rw [szr];omega) (fun v v0 v1 vr=>by
         obtain ⟨k1,e1,a1,_⟩:=sx g R v0 v1 vr;obtain ⟨k2,e2,a2,_⟩:=sg g R v0 v1 vr;have:=OA T4 e1;have:=OA T4 e2;unfold upT dnT;rw [e1,e2];exact ⟨⟨a1,by assumption⟩,a2,by assumption⟩) fp (fun v v0 v1=>by
         have h:=yb _ (G2 (cs:=ys) (i:=v.toNat) (by omega));exact ⟨h.1,fun z=>h.2 (by omega)⟩)
       refine ⟨_,by omega,bd,fun z=>absurd z sn,fun _=>⟨by omega,par,dep,R,rfl⟩,fun zs hzs=>?_,fun _ z=>?_⟩
       . obtain ⟨zl,z0,zs'⟩:=(lay _ (by omega) zs).mp hzs;exact GN g R fr.1 fr.2 Rz (Int.le_refl 0) mp zl z0 y0 (Ju g R fr.1 fr.2 zl z0 y0 fp (by omega))
       . have h:=z _ ((lay _ (by omega) _).mpr ⟨w.1,w.2.1,by omega⟩);have:=GN g Rz (Int.le_refl 0) mp R fr.1 fr.2 w.1 w.2.1 y0 h;have:=w.2.2;omega
   have ask:∀ {Q':VK},(∀ H'',Same H5 H''->Q' (.int pb) H'')->wk T [V.ref x,V.ref lh] H5 Q' E0:=fun {Q'} q=>by
     refine ⟨x,lh,tw,true,m,ps,rs,ys,rfl,W5,SqL.of eh,y1,fun _ sn=>?_,fun _ sz H'' s''=>(by rw [<- hz sz];exact q H'' s''),nofy⟩;obtain ⟨_,par,dep,R,e⟩:=hg sn;refine ⟨par,dep,R,fun H'' s''=>?_⟩;rw [e];exact q H'' s''
   walk_at "rd";refine ask fun H6 s6=>h6 _ _ (ji fun N7 h7=>?_);walk_at "rd";refine ⟨_,rfl,_,rfl,?_⟩;rw [if_neg (by decide),if_neg (by omega),if_neg (by omega)];have ey6:=s6 _ _ ey5;have ta6:=ta5.same s6;refine Lz (s6 _ _ eh) ey6 ⟨_,rfl,?_⟩;rw [if_neg (by decide)];refine h7 _ _ (ji fun N8 h8=>?_);walk_at "rd";refine ⟨d,ly,rs,ys,m,pb,rfl,ta6,g,m3,SqL.of ey6,yl,pb0,pb1,par0,dep0,Rz,fun bv H7 hb s7=>⟨_,rfl,?_⟩⟩;rw [hb.mpr al,if_neg (by decide)];have ey7:=s7 _ _ ey6;have ta7:=ta6.same s7;refine h8 _ _ (ji fun N9 h9=>?_);walk_at "rd";refine ⟨_,.inl (SqL.of ey7),?_⟩;by_cases sn:ys.sum=0
   . rw [if_pos sn];have:=hz sn;subst this;exact k _
   . rw [if_neg sn];refine h9 _ _ ?_;obtain ⟨pp,_⟩:=hg sn;walk_at "rd";rw [if_pos pp];refine ⟨d,ly,rs,ys,m,pb - 1,rfl,ta7,g,m3,SqL.of ey7,yl,by omega,by omega,par0,dep0,Rz,fun bv H8 hb8 s8=>⟨_,rfl,?_⟩⟩;have:bv=false:=by
       cases bv
       . rfl
       . exact absurd (hb8.mp rfl) (no sn)
     rw [this];exact k _
end
theorem Rt:aX CX0:=fun _ _ _ _ _ h=>h
theorem all_mk {l:PySem.W.OpenLaw} {w:World} {K:PySem.W.Frag} {h:Heap} {mg:Str->Option Value} {fa:Addr} {bH:Addr} {gd:Addr} {eu:Addr} {fB:Addr} {ee:Addr} {eE:Addr} {lf:Addr} {cW:Addr} {xc_TollError:Value} {xd_TollError:Option Addr} {xk_TollError:ClassData} {xs_TollError:Array (Option Value)} {xc_BadWeb:Value} {xd_BadWeb:Option Addr} {xk_BadWeb:ClassData} {xs_BadWeb:Array (Option Value)} {xc_NoPlace:Value} {xd_NoPlace:Option Addr} {xk_NoPlace:ClassData} {xs_NoPlace:Array (Option Value)} {qn_NoPlace qq_NoPlace:Str} {qN_NoPlace:Addr} {qb_NoPlace qm_NoPlace:List Value} {qh_NoPlace:Bool} {qs_NoPlace:List Str} {qu_NoPlace:List Value} {qa_NoPlace:Bool} {qc_NoPlace:Option Bool} {qd_NoPlace:Option Addr} {q0_NoPlace q1_NoPlace q2_NoPlace q3_NoPlace q5_NoPlace:Option Value} {xc_NoRoad:Value} {xd_NoRoad:Option Addr} {xk_NoRoad:ClassData} {xs_NoRoad:Array (Option Value)} {qn_NoRoad qq_NoRoad:Str} {qN_NoRoad:Addr} {qb_NoRoad qm_NoRoad:List Value} {qh_NoRoad:Bool} {qs_NoRoad:List Str} {qu_NoRoad:List Value} {qa_NoRoad:Bool} {qc_NoRoad:Option Bool} {qd_NoRoad:Option Addr} {q0_NoRoad q1_NoRoad q2_NoRoad q3_NoRoad q5_NoRoad:Option Value} {xc_BadWish:Value} {xd_BadWish:Option Addr} {xk_BadWish:ClassData} {xs_BadWish:Array (Option Value)} {qn_BadWish qq_BadWish:Str} {qN_BadWish:Addr} {qb_BadWish qm_BadWish:List Value} {qh_BadWish:Bool} {qs_BadWish:List Str} {qu_BadWish:List Value} {qa_BadWish:Bool} {qc_BadWish:Option Bool} {qd_BadWish:Option Addr} {q0_BadWish q1_BadWish q2_BadWish q3_BadWish q5_BadWish:Option Value} {xc_NoWorst:Value} {xd_NoWorst:Option Addr} {xk_NoWorst:ClassData} {xs_NoWorst:Array (Option Value)} {qn_NoWorst qq_NoWorst:Str} {qN_NoWorst:Addr} {qb_NoWorst qm_NoWorst:List Value} {qh_NoWorst:Bool} {qs_NoWorst:List Str} {qu_NoWorst:List Value} {qa_NoWorst:Bool} {qc_NoWorst:Option Bool} {qd_NoWorst:Option Addr} {q0_NoWorst q1_NoWorst q2_NoWorst q3_NoWorst q5_NoWorst:Option Value} {dX:Addr} {od_check_counts zK:Option Addr} {Am:Array (Option Value)} {oc_check_counts A9 AR AJ qH Ax:Value} {d7:Addr} {od_is_place Gp:Option Addr} {Gq:Array (Option Value)} {oc_is_place Gv Gh F3 yw Gr:Value} {fk:Addr} {od_check_ends Dv:Option Addr} {C9:Array (Option Value)} {oc_check_ends Dy C7 Dx vy Dk:Value} {cP:Addr} {od_other_ends Dj:Option Addr} {Dc:Array (Option Value)} {oc_other_ends Db Da C8 vt Dn:Value} {dP:Addr} {od_check_joined zN:Option Addr} {Au:Array (Option Value)} {oc_check_joined zH Bb A1 qJ AD:Value} {eN:Addr} {od_check_tolls B9:Option Addr} {Cc:Array (Option Value)} {oc_check_tolls BW Bj Bu sK Bt:Value} {f_Web___init__:Addr} {od_Web___init__ zQ:Option Addr} {An:Array (Option Value)} {oc_Web___init__ zJ AB Af rd AQ:Value} {gi:Addr} {od_law_tolls Ef:Option Addr} {DH:Array (Option Value)} {oc_law_tolls Eb EH DI v8 FC:Value} {eL:Addr} {od_law_layings Bz:Option Addr} {BR:Array (Option Value)} {oc_law_layings Cq B6 Cs sE Bo:Value} {ij:Addr} {od_law_down F4:Option Addr} {Gj:Array (Option Value)} {oc_law_down Gc Gu F7 yh F8:Value} {dv:Addr} {od_law_standings y9:Option Addr} {zh:Array (Option Value)} {oc_law_standings yR yT zf pV y6:Value} {dN:Addr} {od_law_all_meet Av:Option Addr} {Ak:Array (Option Value)} {oc_law_all_meet Ai Ao AU qM A6:Value} {c8:Addr} {od_law_drawn Fd:Option Addr} {FL:Array (Option Value)} {oc_law_drawn ED Fq EV xc FX:Value} {dj:Addr} {od_law_small_web y4:Option Addr} {yJ:Array (Option Value)} {oc_law_small_web yL zi zt qt zE:Value} {cU:Addr} {od_law_small_wish yd:Option Addr} {ye:Array (Option Value)} {oc_law_small_wish xX xY xV oh xZ:Value} {f8:Addr} {od_law_whole Fy:Option Addr} {Ew:Array (Option Value)} {oc_law_whole Fa EJ FQ xp ER:Value} {bD:Addr} {od_check_place BH:Option Addr} {BI:Array (Option Value)} {oc_check_place Co Bp Cf sT Ca:Value} {fx:Addr} {od_neighbours Dp:Option Addr} {C6:Array (Option Value)} {oc_neighbours Dh De Dd vw Di:Value} {gP:Addr} {od_kids OY:Option Addr} {O0:Array (Option Value)} {oc_kids OH Py OM GL PH:Value} {fj:Addr} {od_ahead Mm:Option Addr} {Mr:Array (Option Value)} {oc_ahead Mg NZ NJ DG Ls:Value} {dC:Addr} {od_added Mn:Option Addr} {M9:Array (Option Value)} {oc_added Np LP K4 FB NA:Value} {bx:Addr} {od_idle_kids EF:Option Addr} {DY:Array (Option Value)} {oc_idle_kids EW EK D2 wI DX:Value} {df:Addr} {od_toll Po:Option Addr} {PF:Array (Option Value)} {oc_toll Pa Pl Pn GQ Pe:Value} {dA:Addr} {od_total MK:Option Addr} {Mh:Array (Option Value)} {oc_total NY MW Ny DP Ms:Value} {g9:Addr} {od_load_by Jh:Option Addr} {HN:Array (Option Value)} {oc_load_by Hr HA Js Bc Jp:Value} {be:Addr} {od_greatest_load yV:Option Addr} {yS:Array (Option Value)} {oc_greatest_load ze yF zF qm yI:Value} {fY:Addr} {od_idle_load FH:Option Addr} {Fr:Array (Option Value)} {oc_idle_load EM FR Fv wH Fb:Value} {p6:Addr} {od_down Pz:Option Addr} {OE:Array (Option Value)} {oc_down OI Pd OO He OV:Value} {f9:Addr} {od_inward Kw:Option Addr} {Kg:Array (Option Value)} {oc_inward KD JX JS CI Kj:Value} {f7:Addr} {od_is_filled FI:Option Addr} {Fu:Array (Option Value)} {oc_is_filled D9 DQ FN vO E4:Value} {eZ:Addr} {od_wish_of IK:Option Addr} {Ix:Array (Option Value)} {oc_wish_of HJ HE IM Ah HX:Value} {mM:Addr} {od_needs NB:Option Addr} {NU:Array (Option Value)} {oc_needs Oi MZ MF Ey K7:Value} {f_Outlook___init__:Addr} {od_Outlook___init__ vL:Option Addr} {vI:Array (Option Value)} {oc_Outlook___init__ vG vJ vF l7 vK:Value} {jk:Addr} {od_failing Iv:Option Addr} {Jn:Array (Option Value)} {oc_failing Ii HG Ip zM Ib:Value} {fe:Addr} {od_is_idle Jq:Option Addr} {Ik:Array (Option Value)} {oc_is_idle Ji Hk HR zI Hm:Value} {ml:Addr} {od_fails L8:Option Addr} {NK:Array (Option Value)} {oc_fails NV MS Lv DW K5:Value} {kD:Addr} {od_always J9:Option Addr} {KN:Array (Option Value)} {oc_always Ks J7 JB CP KB:Value} {HW:Addr} {od_law Km:Option Addr} {QI:Array (Option Value)} {oc_law Jz KA Ki FO KR:Value} {t_MOST_PLACES:Tok} {t_LEAST_TOLL:Tok} {t_MOST_TOLL:Tok} (X:K.In h) (G:h.Ns mainGlobals mg) (hfa:mg "law"=some (.ref fa))
   (p8:PySem.W.nsIn K mainGlobals "TollError"=some (some (.ref bH)))
   (wC:PySem.W.nsIn K mainGlobals "BadWeb"=some (some (.ref gd)))
   (uc:PySem.W.nsIn K mainGlobals "NoPlace"=some (some (.ref eu)))
   (wo:PySem.W.nsIn K mainGlobals "NoRoad"=some (some (.ref fB)))
   (tZ:PySem.W.nsIn K mainGlobals "BadWish"=some (some (.ref ee)))
   (tJ:PySem.W.nsIn K mainGlobals "NoWorst"=some (some (.ref eE)))
   (FK:PySem.W.nsIn K mainGlobals "Web"=some (some (.ref lf)))
   (uB:PySem.W.nsIn K mainGlobals "Outlook"=some (some (.ref cW)))
   (pT:K.lookup bH=some ⟨xc_TollError,xd_TollError,.cls xk_TollError,xs_TollError⟩)
   (pN:xk_TollError.mro=.ref bH::bmV)
   (pI:PySem.W.typeIn K (.ref bH)=some (.type "type"))
   (qd:PySem.W.findIn K (.ref bH) "__getattribute__"=some (some (.builtin "BaseException.__getattribute__")))
   (pD:PySem.W.findIn K (.ref bH) "__getattr__"=some none)
   (oY:PySem.W.findIn K (.ref bH) "__class__"=some (some (.builtin "object.__class__")))
   (pd:PySem.W.hasDictIn K bH=true)
   (ww:K.lookup gd=some ⟨xc_BadWeb,xd_BadWeb,.cls xk_BadWeb,xs_BadWeb⟩)
   (we:xk_BadWeb.mro=.ref gd::.ref bH::bmV)
   (wS:PySem.W.typeIn K (.ref gd)=some (.type "type"))
   (wv:PySem.W.findIn K (.ref gd) "__getattribute__"=some (some (.builtin "BaseException.__getattribute__")))
   (wO:PySem.W.findIn K (.ref gd) "__getattr__"=some none)
   (wF:PySem.W.findIn K (.ref gd) "__class__"=some (some (.builtin "object.__class__")))
   (vN:PySem.W.hasDictIn K gd=true)
   (oE:K.lookup eu=some ⟨xc_NoPlace,xd_NoPlace,.cls xk_NoPlace,xs_NoPlace⟩)
   (tW:xk_NoPlace.mro=.ref eu::.ref bH::bmV)
   (uw:PySem.W.typeIn K (.ref eu)=some (.type "type"))
   (tT:PySem.W.findIn K (.ref eu) "__getattribute__"=some (some (.builtin "BaseException.__getattribute__")))
   (uS:PySem.W.findIn K (.ref eu) "__getattr__"=some none)
   (uZ:PySem.W.findIn K (.ref eu) "__class__"=some (some (.builtin "object.__class__")))
   (tP:PySem.W.hasDictIn K eu=true)
   (uP:(⟨xc_NoPlace,xd_NoPlace,.cls xk_NoPlace,xs_NoPlace⟩:Obj)=excClassObj qn_NoPlace qq_NoPlace eu qN_NoPlace qb_NoPlace qm_NoPlace qh_NoPlace qs_NoPlace qu_NoPlace qa_NoPlace qc_NoPlace qd_NoPlace q0_NoPlace q1_NoPlace q2_NoPlace q3_NoPlace q5_NoPlace "ValueError.__new__")
   (tp:PySem.W.nsOkIn K qN_NoPlace=true)
   (uG:PySem.W.nsIn K qN_NoPlace "__init__"=some none)
   (tD:PySem.W.tailIn K bmV qm_NoPlace=true)
   (qT:K.lookup fB=some ⟨xc_NoRoad,xd_NoRoad,.cls xk_NoRoad,xs_NoRoad⟩)
   (wt:xk_NoRoad.mro=.ref fB::.ref bH::bmV)
   (xb:PySem.W.typeIn K (.ref fB)=some (.type "type"))
   (wf:PySem.W.findIn K (.ref fB) "__getattribute__"=some (some (.builtin "BaseException.__getattribute__")))
   (wY:PySem.W.findIn K (.ref fB) "__getattr__"=some none)
   (wN:PySem.W.findIn K (.ref fB) "__class__"=some (some (.builtin "object.__class__")))
   (wq:PySem.W.hasDictIn K fB=true)
   (xh:(⟨xc_NoRoad,xd_NoRoad,.cls xk_NoRoad,xs_NoRoad⟩:Obj)=excClassObj qn_NoRoad qq_NoRoad fB qN_NoRoad qb_NoRoad qm_NoRoad qh_NoRoad qs_NoRoad qu_NoRoad qa_NoRoad qc_NoRoad qd_NoRoad q0_NoRoad q1_NoRoad q2_NoRoad q3_NoRoad q5_NoRoad "ValueError.__new__")
   (wZ:PySem.W.nsOkIn K qN_NoRoad=true)
   (xx:PySem.W.nsIn K qN_NoRoad "__init__"=some none)
   (wJ:PySem.W.tailIn K bmV qm_NoRoad=true)
   (oI:K.lookup ee=some ⟨xc_BadWish,xd_BadWish,.cls xk_BadWish,xs_BadWish⟩)
   (u7:xk_BadWish.mro=.ref ee::.ref bH::bmV)
   (tY:PySem.W.typeIn K (.ref ee)=some (.type "type"))
   (tL:PySem.W.findIn K (.ref ee) "__getattribute__"=some (some (.builtin "BaseException.__getattribute__")))
   (tN:PySem.W.findIn K (.ref ee) "__getattr__"=some none)
   (uu:PySem.W.findIn K (.ref ee) "__class__"=some (some (.builtin "object.__class__")))
   (uI:PySem.W.hasDictIn K ee=true)
   (uv:(⟨xc_BadWish,xd_BadWish,.cls xk_BadWish,xs_BadWish⟩:Obj)=excClassObj qn_BadWish qq_BadWish ee qN_BadWish qb_BadWish qm_BadWish qh_BadWish qs_BadWish qu_BadWish qa_BadWish qc_BadWish qd_BadWish q0_BadWish q1_BadWish q2_BadWish q3_BadWish q5_BadWish "ValueError.__new__")
   (tR:PySem.W.nsOkIn K qN_BadWish=true)
   (uq:PySem.W.nsIn K qN_BadWish "__init__"=some none)
   (uk:PySem.W.tailIn K bmV qm_BadWish=true)
   (oF:K.lookup eE=some ⟨xc_NoWorst,xd_NoWorst,.cls xk_NoWorst,xs_NoWorst⟩)
   (uR:xk_NoWorst.mro=.ref eE::.ref bH::bmV)
   (uK:PySem.W.typeIn K (.ref eE)=some (.type "type"))
   (uO:PySem.W.findIn K (.ref eE) "__getattribute__"=some (some (.builtin "BaseException.__getattribute__")))
   (tU:PySem.W.findIn K (.ref eE) "__getattr__"=some none)
   (t7:PySem.W.findIn K (.ref eE) "__class__"=some (some (.builtin "object.__class__")))
   (uJ:PySem.W.hasDictIn K eE=true)
   (uj:(⟨xc_NoWorst,xd_NoWorst,.cls xk_NoWorst,xs_NoWorst⟩:Obj)=excClassObj qn_NoWorst qq_NoWorst eE qN_NoWorst qb_NoWorst qm_NoWorst qh_NoWorst qs_NoWorst qu_NoWorst qa_NoWorst qc_NoWorst qd_NoWorst q0_NoWorst q1_NoWorst q2_NoWorst q3_NoWorst q5_NoWorst "ValueError.__new__")
   (uW:PySem.W.nsOkIn K qN_NoWorst=true)
   (tQ:PySem.W.nsIn K qN_NoWorst "__init__"=some none)
   (uH:PySem.W.tailIn K bmV qm_NoWorst=true)
   (xgs:PySem.W.specialIn K (.builtin "object.__class__") "__get__"=some (some (.builtin "getset_descriptor.__get__")))
   (xtk:PySem.W.takesIn K (.builtin "object.__class__")=some true)
   (xnd:[bH,gd,eu,fB,ee,eE].Nodup)
   (mK:PySem.W.nsIn K mainGlobals "check_counts"=some (some (.ref dX)))
   (mP:K.lookup dX=some ⟨oc_check_counts,od_check_counts,.func (PySem.W.fnOf "check_counts" "check_counts" (aD bj) (az bj) (aa bj) .none A9 AR AJ zK qH Ax),Am⟩)
   (mt:PySem.W.codeIn K qH "check_counts"=true)
   (mS:PySem.W.keepIn K (.ref dX)=true)
   (ue:PySem.W.nsIn K mainGlobals "is_place"=some (some (.ref d7)))
   (uo:K.lookup d7=some ⟨oc_is_place,od_is_place,.func (PySem.W.fnOf "is_place" "is_place" (aD dg) (az dg) (aa dg) .none Gv Gh F3 Gp yw Gr),Gq⟩)
   (uh:PySem.W.codeIn K yw "is_place"=true)
   (u9:PySem.W.keepIn K (.ref d7)=true)
   (qA:PySem.W.nsIn K mainGlobals "check_ends"=some (some (.ref fk)))
   (oX:K.lookup fk=some ⟨oc_check_ends,od_check_ends,.func (PySem.W.fnOf "check_ends" "check_ends" (aD bZ) (az bZ) (aa bZ) .none Dy C7 Dx Dv vy Dk),C9⟩)
   (qh:PySem.W.codeIn K vy "check_ends"=true)
   (qj:PySem.W.keepIn K (.ref fk)=true)
   (pi:PySem.W.nsIn K mainGlobals "other_ends"=some (some (.ref cP)))
   (pQ:K.lookup cP=some ⟨oc_other_ends,od_other_ends,.func (PySem.W.fnOf "other_ends" "other_ends" (aD bP) (az bP) (aa bP) .none Db Da C8 Dj vt Dn),Dc⟩)
   (pS:PySem.W.codeIn K vt "other_ends"=true)
   (pB:PySem.W.keepIn K (.ref cP)=true)
   (mI:PySem.W.nsIn K mainGlobals "check_joined"=some (some (.ref dP)))
   (mi:K.lookup dP=some ⟨oc_check_joined,od_check_joined,.func (PySem.W.fnOf "check_joined" "check_joined" (aD aM) (az aM) (aa aM) .none zH Bb A1 zN qJ AD),Au⟩)
   (mG:PySem.W.codeIn K qJ "check_joined"=true)
   (mC:PySem.W.keepIn K (.ref dP)=true)
   (nL:PySem.W.nsIn K mainGlobals "check_tolls"=some (some (.ref eN)))
   (nJ:K.lookup eN=some ⟨oc_check_tolls,od_check_tolls,.func (PySem.W.fnOf "check_tolls" "check_tolls" (aD bE) (az bE) (aa bE) .none BW Bj Bu B9 sK Bt),Cc⟩)
   (nP:PySem.W.codeIn K sK "check_tolls"=true)
   (nW:PySem.W.keepIn K (.ref eN)=true)
   (mw:PySem.W.findIn K (.ref lf) "__init__"=some (some (.ref f_Web___init__)))
   (mL:PySem.W.isFn K (.ref f_Web___init__)=true)
   (mz:K.lookup f_Web___init__=some ⟨oc_Web___init__,od_Web___init__,.func (PySem.W.fnOf "__init__" "Web.__init__" (aD aL) (az aL) (aa aL) .none zJ AB Af zQ rd AQ),An⟩)
   (mm:PySem.W.codeIn K rd "Web.__init__"=true)
   (mD:PySem.W.keepIn K (.ref f_Web___init__)=true)
   (rA:PySem.W.nsIn K mainGlobals "_law_tolls"=some (some (.ref gi)))
   (rn:K.lookup gi=some ⟨oc_law_tolls,od_law_tolls,.func (PySem.W.fnOf "_law_tolls" "_law_tolls" (aD bS) (az bS) (aa bS) .none Eb EH DI Ef v8 FC),DH⟩)
   (rE:PySem.W.codeIn K v8 "_law_tolls"=true)
   (rC:PySem.W.keepIn K (.ref gi)=true)
   (nY:PySem.W.nsIn K mainGlobals "_law_layings"=some (some (.ref eL)))
   (nU:K.lookup eL=some ⟨oc_law_layings,od_law_layings,.func (PySem.W.fnOf "_law_layings" "_law_layings" (aD aW) (az aW) (aa aW) .none Cq B6 Cs Bz sE Bo),BR⟩)
   (nI:PySem.W.codeIn K sE "_law_layings"=true)
   (n5:PySem.W.keepIn K (.ref eL)=true)
   (tF:PySem.W.nsIn K mainGlobals "_law_down"=some (some (.ref ij)))
   (ud:K.lookup ij=some ⟨oc_law_down,od_law_down,.func (PySem.W.fnOf "_law_down" "_law_down" (aD bu) (az bu) (aa bu) .none Gc Gu F7 F4 yh F8),Gj⟩)
   (va:PySem.W.codeIn K yh "_law_down"=true)
   (uy:PySem.W.keepIn K (.ref ij)=true)
   (lC:PySem.W.nsIn K mainGlobals "_law_standings"=some (some (.ref dv)))
   (lP:K.lookup dv=some ⟨oc_law_standings,od_law_standings,.func (PySem.W.fnOf "_law_standings" "_law_standings" (aD aA) (az aA) (aa aA) .none yR yT zf y9 pV y6),zh⟩)
   (lK:PySem.W.codeIn K pV "_law_standings"=true)
   (kZ:PySem.W.keepIn K (.ref dv)=true)
   (mR:PySem.W.nsIn K mainGlobals "_law_all_meet"=some (some (.ref dN)))
   (mU:K.lookup dN=some ⟨oc_law_all_meet,od_law_all_meet,.func (PySem.W.fnOf "_law_all_meet" "_law_all_meet" (aD aV) (az aV) (aa aV) .none Ai Ao AU Av qM A6),Ak⟩)
   (ms:PySem.W.codeIn K qM "_law_all_meet"=true)
   (mQ:PySem.W.keepIn K (.ref dN)=true)
   (rp:PySem.W.nsIn K mainGlobals "_law_drawn"=some (some (.ref c8)))
   (rP:K.lookup c8=some ⟨oc_law_drawn,od_law_drawn,.func (PySem.W.fnOf "_law_drawn" "_law_drawn" (aD bI) (az bI) (aa bI) .none ED Fq EV Fd xc FX),FL⟩)
   (rL:PySem.W.codeIn K xc "_law_drawn"=true)
   (rH:PySem.W.keepIn K (.ref c8)=true)
   (lU:PySem.W.nsIn K mainGlobals "_law_small_web"=some (some (.ref dj)))
   (lL:K.lookup dj=some ⟨oc_law_small_web,od_law_small_web,.func (PySem.W.fnOf "_law_small_web" "_law_small_web" (aD aH) (az aH) (aa aH) .none yL zi zt y4 qt zE),yJ⟩)
   (lS:PySem.W.codeIn K qt "_law_small_web"=true)
   (lR:PySem.W.keepIn K (.ref dj)=true)
   (kI:PySem.W.nsIn K mainGlobals "_law_small_wish"=some (some (.ref cU)))
   (kH:K.lookup cU=some ⟨oc_law_small_wish,od_law_small_wish,.func (PySem.W.fnOf "_law_small_wish" "_law_small_wish" (aD aJ) (az aJ) (aa aJ) .none xX xY xV yd oh xZ),ye⟩)
   (kK:PySem.W.codeIn K oh "_law_small_wish"=true)
   (kF:PySem.W.keepIn K (.ref cU)=true)
   (rT:PySem.W.nsIn K mainGlobals "_law_whole"=some (some (.ref f8)))
   (rK:K.lookup f8=some ⟨oc_law_whole,od_law_whole,.func (PySem.W.fnOf "_law_whole" "_law_whole" (aD cw) (az cw) (aa cw) .none Fa EJ FQ Fy xp ER),Ew⟩)
   (rV:PySem.W.codeIn K xp "_law_whole"=true)
   (rO:PySem.W.keepIn K (.ref f8)=true)
   (nR:PySem.W.nsIn K mainGlobals "check_place"=some (some (.ref bD)))
   (nS:K.lookup bD=some ⟨oc_check_place,od_check_place,.func (PySem.W.fnOf "check_place" "check_place" (aD bp) (az bp) (aa bp) .none Co Bp Cf BH sT Ca),BI⟩)
   (nK:PySem.W.codeIn K sT "check_place"=true)
   (nV:PySem.W.keepIn K (.ref bD)=true)
   (pW:PySem.W.nsIn K mainGlobals "neighbours"=some (some (.ref fx)))
   (p9:K.lookup fx=some ⟨oc_neighbours,od_neighbours,.func (PySem.W.fnOf "neighbours" "neighbours" (aD bN) (az bN) (aa bN) .none Dh De Dd Dp vw Di),C6⟩)
   (pC:PySem.W.codeIn K vw "neighbours"=true)
   (qw:PySem.W.keepIn K (.ref fx)=true)
   (Ff:PySem.W.nsIn K mainGlobals "kids"=some (some (.ref gP)))
   (E7:K.lookup gP=some ⟨oc_kids,od_kids,.func (PySem.W.fnOf "kids" "kids" (aD fA) (az fA) (aa fA) .none OH Py OM OY GL PH),O0⟩)
   (DU:PySem.W.codeIn K GL "kids"=true)
   (Ep:PySem.W.keepIn K (.ref gP)=true)
   (BN:PySem.W.nsIn K mainGlobals "ahead"=some (some (.ref fj)))
   (BO:K.lookup fj=some ⟨oc_ahead,od_ahead,.func (PySem.W.fnOf "ahead" "ahead" (aD cG) (az cG) (aa cG) .none Mg NZ NJ Mm DG Ls),Mr⟩)
   (Bg:PySem.W.codeIn K DG "ahead"=true)
   (B7:PySem.W.keepIn K (.ref fj)=true)
   (Cd:PySem.W.nsIn K mainGlobals "added"=some (some (.ref dC)))
   (Bk:K.lookup dC=some ⟨oc_added,od_added,.func (PySem.W.fnOf "added" "added" (aD eG) (az eG) (aa eG) .none Np LP K4 Mn FB NA),M9⟩)
   (BJ:PySem.W.codeIn K FB "added"=true)
   (BT:PySem.W.keepIn K (.ref dC)=true)
   (rZ:PySem.W.nsIn K mainGlobals "idle_kids"=some (some (.ref bx)))
   (rS:K.lookup bx=some ⟨oc_idle_kids,od_idle_kids,.func (PySem.W.fnOf "idle_kids" "idle_kids" (aD bh) (az bh) (aa bh) .none EW EK D2 EF wI DX),DY⟩)
   (rm:PySem.W.codeIn K wI "idle_kids"=true)
   (rB:PySem.W.keepIn K (.ref bx)=true)
   (ES:PySem.W.nsIn K mainGlobals "toll"=some (some (.ref df)))
   (Ee:K.lookup df=some ⟨oc_toll,od_toll,.func (PySem.W.fnOf "toll" "toll" (aD cR) (az cR) (aa cR) .none Pa Pl Pn Po GQ Pe),PF⟩)
   (Es:PySem.W.codeIn K GQ "toll"=true)
   (Ex:PySem.W.keepIn K (.ref df)=true)
   (Cp:PySem.W.nsIn K mainGlobals "total"=some (some (.ref dA)))
   (Bl:K.lookup dA=some ⟨oc_total,od_total,.func (PySem.W.fnOf "total" "total" (aD fh) (az fh) (aa fh) .none NY MW Ny MK DP Ms),Mh⟩)
   (Bh:PySem.W.codeIn K DP "total"=true)
   (Bn:PySem.W.keepIn K (.ref dA)=true)
   (xB:PySem.W.nsIn K mainGlobals "load_by"=some (some (.ref g9)))
   (wT:K.lookup g9=some ⟨oc_load_by,od_load_by,.func (PySem.W.fnOf "load_by" "load_by" (aD bF) (az bF) (aa bF) .none Hr HA Js Jh Bc Jp),HN⟩)
   (wj:PySem.W.codeIn K Bc "load_by"=true)
   (xq:PySem.W.keepIn K (.ref g9)=true)
   (lG:PySem.W.nsIn K mainGlobals "greatest_load"=some (some (.ref be)))
   (lB:K.lookup be=some ⟨oc_greatest_load,od_greatest_load,.func (PySem.W.fnOf "greatest_load" "greatest_load" (aD ay) (az ay) (aa ay) .none ze yF zF yV qm yI),yS⟩)
   (lr:PySem.W.codeIn K qm "greatest_load"=true)
   (lO:PySem.W.keepIn K (.ref be)=true)
   (rY:PySem.W.nsIn K mainGlobals "idle_load"=some (some (.ref fY)))
   (rR:K.lookup fY=some ⟨oc_idle_load,od_idle_load,.func (PySem.W.fnOf "idle_load" "idle_load" (aD bQ) (az bQ) (aa bQ) .none EM FR Fv FH wH Fb),Fr⟩)
   (rj:PySem.W.codeIn K wH "idle_load"=true)
   (rM:PySem.W.keepIn K (.ref fY)=true)
   (FD:PySem.W.nsIn K mainGlobals "down"=some (some (.ref p6)))
   (Ek:K.lookup p6=some ⟨oc_down,od_down,.func (PySem.W.fnOf "down" "down" (aD dJ) (az dJ) (aa dJ) .none OI Pd OO Pz He OV),OE⟩)
   (DN:PySem.W.codeIn K He "down"=true)
   (Fs:PySem.W.keepIn K (.ref p6)=true)
   (yG:PySem.W.nsIn K mainGlobals "inward"=some (some (.ref f9)))
   (zv:K.lookup f9=some ⟨oc_inward,od_inward,.func (PySem.W.fnOf "inward" "inward" (aD cJ) (az cJ) (aa cJ) .none KD JX JS Kw CI Kj),Kg⟩)
   (yU:PySem.W.codeIn K CI "inward"=true)
   (yD:PySem.W.keepIn K (.ref f9)=true)
   (rX:PySem.W.nsIn K mainGlobals "is_filled"=some (some (.ref f7)))
   (rQ:K.lookup f7=some ⟨oc_is_filled,od_is_filled,.func (PySem.W.fnOf "is_filled" "is_filled" (aD cD) (az cD) (aa cD) .none D9 DQ FN FI vO E4),Fu⟩)
   (rg:PySem.W.codeIn K vO "is_filled"=true)
   (rN:PySem.W.keepIn K (.ref f7)=true)
   (wV:PySem.W.nsIn K mainGlobals "wish_of"=some (some (.ref eZ)))
   (wd:K.lookup eZ=some ⟨oc_wish_of,od_wish_of,.func (PySem.W.fnOf "wish_of" "wish_of" (aD cM) (az cM) (aa cM) .none HJ HE IM IK Ah HX),Ix⟩)
   (vQ:PySem.W.codeIn K Ah "wish_of"=true)
   (wu:PySem.W.keepIn K (.ref eZ)=true)
   (BA:PySem.W.nsIn K mainGlobals "needs"=some (some (.ref mM)))
   (BX:K.lookup mM=some ⟨oc_needs,od_needs,.func (PySem.W.fnOf "needs" "needs" (aD cN) (az cN) (aa cN) .none Oi MZ MF NB Ey K7),NU⟩)
   (Ct:PySem.W.codeIn K Ey "needs"=true)
   (BC:PySem.W.keepIn K (.ref mM)=true)
   (jD:PySem.W.findIn K (.ref cW) "__init__"=some (some (.ref f_Outlook___init__)))
   (jo:PySem.W.isFn K (.ref f_Outlook___init__)=true)
   (jB:K.lookup f_Outlook___init__=some ⟨oc_Outlook___init__,od_Outlook___init__,.func (PySem.W.fnOf "__init__" "Outlook.__init__" (aD ax) (az ax) (aa ax) .none vG vJ vF vL l7 vK),vI⟩)
   (jm:PySem.W.codeIn K l7 "Outlook.__init__"=true)
   (jH:PySem.W.keepIn K (.ref f_Outlook___init__)=true)
   (xa:PySem.W.nsIn K mainGlobals "failing"=some (some (.ref jk)))
   (wg:K.lookup jk=some ⟨oc_failing,od_failing,.func (PySem.W.fnOf "failing" "failing" (aD cK) (az cK) (aa cK) .none Ii HG Ip Iv zM Ib),Jn⟩)
   (wK:PySem.W.codeIn K zM "failing"=true)
   (xt:PySem.W.keepIn K (.ref jk)=true)
   (wD:PySem.W.nsIn K mainGlobals "is_idle"=some (some (.ref fe)))
   (wE:K.lookup fe=some ⟨oc_is_idle,od_is_idle,.func (PySem.W.fnOf "is_idle" "is_idle" (aD cZ) (az cZ) (aa cZ) .none Ji Hk HR Jq zI Hm),Ik⟩)
   (wA:PySem.W.codeIn K zI "is_idle"=true)
   (wn:PySem.W.keepIn K (.ref fe)=true)
   (Ce:PySem.W.nsIn K mainGlobals "fails"=some (some (.ref ml)))
   (B3:K.lookup ml=some ⟨oc_fails,od_fails,.func (PySem.W.fnOf "fails" "fails" (aD dD) (az dD) (aa dD) .none NV MS Lv L8 DW K5),NK⟩)
   (BS:PySem.W.codeIn K DW "fails"=true)
   (Bw:PySem.W.keepIn K (.ref ml)=true)
   (zc:PySem.W.nsIn K mainGlobals "always"=some (some (.ref kD)))
   (zy:K.lookup kD=some ⟨oc_always,od_always,.func (PySem.W.fnOf "always" "always" (aD dU) (az dU) (aa dU) .none Ks J7 JB J9 CP KB),KN⟩)
   (yY:PySem.W.codeIn K CP "always"=true)
   (yP:PySem.W.keepIn K (.ref kD)=true)
   (DB:PySem.W.nsIn K mainGlobals "law"=some (some (.ref HW)))
   (IZ:K.lookup HW=some ⟨oc_law,od_law,.func (PySem.W.fnOf "law" "law" (aD cH) (az cH) (aa cH) .none Jz KA Ki Km FO KR),QI⟩)
   (IG:PySem.W.codeIn K FO "law"=true)
   (IB:PySem.W.keepIn K (.ref HW)=true)
   (D7:PySem.W.plainGet K lf Str.empty=true)
   (EB:PySem.W.hasDictIn K lf=true)
   (Fe:PySem.W.plainOver K lf=true)
   (Fp:PySem.W.findIn K (.ref lf) "__setattr__"=some (some (.builtin "object.__setattr__")))
   (E8:PySem.W.makesIn K lf=true)
   (EE:PySem.W.keepIn K (.ref lf)=true)
   (n_many_Web:PySem.W.findIn K (.ref lf) "many"=some none)
   (n_roads_Web:PySem.W.findIn K (.ref lf) "roads"=some none)
   (uU:PySem.W.plainGet K cW Str.empty=true)
   (tK:PySem.W.hasDictIn K cW=true)
   (tM:PySem.W.plainOver K cW=true)
   (uY:PySem.W.findIn K (.ref cW) "__setattr__"=some (some (.builtin "object.__setattr__")))
   (tE:PySem.W.makesIn K cW=true)
   (uV:PySem.W.keepIn K (.ref cW)=true)
   (n_web_Outlook:PySem.W.findIn K (.ref cW) "web"=some none)
   (n_needs_Outlook:PySem.W.findIn K (.ref cW) "needs"=some none)
   (n_kids_Outlook:PySem.W.findIn K (.ref cW) "kids"=some none)
   (n_idle_Outlook:PySem.W.findIn K (.ref cW) "idle"=some none)
   (z_range:PySem.W.nsIn K mainGlobals "range"=some none)
   (z_zip:PySem.W.nsIn K mainGlobals "zip"=some none)
   (z_len:PySem.W.nsIn K mainGlobals "len"=some none)
   (z_isinstance:PySem.W.nsIn K mainGlobals "isinstance"=some none)
   (z_all:PySem.W.nsIn K mainGlobals "all"=some none)
   (z_int:PySem.W.nsIn K mainGlobals "int"=some none)
   (z_bool:PySem.W.nsIn K mainGlobals "bool"=some none)
   (z_tuple:PySem.W.nsIn K mainGlobals "tuple"=some none)
   (z_list:PySem.W.nsIn K mainGlobals "list"=some none)
   (z_reversed:PySem.W.nsIn K mainGlobals "reversed"=some none)
   (z_sorted:PySem.W.nsIn K mainGlobals "sorted"=some none)
   (z_min:PySem.W.nsIn K mainGlobals "min"=some none)
   (z_enumerate:PySem.W.nsIn K mainGlobals "enumerate"=some none)
   (z_sum:PySem.W.nsIn K mainGlobals "sum"=some none)
   (v_MOST_PLACES:PySem.W.nsIn K mainGlobals "MOST_PLACES"=some (some (.int 24 t_MOST_PLACES)))
   (v_LEAST_TOLL:PySem.W.nsIn K mainGlobals "LEAST_TOLL"=some (some (.int 2 t_LEAST_TOLL)))
   (v_MOST_TOLL:PySem.W.nsIn K mainGlobals "MOST_TOLL"=some (some (.int 1000000 t_MOST_TOLL))) :
   ∃ fd:FuncData,(∀ (s:Shared) (v:Value),BindsTo s fd ⟨[v],[]⟩ [("script",v)])/\∀ base:Heap,K.In base->base.Ns mainGlobals mg->FnOk l.prog w K mg base (CXe l.prog w) 61 fa fd ["script"] (DE K):=by
 have e:=hfa.symm.trans (PySem.W.mg_of X G DB);cases e
 let T:Txt K mg:=⟨bH,PySem.W.mg_of X G p8,gd,PySem.W.mg_of X G wC,eu,PySem.W.mg_of X G uc,fB,PySem.W.mg_of X G wo,ee,PySem.W.mg_of X G tZ,eE,PySem.W.mg_of X G tJ,lf,PySem.W.mg_of X G FK,cW,PySem.W.mg_of X G uB,OW pI qd pD oY xgs xtk pd pT pN,sQ wS wv wO wF xgs xtk vN ww we,sQ uw tT uS uZ xgs xtk tP oE tW,xQ _ _ _ _ _ _ _ _ _ _ _ _ _ _ _ _ oE uP tp uG tD,sQ xb wf wY wN xgs xtk wq qT wt,xQ _ _ _ _ _ _ _ _ _ _ _ _ _ _ _ _ qT xh wZ xx wJ,sQ tY tL tN uu xgs xtk uI oI u7,xQ _ _ _ _ _ _ _ _ _ _ _ _ _ _ _ _ oI uv tR uq uk,sQ uK uO tU t7 xgs xtk uJ oF uR,xQ _ _ _ _ _ _ _ _ _ _ _ _ _ _ _ _ oF uj uW tQ uH,xnd,PySem.W.mg_none_of X G z_range,PySem.W.mg_none_of X G z_zip,PySem.W.mg_none_of X G z_len,PySem.W.mg_none_of X G z_isinstance,PySem.W.mg_none_of X G z_all,PySem.W.mg_none_of X G z_int,PySem.W.mg_none_of X G z_bool,PySem.W.mg_none_of X G z_tuple,PySem.W.mg_none_of X G z_list,PySem.W.mg_none_of X G z_reversed,PySem.W.mg_none_of X G z_sorted,PySem.W.mg_none_of X G z_min,PySem.W.mg_none_of X G z_enumerate,PySem.W.mg_none_of X G z_sum,⟨_,PySem.W.mg_of X G v_MOST_PLACES⟩,⟨_,PySem.W.mg_of X G v_LEAST_TOLL⟩,⟨_,PySem.W.mg_of X G v_MOST_TOLL⟩,⟨D7,EB,Fe,Fp⟩,n_many_Web,n_roads_Web,⟨uU,tK,tM,uY⟩,n_web_Outlook,n_needs_Outlook,n_kids_Outlook,n_idle_Outlook⟩
 have F_check_counts:=aQ (st:=bj) mP mt mS;have b_check_counts:=F_check_counts.binds (ps:=["many","roads"]) fun _ _ _ _ _ _ us hl=>by obtain ⟨u0,u1,rfl⟩:=us2 hl;rfl
 have ff:Df K mg "check_counts" bj ["many","roads"] dX _:=⟨F_check_counts,PySem.W.mg_of X G mK,b_check_counts⟩;have F_is_place:=aQ (st:=dg) uo uh u9;have b_is_place:=F_is_place.binds (ps:=["many","number"]) fun _ _ _ _ _ _ us hl=>by obtain ⟨u0,u1,rfl⟩:=us2 hl;rfl
 have b8:Df K mg "is_place" dg ["many","number"] d7 _:=⟨F_is_place,PySem.W.mg_of X G ue,b_is_place⟩;have F_check_ends:=aQ (st:=bZ) oX qh qj;have b_check_ends:=F_check_ends.binds (ps:=["many","road"]) fun _ _ _ _ _ _ us hl=>by obtain ⟨u0,u1,rfl⟩:=us2 hl;rfl
 have gF:Df K mg "check_ends" bZ ["many","road"] fk _:=⟨F_check_ends,PySem.W.mg_of X G qA,b_check_ends⟩;have F_other_ends:=aQ (st:=bP) pQ pS pB;have b_other_ends:=F_other_ends.binds (ps:=["roads","place"]) fun _ _ _ _ _ _ us hl=>by obtain ⟨u0,u1,rfl⟩:=us2 hl;rfl
 have cu:Df K mg "other_ends" bP ["roads","place"] cP _:=⟨F_other_ends,PySem.W.mg_of X G pi,b_other_ends⟩;have F_check_joined:=aQ (st:=aM) mi mG mC;have b_check_joined:=F_check_joined.binds (ps:=["many","roads"]) fun _ _ _ _ _ _ us hl=>by obtain ⟨u0,u1,rfl⟩:=us2 hl;rfl
 have fg:Df K mg "check_joined" aM ["many","roads"] dP _:=⟨F_check_joined,PySem.W.mg_of X G mI,b_check_joined⟩;have F_check_tolls:=aQ (st:=bE) nJ nP nW;have b_check_tolls:=F_check_tolls.binds (ps:=["road"]) fun _ _ _ _ _ _ us hl=>by obtain ⟨u0,rfl⟩:=us1 hl;rfl
 have fL:Df K mg "check_tolls" bE ["road"] eN _:=⟨F_check_tolls,PySem.W.mg_of X G nL,b_check_tolls⟩;have F_Web___init__:=aQ (st:=aL) mz mm mD;have b_Web:=F_Web___init__.binds (ps:=["self","many","roads"]) fun _ _ _ _ _ _ us hl=>by obtain ⟨u0,u1,u2,rfl⟩:=us3 hl;rfl
 have F_law_tolls:=aQ (st:=bS) rn rE rC;have b_law_tolls:=F_law_tolls.binds (ps:=["roads"]) fun _ _ _ _ _ _ us hl=>by obtain ⟨u0,rfl⟩:=us1 hl;rfl
 have iJ:Df K mg "_law_tolls" bS ["roads"] gi _:=⟨F_law_tolls,PySem.W.mg_of X G rA,b_law_tolls⟩;have F_law_layings:=aQ (st:=aW) nU nI n5;have b_law_layings:=F_law_layings.binds (ps:=["many","pebbles"]) fun _ _ _ _ _ _ us hl=>by obtain ⟨u0,u1,rfl⟩:=us2 hl;rfl
 have D_law_layings:Df K mg "_law_layings" aW ["many","pebbles"] eL _:=⟨F_law_layings,PySem.W.mg_of X G nY,b_law_layings⟩;have F_law_down:=aQ (st:=bu) ud va uy;have b_law_down:=F_law_down.binds (ps:=["tolls","many","r"]) fun _ _ _ _ _ _ us hl=>by obtain ⟨u0,u1,u2,rfl⟩:=us3 hl;rfl
 have jN:Df K mg "_law_down" bu ["tolls","many","r"] ij _:=⟨F_law_down,PySem.W.mg_of X G tF,b_law_down⟩;have F_law_standings:=aQ (st:=aA) lP lK kZ;have b_law_standings:=F_law_standings.binds (ps:=["tolls","many","laying","wish","r"]) fun _ _ _ _ _ _ us hl=>by obtain ⟨u0,u1,u2,u3,u4,rfl⟩:=us5 hl;rfl
 have eK:Df K mg "_law_standings" aA ["tolls","many","laying","wish","r"] dv _:=⟨F_law_standings,PySem.W.mg_of X G lC,b_law_standings⟩;have F_law_all_meet:=aQ (st:=aV) mU ms mQ;have b_law_all_meet:=F_law_all_meet.binds (ps:=["tolls","many","wish","pebbles"]) fun _ _ _ _ _ _ us hl=>by obtain ⟨u0,u1,u2,u3,rfl⟩:=us4 hl;rfl
 have cF:Df K mg "_law_all_meet" aV ["tolls","many","wish","pebbles"] dN _:=⟨F_law_all_meet,PySem.W.mg_of X G mR,b_law_all_meet⟩;have F_law_drawn:=aQ (st:=bI) rP rL rH;have b_law_drawn:=F_law_drawn.binds (ps:=["script","k"]) fun _ _ _ _ _ _ us hl=>by obtain ⟨u0,u1,rfl⟩:=us2 hl;rfl
 have bR:Df K mg "_law_drawn" bI ["script","k"] c8 _:=⟨F_law_drawn,PySem.W.mg_of X G rp,b_law_drawn⟩;have F_law_small_web:=aQ (st:=aH) lL lS lR;have b_law_small_web:=F_law_small_web.binds (ps:=["script"]) fun _ _ _ _ _ _ us hl=>by obtain ⟨u0,rfl⟩:=us1 hl;rfl
 have eJ:Df K mg "_law_small_web" aH ["script"] dj _:=⟨F_law_small_web,PySem.W.mg_of X G lU,b_law_small_web⟩;have F_law_small_wish:=aQ (st:=aJ) kH kK kF;have b_law_small_wish:=F_law_small_wish.binds (ps:=["script","many"]) fun _ _ _ _ _ _ us hl=>by obtain ⟨u0,u1,rfl⟩:=us2 hl;rfl
 have dM:Df K mg "_law_small_wish" aJ ["script","many"] cU _:=⟨F_law_small_wish,PySem.W.mg_of X G kI,b_law_small_wish⟩;have F_law_whole:=aQ (st:=cw) rK rV rO;have b_law_whole:=F_law_whole.binds (ps:=["number"]) fun _ _ _ _ _ _ us hl=>by obtain ⟨u0,rfl⟩:=us1 hl;rfl
 have iK:Df K mg "_law_whole" cw ["number"] f8 _:=⟨F_law_whole,PySem.W.mg_of X G rT,b_law_whole⟩;have F_check_place:=aQ (st:=bp) nS nK nV;have b_check_place:=F_check_place.binds (ps:=["web","number"]) fun _ _ _ _ _ _ us hl=>by obtain ⟨u0,u1,rfl⟩:=us2 hl;rfl
 have aK:Df K mg "check_place" bp ["web","number"] bD _:=⟨F_check_place,PySem.W.mg_of X G nR,b_check_place⟩;have F_neighbours:=aQ (st:=bN) p9 pC qw;have b_neighbours:=F_neighbours.binds (ps:=["web","a"]) fun _ _ _ _ _ _ us hl=>by obtain ⟨u0,u1,rfl⟩:=us2 hl;rfl
 have gG:Df K mg "neighbours" bN ["web","a"] fx _:=⟨F_neighbours,PySem.W.mg_of X G pW,b_neighbours⟩;have F_kids:=aQ (st:=fA) E7 DU Ep;have b_kids:=F_kids.binds (ps:=["web","place","front"]) fun _ _ _ _ _ _ us hl=>by obtain ⟨u0,u1,u2,rfl⟩:=us3 hl;rfl
 have eS:Df K mg "kids" fA ["web","place","front"] gP _:=⟨F_kids,PySem.W.mg_of X G Ff,b_kids⟩;have F_ahead:=aQ (st:=cG) BO Bg B7;have b_ahead:=F_ahead.binds (ps:=["web","r"]) fun _ _ _ _ _ _ us hl=>by obtain ⟨u0,u1,rfl⟩:=us2 hl;rfl
 have dy:Df K mg "ahead" cG ["web","r"] fj _:=⟨F_ahead,PySem.W.mg_of X G BN,b_ahead⟩;have F_added:=aQ (st:=eG) Bk BJ BT;have b_added:=F_added.binds (ps:=["one","other"]) fun _ _ _ _ _ _ us hl=>by obtain ⟨u0,u1,rfl⟩:=us2 hl;rfl
 have dQ:Df K mg "added" eG ["one","other"] dC _:=⟨F_added,PySem.W.mg_of X G Cd,b_added⟩;have F_idle_kids:=aQ (st:=bh) rS rm rB;have b_idle_kids:=F_idle_kids.binds (ps:=["outlook","place","left_out"]) fun _ _ _ _ _ _ us hl=>by obtain ⟨u0,u1,u2,rfl⟩:=us3 hl;rfl
 have bf:Df K mg "idle_kids" bh ["outlook","place","left_out"] bx _:=⟨F_idle_kids,PySem.W.mg_of X G rZ,b_idle_kids⟩;have F_toll:=aQ (st:=cR) Ee Es Ex;have b_toll:=F_toll.binds (ps:=["web","a","b"]) fun _ _ _ _ _ _ us hl=>by obtain ⟨u0,u1,u2,rfl⟩:=us3 hl;rfl
 have cf:Df K mg "toll" cR ["web","a","b"] df _:=⟨F_toll,PySem.W.mg_of X G ES,b_toll⟩;have F_total:=aQ (st:=fh) Bl Bh Bn;have b_total:=F_total.binds (ps:=["numbers"]) fun _ _ _ _ _ _ us hl=>by obtain ⟨u0,rfl⟩:=us1 hl;rfl
 have b6:Df K mg "total" fh ["numbers"] dA _:=⟨F_total,PySem.W.mg_of X G Cp,b_total⟩;have F_load_by:=aQ (st:=bF) wT wj xq;have b_load_by:=F_load_by.binds (ps:=["outlook","place","kid","room"]) fun _ _ _ _ _ _ us hl=>by obtain ⟨u0,u1,u2,u3,rfl⟩:=us4 hl;rfl
 have gZ:Df K mg "load_by" bF ["outlook","place","kid","room"] g9 _:=⟨F_load_by,PySem.W.mg_of X G xB,b_load_by⟩;have F_greatest_load:=aQ (st:=ay) lB lr lO;have b_greatest_load:=F_greatest_load.binds (ps:=["outlook","place","over"]) fun _ _ _ _ _ _ us hl=>by obtain ⟨u0,u1,u2,rfl⟩:=us3 hl;rfl
 have D_greatest_load:Df K mg "greatest_load" ay ["outlook","place","over"] be _:=⟨F_greatest_load,PySem.W.mg_of X G lG,b_greatest_load⟩;have F_idle_load:=aQ (st:=bQ) rR rj rM;have b_idle_load:=F_idle_load.binds (ps:=["outlook","place","front"]) fun _ _ _ _ _ _ us hl=>by obtain ⟨u0,u1,u2,rfl⟩:=us3 hl;rfl
 have iG:Df K mg "idle_load" bQ ["outlook","place","front"] fY _:=⟨F_idle_load,PySem.W.mg_of X G rY,b_idle_load⟩;have F_down:=aQ (st:=dJ) Ek DN Fs;have b_down:=F_down.binds (ps:=["web","r"]) fun _ _ _ _ _ _ us hl=>by obtain ⟨u0,u1,rfl⟩:=us2 hl;rfl
 have sX:Df K mg "down" dJ ["web","r"] p6 _:=⟨F_down,PySem.W.mg_of X G FD,b_down⟩;have F_inward:=aQ (st:=cJ) zv yU yD;have b_inward:=F_inward.binds (ps:=["web","r"]) fun _ _ _ _ _ _ us hl=>by obtain ⟨u0,u1,rfl⟩:=us2 hl;rfl
 have ft:Df K mg "inward" cJ ["web","r"] f9 _:=⟨F_inward,PySem.W.mg_of X G yG,b_inward⟩;have F_is_filled:=aQ (st:=cD) rQ rg rN;have b_is_filled:=F_is_filled.binds (ps:=["web","numbers"]) fun _ _ _ _ _ _ us hl=>by obtain ⟨u0,u1,rfl⟩:=us2 hl;rfl
 have iE:Df K mg "is_filled" cD ["web","numbers"] f7 _:=⟨F_is_filled,PySem.W.mg_of X G rX,b_is_filled⟩;have F_wish_of:=aQ (st:=cM) wd vQ wu;have b_wish_of:=F_wish_of.binds (ps:=["web","numbers"]) fun _ _ _ _ _ _ us hl=>by obtain ⟨u0,u1,rfl⟩:=us2 hl;rfl
 have eA:Df K mg "wish_of" cM ["web","numbers"] eZ _:=⟨F_wish_of,PySem.W.mg_of X G wV,b_wish_of⟩;have F_needs:=aQ (st:=cN) BX Ct BC;have b_needs:=F_needs.binds (ps:=["web","wish","r"]) fun _ _ _ _ _ _ us hl=>by obtain ⟨u0,u1,u2,rfl⟩:=us3 hl;rfl
 have oO:Df K mg "needs" cN ["web","wish","r"] mM _:=⟨F_needs,PySem.W.mg_of X G BA,b_needs⟩;have F_Outlook___init__:=aQ (st:=ax) jB jm jH;have b_Outlook:=F_Outlook___init__.binds (ps:=["self","web","wish","r"]) fun _ _ _ _ _ _ us hl=>by obtain ⟨u0,u1,u2,u3,rfl⟩:=us4 hl;rfl
 have F_failing:=aQ (st:=cK) wg wK xt;have b_failing:=F_failing.binds (ps:=["web","wish","r"]) fun _ _ _ _ _ _ us hl=>by obtain ⟨u0,u1,u2,rfl⟩:=us3 hl;rfl
 have kQ:Df K mg "failing" cK ["web","wish","r"] jk _:=⟨F_failing,PySem.W.mg_of X G xa,b_failing⟩;have F_is_idle:=aQ (st:=cZ) wE wA wn;have b_is_idle:=F_is_idle.binds (ps:=["web","wish"]) fun _ _ _ _ _ _ us hl=>by obtain ⟨u0,u1,rfl⟩:=us2 hl;rfl
 have eC:Df K mg "is_idle" cZ ["web","wish"] fe _:=⟨F_is_idle,PySem.W.mg_of X G wD,b_is_idle⟩;have F_fails:=aQ (st:=dD) B3 BS Bw;have b_fails:=F_fails.binds (ps:=["web","wish"]) fun _ _ _ _ _ _ us hl=>by obtain ⟨u0,u1,rfl⟩:=us2 hl;rfl
 have oP:Df K mg "fails" dD ["web","wish"] ml _:=⟨F_fails,PySem.W.mg_of X G Ce,b_fails⟩;have F_always:=aQ (st:=dU) zy yY yP;have b_always:=F_always.binds (ps:=["web","wish"]) fun _ _ _ _ _ _ us hl=>by obtain ⟨u0,u1,rfl⟩:=us2 hl;rfl
 have mX:Df K mg "always" dU ["web","wish"] kD _:=⟨F_always,PySem.W.mg_of X G zc,b_always⟩;have F_law:=aQ (st:=cH) IZ IG IB;have b_law:=F_law.binds (ps:=["script"]) fun _ _ _ _ _ _ us hl=>by obtain ⟨u0,rfl⟩:=us1 hl;rfl
 have Q1:Df K mg "law" cH ["script"] fa _:=⟨F_law,PySem.W.mg_of X G DB,b_law⟩;refine ⟨PySem.W.fnOf "law" "law" (aD cH) (az cH) (aa cH) .none Jz KA Ki Km FO KR,fun s v=>.of_eq rfl,fun base _ _=>?_⟩;have II:Mk K T.Web f_Web___init__:=⟨E8,mw,mL,EE⟩;have vZ:Mk K T.Outlook f_Outlook___init__:=⟨tE,jD,jo,uV⟩;have G_check_counts:=AX (P:=l.prog) (w:=w) (base:=base) T aP ff;have G_is_place:=F5 (P:=l.prog) (w:=w) (base:=base) T aP b8;have G_check_ends:=Dl (P:=l.prog) (w:=w) (base:=base) T aP gF b8 G_is_place;have G_other_ends:=Dr (P:=l.prog) (w:=w) (base:=base) T aP cu;have G_check_joined:=z3 (P:=l.prog) (w:=w) (base:=base) T aP fg cu G_other_ends;have G_check_tolls:=BK (P:=l.prog) (w:=w) (base:=base) T aP fL;have G_Web_init:=AE (P:=l.prog) (w:=w) (base:=base) T aP F_Web___init__ ff G_check_counts gF G_check_ends fg G_check_joined fL G_check_tolls;have G_law_tolls:=Ei (P:=l.prog) (w:=w) (base:=base) T aP iJ;have G_law_layings:=Bm (P:=l.prog) (w:=w) (base:=base) T aP D_law_layings;have G_law_down:=Gk (P:=l.prog) (w:=w) (base:=base) T aP jN;have G_law_standings:=yN (P:=l.prog) (w:=w) (base:=base) T aP eK jN G_law_down;have G_law_all_meet:=AL (P:=l.prog) (w:=w) (base:=base) T aP cF D_law_layings G_law_layings eK G_law_standings;have G_law_drawn:=Fw (P:=l.prog) (w:=w) (base:=base) T aP bR;have G_law_small_web:=zw (P:=l.prog) (w:=w) (base:=base) T aP eJ bR G_law_drawn;have G_law_small_wish:=ya (P:=l.prog) (w:=w) (base:=base) T aP dM bR G_law_drawn;have G_law_whole:=E9 (P:=l.prog) (w:=w) (base:=base) T aP iK;have G_check_place:=Ch (P:=l.prog) (w:=w) (base:=base) T aP aK b8 G_is_place;have G_neighbours:=Dw (P:=l.prog) (w:=w) (base:=base) T aP gG aK G_check_place cu G_other_ends;have G_kids:=PB (P:=l.prog) (w:=w) (base:=base) T aP eS gG G_neighbours;have G_ahead:=Ml (P:=l.prog) (w:=w) (base:=base) T aP dy aK G_check_place eS G_kids;have G_added:=Oc (P:=l.prog) (w:=w) (base:=base) T aP dQ;have G_idle_kids:=Eo (P:=l.prog) (w:=w) (base:=base) T aP bf dQ G_added;have G_toll:=OQ (P:=l.prog) (w:=w) (base:=base) T aP cf aK G_check_place;have G_total:=LZ (P:=l.prog) (w:=w) (base:=base) T aP b6;have G_greatest_load:=y3 (P:=l.prog) (w:=w) (base:=base) T aP D_greatest_load gZ dQ G_added bf G_idle_kids cf G_toll b6 G_total;have G_idle_load:=FF (P:=l.prog) (w:=w) (base:=base) T aP iG D_greatest_load G_greatest_load bf G_idle_kids cf G_toll;have G_down:=OF (P:=l.prog) (w:=w) (base:=base) T aP sX dy G_ahead eS G_kids;have G_inward:=JG (P:=l.prog) (w:=w) (base:=base) T aP ft dy G_ahead sX G_down;have G_is_filled:=FG (P:=l.prog) (w:=w) (base:=base) T aP iE;have G_wish_of:=Jg (P:=l.prog) (w:=w) (base:=base) T aP eA iE G_is_filled;have G_needs:=Nt (P:=l.prog) (w:=w) (base:=base) T aP oO ft G_inward cf G_toll eA G_wish_of;have G_Outlook_init:=vE (P:=l.prog) (w:=w) (base:=base) T aP F_Outlook___init__ dy G_ahead iG G_idle_load ft G_inward eS G_kids oO G_needs;have G_failing:=Hu (P:=l.prog) (w:=w) (base:=base) T aP kQ F_Outlook___init__ b_Outlook vZ G_Outlook_init D_greatest_load G_greatest_load;have G_is_idle:=HC (P:=l.prog) (w:=w) (base:=base) T aP eC b6 G_total eA G_wish_of;have G_fails:=Of (P:=l.prog) (w:=w) (base:=base) T aP oP kQ G_failing eC G_is_idle;have G_always:=KS (P:=l.prog) (w:=w) (base:=base) T aP mX oP G_fails eC G_is_idle b6 G_total;have G_law:=Ql (P:=l.prog) (w:=w) (base:=base) T aP Q1 F_Web___init__ b_Web II G_Web_init cF G_law_all_meet eJ G_law_small_web dM G_law_small_wish iJ G_law_tolls iK G_law_whole mX G_always;exact G_law
theorem walk {l:PySem.W.OpenLaw} {q:Program} {loose:List Str} {XP:(Str->Option Value)->Heap->Prop} {YP:World->Heap->Prop} {d:DefRec} {K:Params->PySem.W.Frag} (hn:l.most=some 63) (hdf:d.params.defaults=[])
   (hY:∀ (w:World) (h:Heap),YP w h->(K w.params).In h)
   (F:∀ (w:World) (mg:Str->Option Value) (fa:Addr) (h:Heap),(K w.params).In h->h.Ns mainGlobals mg->mg d.name=some (.ref fa) ->
     ∃ fd:FuncData,(∀ (s:Shared) (u:Value),BindsTo s fd ⟨[u],[]⟩ [("script",u)])/\∀ base:Heap,(K w.params).In base->base.Ns mainGlobals mg->FnOk l.prog w (K w.params) mg base (CXe l.prog w) 61 fa fd ["script"] (DE (K w.params))) :
   PySem.W.WalkO q loose XP YP l.row.toRowW d [] (fun f vs=>PySem.call f vs) :=
 L2.walk_of (n:=63) (k:=61) (x:="script") (CX:=fun w=>(CXe l.prog w)) (sp:=fun w=>DE (K w.params)) hn (by decide) hdf ⟨rfl,by decide,by decide⟩ hY F (fun _ _ a ns hl _ hS=>⟨a,ns,rfl,hS,hl,fun _=>rfl⟩) fun _ _ _ _ _ z=>aP _ _ _ _ _ z
end Pk
open PySem PySem.W PyProof.Rows
set_option maxRecDepth 100000 in
set_option maxHeartbeats 0 in
theorem PySem.Challenge.cw_pebbletoll_k38_always_by_trying_holds : PySem.Challenge.rw_pebbletoll_k38_always_by_trying.Holds := by
 w_on;o_law
 refine PySem.W.holds_open (q:=Hd.qq) (loose:=[]) (Xt:=(fun s=>PySem.W.xlAt Hd.qq [] s && PySem.W.recOk (PySem.W.RowW.records (PySem.W.OpenRow.toRowW (PySem.Challenge.rw_pebbletoll_k38_always_by_trying).row)) s)) (XP:=PySem.W.XL Hd.qq []) (Yf:=PySem.W.Hook.obs (PySem.W.kHook Hd.KK Hd.asK Hd.asK_eq)) (Ya:=PySem.W.Hook.val (PySem.W.kHook Hd.KK Hd.asK Hd.asK_eq)) (YP:=PySem.W.Hook.says (PySem.W.kHook Hd.KK Hd.asK Hd.asK_eq)) (N:=5928) Hd.left (PySem.W.Hook.of (PySem.W.kHook Hd.KK Hd.asK Hd.asK_eq)) (PySem.W.Hook.keeps (PySem.W.kHook Hd.KK Hd.asK Hd.asK_eq)) (fun s e=>PySem.W.xl_of s (Bool.and_eq_true_iff.mp e).1) PySem.W.XL.keeps (by rfl) (by rfl) (by rfl) (fun s e=>PySem.W.recFacts_of (Bool.and_eq_true_iff.mp e).2) (by rfl) (by assumption) (by decide +kernel) ⟨rfl,rfl,rfl,rfl,rfl,by decide +kernel⟩ ?hw ?hc
 (case hw=>w_witness2)
 k_fill
 refine Pk.walk (l:=PySem.Challenge.rw_pebbletoll_k38_always_by_trying) rfl rfl (fun w h Y=>PySem.W.kIn_of Y) ?F
 case F =>
   intro w mg fa h KX G hmg;refine' Pk.all_mk KX G hmg ?p8 ?wC ?uc ?wo ?tZ ?tJ ?FK ?uB ?pT ?pN ?pI ?qd ?pD ?oY ?pd ?ww ?we ?wS ?wv ?wO ?wF ?vN ?oE ?tW ?uw ?tT ?uS ?uZ ?tP ?uP ?tp ?uG ?tD ?qT ?wt ?xb ?wf ?wY ?wN ?wq ?xh ?wZ ?xx ?wJ ?oI ?u7 ?tY ?tL ?tN ?uu ?uI ?uv ?tR ?uq ?uk ?oF ?uR ?uK ?uO ?tU ?t7 ?uJ ?uj ?uW ?tQ ?uH ?xgs ?xtk ?xnd ?mK ?mP ?mt ?mS ?ue ?uo ?uh ?u9 ?qA ?oX ?qh ?qj ?pi ?pQ ?pS ?pB ?mI ?mi ?mG ?mC ?nL ?nJ ?nP ?nW ?mw ?mL ?mz ?mm ?mD ?rA ?rn ?rE ?rC ?nY ?nU ?nI ?n5 ?tF ?ud ?va ?uy ?lC ?lP ?lK ?kZ ?mR ?mU ?ms ?mQ ?rp ?rP ?rL ?rH ?lU ?lL ?lS ?lR ?kI ?kH ?kK ?kF ?rT ?rK ?rV ?rO ?nR ?nS ?nK ?nV ?pW ?p9 ?pC ?qw ?Ff ?E7 ?DU ?Ep ?BN ?BO ?Bg ?B7 ?Cd ?Bk ?BJ ?BT ?rZ ?rS ?rm ?rB ?ES ?Ee ?Es ?Ex ?Cp ?Bl ?Bh ?Bn ?xB ?wT ?wj ?xq ?lG ?lB ?lr ?lO ?rY ?rR ?rj ?rM ?FD ?Ek ?DN ?Fs ?yG ?zv ?yU ?yD ?rX ?rQ ?rg ?rN ?wV ?wd ?vQ ?wu ?BA ?BX ?Ct ?BC ?jD ?jo ?jB ?jm ?jH ?xa ?wg ?wK ?xt ?wD ?wE ?wA ?wn ?Ce ?B3 ?BS ?Bw ?zc ?zy ?yY ?yP ?DB ?IZ ?IG ?IB ?D7 ?EB ?Fe ?Fp ?E8 ?EE ?n_many_Web ?n_roads_Web ?uU ?tK ?tM ?uY ?tE ?uV ?n_web_Outlook ?n_needs_Outlook ?n_kids_Outlook ?n_idle_Outlook ?z_range ?z_zip ?z_len ?z_isinstance ?z_all ?z_int ?z_bool ?z_tuple ?z_list ?z_reversed ?z_sorted ?z_min ?z_enumerate ?z_sum ?v_MOST_PLACES ?v_LEAST_TOLL ?v_MOST_TOLL
   (case p8=>k_is)
   (case wC=>k_is)
   (case uc=>k_is)
   (case wo=>k_is)
   (case tZ=>k_is)
   (case tJ=>k_is)
   (case FK=>k_is)
   (case uB=>k_is)
   (case pT=>k_is)
   (case pN=>rfl)
   (case pI=>k_is)
   (case qd=>k_is)
   (case pD=>k_is)
   (case oY=>k_is)
   (case pd=>k_is)
   (case ww=>k_is)
   (case we=>rfl)
   (case wS=>k_is)
   (case wv=>k_is)
   (case wO=>k_is)
   (case wF=>k_is)
   (case vN=>k_is)
   (case oE=>k_is)
   (case tW=>rfl)
   (case uw=>k_is)
   (case tT=>k_is)
   (case uS=>k_is)
   (case uZ=>k_is)
   (case tP=>k_is)
   (case uP=>rfl)
   (case tp=>kernel_rfl)
   (case uG=>k_is)
   (case tD=>kernel_rfl)
   (case qT=>k_is)
   (case wt=>rfl)
   (case xb=>k_is)
   (case wf=>k_is)
   (case wY=>k_is)
   (case wN=>k_is)
   (case wq=>k_is)
   (case xh=>rfl)
   (case wZ=>kernel_rfl)
   (case xx=>k_is)
   (case wJ=>kernel_rfl)
   (case oI=>k_is)
   (case u7=>rfl)
   (case tY=>k_is)
   (case tL=>k_is)
   (case tN=>k_is)
   (case uu=>k_is)
   (case uI=>k_is)
   (case uv=>rfl)
   (case tR=>kernel_rfl)
   (case uq=>k_is)
   (case uk=>kernel_rfl)
   (case oF=>k_is)
   (case uR=>rfl)
   (case uK=>k_is)
   (case uO=>k_is)
   (case tU=>k_is)
   (case t7=>k_is)
   (case uJ=>k_is)
   (case uj=>rfl)
   (case uW=>kernel_rfl)
   (case tQ=>k_is)
   (case uH=>kernel_rfl)
   (case xgs=>k_is)
   (case xtk=>k_is)
   (case xnd=>decide)
   (case mK=>k_is)
   (case mP=>k_is)
   (case mt=>k_is)
   (case mS=>k_is)
   (case ue=>k_is)
   (case uo=>k_is)
   (case uh=>k_is)
   (case u9=>k_is)
   (case qA=>k_is)
   (case oX=>k_is)
   (case qh=>k_is)
   (case qj=>k_is)
   (case pi=>k_is)
   (case pQ=>k_is)
   (case pS=>k_is)
   (case pB=>k_is)
   (case mI=>k_is)
   (case mi=>k_is)
   (case mG=>k_is)
   (case mC=>k_is)
   (case nL=>k_is)
   (case nJ=>k_is)
   (case nP=>k_is)
   (case nW=>k_is)
   (case mw=>k_is)
   (case mL=>k_is)
   (case mz=>k_is)
   (case mm=>k_is)
   (case mD=>k_is)
   (case rA=>k_is)
   (case rn=>k_is)
   (case rE=>k_is)
   (case rC=>k_is)
   (case nY=>k_is)
   (case nU=>k_is)
   (case nI=>k_is)
   (case n5=>k_is)
   (case tF=>k_is)
   (case ud=>k_is)
   (case va=>k_is)
   (case uy=>k_is)
   (case lC=>k_is)
   (case lP=>k_is)
   (case lK=>k_is)
   (case kZ=>k_is)
   (case mR=>k_is)
   (case mU=>k_is)
   (case ms=>k_is)
   (case mQ=>k_is)
   (case rp=>k_is)
   (case rP=>k_is)
   (case rL=>k_is)
   (case rH=>k_is)
   (case lU=>k_is)
   (case lL=>k_is)
   (case lS=>k_is)
   (case lR=>k_is)
   (case kI=>k_is)
   (case kH=>k_is)
   (case kK=>k_is)
   (case kF=>k_is)
   (case rT=>k_is)
   (case rK=>k_is)
   (case rV=>k_is)
   (case rO=>k_is)
   (case nR=>k_is)
   (case nS=>k_is)
   (case nK=>k_is)
   (case nV=>k_is)
   (case pW=>k_is)
   (case p9=>k_is)
   (case pC=>k_is)
   (case qw=>k_is)
   (case Ff=>k_is)
   (case E7=>k_is)
   (case DU=>k_is)
   (case Ep=>k_is)
   (case BN=>k_is)
   (case BO=>k_is)
   (case Bg=>k_is)
   (case B7=>k_is)
   (case Cd=>k_is)
   (case Bk=>k_is)
   (case BJ=>k_is)
   (case BT=>k_is)
   (case rZ=>k_is)
   (case rS=>k_is)
   (case rm=>k_is)
   (case rB=>k_is)
   (case ES=>k_is)
   (case Ee=>k_is)
   (case Es=>k_is)
   (case Ex=>k_is)
   (case Cp=>k_is)
   (case Bl=>k_is)
   (case Bh=>k_is)
   (case Bn=>k_is)
   (case xB=>k_is)
   (case wT=>k_is)
   (case wj=>k_is)
   (case xq=>k_is)
   (case lG=>k_is)
   (case lB=>k_is)
   (case lr=>k_is)
   (case lO=>k_is)
   (case rY=>k_is)
   (case rR=>k_is)
   (case rj=>k_is)
   (case rM=>k_is)
   (case FD=>k_is)
   (case Ek=>k_is)
   (case DN=>k_is)
   (case Fs=>k_is)
   (case yG=>k_is)
   (case zv=>k_is)
   (case yU=>k_is)
   (case yD=>k_is)
   (case rX=>k_is)
   (case rQ=>k_is)
   (case rg=>k_is)
   (case rN=>k_is)
   (case wV=>k_is)
   (case wd=>k_is)
   (case vQ=>k_is)
   (case wu=>k_is)
   (case BA=>k_is)
   (case BX=>k_is)
   (case Ct=>k_is)
   (case BC=>k_is)
   (case jD=>k_is)
   (case jo=>k_is)
   (case jB=>k_is)
   (case jm=>k_is)
   (case jH=>k_is)
   (case xa=>k_is)
   (case wg=>k_is)
   (case wK=>k_is)
   (case xt=>k_is)
   (case wD=>k_is)
   (case wE=>k_is)
   (case wA=>k_is)
   (case wn=>k_is)
   (case Ce=>k_is)
   (case B3=>k_is)
   (case BS=>k_is)
   (case Bw=>k_is)
   (case zc=>k_is)
   (case zy=>k_is)
   (case yY=>k_is)
   (case yP=>k_is)
   (case DB=>k_is)
   (case IZ=>k_is)
   (case IG=>k_is)
   (case IB=>k_is)
   (case D7=>k_is)
   (case EB=>k_is)
   (case Fe=>k_is)
   (case Fp=>k_is)
   (case E8=>k_is)
   (case EE=>k_is)
   (case n_many_Web=>k_is)
   (case n_roads_Web=>k_is)
   (case uU=>k_is)
   (case tK=>k_is)
   (case tM=>k_is)
   (case uY=>k_is)
   (case tE=>k_is)
   (case uV=>k_is)
   (case n_web_Outlook=>k_is)
   (case n_needs_Outlook=>k_is)
   (case n_kids_Outlook=>k_is)
   (case n_idle_Outlook=>k_is)
   (case z_range=>k_is)
   (case z_zip=>k_is)
   (case z_len=>k_is)
   (case z_isinstance=>k_is)
   (case z_all=>k_is)
   (case z_int=>k_is)
   (case z_bool=>k_is)
   (case z_tuple=>k_is)
   (case z_list=>k_is)
   (case z_reversed=>k_is)
   (case z_sorted=>k_is)
   (case z_min=>k_is)
   (case z_enumerate=>k_is)
   (case z_sum=>k_is)
   (case v_MOST_PLACES=>k_is)
   (case v_LEAST_TOLL=>k_is)
   (case v_MOST_TOLL=>k_is)
#print axioms PySem.Challenge.cw_pebbletoll_k38_always_by_trying_holds